import PyProof.Rows.All
import Wide.All
import OpenK.AllK
import Wide.FinOn
import Lean
import PyProof.EqAt
import PyProof.EqKinds
import PyProof.TupleCall
import PyProof.FString
import OpenK.KOwn
import KE.KTryMore
import PyProof.NsDelKeeps
import PyProof.StrBlock2
import PyProof.AutoListH
import KE.KIntText
import PyProof.Rows.StrIntSpec
import KE.KRevIter
import PyProof.StrWalks
import PyProof.CompUse
import PyProof.NeKinds
import PyProof.Rows.Range3
import PyProof.Rows.EnumRows
import PyProof.ConsumeWalk
import PyProof.Rows.SeqGen
import PyProof.StrLawsRepr
import PyProof.ZipIter
import PyProof.Rows.FactsT2
import PyProof.EnumMake
import PyProof.DictWalks
import PyProof.DictTruth
import PyProof.ListRange
import PyProof.ListStr
import PyProof.TupleOfGen
import PyProof.TupleOfSeq
import PyProof.MinMaxWalk
import PyProof.WalkInts
import KE.KSortAsk
import PyProof.MeetsSeq3
import KE.KRevSl
import PyProof.Rows.SeqMore
import PyProof.ListMulRoad
import PyProof.Rows.SumAny
import PyProof.SeqI3
import PyProof.AttrMissSeq
import KE.KDictOf
import PyProof.Rows.StrCut
import PyProof.Rows.StrSplitCount
import PyProof.DictItems
import PyProof.Rows.SortWalk
import PySem.Challenge.RW_cosetyard_k74_whole_kin
set_option Elab.async false
set_option linter.all false
set_option maxRecDepth 100000
set_option compiler.extract_closed false
set_option compiler.small 0
set_option genSizeOfSpec false
set_option maxHeartbeats 4000000
noncomputable section
namespace EP
def e1{a:Type}(p:a→Prop)(_:Nonempty a):a:=Classical.epsilon λx=>¬p x
theorem E1{a:Type}[i:Nonempty a]{p:a→Prop}(h:p (e1 p i)):∀x,p x:=λx=>Classical.byContradiction λn=>Classical.epsilon_spec (p:=λx=>¬p x) ⟨x,n⟩ h
def x1{a:Type}(p:a→Prop)(_:Nonempty a):a:=Classical.epsilon p
theorem X1{a:Type}[i:Nonempty a]{p:a→Prop}{G:Prop}(h:∃x,p x)(k:p (x1 p i)→G):G:=k (Classical.epsilon_spec h)
theorem X0{a:Sort u}{p:a→Prop}{G:Prop}(h:∃x,p x)(k:∀x,p x→G):G:=h.elim k
theorem AN{A B G:Prop}(h:A∧B)(k:A→B→G):G:=k h.1 h.2
def e2{a b:Type}(p:a→b→Prop)(i:Nonempty (a×b)):a×b:=e1 (λt=>p t.1 t.2) i
theorem E2{a b:Type}[i:Nonempty (a×b)]{p:a→b→Prop}(h:p (e2 p i).1 (e2 p i).2):∀r s,p r s:=λr s=>E1 (p:=λt:a×b=>p t.1 t.2) h (r,s)
def e3{a b c:Type}(p:a→b→c→Prop)(i:Nonempty (a×b×c)):a×b×c:=e1 (λt=>p t.1 t.2.1 t.2.2) i
theorem E3{a b c:Type}[i:Nonempty (a×b×c)]{p:a→b→c→Prop}(h:p (e3 p i).1 (e3 p i).2.1 (e3 p i).2.2):∀r s t,p r s t:=λr s t=>E1 (p:=λt:a×b×c=>p t.1 t.2.1 t.2.2) h (r,s,t)
def e4{a b c d:Type}(p:a→b→c→d→Prop)(i:Nonempty (a×b×c×d)):a×b×c×d:=e1 (λt=>p t.1 t.2.1 t.2.2.1 t.2.2.2) i
theorem E4{a b c d:Type}[i:Nonempty (a×b×c×d)]{p:a→b→c→d→Prop}(h:p (e4 p i).1 (e4 p i).2.1 (e4 p i).2.2.1 (e4 p i).2.2.2):∀r s t u,p r s t u:=λr s t u=>E1 (p:=λt:a×b×c×d=>p t.1 t.2.1 t.2.2.1 t.2.2.2) h (r,s,t,u)
def e8{a b c d e f g h:Type}(p:a→b→c→d→e→f→g→h→Prop)(i:Nonempty (a×b×c×d×e×f×g×h)):a×b×c×d×e×f×g×h:=e1 (λt=>p t.1 t.2.1 t.2.2.1 t.2.2.2.1 t.2.2.2.2.1 t.2.2.2.2.2.1 t.2.2.2.2.2.2.1 t.2.2.2.2.2.2.2) i
theorem E8{a b c d e f g h:Type}[i:Nonempty (a×b×c×d×e×f×g×h)]{p:a→b→c→d→e→f→g→h→Prop}(H:p (e8 p i).1 (e8 p i).2.1 (e8 p i).2.2.1 (e8 p i).2.2.2.1 (e8 p i).2.2.2.2.1 (e8 p i).2.2.2.2.2.1 (e8 p i).2.2.2.2.2.2.1 (e8 p i).2.2.2.2.2.2.2):∀r s t u v w x y,p r s t u v w x y:=λr s t u v w x y=>E1 (p:=λt:a×b×c×d×e×f×g×h=>p t.1 t.2.1 t.2.2.1 t.2.2.2.1 t.2.2.2.2.1 t.2.2.2.2.2.1 t.2.2.2.2.2.2.1 t.2.2.2.2.2.2.2) H (r,s,t,u,v,w,x,y)
end EP
def YL'(s:String):List (String×String):=(s.splitOn "%").map λx=>match x.splitOn "&" with|[a,b]=>(a,b)|_=>("","")
def YT'(a:Array Lean.Syntax)(t:String):Lean.Syntax:=let r:=String.ofList t.toList.tail;if t="_"then Lean.mkHole .missing else if t="Prop"then .node .none ``Lean.Parser.Term.prop #[Lean.mkAtom t]else if t.front='\''then Lean.mkAtom r else if t.front='#'then a[r.toNat!]!else if t.front.isDigit then Lean.Syntax.mkNumLit t else Lean.mkIdent (t.splitOn "."|>.foldl .str .anonymous)
def YF'(a:Array Lean.Syntax)(p:List (Array Lean.Syntax)×String):List (Array Lean.Syntax)×String:=match p with|(x::r,t)=>if t=""then p else(x.push (YT' a t)::r,"")|_=>p
def YA'(a:Array Lean.Syntax):Lean.Syntax:=if a.size=1 then a[0]!else .node .none ``Lean.Parser.Term.app #[a[0]!,Lean.mkNullNode (a.extract 1 a.size)]
def YB'(a:Array Lean.Syntax):Lean.Syntax:=let k:=a[0]!.getId;let r:=a.extract 1 a.size;if k=`b then .node .none ``Lean.Parser.Term.byTactic #[Lean.mkAtom "by",.node .none ``Lean.Parser.Tactic.tacticSeq #[.node .none ``Lean.Parser.Tactic.tacticSeq1Indented #[Lean.mkNullNode r]]]else .node .none (((k.replacePrefix `T `Lean.Parser.Term).replacePrefix `t `Lean.Parser.Tactic).replacePrefix `n `null) r
def YP'(f:Array Lean.Syntax→Lean.Syntax)(p:List (Array Lean.Syntax)×String):List (Array Lean.Syntax)×String:=match p with|(x::y::r,_)=>(y.push (f x)::r,"")|p=>p
def Y0'(a:Array Lean.Syntax)(s:String):Lean.Syntax:=YA' (YF' a (s.foldl (λp c=>if c=' 'then YF' a p else if p.2.front='\''then(p.1,p.2.push c)else if c='('||c='{'then(#[]::(YF' a p).1,"")else if c=')'then YP' YA' (YF' a p)else if c='}'then YP' YB' (YF' a p)else(p.1,p.2.push c)) ([#[]],""))).1.head!
def YM'(t:List (String×String)):Lean.Name→Lean.Name|.str p s=>(match t.lookup s with|some v=>v.splitOn "."|_=>[s]).foldl .str (YM' t p)|n=>n
def YS'(x:Array Lean.Syntax):Lean.Syntax:=Lean.Syntax.mkSep x (Lean.mkAtom ",")
def YC'(x:Array Lean.Syntax):Lean.Syntax:=Y0' #[YS' (x.flatMap λe=>match e.isNatLit? with|some n=>(toString n).toList.toArray.map λc=>Y0' #[] ["_","rfl","{b {t.first 'first {n {group '| {t.tacticSeq {t.tacticSeq1Indented {n {t.lia 'lia {t.optConfig {n}}}}}}} {group '| {t.tacticSeq {t.tacticSeq1Indented {n {t.omega 'omega {t.optConfig {n}}}}}}}}}}","{b {t.decide 'decide {t.optConfig {n {t.configItem {t.posConfigItem '+ kernel}}}}}}","{T.syntheticHole '? '_ }"][c.toNat-49]!|_=>#[e])] "{T.anonymousCtor '⟨ #0 '⟩ }"
def YV':Nat→Lean.Syntax→Lean.Syntax
|0,s=>s
|n+1,s=>if s.isIdent then Y0' #[s] "{t.rcasesPat.one #0}"else if s.isOfKind ``Lean.Parser.Term.anonymousCtor then Y0' #[YS' (s[1].getSepArgs.map λe=>Y0' #[YV' n e] "{t.rcasesPatLo {t.rcasesPatMed {n #0}} {n}}")] "{t.rcasesPat.tuple '⟨ #0 '⟩ }"else Y0' #[] "{t.rcasesPat.ignore '_ }"
def YO'(p e:Lean.Syntax):Lean.Syntax:=Y0' #[YV' 9 p,e] "{t.obtain 'obtain {n {t.rcasesPatMed {n #0}}} {n} {n ':= {n #1}}}"
def YR'(x:Lean.Syntax):Lean.Syntax:=if x.getId=`rfl then Lean.mkIdent (.num `r (x.getPos?.getD 0).byteIdx)else x
def YH':Nat→Lean.Syntax→Array Lean.Syntax
|0,_=>#[]
|n+1,s=>if s.getId=`rfl then#[YR' s]else s.getArgs.flatMap (YH' n)
def YQ'(e:Lean.Syntax):Lean.Syntax:=if e.isNatLit?.isSome then Y0' #[e] "(L2.pv #0)"else e
abbrev Y':=Lean.Syntax
def EQ'(s:Y')(k:String):Bool:=s.isOfKind ("Lean.Parser."++k).toName
def EB'(x:Y'):Bool:=x.isIdent&&x.getId != `rfl||EQ' x "Term.hole"
def EN'(x:Y'):Y':=if x.isIdent then x else Lean.mkIdent `ω
def ES'(a:List Y'):Y':=Y0' #[.mkSep a.toArray (Lean.mkAtom ";")] "{t.paren '( {t.tacticSeq {t.tacticSeq1Indented #0}} ') }"
def EF'(a:List Y'):Y':=Y0' #[Lean.mkNullNode (a.toArray.map λx=>Y0' #[x] "{group '| {t.tacticSeq {t.tacticSeq1Indented {n #0}}}}")] "{t.first 'first #0}"
def ER'(a:Array Y')(e:String):Y':=Y0' a ("{t.refine 'refine {T.noImplicitLambda 'no_implicit_lambda% (EP."++e++" {T.syntheticHole '? '_ })}}")
def EG'(a:List (Y'×Y')):Y':=Y0' #[YS' (a.toArray.map λ(c,x)=>Y0' #[c,EN' x] "{t.generalizeArg {n} #0 '= #1}")] "{t.generalize 'generalize #0 {n}}"
def EJ'(x:Y'):Y':=Y0' #[EN' x] "{t.intro 'intro {n #0}}"
def EK'(k:Nat)(l:List Y'):List Y':=let c:=Y0' #[] s!"(EP.e{k} _ _)";let y:=Lean.mkIdent `γ;ER' #[] s!"E{k}"::if k=1 then[EG' [(c,l.head!)]]else[EG' [(c,y)],EG' ((l.take k).zipIdx.map λ(x,j)=>(let r:=j.repeat (λr=>Y0' #[r] "(Prod.snd #0)") y;if j+1<k then Y0' #[r] "(Prod.fst #0)"else r,x))]
def EI'(x:Y'):Y':=EF' [ES' (EK' 1 [x]),EJ' x]
def EL'(f:Y'→Y')(l:List Y'):Y':=EF' (([8,4,3,2].filter (·≤(l.takeWhile EB').length)).map (λk=>ES' (EK' k l++(l.drop k).map f))++[ES' (l.map f)])
def EM'(p:Y'):Y':=let p:=if EQ' p "Tactic.rcasesPatLo"&&p[1].isNone then p[0]else p;let p:=if EQ' p "Tactic.rcasesPatMed"&&p[0].getNumArgs=1 then p[0][0]else p;if EQ' p "Tactic.rcasesPat.one"then p[0]else if EQ' p "Tactic.rcasesPat.ignore"then Lean.mkIdent `ω else p
def EC'(e:Y')(f:Y'→Y'):List Y'→List Y'
|[p]=>[f p]
|p::q=>let y:=Lean.mkIdent `ξ;[Y0' #[e] "{t.refine 'refine (Or.elim #0 {T.syntheticHole '? '_ } {T.syntheticHole '? '_ })}",f p,Y0' #[] "{t.rotateLeft 'rotate_left {n 1}}"]++(if q.length=1 then[]else[EJ' y])++EC' y f q++[Y0' #[] "{t.rotateRight 'rotate_right {n 1}}"]
|[]=>[]
def EZ'(f:Y'→Y'→Y')(p:Y'):Y':=let q:=EM' p;let y:=Lean.mkIdent `ρ;if EB' q then EI' q else if EQ' q "Tactic.rcasesPat.tuple"&&q[1].getNumArgs>2 then ES' [EJ' y,f y q]else Y0' #[q] ("{t.rintro 'rintro {n {t.rintroPat.one "++(if q.isIdent then"{t.rcasesPat.one #0}"else if EQ' q "Tactic.rcasesPatMed"then"{t.rcasesPat.paren '( {t.rcasesPatLo #0 {n}} ') }"else"#0")++"}} {n}}")
def EO':Nat→Y'→Y'→Y'
|0,_,p=>p
|n+1,e,t=>let f:=EZ' (EO' n);let ps:=t[1].getSepArgs.toList.map EM';let R:=match ps.tail with|[q]=>f q|q=>ES' [EJ' (Lean.mkIdent `ρ),EO' n (Lean.mkIdent `ρ) (t.setArg 1 (YS' q.toArray))];let g:=if e.isIdent then[Y0' #[e] "{t.tacticTry_ 'try {t.tacticSeq {t.tacticSeq1Indented {n {t.clear 'clear {n #0}}}}}}"]else[];let x:=ps.head!;EF' ((if EB' x then[ES' ([ER' #[e] "X1 #0"]++g++[EG' [(Y0' #[] "(EP.x1 _ _)",x)],R])]else[])++[ES' ([ER' #[e] "AN #0"]++g++[f x,R])]++(if EB' x then[ES' ([ER' #[e] "X0 #0"]++g++[EJ' x,R])]else[])++(if ps.getLast!.getId=`ω then[]else[ES' ([Y0' #[e] "{t.refine 'refine ({T.proj #0 '. casesOn} {T.syntheticHole '? '_ })}"]++g++[EL' f ps])]))
def EH':Nat→Y'→Bool
|0,_=>false
|n+1,s=>EQ' s "Term.syntheticHole"||!EQ' s "Term.byTactic"&&s.getArgs.any (EH' n)
def EU'(s:Y'):Bool:=EQ' s "Term.fun"&&EQ' s[1] "Term.basicFun"&&s[1][1].isNone&&s[1][0].getArgs.all EB'
def EA':Nat→Y'→Nat→Y'×Nat×List (Nat×Y')
|0,s,k=>(s,k,[])
|n+1,s,k=>if EQ' s "Term.syntheticHole"then(s,k+1,[])else if EQ' s "Term.byTactic"then(s,k,[])else if EU' s&&EH' 40 s[1][3]then(Y0' #[] "{T.syntheticHole '? '_ }",k+1,[(k,s[1])])else let(a,m,l):=s.getArgs.foldl (λ(a,m,l) x=>let(t,m,q):=EA' n x m;(a.push t,m,l++q)) (#[],k,[]);(if a.isEmpty then s else s.setArgs a,m,l)
def EE':Nat→Y'→List Y'×Nat
|0,_=>([],0)
|n+1,t=>let(e,m,l):=EA' 40 t 0;let(u,c):=l.foldl (λ(u,c)(j,b)=>let(v,d):=if EQ' b[3] "Term.syntheticHole"then([],1)else EE' n b[3];let k:=Lean.Syntax.mkNumLit (toString (j+c));let v:=EL' EI' b[0].getArgs.toList::v;(u++(if j+c=0 then v else Y0' #[k] "{t.rotateLeft 'rotate_left {n #0}}"::v++[Y0' #[k] "{t.rotateRight 'rotate_right {n #0}}"]),c+d-1)) ([Y0' #[e] "{t.refine 'refine #0}"],0);(u,m+c)
def ED'(l e:List Y')(q:Y'):Y':=if l=[]||q[0][0].getNumArgs<2 then q else q.setArg 0 (q[0].setArg 0 (Lean.mkNullNode (#[EF' [ES' ([Y0' #[Lean.mkNullNode l.toArray] "{t.revert 'revert #0}",EL' EI' (l++e)]++if e=[]then[Y0' #[] "{t.set_option 'set_option tactic.hygienic {n} 'false 'in {t.tacticSeq {t.tacticSeq1Indented {n {t.intros 'intros {n}}}}}}"]else[]),Y0' #[] "{t.skip 'skip}"],Lean.mkNullNode]++q[0][0].getArgs)))
def EX':Nat→Y'→List Y'
|0,_=>[]
|n+1,s=>if EB' s&&s.isIdent then[s]else s.getArgs.toList.flatMap (EX' n)
def EY'(a:Y')(t:Y'):Y':=let r:=EM' t;if EQ' r "Tactic.rcasesPat.tuple"&&r[1].getNumArgs>2 then EO' 60 a r else if EQ' r "Tactic.rcasesPatMed"then ES' (EC' a (EZ' (EO' 60)) r[0].getSepArgs.toList)else .missing
def EW'(s:Y'):Y':=s.rewriteBottomUp λs=>let o:=λ(x:Y')=>EF' [x,s];
if EU' s&&EQ' s[1][3] "Term.byTactic"&&EQ' s[1][3][1][0] "Tactic.tacticSeq1Indented"then let b:=s[1][3];b.setArg 1 (b[1].setArg 0 (b[1][0].setArg 0 (Lean.mkNullNode (#[EL' EI' s[1][0].getArgs.toList,Lean.mkNullNode]++b[1][0][0].getArgs))))
else if EQ' s "Tactic.intro"&&s[1].getNumArgs>0&&s[1].getArgs.all EB' then EL' EI' s[1].getArgs.toList
else if EQ' s "Tactic.refine"then let(u,_):=EE' 20 s[1];if u.length<2 then s else o (ES' u)
else if EQ' s "Tactic.rintro"&&s[2].isNone&&s[1].getArgs.all (EQ' · "Tactic.rintroPat.one")then o (EL' (EZ' (EO' 60)) (s[1].getArgs.toList.map (EM' ·[0])))
else if EQ' s "Tactic.obtain"&&s[3].getNumArgs>0 then let e:=s[3][1][0];let x:=EY' (if s[2].isNone then e else Y0' #[e,s[2][1]] "({T.explicit '@ id} #1 #0)") s[1][0];if x.isMissing then s else o x
else if EQ' s "Tactic.rcases"&&s[1].getNumArgs=1&&s[1][0][0].isNone&&s[2].getNumArgs>0 then let x:=EY' s[1][0][1] s[2][1];if x.isMissing then s else o x
else if EQ' s "Tactic.cases"||EQ' s "Tactic.induction"then let k:=if EQ' s "Tactic.cases"then 3 else 4;if s[k].getNumArgs=0 then s else s.setArg k (s[k].setArg 0 (s[k][0].setArg 2 (Lean.mkNullNode (s[k][0][2].getArgs.map λa=>if a[1].getNumArgs=2 then a.setArg 1 (a[1].setArg 1 (ED' (a[0].getArgs.toList.flatMap λl=>EX' 20 (Lean.mkNullNode (l.getArgs.extract 2 l.getNumArgs))) (EX' 9 s[1][0][0]) a[1][1]))else a))))
else if EQ' s "Tactic.lia"then Y0' #[] "{t.lia 'lia {t.optConfig {n {t.configItem {t.negConfigItem '- abstractProof}}}}}"
else if EQ' s "Term.matchAlt"then s.setArg 3 (if EQ' s[3] "Tactic.tacticSeq"then ED' (EX' 20 s[1]) [] s[3]else s[3])
else s
def YI'(t u:List (String×String))(m:Nat):Nat→Lean.Syntax→Lean.Syntax
|0,s=>s
|n+1,s=>s.rewriteBottomUp λs=>if s.isIdent then let i:=s.getId;if i.hasMacroScopes then s.setInfo .none else let v:=(t.lookup (i.toString (escape:=false))).getD "";if v.front=' 'then YI' t u m n (Y0' #[] v)else if v.front='"'then Lean.Syntax.mkStrLit (String.ofList v.toList.tail)else let k:=YM' t i;if k=`rfl then Lean.mkIdentFrom s k else Lean.mkIdent k else
let a:=s.getArgs;let d:=s.setInfo .none;if a.isEmpty then d else let k:=s.getKind.toString (escape:=false)
if let some v:=u.lookup k then Y0' a v else if k="null"then d
else if k="Lean.Parser.Term.app"then let z:=s[1].getArgs.flatMap λa=>match[`β,`γ,`δ].idxOf? a.getId with|some n=>.replicate (n+2) (Lean.mkHole .missing).raw|_=>#[a];if s[0].isOfKind ``Lean.Parser.Term.app then s[0].setArg 1 (Lean.mkNullNode (s[0][1].getArgs++z))else s.setArg 1 (Lean.mkNullNode z)
else if k="choice"then(a.find? (·.isOfKind ``Lean.Parser.Term.anonymousCtor)).getD s
else if k="Lean.Parser.Term.anonymousCtor"then YC' s[1].getSepArgs
else if k="term{_}"then let x:=s[1].getSepArgs;if x.size=1&&x[0]!.isOfKind ``Lean.Parser.Term.anonymousCtor then let y:=x[0]![1].getSepArgs;y.pop.foldr (λe r=>Y0' #[e,r] "(L2.ai #0 #1)") (Y0' #[y.back!] "(L2.au #0)")else YC' x
else if k="Lean.Parser.Tactic.tacticErw___"then Y0' #[YC' ((s[2][1].getSepArgs.map (·[1])).push (Y0' #[] "{T.syntheticHole '? '_ }")),d] "{t.first 'first {n {group '| {t.tacticSeq {t.tacticSeq1Indented {n {t.refine 'refine #0}}}}} {group '| {t.tacticSeq {t.tacticSeq1Indented {n #1}}}}}}"
else if k="Lean.Parser.Tactic.tacticRwa__"then let x:=s[1][1].getSepArgs.map (·[1]);Y0' #[if x.size=1&&x[0]!.isNatLit?.isNone then x[0]!else YC' x,d] "{t.first 'first {n {group '| {t.tacticSeq {t.tacticSeq1Indented {n {t.refine 'refine #0}}}}} {group '| {t.tacticSeq {t.tacticSeq1Indented {n #1}}}}}}"
else if k="Lean.Parser.Tactic.tacticLet__"then let d:=s[2][0];let p:=d[0];if d.isOfKind ``Lean.Parser.Term.letPatDecl&&p.isOfKind ``Lean.Parser.Term.anonymousCtor then(if m=2||p[1].getSepArgs.size<3 then YO' p d[4]else Y0' #[Lean.Syntax.mkSep (#[Y0' #[] "{t.refine 'refine (_root_.GL {T.syntheticHole '? '_ })}",Y0' #[] "{t.intro 'intro {n y'y}}",YO' (p.rewriteBottomUp YR') d[4],Y0' #[] "{t.subst 'subst {n y'y}}"]++(YH' 9 p).map (YO' (Lean.mkIdent `rfl) ·)) (Lean.mkAtom ";")] "{t.paren '( {t.tacticSeq {t.tacticSeq1Indented #0}} ') }")else Y0' a "{t.tacticHave__ 'have #1 #2}"
else if k="Lean.Parser.Term.letPatDecl"then(if s[0].isOfKind `«term[_]» then s.setArg 0 (YC' s[0][1].getSepArgs)else d)
else if k="term_^_"then(if s[2].isNatLit?.isSome then d else Y0' a "(#0 _ _ #2)")
else if k="Vector.term#v[_,]"then Y0' #[YS' (s[1].getSepArgs.map λe=>if e.isOfKind ``Lean.Parser.Term.dotIdent||e[0].isOfKind ``Lean.Parser.Term.dotIdent then Y0' #[e] "(some #0)"else e)] "{term[_] '[ #0 '] }"
else if k="Lean.Parser.Term.subst"&&s[0].isOfKind `«term[_]» then Y0' #[YS' (s[0][1].getSepArgs.map λe=>if e.isOfKind `«term-_» then Y0' #[e[1]] "{t.rwRule {n '← } #0}"else Y0' #[e] "{t.rwRule {n} #0}"),s[2][0]] "{b {t.rwSeq 'rw {t.optConfig {n}} {t.rwRuleSeq '[ #0 '] } {n}} '; {t.exact 'exact #1}}"
else if k="Lean.Elab.Tactic.Ext.ext"then(if s[1].getNumArgs=0 then Y0' #[d] "{t.first 'first {n {group '| {t.tacticSeq {t.tacticSeq1Indented {n {t.lia 'lia {t.optConfig {n}}}}}}} {group '| {t.tacticSeq {t.tacticSeq1Indented {n {t.omega 'omega {t.optConfig {n}}}}}}} {group '| {t.tacticSeq {t.tacticSeq1Indented {n #0}}}}}}"else Y0' #[s[1][0][0][0],d] "{t.first 'first {n {group '| {t.tacticSeq {t.tacticSeq1Indented {n {t.cases 'cases {n {t.elimTarget {n} #0}} {n} {n}}}}}} {group '| {t.tacticSeq {t.tacticSeq1Indented {n #1}}}}}}")
else if k="Lean.Parser.Tactic.cases"&&s[1][0][0].getNumArgs>0&&s[3].getNumArgs=0 then Y0' #[s[1][0][0][0][0],s[1][0][1],d] "{t.first 'first {n {group '| {t.tacticSeq {t.tacticSeq1Indented {n {tacticBy_cases_:_ 'by_cases {n #0 ': } #1}}}}} {group '| {t.tacticSeq {t.tacticSeq1Indented {n #2}}}}}}"
else if k="Lean.Parser.Tactic.change"&&s[1].isOfKind `«term_=_»&&s[1][2].isIdent then Y0' #[s[1][0],s[1][2],s[2],d] "{t.first 'first {n {group '| {t.tacticSeq {t.tacticSeq1Indented {n {t.generalize 'generalize {n {t.generalizeArg {n} #0 '= #1}} #2}}}}} {group '| {t.tacticSeq {t.tacticSeq1Indented {n #3}}}}}}"
else if k="Lean.Parser.Term.explicit"then(if s[1].isOfKind ``Lean.Parser.Term.proj&&s[1][1].isToken ".."then s.setArg 1 s[1][0]else Y0' a "{T.proj #1 '.. length}")
else if k="Lean.Parser.Term.syntheticHole"&&s[1].isIdent then Y0' a "({T.dotIdent '. ref} #1)"
else if m=0 then d
else if k="term#[_,]"then s[1].getSepArgs.foldr (λe r=>Y0' #[YQ' e,r] "(L2.ae #0 #1)") (Y0' #[] "L2.ah")
else if k="Lean.Parser.Term.tuple"&&s[1].getNumArgs=0 then YC' #[Lean.Syntax.mkNumLit "2224244"]
else if k="term_&&&_"then Y0' #[YQ' s[0],YQ' s[2]] "(L2.aM L2.cI #0 #1 {T.fun 'λ {T.basicFun {n _ _} {n} '=> rfl}})"
else if k="term_|||_"then Y0' #[YQ' s[0],YQ' s[2]] "(L2.aM L2.aU #0 #1 {T.fun 'λ {T.basicFun {n _ _} {n} '=> rfl}})"
else if k="term_<<<_"then Y0' #[YQ' s[0]] (if s[2].isNatLit?=some 0 then"(L2.aT L2.aP rfl T.bY PySem.boot_len (L2.ae #0 L2.ah))"else"(L2.aI #0 rfl)")
else d
local macro_rules(kind:=Lean.Parser.Command.declaration)|x=>do if (x.getPos? true).isNone then throw .unsupportedSyntax else if x[1].isOfKind ``Lean.Parser.Command.example then return Lean.mkNullNode (x[1][2][1][1].getArgs.map λi=>Y0' #[i] "{Lean.Parser.Command.declaration {Lean.Parser.Command.declModifiers {n} {n} {n} {n} {n} {n} {n}} {Lean.Parser.Command.definition 'def {Lean.Parser.Command.declId #0 {n}} {Lean.Parser.Command.optDeclSig {n} {n}} {Lean.Parser.Command.declValSimple ':= Nat {Lean.Parser.Termination.suffix {n} {n}} {n}} {n}}}")else let f:=x[1][2][0].getArgs.map (·[1][0].getId)=#[`T]&&EQ' x[1][3][1] "Term.byTactic";let r:=YI' (YL' "ε&none%η&Nat%θ&List%ι&some%ν&trans%ο& Prop%π&Int%ρ&true%ς&false%τ&heap%υ&int%χ&toArray%ψ&upd%ω&lookup%Α&inl%Β&base%Γ&PySem%Δ&this%Ε&sizeLine%Ζ&FuncData%Η&Value%Θ&start%Ι&builtin%Κ&map%Λ&Builtin%Μ&same%Ν&lst%Ξ&scope%Ο&starEach%Ρ&absurd%Τ&symm%Υ&size%Φ&toNat%Χ&take%Ψ&outer%Ω&word%À&prog%Á&Nodup%Â&type%Ã&items%Ä&natAbs%Å&fields%Æ&toks%Ç&inr%È&cons%É&ref%Ê&replicate%Ë&pend%Ì&flatten%Í&Program%Î&pins%Ï&keep%Ð&False%Ñ&Str%Ò&tup%Ó&wpAny%Ô&rules%Õ&findIn%Ö&filter%Ø&Good%Ù&front%Ú&push%Û&Heap%Ü&elim%Ý&typeIs%Þ&walk%ß&Around%à&World%á&getD%â&Attribute%ã&Bool%ä&Vals%å&eval%æ&hlen%ç&joined%è&isEmpty%é&setIfInBounds%ê&data%ë&sysModules%ì&RelV%í&takeIn%î&isList%ï&ints_app%ð&come%ñ&model%ò&lists%ó&fresh%ô&rawInt%õ&objs%ö&Name%ø&mainGlobals%ù&dict%ú&putK%û&name%ü&length%ý&foldedSetIterable%þ&True%ÿ&PyProof%Ā&qual%ā&drop%Ă&Option%ă&foldl%Ą&extBut%ą&handled%Ć&toList%ć&locals%Ĉ&kindOf%ĉ&backTo%Ċ&TabAt%ċ&snoc%Č&pure%č&slots%Ď&stand%ď&keywordEach%Đ&attributeBase%đ&meet%Ē&emptyDict%ē&compareOp%Ĕ&firstArgMember%ĕ&binaryOp%Ė&Array%ė&SameBut%Ę&make%ę&Expr%Ě&tuple%ě&isSome%Ĝ&String%ĝ&dropLast%Ğ&call%ğ&found%Ġ&TypeIs%ġ&Call%Ģ&grown%ģ&looks_findIn%Ĥ&list%ĥ&flatMap%Ħ&iter%ħ&bool%Ĩ&same_none%ĩ&mapFields%Ī&behindInMarks%ī&rest%Ĭ&keepIn%ĭ&apos%Į&keeps%į&MDef%İ&units%ı&step%Ĳ&params%ĳ&SeqAt%Ĵ&Looks%ĵ&ListComp%Ķ&swapsWith%ķ&reverse%ĸ&instObj%Ĺ&hasDictIn%ĺ&FunFrames%Ļ&DictEntry%ļ&Classical%Ľ&update%ľ&kitOne%Ŀ&zero%ŀ&set_list%Ł&refl%ł&more%Ń&backToKw%ń&Tuple%Ņ&pyNext%ņ&kept%Ň&excAttr_ValueError%ň&SmallTypes%ŉ&sliceBounds%Ŋ&imp%ŋ&wpAny_pyIter_slot%Ō&value%ō&listExtendWith%Ŏ&cells%ŏ&bootBuiltins%Ő&Pairwise%ő&NameKind%Œ&Later%œ&Constant%Ŕ&AllBare%ŕ&Stmt%Ŗ&Part%ŗ&IsTup%Ř&typeIs_int%ř&drop_cons%Ś&Subscript%ś&IsListIter%Ŝ&EqNone%ŝ&andThen%Ş&IsTuple%ş&ExceptHandler%Š&sizeLine_eq%š&plainGet%Ţ&ofString%ţ&function%Ť&cLine%ť&Nonempty%Ŧ&IsTupleIter%ŧ&succ%Ũ&envOfC%ũ&Scope%Ū&getItem%ū&Each%Ŭ&mapSeq%ŭ&laid%Ů&append%ů&DictOf%Ű&Binds%ű&get%Ų&rfl%ų& Txt K mg A%Ŵ& Inv X Î σ H s%ŵ& cp aos aox aoy bI%Ŷ& M24.bB (bQ S)%ŷ&\"tuple%Ÿ&\"BaseException.__getattribute__%Ź& aoo _%ź& c0 (cS P w) P w K mg Β%Ż&\"self%ż&\"list%Ž& max x y%ž& bO aoB Ų%ſ& aD C H r S a%ϊ&\"object.__class__%ϋ&\"_law_products_here%ό&\"room%ύ&\"enumerate%ώ& cy (pv 0)%Ϗ& cN CG CC H x r c gs ag W hd fp O%ϐ&\"__init__%ϑ& aJ cO (aJ df (pv 1) ak) ak%ϒ& bB f k%ϓ&\"letters%ϔ&\"rooms%ϕ& ź N Ā Ξ f cd A%ϖ& kl β%ϗ& Inv X%Ϙ& pm (pv 0) (aV T)%ϙ&\"object.__setattr__%Ϛ& fnOf x x (eB st) (di st) (aB st)%ϛ&\"getset_descriptor.__get__%Ϝ&\"step%ϝ& RS.new L%Ϟ& Sum.Α s%ϟ&\"object.__init__%Ϡ&\"__debug__%ϡ& min x y%Ϣ& θ Zh%ϣ&\"_law_script%Ϥ& ñ À w%ϥ& M11.pl z%Ϧ&\"_law_found%ϧ&\"reversed%Ϩ&\"BaseException%ϩ&\"word%Ϫ&\"dict_keyiterator%ϫ&\"ValueError.__new__%Ϭ& M18.fill Im%ϭ& cw I q%Ϯ&\"_law_number%ϯ& Ο es X.env%ϰ& S.way c%ϱ&\"start%ϲ&\"dict%ϳ& M11.aS n%ϴ& cS P w%ϵ& aqE m.Β m.few m.line apP%Ϸ& aB st%ϸ& eI P w H h%Ϲ&\"_law_groups_here%Ϻ& ψ H a%ϻ& sv S g.which g.Ω g.Θ g.first%Q1& ao H%Q2& aow _%Q3& eV H k D E S%Q4&\"rules%QU&\"__setattr__%QE& iu X x fns ixs Ξ cl%QA& ax e%WJ& fq s.τ d es ep%WE&\"list_iterator%WA& ψ H p%WF& dC Ų T.dm%WI&\"dict_itemiterator%WP& fJ X Î σ H' x C dx s%WS&\"which%We&\"table%Wl&\"_law_home%Wp& pm (pv 0) (aO T)%YU&\"__getattribute__%YO& XO x A.bA (ι d) ρ%YE& ϕ Ψ s H%YA& eM f x (ϒ 0 n)%YI&\"other%XV& ϗ a b H%XL& ao H I%XN& aoW (aoL e) I.ok.above%JJ& a9 k6 (pv 2) cW (bq _)%JU& aoD _%JO& Mv rs ps L D g x%JE& aoH _%JI& a'.own r%UV& S.gap c%UF& M16.fill (im (hW ws h))%UP& M11.nx TT (M11.pl (M12.st c))%US&\"range%Uf&\"_law_group%O0& M11.pl s%OE& Ű X.K fd ps ds%OK& NS H0 H lf d lr ts kvs ğ Tb%OR&\"type.__call__%OA& K.In s.τ%OC& I.Β.free b o%OF& Ω.Χ m%OH& max x m%OM& S.way v%ON&\"made%OP& ψ H d%OT& c0 B P w K mg Β N Ā Ξ a d A c s H E%Of& aoF _%On& aT lY Ų T.cV aoY%Op& bH ah%Os& cq P w%Z0&\"int%Z1& h.flat x%Z2& aJ cZ%Z3& Sum.Α i%Z4&\"moves%Z5&\"forth%Z6&\"default%Z7& å e X.env%Z8& wy ws r%Z9& aoT (aoW (aoL e) (I.ok.DL x c F t))%ZQ& I.tok _%ZW&\"object.__getattribute__%ZY& aol _%ZX& ĉ pos%ZJ& ark F.slot_int_rmul (Ř s k t) F.entry_int_rmul (F.args_int_rmul_2 β)%ZU&\"str%ZO&\"object%ZZ& ϗ Î σ%ZV& bp 3%ZE& a9 dS (aJ cO (pv 0) ak) ak (bq _)%ZG&\"StopIteration%ZK& di st%ZR&\"__next__%ZA& Ø S Ë R%ZB& PE X a ta%ZC& M11.Tab n T%ZD&\"pending%ZF&\"__class__%ZH& ý Ħ X.env%ZI& R a z%ZL&\"first%ZM&\"dict_items%ZN&\"_law_limit%ZP& ψ H l%ZS& pc T.jo (jb T)%ZT& kn β%Zw& dk γ%Zy& dD iO Ų T.jJ apv%Zx& dD (lC Ų) Ų T.iR apk%Zz& qW wi (jU ixs) tt te%Zv& M11.back u%Za& PE X o td%VU&\"ways%VO&\"many%VE& pc T.fx (fS T) b%VI& dv c S%VT& cE Ã.Υ Ã.Υ d%EQ& aT xH Ų T.Lh ÿ.Rows.boot_abs%EU& oq g b h%EO& Or.Α Ų%EM& M12.st k%EN& Passes CX X E%ES& Fl rs W n m S%ET& vL (d.pZ I.ok) l k g%Ev& fE dR%GE& S.cK c z%GM& CP which Ω%Gc& ļ.propDecidable _%KU& excClassObj nm o a N bs n k s sub r col t E A G D F ϫ%KO& S.az c%KK&\"rows%KB& bp 2%KI&\"reversed.__next__%KM&\"reversed.__iter__%RY&\"_law_table%RU&\"_law_cells%RO& ns.Κ V.υ%RE& g i j%RR& EP X a b Q%RI& ŵ (pv 2)%Re& cp aos Γ.F.slot_list_index Γ.F.type_list_index tu%Rs& ws.Χ n%AE& θ Dt%AR& gH H k W O c d%AC& Loc X.env.Ξ x%AD& Gl X x%AL&\"goings%AM& Ϙ T.fM (gJ T)%AN& ž (kZ (pv 2))%AS& aw ns%AT& M11.aS L%At& s3.ν s5%B0& s1.ν s2%BY& kp h o (l _ m) e%BA& cj TT (wd u)%BB& Q2 (Q2 (jy g e))%BC& M16.fill (im (hW h B)) u%BN& bG K H a xs%BS&\"front%BT& aT p9 Ų T.cV aoY%CU& a.own r%CO& MA aos Γ.F.slot_list_pop Γ.F.type_list_pop MC%CA& M18.fill (Im u I)%Co& g.Ω.Χ g.first%Cc& ck (pv 5)%Cf& ck (pv 1)%Ch& aw (bC F)%Cl& aoL e%Cn& aJ df (pv 0) ak%Cs& QA hd%DO& M24.fK (bQ S)%DA& ä dvs ds%DD& fG S R ks%Do& PE X e te%Da&\"waiting%Db&\"number%FO&\"behind%FR&\"agenda%FA&\"_law_k%FB& pm (pv 1) (aO T)%FF& fnOf x Ā (eB st) ZK Ϸ%FM& aJ cO%FS& a9 dS%Fk& nI S.bz%Fr& Q2 aou%Fa&\"isinstance%HU&\"home%HE&\"_law_first%HA&\"__name__%HH& ž (xS Ų T.mP (pv 0))%HI& relabel Ξ%IO& ku Ų T.dm%IR& fnOf x q (eB st) ZK Ϸ%ID& fB (fs.ω f)%IF& bF a%IM& bD e%IN& å o X.env%IP& ws.Κ wd%IS& bV X.stack%IT& M12.st n%Ix& aJ gC%Id& M16.fill (im U)%LU& fnOf û Ā Ĳ body Ξ W kV doc pm U d X%LO&\"ValueError.__init__%LE& bp 5%LG& ì y u%LA& wN K a%LB& mV X.K C%LF&\"elders%LH&\"called%LI&\"bool%LL&\"_law_letters%LM& vh r c%LP& pc T.mB (mQ T)%LS& gb R c z%LT& gO L m%Lu& fo g b h%Lo& cp aos aqH aqI%Lr& bx (j d s i H _ I h)%Ll& ϒ 0 n%Lm& aw (nI l)%MW& aw (bC h)%MU& Z2 (pv 3) ak%MO& Sum.Α.inj z%ME& PE X e ty%MI& PE X b tb%MM&\"value%Mo&\"limit%Me& ŵ (pv 5)%Mc& eM f x ð%Mn& M20.ri TT%NY& min x m%NJ& gK UV%NU& aoi c%NO& FT rs W L N T%NE&\"max%NG&\"_law_second%NA&\"__getitem__%NH&\"__getattr__%NI& aT (BK Ų) Ų T.U9 ÿ.Rows.boot_min%NL& aT (BJ Ų) Ų T.Lg ÿ.Rows.boot_max%NN& aJ iN%No& W.item i s β%Nd& M24.mz (bQ S)%Nl& k8 xs lo hi%PU& S.sub y c q%PM&\"dict.update.loop%PP& iV c z%Po& gM aoB%Pe& bP f v%Pc& bF kvs%Pd& ax q%Pf& gs.set n (ι g')%Pi& Sum.Α z%Ps& M12.st i%SO& ŗ s.τ a Ã%SZ& Ė Zl%SE& yU K x Ā st a fd%SA& xI s.τ x dx C mA%SB& aD a H r S O%SC& Tab L T%SH&\"turned%SI&\"setdefault%SL&\"_law_order%SS& ϵ aqi Γ.F.type_dict_setdefault%ST& ϖ gZ n1%Su& Ũ Ā Ξ%So& wpAny_typeNameOfWhole_itemiter f%Sk& rule i j t e s β%Sa& cU 4%Sc& aT uC Ų T.cV aoY%Sm& aJ hO%T0& M20.gf N%TW& M11.aS m%TU& wy ws%TZ& isNs_of_in XK i%TD& aoP z%TM& Za4 1%Ty& Mp r ta tb%Tu& M11.back w%Tk& F.args_tuple_iterator_next_1 _%Th& PT X a tA%Tl& PE X o ta%Tm&\"rule%qr&\"rear%wE&\"_law_word_here%wP&\"_law_ways_here%wS& ψ H x%wT& Ń pos%ww& pm (pv 5) (Fx T) T.qv (vm T) Z%wv& lS g.t g.f lw.lw%we& jV (pv 3)%wn& bp 4%yY& ay K H%xL& apy Ų%xw& M24.jn γ%xy& Bt O H%xz& e9 T ws%xb& bG.of b%xf& aw (nI (dH S))%xp& ao.ψ Y%jp&\"_law_most%js& ϖ jc%ue& ϖ jE%ul& ϖ j7%ut& ϖ iD%oe& ä xs%ol& z.sameBut f%zw& cj TT%ze& R c z%zd& M11.nx b ϥ%zn& M11.nx T O0%v1& S.cL v%vc& ϒ a n%gV& I.ok.bs b o%gz& tG R S.bu%ge& ps.zip us%gh& lB ϰ z d%gm& j b o e f%kd& aw (nI c)%r8& M20.ext N%rc& I.ok.hd j%rf& Β.StaysIn s.τ%ar&\"tuple.__mul__%aa& M24.eM (bQ S) c%af& E5 (pv 6) (aO T) T.mO (rP T)%am& E5 (pv 1) (aO T) T.jI (oj T)%bg& kI (h.kn v) E%ba& cE Ã.Υ 0 lo%bb& ay.of (d b g)%bc& ao H H'%bi&\"heard%bn&\"found%ce& ψ H3 D%cr& π.fdiv_eq_ediv_of_nonneg i%cm& wpAny_typeNameOf_itemiter f%dL& vJ (sj ak (bh ah) vI) Ų Ų%db& f i x%fR& ap7 _%fg& w.Χ n%fr& tupleKind Os%ff& ϒ n m%i0& aoi u%i8& aoi b%ij& q8 H k W O%io& oR s.τ it a z%ir& mw S Ë S'%ii& dy k X.A%l3& cu P w H h a o%l5& Sem ã%l6& M11.aS n w%l7& Loc X.env.Ξ y%l8& ExcBaseFacts B newId N3 UL%l9&\"type%mT&\"second%me&\"part%ma&\"last%mf&\"gaps%mi&\"function%mm& ϗ a d H%mt& ϖ hH%nv& ψ H2%py& ž (ck (pv 0))%pr& sp c H Q%pb& sT a r p H%sK& pc T.rH (sX T)%sB& pc T.pD (qM T)%sw& pc T.lE (nX T)%ss& ok T wy Ô%t0& ju g%tw& isTrue e X.env%tz& gO S.L%tc& f2 b%Za0&Option.some.inj%aoe&List.getElem?_eq_getElem%aof&PySem.wpAny_bind%aog&List.length_map%aoh&List.getElem?_eq_some_iff%aoi&List.mem_of_getElem?%aoj&List.length_append%aok&List.mem_singleton%aol&PySem.Heap.get?_push_of_some%aom&List.getD_eq_getElem?_getD%aon&List.getElem?_map%aoo&Nat.le_refl%aop&Nat.lt_of_le_of_lt%aoq&List.getElem?_append_left%aor&PySem.wpAny_pure%aos&PySem.F.plainAttrs_list%aot&Nat.le_trans%aou&List.mem_cons_self%aov&List.mem_append%aow&List.mem_append_right%aox&PySem.F.slot_list_append%aoy&PySem.F.type_list_append%aoz&List.getElem?_append_right%aoA&List.length_cons%aoB&PySem.PassesOwn.never%aoC&List.mem_cons%aoD&PySem.Heap.get?_push_size%aoE&List.map_append%aoF&List.mem_append_left%aoG&List.getElem?_eq_none%aoH&List.mem_cons_of_mem%aoI&List.size_toArray%aoJ&List.append_nil%aoK&if_neg%aoL&PySem.Heap.lt_size%aoM&PySem.boot_len%aoN&Nat.zero_le%aoO&if_pos%aoP&decide_eq_true%aoQ&beq_eq_false_iff_ne%aoR&List.length_set%aoS&of_decide_eq_true%aoT&Nat.ne_of_lt%aoU&List.length_range%aoV&List.length_nil%aoW&Nat.lt_of_lt_of_le%aoX&List.length_take%aoY&PyProof.Rows.boot_isinstance%aoZ&List.mem_range%ao0&List.nodup_cons%ao1&List.mem_map%ao2&List.take_succ%ao3&Classical.byContradiction%ao4&List.map_map%ao5&PySem.Heap.get?_update_self%ao6&List.append_assoc%ao7&Bool.false_ne_true%ao8&Int.toNat_natCast%ao9&List.getElem?_set_self%apa&List.mem_filter%apb&List.nodup_append%apc&List.take_length%apd&decide_eq_false%ape&PySem.wpAny_newObj_type%apf&PyProof.Rows.slot_tuple_getitem%apg&PySem.wpAny_field%aph&List.length_filter_le%apj&PySem.Heap.get?_update_other%apk&PyProof.Rows.boot_list%apl&List.not_mem_nil%apm&List.getElem?_of_mem%apn&PySem.Calls.spliced_cons%apo&PyProof.Rows.callWith_type1%apq&List.take_of_length_le%apr&List.mem_flatMap%aps&PySem.wpAny_holding%apt&PySem.wpAny_callSpecial?_slot%apu&PySem.Obj.data_mapFields%apv&PyProof.Rows.boot_tuple%apw&PySem.Heap.SameBut.update%apx&List.getElem?_range%apy&PySem.Calls.callWith_builtin%apz&List.getElem?_set_ne%apA&Nat.mul_le_mul_right%apB&PySem.wpAny_call_entry%apC&List.range_succ%apD&decide_eq_true_iff%apE&Ne.symm%apF&List.map_cons%apG&PySem.codeAny_call_builtin%apH&Option.map_eq_some_iff%apI&PySem.wpAny_Call_Name_kw%apJ&PySem.wpAny_setField_rec%apK&PySem.W.kia_one%apL&List.length_singleton%apM&List.map_congr_left%apN&decide_eq_decide%apO&PySem.wpAny_mono%apP&PySem.F.plainAttrs_dict%apQ&Nat.lt_succ_of_lt%apR&List.ext_getElem?%apS&Array.getElem?_eq_some_iff%apT&PySem.Calls.evalArgs_plain%apU&Nat.sub_self%apV&List.filter_append%apW&congrArg%apX&Nat.lt_succ_self%apY&Bool.and_eq_true%apZ&List.filter_cons%ap0&List.flatMap_append%ap1&PySem.Obj.isFreed_of_fields%ap2&PySem.Calls.spliced_nil%ap3&List.length_erase_of_mem%ap4&List.take_append_drop%ap5&List.dropLast_concat_getLast%ap6&PySem.wpAny_setField%ap7&Nat.lt_irrefl%ap8&PySem.wpAny_truthy_bool%ap9&PySem.wpAny_pyIter_list%aqa&List.pairwise_map%aqb&List.nodup_nil%aqc&Nat.ne_of_gt%aqd&List.foldl_cons%aqe&PySem.F.slot_dict_get%aqf&Nat.min_eq_left%aqg&List.eq_nil_of_length_eq_zero%aqh&Int.neg_neg%aqi&PySem.F.slot_dict_setdefault%aqj&Nat.le_of_lt%aqk&List.foldl_append%aql&List.filter_congr%aqm&Array.length_toList%aqn&Bool.eq_iff_iff%aqo&PySem.mem_of_lookup%aqp&List.replicate_succ%aqq&List.filter_sublist%aqr&PySem.F.slot_tuple_iterator_next%aqs&PySem.F.excBase_ValueError%aqt&List.length_drop%aqu&PySem.builtinLookup_eq_fast%aqv&PySem.wpAny_attempt%aqw&PySem.tupleKind_room_in1%aqx&List.mem_or_eq_of_mem_set%aqy&List.drop_eq_getElem_cons%aqz&List.mem_iff_getElem%aqA&PySem.wpAny_passesOwn%aqB&PySem.wpAny_call%aqC&List.flatten_cons%aqD&PySem.wpAny_updateSeq%aqE&PySem.wpAny_Call_method%aqF&not_false_eq_true%aqG&List.flatMap_cons%aqH&PySem.F.slot_list_extend%aqI&PySem.F.type_list_extend%aqJ&Nat.mul_comm%aqK&PySem.call_meetsIn%aqL&Nat.succ_mul%aqM&or_false%aqN&List.mem_map_of_mem%aqO&List.filter_cons_of_pos%aqP&List.cons_append%aqQ&List.all_eq_true%aqR&PySem.F.plain_max_loop%aqS&PySem.F.slot_dict_itemiterator_next%aqT&List.nodup_range%aqU&List.getElem_mem%aqV&List.take_append_of_le_length%aqW&PySem.Heap.size_push%aqX&Nat.mul_le_mul%aqY&PySem.F.entry_dict_get%aqZ&List.find?_cons_of_neg%aq0&PySem.W.callWith_K%aq1&PySem.F.slot_dict_keyiterator_next%aq2&PySem.wpAny_execs_nil%aq3&PySem.wpAny_of_eq%aq4&PySem.codeAny_mono%aq5&PySem.wpAny_typeOf%aq6&Array.getElem?_toList%aq7&PySem.wpAny_loadPart'%aq8&List.nil_append%aq9&Nat.lt_trans%ara&Int.emod_nonneg%arb&List.find?_cons%arc&PySem.F.slot_dict_pop%ard&PySem.codeAny_builtin%arf&PySem.wpAny_notOrdered_dict%arh&Nat.lt_or_ge%ari&Nat.add_mul%arj&PySem.Obj.cls_mapFields%ark&PySem.call_meets%arl&PySem.wpAny_dictEntries%arn&PySem.plainId_quiet%aro&List.getElem?_inj%arp&Decidable.not_not%arq&PySem.wpAny_loadPart_at%ars&PySem.Around.under_plainId%aru&List.mem_of_mem_take%arv&PySem.wpAny_seqItems%arw&PySem.isSubtype_type%arx&List.getElem?_eq_none_iff%arz&Nat.min_eq_right%arA&PySem.W.hideAll_get%arB&List.length_reverse%arC&PySem.wpAny_rule%arD&beq_iff_eq%arE&Nat.le_of_eq%arF&Option.isSome_iff_exists%arG&List.getElem?_take_of_lt%arH&PySem.F.args_tuple_add_2%arI&Nat.le_total%arJ&List.Pairwise.imp_of_mem%arK&Nat.zero_add%arL&PySem.wpAny_standAt%arM&PySem.F.entry_tuple_add%arN&PySem.typeLookup_type%arO&Bool.or_eq_true%arP&Int.emod_lt_of_pos%arQ&PySem.Code.quiet_builtin%arR&Nat.exists_eq_add_of_le%arS&Nat.max_eq_left%arT&PySem.F.slot_tuple_add%arU&Option.map_eq_none_iff%arV&if_true%arW&PySem.wpAny_letGo%arX&Int.zero_add%arY&List.lookup_cons%arZ&Nat.max_eq_right%ar0&Nat.succ_le_succ%ar3&if_false%ar4&List.all_cons%Ff& top 6%rn& top 7%zt& top 11%Og& top 12%w6& top 13%zu& top 15%UU& top 16%zv& top 17%zx& top 22%zy& top 23%zz& top 26%UX& top 27%Oh& top 29%CJ& top 31%uF& top 33%UY& top 36%uG& top 37%tJ& top 38%j0& top 40%tK& top 41%zA& top 42%oh& top 43%Fg& top 44%uH& top 45%ro& top 46%w9& top 47%CK& top 49%zB& top 50%qd& top 51%xc& top 52%xg& top 53%tL& top 54%tM& top 55%tN& top 56%xh& top 57%xi& top 58%qe& top 59%xj& top 60%zC& top 61%xk& top 62%zD& top 63%zE& top 64%uI& top 65%UZ& top 66%mZ& inClass (top 3) 0%pf& inClass (top 8) 0%qf& inClass (top 8) 1%xl& inClass (top 8) 2%m3& inClass (top 9) 0%kO& inClass (top 9) 1%qg& inClass (top 9) 2%pj& inClass (top 9) 3%rq& inClass (top 9) 4%qh& inClass (top 9) 5%rz& inClass (top 9) 6%tO& inClass (top 9) 7%rA& inClass (top 9) 8%rB& inClass (top 9) 9%nh& inClass (top 9) 10%xm& inClass (top 19) 0%pk& inClass (top 25) 0%uJ& inClass (top 25) 1%xn& inClass (top 25) 2%zF& inClass (top 25) 3%tP& inClass (top 25) 4%pq& inClass (top 25) 5%tQ& inClass (top 25) 6%oi& inClass (top 25) 7%uK& inClass (top 25) 8%qi& inClass (top 25) 9%lD& inClass (top 25) 10%qj& inClass (top 25) 11%pw& inClass (top 39) 0%qk& inClass (top 39) 1") (YL' "Lean.Parser.Term.omission&{b {t.decide 'decide {t.optConfig {n {t.configItem {t.posConfigItem '+ kernel}}}}}}%term∅&{b {t.first 'first {n {group '| {t.tacticSeq {t.tacticSeq1Indented {n {t.lia 'lia {t.optConfig {n}}}}}}} {group '| {t.tacticSeq {t.tacticSeq1Indented {n {t.omega 'omega {t.optConfig {n}}}}}}}}}}%Lean.Parser.Tactic.omega&{t.first 'first {n {group '| {t.tacticSeq {t.tacticSeq1Indented {n {t.lia 'lia {t.optConfig {n}}}}}}} {group '| {t.tacticSeq {t.tacticSeq1Indented {n {t.omega 'omega {t.optConfig {n}}}}}}}}}%Lean.Parser.Tactic.decide&{t.decide 'decide {t.optConfig {n {t.configItem {t.posConfigItem '+ kernel}}}}}%Lean.Parser.Tactic.cbv&{t.grind 'grind {t.optConfig {n {t.configItem {t.negConfigItem '- abstractProof}}}} {n} {n} {n}}%Lean.Parser.Tactic.tacticTrivial&{t.first 'first {n {group '| {t.tacticSeq {t.tacticSeq1Indented {n {t.exact 'exact ({T.dotIdent '. inl} rfl)}}}}} {group '| {t.tacticSeq {t.tacticSeq1Indented {n {t.exact 'exact ({T.dotIdent '. inr} rfl)}}}}} {group '| {t.tacticSeq {t.tacticSeq1Indented {n {t.exact 'exact ({T.dotIdent '. inr} ({T.dotIdent '. inl} rfl))}}}}} {group '| {t.tacticSeq {t.tacticSeq1Indented {n {t.exact 'exact ({T.dotIdent '. inr} ({T.dotIdent '. inr} rfl))}}}}} {group '| {t.tacticSeq {t.tacticSeq1Indented {n {t.assumption 'assumption }}}}} {group '| {t.tacticSeq {t.tacticSeq1Indented {n {t.tacticTrivial 'trivial }}}}}}}%term_\\_&{term_=_ #0 '= (some #2)}%coeSortNotation&{T.proj #1 '. heap.objs.size}%coeFunNotation&{T.proj #1 '. length}%coeNotation&({T.dotIdent '. ref} #1)%termS!_&{b {t.intro 'intro {n _ z}} '; {t.cases 'cases {n {t.elimTarget {n} z}} {n} {n}}}%Std.termF!_&{b {t.intro 'intro {n z}} '; {t.cases 'cases {n {t.elimTarget {n} z}} {n} {n}}}%term_<*_&{T.structInst '{ {n {n #0} 'with } {T.structInstFields {n {T.structInstField {T.structInstLVal heap {n}} {n {n} {n} {T.structInstFieldDef ':= {n} #2}}}}} {T.optEllipsis {n}} {n} '} }%term_>>>_&{T.structInst '{ {n} {T.structInstFields {n {T.structInstField {T.structInstLVal cls {n}} {n {n} {n} {T.structInstFieldDef ':= {n} ({T.dotIdent '. type} #0)}}} ', {T.structInstField {T.structInstLVal data {n}} {n {n} {n} {T.structInstFieldDef ':= {n} #2}}}}} {T.optEllipsis {n}} {n} '} }%term_⁻¹&(PySem.wpAny (PySem.model {T.proj #0 '. prog} {T.proj #0 '. w}))%term_<|>_&(PySem.wpAny (PySem.model #0 #2))%term_•_&({T.proj #0 '. heap.get?} #2)%term~~~_&(List.range #1)") (if(←Lean.Macro.getCurrNamespace)=`Lake.K74 then if f then 2 else 1 else 0) 40 x;let r:=if f then EW' r else r;return if x[1].isOfKind ``Lean.Parser.Command.definition&&x[0].getArgs.all (·.isNone)then r.setArg 0 (Y0' #[] "{Lean.Parser.Command.declModifiers {n} {n} {n} {n} {n {Lean.Parser.Command.noncomputable 'noncomputable }} {n} {n}}")else r
theorem GL {p:Prop}(h:let q:Prop:=p;q):p:=h
abbrev Zg:=List Int
abbrev Zh:=List Nat
abbrev Zi:=Option Nat
abbrev Zj:=Option Int
abbrev Zk:=List PySem.Value
abbrev Zl:=Option PySem.Value
abbrev Zm:=Array PySem.Value
abbrev Zn:=List PySem.Addr
abbrev Zo:=Option PySem.Addr
abbrev Zp:=List PySem.Str
abbrev Zq:=List PySem.Env
abbrev Zr:=List PySem.Expr
abbrev Zs:=PySem.Addr
abbrev Zt:=PySem.Value
abbrev Zu:=PySem.Shared
abbrev Za1:=PySem.W.Frag
abbrev Za2:=Nat->Int->Nat->Prop
abbrev Za3:=List Zg
def Za4 (n:Nat)(h:n<=PySem.sizeLine:=by decide):n<=PySem.sizeLine:=h
namespace Lake
open PySem PySem.Spec
open PyProof.Rows hiding St st
open PySem.W (instObj methodObj hideAll lookIn plainGet hasDictIn findIn plainGet_of isFn plainOver takerIn makesIn emptyDict makes_of keepIn specialIn mroIn kitOne kitx_list fnOf codeIn excIn isNs_of_in mg_of exmOne kitAny)
namespace L2
abbrev Key:=Sum Int Str
abbrev Zd:=List Key
def vx:Key->Zt->ã
 |.Α k,v=>Η.isInt k v
 |.Ç x,v=>Η.isStrOf x v
def afu (w:à):Key->π
 |.Α k=>hashInt k
 |.Ç x=>hashStr w x
theorem eY:∀{k:Key}{v:Zt},vx k v=ρ->(∃i t,k=Sum.Α i/\v=Η.υ i t)\/(∃x t,k=Sum.Ç x/\v=Η.str x t)
 |.Α i,v,h=>by let[t,e]:=Η.isInt_shape (k:=i) (v:=v) h;rwa[.Α {i,t,2,e}]
 |.Ç x,v,h=>by let[t,e]:=Η.isStrOf_shape (x:=x) (v:=v) h;rwa[.Ç {x,t,2,e}]
def Mf (i:π)(t:Tok):vx (.Α i) (.υ i t)=ρ:=by simp[vx,Η.isInt]
def Mg (x:Ñ)(t:Tok):vx (.Ç x) (.str x t)=ρ:=by simp[vx,Η.isStrOf]
def XB (a b:π):decide ((Sum.Α a:Key)=Sum.Α b)=(a==b):=by cbv
def XC (a b:Ñ):decide ((Sum.Ç a:Key)=Sum.Ç b)=decide (a=b):=by cbv
def XE (a:π)(b:Ñ):decide ((Sum.Α a:Key)=Sum.Ç b)=ς:=apd (λq=>nomatch q)
def XF (a:Ñ)(b:π):decide ((Sum.Ç a:Key)=Sum.Α b)=ς:=apd (λq=>nomatch q)
def cq (c:Í)(w:à):Γ.KeyKind c w Key where
 is:=vx
 hash:=afu w
 inj:=λv a b l f=>by
  rcases eY l with ⟨i,t,Ų,rfl⟩|⟨x,t,Ų,rfl⟩
  .rcases eY f with ⟨j,u,Ų,e⟩|⟨y,u,Ų,e⟩
   .cbv
   cbv
  .rcases eY f with ⟨j,u,Ų,e⟩|⟨y,u,Ų,e⟩
   .rwa[nomatch e]
   cbv
 byValue:=λk v h=>by rcases eY h with ⟨i,t,Ų,rfl⟩|⟨x,t,Ų,rfl⟩ <;> rfl
 pyHash:=λd h=>by
  rcases eY d with ⟨i,t,Ų,rfl⟩|⟨x,t,Ų,rfl⟩
  .rwa[wpAny_pyHash_int h]
  .rwa[wpAny_pyHash_str h]
 eqBool:=λm d h=>by
  rcases eY m with ⟨i,t,Ų,rfl⟩|⟨x,t,Ų,rfl⟩
  .rcases eY d with ⟨j,u,Ų,rfl⟩|⟨y,u,Ų,rfl⟩
   .rw[XB]at h;rwa[wpAny_eqBool_int h]
   .rw[XE]at h;rwa[ĳ.EqAt.int_str i t y u δ h]
  .rcases eY d with ⟨j,u,Ų,rfl⟩|⟨y,u,Ų,rfl⟩
   .rw[XF]at h;rwa[ĳ.EqAt.str_int x t j u δ h]
   .rw[XC]at h;rwa[wpAny_eqBool_str h]
 «strs»:=λk x t v h=>by
  rcases eY h with ⟨i,u,Ų,e⟩|⟨y,u,Ų,e⟩
  .rwa[nomatch e]
  .injection e with g _
   subst g;cases v <;> rfl
def GA (a:Í)(w:à)(i:π)(t:Tok):(cq a w).is (.Α i) (.υ i t)=ρ:=Mf i t
def GB (a:Í)(w:à)(x:Ñ)(t:Tok):(cq a w).is (.Ç x) (.str x t)=ρ:=Mg x t
end L2
variable {n m i j:Nat}{a b c d:PySem.Addr}{z y:Int}{v u:PySem.Value}{x:PySem.Str}{e:PySem.Expr}{p:PySem.Pos}{Q E:PySem.Value->PySem.Shared->Prop}{s t:PySem.Shared}{h g:PySem.Heap}{R:Za2}{M:PySem.Str->Option PySem.Value}{l:Zg}{N:List PySem.Value}{B:Zh}{W:Za3}{U:Unit->PySem.Shared->Prop}{C:List PySem.Expr}{F:List PySem.Addr}{Z:List PySem.Str}
namespace L2
inductive V where
 |non|bl (b:ã)|υ (i:π)|str (x:Ñ)|pV (b:Ė UInt8)|DK (b:UInt64)|É (a:Zs)|ty (n:Ĝ)
 deriving DecidableEq
abbrev Zc:=Option V
abbrev Zb:=List V
def ì:V->Zt->ο
 |.non,u=>u=Η.ε
 |.bl b,u=>u=Η.ħ b
 |.υ i,u=>∃t,u=Η.υ i t
 |.str x,u=>∃t,u=Η.str x t
 |.pV b,u=>∃t,u=Η.bytes b t
 |.DK b,u=>∃t,u=Η.float b t
 |.É a,u=>u=Η.É a
 |.ty n,u=>u=Η.Â n
abbrev Vals:Zb->Zk->Prop:=Paired RelV
def ä.ü {xs:Zb}{us:Zk}(r:ä xs us):@xs=@us:=Paired.ü r
theorem ä.ű:∀{b:Zb}{a:Zk}{i:η}{x:V},ä b a->b[i]?\x->∃u,a[i]?\u/\ì x u
 |_,_,_,_,.nil,e=>by simp at e
 |_,_,0,_,.È r _,e=>by simp at e;subst e;rwa[12,r]
 |_,_,i+ 1,x,.È _ t,e=>by let[u,d,c]:=ä.ű (i:=i) (x:=x) t (by simpa using e);rwa[u,by simpa using d,c]
theorem ä.set {x:V}(r:ì x u):∀{xs:Zb}{us:Zk}(i:η),oe us->ä (xs.set i x) (us.set i u)
 |_,_,_,.nil=>.nil
 |_,_,0,.È _ t=>.È r t
 |_,_,i+ 1,.È q t=>.È q (ä.set r i t)
theorem ä.Ů:∀{a ys:Zb}{b ws:Zk},ä a b->ä ys ws->ä (a++ys) (b++ws)
 |_,_,_,_,.nil,s=>s
 |_,_,_,_,.È r t,s=>.È r (ä.Ů t s)
theorem ä.Χ:∀{xs:Zb}{us:Zk}(n:η),oe us->ä (xs.Χ n) (us.Χ n)
 |_,_,0,_=>.nil
 |_,_,_+ 1,.nil=>.nil
 |_,_,n+ 1,.È r t=>.È r (ä.Χ n t)
theorem ä.ā:∀{xs:Zb}{us:Zk}(n:η),oe us->ä (xs.ā n) (us.ā n)
 |_,_,0,r=>r
 |_,_,_+ 1,.nil=>.nil
 |_,_,n+ 1,.È _ t=>ä.ā n t
def fB:Zc->Zl->ο
 |ι v,ι u=>ì v u
 |ε,ε=>þ
 |_,_=>Ð
def KV {a:Type}:θ (a×V)->θ (a×Zt)->ο:=Paired λ(p:a×V)(q:a×Zt)=>p.1=q.1/\ì p.2 q.2
def kV:Key->V
 |.Α i=>.υ i
 |.Ç x=>.str x
inductive HO where
 /-- a Ĥ -/
 |Ν (xs:Zb)
 /-- a Ě (never changes) -/
 |Ò (xs:Zb)
 /-- a ù whose keys are ints and texts;one whose keys are tuples of ints and texts (the empty one is both) -/
 |dK (kvs:θ (Key×V))|dT (kvs:θ (Zd×V))
 /-- a set of ints:its members,its Υ -/
 |set (S:π->ã) (n:η)
 /-- an instance of the class at C,its ù at dx,its attributes -/
 |ins (C dx:Zs) (fs:θ (Ñ×V))
 /-- the ù of the instance at x -/
 |own (x:Zs)
 /-- the ù of an exception -/
 |xd (fs:θ (Ñ×V))
 /-- a bound method,f of x -/
 |met (f x:Zs)
 /-- a range object lo,lo+ 1,.. below hi -/
 |mR (lo hi:π)
 /-- a thing that is known to the object (the script;a ù while a loop walks it):read,never written while it is so -/
 |dI (o:Obj) (u:HO)
 /-- a code object's table -/
 |ti (ps:Zm)
 /-- any other thing,by what is ρ of its one object (a def of amv own:amB a S n:=HO.ext λh=>..) -/
 |ext (φ:Û->ο)
abbrev Hp:=Zs->Option HO
def ψ (H:Hp)(a:Zs)(o:HO):Hp:=λb=>if b=a then ι o else H b
def aj {H:Hp}{o:HO}:ψ H a o a\o:=by unfold ψ;cbv
def aq {H:Hp}{o:HO}(h:b≠a):ψ H a o b=H b:=by unfold ψ;rw[aoK h]
def V6 {H:Hp}{o u:HO}:ψ (Ϻ o) a u=ψ H a u:=by funext b;unfold ψ;cbv
def bD {H:Hp}{o u:HO}(h:H a\o)(c:H b\u)(d:o≠u):a≠b:=by cbv
def ax {H:Hp}{o:HO}(h:H a\o)(c:H b=ε):a≠b:=by cbv
section
variable (P:Program) (w:World)
def cu (H:Hp)(h:Û)(a:Zs):HO->ο
 |.Ν xs=>@xs<=Ε/\∃(c:Zk)(n:η),oe c/\h.get? a\(ż>>>.seq c.χ n)
 |.Ò xs=>@xs<=Ε/\∃c:Zk,oe c/\ŗ h a c.χ
 |.dK b=>@b<=Ε/\(a==ë)=ς/\∃j,KV b j/\h.ů Os a j
 |.dT b=>@b<=Ε/\(a==ë)=ς/\∃xs:θ (Zd×Zs×Zt),
  Paired (λ(p:Zd×V)(q:Zd×Zs×Zt)=>p.1=q.1/\H q.2.1\.Ò (p.1.Κ kV)/\ì p.2 q.2.2) b xs/\∃o l s,h.get? a\o/\o.ExactDict/\o.ê=.ù l s/\l.Ć=xs.Κ (entryOfKey fr)/\(xs.Κ (·.1)).Á
 |.set S n=>h.SetOf (intKind P w) a S n
 |.ins C e fs=>H e\.own a/\@fs<=1000/\e≠a/\h.get? a\ĸ C e/\∃d,h.Ns1 e d/\(∀f,ID (d f))/\Γ.Within d (fs.Κ (·.1))
 |.own _=>∃o,h.get? a\o
 |.xd fs=>∃d,h.Ns1 a d/\∀f,ID (d f)
 |.mR lo r=>∃t u v,h.get? a\(US>>>.Å #[.υ lo t,.υ r u,.υ 1 v])
 |.dI o u=>h.get? a\o/\cu H h a u
 |.ti m=>h.get? a\{ cls:=.ε,ê:=.Å m }
 |.met f x=>h.get? a\(methodObj ?f ?x)
 |.ext g=>g h/\(∃o,h.get? a\o)/\∀k i:Û,g k->(∀o,k.get? a\o->i.get? a\o)->g i
def eI (H:Hp)(h:Û):ο:=∀a o,H a\o->cu P w H h a o
end
section
variable {P:Program}{w:World}{H H':Hp}{h h':Heap}{a:Zs}{o:HO}
def cu.lt (x:l3):a<h.õ.Υ:=by
 cases o with
 |Ν c=>let[_,_,_,_,e]:=x;rwa[aoL e]
 |Ò c=>let[_,_,_,p]:=x;rwa[p.lt]
 |dK b=>let[_,_,_,_,o,_,_,e,_]:=x;rwa[aoL e]
 |dT b=>let[_,_,_,_,o,_,_,e,_]:=x;rwa[aoL e]
 |set S n=>let[o,_,_,_,e,_]:=x;rwa[aoL e]
 |ins C dx fs=>let[_,_,_,e,_]:=x;rwa[aoL e]
 |own y=>let[_,e]:=x;rwa[aoL e]
 |xd fs=>let[_,⟨_,_,_,e,_⟩,_]:=x;rwa[aoL e]
 |mR lo i=>let[_,_,_,e]:=x;rwa[aoL e]
 |dI ob u=>let[e,_]:=x;rwa[aoL e]
 |ti d=>exact aoL (show h.get? a=ι _ from x)
 |met f y=>exact aoL (show h.get? a=ι _ from x)
 |ext g=>let[_,⟨_,e⟩,_]:=x;rwa[aoL e]
theorem Paired.QK {g e:Type}{F G:g->e->ο}:∀{c:θ g}{d:θ e},Paired F c d->(∀a b,F a b->G a b)->Paired G c d
 |_,_,.nil,_=>.nil
 |_,_,.È r t,f=>.È (f^r) (Paired.QK t f)
def cu.hJ (x:l3)(k:∀b u,(b=a\/H b\.own a)->h.get? b\u->h'.get? b\u)(G:∀b,H b\.own a->H' b\.own a)(D:∀b l,H b\.Ò l->H' b\.Ò l):cu P w H' h' a o:=by
 induction o with
 |Ν l=>let[z,j,n,r,e]:=x;rwa[z,j,n,r,k β (.Α Ų) e]
 |Ò l=>let[z,j,r,ob,e,c]:=x;rwa[z,j,r,ob,k β (.Α Ų) e,c]
 |dK m=>let[z,y,E,r,ob,g,i,e,c]:=x;rwa[z,y,E,r,ob,g,i,k β (.Α Ų) e,c]
 |dT m=>let[z,y,l,r,ob,g,i,e,c]:=x;rwa[z,y,l,Paired.QK r λp q z=>{z.1,D^z.2.1,z.2.2},ob,g,i,k β (.Α Ų) e,c]
 |set S n=>let[ob,g,i,t,e,c]:=x;rwa[ob,g,i,t,k β (.Α Ų) e,c]
 |ins C dx fs=>let[d,z,ne,e,s,⟨A,g,i,F,c⟩,r]:=x;rwa[G _ d,z,ne,k β (.Α Ų) e,s,{A,g,i,k β (.Ç d) F,c},r]
 |own y=>let[ob,e]:=x;rwa[ob,k β (.Α Ų) e]
 |xd fs=>let[s,⟨A,g,i,e,c⟩,r]:=x;rwa[s,{A,g,i,k β (.Α Ų) e,c},r]
 |mR lo L=>let[t,u,v,e]:=x;rwa[t,u,v,k β (.Α Ų) e]
 |dI ob u I=>let[e,q]:=x;rwa[k β (.Α Ų) e,I q]
 |ti B=>let e:h.get? a\{ cls:=.ε,ê:=.Å B }:=x;show h'.get? a\{ cls:=.ε,ê:=.Å B };rwa[k a _ (.Α Ų) e]
 |met f y=>let e:h.get? a\(methodObj ?f ?y):=x;show h'.get? a\methodObj ?f ?y;rwa[k a _ (.Α Ų) e]
 |ext J=>let[p,⟨o,e⟩,st]:=x;rwa[st β p λo q=>k β (.Α Ų) q,{o,k β (.Α Ų) e},st]
def eI.lt (x:ϸ)(e:H a\o):a<h.õ.Υ:=(x a o e).lt
def eI.ó (x:ϸ)(e:h.õ.Υ<=a):H a=ε:=by
 cases q:H a with
 |ε=>rfl
 |ι u=>exact Ρ (aoW (x.lt q) e) fR
def eI.ņ (x:ϸ)(k:∀b u,h.get? b\u->h'.get? b\u):eI P w H h':=λa o e=>(x a o e).hJ (λb u _ q=>k b u q) (λ_ q=>q) λ_ _ q=>q
def eI.ŭ (x:ϸ)(k:∀b u,h.get? b\u->h'.get? b\u)(g:h.õ.Υ<=a)(new:cu P w (Ϻ o) h' a o):eI P w (Ϻ o) h':=λb u e=>by
 let f:=x.ó g;cases d:b=a
 .subst d;rw[aj]at e;cbv
 .rw[aq d]at e;rwa[(x b u e).hJ (λc v _ q=>k c v q) (λc q=>[aq (Pd f)]▸q) λc i q=>[aq (Pd f)]▸q]
end
def Rd (H:Hp)(a:Zs)(u:HO):ο:=H a\u\/∃o,H a\(.dI o u)
def Rd.ok {P:Í}{w:à}{H:Hp}{u:HO}(r:Rd H a u)(x:ϸ):cu P w H h a u:=by
 rcases r with r|⟨o,r⟩
 .rwa[x a u r]
 .let[_,q]:=x a _ r;rwa[q]
def wL:Ă HO->ο
 |ι (.Ν _)=>þ
 |ι (.dK _)=>þ
 |ι (.dT _)=>þ
 |ι (.set β)=>þ
 |ι (.ins γ)=>þ
 |ι (.ext _)=>þ
 |_=>Ð
section
variable {P:Program}{w:World}{H:Hp}{h h':Heap}{x e:Zs}{o':HO}
def eI.write (ok:ϸ)(mu:wL (H x))(l:e=x\/H e\.own x)(k:∀b u,b≠e->h.get? b\u->h'.get? b\u)(g:∃u,h'.get? e\u)(new:cu P w (wS o') h' x o'):eI P w (wS o') h':=λb u q=>by
 let a:∀c y,H c\.own y->c≠x:=λc y r z=>by subst z;rw[r]at mu;rwa[mu]
 let kb:∀c d,H c\.Ò d->c≠x:=λc d r z=>by subst z;rw[r]at mu;rwa[mu]
 cases i:b=x
 .subst i;rw[aj]at q;cbv
 .rw[aq i]at q;cases f:b=e
  .let j:H b\(.own x):=by
    rcases l with z|z
    .cbv
    .rw[f];rwa[z]
   rw[q]at j;ext j;let[v,m]:=g;rwa[v,by cbv]
  .refine(ok b u q).hJ (λc v hc r=>k c v ?_ r) (λc r=>[aq (a c b r)]▸r) λc d r=>by rw[aq (kb c d r)];rwa[r]
   cbv
end
structure Un (fs ex:Zn)(H H':Hp)(h h':Û):ο where
 Ï:∀b o,h.get? b\o->H b=ε->b∉fs->b∉ex->h'.get? b\o
 slot:∀b o,h.get? b\o->H b=ε->b∈fs->b∉ex->∃sl,h'.get? b\{ o with č:=sl }
 free:∀b o,h.get? b\o->H b=ε->b∉ex->H' b=ε
 there:∀b o,h.get? b\o->b∉ex->∃o',h'.get? b\o'
 jh:∀b xs,H b\.Ò xs->H' b\(.Ò xs)
 iA:∀b o u,H b\.dI o u->H' b\(.dI o u)
 jT:∀b ps,H b\.ti ps->∃ł,H' b\(.ti (ps++ł))
section
variable {fs ex:Zn}{H H1:Hp}{h h1 h':Heap}{a x e:Zs}{o:HO}
def Un.any (u:Un fs ex H H1 h h1){b:Zs}{ob:Obj}(q:h.get? b\ob)(n:H b=ε)(d:b∉ex):∃sl,h1.get? b\{ ob with č:=sl }:=by
 cases c:b∈fs
 .rwa[u.slot b ob q n c d]
 .rwa[ob.č,u.Ï b ob q n c d]
def Un.ņ (k:∀b u,h.get? b\u->h'.get? b\u):Un fs ex H H h h':={λb ob q _ _ _=>k b ob q,λb ob q _ _ _=>{ob.č,k b ob q},λ_ _ _ n _=>n,λb ob q _=>{ob,k b ob q},λ_ _ q=>q,λ_ _ _ q=>q,λ_ c q=>{#[],by rw[q];simp}}
def Un.Ł:Un fs ex H H h h:=Un.ņ λ_ _ q=>q
def Un.ŭ (k:∀b u,h.get? b\u->h'.get? b\u)(d:h.õ.Υ<=a)(c:H a=ε):Un fs ex H (Ϻ o) h h' where
 Ï:=λb u q _ _ _=>k b u q
 slot:=λb u q _ _ _=>{u.č,k b u q}
 free:=λb u q n _=>by rw[aq (aoT (aoW (aoL q) d))];rwa[n]
 there:=λb u q _=>{u,k b u q}
 jh:=λb f q=>by rw[aq (Pd c)];rwa[q]
 iA:=λb u f q=>by rw[aq (Pd c)];rwa[q]
 jT:=λb g q=>{#[],by rw[aq (Pd c),q];simp}
def Un.write (mu:wL (H x))(l:e=x\/H e\.own x)(k:∀b u,b≠e->h.get? b\u->h'.get? b\u)(g:∃u,h'.get? e\u):Un fs ex H (wS o) h h':=by
 let i:∀b,H b=ε->b≠x:=λb n z=>by subst z;rw[n]at mu;rwa[mu]
 let d:∀b,H b=ε->b≠e:=λb n z=>by cbv
 let c:∀b u,H b\u->¬wL (ι u)->b≠x:=λb u q nm z=>by cbv
 rwa[λb u q n _ _=>k b u (d b n) q,λb u q n _ _=>{u.č,k b u (d b n) q},λb u q n _=>[aq (i b n)]▸n,λb u q _=>?_,λb f q=>[aq (c b _ q λz=>z)]▸q,λb u f q=>[aq (c b _ q λz=>z)]▸q,λb j q=>{#[],by rw[aq (c b _ q λz=>z),q];simp}]
 cbv
end
def T8 (h:Û)(H:Hp):Zn:=(~~~h.õ.Υ).Ö λa=>(H a).ě
def rZ (h:Û)(H:Hp):Û:=hideAll h (T8 h H)
def Mh (h:Û)(H:Hp):(rZ h H).õ.Υ=h.õ.Υ:=Γ.W.hideAll_size β
def QL {H:Hp}{o:Obj}(e:h.get? b\o)(n:H b=ε):(rZ h H).get? b\o:=
 arA _ e λa=>by
  let q:(H b).ě=ρ:=(apa.mp a).2
  cbv
def V7 {H:Hp}{o:Obj}(e:(rZ h H).get? b\o):h.get? b\o/\H b=ε:=by
 let a:h.get? b\o:=Γ.W.of_hideAll (T8 h H) e;erw[a]
 cases q:H b with
 |ε=>rfl
 |ι x=>
  let c:b∈T8 h H:=apa.mpr {aoZ.mpr (aoL a),by simp[q]};let z:(rZ h H).get? b=ε:=Γ.W.hideAll_none (T8 h H) c
  cbv
end L2
variable {H I J:L2.Hp}{q:L2.V}{L:List L2.V}
namespace L2
structure Mod (K:Za1)(mg:Ñ->Zl)(Β:Û):ο where
 iJ:K.In Β
 glob:Β.Ns ø mg
 blt:∃mb,Β.Ns builtinsNs mb/\∀x:Ñ,x≠HA->mb x=ŏ x
 nolimit:Β.NoLimit
structure Cx where
 À:Í
 w:à
 K:Za1
 mg:Ñ->Zl
 Β:Û
 A:ß
 N:Zp
 fD:Zu
 xu:Hp
 env:Env
 Ψ:Zq
 stack:Zq
 ex:Zn
 fn:Ñ->ã
 calm:ã
 pn:θ (Zs×Obj)
 xe:Zt->Zu->ο
def bV (l:Zq):Zn:=l.filterMap (·.frame)
abbrev Cx.fs (X:Cx):Zn:=bV X.outer
def XG (sc:ũ)(x:Ñ):ο:=sc.names.ω x=ι .local\/sc.names.ω x=ι .cell\/sc.names.ω x=ι .free
def Loc (sc:ũ)(x:Ñ):ο:=sc.names.ω x=ι .local\/sc.names.ω x=ι .cell
def Look (env:Env)(h:Û)(m:Ñ->Zl)(x:Ñ)(u:Zt):ο:=(env.Ĉ x=ι .local/\m x\u)\/((env.Ĉ x=ι .cell\/env.Ĉ x=ι .free)/\∃c,env.Ŏ.ω x\c/\h.IsCell c (ι u))
class eD (X:Cx)(K:outParam Za1):ο where
 eq:X.K=K
instance (priority:=low) eD.any {X:Cx}:eD X X.K:={2}
structure Cx.Ok (X:Cx):ο where
 mod:Mod X.K X.mg X.Β
 kind:X.env.Ξ.kind=.ţ
 glob:X.env.globals=ø
 blt:X.env.builtins=builtinsNs
 above:X.fD.τ.õ.Υ<=X.env.ć
 inj:∀x y c,X.env.Ŏ.ω x\c->X.env.Ŏ.ω y\c->x=y
 has:∀x,(X.env.Ĉ x=ι .cell\/X.env.Ĉ x=ι .free)->∃c,X.env.Ŏ.ω x\c
 DL:∀x c,X.fn x=ρ->X.env.Ŏ.ω x\c->X.fD.τ.õ.Υ<=c
 hd:X.calm=ρ->X.A.ą=ε
 frames:X.A.frames\X.stack
 HD:X.stack=X.Ψ\/(X.stack=X.env::X.Ψ/\X.env.frame\X.env.ć)
 T9:∀b∈X.ex,b≠X.env.ć/\∀x c,X.env.Ŏ.ω x\c->c≠b
 bs:∀b o,X.Β.get? b\o->X.fD.τ.get? b\o/\X.xu b=ε
 wM:X.Β.õ.Υ<=X.fD.τ.õ.Υ
 xA:∀b o,X.Β.get? b\o->b∉X.ex
 AJ:∀b∈X.ex,b∉X.fs
 kX:X.fD.τ.ĺ X.Β X.Ψ
 yL:∀b∈X.fs,X.xu b=ε
structure Inv (X:Cx)(Î:θ (Zs×Obj))(σ:θ Zc)(H:Hp)(s:Zu):ο where
 ok:X.Ok
 os:s.os=X.fD.os
 bare:Ŕ s.gens
 Β:Un X.fs X.ex X.xu H X.fD.τ s.τ
 loc:∃m,s.τ.Ns X.env.ć m/\∀(i:η)(x:Ñ)(v:V),X.N[i]?\x->σ[i]?\ι v->XG X.env.Ξ x->∃u,ì v u/\Look X.env s.τ m x u
 cell:∀x c,X.env.Ŏ.ω x\c->∃v,s.τ.IsCell c v
 free:H X.env.ć=ε
 iB:∀x c,X.env.Ŏ.ω x\c->H c=ε
 pin:∀p∈X.pn++Î,s•p.1\p.2/\H p.1=ε/\p.1≠X.env.ć/\p.1∉X.fs/\∀v,p.2.ê≠.cell v
 a0:eI X.À X.w H s.τ
 len:@σ=@X.N
section
variable {X:Cx}{pins:List (Zs×Obj)}{σ:List Zc}{H H':Hp}{s:Zu}{h':Heap}
def Cx.Ok.afv (ok:X.Ok){b:Zs}{o:Obj}(e:X.Β.get? b\o):b∉X.fs:=λa=>by
 have:=(ok.kX.mem a).1
 cbv
def Inv.bs (I:Ŵ):∀b o,X.Β.get? b\o->s•b\o/\H b=ε:=λb o e=>{I.Β.Ï b o (gV e).1 (gV e).2 (I.ok.afv e) (I.ok.xA b o e),OC (gV e).1 (gV e).2 (I.ok.xA b o e)}
def Inv.bk (I:Ŵ):∀b o,X.Β.get? b\o->s•b\o:=λb o e=>(I.bs b o e).1
def Inv.mod (I:Ŵ):Mod X.K X.mg X.Β:=I.ok.mod
def Inv.dJ (I:Ŵ):X.K.In s.τ:=I.ok.mod.iJ.Į I.bk
def Inv.lt (I:Ŵ):X.env.ć<↥s:=let ⟨_,a,_⟩:=I.loc;a.lt
def Inv.sz (I:Ŵ):X.fD.τ.õ.Υ<=↥s:=aot I.ok.above (aqj I.lt)
def Inv.XH (I:Ŵ){a:Zs}(h:↥s<=a):a∉X.fs:=λc=>by let[_,o,b,_]:=I.ok.kX.mem c;rwa[Ρ (aoW (aoL b) (aot I.sz h)) fR]
def Inv.qP (I:Ŵ):∀x c,X.env.Ŏ.ω x\c->c≠X.env.ć:=λx c e z=>by
 let[v,o,f,hd]:=I.cell x c e;let[m,⟨h,g,d,b,a,_⟩,_]:=I.loc
 cbv
def Inv.kX (I:Ŵ):s.τ.ĺ X.Β X.Ψ:=by
 let all:∀(l:Zq),(∀b∈bV l,b∈X.fs)->X.fD.τ.ĺ X.Β l->s.τ.ĺ X.Β l:=by
  intro l
  induction l with
  |nil=>intro _ _;trivial
  |È env r i=>
   intro f j;let[g,⟨L,o,d,m,h,hd⟩,k]:=j;let c:L∈X.fs:=f L (by unfold bV;cbv);let[sl,e]:=I.Β.slot L o h (I.ok.yL L c) c λz=>I.ok.AJ L z c
   rwa[g,{L,_,d,m,e,hd},i (λb a=>f b (by unfold bV;rw[θ.filterMap_cons,d];rwa[JE a])) k]
 rwa[all X.Ψ (λ_ a=>a) I.ok.kX]
def Inv.stack (I:Ŵ):s.τ.ĺ X.Β X.stack:=by
 rcases I.ok.HD with e|⟨e,a⟩
 .rw[e];rwa[I.kX]
 .rw[e];let[m,b,_]:=I.loc;rwa[.È (by rw[I.ok.kind];decide) a b ?_ I.kX];rwa[Û.get?_none_of_le (aot I.ok.wM I.ok.above)]
def Inv.DM (I:Ŵ):∀b∈bV X.stack,b∈X.env.ć::X.fs:=λb a=>by
 rcases I.ok.HD with e|⟨e,c⟩
 .cbv
 .rw[e]at a;unfold bV at a;rw[θ.filterMap_cons,c]at a;rwa[a]
def Inv.qQ (I:Ŵ):∀b∈bV X.stack,H b=ε:=λb a=>by
 rcases aoC.mp (I.DM b a) with e|a
 .rw[e];rwa[I.free]
 .let[_,o,c,_]:=I.ok.kX.mem a;rwa[OC c (I.ok.yL b a) λz=>I.ok.AJ b z a]
def Inv.ı {g':Ė GenState}{d':Drawn}{ch:Zn}(I:Ŵ)(h:∀b∈ch,(b∈X.ex\/X.fD.τ.õ.Υ<=b)/\b≠X.env.ć/\(∀x c,X.env.Ŏ.ω x\c->c≠b)/\∀p∈X.pn++Î,p.1≠b)(Ï:∀b o,b≠X.env.ć->b∉X.fs->b∉ch->s•b\o->H b=ε->h'.get? b\o)(slot:∀b o,b≠X.env.ć->b∈X.fs->b∉ch->s•b\o->H b=ε->∃sl,h'.get? b\{ o with č:=sl })(free:∀b o,b∉ch->s•b\o->H b=ε->H' b=ε)(there:∀b o,b∉ch->s•b\o->∃C,h'.get? b\C)(jh:∀b t,H b\.Ò t->H' b\.Ò t)(iA:∀b o u,H b\.dI o u->H' b\.dI o u)(jT:∀b D,H b\.ti D->∃ł,H' b\.ti (D++ł))(ns:∀m,s.τ.Ns X.env.ć m->h'.Ns X.env.ć m)(a0:eI X.À X.w H' h')(L:Ŕ g'):
 Inv X Î σ H' { s with τ:=h',gens:=g',drawn:=d',Æ:=n }:=by
 let B:∀b o,X.fD.τ.get? b\o->b≠X.env.ć:=λb o e=>aoT XN
 let j:∀b o,X.fD.τ.get? b\o->b∉X.ex->b∉ch:=λb o e f y=>by
  rcases (h b y).1 with z|z
  .rwa[f z]
  .rwa[Ρ (aoW Cl z) fR]
 let cellK:∀x c,X.env.Ŏ.ω x\c->∀v,s.τ.IsCell c v->h'.IsCell c v:=λx c e v ζ=>by
  let[o,A,hd]:=ζ
  let g:c∉ch:=λz=>(h c z).2.2.1 x c e rfl
  cases hc:c∈X.fs
  .let[sl,q]:=slot c o (I.qP x c e) hc g A (I.iB x c e);rwa[_,q,hd]
  .rwa[o,Ï c o (I.qP x c e) hc g A (I.iB x c e),hd]
 rwa[I.ok,I.os,L,{λb o e a y f=>?_,λb o e a y f=>?_,λb o e a f=>?_,λb o e f=>?_,λb t e=>jh b t (I.Β.jh b t e),λb o t e=>iA b o t (I.Β.iA b o t e),λb D e=>?_},5,λx c e=>?_,5,λx c e=>?_,λp G=>?_,a0,I.len]
 .rwa[Ï b o (B b o e) y gm (I.Β.Ï b o e a y f) (OC e a f)]
 .let[sl,w]:=I.Β.slot b o e a y f;let[F,E]:=slot b _ (B b o e) y gm w (OC e a f);rwa[F,E]
 .let[C,w]:=I.Β.there b o e f;rwa[free b C gm w (OC e a f)]
 .let[C,w]:=I.Β.there b o e f;rwa[there b C gm w]
 .let[P,w]:=I.Β.jT b D e
  cbv
 .let[m,N,M]:=I.loc;rwa[m,ns m N,λi x v w E O=>?_];let[u,r,l]:=M i x v w E O;erw[u,r];rcases l with l|⟨k,c,e,z⟩
  .rwa[.Α l]
  .rwa[.Ç {k,c,e,cellK x c e _ z}]
 .let[v,z]:=I.cell x c e;rwa[v,cellK x c e v z]
 .let[m,⟨o,_,_,A,_⟩,_]:=I.loc;rwa[free _ o (λz=>(h _ z).2.1 Ų) A I.free]
 .let[v,o,A,hd]:=I.cell x c e;rwa[free c o (λz=>(h c z).2.2.1 x c e Ų) A (I.iB x c e)]
 .let[e,a,ne,J,d]:=I.pin p G;let g:p.1∉ch:=λz=>(h p.1 z).2.2.2 p G rfl
  rwa[Ï p.1 p.2 ne J g e a,free p.1 p.2 g e a,ne,J,d]
def Inv.un {t':η}(I:Ŵ)(u:Un X.fs [] H H' s.τ h')(a0:eI X.À X.w H' h'):Inv X Î σ H' { s with τ:=h',Æ:=t' }:=by
 let[m,⟨o,q,w,g,r⟩,_]:=id I.loc;let[sl,i]:=u.any g I.free (by simp)
 exact I.ı (g':=s.gens) (d':=s.drawn) (ch:=[]) (λ_ z=>nomatch z) (λb o _ c _ e n=>u.Ï b o e n c (by simp)) (λb o _ c _ e n=>u.slot b o e n c (by simp)) (λb o _ e n=>u.free b o e n (by simp)) (λb o _ e=>u.there b o e (by simp)) u.jh u.iA u.jT (λv j=>by let[t,f,d,a,h]:=j;rw[g]at a;ext a;rwa[_,f,d,i,h]) a0 I.bare
def Inv.Ğ {g':Ė GenState}{t':η}{d':Drawn}{ch:Zn}(I:Ŵ)(u:Un IS ch H H' s.τ h')(a0:eI X.À X.w H' h')(l:Ŕ g')(d:∀b∈ch,(b∈X.ex\/X.fD.τ.õ.Υ<=b)/\b≠X.env.ć/\(∀x c,X.env.Ŏ.ω x\c->c≠b)/\∀p∈X.pn++Î,p.1≠b):
 Inv X Î σ H' { s with τ:=h',gens:=g',drawn:=d',Æ:=t' }:=by
 let[m,⟨o,t,y,i,r⟩,_]:=id I.loc;let[sl,g]:=u.any i I.free λz=>(d _ z).2.1 rfl
 exact I.ı (ch:=ch) d (λb o g k hc e n=>u.Ï b o e n (λz=>(aoC.mp (I.DM b z)).Ü g k) hc) (λb o _ _ hc e n=>u.any e n hc) (λb o hc e n=>u.free b o e n hc) (λb o hc e=>u.there b o e hc) u.jh u.iA u.jT (λw q=>by let[v,h,f,a,j]:=q;rw[i]at a;ext a;rwa[_,h,f,g,j]) a0 l
def Inv.turned {t':η}{it:Zs}(I:Ŵ)(k:∀b o,b≠it->s•b\o->h'.get? b\o)(D:H it=ε)(a:it≠X.env.ć)(g:it∈X.ex\/X.fD.τ.õ.Υ<=it)(d:∀x c,X.env.Ŏ.ω x\c->c≠it)(j:∀p∈X.pn++Î,p.1≠it):Inv X Î σ H { s with τ:=h',Æ:=t' }:=by
 let l:∀b u,H b\u->b≠it:=λb u e z=>by cbv
 refine I.ı (g':=s.gens) (d':=s.drawn) (ch:=[it]) (λb f=>?_) (λb o _ _ hc e _=>k b o (λz=>hc (by simp[z])) e) (λb o _ _ hc e _=>{o.č,k b o (λz=>hc (by simp[z])) e}) (λ_ _ _ _ n=>n)
  (λb o hc e=>{o,k b o (λz=>hc (by simp[z])) e}) (λ_ _ e=>e) (λ_ _ _ e=>e) (λb A e=>{#[],by rw[e];simp}) (λm t=>?_) (λb u e=>?_) I.bare
 .let e:b=it:=by simpa using f
  subst e;rwa[g,a,d,j]
 .let[o,i,w,h,r]:=t;rwa[o,i,w,k _ o (apE a) h,r]
 .rwa[(I.a0 b u e).hJ (λc v hc q=>k c v ?_ q) (λ_ q=>q) λ_ _ q=>q]
  cbv
def Inv.tok (I:Ŵ)(t:η):Inv X Î σ H { s with Æ:=t }:=I.un (h':=s.τ) (t':=t) Un.Ł I.a0
def Inv.ņ {t':η}(I:Ŵ)(k:∀b u,s•b\u->h'.get? b\u):Inv X Î σ H { s with τ:=h',Æ:=t' }:=I.un (Un.ņ k) (I.a0.ņ k)
def Inv.ŭ {o:HO}{t':η}(I:Ŵ)(k:∀b u,s•b\u->h'.get? b\u)(c:↥s<=a)(new:cu X.À X.w (Ϻ o) h' a o):
 Inv X Î σ (Ϻ o) { s with τ:=h',Æ:=t' }:=I.un (Un.ŭ k c (I.a0.ó c)) (I.a0.ŭ k c new)
def Inv.write {x e:Zs}{o:HO}{t':η}(I:Ŵ)(mu:wL (H x))(c:e=x\/H e\.own x)(k:∀b u,b≠e->s•b\u->h'.get? b\u)(a:∃u,h'.get? e\u)(new:cu X.À X.w (wS o) h' x o):Inv X Î σ (wS o) { s with τ:=h',Æ:=t' }:=I.un (Un.write mu c k a) (I.a0.write mu c k a new)
def Inv.qR {a:θ (Zs×Obj)}(I:Ŵ)(h:∀p∈a,s•p.1\p.2/\H p.1=ε/\p.1≠X.env.ć/\p.1∉X.fs/\∀v,p.2.ê≠.cell v):Inv X a σ H s:={I.ok,I.os,I.bare,I.Β,I.loc,I.cell,I.free,I.iB,λp b=>(aov.mp b).Ü (λz=>I.pin p (Of z)) (h p),I.a0,I.len}
def xB (d:Z.Á){i j:η}{x:Ñ}(a:Z[i]?\x)(b:Z[j]?\x):i=j:=by let[g,c]:=aoh.mp a;let[f,e]:=aoh.mp b;rwa[(θ.getElem_inj d).mp (c.ν e.Τ)]
def BF {M:Model}{A:ß}{v:V}(I:Ŵ)(hN:X.N.Á)(L:X.N[i]?\x)(l:AC)(r:ì v u)(h:∀O,ϗ Î (σ.set i (ι v)) H O->(∃a,Û.ė a s.τ O.τ/\(a=X.env.ć\/X.env.Ŏ.ω x\a))->U () O)(hf:X.fn x=ρ\/X.env.Ξ.names.ω x=ι .local:=by trivial):Ó M A (storeName X.env x u) U E s:=by
 let[m,hn,hl]:=id I.loc;let J:(X.env.Ξ.kind==.class || (X.env.Ξ.kind==.module && X.env.ć !=X.env.globals))=ς:=by rw[I.ok.kind];rfl
 let B:i < @σ:=by rw[I.len];rwa[(aoh.mp L).1]
 let qP:=I.qP
 let tracked:∀{a:Zs}{h':Û},(∃o,s•a\o/\H a=ε)->Û.ė a s.τ h'->eI X.À X.w H h':=λ{a h'} ha f b ob e=>by
  let[_,_,T]:=ha;rwa[(I.a0 b ob e).hJ (λc R t q=>(f.2 c ?_).ν q) (λ_ q=>q) λ_ _ q=>q]
  cbv
 rcases l with G|G
 .rwa[wpAny_storeName_local G hn (λh' hn' f=>?_) J];let[oL,_,_,hoL,_]:=id hn;rwa[h _ {I.ok,I.os,I.bare,{λb o e n C l=>?_,λb o e n C l=>?_,I.Β.free,λb o e l=>?_,I.Β.jh,I.Β.iA,I.Β.jT},{_,hn',λj y S g w e3=>?_},λy c e=>?_,I.free,I.iB,λp hp=>?_,tracked {oL,hoL,I.free} f,by simpa using I.len} {_,f,.Α Ų}]
  .rwa[(f.2 b (aoT XN)).ν (I.Β.Ï b o e n C l)]
  .let[Y,g]:=I.Β.slot b o e n C l;rwa[Y,(f.2 b (aoT XN)).ν g]
  .let[o',g]:=I.Β.there b o e l;rwa[o',(f.2 b (aoT XN)).ν g]
  .cases D:j=i
   .subst D;rw[L]at g;ext g;rw[ao9 B]at w;ext w;rwa[u,r,.Α {G,by simp}]
   .rw[apz (apE D)]at w;let[u',Q,q]:=hl j y S g w e3;erw[u',Q];rcases q with ⟨k,e⟩|⟨k,c,e,z⟩
    .rwa[.Α {k,?_}];have:y≠x:=λe=>D (xB hN g (e ▸ L))
     simp[Δ,e]
    .rwa[.Ç {k,c,e,ol (qP y c e)}]
  .let[R,z]:=I.cell y c e;rwa[R,ol (qP y c e)]
  .let[e,n,ne,nf,d]:=I.pin p hp;rwa[(f.2 p.1 ne).ν e,n,ne,nf,d]
 .let F:X.fn x=ρ:=by
   rcases hf with z|z
   .rwa[z]
   .cbv
  let[c,t]:=I.ok.has x (.Α G);let[R,z]:=I.cell x c t;rwa[wpAny_storeName_cell I.ok.kind G t z (λh' Z f=>?_)];let[oc,P,amC]:=id z;rwa[h (s<*h') {I.ok,I.os,I.bare,{λb o e n C l=>?_,λb o e n C l=>?_,I.Β.free,λb o e l=>?_,I.Β.jh,I.Β.iA,I.Β.jT},{m,hn.sameBut f (apE (qP x c t)),λj y S g w e3=>?_},λy N e=>?_,I.free,I.iB,λp hp=>?_,tracked {oc,P,I.iB x c t} f,by simpa using I.len} {c,f,.Ç t}]
  .rwa[(f.2 b Z9).ν (I.Β.Ï b o e n C l)]
  .let[Y,g]:=I.Β.slot b o e n C l;rwa[Y,(f.2 b Z9).ν g]
  .let[o',g]:=I.Β.there b o e l;rwa[o',(f.2 b Z9).ν g]
  .cases D:j=i
   .subst D;rw[L]at g;ext g;rw[ao9 B]at w;ext w;rwa[u,r,.Ç {.Α G,c,t,Z}]
   .rw[apz (apE D)]at w;let[u',Q,q]:=hl j y S g w e3;erw[u',Q];rcases q with q|⟨k,N,e,z'⟩
    .rwa[.Α q]
    .rwa[.Ç {k,N,e,z'.sameBut f ?_}];rintro rfl;rwa[D (xB hN g (I.ok.inj γ e t ▸ L))]
  .cases W:N=c
   .cbv
   .let[w2,z2]:=I.cell y N e;rwa[w2,z2.sameBut f W]
  .let[e,n,ne,nf,d]:=I.pin p hp;rwa[(f.2 p.1 ?_).ν e,n,ne,nf,d]
   cbv
def r6 {M:Model}{A:ß}{v:V}(I:Ŵ)(d:X.N.Á)(e:X.N[i]?\x)(f:AC)(r:ì v u)(h:∀a,ϗ Î (σ.set i (ι v)) H a->U () a)(b:X.fn x=ρ\/X.env.Ξ.names.ω x=ι .local:=by trivial):Ó M A (storeName X.env x u) U E s:=BF I d e f r (λa c _=>h a c) b
def Inv.JQ {s':Zu}{ch:Zn}(I:Ŵ)(h:s'.os=s.os)(u:Un IS ch H H' s.τ s'.τ)(a0:eI X.À X.w H' s'.τ)(i:Ŕ s'.gens)(a:∀b∈ch,(b∈X.ex\/X.fD.τ.õ.Υ<=b)/\b≠X.env.ć/\(∀x c,X.env.Ŏ.ω x\c->c≠b)/\∀p∈X.pn++Î,p.1≠b):Inv X Î σ H' s':=by let[h',g,d,f,j]:=s';let e:j=s.os:=h;subst e;rwa[I.Ğ (g':=g) (t':=f) (d':=d) u a0 i a]
end
abbrev XK:=Zt->Zo->Hp->Prop
abbrev St:=List Zc
abbrev VK:=V->Hp->Prop
abbrev TE:=St->Hp->VK->Prop
abbrev TT:=St->Hp->(Bool->Hp->Prop)->Prop
abbrev TA:=St->Hp->(Zb->Hp->Prop)->Prop
structure Ends where
 nx:St->Hp->ο
 rt:VK
 bk:St->Hp->ο:=λ_ _=>Ð
 ct:St->Hp->ο:=λ_ _=>Ð
abbrev TS:=Ends->St->Hp->Prop
def EP (X:Cx)(a:θ (Zs×Obj))(d:St)(Q:VK)(u:Zt)(c:Zu):ο:=∃v b,ϗ a d b c/\ì v u/\Q v b
def TP (X:Cx)(a:θ (Zs×Obj))(e:St)(Q:ã->Hp->ο)(b:ã)(d:Zu):ο:=∃c,ϗ a e c d/\Q b c
def AP (X:Cx)(a:θ (Zs×Obj))(f:St)(Q:Zb->Hp->ο)(e:Zk)(d:Zu):ο:=∃b c,ϗ a f c d/\ä b e/\Q b c
def SP (X:Cx)(b:θ (Zs×Obj))(D:Ends)(f:Flow)(d:Zu):ο:=
 match f with
 |.next=>∃ a c,ϗ b a c d/\D.nx a c
 |.brk=>∃ a c,ϗ b a c d/\D.bk a c
 |.cont=>∃ a c,ϗ b a c d/\D.ct a c
 |.ret u=>∃v a c,ϗ b a c d/\ì v u/\D.rt v c
def PE (X:Cx)(e:ę)(t:TE):ο:=∀(a:θ (Zs×Obj))(s:Zu)(b:St)(H:Hp)(Q:VK),XV s->t b H Q->X⁻¹ X.A Z7 RR X.xe s
def PT (X:Cx)(e:ę)(t:TT):ο:=∀(a:θ (Zs×Obj))(s:Zu)(b:St)(H:Hp)(Q:ã->Hp->ο),XV s->t b H Q->X⁻¹ X.A (tw Z7) (TP X a b Q) X.xe s
def PW (X:Cx)(e:ę)(t:TT):ο:=∀(whole:Sem Zt)(a:θ (Zs×Obj))(s:Zu)(b:St)(H:Hp)(Q:ã->Hp->ο),XV s->t b H Q->X⁻¹ X.A (tw whole) (TP X a b Q) X.xe s
def PW.pt {X:Cx}{t:TT}(h:PW X e t):PT X e t:=h _
def PA (X:Cx)(c:Zr)(t:TA):ο:=∀(pos:Pos)(a:θ (Zs×Obj))(s:Zu)(b:St)(H:Hp)(Q:Zb->Hp->ο),XV s->t b H Q->X⁻¹ X.A (spliced (ZX (Ο c X.env))) (AP X a b Q) X.xe s
def PS (X:Cx)(st:ŕ)(t:TS):ο:=∀(a:θ (Zs×Obj))(s:Zu)(b:St)(H:Hp)(D:Ends),XV s->t D b H->X⁻¹ X.A (exec st X.env) (SP X a D) X.xe s
def hL (X:Cx)(st:θ ŕ)(t:TS):ο:=∀(a:θ (Zs×Obj))(s:Zu)(b:St)(H:Hp)(D:Ends),XV s->t D b H->X⁻¹ X.A (execs st X.env) (SP X a D) X.xe s
def bx {c:Type}{t:Sem c}{Q b:c->Zu->ο}{M:Model}{A:ß}(h:Ó M A t Q E s)(d:∀a s,Q a s->b a s):Ó M A t b E s:=apO h d λ_ _ x=>x
end L2
variable {G:L2.Ends}{X:L2.Cx}
namespace L2
section
variable {X:Cx}
inductive xC (i:η)(σ:St)(H:Hp)(Q:VK):ο
 |mk (v:V):σ[i]?\ι v->Q v H->xC i σ H Q
def tC (v:V):TE:=λ_ H Q=>Q v H
def XI {pos:Pos}(o:X.N[i]?\x)(t:XG X.env.Ξ x)(f:(x==(Ϡ:Ñ))=ς:=by decide)(g:(x==("__classdict__":Ñ))=ς:=by decide):PE X (.ö x pos) (xC i):=by
 intro d s n H Q I h;let[v,e,h]:=h;let[m,p,k]:=I.loc;let[u,r,l]:=k i x v o e t;let fin:EP X d n Q u s:={v,H,I,r,h};rcases l with ⟨b,q⟩|⟨b,c,j,a⟩
 .rwa[wpAny_Name (wpAny_loadName_local I.ok.kind b p q fin) f]
 .rcases b with b|b
  .rwa[wpAny_Name (wpAny_loadName_cell I.ok.kind b j a fin) f]
  .rwa[wpAny_Name (wpAny_loadName_free I.ok.kind b j a fin g) f]
def ak {i j pos}:PE X (.œ (.υ i) j pos) (tC (.υ i)):=λ_ _ _ H _ I h=>wpAny_Constant_int {.υ i,H,I.tok _,{12},h}
def mJ {b j pos}:PE X (.œ (.ħ b) j pos) (tC (.bl b)):=λ_ _ _ H _ I h=>Constant_bool {.bl b,H,I,2,h}
def cW {j pos}:PE X (.œ .ε j pos) (tC .non):=λ_ _ _ H _ I h=>Constant_none {.non,H,I,2,h}
def XJ {x j pos}:PE X (.œ (.str x) j pos) (tC (.str x)):=λ_ _ _ H _ I h=>Calls.Constant_str {.str x,H,I.tok _,{12},h}
def Gl (X:Cx)(x:Ñ):ο:=X.env.Ĉ x=ι .globalImplicit
def iT {a:θ (Zs×Obj)}{e:St}{pos:Pos}(I:Inv X a e H s)(d:AD)(c:X.mg x\u)(h:Q u s)(b:(x==(Ϡ:Ñ))=ς:=by decide):X⁻¹ X.A (å (.ö x pos) X.env) Q E s:=Calls.Name_function_global I.ok.kind d (Calls.loadGlobal_global ([I.ok.glob]▸I.mod.glob.Į I.bk) c h) b
def iK {a:θ (Zs×Obj)}{i:St}{pos:Pos}(I:Inv X a i H s)(g:AD)(c:X.mg x=ε)(d:ŏ x\u)(h:Q u s)(j:x≠HA:=by decide)(b:(x==(Ϡ:Ñ))=ς:=by decide):X⁻¹ X.A (å (.ö x pos) X.env) Q E s:=by let[k,f,e]:=I.mod.blt;rwa[Calls.Name_function_global I.ok.kind g (Calls.loadGlobal_builtin ([I.ok.glob]▸I.mod.glob.Į I.bk) c ([I.ok.blt]▸f.Į I.bk) ((e x j).ν d) h) b]
def qS {v:V}{pos:Pos}(c:AD)(b:X.mg x\u)(r:ì v u)(a:(x==(Ϡ:Ñ))=ς:=by decide):PE X (.ö x pos) (tC v):=λ_ _ _ H _ I h=>iT I c b {v,H,I,r,h} a
def fi {v:V}{pos:Pos}(d:AD)(b:X.mg x=ε)(c:ŏ x\u)(r:ì v u)(e:x≠HA:=by decide)(a:(x==(Ϡ:Ñ))=ς:=by decide):PE X (.ö x pos) (tC v):=λ_ _ _ H _ I h=>iK I d b c {v,H,I,r,h} e a
variable {a b:Expr}{ta tb:TE}{pos:Pos}
def PC (X:Cx)(g:CmpOp)(a b:ę)(t:TE):ο:=
 ∀(c:θ (Zs×Obj))(s:Zu)(f:St)(H:Hp)(Q:VK),ϗ c f H s->t f H Q->X⁻¹ X.A (å a X.env) (λv e=>X⁻¹ X.A (å b X.env) (λu d=>X⁻¹ X.A (ē g v u) (EP X c f Q) X.xe d) X.xe e) X.xe s
def QM (b:ę){c:CmpOp}(h:c≠.In)(f:c≠.NotIn):Ī c b=ς:=by
 let d:(c==CmpOp.In)=ς:=by cbv
 let e:(c==CmpOp.NotIn)=ς:=by cbv
 cases b <;> simp[Ī,d,e]
def tB (t:TE):TT:=λ e H Q=>t e H λx d=>∃c,x=.bl c/\Q c d
def qT {g:CmpOp}{t:TE}(h:PC X g a b t)(f:Ī g b=ς:=by first|rwa[QM _ (by decide) (by decide)]|rfl):PT X (.Compare a [g] [b] pos) (tB t):=by intro e s o H Q I m;rwa[wpAny_isTrue_Compare1 (bx (h e s o H _ I m) λv r f=>bx f λu p i=>bx i λc w ζ=>?_) f];let[x,n,k,j,l]:=ζ;let[d,Ų,q]:=l;ext j;rwa[ap8 {n,k,q}]
def iL {t:TE}(h:PE X e t)(m:∀whole,tw whole=(do let v <-whole;standAt e.pos;holding [v] (truthy v)):=by intro _;rfl):PT X e (tB t):=by intro c s l H Q I j;rwa[isTrue_plain (bx (h c s l H _ I j) λv n ζ=>?_) (m _)];let[x,k,g,f,i]:=ζ;let[d,Ų,q]:=i;ext f;rwa[ap8 {k,g,q}]
variable {tA Ua:TT}{rest:Zr}
def afw (t u:TT):TT:=λ e H Q=>t e H λc d=>if c=ρ then u e d Q else Q ς d
def tOr (t u:TT):TT:=λ e H Q=>t e H λc d=>if c=ρ then Q ρ d else u e d Q
def afx (t:TT):TT:=λ e H Q=>t e H λc d=>Q (!c) d
def V8 (f:Th):PW X (.BoolOp .And [a] pos) tA:=by
 intro i d s g H Q I h;rwa[isTrue_and (bx (f d s g H Q I h) λc j e=>?_)]
 cases c with
 |ρ=>exact isTrue_and_nil e
 |ς=>exact e
def XM (f:Th):PW X (.BoolOp .Or [a] pos) tA:=by
 intro i d s g H Q I h;rwa[isTrue_or (bx (f d s g H Q I h) λc j e=>?_)]
 cases c with
 |ς=>exact isTrue_or_nil e
 |ρ=>exact e
def XP (j:Th)(m:PW X (.BoolOp .And (b::ī) pos) Ua):PW X (.BoolOp .And (a::b::ī) pos) (afw tA Ua):=by
 intro k d s i H Q I h;rwa[isTrue_and (Lr λc l ζ=>?_)];let[e,g,f]:=ζ
 cases c with
 |ρ=>exact m k d l i e Q g f
 |ς=>rwa[e,g,f]
def acK (j:Th)(m:PW X (.BoolOp .Or (b::ī) pos) Ua):PW X (.BoolOp .Or (a::b::ī) pos) (tOr tA Ua):=by
 intro k d s i H Q I h;rwa[isTrue_or (Lr λc l ζ=>?_)];let[e,g,f]:=ζ
 cases c with
 |ρ=>rwa[e,g,f]
 |ς=>exact m k d l i e Q g f
def Mi (f:Th):PT X (.UnaryOp .Not a pos) (afx tA):=by intro d s g H Q I h;rwa[isTrue_not (f d s g H (λc e=>Q (!c) e) I h)]
def acL (ta tb:TE):TE:=λ e H Q=>ta e H λx d=>∃c,x=.bl c/\if c=ρ then tb e d Q else Q (.bl ς) d
def acM (ta:TE):TE:=λ e H Q=>ta e H λx d=>∃c,x=.bl c/\Q (.bl (!c)) d
def qU {e}{t:TE}(h:PE X a t):PE X (.BoolOp e [a] pos) t:=λc s f H Q I d=>BoolOp_one (h c s f H Q I d)
def mS (j:ZB)(m:PE X (.BoolOp .And (b::ī) pos) tb):PE X (.BoolOp .And (a::b::ī) pos) (acL ta tb):=by
 intro d s i H Q I h;rwa[BoolOp_and (Lr λv l ζ=>?_)];let[x,f,g,k,e]:=ζ;let[c,Ų,e]:=e;ext k;rwa[ap8 ?_]
 cases c with
 |ρ=>exact m d l i f Q g e
 |ς=>rwa[.bl ς,f,g,2,e]
def DN (g:ZB):PE X (.UnaryOp .Not a pos) (acM ta):=by intro d s k H Q I h;rwa[UnaryOp_ (bx (g d s k H _ I h) λv l ζ=>?_)];let[x,f,j,i,e]:=ζ;let[c,Ų,e]:=e;ext i;rwa[not_of (ap8 {.bl (!c),f,j,2,e})]
def tIf (t:TT)(ta tb:TE):TE:=λ d H Q=>t d H λc e=>if c=ρ then ta d e Q else tb d e Q
def QN (n:PT X e tA)(l:ZB)(m:MI):PE X (.IfExp e a b pos) (tIf tA ta tb):=by
 intro c s f H Q I h;rwa[wpAny_IfExp (bx (n c s f H _ I h) λd j ζ=>?_)];let[g,k,i]:=ζ
 cases d with
 |ρ=>exact l c j f g Q k i
 |ς=>exact m c j f g Q k i
end
def ay (K:Za1)(H:Hp)(a:Zs)(c:Zb):ο:=
 Rd H a (.Ν c)\/
  ∃(o:Obj)(b:Zm)(n:η),K.ω a\o/\o.cls=.Â ż/\o.ù=ε/\o.ê=.seq b n/\b.Υ<=Ε/\ä c b.Ć
def bG (K:Za1)(H:Hp)(a:Zs)(c:Zb):ο:=
 Rd H a (.Ò c)\/
  ∃(o:Obj)(b:Zm)(n:η),K.ω a\o/\o.cls=.Â ŷ/\o.ê=.seq b n/\b.Υ<=Ε/\ä c b.Ć
def afy:Zt->Zc
 |.ε=>ι .non
 |.ħ b=>ι (.bl b)
 |.υ i _=>ι (.υ i)
 |.str x _=>ι (.str x)
 |.bytes b _=>ι (.pV b)
 |.float b _=>ι (.DK b)
 |.É a=>ι ?a
 |.Â n=>ι (.ty n)
 |_=>ε
def ì.abs {x:V}(r:ì x u):afy u\x:=by
 cases x with
 |non=>ext r;rfl
 |bl _=>ext r;rfl
 |υ _=>let[t,Ų]:=r;rfl
 |str _=>let[t,Ų]:=r;rfl
 |pV _=>let[t,Ų]:=r;rfl
 |DK _=>let[t,Ų]:=r;rfl
 |É _=>ext r;rfl
 |ty _=>ext r;rfl
def ì.inj {x:V}(r:ì x u)(a:ì q u):x=q:=Za0 (r.abs.Τ.ν a.abs)
theorem ä.inj:∀{b ys:Zb}{a:Zk},ä b a->ä ys a->b=ys
 |_,_,_,.nil,.nil=>rfl
 |_,_,_,.È r t,.È c d=>by rw[r.inj c,ä.inj t d]
section
variable {X:Cx}{pins:List (Zs×Obj)}{σ:St}{H:Hp}{s:Zu}{a:Zs}{xs ys:Zb}
def ay.of {K:Za1}(h:H a\.Ν xs):ay K H a xs:=.Α (.Α h)
def bG.of {K:Za1}(h:H a\.Ò xs):bG K H a xs:=.Α (.Α h)
def Inv.Ĥ (I:Ŵ)(h:ay X.K H a xs):∃b:Zk,oe b/\PlainL s.τ a b.χ/\@xs<=Ε:=by
 rcases h with h|⟨o,b,n,c,hc,hd,d,hz,r⟩
 .let[z,b,n,r,e]:=h.ok I.a0;rwa[b,r,{_,n,e,222},z]
 .erw[b.Ć,r,{o,n,I.dJ a o c,hc,hd,3}];let e:=@r;simp only[aqm]at e;ext
def Inv.Ě (I:Ŵ)(h:bG X.K H a xs):∃b:Zk,oe b/\ŗ s.τ a b.χ/\@xs<=Ε:=by
 rcases h with h|⟨o,b,n,c,hc,d,hz,r⟩
 .let[z,b,r,p]:=h.ok I.a0;rwa[b,r,p,z]
 .erw[b.Ć,r,{o,I.dJ a o c,hc,n,3}];let e:=@r;simp only[aqm]at e;ext
def Inv.xD (I:Ŵ)(h:ay X.K H a xs)(i:ay X.K H a ys):xs=ys:=by
 let[c,r,⟨o,n,e,_,_,d⟩,_]:=I.Ĥ h;let[b,j,⟨l,k,g,_,_,f⟩,_]:=I.Ĥ i;rw[e]at g;ext g;rw[d]at f;injection f with d1 _
 have:c=b:=by simpa using apW Ė.Ć d1
 subst Δ;rwa[r.inj j]
def Inv.BG (I:Ŵ)(h:bG X.K H a xs)(i:bG X.K H a ys):xs=ys:=by
 let[c,r,⟨o,e,_,n,d⟩,_]:=I.Ě h;let[b,j,⟨l,g,_,k,f⟩,_]:=I.Ě i;rw[e]at g;ext g;rw[d]at f;injection f with d1 _
 have:c=b:=by simpa using apW Ė.Ć d1
 subst Δ;rwa[r.inj j]
end
abbrev Cx.wish (X:Cx) (E:Zt->Zu->Prop):Cx:={ X with xe:=E }
instance eD.wish {X:Cx}{K:Za1}{f:_}[h:eD X K]:eD (X.wish f) K:={h.eq}
abbrev Cx.DP (X:Cx):Cx:=X.wish λ_ _=>False
def Cx.Ok.wish (ok:X.Ok)(E:Zt->Zu->ο):(X.wish E).Ok:={ok.mod,ok.kind,ok.glob,ok.blt,ok.above,ok.inj,ok.has,ok.DL,ok.hd,ok.frames,ok.HD,ok.T9,ok.bs,ok.wM,ok.xA,ok.AJ,ok.kX,ok.yL}
def Cx.Ok.kY (ok:(X.wish E).Ok):X.Ok:={ok.mod,ok.kind,ok.glob,ok.blt,ok.above,ok.inj,ok.has,ok.DL,ok.hd,ok.frames,ok.HD,ok.T9,ok.bs,ok.wM,ok.xA,ok.AJ,ok.kX,ok.yL}
section
variable {X:Cx}{pins:List (Zs×Obj)}{σ:St}{H:Hp}{s:Zu}{E:Zt->Zu->Prop}
def Inv.wish (I:Ŵ)(E:Zt->Zu->ο):Inv (X.wish E) Î σ H s:={I.ok.wish E,I.os,I.bare,I.Β,I.loc,I.cell,I.free,I.iB,I.pin,I.a0,I.len}
def Inv.kY (I:Inv (X.wish E) Î σ H s):Inv X Î σ H s:={I.ok.kY,I.os,I.bare,I.Β,I.loc,I.cell,I.free,I.iB,I.pin,I.a0,I.len}
def SP.kY {f:Flow}(h:SP (X.wish E) Î G f t):SP X Î G f t:=by
 cases f with
 |next=>let[a,b,I,q]:=h;rwa[a,b,I.kY,q]
 |brk=>let[a,b,I,q]:=h;rwa[a,b,I.kY,q]
 |cont=>let[a,b,I,q]:=h;rwa[a,b,I.kY,q]
 |ret u=>let[v,a,b,I,r,q]:=h;rwa[v,a,b,I.kY,r,q]
def hL.DP {st:θ ŕ}{t:TS}(h:hL X.DP st t):hL X st t:=λpins s σ H D I a=>apO (h Î s σ H D (I.wish _) a) (λ_ _ q=>q.kY) λ_ _ z=>Ð.Ü z
end
section
variable {X:Cx}{st:Stmt}{rest:List Stmt}{t u:TS}{e:Expr}{te:TE}{pos:Pos}
def acN:TS:=λD a H=>D.nx a H
def afz (t u:TS):TS:=λD a H=>t { D with nx:=u D } a H
def bf:hL X [] acN:=λ_ _ a H _ I h=>aq2 {a,H,I,h}
def ai (d:PS X st t)(c:hL X ī u):hL X (st::ī) (afz t u):=by
 intro a s k H D I h;rwa[wpAny_execs_cons (bx (d a s k H { D with nx:=u D } I h) λf i q=>?_)]
 cases f with
 |next=>let[b,j,g,q]:=q;rwa[c a i b j D g q]
 |ret v=>exact q
 |brk=>exact q
 |cont=>exact q
def au (b:PS X st t):hL X [st] t:=by
 intro a s c H D I h;rwa[wpAny_execs_cons (bx (b a s c H D I h) λf d q=>?_)]
 cases f with
 |next=>exact aq2 q
 |ret v=>exact q
 |brk=>exact q
 |cont=>exact q
def XQ:TS:=λD a H=>D.bk a H
def xE:PS X (.Break pos) XQ:=λ_ _ a H _ I h=>wpAny_Break {a,H,I,h}
def Inv.quiet {a:θ (Zs×Obj)}{b:St}(I:Inv X a b H s):interactive X.env=ς:=by simp[interactive,I.ok.kind]
def acO (te:TE):TS:=λD a H=>te a H λ_ b=>D.nx a b
def aX (d:Do)(g:Ķ e ε pos.line X.env=Č ς:=by rfl):PS X (.ę e pos) (acO te):=by intro a s b H D I h;rwa[wpAny_Expr_any (bx (d a s b H _ I h) λv k ζ=>?_) I.quiet g];let[x,c,i,j,f]:=ζ;rwa[b,c,i,f]
def afA (te:TE):TS:=λD a H=>te a H D.rt
def aZ (d:Do):PS X (.Return (ι e) pos) (afA te):=by intro a s b H D I h;rwa[wpAny_Return_some (bx (d a s b H _ I h) λv j ζ=>?_)];let[x,c,i,f,g]:=ζ;rwa[x,b,c,i,f,g]
def acP:TS:=λD _ H=>D.rt .non H
def AK:PS X (.Return ε pos) acP:=λ_ _ a H _ I h=>wpAny_Return_none {.non,a,H,I,2,h}
def afB (c:TT)(t u:TS):TS:=λD a H=>c a H λb d=>if b=ρ then t D a d else u D a d
def bL {c:ę}{a b:θ ŕ}{j:TT}(p:PT X c j)(o:hL X a t)(n:hL X b u):PS X (.If c a b pos) (afB j t u):=by
 intro f s g H D I h;rwa[wpAny_If (bx (p f s g H _ I h) λd m ζ=>?_)];let[l,i,k]:=ζ
 cases d with
 |ρ=>exact o f m g l D i k
 |ς=>exact n f m g l D i k
def XR:TS:=λ_ _ _=>Ð
def oM:PS X st XR:=λ_ _ _ _ _ _ h=>h.Ü
end
abbrev TG:=V->St->Hp->(St->Hp->Prop)->Prop
abbrev HF:=Zb->St->Hp->(St->Hp->Prop)->Prop
def PG (X:Cx)(target:ę)(t:TG):ο:=
 ∀(a:θ (Zs×Obj))(s:Zu)(d:St)(H:Hp)(v:V)(u:Zt)(Q:St->Hp->ο),mm s->ì v u->t v d H Q->X⁻¹ X.A (assign target X.env u) (λ_ e=>∃ b c,ϗ a b c e/\Q b c) X.xe s
def Ub (X:Cx)(h:Zr)(t:HF):ο:=
 ∀(a:θ (Zs×Obj))(s:Zu)(f:St)(H:Hp)(d:Zb)(c:Zk)(Q:St->Hp->ο),ϗ a f H s->ä d c->t d f H Q->X⁻¹ X.A (assignInOrder ((assignEach h X.env).Κ (·.2)) c) (λ_ g=>∃ b e,ϗ a b e g/\Q b e) X.xe s
abbrev QO:=V->V->V->Hp->(Hp->Prop)->Prop
def XS (X:Cx)(t:QO):ο:=
 ∀(a:θ (Zs×Obj))(s:Zu)(e:St)(H:Hp)(o i v:V)(d b u:Zt)(Q:Hp->ο),ϗ a e H s->ì o d->ì i b->ì v u->t o i v H Q->X⁻¹ X.A (setItem d b u) (λ_ f=>∃c,ϗ a e c f/\Q c) X.xe s
section
variable {X:Cx}{pos:Pos}
def pW (i:η):TG:=λv a H Q=>Q (a.set i (ι v)) H
def HG (d:X.N.Á)(e:X.N[i]?\x)(f:AC)(b:X.fn x=ρ\/X.env.Ξ.names.ω x=ι .local:=by trivial):PG X (.ö x pos) (pW i):=by intro a s j H v u Q I r h;rwa[wpAny_assign_Name (r6 I d e f r (λg c=>{_,H,c,h}) b)]
def afC:HF:=λb a H Q=>b=[]/\Q a H
inductive Uc (t:TG)(u:HF)(vs:Zb)(σ:St)(H:Hp)(Q:(St->Hp->ο)):ο
 |mk (v:V)(r:Zb):vs=v::r->(t v σ H λ fH H'=>u r fH H' Q)->Uc t u vs σ H Q
def lV:Ub X [] afC:=by intro a s b H d c Q I r h;let[e,h]:=h;subst e;rwa[assignInOrder_nil {b,H,I,h}]
def dQ {t:TG}{u:HF}(g:PG X e t)(c:Ub X C u)(l:(assignEach (e::C) X.env).Κ (·.2)=assign e X.env::(assignEach C X.env).Κ (·.2):=by rfl):Ub X (e::C) (Uc t u):=by
 intro a s m H o q Q I r h;let[v,p,n,h]:=h;subst n
 cases r with
 |È r i=>rw[l];rwa[assignInOrder_cons (bx (g a s m H γ I r h) λ_ k ζ=>?_)];let[b,j,d,f]:=ζ;rwa[c a k b j β Q d i f]
inductive XT (K:Za1)(n:η)(t:HF)(v:V)(σ:St)(H:Hp)(Q:(St->Hp->ο)):ο
 |mk (a:Zs)(xs:Zb):v=?a->bG K H a xs->@xs=n->t xs σ H Q->XT K n t v σ H Q
def oN {j:Za1}[i:eD X j]{d:Zr}{k:η}{t:HF}{n:η}(E:X.calm=ρ)(h:Ub X d t)(B:@(assignEach d X.env)=n:=by rfl)(f:(assignEach d X.env).findIdx? (·.1)=ε:=by rfl):PG X (.ń d k pos) (XT j n t):=by
 cases i.eq;intro c s l H v u Q I r g;let[a,A,D,w,z,g]:=g;subst D;ext r;let[x,y,m,G]:=I.Ě w;rwa[assign_Tuple_tuple (I.ok.hd E) m (by simp[B,<-z,@y]) f λq C=>?_]
 let p:Inv X c l H (s<*q):=I.ņ (t':=s.Æ) λb o e=>C b o (aoT Cl) e
 rwa[h c _ l H A _ Q p ∅ g]
def afD (to b:TE)(t:QO):TG:=λv a H Q=>to a H λo d=>b a d λi c=>t o i v c λe=>Q a e
def jV {o:ę}{to f:TE}{t:QO}(q:PE X o to)(B:PE X e f)(A:XS X t)(G:∀v,assign (.Ś o e pos) X.env v=(do
  let b <-holding [v] IN
  let c <-holding [v,b] Z7
  standAt pos
  holding [v,b,c] (setItem b c v)
  release [v,b,c] []):=by intro _;rfl):PG X (.Ś o e pos) (afD to f t):=by intro a s d H v u Q I r h;rwa[aof (aps (bx (q a s d H _ I h) λb z ζ=>?_))];let[x,w,i,g,m]:=ζ;rwa[aof (aps (bx (B a z d w _ i m) λc l ζ=>?_))];let[y,D,p,C,E]:=ζ;rwa[aof (arL (aof (aps (bx (A a l d D x y v b c u _ p g C r E) λ_ F ζ=>?_))))];let[j,k,n]:=ζ;rwa[wpAny_release {d,j,k,n}]
def AO (b:TE)(g:TG):TS:=λD a H=>b a H λx c=>g x a c D.nx
def ji {a:ę}{c:TE}{g:TG}(r:PE X a c)(i:PG X e g)(p:swapsWithSole [e] a pos.line X.env=Č ς:=by rfl)(m:swappedStores [e] a X.env=Č ε:=by rfl)(l:(assignEach [e] X.env).Κ (·.2)=[assign e X.env]:=by rfl):PS X (.Assign [e] a pos) (AO c g):=by intro b s d H D I h;rwa[wpAny_Assign_stores (bx (r b s d H _ I h) λv o ζ=>?_) p m];let[x,n,j,f,k]:=ζ;rw[l];rwa[bx (i b o d n x v _ j f k) λ_ t q=>q]
def XU {b:TE}{pos':Pos}(p:X.N.Á)(m:X.N[i]?\x)(o:AC)(q:PE X e b)(l:Ķ e (ι (.ö x pos')) pos.line X.env=Č ς:=by rfl)(j:X.fn x=ρ\/X.env.Ξ.names.ω x=ι .local:=by trivial):
 PS X (.Assign [.ö x pos'] e pos) (AO b (pW i)):=by intro a s n H D I h;rwa[wpAny_Assign_Name (bx (q a s n H _ I h) λv t ζ=>?_) l];let[y,k,d,c,f]:=ζ;rwa[r6 d p m o c (λr g=>{_,k,g,f}) j]
end
section
variable {X:Cx}{pos:Pos}
def XW (c:TT)(h:TS):TS:=λD a H=>∃W:η->St->Hp->ο,(∃m,W m a H)/\∀m a H,W m a H->c a H λb e=>if b=ρ then ∃N:St->Hp->ο,(∀ d g,N d g->∃f,f<m/\W f d g)/\h { D with nx:=N,ct:=N,bk:=D.nx } a e else D.nx a e
def gM {body:θ ŕ}{r:TT}{u:TS}(w:PassesOwn (ñ X.À X.w) X.A X.env X.xe)(P:PT X e r)(E:hL X body u):PS X (.While e body [] pos) (XW r u):=by
 intro c s O H D I h;let[W,⟨J,L⟩,turn]:=h;rwa[wpAny_While (codeAny_whileLoop (λn B=>∃ i z,ϗ c i z B/\W n i z) ?_ J ⟨O,H,I,L⟩)];rintro n M ⟨d,x,F,C⟩;rwa[aqA w (bx (P c M d x _ F (turn n d x C)) λb G ζ=>?_)];let[y,t,k]:=ζ
 cases b with
 |ρ=>
  let[N,A,k]:=k;rwa[aqA w (bx (E c G d y _ t k) λf Q j=>?_)]
  cases f with
  |next=>let[a,g,o,m]:=j;let[p,q,l]:=A a g m;rwa[p,q,a,g,o,l]
  |cont=>let[a,g,o,m]:=j;let[p,q,l]:=A a g m;rwa[p,q,a,g,o,l]
  |brk=>exact j
  |ret v=>exact j
 |ς=>rwa[aq2 {d,y,t,k}]
end
structure It where
 go:η->Hp->ο
 tm:η->Hp->V->Hp->ο
 stop:η->Hp->ο
def r9 (X:Cx)(a:θ (Zs×Obj))(H:Hp)(b:Zs):ο:=H b=ε/\b≠X.env.ć/\b∉X.fs/\(b∈X.ex\/X.fD.τ.õ.Υ<=b)/\(∀x c,X.env.Ŏ.ω x\c->c≠b)/\∀p∈X.pn++a,p.1≠b
def Inv.ua {d:θ (Zs×Obj)}{h:St}(a:Inv X d h H s)(f:↥s<=b)(i:I b=ε):r9 X d I b:=by
 rwa[i,aqc (aoW a.lt f),a.XH f,.Ç (aot a.sz f),λx c e z=>?_,λp g z=>?_]
 .let[v,q]:=a.cell x c e;rwa[Ρ (aoW q.lt ([z]▸f)) fR]
 .rwa[Ρ (aoW (aoL (a.pin p g).1) ([z]▸f)) fR]
structure Turn (P:Í)(w:à)(K:Za1)(tg:ę)(J:It)(fp:Zn)(it:Zs)(tn:η->Û->ο):ο where
 mem:it∈fp
 obj:∀i h,tn i h->∀b∈fp,∃o,h.get? b\o/\∀v,o.ê≠.cell v
 Ï:∀i h h',tn i h->(∀b∈fp,∀o,h.get? b\o->h'.get? b\o)->tn i h'
 item:∀(X:Cx),X.À=P->X.w=w->X.K=K->X.calm=ρ->∀(i:η)(Î:θ (Zs×Obj))(s:Zu)(σ:St)(H:Hp)(E:Zt->Zu->ο),ZZ H s->(∀b∈fp,r9 X Î H b)->tn i s.τ->J.go i H->
  (P<|>w) X.A (Ņ ?it) (λr s1=>∃u,r\u/\(P<|>w) X.A (letOwnedTupleGo tg ?it u) (λ_ s2=>∃x H',ZZ H' s2/\ì x u/\J.tm i H x H'/\tn (i+ 1) s2.τ/\∀b∈fp,H' b=ε) E s1) E s
 done:∀(X:Cx),X.À=P->X.w=w->X.K=K->X.calm=ρ->∀(i:η)(Î:θ (Zs×Obj))(s:Zu)(σ:St)(H:Hp)(E:Zt->Zu->ο),ZZ H s->(∀b∈fp,r9 X Î H b)->tn i s.τ->J.stop i H->(P<|>w) X.A (Ņ ?it) (λr s1=>r=ε/\Inv X Î σ H s1) E s
 self:∀(A:ß)(i:η)(s:Zu)(Q E:Zt->Zu->ο),tn i s.τ->Q ?it s->(P<|>w) A (pyIter ?it) Q E s
abbrev TI:=St->Hp->(It->Hp->Prop)->Prop
def Ud (X:Cx)(a:θ (Zs×Obj))(h:St)(g:ę)(R:It->Hp->ο)(c:Zt)(s2:Zu):ο:=∃(it:Zs)(f:Zn)(e:η->Û->ο)(J:It)(d:Hp),c=?it/\Inv X a h d s2/\Turn X.À X.w X.K g J f it e/\e 0 s2.τ/\(∀b∈f,r9 X a d b)/\R J d
def PI (X:Cx)(d Ħ:ę)(c:TI):ο:=
 ∀(a:θ (Zs×Obj))(s:Zu)(b:St)(H:Hp)(R:It->Hp->ο),XV s->c b H R->X⁻¹ X.A (å Ħ X.env) (λv e=>X⁻¹ X.A (pyIter v) (Ud X a b d R) X.xe e) X.xe s
abbrev Ue:List String:=["enumerate","zip","dict_itemiterator","dict_reverseitemiterator","odict_iterator","itertools.zip_longest","itertools.pairwise"]
def JR {M:Model}{A:ß}{it:Zs}{o:Obj}{n:Ĝ}{b:Zm}(d:s•it\o)(f:o.cls=.Â n)(c:o.ê=.Å b)(g:Ue.contains n=ς)(a:U () s):Ó M A (letOwnedTupleGo e ?it u) U E s:=by
 cases e <;> first
  |rwa[aor a]
  |(cases u <;> first
   |rwa[aor a]
   |(rwa[aof (wpAny_load d ?_)]
     rw[f,c];show Ó M A (if (Ue.contains n && b[0]?==ι (ô _))=ρ then _ else _) U E s;rw[aoK (by cbv)];rwa[aor a]))
def HJ (Q:Hp->Zb->ο):It:={λi H=>∃xs x,Q H xs/\xs[i]?\x,λi H x a=>a=H/\∀xs,Q H xs->xs[i]?\x,λi H=>∃xs,Q H xs/\@xs=i}
abbrev wN (K:Za1) (a:Zs):It:=HJ (λH=>ay K H a)
abbrev HK (K:Za1) (a:Zs):It:=HJ (λH=>bG K H a)
def DQ (lo:π)(n:η):It:={λi _=>i<n,λi H x a=>a=H/\x=.υ (lo+ i),λi _=>n<=i}
def Inv.lW {a:θ (Zs×Obj)}{g:St}{fp:Zn}{t':η}(I:Inv X a g H s)(k:∀b u,b∉fp->s•b\u->h.get? b\u)(d:∀b∈fp,r9 X a H b):Inv X a g H { s with τ:=h,Æ:=t' }:=by
 let i:∀b u,H b\u->b∉fp:=λb u e z=>by rw[(d b z).1]at e;ext e
 refine I.ı (g':=s.gens) (d':=s.drawn) (ch:=fp) (λb f=>{(d b f).2.2.2.1,(d b f).2.1,(d b f).2.2.2.2.1,(d b f).2.2.2.2.2}) (λb o _ _ hc e _=>k b o hc e) (λb o _ _ hc e _=>{o.č,k b o hc e})
  (λb o _ e n=>n) (λb o hc e=>{o,k b o hc e}) (λb l e=>e) (λb o u e=>e) (λb y e=>{#[],by rw[e];simp}) (λm t=>?_) (λb u e=>?_) I.bare
 .let[o,p,w,j,r]:=t;rwa[o,p,w,k _ o (λz=>(d _ z).2.1 Ų) j,r]
 .rwa[(I.a0 b u e).hJ (λc v hc q=>k c v ?_ q) (λc q=>q) λc l q=>q]
  rcases hc with z|z
  .rw[z];rwa[i b u e]
  .rwa[i c _ z]
namespace Et
variable {prog:Program}{w:World}{A:Around}{E:Zt->Zu->Prop}{s:Zu}
theorem item {it:Zs}{Ã:Zm}{x:Zt}(hit:s.τ.Ŧ it a i)(f:s.τ.Ş a Ã)(k:Ã[i]?\x)(h:∀g,g.Ŧ it a (i+ 1)->Û.ė it s.τ g->Q x (s<*g)):(À<|>w) A (Λ.ň.nextOf ?it) Q E s:=by let[o,c,j,b]:=id hit;let[m,e,_,l,d]:=f;rwa[aof (apt (û:=Ñ.Ţ ZR) hit.Ý aqr (apB aqr hit.Ý F.entry_tuple_iterator_next ?_ Tk))];show Ó β (field ?it 0 >>=_) β s;rwa[aof (apg c b (x:=?a) Ų ?_)];rw[aoK (show ¬((Η.É a==Η.ε)=ρ) by cbv)];rwa[aof (apg c b (x:=.υ i 0) Ų ?_)];rwa[aof (arv e d ?_)];simp only[ao8,k];rwa[aof (ap6 c b (by simp) (aor {x,2,aor (h _ {_,ao5 _ c (ap1 (apu b _)),(arj ..).ν j,by rw[apu b];simp[ô]} (apw ..))}))]
theorem fin {it:Zs}{Ã:Zm}(j:A.ą=ε)(hit:s.τ.Ŧ it a i)(k:s.τ.Ş a Ã)(n:Ã[i]?=ε)(l:∀g e,Û.ExtBut it s.τ g->(∃o,g.get? e\o/\o.cls=.Â ZG)->E ?e (s<*g)):(À<|>w) A (Λ.ň.nextOf ?it) Q E s:=by
 let[o,f,q,c]:=id hit;let[r,d,_,p,h]:=k;rwa[aof (apt (û:=Ñ.Ţ ZR) hit.Ý aqr (apB aqr hit.Ý F.entry_tuple_iterator_next ?_ Tk))];show Ó β (field ?it 0 >>=_) β s;rwa[aof (apg f c (x:=?a) Ų ?_)];rw[aoK (show ¬((Η.É a==Η.ε)=ρ) by cbv)];rwa[aof (apg f c (x:=.υ i 0) Ų ?_)];rwa[aof (arv d h ?_)];simp only[ao8,n];rwa[aof (arC (aof (ap6 f c (by simp) ?_)))];rwa[aof ?_];rwa[aof (m:=Ĕ β) (aq3 (a:=Η.ε) (by first|rfl|(simp only[Ĕ];rfl)) ?_)];rwa[ape ?_ (by size_fits)];rwa[aof (wpAny_handled ?_)];first|rw[show A.in1.ą=ε from j]|rw[j]
 rwa[aof (aor (wpAny_throw ?_))];rwa[l β (((apw ..).Ą.Ú _).Ú _) {_,JU Ų,2}]
def draws (m:A.ą=ε)(it l:Zs)(b:l≠it)(Ã:Zm):Draws À w A it [it,l] Ã.Υ (λi v=>Ã[i]?\v) (λi h=>h.Ŧ it l i/\h.Ş l Ã) where
 live:=λ_ _ st=>let ⟨o,a,_⟩:=st.1;{o,a}
 frame:=λ_ _ _ st c=>{st.1.at λo e=>c it (by simp) o e,by let[o,a,r]:=st.2;rwa[o,c l (by simp) o a,r]}
 item:=λi s Q E f st k=>by
  rwa[item st.1 st.2 (x:=Ã[i]) (by simp[f]) λg n d=>?_]
  rwa[k _ g s.Æ (by simp[f]) {n,st.2.Ą d.Ą b} d]
 done:=λs Q E st j=>fin m st.1 st.2 (by simp) j
end Et
def iM {o u:Obj}(c:h.get? a\o)(d:h.get? b\u)(e:o.cls≠u.cls):a≠b:=λz=>by cbv
structure Mj (K:Za1)(Q:Hp->Zb->ο)(a it:Zs)(tn:η->Û->ο):ο where
 ob:∀i h,tn i h->∃o n vs,h.get? it\o/\o.cls=.Â n/\o.ê=.Å vs/\Ue.contains n=ς
 kp:∀i h h',tn i h->(∀o,h.get? it\o->h'.get? it\o)->tn i h'
 dr:∀{X:Cx}{Î:θ (Zs×Obj)}{σ:St}{H:Hp}{s:Zu}{i:η}{xs:Zb},X.K=K->X.calm=ρ->Inv X Î σ H s->Q H xs->tn i s.τ->
  (∀ys,Q H ys->ys=xs)/\∃(its:Zk)(oa:Obj)(St:η->Û->ο),oe its/\s•a\oa/\oa.cls≠.Â ύ/\Draws X.À X.w X.A.in1 it [it,a] its.χ.Υ (λi v=>its.χ[i]?\v) St/\Walks X.À X.w X.A it [it,a] [it] its.χ.Υ (λi v=>its.χ[i]?\v) St/\St i s.τ/\∀i h,St i h->tn i h
def xF {K:Za1}(a it:Zs):Mj K (λH=>ay K H a) a it (λi h=>h.ś it a i) where
 ob:=λi h ζ=>by let[o,e,c,d]:=ζ;rwa[o,11,e,c,d,4]
 kp:=λi h v st k=>st.at k
 dr:=λ{X g B H s i z} m j I q st=>by subst m;let[b,r,p,_]:=I.Ĥ q;let p:=p.î;let[u,f,t,_]:=id p;let[w,l,x,_]:=id st;let n:=iM f l (by cbv);rwa[λys y=>I.xD y q,b,u,_,r,f,by rw[t];decide,Draws.Ĥ (A:=X.A.in1) rc it a n _,.Ĥ rc it a n _,{st,p},λ_ _ y=>y.1]
def V9 {K:Za1}(a it:Zs):Mj K (λH=>bG K H a) a it (λi h=>h.Ŧ it a i) where
 ob:=λi h ζ=>by let[o,e,c,d]:=ζ;rwa[o,11,e,c,d,4]
 kp:=λi h v st k=>st.at k
 dr:=λ{X g B H s i z} m j I q st=>by subst m;let[b,r,p,_]:=I.Ě q;let[u,f,t,_]:=id p;let[w,l,x,_]:=id st;let n:=iM f l (by cbv);rwa[λys y=>I.BG y q,b,u,_,r,f,by rw[t];decide,Et.draws (A:=X.A.in1) rc it a n _,.Ě rc it a n _,{st,p},λ_ _ y=>y.1]
def Ml {P:Í}{w:à}{K:Za1}{J:It}{it:Zs}{j:η->Û->ο}(S:∀i h,j i h->∃o n F,h.get? it\o/\o.cls=.Â n/\o.ê=.Å F/\Ue.contains n=ς)(kp:∀i h g,j i h->(∀o,h.get? it\o->g.get? it\o)->j i g)(wk:∀(X:Cx) (f:θ (Zs×Obj)) (t:St) (H:Hp) (s:Zu) (i:η),X.K=K->X.calm=ρ->Inv X f t H s->j i s.τ->J.go i H\/J.stop i H->∃C n u St,Walks X.À X.w X.A it C [it] n u St/\St i s.τ/\(∀i h,St i h->j i h)/\(J.go i H->i<n/\∀v,u i v->∃x,ì x v/\J.tm i H x H)/\(J.stop i H->i=n))(T:∀(A:ß) (i:η) (s:Zu) (Q:Zt->Zu->ο) (E:Zt->Zu->ο),j i s.τ->Q ?it s->(P<|>w) A (pyIter ?it) Q E s):Turn P w K e J [it] it j where
 mem:=by simp
 obj:=λi h st b D=>by let[o,n,F,a,_,d,_]:=S i h st;rw[aok.mp D];rwa[o,a,by cbv]
 Ï:=λi h g st k=>kp i h g st (k it (by simp))
 item:=by
  intro X N M G O i f s t H E I z st l;subst N M;let[C,n,u,St,W,L,B,q,_]:=wk X f t H s i G O I st (.Α l);let[U,q]:=q l;rwa[No U L λv g R Y p k=>?_]
  let[o,m,F,a,c,d,V]:=S^B^p;let[x,r,y]:=q v Y;rwa[v,2,JR (s:={ s with τ:=g,Æ:=R }) a c d V {x,H,I.lW k z,r,y,B^p,λb D=>(z b D).1}]
 done:=by intro X N M G O i f s t H E I z st l;subst N M;let[C,n,u,St,W,L,B,_,q]:=wk X f t H s i G O I st (.Ç l);rwa[W.done s β (q l ▸ L) λg R k=>{2,I.lW k z}]
 self:=T
def DR {P:Í}{w:à}{K:Za1}{Q:Hp->Zb->ο}{it:Zs}{d:η->Û->ο}(S:Mj K Q a it d)(p:∀(A:ß) (i:η) (s:Zu) (Q:Zt->Zu->ο) (E:Zt->Zu->ο),d i s.τ->Q ?it s->(P<|>w) A (pyIter ?it) Q E s):Turn P w K e (HJ Q) [it] it d:=
 Ml S.ob S.kp (λX j D H s i n t I st h=>by
  obtain⟨b,q⟩:∃b,Q H b:=by rcases h with ⟨b,_,q,_⟩|⟨b,q,_⟩ <;> rwa[b,q]
  let[inj,m,F,St,f,_,_,_,W,o,k]:=S.dr n t I q st;let B:=@f;rwa[1111,W,o,k,λg=>?_,λg=>?_]
  .let[ys,x,y,c]:=g;rw[inj ys y]at c;let[u,C,G]:=f.ű c;rwa[by simp;cbv,λv r=>{x,52,λl z=>[inj l z]▸c}];simp at r
   cbv
  .let[ys,y,c]:=g;rw[inj ys y]at c;simp;omega) p
def BH {P:Í}{w:à}{K:Za1}(a it:Zs):Turn P w K e LA [it] it (λi h=>h.ś it a i):=DR (xF a it) λ_ _ _ _ _ st h=>wpAny_pyIter_listiter st h
def yM {P:Í}{w:à}{K:Za1}(a it:Zs):Turn P w K e (HK K a) [it] it (λi h=>h.Ŧ it a i):=DR (V9 a it) λ_ _ _ _ _ st h=>wpAny_pyIter_tupleiter st h
def JS {P:Í}{w:à}{K:Za1}(it:Zs)(lo:π)(n:η):Turn P w K e (DQ lo n) [it] it (λi h=>IsRangeIter h it (lo+ (i:η)* 1) ((n:π) - (i:η)) 1) where
 mem:=by simp
 obj:=λi h st b f=>by cbv
 Ï:=λi h l st k=>k it (by simp) _ st
 item:=by
  intro X u q p m i d s A H E I g st j;subst u q p;let W:=Walks.range (À:=X.À) (w:=X.w) (I.ok.hd m) it lo 1 n;rwa[No j st λv l x B c y=>?_]
  let[t,Ų]:=B;rwa[12,JR (s:={ s with τ:=l,Æ:=x }) (n:="range_iterator") c Ų Ų ⋯ {.υ (lo+ i),H,I.lW y g,{t,5},{22},c,λb f=>(g b f).1}]
  cbv
 done:=by intro X u q p m i d s A H E I g st j;rwa[wpAny_pyNext_range_end (I.ok.hd m) st (by have:n<=i:=j;omega) λl z=>{2,I.lW (t':=s.Æ) (λb o f a=>z b o (by simpa using f) a) g}]
 self:=λ_ _ _ _ _ st h=>wpAny_pyIter_rangeiter st h
section
variable {X:Cx}{tg:Expr}
def acQ (K:Za1)(tl:TE):TI:=λ d H R=>tl d H λx b=>∃a,x=?a/\(∃c,ay K b a c)/\R LA b
def afE (K:Za1)(tl:TE):TI:=λ d H R=>tl d H λx b=>∃a,x=?a/\(∃c,bG K b a c)/\R (HK K a) b
def DS {a:θ (Zs×Obj)}{d:St}{R:It->Hp->ο}{J:It}{c:η->Û->ο}{o:Obj}(I:Inv X a d H s)(T:Turn X.À X.w X.K tg J [↥s] ↥s c)(f:c 0 (s.τ.Ú o))(q:R J H):
 Ud X a d tg R ↑↥s { s with τ:=s.τ.Ú o,Æ:=n }:={1111,H,2,I.ņ λb o e=>aol _ e,T,f,λb g=>by rw[aok.mp g];rwa[I.ua Ź (I.a0.ó Ź)],q}
def ck {f:Za1}[c:eD X f]{l:ę}{tl:TE}(k:PE X l tl):PI X tg l (acQ f tl):=by
 cases c.eq;intro b s m H R I h;rwa[bx (k b s m H _ I h) λv u ζ=>?_];let[x,r,d,g,a,e,⟨t,i⟩,q]:=ζ
 subst e;ext g;let[j,n,p,o]:=d.Ĥ i;rwa[ap9 p.î (DS d (BH a _) {_,JU Ų,22} q)]
def kZ {i:Za1}[g:eD X i]{l:ę}{tl:TE}(t:PE X l tl):PI X tg l (afE i tl):=by
 cases g.eq;intro c s u H R I h;rwa[bx (t c s u H _ I h) λv s1 ζ=>?_];let[x,r,d,j,n]:=ζ
 let[a,e,⟨A,m⟩,q]:=n;subst e;ext j;let[f,y,p,z]:=d.Ě m;rwa[wpAny_pyIter_tuple (show s1.τ.Ş a f.χ from p) ?_];rwa[↥s1,[↥s1],11,r,2,d.ņ (t':=s1.Æ) λb o e=>aol _ e,yM a _,{_,JU Ų,22},λb k=>?_,q];let e:b=↥s1:=by simpa using k
 subst e;rwa[d.ua Ź (d.a0.ó Ź)]
def DT {a:θ (Zs×Obj)}{c:St}{R:It->Hp->ο}{lo:π}{t u v:Tok}(I:Inv X a c H s)(g: -(2 ^ 62)<=lo)(d:lo<2 ^ 62)(i: -(2 ^ 62)<=z)(f:z<2 ^ 62)(q:R (DQ lo (z - lo).Φ) H):X⁻¹ X.A (pyIter ↑↥s) (Ud X a c tg R) E { s with τ:=s.τ.Ú (US>>>.Å #[.υ lo t,.υ z u,.υ 1 v]),Æ:=n }:=by
 rwa[wpAny_pyIter_range (IsRange.new ..) (small_one g d i f) (DS (s:={ s with τ:=s.τ.Ú _,Æ:=n }) (I.ņ λb o e=>aol _ e) (JS _ lo (z - lo).Φ) ?_ q)];let j:lo+ ((0:η):π)* 1=lo:=by simp
 let h:(((z - lo).Φ:η):π) - ((0:η):π)=Λ.Range.rangeSize lo z 1:=by rw[rangeSize_one];split <;> ext
 rw[j,h];rwa[JU Ų]
def acR (c:TA):TI:=λ d H R=>c d H λa b=>∃j:π,a=[.υ j]/\-(2 ^ 62)<=j/\j<2 ^ 62/\R (DQ 0 j.Φ) b
def acS (c:TA):TI:=λ d H R=>c d H λa b=>∃i j:π,a=[.υ i,.υ j]/\(-(2 ^ 62)<=i/\i<2 ^ 62/\-(2 ^ 62)<=j/\j<2 ^ 62)/\R (DQ i (j - i).Φ) b
def dC {d:TA}{pos:Pos}(g:Gl X US)(n:X.mg US=ε)(o:PA X [e] d)(l:Ο [e] X.env=[(ς,å e X.env)]:=by rfl):PI X tg (.ġ (.ö US p) [e] [] pos) (acR d):=by
 intro a s m H R I h;rwa[Call_ (iK I g n boot_range (apo (bx (o pos a s m H _ I h) λy x ζ=>?_) l Ų))];let[v,w,i,f,c]:=ζ;let[j,b,c,u,q]:=c;subst b
 cases f with
 |È r k=>ext k;let[t,Ų]:=r;rwa[call_range_1 (DT i ∅ ∅ c u (by simpa using q))]
def ku {b:ę}{k:TA}{pos:Pos}(n:Gl X US)(y:X.mg US=ε)(z:PA X [e,b] k)(w:Ο [e,b] X.env=[(ς,å e X.env),(ς,å b X.env)]:=by rfl)(d:Ο [b] X.env=[(ς,å b X.env)]:=by rfl):
 PI X tg (.ġ (.ö US p) [e,b] [] pos) (acS k):=by
 intro a s x H R I h;rwa[Call_ (iK I n y boot_range (apo (bx (z pos a s x H _ I h) λF E ζ=>?_) (by rw[w,d]) (by rw[d];rfl)))];let[C,D,o,m,f]:=ζ;let[i,j,c,⟨f,A,u,v⟩,q]:=f;subst c
 cases m with
 |È r g=>
  cases g with
  |È l g=>ext g;let[t,Ų]:=r;let[B,Ų]:=l;rwa[call_range_2 (DT o f A u v q)]
abbrev ub (J:It) (g:TG) (tb:TS) (D:Ends) (σ:St) (H:Hp):Prop:=∃W:Nat->Nat->St->Hp->Prop,(∃m,W 0 m σ H)/\∀i m σ H,W i m σ H->
 (J.stop i H/\D.nx σ H)\/(J.go i H/\∃N:St->Hp->Prop,(∀ fH H',N fH H'->∃m',m'<m/\W (i+ 1) m' fH H')/\∀x H',J.tm i H x H'->g x σ H' λ σ2 H2=>tb { D with nx:=N,ct:=N,bk:=D.nx } σ2 H2)
def afF (c:TI)(g:TG)(b:TS):TS:=λD a H=>c a H λJ d=>ub J g b D a d
def yN (a:Zn)(h:Û):θ (Zs×Obj):=a.filterMap λb=>(h.get? b).Κ λo=>(b,o)
def jy {o:Obj}(a:b∈F)(e:h.get? b\o):(b,o)∈yN F h:=θ.mem_filterMap.mpr {b,a,by rw[e];rfl}
def Mm {p:Zs×Obj}(a:p∈yN F h):p.1∈F/\h.get? p.1\p.2:=by
 let[b,c,e]:=θ.mem_filterMap.mp a
 cases q:h.get? b with
 |ε=>rw[q]at e;ext e
 |ι o=>cbv
def Inv.pinned {a:θ (Zs×Obj)}{c:St}(I:Inv X a c H s)(f:∀b∈F,r9 X a H b)(i:∀b∈F,∃o,s•b\o/\∀v,o.ê≠.cell v):Inv X (a++yN F s.τ) c H s:=
 I.qR λp d=>(aov.mp d).Ü (λz=>I.pin p (Q2 z)) λz=>by
  let[g,e]:=Mm z;let[j,f1,h,_]:=f p.1 g
  cbv
def Inv.xG {a pl:θ (Zs×Obj)}{b:St}(I:Inv X (a++pl) b H s):Inv X a b H s:=I.qR λp c=>I.pin p (Q2 (Of c))
def bO {Ħ:ę}{body:θ ŕ}{R:TI}{g:TG}{Y:TS}{pos:Pos}(E:PassesOwn (ñ X.À X.w) X.A X.env X.xe)(V:X.calm=ρ)(hi:PI X tg Ħ R)(hg:PG X tg g)(k:hL X body Y)(hs:∀x,ZH x=Č x:=by intro _;rfl):PS X (.For tg Ħ body [] pos) (afF R g Y):=by
 intro c s σ H D I h;rwa[wpAny_For (bx (hi c s σ H _ I h) λv s1 h1=>bx h1 λitv s2 h2=>?_) hs];let[it,A,tn,J,H2,e,I2,T,O,U,W,⟨m0,w0⟩,turn]:=h2;subst e
 let stat:∀{t:Hp},(∀b∈A,t b=ε)->∀b∈A,r9 X c t b:=λhn b k=>{hn b k,(U b k).2}
 rwa[codeAny_forLoop_any (λn s'=>∃i q t,ϗ c q t s'/\tn i s'.τ/\(∀b∈A,t b=ε)/\W i n q t) ?_ m0 ⟨(0),σ,H2,I2,O,λb k=>(U b k).1,w0⟩];rintro n s3 ⟨i,j,F,Z,B,C,w3⟩;rcases turn i n j F w3 with ⟨stop,qn⟩|⟨go,N,hN,ı⟩
 .rwa[aqA E (bx (T.done X Ų Ų Ų V i c s3 j F X.xe Z (stat C) B stop) λr s4 ζ=>?_)];let[P,I4]:=ζ;subst P;rwa[aq2 {j,F,I4,qn}]
 .rwa[aqA E (bx (T.item X Ų Ų Ų V i c s3 j F X.xe Z (stat C) B go) λr s4 ζ=>?_)];let[u,P,h4]:=ζ;subst P;rwa[aqA E (bx h4 λ_ s5 ζ=>?_)];let[x,S,I5,r5,y5,y,L]:=ζ;let Q:=I5.pinned (stat L) (T.obj^y);rwa[aqA E (bx (hg _ s5 j S x u _ Q r5 (ı x S y5)) λ_ s6 ζ=>?_)];let[M,H6,I6,q6]:=ζ;rwa[aqA E (bx (k _ s6 M H6 _ I6 q6) λf G w=>?_)]
  let again:∀{a:St}{l:Hp},ϗ (c++yN A s5.τ) a l G->N a l->∃m,m<n/\∃i q t,ϗ c q t G/\tn i G.τ/\(∀b∈A,t b=ε)/\W i m q t:=λ{a l} p z=>by let[m',hm,w7]:=hN a l z;rwa[m',hm,i+ 1,a,l,p.xG,T.Ï γ y λb k o e=>(p.pin (b,o) (Q2 (Q2 (jy k e)))).1,λb k=>?_,w7];let[o,e,d]:=T.obj β y b k;rwa[(p.pin (b,o) (Q2 (Q2 (jy k e)))).2.1]
  cases f with
  |next=>let[a,l,p,z]:=w;rwa[again p z]
  |cont=>let[a,l,p,z]:=w;rwa[again p z]
  |brk=>let[a,l,p,w]:=w;rwa[a,l,p.xG,w]
  |ret v=>let[x7,a,l,p,r7,w]:=w;rwa[x7,a,l,p.xG,r7,w]
end
section
variable {g:TG}{tb:TS}{D:Ends}{σ:St}{H:Hp}{Pv:Nat->St->Hp->Prop}
def vy {J:It}(j:Pv 0 σ H)(d:∀i σ H,i<n->Pv i σ H->J.go i H/\∀x c,J.tm i H x c->g x σ c λ b e=>tb { D with nx:=Pv (i+ 1),ct:=Pv (i+ 1),bk:=D.nx } b e)(f:∀ σ H,Pv n σ H->J.stop n H/\D.nx σ H):ub J g tb D σ H:=by
 erw[λi m σ H=>m=n - i/\i<=n/\Pv i σ H,{n,2,aoN _,j}];rintro i m σ H ⟨rfl,o,p⟩;cases a:i<n
 .rwa[.Ç {(d i σ H a p).1,Pv (i+ 1),λ k c h=>{n - (i+ 1),32,a,h},(d i σ H a p).2}]
 .obtain rfl:i=n:=∅
  rwa[.Α (f σ H p)]
def cF {Q:Hp->Zb->ο}{xs:Zb}(Pv:η->St->Hp->ο)(f:Pv 0 σ H)(b:∀i σ H,i<=@xs->Pv i σ H->Q H xs)(h:∀i x σ H,xs[i]?\x->Pv i σ H->g x σ H λ a e=>tb { D with nx:=Pv (i+ 1),ct:=Pv (i+ 1),bk:=D.nx } a e)(d:∀ σ H,Pv @xs σ H->D.nx σ H):ub (HJ Q) g tb D σ H:=vy f (λi σ H c p=>{{xs,xs[i],b i σ H (aqj c) p,aoe c},λx j y=>by rw[y.1];rwa[h i x σ _ (y.2 xs (b i σ _ (aqj c) p)) p]}) λ σ H p=>{{xs,b _ σ H Ź p,2},d σ H p}
def du {lo:π}(Pv:η->St->Hp->ο)(e:Pv 0 σ H)(f:∀i σ H,i<n->Pv i σ H->g (.υ (lo+ i)) σ H λ a d=>tb { D with nx:=Pv (i+ 1),ct:=Pv (i+ 1),bk:=D.nx } a d)(c:∀ σ H,Pv n σ H->D.nx σ H):ub (DQ lo n) g tb D σ H:=vy e (λi σ H b p=>{b,λx h y=>by rw[y.1,y.2];rwa[f i σ _ b p]}) λ σ H p=>{aoo n,c σ H p}
end
abbrev R2:=V->V->Hp->VK->Prop
def gX (X:Cx)(f:Zt->Zt->Sem Zt)(r:R2):ο:=
 ∀(a:θ (Zs×Obj))(s:Zu)(b:St)(H:Hp)(x y:V)(v u:Zt)(Q:VK),XV s->ì x v->ì y u->r x y H Q->X⁻¹ X.A (f v u) RR X.xe s
def XX (X:Cx)(f:Zt->Sem Zt)(r:V->Hp->VK->ο):ο:=
 ∀(a:θ (Zs×Obj))(s:Zu)(b:St)(H:Hp)(x:V)(v:Zt)(Q:VK),XV s->ì x v->r x H Q->X⁻¹ X.A (f v) RR X.xe s
def gY (X:Cx)(f:Zt)(r:Zb->Hp->VK->ο):ο:=
 ∀(a:θ (Zs×Obj))(s:Zu)(d:St)(H:Hp)(c:Zb)(b:Zk)(Q:VK),mm s->ä c b->r c H Q->X⁻¹ X.A (Ğ f b) (EP X a d Q) X.xe s
def afG (X:Cx)(r:V->Hp->(ã->Hp->ο)->ο):ο:=
 ∀(a:θ (Zs×Obj))(s:Zu)(b:St)(H:Hp)(x:V)(v:Zt)(Q:ã->Hp->ο),XV s->ì x v->r x H Q->X⁻¹ X.A (truthy v) (TP X a b Q) X.xe s
def Mp (r:R2)(e b:TE):TE:=λ a H Q=>e a H λx d=>b a d λy c=>r x y c Q
def tUn (r:V->Hp->VK->ο)(b:TE):TE:=λ c H Q=>b c H λx a=>r x a Q
inductive rI (C:π->π->ο)(g:π->π->V)(x y:V)(H:Hp)(Q:VK):ο
 |mk (i j:π):x=.υ i->y=.υ j->C i j->Q RE H->rI C g x y H Q
inductive BI (g:π->π->V)(x y:V)(H:Hp)(Q:VK):ο
 |mk (i j:π):x=.υ i->y=.υ j->Q RE H->BI g x y H Q
inductive rU (g:π->V)(x:V)(H:Hp)(Q:VK):ο
 |mk (i:π):x=.υ i->Q (g i) H->rU g x H Q
section
variable {X:Cx}{a b:Expr}{ta tb:TE}{pos:Pos}
def QP (z:ZB)(n:MI){d:θ (Zs×Obj)}{s:Zu}{e:St}{H:Hp}{R:V->V->Hp->ο}(I:Inv X d e H s)(h:ta e H λx l=>tb e l λy g=>R x y g){Q:Zt->Zu->ο}{f:Zt->Zt->Sem Zt}(r:∀v u k x y g,ϗ d e g k->ì x v->ì y u->R x y g->X⁻¹ X.A (f v u) Q X.xe k):
 X⁻¹ X.A (å a X.env) (λv j=>X⁻¹ X.A (å b X.env) (λu i=>X⁻¹ X.A (f v u) Q X.xe i) X.xe j) X.xe s:=by
 rwa[bx (z d s e H _ I h) λv t ζ=>?_];let[x,l,o,m,p]:=ζ
 rwa[bx (n d t e l _ o p) λu k ζ=>?_];let[y,g,q,w,A]:=ζ
 rwa[r v u k x y g q m w A]
def aJ {e:Operator}{r:R2}(j:gX X (ĕ e) r)(o:ZB)(f:MI):PE X (.BinOp a e b pos) Ty:=by intro d s m H Q I h;rwa[wpAny_BinOp (QP o f I h λv u g x y n i k l q=>j d g m n x y v u Q i k l q)]
def fE {e:UnaryOp}{r:V->Hp->VK->ο}(g:XX X (unaryOp e) r)(j:ZB):PE X (.UnaryOp e a pos) (tUn r ta):=by intro d s f H Q I h;rwa[UnaryOp_ (bx (j d s f H _ I h) λv m ζ=>?_)];let[x,i,n,k,l]:=ζ;rwa[g d m f i x v Q n k l]
def Mq {f:Zt->Zt->Sem Zt}{C:π->π->ο}{g:π->π->π}(rule:∀(i j:π) (t u:Tok) (s:Zu) (Q:Zt->Zu->ο) (E:Zt->Zu->ο),C i j->Q (.υ RE s.Æ) { s with Æ:=s.Æ+ 1 }->X⁻¹ X.A (f (.υ i t) (.υ j u)) Q E s):
 gX X f (rI C λi j=>.υ RE):=by intro d s n H x y v u Q I k l h;let[i,j,Ų,Ų,m,q]:=h;let[t,Ų]:=k;let[e,Ų]:=l;rwa[Sk m {.υ RE,H,I.tok _,{12},q}]
def XY {f:Zt->Zt->Sem Zt}{g:π->π->π}(rule:∀(i j:π) (t u:Tok) (s:Zu) (Q:Zt->Zu->ο) (E:Zt->Zu->ο),Q (.υ RE s.Æ) { s with Æ:=s.Æ+ 1 }->X⁻¹ X.A (f (.υ i t) (.υ j u)) Q E s):
 gX X f (BI λi j=>.υ RE):=by intro d s m H x y v u Q I k l h;let[i,j,Ų,Ų,q]:=h;let[t,Ų]:=k;let[e,Ų]:=l;rwa[Sk {.υ RE,H,I.tok _,{12},q}]
def QQ {f:Zt->Zt->Sem Zt}{g:π->π->ã}(rule:∀(i j:π) (t u:Tok) (s:Zu) (Q:Zt->Zu->ο) (E:Zt->Zu->ο),Q (.ħ RE) s->X⁻¹ X.A (f (.υ i t) (.υ j u)) Q E s):
 gX X f (BI λi j=>.bl RE):=by intro d s m H x y v u Q I k l h;let[i,j,Ų,Ų,q]:=h;let[t,Ų]:=k;let[e,Ų]:=l;rwa[Sk {.bl RE,H,I,2,q}]
def afH (i j:π):ο:=0<j/\j<1073741824
def afI (i j:π):ο:=0<=j/\j<=1000000/\i.Ä<2 ^ 64
def QR (i j:π):ο:=(-(2 ^ 64)<i/\i<2 ^ 64)\/(-(2 ^ 64)<j/\j<2 ^ 64)
def QR.ok (h:QR z y):IntMulOk z y:=by
 rcases h with ⟨e,d⟩|⟨e,d⟩
 .rwa[.of_left (intBits_le_64 e d)]
 .rwa[.of_right (intBits_le_64 e d)]
def cZ:gX X (ĕ .Add) (BI λi j=>.υ (i+ j)):=XY λ_ _ _ _ _ _ _ q=>add_int q
def gC:gX X (ĕ .Sub) (BI λi j=>.υ (i - j)):=XY λ_ _ _ _ _ _ _ q=>sub_int q
def iN:gX X (ĕ .Mult) (rI QR λi j=>.υ (i* j)):=Mq λ_ _ _ _ _ _ _ d q=>mul_int q d.ok
def df:gX X (ĕ .FloorDiv) (rI afH λi j=>.υ (i / j)):=Mq λi j _ _ _ _ _ d q=>by let f:(0:π)<j:=d.1;let e:j<1073741824:=d.2;rwa[floordiv_int ∅ ([cr ∅]▸q) (.Α (ÿ.noPylong_small ∅))]
def cO:gX X (ĕ .Mod) (rI (λ_ j=>0<j) λi j=>.υ (i % j)):=Mq λi j _ _ _ _ _ d q=>by rwa[mod_int' ∅ ([π.fmod_eq_emod_of_nonneg i ∅]▸q)]
def Mr:gX X (ĕ .Pow) (rI afI λi j=>.υ (HPow.hPow i j.Φ)):=Mq λ_ _ _ _ _ _ _ d q=>pow_int_small d.1 d.2.1 d.2.2 q
def unI {f:Zt->Sem Zt}{g:π->π}(rule:∀(i:π) (t:Tok) (s:Zu) (Q:Zt->Zu->ο) (E:Zt->Zu->ο),Q (.υ (g i) s.Æ) { s with Æ:=s.Æ+ 1 }->X⁻¹ X.A (f (.υ i t)) Q E s):
 XX X f (rU λi=>.υ (g i)):=by intro d s j H x v Q I e h;let[i,Ų,q]:=h;let[t,Ų]:=e;rwa[rule i t s β {.υ (g i),H,I.tok _,{12},q}]
def dR:XX X (unaryOp .USub) (rU λi=>.υ (-i)):=unI λ_ _ _ _ _ q=>neg_int q
end
def QS:V->V->ã
 |.non,.non=>ρ|.non,.υ _=>ρ|.υ _,.non=>ρ|.non,.bl _=>ρ|.bl _,.non=>ρ|.non,.str _=>ρ|.str _,.non=>ρ
 |.υ _,.υ _=>ρ|.bl _,.bl _=>ρ|.str _,.str _=>ρ|.pV _,.pV _=>ρ
 |.υ _,.str _=>ρ|.str _,.υ _=>ρ|.bl _,.str _=>ρ|.str _,.bl _=>ρ
 |_,_=>ς
inductive rEq (x y:V)(H:Hp)(Q:VK):ο
 |mk:QS x y=ρ->Q (.bl (decide (x=y))) H->rEq x y H Q
inductive rNe (x y:V)(H:Hp)(Q:VK):ο
 |mk:QS x y=ρ->Q (.bl (!decide (x=y))) H->rNe x y H Q
def HL:decide (V.υ z=V.υ y)=(z==y):=by rw[aqn];simp
def Ms {i j:ã}:decide (V.bl i=V.bl j)=(i==j):=by rw[aqn];simp
def HM {j:Ñ}:decide (V.str x=V.str j)=(x==j):=by rw[aqn];simp
def HN {i j:Ė UInt8}:decide (V.pV i=V.pV j)=(i.Ć==j.Ć):=by rw[aqn];ext i;ext j;simp
section
variable {X:Cx}{a b:Expr}{ta tb:TE}{pos:Pos}
def cw {d:θ (Zs×Obj)}{g:St}{Q:VK}{k f:ã}(I:Inv X d g H s)(q:Q (.bl k) H)(e:k=f):EP X d g Q (.ħ f) s:=by subst e;rwa[.bl k,H,I,2,q]
def dS:gX X (ē .Eq) rEq:=by
 intro k s l H x y v u Q I g d h;let[f,q]:=h
 cases x with
 |non=>
  ext g
  cases y with
  |non=>ext d;rwa[Γ.Ŝ.eq_none_none (ϭ (by simp))]
  |bl j=>ext d;rwa[Γ.Ŝ.eq_none_bool (ϭ (by simp))]
  |υ j=>let[e,Ų]:=d;rwa[Γ.Ŝ.eq_none_int (ϭ (by simp))]
  |str j=>let[e,Ų]:=d;rwa[Γ.Ŝ.eq_none_str (ϭ (by simp))]
  |_=>exact Ρ (show ς=ρ from f) ao7
 |bl i=>
  ext g
  cases y with
  |non=>ext d;rwa[Γ.Ŝ.eq_bool_none (ϭ (by simp))]
  |bl j=>ext d;rwa[eq_bool (ϭ Ms)]
  |str j=>let[e,Ų]:=d;rwa[Γ.EqMixed.eq_bool_str (ϭ (by simp))]
  |_=>exact Ρ (show ς=ρ from f) ao7
 |υ i=>
  let[t,Ų]:=g
  cases y with
  |non=>ext d;rwa[Γ.Ŝ.eq_int_none (ϭ (by simp))]
  |υ j=>let[e,Ų]:=d;rwa[eq_int (ϭ HL)]
  |str j=>let[e,Ų]:=d;rwa[Γ.EqMixed.eq_int_str (ϭ (by simp))]
  |_=>exact Ρ (show ς=ρ from f) ao7
 |str i=>
  let[t,Ų]:=g
  cases y with
  |non=>ext d;rwa[Γ.Ŝ.eq_str_none (ϭ (by simp))]
  |bl j=>ext d;rwa[Γ.EqMixed.eq_str_bool (ϭ (by simp))]
  |υ j=>let[e,Ų]:=d;rwa[Γ.EqMixed.eq_str_int (ϭ (by simp))]
  |str j=>let[e,Ų]:=d;rwa[eq_str (ϭ HM)]
  |_=>exact Ρ (show ς=ρ from f) ao7
 |pV i=>
  let[t,Ų]:=g
  cases y with
  |pV j=>let[e,Ų]:=d;rwa[Γ.W.eq_bytes (ϭ HN)]
  |_=>exact Ρ (show ς=ρ from f) ao7
 |_=>cases y <;> rwa[Ρ (show ς=ρ from f) ao7]
def vz:gX X (ē .NotEq) rNe:=by
 intro k s l H x y v u Q I g d h;let[f,q]:=h
 cases x with
 |non=>
  ext g
  cases y with
  |non=>ext d;rwa[Γ.Ŝ.ne_none_none (ϭ (by simp))]
  |bl j=>ext d;rwa[Γ.Ŝ.ne_none_bool (ϭ (by simp))]
  |υ j=>let[e,Ų]:=d;rwa[Γ.Ŝ.ne_none_int (ϭ (by simp))]
  |str j=>let[e,Ų]:=d;rwa[Γ.Ŝ.ne_none_str (ϭ (by simp))]
  |_=>exact Ρ (show ς=ρ from f) ao7
 |bl i=>
  ext g
  cases y with
  |non=>ext d;rwa[Γ.Ŝ.ne_bool_none (ϭ (by simp))]
  |bl j=>ext d;rwa[ne_bool (ϭ (apW not Ms))]
  |str j=>let[e,Ų]:=d;rwa[Γ.EqMixed.ne_bool_str (ϭ (by simp))]
  |_=>exact Ρ (show ς=ρ from f) ao7
 |υ i=>
  let[t,Ų]:=g
  cases y with
  |non=>ext d;rwa[Γ.Ŝ.ne_int_none (ϭ (by simp))]
  |υ j=>let[e,Ų]:=d;rwa[ne_int (ϭ (apW not HL))]
  |str j=>let[e,Ų]:=d;rwa[Γ.EqMixed.ne_int_str (ϭ (by simp))]
  |_=>exact Ρ (show ς=ρ from f) ao7
 |str i=>
  let[t,Ų]:=g
  cases y with
  |non=>ext d;rwa[Γ.Ŝ.ne_str_none (ϭ (by simp))]
  |bl j=>ext d;rwa[Γ.EqMixed.ne_str_bool (ϭ (by simp))]
  |υ j=>let[e,Ų]:=d;rwa[Γ.EqMixed.ne_str_int (ϭ (by simp))]
  |str j=>let[e,Ų]:=d;rwa[ne_str (ϭ (apW not HM))]
  |_=>exact Ρ (show ς=ρ from f) ao7
 |pV i=>
  let[t,Ų]:=g
  cases y with
  |pV j=>let[e,Ų]:=d;rwa[Γ.W.ne_bytes (ϭ (apW not HN))]
  |_=>exact Ρ (show ς=ρ from f) ao7
 |_=>cases y <;> rwa[Ρ (show ς=ρ from f) ao7]
def ot:gX X (ē .Lt) (BI λi j=>.bl (decide (i<j))):=QQ λ_ _ _ _ _ _ _ q=>lt_int q
def pX:gX X (ē .Gt) (BI λi j=>.bl (decide (j<i))):=QQ λ_ _ _ _ _ _ _ q=>gt_int q
def Ug:gX X (ē .GtE) (BI λi j=>.bl (decide (j<=i))):=QQ λ_ _ _ _ _ _ _ q=>ge_int q
def k6:gX X (ē .Is) (λx y H Q=>y=.non/\Q (.bl (decide (x=.non))) H):=by
 intro d s g H x y v u Q I e f h;let[Ų,q]:=h;ext f;rwa[is_none_gen (ϭ ?_)]
 cases x <;> first
  |(ext e;rfl)
  |(let[t,Ų]:=e;rfl)
def vA:gX X (ē .IsNot) (λx y H Q=>y=.non/\Q (.bl (!decide (x=.non))) H):=by
 intro d s g H x y v u Q I e f h;let[Ų,q]:=h;ext f;rwa[isnot_none_gen (ϭ ?_)]
 cases x <;> first
  |(ext e;rfl)
  |(let[t,Ų]:=e;rfl)
def bq (b:ę){d:CmpOp}(h:d≠.In:=by decide)(g:d≠.NotIn:=by decide):Ī d b=ς:=by
 let e:(d==CmpOp.In)=ς:=by cbv
 let f:(d==CmpOp.NotIn)=ς:=by cbv
 cases b <;> simp[Ī,e,f]
def kx {e:CmpOp}{r:R2}(j:gX X (ē e) r)(p:ZB)(f:MI)(n:Ī e b=ς):PE X (.Compare a [e] [b] pos) Ty:=by intro d s m H Q I h;rwa[wpAny_Compare1 (QP p f I h λv u g x y o i k l q=>j d g m o x y v u Q i k l q) n]
inductive XZ (x:V)(H:Hp)(Q:ã->Hp->ο):ο
 |mk (k:ã):x=.bl k->Q k H->XZ x H Q
def acT (t:TE):TT:=λ e H Q=>t e H λx d=>XZ x d Q
def a9 {g:CmpOp}{r:R2}(A:gX X (ē g) r)(G:ZB)(l:MI)(E:Ī g b=ς):PT X (.Compare a [g] [b] pos) (acT Ty):=by
 intro d s f H Q I h
 rwa[wpAny_isTrue_Compare1 (bx (G d s f H _ I h) λv C ζ=>?_) E];let[x,B,m,j,q]:=ζ;rwa[bx (l d C f B _ m q) λu p ζ=>?_];let[y,F,w,D,J]:=ζ;rwa[ bx (A d p f F x y v u _ w j D J) λc L ζ=>?_];let[z,n,o,i,k,e,t]:=ζ
 subst e;ext i;rwa[ap8 {n,o,t}]
def X1 (K:Za1)(x:V)(H:Hp)(k:ã):ο:=
 match x with
 |.non=>k=ς
 |.bl b=>k=b
 |.υ i=>k=(i !=0)
 |.str y=>@y<=Ε/\k=((@y:π) !=0)
 |.pV y=>y.Υ<=Ε/\k=((y.Υ:π) !=0)
 |.É p=>(∃xs,yY p xs/\k=!xs.è)\/(∃xs,bG K H p xs/\k=!xs.è)\/∃d,H p\.dK d/\k=!d.è
 |_=>Ð
def JT {f:Type}{d:θ (f×V)}{e:θ (f×Zt)}(r:KV d e):(!e.è)=!d.è:=by cases r <;> rfl
def yO {xs:Zb}(r:ä xs N):(!N.χ.è)=!xs.è:=by cases r <;> simp
def oO:(Ε:η)<2 ^ 63:=⋯
def X2 {u:Za1}[o:eD X u]:afG X (λx H Q=>∃k,X1 u x H k/\Q k H):=by
 cases o.eq;intro z s E H x v Q I g h;let[k,e,q]:=h;let C:=oO;let D:Ε=16777216:=Š
 cases x with
 |non=>ext g;let d:k=ς:=e;subst d;rwa[truthy_none {H,I,q}]
 |bl b=>ext g;let d:k=b:=e;subst d;rwa[ap8 {H,I,q}]
 |υ i=>let[t,Ų]:=g;let d:k=(i !=0):=e;subst d;rwa[Γ.P.truthy_int {H,I,q}]
 |str y=>let[t,Ų]:=g;obtain⟨A,d⟩:@y<=Ε/\k=((@y:π) !=0):=e;subst d;rwa[Γ.P.truthy_str ∅ {H,I.tok _,q}]
 |pV y=>let[t,Ų]:=g;obtain⟨A,d⟩:y.Υ<=Ε/\k=((y.Υ:π) !=0):=e;subst d;rwa[Γ.W.truthy_bytes ∅ {H,I.tok _,q}]
 |É p=>
  ext g;let d:(∃xs,ay X.K H p xs/\k=!xs.è)\/(∃xs,bG X.K H p xs/\k=!xs.è)\/∃f,H p\.dK f/\k=!f.è:=e;rcases d with ⟨xs,j,d⟩|⟨xs,j,d⟩|⟨f,j,d⟩
  .subst d;let[n,r,pl,w]:=I.Ĥ j;let æ:=@r;rwa[wpAny_truthy_list pl.î (by simp only[aoI];omega) {H,I.tok _,[yO r]▸q}]
  .subst d;let[n,r,pl,w]:=I.Ě j;let æ:=@r;rwa[truthy_tuple pl (by simp only[aoI];omega) {H,I.tok _,[yO r]▸q}]
  .subst d;obtain⟨w,B,l,r,m⟩:@f<=Ε/\(p==ë)=ς/\∃l,KV f l/\s.τ.ů (cq X.À X.w) p l:=I.a0 p _ j;let æ:@f=@l:=Paired.ü r;rwa[wpAny_truthy_dict B m ∅ {H,I.tok _,[JT r]▸q}]
 |_=>exact(show Ð from e).Ü
def DU {i:Za1}[f:eD X i](m:ZB)(l:∀whole,isTrue a X.env whole=(do let v <-whole;standAt a.pos;holding [v] (truthy v))):
 PT X a (λ e H Q=>ta e H λx g=>∃k,X1 i x g k/\Q k g):=by cases f.eq;intro d s e H Q I h;rwa[isTrue_plain (bx (m d s e H _ I h) λv p ζ=>?_) (l _)];let[x,j,q,n,o]:=ζ;rwa[X2 d p e j x v Q q n o]
def vals1 {x:V}(r:ä [x] N):∃u,N=[u]/\ì x u:=by
 cases r with
 |È e d=>ext d;rwa[12,e]
def vals2 {x:V}(r:ä [x,q] N):∃u d,N=[u,d]/\ì x u/\ì q d:=by
 cases r with
 |È h e=>
  cases e with
  |È g f=>ext f;rwa[112,h,g]
def xH:gY X (.Ι "abs") (λd H Q=>∃i,d=[.υ i]/\Q (.υ (if i<0 then -i else i)) H):=by intro e s j H d f Q I r h;let[i,Ų,q]:=h;let[u,Ų,t,Ų]:=vals1 r;rwa[call_abs_int λu g=>{.υ (if i<0 then -i else i),H,I.tok _,{12},q}]
def BJ (g:X.calm=ρ):gY X (.Ι NE) (λe H Q=>∃i j,e=[.υ i,.υ j]/\Q (.υ (if j > i then j else i)) H):=by
 intro f s p H e v Q I r h;let[i,j,Ų,q]:=h;let[u,l,Ų,⟨t,rfl⟩,⟨m,rfl⟩]:=vals2 r;rwa[max_two_ints (I.ok.hd g) λn o k=>{_,H,I.ņ k,5,q}]
 cases d:j > i
 .rw[aoO d,aoO d];rwa[12]
 .rw[aoK d,aoK d];rwa[12]
def BK (g:X.calm=ρ):gY X (.Ι "min") (λe H Q=>∃i j,e=[.υ i,.υ j]/\Q (.υ (if j<i then j else i)) H):=by
 intro f s p H e v Q I r h;let[i,j,Ų,q]:=h;let[u,l,Ų,⟨t,rfl⟩,⟨m,rfl⟩]:=vals2 r;rwa[min_two_ints (I.ok.hd g) λn o k=>{_,H,I.ņ k,5,q}]
 cases d:j<i
 .rw[aoO d,aoO d];rwa[12]
 .rw[aoK d,aoK d];rwa[12]
end
structure xI (h:Û)(x dx C:Zs)(mA:Ñ->Zl):ο where
 obj:h.get? x\(ĸ C dx)
 ns:h.Ns1 dx mA
 ne:dx≠x
def BL (n:h.Ns1 a M):∃d,h.get? a\d/\∀û,lookIn û d\(M û):=by
 let[o,k,m,i,f,g,_,l]:=n;rwa[o,i,λname=>?_];let e:=l û;unfold nsFind findBy at e;rw[<-Ė.find?_toList]at e;unfold lookIn;rw[f];dsimp only;split
 .cbv
 .rename_i q;rw[q]at e
  let b:k.Ć.any (·.refKey)=ς:=by rw[θ.any_eq_false];intro y j;let[z,t,c]:=g y (Ė.mem_toList_iff.mp j);simp[Ļ.refKey,c]
  cbv
def xI.look {x dx:Zs}(I:xI h x dx a M):∃b,Γ.W.InstAt h x (ĸ a dx) a (ι b)/\∀û,lookIn û b\(M û):=
 let ⟨b,c,d⟩:=BL I.ns
 {b,{I.obj,22,c},d}
section
variable {prog:Program}{w:World}{A:Around}{E:Zt->Zu->Prop}{s:Zu}{K:Za1}{x dx C f:Zs}{mA:Str->Zl}{name:Str}{v:Zt}
def get_map {expr:ã}(X:OA)(I:SA)(g:š K C û=ρ)(d:Ĺ K C=ρ)(c:Õ K ?C û\ε)(b:mA û\v)(a:Γ.W.handedIn v=ρ)(h:Q v { s with Æ:=s.Æ+ 1 }):
 (À<|>w) A (getAttr ?x û expr) Q E s:=by let[i,J,e]:=I.look;rwa[Γ.W.get_value X J (plainGet_of g).1 (Γ.W.findObj_own d c Ų (by rw[e,b])) a h]
def QT {pl:l5}{Q:Zt×Zk->Zu->ο}(X:OA)(I:SA)(a:š K C û=ρ)(b:Õ K ?C û\ι ?f)(g:isFn K ?f=ρ)(c:mA û=ε)(h:Q (?f,[?x]) s):
 (À<|>w) A (getMethod ?x û pl) Q E s:=by let[d,J,e]:=I.look;rwa[Γ.W.method_fn X J (plainGet_of a).1 (plainGet_of a).2 b (arD.mp g) (by show (lookIn û d).Κ (·.ě)\ς;rw[e,c];rfl) h]
def Wa {ns:Zp}(X:OA)(I:SA)(t:Õ K ?C QU=ι (ι (.Ι ϙ)))(o:plainOver K C=ρ)(l:takerIn K C û\ε)(q:Ĺ K C=ρ)(p:Γ.Within mA ns)(n:@ns<=Ε)(h:∀e,xI e x dx C (λy=>if y=û then ι v else mA y)->Û.ė dx s.τ e->U () { s with τ:=e,Æ:=s.Æ+ 2 }):
 (À<|>w) A (setAttr ?x û v) U E s:=by
 let[H,J,G]:=I.look;rwa[Γ.W.set_plain X J t (Γ.W.osa_open (s:={ s with Æ:=s.Æ+ 1 }) (r:=ε) X J o l λb=>?_)];let[F,z,k]:=Γ.W.any_some q;let u:s•x\⟨?C,ι dx,.plain,#[]⟩:=I.obj;rwa[aof (aor (aof (aof (wpAny_loadPart u (aof (Γ.W.Ĵ.here (s:={ s with Æ:=s.Æ+ 1 }) (Γ.W.looks_clsIn X z) ?_))))))];rw[k];rwa[aor (a:=ι dx) (aof (aor (aof ?_)))];rwa[wpAny_nsSet1 (s:={ s with Æ:=s.Æ+ 1 }) I.ns λe d c=>?_]
 let[D,B,m,j,g,i]:=d.count (Γ.Within.È û v p);rwa[aof (wpAny_lookBehind j ([g]▸pastItsLine_dict (aot i (by rw[aoA];omega))) ?_)];rwa[aor (h _ {(c.2 _ (apE I.ne)).ν I.obj,d,I.ne} c)]
def QV {R:Result->Zu->ο}{a:θ (Ñ×Zt)}(X:OA)(b:makesIn K C=ρ)(d:Õ K ?C ϐ=ι (ι ?f))(c:Γ.W.typeIn K ?f\(.Â mi))(h:codeAny Ϥ (A.under (.Ι OR {?C::N,a})) (.Ğ ?f {↑(↥s+ 1)::N,a}) (Γ.W.InitBack (↥s+ 1) R)
  { s with τ:=(s.τ.Ú Ē).Ú (ĸ C ↥s) }):
 codeAny Ϥ A (.Ğ ?C {N,a}) R s:=by rwa[Γ.W.make_core (makes_of X b) (Γ.W.ģ X d) (λself=>Γ.W.bind_fn X self c) (.Α Ų) h]
def Mt {R:Result->Zu->ο}(X:OA)(a:makesIn K C=ρ)(c:Õ K ?C ϐ=ι (ι (.Ι ϟ)))(b:∀self,Γ.W.Ĵ Ϥ s.τ (bindSpecial (.Ι ϟ) self) (.Ι ϟ,[self]))(h:codeAny Ϥ (A.under (.Ι OR ⟨[?C],[]⟩)) (.Ğ (.Ι ϟ) ⟨[↑(↥s+ 1)],[]⟩) (Γ.W.InitBack (↥s+ 1) R)
  { s with τ:=(s.τ.Ú Ē).Ú (ĸ C ↥s) }):
 codeAny Ϥ A (.Ğ ?C {[],[]}) R s:=by rwa[Γ.W.make_core (makes_of X a) (Γ.W.ģ X c) b (.Ç {22}) h]
end
def bP (f:Ñ)(v:V):θ (Ñ×V)->θ (Ñ×V)
 |[]=>[(f,v)]
 |(g,x)::r=>if g=f then (g,v)::r else (g,x)::bP f v r
theorem eZ (f g:Ñ)(v:V):∀fs:θ (Ñ×V),(Pe fs).ω g=if g=f then ι v else fs.ω g
 |[]=>by
  show θ.ω g [(f,v)]=_
  cbv
 |(k,x)::r=>by
  let a:=eZ f g v r;rw[show bP f v ((k,x)::r)=(if k=f then (k,v)::r else (k,x)::bP f v r) from rfl]
  cbv
theorem mU (f:Ñ)(v:V):∀fs:θ (Ñ×V),f∈(Pe fs).Κ (·.1)/\∀g,g∈fs.Κ (·.1)->g∈(Pe fs).Κ (·.1)
 |[]=>{by simp[bP],λg h=>by simp at h}
 |(k,x)::r=>by
  let[a,b]:=mU f v r;rw[show bP f v ((k,x)::r)=(if k=f then (k,v)::r else (k,x)::bP f v r) from rfl]
  cbv
theorem wO (f:Ñ)(v:V):∀fs:θ (Ñ×V),@(Pe fs)<=@fs+ 1
 |[]=>by simp[bP]
 |(k,x)::r=>by
  let a:=wO f v r;rw[show bP f v ((k,x)::r)=(if k=f then (k,v)::r else (k,x)::bP f v r) from rfl]
  cbv
def fB.some_of {v:V}{o:Zl}(r:fB (ι v) o):∃u,o\u/\ì v u:=by
 cases o with
 |ε=>exact(show Ð from r).Ü
 |ι u=>rwa[u,2,r]
def fB.none_of {o:Zl}(r:fB ε o):o=ε:=by
 cases o with
 |ε=>rfl
 |ι u=>exact(show Ð from r).Ü
def BM (r:ì q u):Γ.W.handedIn u=ρ:=by
 cases q with
 |non=>cases (show u=Η.ε from r);rfl
 |bl b=>cases (show u=Η.ħ b from r);rfl
 |υ i=>let[t,e]:=(show ∃t,u=Η.υ i t from r);ext e;rfl
 |str x=>let[t,e]:=(show ∃t,u=Η.str x t from r);ext e;rfl
 |pV b=>let[t,e]:=(show ∃t,u=Η.bytes b t from r);ext e;rfl
 |DK b=>let[t,e]:=(show ∃t,u=Η.float b t from r);ext e;rfl
 |É a=>cases (show u=Η.É a from r);rfl
 |ty n=>cases (show u=Η.Â n from r);rfl
section
variable {P:Program}{w:World}{H:Hp}{h:Heap}{a C dx:Zs}{fs:List (Str×V)}
def vB (c:ϸ)(e:H a\.ins C dx fs):∃b,xI h a dx C b/\(∀f,ID (b f))/\Γ.Within b (fs.Κ (·.1))/\@fs<=1000/\H dx\(.own a):=by let[d,z,ne,g,b,n,r,q]:=(show cu P w H h a (.ins C dx fs) from c a _ e);rwa[b,{g,n,ne},r,q,z,d]
end
structure mV (K:Za1)(C:Zs):ο where
 pg:š K C Ñ.empty=ρ
 hd:Ĺ K C=ρ
 po:plainOver K C=ρ
 sa:Õ K ?C QU=ι (ι (.Ι ϙ))
def mV.ű {K:Za1}(c:mV K a)(f:Ñ):š K a f=ρ:=c.pg
def mW (K:Za1)(C:Zs)(f:Ñ):ο:=Õ K ?C f\ε
def mW.JV {K:Za1}(n:mW K a x):takerIn K a x\ε:=by unfold takerIn;rw[show Õ K ?a x=ι ε from n];rfl
structure Meth (K:Za1)(C:Zs)(m:Ñ)(f:Zs):ο where
 at_:Õ K ?C m\(ι ?f)
 fn:isFn K ?f=ρ
 kp:Ĭ K ?f=ρ
section
variable {X:Cx}{pins:List (Zs×Obj)}{σ:St}{H:Hp}{s:Zu}{a C dx:Zs}{fs:List (Str×V)}{f:Str}{v:V}{A:Around}{E:Zt->Zu->Prop}
def JW {b:ã}(I:Ŵ)(e:H a\.ins C dx fs)(c:LB)(n:mW X.K C f)(l:fs.ω f\v)(h:∀u d,ZZ H d->ì v u->Q u d):X⁻¹ A (getAttr ?a f b) Q E s:=by let[j,O,r,_,_,_]:=vB I.a0 e;let[u,i,g]:=fB.some_of (v:=v) (o:=j f) (by rw[<-l];rwa[r f]);rwa[get_map I.dJ O (c.ű f) c.hd n i (BM g) (h u _ ZQ g)]
def yP {pl:l5}{Q:Zt×Zk->Zu->ο}(I:Ŵ)(e:H a\.ins C dx fs)(c:LB)(k:Meth X.K C x b)(l:fs.ω x=ε)(h:Q (?b,[?a]) s):X⁻¹ A (getMethod ?a x pl) Q E s:=by let[g,O,r,_,_,_]:=vB I.a0 e;let d:g x=ε:=fB.none_of (by cbv);rwa[QT I.dJ O (c.ű x) k.at_ k.fn d h]
def JX (I:Ŵ)(e:H a\.ins C dx fs)(c:LB)(n:mW X.K C f)(J:@fs<1000)(D:ì q u)(h:∀j,ZZ (Ϻ (.ins C dx (bP f q fs))) j->U () j):X⁻¹ A (setAttr ?a f u) U E s:=by
 let[F,O,r,k,_,l]:=vB I.a0 e;let B:@(fs.Κ (·.1))<=Ε:=by rw[aog,Š];ext
 rwa[Wa I.dJ O c.sa c.po n.JV c.hd k B λw i G=>h _ ?_]
 let m:∃o,w.get? dx\o:=let ⟨o,_,_,y,_⟩:=i.ns;{o,y}
 rwa[I.write (x:=a) (e:=dx) ([e]▸þ.intro) (.Ç l) (λb d p z=>(G.2 b p).ν z) m ?_];rwa[[aq O.ne]▸l,5,O.ne,i.obj,_,i.ns,λg=>?_,λg t=>?_]
 .have:=wO f q fs;ext
 .show fB ((bP f q fs).ω g) (if g=f then ι u else F g);rw[eZ];cases d:g=f
  .rw[aoO d,aoO d];rwa[D]
  cbv
 .cases d:g=f
  .rw[d];rwa[(mU f q fs).1]
  .rwa[(mU f q fs).2 g (k g λz=>t ?_)]
   cbv
def Inv.made (I:Ŵ):Inv X Î σ (ψ (ψ H ↥s (.own (↥s+ 1))) (↥s+ 1) (.ins C ↥s []))
 { s with τ:=(s.τ.Ú Ē).Ú (ĸ C ↥s) }:=by
 let c:(s.τ.Ú Ē).get? ↥s\Ē:=aoD s.τ rfl
 let k:((s.τ.Ú Ē).Ú (ĸ C ↥s)).get? (↥s+ 1)\(ĸ C ↥s):=by
  have:=aoD (s.τ.Ú Ē) (o:=ĸ C ↥s) rfl
  rwa [aqW]at Δ
 let d:(s.τ.Ú Ē).Ns ↥s (λ_=>ε):={Ē,#[],_,c,2,(λe g=>Ρ g (by simp)),λ_=>rfl};let j:=I.ŭ (a:=↥s) (o:=.own (↥s+ 1)) (h':=s.τ.Ú Ē) (t':=s.Æ) (λb u q=>aol _ q) Ź {_,c};rwa[j.ŭ (a:=↥s+ 1) (o:=.ins C ↥s []) (t':=s.Æ) (λb u q=>aol _ q) (arE (aqW β)) ?_];let ne:↥s≠↥s+ 1:=aoT (apX _);rwa[by rw[aq ne,aj],aoN _,ne,k,λ_=>ε,(Û.Ns1.of_empty d).at λo q=>aol _ q,λ_=>þ.intro,λy h=>Ρ Ų h]
def HP {b:Í}{w:à}{env:Env}{f:Ñ}{pos:Pos}{s:Zu}(d:Đ e f env (å e env)=å e env)(h:(b<|>w) A (å e env) (λo c=>(b<|>w) A (getAttr o f ρ) Q E c) E s):(b<|>w) A (å (.â e f pos) env) Q E s:=Attribute_any_ h (by rw[arm_eval_Attribute,d])
end
inductive X3 (K:Za1)(f:Ñ)(x:V)(H:Hp)(Q:VK):ο
 |mk (a C dx:Zs)(fs:θ (Ñ×V))(v:V):x=?a->H a\.ins C dx fs->mV K C->mW K C f->fs.ω f\v->Q v H->X3 K f x H Q
def X4 (K:Za1)(b:TE)(f:Ñ):TE:=λ c H Q=>b c H λx a=>X3 K f x a Q
inductive X5 (K:Za1)(f:Ñ)(y x:V)(H:Hp)(N:Hp->ο):ο
 |mk (a C dx:Zs)(fs:θ (Ñ×V)):x=?a->H a\.ins C dx fs->mV K C->mW K C f->@fs<1000->N (Ϻ (.ins C dx (bP f y fs)))->X5 K f y x H N
def afJ (K:Za1)(e b:TE)(f:Ñ):TS:=λD a H=>b a H λy d=>e a d λx c=>X5 K f y x c (D.nx a)
section
variable {X:Cx}{o e value:Expr}{f:Str}{pos pos':Pos}{ta tv:TE}
def aI {g:Za1}[d:eD X g](t:PE X e ta)(i:Đ e f X.env Z7=å e X.env):PE X (.â e f pos) (X4 g ta f):=by cases d.eq;intro b s r H Q I h;rwa[HP i (bx (t b s r H _ I h) λu B ζ=>?_)];let[x,m,j,p,a,C,D,fs,v,ex,y,c,n,l,q]:=ζ;subst ex;obtain rfl:u=Η.É a:=p;rwa[JW j y c n l λA z k w=>{v,m,k,w,q}]
def cy {i:Za1}[d:eD X i](B:Tl)(A:PE X Ō tv)(v:Ķ Ō (ι (.â o f pos')) pos.line X.env=Č ς):PS X (.Assign [.â o f pos'] Ō pos) (afJ i ta tv f):=by cases d.eq;intro b s g H D I h;rwa[plainObj_wpAny_Assign_Attribute (bx (A b s g H _ I h) λu r ζ=>?_) v];let[y,p,j,w,q]:=ζ;rwa[bx (B b r g p _ j q) λt G ζ=>?_];let[x,J,m,z,a,C,M,fs,ex,E,c,n,l,F]:=ζ;subst ex;obtain rfl:t=Η.É a:=z;rwa[JX m E c n l w λL k=>{g,_,k,F}]
end
section
variable {X:Cx}{pins:List (Zs×Obj)}{σ:St}{H:Hp}{s:Zu}{A:Around}{E:Zt->Zu->Prop}{Q:Zt->Zu->Prop}{c:Zt}{b:Bool}
inductive lX (K:Za1)(H:Hp):V->Zt->ο where
 |non:lX K H .non (.Â "NoneType")
 |bl (x:ã):lX K H (.bl x) (.Â LI)
 |υ (i:π):lX K H (.υ i) (.Â Z0)
 |str (x:Ñ):lX K H (.str x) (.Â ZU)
 |DK (x:UInt64):lX K H (.DK x) (.Â "float")
 |Ν {a:Zs} {xs:Zb} (e:H a\.Ν xs):lX K H ?a (.Â ż)
 |dI {a:Zs} {o:Obj} {xs:Zb} (e:H a\.dI o (.Ν xs)):lX K H ?a (.Â ż)
 |Ò {a:Zs} {xs:Zb} (e:H a\.Ò xs):lX K H ?a (.Â ŷ)
 |dK {a:Zs} {kvs:θ (Key×V)} (e:H a\.dK kvs):lX K H ?a (.Â ϲ)
 |dT {a:Zs} {kvs:θ (Zd×V)} (e:H a\.dT kvs):lX K H ?a (.Â ϲ)
 |ins {a C dx:Zs} {fs:θ (Ñ×V)} (e:H a\.ins C dx fs) (cl:mV K C) (ha:Õ K ?C ZF=ι (ι (.Ι ϊ)))
  (hn:specialIn K (.Ι ϊ) "__get__"=ι (ι (.Ι ϛ))) (htk:Γ.W.takesIn K (.Ι ϊ)\ρ)
  (hm:mroIn K C (.Â ZO)\ρ):lX K H ?a ?C
def Mu {x:V}(I:Ŵ)(d:ì x u)(B:lX X.K H x v)(e:ľ X.K v c\b)(h:∀r,Q (.ħ b) { s with Æ:=r }):
 X⁻¹ A (Ğ (.Ι Fa) [u,c]) Q E s:=by
 cases B with
 |non=>cases (show u=Η.ε from d);rwa[apK Γ.W.kitx_none I.dJ þ.intro e (λz=>nomatch z) h]
 |bl y=>cases (show u=Η.ħ y from d);rwa[apK Γ.W.kitx_bool I.dJ þ.intro e (λz=>nomatch z) h]
 |υ i=>let[v,q]:=(show ∃v,u=Η.υ i v from d);ext q;rwa[apK Γ.W.kitx_int I.dJ þ.intro e (λz=>nomatch z) h]
 |str y=>let[v,q]:=(show ∃v,u=Η.str y v from d);ext q;rwa[apK Γ.W.kitx_str I.dJ þ.intro e (λz=>nomatch z) h]
 |DK y=>let[v,q]:=(show ∃v,u=Η.float y v from d);ext q;rwa[apK Γ.W.kitx_float I.dJ þ.intro e (λz=>nomatch z) h]
 | @Ν a k f=>cases (show u=Η.É a from d);let[_,_,n,_,g]:=(show cu X.À X.w H s.τ a (.Ν k) from I.a0 a _ f);rwa[apK kitx_list I.dJ {_,g,2} e (λz=>nomatch z) h]
 | @dI a t k f=>cases (show u=Η.É a from d);let[_,_,_,n,_,g]:=(show cu X.À X.w H s.τ a (.dI t (.Ν k)) from I.a0 a _ f);rwa[apK kitx_list I.dJ {_,g,2} e (λz=>nomatch z) h]
 | @Ò a k f=>cases (show u=Η.É a from d);let[_,_,_,p]:=(show cu X.À X.w H s.τ a (.Ò k) from I.a0 a _ f);let[o,g,l,_]:=p;rwa[apK Γ.W.kitx_tuple I.dJ {o,g,l} e (λz=>nomatch z) h]
 | @dK a j f=>cases (show u=Η.É a from d);let[_,_,M,_,p]:=(show cu X.À X.w H s.τ a (.dK j) from I.a0 a _ f);let[o,w,F,g,l,_]:=p;rwa[apK Γ.W.kitx_dict I.dJ {o,g,l.1} e (λz=>nomatch z) h]
 | @dT a j f=>cases (show u=Η.É a from d);let[_,_,k,_,o,w,F,g,l,_]:=(show cu X.À X.w H s.τ a (.dT j) from I.a0 a _ f);rwa[apK Γ.W.kitx_dict I.dJ {o,g,l.1} e (λz=>nomatch z) h]
 | @ins a C R fs f cl L D m G=>cases (show u=Η.É a from d);let[N,O,_]:=vB I.a0 f;let[P,J,_]:=O.look;rwa[apK (Γ.W.kitx_own (cl.ű _) cl.hd L D m G) I.dJ J e (λz=>nomatch z) h]
end
structure dy (k:η)(A:ß):ο where
 hd:A.ą=ε
 dp:A.depth+ 3* k+ 5<recursionLimit
 un:A.İ+ 16* k+ 200<Ť
def dy.mono {k:η}{A:ß}(r:dy k A)(h:j<=k):dy j A:={r.hd,by have:=r.dp;ext,by have:=r.un;ext}
def dy.Za5 {j k:η}{A:ß}(r:dy k A)(h:j<=k:=by decide):dy j A:=r.mono h
def dy.deeper {k:η}{A:ß}(r:dy (k+ 1) A)(env:Env):dy k (A.deeper env):={r.hd,by have:=r.dp;show A.depth+ 1+ 3* k+ 5<_;ext,by have:=r.un;show A.İ+ 3+ 16* k+ 200<_;ext}
def JY {A:ß}{b:θ (Ñ×Zt)}:(A.under (.Ι OR {?a::N,b})).depth=A.depth+ 1:=by first|rfl|simp[ß.under,Code.weight,Code.isCreation,Code.isGuard,Code.isCaller,Code.frames,Code.isFrame,guardIds]
def JZ {A:ß}{b:θ (Ñ×Zt)}:(A.under (.Ι OR {?a::N,b})).İ=A.İ+ 1:=by first|rfl|simp[ß.under,Code.cUnits,Code.frames,Code.isFrame]
def dy.Ę {k:η}{A:ß}(r:dy (k+ 1) A)(C:Zs)(b:Zk)(a:θ (Ñ×Zt)):dy k (A.under (.Ι OR {?C::b,a})):={r.hd,by have:=r.dp;rw[JY];ext,by have:=r.un;rw[JZ];ext}
def dy.depth {k:η}{A:ß}(r:dy k A):A.depth<recursionLimit:=by have:=r.dp;ext
def dy.İ {k:η}{A:ß}(r:dy k A):A.İ+ 64<Ť:=by have:=r.un;ext
def uc:TA:=λ_ H Q=>Q [] H
def vC (e:TE)(tr:TA):TA:=λ a H Q=>e a H λx c=>tr a c λd b=>Q (x::d) b
section
variable {X:Cx}{e:Expr}{es:Zr}{te:TE}{t:TA}{pos:Pos}
def ah:PA X [] uc:=λ_ _ _ _ H Q I h=>ap2 {[],H,I,.nil,h}
def ae (p:Do)(j:PA X es t)(m:Ο (e::es) X.env=(ς,å e X.env)::Ο es X.env:=by rfl):PA X (e::es) (vC te t):=by intro pos a s b H Q I h;rw[m];rwa[apn (bx (p a s b H _ I h) λu l ζ=>?_)];let[x,i,d,c,f]:=ζ;rwa[bx (j pos a l b i _ d f) λv r ζ=>?_];let[k,o,g,n,q]:=ζ;rwa[x::k,o,g,.È c n,q]
inductive X6 (xs:Zb)(H:Hp)(Q:VK):ο
 |mk:@xs<=Ε->(∀p,H p=ε->Q ?p (WA (.Ò xs)))->X6 xs H Q
def afL (t:TA):TE:=λ c H Q=>t c H λb a=>X6 b a Q
inductive X7 (xs:Zb)(H:Hp)(Q:VK):ο
 |mk:@xs<=Ε->(∀p,H p=ε->Q ?p (WA (.Ν xs)))->X7 xs H Q
def afM (t:TA):TE:=λ c H Q=>t c H λb a=>X7 b a Q
def bh {l}(h:PA X es t):PE X (.ń es l pos) (afL t):=by intro a s j H Q I f;rwa[wpAny_Tuple_spliced (bx (h pos a s j H _ I f) λk s1 ζ=>?_)];let[i,d,c,r,z,q]:=ζ;rwa[by rw[<-@r];rwa[z],5];let g:d ↥s1=ε:=c.a0.ó Ź;rwa[↑↥s1,ψ d ↥s1 (.Ò i),c.ŭ (t':=s1.Æ) (λb u e=>aol _ e) Ź ?_,2,q _ g];rwa[z,k,r,{_,JU Ų,212}]
def bH (h:PA X es t):PE X (.θ es pos) (afM t):=by intro a s k H Q I g;rwa[wpAny_List_spliced (bx (h pos a s k H _ I g) λi s1 ζ=>?_)];let[j,c,d,r,z,q]:=ζ;rwa[by rw[<-@r];rwa[z],5];let f:c ↥s1=ε:=d.a0.ó Ź;rwa[↑↥s1,ψ c ↥s1 (.Ν j),d.ŭ (t':=s1.Æ) (λb u e=>aol _ e) Ź ?_,2,q _ f];rwa[z,i,(0),r,JU Ų]
end
abbrev Sp:=Zb->Hp->VK->XK->Prop
abbrev qV:=Zq->Hp->Zu->XK->Zt->Zu->Prop
structure xJ (P:Í)(w:à)(K:Za1)(mg:Ñ->Zl)(Β:Û)(A:ß)(Ψ:Zq)(s:Zu)(H:Hp):ο where
 frames:A.frames\Ψ
 mod:Mod K mg Β
 bs:∀b o,Β.get? b\o->s•b\o/\H b=ε
 wM:Β.õ.Υ<=↥s
 kX:s.τ.ĺ Β Ψ
 yL:∀b∈bV Ψ,H b=ε
 a0:eI P w H s.τ
 bare:Ŕ s.gens
def CE (a:Zq)(P:Í)(w:à)(H:Hp)(s:Zu)(Q:VK)(u:Zt)(b:Zu):ο:=∃v c,b.os=s.os/\Ŕ b.gens/\Un (bV a) [] H c s.τ b.τ/\eI P w c b.τ/\ì v u/\Q v c
def CR (c:qV)(a:Zq)(P:Í)(w:à)(H:Hp)(s:Zu)(Q:VK)(E:XK)(r:Result)(b:Zu):ο:=
 match r with
 |.ok (.ret u)=>CE a P w H s Q u b
 |.ok _=>Ð
 |.error e=>c a H s E e b
structure cX (P:Í)(w:à)(K:Za1)(mg:Ñ->Zl)(Β:Û)(CX:qV)(k:η)(f:Zs)(fd:Ζ)(ps:Zp)(sp:Sp):ο where
 len:∀vs H Q E,sp vs H Q E->@vs=@ps
 run:∀(A:ß)(Ψ:Zq)(s:Zu)(H:Hp)(args:Args)(us:Zk)(vs:Zb)(Q:VK)(E:XK),dy k A->xJ P w K mg Β A Ψ s H->BindsTo s fd args ge->ä vs us->sp vs H Q E->codeAny (ñ P w) A (.Ğ ?f args) (CR CX Ψ P w H s Q E) s
def xJ.Ę {P:Í}{w:à}{K:Za1}{mg:Ñ->Zl}{Β:Û}{A:ß}{Ψ:Zq}(e:xJ P w K mg Β A Ψ s H)(C:Zs)(a:Zk)(b:θ (Ñ×Zt)):
 xJ P w K mg Β (A.under (.Ι OR {?C::a,b})) Ψ s H:={by first|rwa[e.frames]|(simpa [ß.under,Code.envs,Code.isFrame,pushEnvs] using e.frames),e.mod,e.bs,e.wM,e.kX,e.yL,e.a0,e.bare}
section
variable {X:Cx}{pins:List (Zs×Obj)}{σ:St}{H:Hp}{s s':Zu}
def Inv.J0 (I:Ŵ):xJ X.À X.w X.K X.mg X.Β X.A X.stack s H:={I.ok.frames,I.ok.mod,I.bs,aot I.ok.wM I.sz,I.stack,I.qQ,I.a0,I.bare}
def Inv.after {Q:VK}(I:Ŵ)(h:CE X.stack X.À X.w H s Q u s'):EP X Î σ Q u s':=by let[v,e,os,bare,un,a0,r,q]:=h;let[c,g,d,t,a]:=s';obtain rfl:a=s.os:=os;rwa[v,e,I.Ğ (h':=c) (g':=g) (d':=d) (t':=t) (ch:=[]) un a0 bare (λb z=>Ρ z (by simp)),r,q]
end
def Uh (b:Sp)(a:Zb)(E:XK)(t:TA):TE:=λ e H Q=>t e H λc d=>b (c++a) d Q E
inductive X8 (C:Zs)(m:Ñ)(sp:Sp)(dvs:Zb)(E:XK)(t:TA)(σ:St)(x:V)(H:Hp)(Q:VK):ο
 |mk (a dx:Zs)(fs:θ (Ñ×V)):x=?a->H a\.ins C dx fs->fs.ω m=ε->t σ H (λvs H2=>sp (x::(vs++dvs)) H2 Q E)->X8 C m sp dvs E t σ x H Q
def yQ (C:Zs)(m:Ñ)(c:Sp)(a:Zb)(E:XK)(e:TE)(t:TA):TE:=λ b H Q=>e b H λx d=>X8 C m c a E t b x d Q
def acU (C:Zs)(e:Sp)(c:Zb)(E:XK)(t:TA):TE:=λ g H Q=>t g H λf b=>∀x a,b x=ε->b a=ε->a≠x->e (?x::(f++c)) (ψ (ψ b a (.own x)) x (.ins C a [])) (λv d=>v=.non/\Q ?x d) E
def Ű (K:Za1)(fd:Ζ)(c:Zp)(b:Zk):ο:=∀(s:Zu)(a:Zk),K.In s.τ->@(a++b)=@c->BindsTo s fd ⟨a,[]⟩ (c.zip (a++b))
def Ű.all {K:Za1}{fd:Ζ}(h:∀us:Zk,@us=@Z->bindArgs fd ⟨us,[]⟩=Č (Z.zip us)):Ű K fd Z []:=λs us _ a=>by rw[aoJ]at a ⊢;rwa[.of_eq (h us a)]
def Passes (c:qV)(X:Cx)(E:XK):ο:=∀(a:θ (Zs×Obj))(d:St)(H:Hp)(s:Zu)(e:Zt)(b:Zu),mm s->c X.stack H s E e b->X.xe e b
section
variable {X:Cx}{CX:qV}{k:Nat}{f C:Zs}{fd:FuncData}{ps:Zp}{sp:Sp}{dvs:Zb}{ds:Zk}{E:XK}{x m:Str}{p pos apos:Pos}{e o:Expr}{es:Zr}{ta:TE}{t:TA}
theorem DV {a:θ (Zs×Obj)}{c:St}{Q:VK}{us:Zk}{vs:Zb}(F:cX X.À X.w X.K X.mg X.Β CX k f fd ps sp)(l:ii)(q:OE)(g:DA)(v:EN)(I:Inv X a c H s)(r:ä vs us)(h:sp (vs++dvs) H Q E):X⁻¹ X.A (Ğ ?f us) (EP X a c Q) X.xe s:=by
 let d:ä (vs++dvs) (us++ds):=r.Ů g;let j:@(us++ds)=@ps:=by rw[<-@d];rwa[F.len δ h]
 rwa[aqB (aq4 (F.run X.A X.stack s H {us,[]} (us++ds) (vs++dvs) Q E l I.J0 (q s us I.dJ j) d h) λr i b=>?_)]
 cases r with
 |error e=>exact v a c H s e i I b
 |ok n=>
  cases n with
  |ret u=>exact I.after b
  |next=>exact Ð.Ü b
  |brk=>exact Ð.Ü b
  |cont=>exact Ð.Ü b
def oH (F:cX X.À X.w X.K X.mg X.Β CX k f fd ps sp)(u:ii)(l:AD)(y:X.mg x\?f)(n:Ĭ X.K ?f=ρ)(j:OE)(i:DA)(w:EN)(A:PA X (e::es) t)(c:(x==(Ϡ:Ñ))=ς:=by decide)(z:Ο (e::es) X.env=(ς,å e X.env)::Ο es X.env:=by rfl)(b:(ZX ϯ).any (·.1)=ς:=by rfl):
 PE X (.ġ (.ö x p) (e::es) [] pos) (Uh sp dvs E t):=by intro a s v H Q I h;rwa[apI (iT I l y ?_ c)];rwa[aq0 (h₀:=X.Β) I.ok.mod.iJ n (bx (A pos a s v H _ I h) λJ G ζ=>?_) z b];let[B,D,d,r,q]:=ζ;rwa[d.dJ,5];rwa[DV F u j i w d r q]
def Wb {pl:l5}(O:Tl)(c:LB)(hm:Meth X.K C m f)(F:cX X.À X.w X.K X.mg X.Β CX k f fd ps sp)(J:ii)(D:OE)(A:DA)(N:EN)(P:PA X (e::es) t)(g:Ο (e::es) X.env=(ς,å e X.env)::Ο es X.env:=by rfl)(d:(ZX ϯ).any (·.1)=ς:=by rfl)(B:å (.ġ (.â o m ĭ) (e::es) [] pos) X.env=(do
  let v <-å o X.env
  standAt ĭ.atName
  let (f,first) <-holding [v] (getMethod v m pl)
  callWith pos f first (ZX (Ο (e::es) X.env)) (wT (ď [] X.env))):=by rfl):
 PE X (.ġ (.â o m ĭ) (e::es) [] pos) (yQ C m sp dvs E ta t):=by intro b s w H Q I h;rwa[Γ.W.methodCall_KW (pl:=pl) (bx (O b s w H _ I h) λu L ζ=>?_) B];let[x,G,i,M,a,W,fs,ex,R,l,q]:=ζ;subst ex;obtain rfl:u=Η.É a:=M;rwa[yP i R c hm l ?_];rwa[aq0 (first:=[?a]) (h₀:=X.Β) I.ok.mod.iJ hm.kp (bx (P pos b L w G _ i q) λy T ζ=>?_) g d];let[j,U,n,r,S]:=ζ;rwa[n.dJ,5];rwa[DV (us:=?a::y) (vs:=?a::j) F J D A N n (.È Ų r) S]
def QW {pl:l5}(z:Tl)(c:LB)(hm:Meth X.K C m f)(F:cX X.À X.w X.K X.mg X.Β CX k f fd ps sp)(r:ii)(n:OE)(i:DA)(y:EN)(j:å (.ġ (.â o m ĭ) [] [] pos) X.env=(do
  let g <-å o X.env
  standAt ĭ.atName
  let (f,first) <-holding [g] (getMethod g m pl)
  callWith pos f first (ZX (Ο [] X.env)) (wT (ď [] X.env))):=by rfl):
 PE X (.ġ (.â o m ĭ) [] [] pos) (yQ C m sp dvs E ta uc):=by intro b s w H Q I h;rwa[Γ.W.methodCall_KW (pl:=pl) (bx (z b s w H _ I h) λu G ζ=>?_) j];let[x,D,d,v,a,L,fs,ex,A,l,q]:=ζ;subst ex;obtain rfl:u=Η.É a:=v;rwa[yP d A c hm l ?_];rwa[Γ.W.callWith_K0 (first:=[?a]) d.dJ hm.kp (DV (us:=[?a]) (vs:=[?a]) F r n i y d (.È Ų .nil) q)]
structure Mk (K:Za1)(C f:Zs):ο where
 makes:makesIn K C=ρ
 init:Õ K ?C ϐ=ι (ι ?f)
 fn:isFn K ?f=ρ
 kp:Ĭ K ?C=ρ
theorem QX {a:θ (Zs×Obj)}{g:St}{Q:VK}(M:Mk X.K C f)(F:cX X.À X.w X.K X.mg X.Β CX k f fd ps sp)(D:dy (k+ 1) X.A)(q:OE)(l:DA)(J:EN)(I:Inv X a g H s)(r:ä L N)(h:∀x d,H x=ε->H d=ε->d≠x->sp (?x::(L++dvs)) (ψ (OP (.own x)) x (.ins C d [])) (λv O=>v=.non/\Q ?x O) E):
 X⁻¹ X.A (Ğ ?C N) (EP X a g Q) X.xe s:=by
 let i:=h (↥s+ 1) ↥s (I.a0.ó (η.le_succ _)) (I.a0.ó Ź) (aoT (apX _));let c:=Inv.made (C:=C) I;let j:ä (V.É (↥s+ 1)::(L++dvs)) (Η.É (↥s+ 1)::(N++ds)):=.È Ų (r.Ů l)
 let B:@(Η.É (↥s+ 1)::N++ds)=@ps:=by let e:=@j;rw[F.len δ i]at e;rwa[e.Τ]
 refine aqB (QV (f:=f) I.dJ M.makes M.init (arD.mp M.fn) (aq4 (F.run _ X.stack β {Η.É (↥s+ 1)::N,[]} (Η.É (↥s+ 1)::(N++ds)) β E (D.Ę C N [])
  (c.J0.Ę C N []) (q _ (Η.É (↥s+ 1)::N) c.dJ B) j i) λr n b=>?_))
 cases r with
 |error e=>exact J a g β e n c b
 |ok G=>
  cases G with
  |ret u=>let[v,P,y,A,w,z]:=c.after b;subst w;rwa[A,{V.É (↥s+ 1),P,y,2,z}]
  |next=>exact Ð.Ü b
  |brk=>exact Ð.Ü b
  |cont=>exact Ð.Ü b
def vD (M:Mk X.K C f)(F:cX X.À X.w X.K X.mg X.Β CX k f fd ps sp)(n:dy (k+ 1) X.A)(l:AD)(w:X.mg x\?C)(j:OE)(i:DA)(v:EN)(z:PA X (e::es) t)(c:(x==(Ϡ:Ñ))=ς:=by decide)(y:Ο (e::es) X.env=(ς,å e X.env)::Ο es X.env:=by rfl)(b:(ZX ϯ).any (·.1)=ς:=by rfl):
 PE X (.ġ (.ö x p) (e::es) [] pos) (acU C sp dvs E t):=by intro a s u H Q I h;rwa[apI (iT I l w ?_ c)];rwa[aq0 (h₀:=X.Β) I.ok.mod.iJ M.kp (bx (z pos a s u H _ I h) λG D ζ=>?_) y b];let[A,B,d,r,q]:=ζ;rwa[d.dJ,5];rwa[QX M F n j i v d r q]
end
def PK (X:Cx)(kws:θ Keyword)(t:TA):ο:=∀(pos:Pos)(a:θ (Zs×Obj))(s:Zu)(b:St)(H:Hp)(Q:Zb->Hp->ο),XV s->t b H Q->X⁻¹ X.A (evalAll ((wT (ď kws X.env)).Κ (·.2))) (AP X a b Q) X.xe s
section
variable {X:Cx}{x:Str}{pos afN:Pos}{e:Expr}{kws:List Keyword}{te:TE}{t:TA}{nm:Option Str}
def Mw:PK X [] uc:=λ_ _ _ _ H Q I h=>wpAny_evalAll_nil {[],H,I,.nil,h}
def HQ (w:Do)(l:PK X kws t):PK X ({nm,e,afN}::kws) (vC te t):=by intro pos a s b H Q I h;rwa[wpAny_evalAll_cons (aof (bx (w a s b H _ I h) λu q ζ=>?_))];let[x,j,d,c,g]:=ζ;rwa[aof (arL (aor ?_))];rwa[bx (l pos a q b j _ d g) λA z ζ=>?_];let[n,v,i,r,y]:=ζ;rwa[x::n,v,i,.È c r,y]
end
structure aL (N P:Zp)(sc:ũ):ο where
 kind:sc.kind=.ţ
 co:sc.isCoroutine=ς
 gen:sc.isGenerator=ς
 nd:N.Á
 pre:N.Χ @P=P
 par:∀x∈P,sc.names.ω x=ι .local\/sc.names.ω x=ι .cell
 X9:∀y∈sc.names,y.2≠.free
theorem BO {Ĉ:Ñ->Ă ő}:∀{binds:θ (Ñ×Zt)}{m:Ñ->Zl},(∀v,(x,v)∉binds)->bindL Ĉ binds m x=m x
 |[],_,_=>rfl
 |(n,v)::r,m,h=>by
  unfold bindL;rw[BO λw a=>h w (JE a)];split
  .cbv
  .rfl
theorem BP {Ĉ:Ñ->Ă ő}:∀{binds:θ (Ñ×Zt)}{m:Ñ->Zl},(∀v,(x,v)∉binds)->bindC Ĉ binds m x=m x
 |[],_,_=>rfl
 |(n,v)::r,m,h=>by
  unfold bindC;rw[BP λw a=>h w (JE a)];split
  .rfl
  cbv
theorem BQ {Ĉ:Ñ->Ă ő}{x:Ñ}{v:Zt}:∀{P:Zp}{a:Zk}{i:η}{m:Ñ->Zl},P.Á->P[i]?\x->a[i]?\v->Ĉ x=ι .local->
 bindL Ĉ (P.zip a) m x=ι v
 |[],_,_,_,_,h,_,_=>by simp at h
 |_::_,[],_,_,_,_,h,_=>by simp at h
 |p::P,w::a,0,m,d,c,b,e=>by simp at c b;subst c;subst b;show bindL Ĉ ((p,w)::P.zip a) m p=_;unfold bindL;rw[BO λv f=>(ao0.mp d).1 (θ.of_mem_zip f).1,aoO e];simp
 |p::P,w::a,i+ 1,m,d,c,b,e=>by unfold bindL;rwa[BQ (i:=i) (ao0.mp d).2 (by simpa using c) (by simpa using b) e]
theorem BR {Ĉ:Ñ->Ă ő}{x:Ñ}{v:Zt}:∀{P:Zp}{a:Zk}{i:η}{m:Ñ->Zl},P.Á->P[i]?\x->a[i]?\v->Ĉ x≠ι .local->
 bindC Ĉ (P.zip a) m x=ι v
 |[],_,_,_,_,h,_,_=>by simp at h
 |_::_,[],_,_,_,_,h,_=>by simp at h
 |p::P,w::a,0,m,d,c,b,e=>by simp at c b;subst c;subst b;show bindC Ĉ ((p,w)::P.zip a) m p=_;unfold bindC;rw[BP λv f=>(ao0.mp d).1 (θ.of_mem_zip f).1,aoK e];simp
 |p::P,w::a,i+ 1,m,d,c,b,e=>by unfold bindC;rwa[BR (i:=i) (ao0.mp d).2 (by simpa using c) (by simpa using b) e]
def Θ (N:Zp)(a:Zb):St:=a.Κ ι++θ.Ê (@N - @a) ε
def c0 (c:qV)(P:Í)(w:à)(K:Za1)(mg:Ñ->Zl)(Β:Û)(N:Zp)(Ā:Ñ)(Ξ:ũ)(f:Zs)(b:Zt)(A:ß)(Ψ:Zq)(s:Zu)(H:Hp)(E:XK):Cx where
 À:=P
 w:=w
 K:=K
 mg:=mg
 Β:=Β
 A:=A.deeper (Su ↥s f b)
 N:=N
 fD:=s
 xu:=H
 env:=Ũ Ā Ξ ↥s f b
 Ψ:=Ψ
 stack:=Ũ Ā Ξ ↥s f b::Ψ
 ex:=[]
 calm:=ρ
 fn:=λ_=>ρ
 pn:=[]
 xe:=λe d=>(P<|>w) (A.deeper (Su ↥s f b)) (leaving (Su ↥s f b) e) (λ_ a=>c Ψ H s E e a) (λg a=>c Ψ H s E g a) d
instance eD.cx {CX:qV}{P:Í}{w:à}{K:Za1}{mg:Ñ->Zl}{Β:Û}{N:Zp}{Ā:Ñ}{Ξ:ũ}{f:Zs}{cd:Zt}{A:ß}{Ψ:Zq}{s:Zu}{H:Hp}{E:XK}:eD (c0 CX P w K mg Β N Ā Ξ f cd A Ψ s H E) K:={2}
def DW {sc:ũ}(h:sc.names.ω x=ι .cell):∃c,(cellsFrom n sc.names []).ω x\c:=by let q:=Γ.W.cellsFrom_some sc.names n [] (.Α h);rwa[arF.mp q]
def Mx {M:qV}{P:Í}{w:à}{K:Za1}{mg:Ñ->Zl}{Β:Û}{N:Zp}{Ā:Ñ}{Ξ:ũ}{A:ß}{f:Zq}{E:XK}{G:Zk}(S:aL N Z Ξ)(O:A.ą=ε)(j:xJ P w K mg Β A f s H)(W:@L=@Z)(r:ä L G)(x:InCallC s ↥s (bindL (Su ↥s a v).Ĉ (Z.zip G) λ_=>ε) (cellsFrom (↥s+ 1) Ξ.names []) (bindC (Su ↥s a v).Ĉ (Z.zip G) λ_=>ε) t):
 Inv (c0 M P w K mg Β N Ā Ξ a v A f s H E) [] (Θ N L) H t:=by
 let Q:@Z<=@N:=by have:=apW θ.ü S.pre;rw[aoX]at Δ;ext
 let[D,U,Ų,I]:=x.done;let m:∀b:Zs,b∉(c0 M P w K mg Β N Ā Ξ a v A f s H E).ex:=λb z=>Ρ (show b∈([]:Zn) from z) (by simp)
 erw[{j.mod,S.kind,22,aoo _,λy z c D l=>?_,λy B=>?_,λy c _ h=>?_,λ_=>O,ß.frames_deeper j.frames,.Ç {22},λb z=>Ρ z (m b),j.bs,j.wM,λb _ _=>m b,λb z=>Ρ z (m b),j.kX,j.yL},2,j.bare,Un.ņ I,{_,x.toInCall.ns,λi y g D l X=>?_},λy c h=>{_,x.cell y c h},j.a0.ó Ź,λy c h=>?_,λp o=>Ρ (show p∈([]:θ (Zs×Obj)) from o) (by simp),j.a0.ņ I]
 .rwa[name_of_addr x.apart (aqo D) (aqo l)]
 .rcases B with B|B
  .rwa[DW B]
  .rwa[Ρ Ų (S.X9 _ (aqo B))]
 .rwa[aqj (x.above y c (aqo h))]
 .let F:i<@L:=by
   unfold Θ at l;cases F:i<@L
   .rwa[F]
   .cbv
  let T:L[i]?\g:=by
   unfold Θ at l;rw[aoq (by simpa using F),aon]at l
   cases e:L[i]? with
   |ε=>rw[e]at l;ext l
   |ι d=>cbv
  let[u,J,R]:=r.ű T
  let o:Z[i]?\y:=by rw[<-S.pre,arG ∅];rwa[D]
  let C:Z.Á:=by rw[<-S.pre];rwa[S.nd.sublist (θ.take_sublist β)]
  erw[u,R];rcases S.par y (aoi o) with k|k
  .rwa[.Α {k,BQ C o J k}]
  .let[c,e]:=DW (n:=↥s+ 1) k;rwa[.Ç {.Α k,c,e,5}];let q:=x.cell y c e;rw[BR C o J (by show Ξ.names.ω y≠_;cbv)]at q;rwa[q]
 .rwa[j.a0.ó (aqj (x.above y c (aqo h)))]
 .unfold Θ;show _=@N;rw[aoj,aog,θ.length_replicate];ext
def J1 {B:qV}{P:Í}{w:à}{K:Za1}{mg:Ñ->Zl}{Β:Û}{k:η}{û Ā:Ñ}{Ĳ:Arguments}{body:θ ŕ}{Ξ:ũ}{W kV doc pm d X Y:Zt}{U od:Zo}{M:SZ}{N z:Zp}{C:Sp}(lk:K.ω a\{Y,od,.func LU,M})(L:codeIn K d Ā=ρ)(S:aL N z Ξ)(len:∀f H Q E,C f H Q E->@f=@z)(j:∀(A:ß) (c:Zq) (s:Zu) (H:Hp) (f:Zb) (Q:VK) (E:XK),dy k (A.deeper (Su ↥s a d))->C f H Q E->∃t,hL OT body t/\t { nx:=λ_ h=>Q .non h,rt:=Q } (Θ N f) H):
 cX P w K mg Β B (k+ 1) a LU z C:=by
 rwa[len,λA c s H O us f Q E G m hb r p=>?_];let hl:=len δ p;let R:K.In s.τ:=m.mod.iJ.Į λb o e=>(m.bs b o e).1
 let lim:s.τ.NoLimit:=m.mod.nolimit.Į λb o e=>(m.bs b o e).1
 let i:∀y∈z.zip us,Ξ.names.ω y.1=ι .local\/(Ξ.names.ω y.1=ι .cell/\((cellsFrom (↥s+ 1) Ξ.names []).ω y.1).ě=ρ):=λζ hy=>by
  let[n,v]:=ζ
  rcases S.par n (θ.of_mem_zip hy).1 with q|q
  .rwa[.Α q]
  .rwa[.Ç {q,Γ.W.cellsFrom_some γ (.Α q)}]
 rwa[codeAny_call_function G.depth (R^lk) Ų S.co S.gen Ų (Γ.W.codeRec_of R L) (hb δ ?_)];rwa[wpAny_newFunctionEnv_cells S.kind i λenv he T x=>?_]
 subst he;rwa[lim.Į x.toInCall.Ï,codeAny_func ?_];let[t,Z,hq]:=j A c s H f Q E (G.deeper _) p;let I:Inv OT [] (Θ N f) H T:=Mx S G.hd m hl r x;rwa[apO (Z [] T (Θ N f) H _ I hq) (λfl D l=>?_) λe D l=>l]
 let fin:∀{g:St}{h:Hp}{v:V}{u:Zt},Inv OT [] g h D->ì v u->Q v h->CE c P w H s Q u D:=λ{g h v u} J F q=>{v,h,J.os,J.bare,J.Β,J.a0,F,q}
 cases fl with
 |ret u=>let[v,g,h,J,F,q]:=l;rwa[fin J F q]
 |next=>let[g,h,J,q]:=l;rwa[fin (v:=V.non) (u:=Η.ε) J Ų q]
 |brk=>let[_,_,_,q]:=l;rwa[Ð.Ü q]
 |cont=>let[_,_,_,q]:=l;rwa[Ð.Ü q]
variable {X:Cx}{x:Str}{p pos:Pos}{e:Expr}{es:Zr}{t:TA}{id T:String}{r:Zb->Hp->VK->Prop}
def tCB (r:Zb->Hp->VK->ο)(t:TA):TE:=λ c H Q=>t c H λa b=>r a b Q
def aT (l:gY X (.Ι id) r)(g:AD)(q:X.mg x=ε)(v:ŏ x\.Ι id)(w:PA X (e::es) t)(o:x≠HA:=by decide)(c:(x==(Ϡ:Ñ))=ς:=by decide)(y:Ο (e::es) X.env=(ς,å e X.env)::Ο es X.env:=by rfl)(b:(ZX ϯ).any (·.1)=ς:=by rfl):PE X (.ġ (.ö x p) (e::es) [] pos) (tCB r t):=by intro a s d H Q I h;rwa[apI (iK I g q v ?_ o c)];rwa[ÿ.Rows.callWith_builtin1 (bx (w pos a s d H _ I h) λu n ζ=>?_) y b];let[j,m,i,f,k]:=ζ;rwa[l a n d m j u Q i f k]
def dD (l:gY X (.Â T) r)(g:AD)(q:X.mg x=ε)(v:ŏ x\.Â T)(w:PA X (e::es) t)(o:x≠HA:=by decide)(c:(x==(Ϡ:Ñ))=ς:=by decide)(y:Ο (e::es) X.env=(ς,å e X.env)::Ο es X.env:=by rfl)(b:(ZX ϯ).any (·.1)=ς:=by rfl):PE X (.ġ (.ö x p) (e::es) [] pos) (tCB r t):=by intro a s d H Q I h;rwa[apI (iK I g q v ?_ o c)];rwa[apo (bx (w pos a s d H _ I h) λu n ζ=>?_) y b];let[j,m,i,f,k]:=ζ;rwa[l a n d m j u Q i f k]
end L2
namespace HT
variable {prog:Program}{w:World}{A:Around}{E:Zt->Zu->Prop}{s:Zu}
def Wc {ws:Zk}(t:ŗ s.τ a N.χ)(u:ŗ s.τ b ws.χ)(o:N≠[])(v:ws=[]->Q ?a s)(r:ws≠[]->Q ↑↥s { s with τ:=s.τ.Ú (ŷ>>>.seq (N++ws).χ) })(x:@N+ @ws<=Ε):(À<|>w) A (ĕ .Add ?a ?b) Q E s:=by
 let[⟨cls,m,ê,k⟩,h,y,n,q]:=id t;let[⟨l,d,data2,f⟩,c,j,p,i]:=id u;subst y q j i;let e:N.χ++ws.χ=(N++ws).χ:=by simp
 cases g:ws=[]
 .exact concat_meets {_,h,2} {_,c,2} noFill_tuple_add seq_tuple_add arT arM (arH β)
   (tuple_addW1 a b N.χ ws.χ n p m d k f (by simpa using o) (by simp[g])) {h,c,v g}
 .refine concat_meets {_,h,2} {_,c,2} noFill_tuple_add seq_tuple_add arT arM (arH β)
   (tuple_addW2 a b N.χ ws.χ n p m d k f (by simpa using o) (by simpa using g) ∅) {h,c,5}
  rw[e];rwa[r g]
def cE (n d:η):Zj->η
 |ε=>d
 |ι v=>if v<0 then (v+ (n:π)).Φ else min v.Φ n
def vE (n d k:η):cE n d (ι (k:π))=min k n:=by show (if (k:π)<0 then ((k:π)+ (n:π)).Φ else min (k:π).Φ n)=min k n;rw[aoK ∅,ao8]
def HR (v:π)(n d:η):(if v<0 then max (v+ (n:π)) 0 else min v (n:π))=((cE n d (ι v):η):π):=by
 show (if v<0 then max (v+ (n:π)) 0 else min v (n:π))=(((if v<0 then (v+ (n:π)).Φ else min v.Φ n):η):π);cases a:v<0
 .cbv
 .simp only[aoK a];ext
def J2 (lo a:Zj)(n:η):Λ.Slice.sliceAdjust lo a 1 (n:π)=(((cE n 0 lo:η):π),((cE n n a:η):π)):=by
 let b:¬((1:π)<0):=∅
 unfold Λ.Slice.sliceAdjust;rwa[Prod.ext ?_ ?_]
 .cases lo with
  |ε=>rfl
  |ι v=>exact HR v n 0
 .cases a with
  |ε=>rfl
  |ι v=>exact HR v n n
def J9 (i j:η):Λ.Slice.slicePlaces (i:π) (j:π) 1=j - i:=by
 unfold Λ.Slice.slicePlaces;let a:(1:π) > 0:=∅
 split <;> ext
def yR {o:Zj}{Q:Zj->Zu->ο}(p:IsPart v o)(h:Q o s):(À<|>w) A (Λ.Slice.slicePartIndex v) Q E s:=by
 cases p with
 |ε=>exact slicePart_none h
 |υ i t=>exact slicePart_int h
def oP {lo d:Zj}{Q:π×π×η->Zu->ο}(g:s.τ.IsSliceOf a v u .ε)(pl:IsPart v lo)(e:IsPart u d)(h:Q (((cE n 0 lo:η):π),1,cE n n d - cE n 0 lo) s):(À<|>w) A (Λ.Slice.sliceApplied ?a (Č (n:π))) Q E s:=by let[os,b,f,c]:=id g;rwa[aof (aof (apg b c (x:=v) Ų (aof (apg b c (x:=u) Ų (aof (apg b c (x:=.ε) Ų (aor ?_)))))))];rwa[aof (slicePart_none ?_)];rwa[aof (yR pl (aof (yR e (aof (aor ?_)))))];show Ó β (match Λ.Slice.sliceAdjust lo d 1 (n:π) with|(lo,d)=>Č (lo,(1:π),Λ.Slice.slicePlaces lo d 1)) _ _ s;rw[J2 lo d n];show Ó β (Č (((cE n 0 lo:η):π),(1:π),Λ.Slice.slicePlaces ((cE n 0 lo:η):π) ((cE n n d:η):π) 1)) β s;rw[J9];rwa[aor h]
def QY (xs:Zm)(i k:η):((~~~k).filterMap λ(m:η)=>xs[((i:π)+ (m:π)* 1).Φ]?).χ=((xs.Ć.ā i).Χ k).χ:=by
 let e:(λ(m:η)=>xs[((i:π)+ (m:π)* 1).Φ]?)=λm=>xs[i+ m]?:=by
  funext m
  have:((i:π)+ (m:π)* 1).Φ=i+ m:=∅
  rw[Δ]
 rw[e];have:=pick_run xs i k;rw[θ.filterMap_map]at Δ;let a:((λx=>xs[x]?) ∘ λx=>i+ x)=λm=>xs[i+ m]?:=rfl
 cbv
def wj {Ã:Zm}{lo d:Zj}(e:SO)(k:s.τ.IsSliceOf b v u .ε)(pl:IsPart v lo)(p:IsPart u d)(o:¬(cE Ã.Υ 0 lo=0/\cE Ã.Υ Ã.Υ d=Ã.Υ))(h:Q ↑↥s { s with τ:=s.τ.Ú (ŷ>>>.seq ((Ã.Ć.ā ba).Χ (VT - cE Ã.Υ 0 lo)).χ) })(n:Ã.Υ<=Ε):(À<|>w) A (Ū ?a ?b) Q E s:=by
 let c:sizeOk (.seq ((Ã.Ć.ā ba).Χ (VT - cE Ã.Υ 0 lo)).χ):=by show ((Ã.Ć.ā ba).Χ (VT - cE Ã.Υ 0 lo)).χ.Υ<=Ε;rw[aoI,aoX,aqt,aqm];ext
 let[os,i,g,l]:=id k;let j:s.Ġ ?b "slice":={os,i,g};unfold Ū
 try with_reducible rwa[aps ?_]
 rwa[aof (wpAny_sequenceKey e.Ý ⋯ ?_)]
 refine aof (apt (û:=Ñ.Ţ NA) e.Ý apf
  (apB apf e.Ý entry_tuple_getitem ?_ (args_tuple_getitem β)))
 show Ó β (Λ.ń.tupleItemsOf ?a >>=_) β s;rwa[aof (tupleItemsOf_ e ?_)];rwa[aof (aq5 j ?_)];rwa[aof (oP k pl p ?_)]
 let f:¬((((cE Ã.Υ 0 lo:η):π)==0 && (1:π)==1 && (VT - cE Ã.Υ 0 lo)==Ã.Υ)=ρ):=by intro q;rw[apY,apY]at q;let r:((cE Ã.Υ 0 lo:η):π)=0:=eq_of_beq q.1.1;let t:cE Ã.Υ Ã.Υ d - cE Ã.Υ 0 lo=Ã.Υ:=eq_of_beq q.2;rwa[o {33}]
 show Ó β (if (((cE Ã.Υ 0 lo:η):π)==0 && (1:π)==1 && (VT - cE Ã.Υ 0 lo)==Ã.Υ)=ρ then _ else _) β s;rw[aoK f,QY]
 first
  |rwa[aof (m:=Λ.ń.tupleExact _) (ape (aor {_,Ų,aor h}) c)]
  |rwa[aof (m:=Λ.ń.tupleExact _) (ape (aof (aor (aor {_,Ų,aor h}))) c)]
  |rwa[aof (aof (m:=Λ.ń.tupleExact _) (ape (aor (aor {_,Ų,aor h})) c))]
  |rwa[aof (aof (m:=Λ.ń.tupleExact _) (ape (aor {_,Ų,aor h}) c))]
end HT
namespace L2
abbrev TO:=St->Hp->(Zj->Hp->Prop)->Prop
def PO (X:Cx)(e:Ă ę)(t:TO):ο:=
 ∀(a:θ (Zs×Obj))(s:Zu)(b:St)(H:Hp)(Q:Zj->Hp->ο),XV s->t b H Q->X⁻¹ X.A (evalPart e X.env) (λu d=>∃o c,ϗ a b c d/\IsPart u o/\Q o c) X.xe s
def Wd:TO:=λ_ H Q=>Q ε H
def acV (t:TE):TO:=λ b H Q=>t b H λx a=>∃i,x=.υ i/\Q (ι i) a
section
variable {X:Cx}{e:Expr}{te:TE}{lo hi:Option Expr}{tl th:TO}{pos p2:Pos}
def HS:PO X ε Wd:=by intro a s b H Q I h;rwa[aor {ε,H,I,.ε,h}]
def vF (h:Do):PO X (ι e) (acV te):=by
 intro a s j H Q I b;rwa[bx (h a s j H _ I b) λu k ζ=>?_];let[x,c,g,d,f]:=ζ
 let[i,Ų,q]:=f;let[t,Ų]:=d;rwa[ι i,c,g,.υ i t,q]
def Ui (X:Cx)(r:V->Zj->Zj->Hp->VK->ο):ο:=
 ∀(a:θ (Zs×Obj))(s:Zu)(f:St)(H:Hp)(x:V)(v d c:Zt)(lo hi:Zj)(b:Zs)(Q:VK),ϗ a f H s->ì x v->s.τ.IsSliceOf b d c .ε->IsPart d lo->IsPart c hi->r x lo hi H Q->∃T id,typeLookup (.Â T) NA=Č (ι (.Ι id))/\s.Ġ v T/\X⁻¹ X.A (Ū v ?b) (EP X a f Q) X.xe s
def tSl (r:V->Zj->Zj->Hp->VK->ο)(te:TE)(tl th:TO):TE:=λ a H Q=>te a H λx c=>tl a c λl b=>th a b λu d=>r x l u d Q
def xK {r:V->Zj->Zj->Hp->VK->ο}(C:Ui X r)(J:Do)(B:PO X lo tl)(E:PO X hi th):PE X (.Ś e (.Slice lo hi ε p2) pos) (tSl r te tl th):=by
 intro a s c H Q I h;rwa[Subscript_ (bx (J a s c H _ I h) λv F ζ=>?_)];let[x,A,m,i,w]:=ζ;rwa[wpAny_Slice (bx (B a F c A _ m w) λf p ζ=>?_)];let[l,G,z,pl,L]:=ζ;rwa[bx (E a p c G _ z L) λd s3 ζ=>?_];let[u,g,o,D,y]:=ζ;rwa[aor ?_];let j:Inv X a c g { s3 with τ:=s3.τ.Ú ("slice">>>.Å #[f,d,.ε]) }:=o.ņ (t':=s3.Æ) λb N q=>aol _ q
 let[T,id,t,k,n]:=C a { s3 with τ:=s3.τ.Ú ("slice">>>.Å #[f,d,.ε]) } c g x v f d l u ↥s3 Q j i (Û.IsSliceOf.new ..) pl D y;rwa[tail_any (ops:=[↑↥s3,v]) k t n (by with_unfolding_all rfl)]
def k8 (xs:Zb)(lo hi:Zj):Zb:=(xs.ā (HT.cE @xs 0 lo)).Χ (HT.cE @xs @xs hi - HT.cE @xs 0 lo)
def wQ (xs:Zb)(lo hi:Zj):@(k8 xs lo hi)<=@xs:=by unfold k8;rw[aoX,aqt];ext
inductive Ya (K:Za1)(x:V)(lo hi:Zj)(H:Hp)(Q:VK):ο
 |mk (a:Zs)(xs:Zb):x=?a->bG K H a xs->¬(HT.cE @xs 0 lo=0/\HT.cE @xs @xs hi=@xs)->(∀p,H p=ε->Q ?p (WA (.Ò Nl)))->Ya K x lo hi H Q
def Yb {g:Za1}[d:eD X g]:Ui X (Ya g):=by
 cases d.eq;intro j s A H x v z t lo hi w Q I m n pl l h;let[a,xs,Ų,p,k,q]:=h;ext m;let[c,r,f,i]:=I.Ě p;let æ:c.χ.Υ=@xs:=by rwa[r.ü.Τ]
 erw[ŷ,_,apf.ω,f.Ý];rwa[HT.wj f n pl l ([æ]▸k) ?_ ([æ]▸i)];rw[æ];rwa[↑↥s,_,I.ŭ (t':=s.Æ) (o:=.Ò Nl) (λb y q=>aol _ q) Ź ?_,2,q _ (I.a0.ó Ź)];rwa[aot (wQ xs lo hi) i,_,(r.ā (HT.cE @xs 0 lo)).Χ (HT.cE @xs @xs hi - HT.cE @xs 0 lo),ŗ.new β]
inductive Uj (K:Za1)(x y:V)(H:Hp)(Q:VK):ο
 |mk (a b:Zs)(xs ys:Zb):x=?a->y=?b->bG K H a xs->bG K H b ys->xs≠[]->@xs+ @ys<=Ε->(ys=[]->Q ?a H)->(ys≠[]->∀p,H p=ε->Q ?p (WA (.Ò (xs++ys))))->Uj K x y H Q
def ä.vG (r:ä L N):N=[]↔L=[]:=by
 cases r with
 |nil=>simp
 |È _ _=>simp
def Wg {g:Za1}[f:eD X g]:gX X (ĕ .Add) (Uj g):=by cases f.eq;intro j s G H x y v u Q I t A h;let[a,b,r,ys,Ų,Ų,C,l,B,i,n,D]:=h;ext t;ext A;let[m,d,p,_]:=I.Ě C;let[k,c,p2,_]:=I.Ě l;rwa[HT.Wc p p2 (λz=>B (d.vG.mp z)) (λz=>{?a,H,I,2,n (c.vG.mp z)}) (λz=>?_) (by rw[<-@d,<-@c];rwa[i])];rwa[↑↥s,_,I.ŭ (t':=s.Æ) (o:=.Ò (r++ys)) (λb F q=>aol _ q) Ź ?_,2,D (λw=>z (c.vG.mpr w)) _ (I.a0.ó Ź)];rwa[[aoj]▸i,_,d.Ů c,ŗ.new β]
end
def pY (n:η)(i:π):Zi:=if 0<=i then (if i<n then ι i.Φ else ε) else if -(n:π)<=i then ι (i+ n).Φ else ε
def lh {a:Type}(xs:θ a)(i:π):Ă a:=(pY @xs i).bind λj=>xs[j]?
def HV (h:pY n z\j):seqIndex? z n\j/\j<n/\-(n:π)<=z/\z<n:=by
 unfold pY at h;cases b:0<=z
 .rw[aoO b]at h;cases a:z<n
  .rw[aoO a]at h;let e:z.Φ=j:=Za0 h;rwa[by rw[seqIndex_of b a,e],33,a]
  .rw[aoK a]at h;ext h
 .rw[aoK b]at h;cases a: -(n:π)<=z
  .rw[aoO a]at h;let e:(z+ n).Φ=j:=Za0 h;rwa[by rw[seqIndex_neg ∅ a,e],3,a,3]
  .rw[aoK a]at h;ext h
def HW {a:Type}{xs:θ a}{v:a}(h:lh xs z\v):∃j,seqIndex? z @xs\j/\xs[j]?\v/\j<@xs/\-(@xs:π)<=z/\z<@xs:=by
 unfold lh at h
 cases e:pY @xs z with
 |ε=>rw[e]at h;ext h
 |ι j=>rw[e]at h;let[d,b,f,c]:=HV e;rwa[j,d,h,b,f,c]
def bX {a:Type}{xs:θ a}{v:a}(h:xs[j]?\v):lh xs (j:π)\v:=by
 let b:j<@xs:=(aoh.mp h).1
 let e:pY @xs (j:π)\j:=by unfold pY;rw[aoO ∅,aoO ∅];simp
 unfold lh;rw[e];rwa[h]
def QZ {a:Type}(xs:θ a)(v:a):lh (xs++[v]) (-1)\v:=by
 let b:@(xs++[v])=@xs+ 1:=by simp
 let e:pY @(xs++[v]) (-1)\@xs:=by
  unfold pY;rw[b,aoK ⋯,aoO ∅]
  congr 1
  ext
 unfold lh
 cbv
def Wh (b:ę):ο:=∀o i,subscripted b ς o i=operate [o,i] (Ū o i)
def My (X:Cx)(r:R2):ο:=
 ∀(Ō slice:ę)(a:θ (Zs×Obj))(s:Zu)(b:St)(H:Hp)(x y:V)(v u:Zt)(Q:VK),XV s->ì x v->ì y u->r x y H Q->subscripted slice ς v u=operate [v,u] (Ū v u)->X⁻¹ X.A (subscriptTail Ō slice v u) RR X.xe s
def Yc (X:Cx)(id:Ĝ)(r:V->Zb->Hp->VK->ο):ο:=
 ∀(a:θ (Zs×Obj))(s:Zu)(d:St)(H:Hp)(x:V)(c:Zb)(v:Zt)(b:Zk)(Q:VK),mm s->ì x v->ä c b->r x c H Q->X⁻¹ X.A (Ğ (.Ι id) (v::b)) (EP X a d Q) X.xe s
section
variable {X:Cx}{a b:Expr}{ta tb:TE}{pos:Pos}
def aM {r:R2}(g:My X r)(n:ZB)(d:MI)(j:Wh b):PE X (.Ś a b pos) Ty:=by intro c s l H Q I h;rwa[Subscript_ (QP n d I h λv u e x y m f i k q=>g a b c e l m x y v u Q f i k q (j β))]
inductive Ka (K:Za1)(x y:V)(H:Hp)(Q:VK):ο
 |mk (p:Zs)(xs:Zb)(i:π)(v:V):x=?p->y=.υ i->ay K H p xs->lh xs i\v->Q v H->Ka K x y H Q
inductive Q0 (K:Za1)(x y:V)(H:Hp)(Q:VK):ο
 |mk (p:Zs)(xs:Zb)(i:π)(v:V):x=?p->y=.υ i->bG K H p xs->lh xs i\v->Q v H->Q0 K x y H Q
def aU {n:Za1}[g:eD X n]:My X (Ka n):=by
 cases g.eq;intro Ō slice c s A H x y v u Q I J L h o;let[p,O,i,z,Ų,Ų,D,M,q]:=h;ext J;let[t,Ų]:=L;let[f,r,pl,N]:=I.Ĥ D;let[j,d,C,P,E,F]:=HW M;let[w,m,e]:=r.ű C;let G:=@r;let R:=oO;let fin:EP X c A Q w s:={z,H,I,e,q};cases l:0<=i
 .let k:i.Φ=j:=by rw[seqIndex_of l F]at d;rwa[Za0 d]
  rwa[item_listR pl.î l ∅ (by rw[k];simpa using m) fin o]
 .let k:(i+ (f.χ.Υ:π)).Φ=j:=by rw[seqIndex_neg ∅ E]at d;rw[aoI,<-G];rwa[Za0 d]
  exact subscriptTail_builtinR (x:=w) pl.î.Ý slot_list_getitem.ω
   (wpAny_getItem_list_neg (Q:=λr B=>r=w/\EP X c A Q r B) pl.î ∅ (by rw[aoI] <;> omega) ∅ (by rw[k];simpa using m) {2,fin}) o
def cI {f:Za1}[e:eD X f]:My X (Q0 f):=by
 cases e.eq;intro Ō slice c s g H x y v u Q I A C h B;let[p,M,i,z,Ų,Ų,m,D,q]:=h;ext A;let[t,Ų]:=C;let[n,r,pl,J]:=I.Ě m;let[j,F,l,N,E,G]:=HW D;let[w,o,d]:=r.ű l;let L:=@r;let O:=oO;let fin:EP X c g Q w s:={z,H,I,d,q}
 exact subscriptTail_builtinR (x:=w) pl.Ý slot_tuple_getitem.ω
  (getItem_tuple (j:=j) (Q:=λr k=>r=w/\EP X c g Q r k) pl ∅ ∅ (by cbv) (by simpa using o) {2,fin}) B
def Kb (c:Zk)(n j:η)(u:Zt):Obj.Ŭ (·.é j u) (ż>>>.seq c.χ n)=(ż>>>.seq (c.set j u).χ n):=by simp[Obj.Ŭ]
def Inv.Ν {f:θ (Zs×Obj)}{g:St}{xs:Zb}(I:Inv X f g H s)(h:H c\.Ν xs):
 ∃(d:Zk)(n:η),oe d/\s•c\(ż>>>.seq d.χ n)/\@xs<=Ε:=by let[z,d,n,r,e]:=I.a0 c _ h;rwa[d,n,r,e,z]
def Inv.Yd {g:θ (Zs×Obj)}{j:St}{ys:Zb}{d:Zk}{f:Obj->Obj}(I:Inv X g j H s)(h:H c\.Ν L)(l:s•c\(ż>>>.seq N.χ n))(i:f (ż>>>.seq N.χ n)=(ż>>>.seq d.χ m))(r:ä ys d)(hz:@ys<=Ε)(t:η):
 Inv X g j (ψ H c (.Ν ys)) { s with τ:=s.τ.Ľ c f,Æ:=t }:=by
 let e:(s.τ.Ľ c f).get? c\(ż>>>.seq d.χ m):=by rw[ao5 f l (by rw[i] <;> rfl),i]
 rwa[I.write (x:=c) (e:=c) (by rw[h];trivial) (.Α Ų) (λb u k q=>(apj^apE k).ν q) {_,e} ?_];rwa[hz,d,m,r,e]
inductive Uk (o i v:V)(H:Hp)(Q:(Hp->ο)):ο
 |mk (p:Zs)(xs:Zb)(k:π)(j:η):o=?p->i=.υ k->H p\.Ν xs->pY @xs k\j->Q (WA (.Ν (xs.set j v)))->Uk o i v H Q
def ŀ:XS X Uk:=by
 intro d s D H o i v J M u Q I A E B h;let[p,xs,k,j,Ų,Ų,y,F,q]:=h;ext A;let[t,Ų]:=E;let[c,n,r,g,C]:=I.Ν y;let[e,G,z,w]:=HV F;let l:=@r;let L:=oO
 let x:Inv X d D (WA (.Ν (xs.set j v))) { s with τ:=s.τ.Ľ p (Obj.Ŭ (·.é j u)) }:=I.Yd y g (Kb c n j u) (r.set B j) ([aoR]▸C) s.Æ
 cases m:0<=k
 .let f:k.Φ=j:=by rw[seqIndex_of m w]at e;rwa[Za0 e]
  rwa[Γ.W.ki_setAt g m ∅ (by rw[aoI,<-l];rwa[w]) ([f]▸{_,x,q})]
 .let f:(k+ (c.χ.Υ:π)).Φ=j:=by rw[seqIndex_neg ∅ z]at e;rw[aoI,<-l];rwa[Za0 e]
  rwa[Γ.W.ki_setBack g ∅ (by rw[aoI,<-l];rwa[z]) ∅ ([f]▸{_,x,q})]
def DX (lo c:Zj)(n:η):(ŉ lo c ε n).1=((HT.cE n 0 lo:η):π)/\(ŉ lo c ε n).2.1=((HT.cE n n c:η):π)/\(ŉ lo c ε n).2.2=1:=by
 rwa[{552}]
 .cases lo with
  |ε=>simp[ŉ,HT.cE]
  |ι i=>
   simp only[ŉ,HT.cE,Ă.getD_none,show (1:π) > 0 by decide,arV];cases h:i<0
   .simp only[h,arV] <;> ext
   .simp only[h,ar3] <;> ext
 .cases c with
  |ε=>simp[ŉ,HT.cE]
  |ι i=>
   simp only[ŉ,HT.cE,Ă.getD_none,show (1:π) > 0 by decide,arV];cases h:i<0
   .simp only[h,arV] <;> ext
   .simp only[h,ar3] <;> ext
def C7 (c:Zk)(lo d:Zj):slicePick c.χ lo d ε=((c.ā (HT.cE @c 0 lo)).Χ (HT.cE @c @c d - HT.cE @c 0 lo)).χ:=by let[f,e,g]:=DX lo d c.χ.Υ;unfold slicePick;rw[f,e,g];simp only[sliceRange_one,pick_run,aoI] <;> rfl
inductive Ye (K:Za1)(x:V)(lo hi:Zj)(H:Hp)(Q:VK):ο
 |mk (a:Zs)(xs:Zb):x=?a->ay K H a xs->(∀p,H p=ε->Q ?p (WA (.Ν Nl)))->Ye K x lo hi H Q
def Wi {f:Za1}[c:eD X f]:Ui X (Ye f):=by cases c.eq;intro g s z H x v y p lo d u Q I l m pl k h;let[a,xs,Ų,n,q]:=h;ext l;let[i,r,e,j]:=I.Ĥ n;let æ:=@r;erw[ż,_,slot_list_getitem.ω,e.î.Ý];rwa[wpAny_getItem_list_slice e.î m pl k .ε (by simp) ?_ (by rw[aoI] <;> omega)];rw[C7,<-æ];rwa[↑↥s,_,I.ŭ (t':=s.Æ) (o:=.Ν (k8 xs lo d)) (λb w q=>aol _ q) Ź ?_,2,q _ (I.a0.ó Ź)];rwa[aot (wQ xs lo d) j,_,(0),(r.ā (HT.cE @xs 0 lo)).Χ (HT.cE @xs @xs d - HT.cE @xs 0 lo),JU Ų]
inductive Kc (K:Za1)(xs:Zb)(H:Hp)(Q:VK):ο
 |mk (p:Zs)(ys:Zb):xs=[?p]->(yY p ys\/bG K H p ys)->Q (.υ @ys) H->Kc K xs H Q
def aP {g:Za1}[f:eD X g]:gY X (.Ι "len") (Kc g):=by
 cases f.eq;intro i s m H l o Q I r h;let[p,ys,Ų,c,q]:=h;let[u,Ų,k]:=vals1 r;ext k;let n:=oO;rcases c with c|c
 .let[e,d,pl,j]:=I.Ĥ c;let æ:=@d;rwa[Calls.call_len_list pl.î (by simp only[aoI] <;> omega) {.υ @ys,H,I.tok _,{s.Æ+ 1,by cbv},q}]
 .let[e,d,pl,j]:=I.Ě c;let æ:=@d;rwa[len_tuple pl (by simp only[aoI] <;> omega) {.υ @ys,H,I.tok _,{s.Æ+ 1,by cbv},q}]
def lj {t:Za1}[w:eD X t]:gY X (.Â ż) (λy H Q=>∃p ys,y=[?p]/\(ay t H p ys\/bG t H p ys)/\∀l,H l=ε->Q ?l (ZP (.Ν ys))):=by
 cases w.eq;intro k s B H y D Q I r h;let[p,ys,Ų,i,q]:=h;let[u,Ų,A]:=vals1 r;ext A
 let fin:∀(c:Zk),ä ys c->@ys<=Ε->∀(d:Û)(g:η),(∀b z,s•b\z->d.get? b\z)->
  d.get? ↥s=ι { cls:=.Â ż,ù:=ε,ê:=.seq c.χ g,č:=#[] }->EP X k B Q ↑↥s (s<*d):=λc f j d g kp e=>{↑↥s,_,I.ŭ (t':=s.Æ) kp Ź (show cu X.À X.w _ d _ (.Ν ys) from {j,c,g,f,e}),2,q _ (I.a0.ó Ź)}
 rcases i with i|i
 .let[c,f,pl,j]:=I.Ĥ i;let æ:=@f;let[o,v,x,n,m]:=pl.î;rwa[call_list_seq p (.Α Ų) v x m (λd g kp e=>fin c f j d g kp e) (by simp only[aoI] <;> omega)]
 .let[c,f,pl,j]:=I.Ě i;let æ:=@f;let[o,v,x,n,m]:=pl;rwa[call_list_seq p (.Ç Ų) v x m (λd g kp e=>fin c f j d g kp e) (by simp only[aoI] <;> omega)]
def iO {j:Za1}[k:eD X j]:gY X (.Â ŷ) (λt H Q=>∃p ys,t=[?p]/\((ay j H p ys/\∀l,H l=ε->Q ?l (ZP (.Ò ys)))\/(bG j H p ys/\Q ?p H))):=by
 cases k.eq;intro c s v H t z Q I r h;let[p,ys,Ų,h]:=h;let[u,Ų,y]:=vals1 r;ext y;rcases h with ⟨i,q⟩|⟨i,q⟩
 .let[d,g,pl,n]:=I.Ĥ i;let æ:=@g;rwa[call_tuple_list pl.î (λf kp=>?_) (by simp only[aoI] <;> omega)];let m:Inv X c v H (s<*f):=I.ņ (t':=s.Æ) kp
  let x:Inv X c v (ψ H f.õ.Υ (.Ò ys)) { s with τ:=f.Ú (ŷ>>>.seq d.χ) }:=m.ŭ (t':=s.Æ) (λb o e=>aol _ e) Ź (show cu X.À X.w γ (.Ò ys) from {n,d,g,ŗ.new β})
  rwa[?f.õ.Υ,_,x,2,q _ (m.a0.ó Ź)]
 .let[d,g,pl,n]:=I.Ě i;rwa[call_tuple_same pl {?p,H,I,2,q}]
def Yf (K:Za1)(T:Ĝ)(x:V)(H:Hp):ο:=match x with
 |.str _=>T=ZU
 |.υ _=>T=Z0
 |.É p=>(T=ż/\∃d,yY p d)\/(T=ŷ/\∃o,K.ω p\o/\o.cls=.Â ŷ/\o.ù=ε)\/
  (T=ϲ/\((∃c,H p\.dK c)\/∃c,H p\.dT c))\/(T="set"/\∃S n,H p\.set S n)
 |_=>Ð
def Mz {f:θ (Zs×Obj)}{u:St}{T:Ĝ}{x:V}(I:Inv X f u H s)(r:ì x v)(g:Yf X.K T x H):
 s.Ġ v T/\∀a,v=?a->∃l,s•a\l/\l.ù=ε:=by
 cases x with
 |str z=>let[t,Ų]:=r;cases (show T=ZU from g);rwa[typeIs_str s z t,λ_ e=>nomatch e]
 |υ i=>let[t,Ų]:=r;cases (show T=Z0 from g);rwa[Ř s i t,λ_ e=>nomatch e]
 |É p=>
  ext r;rcases g with ⟨rfl,y,m⟩|⟨rfl,o,d,w,h⟩|⟨rfl,d⟩|⟨rfl,S,n,d⟩
  .let[q,_,pl,_]:=I.Ĥ m;rwa[pl.î.Ý,λa e=>?_];ext e;let[o,n,e,c,h,_]:=pl;rwa[o,e,h]
  .rwa[{o,I.dJ p o d,w},λa e=>?_];ext e;rwa[o,I.dJ _ o d,h]
  .let z:∃o,s•p\o/\o.ExactDict:=by
    rcases d with ⟨j,d⟩|⟨j,d⟩
    .let[_,_,_,_,o,_,_,e,ex,_]:=I.a0 p _ d;rwa[o,e,ex]
    .let[_,_,_,_,o,_,_,e,ex,_]:=I.a0 p _ d;rwa[o,e,ex]
   let[o,e,ex]:=z;rwa[{o,e,ex.1},λa k=>?_];ext k;rwa[o,e,ex.2.1]
  .let[o,_,_,_,e,ex,_]:=I.a0 p _ d;rwa[{o,e,ex.1},λa k=>?_];ext k;rwa[o,e,ex.2.1]
 |_=>exact Ð.Ü g
def afO (K:Za1)(T:Ĝ)(r:V->Zb->Hp->VK->ο)(to:TE):TE:=λ d H Q=>to d H λx c=>Yf K T x c/\r x [] c Q
def tBM (K:Za1)(T:Ĝ)(r:V->Zb->Hp->VK->ο)(to:TE)(t:TA):TE:=λ d H Q=>to d H λx c=>Yf K T x c/\t d c λf e=>r x f e Q
variable {o e:Expr}{es:Zr}{to:TE}{t:TA}{name:Str}{apos cP:Pos}{T id:String}{r:V->Zb->Hp->VK->Prop}
def MA {k:Za1}[f:eD X k](A:PlainAttrs T)(slot:Slot T û id)(g:typeOf (.Ι id)=Č (.Â "method_descriptor"))(z:Yc X id r)(q:PE X o to)(d:Đ o û X.env IN=å o X.env:=by rfl)(hline:(ĭ.endLine==cP.line)=ρ:=by rfl):PE X (.ġ (.â o û ĭ) [] [] cP) (afO k T r to):=by cases f.eq;intro c s l H Q I h;rwa[wpAny_Call_method0_late d hline (bx (q c s l H _ I h) λv w ζ=>?_)];let[x,u,j,i,y,n]:=ζ;let[p,m]:=Mz j i y;rwa[T,id,A,slot,g,p,m,xL (Γ.evalArgs_none (z c w l u x [] v [] Q j i .nil n))]
def cp {p:Za1}[i:eD X p](O:PlainAttrs T)(slot:Slot T û id)(j:typeOf (.Ι id)=Č (.Â "method_descriptor"))(J:Yc X id r)(B:PE X o to)(N:PA X (e::es) t)(f:Đ o û X.env IN=å o X.env:=by rfl)(g:((ĉ cP (Ο (e::es) X.env)).all (λx=>!x.1) && (Ń cP (ď [] X.env)).all (λx=>x.1.ě)
  && decide (@(e::es)+ @([]:θ Keyword)+ (if ([]:θ Keyword).è then 0 else 1)<30))=ρ:=by rfl)(hline:(ĭ.endLine==cP.line)=ρ:=by rfl)(E:Ο (e::es) X.env=(ς,å e X.env)::Ο es X.env:=by rfl)(d:(ĉ cP ϯ).any (·.1)=ς:=by rfl):
 PE X (.ġ (.â o û ĭ) (e::es) [] cP) (tBM p T r to t):=by cases i.eq;intro c s k H Q I h;rwa[wpAny_Call_method_late f g hline Ų (bx (B c s k H _ I h) λv D ζ=>?_)];let[x,C,m,l,F,y]:=ζ;let[z,q]:=Mz m l F;erw[T,id,O,slot,j,z,q];let n:=N cP c D k C _ m y;rw[E]at n ⊢;rwa[apy (by show (ς || (ĉ cP ϯ).any (·.1))=ς;rw[d] <;> rfl) (apT ?_)];rwa[bx n λM w ζ=>?_];let[u,L,A,G,P]:=ζ;rwa[J c w k L x u v M Q A l G P]
/- xs.append(e),list.index on a module's tuple .. are Yc facts of 06m -/
end
def MB (X:Cx)(id:Ĝ)(r:V->Zb->Hp->VK->ο):ο:=
 ∀(a:θ (Zs×Obj))(s:Zu)(d:St)(H:Hp)(x:V)(c:Zb)(v:Zt)(b:Zk)(Q:VK),mm s->ì x v->ä c b->r x c H Q->X⁻¹ X.A (Ğ (.Ι id) (v::b)) (EP X a d Q) X.xe s
theorem ä.one:∀{x:V}{a:Zk},ä [x] a->∃u,a=[u]/\ì x u
 |_,_,.È r .nil=>{12,r}
theorem ä.Ŀ:∀{a:Zk},ä [] a->a=[]
 |_,.nil=>rfl
def ä.ĝ {xs:Zb}{us:Zk}(h:ä xs us):ä xs.ĝ us.ĝ:=by
 induction h with
 |nil=>exact .nil
 |È r t a=>
  cases t with
  |nil=>exact .nil
  |È q b=>exact .È r a
theorem ä.rep (h:ä L N):∀k:η,ä (θ.Ê k L).Ì (θ.Ê k N).Ì
 |0=>.nil
 |k+ 1=>by rwa[ä.Ů h (ä.rep h k)]
theorem foldl_rep (a:Zk):∀(k:η)(acc:Zk),
 θ.ă (λc d=>c++d) acc.χ (θ.Ê k a.χ)=(acc++(θ.Ê k a).Ì).χ
 |0,acc=>by simp
 |k+ 1,acc=>by
  let e:acc.χ++a.χ=(acc++a).χ:=by simp
  let b:(acc++a)++(θ.Ê k a).Ì=acc++(θ.Ê (k+ 1) a).Ì:=by rw[aqp,aqC,ao6]
  rw[<-b,<-foldl_rep a k (acc++a),<-e,aqp,aqd]
section
variable {X:Cx}{pins:List (Zs×Obj)}{σ:St}{H:Hp}{s:Zu}{l:Zs}{xs ys:Zb}
def Inv.Kd {Q5:Zk}{f:Zm->Zm}(I:Ŵ)(d:H l\.Ν xs)(e:s•l\(ż>>>.seq N.χ n))(a:f N.χ=Q5.χ)(c:ä ys Q5)(hz:@ys<=Ε):
 Inv X Î σ (ZP (.Ν ys)) { s with τ:=s.τ.Ľ l (Obj.Ŭ f),Æ:=m }:=by let q:=Γ.IsL.Ľ e f;rw[a]at q;rwa[I.write (x:=l) (e:=l) ([d]▸trivial) (.Α Ų) (λi u h g=>(apj s.τ (Obj.Ŭ f) (apE h)).ν g) {_,q} ?_];rwa[hz,Q5,_,c,q]
def Inv.Yg {t':η}(I:Ŵ)(a:ä ys N)(hz:@ys<=Ε):
 Inv X Î σ (ψ H ↥s (.Ν ys)) { s with τ:=s.τ.Ú (ż>>>.seq N.χ),Æ:=t' }:=I.ŭ (λ_ _ q=>aol _ q) Ź {hz,N,(0),a,JU Ų}
def Inv.ó (I:Ŵ):H ↥s=ε:=I.a0.ó Ź
def Inv.sf (I:Ŵ)(c:H l\.Ν xs):@xs<=Ε/\∃(a:Zk)(n:η),oe a/\@xs=@a/\s•l\(ż>>>.seq a.χ n):=by let[z,a,n,r,e]:=I.a0 l _ c;rwa[z,a,n,r,@r,e]
def xM (h:n<=Ε):Λ.θ.listTooLong n=ς:=by rwa[apd ∅]
end
variable {X:Cx}
inductive HX (x:V)(vs:Zb)(H:Hp)(Q:VK):ο
 |mk (l:Zs)(xs:Zb)(y:V):x=?l->vs=[y]->H l\.Ν xs->@xs<Ε->Q .non (ZP (.Ν (xs++[y])))->HX x vs H Q
theorem bI:MB X "list.append" HX:=by intro d s p H x j v t Q I g f h;let[l,o,y,Ų,Ų,c,k,q]:=h;ext g;let[u,Ų,i]:=f.one;let[z,a,n,r,m,e]:=I.sf c;rwa[ark F.slot_list_append {_,e,2} F.entry_list_append (F.args_list_append_2 β) (Γ.list_append l a.χ n u (by rw[aoI];omega)) {e,5}];rwa[.non,_,I.Kd (Q5:=a++[u]) c e (by simp) (r.Ů (.È i .nil)) ?_,2,q];rw[aoj,apL];ext
inductive AQ (x:V)(vs:Zb)(H:Hp)(Q:VK):ο
 |mk (l b:Zs)(xs zs:Zb):x=?l->vs=[?b]->H l\.Ν xs->H b\.Ν zs->@xs+ @zs<=Ε->Q .non (ZP (.Ν (xs++zs)))->AQ x vs H Q
theorem ud:MB X "list.extend" AQ:=by
 intro j s J H x C v L Q I p m h;let[l,b,G,B,Ų,Ų,i,y,D,q]:=h;ext p;let[u,Ų,w]:=m.one;ext w;let[z,c,n,r,E,e]:=I.sf i;let[z2,a,A,t,k,o]:=I.sf y;let f:c.χ.Υ+ a.χ.Υ<=Ε:=by rw[aoI,aoI];ext
 let d:¬(!c.χ.è && Λ.θ.listTooLong (c.χ.Υ+ a.χ.Υ))=ρ:=by rw[xM f,ã.and_false];rwa[ao7]
 refine ark F.slot_list_extend {_,e,2} F.entry_list_extend (F.args_list_extend_2 β)
  (AutoSeq1.list_extend_list_list_0 l c.χ n b a.χ A d ∅ ∅) {e,o,5}
 rwa[.non,_,I.Kd (Q5:=c++a) i e (by simp) (r.Ů t) ?_,2,q];rw[aoj];ext
inductive Yh (x:V)(vs:Zb)(H:Hp)(Q:VK):ο
 |mk (l:Zs)(xs:Zb)(y:V):x=?l->vs=[]->H l\.Ν xs->xs[@xs - 1]?\y->Q y (ZP (.Ν xs.ĝ))->Yh x vs H Q
theorem MC:MB X "list.pop" Yh:=by
 intro g s A H x t v B Q I o i h;let[l,w,y,Ų,Ų,f,k,q]:=h;ext o;let b:=i.Ŀ;subst b;let[z,a,n,r,j,e]:=I.sf f;let[u,m,p]:=r.ű k
 let c:a.χ[a.χ.Υ - 1]?\u:=by
  show a.χ[@a - 1]?\u
  rw[<-aq6,<-j];rwa[m]
 rwa[ark F.slot_list_pop {_,e,2} F.entry_list_pop (F.args_list_pop_1 _) (MeetsSeq.list_pop_last l a.χ n u c (by rw[aoI];omega)) {e,5}];rwa[y,_,I.Kd (Q5:=a.ĝ) f e ?_ r.ĝ ?_,p,q]
 .cbv
 .rw[θ.length_dropLast];ext
inductive Yi (x y:V)(H:Hp)(Q:VK):ο
 |mk (l b:Zs)(xs zs:Zb):x=?l->y=?b->H l\.Ν xs->H b\.Ν zs->@xs+ @zs<=Ε->(∀p,H p=ε->Q ?p (WA (.Ν (xs++zs))))->Yi x y H Q
def yS:gX X (ĕ .Add) Yi:=by
 intro d s D H x y v u Q I j k h;let[l,b,C,w,Ų,Ų,i,p,A,q]:=h;ext j;ext k;let[z,c,n,r,B,e]:=I.sf i;let[z2,a,E,m,f,g]:=I.sf p;rwa[Γ.P.add_list e g ?_ (by rw[aoI,aoI];omega)];let o:c.χ++a.χ=(c++a).χ:=by simp
 rw[o];rwa[↑_,_,I.Yg (t':=s.Æ) (r.Ů m) (by rw[aoj];omega),2,q _ I.ó]
inductive Yj (x y:V)(H:Hp)(Q:VK):ο
 |mk (l:Zs)(k:π)(xs:Zb):x=?l->y=.υ k->H l\.Ν xs-> -(2 ^ 63)<=k->k<2 ^ 63->@xs* k.Φ<=Ε->(∀p,H p=ε->Q ?p (WA (.Ν (θ.Ê k.Φ xs).Ì)))->Yj x y H Q
def len_rep {a:Type}(xs:θ a)(k:η):(θ.Ê k xs).Ì.ü=k* @xs:=by
 induction k with
 |Ŀ=>simp
 |ŧ k b=>cbv
theorem MD:gX X (ĕ .Mult) Yj:=by
 intro p s O H x y v u Q I G J h;let[l,k,N,Ų,Ų,E,C,A,o,q]:=h;ext G;let[t,Ų]:=J;let[z,b,n,r,D,e]:=I.sf E;let æ:b.χ.Υ* k.Φ<=Ε:=by rw[aoI,<-D];rwa[o]
 let d:¬b.χ.Υ* k.Φ > (2 ^ 63 - 1) / 8:=by
  have:(Ε:η)<=(2 ^ 63 - 1) / 8:=⋯
  ext
 let g:¬(!Builtin.θ.listFitsIndex k)=ρ:=by rw[fitsIndex_both C A];rwa[ao7]
 let c:¬Λ.θ.listTooLong (b.χ.Υ* k.Φ)=ρ:=by rw[xM æ];rwa[ao7]
 let f:θ.ă (λj i=>j++i) #[] (θ.Ê (if b.χ.è=ρ then 0 else k.Φ) b.χ)=(θ.Ê k.Φ b).Ì.χ:=by
  let B:∀m:η,θ.ă (λj i=>j++i) #[] (θ.Ê m b.χ)=(θ.Ê m b).Ì.χ:=λm=>by
   have:=foldl_rep b m []
   cbv
  rw[B]
  cases b with
  |nil=>simp
  |È a L=>rw[aoK (by simp)]
 refine wpAny_binaryOp_repeat_ref (T:=ż) (U:=Z0) ⋯ {_,e,2} (λw=>Ř w k t) noFill_list_mul F.fills_int_mul F.slot_int_rmul repeat_list F.slot_int_index.ω
  (ZJ (int___rmul___int_list k t l b.χ n)
   {e,2,{_,e,2},ark F.slot_list_mul {_,e,2} F.entry_list_mul (F.args_list_mul_2 β) (AutoListH.list___mul___list_int_3 l b.χ n k t g d c) {e,5}})
 rw[f];rwa[↑_,_,I.Yg (t':=s.Æ) (r.rep k.Φ) ([len_rep,aqJ]▸o),2,q _ I.ó]
end L2
namespace Att
open PySem PySem.W PySem.Calls PyProof.Rows
def yT {P:Params}:∀(ns:Zg)(c:Zk),WellAll P h c (ns.Κ WData.υ)->IntsAre c ns:=by
 intro ns
 induction ns with
 |nil=>intro c w;ext w;rwa[.nil]
 |È n ns d=>
  intro c w
  cases w with
  |È a b=>ext a;rwa[.È β (d _ b)]
def MF {l:OpenLaw}(v:l.most\n){P:Params}{h:Û}{b:θ WData}{c:Zk}(e:l.row.toRowW.claim.pre b=ρ)(i:WellAll P h c b):
 ∃a m ns,c=[Η.É a]/\b=[WData.Ĥ (ns.Κ WData.υ)]/\h.get? a\(ż>>>.seq m.χ)/\IntsAre m ns/\@ns<=n:=by
 let k:WShape.hasAll [] b [.Ĥ .υ]=ρ:=(pre_splitW e).1;let x:l.pre.holds [] { args:=b }=ρ:=(pre_splitW e).2;let[d,r,Ų,s,p]:=hasAllW_cons k;obtain rfl:=hasAllW_nil p;let[y,Ų,u]:=hasW_list s;let[ns,Ų]:=items_int u
 let æ:@ns<=n:=by
  let g:(WTm.not (.lt (.lit (.υ (n:π))) (.len (.arg 0)))).holds [] { args:=[.Ĥ (ns.Κ .υ)] }=ρ:=by let g:=(holds_andW x).1;rw[v]at g;rwa[g]
  let j:=condW_of g (w_not (w_lt w_lit (w_len_list (w_arg Ų))));rwa[η.le_of_not_lt λq=>?_]
  first
   |(rw[aoP z]at j;rwa[Ρ j (by decide)])
   |(simp at j;omega)
 cases i with
 |È o w=>
  ext w
  cases o with
  |Ĥ t f=>rwa[11,ns,22,t,yT ns _ f,æ]
def MG (l:OpenLaw)(a:θ WData):l.row.toRowW.claim.post a (.ħ ρ) a=ρ:=
 postW_of (r:=l.row.toRowW) (X:=(ρ==ρ))
  (show WShape.has [] (.ħ ρ) .ħ=ρ by first|rfl|decide|simp[WShape.has,WShape.arms,WShape.armsAll])
  (show (WTm.eq .res (.lit (.ħ ρ))).Ō [] { args:=a,res:=ι (.ħ ρ),after:=a }=ι (.ħ (ρ==ρ)) from w_eq_bool (w_res Ų) w_lit) rfl
def GC {l:OpenLaw}{q:Í}{loose:Zp}{A:(Ñ->Zl)->Û->ο}{z:à->Û->ο}{d:DefRec}(J:l.most\n)(p:d.Ĳ.defaults=[])(Ğ:∀(w:à) (c b:Zu) (mg s:Ñ->Zl) (h:Zs) (o:Obj) (pm k doc:Zt) (a:Zs) (e:Zk) (ns:Zg),
  Ground q loose [] A w c mg s b.τ->z w b.τ->
  b•h=ι o->o.ê=.func (docDef d.û d.Ĳ d.body d.Ξ pm k doc)->b.τ.CodeRec k d.û->mg d.û\?h->
  b•a=ι (ż>>>.seq e.χ)->IntsAre e ns->@ns<=n->b.gens=#[]->codeAny (ñ l.À w) callerA (.Ğ ?h {[?a],[]}) (λr j=>r=.ok (.ret (.ħ ρ))/\OldK b.τ j.τ/\j.os=b.os/\Ŕ j.gens) b):
 WalkO q loose A z l.row.toRowW d [] (λf e=>Γ.Ğ f e):=by intro w c b mg s G Y h o pm k doc N kV H B u y t D v x as i hlay O m M;obtain rfl:N=.ε:=Dflts.ε y p;obtain rfl:kV=.ε:=Dflts.noKw y;let[a,e,ns,Ų,Ų,g,hints,æ]:=MF J i m;rwa[enter_call (aq4 (Ğ w c b mg s h o pm k doc a e ns G Y H (fd_plain B) u t g hints æ D) λr j E=>?_)];let[Ų,C,I,F]:=E;rwa[.Α {.ħ ρ,.ħ ρ,[],2,λ_=>rfl,.ħ ρ,MG l _,λ_=>{θ.Ő.nil,λ_ L=>(nomatch L)}},C,I,F]
end Att
namespace L2
theorem BU:∀{a:Zk}{ns:Zg},IntsAre a ns->ä RO a
 |_,_,.nil=>.nil
 |_,_,.È n t h=>.È {t,2} (BU h)
def Only (H:Hp):ο:=∀b,H b=ε\/∃o a,H b\(.dI o (.Ν a))
def Q6 {P:Í}{w:à}{K:Za1}{mg:Ñ->Zl}{Z:qV}{k:η}{fd:Ζ}{T:Sp}{ns:Zg}(U:OA)(y:s.τ.Ns ø mg)(p:s.τ.Ns builtinsNs M)(O:∀x:Ñ,x≠HA->M x=ŏ x)(A:s.τ.NoLimit)(hg:s.gens=#[])(S:s•b\(ż>>>.seq N.χ))(Y:IntsAre N ns)(X:@ns<=Ε)(hr:dy k callerA)(F:∀Β:Û,K.In Β->Β.Ns ø mg->cX P w K mg Β Z k a fd [x] T)(l:∀(f:Zu) (u:Zt),BindsTo f fd ⟨[u],[]⟩ [(x,u)])(R:∀H:Hp,Only H->ay K H b RO->T [?b] H (λv _=>v=.bl ρ) λ_ _ _=>Ð)(L:∀H e i,Z [] H s (λ_ _ _=>Ð) e i->Ð):
 codeAny (ñ P w) callerA (.Ğ ?a {[?b],[]}) (λr i=>r=.ok (.ret (.ħ ρ))/\OldK s.τ i.τ/\i.os=s.os/\Ŕ i.gens) s:=by
 let rv:=BU Y;let B:=@Y
 let core:∀H:Hp,Only H->ay K H b RO->eI P w H s.τ->(∀c,H c≠ε->c=b)->(H b≠ε->K.ω b=ε)->
  codeAny (ñ P w) callerA (.Ğ ?a {[?b],[]}) (λr i=>r=.ok (.ret (.ħ ρ))/\OldK s.τ i.τ/\i.os=s.os/\Ŕ i.gens) s:=by
  intro H W hS C hA hK;let g:∀{c:Zs}{o:Obj},s•c\o->H c=ε->(rZ s.τ H).get? c\o:=λe n=>QL e n
  let Q:∀{c:Zs}{o:Obj}{E:Ė Ļ}{G:η},s•c\o->o.ê=.ù E G->H c=ε:=λ{c o E G} e d=>by cbv
  let j:∀{c:Zs}{m:Ñ->Zl},s.τ.Ns c m->(rZ s.τ H).Ns c m:=λ{c m} ζ=>by let[o,E,G,e,d,r]:=ζ;rwa[o,E,G,g e (Q e d),d,r]
  let D:K.In (rZ s.τ H):=λc o e=>g (U c o e) (by cbv)
  let hM:Mod K mg (rZ s.τ H):={D,j y,{M,j p,O},let ⟨mc,h1,h2⟩:=A;{mc,j h1,h2}};let e0:xJ P w K mg (rZ s.τ H) callerA [] s H:={2,hM,λc o e=>V7 e,arE (Mh β),trivial,λc p=>Ρ (show c∈([]:Zn) from p) (by simp),C,.of_eq hg};rwa[aq4 ((F _ D (j y)).run callerA [] s H {[?b],[]} [?b] [?b] β hr e0 (l s ?b) (.È Ų .nil) (R H W hS)) λr i h=>?_]
  cases r with
  |error e=>exact(L H e i h).Ü
  |ok fl=>
   cases fl with
   |next=>exact Ð.Ü h
   |brk=>exact Ð.Ü h
   |cont=>exact Ð.Ü h
   |ret u=>
    let[v,H',os,bare,un,t,r',q]:=h;let q':v=.bl ρ:=q;subst q';obtain rfl:u=Η.ħ ρ:=r';rwa[2,OldK.of_keep λc o e=>?_,os,bare]
    cases q:H c with
    |ε=>exact un.Ï c o e q (by intro z;rwa[Ρ (show c∈([]:Zn) from z) (by simp)]) (by simp)
    |ι u=>
     rcases W c with z|⟨ob,xs,z⟩
     .cbv
     .let z2:=un.iA c ob _ z;let[e1,_]:=C c _ z;let[e2,_]:=t c _ z2
      cbv
 cases J:K.ω b with
 |ι o=>let e:=U b o J;rw[S]at e;ext e;rwa[core (λ_=>ε) (λ_=>.Α Ų) (.Ç {_,N.χ,_,J,222,[aoI,B]▸X,3}) (λc u z=>by cbv) (λc z=>Ρ Ų z) λz=>Ρ Ų z]
 |ε=>
  rwa[core (λc=>if c=b then ι (.dI (ż>>>.seq N.χ) (.Ν RO)) else ε) (λc=>?_) (.Α (.Ç {(ż>>>.seq N.χ),aoO Ų})) (λc u z=>?_) (λc z=>?_) λ_=>J]
  .cbv
  .cases p:c=b
   .let z':=(aoO p).Τ.ν z;ext z';subst p;rwa[S,[aog]▸X,N,_,rv,S]
   cbv
  cbv
def Wj {l:Γ.W.OpenLaw}{k:η}{q:Í}{loose:Zp}{E:(Ñ->Zl)->Û->ο}{A:à->Û->ο}{d:DefRec}{K:Params->Za1}{CX:à->qV}{sp:à->Sp}(N:l.most\n)(p:n<=Ε)(j:d.Ĳ.defaults=[])(M:dy k callerA)(L:∀(w:à) (h:Û),A w h->(K w.Ĳ).In h)(F:∀(w:à) (mg:Ñ->Zl) (g:Zs) (h:Û),(K w.Ĳ).In h->h.Ns ø mg->mg d.û\?g->
  ∃fd:Ζ,(∀(s:Zu) (u:Zt),BindsTo s fd ⟨[u],[]⟩ [(x,u)])/\∀Β:Û,(K w.Ĳ).In Β->Β.Ns ø mg->cX l.À w (K w.Ĳ) mg Β (CX w) k g fd [x] (sp w))(t:∀(w:à) (H:Hp) (a:Zs) (ns:Zg),@ns<=n->Only H->ay (K w.Ĳ) H a RO->sp w [?a] H (λv _=>v=.bl ρ) λ_ _ _=>Ð)(m:∀(w:à) (H:Hp) (s:Zu) (e:Zt) (i:Zu),CX w [] H s (λ_ _ _=>Ð) e i->Ð):
 Γ.W.WalkO q loose E A l.row.toRowW d [] (λf B=>Γ.Ğ f B):=by
 rwa[Att.GC N j λw z c mg R g o pm T doc a B ns G Y S Q P r b hints æ D=>?_]
 let y:=L w _ Y;let[fd,C,J]:=F w mg g _ y G.T.g r;rwa[Q6 y G.T.g G.T.b G.T.builtins G.T.nolimit D b hints (aot æ p) M J C (λH I O=>t w H a ns æ I O) λH e i=>m w H c e i]
def inClass (s:ŕ)(j:η):ŕ:=match s with
 |.ClassDef _ _ _ body _ _ _ _ _ _ _=>body.á j (.Pass {(0),(0),(0),(0)})
 |_=>.Pass {(0),(0),(0),(0)}
def eB (s:ŕ):Arguments:=match s with
 |.FunctionDef _ a _ _ _ _ _ _ _ _=>a
 |_=>{ posonlyargs:=[],args:=[],vararg:=ε,kwonlyargs:=[],kw_defaults:=[],kwarg:=ε,defaults:=[] }
def di (s:ŕ):θ ŕ:=match s with
 |.FunctionDef _ _ b _ _ _ _ _ _ _=>b
 |_=>[]
def aB (s:ŕ):ũ:=match s with
 |.FunctionDef _ _ _ _ _ _ a _ _ _=>a
 |_=>{ kind:=.ţ,names:=[],isGenerator:=ς,isCoroutine:=ς }
structure yU (K:Za1)(x Ā:Ñ)(st:ŕ)(f:Zs)(fd:Ζ):ο where
 ex:∃(oc:Zt)(od:Zo)(kV doc pm:Zt)(an:Zo)(cf ct:Zt)(DY:SZ),fd=fnOf x Ā (eB st) ZK Ϸ .ε kV doc pm an cf ct/\K.ω f\⟨oc,od,.func fd,DY⟩/\codeIn K cf Ā=ρ
 kp:Ĭ K ?f=ρ
section
variable {K:Za1}
theorem yU.binds {Ā:Ñ}{st:ŕ}{fd:Ζ}{ps:Zp}(F:SE)(h:∀(kV doc pm:Zt) (c:Zo) (b ct:Zt) (us:Zk),@us=@ps->bindArgs (FF .ε kV doc pm c b ct) ⟨us,[]⟩=Č ge):Ű K fd ps []:=by let[g,f,kV,doc,pm,c,b,ct,e,Ų,lk,d]:=F.ex;rwa[.all (h kV doc pm c b ct)]
def MH {Ā:Ñ}{st:ŕ}{f d:Zo}{b:SZ}{kV doc pm e:Zt}(l:K.ω a\{v,f,.func (FF .ε kV doc pm d u e),b})(c:codeIn K u Ā=ρ)(k:Ĭ K ?a=ρ):yU K x Ā st a (FF .ε kV doc pm d u e):={{v,f,kV,doc,pm,d,u,e,b,2,l,c},k}
end
def iC {A:ß}{k:η}(a:dy k A):A.İ+ 1<Ť:=aop (η.add_le_add_left (by decide:1<=64) _) a.İ
section
variable {X:Cx}
def pv (i:η){x:Ñ}{pos:Pos}(d:X.N[i]?\x:=by rfl)(c:XG X.env.Ξ x:=by trivial)(b:(x==(Ϡ:Ñ))=ς:=by decide)(a:(x==("__classdict__":Ñ))=ς:=by decide):PE X (.ö x pos) (xC i):=XI d c b a
end
def dz {A B:ο}(h:B):if ς=ρ then A else B:=by cbv
def dE {A B:ο}(h:A):if ρ=ρ then A else B:=by cbv
def cQ {c A B:ο} [Decidable c](a:c->A)(b:¬c->B):if c then A else B:=by cbv
def Ke {c A B:ο} [Decidable c](a:c)(h:B):if (!decide c)=ρ then A else B:=by cbv
def ao (H a:Hp):ο:=∀b o,H b\o->a b\o
def ao.Ł (H:Hp):ao H H:=λ_ _ h=>h
def ao.ν (a:XL)(b:ao I J):ao H J:=λc o h=>b c o (a c o h)
def ao.free (e:XL){l:Zs}(h:I l=Ă.ε):H l=Ă.ε:=by
 cases q:H l with
 |ε=>rfl
 |ι o=>rw[e l o q]at h;ext h
def ao.seq {K:Za1}(e:XL)(h:ay K H a L):ay K I a L:=by
 rcases h with (h|⟨o,h⟩)|h
 .rwa[.Α (.Α (e^h))]
 .rwa[.Α (.Ç {o,e^h})]
 .rwa[.Ç h]
def dU (X:Cx)(a:Zp)(Ξ:ũ)(cl:θ (Ñ×Zs))(C:Zs)(s:Zu)(H:Hp)(ex:Zn):Cx where
 À:=X.À
 w:=X.w
 K:=X.K
 mg:=X.mg
 Β:=X.Β
 A:=X.A
 N:=a
 fD:=s
 xu:=H
 env:=compEnvC Ξ cl C X.env
 Ψ:=X.stack
 stack:=X.stack
 ex:=ex
 fn:=λ_=>ς
 calm:=X.calm
 pn:=[]
 xe:=λ_ _=>Ð
def oQ (d:TE)(g:St)(Q:VK)(J:It)(f:Hp):ο:=∃W:η->η->Zb->Hp->ο,(∃m,W 0 m [] f)/\∀i m ys a,W i m ys a->
 (J.stop i a/\@ys<=Ε/\∀D,a D=ε->Q ?D (ψ a D (.Ν ys)))\/
 (J.go i a/\@ys<Ε/\∀x c,J.tm i a x c->d (ι x::g) c λy e=>∃b,b<m/\W (i+ 1) b (ys++[y]) e)
def Ul (b:TI)(d:St->St)(c:TE):TE:=λ a H Q=>b a H (oQ c (d a) Q)
structure iu (X:Cx)(x:Ñ)(fns:Zp)(ixs:Zh)(Ξ:ũ)(cl:θ (Ñ×Zs)):ο where
 afP:closureFor Ξ X.env=Č cl
 sub:∀y c,cl.ω y\c->X.env.Ŏ.ω y\c
 cell:∀y∈Ξ.names,y.2≠.cell
 kind:Ξ.kind=.ţ
 names:∀y∈Ξ.names,y.2=.local->Ξ.names.ω y.1=ι .local
 own:Ξ.names.ω x=ι .local
 has:∀y,((HI X.env).names.ω y=ι .cell\/(HI X.env).names.ω y=ι .free)->∃c,cl.ω y\c
 nd:(x::fns).Á
 len:@ixs=@fns
 at_:∀(j:η)(y:Ñ),fns[j]?\y->∃i:η,ixs[j]?\i/\X.N[i]?\y/\(X.env.Ĉ y=ι .cell\/X.env.Ĉ y=ι .free)/\∃c,cl.ω y\c/\((HI X.env).names.ω y=ι .cell\/(HI X.env).names.ω y=ι .free)
def jU (ixs:Zh):St->St:=λ a=>ixs.Κ λi=>(a[i]?).join
section
variable {X:Cx}{x:Str}{scope:Scope}
def wR (a:Ξ.names.ω x=ι .local):(HI X.env).names.ω x=ι .local:=lookup_relabel_local a
end
def jj {J:It}{n:St}{h:TE}{Q:VK}(xs:Zb)(g:V->V)(f:∀i:η,i<@xs->J.go i H)(q:∀(i:η) (x:V) (b:Hp),i<@xs->J.tm i H x b->b=H/\xs[i]?\x)(c:J.stop @xs H)(j:@xs<=Ε)(s:∀(i:η) (x:V),xs[i]?\x->∀R:VK,R (g x) H->h (ι x::n) H R)(o:∀D,H D=ε->Q ?D (ψ H D (.Ν (xs.Κ g)))):
 oQ h n Q J H:=by
 erw[λi m ys l=>m=@xs - i/\i<=@xs/\ys=(xs.Χ i).Κ g/\l=H,{@xs,by simp,aoN _,by simp,2}];rintro i m ys l ⟨rfl,t,Ų,rfl⟩;cases a:i<@xs
 .rwa[.Ç {f i a,by rw[aog,aoX];ext,λx b d=>?_}];let[r,k]:=q i x b a d;subst r;rwa[s i x k _ {@xs - (i+ 1),32,a,52}];rw[ao2,k];simp
 .let e:i=@xs:=∅
  subst e;rwa[.Α {c,by rw[aog,aoX];ext,λD p=>?_}];rw[apc];rwa[o D p]
def MJ {K:Za1}{xs:Zb}(h:BN):∀i,i<@xs->(HK K a).go i H:=λi b=>{xs,xs[i],h,aoe b}
def HY {K:Za1}{xs:Zb}(h:BN):∀i x b,i<@xs->(HK K a).tm i H x b->b=H/\xs[i]?\x:=λi x b _ y=>{y.1,y.2 xs h}
def DZ {K:Za1}{xs:Zb}(h:BN):(HK K a).stop @xs H:={xs,h,2}
def iP {K:Za1}{xs:Zb}(h:ay K H a xs):∀i,i<@xs->(wN K a).go i H:=λi b=>{xs,xs[i],h,aoe b}
def gk {K:Za1}{xs:Zb}(h:ay K H a xs):∀i x b,i<@xs->(wN K a).tm i H x b->b=H/\xs[i]?\x:=λi x b _ y=>{y.1,y.2 xs h}
def fm {K:Za1}{xs:Zb}(h:ay K H a xs):(wN K a).stop @xs H:={xs,h,2}
inductive Yk (t:TS)(D:Ends)(σ:St)(H:Hp):ο
 |mk (G:St->Hp->ο):t { D with nx:=G } σ H->(∀ fH H',G fH H'->D.nx fH H')->Yk t D σ H
def bS {st:ŕ}{t:TS}(h:PS X st t):PS X st (Yk t):=by
 intro a s j H D I ⟨G,e,d⟩;rwa[bx (h a s j H { D with nx:=G } I e) λf k q=>?_]
 cases f with
 |next=>let[b,c,i,g]:=q;rwa[b,c,i,d b c g]
 |_=>exact q
def wU {Ξ:ũ}{env:Env}{k:ő}(h:(HI env).names.ω x\k)(g:k=.cell\/k=.free)(i:∀z∈Ξ.names,z.2≠.cell):(x,ő.free)∈Ξ.names:=by
 let f:=aqo h;unfold relabel at f;let[⟨n,c⟩,d,e]:=ao1.mp f;dsimp only at e;cases hf:(c==ő.free && env.Ξ.kind==.ţ && env.Ĉ n==ι .cell)=ρ
 .rw[aoO hf]at e;let a:n=x:=apW Prod.fst e;rw[apY,apY]at hf;let b:c=.free:=eq_of_beq hf.1.1;rw[<-a,<-b];rwa[d]
 .rw[aoK hf]at e;let a:n=x:=apW Prod.fst e;let b:c=k:=apW Prod.snd e;subst a b;rcases g with rfl|rfl
  .rwa[Ρ Ų (i _ d)]
  .rwa[d]
theorem lU {env:Env}(a:env.Ξ.kind=.ţ){y:Ñ}(b:env.Ĉ y=ι .cell):∀{names:θ (Ñ×ő)},names.ω y=ι .free->
 (names.Κ λ(n,k)=>if (k==ő.free && env.Ξ.kind==.ţ && env.Ĉ n==ι .cell) then (n,ő.cell) else (n,k)).ω y=ι .cell
 |[],h=>by simp at h
 |(n,k)::r,h=>by
  let c:=@@lU env a y b r
  cbv
def Kf (X:Cx)(Ξ:ũ):Zp->Zh->θ (Ñ×Zs)->ο
 |y::fs,i::is,p::cl=>p.1=y/\X.env.Ŏ.ω y\p.2/\X.N[i]?\y/\X.env.Ĉ y=ι .cell/\Ξ.names.ω y=ι .free/\Kf X Ξ fs is cl
 |[],[],[]=>þ
 |_,_,_=>Ð
def Kf.ű {Ξ:ũ}{fns:Zp}{ixs:Zh}{cl:θ (Ñ×Zs)}(h:Kf X Ξ fns ixs cl):@fns=@ixs/\(∀y c,cl.ω y\c->X.env.Ŏ.ω y\c)/\∀(k:η)(y:Ñ),fns[k]?\y->∃i c,ixs[k]?\i/\X.N[i]?\y/\X.env.Ĉ y=ι .cell/\cl.ω y\c/\Ξ.names.ω y=ι .free:=by
 induction fns generalizing ixs cl with
 |nil=>
  cases ixs with
  |nil=>
   cases cl with
   |nil=>simp
   |È=>exact h.Ü
  |È=>exact h.Ü
 |È y fs t=>
  cases ixs with
  |nil=>exact h.Ü
  |È i is=>
   cases cl with
   |nil=>exact h.Ü
   |È p cl=>
    let[j,m,s,o,r,h]:=h;let[a,b,g]:=t h;rwa[apW _ a,λw d e=>?_,λk w e=>?_]
    .rw[arY]at e
     cases q:w==p.1 with
     |ρ=>rw[q]at e;rw[eq_of_beq q,j,m];rwa[e]
     |ς=>rw[q]at e;rwa[b w d e]
    .cases k with
     |Ŀ=>obtain rfl:y=w:=Za0 e;rwa[i,p.2,2,s,o,by rw[arY,j,beq_self_eq_true],r]
     |ŧ k=>
      let[i,c,r1,r2,f,n,l]:=g k w e
      cases q:w==p.1 with
      |ρ=>rwa[i,p.2,r1,r2,f,by rw[arY,q],l]
      |ς=>rwa[i,c,r1,r2,f,[arY,q]▸n,l]
def b0 {fns:Zp}{ixs:Zh}{Ξ:ũ}(cl:θ (Ñ×Zs))(d:closureFor Ξ X.env=Č cl)(y:Kf X Ξ fns ixs cl)(j:X.env.Ξ.kind=.ţ)(f:(∀z∈Ξ.names,z.2≠.cell)/\(∀z∈Ξ.names,z.2=.local->Ξ.names.ω z.1=ι .local)/\(∀z∈Ξ.names,z.2=.free->z.1∈fns)/\(x::fns).Á/\Ξ.names.ω x=ι .local/\Ξ.kind=.ţ:=by decide):iu X x fns ixs Ξ cl:=by
 let[a,b,g]:=y.ű;let[f,w,u,m,v,p]:=f
 exact{ afP:=d,sub:=b,cell:=f,kind:=p,names:=w,own:=v,nd:=m,len:=a.Τ
        has:=λz h=>by have:=u (z,.free) (h.Ü (λh=>wU h (.Α Ų) f) λh=>wU h (.Ç Ų) f) rfl;let[k,e]:=θ.mem_iff_getElem?.mp Δ;let[_,c,_,_,_,r,_]:=g k z e;rwa[c,r]
        at_:=λk z h=>by let[i,c,s,o,n,q,t]:=g k z h;rwa[{i,s,o,.Α n,c,q,.Α (lU j n t)} ]}
namespace Rv
def D0:Manifest.owners.ω (Ĝ.ofList ['d','e','s','r','e','v','e','r'].ķ)\Manifest.sig_reversed:=by kernel_rfl
def slot_next:Slot ϧ ZR KI:=
 .of (owner:=ϧ) (n:=ZR) (by rw[arN,aqu];kernel_rfl) ⋯ ⋯ ⋯
  (by first|rwa[.Α (by decide)]|rwa[.Ç (by decide)]) (by rw[arw];kernel_rfl)
def entry_next:entryFor table KI=ι Λ.«reversed.__next__»:=entryFor_of_tree (by kernel_rfl)
def args_next (a:Zt):argsOk KI {[a],[]}:=by unfold argsOk;rw[signature?_of (id:=KI) (n:=['_','_','t','x','e','n','_','_']) (o:=['d','e','s','r','e','v','e','r']) (by kernel_rfl) D0];kernel_rfl
def BV:Slot ϧ "__iter__" KM:=
 .of (owner:=ϧ) (n:="__iter__") (by rw[arN,aqu];kernel_rfl) ⋯ ⋯ ⋯
  (by first|rwa[.Α (by decide)]|rwa[.Ç (by decide)]) (by rw[arw];kernel_rfl)
def MK (a:Zt):argsOk KM {[a],[]}:=by unfold argsOk;rw[signature?_of (id:=KM) (n:=['_','_','r','e','t','i','_','_']) (o:=['d','e','s','r','e','v','e','r']) (by kernel_rfl) D0];kernel_rfl
def Kg:entryFor table KM=ι Λ.«dict_keyiterator.__iter__»:=entryFor_alias (id':="dict_keyiterator.__iter__") (by kernel_rfl) (by first|rfl|decide|(unfold Ĝ.splitOn;simp +decide [Ĝ.splitOnAux])) ⋯ (by kernel_rfl)
def ML:Slot ϧ ϐ ϟ:=
 .of (owner:=ZO) (n:=ϐ) (by rw[arN,aqu];kernel_rfl) ⋯ ⋯ ⋯
  (by first|rwa[.Α (by decide)]|rwa[.Ç (by decide)]) (by rw[arw];kernel_rfl)
def called:TypeCalled ϧ "reversed.__new__" ϟ:={44,{11,Γ.F.mro_reversed},Γ.F.made_reversed,4,by rw[arw];kernel_rfl,ML}
def Ea:typeLookup (.Â ŷ) "__reversed__"=Č ε:=by rw[arN,aqu];kernel_rfl
def Yl:isSubtype (.Â ŷ) (.Â ϲ)=Č ς:=by rw[arw];kernel_rfl
def oR (h:Û)(it t:Zs)(i:π):ο:=∃o,h.get? it\o/\o.cls=.Â ϧ/\o.ê=.Å #[?t,ô i]
def oR.Ý {it:Zs}(x:io):s.Ġ ?it ϧ:=let ⟨o,b,hc,_⟩:=x;{o,b,hc}
def oR.at {it:Zs}(x:oR h it a z)(e:∀o,h.get? it\o->g.get? it\o):oR g it a z:=let ⟨o,b,r⟩:=x;{o,e _ b,r}
variable {prog:Program}{w:World}{A:Around}{E:Zt->Zu->Prop}{s:Zu}
def Ym {Ã:Zm}(b:(Ã.Υ:π)<2 ^ 63):Meets (Λ.«reversed.__new__» {[.Â ϧ,?a],[]}) (λ_ R s=>ŗ s.τ a Ã/\
 ∀c,R (.ok (.ret ↑↥s)) { s with τ:=s.τ.Ú (ϧ>>>.Å #[?a,ô ((Ã.Υ:π) - 1)]),Æ:=c }):=
 .of_wp λprog w A R s h=>by
  let[e,h]:=h;let[f,g,d,c,os]:=s;let j:=e.Ý;let l:=Ea;let i:=apf.ω;let m:=Yl;let k:=Γ.F.sub_reversed_self
  wp_walk using ÿ.Rows.len_tuple e b
  rwa[12,h _]
def Wk {Ã:Zm}(b:(Ã.Υ:π)<2 ^ 63)(d:SO)(h:∀c,Q ↑↥s { s with τ:=s.τ.Ú (ϧ>>>.Å #[?a,ô ((Ã.Υ:π) - 1)]),Æ:=c }):(À<|>w) A (Ğ (.Â ϧ) [?a]) Q E s:=by rwa[callType_new called ⋯ (Γ.F.typeCall_reversed_1 _) (Γ.F.newCall_reversed_1 _) (λobj=>Γ.F.args_object_init_2 obj _) Γ.F.entry_reversed_new (Ym b) {d,λc=>?_}];rwa[{_,JU Ų,2},h c]
def next_item {it:Zs}{Ã:Zm}{x:Zt}{Q:Zl->Zu->ο}(hit:oR s.τ it a (i:π))(f:SO)(g:Ã[i]?\x)(m:Ã.Υ<=Ε)(k:∀e h,oR e it a ((i:π) - 1)->Û.ė it s.τ e->Q (ι x) { s with τ:=e,Æ:=h }):(À<|>w) A (Ņ ?it) Q E s:=by
 let[o,d,l,c]:=id hit;let n:=hit.Ý;let p:i<Ã.Υ:=(apS.mp g).1;let q:=oO;unfold Ņ
 refine aof (aqv (apt (û:=Ñ.Ţ ZR) hit.Ý slot_next
  (apB slot_next hit.Ý entry_next ?_ (args_next _))))
 unfold Λ.«reversed.__next__»;rwa[aof (aq3 (a:=(Η.É it,[])) Ų ?_)]
 try dsimp only
 rwa[aof (apg d c (x:=?a) Ų ?_)];rwa[aof (apg d c (x:=ô (i:π)) Ų ?_)];show Ó β (if (i:π)<0 then _ else _) β s;rw[aoK ∅];rwa[aof (wpAny_specialOf f.Ý apf.ω ?_)];rw[aoK ⋯];rwa[aof (wpAny_mkInt ?_)];rwa[aof (aqv (ÿ.Rows.getItem_tuple (j:=i) f ∅ ∅ ?_ g ?_))]
 .unfold seqIndex?;simp;ext
 dsimp only;rwa[aof (apg d c (x:=ô (i:π)) Ų ?_)];rwa[aof (ap6 d c (by simp) ?_)];rwa[aor {x,2,aor (k β ?_ (apw ..))}]
 rwa[_,ao5 _ d (ap1 (apu c _)),(arj ..).ν l,by rw[apu c];simp]
theorem next_end {it:Zs}{Q:Zl->Zu->ο}(g:A.ą=ε)(hit:io)(j:z<0)(i:∀f,Û.ExtBut it s.τ f->Q ε (s<*f)):(À<|>w) A (Ņ ?it) Q E s:=by
 let[o,e,k,d]:=id hit;unfold Ņ
 refine aof (aqv (apt (û:=Ñ.Ţ ZR) hit.Ý slot_next
  (apB slot_next hit.Ý entry_next ?_ (args_next _))))
 unfold Λ.«reversed.__next__»;rwa[aof (aq3 (a:=(Η.É it,[])) Ų ?_)]
 try dsimp only
 rwa[aof (apg e d (x:=?a) Ų ?_)];rwa[aof (apg e d (x:=ô z) Ų ?_)];show Ó β (if z<0 then _ else _) β s;rw[aoO j];rwa[aof (arC ?_)];rwa[aof (aof (ap6 e d (by simp) ?_))];let h:=ao5 (Obj.ĩ (·.é 1 (ô (-1)))) e (ap1 (apu d _));rwa[ap6 h (apu d _) (by simp) ?_];rwa[aof ?_];show Ó β (newExc (.Â ZG) [] >>=_) γ;rwa[aof ?_];simp only[newExc,newTuple];rwa[aof (ape ?_ (by size_fits))];rwa[aof (m:=Ĕ β) (aq3 (a:=Η.ε) (by first|rfl|(simp only[Ĕ];rfl)) ?_)];rwa[ape ?_ (by size_fits)];simp only[raiseNew];rwa[aof (wpAny_handled ?_)]
 first|rw[show A.in1.ą=ε from g]|rw[g]
 rwa[aof (aor (wpAny_throw ?_))];rwa[aof (wpAny_isInstance (T:=ZG) (b:=ρ) {_,JU Ų,2} isSubtype_stop ?_)];rwa[aor (i _ (((((apw ..).ν (apw ..)).Ą).Ú _).Ú _))]
def BW {it:Zs}(hit:io)(h:Q ?it s):(À<|>w) A (pyIter ?it) Q E s:=by rwa[ŋ hit.Ý BV (apB BV hit.Ý Kg ?_ (MK _))];show Ó β (ret ?it) β s;rwa[aor {12,ϧ,_,hit.Ý,slot_next.ω,h}]
end Rv
def MN (K:Za1)(a:Zs)(n:η):It:={λi H=>i<n/\∃xs,bG K H a xs/\@xs=n,λi H x b=>b=H/\∀xs,bG K H a xs->xs.ķ[i]?\x,λi _=>n<=i}
def Q7 {P:Í}{w:à}{K:Za1}(a it:Zs)(n:η):Turn P w K e (MN K a n) [it] it (λi h=>Rv.oR h it a ((n:π) - 1 - (i:π))) where
 mem:=by simp
 obj:=λi h st b j=>by
  let f:b=it:=by simpa using j
  subst f;let[o,f,c,d]:=st;rwa[o,f,λv z=>by rw[d]at z;ext z]
 Ï:=λi h r st k=>st.at λo f=>k it (by simp) o f
 item:=by
  intro X L F D S i g s R H E I t st y;subst L F D;let[hi,xs,O,hx]:=y;subst hx;generalize hn:@xs=n at hi st ⊢;let[W,Q,p,hz]:=I.Ě O;let hl:=@Q;obtain⟨x,m⟩:∃x,xs[n - 1 - i]?\x:={_,aoe ∅}
  let N:xs.ķ[i]?\x:=by rw[θ.getElem?_reverse ∅,hn];rwa[m]
  let[u,hu,ru]:=Q.ű m;let[A,B,f2,M,J,G]:=t it (by simp);let f:(n:π) - 1 - (i:π)=((n - 1 - i:η):π):=∅
  let q:=st;rw[f]at q;rwa[Rv.next_item q p (x:=u) (by simpa using hu) (by rw[aoI];omega) λr C l sb=>?_]
  let U:Inv X g R H { s with τ:=r,Æ:=C }:=I.turned (t':=C) (λb o j f=>(sb.2 b j).ν f) A B M J G;let Y:((n - 1 - i:η):π) - 1=(n:π) - 1 - ((i+ 1:η):π):=∅
  rw[Y]at l;let[o,f,c,d]:=id l;rwa[u,2,JR (s:={ s with τ:=r,Æ:=C }) f c d ⋯ {x,H,U,ru,{2,λys hy=>by rw[I.BG hy O];ext},l,λb j=>(t b j).1}]
 done:=by intro X L F D S i g s R H E I t st y;subst L F D;let V:n<=i:=y;let[A,B,f2,M,J,G]:=t it (by simp);rwa[Rv.next_end (I.ok.hd S) st ∅ λr Z=>{2,I.turned (t':=s.Æ) (λb o j f=>Z b o j f) A B M J G}]
 self:=λ_ _ _ _ _ st h=>Rv.BW st h
section
variable {X:Cx}{tg:Expr}
def afQ (K:Za1)(d:TA):TI:=λ e H R=>d e H λc b=>∃a xs,c=[?a]/\bG K b a xs/\R (MN K a @xs) b
def Yn {l:Za1}[i:eD X l]{a:ę}{k:TA}{p pos:Pos}(w:Gl X ϧ)(E:X.mg ϧ=ε)(F:PA X [a] k)(D:Ο [a] X.env=[(ς,å a X.env)]):PI X tg (.ġ (.ö ϧ p) [a] [] pos) (afQ l k):=by
 cases i.eq;intro c s n H R I h;rwa[Call_ (iK I w E boot_reversed (apo (bx (F pos c s n H _ I h) λO s1 ζ=>?_) D Ų))];let[L,m,g,r,y]:=ζ;let[t,xs,e,x,q]:=y;subst e;let[u,Ų,G]:=vals1 r;ext G;let[f,A,B,M]:=g.Ě x;let C:=@A;let N:=oO;rwa[Rv.Wk (by rw[aoI];omega) B λj=>?_]
 let z:Inv X c n m { s1 with τ:=s1.τ.Ú (ϧ>>>.Å #[?t,ô ((f.χ.Υ:π) - 1)]),Æ:=j }:=g.ņ (t':=j) λb o e=>aol _ e
 let d:Rv.oR (s1.τ.Ú (ϧ>>>.Å #[?t,ô ((f.χ.Υ:π) - 1)])) ↥s1 t ((@xs:π) - 1 - ((0:η):π)):={_,JU Ų,2,by rw[aoI,<-C];simp}
 rwa[Rv.BW d {↥s1,[↥s1],11,m,2,z,Q7 t _ @xs,d,λb v=>?_,q}];let e:b=↥s1:=by simpa using v
 subst e;rwa[g.ua Ź (g.a0.ó Ź)]
end
def Yo {K:Za1}{xs:Zb}(h:BN):∀i,i<@xs.ķ->(MN K a @xs).go i H:=λi b=>{by rwa [arB]at b,xs,h,2}
def Wm {K:Za1}{xs:Zb}(h:BN):∀i x b,i<@xs.ķ->(MN K a @xs).tm i H x b->b=H/\xs.ķ[i]?\x:=λi x b _ y=>{y.1,y.2 xs h}
def Q8 {K:Za1}{xs:Zb}(h:BN):(MN K a @xs).stop @xs.ķ H:=by rw[arB];rwa[aoo @xs]
def aw (ns:Zg):Zb:=ns.Κ V.υ
def bR (h:l[i]?\z):(aw l)[i]?\(V.υ z):=by unfold aw;rw[aon,h];rfl
def aF (ns:Zg):@(aw ns)=@ns:=aog ..
def bW {ns:Zg}(h:AS[i]?\q):∃z,q=V.υ z/\ns[i]?\z:=by
 unfold aw at h
 cbv
def ï (a b:Zg):aw (a++b)=aw a++aw b:=aoE ..
section
variable {X:Cx}
inductive Yp (K:Za1)(xs:Zb)(H:Hp)(Q:VK):ο
 |mk (x:V)(T:Ĝ)(t:Zt)(b:ã):xs=[x,.ty T]->lX K H x t->ľ K t (.Â T)\b->Q (.bl b) H->Yp K xs H Q
def lY {c:Za1}[a:eD X c]:gY X (.Ι Fa) (Yp c):=by cases a.eq;intro d s m H l n Q I r h;let[x,T,t,b,Ų,g,e,q]:=h;let[u,k,Ų,i,j]:=vals2 r;ext j;rwa[Mu I i g e λf=>{.bl b,H,I.tok f,2,q}]
def Eb (K:Za1)(T:Ĝ):ľ K (.Â T) (.Â T)\ρ:=by
 unfold ľ
 cbv
def uf (K:Za1):ľ K (.Â Z0) (.Â LI)\ς:=by first|rfl|kernel_rfl|decide
end
def ao.ψ {o:HO}(h:H a=Ă.ε):ao H (Ϻ o):=λb u e=>by rw[aq (QA h)];rwa[e]
variable {X:Cx}
def acW (i j:π):ο:=0<j/\Λ.divisionGoesByPylong i j=ς
def Ec:gX X (ĕ .FloorDiv) (rI acW λi j=>.υ (i / j)):=Mq λi j _ _ _ _ _ a q=>by let b:(0:π)<j:=a.1;rwa[floordiv_int ∅ ([cr ∅]▸q) (.Α a.2)]
inductive MP (x y:V)(H:Hp)(Q:VK):ο
 |mk (a b:Zs)(xs ys:Zb):x=?a->y=?b->H a\.Ò xs->H b\.Ò ys->@xs+ @ys<=Ε->(∀p H',Q1 H'->H' p\.Ò (xs++ys)->Q ?p H')->MP x y H Q
def Q9 {d:Í}{w:à}{A:ß}{ws:Zk}(o:ŗ s.τ a ([]:Zk).χ)(p:ŗ s.τ b ws.χ)(h:Q ?b s):(d<|>w) A (ĕ .Add ?a ?b) Q E s:=by
 let[⟨cls,r,ê,q⟩,l,m,n,j]:=id o;let[⟨k,g,data2,i⟩,f,e,t,c]:=id p;simp only at m j e c;subst m j e c
 exact concat_meets {_,l,2} {_,f,2} noFill_tuple_add seq_tuple_add arT arM (arH β)
  (tuple_addW0 a b ([]:Zk).χ ws.χ n t r g q i Ų) {l,f,h}
def xN:gX X (ĕ .Add) MP:=by
 intro c s z H x y v u Q I j k h;let[a,b,i,ys,Ų,Ų,g,d,r,q]:=h;cases l:i=[]
 .subst l;ext j;ext k;let[f,o,w,_]:=I.Ě (bG.of g);let[m,A,n,_]:=I.Ě (bG.of d);let e:f=[]:=o.vG.mpr rfl;subst e;rwa[Q9 w n {?b,H,I,2,q b H (ao.Ł H) d}]
 .rwa[Wg c s z H ?a ?b v u Q I j k {a,b,i,ys,22,bG.of g,bG.of d,l,r,λe=>?_,λ_ p t=>q p _ (ao.ψ t) aj}];subst e;rwa[q a H (ao.Ł H) ([aoJ]▸g)]
inductive Um (x:V)(lo hi:Zj)(H:Hp)(Q:VK):ο
 |mk (a:Zs)(xs:Zb):x=?a->H a\.Ò xs->(∀p H',Q1 H'->H' p\.Ò Nl->Q ?p H')->Um x lo hi H Q
end L2
namespace HT
section
variable {prog:Program}{w:World}{A:Around}{E:Zt->Zu->Prop}{s:Zu}
def tZ {Ã:Zm}{lo j:Zj}(c:SO)(i:s.τ.IsSliceOf b v u .ε)(pl:IsPart v lo)(o:IsPart u j)(hw:cE Ã.Υ 0 lo=0/\cE Ã.Υ Ã.Υ j=Ã.Υ)(h:Q ?a s):(À<|>w) A (Ū ?a ?b) Q E s:=by
 let[os,f,e,k]:=id i;let g:s.Ġ ?b "slice":={os,f,e};unfold Ū
 try with_reducible rwa[aps ?_]
 first|rwa[aof (aor ?_)]|skip
 rwa[aof (wpAny_sequenceKey c.Ý (by decide) ?_)]
 refine aof (apt (û:=Ñ.Ţ NA) c.Ý apf
  (apB apf c.Ý entry_tuple_getitem ?_ (args_tuple_getitem β)))
 show Ó β (Λ.ń.tupleItemsOf ?a >>=_) β s;rwa[aof (tupleItemsOf_ c ?_)];rwa[aof (aq5 g ?_)];rw[aoO ⋯];rwa[aof (oP i pl o ?_)];rw[hw.1,hw.2];let d:((((0:η):π)==0 && (1:π)==1 && (Ã.Υ - 0)==Ã.Υ)=ρ):=by simp
 show Ó β (if (((0:η):π)==0 && (1:π)==1 && (Ã.Υ - 0)==Ã.Υ)=ρ then _ else _) β s;rw[aoO d];let[p,l,n,_]:=id c;rwa[aof (m:=Λ.ń.tupleIsExact _) ?_];unfold Λ.ń.tupleIsExact;rwa[aof (aq5 c.Ý (aor ?_))];show Ó β (if (Η.Â ŷ==Η.Â ŷ)=ρ then _ else _) β s;rw[aoO ⋯];rwa[aof (arC (aor {12,aor h}))]
end
def xO:fillsNumberSlot (.Â ŷ) "mul"=Č ς:=Γ.fillsNumberSlot_seq (id:=ar) (r:=ι (.Ι "tuple.__rmul__")) Γ.F.slot_tuple_mul.ω ⋯ Γ.F.slot_tuple_rmul.ω ⋯
def Ed:seqRepeat? (.Â ŷ)=Č (ι (.Ι ar)):=by unfold seqRepeat?;rw[Γ.seqSlot_of (T:=ŷ) (û:="__mul__") (id:=ar) Γ.F.slot_tuple_mul.ω ⋯,Γ.seqSlot_of (T:=ŷ) (û:="__rmul__") (id:="tuple.__rmul__") Γ.F.slot_tuple_rmul.ω ⋯];rfl
def AU (a:π)(t:Tok)(l:Zs)(Ã:Zm)(n:η)(e:Zo)(c:SZ):
 Meets (Λ.«int.__rmul__» {[.υ a t,?l],[]}) (λ_ R s=>s•l\{ cls:=.Â ŷ,ù:=e,ê:=.seq Ã n,č:=c }/\R (.ok (.ret Η.notImplemented)) s):=.of_wp λb w A R s h=>by let[f,g,d,i,os]:=s;let[j,h]:=h;wp_walk;rwa[12,h]
def AV (l:Zs)(Ã:Zm)(n:η)(j:Zo)(c:SZ)(x:π)(u:Tok)(i:¬(decide (x < -(2 ^ 63)) || decide (x>=2 ^ 63))=ρ)(m:(Ã.è || x==1)=ρ):
 Meets (Λ.«tuple.__mul__» {[?l,.υ x u],[]}) (λ_ R s=>s•l\{ cls:=.Â ŷ,ù:=j,ê:=.seq Ã n,č:=c }/\R (.ok (.ret ?l)) s):=
 .of_wp λa w A R s h=>by
  let[b,g,d,e,os]:=s;let[f,h]:=h;let k:(⟨b,g,d,e,os⟩:Zu).Ġ ?l ŷ:={_,f,2}
  wp_walk
  rwa[wpAny_ite_false (apd i) ?_]
  wp_walk
  rwa[12,h]
def AW (l:Zs)(Ã:Zm)(n:η)(j:Zo)(c:SZ)(x:π)(u:Tok)(i:¬(decide (x < -(2 ^ 63)) || decide (x>=2 ^ 63))=ρ)(o:¬(Ã.è || x==1)=ρ)(k:(decide (x<=0) || Ã.è)=ρ):
 Meets (Λ.«tuple.__mul__» {[?l,.υ x u],[]}) (λ_ R s=>s•l\{ cls:=.Â ŷ,ù:=j,ê:=.seq Ã n,č:=c }/\R (.ok (.ret ↑↥s)) { s with τ:=s.τ.Ú (ŷ>>>.seq #[]) }):=
 .of_wp λa w A R s h=>by
  let[b,g,d,e,os]:=s;let[f,h]:=h;let m:(⟨b,g,d,e,os⟩:Zu).Ġ ?l ŷ:={_,f,2}
  wp_walk
  rwa[wpAny_ite_false (apd i) ?_]
  wp_walk
  rwa[12,h]
def AX (l:Zs)(Ã:Zm)(n:η)(o:Zo)(f:SZ)(x:π)(u:Tok)(e:¬(decide (x < -(2 ^ 63)) || decide (x>=2 ^ 63))=ρ)(t:¬(Ã.è || x==1)=ρ)(r:¬(decide (x<=0) || Ã.è)=ρ)(j:¬((Ã.Υ:π)* x > (2 ^ 63 - 1) / 8))(p:¬(Λ.ń.tupleTooMany ((Ã.Υ:π)* x))=ρ)(hz:(θ.ă (λb a=>b++a) #[] (θ.Ê x.Φ Ã)).Υ<=Ε):
 Meets (Λ.«tuple.__mul__» {[?l,.υ x u],[]}) (λ_ R s=>s•l\{ cls:=.Â ŷ,ù:=o,ê:=.seq Ã n,č:=f }/\R (.ok (.ret ↑↥s)) { s with τ:=s.τ.Ú (ŷ>>>.seq (θ.ă (λb a=>b++a) #[] (θ.Ê x.Φ Ã))) }):=
 .of_wp λc w A R s h=>by
  let[k,g,d,i,os]:=s;let[m,h]:=h;let q:(⟨k,g,d,i,os⟩:Zu).Ġ ?l ŷ:={_,m,2}
  wp_walk
  rwa[wpAny_ite_false (apd e) ?_]
  wp_walk
  rwa[wpAny_ite_false (apd j) ?_]
  wp_walk
  rwa[12,h]
open AutoSeq1 in
def yV (l:Zs)(Ã:Zm)(n:η)(b:Zs)(a:Zm)(q:η)(p:Zo)(o:SZ)(m:¬(!items.è && Λ.θ.listTooLong (Ã.Υ+ a.Υ))=ρ)(c:Ã.Υ<=Ε)(e:Ã.Υ+ a.Υ<=Ε+ 1):
 Meets (Λ.«list.extend» {[?l,?b],[]}) (λ_ R s=>s•l\{ cls:=.Â ż,ù:=ε,ê:=.seq Ã n,č:=#[] }/\s•b\{ cls:=.Â ŷ,ù:=p,ê:=.seq a q,č:=o }/\R (.ok (.ret Η.ε)) { s with τ:=s.τ.Ľ l (Obj.Ŭ λx=>x++a),Æ:=s.Æ }):=
 .of_wp λj w A R s h=>by
  let[v,g,d,r,os]:=s;let[i,k,h]:=h;let t:=AutoSeq1.idx_int;let z:=AutoSeq1.sub_tuple_tuple;let C:=AutoSeq1.sub_list_list;let B:=AutoSeq1.sub_tuple_list;let y:=AutoSeq1.sub_list_tuple;let f:(Ã++a).Υ<=Ε+ 1:=by rw[Ė.size_append];rwa[e]
  wp_walk using (aqD i Ų (hz:=c) (_hz':=f)),aq7 i,aq7 k;rwa[12,h]
end HT
namespace L2
section
variable {X:Cx}{e:Expr}{lo hi:Option Expr}{p2:Pos}
def Ee:Ui X Um:=by
 intro b s o H x v n k lo hi l Q I i j pl g h;let[a,xs,Ų,d,q]:=h;cases hw:HT.cE @xs 0 lo=0/\HT.cE @xs @xs hi=@xs
 .ext i;let[c,r,f,t]:=I.Ě (bG.of d);let æ:c.χ.Υ=@xs:=by rw[aoI];rwa[r.ü.Τ]
  erw[ŷ,_,apf.ω,f.Ý];rwa[HT.tZ f j pl g ([æ]▸hw) {?a,H,I,2,q a H (ao.Ł H) ?_}];unfold k8;rw[hw.1,hw.2,θ.drop_zero,η.sub_zero,apc];rwa[d]
 .rwa[Yb b s o H ?a v n k lo hi l Q I i j pl g {a,xs,2,bG.of d,hw,λp m=>q p _ (ao.ψ m) aj}]
inductive Uo (x y:V)(H:Hp)(Q:VK):ο
 |mk (a:Zs)(k:π)(xs:Zb):x=?a->y=.υ k->H a\.Ò xs-> -(2 ^ 63)<=k->k<2 ^ 63->@xs* k.Φ<=Ε->(∀p H',Q1 H'->H' p\.Ò (θ.Ê k.Φ xs).Ì->Q ?p H')->Uo x y H Q
theorem hO:gX X (ĕ .Mult) Uo:=by
 intro d s L H x y v u Q I V Y h;let[l,k,xs,Ų,Ų,J,h1,h2,G,q]:=h;ext V;let[t,Ų]:=Y;let[a,r,P,W]:=I.Ě (bG.of J);let B:=@r;let[⟨cls,z,ê,g⟩,j,hc,n,E]:=id P;simp only at hc E;subst hc E
 let A:¬(decide (k < -(2 ^ 63)) || decide (k>=2 ^ 63))=ρ:=by rw[arO,apD,apD];ext
 let go:∀{S:Γ.Spec},Meets (Λ.«tuple.__mul__» ⟨[?l,.υ k t],[]⟩) (λO R c=>c•l\{ cls:=.Â ŷ,ù:=z,ê:=.seq a.χ n,č:=g }/\S O R c)->
  S X.A (wants (EP X d L Q) X.xe) s->X⁻¹ X.A (ĕ .Mult ?l (.υ k t)) (EP X d L Q) X.xe s:=λ{S} m Z=>
  wpAny_binaryOp_repeat_ref (T:=ŷ) (U:=Z0) ⋯ {_,j,2} (λc=>Ř c k t) HT.xO F.fills_int_mul F.slot_int_rmul HT.Ed F.slot_int_index.ω
   (ZJ (HT.AU k t l a.χ n z g)
    {j,2,{_,j,2},ark F.slot_tuple_mul {_,j,2} F.entry_tuple_mul (F.args_tuple_mul_2 β) m {j,Z}})
 cases hc:(a.χ.è || k==1)=ρ
 .rwa[go (S:=λ_ R c=>R (.ok (.ret ?l)) c) (HT.AV l a.χ n z g k t A hc) {?l,H,I,2,q l H (ao.Ł H) ?_}]
  let e:(θ.Ê k.Φ xs).Ì=xs:=by
   rw[arO]at hc;rcases hc with hc|hc
   .have:a=[]:=by simpa using hc
    have:xs=[]:=by let w:=B;rw[Δ]at w;rwa[aqg w]
    subst Δ;simp
   .have:k=1:=by simpa using hc
    subst Δ;simp
  rw[e];rwa[J]
 .cases f:(decide (k<=0) || a.χ.è)=ρ
  .rwa[go (S:=λ_ R c=>R (.ok (.ret ↑↥c)) { c with τ:=c.τ.Ú (ŷ>>>.seq #[]) }) (HT.AW l a.χ n z g k t A hc f) ?_];rwa[↑↥s,_,I.ŭ (t':=s.Æ) (o:=.Ò []) (λb N q=>aol _ q) Ź ?_,2,q β (ao.ψ (I.a0.ó Ź)) ?_]
   .rwa[aoN _,[],.nil,ŗ.new β]
   .let e:k.Φ=0:=by
     rw[arO,apD]at f;rcases f with f|f
     .ext
     .rwa[Ρ (by rw[arO];rwa[.Α f]) hc]
    rw[e,aj];rfl
  .let hk:0<k:=by rw[arO,apD]at f;ext
   let p:θ.ă (λD C=>D++C) #[] (θ.Ê k.Φ a.χ)=(θ.Ê k.Φ a).Ì.χ:=by have:=foldl_rep a k.Φ [];rw[aq8]at Δ;rwa[Δ]
   let æ:(θ.Ê k.Φ a).Ì.ü<=Ε:=by rw[len_rep,aqJ,<-B];rwa[G]
   let i:((a.χ.Υ:π)* k)=((@xs* k.Φ:η):π):=by rw[aoI,<-B,π.natCast_mul,π.toNat_of_nonneg ∅]
   let hline:(Ε:η)<=(2 ^ 63 - 1) / 8:=⋯
   refine go (S:=λ_ R c=>R (.ok (.ret ↑↥c)) { c with τ:=c.τ.Ú (ŷ>>>.seq (θ.ă (λD C=>D++C) #[] (θ.Ê k.Φ a.χ))) })
    (HT.AX l a.χ n z g k t A hc f (by rw[i];omega) (by unfold Λ.ń.tupleTooMany;rw[apD,i];omega) ([p,aoI]▸æ)) ?_
   rw[p];rwa[↑↥s,_,I.ŭ (t':=s.Æ) (o:=.Ò (θ.Ê k.Φ xs).Ì) (λb N q=>aol _ q) Ź ?_,2,q β (ao.ψ (I.a0.ó Ź)) aj];rwa[[len_rep,aqJ]▸G,_,r.rep k.Φ,ŗ.new β]
def Rb:V->Zb->Hp->VK->ο:=λx a H Q=>∃l b xs zs,x=?l/\a=[?b]/\H l\.Ν xs/\H b\.Ò zs/\@xs+ @zs<=Ε/\Q .non (ZP (.Ν (xs++zs)))
theorem Kh:MB X "list.extend" Rb:=by
 intro k s O H x J v P Q I A w h;let[l,b,N,G,Ų,Ų,j,D,L,q]:=h;ext A;let[u,Ų,C]:=w.one;ext C;let[z,c,n,r,M,e]:=I.sf j;let[a,m,p2,_]:=I.Ě (bG.of D);let p:=@m;let[⟨cls,B,ê,t⟩,y,o,E,g]:=id p2;simp only at o g;subst o g;let f:c.χ.Υ+ a.χ.Υ<=Ε:=by rw[aoI,aoI];ext
 let d:¬(!c.χ.è && Λ.θ.listTooLong (c.χ.Υ+ a.χ.Υ))=ρ:=by rw[xM f,ã.and_false];rwa[ao7]
 refine ark F.slot_list_extend {_,e,2} F.entry_list_extend (F.args_list_extend_2 β)
  (HT.yV l c.χ n b a.χ E B t d (by rw[aoI];omega) ∅) {e,y,5}
 rwa[.non,_,I.Kd (Q5:=c++a) j e (by simp) (r.Ů m) ?_,2,q];rw[aoj];ext
end
def tx (l:Zh):Ñ:={l.χ}
def MQ (l:Zh):@(tx l)=@l:=by show l.χ.Υ=@l;simp
def HZ {y:Ñ}(h:x.cps.Ć=y.cps.Ć):x=y:=by let⟨a⟩:=x;let⟨b⟩:=y;have:a=b:=Ė.toList_inj.mp h;rw[Δ]
def acX (x:Ñ):x=tx x.cps.Ć:=HZ rfl
def MR (a b:Zh):tx a++tx b=tx (a++b):=by rwa[HZ ?_];show ((tx a).cps++(tx b).cps).Ć=(a++b);rw[Ė.toList_append];rfl
section
variable {X:Cx}{pos:Pos}
def dq {l:Zh}{j}(h:x=tx l):PE X (.œ (.str x) j pos) (tC (.str (tx l))):=by rw[<-h];rwa[XJ]
def Ef (n:π):Zh:=(toString n:Ñ).cps.Ć
def MS (h:n<10000000000):n.log2<1920:=by
 rcases η.eq_zero_or_pos n with e|e
 .subst e;decide
 .let a:HPow.hPow 2 n.log2<=n:=η.log2_self_le ∅;let b:(10000000000:η)<2 ^ 1920:=⋯
  rwa[(η.pow_lt_pow_iff_right (by decide:1<2)).mp (aop a (aq9 h b))]
def sg {n:π}(a:0<=n)(h:n<10000000000):@(Ef n)<=10:=by have:=toString_length_le (v:=n) a (k:=10) ⋯ h;rwa[Δ]
end
structure Def (K:Za1)(mg:Ñ->Zl)(x:Ñ)(st:ŕ)(ps:Zp)(f:Zs)(fd:Ζ):ο where
 F:yU K x x st f fd
 m:mg x\?f
 b:Ű K fd ps []
section
variable {X:Cx}
inductive Up (t:TE)(σ:St)(H:Hp)(Q:VK):ο
 |mk (G:V->Hp->ο):t σ H G->(∀v H',G v H'->Q v H')->Up t σ H Q
def Yq {t:TE}(h:PE X e t):PE X e (Up t):=by
 intro a s i H Q I ⟨G,d,c⟩;rwa[bx (h a s i H G I d) λv j ζ=>?_];let[x,b,f,r,g]:=ζ
 rwa[x,b,f,r,c x b g]
end
def Eg (ns:Zg)(lo a:Zj):k8 AS lo a=aw ((ns.ā (HT.cE @ns 0 lo)).Χ (HT.cE @ns @ns a - HT.cE @ns 0 lo)):=by unfold k8 aw;rw[aog,θ.map_take,θ.map_drop]
def Rc (r:π){n:η}(h:0<n):∃j:η,r % (n:π)=(j:π)/\j<n:=by let b:=ara r (show (n:π)≠0 by omega);let a:=arP r (show (0:π)<(n:π) by omega);rwa[(r % (n:π)).Φ,33]
section
variable {κ:Type} [DecidableEq κ]
def bF (a:θ (κ×V))(k:κ):Zc:=(a.find? λb=>decide (b.1=k)).Κ (·.2)
def ú (a:θ (κ×V))(k:κ)(v:V):θ (κ×V):=if (a.any λb=>decide (b.1=k))=ρ then a.Κ (λb=>if b.1=k then (b.1,v) else b) else a++[(k,v)]
def fT (a:θ (κ×V))(k:κ):θ (κ×V):=a.Ö λb=>decide (b.1≠k)
def cY {p:κ×V}{r:θ (κ×V)}{k:κ}(e:p.1=k):bF (p::r) k\p.2:=by simp[bF,arb,e]
def cR {p:κ×V}{r:θ (κ×V)}{k:κ}(e:¬p.1=k):bF (p::r) k=bF r k:=by simp[bF,arb,e]
theorem oS (k:κ):∀a:θ (κ×V),(a.any λb=>decide (b.1=k))=(IF k).ě
 |[]=>rfl
 |p::r=>by
  rw[θ.any_cons];cases e:p.1=k
  .simp only[cY e,aoP e,ã.true_or,Ă.isSome_some]
  .rw[cR e,apd e,ã.false_or];rwa[oS k r]
theorem Eh (k j:κ)(y:V):∀a:θ (κ×V),bF (a.Κ λb=>if b.1=k then (b.1,y) else b) j=(IF j).Κ λx=>if j=k then y else x
 |[]=>rfl
 |p::r=>by
  let c:=Eh k j y r;rw[apF];cases h:p.1=k
  .rw[aoO h];cases e:p.1=j
   .rw[cY (p:=(p.1,y)) e,cY e,Ă.map_some,aoO (e.Τ.ν h)]
   .rw[cR (p:=(p.1,y)) e,cR e,c]
  .rw[aoK h];cases e:p.1=j
   .rw[cY (p:=p) e,cY e,Ă.map_some,aoK (λz=>h (e.ν z))]
   .rw[cR (p:=p) e,cR e,c]
theorem BX (k j:κ)(y:V):∀a:θ (κ×V),IF k=ε->bF (a++[(k,y)]) j=if j=k then ι y else bF a j
 |[],_=>by
  cases e:k=j
  .rw[aoO e.Τ];rwa[cY (p:=(k,y)) e]
  .rw[aoK (λz=>e z.Τ)];rwa[cR (p:=(k,y)) e]
 |p::r,b=>by
  rw[aqP];let c:¬p.1=k:=λz=>by rw[cY z]at b;ext b
  rw[cR c]at b;let d:=BX k j y r b;cases e:p.1=j
  .rw[cY e,cY e,aoK (λz=>c (e.ν z))]
  .rw[cR e,cR e,d]
def fI (b:θ (κ×V))(k j:κ)(y:V):bF (ú b k y) j=if j=k then ι y else bF b j:=by
 unfold ú;cases a:(b.any λc=>decide (c.1=k))=ρ
 .rw[aoO a,Eh];rw[oS]at a;cases e:j=k
  .let[x,d]:=arF.mp a
   cbv
  .rw[aoK e]
   cases bF b j with
   |ε=>rfl
   |ι x=>cbv
 .rw[aoK a];rwa[BX k j y b ?_];rw[oS]at a
  cases q:bF b k with
  |ε=>rfl
  |ι x=>rw[q]at a;rwa[(a Ų).Ü]
def gN (a:θ (κ×V))(k:κ)(v:V):@(ú a k v)<=@a+ 1:=by
 unfold ú;split
 .rw[aog];ext
 .rw[aoj,aoA,aoV];ext
def lZ {a:θ (κ×V)}{k:κ}(v:V)(h:bF a k=ε):ú a k v=a++[(k,v)]:=by unfold ú;rw[oS,h];rwa[aoK ⋯]
def fB.ug {o:Zc}{u:Zl}(r:fB o u):o.ě=u.ě:=by
 cases o with
 |ε=>cases u with
  |ε=>rfl
  |ι _=>exact(show Ð from r).Ü
 |ι _=>cases u with
  |ε=>exact(show Ð from r).Ü
  |ι _=>rfl
def fB.á {o:Zc}{u:Zl}(r:fB o u)(rd:ì q v):ì (o.á q) (u.á v):=by
 cases o with
 |ε=>cases u with
  |ε=>exact rd
  |ι _=>exact(show Ð from r).Ü
 |ι _=>cases u with
  |ε=>exact(show Ð from r).Ü
  |ι _=>exact r
def KV.val {a:θ (κ×V)}{f:θ (κ×Zt)}(r:KV a f)(k:κ):fB (IF k) (valueAt f k):=by
 induction r with
 |nil=>exact þ.intro
 | @È p q l c h t i=>
   let[g,j]:=h;cases e:p.1=k
   .let d:q.1=k:=g.Τ.ν e;let b:valueAt (q::c) k\q.2:=by simp[valueAt,arb,d]
    rw[cY e,b];rwa[j]
   .let d:¬q.1=k:=λz=>e (g.ν z)
    let b:valueAt (q::c) k=valueAt c k:=by simp[valueAt,arb,d]
    rw[cR e,b];rwa[i]
def KV.any {a:θ (κ×V)}{b:θ (κ×Zt)}(r:KV a b)(k:κ):(a.any λkv=>decide (kv.1=k))=b.any λkv=>decide (kv.1=k):=by
 induction r with
 |nil=>rfl
 |È h t c=>rw[θ.any_cons,θ.any_cons,c,h.1]
def KV.repl {a:θ (κ×V)}{b:θ (κ×Zt)}(r:KV a b)(k:κ){y:V}{u:Zt}(f:LG):
 KV (a.Κ λkv=>if kv.1=k then (kv.1,y) else kv) (b.Κ λkv=>if kv.1=k then (kv.1,u) else kv):=by
 induction r with
 |nil=>exact .nil
 | @È p q d e h t c=>
   rw[apF,apF];rwa[.È ?_ c]
   cbv
def KV.put {a:θ (κ×V)}{b:θ (κ×Zt)}(r:KV a b)(k:κ){y:V}{u:Zt}(c:LG):KV (ú a k y) (stored b k u):=by
 unfold ú stored;rw[r.any k];cases e:(b.any λkv=>decide (kv.1=k))=ρ
 .rw[aoO e,aoO e];rwa[r.repl k c]
 .rw[aoK e,aoK e];rwa[Paired.ċ r {2,c}]
def KV.ā {c:θ (κ×V)}{d:θ (κ×Zt)}(r:KV c d)(k:κ):KV (fT c k) (without d k):=by
 unfold fT without
 induction r with
 |nil=>exact .nil
 | @È p q l m h t g=>
   let[f,i]:=h;rw[apZ,apZ];cases e:p.1=k
   .cbv
   .let j:¬q.1=k:=λz=>e (f.ν z)
    let a:decide (p.1≠k)=ρ:=by simp[e]
    let b:decide (q.1≠k)=ρ:=by simp[j]
    rw[aoO a,aoO b];rwa[.È {f,i} g]
def KV.ü {a:θ (κ×V)}{b:θ (κ×Zt)}(r:KV a b):@a=@b:=Paired.ü r
def Rf (a:θ (κ×V))(k:κ):@(fT a k)<=@a:=aph β
end
def lu {P:Í}{w:à}{k:Key}(r:ì (kV k) u):(cq P w).is k u=ρ:=by
 cases k with
 |Α i=>let[t,e]:=(show ∃t,u=Η.υ i t from r);subst e;rwa[GA P w i t]
 |Ç x=>let[t,e]:=(show ∃t,u=Η.str x t from r);subst e;rwa[GB P w x t]
theorem BZ {P:Í}{w:à}:∀{a:Zd}{b:Zk},ä (a.Κ kV) b->ItemsAre Os a b
 |[],_,r=>by ext r;rwa[.nil]
 |k::a,_,r=>by
  cases r with
  |È h t=>exact .È (lu h) (BZ t)
abbrev KT (H:Hp):List (Zd×V)->List (Zd×Zs×Zt)->Prop:=Paired λp q=>p.1=q.1/\H q.2.1\.tup (p.1.map kV)/\RelV p.2 q.2.2
def KT.val {a:θ (Zd×V)}{g:θ (Zd×Zs×Zt)}(r:KT H a g)(k:Zd):fB (IF k) ((atKey g k).Κ (·.2)):=by
 induction r with
 |nil=>exact þ.intro
 | @È p q l c h t i=>
   let[f,_,j]:=h;cases e:p.1=k
   .let d:q.1=k:=f.Τ.ν e;let b:atKey (q::c) k\q.2:=by simp[atKey,arb,d]
    rw[cY e,b];rwa[j]
   .let d:¬q.1=k:=λz=>e (f.ν z)
    let b:atKey (q::c) k=atKey c k:=by simp[atKey,arb,d]
    rw[cR e,b];rwa[i]
def KT.repl {a:θ (Zd×V)}{xs:θ (Zd×Zs×Zt)}(r:KT H a xs)(k:Zd){y:V}{u:Zt}(i:LG):
 KT H (a.Κ λkv=>if kv.1=k then (kv.1,y) else kv) (xs.Κ (putAt k u)):=by
 induction r with
 |nil=>exact .nil
 | @È p q c d h t b=>
   rw[apF,apF];rwa[.È ?_ b];let[f,e,g]:=h;unfold putAt
   cbv
def KT.put {a:θ (Zd×V)}{c:θ (Zd×Zs×Zt)}(r:KT H a c)(k:Zd){b:Zs}{y:V}{u:Zt}(f:H b\.Ò (k.Κ kV))(d:LG):
 KT H (ú a k y) (storedH c k b u):=by
 let e:(a.any λkv=>decide (kv.1=k))=(atKey c k).ě:=by rw[oS,(r.val k).ug,Ă.isSome_map]
 unfold ú storedH;rw[e];cases q:(atKey c k).ě=ρ
 .rw[aoO q,aoO q];rwa[r.repl k d]
 .rw[aoK q,aoK q];rwa[Paired.ċ r {2,f,d}]
def KT.Į {a:θ (Zd×V)}{c:θ (Zd×Zs×Zt)}(r:KT H a c)(d:∀b ys,H b\.Ò ys->I b\.Ò ys):KT I a c:=Paired.QK r λ_ _ z=>{z.1,d^z.2.1,z.2.2}
section
variable {P:Program}{w:World}{H:Hp}{h:Heap}{a:Zs}
def Uq {u:HO}(ok:ϸ)(e:Rd H a u):cu P w H h a u:=e.ok ok
def sh {b:θ (Key×V)}(ok:ϸ)(e:Rd H a (.dK b)):@b<=Ε/\(a==ë)=ς/\∃c,KV b c/\h.ů Os a c:=show cu P w H h a (.dK b) from Uq ok e
def vH {b:θ (Key×V)}(ok:ϸ)(e:H a\.dK b):@b<=Ε/\(a==ë)=ς/\∃c,KV b c/\h.ů Os a c:=sh ok (.Α e)
def oT {c:Zd}(ok:ϸ)(e:H a\.Ò (c.Κ kV)):(tupleKind Os).is h c a:=by let[_,b,r,o,f,d,n,g]:=(show cu P w H h a (.Ò (c.Κ kV)) from ok a _ e);rwa[o,b.χ,n,f,d,g,by simpa using BZ r]
def si {b:θ (Zd×V)}(ok:ϸ)(e:Rd H a (.dT b)):@b<=Ε/\(a==ë)=ς/\
 ∃d,KT H b d/\h.DictOfH fr a d:=by
 let[z,y,d,r,o,n,u,j,g,s,i,k]:=(show cu P w H h a (.dT b) from Uq ok e);rwa[z,y,d,r,o,n,u,j,g,s,i,λx c=>?_,k]
 let all:∀{l:θ (Zd×V)}{m:θ (Zd×Zs×Zt)},KT H l m->∀x∈m,(tupleKind Os).is h x.1 x.2.1:=by
  intro l m q
  induction q with
  |nil=>intro x c;rwa[nomatch c]
  | @È p q A B f t v=>
    intro x c;rcases aoC.mp c with e|c
    .subst e;rwa[oT ok (by rw[<-f.1];rwa[f.2.1])]
    .rwa[v x c]
 rwa[all r x c]
def Ur {b:θ (Zd×V)}(ok:ϸ)(e:H a\.dT b):@b<=Ε/\(a==ë)=ς/\∃c,KT H b c/\h.DictOfH fr a c:=si ok (.Α e)
end
def dF (H:Hp)(a:Zs)(y:V)(r:Zc):ο:=(∃c k,Rd H a (.dK c)/\y=kV k/\r=bF c k)\/∃c k b,Rd H a (.dT c)/\y=?b/\H b\.Ò (k.Κ kV)/\r=bF c k
def lz (H:Hp)(a:Zs)(y v:V)(d:Hp):ο:=
 (∃c k,H a\.dK c/\y=kV k/\@c<Ε/\d=ψ H a (.dK (ú c k v)))\/
 ∃c k b,H a\.dT c/\y=?b/\H b\.Ò (k.Κ kV)/\@c<Ε/\d=ψ H a (.dT (ú c k v))
def dF.k {b:θ (Key×V)}{k:Key}(e:H a\.dK b):dF H a (kV k) (bF b k):=.Α {b,k,.Α e,22}
def lz.k {b:θ (Key×V)}{k:Key}(e:H a\.dK b)(c:@b<Ε):lz H a (kV k) q (Ϻ (.dK (ú b k q))):=.Α {b,k,e,2,c,2}
section
variable {X:Cx}{pins:List (Zs×Obj)}{σ:St}{H:Hp}{s:Zu}{a:Zs}{y v:V}{u r:Zt}{o:Zc}{A:Around}{E:Zt->Zu->Prop}
def Inv.big (I:Ŵ):ë<↥s:=by let h:ø<↥s:=(I.mod.glob.Į I.bk).lt;rwa[aq9 ⋯ h]
def MT (F:A.İ+ 1<Ť)(I:Ŵ)(g:dF H a y (ι v))(t:LG)(h:∀d q,ZZ H q->ì v d->Q d q):
 X⁻¹ A (Ū ?a u) Q E s:=by
 rcases g with ⟨f,k,e,n,l⟩|⟨f,k,b,e,n,B,l⟩
 .subst n;let[z,w,x,rel,m]:=sh I.a0 e;let[d,j,c]:=fB.some_of (v:=v) (o:=valueAt x k) ([l]▸rel.val k);rwa[wpAny_getItem_of (lu t) m.mapOf j (h d _ ZQ c)]
 .subst n;cases (show u=Η.É b from t);let[z,w,D,rel,m]:=si I.a0 e;let[d,j,c]:=fB.some_of (v:=v) (o:=(atKey D k).Κ (·.2)) ([l]▸rel.val k);let[p,C,i]:=apH.mp j;rwa[wpAny_getItem_heap (aqw F) (oT I.a0 B) m C ?_];rw[i];rwa[h d _ ZQ c]
def Wn (p:A.İ+ 1<Ť)(I:Ŵ)(g:dF H a y o)(m:LG)(h:∀j,ZZ H j->Q (.ħ (!o.ě)) j):
 X⁻¹ A (ē .NotIn u ?a) Q E s:=by
 rcases g with ⟨d,k,e,i,l⟩|⟨d,k,b,e,i,n,l⟩
 .subst i;let[z,c,t,rel,f]:=sh I.a0 e;rwa[wpAny_notIn_of (lu m) c f.mapOf ?_];rw[<-(rel.val k).ug,<-l];rwa[h _ ZQ]
 .subst i;cases (show u=Η.É b from m);let[z,c,w,rel,f]:=si I.a0 e;rwa[wpAny_notIn_heap (aqw p) (oT I.a0 n) c f ?_];let q:=(rel.val k).ug;rw[Ă.isSome_map]at q;rw[<-q,<-l];rwa[h _ ZQ]
def mj {t':η}{c:HO}(I:Ŵ)(mu:wL (H a))(g:Û.ė a s.τ h)(d:∃q,h.get? a\q)(new:cu X.À X.w (Ϻ c) h a c):
 Inv X Î σ (Ϻ c) { s with τ:=h,Æ:=t' }:=I.write (x:=a) (e:=a) mu (.Α Ų) (λb q f z=>(g.2 b f).ν z) d new
def uh {P:Í}{w:à}{b:θ (Key×V)}{c:θ (Key×Zt)}(z:@b<=Ε)(d:(a==ë)=ς)(rel:KV b c)(e:h.ů Os a c):
 cu P w I h a (.dK b):={z,d,c,rel,e}
def MV (S:A.İ+ 1<Ť)(d:Ŵ)(g:lz H a y v I)(M:LG)(L:ì v r)(h:∀D,ZZ I D->U () D):
 X⁻¹ A (setItem ?a u r) U E s:=by
 rcases g with ⟨f,k,e,C,l,n⟩|⟨f,k,b,e,C,J,l,n⟩
 .subst C n;let[z,m,O,rel,B]:=vH d.a0 e;let p:@O<=Ε:=by rw[<-@rel];rwa[z]
  let w:@(ú f k v)<=Ε:=by have:=gN f k v;ext
  rwa[wpAny_setItem_pairs (hsz:=p) (lu M) B λG i x=>h _ ?_]
  let Y:∃q,G.get? a\q:=let ⟨q,_,_,j,_⟩:=i;{q,j}
  rwa[mj d ([e]▸þ.intro) x Y (uh w m (rel.put k L) i)]
 .subst C n;cases (show u=Η.É b from M);let[z,m,xs,rel,B]:=Ur d.a0 e;let p:@xs<=Ε:=by rw[<-Paired.ü rel];rwa[z]
  let w:@(ú f k v)<=Ε:=by have:=gN f k v;ext
  rwa[wpAny_setItem_heap (hsz:=p) (aqw S) (oT d.a0 J) B λG i x=>h _ ?_]
  let[q,R,W,j,N,T,P,_,Q]:=i;rwa[mj d ([e]▸þ.intro) x ⟨q,j⟩ ⟨w,m,_,(rel.put k J L).Į λc ys F=>?_,q,R,W,j,N,T,P,Q⟩];rw[aq (bD F e (λz=>nomatch z))];rwa[F]
end
section
variable {X:Cx}{pins:List (Zs×Obj)}{σ:St}{H:Hp}{s:Zu}{a:Zs}{kvs:List (Key×V)}{k:Key}{u:Zt}{A:Around}{E:Zt->Zu->Prop}
def Us {ł:Zk}(I:Ŵ)(e:H a\.dK kvs)(g:ì (kV k) u)(l:bF kvs k\q)(p:ł=[]\/∃x,ł=[x])(h:∀c j,ZZ (Ϻ (.dK (fT kvs k))) j->ì q c->Q c j):X⁻¹ A (Ğ (.Ι "dict.pop") (?a::u::ł)) Q E s:=by
 let[z,r,m,rel,n]:=vH I.a0 e;let[c,y,f]:=fB.some_of (v:=q) (o:=valueAt m k) (by rw[<-l];rwa[rel.val k])
 let B:(keyPart u).ě=ρ:=by
  cases k with
  |Α i=>let[t,b]:=(show ∃t,u=Η.υ i t from g);subst b;rfl
  |Ç x=>let[t,b]:=(show ∃t,u=Η.str x t from g);subst b;rfl
 let D:argsOk "dict.pop" ⟨?a::u::ł,[]⟩:=by
  rcases p with b|⟨x,b⟩
  .subst b;rwa[Γ.F.args_dict_pop_2 β]
  .subst b;rwa[Γ.F.args_dict_pop_3^_]
 refine aqK arc n.Ý Γ.F.entry_dict_pop D (meets_dict_pop_there (cq X.À X.w) a (lu g) ł p B)
  {m,c,n,by rw[<-@rel];rwa[z],y,λv d C=>h c _ ?_ f}
 let F:∃b,v.get? a\b:=let ⟨b,_,_,w,_⟩:=d;{b,w}
 rwa[mj I ([e]▸þ.intro) C F (uh (aot (Rf kvs k) z) r (rel.ā k) d)]
def Yr {r:Zt}(I:Ŵ)(e:H a\.dK kvs)(b:ì (kV k) u)(l:bF kvs k=ε)(h:∀c,ZZ H c->Q r c):
 X⁻¹ A (Ğ (.Ι "dict.pop") [?a,u,r]) Q E s:=by
 let[z,g,d,rel,f]:=vH I.a0 e;let m:valueAt d k=ε:=fB.none_of (by rw[<-l];rwa[rel.val k])
 let j:(keyPart u).ě=ρ:=by
  cases k with
  |Α i=>let[t,q]:=(show ∃t,u=Η.υ i t from b);subst q;rfl
  |Ç x=>let[t,q]:=(show ∃t,u=Η.str x t from b);subst q;rfl
 rwa[aqK arc f.Ý Γ.F.entry_dict_pop (Γ.F.args_dict_pop_3^_) (meets_dict_pop_default (cq X.À X.w) a (lu b) g j r) {d,f,m,h _ ZQ}]
end
def Ys (i:ę):ο:=∀b a,subscripted i ς b a=operate [b,a] (Ū b a)
def Wo {a:Í}{w:à}{A:ß}{env:Env}{Ō slice:ę}{pos:Pos}{T id:Ĝ}(j:typeLookup (.Â T) NA=Č (ι (.Ι id)))(l:Ys slice)(h:(a<|>w) A (å Ō env) (λo d=>(a<|>w) A (å slice env) (λi b=>b.Ġ o T/\(a<|>w) A (Ū o i) Q E b) E d) E s):
 (a<|>w) A (å (.Ś Ō slice pos) env) Q E s:=by
 rwa[Subscript_ (apO h (λo d f=>apO f (λi b c=>?_) λ_ _ x=>x) λ_ _ x=>x)];let[k,c]:=c;rwa[aof ?_];rwa[aof (wpAny_specialOf k j ?_)]
 let fin:(a<|>w) A (subscripted slice ς o i) (λr e=>(a<|>w) A (letTemporaryGo Ō o r >>=λ_=>Č r) Q E e) E b:=by rw[l o i];rwa[wpAny_operating (apO c (λr e g=>aof (wpAny_letTemporaryGo (aor g))) λ_ _ x=>x)]
 first
  |rwa[aor (aof fin)]
  |rwa[aof (aor (aof fin))]
  |rwa[aof fin]
def GD {c:θ (Zs×Obj)}{h:St}{o:Zc}(I:Inv X c h H s)(g:dF H a q o):s.Ġ ?a ϲ:=by
 rcases g with ⟨d,k,e,_,_⟩|⟨d,k,b,e,_,_,_⟩
 .let[_,_,i,_,f]:=sh I.a0 e;rwa[f.Ý]
 .let[_,_,j,_,f]:=si I.a0 e;rwa[f.Ý]
inductive Yt (x y:V)(H:Hp)(Q:VK):ο
 |mk (a:Zs)(v:V):x=?a->dF H a y (ι v)->Q v H->Yt x y H Q
def acY (td d:TE):TE:=λ a H Q=>td a H λx c=>d a c λy b=>Yt x y b Q
def Wq (e td:TE):TE:=λ c H Q=>e c H λy d=>td c d λx b=>∃a o,x=?a/\dF b a y o/\Q (.bl (!o.ě)) b
inductive Yu (x y v:V)(H:Hp)(N:Hp->ο):ο
 |mk (a:Zs)(H4:Hp):x=?a->lz H a y v H4->N H4->Yu x y v H N
def acZ (td e b:TE):TS:=λD a H=>b a H λv d=>td a d λx c=>e a c λy f=>Yu x y v f (D.nx a)
section
variable {X:Cx}{o i value:Expr}{pos pos':Pos}{td ty tv:TE}
def jz (p:X.A.İ+ 1<Ť)(m:Za)(z:PE X i ty)(t:Ys i):PE X (.Ś o i pos) (acY td ty):=by intro b s f H Q I h;rwa[Wo Γ.F.slot_dict_getitem.ω t (bx (m b s f H _ I h) λu q ζ=>?_)];let[x,n,j,r,l]:=ζ;rwa[bx (z b q f n _ j l) λF D ζ=>?_];let[y,A,d,w,a,v,ex,g,B]:=ζ;subst ex;obtain rfl:u=Η.É a:=r;rwa[GD d g,MT p d g w λC E k c=>{v,A,k,c,B}]
def ky (n:X.A.İ+ 1<Ť)(v:PE X i ty)(l:Za):PC X .NotIn i o (Wq ty td):=by
 intro b s c H Q I h;rwa[bx (v b s c H _ I h) λC p ζ=>?_];let[y,m,d,t,j]:=ζ;rwa[bx (l b p c m _ d j) λu A ζ=>?_];let[x,w,k,q,a,r,ex,g,z]:=ζ
 subst ex;obtain rfl:u=Η.É a:=q;rwa[Wn n k g t λB f=>{.bl (!r.ě),w,f,2,z}]
def iU (z:X.A.İ+ 1<Ť)(t:Za)(F:PE X i ty)(J:PE X Ō tv)(C:Ķ Ō (ι (.Ś o i pos')) pos.line X.env=Č ς):
 PS X (.Assign [.Ś o i pos'] Ō pos) (acZ td ty tv):=by intro b s c H D I h;rwa[wpAny_Assign_Subscript (bx (J b s c H _ I h) λr A ζ=>?_) C];let[v,w,f,q,m]:=ζ;rwa[bx (t b A c w _ f m) λu l ζ=>?_];let[x,G,p,B,L]:=ζ;rwa[bx (F b l c G _ p L) λP O ζ=>?_];let[y,N,j,E,a,k,ex,g,n]:=ζ;subst ex;obtain rfl:u=Η.É a:=B;rwa[MV z j g E q λM d=>{c,k,d,n}]
end
def Ei {P:Í}{w:à}(h:Û)(a:ë<h.õ.Υ):cu P w H (h.Ú (ϲ>>>.ù #[])) h.õ.Υ (.dK []):={aoN _,aoQ.mpr (apE (aoT a)),[],.nil,Û.ů.new h}
def Rg {P:Í}{w:à}(h:Û)(a:ë<h.õ.Υ):cu P w H (h.Ú (ϲ>>>.ù #[])) h.õ.Υ (.dT []):={aoN _,aoQ.mpr (apE (aoT a)),[],.nil,_,#[],(0),JU Ų,{222},22,aqb}
def Yv:TE:=λ_ H Q=>∀p,H p=ε->Q ?p (WA (.dK []))
def Yw:TE:=λ_ H Q=>∀p,H p=ε->Q ?p (WA (.dT []))
section
variable {X:Cx}{pos:Pos}
def eJ:PE X (.Dict [] [] pos) Yv:=λb s d H Q I h=>wpAny_Dict_empty {↑↥s,_,I.ŭ (a:=↥s) (o:=.dK []) (t':=s.Æ) (λ_ _ q=>aol _ q) Ź (Ei s.τ I.big),2,h _ (I.a0.ó Ź)}
def Ri:PE X (.Dict [] [] pos) Yw:=λb s d H Q I h=>wpAny_Dict_empty {↑↥s,_,I.ŭ (a:=↥s) (o:=.dT []) (t':=s.Æ) (λ_ _ q=>aol _ q) Ź (Rg s.τ I.big),2,h _ (I.a0.ó Ź)}
end
def Ej:θ (TE×TE)->St->Hp->(θ (V×V)->Hp->ο)->ο
 |[],_,H,Q=>Q [] H
 |(e,b)::r,a,H,Q=>e a H λx f=>b a f λy c=>Ej r a c λd g=>Q ((x,y)::d) g
abbrev VV:List (V×V)->List (Zt×Zt)->Prop:=Paired λp q=>RelV p.1 q.1/\RelV p.2 q.2
def Ut (X:Cx)(pos:Pos)(keys:θ (Ă ę))(values:Zr)(b:θ (TE×TE)):ο:=
 ∀(a:θ (Zs×Obj))(s:Zu)(c:St)(H:Hp)(Q:θ (V×V)->Hp->ο),ϗ a c H s->Ej b c H Q->X⁻¹ X.A (evalPairs (pairTrees keys values X.env pos)) (λg f=>∃d e,ϗ a c e f/\VV d g/\Q d e) X.xe s
def vI {pos:Pos}:Ut X pos [] [] []:=λa s b H Q I h=>pairTrees_nil_walk {[],H,I,.nil,h}
def sj {pos:Pos}{k:ę}{d:θ (Ă ę)}{g f:TE}{b:θ (TE×TE)}(l:PE X k g)(D:PE X e f)(v:Ut X pos d C b):
 Ut X pos (ι k::d) (e::C) ((g,f)::b):=λa s c H Q I h=>
 pairTrees_cons_walk (bx (l a s c H _ I h) λu w ⟨x,t,i,z,p⟩=>bx (D a w c t _ i p) λJ n ⟨y,B,r,A,E⟩=>bx (v a n c B _ r E) λF G ζ=>by let[m,j,o,rel,q]:=ζ;rwa[(x,y)::m,j,o,.È {z,A} rel,q])
def jW (a ł:θ (Key×V)):θ (Key×V):=ł.ă (λacc b=>ú acc b.1 b.2) a
def KV.merge:∀{ł:θ (Key×V)}{rs:θ (Key×Zt)}{a:θ (Key×V)}{b:θ (Key×Zt)},KV ł rs->KV a b->KV (jW a ł) (merged b rs):=by
 intro ł rs a b r
 induction r generalizing a b with
 |nil=>intro q;rwa[q]
 | @È p q f g h t c=>
   intro d
   let e:KV (ú a p.1 p.2) (stored b q.1 q.2):=by have:=d.put p.1 h.2;rw[<-h.1];rwa[Δ]
   rwa[c e]
theorem nJ:∀(ł a:θ (Key×V)),@(jW a ł)<=@a+ @ł
 |[],a=>by show @a<=@a+ 0;ext
 |p::r,a=>by let b:=nJ r (ú a p.1 p.2);let c:=gN a p.1 p.2;show @(jW (ú a p.1 p.2) r)<=_;rw[aoA];ext
theorem yW {P:Í}{w:à}:∀{d:θ (Key×V)}{g:θ (Zt×Zt)},VV (d.Κ λf=>(kV f.1,f.2)) g->∃e,Carries Os g e/\KV d e
 |[],_,r=>by ext r;rwa[[],þ.intro,.nil]
 |p::d,_,r=>by
  cases r with
  | @È a b as bs h t=>let[e,c,q]:=yW (P:=P) (w:=w) t;let[j,i]:=b;rwa[(p.1,i)::e,{lu h.1,2,c},.È {2,h.2} q]
def ac0 (b:θ (TE×TE)):TE:=λ f H Q=>∀p,H p=ε->Ej b f (WA (.dK [])) λe c=>c p\.dK []/\∃a:θ (Key×V),e=a.Κ (λd=>(kV d.1,d.2))/\@a<=15/\Q ?p (ψ c p (.dK (jW [] a)))
def vJ {pos:Pos}{keys:θ (Ă ę)}{values:Zr}{d:θ (TE×TE)}(h:Ut X pos keys values d)(g:keys.all (·.ě)=ρ)(B:@keys=@values)(n:keys≠[])(j:@keys<=15):PE X (.Dict keys values pos) (ac0 d):=by
 intro f s D H Q I q;let E:=I.a0.ó (aoo ↥s);let p:=I.ŭ (a:=↥s) (o:=.dK []) (h':=s.τ.Ú (ϲ>>>.ù #[])) (t':=s.Æ) (λ_ _ q=>aol _ q) Ź (Ei s.τ I.big);rwa[wpAny_Dict_walk (knd:=cq X.À X.w) g B n j (bx (h f _ D β p (q _ E)) λS R ζ=>?_)];let[O,T,l,rel,e,b,G,lk,M]:=ζ;subst G;let[A,c,x]:=yW (P:=X.À) (w:=X.w) rel;let[z,m,J,u,F]:=vH l.a0 e;ext u;rwa[A,c,F,λk i C=>{↑↥s,152,M}]
 let y:@(jW [] b)<=Ε:=by let v:=nJ b [];rw[aoV]at v;rw[Š];ext
 let L:∃q,k.get? ↥s\q:=let ⟨q,_,_,t,_⟩:=i;{q,t}
 rwa[mj l ([e]▸þ.intro) C L (uh y m (x.merge .nil) i)]
structure M1 (X:Cx)(o:ę)(m:Ñ)(ĭ:Pos)(e:ę)(cP:Pos):ο where
 Β:Đ o m X.env IN=å o X.env
 few:((ĉ cP (Ο [e] X.env)).all (λx=>!x.1) && (Ń cP (ď [] X.env)).all (λx=>x.1.ě)
  && decide (@([e]:Zr)+ @([]:θ Keyword)+ (if ([]:θ Keyword).è then 0 else 1)<30))=ρ
 line:(ĭ.endLine==cP.line)=ρ
 trees:ĉ cP (Ο [e] X.env)=[(ς,å e X.env)]
structure M2 (X:Cx)(o:ę)(m:Ñ)(ĭ:Pos)(e f:ę)(cP:Pos):ο where
 Β:Đ o m X.env IN=å o X.env
 few:((ĉ cP (Ο [e,f] X.env)).all (λx=>!x.1) && (Ń cP (ď [] X.env)).all (λx=>x.1.ě)
  && decide (@([e,f]:Zr)+ @([]:θ Keyword)+ (if ([]:θ Keyword).è then 0 else 1)<30))=ρ
 line:(ĭ.endLine==cP.line)=ρ
 trees:ĉ cP (Ο [e,f] X.env)=[(ς,å e X.env),(ς,å f X.env)]
def Ia (H:Hp)(a:Zs):ο:=(∃b,Rd H a (.dK b))\/∃b,Rd H a (.dT b)
def oU {f:θ (Zs×Obj)}{l:St}(I:Inv X f l H s)(d:Ia H a):
 s.Ġ ?a ϲ/\(∀b,Η.É a=?b->∃c,s•b\c/\c.ù=ε)/\(a==ë)=ς:=by
 rcases d with ⟨i,e⟩|⟨i,e⟩
 .let[_,h,m,_,g]:=sh I.a0 e;rwa[g.Ý,λb q=>?_,h];ext q;let[c,_,_,k,j,_]:=g;rwa[c,k,j.2.1]
 .let[_,h,n,_,g]:=si I.a0 e;rwa[g.Ý,λb q=>?_,h];ext q;let[c,_,_,k,j,_]:=g;rwa[c,k,j.2.1]
section
variable {X:Cx}{pins:List (Zs×Obj)}{σ:St}{H:Hp}{s:Zu}{a:Zs}{y d:V}{u r:Zt}{o:Zc}{A:Around}{E:Zt->Zu->Prop}
def Yx (v:A.İ+ 1<Ť)(I:Ŵ)(g:dF H a y o)(p:LG)(h:∀n m,ZZ H m->ì (o.á .non) n->Q n m):
 X⁻¹ A (Ğ (.Ι "dict.get") [?a,u]) Q E s:=by
 rcases g with ⟨i,k,e,j,l⟩|⟨i,k,b,e,j,q,l⟩
 .subst j;let[z,f,w,rel,c]:=sh I.a0 e;rwa[aqK aqe c.Ý aqY (Γ.F.args_dict_get_2 β) (meets_dict_get (cq X.À X.w) a (lu p) f) {_,c.mapOf,h β ZQ ?_}];rw[l];rwa[(rel.val k).á Ų]
 .subst j;cases (show u=Η.É b from p);let[z,f,t,rel,c]:=si I.a0 e;rwa[aqK aqe c.Ý aqY (Γ.F.args_dict_get_2 β) (meetsH_dict_get (tupleKind (cq X.À X.w)) a b f) {aqw v,k,t,oT I.a0 q,c,h β ZQ ?_}];rw[l];rwa[(rel.val k).á Ų]
def Yy (v:A.İ+ 1<Ť)(I:Ŵ)(g:dF H a y o)(p:LG)(rd:ì d r)(h:∀n m,ZZ H m->ì (o.á d) n->Q n m):
 X⁻¹ A (Ğ (.Ι "dict.get") [?a,u,r]) Q E s:=by
 rcases g with ⟨i,k,e,j,l⟩|⟨i,k,b,e,j,q,l⟩
 .subst j;let[z,f,w,rel,c]:=sh I.a0 e;rwa[aqK aqe c.Ý aqY (Γ.F.args_dict_get_3^_) (meets_dict_get_default (cq X.À X.w) a (lu p) f r) {_,c.mapOf,h β ZQ ?_}];rw[l];rwa[(rel.val k).á rd]
 .subst j;cases (show u=Η.É b from p);let[z,f,t,rel,c]:=si I.a0 e;rwa[aqK aqe c.Ý aqY (Γ.F.args_dict_get_3^_) (meetsH_dict_get_default (tupleKind (cq X.À X.w)) a b f r) {aqw v,k,t,oT I.a0 q,c,h β ZQ ?_}];rw[l];rwa[(rel.val k).á rd]
end
inductive Ib (x:V)(H:Hp)(G:Zs->ο):ο
 |mk (a:Zs):x=?a->Ia H a->G a->Ib x H G
def Yz (td e:TE):TE:=λ d H Q=>td d H λx c=>Ib x c λa=>e d c λy b=>∃o,dF b a y o/\Q (o.á .non) b
inductive YB (ty tx:TE)(σ:St)(x:V)(H1:Hp)(Q:VK):ο
 |mk (a:Zs):x=?a->Ia H1 a->(ty σ H1 λy H2=>tx σ H2 λz H3=>∃o,dF H3 a y o/\Q (o.á z) H3)->YB ty tx σ x H1 Q
def YC (td c tx:TE):TE:=λ a H Q=>td a H λx b=>YB c tx a x b Q
inductive YD (a:Zs)(y:V)(H:Hp)(Q:VK):ο
 |mk (kvs:θ (Key×V))(k:Key)(v:V):H a\.dK kvs->y=kV k->bF kvs k\v->Q v (Ϻ (.dK (fT kvs k)))->YD a y H Q
def YF (td e:TE):TE:=λ c H Q=>td c H λx b=>Ib x b λa=>e c b λy d=>YD a y d Q
inductive Rj (a:Zs)(y z:V)(H:Hp)(Q:VK):ο
 |mk (kvs:θ (Key×V))(k:Key):H a\.dK kvs->y=kV k->(∀v,Pc k\v->Q v (Ϻ (.dK (fT kvs k))))->(Pc k=ε->Q z H)->Rj a y z H Q
def YG (td e tx:TE):TE:=λ b H Q=>td b H λx c=>Ib x c λa=>e b c λy d=>tx b d λz f=>Rj a y z f Q
section
variable {X:Cx}{o e f:Expr}{apos cP:Pos}{td ty tx:TE}
def Rk (v:X.A.İ+ 1<Ť)(q:Za)(C:ME)(m:M1 X o "get" ĭ e cP):PE X (.ġ (.â o "get" ĭ) [e] [] cP) (Yz td ty):=by intro b s j H Q I h;rwa[ϵ aqe Γ.F.type_dict_get (bx (q b s j H _ I h) λu w ζ=>?_)];let[x,t,i,z,a,ex,d,n]:=ζ;subst ex;obtain rfl:u=Η.É a:=z;let[r,k,_]:=oU i d;erw[r,k];rw[m.trees];rwa[xL (apT (apn (bx (C b w j t _ i n) λL F ζ=>?_)))];let[y,B,p,A,G,g,D]:=ζ;rwa[ap2 ?_];rwa[Yx v p g A λE J l c=>{_,B,l,c,D}]
def oV (D:X.A.İ+ 1<Ť)(A:Za)(M:ME)(w:PE X f tx)(m:M2 X o "get" ĭ e f cP):PE X (.ġ (.â o "get" ĭ) [e,f] [] cP) (YC td ty tx):=by
 intro b s i H Q I h;rwa[ϵ aqe Γ.F.type_dict_get (bx (A b s i H _ I h) λu E ζ=>?_)];let[x,C,j,F,a,ex,d,r]:=ζ;subst ex;obtain rfl:u=Η.É a:=F;let[B,k,_]:=oU j d;erw[B,k];rw[m.trees]
 rwa[xL (apT (apn (bx (M b E i C _ j r) λT q ζ=>?_)))];let[y,L,v,G,N]:=ζ;rwa[ apn (bx (w b q i L _ v N) λU S ζ=>?_)];let[z,n,p,J,R,g,t]:=ζ;rwa[ap2 ?_]
 rwa[Yy D p g G J λP O l c=>{_,n,l,c,t}]
def Rl (t:Za)(D:ME)(m:M1 X o "pop" ĭ e cP):PE X (.ġ (.â o "pop" ĭ) [e] [] cP) (YF td ty):=by intro b s i H Q I h;rwa[ϵ arc Γ.F.type_dict_pop (bx (t b s i H _ I h) λu A ζ=>?_)];let[x,z,g,B,a,ex,d,q]:=ζ;subst ex;obtain rfl:u=Η.É a:=B;let[w,j,_]:=oU g d;erw[w,j];rw[m.trees];rwa[xL (apT (apn (bx (D b A i z _ g q) λO L ζ=>?_)))];let[y,M,r,C,n,k,v,F,E,l,G]:=ζ;rwa[ap2 ?_];subst E;rwa[Us r F C l (.Α Ų) λJ N p c=>{v,_,p,c,G}]
def xP (G:Za)(S:ME)(F:PE X f tx)(m:M2 X o "pop" ĭ e f cP):PE X (.ġ (.â o "pop" ĭ) [e,f] [] cP) (YG td ty tx):=by
 intro b s j H Q I h;rwa[ϵ arc Γ.F.type_dict_pop (bx (G b s j H _ I h) λu N ζ=>?_)];let[x,L,n,O,a,ex,d,C]:=ζ;subst ex;obtain rfl:u=Η.É a:=O;let[J,t,_]:=oU n d;erw[J,t];rw[m.trees]
 rwa[xL (apT (apn (bx (S b N j L _ n C) λZ B ζ=>?_)))];let[y,R,E,q,V]:=ζ;rwa[ apn (bx (F b B j R _ E V) λU Y ζ=>?_)];let[z,A,p,P,c,k,r,T,D,M]:=ζ;rwa[ap2 ?_]
 subst T
 cases l:bF c k with
 |ι v=>exact Us p r q l (.Ç {U,2}) λW w g i=>{v,_,g,i,D v l}
 |ε=>exact Yr p r q l λw g=>{z,A,g,P,M l}
end
section
variable {X:Cx}{pins:List (Zs×Obj)}{σ:St}{H:Hp}{s:Zu}{h':Heap}
def Inv.xQ {fp:Zn}{o:HO}{t':η}(I:Ŵ)(k:∀b u,b∉fp->s•b\u->h'.get? b\u)(f:∀b∈fp,r9 X Î H b)(h:↥s<=a)(new:cu X.À X.w (Ϻ o) h' a o):Inv X Î σ (Ϻ o) { s with τ:=h',Æ:=t' }:=by
 let g:=I.a0.ó h;let i:∀b u,H b\u->b∉fp:=λb u e z=>by rw[(f b z).1]at e;ext e
 refine I.ı (g':=s.gens) (d':=s.drawn) (ch:=fp) (λb d=>{(f b d).2.2.2.1,(f b d).2.1,(f b d).2.2.2.2.1,(f b d).2.2.2.2.2}) (λb o _ _ hc e _=>k b o hc e) (λb o _ _ hc e _=>{o.č,k b o hc e})
  (λb o _ e n=>[aq (aoT (aoW Cl h))]▸n) (λb o hc e=>{o,k b o hc e}) (λb l e=>[aq (QA g)]▸e)
  (λb o u e=>[aq (QA g)]▸e) (λb y e=>{#[],by rw[aq (QA g),e];simp}) (λm t=>?_) (λb u e=>?_) I.bare
 .let[o,p,w,j,r]:=t;rwa[o,p,w,k _ o (λz=>(f _ z).2.1 Ų) j,r]
 .cases d:b=a
  .subst d;rw[aj]at e;ext e;rwa[new]
  .rw[aq d]at e;refine(I.a0 b u e).hJ (λc v hc q=>k c v ?_ q) (λc q=>[aq (Pd g)]▸q) λc l q=>by rw[aq (Pd g)];rwa[q]
   rcases hc with z|z
   .rw[z];rwa[i b u e]
   .rwa[i c _ z]
end
namespace En
variable {prog:Program}{w:World}{A:Around}{E:Zt->Zu->Prop}{s:Zu}
theorem MX {it:Zs}{fp:Zn}{P:η->Zt->ο}{St:η->Û->ο}{old:Zt}{Q:Zl->Zu->ο}(D:Draws À w A.in1 it fp n P St)(he:IsEnum s.τ a it z old)(Uu:St i s.τ)(wV:i<n)(YH:a≠it)(hef:a∉fp)(hQ:∀x h' H,P i x->IsEnumOut h' a it (z+ 1) x ↥s->St (i+ 1) h'->h'.get? ↥s\(ŷ>>>.seq #[.υ z H,x])->(∀b o,b≠a->b≠it->s•b\o->h'.get? b\o)->Q (ι ↑↥s) { s with τ:=h',Æ:=H+ 1 }):
 (À<|>w) A (Ņ ?a) Q E s:=by
 let hT:s.Ġ ?a ύ:={_,he,2};unfold Ņ;rwa[aof (aqv (apt (û:=Ñ.Ţ ZR) hT F.slot_enumerate_next (apB F.slot_enumerate_next hT F.entry_enumerate_next ?_ (F.args_enumerate_next_1 _))))];let[T,g,d,amw,os]:=s;show Ó β (field ?a 2 >>=_) γ;rwa[aof (apg he Ų (x:=?it) Ų (aof (D.item i γ wV Uu λx j H hPx M h=>?_)))];replace h:Û.ė it T j:=h;let r:IsEnum j a it z old:=(h.2 a YH).ν he;show Ó β (field ?a 3 >>=_) β {j,g,d,H,os};rwa[aof (apg r Ų (x:=ô z) Ų ?_)];show Ó β (field ?a 4 >>=_) β {j,g,d,H,os};rwa[aof (apg r Ų (x:=.ε) Ų ?_)];show Ó β (mkInt z >>=_) β {j,g,d,H,os};rwa[aof (wpAny_mkInt ?_)];show Ó β (setField ?a 3 (ô (z+ 1)) >>=_) β {j,g,d,H+ 1,os};rwa[aof (apJ r (by simp) λG t f=>?_)];replace f:Û.ė a j G:=f;replace t:IsEnum G a it (z+ 1) old:=t;show Ó β (setField ?a 4 .ε >>=_) β {G,g,d,H+ 1,os};rwa[aof (apJ t (by simp) λl u e=>?_)];replace e:Û.ė a G l:=e;replace u:IsEnum l a it (z+ 1) old:=u;show Ó β (newTuple [.υ z H,x] >>=_) β {l,g,d,H+ 1,os};rwa[aof (wpAny_newTuple ?_)];let v:IsEnum (l.Ú (ŷ>>>.seq #[.υ z H,x])) a it (z+ 1) old:=aol _ u;generalize B:l.Ú (ŷ>>>.seq #[.υ z H,x])=C at v;let Y:l.õ.Υ=T.õ.Υ:=by rw[e.1,f.1,h.1]
 let W:a<T.õ.Υ:=aoL he;let Z:C.get? T.õ.Υ\(ŷ>>>.seq #[.υ z H,x]):=by rw[<-B,<-Y];rwa[JU Ų]
 let U:∀b o,b≠a->b≠it->T.get? b\o->C.get? b\o:=λb o c X V=>by rw[<-B];rwa[ZY (e.Ą b o c (f.Ą b o c (h.Ą b o X V)))]
 let S:St (i+ 1) C:=D.frame γ M λb V o y=>by
  let c:b≠a:=λq=>hef (q ▸ V)
  rw[<-B];rwa[ZY (e.Ą b o c (f.Ą b o c y))]
 show Ó β (Λ.ň.ownedTupleIsFree ?a >>=_) β {C,g,d,H+ 1,os};rw[Y];clear B u e t f r h M Y l G j;rwa[aof ?_];unfold Λ.ň.ownedTupleIsFree;rwa[aof (apg v Ų (x:=.ε) Ų (aor ?_))];simp only[arV];rwa[aof (arC (aof (apg v Ų (x:=old) Ų (aof (apJ v (by simp) λN L m=>?_)))))];replace m:Û.ė a C N:=m;replace L:IsEnum N a it (z+ 1) x:=L;show Ó β (Λ.ň.ownedTupleHandOut ?a ?T.õ.Υ >>=_) β {N,g,d,H+ 1,os};rwa[aof ?_];unfold Λ.ň.ownedTupleHandOut;rwa[aof (apJ L (by simp) λO J p=>?_)];replace p:Û.ė a N O:=p;replace J:IsEnumOut O a it (z+ 1) x T.õ.Υ:=J;rwa[apJ J (by simp) λR I k=>?_]
 replace k:Û.ė a O R:=k;replace I:IsEnumOut R a it (z+ 1) x T.õ.Υ:=I;rwa[aof (arW (aor {12,aor (hQ x R H hPx I ?_ ?_ ?_)}))]
 .exact D.frame γ S λb V o y=>by
   let c:b≠a:=λq=>hef (q ▸ V)
   rwa[k.Ą b o c (p.Ą b o c (m.Ą b o c y))]
 .rwa[k.Ą β (aqc W) (p.Ą β (aqc W) (m.Ą β (aqc W) Z))]
 .rwa[λb o c X V=>k.Ą b o c (p.Ą b o c (m.Ą b o c (U b o c X V)))]
def Wr {T newId:Ĝ}{self a:Zt}{kw:θ (Ñ×Zt)}(f:typeLookup (.Â T) ϐ=Č (ι (.Ι ϟ)))(e:Bind.madeBy (.Â T)=Č (ι newId))(c:(ι newId !=ι "object.__new__")=ρ):
 Meets (Λ.«object.__init__» {[self,a],kw}) (λ_ R s=>s.Ġ self T/\R (.ok (.ret .ε)) s):=by
 rwa[Meets.of_wp λprog w A R s d=>?_]
 let[g,b]:=d
 repeat (any_goals (first|assumption|wp_step))
 rwa[12,b]
def ac1 (a b:Zt):checkTypeCall ύ {[a],[(ϱ,b)]}=Č ():=by kernel_rfl
def ac2 (a b:Zt):checkBuiltinCall "enumerate.__new__" {[.Â ύ,a],[(ϱ,b)]}=Č ():=by kernel_rfl
theorem ac3 (a b c:Zt):argsOk ϟ {[a,b],[(ϱ,c)]}:=by
 unfold argsOk;rw[signature?_of (id:=ϟ) (n:=['_','_','t','i','n','i','_','_']) (o:=['t','c','e','j','b','o']) (by kernel_rfl) F.owner_object]
 kernel_rfl
end En
section
variable {X:Cx}{pos:Pos}
abbrev TJ:=St->Hp->Zh->VK->Prop
def PJ (X:Cx)(c:Zr)(t:TJ):ο:=∀(a:θ (Zs×Obj))(s:Zu)(b:St)(H:Hp)(acc:Zh)(Q:VK),XV s->t b H acc Q->X⁻¹ X.A (joinParts (tx acc) (evalEach c X.env)) RR X.xe s
def MY:PJ X [] (λ b H acc Q=>@acc<=1000000/\Q (.str (tx acc)) H):=λa s b H acc Q I h=>joinParts_nil {.str (tx acc),H,I.tok _,{12},h.2} ([MQ]▸aot h.1 ⋯)
def jA {d:TE}{t:TJ}(n:PE X e d)(i:PJ X C t)(k:evalEach (e::C) X.env=å e X.env::evalEach C X.env:=by rfl):
 PJ X (e::C) (λ b H acc Q=>d b H λv c=>∃l,v=.str (tx l)/\@acc+ @l<=1000000/\t b c (acc++l) Q):=by
 intro a s b H acc Q I h;rw[k];rwa[joinParts_cons (bx (n a s b H _ I h) λv j ζ=>?_)];let[x,c,f,r,l,m,g,q]:=ζ;subst m;let[o,Ų]:=r;erw[5]
 .rw[MR,MQ,aoj];rwa[aot g ⋯]
 .rw[MR];rwa[i a j b c (acc++l) Q f q]
def B6 {b:ę}{t:TJ}(h:PJ X (e::b::C) t)(d:evalEach (e::b::C) X.env=å e X.env::å b X.env::evalEach C X.env:=by rfl):PE X (.JoinedStr (e::b::C) pos) (λ c H Q=>t c H [] Q):=by intro a s c H Q I q;rwa[JoinedStr_many ?_];have:=h a s c H [] Q I q;rw[d]at Δ;rwa[Δ]
def vK {d:TE}(j:PE X e d):PE X (.FormattedValue e (-1) ε pos) (λ c H Q=>d c H λv b=>∃n:π,v=.υ n/\n.Ä<10000000000/\Q (.str (tx (Ef n))) b):=by intro a s c H Q I h;rwa[FormattedValue_plain (bx (j a s c H _ I h) λv l ζ=>?_)];let[x,b,f,r,n,i,g,q]:=ζ;subst i;let[k,Ų]:=r;rwa[formatField_int_small (MS g) ?_];rwa[.str (tx (Ef n)),b,f.tok _,{_,by rw[acX (toString n:Ñ)];rfl},q]
abbrev ui:Zk:=[.type "ValueError",.type "Exception",.type "BaseException",.type "object"]
abbrev Rm (K:Za1) (C:Zs):Prop:=excIn K C ui "ValueError.__new__"=true
def Ws {K:Za1}(XK:K.In h)(q:Rm K a):∃n N nm o bs k s sub r col t E A G D F w,
 h.get? a=ι KU/\h.Ns N w/\w ϐ=ε/\OwnTail h ui n:=by
 let g:excIn K a ui ϫ=ρ:=q;unfold excIn at g;split at g
 .rename_i t cls m j;split at g
  .rename_i H n x y z u nid v e b;simp only[apY,arD,ã.not_eq_true']at g;let[⟨⟨⟨⟨rfl,rfl⟩,d⟩,f⟩,i⟩,c]:=g;let[nm,bs,mro,C,o,B,s,sub,r,col,del]:=cls;dsimp only at e d i c;subst e d
   let p:m=#[x,y,z,u,ι (.Ι ϫ),v]:=by let⟨l⟩:=m;simp only at b;rw[b]
   subst p;rwa[n,C,nm,o,bs,B,s,sub,r,col,t,x,y,z,u,v,_,XK^j,.of_isNs TZ,Γ.W.nsMap_none_of_in XK i c,Γ.W.tail_of_in XK f]
  .ext g
 .ext g
def MZ (C:Zs)(E:XK)(a:TE):TS:=λ_ c H=>a c H λ_ b=>E ?C ε b
theorem Rn {E:XK}{G:TE}{g:Pos}(hc:X.calm=ρ)(U:AD)(hm:X.mg x\?a)(S:Rm X.K a)(he:PE X e G)(hx:∀(d:θ (Zs×Obj)) (k:St) (H:Hp) (s:Zu) (j:Û) (c:Zs) (V:Zk),ϗ d k H s->Û.MadeExcOf s.τ j c ?a V->E ?a ε H->X.xe ?c (s<*j))(O:Ο [e] X.env=[(ς,å e X.env)]:=by rfl)(l:(x==(Ϡ:Ñ))=ς:=by decide):
 PS X (.Raise (ι (.ġ (.ö x p) [e] [] g)) ε pos) (MZ a E G):=by
 intro d s k H D I h;let[L,N,nm,T,bs,f,M,sub,B,col,Q,z,t,R,w,A,C,Y,W,Z,P]:=Ws I.ok.mod.iJ S;let kp:∀{n H' u},ϗ d n H' u->∀b o,X.Β.get? b\o->u•b\o:=λJ b o q=>(J.bs b o q).1
 refine wpAny_Raise_call_subT (C:=a) (nm:=nm) (q:=T) (N:=N) (bs:=bs) (bm:=L) (hdct:=f) (sn:=M) (sub:=sub) (ab:=B) (col:=col) (dd:=Q) (k0:=z) (k1:=t) (k2:=R) (k3:=w) (k5:=A)
  F.excBase_ValueError (mN:=C) (P.hasType ⋯) (I.ok.hd hc) (by rw[O];rfl) Z (iT I U hm {25} l)
 rw[O];rwa[apT (apn (bx (he d s k H _ I h) λv s1 ζ=>?_))];let[y,H1,i,r,q]:=ζ;rwa[ap2 ?_];rwa[2,Za4 1,kp i β Y,W.Į (kp i),P.Į (kp i),λj c m=>hx d k H1 s1 j c _ i m q]
end
def cu.ű {P:Í}{w:à}{o:HO}(x:l3):∃u,h.get? a\u:=by
 cases o with
 |Ν c=>let[_,_,_,_,e]:=x;rwa[_,e]
 |Ò c=>let[_,_,_,ob,e,_]:=x;rwa[_,e]
 |dK b=>let[_,_,_,_,o,_,_,e,_]:=x;rwa[_,e]
 |dT b=>let[_,_,_,_,o,_,_,e,_]:=x;rwa[_,e]
 |set S n=>let[o,_,_,_,e,_]:=x;rwa[_,e]
 |ins C dx fs=>let[_,_,_,e,_]:=x;rwa[_,e]
 |own y=>exact x
 |xd fs=>let[_,⟨_,_,_,e,_⟩,_]:=x;rwa[_,e]
 |mR lo i=>let[_,_,_,e]:=x;rwa[_,e]
 |dI ob u=>let[e,_]:=x;rwa[_,e]
 |ti d=>rwa[_,show h.get? a=ι _ from x]
 |met f y=>rwa[_,show h.get? a=ι _ from x]
 |ext g=>let[_,e,_]:=x;rwa[e]
def Ek (x C:Zs)(h:Û):ο:=∃a b,h.get? x\a/\a.cls=?C/\a.ê=.Å b
section
variable {X:Cx}{pins:List (Zs×Obj)}{σ:St}{x:Zs}{s:Zu}
def Inv.Uv {s1:Zu}(I:Inv X Î σ H s1){b:Zs}(c:b∈bV X.stack):∃o,s1•b\o/\∀a,o.ê≠.Å a:=by let[_,o,e,n]:=I.stack.mem c;rwa[o,e,n]
abbrev Cx.tq (X:Cx) (x:Zs):Cx:={ X with A:=X.A.mark (some ↑x),calm:=false,xe:=λ_ _=>False }
def Inv.tq (I:Ŵ)(x:Zs):Inv (X.tq x) Î σ H s:={{I.ok.mod,I.ok.kind,I.ok.glob,I.ok.blt,I.ok.above,I.ok.inj,I.ok.has,I.ok.DL,(λz=>by ext z),I.ok.frames,I.ok.HD,I.ok.T9,I.ok.bs,I.ok.wM,I.ok.xA,I.ok.AJ,I.ok.kX,I.ok.yL},I.os,I.bare,I.Β,I.loc,I.cell,I.free,I.iB,I.pin,I.a0,I.len}
def Inv.pZ (ok:X.Ok)(I:Inv (X.tq x) Î σ H s):Inv X Î σ H s:={ok,I.os,I.bare,I.Β,I.loc,I.cell,I.free,I.iB,I.pin,I.a0,I.len}
def vL {M:Model}{A:ß}{n:Ñ}{pos:Pos}(I:Ŵ)(Y:X.N.Á)(J:X.N[i]?\n)(g:X.env.Ξ.names.ω n=ι .local)(h:∀F,ϗ Î (σ.set i ε) H F->U () F):Ó M A (do bindName X.env n .ε;unbindBehindTheSuite X.env n pos) U E s:=by
 let[m,T,S]:=id I.loc;let t:(X.env.Ξ.kind==.class || (X.env.Ξ.kind==.module && X.env.ć !=X.env.globals))=ς:=by rw[I.ok.kind];rfl
 let r:i < @σ:=by rw[I.len];rwa[(aoh.mp J).1]
 rwa[wpAny_nameGoes_keeps g T t λh' v B f=>?_]
 let a:∀b o,X.fD.τ.get? b\o->b≠X.env.ć:=λb o e=>aoT XN
 rwa[h _ {I.ok,I.os,I.bare,{λb o e k w g=>(f.2 b (a b o e)).ν (I.Β.Ï b o e k w g),λb o e k w g=>?_,I.Β.free,λb o e g=>?_,I.Β.jh,I.Β.iA,I.Β.jT},{_,B,λj y N l u W=>?_},λy c e=>?_,I.free,I.iB,λp R=>?_,λb P e=>?_,by simpa using I.len}]
 .let[O,l]:=I.Β.slot b o e k w g;rwa[O,(f.2 b (a b o e)).ν l]
 .let[V,l]:=I.Β.there b o e g;rwa[V,(f.2 b (a b o e)).ν l]
 .cases D:j=i
  .subst D;rw[ao9 r]at u;ext u
  .rw[apz (apE D)]at u;let[Q,L,q]:=S j y N l u W;erw[Q,L];rcases q with ⟨k,e⟩|⟨k,c,e,z⟩
   .rwa[.Α {k,?_}];have:y≠n:=λe=>D (xB Y l (e ▸ J))
    simp[Δ,e]
   .rwa[.Ç {k,c,e,ol (I.qP y c e)}]
 .let[G,z]:=I.cell y c e;rwa[G,ol (I.qP y c e)]
 .let[e,k,ne,Z,d]:=I.pin p R;rwa[(f.2 p.1 ne).ν e,k,ne,Z,d]
 .rwa[(I.a0 b P e).hJ (λc G hc q=>(f.2 c ?_).ν q) (λ_ q=>q) λ_ _ q=>q]
  rintro rfl;rcases hc with rfl|hc
  .rw[I.free]at e;ext e
  .rw[I.free]at hc;ext hc
end
abbrev TH:=Ends->Zs->St->Hp->Prop
def Ek.DG {M:Model}{x:Zs}(p:Ek x a h):Γ.W.Ĵ M h (typeOf ?x) ?a:=by let[o,_,c,b,_]:=p;rwa[b ▸ (Γ.W.Ĵ.ld c).ŝ .now]
end L2
namespace L2
open PySem.Calls PySem.W Builtin Builtin.ObjectAttr Builtin.Getset_descriptor
structure El (K:Za1)(C:Zs):ο where
 ga:Õ K ?C YU=ι (ι (.Ι Ÿ))
 gt:Õ K ?C NH=ι ε
 cl:isClsIn K C=ρ
 at_:Õ K ?C ZF=ι (ι (.Ι ϊ))
 gs:specialIn K (.Ι ϊ) "__get__"=ι (ι (.Ι ϛ))
 tk:takesIn K (.Ι ϊ)\ρ
 mo:mroIn K C (.Â ZO)\ρ
 be:subIn K ?C (.Â Ϩ)\ρ
variable {prog:Program}{w:World}{A:Around}{E:Zt->Zu->Prop}{s:Zu}{K:Za1}{x C:Zs}
def C8 {R:Result->Zu->ο}(X:OA)(e:Ĵ Ϥ s.τ (typeOf ?x) ?C)(a:mroIn K C (.Â ZO)\ρ)(h:R (.ok (.ret ?C)) s):codeAny Ϥ A (.Ğ (.Ι ϛ) {[.Ι ϊ,?x,v],[]}) R s:=by
 let[b,g,d,t,os]:=s;let c:=looks_mroIn (M:=ñ À w) X a;rwa[apG KF.slot_gs.plain KF.entry_gs (KF.slot_gs.check δ _ _ _ _ KF.type_class (KF.args_gs^_) ?_)];unfold Λ.«getset_descriptor.__get__» descrGet;rw[dga_obj];rwa[aof (aor ?_)];unfold descrGetter descrCheckInstance descrNameAndClass isInstance;simp only[KF.owner_class]
 repeat lk
 rwa[arQ _ ⋯,ard KF.entry_class ?_];unfold Λ.«object.__class__» shownTypeOf
 repeat lk
 rwa[h]
theorem B7 {M:Model}{g:Ė GenState}{d:Drawn}{os:OsState}(e:Ĵ M h (typeOf ?x) ?C)(b:Ĵ M h (isSubtype ?C (.Â Ϩ)) ρ)(f:U () {h,g,d,n,os}):
 Ó M A (checkBuiltinCall Ÿ {[?x,v],[]}) U E {h,g,d,n,os}:=by
 let a:builtinKind Ÿ=ι .slot:=⋯
 let hsplit:splitId Ÿ=ι (Ϩ,YU):=⋯
 let i:=F.args_bexc_ga ?x v;let c:Ĵ M h (isInstance ?x (.Â Ϩ)) ρ:=e.ŝ b;simp only[checkBuiltinCall,a,hsplit];rwa[aof (c.at ?_)]
 repeat (any_goals (first|assumption|wp_step))
theorem M0 {Q:Zl->Zu->ο}(X:OA)(p:Ek x C s.τ)(l:El K C)(h:Q (ι ?C) { s with Æ:=s.Æ+ 1 }):(À<|>w) A (getAttr? ?x ZF) Q E s:=by
 let[i,e,B,r,o,c,q,k]:=l;let[a,g,d,t,os]:=s;let j:Ĵ Ϥ a (typeOf ?x) ?C:=p.DG;let v:=ģ (M:=ñ À w) X i;let L2:=ģ (M:=ñ À w) X e;let n:Ĵ Ϥ a (isSubtype ?C (.Â Ϩ)) ρ:=looks_subIn X k;let y:=ģ (M:=ñ À w) X r;let m:Ĵ Ϥ a (getOf (ι (.Ι ϊ))) (ι (.Ι ϛ)):=looks_specialIn X o;let Lt:=looks_takesIn (M:=ñ À w) X c
 let z:Ĵ Ϥ a (find ?x ?C ZF) (.bind (.Ι ϛ) (.Ι ϊ)):=y.ŝ (m.ŝ ((show Ĵ Ϥ a (dataDescriptor? (ι (.Ι ϊ)) (ι (.Ι ϛ))) (ι (.Ι ϛ,.Ι ϊ)) from Lt.ŝ .now).ŝ (Ĵ.tag .now)))
 let b:(Η.Ι Ÿ==Η.Ι ZW)=ς:=⋯
 let f:(onTheHeap (Η.É C) && Η.Ι Ÿ==Η.Ι ZW)=ς:=by rw[b];rfl
 let u:=F.Ň.ga.bind ?x;unfold getAttr? getAttrBy? getAttrBy;rwa[aof (wpAny_mkText (aof (aqv (aps (aof (j.at (aof (v.at ?_))))))))];dsimp only;rw[aoK (by rw[f];decide)];unfold getAttrByItsOwn hookBefore;rw[aoO (show onTheHeap (Η.É C)=ρ from rfl)];rwa[aof (L2.at (aof (aqv (aps ?_))))];unfold callGetattribute boundAndCalled;rw[aoK ⋯,u];rwa[aof (aor ?_)];show Ó β (Ğ (.Ι Ÿ) [?x,.str ZF t]) γ;rwa[aqB (apG F.Ň.ga.plain F.entry_bexc_ga (B7 j n ?_))];unfold Λ.«object.__getattribute__»
 repeat (any_goals (first|with_reducible rwa[aqB (C8 (s:={a,g,d,t+ 1,os}) X j q ?_)]|lk))
 rwa[h]
def Ro (b:El K C):KitX K ?x ?C (Ek x C) where
 ty:=λ_ _ _ p=>p.DG
 it:=λ_ _ X _=>by
  let a:(clsIn K C).ě=ρ:=b.cl;unfold clsIn at a;split at a
  .rename_i i l c g d;intro u y r o k q;unfold isType loadHead;rwa[aof (wpAny_loadPart (k^X^d) (aor q))]
  .ext a
 ne:=λh m v j n t X f=>by
  let a:(clsIn K C).ě=ρ:=b.cl;rwa[ã.eq_false_iff.mpr λq=>?_]
  let e:C=m:=Η.É.inj (arD.mp q);subst e;unfold clsIn at a;split at a
  .rename_i i l c g d;let z:=(X^d).Τ.ν f;ext z
  cbv
 ca:=λX p h=>M0 X p b h
def vOf:V->Zl
 |.É a=>ι ?a
 |.ty n=>ι (.Â n)
 |_=>ε
def Wt (h:vOf q\u)(r:ì q v):v=u:=by cases q <;> first|(ext h;rwa[r])|ext h
end L2
namespace L2
section
variable {P:Program}{w:World}{K:Za1}{mg:Str->Zl}{base:Heap}
theorem yU.okN {h:qV}{Ā:Ñ}{st:ŕ}{fd:Ζ}{e:Zp}{k:η}{sp:Sp}(F:SE)(S:aL Z e Ϸ)(len:∀c H Q E,pr E->@c=@e)(d:∀(b:Zt) (A:ß) (Ψ:Zq) (s:Zu) (H:Hp) (c:Zb) (Q:VK) (E:XK),dy k (A.deeper (Ũ Ā Ϸ ↥s a b))->sp c H Q E->
  ∃t,hL (c0 h P w K mg Β Z Ā Ϸ a b A Ψ s H E).DP ZK t/\t { nx:=λ_ m=>Q .non m,rt:=Q } (Θ Z c) H):cX P w K mg Β h (k+ 1) a fd e sp:=by
 let[o,q,kV,doc,pm,p,b,ct,n,Ų,lk,g]:=F.ex;rwa[J1 lk g S len λA Ψ s H c Q E l f=>?_]
 let[t,j,i]:=d b A Ψ s H c Q E l f;rwa[t,j.DP,i]
end
def xR (k:TT)(g:TE)(e:St)(Q:VK)(J:It)(h:Hp):ο:=∃W:η->η->Zb->Hp->ο,(∃m,W 0 m [] h)/\∀i m ys a,W i m ys a->
 (J.stop i a/\@ys<=Ε/\∀D,a D=ε->Q ?D (ψ a D (.Ν ys)))\/
 (J.go i a/\@ys<Ε/\∀x f,J.tm i a x f->k (ι x::e) f λb d=>match b with
  |ρ=>g (ι x::e) d λy j=>∃c,c<m/\W (i+ 1) c (ys++[y]) j
  |ς=>∃c,c<m/\W (i+ 1) c ys d)
def qW (b:TI)(e:St->St)(d:TT)(c:TE):TE:=λ a H Q=>b a H (xR d c (e a) Q)
def mR (lo:π)(n:η):Zg:=(~~~n).Κ λi:η=>lo+ (i:π)
def AZ (lo:π)(n:η):@(mR lo n)=n:=by unfold mR;cbv
def YJ {lo:π}(h:i<n):(mR lo n)[i]?\(lo+ (i:π)):=by unfold mR;rw[aon,apx h];rfl
theorem Em:∀(zs:Zg)(us:Zk),@us=@zs->(∀(i:η)(z:π)(u:Zt),zs[i]?\z->us[i]?\u->∃t,u=.υ z t)->ä (aw zs) us
 |[],[],_,_=>.nil
 |z::zs,u::us,a,h=>.È (h 0 z u Ų Ų) (Em zs us (by simpa using a) λi z u c b=>h (i+ 1) z u c b)
 |[],_::_,a,_=>by simp at a
 |_::_,[],a,_=>by simp at a
def Ki {lo:π}{acc:Zm}(h:ItemsOf (λi v=>∃t,v=Η.υ (lo + (i:π)* 1) t) acc n):ä (aw (mR lo n)) acc.Ć:=by
 rwa[Em β ?_ λi z u a c=>?_]
 .rw[AZ,aqm];rwa[h.1]
 .let b:i<n:=by have:=(aoh.mp a).1;rw[AZ]at Δ;rwa[Δ]
  rw[YJ b]at a;let[t,e]:=h.2 i u (by cbv)
  cbv
section
variable {X:Cx}{a:Expr}{ta:TA}{p p2 pos Kj:Pos}
def afR (ta:TA):TE:=λ e H Q=>ta e H λd c=>∃j:η,d=[.υ j]/\j<=10000/\∀l,c l=ε->Q ?l (ψ c l (.Ν (aw (mR 0 j))))
def list_range {d:θ (Zs×Obj)}{i:St}{Q:VK}{lo:π}{t u v:Tok}(m:X.calm=ρ)(I:Inv X d i H s)(B:0<=lo)(r:lo<=10000)(C:0<=z)(A:z<=10000)(q:∀l,H l=ε->Q ?l (ZP (.Ν (aw (mR lo (z - lo).Φ))))):X⁻¹ X.A (Ğ (.Â ż) [↑↥s]) (EP X d i Q) X.xe { s with τ:=s.τ.Ú (US>>>.Å #[.υ lo t,.υ z u,.υ 1 v]),Æ:=n }:=by
 let j:Inv X d i H { s with τ:=s.τ.Ú (US>>>.Å #[.υ lo t,.υ z u,.υ 1 v]),Æ:=n }:=I.ņ λb o e=>aol _ e
 let g:Λ.Range.rangeSize lo z 1=(((z - lo).Φ:η):π):=by rw[rangeSize_one];split <;> ext
 rwa[call_list_range (n:=(z - lo).Φ) (I.ok.hd m) (IsRange.new ..) (small_one ∅ ∅ ∅ ∅) g ∅ λy h f k kp x hit=>?_]
 rwa[↑_,_,j.ŭ (t':=h) (o:=.Ν (aw (mR lo (z - lo).Φ))) kp Ź {5,f.Ć,k,Ki hit,5},2,q _ (j.a0.ó Ź)]
 .rw[aF,AZ];rwa[aot (show (z - lo).Φ<=10000 by omega) ⋯]
 ext
def C9 (x:X.calm=ρ)(g:Gl X ż)(f:X.mg ż=ε)(k:Gl X US)(v:X.mg US=ε)(w:PA X [a] ta)(o:Ο [a] X.env=[(ς,å a X.env)])(d:Ο [.ġ (.ö US p) [a] [] pos] X.env=[(ς,å (.ġ (.ö US p) [a] [] pos) X.env)]):PE X (.ġ (.ö ż p2) [.ġ (.ö US p) [a] [] pos] [] Kj) (afR ta):=by
 intro c s u H Q I h;rwa[apI (iK I g f boot_list ?_)];rwa[apo ?_ d Ų];rw[d];show Ó β (spliced ((ς,å (.ġ (.ö US p) [a] [] pos) X.env)::ĉ Kj [])) β s;rwa[apn ?_];rwa[Call_ (iK I k v boot_range (apo (bx (w pos c s u H _ I h) λB A ζ=>?_) o Ų))];let[y,z,l,i,m]:=ζ;let[j,e,C,q]:=m;subst e
 cases i with
 |È r n=>ext n;let[t,Ų]:=r;rwa[call_range_1 (ap2 ?_)];rwa[list_range x l ∅ ∅ ∅ ∅ (by simpa using q)]
end
def bT (H:Hp)(rs:Zn)(rows:Za3):ο:=@rs=@rows/\∀(i:η)(r:Zs)(a:Zg),rs[i]?\r->rows[i]?\a->H r\(.Ν (aw a))
def Ċ (H:Hp)(a:Zs)(rows:Za3):ο:=∃rs:Zn,H a\.Ν (rs.Κ V.É)/\bT H rs rows
def bT.Μ {rs:Zn}{rows:Za3}(h:bT H rs rows)(s:XL):bT I rs rows:={h.1,λi r ns b a=>s^h.2 i r ns b a}
def Ċ.Μ {rows:Za3}(h:Ċ H a rows)(s:XL):Ċ I a rows:=by let[rs,c,b]:=h;rwa[rs,s^c,b.Μ s]
def M8 {rs:Zn}:∀{a:Zk},ä (rs.Κ V.É) a->a=rs.Κ Η.É:=by
 induction rs with
 |nil=>intro a r;ext r;rfl
 |È c rs b=>
  intro a r
  cases r with
  |È e d=>ext e;rw[b d];rfl
section
variable {X:Cx}
def jk {K:Za1}(h:X.K=K):My X (Ka K):=by subst h;rwa[aU]
def Ic {K:Za1}(h:X.K=K):My X (Q0 K):=by subst h;rwa[cI]
def Dc {K:Za1}(h:X.K=K):gY X (.Â ż) (λa H Q=>∃p ys,a=[?p]/\(yY p ys\/bG K H p ys)/\∀l,H l=ε->Q ?l (ZP (.Ν ys))):=by subst h;rwa[lj]
def Dd {K:Za1}(h:X.K=K):gY X (.Ι "len") (Kc K):=by subst h;rwa[aP]
end
def cz (H:Hp)(a:Zn)(ws:Za3):ο:=@a=@ws/\∀(i:η)(p:Zs)(w:Zg),a[i]?\p->ws[i]?\w->H p\(.Ò (aw w))
def bM (H:Hp)(a:Zs)(c:Za3):ο:=∃b:Zn,H a\.Ν (b.Κ V.É)/\cz H b c
def cz.Ï {ws:Za3}(h:cz H F ws)(s:∀p a,H p\.Ò a->I p\.Ò a):cz I F ws:={h.1,λi p w c b=>s^h.2 i p w c b}
def cz.Μ {ws:Za3}(h:cz H F ws)(s:XL):cz I F ws:=h.Ï λp a e=>s^e
def bM.Μ {ws:Za3}(h:bM H a ws)(s:XL):bM I a ws:=by let[b,d,c]:=h;rwa[b,s^d,c.Μ s]
def cz.ċ {ps:Zn}{ws:Za3}{w:Zg}(h:cz H ps ws)(e:H a\.Ò (aw w)):cz H (ps++[a]) (ws++[w]):=by
 rwa[by rw[aoj,aoj,h.1];rfl,λi q u c b=>?_];cases d:i<@ps
 .rw[aoq d]at c;rw[aoq (by rw[<-h.1];rwa[d])]at b;rwa[h.2 i q u c b]
 .rw[aoz ∅]at c;rw[aoz (by rw[<-h.1];omega)]at b;rw[aok.mp NU,aok.mp i8];rwa[e]
theorem uj:∀{a:Zg}{b:Zk},ä (aw a) b->IntsAre b a
 |[],_,h=>by ext h;rwa[.nil]
 |n::a,_,h=>by
  cases h with
  |È d c=>let[t,Ų]:=d;rwa[.È n t (uj c)]
def Wu (ns:Zg)(k:π):(ns.any λx=>x==k)=decide (k∈ns):=by cbv
section
variable {X:Cx}
inductive Eo (x y:V)(H:Hp)(Q:VK):ο
 |mk (k:π)(a:Zs)(ns:Zg):x=.υ k->y=?a->H a\.Ν AS->Q (.bl (!decide (k∈ns))) H->Eo x y H Q
def Kk:gX X (ē .NotIn) Eo:=by intro b s i H x y v u Q I d e h;let[k,a,g,Ų,Ų,f,q]:=h;let[t,Ų]:=d;ext e;let[c,r,p,_]:=I.Ĥ (ay.of f);rwa[notin_list_ints p.î (uj r) ?_];rw[Wu];rwa[.bl _,H,I,2,q]
def isInt (k:π):Zt->ã
 |.υ z _=>z==k
 |_=>ς
inductive Ie (x:V)(vs:Zb)(H:Hp)(Q:VK):ο
 |mk (a:Zs)(ns:Zg)(k:π):x=?a->vs=[.υ k]->H a\.Ν AS->k∈ns->(∀i:η,ns[i]?\k->(∀j,j<i->ns[j]?≠ι k)->Q (.υ i) H)->Ie x vs H Q
def M9 (h:z∈l):∃i:η,l[i]?\z/\∀j,j<i->l[j]?≠ι z:=by
 induction l with
 |nil=>ext h
 |È a l c=>
  cases e:a=z
  .rwa[(0),by rw[e];rfl,λj d=>∅]
  .let[i,g,f]:=c ((aoC.mp h).resolve_left (apE e));rwa[i+ 1,g,λj d=>?_]
   cases j with
   |Ŀ=>exact λb=>e (Za0 b)
   |ŧ j=>exact f j ∅
theorem tu:MB X "list.index" Ie:=by
 intro B s R H x O v S Q I L C h;let[a,ns,k,Ų,Ų,J,d,q]:=h;ext L;let[u,Ų,M]:=C.one;let[t,Ų]:=M;let[z,b,n,r,E,e]:=I.sf J;rw[aF]at z E;let[i,o,A]:=M9 d;let P:i<@ns:=(aoh.mp o).1
 let at_:∀(m:η)(d:m<b.χ.Υ),isInt k b.χ[m]=decide (ns[m]?\k):=λm d=>by
  let c:m<@b:=by simpa using d
  let g:ns[m]?\(ns[m]'∅):=aoe ∅
  let[w,p,f,Ų]:=r.ű (bR g)
  let l:b.χ[m]=Η.υ (ns[m]'∅) f:=by rw[θ.getElem_toArray];rwa[Za0 ((aoe c).Τ.ν p)]
  rw[l,g];show (ns[m]'∅==k)=_;rw[aqn,arD,apD];rwa[λz=>by rw[z],λz=>Za0 z]
 let D:(Ε:η)<2 ^ 62:=⋯
 refine ark F.slot_list_index {_,e,2} F.entry_list_index (F.args_list_index_2 β)
  (ĳ.list_indexAt a b.χ n ε #[] (.υ k t) (isInt k) i (by rw[aoI];omega) ∅ ([at_]▸aoP o) (λm d j=>[at_]▸apd (A m j))) {e,λy G=>?_,5}
 .let[m,d,N]:=aqz.mp (Ė.mem_toList_iff.mpr G);let c:m<@b:=by simpa using d
  let g:ns[m]?\(ns[m]'∅):=aoe ∅
  let[w,p,f,Ų]:=r.ű (bR g)
  let l:y=Η.υ (ns[m]'∅) f:=by rw[<-N];rwa[Za0 ((aoe c).Τ.ν p)]
  rw[l];rwa[ĳ.EqAt.int_int _ f k t]
 .rwa[.υ i,H,I.tok _,{12},q i o A]
end
def Nc (Q:Hp->Zb->ο)(f:η->π):It:={(HJ Q).go,λi H x a=>∃p v,H p=ε/\(∀ys,Q H ys->ys[i]?\v)/\x=?p/\a=ψ H p (.Ò [.υ (f i),v]),(HJ Q).stop}
abbrev afS (K:Za1) (a:Zs):It:=Nc (λH=>ay K H a) Nat.cast
theorem Wv {P:Í}{w:à}{K:Za1}{elts:Zr}{x1:η}{tp:Pos}{Q:Hp->Zb->ο}{f:η->π}{it:Zs}{tn:η->Û->ο}(S:Mj K Q b it tn)(hei:a≠it)(Y:∀i,f (i+ 1)=f i+ 1):
 Turn P w K (.ń elts x1 tp) (Nc Q f) [a,it] a (λi h=>(∃old,IsEnum h a it (f i) old)/\tn i h) where
 mem:=by simp
 obj:=λi h st c e=>by
  let[⟨old,g⟩,st]:=st;let[o,n,vs,_,_,_,_]:=S.ob i h st
  cbv
 Ï:=λi h J st k=>by let[⟨old,g⟩,hl]:=st;rwa[{old,k a (by simp) _ g},S.kp γ hl λo a=>k it (by simp) o a]
 item:=by
  intro X Z U N hc i p s σ H E I r st C;subst Z U;let[⟨old,g⟩,j]:=st;let[xs,x,L,t]:=C;let[inj,l,oa,St,R,ha,B,D,_,O,h2]:=S.dr N hc I L j;let[u,hu,ru]:=R.ű t;let hea:a≠b:=iM g ha (apE B);let M:a<↥s:=aoL g;let B9:i<@l:=(aoh.mp hu).1;rwa[En.MX D g O (by simp;omega) hei (by cbv) λy J tk W ho v m hk=>?_]
  obtain rfl:u=y:=by
   simp at W
   cbv
  rwa[12,wpAny_letOwnedTupleGo_enum ho λG T d=>?_]
  rwa[↑↥s,_,I.xQ (fp:=[a,it]) (a:=↥s) (o:=.Ò [.υ (f i),x]) (h':=G) (t':=tk+ 1) (λc ob e q=>?_) r Ź {Za4 2,[.υ (f i) tk,u],.È {12} (.È ru .nil),_,(d.2 _ (aqc M)).ν m,212},2,{_,x,I.a0.ó Ź,λys hy=>[inj ys hy]▸t,22},{{u,[Y]▸T},h2^(D.frame γ v λc e o q=>(d.2 c (by cbv)).ν q)},λc e=>?_]
  .simp at e;rwa[(d.2 c e.1).ν (hk c ob e.1 e.2 q)]
  .let[o2,_,_,h3,_]:=S.ob^j;have:=aoL h3;rw[aq (by cbv)];rwa[(r c e).1]
 done:=by intro X Z U N hc i p s σ H E I r st C;subst Z U;let[⟨old,g⟩,j]:=st;let[xs,L,t]:=C;let[_,l,_,_,R,_,_,D,_,O,_]:=S.dr N hc I L j;rwa[wpAny_pyNext_enum_endD D g (by rw[aoI,<-@R,t];rwa[O]) λJ eb=>{2,I.lW (fp:=[a,it]) (t':=s.Æ) (λc o e q=>eb c o (λz=>e (by simp[z])) q) r}]
 self:=λA i s Q E st h=>by let[⟨old,g⟩,_]:=st;let m:s.Ġ ?a ύ:={_,g,2};rwa[ŋ m F.slot_enumerate_iter (apB F.slot_enumerate_iter m F.entry_enumerate_iter (aor {12,ύ,_,m,F.slot_enumerate_next.ω,h}) (F.args_enumerate_iter_1 _))]
section
variable {X:Cx}
def Ig {c:θ (Zs×Obj)}{e:St}{R:It->Hp->ο}{elts:Zr}{Q:Hp->Zb->ο}{f:η->π}{g:η->Û->ο}{old:Zt}(I:Inv X c e H s)(S:Mj X.K Q a ↥s g)(l:∀i,f (i+ 1)=f i+ 1)(j:IsEnum h (↥s+ 1) ↥s (f 0) old)(d:g 0 h)(k:∀b o,s•b\o->h.get? b\o)(q:R (Nc Q f) H):X⁻¹ X.A (pyIter ↑(↥s+ 1)) (Ud X c e (.ń elts n p) R) X.xe (s<*h):=by
 let T:=Wv (P:=X.À) (w:=X.w) (elts:=elts) (x1:=n) (tp:=p) S (η.succ_ne_self _) l;rwa[T.self _ 0 γ {{_,j},d} {1111,H,2,I.ņ (t':=s.Æ) k,T,{{_,j},d},λb r=>?_,q}];have:↥s<=b:=by cbv
 rwa[I.ua Δ (I.a0.ó Δ)]
def YK (K:Za1)(e:TA):TI:=λ f H R=>e f H λc b=>∃a,c=[?a]/\(∃d,ay K b a d)/\R (afS K a) b
def xS {g:Za1}[d:eD X g]{a:ę}{i:TE}{elts:Zr}{A:η}{v p pos:Pos}(m:Gl X ύ)(x:X.mg ύ=ε)(y:PE X a i)(j:Ο [a] X.env=[(ς,å a X.env)]:=by rfl):
 PI X (.ń elts A v) (.ġ (.ö ύ p) [a] [] pos) (YK g (vC i uc)):=by cases d.eq;intro b s w H R I h;rwa[Call_ (iK I m x boot_enumerate (apo (bx ((ae y ah j) pos b s w H _ I h) λL J ζ=>?_) j Ų))];let[C,F,f,k,l,e,⟨G,o⟩,q]:=ζ;subst e;let[u,Ų,z]:=vals1 k;ext z;let[r,D,pl,E]:=f.Ĥ o;rwa[call_enumerate_list pl.î λB c hit t n=>Ig f (xF l _) (λ_=>rfl) c hit n q]
end
def yZ {g:TG}{h:TS}{a:St}{Q:Hp->Zb->ο}{f:η->π}{xs:Zb}(b:η->St->Hp->ο)(k:b 0 a H)(c:∀i a H,i<=@xs->b i a H->Q H xs)(m:∀i v a H p,xs[i]?\v->H p=ε->b i a H->g ?p a (WA (.Ò [.υ (f i),v])) λ e n=>h { G with nx:=b (i+ 1),ct:=b (i+ 1),bk:=G.nx } e n)(j:∀ a H,b @xs a H->G.nx a H):ub (Nc Q f) g h G a H:=vy k (λi a H d p=>{{xs,xs[i],c i a H (aqj d) p,aoe d},λx q y=>by let[r,v,l,o,Ų,Ų]:=y;rwa[m i v a H r (o xs (c i a _ (aqj d) p)) l p]}) λ a H p=>{{xs,c _ a H Ź p,2},j a H p}
section
variable {X:Cx}
def Rp {a:Í}{w:à}{A:ß}{bs:θ ã}(r:ä (bs.Κ V.bl) N):TruthOf a w A (λi v=>N.χ[i]?\v) (λi=>bs.á i ς):=by
 intro i v s Q E f j;let b:N[i]?\v:=by simpa using f
 let k:i<@N:=(aoh.mp b).1;let g:=@r;rw[aog]at g;let d:bs[i]?=ι bs[i]:=aoe ∅
 let[u,c,h]:=r.ű (i:=i) (x:=V.bl bs[i]) (by rw[aon,d];rfl);rw[b]at c;ext c;ext h;let e:bs.á i ς=bs[i]:=by rw[aom,d];rfl
 rwa[ap8 (by rw[<-e];rwa[j])]
def Rq (bs:θ ã):(θ.range @bs).all (λi=>bs.á i ς)=bs.all id:=by
 conv=>rhs;rw[<-range_getD bs ς]
 rw[θ.all_map];rfl
def afT (K:Za1):Zb->Hp->VK->ο:=λa H Q=>∃(p:Zs)(bs:θ ã),a=[?p]/\ay K H p (bs.Κ V.bl)/\Q (.bl (bs.all id)) H
def Rt {l:Za1}[g:eD X l](B:X.calm=ρ):gY X (.Ι "all") (afT l):=by
 cases g.eq;intro a s y H F G Q I r h;let[p,bs,Ų,w,q]:=h;let[u,Ų,x]:=vals1 r;ext x;let[f,j,pl,E]:=I.Ĥ w;let æ:=@j;rw[aog]at æ;let[J,d,m,C]:=id pl.î;rwa[call_all_walk ?_];rwa[ap9 pl.î ?_];let c:p≠↥s:=aoT (aoL d);rwa[↥s,11111,λi=>bs.á i ς,2,Walks.Ĥ (A:=X.A.in1) (I.ok.hd B) ↥s p c f.χ,{{_,JU Ų,22},pl.î.Ú _},Rp j,λv k t=>?_]
 let n:Inv X a y H { s with τ:=v,Æ:=k }:=I.ņ (t':=k) λb o e=>t b o (λz=>by have:=aok.mp z;subst Δ;rwa[Ρ Cl fR]) (ZY e)
 rwa[.bl (bs.all id),H,n,5,q];show Η.ħ _=Η.ħ _;rw[aoI,<-æ,Rq]
end
def Nf (K:Za1)(a b:Zs):It:={λi H=>∃xs x ys y,yY a xs/\xs[i]?\x/\ay K H b ys/\ys[i]?\y,λi H x c=>∃p v u,H p=ε/\(∀ys,yY a ys->ys[i]?\v)/\(∀ys,yY b ys->ys[i]?\u)/\x=?p/\c=ψ H p (.Ò [v,u]),λi H=>∃xs ys,yY a xs/\ay K H b ys/\(@xs<=i\/@ys<=i)}
def Kl (z TI TO c d e f:Zs)(i:η)(h:Û):ο:=IsZip h z TI TO .ε/\IsPair h TI ?c ?d/\(∃a b,IsPair h TO a b)/\h.ś c e i/\h.ś d f i
def Ca {o m:Obj}(j:h.get? b\o)(s:o.cls=.Â ż)(g:h.get? c\m)(r:m.cls=.Â ż)(st:Kl (a+ 4) (a+ 2) (a+ 3) a (a+ 1) b c i h):ZipApart (a+ 4) (a+ 2) (a+ 3) a (a+ 1) b c:=by
 let[n,q,⟨d,e,k⟩,⟨v,p,t,_⟩,⟨u,l,w,_⟩]:=st
 rwa[(λf=>by cbv),(λf=>by cbv),(λf=>by cbv),(λf=>by cbv),(λf=>by cbv),(λf=>by cbv),(λf=>by cbv),(λf=>by cbv),(λf=>by cbv),(λf=>by cbv),iM j n (by cbv),iM j k (by cbv),iM j p (by cbv),iM j l (by cbv),iM g n (by cbv),iM g k (by cbv),iM g p (by cbv),iM g l (by cbv)]
def Ru {P:Í}{w:à}{K:Za1}{elts:Zr}{x1:η}{tp:Pos}(n a b:Zs):
 Turn P w K (.ń elts x1 tp) (Nf K a b) [n+ 4,n+ 2,n+ 3,n,n+ 1] (n+ 4) (Kl (n+ 4) (n+ 2) (n+ 3) n (n+ 1) a b) where
 mem:=by simp
 obj:=λi h st c L=>by
  let[r,f,⟨V,W,g⟩,⟨p1,g1,k1,d1⟩,⟨G,g2,k2,d2⟩]:=st
  cbv
 Ï:=λi h h' st k=>by let[r,f,⟨V,W,g⟩,R,O]:=st;rwa[k _ (by simp) _ r,k _ (by simp) _ f,{V,W,k _ (by simp) _ g},R.at λo e=>k _ (by simp) o e,O.at λo e=>k _ (by simp) o e]
 item:=by
  intro X hP hw hK L i S s σ H E I Y st hg;subst hP hw hK;let[xs,x,ys,y,hq,hx,l,Z]:=hg;let[its,rv,p,hz1]:=I.Ĥ hq;let[u,hu,ru]:=rv.ű hx;let[T,t,G,hz2]:=I.Ĥ l;let[u2,y4,ru2]:=t.ű Z;let[o1,B,F,Ng]:=id p.î;let[o2,z,v,hd2]:=id G.î;let D:=Ca B F z v st;let[r,f,⟨V,W,g⟩,R,O]:=st;rwa[wpAny_pyNext_zip_item D r f g R O p.î G.î (x:=u) (y:=u2) (by simpa using hu) (by simpa using y4) λh' hz' M h1' Uw hT' hsz hk=>?_]
  erw[12];rwa[wpAny_letOwnedTupleGo_zip hz' λj N d=>?_]
  let hnz:n+ 4<↥s:=aoL r;let YL:j.get? ↥s\(ŷ>>>.seq #[u,u2]):=(d.2 _ (aqc hnz)).ν hT'
  let hkk:∀b U,b∉[n+ 4,n+ 2,n+ 3,n,n+ 1]->s•b\U->j.get? b\U:=λb U m q=>by simp only[aoC,apl,aqM,not_or]at m;rwa[(d.2 b m.1).ν (hk b U m.1 m.2.2.1 m.2.2.2.1 m.2.2.2.2 q)]
  let Nh:=I.a0.ó (aoo ↥s);let J:j.get? (n+ 2)\(ŷ>>>.seq #[?n,↑(n+ 1)]):=(d.2 _ (λC=>by cbv)).ν (hk β (λC=>by cbv) (λC=>by cbv) (λC=>by cbv) (λC=>by cbv) f);rwa[↑↥s,_,I.xQ (fp:=[n+ 4,n+ 2,n+ 3,n,n+ 1]) (a:=↥s) (o:=.Ò [x,y]) (h':=j) (t':=s.Æ) hkk Y Ź ?_,2,{_,x,y,Nh,λys Z=>[I.xD Z hq]▸hx,λzs YM=>[I.xD YM l]▸Z,22},{N,J,{11,(d.2 _ (λC=>by cbv)).ν M},h1'.at λo e=>(d.2 _ (λC=>by cbv)).ν e,Uw.at λo e=>(d.2 _ (λC=>by cbv)).ν e},λc L=>?_]
  .rwa[Za4 2,[u,u2],.È ru (.È ru2 .nil),_,YL,212]
  .rw[aq]
   .rwa[(Y c L).1]
   cbv
 done:=by
  intro X hP hw hK L i S s σ H E I Y st hg;subst hP hw hK;let[xs,ys,hq,l,amD]:=hg;let[its,rv,p,hz1]:=I.Ĥ hq;let[T,t,G,hz2]:=I.Ĥ l;let[o1,B,F,Ng]:=id p.î;let[o2,z,v,hd2]:=id G.î;let D:=Ca B F z v st;let[r,f,⟨V,W,g⟩,R,O]:=st;let hl1:=@rv;let Cb:=@t;rwa[wpAny_pyNext_zip_end (I.ok.hd L) D r f g R O p.î G.î ?_ λh' hk=>{2,I.lW (fp:=[n+ 4,n+ 2,n+ 3,n,n+ 1]) (t':=s.Æ) (λb o m q=>?_) Y}]
  .cbv
  cbv
 self:=λA i s Q E st h=>wpAny_pyIter_zip st.1 h
section
variable {X:Cx}
def afU (K:Za1)(f:TA):TI:=λ g H R=>f g H λe c=>∃a b,e=[?a,?b]/\(∃d,ay K c a d)/\(∃d,ay K c b d)/\R (Nf K a b) c
def YN {B:Za1}[o:eD X B]{a b:ę}{A:TA}{elts:Zr}{y:η}{u p pos:Pos}(N:Gl X "zip")(hm:X.mg "zip"=ε)(ha:PA X [a,b] A)(hs:Ο [a,b] X.env=(ς,å a X.env)::Ο [b] X.env)(v:((ZX (Ο [b] X.env)).any (·.1))=ς):PI X (.ń elts y u) (.ġ (.ö "zip" p) [a,b] [] pos) (afU B A):=by
 cases o.eq;intro d s D H R I h;rwa[Call_ (iK I N hm boot_zip (apo (bx (ha pos d s D H _ I h) λus s1 ζ=>?_) hs v))];let[vs,C,f,M,V]:=ζ;let[E,F,e,⟨xs,S⟩,⟨ys,z⟩,q]:=V;subst e
 cases M with
 |È r n=>
  cases n with
  |È L n=>
   ext n;ext r;ext L;let[U,rv,pl,hz]:=f.Ĥ S;let[G,Z,j,W]:=f.Ĥ z;rwa[call_zip_2 pl.î j.î λl x k t i m Y O=>?_]
   let Q:Inv X d D C (s1<*l):=f.ņ (t':=s1.Æ) O;let T:=Ru (P:=X.À) (w:=X.w) (K:=X.K) (elts:=elts) (x1:=y) (tp:=u) ↥s1 E F;let st:Kl (↥s1+ 4) (↥s1+ 2) (↥s1+ 3) ↥s1 (↥s1+ 1) E F 0 l:={x,k,{11,t},i,m};rwa[T.self _ 0 (s1<*l) β st {1111,C,2,Q,T,st,λc J=>?_,q}];simp only[aoC,apl,aqM]at J;let g:↥s1<=c:=by rcases J with rfl|rfl|rfl|rfl|rfl <;> first|rwa[η.le_add_right β]|rwa[aoo _]
   rwa[f.ua g (f.a0.ó g)]
end
def Ww {K:Za1}{xs ys:Zb}{g:TG}{o:TS}{c:St}(d:η->St->Hp->ο)(z:@xs=@ys)(w:d 0 c H)(A:∀i c H,i<=@xs->d i c H->ay K H a xs/\ay K H b ys)(D:∀i v u c H p,xs[i]?\v->ys[i]?\u->H p=ε->d i c H->g ?p c (WA (.Ò [v,u])) λ h l=>o { G with nx:=d (i+ 1),ct:=d (i+ 1),bk:=G.nx } h l)(t:∀ c H,d @xs c H->G.nx c H):
 ∃W:η->η->St->Hp->ο,(∃m,W 0 m c H)/\∀i m c H,W i m c H->
  ((Nf K a b).stop i H/\G.nx c H)\/((Nf K a b).go i H/\∃N:St->Hp->ο,(∀ f j,N f j->∃s,s<m/\W (i+ 1) s f j)/\∀x j,(Nf K a b).tm i H x j->g x c j λ h l=>o { G with nx:=N,ct:=N,bk:=G.nx } h l):=by
 rwa[λi m c H=>m=@xs - i/\i<=@xs/\d i c H,{@xs,by simp,aoN _,w},?_];rintro i m c H ⟨rfl,E,p⟩;let[q,n]:=A i c H E p;cases k:i<@xs
 .rwa[.Ç {{xs,_,ys,_,q,aoe k,n,aoe (show i<@ys by omega)},d (i+ 1),λ f j I=>{@xs - (i+ 1),32,k,I},λx j y=>?_}];let[r,v,u,B,F,C,Ų,Ų]:=y;rwa[D i v u c H r (F xs q) (C ys n) B p]
 .let e:i=@xs:=∅
  subst e;rwa[.Α {{xs,ys,q,n,.Α Ź},t c H p}]
namespace En
open AutoSeq1 (wpAny_loadPart')
def Km (l:Zs)(Ã:Zm)(n:η)(dct:Zo)(m:SZ)(k:π)(u:Tok)(q:0<=k)(j:k<1000):
 Meets (Λ.«enumerate.__new__» {[.Â ύ,?l],[(ϱ,.υ k u)]}) (λ_ R s=>s•l\{ cls:=.Â ż,ù:=dct,ê:=.seq Ã n,č:=m }/\
  R (.ok (.ret (↑(s.τ.Ú (WE>>>.Å #[?l,.υ 0 0])).õ.Υ)))
    { s with τ:=(s.τ.Ú (WE>>>.Å #[?l,.υ 0 0])).Ú (ύ>>>.Å #[.ε,.ħ ς,↑↥s,ô k,.ε,.ε]) }):=
 .of_wp λf w A R s h=>by
  let[p,g,d,o,os]:=s;let[a,h]:=h;let i:=sub_enumerate;let r:=AutoSeq1.idx_int;let b:Û.IsList (Shared.τ ⟨p,g,d,o,os⟩) l Ã:={_,a,2,n,2}
  let e:(!Builtin.ň.fitsIndex k)=ς:=by unfold Λ.ň.fitsIndex;simp;ext
  wp_walk using aq7 a
  rwa[wpAny_stack_any λst=>aor ?_]
  split
  .rename_i c _ _ _ _ _;cases (c==Η.Â ύ)
   .wp_walk using aq7 a,ap9 b
    rwa[12,h]
   .wp_walk using aq7 a,ap9 b
    rwa[12,h]
  .wp_walk using aq7 a,ap9 b
   rwa[12,h]
variable {prog:Program}{w:World}{A:Around}{E:Zt->Zu->Prop}{s:Zu}
theorem GF {Ã:Zm}{k:π}{u:Tok}(U:s.τ.IsList a Ã)(N:0<=k)(v:k<1000)(h:∀p,IsEnum p (↥s+ 1) ↥s k .ε->p.ś ↥s a 0->(∀b o,s•b\o->p.get? b\o)->Q ↑(↥s+ 1) (s<*p)):
 (À<|>w) A (Ğ (.Â ύ) [?a] [(ϱ,.υ k u)]) Q E s:=by
 let[⟨Z,dct,V,O⟩,W,j,n,t]:=U;replace j:Z=.Â ż:=j;replace t:V=.seq Ã n:=t;subst j t;let ft:=F.called_enumerate;let[c,tl,M]:=ft.mro;let z:=ft.made;let J:=ft.sub;let S:=ac1 ?a (.υ k u);let x:=ac2 ?a (.υ k u);rwa[aqB (codeAny_of_tree ?_)];show Ó β (callAny (.Â ύ) _) γ;rwa[aor {arQ _ ⋯,ard F.entry_type_call ?_}];rw[ß.under_plain (weight_type_call_type ύ [?a] [(ϱ,.υ k u)]) (units_type_call_type ύ [?a] [(ϱ,.υ k u)])];let h1:=ft.notType;let h2:=ft.canCreate
 repeat (any_goals (first|assumption|wp_step))
 rwa[aq4 (apG ft.plain F.entry_enumerate_new (aq3 x (Km a Ã n dct O k u N v À w A.in1 (wants (λobj f=>f.Ġ obj ύ/\Q obj f) E) s {W,5}))) λr f C=>?_]
 .let I:(s.τ.Ú (WE>>>.Å #[?a,.υ 0 0])).õ.Υ=↥s+ 1:=aqW ..;show _/\_;rw[I]
  let L:IsEnum ((s.τ.Ú (WE>>>.Å #[?a,.υ 0 0])).Ú (ύ>>>.Å #[.ε,.ħ ς,↑↥s,ô k,.ε,.ε])) (↥s+ 1) ↥s k .ε:=by let q:=aoD (s.τ.Ú (WE>>>.Å #[?a,.υ 0 0])) (o:=(ύ>>>.Å #[.ε,.ħ ς,↑↥s,ô k,.ε,.ε])) rfl;rw[I]at q;rwa[q]
  rwa[{_,L,2},h _ L {_,ZY (JU Ų),22} λb o y=>aol _ (ZY y)]
 cases r with
 |error e=>exact C
 |ok X=>
  cases X with
  |ret obj=>
   let[H,G]:=C;let Y:=ft.init.ω;let P:=ft.init.bind obj;let D:=ac3 obj ?a (.υ k u);let B:(λ(_:ß)(R:Result->Zu->ο)(s:Zu)=>s.Ġ obj ύ/\R (.ok (.ret .ε)) s) A.in1 (wants (λr i=>r=.ε/\Q obj i) E) f:={H,2,G};let gi:=Wr (T:=ύ) (self:=obj) (a:=?a) (kw:=[(ϱ,.υ k u)]) ft.init.ω ft.made ⋯
   repeat (any_goals (first|assumption|wp_step))
   rwa[aq4 (apG ft.init.plain F.entry_object_init (ft.init.check δ _ _ _ _ H D (gi À w A.in1 _ f B))) λm i g=>?_]
   cases m with
   |error e=>exact g
   |ok l=>
    cases l with
    |ret r=>
     let[Ų,G]:=g
     repeat (any_goals (first|assumption|wp_step))
    |_=>exact g.Ü
  |_=>exact C.Ü
end En
abbrev Ux (K:Za1) (a:Zs) (n:Int):It:=Nc (λH=>ay K H a) λi=>n+ i
section
variable {X:Cx}{tg:Expr}
def afV (K:Za1)(tl:TE):TI:=λ d H R=>tl d H λx b=>(∃a,x=?a/\(∃c,ay K b a c)/\R LA b)\/(∃a,x=?a/\(∃c,bG K b a c)/\R (HK K a) b)
def Ni {m:Za1}[j:eD X m]{l:ę}{tl:TE}(y:PE X l tl):PI X tg l (afV m tl):=by
 cases j.eq;intro f s A H R I h;rwa[bx (y f s A H _ I h) λv s1 ζ=>?_];let[x,n,c,k,t]:=ζ
 rcases t with ⟨a,e,⟨z,i⟩,q⟩|⟨a,e,⟨z,i⟩,q⟩
 .subst e;ext k;let[d,u,p,w]:=c.Ĥ i;rwa[ap9 p.î {↥s1,[↥s1],11,n,2,c.ņ (t':=s1.Æ) λb o e=>aol _ e,BH a _,{_,JU Ų,22},λb g=>?_,q}];rw[show b=↥s1 by simpa using g];rwa[c.ua Ź (c.a0.ó Ź)]
 .subst e;ext k;let[d,u,p,w]:=c.Ě i;rwa[wpAny_pyIter_tuple (show s1.τ.Ş a d.χ from p) {↥s1,[↥s1],11,n,2,c.ņ (t':=s1.Æ) λb o e=>aol _ e,yM a _,{_,JU Ų,22},λb g=>?_,q}];rw[show b=↥s1 by simpa using g];rwa[c.ua Ź (c.a0.ó Ź)]
end
def all_true (n:η)(f:η->ã)(h:∀j,f j=ρ):(~~~n).all f=ρ:=aqQ.mpr λj _=>h j
def fq (h:Û)(d:Zs)(a:Ė Ļ)(b:η):ο:=∃o,h.get? d\o/\o.ExactDict/\o.ê=.ù a b
namespace Dk
variable {prog:Program}{w:World}{A:Around}{E:Zt->Zu->Prop}{s:Zu}{d:Zs}{es:Array DictEntry}{ep:Nat}
def typ (a:WJ):s.Ġ ?d ϲ:=let ⟨o,c,b,_⟩:=a;{o,c,b.1}
theorem Ħ (g:(d==ë)=ς)(c:WJ)(f:Q ↑↥s { s with τ:=s.τ.Ú (Ϫ>>>.Å #[?d,.υ 0 0,.υ es.Υ 0,.υ ep 0]) }):(À<|>w) A (pyIter ?d) Q E s:=by let b:=typ c;let[o,e,h,a]:=c;rwa[ŋ b F.slot_dict_iter (apB F.slot_dict_iter b F.entry_dict_iter ?_ (F.args_dict_iter_1 _))];unfold Λ.«dict.__iter__»;rwa[aof ?_];unfold Λ.Dict.dictSlotNone;rwa[aof (arf b ?_)];show Ó β (Č (Η.É d)) β s;rwa[aor ?_];show Ó β (Λ.Dict.showsAll d >>=_) β s;unfold Λ.Dict.showsAll;rw[aoK (by cbv)];rwa[aof (aor (aof (arl e a (aof (wpAny_dictEpoch e a ?_)))))];rwa[aof (ape (aor {12,Ϫ,_,{_,JU Ų,2},aq1.ω,by simpa [ô] using f}))]
theorem next {it:Zs}{Q:Zl->Zu->ο}(n:A.ą=ε)(hit:s.τ.IsKeyIter it d i es.Υ ep)(p:WJ)(l:∀en g,es[i]?\en->g.IsKeyIter it d (i+ 1) es.Υ ep->Û.ė it s.τ g->Q (ι en.key) (s<*g))(r:∀g,es[i]?=ε->Û.ExtBut it s.τ g->Q ε (s<*g)):(À<|>w) A (Ņ ?it) Q E s:=by
 let[o,h,t,c]:=id hit;let[u,f,q,e]:=id p;unfold Ņ;rwa[aof (aqv (apt (û:=Ñ.Ţ ZR) hit.Ý aq1 (apB aq1 hit.Ý F.entry_dict_keyiterator_next ?_ (F.args_dict_keyiterator_next_1 _))))];rwa[aof (aor (aof (aof ?_)))]
 first|rwa[aof (wpAny_typeNameOfWhole_keyiter hit.Ý (aor ?_))]|rwa[aof (wpAny_typeNameOf_keyiter hit.Ý (aor ?_))]
 rwa[aof (wpAny_fieldsOf h c ?_)];let own:Λ.Dict_items.ownsTuple Ϫ=ς:=⋯
 simp only[own,ã.false_eq_true,ar3];show Ó β (if (Η.É d==Η.ε)=ρ then _ else _) β s;rw[aoK (show ¬((Η.É d==Η.ε)=ρ) from ao7)];rwa[aof (aor (aof (arl f e ?_)))];rw[aoK (by simp)];rwa[aof (aor (aof (wpAny_dictEpoch f e ?_)))];rw[aoK (by simp)];rwa[aor ?_];rcases j:es[i]? with _|en <;> simp only[show ¬((i:π)<0) from by ext,ar3,ao8,j]
 all_goals
  rwa[aof ?_]
  first|rwa[aof (wpAny_typeNameOfWhole_keyiter hit.Ý (aor ?_))]|rwa[aof (wpAny_typeNameOf_keyiter hit.Ý (aor ?_))]
 .show Ó β (setField ?it 0 .ε >>=_) β s;rwa[aof (ap6 h c (by simp) ?_)];show Ó β (newExc (.Â ZG) [] >>=_) γ;rwa[aof ?_];simp only[newExc,newTuple];rwa[aof (ape ?_ (by size_fits))];rwa[aof (m:=Ĕ β) (aq3 (a:=Η.ε) (by first|rfl|(simp only[Ĕ];rfl)) ?_)];rwa[ape ?_ (by size_fits)];simp only[raiseNew];rwa[aof (wpAny_handled ?_)];rw[show A.in1.ą=ε from n];rwa[aof (aor (wpAny_throw ?_))];rwa[aof (wpAny_isInstance (T:=ZG) (b:=ρ) {_,JU Ų,2} isSubtype_stop ?_)];rwa[aor (r _ j (((apw ..).Ą.Ú _).Ú _))]
 .rwa[aof (wpAny_isOneOf_keyiter hit.Ý ?_)];show Ó β (setField ?it 1 (ô ((i:π)+ 1)) >>=_) β s;rwa[aof (ap6 h c (by simp) ?_)]
  let k:(s.τ.Ľ it (Obj.ĩ (·.é 1 (ô ((i:π)+ 1))))).IsKeyIter it d (i+ 1) es.Υ ep:={_,ao5 _ h (ap1 (apu c _)),(arj ..).ν t,by rw[apu c];simp[ô]}
  rwa[aof (aps ?_)];rwa[aof (wpAny_isOneOf_keyiter (s:={ s with τ:=s.τ.Ľ it (Obj.ĩ (·.é 1 (ô ((i:π)+ 1)))) }) k.Ý ?_)];show Ó β (Č (Ļ.key _)) γ;rwa[aor (aor {12,aor (l β j k (apw ..))})]
def fq.at (x:fq h d es ep)(e:∀o,h.get? d\o->g.get? d\o):fq g d es ep:=let ⟨o,a,r⟩:=x;{o,e _ a,r}
def walks (m:A.ą=ε)(I:Zs)(k:d≠I):Walks À w A I [I,d] [I] es.Υ (λi v=>∃c,es[i]?\c/\v=c.key) (λi h=>h.IsKeyIter I d i es.Υ ep/\fq h d es ep) where
 sub:=λb j=>by cbv
 frame:=λ_ _ _ st l=>{st.1.at λo e=>l I (by simp) o e,fq.at st.2 λo e=>l d (by simp) o e}
 item:=λi s Q E q st a=>next m st.1 st.2 (λc g e n f=>a _ g s.Æ {c,e,2} {n,fq.at st.2 λo e=>f.Ą β k e} λb o j e=>f.Ą b o (λh=>j (by simp[h])) e) λg e=>by simp[q]at e
 done:=λs Q E st a=>next m st.1 st.2 (λc g e=>by simp at e) λp _ f=>a p s.Æ λb o j e=>f b o (λh=>j (by simp[h])) e
 self:=λ_ _ _ _ st a=>wpAny_pyIter_keyiter st.1 a
theorem hint {Q:ã->Zu->ο}(e:WJ)(h:Q ς s):(À<|>w) A (Λ.θ.listLengthHint ?d) Q E s:=by
 unfold Λ.θ.listLengthHint;rwa[aof (wpAny_specialOf (typ e) F.slot_dict_len.ω ?_)];generalize c:("dict.__len__":Ĝ)=f
 wp_delta
 rw[show splitId f=ι (ϲ,"__len__") from by subst c;decide];subst c;rwa[aof (wpAny_isInstance (T:=ϲ) (b:=ρ) (typ e) (by rw[arw];kernel_rfl) ?_)];rwa[wpAny_ite_split (λa=>Ρ a ⋯) (λ_=>?_)];rwa[wpAny_ite_split (λ_=>?_) (λa=>Ρ ⋯ a)];rwa[aof (aq5 (T:=ϲ) (typ e) (aor h))]
theorem extend {R:Result->Zu->ο}(X:A.ą=ε)(O:(d==ë)=ς)(y:WJ)(æ:es.Υ<=Ε)(S:Zs)(res:Zt)(n:η)(N:s•S\(ż>>>.seq #[] n))(Z:∀g1 Q c m,(∀b o,b≠S->s•b\o->g1.get? b\o)->g1.get? S\{ cls:=.Â ż,ù:=ε,ê:=.seq c m,č:=#[] }->ItemsOf (λi v=>∃M,es[i]?\M/\v=M.key) c es.Υ->R (.ok (.ret res)) { s with τ:=g1,Æ:=Q }):
 (À<|>w) A.in1 (Λ.θ.ō ?S ?d res)
  (λfin g=>match fin with|.done f=>R (.ok f) g|.again m=>m.quiet=ρ/\codeAny Ϥ A m R g) (λe g=>R (.error e) g) s:=by
 let l:S≠d:=λe=>by
  let[o,L,hc,J]:=y
  cbv
 let H:d<↥s:=by let[o,L,_]:=y;rwa[aoL L]
 let z:S≠↥s:=aoT (aoL N);let I:d≠↥s:=aoT H;unfold Λ.θ.ō;rwa[aof (aq5 (T:=ϲ) (typ y) ?_)];let U:Λ.θ.listSameRef ?S ?d=ς:=by simp[Λ.θ.listSameRef,l]
 let P:(Η.Â ϲ==Η.Â ż)=ς:=⋯
 let Y:(Η.Â ϲ==Η.Â ŷ)=ς:=⋯
 simp only[U,P,Y,ã.or_false,ã.false_eq_true,ar3];rwa[aof (Ħ O y ?_)];let j:fq (s.τ.Ú (Ϫ>>>.Å #[?d,.υ 0 0,.υ es.Υ 0,.υ ep 0])) d es ep:=fq.at y λo e=>aol _ e
 rwa[aof (aps (hint (s:={ s with τ:=s.τ.Ú (Ϫ>>>.Å #[?d,.υ 0 0,.υ es.Υ 0,.υ ep 0]) }) j ?_))];let k:=aol (Ϫ>>>.Å #[?d,.υ 0 0,.υ es.Υ 0,.υ ep 0]) N;let r:(s.τ.Ú (Ϫ>>>.Å #[?d,.υ 0 0,.υ es.Υ 0,.υ ep 0])).IsKeyIter ↥s d 0 es.Υ ep:={_,JU Ų,22};let kp:∀b o,s•b\o->(s.τ.Ú (Ϫ>>>.Å #[?d,.υ 0 0,.υ es.Υ 0,.υ ep 0])).get? b\o:=λb o e=>aol _ e
 change s.τ.Ú (Ϫ>>>.Å #[?d,.υ 0 0,.υ es.Υ 0,.υ ep 0])=x at k r kp j ⊢;rwa[wpAny_ite_split (λ_=>?_) (λB=>Ρ ⋯ B)];rwa[aof (arC ?_)];rwa[aof ?_];show Ó β (updateSeq S (·.Ú .ε) >>=λ_=>updateSeq S (·.pop)) _ _ _;rwa[aof (aqD k Ų ?_)];let t:=ao5 (Obj.Ŭ (·.Ú Η.ε)) k rfl;rwa[aqD (hz:=by seq_fits) t Ų ?_];let G:=ao5 (Obj.Ŭ (·.pop)) t rfl;let h:∀b o,b≠S->x.get? b\o->((x.Ľ S (Obj.Ŭ (·.Ú Η.ε))).Ľ S (Obj.Ŭ (·.pop))).get? b\o:=λb o p e=>(apj^apE p).ν ((apj^apE p).ν e)
 let W:=(walks (À:=À) (w:=w) (A:=A.in1) (d:=d) (es:=es) (ep:=ep) X ↥s I).toS
 let C:S∉[↥s,d]:=λa=>by
  rcases aoC.mp a with e|a
  .rwa[z e]
  .rwa[l (aok.mp a)]
 rwa[aor {arn F.plain_extend_loop _,?_}];rwa[codeAny_extend_loopS W æ S C res es.Υ 0 _ #[] _ Ų (aoN _) {r.at λo e=>h _ o (apE z) e,fq.at j λo e=>h _ o (apE l) e} G (ItemsOf.nil _) λg c m q D u=>?_]
 rw[Moved.eq_with q];rwa[Z g.τ g.Æ c m (λb o p e=>q.τ b o (λa=>?_) (h b o p (kp b o e))) D u];rcases aoC.mp a with V|a
 .rwa[p V]
 .rwa[Ρ Cl (by rw[aok.mp a];rwa[ap7 _])]
def Nj {Q:Fin->Zu->ο}(g:s•a\(ż>>>.seq #[]))(h:∀f c,f.get? a\(ż>>>.seq #[] c)->(∀b o,b≠a->s•b\o->f.get? b\o)->(À<|>w) A (Λ.θ.ō ?a v .ε) Q E (s<*f)):(À<|>w) A (Λ.«list.__init__» ⟨[?a,v],[]⟩) Q E s:=by show Ó β (do let old <-Λ.θ.listItems ?a;Λ.θ.listUpdate ?a (λ_=>#[]);letGo old.Ć.ķ;Λ.θ.ō ?a v .ε) _ _ s;rwa[aof ?_];unfold Λ.θ.listItems;rwa[aof (arv g Ų (aor ?_))];show Ó β (updateSeq a (λ_=>#[]) >>=λ_=>letGo (#[]:Zm).Ć.ķ >>=λ_=>Λ.θ.ō ?a v .ε) _ _ s;rwa[aof (aqD g Ų (aof (arW (h β (ao5 (Obj.Ŭ (λ_=>(#[]:Zm))) g Ų) λb o i e=>(apj^apE i).ν e))))]
def init {R:Result->Zu->ο}(B:A.ą=ε)(x:(d==ë)=ς)(u:WJ)(æ:es.Υ<=Ε)(S:Zs)(C:s•S\(ż>>>.seq #[]))(D:∀g1 l a g,(∀b o,b≠S->s•b\o->g1.get? b\o)->g1.get? S\{ cls:=.Â ż,ù:=ε,ê:=.seq a g,č:=#[] }->ItemsOf (λi v=>∃t,es[i]?\t/\v=t.key) a es.Υ->R (.ok (.ret .ε)) { s with τ:=g1,Æ:=l }):
 (À<|>w) A.in1 (Λ.«list.__init__» ⟨[?S,?d],[]⟩)
  (λfin k=>match fin with|.done f=>R (.ok f) k|.again g=>g.quiet=ρ/\codeAny Ϥ A g R k) (λe k=>R (.error e) k) s:=by
 let p:d≠S:=λe=>by
  let[o,F,G,q]:=u
  cbv
 rwa[Nj C λz c m h=>extend (s:=(s<*z)) B x (fq.at u λo e=>h _ o p e) æ S .ε _ m λg1 l a g y n j=>D g1 l a g (λb o r e=>y b o r (h b o r e)) n j]
theorem Nk (t:A.ą=ε)(p:(d==ë)=ς)(u:WJ)(æ:es.Υ<=Ε)(q:∀g1 j a h,(∀b o,s•b\o->g1.get? b\o)->g1.get? ↥s\{ cls:=.Â ż,ù:=ε,ê:=.seq a h,č:=#[] }->ItemsOf (λi v=>∃l,es[i]?\l/\v=l.key) a es.Υ->Q ↑↥s { s with τ:=g1,Æ:=j }):
 (À<|>w) A (Ğ (.Â ż) [?d]) Q E s:=by
 rwa[callType_codes (Q₁:=λobj c=>obj=↑↥s/\c={ s with τ:=s.τ.Ú (ż>>>.seq #[]) }) F.called_list (F.typeCall_list_1 _) F.entry_list_init (code_list_new _ {22}) λobj c f=>?_]
 let[Ų,Ų]:=f;let n:(s.τ.Ú (ż>>>.seq #[])).get? ↥s\(ż>>>.seq #[]):=aoD _ rfl;rwa[{_,n,2},F.args_list_init_2 β,init (A:=A.in1) (s:={ s with τ:=s.τ.Ú (ż>>>.seq #[]) }) t p (fq.at u λo e=>aol _ e) æ _ n λg1 j a h r k g=>?_];rwa[2,q g1 j a h (λb o e=>r b o (aoT Cl) (ZY e)) k g]
end Dk
structure į (K:Za1)(C:Zs)(x q:Ñ)(st:ŕ)(ps:Zp)(f:Zs)(fd:Ζ):ο where
 F:yU K x q st f fd
 m:Meth K C x f
 b:Ű K fd ps []
def uk:Zg->π
 |[]=>0
 |z::r=>r.ă (λm x=>if x > m then x else m) z
def Ep (h:l≠[]):uk (l++[z])=if z > uk l then z else uk l:=by
 cases l with
 |nil=>exact Ρ Ų h
 |È y r=>show (r++[z]).ă (λm x=>if x > m then x else m) y=_;rw[aqk];rfl
section
variable {prog:Program}{w:World}{A:Around}{E:Zt->Zu->Prop}
theorem Nm {R:Result->Zu->ο}{it:Zs}{ns:Zg}(hh:A.in1.ą=ε)(hv:ä AS N)(X:a≠it)(U:b≠it)(n2:b≠a):
 ∀(k i:η)(s:Zu)(old:Zm)(c:η),@N - i=k->i<=@N->s.τ.ś it a i->s.τ.IsList a N.χ->s•b\{ cls:=.Â ż,ù:=ε,ê:=.seq old c,č:=#[] }->
 ((i=0/\old=#[])\/(0<i/\∃t,old=#[.υ (uk (ns.Χ i)) t,.υ (uk (ns.Χ i)) t]))->
 (∀f C T,(ns=[]/\f=v\/ns≠[]/\∃t,f=.υ (uk ns) t)->(∀h o,h≠b->h≠it->s•h\o->C.get? h\o)->R (.ok (.ret f)) { s with τ:=C,Æ:=T })->
 codeAny Ϥ A (.Ι "max.loop" {[?it,.ε,?b],[(Z6,v)]}) R s:=by
 let O:@ns=@N:=by have:=@hv;rw[aF]at Δ;rwa[Δ]
 let W:=Walks.Ĥ (À:=À) (w:=w) (A:=A.in1) hh it a X N.χ;let nm:(toString NE++toString ".loop":Ĝ)="max.loop":=⋯
 let l:∀h:Zs,h≠it->h∉[it]:=λh y z=>y (aok.mp z)
 intro k
 induction k with
 |Ŀ=>
  intro i s old c hk m hit Z y hold J;let ei:i=@N:=∅
  rwa[ard F.entry_max_loop ?_];rw[ars aqR _];show Ó _ A.in1 (seqItems? ?b >>=_) β s;rwa[aof (arv y Ų ?_)];show Ó _ A.in1 (tryCatch (Ņ ?it) _ >>=_) β s;rwa[aof (wpAny_tryCatch (W.done s β {by cbv,Z} λC T kp=>?_))];let j:=kp b _ (l _ U) y;rcases hold with ⟨S,rfl⟩|⟨S,t,rfl⟩
  .let I:ns=[]:=aqg (by omega);show Ó _ A.in1 (rule _ >>=_) γ;rwa[aof (arC ?_)];rwa[aor (J v C T (.Α {I,2}) λh o _ m e=>kp h o (l _ m) e)]
  .let I:ns≠[]:=λz=>by rw[z]at O;simp at O;ext
   show Ó _ A.in1 (updateSeq b (λ_=>#[]) >>=_) _ _ _;rwa[aof (aqD j Ų (aof (arW (aor ?_))))];rw[apq ∅];rwa[J γ (.Ç {I,t,2}) λh o d m e=>(apj^apE d).ν BY]
 |ŧ k ih=>
  intro i s old c hk m hit Z y hold J;let wV:i<@N:=∅
  rwa[ard F.entry_max_loop ?_];rw[ars aqR _];show Ó _ A.in1 (seqItems? ?b >>=_) β s;rwa[aof (arv y Ų ?_)];show Ó _ A.in1 (tryCatch (Ņ ?it) _ >>=_) β s;rwa[aof (wpAny_tryCatch (No ∅ {hit,Z} λf C T hP Y kp=>?_))];let[p,B]:=Y;let j:=kp b _ (l _ U) y;let G:ns[i]?\(ns[i]'∅):=aoe ∅
  change ns[i]'∅=z at G;let[u,hu,ru]:=hv.ű (i:=i) (x:=V.υ z) (bR G);let P:N[i]?\f:=by simpa using hP
  rw[hu]at P;let euv:u=f:=Za0 P;subst euv;let[r,Ų]:=ru;let D:ns.Χ (i+ 1)=ns.Χ i++[z]:=by rw[ao2,G];rfl
  let H:∀(g:Zm->Zm)(h:Zs)(o:Obj),h≠b->C.get? h\o->(C.Ľ b (Obj.Ŭ g)).get? h\o:=λg h o d e=>(apj^apE d).ν e
  rcases hold with ⟨S,rfl⟩|⟨S,t,rfl⟩
  .subst S;show Ó _ A.in1 (updateSeq b (λ_=>#[.υ z r,.υ z r]) >>=_) _ _ _;rwa[aof (aqD j Ų ?_)];rw[nm];rwa[aor {arn aqR _,ih 1 γ ∅ ∅ (p.at λo e=>H γ (apE U) e) (B.at λo e=>H γ (apE n2) e) (ao5 _ j Ų) (.Ç {4,r,5}) λf L n Q q=>J f L n Q λh o d m e=>q h o d m (H γ d BY)}];rw[D];rfl
  .let I:ns.Χ i≠[]:=λz=>by have:=apW θ.ü z;rw[aoX,aoV]at Δ;ext
   generalize hM:uk (ns.Χ i)=M at y;show Ó _ A.in1 (tryCatch (holding [.υ z r,.υ z r] (richCompare .Gt (.υ z r) (.υ _ t) >>=_)) _ >>=_) γ;rwa[aof (wpAny_tryCatch (aps (aof (richCompare_gives (op:=.Gt) (Ř^r) (Ř^t) F.slot_int_gt F.entry_int_gt (F.args_int_gt_2 β) (gives_int_gt β r t) (λx=>nomatch x) ?_))))];rwa[aof (aps (ap8 ?_))];rwa[aof (arW (aor ?_))]
   cases hc:decide (z > M) with
   |ρ=>simp only[arV];rwa[aof (aqD j Ų (aof (arW ?_)))];rw[nm];rwa[aor {arn aqR _,ih (i+ 1) γ ∅ ∅ (p.at λo e=>H γ (apE U) e) (B.at λo e=>H γ (apE n2) e) (ao5 _ j Ų) (.Ç {3,r,5}) λf L n Q q=>J f L n Q λh o d m e=>q h o d m (H γ d BY)}];rw[D,Ep I,hM,aoO (aoS hc)]
   |ς=>simp only[ã.false_eq_true,ar3];rwa[aof (arW ?_)];rw[nm];rwa[aor {arn aqR _,ih (i+ 1) γ ∅ ∅ p B j (.Ç {3,t,5}) λf L n Q q=>J f L n Q λh o d m e=>q h o d m BY}];rw[D,Ep I,hM,aoK (of_decide_eq_false hc)]
def Rx (a d:Zt):checkBuiltinCall NE {[a],[(Z6,d)]}=Č ():=by kernel_rfl
theorem Nn (q:A.ą=ε)(r:ä (aw l) N)(k:s.τ.IsList a N.χ)(n:∀c d h,(l=[]/\c=v\/l≠[]/\∃t,c=.υ (uk l) t)->(∀b o,s•b\o->d.get? b\o)->Q c { s with τ:=d,Æ:=h }):
 (À<|>w) A (Ğ (.Ι NE) [?a] [(Z6,v)]) Q E s:=by
 let nm:(toString NE++toString ".loop":Ĝ)="max.loop":=⋯
 rwa[aqB (apG F.plain_max F.entry_max (aq3 (Rx β) ?_))];show Ó _ A.in1 (Λ.Builtins.bindParams NE ["key",Z6] 0 {[],[(Z6,v)]} >>=_) β s;rwa[aof (aq3 (show Λ.Builtins.bindParams NE ["key",Z6] 0 {[],[(Z6,v)]}=Č [ε,ι v] from rfl) ?_)];rwa[aof (aor (aof (ap9 k ?_)))];let[x,g,m,u]:=id k;rwa[aof (ape ?_)];let f:=aoL g;let j:(s.τ.Ú (WE>>>.Å #[?a,.υ 0 0])).õ.Υ=↥s+ 1:=aqW ..;let i:∀(b:Zs)(o:Obj),s•b\o->((s.τ.Ú (WE>>>.Å #[?a,.υ 0 0])).Ú (ż>>>.seq ([]:Zk).χ)).get? b\o:=λb o e=>aol _ (ZY e)
 rw[nm];rwa[aor {arn aqR _,Nm (A:=A) q r (aoT f) (by cbv) (by cbv) _ 0 _ #[] 0 Ų (aoN _) {_,ZY (JU Ų),22} ((k.Ú _).Ú _) (JU Ų) (.Α {22}) λc d h p kp=>?_}];rwa[n c d h p λb o e=>kp b o (aoT (by show b<(s.τ.Ú (WE>>>.Å #[?a,.υ 0 0])).õ.Υ;rw[j];rwa[apQ Cl])) (aoT Cl) (i b o e)]
end
section
variable {X:Cx}
def ac4 (K:Za1)(d:TA):TE:=λ e H Q=>d e H λc a=>∃(l:Zs)(b:Zg),c=[?l]/\ay K a l (aw b)/\Q (.υ (uk b)) a
def Wx {k:Za1}[e:eD X k]{a:ę}{m:TE}{p pos kp g:Pos}{j:η}(T:X.calm=ρ)(z:Gl X NE)(N:X.mg NE=ε)(R:PE X a m)(o:Ο [a] X.env=(ς,å a X.env)::Ο [] X.env)(c:((ZX (Ο [a] X.env)).any (·.1) || (wT (ď [⟨ι Z6,.œ (.υ 0) j g,kp⟩] X.env)).any (·.1.isNone))=ς):
 PE X (.ġ (.ö NE p) [a] [{ι Z6,.œ (.υ 0) j g,kp}] pos) (ac4 k (vC m uc)):=by
 cases e.eq;intro b s w H Q I h;rwa[apI (iK I z N ÿ.Rows.boot_max ?_)];rwa[Γ.W.callWith_of (P:=λ_=>þ) c (λ_ _=>{.machine,.Ç (.Α Ų),λ_ _ _ _ _ q=>aor q}) (evalArgs_kw2 Ų (bx ((ae R ah o) pos b s w H _ I h) λus L ζ=>?_) o)];let[W,n,A,r,q]:=ζ;rwa[bx ((HQ ak Mw:PK X [{ι Z6,.œ (.υ 0) j g,kp}] _) pos b L w n (λi f=>i=[.υ 0]/\f=n) A {22}) λZ D ζ=>?_];let[i,f,d,M,O,F]:=ζ;rwa[þ.intro,5]
 subst O F;let[l,y,Ų,C,q]:=q;let[u,Ų,S]:=vals1 r;ext S;let[Y,Ų,x,Ų]:=vals1 M;let[E,G,pl,hz]:=d.Ĥ C;show Ó β (Ğ (.Ι NE) [?l] [(Z6,.υ 0 x)]) β D;rwa[Nn (d.ok.hd T) G pl.î λv V B J kp=>{.υ (uk y),f,d.ņ (t':=B) kp,5,q}]
 rcases J with ⟨rfl,rfl⟩|⟨_,t,rfl⟩
 .rwa[_,Ų]
 .rwa[_,Ų]
end
def Np:typeLookup (.Â ż) "keys"=Č ε:=by rw[arN,aqu];kernel_rfl
theorem Rz {i:Í}{w:à}{A:ß}{n:Zm}{k:η}{Q:Zl->Zu->ο}(p:s•a\(ż>>>.seq n k))(q:A.ą=ε)(h:∀j l,(∀b o,s•b\o->j.get? b\o)->Q ε { s with τ:=j,Æ:=l }):
 (i<|>w) A (getAttr? ?a "keys") Q E s:=by
 let[r,g,d,l,os]:=s;let m:∀f,(⟨r,g,d,f,os⟩:Zu).Ġ ?a ż:=λ_=>{_,p,2}
 let u:=sub_AttributeError;let B:=F.slot_list_getattribute.ω;let y:=F.slot_list_getattribute.bind ?a;let x:=am_list_getattr_none;unfold getAttr? getAttrBy? getAttrBy
 repeat (any_goals (first|assumption|rwa[m _]|((with_reducible show Ó β (Ğ (Η.Ι "list.__getattribute__") β) γ);rwa[ark F.slot_list_getattribute (m _) am_entry_list_getattribute (F.args_list_getattribute_2 β) (meets_getattribute_miss_list a n k #[] "keys" _ Np (by decide) (by decide)) {p,q,λj f e c=>?_}])|wp_step))
 let[t,v,z]:=c.there;show Ó β (getattributeRaised δ _ _ _) γ;unfold getattributeRaised
 repeat (any_goals (first|assumption|wp_step))
 rwa[h^c.Į]
def qX:entryFor table PM=ι Λ.«dict.update.loop»:=entryFor_of_fast (by kernel_rfl)
def jB:plainId PM=ρ:=⋯
section
variable {prog:Program} {w:World} {K:Type} [DecidableEq K] {knd:KeyKind prog w K} {A:Around} {E:Zt->Zu->Prop}
def Kn {R:Result->Zu->ο}{it l:Zs}{its:Zk}{rs:θ (K×Zt)}(hh:A.in1.ą=ε)(N:l≠it)(t:d≠it)(O:d≠l)(æ:@its=@rs)(hsz:@rs<=Ε):
 ∀(k i:η)(s:Zu),@its - i=k->i<=@its->s.τ.ś it l i->s.τ.IsList l its.χ->s.τ.ů knd d (merged [] (rs.Χ i))->
 (∀(j:η)(u:Zt)(m:K×Zt),its[j]?\u->rs[j]?\m->∃p a,u=?p/\p≠d/\p≠it/\knd.is m.1 a=ρ/\ŗ s.τ p #[a,m.2])->
 (∀h J,h.ů knd d (merged [] rs)->(∀b o,b≠d->b≠it->s•b\o->h.get? b\o)->R (.ok (.ret .ε)) { s with τ:=h,Æ:=J })->
 codeAny Ϥ A (.Ι PM {[?d,?it,ô (i:π),.ε],[]}) R s:=by
 let W:=Walks.Ĥ (À:=À) (w:=w) (A:=A.in1) hh it l N its.χ;let c:∀b:Zs,b≠it->b∉[it]:=λb f z=>f (aok.mp z)
 intro k
 induction k with
 |Ŀ=>
  intro i s hk L hit hl H Y hR;let ei:i=@its:=∅
  rwa[ard qX ?_];rw[ars jB _];show Ó _ A.in1 (Ņ ?it >>=_) β s;rwa[aof (W.done s β {by cbv,hl} λh J kp=>?_)];show Ó _ A.in1 (Λ.Dict.addKeywords d [] >>=_) γ;rwa[aof (aor (aor ?_))];rw[apq ∅]at H;let[od,x1,x2,D,q]:=id H;rwa[hR h J {od,x1,x2,kp β (c _ t) D,q} λb o _ f e=>kp b o (c _ f) e]
 |ŧ k ih=>
  intro i s hk L hit hl H Y hR;let wV:i<@its:=∅
  rwa[ard qX ?_];rw[ars jB _];show Ó _ A.in1 (Ņ ?it >>=_) β s;rwa[aof (No ∅ {hit,hl} λv h J hP P kp=>?_)];let[B,Q]:=P;let Z:its[i]?\v:=by simpa using hP
  let x:rs[i]?\(rs[i]'∅):=aoe ∅
  change rs[i]'∅=m at x;let[p,a,Ų,pd,pi,C,o,ho,hc,n,y]:=Y i v m Z x;let F:=kp β (c _ pi) ho;let V:rs.Χ (i+ 1)=rs.Χ i++[m]:=by rw[ao2,x];rfl
  let M:h.ů knd d (merged [] (rs.Χ i)):=by let[od,x1,x2,D,q]:=id H;rwa[od,x1,x2,kp β (c _ t) D,q]
  let hml:=merged_length_le ([]:θ (K×Zt)) (rs.Χ i)
  let G:@(merged [] (rs.Χ i))<=Ε:=by rw[aoX,aoV]at hml;ext
  show Ó _ A.in1 (holding [Η.É p] _ >>=_) γ;rwa[aof (aps ?_)];rwa[aof (wpAny_tryCatch ?_)];show Ó _ A.in1 (typeOf (Η.É p) >>=_) γ;rwa[aof (aq5 (T:=ŷ) {o,F,hc} ?_)];rw[aoO ⋯];rwa[aof (arv F y ?_)];rwa[aor ?_];show Ó _ A.in1 (holding [a,m.2] (dictSet d a m.2)) γ;rwa[aps (wpAny_dictSet_pairs C M (λg S sb=>?_) G)];let I:∀b o,b≠d->h.get? b\o->g.get? b\o:=λb o f e=>(sb.2 b f).ν e
  rwa[aor {arn jB _,5}];let r:ô ((i:π)+ 1)=ô (((i+ 1:η)):π):=rfl;rw[r];rwa[ih (i+ 1) _ ∅ ∅ (B.at λo e=>I β (apE t) e) (Q.at λo e=>I β (apE O) e) ?_ ?_ ?_]
  .rw[V,merged,aqk];rwa[S]
  .intro j u kv2 D q;let[p,a,Ų,a1,a2,a3,o,b1,b2]:=Y j u kv2 D q;rwa[p,a,2,a1,a2,a3,o,I β a1 (kp β (c _ a2) b1),b2]
  .intro q U Uy X;rwa[hR q U Uy λb o f L e=>X b o f L (I β f (kp β (c _ L) e))]
theorem A0 {rs:θ (K×Zt)}(J:A.ą=ε)(æ:@N=@rs)(B:@rs<=Ε)(I:s•a\(ż>>>.seq N.χ n))(S:∀(j:η) (u:Zt) (r:K×Zt),N[j]?\u->rs[j]?\r->∃p d,u=?p/\knd.is r.1 d=ρ/\ŗ s.τ p #[d,r.2])(P:∀m H,m.ů knd ↥s (merged [] rs)->(∀b o,s•b\o->m.get? b\o)->Q ↑↥s { s with τ:=m,Æ:=H }):
 (À<|>w) A (Ğ (.Â ϲ) [?a]) Q E s:=by
 rwa[callType_codes (Q₁:=λobj f=>obj=↑↥s/\f={ s with τ:=s.τ.Ú (ϲ>>>.ù #[]) }) F.kt_called_dict (F.kt_typeCall_dict_1 _) F.entry_dict_init (kt_code_dict_new _ {22}) ?_];rintro obj f ⟨rfl,rfl⟩;let c:(s.τ.Ú (ϲ>>>.ù #[])).ů knd ↥s []:=Û.ů.new s.τ;let h:(s.τ.Ú (ϲ>>>.ù #[])).get? a\(ż>>>.seq N.χ n):=aol _ I;let t:=aoL I;erw[c.Ý,F.args_dict_init_2 β];unfold Λ.«dict.__init__»;rwa[aof ?_];unfold Λ.Dict.selfAndRest;rwa[aof (arf c.Ý ?_)];show Ó β (Č (↥s,[Η.É a])) γ;rwa[aor ?_];show Ó β (Λ.Dict.updateFrom "dict.__init__" ↥s ?a [] .ε) γ;unfold Λ.Dict.updateFrom;rwa[aof (aq5 (T:=ż) {_,h,2} ?_)];rw[aoO ⋯];rwa[aof (Rz h J λg H kp=>?_)];rw[aoO ⋯];rwa[aof (arC ?_)];let i:=kp^h;rwa[aof (ap9 (Ã:=N.χ) {_,i,2,n,2} ?_)]
 let k:↥s<g.õ.Υ:=by let[O,_,_,q,_]:=id c;rwa[aoL (kp^q)]
 let z:=aoL i;let M:∀b o,s•b\o->(g.Ú (WE>>>.Å #[?a,.υ 0 0])).get? b\o:=λb o e=>aol _ (kp^aol _ e)
 rwa[aor {arn jB _,Kn (knd:=knd) (A:=A.in1) (rs:=rs) (its:=N) (l:=a) (it:=g.õ.Υ) J (aoT z) (aoT k) (aqc t) æ B @N 0 _ Ų (aoN _) ?_ {_,ZY i,2,n,2} ?_ ?_ ?_}]
 .rwa[_,JU Ų,22]
 .let[O,W,V,q,v]:=id c;rwa[O,W,V,ZY (kp^q),v]
 .intro j u r q v;let[p,d,Ų,R,o,D,U]:=S j u r q v;let l:=aoL D;rwa[p,d,2,aoT l,aoT (aq9 l k),R,o,M^D,U]
 .intro m x C y;rwa[2,P m x C λb o e=>?_];let G:=aoL e;rwa[y b o (aoT G) (aoT (aq9 G k)) (M^e)]
end
section
variable {X:Cx}
inductive Nq (xs:Zb)(H:Hp)(Q:VK):ο
 |mk (l:Zs)(ps:Zn)(kvs:θ (Key×V)):xs=[?l]->H l\.Ν (ps.Κ V.É)->@ps=@kvs->(∀(i:η)(p:Zs)(kv:Key×V),ps[i]?\p->kvs[i]?\kv->H p\.Ò [kV kv.1,kv.2])->(∀d,H d=ε->Q ?d (OP (.dK (jW [] kvs))))->Nq xs H Q
def RB {P:Í}{w:à}(ok:ϸ):∀(c:Zn)(a:θ (Key×V)),@c=@a->(∀(i:η)(p:Zs)(b:Key×V),c[i]?\p->a[i]?\b->H p\.Ò [kV b.1,b.2])->
 ∃k:θ (Key×Zt),KV a k/\∀(j:η)(p:Zs)(b:Key×Zt),c[j]?\p->k[j]?\b->∃e,(cq P w).is b.1 e=ρ/\ŗ h p #[e,b.2]:=by
 intro c
 induction c with
 |nil=>exact λa l _=>by cases a with|nil=>exact{[],.nil,λj p b d=>by simp at d}|È=>ext l
 |È p c y=>
  intro a l n
  cases a with
  |nil=>ext l
  |È b a=>
   let[k,o,x]:=y a (by simpa using l) λi q b d g=>n (i+ 1) q b (by simpa using d) (by simpa using g)
   obtain⟨-,s,t,r⟩:=ok p _ (n 0 p b Ų Ų);let[u,v,Ų,z,m]:=vals2 t;rwa[(b.1,v)::k,.È {2,m} o,λj q f d g=>?_]
   cases j with
   |Ŀ=>
    obtain rfl:p=q:=by simpa using d
    obtain rfl:(b.1,v)=f:=by simpa using g
    rwa[u,lu z,r]
   |ŧ j=>exact x j q f (by simpa using d) (by simpa using g)
def y6 (M:X.calm=ρ):gY X (.Â ϲ) Nq:=by
 intro m s P H O R Q I r h;let[l,k,a,Ų,C,æ,B,q]:=h;let[u,Ų,D]:=vals1 r;ext D;let[A,y,c,z,v]:=I.a0 l _ C;obtain rfl:=M8 z;let[rs,i,G]:=RB I.a0 k a æ B;let t:@a=@rs:=@i;rw[aog]at A;rwa[A0 (knd:=cq X.À X.w) (rs:=rs) (I.ok.hd M) (by cbv) ∅ v (λj u E b o=>?_) λg w F kp=>?_]
 .rw[aon]at b
  cases e:k[j]? with
  |ε=>rw[e]at b;ext b
  |ι p=>rw[e]at b;let[d,n,J]:=G j p E e o;rwa[p,d,(Za0 b).Τ,n,J]
 .let L:KV (jW [] a) (merged [] rs):=KV.merge i .nil;let f:=nJ a [];rw[aoV]at f;rwa[↑↥s,_,I.ŭ (t':=w) kp Ź (uh ∅ (aoQ.mpr (apE (aoT I.big))) L F),2,q _ (I.a0.ó Ź)]
end
section
variable {X:Cx}{pins:List (Zs×Obj)}{σ:St}{H:Hp}{s:Zu}{d:Zs}{u:HO}{o:Obj}
def Inv.freeze (I:Ŵ)(e:H d\u)(mu:wL (ι u))(g:s•d\o):Inv X Î σ (OP (.dI o u)) s:=by
 let a:wL (H d):=by rw[e];rwa[mu]
 let b:∀c y,H c\.own y->c≠d:=λc y r z=>by subst z;rw[r]at a;rwa[a]
 let kb:∀c f,H c\.Ò f->c≠d:=λc f r z=>by subst z;rw[r]at a;rwa[a]
 let new:cu X.À X.w (OP (.dI o u)) s.τ d u:=(I.a0 d u e).hJ (λc v _ r=>r) (λc r=>[aq (b^r)]▸r) λc f r=>by rw[aq (kb^r)];rwa[r]
 rwa[mj (t':=s.Æ) I a (Û.ė.Ł β) {o,g} {g,new}]
def Inv.Ko (I:Ŵ)(e:H d\.dI o u)(mu:wL (ι u))(k:∀o u,X.xu d≠ι (.dI o u)):Inv X Î σ (OP u) s:=by
 let i:∀b,H b=ε->b≠d:=λb n z=>by cbv
 let g:∀c y,H c\.own y->c≠d:=λc y r z=>by cbv
 let kb:∀c h,H c\.Ò h->c≠d:=λc h r z=>by cbv
 rwa[I.ok,I.os,I.bare,{I.Β.Ï,I.Β.slot,λb ob q n w=>?_,I.Β.there,λb h q=>?_,λb ob v q=>?_,λb l q=>?_},I.loc,I.cell,5,λx c q=>?_,λp t=>?_,λb v q=>?_,I.len]
 .let f:=I.Β.free b ob q n w;rw[aq (i b f)];rwa[f]
 .let f:=I.Β.jh b h q;rw[aq (kb^f)];rwa[f]
 .let f:=I.Β.iA b ob v q;rw[aq (λz=>k ob v (by rw[<-z];rwa[q]))];rwa[f]
 .let[m,f]:=I.Β.jT b l q;erw[m];rw[aq (λz=>by cbv)];rwa[f]
 .rw[aq (i _ I.free)];rwa[I.free]
 .let f:=I.iB x c q;rw[aq (i _ f)];rwa[f]
 .let[a,b,c]:=I.pin p t;rwa[a,5,c];rw[aq (i _ b)];rwa[b]
 .let st:∀b v,cu X.À X.w H s.τ b v->cu X.À X.w (OP u) s.τ b v:=λb v q=>q.hJ (λc v _ r=>r) (λc r=>[aq (g^r)]▸r) λc h r=>by rw[aq (kb^r)];rwa[r]
  cases j:b=d
  .subst j;rw[aj]at q;obtain rfl:=Za0 q;rwa[st^(I.a0^e).2]
  .rw[aq j]at q;rwa[st^I.a0 b v q]
def Inv.RC (I:Ŵ)(e:H d\u)(mu:wL (ι u)):∀o u,X.xu d≠ι (.dI o u):=λo v q=>by rw[I.Β.iA d o v q]at e;ext e;rwa[mu]
def ac5 (t:TS):TS:=λD σ H=>∃(d:Zs)(u:HO),H d\u/\wL (ι u)/\
 t { nx:=λ b a=>∃o,a d\.dI o u/\D.nx b (ψ a d u),rt:=λv a=>∃o,a d\.dI o u/\D.rt v (ψ a d u),bk:=λ b a=>∃o,a d\.dI o u/\D.bk b (ψ a d u),ct:=λ b a=>∃o,a d\.dI o u/\D.ct b (ψ a d u) } σ H
def Ih {st:ŕ}{t:TS}(h:PS X st t):PS X st (ac5 t):=by
 intro Î s σ H D I q;let[d,u,e,mu,q]:=q;let i:=I.RC e mu;rwa[bx (h Î s σ H _ I q) λf l p=>?_]
 cases f with
 |next=>let[a,j,b,o,c,g]:=p;rwa[a,_,b.Ko c mu i,g]
 |brk=>let[a,j,b,o,c,g]:=p;rwa[a,_,b.Ko c mu i,g]
 |cont=>let[a,j,b,o,c,g]:=p;rwa[a,_,b.Ko c mu i,g]
 |ret v=>let[k,a,j,b,r,o,c,g]:=p;rwa[k,a,_,b.Ko c mu i,r,g]
end
def Uz (d:Zs)(o:Obj)(u:HO)(n:η)(Y:η->Hp->V->Hp->ο):It:={λi H=>i<n/\H d\.dI o u,Y,λi H=>i=n/\H d\.dI o u}
abbrev YP (d:Zs) (o:Obj) (kvs:List (Key×V)):It:=Uz d o (.dK kvs) ⇑kvs λi H x H'=>H'=H/\∃kv,kvs[i]?\kv/\x=kV kv.1
theorem Cd {c b:Type}{R:c->b->ο}:∀{e:θ c}{ys:θ b},Paired R e ys->∀{i:η}{x:c}{y:b},e[i]?\x->ys[i]?\y->R x y
 |[],_,h,i,x,y,a,_=>by simp at a
 |k::f,_,h,i,x,y,a,d=>by
  cases h with
  |È g j=>
   cases i with
   |Ŀ=>rw[<-Za0 a,<-Za0 d];rwa[g]
   |ŧ i=>exact Cd j a d
def YQ {P:Í}{w:à}{K:Za1}{it:Zs}{o:Obj}{u:HO}{b:Ė Ļ}{Y:η->Hp->V->Hp->ο}(A:∀(X:Cx) (H:Hp) (h:Û),eI X.À X.w H h->H d\.dI o u->fq h d b m/\b.Υ=n/\∀i f,b[i]?\f->∃x,ì x f.key/\Y i H x H):Turn P w K e (Uz d o u n Y) [it] it (λi h=>h.IsKeyIter it d i b.Υ m):=
 Ml (λi h ζ=>by let[o,a,c,d]:=ζ;rwa[o,11,a,c,d,4]) (λi h D st k=>st.at k) (λX l J H s i E C I st q=>by
  let[r,Ų,y]:=A X H s.τ I.a0 (q.Ü (·.2) (·.2));let[G,j,t,_]:=id r;let[F,p,z,_]:=id st
  rwa[1111,Dk.walks (I.ok.hd C) it (iM j p (by rw[t.1,z];decide)),{st,r},λ_ _ h=>h.1,λg=>{g.1,λv B=>by let[f,j,Ų]:=B;rwa[y i f j]},λg=>g.1]) λ_ _ _ _ _ st h=>wpAny_pyIter_keyiter st h
def Nr {P:Í}{w:à}{o:Obj}{a:θ (Zd×V)}{b:Ė Ļ}(I:ϸ)(u:H d\.dI o (.dT a))(q:o.ê=.ù b n):
 fq h d b n/\b.Υ=@a/\∀(i:η)(f:Ļ),b[i]?\f->∃g p v,a[i]?\g/\f.key=?p/\H p\.Ò (g.1.Κ kV)/\f.val=v/\ì g.2 v:=by
 obtain⟨c,-,C,ys,j,G,E,B,m,x,s,l,F⟩:=I d _ u;rw[c]at m;obtain rfl:=Za0 m;rw[q]at s;injection s with D y
 subst D y;let A:@a=@ys:=Paired.ü j;let z:b.Υ=@ys:=size_of_entries l;rwa[{_,c,x,q},z.ν A.Τ,λi f e=>?_];let t:i<@a:=by cbv
 let r:ys[i]?\(ys[i]'∅):=aoe ∅
 rw[entry_at l,r]at e;obtain rfl:=Za0 e;let k:=Cd j (aoe t) r;rwa[111,aoe t,2,k.2.1,2,k.2.2]
def Wy {P:Í}{w:à}{k:Key}(h:(cq P w).is k v=ρ):ì (kV k) v:=by
 cases k with
 |Α i=>
  let a:Η.isInt i v=ρ:=h
  cases v with
  |υ j t=>simp[Η.isInt]at a;subst a;rwa[12]
  |_=>simp[Η.isInt]at a
 |Ç x=>
  let a:Η.isStrOf x v=ρ:=h
  cases v with
  |str j t=>simp[Η.isStrOf]at a;subst a;rwa[12]
  |_=>simp[Η.isStrOf]at a
section
variable {g:TG}{tb:TS}{D:Ends}{σ:St}{H:Hp}{d:Zs}{o:Obj}
def UA {u:HO}{Y:η->Hp->V->Hp->ο}{a:η->St->Hp->ο}(k:a 0 σ H)(e:∀i σ H,i<=n->a i σ H->H d\.dI o u)(l:∀i σ H x b,a i σ H->Y i H x b->g x σ b λ c j=>tb { D with nx:=a (i+ 1),ct:=a (i+ 1),bk:=D.nx } c j)(h:∀ σ H,a n σ H->D.nx σ H):ub (Uz d o u n Y) g tb D σ H:=vy k (λi σ H f p=>{{f,e i σ H (aqj f) p},λx b=>l i σ H x b p}) λ σ H p=>{{2,e n σ H Ź p},h σ H p}
end
inductive Dt where
 |i (n:π)|s (l:Zh)|n|b (k:ã)|t (xs:AE)|l (xs:AE)
inductive bK (H:Hp):η->V->Dt->ο where
 |i {k:η} {n:π}:bK H k (.υ n) (.i n)
 |s {k:η} {l:Zh}:bK H k (.str (tx l)) (.s l)
 |n {k:η}:bK H k .non .n
 |b {k:η} {c:ã}:bK H k (.bl c) (.b c)
 |t {k:η} {a:Zs} {vs:Zb} {ds:AE}:H a\.Ò vs->@vs=@ds->(∀(j:η)(v:V)(d:Dt),vs[j]?\v->ds[j]?\d->bK H k v d)->bK H (k+ 1) ?a (.t ds)
 |l {k:η} {a:Zs} {vs:Zb} {ds:AE}:H a\.Ν vs->@vs=@ds->(∀(j:η)(v:V)(d:Dt),vs[j]?\v->ds[j]?\d->bK H k v d)->bK H (k+ 1) ?a (.l ds)
def bK.Ï (j:∀a e,H a\.Ò e->I a\.Ò e)(g:∀a e,H a\.Ν e->I a\.Ν e){k:η}{v:V}{d:Dt}(h:bK H k v d):bK I k v d:=by
 induction h with
 |i=>exact .i
 |s=>exact .s
 |n=>exact .n
 |b=>exact .b
 |t a b c f=>exact .t (j^a) b f
 |l a b c f=>exact .l (g^a) b f
def bK.Μ (s:XL){k:η}{v:V}{d:Dt}(h:bK H k v d):bK I k v d:=h.Ï (λ_ _ e=>s^e) (λ_ _ e=>s^e)
def bK.up {k:η}{d:Dt}(h:bK H k q d):bK H (k+ 1) q d:=by
 induction h with
 |i=>exact .i
 |s=>exact .s
 |n=>exact .n
 |b=>exact .b
 |t a b c e=>exact .t a b e
 |l a b c e=>exact .l a b e
def bK.le {k:η}{d:Dt}(h:bK H k q d)(a:k<=m):bK H m q d:=by
 let[j,Ų]:=arR a;clear a
 induction j with
 |Ŀ=>exact h
 |ŧ j b=>exact b.up
section
variable {X:Cx}{pins:List (Zs×Obj)}{σ:St}{H:Hp}{s:Zu}
def wW {A:ß}(n:π)(t a:Tok):ĳ.EqAt A s (.υ n t) (.υ n a) ρ:=by
 have:=ĳ.EqAt.int_int (A:=A) (s:=s) n t n a
 cbv
def wX {A:ß}(x:Ñ)(t a:Tok):ĳ.EqAt A s (.str x t) (.str x a) ρ:=by
 have:=ĳ.EqAt.str_str (A:=A) (s:=s) x t x a
 cbv
def ac6 (I:Ŵ):∀(k:η)(A:ß)(v z:V)(u B:Zt)(d:Dt),A.İ+ k<Ť->bK H k v d->bK H k z d->ì v u->ì z B->ĳ.EqAt A s u B ρ:=by
 intro k
 induction k with
 |Ŀ=>
  intro A v z u B d U h m r g
  cases h with
  | @i n=>cases m with|i=>?_
          let[t,Ų]:=r;let[E,Ų]:=g;rwa[wW^_]
  | @s l=>cases m with|s=>?_
          let[t,Ų]:=r;let[E,Ų]:=g;rwa[wX^_]
  |n=>cases m with|n=>?_
      ext r;ext g;rwa[ĳ.EqAt.Μ _]
  | @b c=>cases m with|b=>?_
          ext r;ext g;rwa[ĳ.EqAt.Μ _]
 |ŧ k ih=>
  intro A v z u B d U h m r g
  cases h with
  | @i _ n=>cases m with|i=>?_
            let[t,Ų]:=r;let[E,Ų]:=g;rwa[wW^_]
  | @s _ l=>cases m with|s=>?_
            let[t,Ų]:=r;let[E,Ų]:=g;rwa[wX^_]
  |n=>cases m with|n=>?_
      ext r;ext g;rwa[ĳ.EqAt.Μ _]
  | @b _ c=>cases m with|b=>?_
            ext r;ext g;rwa[ĳ.EqAt.Μ _]
  | @t _ a w x G R W=>
    cases m with
    | @t _ b o _ M S g3=>
      ext r;ext g;cases e:a=b
      .subst e;rwa[ĳ.EqAt.Μ _]
      .rwa[ĳ.EqAt.of_refs e ?_];let[p,q,L,_]:=I.Ě (bG.of G);let[f,y,D,_]:=I.Ě (bG.of M);let l1:=@q;let l2:=@y;have:=ĳ.RcAt.tuples (A:=A) (e:=λ_=>ρ) (show s.τ.Ş a p.χ from L) (show s.τ.Ş b f.χ from D) ∅ (λj F N=>?_)
       .cbv
       .let O:j<@p:=by simpa using F
        let Y:j<@f:=by simpa using N
        let J:w[j]?\(w[j]'∅):=aoe ∅
        let C:o[j]?\(o[j]'∅):=aoe ∅
        let Q:x[j]?\(x[j]'∅):=aoe ∅
        let[P,Z,z1]:=q.ű J;let[w2,T,z2]:=y.ű C
        cbv
  | @l _ a w x G R W=>
    cases m with
    | @l _ b o _ M S g3=>
      ext r;ext g;cases e:a=b
      .subst e;rwa[ĳ.EqAt.Μ _]
      .rwa[ĳ.EqAt.of_refs e ?_];let[p,q,L,_]:=I.Ĥ (ay.of G);let[f,y,D,_]:=I.Ĥ (ay.of M);let l1:=@q;let l2:=@y;have:=ĳ.RcAt.ò (A:=A) (e:=λ_=>ρ) L.î D.î (by simp;omega) ∅ (λj F N=>?_)
       .rw[all_true β λ_=>rfl]at Δ;rwa[Δ]
       .let O:j<@p:=by simpa using F
        let Y:j<@f:=by simpa using N
        let J:w[j]?\(w[j]'∅):=aoe ∅
        let C:o[j]?\(o[j]'∅):=aoe ∅
        let Q:x[j]?\(x[j]'∅):=aoe ∅
        let[P,Z,z1]:=q.ű J;let[w2,T,z2]:=y.ű C
        cbv
end
variable {X:Cx}
def sk {f:θ (Zs×Obj)}{w:St}(I:Inv X f w H s){k:η}{A:ß}(t:A.İ+ k<Ť){e c:Zb}{b a:Zk}{ds:AE}(i:ä e b)(m:ä c a)(E:@e=@ds)(F:@c=@ds)(u:∀(j:η) (v:V) (d:Dt),e[j]?\v->ds[j]?\d->bK H k v d)(D:∀(j:η) (v:V) (d:Dt),c[j]?\v->ds[j]?\d->bK H k v d)(j:η)(q:j<b.χ.Υ)(C:j<a.χ.Υ):ĳ.EqAt A s b.χ[j] a.χ[j] ρ:=by
 let G:=@i;let J:=@m;let n:j<@b:=by simpa using q
 let y:j<@a:=by simpa using C
 let l:e[j]?\(e[j]'∅):=aoe ∅
 let g:c[j]?\(c[j]'∅):=aoe ∅
 let h:ds[j]?\(ds[j]'∅):=aoe ∅
 let[o,z,z1]:=i.ű l;let[B,r,z2]:=m.ű g;let p:b.χ[j]=o:=by rw[θ.getElem_toArray];rwa[Za0 ((aoe n).Τ.ν z)]
 let x:a.χ[j]=B:=by rw[θ.getElem_toArray];rwa[Za0 ((aoe y).Τ.ν r)]
 rw[p,x];rwa[ac6 I k δ _ _ t (u j β l h) (D j β g h) z1 z2]
inductive UB (x y:V)(H:Hp)(Q:VK):ο
 |mk (d:Dt)(a b:Zs):x=?a->y=?b->bK H 8 x d->bK H 8 y d->Q (.bl ρ) H->UB x y H Q
inductive UC (x y:V)(H:Hp)(Q:VK):ο
 |mk (d:Dt)(a b:Zs):x=?a->y=?b->bK H 8 x d->bK H 8 y d->Q (.bl ς) H->UC x y H Q
def A1 (M:X.A.İ+ 8<Ť):gX X (ē .Eq) UB:=by
 intro E s N H x y v u Q I F G h;let[d,a,b,Ų,Ų,h,D,q]:=h;ext F;ext G
 cases h with
 |t r i A=>
  cases D with
  |t z n C=>
   let[o,c,w,_]:=I.Ě (bG.of r);let[g,f,m,_]:=I.Ě (bG.of z);let J:=@c;let L:=@f;rwa[ĳ.eq_tupleAt (e:=λ_=>ρ) (show s.τ.Ş a _ from w) (show s.τ.Ş b _ from m) ∅ (λj p B=>sk I (k:=7) ∅ c f i n A C j p B) {.bl ρ,H,I,5,q}];show _=Η.ħ ρ
   cbv
 |l r i A=>
  cases D with
  |l z n C=>let[o,c,w,_]:=I.Ĥ (ay.of r);let[g,f,m,_]:=I.Ĥ (ay.of z);let J:=@c;let L:=@f;rwa[ĳ.eq_listAt (e:=λ_=>ρ) w.î m.î (by simp;omega) ∅ (λj p B=>sk I (k:=7) ∅ c f i n A C j p B) {.bl ρ,H,I,5,q}];show _=Η.ħ ρ;rw[all_true β λ_=>rfl]
def Wz (M:X.A.İ+ 8<Ť):gX X (ē .NotEq) UC:=by
 intro E s N H x y v u Q I F G h;let[d,a,b,Ų,Ų,h,D,q]:=h;ext F;ext G
 cases h with
 |t r i A=>
  cases D with
  |t z n C=>
   let[o,c,w,_]:=I.Ě (bG.of r);let[g,f,m,_]:=I.Ě (bG.of z);let J:=@c;let L:=@f;rwa[ĳ.RcNeAt.tuples (e:=λ_=>ρ) (show s.τ.Ş a _ from w) (show s.τ.Ş b _ from m) ∅ (λj p B=>sk I (k:=7) ∅ c f i n A C j p B) X.À X.w X.xe _ {.bl ς,H,I,5,q}];show _=Η.ħ ς
   cbv
 |l r i A=>
  cases D with
  |l z n C=>let[o,c,w,_]:=I.Ĥ (ay.of r);let[g,f,m,_]:=I.Ĥ (ay.of z);let J:=@c;let L:=@f;rwa[ĳ.RcNeAt.ò (e:=λ_=>ρ) w.î m.î (by simp;omega) ∅ (λj p B=>sk I (k:=7) ∅ c f i n A C j p B) X.À X.w X.xe _ {.bl ς,H,I,5,q}];show _=Η.ħ ς;rw[all_true β λ_=>rfl];rfl
def nI (l:Zh):Zg:=l.Κ λn:η=>(n:π)
def cJ (l:Zh):@(nI l)=@l:=aog ..
def lA (h:B[i]?\n):(nI B)[i]?\(n:π):=by unfold nI;rw[aon,h];rfl
def jX (a b:Zh):nI (a++b)=nI a++nI b:=aoE ..
def YR (l:Zh)(i n:η):(nI l).set i (n:π)=nI (l.set i n):=by unfold nI;rw[θ.map_set]
structure RS where
 L:η
 q:η
 rows:θ Dt
 ways:θ (θ (π×η))
 gaps:Za3
 bu:Zh
 called:θ Zh
 bz:Zh
def wK (l:θ (π×η)):θ (Key×V):=l.Κ λp=>(Sum.Α p.1,V.υ p.2)
def gK (l:Zg):θ (Key×V):=l.Κ λs=>(Sum.Α s,V.bl ρ)
def fZ (l:θ (π×η))(s:π):Zi:=(l.find? λp=>decide (p.1=s)).Κ (·.2)
def lB (l:θ (π×η))(s:π)(r:η):θ (π×η):=if (l.any λp=>decide (p.1=s))=ρ then l.Κ λp=>if p.1=s then (p.1,r) else p else l++[(s,r)]
def Er (l:θ (π×η)):@(wK l)=@l:=aog ..
def YT (l:Zg):@(gK l)=@l:=aog ..
def YV (a b:π):decide ((Sum.Α a:Key)=Sum.Α b)=decide (a=b):=by cbv
theorem mX (s:π):∀l:θ (π×η),bF (wK l) Ϟ=(fZ l s).Κ λr:η=>V.υ (r:π)
 |[]=>rfl
 |p::l=>by
  let b:=mX s l;cases h:p.1=s
  .let e:bF (wK (p::l)) Ϟ\(V.υ p.2):=cY (p:=(Sum.Α p.1,V.υ p.2)) (by rw[h]);let a:fZ (p::l) s\p.2:=by unfold fZ;rw[θ.find?_cons_of_pos (by cbv)];rfl
   rw[e,a];rfl
  .let e:bF (wK (p::l)) Ϟ=bF (wK l) Ϟ:=cR (p:=(Sum.Α p.1,V.υ p.2)) (λz=>h MO);let a:fZ (p::l) s=fZ l s:=by unfold fZ;rw[aqZ (by simpa using h)]
   rw[e,a,b]
def Es (l:θ (π×η))(s:π)(r:η):ú (wK l) Ϟ (.υ r)=wK (lB l s r):=by
 unfold ú lB
 let a:((wK l).any λb=>decide (b.1=Sum.Α s))=l.any λp=>decide (p.1=s):=by
  unfold wK;rw[θ.any_map]
  congr 1
  funext p
  rwa[YV β]
 rw[a];split
 .unfold wK;rw[ao4,ao4];rwa[apM λp _=>?_]
  cbv
 .unfold wK;rw[aoE];rfl
def RD (l:θ (π×η))(s t:π)(r:η):fZ (lB l s r) t=if t=s then ι r else fZ l t:=by
 let c:=mX t (lB l s r);rw[<-Es,fI,mX]at c
 let inj:∀a b:Zi,(a.Κ λr:η=>V.υ (r:π))=(b.Κ λr:η=>V.υ (r:π))->a=b:=λa b h=>by
  cases a <;> cases b <;> simp at h ⊢
  ext
 apply inj;rw[<-c];cases e:t=s
 .rw[aoO e,aoO (by rw[e])];rfl
 .rw[aoK e,aoK (λz=>e MO)]
def RG (l:θ (π×η))(s:π)(r:η):@(lB l s r)<=@l+ 1:=by
 unfold lB;split
 .rw[aog];ext
 .rw[aoj];rwa[aoo _]
def WC (l:Zg)(s:π):fT (gK l) Ϟ=gK (l.Ö λx=>decide (x≠s)):=by
 unfold fT gK;rw[θ.filter_map]
 congr 1
 rwa[aql λx _=>?_]
 cbv
theorem Nt (s:π):∀l:Zg,bF (gK l) Ϟ=if s∈l then ι (V.bl ρ) else ε
 |[]=>rfl
 |x::l=>by
  cases h:x=s
  .rw[aoO (by cbv)];rwa[cY (p:=(Sum.Α x,V.bl ρ)) (by rw[h])]
  .let e:bF (gK (x::l)) Ϟ=bF (gK l) Ϟ:=cR (p:=(Sum.Α x,V.bl ρ)) (λz=>h MO);rw[e,Nt s l]
   cbv
theorem Ce:∀(ł acc:θ (Key×V)),((acc++ł).Κ (·.1)).Á->jW acc ł=acc++ł
 |[],acc,_=>(aoJ _).Τ
 |p::ł,acc,h=>by
  let b:bF acc p.1=ε:=by unfold bF;rw[θ.find?_eq_none.mpr ?_];rfl;intro q a;rw[apD];intro e;rw[aoE,apb]at h;rwa[h.2.2 q.1 (aqN a) p.1 (aqN aou) e]
  show jW (ú acc p.1 p.2) ł=_;rw[lZ _ b,Ce ł (acc++[(p.1,p.2)]) ([ao6]▸h),ao6];rfl
structure RA where
 dx:Zs
 aR:Zs
 aW:Zs
 aG:Zs
 aE:Zs
 aC:Zs
 aN:Zs
 rs:Zn
 ws:Zn
 gs:Zn
 cs:Zn
def gO (L made:π)(a:RA):θ (Ñ×V):=[(ϓ,.υ L),(ON,.υ made),(KK,?a.aR),(VU,?a.aW),(mf,?a.aG),(LF,?a.aE),(LH,?a.aC),("went",?a.aN)]
def Nu (L m n:π)(a:RA):bP ON (.υ n) (LT a)=gO L n a:=by
 let h:¬((ϓ:Ñ)=ON):=⋯
 unfold gO;simp only[bP,aoK h,arV]
def y7 (L m:π)(a:RA):(LT a).ω (ϓ:Ñ)\(.υ L):=by kernel_rfl
def vM (L m:π)(a:RA):(LT a).ω (ON:Ñ)\(.υ m):=by kernel_rfl
def vN (L m:π)(a:RA):(LT a).ω (KK:Ñ)\?a.aR:=by kernel_rfl
def jC (L m:π)(a:RA):(LT a).ω (VU:Ñ)\?a.aW:=by kernel_rfl
def vO (L m:π)(a:RA):(LT a).ω (mf:Ñ)\?a.aG:=by kernel_rfl
def kz (L m:π)(a:RA):(LT a).ω (LF:Ñ)\?a.aE:=by kernel_rfl
def p5 (L m:π)(a:RA):(LT a).ω (LH:Ñ)\?a.aC:=by kernel_rfl
def vP (L m:π)(a:RA):(LT a).ω ("went":Ñ)\?a.aN:=by kernel_rfl
def dk (L m:π)(a:RA){x:Ñ}(h:x∉([ϓ,ON,KK,VU,mf,LF,LH,"went"]:Zp)):(LT a).ω x=ε:=by simp only[aoC,apl,aqM,not_or]at h;let[f,d,i,e,g,b,j,c]:=h;unfold gO;simp only[θ.ω,aoQ.mpr f,aoQ.mpr d,aoQ.mpr i,aoQ.mpr e,aoQ.mpr g,aoQ.mpr b,aoQ.mpr j,aoQ.mpr c]
theorem fu:∀{fs:θ (Ñ×V)},fs.ω x=ε->bP x q fs=fs++[(x,q)]
 |[],_=>rfl
 |(g,a)::r,h=>by
  cases e:g=x
  .cbv
  .let b:(x==g)=ς:=aoQ.mpr (apE e);simp only[θ.ω,b]at h;show (if g=x then _ else _)=_;rw[aoK e,fu h];rfl
inductive oW:Dt->ο where
 |i {n:π}:oW (.i n)
 |s {l:Zh}:oW (.s l)
 |t {ds:AE}:@ds<=100000->(∀d∈ds,oW d)->oW (.t ds)
def bK.jD (q:∀a g,H a\.Ò g->I a\.Ò g){k:η}{v:V}{d:Dt}(h:bK H k v d)(m:oW d):bK I k v d:=by
 induction h with
 |i=>exact .i
 |s=>exact .s
 |n=>exact .n
 |b=>exact .b
 |t a b c e=>
  cases m with
  |t _ o=>exact .t (q^a) b λj v d p f=>e j v d p f (o d (aoi f))
 |l a b c e=>ext m
def ū {a:Type}(R:Zs->a->ο)(b:Zn)(xs:θ a):ο:=@b=@xs/\∀(i:η)(p:Zs)(x:a),b[i]?\p->xs[i]?\x->R p x
def ū.Ŋ {e:Type}{R c:Zs->e->ο}{a:θ e}(h:ū R F a)(f:∀p x,p∈F->x∈a->R p x->c p x):ū c F a:={h.1,λi p x d b=>f p x (aoi d) i8 (h.2 i p x d b)}
def ū.ċ {d:Type}{R:Zs->d->ο}{ps:Zn}{xs:θ d}{x:d}(h:ū R ps xs)(f:R a x):ū R (ps++[a]) (xs++[x]):=by
 rwa[by rw[aoj,aoj,h.1];rfl,λi q y c b=>?_];cases e:i<@ps
 .rw[aoq e]at c;rw[aoq (by rw[<-h.1];rwa[e])]at b;rwa[h.2 i q y c b]
 .rw[aoz ∅]at c;rw[aoz (by rw[<-h.1];omega)]at b;rw[aok.mp NU,aok.mp i8];rwa[f]
def ū.at {a:Type}{R:Zs->a->ο}{b:θ a}(h:ū R F b){i:η}{x:a}(d:b[i]?\x):∃p,F[i]?\p/\R p x:=by
 let c:i<@F:=by rw[h.1];rwa[(aoh.mp d).1]
 rwa[_,aoe c,h.2 i _ x (aoe c) d]
def ū.mem {b:Type}{R:Zs->b->ο}{xs:θ b}(h:ū R F xs){p:Zs}(d:p∈F):∃x,x∈xs/\R p x:=by
 let[i,c]:=apm d;let a:i<@xs:=by rw[<-h.1];rwa[(aoh.mp c).1]
 rwa[_,aoi (aoe a),h.2 i p _ c (aoe a)]
theorem ū.set {d:Type}{R b:Zs->d->ο}{xs:θ d}{x:d}(h:ū R F xs)(g:F[i]?\a)(m:b a x)(l:F.Á)(f:∀q y,q∈F->q≠a->R q y->b q y):ū b F (xs.set i x):=by
 rwa[[aoR]▸h.1,λj q y c k=>?_];cases e:i=j
 .cbv
 .rw[apz e]at k;rwa[f q y NU (λz=>?_) (h.2 j q y c k)];subst z;rwa[e ((aro (aoh.mp g).1 l).mp (g.ν c.Τ))]
def RA.ò (a:RA):Zn:=a.aR::a.aW::a.aG::a.aE::a.aC::a.aN::a.cs
def RA.fF (a:RA):Zn:=a.ws++a.gs
def RA.own (a:RA)(r b:Zs):ο:=b=r\/b∈a.ò\/b∈a.fF
structure aD (C:Zs)(H:Hp)(r:Zs)(S:RS)(a:RA):ο where
 ins:H r\(.ins C a.dx (tz S.q a))
 hR:H a.aR\(.Ν (a.rs.Κ V.É))
 hW:H a.aW\(.Ν (a.ws.Κ V.É))
 hG:H a.aG\(.Ν (a.gs.Κ V.É))
 hE:H a.aE\(.Ν (aw (nI S.bu)))
 hC:H a.aC\(.Ν (a.cs.Κ V.É))
 hN:H a.aN\(.Ν (aw Fk))
 rR:ū (λp d=>bK H 4 ?p d) a.rs S.rows
 rW:ū (λp l=>H p\.dK (wK l)) a.ws S.ways
 rG:ū (λp l=>H p\.dK (gK l)) a.gs S.gaps
 rC:ū (λp l=>H p\.Ν Lm) a.cs S.called
 flat:∀d∈S.rows,oW d
 jQ:a.ò.Á
 oX:a.fF.Á
variable {C:Zs}{H H':Hp}{r:Zs}{S:RS}{a:RA}
def aD.Ï (h:ſ)(k:∀b o,CU b->H b\o->H' b\o)(i:∀b f,H b\.Ò f->H' b\.Ò f):aD C H' r S a:=by
 let kl:∀b o,b∈a.ò->H b\o->H' b\o:=λb o d=>k b o (.Ç (.Α d))
 let g:∀b o,b∈a.fF->H b\o->H' b\o:=λb o d=>k b o (.Ç (.Ç d))
 rwa[k β (.Α Ų) h.ins,ϖ (by simp[RA.ò]) h.hR,ϖ (by simp[RA.ò]) h.hW,ϖ (by simp[RA.ò]) h.hG,ϖ (by simp[RA.ò]) h.hE,ϖ (by simp[RA.ò]) h.hC,ϖ (by simp[RA.ò]) h.hN,h.rR.Ŋ λp x _ j e=>e.jD i (Z1 j),h.rW.Ŋ λp x c _ e=>g β (Of c) e,h.rG.Ŋ λp x c _ e=>g β (Q2 c) e,h.rC.Ŋ λp x c _ e=>kl β (by simp[RA.ò,c]) e,h.flat,h.jQ,h.oX]
def aD.Μ (h:ſ)(s:bc):aD C H' r S a:=h.Ï (λ_ _ _ e=>s^e) (λ_ _ e=>s^e)
def aD.there (h:ſ){b:Zs}(c:a.own r b):∃o,H b\o:=by
 rcases c with rfl|c|c
 .rwa[_,h.ins]
 .unfold RA.ò at c;simp only[aoC]at c;rcases c with rfl|rfl|rfl|rfl|rfl|rfl|c
  .rwa[_,h.hR]
  .rwa[_,h.hW]
  .rwa[_,h.hG]
  .rwa[_,h.hE]
  .rwa[_,h.hC]
  .rwa[_,h.hN]
  .let[x,_,e]:=h.rC.mem c;rwa[_,e]
 .rcases aov.mp c with c|c
  .let[x,_,e]:=h.rW.mem c;rwa[_,e]
  .let[x,_,e]:=h.rG.mem c;rwa[_,e]
def aD.vQ (h:ſ){b:Zs}{f:Zb}(e:H b\.Ò f):¬a.own r b:=λc=>by
 rcases c with rfl|c|c
 .rw[h.ins]at e;ext e
 .unfold RA.ò at c;simp only[aoC]at c;rcases c with rfl|rfl|rfl|rfl|rfl|rfl|c
  .rw[h.hR]at e;ext e
  .rw[h.hW]at e;ext e
  .rw[h.hG]at e;ext e
  .rw[h.hE]at e;ext e
  .rw[h.hC]at e;ext e
  .rw[h.hN]at e;ext e
  .let[x,_,d]:=h.rC.mem c;cbv
 .rcases aov.mp c with c|c
  .let[x,_,d]:=h.rW.mem c;cbv
  .let[x,_,d]:=h.rG.mem c;cbv
end L2
variable {S T:L2.RS}{O:L2.RA}
namespace L2
section
variable {C:Zs}{H:Hp}{r:Zs}{S:RS}{a:RA}
def gZ:a.aR∈a.ò:=by simp[RA.ò]
def hH:a.aW∈a.ò:=by simp[RA.ò]
def j7:a.aG∈a.ò:=by simp[RA.ò]
def iD:a.aE∈a.ò:=by simp[RA.ò]
def jE:a.aC∈a.ò:=by simp[RA.ò]
def jc:a.aN∈a.ò:=by simp[RA.ò]
def hU (h:b∈a.cs):b∈a.ò:=by simp[RA.ò,h]
def dW (h:b∈a.ws):b∈a.fF:=aoF _ h
def hV (h:b∈a.gs):b∈a.fF:=aow _ h
def aD.UD (h:ſ){b:Zs}(c:b∈a.ò):∃d,H b\(.Ν d):=by
 unfold RA.ò at c;simp only[aoC]at c;rcases c with rfl|rfl|rfl|rfl|rfl|rfl|c
 .rwa[_,h.hR]
 .rwa[_,h.hW]
 .rwa[_,h.hG]
 .rwa[_,h.hE]
 .rwa[_,h.hC]
 .rwa[_,h.hN]
 .let[x,_,e]:=h.rC.mem c;rwa[_,e]
def aD.tE (h:ſ){b:Zs}(c:b∈a.fF):∃d,H b\(.dK d):=by
 rcases aov.mp c with c|c
 .let[x,_,e]:=h.rW.mem c;rwa[_,e]
 .let[x,_,e]:=h.rG.mem c;rwa[_,e]
def aD.rl (h:ſ){b:Zs}(c:b∈a.ò):r≠b:=by let[d,e]:=h.UD c;rwa[bD h.ins e (by cbv)]
def aD.rd (h:ſ){b:Zs}(c:b∈a.fF):r≠b:=by let[d,e]:=h.tE c;rwa[bD h.ins e (by cbv)]
def aD.ld (h:ſ){b c:Zs}(d:b∈a.ò)(hc:c∈a.fF):b≠c:=by
 let[f,e]:=h.UD d;let[ys,g]:=h.tE hc
 cbv
def aD.tl (h:ſ){b c:Zs}{d:Zb}(e:H b\.Ò d)(hc:c∈a.ò):b≠c:=λz=>h.vQ e (.Ç (.Α ([z]▸hc)))
def aD.td (h:ſ){b c:Zs}{d:Zb}(e:H b\.Ò d)(hc:c∈a.fF):b≠c:=λz=>h.vQ e (.Ç (.Ç ([z]▸hc)))
def aD.tr (h:ſ){b:Zs}{c:Zb}(d:H b\.Ò c):b≠r:=λz=>h.vQ d (.Α z)
def aD.WD (h:ſ)(n:η):aD C (ψ H r (.ins C a.dx (tz n a))) r { S with q:=n } a:=by
 let kl:∀b o,b∈a.ò->H b\o->ψ H r (.ins C a.dx (tz n a)) b\o:=λb o d e=>by rw[aq (h.rl d).Τ];rwa[e]
 let f:∀b o,b∈a.fF->H b\o->ψ H r (.ins C a.dx (tz n a)) b\o:=λb o d e=>by rw[aq (h.rd d).Τ];rwa[e]
 rwa[aj,ϖ gZ h.hR,mt h.hW,ul h.hG,ut h.hE,ue h.hC,js h.hN,h.rR.Ŋ λp x _ i e=>e.jD (λb j g=>[aq (h.tr g)]▸g) (Z1 i),h.rW.Ŋ λp x c _ e=>f β (dW c) e,h.rG.Ŋ λp x c _ e=>f β (hV c) e,h.rC.Ŋ λp x c _ e=>kl β (hU c) e,h.flat,h.jQ,h.oX]
def aD.kA (h:ſ){q:Zs}{o:HO}(c:q∈a.ò):ψ H q o r\.ins C a.dx (tz S.q a)/\(∀b x,b∈a.ò->b≠q->H b\x->ψ H q o b\x)/\(∀b x,b∈a.fF->H b\x->ψ H q o b\x)/\∀b d,H b\.Ò d->ψ H q o b\(.Ò d):={[aq (h.rl c)]▸h.ins,λb x _ n e=>[aq n]▸e,λb x f e=>[aq (h.ld c f).Τ]▸e,λb d e=>[aq (h.tl e c)]▸e}
def y8 (b:a.ò.Á):(a.aR≠a.aW/\a.aR≠a.aG/\a.aR≠a.aE/\a.aR≠a.aC/\a.aR≠a.aN)/\(a.aW≠a.aG/\a.aW≠a.aE/\a.aW≠a.aC/\a.aW≠a.aN)/\(a.aG≠a.aE/\a.aG≠a.aC/\a.aG≠a.aN)/\(a.aE≠a.aC/\a.aE≠a.aN)/\a.aC≠a.aN/\∀p∈a.cs,p≠a.aR/\p≠a.aW/\p≠a.aG/\p≠a.aE/\p≠a.aC/\p≠a.aN:=by
 unfold RA.ò at b
 cbv
def aD.Eu (h:ſ){p:Zs}{d:Dt}(i:bK H 4 ?p d)(hd:oW d):aD C (ψ H a.aR (.Ν (a.rs.Κ V.É++[?p]))) r { S with rows:=S.rows++[d] } { a with rs:=a.rs++[p] }:=by
 let[l,kl,g,f]:=h.kA (o:=.Ν (a.rs.Κ V.É++[?p])) (gZ (a:=a));obtain⟨⟨n1,n2,m,n,j⟩,-,-,-,-,k⟩:=y8 h.jQ
 rwa[l,5,mt n1.Τ h.hW,ul n2.Τ h.hG,ut m.Τ h.hE,ue n.Τ h.hC,js j.Τ h.hN,(h.rR.Ŋ λq x _ c e=>e.jD f (Z1 c)).ċ (i.jD f hd),h.rW.Ŋ λq x b _ e=>g β (dW b) e,h.rG.Ŋ λq x b _ e=>g β (hV b) e,h.rC.Ŋ λq x b _ e=>kl β (hU b) (k q b).1 e,λx c=>?_,h.jQ,h.oX]
 .rw[aj,aoE];rfl
 .rcases aov.mp c with c|c
  .rwa[Z1 c]
  cbv
def aD.YW (h:ſ){p:Zs}{l:θ (π×η)}(d:H p\.dK (wK l))(n:p∉a.fF):aD C (ψ H a.aW (.Ν (a.ws.Κ V.É++[?p]))) r { S with ways:=S.ways++[l] } { a with ws:=a.ws++[p] }:=by
 let[k,kl,f,g]:=h.kA (o:=.Ν (a.ws.Κ V.É++[?p])) (hH (a:=a));obtain⟨⟨n1,-⟩,⟨n2,m,s,i⟩,-,-,-,j⟩:=y8 h.jQ;let c:ψ H a.aW (.Ν (a.ws.Κ V.É++[?p])) p\(.dK (wK l)):=by rw[aq (bD d h.hW (by cbv))];rwa[d]
 erw[k,ST h.hR,5,ul n2.Τ h.hG,ut m.Τ h.hE,ue s.Τ h.hC,js i.Τ h.hN,h.rR.Ŋ λq x _ t e=>e.jD g (Z1 t),(h.rW.Ŋ λq x b _ e=>f β (dW b) e).ċ c,h.rG.Ŋ λq x b _ e=>f β (hV b) e,h.rC.Ŋ λq x b _ e=>kl β (hU b) (j q b).2.1 e,h.flat,h.jQ]
 .rw[aj,aoE];rfl
 .show (a.ws++[p]++a.gs).Á;rw[ao6];rwa[(θ.perm_middle.nodup_iff).mpr (ao0.mpr {n,h.oX})]
def aD.YX (h:ſ){p:Zs}{l:Zg}(g:H p\.dK (gK l))(t:p∉a.fF):aD C (ψ H a.aG (.Ν (a.gs.Κ V.É++[?p]))) r { S with gaps:=S.gaps++[l] } { a with gs:=a.gs++[p] }:=by
 let[j,kl,f,n]:=h.kA (o:=.Ν (a.gs.Κ V.É++[?p])) (j7 (a:=a));obtain⟨⟨-,n1,-⟩,⟨n2,-⟩,⟨k,m,i⟩,-,-,u⟩:=y8 h.jQ;let c:ψ H a.aG (.Ν (a.gs.Κ V.É++[?p])) p\(.dK (gK l)):=by rw[aq (bD g h.hG (by cbv))];rwa[g]
 erw[j,ST h.hR,mt n2 h.hW,5,ut k.Τ h.hE,ue m.Τ h.hC,js i.Τ h.hN,h.rR.Ŋ λq x _ d e=>e.jD n (Z1 d),h.rW.Ŋ λq x b _ e=>f β (dW b) e,(h.rG.Ŋ λq x b _ e=>f β (hV b) e).ċ c,h.rC.Ŋ λq x b _ e=>kl β (hU b) (u q b).2.2.1 e,h.flat,h.jQ]
 .rw[aj,aoE];rfl
 .show (a.ws++(a.gs++[p])).Á;rw[<-ao6];rwa[apb.mpr {h.oX,by simp,λx d y s z=>?_}];rw[aok.mp s]at z;rwa[t (z ▸ d)]
def aD.Ci (h:ſ)(c:Zh):aD C (ψ H a.aE (.Ν kd)) r { S with bu:=c } a:=by
 let[j,kl,d,f]:=h.kA (o:=.Ν kd) (iD (a:=a));obtain⟨⟨-,-,n1,-⟩,⟨-,n2,-⟩,⟨k,-⟩,⟨m,g⟩,-,i⟩:=y8 h.jQ
 rwa[j,ST h.hR,mt n2 h.hW,ul k h.hG,aj,ue m.Τ h.hC,js g.Τ h.hN,h.rR.Ŋ λq x _ l e=>e.jD f (Z1 l),h.rW.Ŋ λq x b _ e=>d β (dW b) e,h.rG.Ŋ λq x b _ e=>d β (hV b) e,h.rC.Ŋ λq x b _ e=>kl β (hU b) (i q b).2.2.2.1 e,h.flat,h.jQ,h.oX]
def aD.WG (h:ſ)(c:Zh):aD C (ψ H a.aN (.Ν kd)) r { S with bz:=c } a:=by
 let[j,kl,d,f]:=h.kA (o:=.Ν kd) (jc (a:=a));obtain⟨⟨-,-,-,-,n1⟩,⟨-,-,-,n2⟩,⟨-,-,k⟩,⟨-,m⟩,g,i⟩:=y8 h.jQ
 rwa[j,ST h.hR,mt n2 h.hW,ul k h.hG,ut m h.hE,ue g h.hC,aj,h.rR.Ŋ λq x _ l e=>e.jD f (Z1 l),h.rW.Ŋ λq x b _ e=>d β (dW b) e,h.rG.Ŋ λq x b _ e=>d β (hV b) e,h.rC.Ŋ λq x b _ e=>kl β (hU b) (i q b).2.2.2.2.2 e,h.flat,h.jQ,h.oX]
def aD.Nv (h:ſ){p:Zs}{l:Zh}(s:H p\.Ν Lm)(t:p∉a.ò):aD C (ψ H a.aC (.Ν (a.cs.Κ V.É++[?p]))) r { S with called:=S.called++[l] } { a with cs:=a.cs++[p] }:=by
 let[j,kl,f,n]:=h.kA (o:=.Ν (a.cs.Κ V.É++[?p])) (jE (a:=a));obtain⟨⟨-,-,-,n1,-⟩,⟨-,-,n2,-⟩,⟨-,k,-⟩,⟨m,-⟩,i,u⟩:=y8 h.jQ;let d:p≠a.aC:=λz=>t ([z]▸jE)
 let c:ψ H a.aC (.Ν (a.cs.Κ V.É++[?p])) p\(.Ν Lm):=by rw[aq d];rwa[s]
 rwa[j,ST h.hR,mt n2 h.hW,ul k h.hG,ut m h.hE,5,js i.Τ h.hN,h.rR.Ŋ λq x _ g e=>e.jD n (Z1 g),h.rW.Ŋ λq x b _ e=>f β (dW b) e,h.rG.Ŋ λq x b _ e=>f β (hV b) e,(h.rC.Ŋ λq x b _ e=>kl β (hU b) (u q b).2.2.2.2.1 e).ċ c,h.flat,5,h.oX]
 .rw[aj,aoE];rfl
 .rwa[apb.mpr {h.jQ,by simp,λx g y v z=>?_}]
  cbv
def aD.Nw (h:ſ){i:η}{p:Zs}(f:a.cs[i]?\p)(l:Zh):aD C (WA (.Ν Lm)) r { S with called:=S.called.set i l } a:=by
 let g:=aoi f;let[k,kl,d,t]:=h.kA (o:=.Ν Lm) (hU g);obtain⟨-,-,-,-,-,w⟩:=y8 h.jQ;let[n1,n2,m,s,j,u]:=w p g
 let c:a.cs.Á:=by have:=h.jQ;unfold RA.ò at Δ;simp only[ao0]at Δ;rwa[Δ.2.2.2.2.2.2]
 rwa[k,ϖ gZ n1.Τ h.hR,mt n2.Τ h.hW,ul m.Τ h.hG,ut s.Τ h.hE,ue j.Τ h.hC,js u.Τ h.hN,h.rR.Ŋ λq x _ v e=>e.jD t (Z1 v),h.rW.Ŋ λq x b _ e=>d β (dW b) e,h.rG.Ŋ λq x b _ e=>d β (hV b) e,h.rC.set f aj c λq y b n e=>kl β (hU b) n e,h.flat,h.jQ,h.oX]
def aD.Ii (h:ſ){q:Zs}{o:HO}(c:q∈a.fF):ψ H q o r\.ins C a.dx (tz S.q a)/\(∀b x,b∈a.fF->b≠q->H b\x->ψ H q o b\x)/\(∀b x,b∈a.ò->H b\x->ψ H q o b\x)/\∀b d,H b\.Ò d->ψ H q o b\(.Ò d):={[aq (h.rd c)]▸h.ins,λb x _ n e=>[aq n]▸e,λb x f e=>[aq (h.ld f c)]▸e,λb d e=>[aq (h.td e c)]▸e}
def aD.Ew (h:ſ){i:η}{p:Zs}(c:a.ws[i]?\p)(l:θ (π×η)):aD C (WA (.dK (wK l))) r { S with ways:=S.ways.set i l } a:=by
 let d:=aoi c;let[j,f,kl,g]:=h.Ii (o:=.dK (wK l)) (dW d);let nd:=apb.mp h.oX
 rwa[j,ϖ gZ h.hR,mt h.hW,ul h.hG,ut h.hE,ue h.hC,js h.hN,h.rR.Ŋ λq x _ k e=>e.jD g (Z1 k),h.rW.set c aj nd.1 λq y b n e=>f β (dW b) n e,h.rG.Ŋ λq x b _ e=>f β (hV b) (λz=>nd.2.2 p d q b z.Τ) e,h.rC.Ŋ λq x b _ e=>kl β (hU b) e,h.flat,h.jQ,h.oX]
def aD.YY (h:ſ){i:η}{p:Zs}(c:a.gs[i]?\p)(l:Zg):aD C (WA (.dK (gK l))) r { S with gaps:=S.gaps.set i l } a:=by
 let d:=aoi c;let[j,f,kl,g]:=h.Ii (o:=.dK (gK l)) (hV d);let nd:=apb.mp h.oX
 rwa[j,ϖ gZ h.hR,mt h.hW,ul h.hG,ut h.hE,ue h.hC,js h.hN,h.rR.Ŋ λq x _ k e=>e.jD g (Z1 k),h.rW.Ŋ λq x b _ e=>f β (dW b) (λz=>nd.2.2 q b p d z) e,h.rG.set c aj nd.2.1 λq y b n e=>f β (hV b) n e,h.rC.Ŋ λq x b _ e=>kl β (hU b) e,h.flat,h.jQ,h.oX]
end
def RS.ml (S:RS)(i:η)(l:θ (π×η)):RS:={ S with ways:=S.ways.set i l }
def RS.setG (S:RS)(i:η)(l:Zg):RS:={ S with gaps:=S.gaps.set i l }
def RS.way (S:RS)(c:η):θ (π×η):=S.ways.á c []
def RS.gap (S:RS)(c:η):Zg:=S.gaps.á c []
def RS.by (S:RS)(c:η)(z:π):Zi:=fZ ϰ z
def RS.cK (S:RS)(c:η)(z:π)(d:η):RS:=S.ml c gh
def RS.ou (S:RS)(c:η)(z:π):RS:=S.setG c ((S.gap c).Ö λx=>decide (x≠z))
def RS.Ï (S:RS)(c:η)(z:π)(d:η):RS:=(((GE d).cK d (-z) c).ou c z).ou d (-z)
def um (c:η)(z:π)(n:η):Dt:=.t [.s [110,101,119],.i c,.i z,.i n]
def RS.Ģ (S:RS)(c:η)(z:π)(gaps:Zg):RS:={ S with q:=S.q+ 1,rows:=S.rows++[um c z S.q],ways:=S.ways++[[]],gaps:=S.gaps++[gaps],bu:=S.bu++[S.q],called:=S.called++[[S.q]] }
def RS.Ę (S:RS)(c:η)(z:π)(gaps:Zg):RS:=(S.Ģ c z gaps).Ï c z S.q
def RS.new (L:η)(gaps:Zg):RS:={L,(1),[],[[]],[gaps],[0],[[0]],[]}
structure RS.Wf (S:RS):ο where
 w:@S.ways=S.q
 g:@S.gaps=S.q
 e:@S.bu=S.q
 c:@S.called=S.q
section
variable {X:Cx}{e:Expr}{f:Str}{ta:TE}{pos:Pos}
def WH {K:Za1}(a:X.K=K)(b:PE X e ta)(c:Đ e f X.env Z7=å e X.env):PE X (.â e f pos) (X4 K ta f):=by subst a;rwa[aI b c]
end
def iw {J:It}{u:St}{o:TE}{Q:VK}(n:η)(t:η->V)(R:Hp->V->η->ο)(G:∀q a v i,ao q a->R q v i->R a v i)(p:n<=Ε)(k:∀(i:η) a,Q1 a->i<n->J.go i a)(C:∀(i:η) (x:V) (a c:Hp),Q1 a->i<n->J.tm i a x c->c=a/\x=t i)(f:∀a,Q1 a->J.stop n a)(E:∀(i:η) (a:Hp) (y:VK),i<n->ao H a->(∀v c,ao a c->R c v i->y v c)->o (ι (t i)::u) a y)(z:∀D a ys,Q1 a->a D=ε->@ys=n->(∀(i:η) (v:V),ys[i]?\v->R a v i)->Q ?D (ψ a D (.Ν ys))):oQ o u Q J H:=by
 erw[λi m ys a=>m=n - i/\i<=n/\@ys=i/\ao H a/\∀(j:η)(v:V),ys[j]?\v->R a v j,⟨n,by simp,aoN _,2,λ_ _ e=>e,λj v h=>by simp at h⟩];rintro i m ys a ⟨rfl,M,r,s2,s⟩;cases b:i<n
 .rwa[.Ç {k i a s2 b,3,λx c g=>?_}];let[Ų,Ų]:=C i x a c s2 b g;rwa[E i β b s2 λv L l F=>{n - (i+ 1),32,b,by rw[aoj,r];rfl,s2.ν l,λj w d=>?_}]
  cases I:j<@ys
  .rw[aoq I]at d;rwa[G δ l (s j w d)]
  .rw[aoz ∅]at d
   let B:j - @ys=0:=by have:=(aoh.mp d).1;rw[apL]at Δ;ext
   rw[B]at d;have:j=i:=∅
   subst Δ;rw[<-Za0 d];rwa[F]
 .let e:i=n:=∅
  subst e;rwa[.Α {f a s2,3,λD A=>z D a ys s2 A r s}]
theorem A3 {P:η->Zs->ο}:∀(ys:Zb)(k:η),(∀(i:η)(v:V),ys[i]?\v->∃p,v=?p/\P (k+ i) p)->∃a:Zn,ys=a.Κ V.É/\∀(i:η)(p:Zs),a[i]?\p->P (k+ i) p
 |[],_,_=>{[],2,λi p h=>by simp at h}
 |v::ys,k,h=>by
  let[p,Ų,f]:=h 0 v rfl
  let[a,Ų,b]:=A3 (P:=P) ys (k+ 1) λi w c=>by
   let[q,e,d]:=h (i+ 1) w (by simpa using c)
   cbv
  rwa[p::a,2,λi q d=>?_]
  cases i with
  |Ŀ=>cbv
  |ŧ i=>cbv
theorem kB {f:Ñ}{v:V}{n:η}:∀{fs:θ (Ñ×V)},@fs<=n->@(Pe fs)<=n+ 1
 |[],h=>by show 1<=n+ 1;ext
 |(g,x)::r,h=>by
  show @(if g=f then (g,v)::r else (g,x)::bP f v r)<=n+ 1;rw[aoA]at h;split
  .rw[aoA];ext
  .have:=kB (f:=f) (v:=v) (n:=n - 1) (fs:=r) ∅;rw[aoA];ext
def De (K:Za1):ľ K (.Â Z0) (.Â ŷ)\ς:=by first|rfl|kernel_rfl
def Ey (K:Za1):ľ K (.Â Z0) (.Â ż)\ς:=by first|rfl|kernel_rfl
def Ez (K:Za1):ľ K (.Â Z0) (.Â ϲ)\ς:=by first|rfl|kernel_rfl
def Df (K:Za1):ľ K (.Â ZU) (.Â ŷ)\ς:=by first|rfl|kernel_rfl
def EA (K:Za1):ľ K (.Â ZU) (.Â ż)\ς:=by first|rfl|kernel_rfl
def EB (K:Za1):ľ K (.Â ZU) (.Â ϲ)\ς:=by first|rfl|kernel_rfl
theorem uo {P:Í}{w:à}:∀{d:θ Ļ}{f:θ (Key×Zt)}{c:θ (Key×V)},Pairs Os d f->KV c f->ä (c.Κ λi=>kV i.1) (d.Κ (·.key))
 |[],_,_,.nil,r=>by ext r;rwa[.nil]
 |e::d,_,_,.È g j h,r=>by
  cases r with
  |È a b=>rw[apF,apF];rwa[.È ?_ (uo h b)];rw[a.1];rwa[Wy g]
theorem pairs_len {P:Í}{w:à}:∀{a:θ Ļ}{b:θ (Key×Zt)},Pairs Os a b->@a=@b
 |_,_,.nil=>rfl
 |_,_,.È β h=>by rw[aoA,aoA,pairs_len h]
section
variable {X:Cx}
inductive Nx (xs:Zb)(H:Hp)(Q:VK):ο
 |mk (d:Zs)(kvs:θ (Key×V)):xs=[?d]->H d\.dK kvs->(∀l,H l=ε->Q ?l (ZP (.Ν (kvs.Κ λkv=>kV kv.1))))->Nx xs H Q
def lC (O:X.calm=ρ):gY X (.Â ż) Nx:=by
 intro w s U H S Y Q I r h;let[d,c,Ų,x,q]:=h;let[u,Ų,G]:=vals1 r;ext G;let[C,n,A,rel,o,g,W,E,k,e,R,t,V]:=vH I.a0 x;let æ:@c=@A:=@rel;let m:=pairs_len t;let D:g.Υ=@c:=by rw[<-aqm,m,æ]
 rwa[Dk.Nk (I.ok.hd O) n {o,E,k,e} ∅ λF z a y l f b=>?_]
 let N:a.Ć=g.Ć.Κ (·.key):=by
  rwa[apR λi=>?_]
  rw[aq6,aon,aq6]
  cases j:a[i]? with
  |ε=>
   let L:g.Υ<=i:=by let p:a.Υ<=i:=Ė.getElem?_eq_none_iff.mp j;rw[b.1]at p;rwa[p]
   rw[Ė.getElem?_eq_none L];rfl
  |ι v=>let[T,M,Ų]:=b.2 i v j;rw[M];rfl
 let B:a=(g.Ć.Κ (·.key)).χ:=by rw[<-N]
 rw[B]at f;let j:=uo t rel;rwa[↑↥s,_,I.ŭ (t':=z) l Ź (show cu X.À X.w _ F _ (.Ν (c.Κ λJ=>kV J.1)) from {[aog]▸C,_,y,j,f}),2,q _ (I.a0.ó Ź)]
end
section
variable {C:Zs}{H:Hp}{r:Zs}{S:RS}{a:RA}
def aD.YZ (h:ſ){i:η}(u:i<@a.ws){q:Zs}{l:θ (π×η)}(d:H q\.dK (wK l))(v:q∉a.fF):aD C (ψ H a.aW (.Ν ((a.ws.Κ V.É).set i ?q))) r { S with ways:=S.ways.set i l } { a with ws:=a.ws.set i q }:=by
 let[B,kl,m,F]:=h.kA (o:=.Ν ((a.ws.Κ V.É).set i ?q)) (hH (a:=a));obtain⟨⟨n1,-⟩,⟨n2,D,E,A⟩,-,-,-,P⟩:=y8 h.jQ;let g:ψ H a.aW (.Ν ((a.ws.Κ V.É).set i ?q)) q\(.dK (wK l)):=by rw[aq (bD d h.hW f!"")];rwa[d]
 let nd:=apb.mp h.oX
 erw[B,ST h.hR,5,ul n2.Τ h.hG,ut D.Τ h.hE,ue E.Τ h.hC,js A.Τ h.hN,h.rR.Ŋ λq x _ f e=>e.jD F (Z1 f),5,h.rG.Ŋ λq x d _ e=>m β (hV d) e,h.rC.Ŋ λq x d _ e=>kl β (hU d) (P q d).2.1 e,h.flat,h.jQ]
 .show ψ H a.aW _ a.aW\.Ν ((a.ws.set i q).Κ V.É);rw[aj,θ.map_set]
 .rwa[by show @(a.ws.set i q)=@(S.ways.set i l);rw[aoR,aoR];rwa[h.rW.1],λj p x N J=>?_];let b:(a.ws.set i q)[j]?\p:=N
  let c:(S.ways.set i l)[j]?\x:=J
  cases z:i=j
  .subst z;rw[ao9 u]at b;rw[ao9 (by rw[<-h.rW.1];rwa[u])]at c;obtain rfl:=Za0 b;obtain rfl:=Za0 c;rwa[g]
  .rw[apz z]at b c;rwa[m β (dW i8) (h.rW.2 j p x b c)]
 .show (a.ws.set i q++a.gs).Á;let L:q∉a.ws:=λz=>v (Of z)
  let n:q∉a.gs:=λz=>v (Q2 z)
  rwa[apb.mpr {5,nd.2.1,λx f y t z=>?_}]
  .have:∀(l:Zn)(i:η),l.Á->q∉l->(l.set i q).Á:=by
    intro l
    induction l with
    |nil=>intro i _ _;simp
    |È x l O=>
     intro i G k;let[M,s]:=ao0.mp G;let I:q≠x:=λz=>k ([z]▸aou)
     let w:q∉l:=λz=>k (JE z)
     cases i with
     |Ŀ=>exact ao0.mpr {w,s}
     |ŧ i=>
      rwa[ao0.mpr {λz=>?_,O i s w}];rcases aqx z with z|z
      .rwa[M z]
      .rwa[I z.Τ]
   rwa[Δ a.ws i nd.1 L]
  .rcases aqx f with f|f
   .rwa[nd.2.2 x f y t z]
   .rw[<-f,z]at n;rwa[n t]
end
def WK (l:θ (π×η))(s:π):fT (wK l) Ϟ=wK (l.Ö λp=>decide (p.1≠s)):=by
 unfold fT wK;rw[θ.filter_map]
 congr 1
 rwa[aql λx _=>?_]
 cbv
def Ny (l:θ (π×η))(s t:π):fZ (l.Ö λp=>decide (p.1≠s)) t=if t=s then ε else fZ l t:=by
 induction l with
 |nil=>split <;> rfl
 |È p l a=>
  let b:∀(q:π×η)(m:θ (π×η)),fZ (q::m) t=if q.1=t then ι q.2 else fZ m t:=λq m=>by
   unfold fZ
   cbv
  cbv
abbrev Way:=Nat×Int×Nat
abbrev Ze:=List Way
def RS.az (S:RS)(c:η):η:=S.bu.á c 0
def RS.cL (S:RS)(c:η):Zh:=S.called.á c []
def iV (c:η)(z:π)(x y:η):Dt:=.t [.s [109,101,101,116],.i c,.i z,.i x,.i y]
def RS.ç (S:RS)(c:η)(z:π)(x y:η):RS:={ S with rows:=S.rows++[PP x y],bz:=S.bz++[y],bu:=(S.cL y).ă (λa n=>a.set n x) S.bu,called:=S.called.set x (S.cL x++S.cL y) }
def RS.qY (S:RS)(c:η)(z:π):RS:=S.ml c ((S.way c).Ö λp=>decide (p.1≠z))
def kF (c:η)(st:RS×Ze)(p:π×η):RS×Ze:=(if p.2≠c then st.1.qY p.2 (-p.1) else st.1,st.2++[(c,p.1,p.2)])
def RS.qZ (S:RS)(c:η)(a:Ze):RS×Ze:=(S.way c).ă (kF c) (S.ml c [],a)
def RS.đ (S:RS)(c:η)(z:π)(x y:η)(a:Ze):RS×Ze:=(S.ç c z ϡ Ž).qZ Ž a
def RS.í (S:RS)(a:Ze)(w:Way):RS×Ze:=
 if (S.by (S.az w.1) w.2.1).á (S.az w.2.2)≠S.az w.2.2 then S.đ (S.az w.1) w.2.1 ((S.by (S.az w.1) w.2.1).á (S.az w.2.2)) (S.az w.2.2) a
 else if (S.by (S.az w.2.2) (-w.2.1)).á (S.az w.1)≠S.az w.1 then S.đ (S.az w.2.2) (-w.2.1) ((S.by (S.az w.2.2) (-w.2.1)).á (S.az w.1)) (S.az w.1) a
 else (S.Ï (S.az w.1) w.2.1 (S.az w.2.2),a)
structure Kp (S:RS)(c:η):ο where
 nd:((S.way c).Κ (·.1)).Á
 lt:∀q∈S.way c,q.2<S.q
 bk:∀q∈S.way c,q.2≠c->(S.by q.2 (-q.1)).ě=ρ
def kc {l:θ (π×η)}(a:n<@S.ways):(S.ml n l).way m=if m=n then l else S.way m:=by
 unfold RS.ml RS.way
 cbv
def kH (a:n<@S.ways):(S.cK n z i).by m y=if m=n/\y=z then ι i else S.by m y:=by
 unfold RS.cK RS.by;rw[kc a];cases h:m=n
 .subst h;rw[aoO Ų,RD]
  cbv
 cbv
def Kq (a:n<@S.ways):(S.qY n z).by m y=if m=n/\y=z then ε else S.by m y:=by
 unfold RS.qY RS.by;rw[kc a];cases h:m=n
 .subst h;rw[aoO Ų,Ny]
  cbv
 .rw[aoK h,aoK (λq=>h q.1)]
def WL {l:θ (π×η)}(a:n<@S.ways):(S.ml n l).by m z=if m=n then fZ l z else S.by m z:=by unfold RS.by;rw[kc a];split <;> rfl
def dv (c:η)(S:RS)(a:Ze)(b:θ (π×η)):RS×Ze:=b.ă (kF c) (S.ml c [],a)
def jl (c:η)(S:RS)(a:Ze)(b:θ (π×η))(p:π×η):dv c S a (b++[p])=kF c (VI a b) p:=by unfold dv;cbv
def snoc_ind {b:Type}{P:θ b->ο}(f:P [])(d:∀l x,P l->P (l++[x])):∀l,P l:=λl=>by
 have:∀n (l:θ b),@l=n->P l:=by
  intro n
  induction n with
  |Ŀ=>cbv
  |ŧ n c=>
   intro l e;let a:l≠[]:=λz=>by rw[z]at e;ext e
   rw[<-ap5 a];rwa[d^(c _ (by rw[θ.length_dropLast];omega))]
 rwa[Δ _ l Ų]
def Cj (c:η)(S:RS)(a:Ze):∀b:θ (π×η),(VI a b).2=a++b.Κ λp=>(c,p.1,p.2):=by
 rwa[snoc_ind (by simp[dv]) λb p d=>?_]
 rw[jl];show (VI a b).2++_=_
 cbv
def iz (c:η)(S:RS)(a:Ze):∀b:θ (π×η),(VI a b).1.ways.ü=@S.ways/\(VI a b).1={ S with ways:=(VI a b).1.ways }:=by
 rwa[snoc_ind {by simp[dv,RS.ml],2} λb p d=>?_]
 rw[jl];unfold kF;cases h:p.2≠c
 .simp only[h,arV,aqF,ne_eq];erw[5]
  .show @(θ.set^_)=_;rw[aoR];rwa[d.1]
  .unfold RS.qY RS.ml;rw[d.2]
 .simp only[h,ar3];rwa[d]
def A4 {c:Ze}(m:n<@S.ways):∀f:θ (π×η),(∀q∈f,q.2<@S.ways)->∀d z,(dv n S c f).1.by d z=if d=n\/∃q∈f,q.2=d/\z= -q.1 then ε else S.by d z:=by
 rwa[snoc_ind (λ_ d z=>?_) λf p l i d z=>?_]
 .show (S.ml n []).by d z=_;rw[WL m];cases h:d=n
  .rw[aoO h,aoO (.Α h)];rfl
  cbv
 .let g:=l (λq a=>i q (Of a)) d z;let j:=i p Fr;rw[jl];unfold kF;cases h:p.2≠n
  .simp only[h,arV,aqF,ne_eq];rw[Kq ([(iz n S c f).1]▸j),g];cases e:d=p.2/\z= -p.1
   .rw[aoO e,aoO (.Ç {p,Q2 aou,e.1.Τ,e.2})]
   .rw[aoK e];cases b:d=n\/∃q∈f,q.2=d/\z= -q.1
    .rw[aoO b,aoO (b.Ŋ id λζ=>by let[q,a,r]:=ζ;rwa[q,Of a,r])]
    .rw[aoK b,aoK];rintro (q|⟨q,a,r⟩)
     .rwa[b (.Α q)]
     .rcases aov.mp a with a|a
      .rwa[b (.Ç {q,a,r})]
      .rw[aok.mp a]at r;rwa[e {r.1.Τ,r.2}]
  .simp only[h,ar3];rw[g];let k:p.2=n:=arp.mp h;cases b:d=n\/∃q∈f,q.2=d/\z= -q.1
   .rw[aoO b,aoO (b.Ŋ id λζ=>by let[q,a,r]:=ζ;rwa[q,Of a,r])]
   .rw[aoK b,aoK];rintro (q|⟨q,a,r⟩)
    .rwa[b (.Α q)]
    .rcases aov.mp a with a|a
     .rwa[b (.Ç {q,a,r})]
     .rw[aok.mp a]at r;rwa[b (.Α (r.1.Τ.ν k))]
inductive Cg (R:Za2):η->η->ο where
 |Ł (a:η):Cg R a a
 |Τ {a b:η}:Cg R a b->Cg R b a
 |ν {a b c:η}:Cg R a b->Cg R b c->Cg R a c
 |ı {a a' b b':η} {z:π}:R a z b->R a' z b'->Cg R a a'->Cg R b b'
def Cg.mono {e:Za2}(h:∀a z b,ZI b->e a z b){a b:η}(c:Cg R a b):Cg e a b:=by
 induction c with
 |Ł=>exact .Ł _
 |Τ _ d=>exact .Τ d
 |ν _ _ f g=>exact .ν f g
 |ı r1 r2 _ d=>exact .ı (h γ r1) (h γ r2) d
def Im (S:RS)(R:Za2)(c:η)(z:π)(d:η):ο:=∃a b,ZI b/\S.az a=c/\S.az b=d
def Ck (S:RS)(a:Ze)(c:η)(z:π)(d:η):ο:=S.by c z=ι d\/∃w∈a,(S.az w.1=c/\w.2.1=z/\S.az w.2.2=d)\/(S.az w.1=d/\w.2.1= -z/\S.az w.2.2=c)
structure Ø (S:RS)(Ë:Ze)(R:Za2):ο where
 wf:S.Wf
 el:∀c,c<S.q->S.az c<=c/\S.az KO=S.az c
 ca:∀e,e<S.q->S.az e=e->∀c,c∈S.cL e↔c<S.q/\S.az c=e
 cb:∀e c,c∈S.cL e->c<S.q
 cn:∀e,(S.cL e).Á
 kn:∀c,((S.way c).Κ (·.1)).Á
 st:∀c z d,S.by c z=ι d->c<S.q/\d<S.q/\S.az c=c/\S.az d=d
 sy:∀c z d,S.by c z=ι d->S.by d (-z)=ι c
 pl:∀w∈Ë,w.1<S.q/\w.2.2<S.q
 rl:∀c z d,ze d->c<S.q/\d<S.q/\R d (-z) c
 cv:∀c z d,ze d->Ck S Ë KO z (S.az d)
 so:∀c z d,S.by c z=ι d->Im S R c z d
 sp:∀w∈Ë,Im S R (S.az w.1) w.2.1 (S.az w.2.2)
 cg:∀c,c<S.q->Cg R c KO
section
variable {S:RS}{pend:Ze}{R:Za2}
def Ø.lt (h:ZA){c:η}(hc:c<S.q):S.az c<S.q:=aop (h.el c hc).1 hc
def Im.back (h:ZA){c d:η}{z:π}(i:Im S R c z d):Im S R d (-z) c:=by let[b,e,r,a,f]:=i;rwa[e,b,(h.rl γ r).2.2,f,a]
def Ø.must (h:ZA){c x y:η}{z:π}(i:Im S R c z x)(j:Im S R c z y):Cg R x y:=by let[p,n,r1,e,l]:=i;let[m,o,r2,f1,d]:=j;let[g,l2,_]:=h.rl γ r1;let[k,f,_]:=h.rl γ r2;let a1:=h.cg _ g;let a2:=h.cg _ l2;let a:=h.cg _ k;let b:=h.cg _ f;rw[e]at a1;rw[l]at a2;rw[f1]at a;rw[d]at b;rwa[a2.Τ.ν ((Cg.ı r1 r2 (a1.ν a.Τ)).ν b)]
def Ø.Ï (h:ZA){c d:η}{z:π}(hc:c<S.q)(hd:d<S.q)(B:S.az c=c)(ed:S.az d=d)(i:Im S R c z d)(I:S.by c z=ε\/S.by c z=ι d)(G:S.by d (-z)=ε\/S.by d (-z)=ι c){f:Ze}(v:∀w∈f,w∈Ë)(A:∀w∈Ë,w∉f->S.az w.1=c/\w.2.1=z/\S.az w.2.2=d):Ø (S.Ï c z d) f R:=by
 let o:c<@S.ways:=by rw[h.wf.w];rwa[hc]
 let n:d<@S.ways:=by rw[h.wf.w];rwa[hd]
 let k:∀a s,(S.Ï c z d).by a s=if a=d/\s= -z then ι c else if a=c/\s=z then ι d else S.by a s:=λa s=>by show ((GE d).cK d (-z) c).by a s=_;rw[kH (by show d<@(S.ways.set c _);rw[aoR];rwa[n]),kH o]
 let old:∀a s b,S.by a s=ι b->(S.Ï c z d).by a s=ι b:=λa s b e=>by
  rw[k];cases g:a=d/\s= -z
  .rw[aoO g];let[Ų,Ų]:=g;rcases G with q|q <;> rw[q]at e <;> ext e
   rfl
  .rw[aoK g];cases j:a=c/\s=z
   .rw[aoO j];let[Ų,Ų]:=j;rcases I with q|q <;> rw[q]at e <;> ext e
    rfl
   .rw[aoK j];rwa[e]
 let el:∀a,(S.Ï c z d).az a=S.az a:=λa=>rfl
 let new:∀a s b,(S.Ï c z d).by a s=ι b->(a=d/\s= -z/\b=c)\/(a=c/\s=z/\b=d)\/S.by a s=ι b:=λa s b e=>by
  rw[k]at e;cases g:a=d/\s= -z
  .rw[aoO g]at e;rwa[.Α {g.1,g.2,(Za0 e).Τ}]
  .rw[aoK g]at e;cases j:a=c/\s=z
   .rw[aoO j]at e;rwa[.Ç (.Α {j.1,j.2,(Za0 e).Τ})]
   .rw[aoK j]at e;rwa[.Ç (.Ç e)]
 let m:(S.Ï c z d).by d (-z)=ι c:=by rw[k,aoO {22}]
 let put2:(S.Ï c z d).by c z=ι d:=by
  rw[k];cases g:c=d/\z= -z
  .rw[aoO g,g.1]
  .rw[aoK g,aoO {22}]
 let t:∀(l:θ (π×η))(s:π)(r:η),(l.Κ (·.1)).Á->((lB l s r).Κ (·.1)).Á:=λl s r C=>by
  unfold lB;split
  .rw[ao4]
   have:((λx:π×η=>x.1) ∘ λp:π×η=>if p.1=s then (p.1,r) else p)=λx=>x.1:=by
    funext p
    show (if p.1=s then (p.1,r) else p).1=p.1;split <;> rfl
   rw[Δ];rwa[C]
  .rename_i q;rw[aoE];rwa[apb.mpr {C,by simp,λa L b H e=>q ?_}];let[p,v,Ų]:=ao1.mp L;have:b=s:=by simpa using H
   rwa[θ.any_eq_true.mpr {p,v,aoP (e.ν Δ)}]
 rwa[{55,h.wf.e,h.wf.c},h.el,h.ca,h.cb,h.cn,λa=>?_,λa s b e=>?_,λa s b e=>?_,λw u=>h.pl w (v w u),h.rl,λa s b r=>?_,λa s b e=>?_,λw u=>h.sp w (v w u),h.cg]
 .show @((θ.set^_).set β)=S.q;rw[aoR,aoR];rwa[h.wf.w]
 .show @((θ.set^_).set β)=S.q;rw[aoR,aoR];rwa[h.wf.g]
 .show ((((GE d).cK d (-z) c).way a).Κ (·.1)).Á;unfold RS.cK;rw[kc (by show d<@(S.ways.set c _);rw[aoR];rwa[n])]
  let k1:∀a,(((S.ml c gh).way a).Κ (·.1)).Á:=λa=>by
   rw[kc o];split
   .rwa[t γ (h.kn c)]
   .rwa[h.kn a]
  split
  .rwa[t γ (k1 d)]
  .rwa[k1 a]
 .rcases new a s b e with ⟨rfl,Ų,rfl⟩|⟨rfl,Ų,rfl⟩|e
  .rwa[hd,hc,ed,B]
  .rwa[hc,hd,B,ed]
  .rwa[h.st a s b e]
 .rcases new a s b e with ⟨rfl,Ų,rfl⟩|⟨rfl,Ų,rfl⟩|e
  .rw[aqh];rwa[put2]
  .rwa[m]
  .rwa[old γ (h.sy γ e)]
 .rcases h.cv a s b r with q|⟨w,u,q⟩
  .rwa[.Α (old γ q)]
  .cases E:w∈f
   .rwa[.Ç {w,E,q}]
   .let[f1,D,F]:=A w u E;rwa[.Α ?_];show (S.Ï c z d).by (S.az a) s=ι (S.az b);rcases q with ⟨g,j,y⟩|⟨g,j,y⟩
    .rw[<-g,<-j,<-y,f1,D,F];rwa[put2]
    .let J:s= -z:=by rw[<-D,j,aqh]
     rw[<-g,<-y,f1,F,J];rwa[m]
 .rcases new a s b e with ⟨rfl,Ų,rfl⟩|⟨rfl,Ų,rfl⟩|e
  .rwa[Im.back h i]
  .rwa[i]
  .rwa[h.so a s b e]
end
theorem EC (x:η):∀(l b:Zh)(a:η),(∀n∈l,n<@b)->(l.ă (λb n=>b.set n x) b).á a 0=if a∈l then x else b.á a 0
 |[],b,a,_=>by simp
 |n::l,b,a,h=>by
  rw[aqd,EC x l (b.set n x) a (λm c=>[aoR]▸h m (JE c))]
  cbv
theorem Cm (x:η):∀(l a:Zh),@(l.ă (λa n=>a.set n x) a)=@a
 |[],_=>rfl
 |n::l,a=>by rw[aqd,Cm x l,aoR]
def ur {l:θ (π×η)}{r:η}(h:fZ l z\r):(z,r)∈l:=by
 let[q,a,Ų]:=apH.mp h
 cbv
def kI {l:θ (π×η)}(a:(l.Κ (·.1)).Á){q:π×η}(h:q∈l):fZ l q.1\q.2:=by
 induction l with
 |nil=>ext h
 |È p l b=>
  unfold fZ;rw[apF,ao0]at a;cases e:p.1=q.1
  .cbv
  .rw[aqZ (by simpa using e)];rcases aoC.mp h with rfl|h
   .rwa[Ρ Ų e]
   .rwa[b a.2 h]
theorem oy:∀(n:η)(l:Zh),l.Á->(∀x∈l,x<n)->@l<=n
 |0,[],_,_=>aoo _
 |0,a::l,_,h=>Ρ (h a (aou ..)) ∅
 |n+ 1,l,b,h=>by
  cases c:n∈l
  .have:=oy n (l.erase n) (b.erase n) (λx d=>by cbv)
   rw[ap3 c]at Δ;ext
  .have:=oy n l b (λx d=>by cbv)
   ext
theorem uv:∀(k l:Zg),l.Á->(∀x∈l,x∈k)->@l<=@k
 |[],[],_,_=>aoo _
 |[],a::l,_,h=>by have:=h a aou;cbv
 |y::k,l,b,h=>by
  cases c:y∈l
  .have:=uv k (l.erase y) (b.erase y) (λx d=>by cbv)
   rw[ap3 c]at Δ;rw[aoA];ext
  .have:=uv k l b (λx d=>by cbv)
   rw[aoA];ext
def WM {Ë:Ze}(i:n<@S.ways)(e:∀a,((S.way a).Κ (·.1)).Á):∀c:θ (π×η),(∀q∈c,q.2<@S.ways)->∀a,(((dv n S Ë c).1.way a).Κ (·.1)).Á:=by
 rwa[snoc_ind (λ_ a=>?_) λc p g d a=>?_]
 .show (((S.ml n []).way a).Κ (·.1)).Á;rw[kc i];split
  .rwa[aqb]
  .rwa[e a]
 .let b:=g (λq f=>d q (Of f));rw[jl];unfold kF;cases h:p.2≠n
  .simp only[h,arV,aqF,ne_eq];unfold RS.qY;rw[kc ([(iz n S Ë c).1]▸d p Fr)];split
   .rwa[θ.Á.sublist (θ.Sublist.Κ _ aqq) (b p.2)]
   .rwa[b a]
  .simp only[h,ar3];rwa[b a]
section
variable {S:RS}{pend:Ze}{R:Za2}
def Ck.back (h:ZA){b:RS}{a:Ze}(sy:∀c z d,b.by c z=ι d->b.by d (-z)=ι c){c d:η}{z:π}(i:Ck b a c z d):Ck b a d (-z) c:=by
 rcases i with q|⟨w,j,q⟩
 .rwa[.Α (sy γ q)]
 .rwa[.Ç {w,j,?_}];rcases q with ⟨e,g,f⟩|⟨e,g,f⟩
  .rwa[.Ç {e,by rw[g,aqh],f}]
  .rwa[.Α {e,g,f}]
def Ø.đ (h:ZA){c x y:η}{z:π}(Y:S.by c z=ι x)(hy:y<S.q)(ey:S.az y=y)(hxy:x≠y)(iy:Im S R c z y){d:Ze}(hp:∀w∈d,w∈Ë)(hcv:∀w∈Ë,w∉d->(S.az w.1=c/\w.2.1=z/\S.az w.2.2=y)\/(S.az w.1=y/\w.2.1= -z/\S.az w.2.2=c)):
 Ø (S.đ c z x y d).1 (S.đ c z x y d).2 R/\(∀a,(S.đ c z x y d).1.az a=if S.az a=max x y then min x y else S.az a)/\(S.đ c z x y d).2=d++(S.way Ž).Κ (λp=>(max x y,p.1,p.2)):=by
 let[hc,hxm,ec,ex]:=h.st γ Y;let A:Cg R x y:=h.must (h.so γ Y) iy;let Q:min x y<S.q:=∅
 let F:max x y<S.q:=∅
 let J:min x y<max x y:=∅
 let T:S.az ϡ=min x y:=by rcases arh x y with q|q;rw[aqf ∅];rwa[ex];rw[arz ∅];rwa[ey]
 let N:S.az Ž=max x y:=by rcases arh x y with q|q;rw[arZ ∅];rwa[ey];rw[arS ∅];rwa[ex]
 let L:x=min x y\/x=max x y:=∅
 let H:y=min x y\/y=max x y:=∅
 let j:Cg R Ž ϡ:=by
  rcases arh x y with q|q
  .rw[arZ (by omega),aqf (by omega)];rwa[A.Τ]
  .rw[arS ∅,arz ∅];rwa[A]
 unfold RS.đ;change max x y=v at F J N L H j ⊢;change min x y=u at Q J T L H j ⊢;let I:v<@S.ways:=by rw[h.wf.w];rwa[F]
 let O:∀q∈S.way v,q.2<@S.ways:=λq E=>by rw[h.wf.w];rwa[(h.st v q.1 q.2 bg).2.1]
 let hP:((S.ç c z u v).qZ v d)=dv v (S.ç c z u v) d OM:=rfl;rw[hP];let ī:=iz v (S.ç c z u v) d OM;let byJ:∀a s,(S.ç c z u v).by a s=S.by a s:=λa s=>rfl
 let Nz:∀a s,(dv v (S.ç c z u v) d OM).1.by a s=if a=v\/S.by a s=ι v then ε else S.by a s:=λa s=>by
  rw[A4 (S:=S.ç c z u v) I _ O,byJ]
  have:(a=v\/∃q∈S.way v,q.2=a/\s= -q.1)↔(a=v\/S.by a s=ι v):=by
   rwa[or_congr Iff.rfl {5,λe=>?_}]
   .rintro ⟨q,E,Ų,rfl⟩;rwa[h.sy γ bg]
   .have:=ur (h.sy γ e);rwa[_,Δ,2,(aqh s).Τ]
  simp only[Δ]
 let o:(dv v (S.ç c z u v) d OM).2=d++(S.way v).Κ λp=>(v,p.1,p.2):=Cj δ
 let G:=WM (S:=S.ç c z u v) (Ë:=d) I h.kn OM O
 let heq:∀a,(dv v (S.ç c z u v) d OM).1.az a=if S.az a=v then u else S.az a:=λa=>by
  rw[ī.2];show ((S.cL v).ă (λD n=>D.set n u) S.bu).á a 0=_;rw[EC u γ (λn hn=>[h.wf.e]▸h.cb v n hn)];cases i:a<S.q
  .have:=h.ca v F N a;cases e:S.az a=v
   .cbv
   .rw[aoK (λq=>e (Δ.mp q).2),aoK e];rfl
  .let P:S.az a=0:=by unfold RS.az;rw[aom,aoG (by rw[h.wf.e];omega)];rfl
   rw[aoK (λq=>i (h.cb v a q)),aoK ∅];rfl
 let k:∀e,(dv v (S.ç c z u v) d OM).1.cL e=if e=u then S.cL u++S.cL v else S.cL e:=λe=>by
  rw[ī.2];show (S.called.set u (S.cL u++S.cL v)).á e []=_;rw[aom];cases q:e=u
  .subst q;rw[ao9 ([h.wf.c]▸Q),aoO Ų];rfl
  .rw[apz (apE q),aoK q];unfold RS.cL;cbv
 let f:(dv v (S.ç c z u v) d OM).1.q=S.q:=by rw[ī.2];rfl
 let M:(dv v (S.ç c z u v) d OM).1.Wf:=by
  erw[[ī.1,f]▸h.wf.w,55]
  .rw[ī.2];rwa[h.wf.g]
  .rw[ī.2];show @((S.cL v).ă (λD n=>D.set n u) S.bu)=S.q;rw[Cm];rwa[h.wf.e]
  .rw[ī.2];show @(S.called.set u (S.cL u++S.cL v))=S.q;rw[aoR];rwa[h.wf.c]
 change (dv v (S.ç c z u v) d OM).2=P2 at o ⊢;change (dv v (S.ç c z u v) d OM).1=g at ī Nz G heq k f M ⊢;rwa[5,heq,o]
 let bo:∀a s b,g.by a s=ι b↔S.by a s=ι b/\a≠v/\b≠v:=λa s b=>by cbv
 let nv2:∀a,g.az (S.az a)=g.az a:=λa=>by
  rw[heq,heq];cases i:a<S.q
  .rw[(h.el a i).2]
  .let P:∀a,¬a<S.q->S.az a=0:=λa i=>by unfold RS.az;rw[aom,aoG (by rw[h.wf.e];omega)];rfl
   rw[P a i];have:S.az 0=0:=by have:=(h.el 0 ∅).1;ext
   rw[Δ]
 let l:∀{a b},S.az a=S.az b->g.az a=g.az b:=λ{a b} e=>by cbv
 let C:∀a s b,g.by a s=ι b->g.by b (-s)=ι a:=λa s b e=>by rw[bo]at e ⊢;rwa[h.sy γ e.1,e.2.2,e.2.1]
 let std:∀{a},S.az a=a->g.az a=if a=v then u else a:=λ{a} e=>by rw[heq,e]
 let ņ:∀p s q,S.by p s=ι q->Ck g P2 (g.az p) s (g.az q):=λp s q e=>by
  let[lp,lq,ep,eq]:=h.st γ e;cases h1:p=v
  .rwa[.Ç {(v,s,q),5,.Α {by rw[h1],22}}];rw[o];rw[h1]at e;rwa[Q2 (ao1.mpr {(s,q),ur e,2})]
  .cases h2:q=v
   .rwa[.Ç {(v,-s,p),5,.Ç {by rw[h2],22}}];rw[o];let e':=h.sy γ e;rw[h2]at e';rwa[Q2 (ao1.mpr {(-s,p),ur e',2})]
   .rwa[.Α ?_]
    cbv
 let eu2:g.az u=u:=by rw[std T,aoK ∅]
 let V:g.az v=u:=by rw[std N,aoO Ų]
 let exy:g.az x=g.az y:=by
  let t:g.az x=u:=by cbv
  let m:g.az y=u:=by cbv
  rw[t,m]
 let imq:∀{a b s},Im S R (S.az a) s (S.az b)->Im g R (g.az a) s (g.az b):=λ{a b s} ζ=>by let[a',b',r,e1,e2]:=ζ;rwa[a',b',r,l e1,l e2]
 rwa[M,λa i=>?_,λe he ee a=>?_,λe a i=>?_,λe=>?_,G,λa s b e=>?_,C,λw hw=>?_,λa s b r=>?_,λa s b r=>?_,λa s b e=>?_,λw hw=>?_,λa i=>?_]
 .rw[f]at i;let[U,l2]:=h.el a i;rw[heq]
  cbv
 .rw[f]at he ⊢;rw[k];let nev:e≠v:=λz=>by rw[z,V]at ee;ext
  cases q:e=u
  .subst q;rw[aoO Ų,aov,h.ca _ Q T,h.ca v F N,heq]
   cbv
  .rw[aoK q]
   let P:S.az e=e:=by
    rw[heq]at ee;cases B:S.az e=v
    .cbv
    .cbv
   rw[h.ca e he P,heq]
   cbv
 .rw[f];rw[k]at i;split at i
  .rcases aov.mp i with i|i
   .rwa[h.cb^i]
   .rwa[h.cb^i]
  .rwa[h.cb^i]
 .rw[k];split
  .rwa[apb.mpr {h.cn _,h.cn _,λa i b hb e=>?_}];let t:=((h.ca _ Q T a).mp i).2;let m:=((h.ca v F N b).mp hb).2;rw[e,m]at t;ext
  .rwa[h.cn _]
 .rw[bo]at e;let[U,l2,W,X]:=h.st γ e.1;rwa[[f]▸U,[f]▸l2,by rw[std W,aoK e.2.1],by rw[std X,aoK e.2.2]]
 .rw[f];rw[o]at hw;rcases aov.mp hw with hw|hw
  .rwa[h.pl w (hp w hw)]
  .let[q,E,Ų]:=ao1.mp hw;rwa[F,(h.st v q.1 q.2 bg).2.1]
 .rw[f];rwa[h.rl a s b r]
 .rcases h.cv a s b r with q|⟨w,hw,q⟩
  .cbv
  .cases hm:w∈d
   .rwa[.Ç {w,by cbv,?_}];rcases q with ⟨t,m,B⟩|⟨t,m,B⟩
    .rwa[.Α {l t,m,l B}]
    .rwa[.Ç {l t,m,l B}]
   .let Β:Ck g P2 (g.az c) z (g.az y):=by rw[<-exy];rwa[ņ γ Y]
    let one:∀{p q:η},S.az p=c->S.az q=y->g.az p=g.az c/\g.az q=g.az y:=λ{p q} e1 e2=>{by cbv,by cbv}
    rcases hcv w hw hm with ⟨f1,Z,f3⟩|⟨f1,Z,f3⟩
    .rcases q with ⟨t,m,B⟩|⟨t,m,B⟩
     .cbv
     .let[g1,g2]:=one (t.Τ.ν f1) (B.Τ.ν f3);let D:s= -z:=by rw[<-Z,m,aqh]
      rw[g1,g2,D];rwa[Ck.back h C Β]
    .rcases q with ⟨t,m,B⟩|⟨t,m,B⟩
     .let[g1,g2]:=one (B.Τ.ν f3) (t.Τ.ν f1);let D:s= -z:=by rw[<-m,Z]
      rw[g1,g2,D];rwa[Ck.back h C Β]
     cbv
 .rw[bo]at e;let[U,l2,W,X]:=h.st γ e.1;have:=h.so γ e.1
  cbv
 .rw[o]at hw;rcases aov.mp hw with hw|hw
  .rwa[imq (h.sp w (hp w hw))]
  .let[q,E,Ų]:=ao1.mp hw;let e:=kI (h.kn v) E;let[U,l2,W,X]:=h.st v q.1 q.2 e;have:=h.so γ e
   cbv
 .rw[f]at i;rw[heq];split
  .rename_i q;have:=h.cg a i;rw[q]at Δ;rwa[Δ.ν j]
  .rwa[h.cg a i]
end
def RS.Ď (S:RS):η:=(~~~S.q).countP λc=>decide (S.az c=c)
theorem oz {p p':η->ã}{v:η}(h:∀a,p' a=(p a && decide (a≠v)))(b:p v=ρ):∀n,(~~~n).countP p'+ (if v<n then 1 else 0)=(~~~n).countP p
 |0=>rfl
 |n+ 1=>by
  let c:=oz h b n;rw[apC,θ.countP_append,θ.countP_append,<-c];rw[θ.countP_singleton,θ.countP_singleton,h n];cases e:n=v
  .subst e;rw[b,aoK (ap7 n),aoO (apX n)];simp
  .have:decide (n≠v)=ρ:=aoP e;rw[Δ,ã.and_true];let d:(v<n+ 1)=(v<n):=propext {λ_=>∅,λ_=>∅};simp only[d];ext
def mu (k:η)(S:RS)(Ë:Ze):η:=S.Ď* (k+ 1)+ @Ë
section
variable {S:RS}{pend:Ze}{R:Za2}{w:Way}{ks:Zg}
def Ø.NB (h:ZA)(e:∀c z d,ze d->z∈ks)(c:η):@(S.way c)<=@ks:=by
 have:=uv ks ((S.way c).Κ (·.1)) (h.kn c) (λx g=>by let[q,f,Ų]:=ao1.mp g;let[a,b,r,_]:=h.so c q.1 q.2 (kI (h.kn c) f);rwa[e γ r])
 rw[aog]at Δ;rwa[Δ]
def Ø.Y0 (h:ZA)(c:η):@(S.cL c)<=S.q:=oy β (h.cn c) λx a=>h.cb c x a
def Ø.Χ (h:Ø S (Ë++[w]) R)(M:∀c z d,ze d->z∈ks):Ø (S.í Ë w).1 (S.í Ë w).2 R/\mu @ks (S.í Ë w).1 (S.í Ë w).2<mu @ks S (Ë++[w])/\(S.í Ë w).1.q=S.q/\(S.í Ë w).1.L=S.L/\
 ((S.í Ë w).1.Ď=S.Ď/\(S.í Ë w).1.rows=S.rows/\(S.í Ë w).1.bz=S.bz\/(S.í Ë w).1.Ď+ 1=S.Ď/\∃c z x y,S.by c z=ι x/\Im S R c z y/\y<S.q/\S.az y=y/\x≠y/\(S.í Ë w).1.rows=S.rows++[PP ϡ Ž]/\(S.í Ë w).1.bz=S.bz++[max x y]/\∀a,(S.í Ë w).1.az a=if S.az a=max x y then min x y else S.az a):=by
 let hw:=h.pl w Fr;let l:=h.sp w Fr;let hc:=h.lt hw.1;let hd:=h.lt hw.2;let m:=(h.el _ hw.1).2;let ed:=(h.el _ hw.2).2;let G:∀x∈Ë,x∈Ë++[w]:=λx j=>aoF _ j
 let last:∀x∈Ë++[w],x∉Ë->x=w:=λx j nx=>by cbv
 let met:∀{c x y:η}{z:π},S.by c z=ι x->y<S.q->S.az y=y->x≠y->Im S R c z y->((S.az w.1=c/\w.2.1=z/\S.az w.2.2=y)\/(S.az w.1=y/\w.2.1= -z/\S.az w.2.2=c))->
  Ø (S.đ c z x y Ë).1 (S.đ c z x y Ë).2 R/\mu @ks (S.đ c z x y Ë).1 (S.đ c z x y Ë).2<mu @ks S (Ë++[w])/\(S.đ c z x y Ë).1.q=S.q/\(S.đ c z x y Ë).1.L=S.L/\(S.đ c z x y Ë).1.Ď+ 1=S.Ď/\(S.đ c z x y Ë).1.rows=S.rows++[PP ϡ Ž]/\(S.đ c z x y Ë).1.bz=S.bz++[max x y]/\∀a,(S.đ c z x y Ë).1.az a=if S.az a=max x y then min x y else S.az a:=by
  intro c x y z j P E t Q C;let[g,H,N]:=h.đ j P E t Q G (λx j nx=>[last x j nx]▸C);let[hc,V,m,ex]:=h.st γ j;let b:=(iz Ž (S.ç c z ϡ Ž) Ë ((S.ç c z ϡ Ž).way Ž)).2
  let L:(S.đ c z x y Ë).1.q=S.q:=by show (dv Ž (S.ç c z ϡ Ž) Ë ((S.ç c z ϡ Ž).way Ž)).1.q=_;rw[b];rfl
  let O:(S.đ c z x y Ë).1.L=S.L:=by show (dv Ž (S.ç c z ϡ Ž) Ë ((S.ç c z ϡ Ž).way Ž)).1.L=_;rw[b];rfl
  let T:(S.đ c z x y Ë).1.rows=S.rows++[PP ϡ Ž]:=by show (dv Ž (S.ç c z ϡ Ž) Ë ((S.ç c z ϡ Ž).way Ž)).1.rows=_;rw[b];rfl
  let U:(S.đ c z x y Ë).1.bz=S.bz++[max x y]:=by show (dv Ž (S.ç c z ϡ Ž) Ë ((S.ç c z ϡ Ž).way Ž)).1.bz=_;rw[b];rfl
  let F:S.az Ž=max x y:=by rcases arh x y with q|q;rw[arZ ∅];rwa[E];rw[arS ∅];rwa[ex]
  let J:(S.đ c z x y Ë).1.Ď+ 1=S.Ď:=by
   unfold RS.Ď;rw[L]
   have:=oz (p:=λc=>decide (S.az c=c)) (p':=λa=>decide ((S.đ c z x y Ë).1.az a=a)) (v:=max x y) (λa=>by
    rw[H,aqn,apY,apD,apD,apD];cases q:S.az a=max x y
    .rw[aoO q];constructor
     .intro e;let k:S.az ϡ=min x y:=by rcases arh x y with q|q;rw[aqf ∅];rwa[ex];rw[arz ∅];rwa[E]
      rw[e]at k;ext
     .rintro ⟨W,k⟩;rwa[Ρ (W.Τ.ν q) k]
    .rw[aoK q];rwa[λe=>{e,λk=>q ([k]▸F)},λe=>e.1]) (aoP F) S.q
   rw[aoO ∅]at Δ;rwa[Δ]
  let X:=h.NB M Ž;rwa[g,5,L,O,J,T,U,H];unfold mu;rw[N,<-J,aoj,aoj,aog,ari,η.one_mul];ext
 unfold RS.í;cases i:(S.by (S.az w.1) w.2.1).á (S.az w.2.2)≠S.az w.2.2
 .rw[aoO i]
  cases e:S.by (S.az w.1) w.2.1 with
  |ε=>rw[e]at i;rwa[Ρ Ų i]
  |ι x=>rw[e]at i;let[B,D,r,u,s,A,o,n]:=met e hd ed i l (.Α {222});rwa[B,D,r,u,.Ç {s,11,x,_,e,l,hd,ed,i,A,o,n}]
 .rw[aoK i];cases f:(S.by (S.az w.2.2) (-w.2.1)).á (S.az w.1)≠S.az w.1
  .rw[aoO f]
   cases e:S.by (S.az w.2.2) (-w.2.1) with
   |ε=>rw[e]at f;rwa[Ρ Ų f]
   |ι x=>rw[e]at f;let I:=Im.back h l;let[B,D,r,u,s,A,o,n]:=met e hc m f I (.Ç {2,(aqh _).Τ,2});rwa[B,D,r,u,.Ç {s,11,x,_,e,I,hc,m,f,A,o,n}]
  .rw[aoK f]
   let k1:S.by (S.az w.1) w.2.1=ε\/S.by (S.az w.1) w.2.1=ι (S.az w.2.2):=by
    cases e:S.by (S.az w.1) w.2.1 with
    |ε=>exact .Α rfl
    |ι x=>rw[e]at i;rwa[.Ç (apW ι (arp.mp i))]
   let k2:S.by (S.az w.2.2) (-w.2.1)=ε\/S.by (S.az w.2.2) (-w.2.1)=ι (S.az w.1):=by
    cases e:S.by (S.az w.2.2) (-w.2.1) with
    |ε=>exact .Α rfl
    |ι x=>rw[e]at f;rwa[.Ç (apW ι (arp.mp f))]
   rwa[h.Ï hc hd m ed l k1 k2 G (λx j nx=>[last x j nx]▸{222}),522,.Α {222}];show S.Ď* _+ @Ë<S.Ď* _+ @(Ë++[w]);rw[aoj];have:@([w]:Ze)=1:=rfl;ext
def Ø.fin (h:Ø S [] R){a b:η}(i:a<S.q)(k:b<S.q):S.az a=S.az b↔Cg R a b:=by
 let det:∀{a d b g:η}{z:π},ZI b->R d z g->S.az a=S.az d->S.az b=S.az g:=λ{a d b g z} r1 r2 e=>by
  rcases h.cv _ _ _ r1 with p|⟨w,m,_⟩
  .rcases h.cv _ _ _ r2 with q|⟨w,m,_⟩
   .cbv
   cbv
  cbv
 constructor
 .intro e;let j:=h.cg a i;let n:=h.cg b k;rw[e]at j;rwa[j.ν n.Τ]
 .intro c;clear i k
  induction c with
  |Ł=>rfl
  |Τ _ f=>exact f.Τ
  |ν _ _ l o=>exact l.ν o
  |ı r1 r2 _ f=>exact det r1 r2 f
def Ø.ux (h:Ø S [] R){c d:η}{z:π}:S.by c z=ι d↔Im S R c z d:=by
 constructor
 .rwa[h.so c z d]
 .rintro ⟨b,e,r,Ų,rfl⟩;rcases h.cv _ _ _ r with q|⟨w,a,_⟩
  .rwa[q]
  cbv
end
def gb (R:Za2)(c:η)(z:π)(d:η):Za2:=λa s b=>R a s b\/(a=c/\s=z/\b=d)\/(a=d/\s= -z/\b=c)
def kf:∀a s b,R a s b->gb R n z m a s b:=λ_ _ _ r=>.Α r
def mq:gb R n z m n z m:=.Ç (.Α {222})
def sr (L:η)(g:Zg):Ø (ϝ g) [] (λ_ _ _=>Ð) where
 wf:={2222}
 el:=λc a=>by
  have:c=0:=by have:c<1:=a;ext
  subst Δ;rwa[aoo _,2]
 ca:=λe f _ c=>by
  have:e=0:=by have:e<1:=f;ext
  subst Δ;show c∈[0]↔c<1/\(ϝ g).az c=0
  cbv
 cb:=λe c a=>by
  have:(ϝ g).cL e=[0]\/(ϝ g).cL e=[]:=by
   rcases e with _|e
   .rwa[.Α Ų]
   .rwa[.Ç Ų]
  show c<1
  cbv
 cn:=λe=>by
  rcases e with _|e
  .show [0].Á;simp
  .rwa[aqb]
 kn:=λc=>by rcases c with _|c <;> rwa[aqb]
 st:=λc z d h=>by
  have:(ϝ g).by c z=ε:=by rcases c with _|c <;> rfl
  cbv
 sy:=λc z d h=>by
  have:(ϝ g).by c z=ε:=by rcases c with _|c <;> rfl
  cbv
 pl:=λw b=>by ext b
 rl:=λ_ _ _ h=>h.Ü
 cv:=λ_ _ _ h=>h.Ü
 so:=λc z d h=>by
  have:(ϝ g).by c z=ε:=by rcases c with _|c <;> rfl
  cbv
 sp:=λw b=>by ext b
 cg:=λc a=>by
  have:c=0:=by have:c<1:=a;ext
  subst Δ;rwa[.Ł _]
variable {S:RS}{R:Za2}
def Ø.lay (h:Ø S [] R){c d:η}(z:π)(hc:c<S.q)(hd:d<S.q)(rows:AE):Ø { S with rows:=rows } [(c,z,d)] (LS d) where
 wf:={h.wf.w,h.wf.g,h.wf.e,h.wf.c}
 el:=h.el
 ca:=h.ca
 cb:=h.cb
 cn:=h.cn
 kn:=h.kn
 st:=h.st
 sy:=h.sy
 pl:=λw f=>by rw[aok.mp f];rwa[hc,hd]
 rl:=by
  rintro a s b (r|⟨rfl,Ų,rfl⟩|⟨rfl,Ų,rfl⟩)
  .let[j,n,m]:=h.rl γ r;rwa[j,n,.Α m]
  .rwa[hc,hd,.Ç (.Ç {222})]
  .rwa[hd,hc,.Ç (.Α {2,aqh _,2})]
 cv:=by
  rintro a s b (r|⟨rfl,Ų,rfl⟩|⟨rfl,Ų,rfl⟩)
  .rcases h.cv _ _ _ r with q|⟨w,f,_⟩
   .rwa[.Α q]
   .ext f
  .rwa[.Ç {_,aou,.Α {Ų,Ų,Ų}}]
  .rwa[.Ç {_,aou,.Ç {Ų,(aqh _).Τ,Ų}}]
 so:=λa s b e=>by let[k,l,r,g,o]:=h.so a s b e;rwa[k,l,.Α r,g,o]
 sp:=λw f=>by rw[aok.mp f];rwa[c,d,mq,22]
 cg:=λa i=>(h.cg a i).mono kf
def gE (hw:S.Wf)(c:η)(z:π)(g:Zg)(a:η):(S.Ģ c z g).az a=if a=S.q then S.q else S.az a:=by
 unfold RS.az;show (S.bu++[S.q]).á a 0=_;rw[aom];cases e:a=S.q
 .rw[aoO e,e,aoz ([hw.e]▸aoo _),hw.e,apU];rfl
 .rw[aoK e,aom];cases q:a<S.q
  .rw[aoq ([hw.e]▸q)]
  .rw[aoG (by rw[aoj,hw.e];show S.q+ 1<=a;omega),aoG (by rw[hw.e];omega)]
def uy (hw:S.Wf)(c:η)(z:π)(g:Zg)(a:η):(S.Ģ c z g).cL a=if a=S.q then [S.q] else S.cL a:=by
 unfold RS.cL;show (S.called++[[S.q]]).á a []=_;rw[aom];cases e:a=S.q
 .rw[aoO e,e,aoz ([hw.c]▸aoo _),hw.c,apU];rfl
 .rw[aoK e,aom];cases q:a<S.q
  .rw[aoq ([hw.c]▸q)]
  .rw[aoG (by rw[aoj,hw.c];show S.q+ 1<=a;omega),aoG (by rw[hw.c];omega)]
def p6 (d:S.Wf)(c:η)(z:π)(g:Zg)(a:η):(S.Ģ c z g).way a=S.way a:=by
 unfold RS.way;show (S.ways++[[]]).á a []=_;rw[aom,aom];cases q:a<@S.ways
 .rw[aoq q]
 .rw[aoz ∅,aoG (l:=S.ways) ∅];cases b:a - @S.ways=0
  .rw[b];rfl
  .cbv
def Ø.Ę (h:Ø S [] R){c:η}{z:π}(hc:c<S.q)(x:S.az c=c)(C:S.by c z=ε)(g:Zg):Ø (S.Ę c z g) [] (LS S.q):=by
 let hw:=h.wf;let d:∀a,a<S.q->(S.Ģ c z g).az a=S.az a:=λa m=>by rw[gE hw,aoK ∅]
 let f:(S.Ģ c z g).az S.q=S.q:=by rw[gE hw,aoO Ų]
 let j:∀a s,(S.Ģ c z g).by a s=S.by a s:=λa s=>by unfold RS.by;rw[p6 hw]
 let G:Ø (S.Ģ c z g) [(c,z,S.q)] (LS S.q):=by
  rwa[{5555},λa m=>?_,λe D ee a=>?_,λe a m=>?_,λe=>?_,λa=>?_,λa s b e=>?_,λa s b e=>?_,λw hw=>?_,55,λa s b e=>?_,λw hw=>?_,λa m=>?_]
  .show @(S.ways++[[]])=S.q+ 1;rw[aoj,hw.w];rfl
  .show @(S.gaps++[_])=S.q+ 1;rw[aoj,hw.g];rfl
  .show @(S.bu++[_])=S.q+ 1;rw[aoj,hw.e];rfl
  .show @(S.called++[_])=S.q+ 1;rw[aoj,hw.c];rfl
  .let t:a<S.q+ 1:=m;cases e:a=S.q
   .rw[e,f];rwa[aoo _,f]
   .let o:a<S.q:=∅
    rw[d a o];let[l,k]:=h.el a o;rwa[l,[d _ ∅]▸k]
  .let A:e<S.q+ 1:=D;show _↔a<S.q+ 1/\_;rw[uy hw,gE hw];cases q:e=S.q
   .subst q;rw[aoO Ų,aok];constructor
    .rintro rfl;rwa[3,by cbv]
    .rintro ⟨l,k⟩;cases n:a=S.q
     .rwa[n]
     .rw[aoK n]at k;have:=(h.el a ∅).1;ext
   .let o:e<S.q:=∅
    rw[d e o]at ee;rw[aoK q,h.ca e o ee a]
    cbv
  .show a<S.q+ 1;rw[uy hw]at m;split at m
   .rw[aok.mp m];ext
   .rwa[apQ (h.cb e a m)]
  .rw[uy hw];split
   .simp
   .rwa[h.cn e]
  .rw[p6 hw];rwa[h.kn a]
  .rw[j]at e;let[l,k,n,B]:=h.st a s b e;rwa[apQ l,apQ k,[d a l]▸n,[d b k]▸B]
  .rw[j]at e ⊢;rwa[h.sy a s b e]
  .rw[aok.mp hw];rwa[apQ hc,apX _]
  .rintro a s b (r|⟨rfl,Ų,rfl⟩|⟨rfl,Ų,rfl⟩)
   .let[l,k,n]:=h.rl γ r;rwa[apQ l,apQ k,.Α n]
   .rwa[apQ hc,apX _,.Ç (.Ç {222})]
   .rwa[apX _,apQ hc,.Ç (.Α {2,aqh _,2})]
  .rintro a s b (r|⟨rfl,Ų,rfl⟩|⟨rfl,Ų,rfl⟩)
   .let[l,k,_]:=h.rl γ r;rcases h.cv _ _ _ r with q|⟨w,hw,_⟩
    .rwa[.Α (by rw[d a l,d b k,j];rwa[q])]
    .ext hw
   .rwa[.Ç {_,aou,.Α {Ų,Ų,Ų}}]
   .rwa[.Ç {_,aou,.Ç {Ų,(aqh _).Τ,Ų}}]
  .rw[j]at e;let[u,v,r,p,y]:=h.so a s b e;let[l,k,_]:=h.rl γ r;rwa[u,v,.Α r,[d u l]▸p,[d v k]▸y]
  .rw[aok.mp hw];rwa[c,S.q,mq,22]
  .let t:a<S.q+ 1:=m;cases e:a=S.q
   .rw[e,f];rwa[.Ł _]
   .rw[d a ∅];rwa[(h.cg a ∅).mono kf]
 let p:(S.Ģ c z g).az c=c:=by rw[d c hc];rwa[x]
 let i:=G.sp _ aou;rw[show (c,z,S.q).1=c from rfl,show (c,z,S.q).2.2=S.q from rfl,p,f]at i;rwa[G.Ï (apQ hc) (apX _) p f i (.Α ([j]▸C)) (.Α ?_) (λw hw=>by ext hw) (λw hw _=>[aok.mp hw]▸{p,2,f})];rw[j]
 cases e:S.by S.q (-z) with
 |ε=>rfl
 |ι b=>have:=(h.st γ e).1;ext
def afW (n:η)(s:π):Za2:=λa z b=>(z=s/\b=a+ 1/\b<n)\/(z= -s/\a=b+ 1/\a<n)
end L2
namespace L2
theorem args_is1 {b:Type}:∀{us:θ b},@us=1->∃a,us=[a]
 |[a],_=>{a,2}
theorem args_is2 {c:Type}:∀{us:θ c},@us=2->∃a b,us=[a,b]
 |[a,b],_=>{a,b,2}
theorem args_is3 {d:Type}:∀{us:θ d},@us=3->∃a c b,us=[a,c,b]
 |[a,c,b],_=>{a,c,b,2}
theorem args_is4 {e:Type}:∀{us:θ e},@us=4->∃a b d c,us=[a,b,d,c]
 |[a,b,d,c],_=>{a,b,d,c,2}
theorem args_is5 {f:Type}:∀{us:θ f},@us=5->∃a c e d b,us=[a,c,e,d,b]
 |[a,c,e,d,b],_=>{a,c,e,d,b,2}
theorem args_is6 {g:Type}:∀{us:θ g},@us=6->∃a c e d b f,us=[a,c,e,d,b,f]
 |[a,c,e,d,b,f],_=>{a,c,e,d,b,f,2}
structure fG (S:RS)(R:Za2)(ks:Zg):ο where
 sub:∀c,c<S.q->(S.gap c).Sublist ks
 im:∀c,c<S.q->S.az c=c->∀z∈ks,z∉S.gap c->∃d,Im S R c z d
 by_:∀c z d,S.by c z=ι d->z∉S.gap c
section
variable {S:RS}{pend:Ze}{R:Za2}{ks:Zg}
def kJ {x:η}(a:n<@S.gaps):(S.ou n z).gap x=if x=n then (S.gap n).Ö (λy=>decide (y≠z)) else S.gap x:=by
 unfold RS.ou RS.setG RS.gap
 cbv
def Cp:(S.ou n z).gaps.ü=@S.gaps:=by rwa[aoR ..]
def su {x:η}(b:n<@S.gaps)(c:m<@S.gaps):y∈(S.Ï n z m).gap x↔y∈S.gap x/\¬(x=n/\y=z)/\¬(x=m/\y= -z):=by
 unfold RS.Ï;let a:∀x,((S.cK n z m).cK m (-z) n).gap x=S.gap x:=λx=>rfl
 rw[kJ ([Cp]▸c),kJ (by rwa[b]),kJ (by rwa[b]),a,a,a]
 cbv
def uz {x:η}(d:n<@S.gaps)(e:m<@S.gaps):((S.Ï n z m).gap x).Sublist (S.gap x):=by
 unfold RS.Ï;let b:∀x,((S.cK n z m).cK m (-z) n).gap x=S.gap x:=λx=>rfl
 rw[kJ ([Cp]▸e),kJ (by rwa[d]),kJ (by rwa[d]),b,b,b];cases c:x=m
 .subst c;rw[aoO Ų];cases a:x=n
  .subst a;rw[aoO Ų];rwa[θ.Sublist.ν aqq aqq]
  .rw[aoK a];rwa[aqq]
 .rw[aoK c];cases a:x=n
  .subst a;rw[aoO Ų];rwa[aqq]
  cbv
def Ij {x:η}(b:n<@S.ways)(a:m<@S.ways):(S.Ï n z m).by x y=if x=m/\y= -z then ι n else if x=n/\y=z then ι m else S.by x y:=by show (((S.cK n z m).cK m (-z) n)).by x y=_;rw[kH (by unfold RS.cK RS.ml;rw[aoR];rwa[a]),kH b]
def fG.Ï (h:DD)(g:ZA){c d:η}{z:π}(hc:c<S.q)(hd:d<S.q)(i:Im S R c z d):fG (S.Ï c z d) R ks:=by
 let j:c<@S.gaps:=by rw[g.wf.g];rwa[hc]
 let b:d<@S.gaps:=by rw[g.wf.g];rwa[hd]
 rwa[λx k=>(uz j b).ν (h.sub x k),λx k ex y o m=>?_,λx y e l=>?_]
 .rw[su j b]at m;cases f:x=c/\y=z
  .rw[f.1,f.2];rwa[d,i]
  .cases a:x=d/\y= -z
   .rw[a.1,a.2];rwa[c,i.back g]
   .rwa[h.im x k ex y o λq=>m {q,f,a}]
 .rw[Ij ([g.wf.w]▸hc) ([g.wf.w]▸hd)]at l;rw[su j b];rintro ⟨q,n,p⟩;rw[aoK p,aoK n]at l;rwa[h.by_ x y e l q]
def RH {x:η}:(S.đ n z x m Ë).1.gaps=S.gaps:=by have:=(iz OH (S.ç n z NY OH) Ë ((S.ç n z NY OH).way OH)).2;have:=apW RS.gaps Δ;rwa[Δ]
def fG.đ (h:DD)(g:ZA){c x y:η}{z:π}(w:S.by c z=ι x)(G:y<S.q)(H:S.az y=y)(t:x≠y){d:Ze}(made:(S.đ c z x y d).1.q=S.q)(az:∀a,(S.đ c z x y d).1.az a=if S.az a=max x y then min x y else S.az a):fG (S.đ c z x y d).1 R ks:=by
 let k:∀a,(S.đ c z x y d).1.gap a=S.gap a:=λa=>by unfold RS.gap;rw[RH]
 let[_,A,_,ex]:=g.st γ w;let l:max x y<S.q:=by rcases arI x y with q|q <;> ext
 let hJ:∀a,a<S.q->(S.đ c z x y d).1.az a=a->S.az a=a/\a≠max x y:=λa i e=>by
  rw[az]at e;let C:=(g.el a i).1;cases q:S.az a=max x y
  .rw[aoO q]at e;ext
  .cbv
 rwa[λa i=>[k]▸h.sub a (by rw[<-made];rwa[i]),λa i D s v m=>?_,λa s b o=>?_]
 .rw[k]at m;let[B,F]:=hJ a (by rw[<-made];rwa[i]) D;let[b,n,u,r,E,I]:=h.im a (by rw[<-made];rwa[i]) B s v m;rwa[_,n,u,r,by cbv,2]
 .rw[k]
  let j:∀q∈(S.ç c z ϡ Ž).way Ž,q.2<(S.ç c z ϡ Ž).ways.ü:=λq p=>by show q.2<@S.ways;rw[g.wf.w];rwa[(g.st γ (kI (g.kn Ž) p)).2.1]
  let f:(dv Ž (S.ç c z ϡ Ž) d ((S.ç c z ϡ Ž).way Ž)).1.by a s=ι b:=o;rw[A4 (by show max x y<@S.ways;rw[g.wf.w];rwa[l]) _ j]at f;split at f
  .ext f
  .rwa[h.by_ a s b f]
def Cq {x:η}:(S.đ n z x m Ë).1.q=S.q:=by have:=(iz OH (S.ç n z NY OH) Ë ((S.ç n z NY OH).way OH)).2;have:=apW RS.q Δ;rwa[Δ]
def fG.Χ {w:Way}(hG:DD)(h:Ø S (Ë++[w]) R):fG (S.í Ë w).1 R ks:=by
 let hw:=h.pl w Fr;let d:=h.sp w Fr;let hc:=h.lt hw.1;let hd:=h.lt hw.2;let i:=(h.el _ hw.1).2;let ed:=(h.el _ hw.2).2;let g:∀x∈Ë,x∈Ë++[w]:=λx b=>aoF _ b
 let last:∀x∈Ë++[w],x∉Ë->x=w:=λx b nx=>by cbv
 unfold RS.í;cases c:(S.by (S.az w.1) w.2.1).á (S.az w.2.2)≠S.az w.2.2
 .rw[aoO c]
  cases e:S.by (S.az w.1) w.2.1 with
  |ε=>cbv
  |ι x=>rw[e]at c;let[_,f,_]:=h.đ e hd ed c d g (λx b nx=>[last x b nx]▸.Α {222});rwa[hG.đ h e hd ed c Cq f]
 .rw[aoK c];cases a:(S.by (S.az w.2.2) (-w.2.1)).á (S.az w.1)≠S.az w.1
  .rw[aoO a]
   cases e:S.by (S.az w.2.2) (-w.2.1) with
   |ε=>rw[e]at a;rwa[Ρ Ų a]
   |ι x=>rw[e]at a;let[_,f,_]:=h.đ e hc i a (d.back h) g (λx b nx=>[last x b nx]▸.Ç {2,(aqh _).Τ,2});rwa[hG.đ h e hc i a Cq f]
  .rw[aoK a];rwa[hG.Ï h hc hd d]
def fG.ł {e:Za2}(h:DD)(g:∀a z b,ZI b->e a z b):fG S e ks:={h.sub,λc hc i z hz m=>by let[d,j,k,r,f,l]:=h.im c hc i z hz m;rwa[d,j,k,g γ r,f,l],h.by_}
def fG.rows (h:DD)(rows:AE):fG { S with rows:=rows } R ks:={h.sub,h.im,h.by_}
def WN (L:η)(g:Zg):fG (ϝ g) (λ_ _ _=>Ð) g:=by
 rwa[λc a=>?_,λc a _ z f b=>?_,λc z d e=>?_]
 .let a:c<1:=a;rw[show c=0 by ext];rwa[θ.Sublist.Ł _]
 .let a:c<1:=a;rw[show c=0 by ext]at b;rwa[Ρ f b]
 .have:(ϝ g).by c z=ε:=by rcases c with _|c <;> rfl
  cbv
def fG.Ę (h:DD)(g:Ø S [] R){c:η}{z:π}(hc:c<S.q)(A:S.az c=c)(J:S.by c z=ε):fG (S.Ę c z ks) (LS S.q) ks:=by
 let gg:∀x,(S.Ģ c z ks).gap x=if x=S.q then ks else S.gap x:=λx=>by
  unfold RS.gap;show (S.gaps++[ks]).á x []=_;rw[aom,aom];cases i:x=S.q
  .subst i;rw[aoO Ų,aoz ([g.wf.g]▸aoo _),g.wf.g,apU];rfl
  .rw[aoK i];cases E:x<@S.gaps
   .rw[aoq E]
   .have:=g.wf.g;rw[aoz ∅,aoG (by rw[apL];omega),aoG ∅]
 let D:∀x y,(S.Ģ c z ks).by x y=S.by x y:=λx y=>by unfold RS.by;rw[p6 g.wf]
 let j:c<(S.Ģ c z ks).gaps.ü:=by show c<@(S.gaps++[ks]);rw[aoj,g.wf.g];ext
 let l:S.q<(S.Ģ c z ks).gaps.ü:=by show S.q<@(S.gaps++[ks]);rw[aoj,g.wf.g,apL];ext
 let p:c<(S.Ģ c z ks).ways.ü:=by show c<@(S.ways++[[]]);rw[aoj,g.wf.w];ext
 let u:S.q<(S.Ģ c z ks).ways.ü:=by show S.q<@(S.ways++[[]]);rw[aoj,g.wf.w,apL];ext
 let ee:∀x,(S.Ę c z ks).az x=if x=S.q then S.q else S.az x:=λx=>gE g.wf c z ks x
 let m:∀a s b,S.by a s=ι b->a≠S.q:=λa s b e q=>by have:=(g.st γ e).1;ext
 rwa[λx i=>?_,λx i ex y v f=>?_,λx y e n=>?_]
 .rwa[(uz j l).ν ?_];rw[gg];cases q:x=S.q
  .cbv
  .rw[aoK q];let i:x<S.q+ 1:=i;rwa[h.sub x ∅]
 .let f:y∉((S.Ģ c z ks).Ï c z S.q).gap x:=f;rw[su j l,gg]at f;cases t:x=c/\y=z
  .erw[S.q,c,S.q,[t.2]▸mq,5]
   .cbv
   cbv
  .cases o:x=S.q/\y= -z
   .erw[c,S.q,c,[o.2]▸.Ç (.Ç {222}),5]
    .rw[ee,aoO Ų,o.1]
    .rw[ee,aoK ∅];rwa[A]
   .cases q:x=S.q
    .rw[aoO q]at f;rwa[Ρ {v,t,o} f]
    .rw[aoK q]at f;let i:x<S.q+ 1:=i;rw[ee,aoK q]at ex;let[d,w,F,r,G,C]:=h.im x ∅ ex y v λk=>f {k,t,o}
     let I:=g.rl γ r;rwa[d,w,F,.Α r,[ee,aoK ∅]▸G,[ee,aoK ∅]▸C]
 .let n:((S.Ģ c z ks).Ï c z S.q).by x y=ι e:=n;rw[Ij p u,D]at n;show y∉((S.Ģ c z ks).Ï c z S.q).gap x;rw[su j l,gg];rintro ⟨q,B,H⟩;rw[aoK H,aoK B]at n;rw[aoK (m γ n)]at q;rwa[h.by_ x y e n q]
def fG.fin (h:DD)(g:Ø S [] R)(nd:ks.Á){c:η}(hc:c<S.q)(f:S.az c=c):S.gap c=ks.Ö λz=>(S.by c z).isNone:=by
 let sl:∀{l k:Zg},l.Sublist k->k.Á->l=k.Ö λz=>decide (z∈l):=λ{l k} s=>by
  induction s with
  |slnil=>intro _;rfl
  |È a s b=>cbv
  |cons_cons a s b=>
   intro m;let j:=ao0.mp m;rw[aqO (by simp)]
   congr 1
   conv=>lhs;rw[b j.2]
   rwa[aql λz hz=>?_]
   cbv
 rw[sl (h.sub c hc) nd];rwa[aql λz hz=>?_]
 cases e:S.by c z with
 |ι d=>have:=h.by_ c z d e;simp[Δ]
 |ε=>
  cases q:z∈S.gap c
  .simp[q]
  .let[d,i]:=h.im c hc f z hz q;have:=g.ux.mpr i
   cbv
end
section
variable {X:Cx}{tg:Expr}
def iDK (tl:TE):TI:=λ c H R=>tl c H λx b=>∃d a,x=?d/\b d\.dK a/\∀o,R (YP d o a) (ψ b d (.dI o (.dK a)))
def ac7 {tl:TE}(C:PE X e tl):PI X tg e (iDK tl):=by
 intro f s G H R I h;rwa[bx (C f s G H _ I h) λu S ζ=>?_];let[x,Q,w,F,d,b,ex,v,q]:=ζ
 subst ex;ext F;obtain⟨-,g,y,rel,o,E,U,c,m,t,z,p,L⟩:=w.a0 d _ v;rwa[Dk.Ħ g {o,c,m,t} (DS (w.freeze v þ.intro c) (YQ λX H h I a=>?_) {_,JU Ų,22} (q o))];obtain⟨j,-,g,y,rel,P,N,D,c,m,k,z,p,L⟩:=I d _ a;rw[j]at c;obtain rfl:=Za0 c;rw[t]at k;injection k with M B
 subst M B;let n:@b=@y:=KV.ü rel;let r:E.Υ=@b:=by rw[<-aqm,pairs_len p,n]
 rwa[{_,j,m,t},r,λi T a=>?_];let J:i<@b:=by cbv
 let[O,l,A]:=(uo p rel).ű (i:=i) (x:=kV b[i].1) (by cbv);rw[aon,aq6,a]at l;obtain rfl:=Za0 l;rwa[_,A,21,aoe J,2]
end
def Y1 {g:TG}{f:TS}{a:St}{o:Obj}{kvs:θ (Key×V)}(b:η->St->Hp->ο)(j:b 0 a H)(l:∀i a H,i<=@kvs->b i a H->H d\.dI o (.dK kvs))(m:∀i c a H,kvs[i]?\c->b i a H->g (kV c.1) a H λ e n=>f { G with nx:=b (i+ 1),ct:=b (i+ 1),bk:=G.nx } e n)(h:∀ a H,b @kvs a H->G.nx a H):ub (YP d o kvs) g f G a H:=UA j l (λi a H x q p y=>by let[Ų,c,k,Ų]:=y;rwa[m i c a _ k p]) h
inductive RDS (a:Zs)(y z:V)(H:Hp)(Q:VK):ο
 |mk (kvs:θ (Key×V))(k:Key):H a\.dK kvs->y=kV k->@kvs<Ε->(∀v,Pc k\v->Q v H)->(Pc k=ε->Q z (Ϻ (.dK (ú kvs k z))))->RDS a y z H Q
def ac8 (td e tx:TE):TE:=λ b H Q=>td b H λx c=>Ib x c λa=>e b c λy d=>tx b d λz f=>RDS a y z f Q
section
variable {X:Cx}{o e f:Expr}{apos cP:Pos}{td ty tx:TE}
def p7 (T:Za)(t:ME)(S:PE X f tx)(m:M2 X o SI ĭ e f cP):PE X (.ġ (.â o SI ĭ) [e,f] [] cP) (ac8 td ty tx):=by
 intro c s p H Q I h;rwa[SS (bx (T c s p H _ I h) λu Z ζ=>?_)];let[x,V,A,rx,a,ex,d,N]:=ζ;subst ex;obtain rfl:u=Η.É a:=rx;let[U,F,_]:=oU A d;erw[U,F];rw[m.trees]
 rwa[xL (apT (apn (bx (t c Z p V _ A N) λiv M ζ=>?_)))];let[y,H2,P,ry,q2]:=ζ;rwa[ apn (bx (S c M p H2 _ P q2) λfv s3 ζ=>?_)];let[z,J,n,C,g,k,E,ey,G,O,W]:=ζ;rwa[ap2 ?_]
 subst ey;let[R,w,B,rel,D]:=vH n.a0 E;let b:=rel.val k;let j:@B<=Ε:=by rw[<-@rel];rwa[R]
 rwa[aqK aqi D.Ý Γ.F.entry_dict_setdefault (Γ.F.args_dict_setdefault_3^_) (kt_meets_setdefault (cq X.À X.w) a (lu ry) w fv) {B,D,j,λv hv=>?_,λhn g1 i sb=>?_}]
 .rw[hv]at b
  cases l:bF g k with
  |ε=>rw[l]at b;rwa[b.Ü]
  |ι r=>rw[l]at b;rwa[r,J,n.tok _,b,O r l]
 .rw[hn]at b
  cases l:bF g k with
  |ι r=>rw[l]at b;rwa[b.Ü]
  |ε=>
   let Y:@(ú g k z)<=Ε:=by have:=gN g k z;ext
   let t:∃q,g1.get? a\q:=let ⟨q,_,_,L,_⟩:=i;{q,L}
   rwa[z,_,mj n ([E]▸þ.intro) sb t (uh Y w (rel.put k C) i),C,W l]
end
namespace Di
variable {prog:Program}{w:World}{A:Around}{E:Zt->Zu->Prop}{s:Zu}{d:Zs}{es:Array DictEntry}{ep:Nat}
def meets (d:Zs)(a:(d==ë)=ς):MeetsIn À w (Λ.«dict.items» {[?d],[]}) (λ_ R s=>(∃es ep,fq s.τ d es ep)/\R (.ok (.ret ↑↥s)) { s with τ:=s.τ.Ú (ZM>>>.Å #[?d]) }):=
 .of_wp λA R s ζ=>by
  let[⟨es,ep,b⟩,h]:=ζ
  rwa[aof ?_];rwa[aof (arf (Dk.typ b) ?_)];rwa[aor ?_];unfold Λ.Dict.showsAll;rw[aoK (by rw[a];decide)];rwa[aof (aor (aof (ape (aor {12,h}))))]
theorem Ħ (c:s.τ.IsItemsView a d)(h:WJ)(j:Q ↑↥s { s with τ:=s.τ.Ú (WI>>>.Å #[.ε,.ħ ς,?d,.υ 0 0,.υ es.Υ 0,.υ ep 0,.ε,.ε]) }):(À<|>w) A (pyIter ?a) Q E s:=by
 let[k,f,i,e]:=id c;let[o,g,l,b]:=id h;rwa[ŋ c.Ý F.slot_dict_items_iter (apB F.slot_dict_items_iter c.Ý F.entry_dict_items_iter ?_ (F.args_dict_items_iter_1 _))];rwa[aof (aor (aof ?_))];rwa[aof (apg f e (x:=?d) Ų (aor (aof ?_)))];rwa[aof (arl g b (aof (wpAny_dictEpoch g b ?_)))];let own:Λ.Dict_items.ownsTuple WI=ρ:=⋯
 simp only[own,arV];rwa[ape (aor {12,WI,_,{_,JU Ų,2},aqS.ω,5}) (by simp only[sizeOk,Λ.Dict_items.ownedTupleFields,aoI,aoj,aoA,aoV,Š];omega)];simpa [ô,Λ.Dict_items.ownedTupleFields] using j
theorem next {it:Zs}{ok:Zt}{Q:Zl->Zu->ο}(L:A.ą=ε)(hit:IsItemIter s.τ it d i es.Υ ep ok v)(M:WJ)(I:∀en g,es[i]?\en->IsItemIterOut g it d (i+ 1) es.Υ ep en.key en.val ↥s->g.get? ↥s\(ŷ>>>.seq #[en.key,en.val])->
  (∀b o,b≠it->s•b\o->g.get? b\o)->Q (ι ↑↥s) (s<*g))(S:∀g,es[i]?=ε->Û.ExtBut it s.τ g->Q ε (s<*g)):(À<|>w) A (Ņ ?it) Q E s:=by
 let[h,t,r,q,os]:=s;let[W,p,P,j]:=id M;let f:Shared.Ġ ⟨h,t,r,q,os⟩ ?it WI:={_,hit,2};rwa[aof (aqv (apt (û:=Ñ.Ţ ZR) f aqS (apB aqS f F.entry_dict_itemiterator_next ?_ (F.args_dict_itemiterator_next_1 _))))];rwa[aof (aor (aof (aof ?_)))]
 first|(rwa[aof (So (aor ?_))];skip)|(rwa[aof (cm (aor ?_))];skip)
 rwa[aof (wpAny_fieldsOf hit Ų ?_)];let own:Λ.Dict_items.ownsTuple WI=ρ:=⋯
 show Ó β (if (Η.É d==Η.ε)=ρ then _ else _) γ;rw[aoK (show ¬((Η.É d==Η.ε)=ρ) by cbv)];rwa[aof (aor (aof (arl p j ?_)))];rw[aoK (by simp)];rwa[aof (aor (aof (wpAny_dictEpoch p j ?_)))];rw[aoK (by simp)];rwa[aor ?_];rcases u:es[i]? with _|en <;> simp only[show ¬((i:π)<0) by ext,ar3,ao8,u]
 all_goals
  rwa[aof ?_]
  first|(rwa[aof (So (aor ?_))];skip)|(rwa[aof (cm (aor ?_))];skip)
 .show Ó β (setField ?it 2 .ε >>=_) γ;rwa[aof (ap6 hit Ų (by simp) ?_)];rwa[aof ?_];rwa[aof (m:=Ĕ β) (aq3 (a:=Η.ε) (by first|rfl|(simp only[Ĕ];rfl)) ?_)];rwa[ape ?_ (by size_fits)];rwa[aof (wpAny_handled ?_)];rw[show A.in1.ą=ε from L];rwa[aof (aor (wpAny_throw ?_))];rwa[aof (wpAny_isInstance (T:=ZG) (b:=ρ) {_,JU Ų,2} isSubtype_stop ?_)];rwa[aor (S _ u (((apw ..).Ą.Ú _).Ú _))]
 .rwa[aof (wpAny_isOneOf_itemiter f ?_)];show Ó β (setField ?it 3 (ô ((i:π)+ 1)) >>=_) β {h,t,r,q,os}
  rwa[aof (apJ hit (by simp) λg1 B s1=>?_)];let k:Shared.Ġ ⟨g1,t,r,q,os⟩ ?it WI:={_,B,2};rwa[aof (aps (aof (wpAny_isOneOf_itemiter k (aof (wpAny_isOneOf_itemiter k ?_)))))];rwa[aof (wpAny_newTuple ?_)];let l:IsItemIter (g1.Ú (ŷ>>>.seq #[en.key,en.val])) it d (i+ 1) es.Υ ep ok v:=aol _ B;generalize n:g1.Ú (ŷ>>>.seq #[en.key,en.val])=g2 at l;let z1:g1.õ.Υ=h.õ.Υ:=s1.1;let C:it<h.õ.Υ:=aoL hit;let D:g2.get? h.õ.Υ\(ŷ>>>.seq #[en.key,en.val]):=by rw[<-n,<-z1];rwa[JU Ų]
  let N:∀b o,b≠it->h.get? b\o->g2.get? b\o:=λb o c e=>by rw[<-n];rwa[ZY (s1.Ą b o c e)]
  show Ó β (Λ.Dict_items.ownedTupleIsFree ?it >>=_) β {g2,t,r,q,os};rw[z1];rwa[aof ?_];rwa[aof (apg l Ų (x:=.ε) Ų (aor ?_))];rwa[aof (apg l Ų (x:=ok) Ų (aof (apg l Ų (x:=v) Ų ?_)))];rwa[aof (apJ l (by simp) λX O s3=>?_)];rwa[aof (apJ O (by simp) λU R s4=>?_)];rwa[aof (apJ R (by simp) λV G s5=>?_)];rwa[aof (apJ G (by simp) λy J H=>?_)];let z:∀b o,b≠it->g2.get? b\o->y.get? b\o:=λb o c e=>H.Ą b o c (s5.Ą b o c (s4.Ą b o c (s3.Ą b o c e)))
  rwa[aof (arW (aor (aor {12,aor (I en y u J (z β (aqc C) D) λb o c e=>z b o c (N b o c e))})))]
end Di
abbrev RJ (d:Zs) (o:Obj) (kvs:List (Zd×V)):It:=Uz d o (.dT kvs) ⇑kvs λi H x H'=>∃p kp kv,kvs[i]?\kv/\H p=none/\H kp\.tup (kv.1.map kV)/\x=↑p/\H'=upd H p (.tup [↑kp,kv.2])
def WO {P:Í}{w:à}{K:Za1}{elts:Zr}{x1:η}{tp:Pos}(d it:Zs)(o:Obj)(R:Ė Ļ)(T:η)(t:θ (Zd×V))(O:o.ê=.ù R T):
 Turn P w K (.ń elts x1 tp) (RJ d o t) [it] it (λi h=>∃ok j,IsItemIter h it d i R.Υ T ok j) where
 mem:=by simp
 obj:=λi h st b f=>by cbv
 Ï:=λi h h' ζ k=>by let[ok,j,e]:=ζ;rwa[ok,j,k it (by simp) _ e]
 item:=by
  intro X J F hK L i l s σ H E I m st u;subst J F;let[ok,j,hit]:=st;let[hi,n]:=u;let[r,z,y]:=Nr I.a0 n O;let M:it<↥s:=aoL hit;refine Di.next (I.ok.hd L) hit r (λen g C G N x=>{12,wpAny_letOwnedTupleGo_items G λZ D U=>?_}) λg e=>by cbv
  let[S,p,v,a,b,c,d,rv]:=y i _ C;rw[b,d]at N;rwa[↑↥s,_,I.xQ (fp:=[it]) (a:=↥s) (o:=.Ò [?p,S.2]) (h':=Z) (t':=s.Æ) (λb B f q=>?_) m Ź {Za4 2,[?p,v],.È Ų (.È rv .nil),_,(U.2 _ (aqc M)).ν N,212},2,{_,p,S,a,I.a0.ó Ź,c,22},{11,D},λb f=>?_]
  .simp at f;rwa[(U.2 b f).ν (x b B f q)]
  .rw[aok.mp f,aq (aoT M)];rwa[(m it (by simp)).1]
 done:=by intro X J F hK L i l s σ H E I m st u;subst J F;let[ok,j,hit]:=st;let[hi,n]:=u;let[r,z,y]:=Nr I.a0 n O;rwa[Di.next (I.ok.hd L) hit r (λen g e=>by cbv) λg _ eb=>{2,I.lW (fp:=[it]) (t':=s.Æ) (λb B f q=>eb b B (λz=>f (by simp[z])) q) m}]
 self:=λA i s Q E ζ h=>by let[ok,j,hit]:=ζ;rwa[Γ.W.kcp_self hit h]
section
variable {X:Cx}
def iDI (tl:TE):TI:=λ c H R=>tl c H λx b=>∃d a,x=?d/\b d\.dT a/\∀o,R (RJ d o a) (ψ b d (.dI o (.dT a)))
def ac9 {tl:TE}{elts:Zr}{ĭ c:Pos}(N:PE X e tl)(f:Đ e "items" X.env Z7=å e X.env)(hline:(ĭ.endLine==c.line)=ρ):
 PI X (.ń elts n p) (.ġ (.â e "items" ĭ) [] [] c) (iDI tl):=by
 intro r s Q H R I h;rwa[wpAny_Call_method0_late f hline (bx (N r s Q H _ I h) λu s1 ζ=>?_)];let[x,M,k,O,d,j,ex,v,q]:=ζ;subst ex;ext O;obtain⟨-,C,ys,V,o,m,t,A,E,D,Y,Z⟩:=k.a0 d _ v;let l:fq s1.τ d m t:={o,A,E,D};let B:Ia M d:=.Ç {j,.Α v};let[F,G,_]:=oU k B;rwa[ϲ,"dict.items",apP,Γ.F.slot_dict_items,Γ.F.type_dict_items,F,G,xL (Γ.evalArgs_none ?_)];rwa[aqK Γ.F.slot_dict_items F Γ.F.entry_dict_items (Γ.F.args_dict_items_1 _) (Di.meets d C) {{m,t,l},5}];let S:(s1.τ.Ú (ZM>>>.Å #[?d])).IsItemsView ↥s1 d:={_,JU Ų,22};let g:fq (s1.τ.Ú (ZM>>>.Å #[?d])) d m t:={o,ZY A,E,D};rwa[Di.Ħ (s:={ s1 with τ:=s1.τ.Ú (ZM>>>.Å #[?d]) }) S g ?_];let L:=(k.freeze v þ.intro A).ņ (h':=(s1.τ.Ú (ZM>>>.Å #[?d])).Ú (WI>>>.Å #[.ε,.ħ ς,?d,.υ 0 0,.υ m.Υ 0,.υ t 0,.ε,.ε])) (t':=s1.Æ) λb o a=>aol _ (ZY a)
 let i:↥s1<=(s1.τ.Ú (ZM>>>.Å #[?d])).õ.Υ:=by rw[aqW];ext
 let T:=WO (P:=X.À) (w:=X.w) (K:=X.K) (elts:=elts) (x1:=n) (tp:=p) d (s1.τ.Ú (ZM>>>.Å #[?d])).õ.Υ o m t j D;rwa[111112,L,T,{11,JU Ų},λb J=>?_,q o];rw[aok.mp J];let y:=k.a0.ó i;rwa[k.ua i ([aq (λz=>by cbv)]▸y)]
end
def Y2 {g:TG}{f:TS}{a:St}{o:Obj}{kvs:θ (Zd×V)}(b:η->St->Hp->ο)(l:b 0 a H)(n:∀i a H,i<=@kvs->b i a H->H d\.dI o (.dT kvs))(r:∀i c a H p kp,kvs[i]?\c->H p=ε->H kp\.Ò (c.1.Κ kV)->b i a H->g ?p a (WA (.Ò [?kp,c.2])) λ e s=>f { G with nx:=b (i+ 1),ct:=b (i+ 1),bk:=G.nx } e s)(h:∀ a H,b @kvs a H->G.nx a H):ub (RJ d o kvs) g f G a H:=UA l n (λi a H x t p y=>by let[k,kp,c,m,j,q,Ų,Ų]:=y;rwa[r i c a _ k kp m j q p]) h
theorem xT:∀(n:η)(l:Zg)(lo:π),l.Á->(∀x∈l,lo<=x/\x<lo+ n)->@l<=n
 |0,[],_,_,_=>aoo _
 |0,x::l,lo,_,h=>by have:=h x (aou ..);ext
 |n+ 1,l,lo,b,h=>by
  cases c:lo+ n∈l
  .let d:=xT n (l.erase (lo+ n)) lo (b.erase _) λx a=>by let e:=(b.mem_erase_iff.mp a);let f:=h x e.2;ext
   rw[ap3 c]at d;ext
  .let d:=xT n l lo b λx a=>by
    let f:=h x a;let g:x≠lo+ n:=λz=>c (by rw[<-z];rwa[a])
    ext
   ext
section
variable {κ:Type} [DecidableEq κ]
def NC (b:θ (κ×V))(k j:κ):bF (fT b k) j=if j=k then ε else bF b j:=by
 unfold fT
 induction b with
 |nil=>split <;> rfl
 |È p r e=>
  cases c:p.1=k
  .rw[θ.filter_cons_of_neg (by simp[c]),e];cases a:j=k
   .cbv
   .rw[aoK a,aoK a,cR (λz=>a (z.Τ.ν c))]
  .rw[aqO (by simp[c])];cases a:p.1=j
   .rw[cY a,aoK (λz=>c (a.ν z)),cY a]
   .rw[cR a,e];cases d:j=k
    .cbv
    .rw[aoK d,aoK d,cR a]
def ED (a:θ (κ×V))(k:κ)(v:V):(ú a k v).Κ (·.1)=if k∈a.Κ (·.1) then a.Κ (·.1) else a.Κ (·.1)++[k]:=by
 unfold ú;cases h:(a.any λb=>decide (b.1=k))=ρ
 .let c:k∈a.Κ (·.1):=by let[b,e,d]:=θ.any_eq_true.mp h;rwa[ao1.mpr {b,e,aoS d}]
  rw[aoO h,aoO c,ao4];rwa[apM λb _=>?_]
  cbv
 cbv
def Y3 {a:θ (κ×V)}(k:κ)(v:V)(h:(a.Κ (·.1)).Á):((ú a k v).Κ (·.1)).Á:=by
 rw[ED]
 cbv
def WQ {a:θ (κ×V)}(k:κ)(h:(a.Κ (·.1)).Á):((fT a k).Κ (·.1)).Á:=by rwa[θ.Á.sublist ((aqq).Κ _) h]
def EE {a:θ (κ×V)}(h:(a.Κ (·.1)).Á){b:κ×V}(hm:b∈a):bF a b.1\b.2:=by
 induction a with
 |nil=>ext hm
 |È p r c=>
  rw[apF,ao0]at h;rcases aoC.mp hm with e|hm
  .rw[e];rwa[cY Ų]
  .rw[cR (λz=>h.1 ([z]▸aqN hm))];rwa[c h.2 hm]
def RK {a:θ (κ×V)}{k:κ}(h:bF a k\q):(k,q)∈a:=by
 unfold bF at h
 cases e:a.find? λb=>decide (b.1=k) with
 |ε=>rw[e]at h;ext h
 |ι b=>cbv
end
def DI (H:Hp)(d:Zs)(f:π->Zc):ο:=∃a:θ (Key×V),H d\.dK a/\(a.Κ (·.1)).Á/\(∀b∈a,∃i:π,b.1=Sum.Α i)/\∀i:π,IF Z3=f i
def DI.at {f:π->Zc}(h:DI H d f)(k:∀o,H d\o->I d\o):DI I d f:=by let[a,c,b]:=h;rwa[a,k _ c,b]
def DI.congr {f g:π->Zc}(h:DI H d f)(e:∀i,f i=g i):DI H d g:=by let[a,j,b,k,c]:=h;rwa[a,j,b,k,λi=>(c i).ν (e i)]
def EF {a:θ (Key×V)}{f:π->Zc}(e:(a.Κ (·.1)).Á)(h:∀c∈a,∃i:π,c.1=Sum.Α i)(g:∀i:π,IF Z3=f i)(i:π)(v:V):DI (OP (.dK (ú a Z3 v))) d (λj=>if j=i then ι v else f j):=by
 rwa[_,aj,Y3^e,λc b=>?_,λj=>?_]
 .have:c.1∈(ú a Z3 v).Κ (·.1):=aqN b;rw[ED]at Δ
  cbv
 .rw[fI]
  cbv
def WR {a:θ (Key×V)}{f:π->Zc}(e:(a.Κ (·.1)).Á)(g:∀c∈a,∃i:π,c.1=Sum.Α i)(h:∀i:π,IF Z3=f i)(i:π):DI (OP (.dK (fT a Z3))) d (λj=>if j=i then ε else f j):=by
 rwa[_,aj,WQ _ e,λc b=>g c ((apa.mp b).1),λj=>?_];rw[NC]
 cbv
def y9 {c:θ (Key×V)}{f:π->Zc}(k:(c.Κ (·.1)).Á)(m:∀d∈c,∃i:π,d.1=Sum.Α i)(p:∀i:π,bF c Z3=f i){n:η}{lo:π}(o:∀i v,f i\v->lo<=i/\i<lo+ n):@c<=n:=by
 let h:=xT n (c.Κ λd=>match d.1 with|Sum.Α i=>i|Sum.Ç _=>0) lo ?_ λx r=>?_
 .rw[aog]at h;rwa[h]
 .let e:c.Κ (·.1)=(c.Κ λd=>match d.1 with|Sum.Α i=>i|Sum.Ç _=>(0:π)).Κ Sum.Α:=by
   rw[ao4];rwa[apM λd g=>?_]
   let[i,j]:=m d g;show d.1=Sum.Α (match d.1 with|Sum.Α i=>i|Sum.Ç _=>(0:π));rw[j]
  rw[e]at k;rwa[θ.Ő.Ŋ (λ{a b} q z=>q (apW Sum.Α z)) (aqa.mp k)]
 .let[d,g,Ų]:=ao1.mp r;let[i,j]:=m d g;let l:=EE k g;rw[j,p]at l;rw[j];rwa[o i _ l]
abbrev bU:=Int->Int->Int->Bool
structure eV (H:Hp)(k:Zs)(D:π->Zo)(E:π->π->Zo)(S:bU):ο where
 top:DI H k λc=>(D c).Κ V.É
 row:∀c d,D c\d->DI H d λs=>(E c s).Κ V.É
 Cr:∀c s e,E c s\e->DI H e λo=>if S c s o=ρ then ι (.bl ρ) else ε
 ed:∀c s e,E c s\e->∃d,D c\d
 se:∀c s o,S c s o=ρ->∃e,E c s\e
 nd:∀c d,D c\d->d≠k
 ne:∀c s e,E c s\e->e≠k
 dd:∀c c' d,D c\d->D c'\d->c=c'
 de:∀c c' s d,D c\d->E c' s\d->Ð
 ee:∀c s c' s' e,E c s\e->E c' s'\e->c=c'/\s=s'
def xU (k:Zs)(D:π->Zo)(E:π->π->Zo)(b:Zs):ο:=b=k\/(∃c,D c\b)\/∃c s,E c s\b
section
variable {H H':Hp}{k:Zs}{D:Int->Zo}{E:Int->Int->Zo}{S:bU}
def eV.Ï (h:Q3)(f:∀b o,xU k D E b->H b\o->H' b\o):eV H' k D E S:={h.top.at λo e=>f β (.Α Ų) e,λc d e=>(h.row c d e).at λo q=>f β (.Ç (.Α {c,e})) q,λc s e q=>(h.Cr c s e q).at λo r=>f β (.Ç (.Ç {c,s,q})) r,h.ed,h.se,h.nd,h.ne,h.dd,h.de,h.ee}
def eV.Μ (h:Q3)(s:bc):eV H' k D E S:=h.Ï λb o _ e=>s b o e
def eV.there (h:Q3){b:Zs}(d:xU k D E b):∃a,H b\(.dK a):=by
 rcases d with rfl|⟨c,e⟩|⟨c,s,e⟩
 .let[a,q,_]:=h.top;rwa[a,q]
 .let[a,q,_]:=h.row c b e;rwa[a,q]
 .let[a,q,_]:=h.Cr c s b e;rwa[a,q]
def eV.congr (h:Q3){d:π->Zo}{b:π->π->Zo}{a:bU}(e:∀c,D c=d c)(g:∀c s,E c s=b c s)(f:∀c s o,S c s o=a c s o):eV H k d b a:=by
 obtain rfl:D=d:=funext e;obtain rfl:E=b:=funext λc=>funext (g c)
 obtain rfl:S=a:=funext λc=>funext λs=>funext (f c s)
 rwa[h]
def eV.Y4 (h:Q3):∃a:θ (Key×V),H k\.dK a/\(a.Κ (·.1)).Á/\(∀kv∈a,∃i:π,kv.1=Sum.Α i)/\∀i:π,IF Z3=(D i).Κ V.É:=h.top
def eV.RL (h:Q3){c:π}{d:Zs}(hd:D c\d):∃a:θ (Key×V),H d\.dK a/\(a.Κ (·.1)).Á/\(∀kv∈a,∃i:π,kv.1=Sum.Α i)/\∀i:π,IF Z3=(E c i).Κ V.É:=h.row c d hd
def eV.Y5 (h:Q3){c s:π}{e:Zs}(b:E c s\e):∃a:θ (Key×V),H e\.dK a/\(a.Κ (·.1)).Á/\(∀kv∈a,∃i:π,kv.1=Sum.Α i)/\∀i:π,IF Z3=if S c s i=ρ then ι (.bl ρ) else ε:=h.Cr c s e b
def eV.WT (h:Q3){c s:π}{d e:Zs}(hd:D c\d)(M:E c s=ε){j:θ (Key×V)}(B:H d\.dK j)(J:H e\.dK [])(nw:¬xU k D E e):
 eV (OP (.dK (ú j Ϟ ?e))) k D (λb f=>if b=c/\f=s then ι e else E b f) S:=by
 let x:e≠d:=λz=>nw (.Ç (.Α {c,[z]▸hd}))
 let[t,C,L,F,I]:=h.row c d hd;rw[B]at C;obtain rfl:j=t:=by cbv
 rwa[h.top.at λo q=>?_,λb u i=>?_,λb f m a=>?_,λb f m a=>?_,λb f o G=>?_,h.nd,λb f m a=>?_,h.dd,λb r f u i a=>?_,λb f r w m p l=>?_]
 .rw[aq (h.nd c d hd).Τ];rwa[q]
 .cases g:b=c
  .subst g;have:u=d:=by rw[hd]at i;rwa[(Za0 i).Τ]
   subst Δ;rwa[(EF L F I s ?e).congr λf=>?_]
   cbv
  .let y:u≠d:=λz=>g (h.dd γ i ([z]▸hd))
   rwa[((h.row b u i).at λo q=>[aq y]▸q).congr λf=>?_]
   cbv
 .cases g:b=c/\f=s
  .rw[aoO g]at a;obtain rfl:=Za0 a;let[Ų,Ų]:=g;rwa[[],[aq x]▸J,by simp,(λkv A=>by ext A),λo=>?_]
   cases q:S b f o with
   |ρ=>let[m,z]:=h.se γ q;cbv
   |ς=>dsimp only;rw[q];rfl
  .rw[aoK g]at a;exact(h.Cr b f m a).at λo q=>by rw[aq (λz=>h.de c b f d hd (by cbv))];rwa[q]
 .cases g:b=c/\f=s
  .cbv
  .rw[aoK g]at a;rwa[h.ed γ a]
 .cases g:b=c/\f=s
  .rwa[e,aoO g]
  .let[m,z]:=h.se γ G;cbv
 .cases g:b=c/\f=s
  .rw[aoO g]at a;obtain rfl:=Za0 a;rwa[λz=>nw (.Α z)]
  .rw[aoK g]at a;rwa[h.ne γ a]
 .cases g:r=c/\f=s
  .rw[aoO g]at a;obtain rfl:=Za0 a;rwa[nw (.Ç (.Α {b,i}))]
  .rw[aoK g]at a;rwa[h.de δ i a]
 .cases v:b=c/\f=s
  .rw[aoO v]at p;obtain rfl:=Za0 p;cases n:r=c/\w=s
   .rwa[v.1.ν n.1.Τ,v.2.ν n.2.Τ]
   .rw[aoK n]at l;rwa[(nw (.Ç (.Ç {r,w,l}))).Ü]
  .rw[aoK v]at p;cases n:r=c/\w=s
   .rw[aoO n]at l;obtain rfl:=Za0 l;rwa[(nw (.Ç (.Ç {b,f,p}))).Ü]
   .rw[aoK n]at l;rwa[h.ee δ _ p l]
def eV.setCell (h:Q3){c s:π}{e:Zs}(j:E c s\e){u:HO}{g:π->ã}(p:DI (ψ H e u) e λo=>if g o=ρ then ι (.bl ρ) else ε):
 eV (ψ H e u) k D E (λa b o=>if a=c/\b=s then g o else S a b o):=by
 rwa[h.top.at λo q=>?_,λa m d=>(h.row a m d).at λo q=>?_,λa b n f=>?_,h.ed,λa b o l=>?_,h.nd,h.ne,h.dd,h.de,h.ee]
 .rw[aq (h.ne γ j).Τ];rwa[q]
 .rw[aq (λz=>h.de δ d ([z]▸j))];rwa[q]
 .cases i:a=c/\b=s
  .cbv
  .refine((h.Cr a b n f).at λo q=>?_).congr λo=>by rw[aoK i]
   rw[aq (λz=>i (h.ee δ _ f ([z]▸j)))];rwa[q]
 .cases i:a=c/\b=s
  .cbv
  .rw[aoK i]at l;rwa[h.se γ l]
def eV.Y6 (h:Q3){c s:π}{e:Zs}(j:E c s\e){a:θ (Key×V)}(l:H e\.dK a)(o:π):
 eV (ψ H e (.dK (ú a (Sum.Α o) (.bl ρ)))) k D E (λi f b=>S i f b || (decide (i=c) && decide (f=s) && decide (b=o))):=by
 let[d,n,q,p,m]:=h.Cr c s e j;rw[l]at n;obtain rfl:a=d:=by cbv
 rwa[(h.setCell (g:=λb=>S c s b || decide (b=o)) j ((EF q p m o (.bl ρ)).congr λb=>?_)).congr (λ_=>rfl) (λ_ _=>rfl) λi f b=>?_]
 .cbv
 cbv
def eV.WU (h:Q3){n:π}{d:Zs}(hd:D n=ε){g:θ (Key×V)}(v:H k\.dK g)(A:H d\.dK [])(nw:¬xU k D E d):
 eV (ψ H k (.dK (ú g (Sum.Α n) ?d))) k (λc=>if c=n then ι d else D c) E S:=by
 let[m,w,B,x,y]:=h.top;rw[v]at w;obtain rfl:g=m:=by cbv
 let t:d≠k:=λz=>nw (.Α z)
 let en:∀s,E n s=ε:=λs=>by
  cases q:E n s with
  |ε=>rfl
  |ι e=>let[i,z]:=h.ed γ q;cbv
 rwa[(EF B x y n ?d).congr λc=>?_,λc i a=>?_,λc s e p=>(h.Cr c s e p).at λo q=>?_,λc s e p=>?_,h.se,λc i a=>?_,h.ne,λc r i b f=>?_,λc r s i b f=>?_,h.ee]
 .cbv
 .cases e:c=n
  .rw[aoO e]at a;obtain rfl:=Za0 a;subst e;rwa[[],[aq t]▸A,by simp,(λkv u=>by ext u),λs=>?_];dsimp only;rw[en s];rfl
  .rw[aoK e]at a;exact(h.row c i a).at λo q=>by rw[aq (h.nd^a)];rwa[q]
 .rw[aq (h.ne γ p)];rwa[q]
 .let[i,z]:=h.ed γ p
  cbv
 .cases e:c=n
  .cbv
  .rw[aoK e]at a;rwa[h.nd^a]
 .cases j:c=n
  .rw[aoO j]at b;obtain rfl:=Za0 b;cases l:r=n
   .rw[j,l]
   .rw[aoK l]at f;rwa[(nw (.Ç (.Α {_,f}))).Ü]
  .rw[aoK j]at b;cases l:r=n
   .rw[aoO l]at f;obtain rfl:=Za0 f;rwa[(nw (.Ç (.Α {_,b}))).Ü]
   .rw[aoK l]at f;rwa[h.dd γ b f]
 .cases j:c=n
  .rw[aoO j]at b;obtain rfl:=Za0 b;rwa[nw (.Ç (.Ç {11,f}))]
  .rw[aoK j]at b;rwa[h.de δ b f]
end
variable {K:Za1}{mg:Str->Zl}{h:Heap}{C f:Zs}{x q:Str}{st:Stmt}{ps:Zp}{oc kV doc pm cf ct:Zt}{od an:Zo}{DY:Array Zl}
theorem Def.of (X:K.In h)(G:h.Ns ø mg)(a:Γ.W.nsIn K ø x\ι ?f)(l:K.ω f\{oc,od,.func (Ϛ .ε kV doc pm an cf ct),DY})(c:codeIn K cf x=ρ)(k:Ĭ K ?f=ρ)(b:∀(kV doc pm:Zt) (an:Zo) (cf ct:Zt) (us:Zk),@us=@ps->bindArgs (Ϛ .ε kV doc pm an cf ct) ⟨us,[]⟩=Č ge):Def K mg x st ps f (Ϛ .ε kV doc pm an cf ct):=
 let F:=MH (st:=st) l c k
 {F,mg_of X G a,F.binds (ps:=ps) b}
theorem į.of (a:Õ K ?C x\ι ?f)(i:isFn K ?f=ρ)(l:K.ω f\{oc,od,.func (IR .ε kV doc pm an cf ct),DY})(c:codeIn K cf q=ρ)(k:Ĭ K ?f=ρ)(b:∀(kV doc pm:Zt) (an:Zo) (cf ct:Zt) (us:Zk),@us=@ps->bindArgs (IR .ε kV doc pm an cf ct) ⟨us,[]⟩=Č ge):į K C x q st ps f (IR .ε kV doc pm an cf ct):=
 let F:=MH (st:=st) l c k
 {F,{a,i,k},F.binds (ps:=ps) b}
def Def.fd {fd:Ζ}(D:Def K mg x st ps f fd):∃(kV doc pm:Zt)(an:Zo)(cf ct:Zt),fd=fnOf x x (eB st) ZK Ϸ .ε kV doc pm an cf ct:=by let[oc,od,kV,doc,pm,an,cf,ct,DY,e,_]:=D.F.ex;rwa[kV,doc,pm,an,cf,ct,e]
end L2
namespace L2
def wk (b:η->π->Zi):η->Zg->Zi
 |c,[]=>ι c
 |c,z::w=>match b c z with
  |ε=>ε
  |ι d=>wk b d w
section
variable {b:Nat->Int->Zi}
def iW {w:Zg}(h:b n z\m):wk b n (z::w)=wk b m w:=by show (match b n z with|ε=>ε|ι m=>wk b m w)=_;rw[h]
def iQ {w:Zg}(h:wk b n (z::w)\m):∃d,b n z\d/\wk b d w\m:=by
 cases q:b n z with
 |ε=>let a:(match b n z with|ε=>ε|ι d=>wk b d w)\m:=h;rw[q]at a;ext a
 |ι d=>rw[iW q]at h;rwa[d,2,h]
theorem oY:∀{u v:Zg}{c d:η},wk b c u\d->wk b c (u++v)=wk b d v
 |[],v,c,d,h=>by rw[Za0 h];rfl
 |z::u,v,c,d,h=>by let[e,f,a]:=iQ h;rw[aqP,iW f];rwa[oY a]
theorem EG:∀{u v:Zg}{c e:η},wk b c (u++v)\e->∃d,wk b c u\d/\wk b d v\e
 |[],v,c,e,h=>{c,2,h}
 |z::u,v,c,e,h=>by let[d,i,a]:=iQ h;let[f,j,g]:=EG a;rwa[f,[iW i]▸j,g]
def ND (h:b n z\m):wk b n [z]\m:=by rw[iW h];rfl
def take_snoc {w:Zg}(h:w[i]?\z):w.Χ (i+ 1)=w.Χ i++[z]:=by rw[ao2,h];rfl
def ř {w:Zg}(h:w[i]?\z):w.ā i=z::w.ā (i+ 1):=by let a:=(aoh.mp h).1;rw[aqy a,(aoh.mp h).2]
end
structure Œ (S S':RS):ο where
 el:∀c,c<S.q->S'.az KO=S'.az c
 by_:∀c z d,S.by c z=ι d->S'.by (S'.az c) z=ι (S'.az d)
def Œ.of {l:Za2}(h:Ø S [] R)(g:Ø T [] l)(i:∀a z b,ZI b->l a z b)(k:S.q<=T.q):Œ S T:=by
 let el:∀c,c<S.q->T.az KO=T.az c:=λc hc=>(g.fin (aoW (h.lt hc) k) (aoW hc k)).mpr ((h.cg c hc).mono i).Τ
 rwa[el,λc z d e=>?_];let[f,j,r,n,m]:=h.so γ e;let[o,l2,_]:=h.rl γ r;rw[<-n,<-m,el f o,el j l2];rwa[g.ux.mpr {f,j,i γ r,22}]
theorem Œ.wk (h:Œ S T):∀{w:Zg}{c d:η},wk S.by c w=ι d->wk T.by (T.az c) w=ι (T.az d)
 |[],c,d,e=>by rw[Za0 e];rfl
 |z::w,c,d,e=>by let[f,b,a]:=iQ e;rw[iW (h.by_ γ b)];rwa[Œ.wk h a]
structure Gg where
 which:η
 Ω:Zg
 Θ:η
 Ù:η
 first:η
 bN:η
 last:η
abbrev Zf:=List (Option Gg)
def Gg.z1 (g:Gg):π:=g.Ω.á g.first 0
def Gg.z2 (g:Gg):π:=-(g.Ω.á g.last 0)
structure GI (S:RS)(g:Gg):ο where
 fl:g.first<=g.last
 ll:g.last<@g.Ω
 s:g.Θ<S.q
 f:g.Ù<S.q
 r:g.bN<S.q
 wf:wk S.by (S.az g.Θ) Co=ι (S.az g.Ù)
 wr:wk S.by (S.az g.bN) (g.Ω.ā (g.last+ 1))=ι (S.az g.Θ)
def GI.later {g:Gg}(h:GI S g)(l:Œ S T)(a:S.q<=T.q):GI T g:=by let c:=l.wk h.wf;let b:=l.wk h.wr;rw[l.el _ h.s,l.el _ h.f]at c;rw[l.el _ h.r,l.el _ h.s]at b;rwa[h.fl,h.ll,aoW h.s a,aoW h.f a,aoW h.r a,c,b]
def Gg.tF {g:Gg}(h:g.first<@g.Ω):g.Ω[g.first]?\g.z1:=by
 unfold Gg.z1
 cbv
def Gg.at2 {g:Gg}(h:g.last<@g.Ω):g.Ω[g.last]?\(-g.z2):=by
 unfold Gg.z2
 cbv
structure Adv (S:RS)(g g':Gg):ο where
 wh:g'.which=g.which
 wo:g'.Ω=g.Ω
 st:g'.Θ=g.Θ
 gi:GI S g'
 ef:S.az g'.Ù=g'.Ù
 er:S.az g'.bN=g'.bN
 n1:g'.first<g'.last->S.by g'.Ù g'.z1=ε
 n2:g'.first<g'.last->S.by g'.bN g'.z2=ε
 k1:S.az g.Ù=g.Ù->S.by g.Ù g.z1=ε->g'.Ù=g.Ù/\g'.first=g.first
 k2:S.az g.bN=g.bN->S.by g.bN g.z2=ε->g'.bN=g.bN/\g'.last=g.last
def GI.whole {g:Gg}(h:GI S g)(e:g.first=g.last)(c:S.az g.Θ=g.Θ)(ef:S.az g.Ù=g.Ù)(er:S.az g.bN=g.bN)(d:S.by g.Ù g.z1=ι g.bN):wk S.by g.Θ g.Ω=ι g.Θ:=by
 let b:=h.wf;let a:=h.wr;rw[c,ef]at b;rw[c,er,<-e]at a;let hz:=Gg.tF (g:=g) ([e]▸h.ll);have:g.Ω=g.Ω.Χ g.first++(g.z1::g.Ω.ā (g.first+ 1)):=by rw[<-ř hz,ap4]
 rw[Δ,oY b,iW d];rwa[a]
def eN (m:η)(W:bU)(n:π):η:=(~~~(m* 2001)).countP λc=>W ((c / 2001:η):π) (((c % 2001:η):π) - 1000) n
def za (m G:η)(W:bU):η:=((~~~G).Κ λn:η=>eN m W n).sum
def hY (W:bU)(r s:π):bU:=λb a n=>W b a n && !(decide (b=r) && decide (a=s))
def Y7 {r:η}(a:r<m)(b: -1000<=z/\z<=1000):r* 2001+ (z+ 1000).Φ<m* 2001:=by have:(r+ 1)* 2001<=m* 2001:=apA _ a;ext
def NF {c r:η}(f: -1000<=z/\z<=1000):(((c / 2001:η):π)=(r:π)/\((c % 2001:η):π) - 1000=z)↔c=r* 2001+ (z+ 1000).Φ:=by
 constructor
 .rintro ⟨e,d⟩;have:=η.div_add_mod c 2001;ext
 .intro h;subst h
  let a:(r* 2001+ (z+ 1000).Φ) / 2001=r:=by rw[aqJ,η.mul_add_div ⋯,η.div_eq_of_lt ∅];ext
  let b:(r* 2001+ (z+ 1000).Φ) % 2001=(z+ 1000).Φ:=by rw[aqJ,η.mul_add_mod,η.mod_eq_of_lt ∅]
  rw[a,b];ext
def Y8 {r:η}{W:bU}(n:π)(f:r<m)(b: -1000<=z/\z<=1000):eN m (hY W r z) n+ (if W r z n=ρ then 1 else 0)=eN m W n:=by
 let d:=Y7 f b
 let dec:∀c:η,(decide (((c / 2001:η):π)=(r:π)) && decide (((c % 2001:η):π) - 1000=z))=decide (c=r* 2001+ (z+ 1000).Φ):=λc=>by rw[<-ã.decide_and,apN];rwa[NF b]
 let at_:=(NF (c:=r* 2001+ (z+ 1000).Φ) (r:=r) b).mpr rfl;unfold eN hY;cases a:W r z n=ρ
 .rw[aoO a]
  have:=oz (p:=λc:η=>W ((c / 2001:η):π) (((c % 2001:η):π) - 1000) n) (p':=λc:η=>W ((c / 2001:η):π) (((c % 2001:η):π) - 1000) n && !(decide (((c / 2001:η):π)=(r:π)) && decide (((c % 2001:η):π) - 1000=z))) (v:=r* 2001+ (z+ 1000).Φ) (λc=>by rw[dec c,<-decide_not]) ([at_.1,at_.2]▸a) (m* 2001)
  rw[aoO d]at Δ;rwa[Δ]
 .rw[aoK a,η.add_zero];rwa[θ.countP_congr λc _=>?_]
  rw[apY];rwa[λh=>h.1,λh=>{h,5}];rw[dec c]
  cases e:decide (c=r* 2001+ (z+ 1000).Φ) with
  |ς=>rfl
  |ρ=>rw[aoS e,at_.1,at_.2]at h;rwa[Ρ h a]
theorem Ct:∀(l:Zh)(f g h:η->η),(∀n∈l,f n+ g n=h n)->(l.Κ f).sum+ (l.Κ g).sum=(l.Κ h).sum
 |[],_,_,_,_=>rfl
 |a::l,f,g,h,e=>by
  let c:=Ct l f g h λn b=>e n (JE b)
  have:=e a (aou ..);simp only[apF,θ.sum_cons];ext
theorem Ik (p:η->ã):∀l:Zh,(l.Κ λn=>if p n=ρ then 1 else 0).sum=l.countP p
 |[]=>rfl
 |a::l=>by rw[apF,θ.sum_cons,Ik p l,θ.countP_cons];ext
def WV {G r:η}{W:bU}(a:r<m)(b: -1000<=z/\z<=1000):za m G (hY W r z)+ (~~~G).countP (λn:η=>W r z n)=za m G W:=by unfold za;rw[<-Ik (λn:η=>W r z n)];rwa[Ct δ λn _=>Y8 n a b]
theorem WW:∀{l:Zh}{a b:η},l.Á->(∀x∈l,x=a\/x=b)->@l<=2
 |[],_,_,_,_=>⋯
 |[_],_,_,_,_=>η.le_succ 1
 |[_,_],_,_,_,_=>aoo 2
 |x::y::z::r,a,b,e,h=>by
  let f:=h x (by simp);let c:=h y (by simp);let d:=h z (by simp)
  cbv
def Y9 {W:bU}{p q:π×π}(h:∀r s,W r s z=ρ->(r,s)=p\/(r,s)=q):eN m W z<=2:=by
 unfold eN;rw[θ.countP_eq_length_filter];rwa[WW (a:=(p.1* 2001+ (p.2+ 1000)).Φ) (b:=(q.1* 2001+ (q.2+ 1000)).Φ) (aqT.Ö _) λc d=>?_]
 let f:=η.div_add_mod c 2001;rcases h _ _ (apa.mp d).2 with e|e
 .left;rw[<-e];dsimp only;ext
 .right;rw[<-e];dsimp only;ext
theorem NK:∀(l:Zh)(f:η->η)(k:η),(∀n∈l,f n<=k)->(l.Κ f).sum<=@l* k
 |[],_,_,_=>by simp
 |a::l,f,k,h=>by
  let c:=NK l f k λn b=>h n (JE b)
  have:=h a (aou ..);rw[apF,θ.sum_cons,aoA,ari];ext
def WX {W:bU}(h:∀a:η,∃p q:π×π,∀r s,W r s a=ρ->(r,s)=p\/(r,s)=q):za m n W<=2* n:=by
 have:=NK (~~~n) (λa:η=>eN m W a) 2 λa _=>by let[p,q,e]:=h a;rwa[Y9 e]
 rw[aoU]at Δ;unfold za;ext
structure CI (S:RS)(bs:θ (η×Zg×η))(gs:Zf)(ag:Zh)(W:bU)(Ex:η->π->ο)(x:Zi):ο where
 len:@gs=@bs
 al:∀(n:η)(g:Gg),gs[n]?\ι g->bs[n]?\(g.which,g.Ω,g.Θ)/\GI S g/\(n∈ag\/ι n=x\/(g.first<g.last/\W g.Ù g.z1 n=ρ/\W g.bN g.z2 n=ρ))
 de:∀(n:η)(b:η×Zg×η),gs[n]?\ε->ι n≠x->bs[n]?\b->S.az b.2.2≠b.2.2\/wk S.by b.2.2 b.2.1=ι b.2.2
 ab:∀n∈ag,n<@gs
 en:∀r s n,W r s n=ρ->∃r' n':η,r=r'/\n=n'/\r'<S.q/\n'<@gs/\(-1000<=s/\s<=1000)/\(S.az r'=r'/\S.by r' s=ε\/Ex r' s)
 sl:∀n:η,∃p q:π×π,(∀r s,W r s n=ρ->(r,s)=p\/(r,s)=q)/\∀g,gs[n]?\ι g->p=((g.Ù:π),g.z1)/\q=((g.bN:π),g.z2)
 bd:∀b∈bs,∀z∈b.2.1,-1000<=z/\z<=1000
def gP:η->π->ο:=λ_ _=>Ð
section
variable {S:RS}{bs:List (Nat×Zg×Nat)}{gs:Zf}{ag:Zh}{W:bU}{Ex:Nat->Int->Prop}{x:Zi}{n:Nat}
def CI.pop (h:CI S bs gs (ag++[n]) W Ex ε):CI S bs gs ag W Ex (ι n):=by
 rwa[h.len,λk g e=>?_,λk b e _=>h.de k b e (λz=>by ext z),λk a=>h.ab k (Of a),h.en,h.sl,h.bd];let[d,c,f]:=h.al k g e
 cbv
def CI.done (h:CI S bs gs ag W Ex (ι n))(e:gs[n]?\ε)(k:∀b,bs[n]?\b->S.az b.2.2≠b.2.2\/wk S.by b.2.2 b.2.1=ι b.2.2):CI S bs gs ag W Ex ε:=by
 rwa[h.len,λm g c=>?_,λm b c _ d=>?_,h.ab,h.en,h.sl,h.bd]
 .let[i,f,a]:=h.al m g c;erw[i,f];rcases a with a|a|a
  .rwa[.Α a]
  .cbv
  .rwa[.Ç (.Ç a)]
 .cases q:m=n
  .rw[q]at d;rwa[k b d]
  .rwa[h.de m b c (λz=>q (Za0 z)) d]
def gG {c:Type}{l:θ c}{a b:c}(h:(l.set i a)[j]?\b):(j=i/\b=a)\/(j≠i/\l[j]?\b):=by cbv
def CI.kill (h:CI S bs gs ag W Ex (ι n)):CI S bs (gs.set n ε) ag W Ex (ι n):=by
 rwa[[aoR]▸h.len,λm g e=>?_,λm b e q f=>?_,λk a=>[aoR]▸h.ab k a,λr s k e=>?_,λm=>?_,h.bd]
 .rcases gG e with ⟨_,z⟩|⟨z,e⟩
  .ext z
  .rwa[h.al m g e]
 .rcases gG e with ⟨z,_⟩|⟨z,e⟩
  .cbv
  .rwa[h.de m b e q f]
 .rw[aoR];rwa[h.en r s k e]
 .let[p,q,d,c]:=h.sl m;rwa[p,q,d,λg e=>?_];rcases gG e with ⟨_,z⟩|⟨_,e⟩
  .ext z
  .rwa[c g e]
def addW (W:bU)(r s n:π):bU:=λc a b=>W c a b || (decide (c=r) && decide (a=s) && decide (b=n))
def dX {W:bU}{r n a b:π}:addW W r z n y a b=ρ↔W y a b=ρ\/(y=r/\a=z/\b=n):=by
 unfold addW
 cbv
def dM {W:bU}{r a b:π}:hY W r z y a b=ρ↔W y a b=ρ/\¬(y=r/\a=z):=by
 unfold hY
 cbv
def CI.waits (h:CI S bs gs ag W gP (ι n)){g c:Gg}(e:gs[n]?\ι g)(a:Adv S g c)(d:c.first<c.last):CI S bs (gs.set n (ι c)) ag (addW (addW W c.Ù c.z1 n) c.bN c.z2 n) gP ε:=by
 let[t,M,_]:=h.al n g e;let B:=(aoh.mp e).1;let gi:=a.gi;let bw:∀z∈c.Ω,-1000<=z/\z<=1000:=λz hz=>h.bd _ (aoi t) z (by rw[<-a.wo];rwa[hz])
 let D:=bw _ (aoi (Gg.tF (g:=c) (by have:=gi.ll;omega)));let N:=bw _ (aoi (Gg.at2 (g:=c) gi.ll));rwa[[aoR]▸h.len,λm u q=>?_,λm b q _ H=>?_,λk E=>[aoR]▸h.ab k E,λr s k q=>?_,λm=>?_,h.bd]
 .rcases gG q with ⟨rfl,z⟩|⟨z,q⟩
  .ext z;rwa[by rw[t,a.wh,a.wo,a.st],gi,.Ç (.Ç {d,dX.mpr (.Α (dX.mpr (.Ç {222}))),dX.mpr (.Ç {222})})]
  .let[i,j,f]:=h.al m u q;erw[i,j];rcases f with f|f|⟨f,F,G⟩
   .rwa[.Α f]
   .cbv
   .rwa[.Ç (.Ç {f,dX.mpr (.Α (dX.mpr (.Α F))),dX.mpr (.Α (dX.mpr (.Α G)))})]
 .rcases gG q with ⟨_,z⟩|⟨z,q⟩
  .ext z
  .rwa[h.de m b q (λy=>z (Za0 y)) H]
 .rw[aoR];rcases dX.mp q with q|⟨rfl,Ų,rfl⟩
  .rcases dX.mp q with q|⟨rfl,Ų,rfl⟩
   .rwa[h.en r s k q]
   .rwa[_,n,Ų,Ų,gi.f,B,D,.Α {a.ef,a.n1 d}]
  .rwa[_,n,Ų,Ų,gi.r,B,by ext,.Α ⟨a.er,a.n2 d⟩]
 .let[p,q,i,j]:=h.sl m;cases I:m=n
  .subst I;let[J,eq]:=j g e;rwa[((c.Ù:π),c.z1),((c.bN:π),c.z2),λr s w=>?_,λu v=>?_]
   .rcases dX.mp w with w|⟨rfl,Ų,_⟩
    .rcases dX.mp w with w|⟨rfl,Ų,_⟩
     .let[o,L,er,_,_,_,_,l]:=h.en r s m w;rcases l with ⟨A,C⟩|l
      .rcases i r s w with z|z
       .rw[J]at z;injection z with z1 z2
        have:o=g.Ù:=∅
        subst Δ;let[k1,k2]:=a.k1 A (by cbv)
        left
        rw[Prod.mk.injEq];erw[[k1]▸er];rw[z2];unfold Gg.z1;rw[a.wo,k2]
       .rw[eq]at z;injection z with z1 z2
        have:o=g.bN:=∅
        subst Δ;let[k1,k2]:=a.k2 A (by cbv)
        right
        rw[Prod.mk.injEq];erw[[k1]▸er];rw[z2];unfold Gg.z2;rw[a.wo,k2]
      .rwa[l.Ü]
     .rwa[.Α Ų]
    .rwa[.Ç Ų]
   .rcases gG v with ⟨_,z⟩|⟨z,_⟩
    .cbv
    .rwa[Ρ Ų z]
  .rwa[p,q,λr s w=>?_,λu v=>?_]
   .rcases dX.mp w with w|⟨_,_,z⟩
    .rcases dX.mp w with w|⟨_,_,z⟩
     .rwa[i r s w]
     .ext
    .ext
   cbv
def CI.wake (h:CI S bs gs ag W Ex x){r s:π}{ns:Zh}(f:∀k:η,k∈ns↔W r s k=ρ):CI S bs gs (ag++ns) (hY W r s) Ex x:=by
 rwa[h.len,λm g e=>?_,h.de,λk u=>?_,λt o k q=>h.en γ (dM.mp q).1,λm=>?_,h.bd]
 .let[c,b,a]:=h.al m g e;erw[c,b];rcases a with a|a|⟨a,j,l⟩
  .rwa[.Α (Of a)]
  .rwa[.Ç (.Α a)]
  .cases i:(g.Ù:π)=r/\g.z1=s
   .rwa[.Α (Q2 ((f m).mpr (by rw[<-i.1,<-i.2];rwa[j])))]
   .cases d:(g.bN:π)=r/\g.z2=s
    .rwa[.Α (Q2 ((f m).mpr (by rw[<-d.1,<-d.2];rwa[l])))]
    .rwa[.Ç (.Ç {a,dM.mpr {j,i},dM.mpr {l,d}})]
 .rcases aov.mp u with q|q
  .rwa[h.ab k q]
  .let[_,v,_,en,_,y,_]:=h.en γ ((f k).mp q);ext
 .let[p,q,c,b]:=h.sl m;rwa[p,q,λt o w=>c^(dM.mp w).1,b]
def CI.ex {e:η->π->ο}(h:CI S bs gs ag W Ex x)(k:∀(r:η) s n,W r s n=ρ->r<S.q->Ex r s->(S.az r=r/\S.by r s=ε)\/e r s):CI S bs gs ag W e x:=by rwa[h.len,h.al,h.de,h.ab,λr s n q=>?_,h.sl,h.bd];let[g,f,Ų,Ų,a,b,c,d]:=h.en r s n q;rwa[g,f,22,a,b,c,d.Ü .Α (k g s f q a)]
end
structure fU (S:RS):ο where
 a:∀c,c<S.q->S.az c≠c->c∈S.bz
 b:∀c∈S.bz,S.az c≠c
 c:∀c∈S.bz,c<S.q
section
variable {S S':RS}{pend:Ze}{w:Way}{R:Za2}{ks:Zg}
def NM {x:η}:(S.đ n z x m Ë).1.bz=S.bz++[max x m]:=by have:=(iz OH (S.ç n z NY OH) Ë ((S.ç n z NY OH).way OH)).2;have:=apW RS.bz Δ;rwa[Δ]
def wY (h:(S.í Ë w).1.bz=S.bz):(S.í Ë w).1.bu=S.bu:=by
 let no:∀{c x y:η}{z:π},(S.đ c z x y Ë).1.bz=S.bz->Ð:=λ{c x y z} e=>by
  rw[NM]at e;have:=apW θ.ü e
  cbv
 unfold RS.í at h ⊢;split
 .rename_i q;rw[aoO q]at h;rwa[(no h).Ü]
 .rename_i q;rw[aoK q]at h;split
  .rename_i a;rw[aoO a]at h;rwa[(no h).Ü]
  .rfl
def fU.Χ (f:fU S)(h:Ø S (Ë++[w]) R)(j:∀c z d,ze d->z∈ks):fU (S.í Ë w).1/\∃l,(S.í Ë w).1.bz=S.bz++l:=by
 let[_,_,g,_,q]:=h.Χ j;rcases q with ⟨_,_,e⟩|⟨_,c,z,x,y,n,_,p,r,m,_,e,el⟩
 .let ee:=wY e;let el:∀a,(S.í Ë w).1.az a=S.az a:=λa=>by unfold RS.az;rw[ee]
  rwa[{λc hc=>?_,λc hc=>?_,λc hc=>by rw[g];rw[e]at hc;rwa[f.c c hc]},[],by rw[e,aoJ]]
  .rw[g]at hc;rw[el,e];rwa[f.a c hc]
  .rw[e]at hc;rw[el];rwa[f.b c hc]
 .let[_,o,_,ex]:=h.st γ n;rwa[{λa b=>?_,λa b=>?_,λa b=>?_},[max x y],e]
  .rw[g]at b;rw[el,e];intro i;cases q:S.az a=a
   .cbv
   .rwa[Of (f.a a b q)]
  .rw[el];rw[e]at b;rcases aov.mp b with q|q
   .let i:=f.b a q
    cbv
   cbv
  .rw[g];rw[e]at b;rcases aov.mp b with q|q
   .rwa[f.c a q]
   .rw[aok.mp q];rcases arI x y with k|k <;> ext
inductive mw:RS->Ze->RS->ο where
 |nil (S:RS):mw S [] S
 |Χ {S S':RS} {Ë:Ze} {w:Way}:mw (S.í Ë w).1 (S.í Ë w).2 S'->mw S (Ë++[w]) S'
def mw.all (l:ir):Ø S Ë R->(∀c z d,ze d->z∈ks)->fU S->Ø S' [] R/\fU S'/\S'.q=S.q/\S'.L=S.L/\∃l,S'.bz=S.bz++l:=by
 induction l with
 |nil S=>exact λg _ w=>{g,w,22,[],(aoJ _).Τ}
 |Χ _ i=>
  intro g e w;let[h,_,m,k,_]:=g.Χ e;let[f,l2,n]:=w.Χ g e;let[a,b,c,d,o,j]:=i h e f
  cbv
end
section
variable {S S':RS}{R:Za2}{bs:List (Nat×Zg×Nat)}{gs:Zf}{ag:Zh}{W:bU}{n c d:Nat}{z:Int}
def CI.lay (h:CI S bs gs ag W gP (ι n))(e:gs[n]?\ε)(g:Ø S [] R)(w:Ø S' [] (LS d))(hm:S'.q=S.q)(I:fU S)(C:fU S'){l:Zh}(Q:S'.bz=S.bz++l)(hc:c<S.q)(N:S.az c=c)(hd:d<S.q)(ed:S.az d=d)(k:∀b,bs[n]?\b->S'.az b.2.2≠b.2.2\/wk S'.by b.2.2 b.2.1=ι b.2.2):CI S' bs gs ag W (λr s=>(r=c/\s=z)\/(r=d/\s= -z)\/∃m∈l,r=m\/r=S'.az m) ε:=by
 let lt:=Œ.of g w kf (arE hm.Τ)
 let p:∀e,e<S.q->S.az e=e->S'.az e≠e->e∈l:=λe j i D=>by
  have:=C.a e ([hm]▸j) D;rw[Q]at Δ;rcases aov.mp Δ with q|q
  .rwa[Ρ i (I.b e q)]
  ext
 let h0:CI S' bs gs ag W (λr s=>(r=c/\s=z)\/(r=d/\s= -z)\/∃m∈l,r=m\/r=S'.az m) (ι n):=by
  rwa[h.len,λm u q=>?_,λm b A H O=>?_,h.ab,λr s m q=>?_,h.sl,h.bd]
  .let[j,i,D]:=h.al m u q;rwa[j,i.later lt (arE hm.Τ),D]
  .cases t:S'.az b.2.2=b.2.2
   .right
    rcases h.de m b A H O with q|q
    .cases y:b.2.2<S.q
     .let j:=(g.el _ y).1;let i:=(w.el _ ([hm]▸g.lt y)).1;rw[lt.el _ y,t]at i;rwa[Ρ (η.le_antisymm j i) q]
     .exfalso
      let G:@S.bu=S.q:=g.wf.e;let M:@S'.bu=S'.q:=w.wf.e;let J:S.az b.2.2=0:=by unfold RS.az;rw[aom,aoG ∅];rfl
      let B:S'.az b.2.2=0:=by unfold RS.az;rw[aom,aoG ∅];rfl
      rwa[q (by rw[J,<-B,t])]
    .have:=lt.wk q;rw[t]at Δ;rwa[Δ]
   .rwa[.Α t]
  .let[f,L,t,P,F,U,G,q]:=h.en r s m q;erw[f,L,t,P,[hm]▸F,U,G];rcases q with ⟨A,H⟩|q
   .cases j:S'.az f=f
    .cases i:S'.by f s with
     |ε=>exact .Α {j,2}
     |ι o=>
      right
      let[v,T,x,f1,X]:=w.so γ i
      let Ď:∀e,e<S.q->S.az e=e->S'.az e=f->e=f\/∃m∈l,f=m\/f=S'.az m:=λe Y Z V=>by cbv
      rcases x with x|⟨rfl,Ų,rfl⟩|⟨rfl,Ų,rfl⟩
      .let[E,l2,_]:=g.rl γ x;rcases Ď (S.az v) (g.lt E) (g.el _ E).2 ([lt.el _ E]▸f1) with a|a
       .have:=g.ux.mpr {v,T,x,a,Ų}
        cbv
       .rwa[.Ç (.Ç a)]
      .rcases Ď v hc N f1 with a|a
       .rwa[.Α {a.Τ,Ų}]
       .rwa[.Ç (.Ç a)]
      .rcases Ď v hd ed f1 with a|a
       .rwa[.Ç (.Α {a.Τ,Ų})]
       .rwa[.Ç (.Ç a)]
    .rwa[.Ç (.Ç (.Ç {f,p f F A j,.Α Ų}))]
   .rwa[q.Ü]
 rwa[h0.done e k]
end
def cH (a:η->π->Zi):η->Zg->Zh
 |_,[]=>[]
 |r,z::c=>match a r z with
  |ε=>[]
  |ι b=>b::cH a b c
def Cu {a:η->π->Zi}{r:η}(h:a r z=ε):cH a r (z::l)=[]:=by show (match a r z with|ε=>[]|ι b=>b::cH a b l)=[];rw[h]
def p8 {a:η->π->Zi}{r:η}(h:a r z\n):cH a r (z::l)=n::cH a n l:=by show (match a r z with|ε=>[]|ι n=>n::cH a n l)=_;rw[h]
def oJ (w:η)(p:Zh)(k:η):Dt:=.t [.s [114,117,108,101],.i w,.t (p.Κ λc:η=>Dt.i (c:π)),.i k]
structure EH (ws:Za3)(nr:η)(S:RS)(which:η)(Ω:Zg)(Θ m c d:η)(z:π):ο where
 w:ws[which]?\Ω
 n:which<nr\/Θ=0
 s:Θ<S.q/\S.az Θ=Θ
 hz:Ω[m]?\z
 f:wk S.by Θ OF=ι c
 r:wk S.by d (Ω.ā (m+ 1))=ι Θ
 hc:c<S.q/\S.az c=c
 hd:d<S.q/\S.az d=d
 o:S.by c z≠ι d
def sv (S:RS)(a:η)(Ω:Zg)(Θ m d:η):RS:={ S with rows:=S.rows++[oJ a ((Θ::cH S.by Θ OF)++(d::cH S.by d (Ω.ā (m+ 1)))) m] }
inductive Tr (ws:Za3)(nr:η):RS->RS->ο where
 |Ł (S:RS):Tr ws nr S S
 |ı {S S1 S2:RS} {which:η} {Ω:Zg} {Θ m c d:η} {z:π}:Tr ws nr S S1->EH ws nr S1 which Ω Θ m c d z->mw (sv S1 which Ω Θ m d) [(c,z,d)] S2->Tr ws nr S S2
def NP (S:RS)(c:η)(Ω:Zg):ο:=wk S.by c Ω=ι c\/∃(i j f r:η)(y z:π),i<j/\Ω[i]?\y/\Ω[j]?\z/\wk S.by c (Ω.Χ i)=ι f/\S.by f y=ε/\wk S.by r (Ω.ā (j+ 1))=ι c/\S.by r (-z)=ε
structure A5 (rs ps:Za3)(S:RS):ο where
 r:∀w∈rs,∀c,c<S.q->S.az c=c->NP S c w
 p:∀w∈ps,NP S 0 w
def UW (U:Za2):η->Zg->η->ο
 |p,[],q=>p=q
 |p,z::w,q=>∃r,U p z r/\UW U r w q
structure Mdl (ws:Za3)(nr M:η)(φ:η->η)(U:Za2):ο where
 sy:∀p z q,U p z q->U q (-z) p
 fn:∀p z q q',U p z q->U p z q'->q=q'
 cl:∀(which:η)(Ω:Zg)(Θ m c d:η)(z:π),ws[which]?\Ω->which<nr\/Θ=0->Θ<M->Ω[m]?\z->UW U (φ Θ) OF (φ c)->UW U (φ d) (Ω.ā (m+ 1)) (φ Θ)->U (φ c) z (φ d)
section
variable {S S':RS}{R:Za2}{φ:Nat->Nat}{U:Za2}{ks:Zg}
def EI (i:∀p z q e,U p z q->U p z e->q=e)(d:∀a z b,ZI b->U (φ a) z (φ b)){a b:η}(h:Cg R a b):φ a=φ b:=by
 induction h with
 |Ł=>rfl
 |Τ _ c=>exact c.Τ
 |ν _ _ f k=>exact f.ν k
 |ı j g _ c=>exact i δ (d γ j) ([c]▸d γ g)
def EJ (g:Ø S [] R)(e:∀p z q i,U p z q->U p z i->q=i)(f:∀a z b,ZI b->U (φ a) z (φ b)){c d:η}{z:π}(h:S.by c z=ι d):U (φ c) z (φ d):=by
 let[m,n,r,l,t]:=g.so γ h;let[j,k,_]:=g.rl γ r;let o:=EI e f (g.cg _ j);let s:=EI e f (g.cg _ k)
 cbv
theorem EK (h:∀c z d,S.by c z=ι d->U (φ c) z (φ d)):∀{w:Zg}{c d:η},wk S.by c w=ι d->UW U (φ c) w (φ d)
 |[],c,d,e=>by rw[Za0 e];rfl
 |z::w,c,d,e=>by let[f,b,a]:=iQ e;rwa[_,h γ b,EK h a]
def Tr.sound {ws:Za3}(t:Tr ws n S S')(md:Mdl ws n m φ U)(A:∀w∈ws,∀z∈w,z∈ks/\-z∈ks):Ø S [] R->fU S->S.q<=m->(∀a z b,ZI b->z∈ks)->(∀a z b,ZI b->U (φ a) z (φ b))->
 ∃j,Ø S' [] j/\fU S'/\S'.q=S.q/\S'.L=S.L/\(∀a z b,ZI b->j a z b)/\(∀a z b,j a z b->z∈ks)/\∀a z b,j a z b->U (φ a) z (φ b):=by
 induction t with
 |Ł=>exact λg w _ k h=>{R,g,w,22,λ_ _ _ r=>r,k,h}
 |ı _ ra C F=>
  rename_i J I which Ω Θ f c d z _;intro g q v k h;let[B,g1,l,D,G,E,k1,p]:=F g q v k h;let o:=λc z d=>EJ (c:=c) (d:=d) (z:=z) g1 md.fn p
  let u:=md.cl which Ω Θ f c d z ra.w ra.n (by have:=ra.s.1;omega) ra.hz (EK o ra.f) (EK o ra.r);let hz:=A Ω (aoi ra.w) z (aoi ra.hz)
  let i:∀a y b,gb B c z d a y b->y∈ks:=by
   rintro a y b (r|⟨_,e,_⟩|⟨_,e,_⟩)
   .rwa[k1 γ r]
   .rw[e];rwa[hz.1]
   .rw[e];rwa[hz.2]
  let[x,H,s,l2,_]:=C.all (g1.lay z ra.hc.1 ra.hd.1 _) i {l.a,l.b,l.c};erw[_,x,H,s.ν D,l2.ν G,λa y b r=>.Α (E γ r),i];rintro a y b (r|⟨rfl,Ų,rfl⟩|⟨rfl,Ų,rfl⟩)
  .rwa[p γ r]
  .rwa[u]
  .rwa[md.sy γ u]
end
section
variable {X:Cx}
def WY (K:Za1)(h:TA)(f:TE):TI:=λ c H R=>h c H λd e=>f c e λz b=>∃a n,d=[?a]/\z=.υ n/\0<=n/\n<1000/\(∃g,ay K b a g)/\R (Ux K a n) b
def aad (Q:V->Hp->ο):Zb->Hp->ο
 |[z],H=>Q z H
 |_,_=>Ð
theorem WZ {Q:V->Hp->ο}:∀{a:Zb}{H:Hp},aad Q a H->∃z,a=[z]/\Q z H
 |[z],_,h=>{z,2,h}
 |[],_,h=>h.Ü
 |_::_::_,_,h=>h.Ü
def NQ {o:Za1}[i:eD X o]{a b:ę}{v t:TE}{elts:Zr}{Y:η}{O p pos kp:Pos}(C:Gl X ύ)(T:X.mg ύ=ε)(U:PE X a v)(B:PE X b t)(x:Ο [a] X.env=(ς,å a X.env)::Ο [] X.env)(d:((ZX (Ο [a] X.env)).any (·.1) || (wT (ď [⟨ι ϱ,b,kp⟩] X.env)).any (·.1.isNone))=ς):
 PI X (.ń elts Y O) (.ġ (.ö ύ p) [a] [{ι ϱ,b,kp}] pos) (WY o (vC v uc) t):=by
 cases i.eq;intro c s y H R I h;rwa[apI (iK I C T boot_enumerate ?_)];rwa[Γ.W.callWith_of (P:=λ_=>þ) d (λ_ _=>{.machine,.Ç (.Α Ų),λ_ _ _ _ _ q=>aor q}) (evalArgs_kw2 Ų (bx ((ae U ah x) pos c s y H _ I h) λus Q ζ=>?_) x)];let[F,N,D,r,q]:=ζ;rwa[bx ((HQ B Mw:PK X [{ι ϱ,b,kp}] _) pos c Q y N (aad λz k=>∃a n,F=[?a]/\z=.υ n/\0<=n/\n<1000/\(∃w,ay X.K k a w)/\R (Ux X.K a n) k) D q) λws G ζ=>?_];let[Z,k,m,S,V]:=ζ;rwa[þ.intro,5]
 let[z,Ų,l,n,L,Ų,e,j,f,M]:=WZ V;subst L;let[w,f]:=f;let[u,Ų,W]:=vals1 r;ext W;let[u2,Ų,A,Ų]:=vals1 S;let[J,rv,pl,hz]:=m.Ĥ f;show Ó β (Ğ (.Â ύ) [?l] [(ϱ,.υ n A)]) β G;rwa[En.GF pl.î e j λh' g hit E=>Ig m (xF l _) (λ_=>∅) ([show n+ ((0:η):π)=n by ext]▸g) hit E M]
end
section
variable {prog:Program} {w:World} {K:Type} [DecidableEq K] {knd:HeapKind prog w K} {A:Around} {E:Zt->Zu->Prop} {s:Zu} {d a:Zs} {k:K} {xs:List (K×Zs×Zt)}
def GH {dflt:Zt}(m:knd.room A)(b:knd.is s.τ k a)(C:s.τ.DictOfH knd d xs)(u:∀v,(atKey xs k).Κ (·.2)\v->Q v { s with Æ:=s.Æ+ knd.draws k })(r:atKey xs k=ε->∀i,i.DictOfH knd d (storedH xs k a dflt)->Û.ė d s.τ i->Q dflt { s with τ:=i,Æ:=s.Æ+ knd.draws k })(x:@xs<=Ε):(À<|>w) A (dictSetDefault d ?a dflt) Q E s:=by
 let[G,B,t,f,g2,c,h,n,l]:=C;unfold dictSetDefault
 first|(with_reducible rwa[aps ?_])|skip
 rwa[aof (knd.pyHash m b (aof (wpAny_dictFind_heap (s:={ s with Æ:=s.Æ+ knd.draws k }) m b f c h n l (λno=>?_) (λj p o=>?_))))]
 .let I:k∉xs.Κ (·.1):=not_mem_keys_of_get no;let g:=atKey_none_of_get no;rwa[aof (arC (aof (wpAny_updateDictKeys (hz:=by let e:=size_of_entries h;omega) (s:={ s with Æ:=s.Æ+ knd.draws k }) f c (aor (r g _ ?_ (apw ..))))))];erw[11,t+ 1,ao5 _ f (Obj.isFreed_of_dict (Obj.data_mapDictKeys c _)),g2.mapDictKeys _,Obj.data_mapDictKeys c _,55]
  .rw[storedH_new g];simp[h,entryOfKey]
  .rw[storedH_new g];intro y z;rcases aov.mp z with q|q
   .rwa[knd.Į (n y q) f c (apw ..)]
   .rw[aok.mp q];rwa[knd.Į b f c (apw ..)]
  .rw[storedH_new g,aoE,apb]
   cbv
 .let D:=atKey_of_get l o;rwa[aof (arl (s:={ s with Æ:=s.Æ+ knd.draws k }) f c ?_)]
  let F:B[j]?\(entryOfKey knd (k,p)):=by rw[entry_at h j,o];rfl
  rw[F];rwa[aof (arC (aor (u _ (by rw[D];rfl))))]
def Dg (knd:HeapKind À w K)(d a:Zs)(e:(d==ë)=ς)(dflt:Zt):MeetsIn À w (Λ.«dict.setdefault» {[?d,?a,dflt],[]}) (λA R s=>knd.room A.in1/\∃k xs,knd.is s.τ k a/\s.τ.DictOfH knd d xs/\@xs<=Ε/\
 (∀v,(atKey xs k).Κ (·.2)\v->R (.ok (.ret v)) { s with Æ:=s.Æ+ knd.draws k })/\(atKey xs k=ε->∀b,b.DictOfH knd d (storedH xs k a dflt)->Û.ė d s.τ b->R (.ok (.ret dflt)) { s with τ:=b,Æ:=s.Æ+ knd.draws k })):=
 .of_wp λA R s ζ=>by
  let[j,k,xs,c,hm,n,i,h]:=ζ
  unfold Λ.«dict.setdefault» Λ.Dict.keyAndDefault;rwa[aof (aof (arf hm.Ý ?_))];show Ó β (Č (d,Η.É a,ι dflt)) β s;rwa[aor ?_];show Ó β (if (d==ë)=ρ then _ else (dictSetDefault d ?a dflt >>=_)) β s;rw[e];rwa[aof (GH j c hm (λv g=>aor {v,2,i v g}) (λm b l f=>aor {dflt,2,h m b l f}) n)]
end
inductive aae (a:Zs)(y z:V)(H:Hp)(Q:VK):ο
 |mk (kvs:θ (Zd×V))(k:Zd)(b:Zs):H a\.dT kvs->y=?b->H b\.Ò (k.Κ kV)->@kvs<Ε->(∀v,Pc k\v->Q v H)->(Pc k=ε->Q z (Ϻ (.dT (ú kvs k z))))->aae a y z H Q
def aaf (td e tx:TE):TE:=λ b H Q=>td b H λx c=>Ib x c λa=>e b c λy d=>tx b d λz f=>aae a y z f Q
section
variable {X:Cx}{o e f:Expr}{apos cP:Pos}{td ty tx:TE}
def RM (hu:X.A.İ+ 1<Ť)(Z:Za)(he:ME)(Y:PE X f tx)(m:M2 X o SI ĭ e f cP):PE X (.ġ (.â o SI ĭ) [e,f] [] cP) (aaf td ty tx):=by
 intro j s r H Q I h;rwa[SS (bx (Z j s r H _ I h) λu s1 ζ=>?_)];let[x,H1,D,rx,a,ex,d,S]:=ζ;subst ex;obtain rfl:u=Η.É a:=rx;let[t1,M,_]:=oU D d;erw[t1,M];rw[m.trees]
 rwa[xL (apT (apn (bx (he j s1 r H1 _ D S) λiv P ζ=>?_)))];let[y,H2,V,ry,q2]:=ζ;rwa[ apn (bx (Y j P r H2 _ V q2) λfv s3 ζ=>?_)];let[z,E,n,J,i,k,b,A,ey,G,N,U,q4]:=ζ;rwa[ap2 ?_]
 subst ey;cases (show iv=Η.É b from ry);let[W,B,xs,rel,L]:=Ur n.a0 A;let g:=rel.val k;let p:@xs<=Ε:=by rw[<-Paired.ü rel];rwa[W]
 rwa[aqK aqi L.Ý Γ.F.entry_dict_setdefault (Γ.F.args_dict_setdefault_3^_) (Dg _ a b B fv) {aqw hu,k,xs,oT n.a0 G,L,p,λv hv=>?_,λhn g1 w sb=>?_}]
 .rw[hv]at g
  cases l:bF i k with
  |ε=>rw[l]at g;rwa[g.Ü]
  |ι t=>rw[l]at g;rwa[t,E,n.tok _,g,U t l]
 .rw[hn]at g
  cases l:bF i k with
  |ι t=>rw[l]at g;rwa[g.Ü]
  |ε=>
   let hl:@(ú i k z)<=Ε:=by have:=gN i k z;ext
   let[q,es,ep,F,O,h3,R,_,T]:=w;rwa[z,ψ E a (.dT (ú i k z)),mj n ([A]▸þ.intro) sb ⟨q,F⟩ ⟨hl,B,_,(rel.put k G J).Į λc ys C=>?_,q,es,ep,F,O,h3,R,T⟩,J,q4 l];rw[aq (bD C A (λz=>nomatch z))];rwa[C]
end
section
variable {H:Hp}{k:Zs}{D:Int->Zo}{E:Int->Int->Zo}{S:bU}
def eV.RN (h:Q3){c s:π}{d:Zs}(hd:D c\d){l:θ (Key×V)}(v:H d\.dK l):
 eV (OP (.dK (fT l Ϟ))) k D (λf g=>if f=c/\g=s then ε else E f g) (hY S c s):=by
 let[m,w,F,y,C]:=h.row c d hd;rw[v]at w;obtain rfl:l=m:=by cbv
 let un:∀{f g:π}{z:Zs},(if f=c/\g=s then ε else E f g)\z->¬(f=c/\g=s)/\E f g\z:=λ{f g z} q=>by cbv
 rwa[h.top.at λo q=>?_,λf p j=>?_,λf g n i=>?_,λf g n i=>h.ed γ (un i).2,λf g o B=>?_,h.nd,λf g n i=>h.ne γ (un i).2,h.dd,λf A g p j i=>h.de δ j (un i).2,λf g A G n x u=>h.ee δ _ (un x).2 (un u).2]
 .rw[aq (h.nd c d hd).Τ];rwa[q]
 .cases t:f=c
  .subst t;obtain rfl:p=d:=by cbv
   rwa[(WR F y C s).congr λg=>?_]
   cbv
  .rwa[((h.row f p j).at λo q=>by rw[aq λz=>t (h.dd γ j ([z]▸hd))];rwa[q]).congr λg=>?_]
   cbv
 .let[ne,r]:=un i;rwa[((h.Cr f g n r).at λo q=>[aq (λz=>h.de c f g d hd (by rw[<-z];rwa[r]))]▸q).congr λo=>?_]
  have:hY S c s f g o=S f g o:=by rw[aqn,dM];rwa[λz=>z.1,λz=>{z,ne}]
  rw[Δ]
 .let[a,b]:=dM.mp B;let[e,r]:=h.se γ a
  cbv
end
structure WBd (k:Zs)(D:π->Zo)(E:π->π->Zo)(W:bU)(O:Zs->ο):ο where
 o:∀b,xU k D E b->O b
 d:∀c x,D c\x->0<=c/\c<100000
 e:∀c s x,E c s\x-> -1000<=s/\s<=1000
 w:∀c s n,W c s n=ρ->0<=n/\n<100000
def q8 (H:Hp)(k:Zs)(W:bU)(O:Zs->ο):ο:=∃D E,eV H k D E W/\WBd k D E W O
def gH (H:Hp)(k:Zs)(W:bU)(O:Zs->ο)(c:π)(d:Zs):ο:=∃D E,eV H k D E W/\WBd k D E W O/\D c\d
def sx (H:Hp)(k:Zs)(W:bU)(O:Zs->ο)(c s:π)(e:Zs):ο:=∃D E,eV H k D E W/\WBd k D E W O/\E c s\e
def NR (O:Zs->ο)(p:Zs):Zs->ο:=λb=>O b\/b=p
variable {H H':Hp}{k:Zs}{W:bU}{O:Zs->Prop}{c s:Int}{d e p:Zs}
def q8.Ï (h:ij)(f:∀b o,O b->H b\o->H' b\o):q8 H' k W O:=by let[D,E,g,a]:=h;rwa[D,E,g.Ï λb o i q=>f b o (a.o b i) q,a]
def q8.tE (h:ij):Ia H k:=by let[D,E,a,_]:=h;let[kv,q,_]:=a.top;rwa[.Α {kv,.Α q}]
def q8.room (h:ij)(t:H p=ε)(hc:0<=c/\c<100000):∃a,WA (.dK []) k\.dK a/\@a<Ε/\(∀v,IF (Sum.Α c)\v->∃d,v=?d/\gH (WA (.dK [])) k W O c d)/\
 (IF (Sum.Α c)=ε->gH (ψ (WA (.dK [])) k (.dK (ú a (Sum.Α c) ?p))) k W (NR O p) c p):=by
 let[D,E,r,f]:=h;let y:=ao.ψ (o:=.dK []) t;let k1:=r.Μ y;let[a,m,A,w,l]:=k1.Y4;let nw:¬xU k D E p:=λz=>by let[kv,q]:=r.there z;cbv
 rwa[a,m,5,λv g=>?_,λg=>?_]
 .rwa[aop (y9 (n:=100000) (lo:=0) A w l λi v g=>?_) ⋯]
  cases e:D i with
  |ε=>rw[e]at g;ext g
  |ι x=>have:=f.d i x e;ext
 .rw[l]at g;let[d,hd,Ų]:=apH.mp g;rwa[d,2,D,E,k1,f,hd]
 .rw[l]at g;let hd:D c=ε:=arU.mp g;rwa[_,E,k1.WU hd m aj nw,{λb u=>?_,λj x q=>?_,f.e,f.w},aoO Ų]
  .rcases u with z|⟨j,z⟩|z
   .rwa[.Α (f.o b (.Α z))]
   .dsimp only at z;cases e:j=c
    .rw[aoO e]at z;rwa[.Ç (Za0 z).Τ]
    .rw[aoK e]at z;rwa[.Α (f.o b (.Ç (.Α {j,z})))]
   .rwa[.Α (f.o b (.Ç (.Ç z)))]
  .cases e:j=c
   .rw[e];rwa[hc]
   .rw[aoK e]at q;rwa[f.d j x q]
def gH.tE (h:AR):Ia H d:=by let[D,E,a,f,b]:=h;let[kv,q,_]:=a.row c d b;rwa[.Α {kv,.Α q}]
def gH.own (h:AR):O d:=by let[D,E,f,a,b]:=h;rwa[a.o d (.Ç (.Α {c,b}))]
def gH.Μ (h:AR)(s:bc):gH H' k W O c d:=by let[D,E,b,a,f]:=h;rwa[D,E,b.Μ s,a,f]
def gH.cell (h:AR)(w:H p=ε)(C: -1000<=s/\s<=1000):∃a,WA (.dK []) d\.dK a/\@a<Ε/\(∀v,IF Ϟ\v->∃e,v=?e/\sx (WA (.dK [])) k W O c s e)/\
 (IF Ϟ=ε->sx (ψ (WA (.dK [])) d (.dK (ú a Ϟ ?p))) k W (NR O p) c s p):=by
 let[D,E,u,f,hd]:=h;let B:=ao.ψ (o:=.dK []) w;let k1:=u.Μ B;let[a,t,F,A,m]:=k1.RL hd;let nw:¬xU k D E p:=λz=>by let[kv,q]:=u.there z;cbv
 rwa[a,t,5,λv g=>?_,λg=>?_]
 .rwa[aop (y9 (n:=2001) (lo:=-1000) F A m λi v g=>?_) ⋯]
  cases e:E c i with
  |ε=>rw[e]at g;ext g
  |ι x=>have:=f.e c i x e;ext
 .rw[m]at g;let[e,r,Ų]:=apH.mp g;rwa[e,2,D,E,k1,f,r]
 .rw[m]at g;let r:E c s=ε:=arU.mp g;rwa[D,_,k1.WT hd r t aj nw,{λb y=>?_,f.d,λl j x q=>?_,f.w},aoO {22}]
  .rcases y with z|z|⟨l,j,z⟩
   .rwa[.Α (f.o b (.Α z))]
   .rwa[.Α (f.o b (.Ç (.Α z)))]
   .dsimp only at z;cases e:l=c/\j=s
    .rw[aoO e]at z;rwa[.Ç (Za0 z).Τ]
    .rw[aoK e]at z;rwa[.Α (f.o b (.Ç (.Ç {l,j,z})))]
  .cases e:l=c/\j=s
   .rw[e.2];rwa[C]
   .rw[aoK e]at q;rwa[f.e l j x q]
def sx.own (h:sx H k W O c s e):O e:=by let[D,E,f,a,b]:=h;rwa[a.o e (.Ç (.Ç {c,s,b}))]
def sx.put (h:sx H k W O c s e){n:π}(o:0<=n/\n<100000):∃a,H e\.dK a/\@a<Ε/\q8 (ψ H e (.dK (ú a (Sum.Α n) (.bl ρ)))) k (addW W c s n) O:=by
 let[D,E,g,b,j]:=h;let[a,f,r,l,m]:=g.Y5 j;rwa[a,f,5,D,E,g.Y6 j f n,b.o,b.d,b.e,λx t u q=>?_]
 .rwa[aop (y9 (n:=100000) (lo:=0) r l m λi v y=>?_) ⋯];cases w:W c s i=ρ
  .have:=b.w γ w;ext
  cbv
 .rcases dX.mp q with q|⟨_,_,q⟩
  .rwa[b.w γ q]
  .rw[q];rwa[o]
def q8.ű (h:ij):∃o,dF H k (.υ c) o/\((o=ε/\∀s n,W c s n=ς)\/∃d,o\?d/\gH H k W O c d):=by
 let[D,E,a,i]:=h;let[b,j,r,q,f]:=a.Y4;let g:=dF.k (k:=Sum.Α c) j;rw[f]at g;erw[_,g]
 cases e:D c with
 |ε=>
  rwa[.Α {2,λs n=>?_}]
  cases w:W c s n with
  |ς=>rfl
  |ρ=>
   let[x,l]:=a.se γ w;let[y,m]:=a.ed γ l
   cbv
 |ι d=>exact .Ç {d,2,D,E,a,i,e}
theorem EL:∀{a:θ (Key×V)},(a.Κ (·.1)).Á->(∀kv∈a,∃n:η,kv.1=Sum.Α (n:π))->∃ns:Zh,a.Κ (λkv=>kV kv.1)=aw (nI ns)/\ns.Á/\∀n:η,n∈ns↔Sum.Α (n:π)∈a.Κ (·.1)
 |[],_,_=>{[],2,aqb,λn=>{(λz=>by ext z),(λz=>by ext z)}}
 |kv::r,b,h=>by
  rw[apF,ao0]at b;let[ns,g,j,i]:=EL b.2 λx l=>h x (JE l)
  let[m,f]:=h kv (aou ..);rwa[m::ns,5,ao0.mpr {λz=>b.1 ([f]▸(i m).mp z),j},λn=>?_]
  .rw[apF,g,f];rfl
  cbv
def Il {a:θ (Key×V)}{v:V}(h:bF a Pi\v):Sum.Α z∈a.Κ (·.1):=ao1.mpr {_,RK h,2}
def gH.pop (h:AR)(s:π):∃a,H d\.dK a/\(IF Ϟ=ε->∀n,W c s n=ς)/\
 ∀v,IF Ϟ\v->∃(e:Zs)(f:θ (Key×V))(ns:Zh),v=?e/\e≠d/\H e\.dK f/\f.Κ (λkv=>kV kv.1)=aw (nI ns)/\ns.Á/\(∀n:η,n∈ns↔W c s n=ρ)/\q8 (OP (.dK (fT a Ϟ))) k (hY W c s) O:=by
 let[D,E,o,l,hd]:=h;let[a,y,R,P,A]:=o.RL hd;rwa[a,y,λt n=>?_,λv t=>?_]
 .rw[A]at t
  cases w:W c s n with
  |ς=>rfl
  |ρ=>
   let[x,Q]:=o.se γ w
   cbv
 .rw[A]at t;let[e,C,Ų]:=apH.mp t;let[f,L,u,F,G]:=o.Y5 C
  let r:∀i:π,Sum.Α i∈f.Κ (·.1)↔W c s i=ρ:=λi=>by
   constructor
   .intro z;let[kv,g,e]:=ao1.mp z;have:=EE u g
    cbv
   .intro w;rwa[Il (v:=.bl ρ) (by rw[G,aoO w])]
  let[ns,M,J,N]:=EL u λkv g=>by let[i,B]:=F kv g;have:=l.w γ ((r i).mp (by rw[<-B];rwa[aqN g]));rwa[i.Φ,by rw[B];congr 1;ext]
  rwa[e,f,ns,2,λz=>o.de δ hd (by rw[<-z];rwa[C]),L,M,J,λn=>(N n).ν (r n),11,o.RN hd y,{λb I=>l.o b ?_,l.d,λm j x q=>?_,λm j n q=>l.w γ (dM.mp q).1}]
  .rcases I with z|z|⟨m,j,z⟩
   .rwa[.Α z]
   .rwa[.Ç (.Α z)]
   .dsimp only at z;cases e:m=c/\j=s
    .cbv
    .rw[aoK e]at z;rwa[.Ç (.Ç {m,j,z})]
  .cases e:m=c/\j=s
   .rw[aoO e]at q;ext q
   .rw[aoK e]at q;rwa[l.e γ q]
def NT {P:η->ã}{G:η}:∀{ns:Zh},ns.Á->(∀n∈ns,n<G/\P n=ρ)->@ns<=(~~~G).countP P:=by
 intro ns
 induction ns generalizing P with
 |nil=>exact λ_ _=>aoN _
 |È m r i=>
  intro g h;rw[ao0]at g;let[f,b]:=h m (aou ..);have:=oz (p:=P) (p':=λa=>P a && decide (a≠m)) (v:=m) (λa=>rfl) b G;rw[aoO f]at Δ
  cbv
def A6 {W:bU}{c s:π}(h:∀n,W c s n=ς):hY W c s=W:=by
 funext b a n
 rw[aqn,dM]
 cbv
end L2
namespace L2
variable {S:RS}{R:Za2}
theorem ER (g:Ø S [] R):∀{w:Zg}{c d e:η},wk S.by c w=ι e->wk S.by d w=ι e->c=d
 |[],c,d,e,b,a=>by rw[Za0 b,Za0 a]
 |z::w,c,d,e,b,a=>by
  let[n,h,f]:=iQ b;let[l,i,j]:=iQ a;have:=ER g f j;subst Δ;let k:=g.sy γ h;let m:=g.sy γ i
  cbv
def RP (g:Ø S [] R){p c d m:η}{Ω:Zg}{z:π}(h:NP S p Ω)(hz:Ω[m]?\z)(n:wk S.by p OF=ι c)(k:wk S.by d (Ω.ā (m+ 1))=ι p):S.by c z=ι d:=by
 let J:=(aoh.mp hz).1;rcases h with h|⟨i,j,f,r,y,s,v,D,E,u,L,F,t⟩
 .have:Ω=Ω.Χ m++(z::Ω.ā (m+ 1)):=by rw[<-ř hz,ap4]
  rw[Δ,oY n]at h;let[e,C,w]:=iQ h;rw[C,ER g w k]
 .exfalso
  let a:m<=i:=by
   rcases arh i m with q|q
   .exfalso
    let e:Ω.Χ m=Ω.Χ i++(y::(Ω.Χ m).ā (i+ 1)):=by
     let l:OF[i]?\y:=by rw[θ.getElem?_take,aoO q];rwa[D]
     rw[<-ř l];have:Ω.Χ i=(Ω.Χ m).Χ i:=by rw[θ.take_take,aqf ∅]
     rw[Δ,ap4]
    rw[e,oY u]at n;let[x,H,_]:=iQ n
    cbv
   .rwa[q]
  let b:j<=m:=by
   rcases arh m j with q|q
   .exfalso
    let o:(Ω.ā (m+ 1))[j - (m+ 1)]?\s:=by rw[θ.getElem?_drop,show m+ 1+ (j - (m+ 1))=j by ext];rwa[E]
    let e:Ω.ā (m+ 1)=(Ω.ā (m+ 1)).Χ (j - (m+ 1))++(s::Ω.ā (j+ 1)):=by
     have:Ω.ā (j+ 1)=(Ω.ā (m+ 1)).ā (j - (m+ 1)+ 1):=by rw[θ.drop_drop];congr 1;ext
     rw[Δ,<-ř o,ap4]
    rw[e]at k;let[x,_,G]:=EG k;let[I,A,B]:=iQ G;have:=ER g B F;subst Δ;rw[g.sy γ A]at t;ext t
   .rwa[q]
  ext
theorem Kr {b:η->π->Zi}:∀{w:Zg}{p q:η},UW (λp z q=>b p z\q) p w q->wk b p w\q
 |[],p,q,h=>by rw[show p=q from h];rfl
 |z::w,p,q,h=>by let[r,c,a]:=h;rw[iW c];rwa[Kr a]
def aah (g:Ø S [] R){l k a i:Za3}(c:A5 l k S)(r:0<S.q)(x:∀w∈a,w∈l)(v:∀w∈i,w∈k):Mdl (a++i) @a S.q S.az (λp z q=>S.by p z=ι q):=by
 rwa[λp z q h=>g.sy γ h,λp z q D C A=>by cbv,λe b Θ m B d z j y n u t s=>?_];rwa[RP g (p:=S.az Θ) ?_ u (Kr t) (Kr s)];cases f:e<@a
 .rw[aoq f]at j;rwa[c.r b (x _ (aoi j)) _ (g.lt n) (g.el _ n).2]
 .rw[aoz ∅]at j;let o:Θ=0:=y.resolve_left f;have:S.az Θ=0:=by rw[o];have:=(g.el 0 r).1;ext
  rw[Δ];rwa[c.p b (v _ (aoi j))]
section
variable {X:Cx}{e:Expr}{p pos:Pos}
def aai (C:Zs):TE:=λ_ H Q=>∀x d,H x=ε->H d=ε->d≠x->Q ?x (ψ (OP (.own x)) x (.ins C d []))
def RT (d:makesIn X.K b=ρ)(n:Õ X.K ?b ϐ=ι (ι (.Ι ϟ)))(kp:Ĭ X.K ?b=ρ)(j:AD)(q:X.mg x\?b)(f:(x==(Ϡ:Ñ))=ς):PE X (.ġ (.ö x p) [] [] pos) (aai b):=by
 intro g s r H Q I h;rwa[apI (iT I j q ?_ f)];rwa[Γ.W.callWith_K0 I.dJ kp (aqB ?_)];let l:=Inv.made (C:=b) I;let k:=h (↥s+ 1) ↥s (I.a0.ó (η.le_succ _)) (I.a0.ó Ź) (aoT (apX _));let Y:=makes_of (M:=ñ X.À X.w) I.dJ d;rwa[Mt I.dJ d n (λself=>Γ.W.Ĵ.of_pure (Γ.W.oi_bind self)) ?_]
 let m:((s.τ.Ú Ē).Ú (ĸ b ↥s)).get? (↥s+ 1)\(ĸ b ↥s):=by
  have:=aoD (s.τ.Ú Ē) (o:=ĸ b ↥s) rfl
  rwa [aqW]at Δ
 let t1:Γ.W.Ĵ (ñ X.À X.w) ((s.τ.Ú Ē).Ú (ĸ b ↥s)) (typeOf ↑(↥s+ 1)) ?b:=(Γ.W.Ĵ.ld m).ŝ .now;let i:Γ.W.Ĵ (ñ X.À X.w) ((s.τ.Ú Ē).Ú (ĸ b ↥s)) (isInstance ↑(↥s+ 1) (.Â ZO)) ρ:=t1.ŝ (Y.top.Į λc o e=>aol _ (ZY e));rwa[apG Γ.W.oi_plain Γ.W.entry_oi (@@Γ.W.check_slot (ñ X.À X.w) γ ϟ ZO ϐ ↑(↥s+ 1) [] [] _ Γ.W.oi_kind Γ.W.oi_split i (Γ.W.oi_args ↑(↥s+ 1)) ?_)];rwa[aor (And.intro Ų ⟨↑(↥s+ 1),_,l,Ų,k⟩)]
end
def EV {b:ę}{o:Operator}{env:Env}:Ο (.BinOp e o b p::C) env=(ς,å (.BinOp e o b p) env)::Ο C env:=rfl
end L2
namespace L2
def nm (E:Zh)(c:η):η:=E.á c 0
def tG (R:Za2)(E:Zh)(a:η)(z:π)(b:η):ο:=∃c d,ze d/\nm E c=a/\nm E d=b
def zb (x y a:η):η:=if a=y then x else a
def zc (h:n<m)(E:Zh)(c:η):nm (E.Κ (zb n m)) c=zb n m (nm E c):=by
 unfold nm;rw[aom,aom,aon]
 cases E[c]? with
 |ι x=>rfl
 |ε=>show 0=zb n m 0;unfold zb;rw[aoK ∅]
def aaj (u v:η)(W:Za2)(a:η)(z:π)(b:η):ο:=∃c d,W c z d/\zb u v c=a/\zb u v d=b
inductive One (ws:Za3)(nr:η):Zh->(Za2)->Dt->Zh->(Za2)->ο
 |đ {E:Zh} {W:Za2} {c u v:η} {z:π}:u<v->E[u]?\u->E[v]?\v->W c z u->W c z v->One ws nr E W (PP u v) (E.Κ (zb u v)) (aaj u v W)
 |rule {E:Zh} {W:Za2} {which k c d:η} {Ω:Zg} {p:Zh} {z:π}:ws[which]?\Ω->@p=@Ω+ 1->p[0]?=p[@Ω]?->(which<nr\/p[0]?\0)->(∀x∈p,E[x]?\x)->Ω[k]?\z->p[k]?\c->p[k+ 1]?\d->(∀(i a b:η)(y:π),i≠k->Ω[i]?\y->p[i]?\a->p[i+ 1]?\b->W a y b)->One ws nr E W (oJ which p k) E (gb W c z d)
inductive Go (ws:Za3)(nr:η):Zh->(Za2)->θ Dt->Zh->(Za2)->ο
 |nil {E:Zh} {W W':Za2}:(∀a z b,W a z b↔W' a z b)->Go ws nr E W [] E W'
 |È {E E1 E2:Zh} {W W1 W2:Za2} {row:Dt} {ms:AE}:One ws nr E W row E1 W1->Go ws nr E1 W1 ms E2 W2->Go ws nr E W (row::ms) E2 W2
section
variable {ws:Za3}{nr:Nat}{E E1 E2:Zh}{W W' W1 W2:Za2}{ms ns:List Dt}
def Go.congr (h:Go ws nr E W ms E1 W1):∀{W':Za2},(∀a z b,W' a z b↔W a z b)->Go ws nr E W' ms E1 W1:=by
 induction h with
 |nil e=>exact λh=>.nil λa z b=>(h a z b).ν (e a z b)
 |È o _ m=>
  intro W' h
  cases o with
  |đ j c l f k=>exact .È (.đ j c l ((h^_).mpr f) ((h^_).mpr k)) (m λa z b=>by
   constructor
   .rintro ⟨g,d,q,r⟩;rwa[g,d,(h^_).mp q,r]
   .rintro ⟨g,d,q,r⟩;rwa[g,d,(h^_).mpr q,r])
  |rule j c l f k v p u w=>exact .È (.rule j c l f k v p u λi a b y n x s t=>(h^_).mpr (w i a b y n x s t)) (m λa z b=>by unfold gb;rw[h])
def Go.app (h:Go ws nr E W ms E1 W1):∀{E2:Zh}{W2:Za2}{ns:AE},Go ws nr E1 W1 ns E2 W2->Go ws nr E W (ms++ns) E2 W2:=by
 induction h with
 |nil e=>exact λg=>g.congr e
 |È o _ a=>exact λg=>.È o (a g)
end
def W6 (h:n<m)(a:η)(z:π)(b:η):aaj n m (tG R B) a z b↔tG R (B.Κ (zb n m)) a z b:=by
 constructor
 .rintro ⟨g,i,⟨e,c,r,Ų,rfl⟩,d,f⟩;rwa[e,c,r,by rw[zc h,d],by rw[zc h,f]]
 .rintro ⟨e,c,r,d,f⟩;rwa[11,{e,c,r,22},by rw[<-zc h,d],by rw[<-zc h,f]]
section
variable {ws:Za3}{nr:Nat}{S S':RS}{pend:Ze}{R:Za2}{ks:Zg}
def sC {S:RS}(wf:S.Wf){c:η}(a:c<S.q):S.bu[c]?\KO:=by unfold RS.az;rw[aom,aoe ([wf.e]▸a)];rfl
def aak (l:ir):Ø S Ë R->(∀c z d,ze d->z∈ks)->∃e,S'.rows=S.rows++e/\Go ws nr S.bu gz e S'.bu (tG R S'.bu):=by
 induction l with
 |nil S=>exact λ_ _=>{[],(aoJ _).Τ,.nil λ_ _ _=>Iff.rfl}
 | @Χ S S' Ë w _ E=>
   intro g p;let[g1,_,r,_,q]:=g.Χ p;let[e,v,go]:=E g1 p;rcases q with ⟨_,h,B⟩|⟨_,c,z,x,y,u,m,D,F,k,h,_,A⟩
   .rw[wY B]at go;rwa[e,by rw[v,h],go]
   .let[_,o,_,ex]:=g.st γ u;let f:min x y<max x y:=by rcases η.lt_or_gt_of_ne k with q|q <;> ext
    let C:(S.í Ë w).1.bu=S.bu.Κ (zb ϡ Ž):=by
     rwa[apR λi=>?_]
     rw[aon];cases t:i<S.q
     .rw[sC g1.wf ([r]▸t),sC g.wf t,A];rfl
     .rw[aoG (by rw[g1.wf.e,r];omega),aoG (by rw[g.wf.e];omega)];rfl
    let ix:tG R S.bu c z x:=g.so γ u;let m:tG R S.bu c z y:=m;let n:=sC g.wf o;let j:=sC g.wf D;rw[ex]at n;rw[F]at j;rwa[iV c z ϡ Ž::e,by rw[v,h,ao6];rfl,.È (.đ f ?_ ?_ ?_ ?_) ((C ▸ go).congr λa s b=>W6 f a s b)]
    .rcases arI x y with q|q
     .rw[aqf q];rwa[n]
     .rw[arz q];rwa[j]
    .rcases arI x y with q|q
     .rw[arZ q];rwa[j]
     .rw[arS q];rwa[n]
    .rcases arI x y with q|q
     .cbv
     .rw[arz q];rwa[m]
    .rcases arI x y with q|q
     .cbv
     .rw[arS q];rwa[ix]
theorem uA {c:η->π->Zi}:∀{w:Zg}{r e:η},wk c r w\e->@(r::cH c r w)=@w+ 1/\(r::cH c r w)[@w]?\e/\∀(i:η)(y:π),w[i]?\y->∃a b,(r::cH c r w)[i]?\a/\(r::cH c r w)[i+ 1]?\b/\c a y\b
 |[],r,e,h=>by rwa[2,by rw[<-Za0 h];rfl,λi y q=>by simp at q]
 |z::w,r,e,h=>by
  let[d,f,j]:=iQ h;let[g,k,l]:=uA j;rw[p8 f];rwa[by rw[aoA,g];rfl,k,λi y q=>?_]
  cases i with
  |Ŀ=>rwa[r,d,22,by rw[<-Za0 q];rwa[f]]
  |ŧ i=>exact l i y q
theorem xV (g:Ø S [] R):∀{w:Zg}{r e:η},wk S.by r w=ι e->S.bu[r]?\r->∀x∈r::cH S.by r w,S.bu[x]?\x
 |[],r,e,h,b,x,a=>by rw[aok.mp a];rwa[b]
 |z::w,r,e,h,b,x,a=>by
  let[d,c,i]:=iQ h;rcases aoC.mp a with rfl|a
  .rwa[b]
  .rw[p8 c]at a;let[_,f,_,j]:=g.st γ c;have:=sC g.wf f;rw[j]at Δ;rwa[xV g i Δ x a]
def RV (f:nm B n=n)(e:nm B m=m)(a:η)(y:π)(b:η):gb (tG R B) n z m a y b↔tG (gb R n z m) B a y b:=by
 constructor
 .rintro (⟨g,h,r,c,d⟩|⟨rfl,Ų,rfl⟩|⟨rfl,Ų,rfl⟩)
  .rwa[g,h,.Α r,c,d]
  .rwa[11,.Ç (.Α {222}),f,e]
  .rwa[11,.Ç (.Ç {222}),e,f]
 .rintro ⟨g,h,r|⟨rfl,Ų,rfl⟩|⟨rfl,Ų,rfl⟩,c,d⟩
  .rwa[.Α {g,h,r,c,d}]
  .rwa[.Ç (.Α {c.Τ.ν f,2,d.Τ.ν e})]
  .rwa[.Ç (.Ç {c.Τ.ν e,2,d.Τ.ν f})]
def RW {Θ:η}{Ω:Zg}(g:Ø S [] R)(c:EH ws nr S n Ω Θ m i j z):One ws nr S.bu gz (oJ n ((Θ::cH S.by Θ OF)++(j::cH S.by j (Ω.ā (m+ 1)))) m) S.bu (gb gz i z j):=by
 let H:m<@Ω:=(aoh.mp c.hz).1;let[d,A,G]:=uA c.f;let[v,F,B]:=uA c.r;let lt:@(Ω.Χ m)=m:=by rw[aoX];ext
 let ld:@(Ω.ā (m+ 1))=@Ω - (m+ 1):=aqt ..;rw[lt]at d A;rw[ld]at v F;let u:=sC g.wf c.s.1;rw[c.s.2]at u;let t:=sC g.wf c.hd.1;rw[c.hd.2]at t;let left:∀h,h<=m->((Θ::cH S.by Θ OF)++(j::cH S.by j (Ω.ā (m+ 1))))[h]?=(Θ::cH S.by Θ OF)[h]?:=λh w=>aoq (by rw[d];omega)
 let right:∀h,((Θ::cH S.by Θ OF)++(j::cH S.by j (Ω.ā (m+ 1))))[m+ 1+ h]?=(j::cH S.by j (Ω.ā (m+ 1)))[h]?:=λh=>by
  rw[aoz (by rw[d];omega),d]
  congr 1
  ext
 rwa[.rule c.w (by rw[aoj,d,v];omega) ?_ ?_ (λx k=>?_) c.hz ?_ ?_ λh a b y w E o l=>?_]
 .cbv
 .rw[left 0 ∅];exact c.n.Ŋ id λe=>by rw[e];rfl
 .rcases aov.mp k with k|k
  .rwa[xV g c.f u x k]
  .rwa[xV g c.r t x k]
 .rw[left m Ź];rwa[A]
 .rw[right 0];rfl
 .rcases η.lt_or_gt_of_ne w with q|q
  .let[D,C,p,s,r]:=G h y (by cbv);rw[left h ∅,p]at o;rw[left (h+ 1) ∅,s]at l;obtain rfl:=Za0 o;obtain rfl:=Za0 l;rwa[g.so γ r]
  .obtain⟨f,rfl⟩:∃f,h=m+ 1+ f:={h - (m+ 1),3};let[D,C,p,s,r]:=B f y ([θ.getElem?_drop]▸E);rw[right,p]at o;rw[show m+ 1+ f+ 1=m+ 1+ (f+ 1) by ext,right,s]at l;obtain rfl:=Za0 o;obtain rfl:=Za0 l;rwa[g.so γ r]
def UE (t:Tr ws nr S S')(C:∀w∈ws,∀z∈w,z∈ks/\-z∈ks):Ø S [] R->fU S->(∀a z b,ZI b->z∈ks)->∃p,Ø S' [] p/\fU S'/\(∀a z b,p a z b->z∈ks)/\∃j,S'.rows=S.rows++j/\Go ws nr S.bu gz j S'.bu (tG p S'.bu):=by
 induction t with
 |Ł=>exact λg w k=>{R,g,w,k,[],(aoJ _).Τ,.nil λ_ _ _=>Iff.rfl}
 |ı _ f u E=>
  rename_i l G h Ω Θ m c d z _;intro g x k;let[D,g1,n,v,j,H,o]:=E g x k;let s:=C Ω (aoi f.w) z (aoi f.hz)
  let i:∀a y b,gb D c z d a y b->y∈ks:=by
   rintro a y b (r|⟨_,e,_⟩|⟨_,e,_⟩)
   .rwa[v γ r]
   .rw[e];rwa[s.1]
   .rw[e];rwa[s.2]
  let gl:=g1.lay z f.hc.1 f.hd.1 (l.rows++[oJ h ((Θ::cH l.by Θ OF)++(d::cH l.by d (Ω.ā (m+ 1)))) m]);let[A,F,_]:=u.all gl i {n.a,n.b,n.c};let[q,B,go2]:=aak (ws:=ws) (nr:=nr) u gl i;rwa[_,A,F,i,j++(_::q),5,o.app (.È (RW g1 f) (go2.congr λa y b=>RV f.hc.2 f.hd.2 a y b))];rw[B];show (l.rows++[_])++q=_
  cbv
end
def TsQ (a:Í)(w:à)(A:ß)(env:Env):Zr->(ã->Zu->ο)->Zu->ο
 |[],K,s=>K ρ s
 |c::_,K,s=>(a<|>w) A (isTrue c env (å c env)) K (λ_ _=>Ð) s
def EW {a:Í}{w:à}{A:ß}{R:Result->Zu->ο}{elt target Ħ:ę}{cs:Zr}{Ξ:ũ}{pos:Pos}{it acc:Zt}{env:Env}(y:@cs<=1)(I:η->Zu->ο)(turn:∀n s,I n s->(a<|>w) A (Ņ it) (λr g=>match r with
  |ε=>R (.ok .next) g
  |ι v=>(a<|>w) A (letOwnedTupleGo target it v) (λ_ k=>(a<|>w) A (assign target env v) (λ_ o=>TsQ a w A env cs (λb l=>
   match b with
   |ρ=>(a<|>w) A (å elt env) (λx e=>(a<|>w) A (Ğ (.Ι "list.append") [acc,x]) (λ_ j=>∃m,m<n/\I m j) (λ_ _=>Ð) e) (λ_ _=>Ð) l
   |ς=>∃m,m<n/\I m l) o) (λ_ _=>Ð) k) (λ_ _=>Ð) g) (λ_ _=>Ð) s)(n:η)(h:I n s):codeAny (ñ a w) A (.compLoop (.ĵ elt [{target,Ħ,cs,(0)}] Ξ pos) 0 it acc env) R s:=by
 rwa[codeAny_loop Ų I (λn s u=>wpAny_noted ?_) n h];rcases cs with _|⟨c,_|_⟩;rw[compTurn_list1]
 rotate_left 2
 cbv
 all_goals
  rwa[aof (arL (aof (apO (turn n s u) (λr g i=>?_) λ_ _ f=>f.Ü)))]
  cases r with
  |ε=>exact aor i
  |ι v=>
   rwa[aof (apO i (λ_ k t=>aof (apO t (λ_ o d=>?_) λ_ _ f=>f.Ü)) λ_ _ f=>f.Ü)]
   try rwa[aof (wpAny_tests_one (apO d (λok e d=>?_) λ_ _ f=>f.Ü))];ext ok;rwa[aor {2,d}]
   rwa[aof (aof (apO d (λx e q=>aof (apO q (λ_ j p=>aor (aor {2,p})) λ_ _ f=>f.Ü)) λ_ _ f=>f.Ü))]
def UG (X:Cx):Zr->TT->ο
 |[],a=>a=λ_ H Q=>Q ρ H
 |c::_,a=>PT X c a
def W7 {g:TT}{a:θ (Zs×Obj)}{f:St}{Q:ã->Hp->ο}{K:ã->Zu->ο}(h:UG X C g)(l:X.xe=λ_ _=>Ð)(I:Inv X a f H s)(q:g f H Q)(k:∀b d e,ϗ a f e d->Q b e->K b d):TsQ X.À X.w X.A X.env C K s:=
 match C,h with
 |[],h=>by rw[h]at q;rwa[k ρ s H I q]
 |c::_,h=>by have:=h a s f H Q I q;rw[l]at Δ;rwa[bx Δ λb d ζ=>?_];let[e,i,j]:=ζ;rwa[k b d e i j]
section
variable {X:Cx}{elt iter yX:Expr}{x:Str}{px pos:Pos}{scope:Scope}{cl:List (Str×Zs)}{fns:Zp}{ixs:Zh}{wi:TI}{tt:TT}{te:TE}
def Cv {cs:Zr}{use:Ă (Zt->Sem Unit)}{RQ:Zt->Zu->ο}{L:θ (Zs×Obj)}{R:St}{Q:VK}(hl:@cs<=1)(hc:X.calm=ρ)(hi:PI X (.ö x px) Ħ wi)(S:QE)(ht:∀(C:Zs) (s:Zu) (H:Hp) (ex:Zn),UG (dU X (x::fns) Ξ cl C s H ex) cs tt)(he:∀(C:Zs) (s:Zu) (H:Hp) (ex:Zn),PE (dU X (x::fns) Ξ cl C s H ex) elt te)(hs:∀x,ZH x=Č x)(I:Inv X L R H s)(h:qW wi (jU ixs) tt te R H Q)(fin:∀(C D:Zs) (H3:Hp) (ys:Zb) (s4:Zu) (m:Ñ->Zl),s4.τ.Ns C m->(∀E,Û.ė C s4.τ E->Inv X L R (ce (.Ν ys)) (s4<*E))->ψ H3 D (.Ν ys) C=ε->X.env.ć≠C->(∀z c,X.env.Ŏ.ω z\c->c≠C)->X.fD.τ.õ.Υ<=C->(∀f∈X.pn++L,f.1≠C)->Q ?D (ce (.Ν ys))->compPost (ñ X.À X.w) X.A X.xe use RQ ?D C (.ok .next) s4):
 X⁻¹ X.A (comprehension (.ĵ elt [{.ö x px,Ħ,cs,(0)}] Ξ pos) Ξ X.env p (newList []) ς (å Ħ X.env) use) RQ X.xe s:=by
 rwa[wpAny_comprehension_free Ų hs S.afP S.kind S.names (bx (hi L s R H _ I h) λv s1 h1=>bx h1 λitv s2 h2=>?_)];let[it,Y,tn,J,H2,e,t,T,EX,f2,W,⟨m0,w0⟩,turn]:=h2;subst e
 let w:∀b∈Y,b<↥s2:=λb g=>by let[o,ho,_]:=T.obj β EX b g;rwa[aoL ho]
 rwa[ape (wpAny_newFunctionEnv S.cell (by intro y hy;simp at hy) (λRX N M=>?_) S.kind)];generalize Io:s2.τ.Ú { cls:=.Â ż,ù:=ε,ê:=.seq ([]:Zk).χ }=A at N M ⊢;generalize hD:↥s2=D at w ⊢;let hC:A.õ.Υ=D+ 1:=by rw[<-Io,aqW,hD]
 generalize hCe:A.õ.Υ=C at hC N M ⊢;let k:D<C:=∅
 let NV:D≠C:=aoT k;let F:∀b u,s2•b\u->A.get? b\u:=λb u q=>by rw[<-Io];rwa[ZY q]
 let UH:∀{b u},s2•b\u->b<D:=λq=>by rw[<-hD];rwa[aoL q]
 let U:∀b u,A.get? b\u->RX.get? b\u:=λb u q=>M.Ą b u (aoT (aoW (aoL q) (arE hCe))) (ZY q)
 let hDo:A.get? D\{ cls:=.Â ż,ù:=ε,ê:=.seq ([]:Zk).χ }:=by rw[<-Io,<-hD];rwa[JU Ų]
 let I3:Inv X L R H2 (s2<*A):=t.ņ (t':=s2.Æ) F;let UI:H2 D=ε:=t.a0.ó ∅;let hnC:H2 C=ε:=t.a0.ó ∅
 let RZ:∀b∈D::Y,b∉bV X.stack:=λb g z=>by
  rcases aoC.mp (t.DM b z) with e|z
  .rcases aoC.mp g with Z|g
   .rwa[Ρ t.lt (by rw[<-e,Z,<-hD];rwa[ap7 _])]
   .rwa[(tc g).2.1 e]
  .rcases aoC.mp g with Z|g
   .rwa[t.XH (by rw[Z,<-hD];rwa[aoo _]) z]
   .rwa[(tc g).2.2.1 z]
 let qP:∀y c,cl.ω y\c->∀b∈D::Y,c≠b:=λy c q b g z=>by
  let[v,hv]:=t.cell y c PU;rcases aoC.mp g with Z|g
  .rwa[Ρ hv.lt (by rw[z,Z,<-hD];rwa[ap7 _])]
  .rwa[(tc g).2.2.2.2.1 y c PU z]
 let' P:Cx:=dU X (x::fns) Ξ cl C (s2<*A) H2 (D::Y)
 let ok:P.Ok:={
  mod:=t.ok.mod
  kind:=S.kind
  glob:=t.ok.glob
  blt:=t.ok.blt
  above:=by show A.õ.Υ<=C;ext
  inj:=λy z c q1 q2=>t.ok.inj y z c (S.sub^q1) (S.sub^q2)
  has:=S.has
  DL:=λy c q=>nomatch q
  hd:=t.ok.hd
  frames:=t.ok.frames
  HD:=.Α rfl
  T9:=λb g=>{by
   rcases aoC.mp g with Z|g
   .rw[Z];rwa[NV]
   .rwa[aoT (aq9 (w b g) k)],λy c q=>qP y c q b g}
  bs:=I3.bs
  wM:=aot I3.ok.wM I3.sz
  xA:=λb o q g=>by
   rcases aoC.mp g with Z|g
   .rwa[Ρ (UH (t.bs b o q).1) (by rw[Z];rwa[ap7 _])]
   .rcases (tc g).2.2.2.1 with z|z
    .rwa[t.ok.xA b o q z]
    .rwa[Ρ (aoL (t.ok.bs b o q).1) (η.not_lt.mpr z)]
  AJ:=RZ
  kX:=I3.stack
  yL:=I3.qQ }
 let Θ:∀(v0:Zc),v0=ε->Inv P [(D,{ cls:=.Â ż,ù:=ε,ê:=.seq ([]:Zk).χ })] (v0::jU ixs R) H2 { s2 with τ:=RX,Æ:=s2.Æ+ @([]:θ (Ñ×Zt)) }:=λv0 hv0=>{
  ok:=ok
  os:=rfl
  bare:=t.bare
  Β:=Un.ņ U
  loc:={_,N,λi y v e1 Z e3=>by
   cases i with
   |Ŀ=>rw[hv0]at Z;ext Z
   |ŧ j=>
    let e1':fns[j]?\y:=e1
    let e2':(jU ixs R)[j]?\(ι v):=Z
    let[i,hi1,hi2,hk,c,Ip,zf]:=S.at_ j y e1';unfold jU at e2';rw[aon,hi1]at e2'
    let e3':R[i]?\(ι v):=by
     let z:(R[i]?).join\v:=Za0 e2'
     cases q:R[i]? with
     |ε=>rw[q]at z;ext z
     |ι o=>rw[q]at z;rw[show o=ι v from z]
    let[m,_,hl]:=t.loc;let[u,r,l]:=hl i y v hi2 e3' (hk.Ü (λz=>.Ç (.Α z)) λz=>.Ç (.Ç z));rwa[u,r,.Ç {zf,c,Ip,5}];rcases l with ⟨z,_⟩|⟨_,c',NW,ada⟩
    .rcases hk with hk|hk <;> cbv
    .have:c'=c:=Za0 (NW.Τ.ν (S.sub^Ip));subst Δ;let[o,ho,hd]:=ada;rwa[o,U^F^ho,hd]}
  cell:=λy c q=>by let[v,o,ho,hd]:=t.cell y c PU;rwa[v,o,U^F^ho,hd]
  free:=hnC
  iB:=λy c q=>t.iB y c PU
  pin:=λf hp=>by
   let hp':f=(D,{ cls:=.Â ż,ù:=ε,ê:=.seq ([]:Zk).χ }):=by simpa [P,dU] using hp
   subst hp';rwa[U^hDo,UI,NV,RZ D (aou ..),λv z=>nomatch z]
  a0:=(t.a0.ņ F).ņ U
  len:=by show @(v0::jU ixs R)=@(x::fns);simp[jU,S.len] }
 let fpc:∀{H':Hp}{O:θ (Zs×Obj)},(∀b∈Y,H' b=ε)->(∀f∈O,f.1=D)->∀b∈Y,r9 P O H' b:=λ{H' O} hn hp b g=>
  {hn b g,aoT (aq9 (w b g) k),RZ b (JE g),.Α (JE g),λy c q=>qP y c q b (JE g),λf q=>by
   let q':f∈O:=by simpa [P,dU] using q
   rw[hp f q'];rwa[aqc (w b g)]}
 let loop:codeAny (ñ X.À X.w) X.A (.compLoop (.ĵ elt [⟨.ö x px,Ħ,cs,(0)⟩] Ξ pos) 0 ?it ?D (compEnvC Ξ cl C X.env))
  (compPost (ñ X.À X.w) X.A X.xe use RQ ?D C) { s2 with τ:=RX,Æ:=s2.Æ+ @([]:θ (Ñ×Zt)) }:=by
  refine EW hl (λn s'=>∃(i:η)(ys:Zb)(G:Zk)(nn:η)(v0:Zc)(H':Hp),Inv P [(D,{ cls:=.Â ż,ù:=ε,ê:=.seq G.χ nn })] (v0::jU ixs R) H' s'/\tn i s'.τ/\(∀b∈Y,H' b=ε)/\ä ys G/\W i n ys H') ?_ m0
   {(0),[],[],(0),ε,H2,Θ ε Ų,T.Ï γ EX λb _ o q=>U^F^q,λb g=>(tc g).1,.nil,w0}
  rintro n s3 ⟨i,ys,G,nn,v0,H3,J3,tn3,Iq,vv,w3⟩
  let R6:∀f∈([(D,({ cls:=.Â ż,ù:=ε,ê:=.seq G.χ nn }:Obj))]:θ (Zs×Obj)),f.1=D:=λf hp=>by cbv
  rcases turn i n ys H3 w3 with ⟨stop,æ,q⟩|⟨go,æ,ı⟩
  .-- the end
   rwa[bx (T.done P Ų Ų Ų hc i _ s3 _ H3 _ J3 (fpc Iq R6) tn3 stop) λr s4 ζ=>?_];let[hr,J4]:=ζ
   subst hr;let[m,hn,_]:=J4.loc;let[gD,nD,_,_,_]:=J4.pin (D,{ cls:=.Â ż,ù:=ε,ê:=.seq G.χ nn }) (by simp[P,dU]);let B:=J4.Β
   let inv:∀E,Û.ė C s4.τ E->Inv X L R (ce (.Ν ys)) (s4<*E):=λE hsb=>by
    let kC:∀b u,b≠C->s4•b\u->E.get? b\u:=λb u g q=>(hsb.2 b g).ν q
    let ne:∀{b o},s2•b\o->b≠C/\b≠D:=λq=>{aoT (aq9 (UH q) k),aoT (UH q)}
    let zg:∀{b o},s2•b\o->b∉Y->b∉D::Y:=λq hx z=>(aoC.mp z).Ü (ne q).2 hx
    let uu:Un IS Y H2 (ce (.Ν ys)) s2.τ E:={
     Ï:=λb o q n g hx=>kC b o (ne q).1 (B.Ï b o (F b o q) n g (zg q hx))
     slot:=λb o q n g hx=>by let[sl,e]:=B.slot b o (F b o q) n g (zg q hx);rwa[sl,kC b _ (ne q).1 e]
     free:=λb o q n hx=>by rw[aq (ne q).2];rwa[B.free b o (F b o q) n (zg q hx)]
     there:=λb o q hx=>by let[o',e]:=B.there b o (F b o q) (zg q hx);rwa[o',kC b _ (ne q).1 e]
     jh:=λb xs q=>by rw[aq (Pd UI)];rwa[B.jh b xs q]
     iA:=λb o xs q=>by rw[aq (Pd UI)];rwa[B.iA b o xs q]
     jT:=λb ps q=>by let[ł,e]:=B.jT b ps q;rwa[{ł,[aq (Pd UI)]▸e} ]}
    let a0:eI X.À X.w (ce (.Ν ys)) E:=λb u e=>by
     cases g:b=D
     .subst g;rw[aj]at e;ext e;rwa[æ,G,nn,vv,kC β NV gD]
     .rw[aq g]at e;refine(J4.a0 b u e).hJ (λc v hc q=>kC c v ?_ q) (λc q=>[aq (Pd nD)]▸q) λc xs q=>by rw[aq (Pd nD)];rwa[q]
      let fC:H3 C=ε:=J4.free
      cbv
    rwa[t.JQ (s':=(s4<*E)) J4.os uu a0 J4.bare (λb g=>{(tc g).2.2.2.1,(tc g).2.1,(tc g).2.2.2.2.1,(tc g).2.2.2.2.2})]
   let ab:∀{b o},s2•b\o->b≠C:=λq z=>Ρ (UH q) ([z]▸η.not_lt.mpr (aqj k))
   rwa[fin C D H3 ys s4 m hn inv ([aq (apE NV)]▸J4.free) (λz=>?_) (λz c hz=>?_) (aot (by have:=t.sz;rw[hD]at Δ;rwa[Δ]) (aqj k)) (λf hp=>ab (t.pin f hp).1) (q D nD)]
   .let h1:=t.lt
    cbv
   .let[v,o,ho,_]:=t.cell z c hz;rwa[ab ho]
  .-- a turn
   rwa[bx (T.item P Ų Ų Ų hc i _ s3 _ H3 _ J3 (fpc Iq R6) tn3 go) λr s4 ζ=>?_];let[u,hr,h4]:=ζ
   subst hr;rwa[bx h4 λ_ s5 ζ=>?_];let[xv,H5,J5,r5,y5,NX,fr5]:=ζ
   let J5':=J5.pinned (fpc fr5 R6) (T.obj^NX);let hg:PG P (.ö x px) (pW 0):=HG (X:=P) (i:=0) S.nd Ų (.Α (wR S.own)) (.Ç (wR S.own));rwa[bx (hg _ s5 _ H5 xv u (λ fH H'=>fH=ι xv::jU ixs R/\H'=H5) J5' r5 {22}) λ_ s6 ζ=>?_];let[σ6,H6,J6,e6,e6']:=ζ
   subst e6 e6';rwa[W7 (ht C (s2<*A) H2 (D::Y)) Ų J6 (ı xv H6 y5) λbt s6b H6b NZ q6=>?_]
   cases bt with
   |ρ=>
    rwa[bx (he C (s2<*A) H2 (D::Y) _ s6b _ H6b _ NZ q6) λyv s7 ζ=>?_];let[y,H7,J7,r7,m',hm',w7]:=ζ
    let[gD,nD,_,_,_]:=J7.pin (D,{ cls:=.Â ż,ù:=ε,ê:=.seq G.χ nn }) (by simp[P,dU]);let tn7:tn (i+ 1) s7.τ:=T.Ï γ NX λb g o e=>(J7.pin (b,o) BB).1
    let fr7:∀b∈Y,H7 b=ε:=λb g=>by let[o,e,d]:=T.obj β NX b g;rwa[(J7.pin (b,o) BB).2.1]
    let J7':Inv P [] (ι xv::jU ixs R) H7 s7:=J7.qR λf hp=>nomatch hp
    rwa[wpAny_list_append_plain (hsz:=by rw[aoI,<-@vv];omega) {nn,gD} λh8 pl8 sb8=>?_]
    let[n8,g8]:=pl8
    let J8:Inv P [] (ι xv::jU ixs R) H7 (s7<*h8):=J7'.turned (t':=s7.Æ) (it:=D) (λb o g e=>(sb8.2 b g).ν e) nD (NV) (.Α (aou ..))
     (λy c q=>qP y c q D (aou ..)) (λf hp=>by simp[P,dU]at hp)
    rwa[m',hm',i+ 1,ys++[y],G++[yv],n8,ι xv,H7,J8.qR λf hp=>?_,5,fr7,vv.Ů (.È r7 .nil),w7]
    .cbv
    .rwa[T.Ï γ tn7 λb g o e=>(sb8.2 b (aoT (w b g))).ν e]
   |ς=>
    let[m',hm',w7]:=q6;let[gD,nD,_,_,_]:=NZ.pin (D,{ cls:=.Â ż,ù:=ε,ê:=.seq G.χ nn }) (by simp[P,dU]);let tn7:tn (i+ 1) s6b.τ:=T.Ï γ NX λb g o e=>(NZ.pin (b,o) BB).1
    let fr7:∀b∈Y,H6b b=ε:=λb g=>by let[o,e,d]:=T.obj β NX b g;rwa[(NZ.pin (b,o) BB).2.1]
    rwa[m',hm',i+ 1,ys,G,nn,ι xv,H6b,NZ.qR λf hp=>?_,tn7,fr7,vv,w7]
    cbv
 rwa[codeAny_compStart_list loop (T.self _ 0 γ (T.Ï γ EX λb _ o q=>U^F^q) loop)]
def EY {cs:Zr}(e:@cs<=1)(k:X.calm=ρ)(g:PI X (.ö x px) Ħ wi)(S:QE)(d:∀(C:Zs) (s:Zu) (H:Hp) (ex:Zn),UG (dU X (x::fns) Ξ cl C s H ex) cs tt)(j:∀(C:Zs) (s:Zu) (H:Hp) (ex:Zn),PE (dU X (x::fns) Ξ cl C s H ex) elt te)(f:∀x,ZH x=Č x):PE X (.ĵ elt [⟨.ö x px,Ħ,cs,(0)⟩] Ξ pos) Zz:=by intro c s o H Q I h;rwa[Cv e k g S d j f I h λC D n ys l m i inv _ _ _ _ _ q=>{m,i,λa b=>{?D,_,inv a b,2,q}}]
def wZ {cs:Zr}{y:Ñ}{a:Pos}(L:@cs<=1)(P:X.N.Á)(g:X.N[n]?\y)(M:l7)(T:X.calm=ρ)(O:PI X (.ö x px) Ħ wi)(S:QE)(B:∀(C:Zs) (s:Zu) (H:Hp) (ex:Zn),UG (dU X (x::fns) Ξ cl C s H ex) cs tt)(R:∀(C:Zs) (s:Zu) (H:Hp) (ex:Zn),PE (dU X (x::fns) Ξ cl C s H ex) elt te)(N:∀x,ZH x=Č x)(l:Ķ (.ĵ elt [⟨.ö x px,Ħ,cs,(0)⟩] Ξ pos) (ι (.ö y p)) a.line X.env=Č ρ)(k:X.fn y=ρ\/X.env.Ξ.names.ω y=ι .local):PS X (.Assign [.ö y p] (.ĵ elt [⟨.ö x px,Ħ,cs,(0)⟩] Ξ pos) a) (AO Zz (pW n)):=by
 intro d s σ H U I h;rw[exec_Assign_Name_used δ l];rwa[aof (arL (aof ?_))];rwa[aof (apO (Cv (RQ:=λ_ u=>SP X d U .next u) L T O S B R N I h λC D Z ys V m Q inv r A z sz J q=>?_) (λ_ u F=>aor (aor F)) λ_ _ e=>e)];rwa[wpAny_assign_Name (BF (inv _ {2,λ_ _=>rfl}) P g M (v:=?D) Ų (λs5 G c=>?_) k)];let[w,i,j]:=c
 let f:C≠w:=by
  rcases j with e|e
  .cbv
  .rwa[apE (z y w e)]
 rwa[m,Q.sameBut i f,λh6 t=>?_];rwa[11,G.turned (t':=s5.Æ) (it:=C) (λb o E e=>(t.2 b E).ν e) r (apE A) (.Ç sz) z J,q]
def eK (c:X.calm=ρ)(d:PI X (.ö x px) Ħ wi)(S:QE)(a:∀(C:Zs) (s:Zu) (H:Hp) (ex:Zn),PE (dU X (x::fns) Ξ cl C s H ex) elt te)(b:∀x,ZH x=Č x:=by intro _;rfl):
 PE X (.ĵ elt [{.ö x px,Ħ,[],(0)}] Ξ pos) (Ul wi (jU ixs) te):=EY (cs:=[]) ⋯ c d S (λ_ _ _ _=>rfl) a b
def zh (e:X.calm=ρ)(b:PI X (.ö x px) Ħ wi)(S:QE)(c:∀(C:Zs) (s:Zu) (H:Hp) (ex:Zn),PT (dU X (x::fns) Ξ cl C s H ex) yX tt)(a:∀(C:Zs) (s:Zu) (H:Hp) (ex:Zn),PE (dU X (x::fns) Ξ cl C s H ex) elt te)(d:∀x,ZH x=Č x:=by intro _;rfl):
 PE X (.ĵ elt [{.ö x px,Ħ,[yX],(0)}] Ξ pos) Zz:=EY (cs:=[yX]) Ź e b S c a d
def jY {iy:η}{y:Ñ}{a:Pos}(h:X.N.Á)(c:X.N[iy]?\y)(f:l7)(i:X.calm=ρ)(j:PI X (.ö x px) Ħ wi)(S:QE)(e:∀(C:Zs) (s:Zu) (H:Hp) (ex:Zn),PE (dU X (x::fns) Ξ cl C s H ex) elt te)(g:∀x,ZH x=Č x:=by intro _;rfl)(d:Ķ (.ĵ elt [{.ö x px,Ħ,[],(0)}] Ξ pos) (ι (.ö y p)) a.line X.env=Č ρ:=by rfl)(b:X.fn y=ρ\/X.env.Ξ.names.ω y=ι .local:=by trivial):
 PS X (.Assign [.ö y p] (.ĵ elt [{.ö x px,Ħ,[],(0)}] Ξ pos) a) (AO (Ul wi (jU ixs) te) (pW iy)):=wZ (cs:=[]) ⋯ h c f i j S (λ_ _ _ _=>rfl) e g d b
def Dh {iy:η}{y:Ñ}{a:Pos}(i:X.N.Á)(c:X.N[iy]?\y)(f:l7)(j:X.calm=ρ)(k:PI X (.ö x px) Ħ wi)(S:QE)(g:∀(C:Zs) (s:Zu) (H:Hp) (ex:Zn),PT (dU X (x::fns) Ξ cl C s H ex) yX tt)(e:∀(C:Zs) (s:Zu) (H:Hp) (ex:Zn),PE (dU X (x::fns) Ξ cl C s H ex) elt te)(h:∀x,ZH x=Č x)(d:Ķ (.ĵ elt [⟨.ö x px,Ħ,[yX],(0)⟩] Ξ pos) (ι (.ö y p)) a.line X.env=Č ρ)(b:X.fn y=ρ\/X.env.Ξ.names.ω y=ι .local):
 PS X (.Assign [.ö y p] (.ĵ elt [{.ö x px,Ħ,[yX],(0)}] Ξ pos) a) (AO Zz (pW iy)):=wZ (cs:=[yX]) Ź i c f j k S g e h d b
end
def TrD (h Β:Û)(e:Zs)(cls:Zt)(g:Zo)(f:Zt):ο:=∃a b T d c,h.get? e\a/\(a.cls=cls/\a.ù=g)/\a.ê=.Å b/\b[1]?\?T/\Β.get? T=ε/\T≠e/\h.get? T\d/\d.ê=.Å c/\c[3]?\f
def nK (Β:Û)(l:Zq)(e:Zs)(cls:Zt)(b:Zo)(a:Zt)(h:Û):ο:=Β.StaysIn h/\Β.get? e=ε/\h.ĺ Β l/\TrD h Β e cls b a
def Cw (f:Zm->Zm)(o:Obj):(Obj.ĩ f o).ù=o.ù:=by let[a,b,d,e]:=o;cases d <;> rfl
variable {M:Model}{A:Around}{E:Zt->Zu->Prop}{s:Zu}{base:Heap}{env:Env}{outer:Zq}{L e:Zs}{cls:Zt}{dx:Zo}
def N0 {v:Obj}{y:Zm}{head:Zt}{n:ã}(B:A.frames\(env::Ψ))(z:s.τ.ĺ Β (env::Ψ))(P:env.frame\L)(Q:s•e\v)(G:rf)(F:Β.get? e=ε)(N:v.ê=.Å y)(w:1<y.Υ)(h:∀D,nK Β (env::Ψ) e v.cls v.ù (ô L) D->s.τ.UpToSlots D->U () (s<*D)):
 Ó M A (do let a <-frameOf env;let pl <-entryPlaceOf L n;let b <-EntryCells.newEntry head a .ε (ô L) .ε pl;setField ?e 1 b) U E s:=by
 let u:e∉(env::Ψ).filterMap (·.frame):=λI=>by
  let[_,o,R,k]:=z.mem I
  cbv
 rwa[aof (wpAny_frameOf_fun B z P λc f=>?_)];rwa[aof (wpAny_entryPlaceOf λpl C=>?_)];unfold EntryCells.newEntry newFields;rwa[aof (ape ?_ (C.sizeOk5 δ _))];let i:c.get? e\v:=(f.2.1 e u).ν Q;let g:Β.StaysIn c:=λb o j=>(f.2.1 b λI=>by rw[(z.mem I).1]at j;ext j).ν (G b o j)
 let l:=aol (h:=c) { cls:=.Â "traceback",ù:=ε,ê:=.Å ([head,?L,.ε,ô L,.ε]++(if pl.è then θ.Ê 6 Η.ε else pl)).χ } i;rwa[ap6 l N w ?_];let x:c.õ.Υ≠e:=aqc (aoL i);let m:=apu N (·.é 1 (Η.É c.õ.Υ));let t:=ao5 (Obj.ĩ (·.é 1 (Η.É c.õ.Υ))) l (ap1 m)
 let r:=(apj (c.Ú { cls:=.Â "traceback",ù:=ε,ê:=.Å ([head,?L,.ε,ô L,.ε]++(if pl.è then θ.Ê 6 Η.ε else pl)).χ })
  (Obj.ĩ (·.é 1 (Η.É c.õ.Υ))) (apE x)).ν (aoD c Ų)
 let Ï:∀b o,b≠e->c.get? b\o->_\o:=λb o J p=>(apj (c.Ú { cls:=.Â "traceback",ù:=ε,ê:=.Å ([head,?L,.ε,ô L,.ε]++(if pl.è then θ.Ê 6 Η.ε else pl)).χ }) (Obj.ĩ (·.é 1 (Η.É c.õ.Υ))) (apE J)).ν (ZY p)
 let d:∀b o,s•b\o->(∀y,o.ê≠.Å y)->b≠e:=λb o p k q=>by cbv
 rwa[h _ {λb o j=>Ï b o (λq=>by cbv) (g b o j),F,z.of_keeps λb o p k=>?_,5} λb o p k=>?_]
 .let[O,H]:=f.2.2 b o p;rwa[_,Ï b _ (d b o p k) H,2]
 .rwa[11,c.õ.Υ,11,t,{arj β,Cw β},m,by simp[w],g.ó,x,r,2,by cbv]
 .let[O,H]:=f.2.2 b o p;rwa[O,Ï b _ (d b o p k) H]
def aat {y:Obj}{x:Zm}{k:Obj}{j:Zm}{l:Zq}(w:rf)(t:Β.get? e=ε)(D:s.τ.ĺ Β l)(G:s•e\k)(H:k.cls=cls/\k.ù=dx)(B:k.ê=.Å j)(C:j[1]?\?a)(r:Β.get? a=ε)(m:a≠e)(z:s•a\y)(i:y.ê=.Å x)(F:x[3]?\v)(h:∀p,nK Β l e cls dx u p->s.τ.UpToSlots p->U () (s<*p)):Ó M A (setField ?a 3 u) U E s:=by
 let g:3<x.Υ:=(apS.mp F).1;let other:∀b,b≠a->(s.τ.Ľ a (Obj.ĩ (·.é 3 u))).get? b=s•b:=λb f=>apj^apE f
 let c:∀b o,s•b\o->(∀j,o.ê≠.Å j)->b≠a:=λb o f d q=>by cbv
 rwa[ap6 z i g (h _ {λb o n=>(other b λq=>by cbv).ν (w b o n),t,D.of_keeps λb o f d=>{o,(other b (c b o f d)).ν f,2},5} λb o f d=>{o.č,(other b (c b o f d)).ν f})]
 rwa[k,j,a,11,(other e (apE m)).ν G,H,B,C,r,m,ao5 _ z (ap1 (apu i _)),apu i _,by simp[g]]
def zi {l:Zq}(p:nK Β l e cls dx v s.τ)(m:∀c,nK Β l e cls dx .ε c->s.τ.UpToSlots c->U () (s<*c)):Ó M A (setFlight ?e ε) U E s:=by let[h,f,o,u,t,T,r,w,k,a,i,j,d,g,n,b,q]:=p;unfold setFlight;rwa[aof (apg k i j ?_)];rw[aoO (show (Η.É T !=Η.ε)=ρ from by simp)];rwa[aat h f o k a i j d g n b q m]
def UJ (g:A.frames\(env::Ψ))(q:env.frame\L)(l:nK Β (env::Ψ) e cls dx .ε s.τ)(x:∀d,nK Β (env::Ψ) e cls dx (ô L) d->s.τ.UpToSlots d->U () (s<*d)):Ó M A (noteFrame ?e env) U E s:=by
 let[b,a,k,N,J,T,I,O,u,⟨rfl,rfl⟩,n,p,h,j,o,c,t]:=l;unfold noteFrame;simp only[q];rwa[aof (apg u n p ?_)];rw[aoO (show (Η.É T !=Η.ε)=ρ from by simp)];rwa[aof (apg o c t ?_)];rw[aoK (show ¬((Η.ε==ô L)=ρ) from by simp[ô])];rwa[aof (aat b a k u {22} n p h j o c t λw H z=>?_)];let[b,a,k,B,y,P,G,F,m,⟨D,v⟩,f,i,_]:=H;rwa[N0 (s:=(s<*w)) g k q m b a f (apS.mp i).1 λd r C=>?_]
 rw[D,v]at r;rwa[x d r (z.ν C)]
def W8 (b:A.frames\(env::Ψ))(f:env.frame\L)(c:nK Β (env::Ψ) e cls dx .ε s.τ)(n:∀a,nK Β Ψ e cls dx .ε a->s.τ.UpToSlots a->U () (s<*a)):Ó M A (leaving env ?e) U E s:=by unfold leaving;rwa[aof (UJ b f c λl h o=>zi (s:=(s<*l)) h λj ζ k=>?_)];let[d,g,⟨11,i⟩,m]:=ζ;rwa[n j {d,g,i,m} (o.ν k)]
def R8 {b:Obj}{i:Zm}(c:A.frames\(env::Ψ))(t:s.τ.ĺ Β (env::Ψ))(j:env.frame\L)(k:s•e\b)(g:rf)(f:Β.get? e=ε)(h:b.ê=.Å i)(a:i[1]?=ι .ε)(n:∀d,nK Β Ψ e b.cls b.ù .ε d->s.τ.UpToSlots d->U () (s<*d)):Ó M A (leaving env ?e) U E s:=by unfold leaving noteFrame;simp only[j];rwa[aof (aof (apg k h a ?_))];rw[aoK ⋯];rwa[N0 c t j k g f h (apS.mp a).1 λa o r=>zi (s:=(s<*a)) o λm ζ q=>?_];let[l,u,⟨11,p⟩,v]:=ζ;rwa[n m {l,u,p,v} (r.ν q)]
end L2
namespace L2
open PySem.Calls PySem.W Builtin Builtin.ObjectAttr
def Cy (x C:Zs)(e:Zo)(d:ã)(h:Û):ο:=∃b c,h.get? x\b/\b.cls=?C/\b.ù=e/\b.ê=.Å c/\(d=ρ->c[1]?=ι .ε/\∃a,c[0]?\?a)
def XO (x C:Zs)(b:Zo)(a:ã):HO:=.ext (Cy x C b a)
def Cy.hJ {x:Zs}{dx:Zo}{nw:ã}(p:Cy x a dx nw h)(k:∀o,h.get? x\o->g.get? x\o):Cy x a dx nw g:=by let[ob,b,e,r]:=p;rwa[ob,b,k _ e,r]
def Cy.ex {x:Zs}{dx:Zo}{nw:ã}(p:Cy x a dx nw h):Ek x a h:=let ⟨ob,b,e,c,_,d,_⟩:=p;{ob,b,e,c,d}
def EZ (d:Zs)(fs:θ (Ñ×V))(h:Û):ο:=∃a,h.Ns1 d a/\(∀f,ID (a f))/\Within a (fs.Κ (·.1))
def XD (d:Zs)(fs:θ (Ñ×V)):HO:=.ext (EZ d fs)
def EZ.hJ {fs:θ (Ñ×V)}(p:EZ d fs h)(k:∀o,h.get? d\o->g.get? d\o):EZ d fs g:=by let[a,n,r]:=p;rwa[a,n.at k,r]
def DH {P:Í}{w:à}{x:Zs}{c:Zo}{b:ã}(p:Cy x a c b h):cu P w H h x (XO x a c b):={p,let ⟨d,_,e,_⟩:=p;{d,e},λ_ _ q k=>q.hJ k}
def UK {P:Í}{w:à}{fs:θ (Ñ×V)}(p:EZ d fs h):cu P w H h d (XD d fs):={p,let ⟨_,⟨o,_,_,e,_⟩,_⟩:=p;{o,e},λ_ _ q k=>q.hJ k}
def o6:Zk->ã
 |.É _::r=>o6 r
 |l=>l==ui
def Ks (e:o6 N=ρ):(∃c r,N=?c::r/\o6 r=ρ)\/N=ui:=by
 cases N with
 |nil=>exact .Ç (arD.mp e)
 |È c r=>cases c <;> first|rwa[.Α ⟨_,_,Ų,e⟩]|rwa[.Ç (arD.mp e)]
theorem tH (self:Zt):∀(l:Zk),o6 l=ρ->refuseLoop self QU l=Č ()/\l.contains (.Â ZO)=ρ/\l.è=ς
 |[],e=>by ext e
 |v::l,e=>by
  rcases Ks e with ⟨c,r,q,e⟩|q
  .injection q with b d
   subst b d;let a:=tH self l e;rwa[[refuseLoop_ref]▸a.1,by cbv,2]
  .rw[q];rwa[Γ.F.store_ValueError.passes self,42]
structure A7 (K:Za1)(C:Zs):ο where
 mr:(clsIn K C).any (λcd=>o6 cd.mro)=ρ
 hd:Ĺ K C=ρ
 sa:Õ K ?C QU=ι (ι (.Ι ϙ))
 ga:Õ K ?C YU=ι (ι (.Ι Ÿ))
 gt:Õ K ?C NH=ι ε
 be:subIn K ?C (.Â Ϩ)\ρ
section
variable {prog:Program}{w:World}{A:Around}{R:Result->Zu->Prop}{s:Zu}{K:Za1}{x C:Zs}{name:Str}{v:Zt}
def Ir {p:Obj}{t:Ă Obj}{g:Tok}(X:OA)(I:Γ.W.InstAt s.τ x p C t)(m:(clsIn K C).any (λcd=>o6 cd.mro)=ρ)(j:takerIn K C û\ε)(h:∀b,(À<|>w) A.in1 (storeInOwnDict ?x ?C (.str û g) û v b)
  (λfin d=>match fin with|.done f=>R (.ok f) d|.again i=>i.quiet=ρ/\codeAny Ϥ A i R d) (λe d=>R (.error e) d) s):
 codeAny Ϥ A (.Ğ (.Ι ϙ) {[?x,.str û g,v],[]}) R s:=by
 let c:=Γ.F.store_object;let[cd,y,o]:=any_some m;let[n,B,z]:=tH ?x _ o;let sub:Ĵ Ϥ s.τ (isInstance ?x (.Â ZO)) ρ:=I.Â.ŝ (looks_mroIn X (by unfold mroIn;cbv));rwa[apG c.slot.plain c.entry (@@check_slot Ϥ β s ϙ ZO QU ?x [.str û g,v] [] _ c.kind c.split sub (c.args ?x (.str û g) v) ?_)];let[attr,u,r]:=Ă.bind_eq_some_iff.mp j;let hm:Ĵ Ϥ s.τ (mroOf ?C) cd.mro:=(looks_clsIn X y).ŝ .now
 let l:Ĵ Ϥ s.τ (storeTaker? attr) ε:=by
  cases attr with
  |ε=>exact .now
  |ι a=>
   let[b,k,q]:=apH.mp r;rwa[(looks_takesIn X k).ŝ ?_]
   cases b with
   |ρ=>ext q
   |ς=>exact .now
 rw[osa_eq,refuse_eq];rwa[aof (aof (I.Â.here (aof (hm.here ?_))))];rw[n];rwa[aor (aof (I.Â.here (aof ((ģ X u).here (aof (l.here ?_))))))];rwa[h _]
def afX {ns:Zp}{f:Obj}{t:Zm}(X:OA)(c:A7 K C)(z:s•x\f)(j:f.cls=?C)(q:f.ê=.Å t)(D:takerIn K C û\ε)(e:f.ù\d)(B:s.τ.Ns1 d M)(I:Γ.Within M ns)(H:@ns<=Ε)(h:∀i,i.Ns1 d (λy=>if y=û then ι v else M y)->Û.ė d s.τ i->U () { s with τ:=i,Æ:=s.Æ+ 2 }):
 (À<|>w) A (setAttr ?x û v) U E s:=by
 let[P,L,O,p]:=f;dsimp only at j q e;subst j q e;let[u,S,T,F,r]:=id B;let J:Γ.W.InstAt s.τ x ⟨?C,ι d,.Å t,p⟩ C (ι u):={z,22,F};rwa[set_plain X J c.sa (Ir (s:={ s with Æ:=s.Æ+ 1 }) X J c.mr D λb=>?_)];let[Q,j,o]:=any_some c.hd;rwa[aof (aor (aof (aof (wpAny_loadPart z (aof (Ĵ.here (s:={ s with Æ:=s.Æ+ 1 }) (looks_clsIn X j) ?_))))))];rw[o];rwa[aor (a:=ι d) (aof (aor (aof ?_)))];rwa[wpAny_nsSet1 (s:={ s with Æ:=s.Æ+ 1 }) B λi g l=>?_]
 let[u,N,G,n,k,m]:=g.count (Γ.Within.È û v I);rwa[aof (wpAny_lookBehind n ([k]▸pastItsLine_dict (aot m (by rw[aoA];omega))) ?_)];rwa[aor (h _ g l)]
def adb {f:Obj}{r:Zm}(X:OA)(c:A7 K C)(n:s•x\f)(p:f.cls=?C)(F:f.ê=.Å r)(G:takerIn K C û\ε)(g:f.ù=ε)(h:∀j,j.Ns1 ↥s (λy=>if y=û then ι v else ε)->j.get? x\{ f with ù:=ι ↥s }->(∀b o,b≠x->s•b\o->j.get? b\o)->U () { s with τ:=j,Æ:=s.Æ+ 2 }):
 (À<|>w) A (setAttr ?x û v) U E s:=by
 let[P,L,O,m]:=f;dsimp only at p F g;subst p F g;let J:Γ.W.InstAt s.τ x ⟨?C,ε,.Å r,m⟩ C ε:={n,22,þ.intro};rwa[set_plain X J c.sa (Ir (s:={ s with Æ:=s.Æ+ 1 }) X J c.mr G λb=>?_)];let[S,p,D]:=any_some c.hd;rwa[aof (aor (aof (aof (wpAny_loadPart n (aof (Ĵ.here (s:={ s with Æ:=s.Æ+ 1 }) (looks_clsIn X p) ?_))))))];rw[D];let d:(s.τ.Ú (ϲ>>>.ù #[])).get? x\⟨?C,ε,.Å r,m⟩:=aol _ n;let i:x≠↥s:=aoT (aoL n);rwa[aof (wpAny_alloc' ?_)];rwa[aof (wpAny_update' d ?_)];rwa[aor (a:=ι ↥s) (aof (aor (aof ?_)))]
 let q:((s.τ.Ú (ϲ>>>.ù #[])).Ľ x λo=>{ cls:=o.cls,ù:=ι ↥s,ê:=o.ê,č:=o.č }).get? ↥s
  =ι (ϲ>>>.ù #[]):=(Û.get?_update_ne δ i.Τ).ν (Û.get?_push_at Ų Ų)
 let u:((s.τ.Ú (ϲ>>>.ù #[])).Ľ x λo=>{ cls:=o.cls,ù:=ι ↥s,ê:=o.ê,č:=o.č }).Ns ↥s (λ_=>ε):={_,#[],_,q,2,λe M=>Ρ M (by simp),λ_=>rfl}
 rwa[wpAny_nsSet1 (s:={ s with τ:=(s.τ.Ú (ϲ>>>.ù #[])).Ľ x λo=>{ cls:=o.cls,ù:=ι ↥s,ê:=o.ê,č:=o.č },Æ:=s.Æ+ 1 }) (Û.Ns1.of_empty u) λj l k=>?_]
 let[Q,N,I,B,t,z]:=l.count (Within.È û v Within.nil);rwa[aof (wpAny_lookBehind B ([t]▸pastItsLine_dict (aot z (by rw[aoA,aoV,Š];omega))) ?_)];rwa[aor (h _ l ?_ λb o H e=>?_)]
 .rwa[(k.2 x i).ν (ao5 _ d Ų)]
 .rwa[(k.2 b (aoT Cl)).ν ((Û.get?_update_ne δ H).ν (ZY e))]
end
variable {prog:Program}{w:World}{A:Around}{E:Zt->Zu->Prop}{s:Zu}{K:Za1}{x C:Zs}{name:Str}
def afY {b:ã}{l f:Obj}(X:OA)(c:A7 K C)(I:Γ.W.InstAt s.τ x l C (ι f))(k:findObj K C (ι f) û\.Ō v)(n:handedIn v=ρ)(h:Q v { s with Æ:=s.Æ+ 1 }):
 (À<|>w) A (getAttr ?x û b) Q E s:=by
 let[m,g,d,t,os]:=s;let i:=I.Â (M:=ñ À w);let q:=ģ (M:=ñ À w) X c.ga;let L2:=ģ (M:=ñ À w) X c.gt;let j:Ĵ Ϥ m (isSubtype ?C (.Â Ϩ)) ρ:=looks_subIn X c.be;let r:=looks_find (M:=ñ À w) X I k;let a:(Η.Ι Ÿ==Η.Ι ZW)=ς:=⋯
 let e:(onTheHeap (Η.É C) && Η.Ι Ÿ==Η.Ι ZW)=ς:=by rw[a];rfl
 let o:(b && onTheHeap (Η.Ι Ÿ))=ς:=by cases b <;> rfl
 let p:=Γ.F.Ň.ga.bind ?x;unfold getAttr getAttrBy;rwa[aof (wpAny_mkText (aps (aof (i.at (aof (q.at ?_))))))];dsimp only;rw[aoK (by rw[e];decide)];unfold getAttrByItsOwn hookBefore;rw[aoO (show onTheHeap (Η.É C)=ρ from rfl)];rwa[aof (L2.at (aof (aqv (aps ?_))))];unfold callGetattribute boundAndCalled;rw[aoK (by cbv),p];rwa[aof (aor ?_)];show Ó β (Ğ (.Ι Ÿ) [?x,.str û t]) γ;rwa[aqB (apG Γ.F.Ň.ga.plain Γ.F.entry_bexc_ga (B7 i j ?_))];unfold Λ.«object.__getattribute__»
 repeat lk
 show Ó β (handedOut v) γ;rw[handedOut_of n];rwa[aor h]
end L2
namespace L2
open PySem.Calls PySem.W
def A8 (K:Frag)(C f:Zs):ã:=match K.ω C with
 |ι ⟨.Â l9,_,.cls cd,c⟩=>(match cd.mro,c.Ć with
  |.É b::a,#v[_,_,_,_,.Ι n,_]=>b==C && n==ϫ && !cd.hasDel && tailIn K ui a && nsOkIn K cd.ns && nsIn K cd.ns ϐ==ι (ι ?f)
  |_,_=>ς)
 |_=>ς
def W9 {K:Frag}{mg:Ñ->Zl}(X:K.In h)(G:h.Ns a mg)(e:nsIn K a x\ι v):mg x\v:=by
 let[o,m,p,i,b,_,g]:=G;unfold nsIn at e;split at e
 .rename_i c d f k l q;have:=X^q;rw[i]at Δ;ext Δ;ext b;split at e
  .rename_i n j;ext e;rw[<-g];unfold nsFind findBy;rw[<-Ė.find?_toList,j];rfl
  .split at e <;> ext e
 .ext e
def E0 {K:Za1}(XK:K.In h)(q:A8 K a b=ρ):∃n N nm o bs k s sub r col t E A G D F w,
 h.get? a=ι KU/\h.Ns N w/\w ϐ=ι ?b/\OwnTail h ui n:=by
 unfold A8 at q;split at q
 .rename_i t cls m j;split at q
  .rename_i H n x y z u nid v f c;simp only[apY,arD,ã.not_eq_true']at q;let[⟨⟨⟨⟨rfl,rfl⟩,e⟩,g⟩,i⟩,d]:=q;let[nm,bs,mro,C,o,B,s,sub,r,col,del]:=cls;dsimp only at f e i d;subst f e
   let p:m=#[x,y,z,u,ι (.Ι ϫ),v]:=by let⟨l⟩:=m;simp only at c;rw[c]
   subst p;rwa[n,C,nm,o,bs,B,s,sub,r,col,t,x,y,z,u,v,_,XK^j,.of_isNs TZ,W9 XK (.of_isNs TZ) d,Γ.W.tail_of_in XK g]
  .ext q
 .ext q
variable {prog:Program}{w:World}{A:Around}{E:Zt->Zu->Prop}{h:Heap}{g:Array GenState}{d:Drawn}{t:Nat}{os:OsState}
variable {nm q:Str}{C N:Zs}{bs bm UL:Zk}{hdct:Bool}{sn:Zp}{sub:Zk}{ab:Bool}{col:Option Bool}{dd:Zo}{k0 k1 k2 k3 k5:Zl}{B newId N3:String}
theorem zj (F:l8)(T:OwnTail h UL bm){n:Ñ->Zl}{ī:Zk}{s:Zs}{y:Obj}{Q:Fin->Zu->ο}(j:h.get? C\excClassObj nm q C N bs bm hdct sn sub ab col dd k0 k1 k2 k3 k5 newId)(L:h.Ns N n)(J:n ϐ=ι ?s)(u:h.get? s\y)(p:y.cls=.Â mi)(G:∀l e,Û.MadeExcOf h l e ?C ī->(À<|>w) A (Ğ ?s (?e::ī)) (λr v=>r=.ε/\Q (.done (.ret ?e)) v) E {l,g,d,t,os})(ade:@ī<=Ε):
 (À<|>w) A (Λ.«type.__call__» ⟨?C::ī,[]⟩) Q E ⟨h,g,d,t,os⟩:=by
 repeat (first|with_reducible rwa[arq j ?_]|with_reducible rwa[wpAny_madeBy_exc j ?_]|wp_step)
 rwa[codeAny_call_builtin_code (arQ _ F.quiet) (wpAny_check_new_subT F T j ?_)];rwa[codeAny_exc_new_subT F T j ?_ ade];show Ó δ _ _
 let a:=aol { cls:=?C,ê:=.Å #[?h.õ.Υ,.ε,.ε,.ε,.ħ ς,.ε] }
  (aol (ŷ>>>.seq ī.χ) j)
 let c:=aol { cls:=?C,ê:=.Å #[?h.õ.Υ,.ε,.ε,.ε,.ħ ς,.ε] }
  (aol (ŷ>>>.seq ī.χ) u)
 let i:((h.Ú (ŷ>>>.seq ī.χ)).Ú { cls:=?C,ê:=.Å #[?h.õ.Υ,.ε,.ε,.ε,.ħ ς,.ε] }).Ns N n:=let ⟨o,I,M,e,r⟩:=L;{o,I,M,ZY (ZY e),r}
 let f:((h.Ú (ŷ>>>.seq ī.χ)).Ú
  { cls:=?C,ê:=.Å #[?h.õ.Υ,.ε,.ε,.ε,.ħ ς,.ε] }).get? (h.õ.Υ+ 1)=ι
  { cls:=?C,ê:=.Å #[?h.õ.Υ,.ε,.ε,.ε,.ħ ς,.ε] }:=by heap_get
 let m:(Η.É C::bm).contains ?C=ρ:=by simp
 let k:=T.Į (h':=(h.Ú (ŷ>>>.seq ī.χ)).Ú { cls:=?C,ê:=.Å #[?h.õ.Υ,.ε,.ε,.ε,.ħ ς,.ε] })
  λb o e=>aol _ (ZY e)
 unfold isInstance
 repeat (first|with_reducible rwa[arq f ?_]|(with_reducible rwa[wpAny_isSubtype_exc a ?_];rw[m])|wp_step)
 show Ó β (typeLookup ?C _) γ;rwa[wpAny_typeLookup_tail a i k F.mroIs F.init.ω ?_];rw[J];rwa[aps (aof ?_)];unfold bindSpecial;rwa[aof (aq5 (T:=mi) {_,c,p} ?_)];rw[aoO ⋯];rwa[aor (aof (apO (G _ (h.õ.Υ+ 1) {λb o z=>aol _ (ZY z),Û.get?_none_of_le (η.le_succ _),h.õ.Υ,f,Û.get?_none_of_le Ź,5}) (λr v H=>?_) λ_ _ x=>x))]
 .rwa[ZY (Û.get?_push_at Ų Ų)]
 .let[Ų,D]:=H
  wp_walk
  rwa[D]
def Kt (F:l8)(T:OwnTail h UL bm){k:Ñ->Zl}{ī:Zk}{i:Zs}{l:Obj}{Q:Zt->Zu->ο}(b:h.get? C\excClassObj nm q C N bs bm hdct sn sub ab col dd k0 k1 k2 k3 k5 newId)(p:h.Ns N k)(o:k ϐ=ι ?i)(j:h.get? i\l)(f:l.cls=.Â mi)(n:∀c e,Û.MadeExcOf h c e ?C ī->(À<|>w) (A.under (.Ι OR ⟨?C::ī,[]⟩)) (Ğ ?i (?e::ī)) (λr m=>r=.ε/\Q ?e m) E {c,g,d,t,os})(a:@ī<=Ε):
 (À<|>w) A (Ğ ?C ī) Q E ⟨h,g,d,t,os⟩:=by
 let u:=tc_lookup;let x:=tc_bind ?C;let v:(⟨h,g,d,t,os⟩:Zu).Ġ ?C l9:={_,b,2};rwa[aqB (codeAny_of_tree ?_)];show Ó β (callAny ?C _) γ
 repeat (any_goals (first|assumption|with_reducible rwa[arq b ?_]|wp_step))
 erw[2];rwa[codeAny_call_builtin_at (arQ _ ⋯) entry_typeCall (wpAny_check_type_call_sub b (zj (ade:=a) F T b p o j f λc e s=>?_))];rwa[n c e s]
def Sb {M:Model}{env:Env}{x:Sem Zt}{Q:Flow->Zu->ο}(b:bm.contains (.Â Ϩ)=ρ)(r:A.ą=ε)(h:Ó M A x (λv a=>∃e f i,v=?e/\a•C\excClassObj nm q C N bs bm hdct sn sub ab col dd k0 k1 k2 k3 k5 newId/\a•e=ι f/\f.cls=?C/\f.ê=.Å i/\i[1]?=ι .ε/\E ?e a) E s):
 Ó M A (raiseStmt env (ι x) ε) Q E s:=by
 let j:(Η.É C::bm).contains (.Â Ϩ)=ρ:=by rw[θ.contains_cons,b,ã.or_true]
 unfold raiseStmt;rwa[aof (apO h (λv a c=>?_) λ_ _ x=>x)];let[e,f,i,Ų,l,m,n,k,o,p]:=c;let[F,g,d,D,os]:=a;let[z,G,y,u]:=f;dsimp only at n k;subst n k
 repeat (first|with_reducible rwa[arq m ?_]|with_reducible rwa[arq l ?_]|(with_reducible rwa[wpAny_isSubtype_exc l ?_];rw[j])|with_reducible rwa[aof (apg m Ų o ?_)]|wp_step)
 all_goals rwa[wpAny_raiseNew_none r p]
end L2
namespace L2
inductive cS (P:Í)(w:à)(Ψ:Zq)(H:Hp)(s:Zu)(E:XK)(e:Zt)(s':Zu):ο
 |mk (x C:Zs)(dx:Zo)(B:Û)(H':Hp):e=?x->s'.os=s.os->Ŕ s'.gens->nK B Ψ x ?C dx .ε s'.τ->Un (bV Ψ) [] H H' s.τ s'.τ->eI P w H' B->(∀b o,s•b\o->H b=ε->b∉bV Ψ->B.get? b\o)->(∀b o,s•b\o->b∉bV Ψ->∃o',B.get? b\o')->E ?C dx H'->cS P w Ψ H s E e s'
def del (H:Hp)(x:Zs):Hp:=λb=>if b=x then ε else H b
def q9 {x:Zs}(h:b≠x):del H x b=H b:=by unfold del;rw[aoK h]
def Sd {x:Zs}{u:HO}(h:del H x b\u):b≠x/\H b\u:=by
 unfold del at h
 cbv
def Xa {x:Zs}{o:HO}(h:H x=ε):del (wS o) x=H:=by
 funext b
 cases e:b=x
 .rw[e,h];unfold del;rw[aoO Ų]
 .rw[q9 e,aq e]
def o8 {P:Í}{w:à}:Passes ϴ X (λ_ _ _=>Ð):=λ_ _ _ _ _ _ _ ζ=>by let[_,_,_,_,_,_,_,_,_,_,_,_,_,q]:=ζ;rwa[q.Ü]
def UM {P:Í}{w:à}{a:Zq}(h:cS P w a H s (λ_ _ _=>Ð) v t):Ð:=let ⟨_,_,_,_,_,_,_,_,_,_,_,_,_,q⟩:=h;q
section
variable {P:Program}{w:World}{K:Za1}{mg:Str->Zl}{base:Heap}{N:Zp}{qual:Str}{scope:Scope}{f:Zs}{cd:Zt}{A:Around}{outer:Zq}{s:Zu}{H:Hp}{E:XK}{pins:List (Zs×Obj)}{σ:St}{H1:Hp}{s1:Zu}
def sE {o:Obj}(I:Inv (YE E) Î σ H1 s1)(e:s•b\o)(a:b∉bV Ψ):b∉bV (YE E).stack:=λz=>by
 rcases aoC.mp (show b∈↥s::bV Ψ from z) with z|z
 .rwa[Ρ Cl (by rw[z];rwa[ap7 _])]
 .rwa[a z]
def aau {x:Zs}{R:Zo}(I:Inv (YE E) Î σ H1 s1)(F:H1 x\XO x a R ρ)(Z:s•x=ε)(q:E ?a R (del H1 x)):
 (YE E).xe ?x s1:=by
 let t:=I.ok.frames;let C:∀env∈(YE E).stack,∀b,env.frame\b->b∈x::bV (YE E).stack:=λenv X b k=>aoH _ (θ.mem_filterMap.mpr {env,X,k})
 let G:=Γ.W.funFrames_hide I.stack C;let[⟨ob,vs,d,rfl',Ų,i,l⟩,_,_]:=I.a0 x _ F;let nx:∀b o,s•b\o->b≠x:=λb o e z=>by cbv
 let out:∀b o,s•b\o->b∉bV Ψ->b∉x::bV (YE E).stack:=λb o e k z=>(aoC.mp z).Ü (nx b o e) (sE I e k)
 rwa[R8 (s:=s1) (Β:=hideAll s1.τ (x::bV (YE E).stack)) (L:=↥s) t G Ų d (λb o z=>Γ.W.of_hideAll _ z) (Γ.W.hideAll_none _ (.head _)) i (l Ų).1 λy r ups=>?_]
 let S:∀b o,s•b\o->H b=ε->b∉bV Ψ->(hideAll s1.τ (x::bV (YE E).stack)).get? b\o:=λb o d g h=>arA _ (I.Β.Ï b o d g h (by simp[c0])) (out b o d h)
 let O:∀b o,s•b\o->b∉bV Ψ->∃j,(hideAll s1.τ (x::bV (YE E).stack)).get? b\j:=λb o d h=>by let[j,i]:=I.Β.there b o d (by simp[c0]);rwa[j,arA _ i (out b o d h)]
 let M:∀b o,s1•b\o->b∈bV Ψ->∃B,y.get? b\{ o with č:=B }:=λb o d g=>by let[_,o2,h,Y]:=I.stack.mem (show b∈bV (YE E).stack from aoH _ g);rw[d]at h;ext h;rwa[ups b o d Y]
 let dl:∀{b:Zs}{u:HO},H1 b\u->(∀ T,u≠.ext T)->del H1 x b\u:=λ{b u} e n=>by
  rw[q9]
  .rwa[e]
  .intro z;rw[z,F]at e;rwa[n _ (Za0 e).Τ]
 rw[rfl']at r;rwa[x,a,11,del H1 x,2,I.os,I.bare,r,{λb o d g h _=>r.1 b o (S b o d g h),λb o d g h _=>?_,λb o d g _=>?_,λb o d _=>?_,λb Q e=>dl (I.Β.jh b Q e) (by cbv),λb o u e=>dl (I.Β.iA b o u e) (by cbv),λb V e=>?_},5,S,O,q]
 .let[B,i]:=I.Β.slot b o d g h (by simp[c0]);let[D,l]:=M b _ i h;rwa[D,l]
 .rw[q9 (nx b o d)];rwa[OC d g (by simp[c0])]
 .cases k:b∈bV Ψ
  .let[j,i]:=I.Β.there b o d (by simp[c0]);let[B,l]:=M b j i k;rwa[_,l]
  .let[j,i]:=O b o d k;rwa[j,r.1 b j i]
 .let[m,g]:=I.Β.jT b V e;rwa[m,dl g (by cbv)]
 .intro b u d;let[U,d]:=Sd d
  let p:∀c v,c≠x->H1 c\v->c∉x::bV (YE E).stack:=λc v J g z=>by
   rcases aoC.mp z with z|z
   .rwa[J z]
   .rw[I.qQ c z]at g;ext g
  rwa[(I.a0 b u d).hJ (λc v J z=>arA _ z ?_) (λc z=>dl z (by cbv)) λc Q z=>dl z (by cbv)]
  rcases J with z2|z2
  .rw[z2];rwa[p b u U d]
  .rwa[p c _ (λz=>by rw[z,F]at z2;ext z2) z2]
def zk:Passes ϴ (YE E) E:=by
 intro Î σ H1 s1 e R I cx;let[x,C,J,B,G,Ų,os,bare,F,un,l,M,D,q]:=cx;rwa[W8 (L:=↥s) I.ok.frames Ų F λt k ups=>?_]
 let p:∀b o,s•b\o->H b=ε->b∉bV Ψ->B.get? b\o:=λb o a d c=>M b o (I.Β.Ï b o a d c (by simp[c0])) (OC a d (by simp[c0])) (sE I a c)
 let m:∀b o,s•b\o->b∉bV Ψ->∃h,B.get? b\h:=λb o a c=>by let[h,g]:=I.Β.there b o a (by simp[c0]);rwa[D b h g (sE I a c)]
 let z:∀b o,s1•b\o->b∈bV Ψ->∃u,t.get? b\{ o with č:=u }:=λb o a d=>by let i:b∈bV (YE E).stack:=aoH _ d;let[_,S,c,O]:=I.stack.mem i;rw[a]at c;ext c;let[u,g]:=un.slot b o a (I.qQ b i) i (by simp);let[j,r]:=ups b _ g O;rwa[j,r]
 rwa[x,C,J,B,G,2,os.ν I.os,bare,k,{λb o a d c _=>k.1 b o (p b o a d c),λb o a d c _=>?_,λb o a d _=>?_,λb o a _=>?_,λb n a=>un.jh b n (I.Β.jh b n a),λb o n a=>un.iA b o n (I.Β.iA b o n a),λb y a=>?_},l,p,m,q]
 .let[u,g]:=I.Β.slot b o a d c (by simp[c0]);let[j,r]:=z b _ g c;rwa[j,r]
 .let[h,g]:=I.Β.there b o a (by simp[c0]);rwa[un.free b h g (OC a d (by simp[c0])) (by simp)]
 .cases v:b∈bV Ψ
  .let[h,g]:=I.Β.there b o a (by simp[c0])
   cbv
  .let[h,g]:=m b o a v;rwa[h,k.1 b h g]
 .let[T,d]:=I.Β.jT b y a;let[Q,c]:=un.jT b _ d
  cbv
end
section
variable {P:Program}{w:World}{K:Za1}{mg:Str->Zl}{base:Heap}
theorem yU.N4 {Ā:Ñ}{st:ŕ}{fd:Ζ}{e:Zp}{k:η}{sp:Sp}(F:SE)(S:aL Z e Ϸ)(len:∀c H Q E,pr E->@c=@e)(d:∀(b:Zt) (A:ß) (Ψ:Zq) (s:Zu) (H:Hp) (c:Zb) (Q:VK) (E:XK),dy k (A.deeper (Ũ Ā Ϸ ↥s a b))->sp c H Q E->∃t,hL (ź Z Ā Ϸ a b A Ψ s H E) ZK t/\t { nx:=λ_ i=>Q .non i,rt:=Q } (Θ Z c) H):cX P w K mg Β ϴ (k+ 1) a fd e sp:=by let[l,n,kV,doc,pm,m,b,ct,j,Ų,lk,g]:=F.ex;rwa[J1 lk g S len λA Ψ s H c Q E h f=>d b A Ψ s H c Q E h f]
end
section
variable {X:Cx}{pins:List (Zs×Obj)}{σ:St}{H:Hp}{s:Zu}{h':Heap}{e C:Zs}{vs:Zk}
def Inv.UN (I:Ŵ)(hm:Û.MadeExcOf s.τ h' e ?C vs)(hex:X.ex=[]):H e=ε/\X.fD.τ.get? e=ε/\Inv X Î σ (ψ H e (XO e C ε ρ)) (s<*h'):=by
 let a:H e=ε:=by
  cases q:H e with
  |ε=>rfl
  |ι u=>let[o,d]:=(I.a0 e u q).ű;rw[hm.new]at d;ext d
 let ne:∀b o,s•b\o->b≠e:=λb o q z=>by rw[z,hm.new]at q;ext q
 let h:X.fD.τ.get? e=ε:=by
  cases q:X.fD.τ.get? e with
  |ε=>rfl
  |ι o=>
   let[l,d]:=I.Β.there e o q (by rw[hex];simp)
   cbv
 rwa[a,h,I.un (t':=s.Æ) {λb u q _ _ _=>hm.Į b u q,λb u q _ _ _=>{u.č,hm.Į b u q},λb u q n _=>[aq (ne b u q)]▸n,λb u q _=>{u,hm.Į b u q},λb f q=>[aq (Pd a)]▸q,λb u f q=>[aq (Pd a)]▸q,λb j q=>{#[],by rw[aq (Pd a),q];simp}} λb u q=>?_];cases g:b=e
 .subst g;rw[aj]at q;ext q;let[t,i,_,_]:=hm.there;rwa[DH {11,i,222,λ_=>{212}}]
 .rw[aq g]at q;rwa[(I.a0 b u q).hJ (λc v _ q=>hm.Į c v q) (λc q=>[aq (Pd a)]▸q) λc f q=>[aq (Pd a)]▸q]
end
variable {X:Cx}{k:Nat}{f C:Zs}{fd:FuncData}{ps:Zp}{sp:Sp}{x:Str}{p pos cP:Pos}{e:Expr}{es:Zr}{t:TA}{E:XK}
def LvD (X:Cx)(C:Zs)(E:XK):ο:=∀(a:θ (Zs×Obj))(c:St)(H:Hp)(s:Zu)(x:Zs)(b:Zo),ϗ a c H s->H x\XO x C b ρ->X.fD.τ.get? x=ε->E ?C b (del H x)->X.xe ?x s
def lvD {P:Í}{w:à}{K:Za1}{mg:Ñ->Zl}{Β:Û}{Ā:Ñ}{Ξ:ũ}{f C:Zs}{A:ß}{a:Zq}{E:XK}:LvD (ź Z Ā Ξ f v A a s H E) C E:=λ_ _ _ _ _ _ I c b q=>aau I c b q
def N5 {a:ę}{g:TE}(l:X.calm=ρ)(j:AD)(c:X.mg x\?C)(h:Rm X.K C)(r:PE X a g)(u:LvD X C E)(hex:X.ex=[])(m:Ο [a] X.env=[(ς,å a X.env)])(d:(x==(Ϡ:Ñ))=ς):
 PS X (.Raise (ι (.ġ (.ö x p) [a] [] cP)) ε pos) (MZ C E g):=Rn l j c h r (λb n H s v e w I c q=>by let[o,i,J]:=I.UN c hex;rwa[u b n β e ε J aj i ([Xa o]▸q)]) m d
def Xb (C:Zs)(sp:Sp)(E:XK)(t:TA):TS:=λ_ g H=>t g H λd b=>∀x,b x=ε->sp (?x::d) (ψ b x (XO x C ε ρ)) (λv a=>v=.non/\∃c,a x\XO x C c ρ/\E ?C c (del a x)) (λ_ _ _=>Ð)
theorem N6 (F:cX X.À X.w X.K X.mg X.Β (cS X.À X.w) k f fd ps sp)(hr:dy (k+ 1) X.A)(hb:Ű X.K fd ps [])(hc:X.calm=ρ)(hg:AD)(hm:X.mg x\?C)(hC:A8 X.K C f=ρ)(hf:isFn X.K ?f=ρ)(hk:Ĭ X.K ?C=ρ)(ha:PA X (e::es) t)(lv:LvD X C E)(hex:X.ex=[])(E3:@ps<=1000)(w:(x==(Ϡ:Ñ))=ς)(he:Ο (e::es) X.env=(ς,å e X.env)::Ο es X.env)(G:(ĉ cP ϯ).any (·.1)=ς):
 PS X (.Raise (ι (.ġ (.ö x p) (e::es) [] cP)) ε pos) (Xb C sp E t):=by
 intro c s σ H D I h;let[R,N,nm,qn,bs,i,sn,sub,Q,col,dd,k0,k1,T,Z,k5,mN,W,o2,o3,o4]:=E0 I.ok.mod.iJ hC;let kp:∀{P O n},ϗ c P O n->∀b o,X.Β.get? b\o->n•b\o:=λJ b o q=>(J.bs b o q).1
 rw[arm_exec_Raise];rwa[aof (arL (Sb (C:=C) (nm:=nm) (q:=qn) (N:=N) (bs:=bs) (bm:=R) (hdct:=i) (sn:=sn) (sub:=sub) (ab:=Q) (col:=col) (dd:=dd) (k0:=k0) (k1:=k1) (k2:=T) (k3:=Z) (k5:=k5) (newId:=ϫ) (o4.hasType ⋯) (I.ok.hd hc) (aof (apO (E:=X.xe) ?_ (λv Y m=>aof (arL (aor m))) λ_ _ x=>x))))];rwa[apI (iT I hg hm ?_ w)];rwa[aq0 (h₀:=X.Β) I.ok.mod.iJ hk (bx (ha cP c s σ H _ I h) λus s1 ζ=>?_) he G];let[vs,H1,j,r,q]:=ζ;rwa[j.dJ,5];let[oI,M,B]:=apH.mp (arD.mp hf)
 let len:@us<=1000:=by let h1:=F.len δ (q (↥s1) (j.a0.ó Ź));rw[aoA]at h1;rw[<-@r];ext
 let[hh,g,d,tk,os]:=s1;rwa[Kt (A:=X.A) aqs (o4.Į (kp j)) (kp j β W) (o2.Į (kp j)) o3 (j.dJ^M) B (λh' y z=>?_) (aot len ⋯)];let[hn,h0,J]:=j.UN z hex;let hq:=q y hn;let r2:ä (V.É y::vs) (Η.É y::us):=.È Ų r
 let hl:@(Η.É y::us++[])=@ps:=by rw[aoJ,<-@r2];rwa[F.len δ hq]
 let l:=hb _ (Η.É y::us) J.dJ hl;rw[aoJ]at l;rwa[aqB (aq4 (F.run _ X.stack β {Η.É y::us,[]} (Η.É y::us) γ (hr.Ę C us []) (J.J0.Ę C us []) l r2 hq) λr n a=>?_)]
 cases r with
 |error e=>exact(UM a).Ü
 |ok fl=>
  cases fl with
  |ret u=>let[v,O,L,rv,ev,dx,S,q3]:=J.after a;subst ev;let[⟨ob,ws,a1,a2,a3,a4,a5⟩,_,_]:=L.a0 y _ S;rwa[rv,y,ob,ws,2,kp L β W,a1,a2,a4,(a5 Ų).1,lv c σ O n y dx L S h0 q3]
  |next=>exact Ð.Ü a
  |brk=>exact Ð.Ü a
  |cont=>exact Ð.Ü a
end L2
namespace L2
open PySem.W
section
variable {M:Model}{A:Around}{E:Zt->Zu->Prop}{s:Zu}{x a:Zs}{ob:Obj}{vs:Zm}{tv:Zt}
def Se {Q:Fin->Zu->ο}(e:s•x\ob)(c:ob.ê=.Å vs)(d:vs[0]?\?a)(h:Q (.done (.ret .ε)) { s with τ:=(s.τ.Ú (ŷ>>>.seq #[tv])).Ľ x (Obj.ĩ (·.é 0 ↑↥s)) }):Ó M A (Λ.«BaseException.__init__» {[?x,tv],[]}) Q E s:=by
 let b:=aol (ŷ>>>.seq #[tv]) e;unfold Λ.«BaseException.__init__»;rwa[aof (wpAny_newTuple ?_)];unfold Λ.BaseException.bexcPut;rwa[aof (aof (apg b c d (aof (ap6 b c (apS.mp d).1 ?_))))]
 wp_walk
 rwa[h]
end
variable {X:Cx}{Y:Zs}{y f:Str}{np apos pos pos':Pos}{e:Expr}{es:Zr}{t:TA}
structure Sf (K:Za1)(Y:Zs):ο where
 sp:specialIn K ?Y YU=ι (ι (.Ι "type.__getattribute__"))
 rd:readsIn K Y (.Â l9)=ρ
 fc:(match findCls K ?Y (.Â l9) ϐ with|ι (.val (.Ι i))=>i==LO | _=>ς)=ρ
def Sf.find {K:Za1}{Y:Zs}(b:Sf K Y):findCls K ?Y (.Â l9) ϐ=ι (.val (.Ι LO)):=by
 have:=b.fc
 cbv
def afZ (C:Zs)(t:TA):TE:=λ d H Q=>t d H λb a=>∃(x:Zs)(c:Zo)(l:Zh),b=[?x,.str (tx l)]/\a x\XO x C c ρ/\Q .non a
def Sg {pl:l5}(R:A8 X.K a b=ρ)(A:Sf X.K Y)(W:Gl X y)(hm:X.mg y\?Y)(ha:PA X (e::es) t)(D:(y==(Ϡ:Ñ))=ς)(v:Ο (e::es) X.env=(ς,å e X.env)::Ο es X.env)(n:(ZX ϯ).any (·.1)=ς)(T:å (.ġ (.â (.ö y np) ϐ ĭ) (e::es) [] pos) X.env=(do
  let M <-å (.ö y np) X.env
  standAt ĭ.atName
  let (f,first) <-holding [M] (getMethod M ϐ pl)
  callWith pos f first (ZX (Ο (e::es) X.env)) (wT (ď [] X.env)))):
 PE X (.ġ (.â (.ö y np) ϐ ĭ) (e::es) [] pos) (afZ a t):=by
 intro k s σ H Q I h;rwa[methodCall_KW (pl:=pl) (iT I W hm ?_ D) T];rwa[method_cls I.dJ A.sp (cls_value I.dJ A.rd A.find Ų ?_)];rwa[ÿ.Rows.callWith_builtin1 (bx (ha pos k _ σ H _ ZQ h) λus s1 ζ=>?_) v n];let[vs,B,p,r,x,P,l,Z,C,q]:=ζ;subst Z;let[u,E,Ų,rx,ry]:=vals2 r;ext rx;let[bm,N,nm,qn,bs,F,sn,sub,ab,col,dd,k0,k1,k2,k3,k5,mN,o1,o2,o3,o4]:=E0 I.ok.mod.iJ R;let kp:∀d o,X.Β.get? d\o->s1•d\o:=λd o q=>(p.bs d o q).1
 let[⟨ob,ws,m,O,a3,L,a5⟩,_,_]:=p.a0 x _ C;let[b1,c,G]:=a5 rfl;let[g,gg,dr,tk,os]:=s1;rwa[aqB (apG aqs.init.plain aqs.initEntry (wpAny_check_init_subT aqs (o4.Į kp) (kp^o1) m O ?_))];rwa[Se m L G ?_];let S:x≠g.õ.Υ:=aoT (aoL m);let w:=aol (ŷ>>>.seq #[E]) m;let j:=apu L (·.é 0 (Η.É g.õ.Υ));let i:=ao5 (Obj.ĩ (·.é 0 (Η.É g.õ.Υ))) w (ap1 j)
 let J:=p.write (h':=(g.Ú (ŷ>>>.seq #[E])).Ľ x (Obj.ĩ (·.é 0 ?g.õ.Υ))) (t':=tk) (o:=XO x a P ρ) (x:=x) (e:=x) ([C]▸þ.intro) (.Α Ų) (λd u U z=>(apj^apE U).ν (ZY z)) {_,i}
  (DH {11,i,(arj β).ν O,(Cw β).ν a3,j,λ_=>{by cbv,g.õ.Υ,by simp[(apS.mp G).1]}})
 let V:ψ B x (XO x a P ρ)=B:=by
  funext d
  cases z:d=x
  .rw[z,aj,C]
  .rw[aq z]
 rw[V]at J;rwa[.non,B,J,2,q]
def adf (K:Za1)(k i:TE)(f:Ñ):TS:=λD c H=>i c H λy j=>k c j λx b=>∃(a C:Zs)(h:Zo)(g:ã),x=?a/\b a\XO a C h g/\A7 K C/\mW K C f/\
 match h with
 |ε=>∀d,b d=ε->D.nx c (ψ (ψ b d (XD d [(f,y)])) a (XO a C (ι d) g))
 |ι d=>∃fs,d≠a/\b d\XD d fs/\@fs<1000/\D.nx c (ψ b d (XD d (bP f y fs)))
def N7 {fs:θ (Ñ×V)}{mA:Ñ->Zl}{y:V}(r:∀f,ID (mA f))(a:Γ.Within mA (fs.Κ (·.1)))(c:LG):(∀g,fB ((bP f y fs).ω g) (if g=f then ι u else mA g))/\Γ.Within (λg=>if g=f then ι u else mA g) ((bP f y fs).Κ (·.1)):=by
 rwa[λg=>?_,λg b=>?_]
 .rw[eZ];cases q:g=f
  .rw[aoO q,aoO q];rwa[c]
  cbv
 .cases q:g=f
  .rw[q];rwa[(mU f y fs).1]
  .rwa[(mU f y fs).2 g (a g λz=>b ?_)]
   cbv
def Iu {T:Za1}[M:eD X T]{o Ō:ę}{R Q:TE}(ha:PE X o R)(hv:PE X Ō Q)(hs:Ķ Ō (ι (.â o f pos')) pos.line X.env=Č ς):PS X (.Assign [.â o f pos'] Ō pos) (adf T R Q f):=by
 cases M.eq;intro j s w H D I h;rwa[plainObj_wpAny_Assign_Attribute (bx (hv j s w H _ I h) λu s1 ζ=>?_) hs];let[y,H1,I1,U,q]:=ζ;rwa[bx (ha j s1 w H1 _ I1 q) λov s2 ζ=>?_];let[x,H2,k,rx,a,C,dx,nw,ex,W,c,n,A]:=ζ;subst ex;obtain rfl:ov=Η.É a:=rx;let[⟨ob,vs,N,O,S,G,a5⟩,_,_]:=k.a0 a _ W
 cases dx with
 |ι d=>
  let[fs,nd,V,hl,A]:=A;let[⟨mA,hn,r,P⟩,_,_]:=k.a0 d _ V;rwa[afX k.dJ c N O G n.JV S hn P (by rw[aog,Š];omega) λm i sb=>?_]
  let[L,E]:=N7 (f:=f) r P U;let[v,_,_,p,_]:=id i;rwa[w,_,k.write (x:=d) (e:=d) ([V]▸þ.intro) (.Α Ų) (λb u F z=>(sb.2 b F).ν z) {v,p} (UK {_,i,L,E}),A]
 |ε=>
  rwa[adb k.dJ c N O G n.JV S λm i l kp=>?_]
  let Z:H2 ↥s2=ε:=k.a0.ó Ź;let B:↥s2≠a:=aqc (aoL N);let[v,es,ep,p,r']:=id i;let[L,E]:=N7 (fs:=[]) (mA:=λ_=>ε) (f:=f) (λ_=>þ.intro) (λg hg=>Ρ Ų hg) U;let J:=k.ŭ (a:=↥s2) (o:=XD ↥s2 [(f,y)]) (h':=s2.τ.Ú v) (t':=s2.Æ) (λb u z=>aol _ z) Ź (UK {_,{v,es,ep,Û.get?_push_at Ų (Û.get?_some_iff.mp p).2,r'},L,E});rwa[w,_,J.write (h':=m) (x:=a) (e:=a) (o:=XO a C (ι ↥s2) nw) ([aq B.Τ,W]▸þ.intro) (.Α Ų) (λb u F z=>?_) {_,l} (DH {11,l,O,2,G,a5}),A _ Z];rcases Û.get?_push_cases z with ⟨rfl,rfl⟩|z
  .rwa[p]
  .rwa[kp b u F z]
inductive aaw (K:Za1)(f:Ñ)(x:V)(H:Hp)(Q:VK):ο
 |mk (a C d:Zs)(nw:ã)(fs:θ (Ñ×V))(v:V):x=?a->H a\XO a C (ι d) nw->H d\XD d fs->A7 K C->mW K C f->fs.ω f\v->Q v H->aaw K f x H Q
def adg (K:Za1)(b:TE)(f:Ñ):TE:=λ c H Q=>b c H λx a=>aaw K f x a Q
def Xc {p:Za1}[i:eD X p]{e:ę}{k:TE}(U:PE X e k)(B:Đ e f X.env Z7=å e X.env):PE X (.â e f pos) (adg p k f):=by cases i.eq;intro b s P H Q I h;rwa[HP B (bx (U b s P H _ I h) λu s1 ζ=>?_)];let[x,L,g,O,a,C,d,nw,fs,v,ex,W,R,c,n,l,q]:=ζ;subst ex;obtain rfl:u=Η.É a:=O;let[⟨G,E,V,z,m,w,a5⟩,_,_]:=g.a0 a _ W;let[⟨T,S,r,wi⟩,_,_]:=g.a0 d _ R;let[u,N,A]:=fB.some_of (v:=v) (o:=T f) (by rw[<-l];rwa[r f]);let[F,D,M]:=BL S;let[oc,od,Z,j]:=G;dsimp only at z m w;subst z m w;let J:Γ.W.InstAt s1.τ a ⟨?C,ι d,.Å E,j⟩ C (ι F):={V,22,D};rwa[afY g.dJ c J (findObj_own c.hd n Ų (by rw[M,N])) (BM A) {v,L,g.tok _,A,q}]
end L2
namespace L2
def fJ (X:Cx)(a:θ (Zs×Obj))(g:St)(d:Hp)(x C:Zs)(f:Zo)(s:Zu):ο:=
 ∃(B:Û)(c:Hp)(s1:Zu),ϗ a g c s1/\s.os=s1.os/\Ŕ s.gens/\nK B X.stack x ?C f .ε s.τ/\Un IS [] c d s1.τ s.τ/\eI X.À X.w d B/\(∀b o,s1•b\o->c b=ε->b∉bV X.stack->B.get? b\o)/\(∀b o,s1•b\o->b∉bV X.stack->∃e,B.get? b\e)
section
variable {X:Cx}{pins:List (Zs×Obj)}{σ:St}{H':Hp}{x C:Zs}{dx:Zo}{s:Zu}
def fJ.of {E:XK}(I:Inv X Î σ H t)(cx:cS X.À X.w X.stack H t E v s):∃x C dx H',v=?x/\fJ X Î σ H' x C dx s/\E ?C dx H':=by let[x,C,dx,B,H',Ų,os,bare,fl,un,a,c,b,q]:=cx;rwa[x,C,dx,H',2,{B,H,t,I,os,bare,fl,un,a,c,b},q]
def fJ.ı {fl:Zt}{s1:Zu}(I:Inv X Î σ H s1)(os:s.os=s1.os)(bare:Ŕ s.gens)(un:Un IS [] H H' s1.τ s.τ)(a0:eI X.À X.w H' g)(q:∀b o,s1•b\o->H b=ε->b∉bV X.stack->g.get? b\o)(p:∀b o,s1•b\o->b∉bV X.stack->∃i,g.get? b\i)(a:nK g X.stack x ?C dx .ε h)(u:s.τ.UpToSlots h):fJ X Î σ H' x C dx (s<*h):=by
 let n:∀b o,s1•b\o->b∈bV X.stack->∃sl,h.get? b\{ o with č:=sl }:=λb o e c=>by let[t,f,r]:=I.Uv c;rw[e]at f;ext f;let[sl,m]:=un.slot b o e (I.qQ b c) c (by simp);let[k,j]:=u b _ m r;rwa[k,j]
 rwa[g,H,s1,I,os,bare,a,{λb o d f l _=>a.1 b o (q b o d f l),λb o d _ l _=>n b o d l,un.free,λb o d _=>?_,un.jh,un.iA,un.jT},a0,q,p];cases c:b∈bV X.stack
 .let[sl,j]:=n b o d c;rwa[_,j]
 .let[i,m]:=p b o d c;rwa[i,a.1 b i m]
def fJ.look {A:ß}(t:WP)(a:X.stack=X.env::X.Ψ)(k:X.env.frame\X.env.ć)(hA:A.frames\X.stack)(h:∀d,fJ X Î σ H' x C dx (s<*d)->U () (s<*d)):
 X⁻¹ A (noteFrame ?x X.env) (λ_ f=>X⁻¹ A (setFlight ?x ε) U E f) E s:=by
 let[B,o,p,I,os,bare,fl,un,a0,n,j]:=t;let b:=fl;rw[a]at b;rwa[UJ (Β:=B) (hA.ν (by rw[a])) k b λe l i=>?_]
 rwa[zi (s:=(s<*e)) l λm c g=>h m (fJ.ı (fl:=.ε) I os bare un a0 n j ([a]▸c) (i.ν g))]
def fJ.again {A:ß}(t:WP)(h:∀b,fJ X Î σ H' x C dx (s<*b)->U () (s<*b)):
 X⁻¹ A (setFlight ?x ε) U E s:=by let[B,f,g,I,os,bare,fl,un,a0,d,c]:=t;rwa[zi fl λe a u=>h e (fJ.ı (fl:=.ε) I os bare un a0 d c a u)]
def fJ.inv (t:WP):Inv X Î σ H' s:=by let[B,c,e,I,os,bare,fl,un,a0,f,a]:=t;rwa[I.JQ (ch:=[]) os un (a0.ņ fl.1) bare (λb z=>Ρ z (by simp))]
def fJ.ε (t:WP):H' x=ε:=by
 let[B,c,d,I,os,bare,fl,un,a0,f,b]:=t
 cases e:H' x with
 |ε=>rfl
 |ι u=>let[o,a]:=(a0 x u e).ű;rw[fl.2.1]at a;ext a
def fJ.at (t:WP):Cy x C dx ς s.τ:=by let[B,e,f,I,os,bare,fl,un,a0,g,d]:=t;let[_,_,_,c,a,_,_,_,b,hc,hd,_]:=fl;rwa[c,a,b,hc.1,hc.2,hd,λz=>by ext z]
def fJ.af0 (t:WP):Inv X Î σ (ψ H' x (XO x C dx ς)) s:=by
 let G:=t.ε;let h:=t.at;let[B,E,F,I,os,bare,fl,un,a0,l,A]:=t;let[w,r,H,_,_,hd,_]:=id h;let ne:∀b u,H' b\u->b≠x:=λb u e z=>by cbv
 rwa[I.JQ (ch:=[]) os {un.Ï,un.slot,λb o d f k=>?_,un.there,λb g e=>?_,λb o u e=>?_,λb j e=>?_} (λb u e=>?_) bare (λb z=>Ρ z (by simp))]
 .rwa[(aq ?_).ν (un.free b o d f k)];rintro rfl;cases a:b∈bV X.stack
  .let[y,i,D]:=I.Uv a;rw[d]at i;ext i;let[sl,n]:=un.slot b o d f a (by simp)
   cbv
  .have:=l b o d f a;rw[fl.2.1]at Δ
   cbv
 .have:=un.jh b g e;rw[aq (ne^Δ)];ext
 .have:=un.iA b o u e;rw[aq (ne^Δ)];ext
 .let[m,Δ]:=un.jT b j e;rwa[m,by rw[aq (ne^Δ)];ext]
 .cases a:b=x
  .subst a;rw[aj]at e;ext e;rwa[DH h]
  .rw[aq a]at e;rwa[(a0 b u e).hJ (λc v _ q=>fl.1 c v q) (λc q=>[aq (ne^q)]▸q) λc g q=>[aq (ne^q)]▸q]
end
abbrev N8:=Zs->Zo->St->Hp->Prop
abbrev UO:=St->Hp->VK->N8->Prop
abbrev UQ:=Ends->N8->St->Hp->Prop
def XPd (X:Cx)(a:θ (Zs×Obj))(R:N8)(e:Zt)(s:Zu):ο:=∃x C b c H,e=?x/\fJ X a c H x C b s/\R C b c H
def PEd (X:Cx)(e:ę)(t:UO):ο:=∀(a:θ (Zs×Obj))(s:Zu)(b:St)(H:Hp)(Q:VK)(R:N8),XV s->t b H Q R->X⁻¹ X.A Z7 RR (XPd X a R) s
def PSd (X:Cx)(st:ŕ)(t:UQ):ο:=∀(a:θ (Zs×Obj))(s:Zu)(b:St)(H:Hp)(D:Ends)(R:N8),XV s->t D R b H->X⁻¹ X.A (exec st X.env) (SP X a D) (XPd X a R) s
section
variable {X:Cx}{k:Nat}{f:Zs}{fd:FuncData}{ps:Zp}{sp:Sp}{x:Str}{p pos:Pos}{e:Expr}{es:Zr}{t:TA}{ds:Zk}{dvs:Zb}
def aax (sp:Sp)(dvs:Zb)(t:TA):UO:=λ a H Q R=>t a H λd g=>sp (d++dvs) g Q λc h b=>∃C,c=?C/\R C h a b
theorem E4 (F:cX X.À X.w X.K X.mg X.Β (cS X.À X.w) k f fd ps sp)(N:ii)(E:AD)(P:X.mg x\?f)(G:Ĭ X.K ?f=ρ)(D:OE)(A:DA)(W:PA X.DP (e::es) t)(m:(x==(Ϡ:Ñ))=ς:=by decide)(U:Ο (e::es) X.env=(ς,å e X.env)::Ο es X.env:=by rfl)(g:(ZX ϯ).any (·.1)=ς:=by rfl):
 PEd X (.ġ (.ö x p) (e::es) [] pos) (aax sp dvs t):=by
 intro b s j H Q R I h;rwa[apI (iT I E P ?_ m)];rwa[aq0 (h₀:=X.Β) I.ok.mod.iJ G (apO (W pos b s j H _ (I.wish _) h) (λd i ζ=>?_) λ_ _ z=>Ð.Ü z) U g];let[o,v,n,r,q]:=ζ;rwa[n.dJ,5];let J:=n.kY;let w:ä (o++dvs) (d++ds):=r.Ů A;let M:@(d++ds)=@ps:=by rw[<-@w];rwa[F.len δ q]
 rwa[aqB (aq4 (F.run X.A X.stack i v {d,[]} (d++ds) (o++dvs) Q _ N J.J0 (D i d J.dJ M) w q) λr B a=>?_)]
 cases r with
 |error e=>let a:cS X.À X.w X.stack v i (λc l S=>∃C,c=Η.É C/\R C l j S) e B:=a;let[x,C,l,Y,Ų,L,Z,T,z]:=fJ.of J a;ext T;rwa[x,C,l,j,Y,2,L,z]
 |ok O=>
  cases O with
  |ret u=>exact J.after a
  |next=>exact Ð.Ü a
  |brk=>exact Ð.Ü a
  |cont=>exact Ð.Ü a
def adh (i:η)(b:UO):UQ:=λD R a H=>b a H (λv c=>D.nx (a.set i (ι v)) c) R
def Iv {x:Ñ}{b:UO}{pos':Pos}(w:X.N.Á)(o:X.N[i]?\x)(r:AC)(u:PEd X e b)(n:Ķ e (ι (.ö x pos')) pos.line X.env=Č ς:=by rfl)(l:X.fn x=ρ\/X.env.Ξ.names.ω x=ι .local:=by trivial):
 PSd X (.Assign [.ö x pos'] e pos) (adh i b):=by intro a s q H D R I h;rwa[wpAny_Assign_Name (bx (u a s q H _ R I h) λv A ζ=>?_) n];let[y,m,d,c,g]:=ζ;rwa[r6 d w o r c (λz j=>{_,m,j,g}) l]
end
abbrev w4:=Ends->Zs->Zo->St->Hp->Prop
def Iw (X:Cx)(d:θ ş)(t:w4):ο:=∀(a:θ (Zs×Obj))(s:Zu)(c:St)(H:Hp)(x C:Zs)(b:Zo)(D:Ends),fJ X a c H x C b s->t D C b c H->X⁻¹ X.A (handleBy ?x X.env d) (SP X a D) X.xe s
section
variable {X:Cx}{y n:Str}{Y:Zs}{np pos:Pos}{AY:Stmt}{suite:List Stmt}{rest:List ExceptHandler}{tb:TS}{tr:w4}{i:Nat}
def adi (K:Za1)(Y:Zs)(i:η)(tb:TS)(tr:w4):w4:=λD C d e H=>∃b,exmOne K ?C ?Y\b/\if b=ρ then ∀x,H x=ε->tb { nx:=λ a c=>D.nx (a.set i ε) c,rt:=D.rt,bk:=λ a c=>D.bk (a.set i ε) c,ct:=λ a c=>D.ct (a.set i ε) c } (e.set i (ι ?x)) (wS (XO x C d ς)) else tr D C d e H
def aay {B:Za1}[p:eD X B](l:X.N.Á)(k:X.N[i]?\n)(g:X.env.Ξ.names.ω n=ι .local)(F:Gl X y)(P:X.mg y\?Y)(E:∀x,hL (X.tq x) (AY :: suite) tb)(M:Iw X ī tr)(A:(y==(Ϡ:Ñ))=ς):
 Iw X (.ş (ι (.ö y np)) (ι n) (AY :: suite) pos::ī) (adi B Y i tb tr):=by
 cases p.eq;intro a s O H x C Q D j h;let[b,t,h]:=h;let I:=j.inv;rwa[wpAny_handleBy_cons (codeAny_handlers_test ?_) f!""];rwa[iT (X:=X.tq x) (I.tq x) F P ?_ A];rwa[Γ.W.exm_one I.dJ j.at.ex.DG t δ (λ_ _ e=>e) ?_]
 cases b with
 |ς=>exact M a s O H x C Q D j h
 |ρ=>
  let h:=h x j.ε;rwa[codeAny_handlers_suite_as (j.again λR o=>?_)];let J:=o.af0;rwa[r6 (X:=X.tq x) (J.tq x) l k (.Α g) (v:=?x) Ų (λG L=>?_) (.Ç g)];rwa[apO (E x a G γ L h) (λN S q=>?_) λ_ _ z=>Ð.Ü z]
  cases N with
  |next=>let[f,w,d,q]:=q;rwa[ET λm c=>{11,c,q}]
  |brk=>let[f,w,d,q]:=q;rwa[ET λm c=>{11,c,q}]
  |cont=>let[f,w,d,q]:=q;rwa[ET λm c=>{11,c,q}]
  |ret u=>let[v,f,w,d,r,q]:=q;rwa[ET λm c=>{v,11,c,r,q}]
def adj:w4:=λ_ _ _ _ _=>Ð
def N9:Iw X ī adj:=λ_ _ _ _ _ _ _ _ _ h=>h.Ü
def adk (t:UQ)(c:w4):TS:=λD e H=>t D (λC d a b=>c D C d a b) e H
def Iy {st:ŕ}{t:UQ}{b:ş}{j:θ ş}{c:w4}(d:X.stack=X.env::X.Ψ)(l:X.env.frame\X.env.ć)(k:PSd X st t)(o:Iw X (b :: j) c):
 PS X (.Try [st] (b :: j) [] [] pos) (adk t c):=by
 intro a s u H D I h;rwa[wpAny_Try_except (wpAny_execs_cons (apO (k a s u H D _ I h) (λp r q=>?_) λe r q=>?_))]
 .cases p with
  |next=>exact aq2 (aq2 q)
  |ret v=>exact q
  |brk=>exact q
  |cont=>exact q
 .let[x,C,w,g,m,Ų,c,q]:=q;rwa[c.look d l I.ok.frames λz f=>o a _ g m x C w D f q]
end
def Ku (K:Za1)(C:Zs):ã:=match Õ K ?C ϐ with
 |ι (ι ?f)=>A8 K C f
 |_=>ς
def Iz {K:Za1}(h:Ku K a=ρ)(e:Õ K ?a ϐ=ι (ι ?b)):A8 K a b=ρ:=by unfold Ku at h;rw[e]at h;rwa[h]
structure af1 (K:Za1)(x Ā:Ñ)(st:ŕ)(f:Zs)(fd:Ζ)(dV:Zt):ο where
 ex:∃(oc:Zt)(od:Zo)(kV doc pm:Zt)(an:Zo)(cf ct:Zt)(DY:SZ),fd=fnOf x Ā (eB st) ZK Ϸ dV kV doc pm an cf ct/\K.ω f\⟨oc,od,.func fd,DY⟩/\codeIn K cf Ā=ρ
 kp:Ĭ K ?f=ρ
structure DDef (K:Za1)(mg:Ñ->Zl)(x:Ñ)(st:ŕ)(ps:Zp)(f:Zs)(fd:Ζ)(d:Ñ):ο where
 F:∃dV,af1 K x x st f fd dV
 kp:Ĭ K ?f=ρ
 m:mg x\?f
 b:Ű K fd ps []
 bd:∃t,Ű K fd ps [.str d t]
variable {P:Program}{w:World}{K:Za1}{mg:Str->Zl}{base:Heap}
theorem DDef.N4 {st:ŕ}{fd:Ζ}{f:Zp}{k:η}{sp:Sp}{d:Ñ}(D:DDef K mg x st f a fd d)(S:aL Z f Ϸ)(len:∀c H Q E,pr E->@c=@f)(e:∀(b:Zt) (A:ß) (Ψ:Zq) (s:Zu) (H:Hp) (c:Zb) (Q:VK) (E:XK),dy k (A.deeper (Ũ x Ϸ ↥s a b))->sp c H Q E->∃t,hL (ź Z x Ϸ a b A Ψ s H E) ZK t/\t { nx:=λ_ j=>Q .non j,rt:=Q } (Θ Z c) H):cX P w K mg Β ϴ (k+ 1) a fd f sp:=by let[p,F]:=D.F;let[m,o,kV,doc,pm,n,b,ct,l,Ų,lk,h]:=F.ex;rwa[J1 lk h S len λA Ψ s H c Q E i g=>e b A Ψ s H c Q E i g]
def DDef.of {st:ŕ}{y f:Zo}{j r:SZ}{kV doc pm ct A:Zt}{dd:Zo}{d:Ñ}{t:Tok}(X:K.In h)(G:h.Ns ø mg)(e:Γ.W.nsIn K ø x\ι ?a)(l:K.ω a\{v,y,.func (Ϛ ?b kV doc pm f u ct),j})(c:codeIn K u x=ρ)(k:Ĭ K ?a=ρ)(lt:K.ω b\{A,dd,.seq #[.str d t] n,r})(g:∀(kV doc pm:Zt) (f:Zo) (u ct:Zt) (us:Zk),@us=@Z->∃i:Ă Zm->Sem (θ (Ñ×Zt)),bindArgs (Ϛ ?b kV doc pm f u ct) ⟨us,[]⟩=seqItems? ?b >>=i/\i (ι #[.str d t])=Č (Z.zip us))(z:∀(kV doc pm:Zt) (f:Zo) (u ct:Zt) (us:Zk),@us+ 1=@Z->∃i:Ă Zm->Sem (θ (Ñ×Zt)),bindArgs (Ϛ ?b kV doc pm f u ct) ⟨us,[]⟩=seqItems? ?b >>=i/\i (ι #[.str d t])=Č (Z.zip (us++[.str d t]))):
 DDef K mg x st Z a (Ϛ ?b kV doc pm f u ct) d:=by
 rwa[{_,{v,y,kV,doc,pm,f,u,ct,j,2,l,c},k},k,mg_of X G e,λs us p m=>?_,t,λs us p m=>?_]
 .rw[aoJ]at m ⊢;let[i,q,o]:=g kV doc pm f u ct us m;rwa[BindsTo.of_defaults (T:=b) Ų (p^lt) Ų q o]
 .let[i,q,o]:=z kV doc pm f u ct us (by simpa using m);rwa[BindsTo.of_defaults (T:=b) Ų (p^lt) Ų q o]
end L2
namespace L2
def Kv {c:η}{g:Zg}(b:S.Wf):(S.Ę c z g).Ď=S.Ď+ 1:=by
 unfold RS.Ď;show (~~~(S.q+ 1)).countP _=_;rw[apC,θ.countP_append,θ.countP_singleton]
 let d:(S.Ę c z g).az S.q=S.q:=by show (S.Ģ c z g).az S.q=S.q;rw[gE b,aoO Ų]
 rw[show decide ((S.Ę c z g).az S.q=S.q)=ρ from aoP d,aoO Ų]
 congr 1
 rwa[θ.countP_congr λa e=>?_]
 have:(S.Ę c z g).az a=S.az a:=by show (S.Ģ c z g).az a=S.az a;rw[gE b,aoK (by have:=aoZ.mp e;omega)]
 rw[Δ]
def Sh (hw:S.Wf)(d:n<S.q):(S.Ę n z l).by m y=if m=S.q/\y= -z then ι n else if m=n/\y=z then ι S.q else S.by m y:=by
 unfold RS.Ę RS.Ï;let b:(S.Ģ n z l).ways.ü=S.q+ 1:=by show @(S.ways++[[]])=_;rw[aoj,hw.w];rfl
 let c:∀a s,(S.Ģ n z l).by a s=S.by a s:=λa s=>by unfold RS.by;rw[p6 hw]
 show (((S.Ģ n z l).cK n z S.q).cK S.q (-z) n).by m y=_;rw[kH (by show @((S.Ģ n z l).ways.set n _) > _;rw[aoR,b];omega),kH (by rw[b];omega),c]
def uB (h:fU S)(g:S.Wf)(c:η)(z:π)(f:Zg):fU (S.Ę c z f):=by
 let e:∀b,(S.Ę c z f).az b=if b=S.q then S.q else S.az b:=λb=>gE g c z f b
 rwa[λb a d=>?_,λb a=>?_,λb a=>?_]
 .let a:b<S.q+ 1:=a;rw[e]at d;cases q:b=S.q
  .cbv
  .rw[aoK q]at d;rwa[h.a b ∅ d]
 .let a:b∈S.bz:=a;have:=h.c b a;rw[e,aoK ∅];rwa[h.b b a]
 .let a:b∈S.bz:=a;have:=h.c b a;show b<S.q+ 1;ext
def IA (d:Dt):ο:=(∃n,d=.i n)\/∃l,d=.s l
def IA.low {k:η}{d:Dt}(h:IA d)(a:bK H k q d):bK H n q d:=by
 rcases h with ⟨b,rfl⟩|⟨l,rfl⟩
 .ext a;rwa[.i]
 .ext a;rwa[.s]
def Xd {k:η}{b:AE}(h:∀x∈b,IA x)(a:bK H (k+ 1) q (.t b)):bK H (n+ 1) q (.t b):=by
 cases a with
 |t g f i=>exact .t g f λj q d e c=>(h d NU).low (i j q d e c)
def Dp (d:Dt):ο:=∃a,d=.t a/\∀x∈a,IA x\/∃as,x=.t as/\∀y∈as,IA y
def Dp.low {d:Dt}(h:Dp d)(b:bK H 4 q d):bK H 2 q d:=by
 let[k,Ų,h]:=h
 cases b with
 |t g f i=>
  rwa[.t g f λj q d e c=>?_]
  let b:=i j q d e c;rcases h d NU with a|⟨as,Ų,a⟩
  .rwa[a.low b]
  .rwa[Xd a b]
def IB {a:AE}(h:∀x∈a,IA x):Dp (.t a):={a,Ų,λx b=>.Α (h x b)}
def aaz (c:η)(z:π)(n:η):Dp (um c z n):=IB λx a=>by
 simp only[aoC,apl,aqM]at a;rcases a with rfl|rfl|rfl|rfl
 .rwa[.Ç {_,Ų}]
 all_goals rwa[.Α {_,Ų}]
def aaA {e:Za3}{b:Zh}{W:Za2}{row:Dt}(h:One e n B W row b R):Dp row:=by
 cases h with
 |đ=>
  rwa[IB λx a=>?_]
  simp only[aoC,apl,aqM]at a;rcases a with rfl|rfl|rfl|rfl|rfl
  .rwa[.Ç {_,Ų}]
  all_goals rwa[.Α {_,Ų}]
 |rule=>
  rwa[12,λx a=>?_];simp only[aoC,apl,aqM]at a;rcases a with rfl|rfl|rfl|rfl
  .rwa[.Α (.Ç {_,Ų})]
  .rwa[.Α (.Α {_,Ų})]
  .rwa[.Ç {_,Ų,λy d=>?_}];let[c,_,Ų]:=ao1.mp d;rwa[.Α {12}]
  .rwa[.Α (.Α {12})]
def adl {e:Za3}{c:Zh}{W:Za2}{b:AE}(h:Go e n B W b c R):∀x∈b,Dp x:=by
 induction h with
 |nil=>cbv
 |È o _ d=>
  intro x a;rcases aoC.mp a with rfl|a
  .rwa[aaA o]
  .rwa[d x a]
section
variable {S S':RS}{R:Za2}{ks:Zg}{pend:Ze}
def mw.gap (l:ir):Ø S Ë R->(∀c z d,ze d->z∈ks)->fG S R ks->fG S' R ks:=by
 induction l with
 |nil S=>exact λ_ _ h=>h
 |Χ _ b=>intro g a h;rwa[b (g.Χ a).1 a (h.Χ g)]
def mw.wr (l:ir):Ø S Ë R->(∀c z d,ze d->z∈ks)->@S.bz<=@S.rows->@S'.bz<=@S'.rows:=by
 induction l with
 |nil S=>exact λ_ _ h=>h
 |Χ _ i=>
  intro g e h;let[f,_,_,_,q]:=g.Χ e;rwa[i f e ?_];rcases q with ⟨_,a,b⟩|⟨_,_,_,_,_,_,_,_,_,_,a,b,_⟩
  .rw[a,b];rwa[h]
  .rw[a,b,aoj,aoj,apL,apL];ext
structure YS (S:RS)(L:η)(ks:Zg)(R:Za2):ο where
 g:Ø S [] R
 w:fU S
 k:∀a z b,ZI b->z∈ks
 gi:fG S R ks
 l:S.L=L
 m:0<S.q
 d:∀x∈S.rows,Dp x
 wr:@S.bz<=@S.rows
def YS.new {L:η}{ks:Zg}:YS (ϝ ks) L ks (λ_ _ _=>Ð):=by
 rwa[sr L _,{λc hc e=>?_,(λc hc=>by ext hc),(λc hc=>by ext hc)},(λ_ _ _ z=>z.Ü),WN L _,2,η.one_pos,(λx a=>by ext a),aoo _];have:c=0:=by have:c<1:=hc;ext
 subst Δ;rwa[Ρ Ų e]
def YS.Ę (h:YS S n ks R)(hc:m<S.q)(f:S.az m=m)(g:S.by m z=ε)(hz:z∈ks)(c: -z∈ks):YS (S.Ę m z ks) n ks (gb R m z S.q):=by
 erw[h.g.Ę hc f g _,uB h.w h.g.wf γ,λa y b r=>?_,h.gi.Ę h.g hc f g,h.l,η.succ_pos _,λx d=>?_]
 .rcases r with r|⟨_,e,_⟩|⟨_,e,_⟩
  .rwa[h.k γ r]
  .rw[e];rwa[hz]
  .rw[e];rwa[c]
 .let d:x∈S.rows++[um m z S.q]:=d;rcases aov.mp d with p|p
  .rwa[h.d x p]
  .rw[aok.mp p];rwa[aaz^_]
 .show @S.bz<=@(S.rows++[_]);rw[aoj];have:=h.wr;ext
def YS.tr {ws:Za3}(t:Tr ws m S S')(o:∀w∈ws,∀z∈w,z∈ks/\-z∈ks)(h:YS S n ks R):∃u,YS S' n ks u/\S'.q=S.q/\(∀a z b,ZI b->u a z b)/\∃v,S'.rows=S.rows++v/\∃E W B F,Go ws m E W v B F:=by
 induction t with
 |Ł=>rwa[R,h,2,λ_ _ _ r=>r,[],(aoJ _).Τ,1111,.nil (E:=S.bu) (W:=λ_ _ _=>Ð) λ_ _ _=>Iff.rfl]
 |ı L ra j P=>
  rename_i k Z which Ω Θ f c d z;let[C,g,M,N,O,e1,E,W,B,F,g1]:=P;let hz:=o Ω (aoi ra.w) z (aoi ra.hz)
  let i:∀a y b,gb C c z d a y b->y∈ks:=by
   rintro a y b (r|⟨_,e,_⟩|⟨_,e,_⟩)
   .rwa[g.k γ r]
   .rw[e];rwa[hz.1]
   .rw[e];rwa[hz.2]
  let gl:=g.g.lay z ra.hc.1 ra.hd.1 (sv k which Ω Θ f d).rows;let[I,Q,A,l2,_]:=j.all gl i {g.w.a,g.w.b,g.w.c};let gp:=j.gap gl i ((g.gi.ł λa y b r=>.Α r).rows _);let[u,X,T,Y,H,J,p]:=UE (Tr.ı (Tr.Ł k) ra j) (R:=C) o g.g g.w g.k;let[R0,U,w0,V,l,G,s]:=UE (Tr.ı L ra j) (R:=R) o h.g h.w h.k;rwa[_,{I,Q,i,gp,l2.ν g.l,[A]▸g.m,λx D=>?_,j.wr gl i (by show @k.bz<=@(k.rows++[_]);rw[aoj];have:=g.wr;omega)},A.ν M,λa y b r=>.Α (N γ r),l,G,1111,s];rw[J]at D;rcases aov.mp D with q|q
  .rwa[g.d x q]
  .rwa[adl p x q]
end
def CI.Ę {bs:θ (η×Zg×η)}{gs:Zf}{W:bU}(h:CI S bs gs [] W gP ε)(d:Ø S [] R)(hc:n<S.q)(x:S.az n=n)(A:S.by n z=ε)(f:∀b∈bs,b.2.2<S.q)(g:Zg):CI (S.Ę n z g) bs gs [] W (λr s=>r=n/\s=z) ε:=by
 let i:=d.Ę hc x A g;let k:S.q<=(S.Ę n z g).q:=η.le_succ _;let lt:=Œ.of d i kf k;let el:∀b,b<S.q->(S.Ę n z g).az b=S.az b:=λb c=>(gE d.wf n z g b).ν (aoK ∅)
 rwa[h.len,λa u q=>?_,λa b B I m=>?_,(λa j=>by ext j),λr s a q=>?_,h.sl,h.bd]
 .let[C,v,E]:=h.al a u q;rwa[C,v.later lt k,E]
 .let c:=f b (aoi m);rw[el _ c];rcases h.de a b B I m with w|w
  .rwa[.Α w]
  .cases e:S.az b.2.2=b.2.2
   .right
    have:=lt.wk w;rw[el _ c,e]at Δ;rwa[Δ]
   .rwa[.Α e]
 .let[l,p,G,D,o,j,F,w]:=h.en r s a q;erw[l,p,G,D,aoW o k,j,F];rcases w with ⟨t,H⟩|w
  .cases e:l=n/\s=z
   .rwa[.Ç e]
   .left
    rw[el _ o,Sh d.wf hc,aoK (λy=>by omega),aoK e];rwa[t,H]
  .rwa[w.Ü]
section
variable {X:Cx}{y:Str}{Y:Zs}{np pos:Pos}{AY:Stmt}{suite:List Stmt}{rest:List ExceptHandler}{tb:TS}{tr:w4}
def adn (K:Za1)(Y:Zs)(tb:TS)(tr:w4):w4:=λD C c a H=>∃b,exmOne K ?C ?Y\b/\if b=ρ then tb D a H else tr D C c a H
def aaB {o:Za1}[j:eD X o](t:Gl X y)(E:X.mg y\?Y)(p:∀x,hL (X.tq x) (AY :: suite) tb)(w:Iw X ī tr)(m:(y==(Ϡ:Ñ))=ς):
 Iw X (.ş (ι (.ö y np)) ε (AY :: suite) pos::ī) (adn o Y tb tr):=by
 cases j.eq;intro a s B H x C F D f h;let[b,k,h]:=h;let I:=f.inv;rwa[wpAny_handleBy_cons (codeAny_handlers_test ?_) f!""];rwa[iT (X:=X.tq x) (I.tq x) t E ?_ m];rwa[Γ.W.exm_one I.dJ f.at.ex.DG k δ (λ_ _ e=>e) ?_]
 cases b with
 |ς=>exact w a s B H x C F D f h
 |ρ=>
  rwa[codeAny_handlers_suite (f.again λG g=>?_)];let J:=g.inv;rwa[apO (p x a γ D (J.tq x) h) (λA L q=>?_) λ_ _ z=>Ð.Ü z]
  cases A with
  |next=>let[d,l,c,q]:=q;rwa[11,c.pZ I.ok,q]
  |brk=>let[d,l,c,q]:=q;rwa[11,c.pZ I.ok,q]
  |cont=>let[d,l,c,q]:=q;rwa[11,c.pZ I.ok,q]
  |ret u=>let[v,d,l,c,r,q]:=q;rwa[v,11,c.pZ I.ok,r,q]
end
abbrev Def.Ok {K:Za1} {mg:Str->Zl} {x:Str} {st:Stmt} {ps:Zp} {f:Zs} {fd:FuncData} (_:Def K mg x st ps f fd) (P:Program) (w:World) (base:Heap) (k:Nat) (sp:Sp):Prop:=cX P w K mg base (cS P w) k f fd ps sp
abbrev MDef.Ok {K:Za1} {C:Zs} {x q:Str} {st:Stmt} {ps:Zp} {f:Zs} {fd:FuncData} (_:MDef K C x q st ps f fd) (mg:Str->Zl) (P:Program) (w:World) (base:Heap) (k:Nat) (sp:Sp):Prop:=cX P w K mg base (cS P w) k f fd ps sp
section
variable {P:Program}{w:World}{K:Za1}{mg:Str->Zl}{base:Heap}{x q:Str}{st:Stmt}{ps N:Zp}{f C:Zs}{fd:FuncData}{k:Nat}{sp:Sp}
def Def.on (D:Def K mg x st ps f fd)(S:aL N ps Ϸ)(a:∀(b:Zt) (A:ß) (Ψ:Zq) (s:Zu) (H:Hp) (c:Zb) (Q:VK) (E:XK),dy k (A.deeper (Ũ x Ϸ ↥s f b))->sp c H Q E->∃t,hL (ź N x Ϸ f b A Ψ s H E).DP ZK t/\t { nx:=λ_ d=>Q .non d,rt:=Q } (Θ N c) H)(len:∀c H Q E,pr E->@c=@ps:=by intro _ _ _ _ h;rcases h with ⟨⟩;subst_vars;rfl):D.Ok P w Β (k+ 1) sp:=D.F.okN S len a
def į.on (D:į K C x q st ps f fd)(S:aL N ps Ϸ)(a:∀(b:Zt) (A:ß) (Ψ:Zq) (s:Zu) (H:Hp) (c:Zb) (Q:VK) (E:XK),dy k (A.deeper (Ũ q Ϸ ↥s f b))->sp c H Q E->∃t,hL (ź N q Ϸ f b A Ψ s H E).DP ZK t/\t { nx:=λ_ d=>Q .non d,rt:=Q } (Θ N c) H)(len:∀c H Q E,pr E->@c=@ps:=by intro _ _ _ _ h;rcases h with ⟨⟩;subst_vars;rfl):D.Ok mg P w Β (k+ 1) sp:=D.F.okN S len a
end
section
variable {X:Cx}{x q m:Str}{st:Stmt}{ps:Zp}{f C:Zs}{fd:FuncData}{k j i:Nat}{sp:Sp}{e o:Expr}{es:Zr}{t:TA}{ta te:TE}{p pos pos' apos:Pos}
def pc (D:Def X.K X.mg x st ps f fd)(F:cX X.À X.w X.K X.mg X.Β (cS X.À X.w) k f fd ps sp)(g:dy j X.A)(d:PA X (e::es) t)(hj:k<=j:=by decide)(h:Gl X x:=by rfl)(b:(x==(Ϡ:Ñ))=ς:=by decide)(c:Ο (e::es) X.env=(ς,å e X.env)::Ο es X.env:=by rfl)(a:(ZX ϯ).any (·.1)=ς:=by rfl):
 PE X (.ġ (.ö x p) (e::es) [] pos) (Uh sp [] (λ_ _ _=>Ð) t):=oH F (g.mono hj) h D.m D.F.kp D.b .nil o8 d b c a
def pm {pl:l5}(g:Tl)(c:LB)(D:į X.K C m q st ps f fd)(F:cX X.À X.w X.K X.mg X.Β (cS X.À X.w) k f fd ps sp)(n:dy j X.A)(l:PA X (e::es) t)(h:k<=j:=by decide)(a:Ο (e::es) X.env=(ς,å e X.env)::Ο es X.env:=by rfl)(b:(ZX ϯ).any (·.1)=ς:=by rfl)(r:å (.ġ (.â o m ĭ) (e::es) [] pos) X.env=(do
  let d <-å o X.env
  standAt ĭ.atName
  let (f,first) <-holding [d] (getMethod d m pl)
  callWith pos f first (ZX (Ο (e::es) X.env)) (wT (ď [] X.env))):=by rfl):
 PE X (.ġ (.â o m ĭ) (e::es) [] pos) (yQ C m sp [] (λ_ _ _=>Ð) ta t):=Wb g c D.m F (n.mono h) D.b .nil o8 l a b r
def E5 {pl:l5}(b:Tl)(c:LB)(D:į X.K C m q st ps f fd)(F:cX X.À X.w X.K X.mg X.Β (cS X.À X.w) k f fd ps sp)(g:dy j X.A)(d:k<=j:=by decide)(h:å (.ġ (.â o m ĭ) [] [] pos) X.env=(do
  let a <-å o X.env
  standAt ĭ.atName
  let (f,first) <-holding [a] (getMethod a m pl)
  callWith pos f first (ZX (Ο [] X.env)) (wT (ď [] X.env))):=by rfl):
 PE X (.ġ (.â o m ĭ) [] [] pos) (yQ C m sp [] (λ_ _ _=>Ð) ta uc):=QW b c D.m F (g.mono d) D.b .nil o8 h
def bp (i:η)(d:X.N.Á)(b:Do)(g:X.N[i]?\x:=by rfl)(h:Loc X.env.Ξ x:=by trivial)(c:Ķ e (ι (.ö x pos')) pos.line X.env=Č ς:=by rfl)(a:X.fn x=ρ\/X.env.Ξ.names.ω x=ι .local:=by trivial):
 PS X (.Assign [.ö x pos'] e pos) (AO te (pW i)):=XU d g h b c a
def cU (i:η)(a:X.N.Á)(b:X.N[i]?\x:=by rfl)(c:Loc X.env.Ξ x:=by trivial)(d:X.fn x=ρ\/X.env.Ξ.names.ω x=ι .local:=by trivial):PG X (.ö x pos) (pW i):=HG a b c d
end
section
variable {X:Cx}{C:Zs}{x:Str}{p:Pos}{tk:TA}
inductive UR (K:Za1)(xs:Zb)(H:Hp)(Q:VK):ο
 |mk (x C:Zs)(dx:Zo)(nw:ã)(y:V)(c:Zt)(b:ã):xs=[?x,y]->H x\XO x C dx nw->El K C->vOf y\c->ľ K ?C c\b->Q (.bl b) H->UR K xs H Q
def uC {g:Za1}[a:eD X g]:gY X (.Ι Fa) (UR g):=by cases a.eq;intro i s D H B E Q I r h;let[x,C,F,A,y,c,b,Ų,o,j,v,l,q]:=h;let[u,w,Ų,m,n]:=vals2 r;ext m;let[p,_,_]:=I.a0 x _ o;have:=Wt v n;subst Δ;rwa[apK (Ro j) I.dJ p.ex l (λz=>by ext z) λtk=>{.bl b,H,I.tok tk,2,q}]
end
variable {X:Cx}{pins:List (Zs×Obj)}{σ:St}{H:Hp}{s:Zu}
inductive IC (H:Hp):V->Ĝ->ο where
 |υ (i:π):IC H (.υ i) Z0
 |str (x:Ñ):IC H (.str x) ZU
 |Ν {a:Zs} {xs:Zb} (e:H a\.Ν xs):IC H ?a ż
 |Ò {a:Zs} {xs:Zb} (e:H a\.Ò xs):IC H ?a ŷ
def aaC {x:V}{T:Ĝ}(I:Ŵ)(b:ì x u)(g:IC H x T):∃P:Û->ο,Γ.W.KitX X.K u (.Â T) P/\P s.τ/\u≠.Ι "__main__.__loader__#opaque":=by
 cases g with
 |υ i=>let[t,q]:=(show ∃t,u=Η.υ i t from b);ext q;rwa[_,Γ.W.kitx_int,þ.intro,λz=>nomatch z]
 |str y=>let[t,q]:=(show ∃t,u=Η.str y t from b);ext q;rwa[_,Γ.W.kitx_str,þ.intro,λz=>nomatch z]
 | @Ν a d e=>cases (show u=Η.É a from b);let[_,_,n,_,c]:=(show cu X.À X.w H s.τ a (.Ν d) from I.a0 a _ e);rwa[_,kitx_list,{_,c,2},λz=>nomatch z]
 | @Ò a d e=>cases (show u=Η.É a from b);let[_,_,_,p]:=(show cu X.À X.w H s.τ a (.Ò d) from I.a0 a _ e);let[o,c,f,_]:=p;rwa[_,Γ.W.kitx_tuple,{o,c,f},λz=>nomatch z]
theorem IE:∀{d:θ Ĝ}{c:Zk},ä (d.Κ V.ty) c->c=d.Κ Η.Â
 |[],_,r=>by ext r;rfl
 |T::d,_,r=>by
  cases r with
  |È a b=>rw[IE b,show _=Η.Â T from a];rfl
inductive UT (K:Za1)(xs:Zb)(H:Hp)(Q:VK):ο
 |mk (x:V)(a:Zs)(T:Ĝ)(Ts:θ Ĝ)(b:ã):xs=[x,?a]->H a\.Ò (Ts.Κ V.ty)->IC H x T->kitAny K (.Â T) (Ts.Κ Η.Â)\b->Q (.bl b) H->UT K xs H Q
def p9 {d:Za1}[c:eD X d]:gY X (.Ι Fa) (UT d):=by cases c.eq;intro Î s σ H D F Q I r h;let[x,a,T,C,b,Ų,z,v,e,q]:=h;let[u,g,Ų,t,w]:=vals2 r;cases (show g=Η.É a from w);let[k,m,⟨o,p,i,n,f⟩,_]:=I.Ě (bG.of z);let l:=IE m;subst l;let[P,Z,A,y]:=aaC I t v;let[cls,E,ê,B]:=o;cases (show cls=.Â ŷ from i);cases (show ê=.seq _ n from f);rwa[Γ.W.kia_tup Z I.dJ A p e y λj=>{.bl b,H,I.tok j,2,q}]
def Si (K:Za1):kitAny K (.Â ż) ([ż,ŷ].Κ Η.Â)\ρ:=by first|rfl|kernel_rfl|decide
def Sj (K:Za1):kitAny K (.Â ŷ) ([ż,ŷ].Κ Η.Â)\ρ:=by first|rfl|kernel_rfl|decide
def E6 (K:Za1):kitAny K (.Â Z0) ([ż,ŷ].Κ Η.Â)\ς:=by first|rfl|kernel_rfl|decide
def E7 (K:Za1):kitAny K (.Â ZU) ([ż,ŷ].Κ Η.Â)\ς:=by first|rfl|kernel_rfl|decide
def E8 (K:Za1):kitAny K (.Â Z0) ([Z0,ZU].Κ Η.Â)\ρ:=by first|rfl|kernel_rfl|decide
def E9 (K:Za1):kitAny K (.Â ZU) ([Z0,ZU].Κ Η.Â)\ρ:=by first|rfl|kernel_rfl|decide
def uD (K:Za1):ľ K (.Â ZU) (.Â LI)\ς:=by first|rfl|kernel_rfl|decide
end L2
namespace M11
def flip (k:η):η:=if k % 2=0 then k+ 1 else k - 1
def nx (T:Za3)(k i:η):η:=((T.á i []).á k 0).Φ
structure Tab (L:η)(T:Za3):ο where
 pos:1<=@T
 top:@T<=300
 let1:1<=L
 qD:L<=40
 row:∀(i:η)(r:Zg),T[i]?\r->@r=2* L
 val:∀i k,i<@T->k<2* L->∃r:Zg,T[i]?\r/\r[k]?\((nx T k i:η):π)
 lt:∀i k,i<@T->k<2* L->nx T k i<@T
 back:∀i k,i<@T->k<2* L->nx T (flip k) (nx T k i)=i
def pl (s:π):η:=if 0<s then 2* s.Ä - 2 else 2* s.Ä - 1
def Þ (T:Za3)(w:Zg)(i:η):η:=w.ă (λi s=>nx T (pl s) i) i
def aS (L:η)(w:Zg):ο:=∀s∈w,s≠0/\s.Ä<=L
def back (w:Zg):Zg:=w.ķ.Κ λz=>-z
def jd (h:z≠0/\z.Ä<=n):pl z<2* n:=by unfold pl;split <;> ext
def vR (h:z≠0):pl (-z)=flip (pl z):=by
 unfold pl flip;rw[π.natAbs_neg];cases a:0<z
 .rw[aoO a,aoK (show ¬ 0 < -z by omega),aoO ∅];ext
 .rw[aoK a,aoO (show 0 < -z by omega),aoK ∅];ext
theorem jF {L:η}{T:Za3}(c:SC):∀{w:Zg}{i:η},aS L w->i<@T->Þ T w i<@T
 |[],i,_,a=>a
 |s::w,i,b,a=>jF c (w:=w) (λs d=>b s (JE d)) (c.lt i (pl s) a (jd (b s (aou ..))))
def dN (T:Za3)(w u:Zg)(i:η):Þ T (w++u) i=Þ T u (Þ T w i):=aqk ..
theorem mY {L:η}{T:Za3}(c:SC):∀{w:Zg}{i:η},aS L w->i<@T->Þ T (w++back w) i=i
 |[],i,_,_=>rfl
 |s::w,i,d,f=>by
  let a:=d s (aou ..);let b:aS L w:=λs a=>d s (JE a)
  let e:back (s::w)=back w++[-s]:=by unfold back;rw[θ.reverse_cons,aoE];rfl
  let g:=mY c (i:=nx T (pl s) i) b (c.lt i (pl s) f (jd a));rw[e,aqP,<-ao6];show Þ T ((w++back w)++[-s]) (nx T (pl s) i)=i;rw[dN,g];show nx T (pl (-s)) (nx T (pl s) i)=i;rw[vR a.1];rwa[c.back i (pl s) f (jd a)]
def jG {w:Zg}(h:aS n w):aS n (back w):=λs a=>by unfold back at a;let[y,b,Ų]:=ao1.mp a;have:=h y (θ.mem_reverse.mp b);ext
structure Pm (p:η)(r:Zg):ο where
 len:@r=p
 nd:r.Á
 rg:∀z∈r,0<=z/\z<(p:π)
def Pm.at {r:Zg}(h:Pm n r){i:η}(b:i<n):∃j:η,r[i]?\(j:π)/\j<n:=by
 let a:i<@r:=by rw[h.len];rwa[b]
 have:=h.rg r[i] (aqU a);rwa[r[i].Φ,by rw[aoe a,show ((r[i].Φ:η):π)=r[i] by ext],3]
def IG {k:η}(h:k<2* n):flip k<2* n:=by unfold flip;split <;> ext
theorem eG:∀(n:η)(l:Zh),l.Á->(∀x∈l,x<n)->@l<=n
 |0,[],_,_=>aoo _
 |0,a::l,_,h=>Ρ (h a (aou ..)) ∅
 |n+ 1,l,b,h=>by
  cases c:n∈l
  .have:=eG n (l.erase n) (b.erase n) (λx d=>by cbv)
   rw[ap3 c]at Δ;ext
  .have:=eG n l b (λx d=>by cbv)
   ext
def Kw (j:l.Á)(h:∀x∈l,0<=x/\x<(n:π)):@l<=n:=by
 let f:(l.Κ π.Φ).Á:=by rwa[aqa.mpr (arJ ?_ j)];intro a b d g c z;have:=h a d;have:=h b g;rwa[c ∅]
 have:=eG n (l.Κ π.Φ) f (λx i=>by let[y,e,Ų]:=ao1.mp i;have:=h y e;omega)
 rw[aog]at Δ;rwa[Δ]
def Pm.af2 {r:Zg}(h:Pm n r){x:η}(f:x<n):∃i:η,r[i]?\(x:π)/\i<n:=by
 let b:(x:π)∈r:=by
  rwa[ao3 λb=>?_]
  have:=Kw (n:=n) (l:=(x:π)::r) (ao0.mpr {b,h.nd}) (λy c=>by
   rcases aoC.mp c with e|c
   .rw[e];ext
   .rwa[h.rg y c])
  rw[aoA,h.len]at Δ;ext
 let[i,d,e]:=aqz.mp b;rwa[i,by rw[aoe d,e],by rw[<-h.len];rwa[d]]
def zl (p:η)(r t:Zg):ο:=@t=p/\∀k j:η,r[k]?\(j:π)->t[j]?\(k:π)
def vS (p:η)(r t:Zg)(n:η):ο:=@t=p/\∀k j:η,k<n->r[k]?\(j:π)->t[j]?\(k:π)
def vS.ı {r:Zg}(h:vS n r l m)(f:Pm n r)(d:r[m]?\(j:π))(c:j<n):vS n r (l.set j (m:π)) (m+ 1):=by
 rwa[[aoR]▸h.1,λk i g a=>?_];cases e:k=m
 .subst e;rw[d]at a;have:j=i:=by have:=Za0 a;ext
  subst Δ;rwa[ao9 ([h.1]▸c)]
 .let b:j≠i:=λz=>by subst z;rwa[e ((aro (aoh.mp a).1 f.nd).mp (a.ν d.Τ))]
  rw[apz b];rwa[h.2 k i ∅ a]
def vS.all {r:Zg}(h:vS n r l n)(b:Pm n r):zl n r l:={h.1,λk j a=>h.2 k j (by have:=(aoh.mp a).1;rw[b.len]at Δ;omega) a}
end M11
namespace M12
open M11
def Fc (W:η)(E:Zg)(N:η):ο:=(∀z∈E,0<=z/\z<(N:π))/\∀j:η,0<j->j<N->∃p:η,p<j* W/\E[p]?\(j:π)/\∀(q:η)(z:π),q<p->E[q]?\z->z<(j:π)
def Fc.old {W:η}(h:Fc W l n)(k:i<n):Fc W (l++[(i:π)]) n:=by
 rwa[λz hz=>?_,λj e d=>?_]
 .rcases aov.mp hz with hz|hz
  .rwa[h.1 z hz]
  .rw[aok.mp hz];ext
 .let[p,b,c,f]:=h.2 j e d;let g:=(aoh.mp c).1;rwa[p,b,by cbv,λq z a hz=>f q z a ?_];rw[aoq ∅]at hz;rwa[hz]
def Fc.new {W:η}{E:Zg}(h:Fc W E n)(hN:0<n)(hE:@E<n* W):Fc W (E++[(n:π)]) (n+ 1):=by
 rwa[λz hz=>?_,λj d i=>?_]
 .rcases aov.mp hz with hz|hz
  .have:=h.1 z hz;ext
  .rw[aok.mp hz];ext
 .cases e:j=n
  .subst e;rwa[@E,hE,by cbv,λq z a hz=>?_];rw[aoq a]at hz;rwa[(h.1 z (aoi hz)).2]
  .let[p,b,c,f]:=h.2 j d ∅;let g:=(aoh.mp c).1;rwa[p,b,by cbv,λq z a hz=>f q z a ?_];rw[aoq ∅]at hz;rwa[hz]
def Fc.Ŀ (W:η):Fc W [] 1:={(λz hz=>by ext hz),(λj b a=>∅)}
theorem rh {W:η}(hW:0<W):∀{T:Za3}{i k:η}{r:Zg},(∀(i:η)(r:Zg),T[i]?\r->@r=W)->T[i]?\r->k<W->T.Ì[i* W+ k]?=r[k]?
 |[],i,k,r,_,a,_=>by simp at a
 |s::T,0,k,r,h,a,b=>by let e:s=r:=Za0 a;subst e;rw[aqC,η.zero_mul,arK,aoq ([h 0 s Ų]▸b)]
 |s::T,i+ 1,k,r,h,a,b=>by
  let c:=h 0 s rfl;rw[aqC,aoz (by rw[c,aqL];omega),c];let e:(i+ 1)* W+ k - W=i* W+ k:=by rw[aqL];ext
  rw[e];rwa[rh hW (λi r a=>h (i+ 1) r a) a b]
def st (k:η):π:=if k % 2=0 then ((k / 2+ 1:η):π) else -((k / 2+ 1:η):π)
def qb (k:η):pl (st k)=k:=by
 unfold pl st;cases h:k % 2=0
 .rw[aoO h,aoO ∅];ext
 .rw[aoK h,aoK ∅];ext
def qc {k:η}(h:k<2* n):st k≠0/\(st k).Ä<=n:=by unfold st;split <;> ext
def Lw (L:η)(T:Za3)(ws:Ϣ):ο:=@ws=@T/\ws[0]?\[]/\∀(j p:η),0<j->j<@T->T.Ì[p]?\(j:π)->(∀(q:η)(z:π),q<p->T.Ì[q]?\z->z<(j:π))->∃u,ws[p / (2* L)]?\u/\ws[j]?\(u++[p % (2* L)])
end M12
namespace M13
open M11 M12
structure Ŗ (L:η)(T:Za3)(ws:Ϣ)(p:η):ο where
 pos:ws[0]?\[]
 top:@ws<=@T
 all:∀(q:η)(z:π),q<p->T.Ì[q]?\z->z<(@ws:π)
 wrd:∀(j q:η),0<j->j<@ws->T.Ì[q]?\(j:π)->(∀(r:η)(z:π),r<q->T.Ì[r]?\z->z<(j:π))->∃u,ws[q / (2* L)]?\u/\ws[j]?\(u++[q % (2* L)])
 ok:∀(i:η)(u:Zh),ws[i]?\u->(∀k∈u,k<2* L)/\Þ T (u.Κ st) 0=i/\@u<=i
variable {L:Nat}{T:Za3}{ws:List Zh}{p:Nat}
def Ŗ.Θ (c:SC)(l:Fc (2* L) T.Ì @T):Ŗ L T [[]] 0:=by
 rwa[2,c.pos,λq z g=>∅,λj q h d=>by simp at d;ext,λi u a=>?_];let e:=aok.mp (aoi a)
 let f:i=0:=by have:=(aoh.mp a).1;simp only[aoA,aoV]at Δ;ext
 subst e f;rwa[λk b=>(by ext b),2,aoo _]
def Ŗ.has (e:SC)(b:Fc (2* L) T.Ì @T)(h:Ŗ L T ws p){i k:η}(j:i<@T)(c:p=i* (2* L)+ k):i<@ws:=by
 let f:1<=@ws:=(aoh.mp h.pos).1;rwa[ao3 λl=>?_]
 let[q,d,a,g]:=b.2 @ws ∅ ∅;have:@ws* (2* L)<=i* (2* L):=apA _ ∅;have:=h.all q _ ∅ a;ext
def Ŗ.ı (f:SC)(D:Fc (2* L) T.Ì @T){i k:η}(h:Ŗ L T ws (i* (2* L)+ k))(y:i<@T)(e:k<2* L):
 (nx T k i≠@ws->Ŗ L T ws (i* (2* L)+ k+ 1))/\(nx T k i=@ws->∀u,ws[i]?\u->Ŗ L T (ws++[u++[k]]) (i* (2* L)+ k+ 1)):=by
 let Y:=f.let1;let X:1<=@ws:=(aoh.mp h.pos).1;let[r,U,R]:=f.val i k y e
 let a:T.Ì[i* (2* L)+ k]?\((nx T k i:η):π):=by rw[rh ∅ f.row U e];rwa[R]
 let J:=f.lt i k y e;let s:=h.has f D y rfl
 let hdiv:(i* (2* L)+ k) / (2* L)=i:=by rw[aqJ,η.mul_add_div ∅,η.div_eq_of_lt e];ext
 let g:(i* (2* L)+ k) % (2* L)=k:=by rw[aqJ,η.mul_add_mod,η.mod_eq_of_lt e]
 rwa[λM=>?_,λV u G=>?_]
 .let W:nx T k i<@ws:=by
   rwa[ao3 λZ=>?_]
   let[q,a1,A,Q]:=D.2 @ws ∅ ∅;cases w:q<i* (2* L)+ k
   .have:=h.all q _ w A;ext
   .cases x:q=i* (2* L)+ k
    .rw[x,a]at A;have:=Za0 A;ext
    .have:=Q β ∅ a;ext
  rwa[h.pos,h.top,λq z n hz=>?_,h.wrd,h.ok];cases c:q=i* (2* L)+ k
  .rw[c,a]at hz;have:=Za0 hz;ext
  .rwa[h.all q z ∅ hz]
 .let d:=h.ok i u G;rwa[[aoq ∅]▸h.pos,by rw[aoj];simp only[aoA,aoV];ext,λq z n hz=>?_,λj q N I n F=>?_,λB v l=>?_]
  .rw[aoj];simp only[aoA,aoV];cases c:q=i* (2* L)+ k
   .rw[c,a]at hz;have:=Za0 hz;ext
   .have:=h.all q z ∅ hz;ext
  .rw[aoj]at I;simp only[aoA,aoV]at I;cases c:j=@ws
   .let m:q=i* (2* L)+ k:=by
     cases w:q<i* (2* L)+ k
     .have:=h.all q _ w n;ext
     .cases x:q=i* (2* L)+ k
      .rwa[x]
      .have:=F β ∅ a;ext
    erw[u,5]
    .rw[m,hdiv,aoq s];rwa[G]
    .rw[c,m,g,aoz Ź,apU];rfl
   .let[v,C,H]:=h.wrd j q N ∅ n F;let o:=(aoh.mp C).1;let t:=(aoh.mp H).1;rwa[v,[aoq o]▸C,[aoq t]▸H]
  .cases c:B<@ws
   .rw[aoq c]at l;rwa[h.ok B v l]
   .let E:=(aoh.mp l).1;rw[aoj]at E;simp only[aoA,aoV]at E;let P:B=@ws:=∅
    subst P;rw[aoz Ź,apU]at l;let O:u++[k]=v:=Za0 l;subst O;erw[λS b=>?_,5]
    .rcases aov.mp b with b|b
     .rwa[d.1 S b]
     .rw[aok.mp b];rwa[e]
    .rw[aoE,dN,d.2.1];show nx T (pl (st k)) i=@ws;rw[qb];rwa[V]
    .rw[aoj];simp only[aoA,aoV];have:=d.2.2;ext
def Ŗ.le (b:SC)(m:Fc (2* L) T.Ì @T){i k:η}(h:Ŗ L T ws (i* (2* L)+ k))(e:i<@T)(c:k<2* L):nx T k i<=@ws:=by
 let t:=b.let1;let[r,o,j]:=b.val i k e c
 let a:T.Ì[i* (2* L)+ k]?\((nx T k i:η):π):=by rw[rh ∅ b.row o c];rwa[j]
 let f:=b.lt i k e c;let s:1<=@ws:=(aoh.mp h.pos).1;rwa[ao3 λu=>?_]
 let[q,v,d,g]:=m.2 @ws ∅ ∅;cases l:q<i* (2* L)+ k
 .have:=h.all q _ l d;ext
 .cases n:q=i* (2* L)+ k
  .rw[n,a]at d;have:=Za0 d;ext
  .have:=g β ∅ a;ext
def Ŗ.end_ (l:SC)(i:Fc (2* L) T.Ì @T)(h:Ŗ L T ws (@T* (2* L))):Lw L T ws:=by
 let d:1<=@ws:=(aoh.mp h.pos).1
 let a:@ws=@T:=by
  rwa[ao3 λn=>?_]
  let e:=h.top;let[q,k,b,m]:=i.2 @ws ∅ ∅;have:@ws* (2* L)<=@T* (2* L):=apA _ e;have:=h.all q _ ∅ b;ext
 rwa[a,h.pos,λj q f d c g=>h.wrd j q f ∅ c g]
end M13
namespace M16
variable (F:Int->Zg)
def fill (l:Zg):Zg:=l.ĥ F
def kg (a b:Zg):fill F (a++b)=fill F a++fill F b:=by unfold fill;rw[ap0]
def sF (x:π):fill F [x]=F x:=by unfold fill;simp
end M16
namespace M18
open M11 M12
def jZ (Im:Za3)(s:π):Zg:=if 0<s then Im.á (s.Ä - 1) [] else back (Im.á (s.Ä - 1) [])
def fill (Im:Za3)(u:Zg):Zg:=u.ĥ (jZ Im)
def Ob {Im:Za3}(a:∀w∈Im,aS n w):aS n (jZ Im z):=by
 let h:aS n (Im.á (z.Ä - 1) []):=by
  rw[aom]
  cases e:Im[z.Ä - 1]? with
  |ε=>exact λz b=>by ext b
  |ι w=>exact a w (aoi e)
 unfold jZ;split
 .rwa[h]
 .rwa[jG h]
def Kx {Im:Za3}(a:∀w∈Im,aS n w):aS n (fill Im l):=λs c=>by let[t,_,b]:=apr.mp c;rwa[Ob a s b]
end M18
namespace M19
open M11 M12 M18
section
variable {α:Type} [DecidableEq α]
structure Cz (z:α)(R:α->α->ο)(F:θ α):ο where
 nd:F.Á
 zm:z∈F
 cl:∀x∈F,∀y,R x y->y∈F
 mn:∀P:α->ο,P z->(∀x y,P x->R x y->P y)->∀x∈F,P x
end
def inv_one {r c:Zg}(d:Pm n r)(h:zl n r l)(b:zl n r c):l=c:=by
 rwa[apR λi=>?_]
 cases e:i<n
 .let[j,a,_]:=d.af2 e;rw[h.2 j i a,b.2 j i a]
 .rw[aoG (by rw[h.1];omega),aoG (by rw[b.1];omega)]
end M19
namespace M20
open M11 M12 M18 M19
def cap (r:η):η->η
 |0=>1
 |n+ 1=>min 5001 (cap r n* r)
theorem IH {r:η}(a:1<=r){j:η}(h:5000<cap r j):∀d,5000<cap r (j+ d)
 |0=>h
 |d+ 1=>by let b:=IH a h d;show 5000<min 5001 (cap r (j+ d)* r);have:cap r (j+ d)<=cap r (j+ d)* r:=η.le_mul_of_pos_right _ a;ext
theorem aaE (r:η):∀n,cap r n<=5001
 |0=>by show 1<=5001;decide
 |n+ 1=>η.min_le_left ..
def zo {r:η}(a:1<=r){j n:η}(h:5000<cap r j)(b:j<=n):5000<cap r n:=by have:=IH a h (n - j);rw[show j+ (n - j)=n by ext]at Δ;rwa[Δ]
def ext (N:η)(r:Zh):θ Zh:=(~~~N).Κ λx=>r++[x]
def gf (N:η):η->θ Zh
 |0=>[[]]
 |n+ 1=>(gf N n).ĥ (ext N)
def II (N:η)(r:Zh):@(ext N r)=N:=by unfold ext;rw[aog,aoU]
theorem pe (N:η):∀rs:θ Zh,@(rs.ĥ (ext N))=@rs* N
 |[]=>by simp
 |r::rs=>by rw[aqG,aoj,pe N rs,II,aoA,aqL];ext
def sG (c:1<=n)(h:cap n m<=5000):@(gf n m)=cap n m:=by
 induction m with
 |Ŀ=>rfl
 |ŧ m a=>
  let b:cap n m<=5000:=by
   cases z:cap n m<=5000
   .rwa[z]
   .have:=zo c (j:=m) (n:=m+ 1) ∅ ∅;ext
  show @((gf n m).ĥ (ext n))=min 5001 (cap n m* n);rw[pe,a b];let d:min 5001 (cap n m* n)<=5000:=h;ext
theorem jm:∀{n:η}{h:Zh},h∈gf m n->@h=n/\∀x∈h,x<m
 |0,h,d=>by rw[aok.mp d];rwa[2,λx e=>by ext e]
 |n+ 1,h,d=>by
  let[r,g,f]:=apr.mp d;let[x,e,Ų]:=ao1.mp f;let[a,b]:=jm g;rwa[by rw[aoj,a];rfl,λy c=>?_];rcases aov.mp c with c|c
  .rwa[b y c]
  .rw[aok.mp c];rwa[aoZ.mp e]
def gl (r:Zg):η:=r.ă (λm s=>max m s.Ä) 0
theorem IJ:∀(r:Zg)(m n:η),r.ă (λm s=>max m s.Ä) m<=n↔m<=n/\∀s∈r,s.Ä<=n
 |[],m,n=>by simp
 |s::r,m,n=>by
  rw[aqd,IJ r (max m s.Ä) n];constructor
  .rintro ⟨a,b⟩;rwa[3,λz hz=>?_];rcases aoC.mp hz with rfl|hz
   .ext
   .rwa[b z hz]
  .rintro ⟨a,b⟩;have:=b s (aou ..);rwa[3,λz hz=>b z (JE hz)]
def zp (r:Zg)(n:η):gl r<=n↔∀s∈r,s.Ä<=n:=by unfold gl;rw[IJ];rwa[λh=>h.2,λh=>{aoN _,h}]
section
variable (T:Za3) (wy:Nat->Zg)
def Ø (h:Zh)(r:Zg):ã:=decide (Þ T (fill (h.Κ wy) r) 0=0)
def tI (N:η)(ls:Ϣ)(due:Za3):θ Zh:=ls.ĥ λr=>(ext N r).Ö λh=>due.all (Ø T wy h)
def vT (Ô:Za3)(n:η):Za3:=Ô.Ö λr=>decide (gl r=n)
def ri (N:η)(Ô:Za3):η->θ Zh
 |0=>[[]]
 |n+ 1=>tI T wy N (ri N Ô n) (vT Ô (n+ 1))
end
variable {T:Za3}{wy:Nat->Zg}
theorem kg {Im:Za3}{w:Zg}:∀{r:Zg},(∀s∈r,s≠0/\s.Ä<=@Im)->fill (Im++[w]) r=fill Im r
 |[],_=>rfl
 |s::r,h=>by
  let c:=h s (aou ..);let a:=kg (Im:=Im) (w:=w) (r:=r) (λz b=>h z (JE b))
  let e:jZ (Im++[w]) s=jZ Im s:=by unfold jZ;rw[aom,aom,aoq ∅]
  show jZ (Im++[w]) s++fill (Im++[w]) r=jZ Im s++fill Im r;rw[e,a]
def Sl {x:η}{r:Zg}(c:∀s∈r,s≠0)(b:gl r<=@B):Ø T wy (B++[x]) r=Ø T wy B r:=by unfold Ø;rw[aoE];show decide (Þ T (fill (B.Κ wy++[wy x]) r) 0=0)=_;rw[kg λs a=>{c s a,[aog]▸(zp r _).mp b s a}]
def Sn {r:Zg}(a:∀s∈r,s≠0)(b:gl r=0):Ø T wy B r=ρ:=by
 have:r=[]:=by
  cases r with
  |nil=>rfl
  |È s r=>let d:=(zp (s::r) 0).mp ∅ s (aou ..);let c:=a s (aou ..);ext
 subst Δ;rwa[aoP Ų]
def ok (T:Za3)(wy:η->Zg)(Ô:Za3)(n:η)(h:Zh):ã:=Ô.all λr=>!decide (gl r<=n) || Ø T wy h r
def Xe {Ô:Za3}(c:∀r∈Ô,∀s∈r,s≠0){n x:η}{h:Zh}(i:@h=n):ok T wy Ô (n+ 1) (h++[x])=(ss n h && (vT Ô (n+ 1)).all (Ø T wy (h++[x]))):=by
 unfold ok vT;rw[θ.all_filter]
 induction Ô with
 |nil=>rfl
 |È r Ô e=>
  rw[ar4,ar4,ar4,e λr b=>c r (JE b)]
  let a:(!decide (gl r<=n+ 1) || Ø T wy (h++[x]) r)=((!decide (gl r<=n) || Ø T wy h r) && (!decide (gl r=n+ 1) || Ø T wy (h++[x]) r)):=by
   rcases η.lt_trichotomy (gl r) (n+ 1) with z|z|z
   .rw[Sl (c r (aou ..)) (by omega),aoP (show gl r<=n+ 1 by omega),aoP (show gl r<=n by omega),apd (show ¬gl r=n+ 1 by omega)];simp
   .rw[aoP (show gl r<=n+ 1 by omega),apd (show ¬gl r<=n by omega),aoP z];simp
   .rw[apd (show ¬gl r<=n+ 1 by omega),apd (show ¬gl r<=n by omega),apd (show ¬gl r=n+ 1 by omega)];simp
  rw[a];change (!decide (gl r<=n) || Ø T wy h r)=d;change (Ô.all λr=>!decide (gl r<=n) || Ø T wy h r)=f;change (!decide (gl r=n+ 1) || Ø T wy (h++[x]) r)=g;cases d <;> cases f <;> cases g <;> simp
theorem filter_none {a:Type}{p:a->ã}:∀{l:θ a},(∀x∈l,p x=ς)->l.Ö p=[]
 |[],_=>rfl
 |x::l,h=>by rw[apZ,h x (aou ..),filter_none (l:=l) λy b=>h y (JE b)];rfl
theorem CB {N:η}{p q g:Zh->ã}:∀{ls:Ϣ},(∀h∈ls,∀x,q (h++[x])=(p h && g (h++[x])))->(ls.ĥ (ext N)).Ö q=(ls.Ö p).ĥ λr=>(ext N r).Ö g
 |[],_=>rfl
 |h::ls,b=>by
  let d:=CB (N:=N) (ls:=ls) (λh f=>b h (JE f));let c:=b h (aou ..);rw[aqG,apV,d,apZ]
  cases e:p h with
  |ς=>
   have:(ext N h).Ö q=[]:=filter_none λy a=>by let[x,_,Ų]:=ao1.mp a;rw[c x,e];rfl
   rw[Δ,aq8];rfl
  |ρ=>
   rw[aoO Ų,aqG]
   congr 1
   rwa[aql λy a=>?_]
   let[x,_,Ų]:=ao1.mp a;rw[c x,e];rfl
theorem uE {N:η}{Ô:Za3}(b:∀r∈Ô,∀s∈r,s≠0):∀n,ri T wy N Ô n=(gf N n).Ö (ss n)
 |0=>by
  have:ok T wy Ô 0 []=ρ:=by
   unfold ok;rw[aqQ];intro r a;cases z:gl r<=0
   .rw[Sn (b r a) ∅,ã.or_true]
   .rw[apd z];rfl
  show [[]]=θ.Ö (ss 0) [[]];rw[apZ,Δ];rfl
 |n+ 1=>by show tI T wy N (ri T wy N Ô n) (vT Ô (n+ 1))=((gf N n).ĥ (ext N)).Ö (ss (n+ 1));rw[uE b n];unfold tI;rwa[(CB λh c x=>Xe b (jm c).1).Τ]
theorem Fb {a:Type}{p q:a->ã}:∀{l:θ a},(∀x∈l,p x=q x)->l.all p=l.all q
 |[],_=>rfl
 |x::l,h=>by rw[ar4,ar4,h x (aou ..),Fb (l:=l) λy b=>h y (JE b)]
end M20
namespace M24
def add (ð:Zh)(y:η):Zh:=if y∈ð then ð else ð++[y]
def eM (f:η->η->η)(x:η)(ð:Zh)(k:η):Zh:=(~~~k).ă (λc i=>add c db) ð
def kK (f:η->η->η)(x:η)(ð:Zh)(k:η):eM f x ð (k+ 1)=add (Mc k) (f k x):=by unfold eM;rw[apC,aqk];rfl
def bB (f:η->η->η)(k a:η):η->Zh
 |0=>[a]
 |n+ 1=>match vc[n]? with
  |ι x=>eM f x vc k
  |ε=>bB f k a n
def xW (f:η->η->η)(k a:η):bB f k a 0=[a]:=rfl
def gQ {f:η->η->η}{k x:η}(h:ff[m]?\x):bB f k n (m+ 1)=eM f x ff k:=by rw[bB,h]
def mx {f:η->η->η}{k:η}(h:ff[m]?=ε):bB f k n (m+ 1)=bB f k n m:=by rw[bB,h]
def IK (ð:Zh)(y:η):∃t,add ð y=ð++t:=by
 unfold add;split
 .rwa[[],(aoJ _).Τ]
 cbv
theorem sH (f:η->η->η)(x:η)(ð:Zh):∀k,∃t,Mc k=ð++t
 |0=>{[],(aoJ _).Τ}
 |k+ 1=>by let[t,b]:=sH f x ð k;let[u,a]:=IK (Mc k) (f k x);rwa[t++u,by rw[kK,a,b,ao6]]
def xX (f:η->η->η)(k a n:η):∃t,ϒ a (n+ 1)=bB f k a n++t:=by
 cases h:vc[n]? with
 |ε=>rwa[[],by rw[mx h,aoJ]]
 |ι x=>let[t,b]:=sH f x vc k;rwa[t,by rw[gQ h,b]]
theorem IL (f:η->η->η)(k a n:η):∀m,∃t,ϒ a (n+ m)=bB f k a n++t
 |0=>{[],(aoJ _).Τ}
 |m+ 1=>by
  let[t,c]:=IL f k a n m;let[u,b]:=xX f k a (n+ m)
  cbv
def Xf {ð:Zh}:m∈add ð n↔m∈ð\/m=n:=by
 unfold add
 cbv
def aaF {ð:Zh}(h:ð.Á)(y:η):(add ð y).Á:=by
 unfold add
 cbv
theorem vU {f:η->η->η}{x:η}{ð:Zh}(h:ð.Á):∀k,(Mc k).Á
 |0=>h
 |k+ 1=>[kK]▸aaF (vU h k) _
theorem jn (f:η->η->η)(k a:η):∀n,(ϒ a n).Á
 |0=>by rw[xW];simp
 |n+ 1=>by
  cases h:vc[n]? with
  |ε=>rw[mx h];rwa[jn f k a n]
  |ι x=>rw[gQ h];rwa[vU (jn f k a n) k]
theorem my {f:η->η->η}{x:η}{ð:Zh}{z:η}:∀{k:η},z∈eM f x ð k↔z∈ð\/∃i,i<k/\z=f i x
 |0=>{.Α,λq=>q.Ü id λζ=>by let[i,a,_]:=ζ;rwa[Ρ a (η.not_lt_zero _)]}
 |k+ 1=>by
  rw[kK,Xf,my (k:=k)]
  cbv
theorem rj {f:η->η->η}{k x0:η}{P:η->ο}(b:P x0)(c:∀x i,P x->i<k->P db):∀n,∀z∈bB f k x0 n,P z
 |0,z,a=>by rw[xW,aok]at a;rw[a];rwa[b]
 |n+ 1,z,a=>by
  cases h:(ϒ x0 n)[n]? with
  |ε=>rw[mx h]at a;rwa[rj b c n z a]
  |ι x=>
   rw[gQ h,my]at a;rcases a with a|⟨i,d,rfl⟩
   .rwa[rj b c n z a]
   .rwa[c β (rj b c n x (aoi h)) d]
theorem oB {f:η->η->η}{k:η}:∀{n j x i:η},j<n->(ϒ m n)[j]?\x->i<k->f i x∈bB f k m n
 |n+ 1,j,x,i,g,b,c=>by
  cases h:(ϒ m n)[n]? with
  |ε=>rw[mx h]at b ⊢;let o:=arx.mp h;let l:=(aoh.mp b).1;rwa[oB (show j<n by omega) b c]
  |ι y=>
   let[t,d]:=sH f y (ϒ m n) k;let p:=(aoh.mp h).1
   let a:(ϒ m n)[j]?\x:=by rw[gQ h,d,aoq ∅]at b;rwa[b]
   cases e:j=n
   .rw[e,h]at a;rw[gQ h,my];rwa[.Ç {i,c,by cbv}]
   .rw[gQ h,my];rwa[.Α (oB (show j<n by omega) a c)]
def ix (ð:Zh)(y:η):η:=ð.findIdx λz=>z==y
theorem zq:∀{ð:Zh}{i y:η},ð.Á->ð[i]?\y->ix ð y=i
 |[],i,y,_,h=>by simp at h
 |a::l,0,y,_,h=>by
  let e:a=y:=Za0 h;unfold ix
  cbv
 |a::l,i+ 1,y,d,h=>by
  rw[θ.getElem?_cons_succ]at h;let f:=aoi h
  let b:(a==y)=ς:=by rw[aoQ];intro e;rwa[(ao0.mp d).1 (by cbv)]
  let c:ix l y=i:=zq (ao0.mp d).2 h;unfold ix at c ⊢;rw[θ.findIdx_cons,b];show l.findIdx _+ 1=i+ 1;rw[c]
def Oc {ð:Zh}(b:ð.Á)(h:n∈ð):ð[ix ð n]?\n:=by let[i,a]:=apm h;rw[zq b a];rwa[a]
def zr {ð:Zh}(b:(ð++B).Á)(h:n∈ð):ix (ð++B) n=ix ð n:=by
 let[i,a]:=apm h;let c:(ð++B)[i]?\n:=by rw[aoq (aoh.mp a).1];rwa[a]
 rw[zq b c,zq (apb.mp b).1 a]
def fK (f:η->η->η)(k:η)(ð:Zh):Za3:=ð.Κ λx=>(~~~k).Κ λi=>((ix ð db:η):π)
def Od {ð:Zh}(h:n∉ð):ix (ð++[n]) n=@ð:=by
 induction ð with
 |nil=>unfold ix;rw[aq8,θ.findIdx_cons];simp
 |È a l b=>
  rw[aoC,not_or]at h;let c:(a==n)=ς:=by rw[aoQ];rwa[λe=>h.1 e.Τ]
  have:=b h.2;unfold ix at Δ ⊢
  cbv
def mz (f:η->η->η)(k a n:η):Za3:=((ϒ a n).Χ n).Κ λx=>(~~~k).Κ λi=>((ix vc db:η):π)
def CD (f:η->η->η)(k a:η):mz f k a 0=[]:=rfl
def CF {f:η->η->η}{k x:η}(h:ff[m]?\x):mz f k n (m+ 1)=mz f k n m++[(~~~k).Κ λi=>((ix (ϒ n (m+ 1)) db:η):π)]:=by
 let[t,e]:=xX f k n m;let b:=jn f k n (m+ 1);let q:=(aoh.mp h).1
 let l:(ϒ n (m+ 1)).Χ (m+ 1)=(ϒ n m).Χ m++[x]:=by rw[e,aqV ∅,ao2,h];rfl
 unfold mz;rw[l,aoE]
 congr 1
 rwa[apM λc o=>?_]
 rwa[apM λi p=>?_]
 let[j,d]:=apm o
 let a:j<m:=by have:=(aoh.mp d).1;rw[aoX]at Δ;ext
 rw[arG a]at d;let g:=oB a d (aoZ.mp p);rw[e]at b ⊢;rw[zr b g]
def Fd {f:η->η->η}{k:η}(h:@(ϒ n m)=m):mz f k n m=fK f k ff:=by
 unfold mz fK
 cbv
end M24
namespace M55
open M11 M24
theorem CH {f:η->η->η}{x:η}{ð:Zh}{m:η}:∀n,∃t,Mc (m+ n)=eM f x ð m++t
 |0=>{[],(aoJ _).Τ}
 |n+ 1=>by let[t,b]:=CH (m:=m) n;let[u,a]:=IK (Mc (m+ n)) (f (m+ n) x);rwa[t++u,by rw[<-η.add_assoc,kK,a,b,ao6]]
section
variable {f:Nat->Nat->Nat}{k N:Nat}
theorem Oe {x:η}(h:Ll[n]?\x){E:Zg}(g:@E=n* k)(l:M12.Fc k E @(ϒ 0 n)):∀m,m<=k->M12.Fc k (E++(~~~m).Κ λi=>((ix (ϒ 0 (n+ 1)) db:η):π)) @(YA m)
 |0,_=>by rw[θ.range_zero,θ.map_nil,aoJ];rwa[l]
 |m+ 1,p=>by
  let j:=Oe h g l m ∅;let a:=jn f k 0 (n+ 1);let[t,b]:=CH (f:=f) (x:=x) (ð:=bB f k 0 n) (m:=m+ 1) (k - (m+ 1));rw[show m+ 1+ (k - (m+ 1))=k by ext,<-gQ h]at b;rw[apC,aoE,<-ao6,θ.map_singleton];generalize e:bB f k 0 (n+ 1)=O at *;let r:=(aoh.mp h).1;let[u,o]:=sH f x Ll m;let æ:n<@(YA m):=by rw[o,aoj];ext
  rw[kK]at b ⊢;cases c:f m x∈eM f x Ll m
  .let d:add (YA m) (f m x)=eM f x Ll m:=by unfold add;rw[aoO c]
   rw[d]at b ⊢;rw[b]at a;let q:=zr a c;let lt:=(aoh.mp (Oc (apb.mp a).1 c)).1;rw[show ix O (f m x)=ix (YA m) (f m x) by rw[b];rwa[q]];rwa[j.old lt]
  .let d:add (YA m) (f m x)=eM f x Ll m++[f m x]:=by unfold add;rw[aoK c]
   rw[d]at b ⊢;rw[b]at a;let q:=zr a (aow (YA m) aou);rw[show ix O (f m x)=@(YA m) by rw[b,q];rwa[Od c],aoj];rwa[j.new ∅ ?_];rw[aoj,aog,aoU,g];have:(n+ 1)* k<=@(YA m)* k:=apA _ æ;rw[ari]at Δ;ext
theorem aaG (d:@(ϒ 0 N)=N):∀n,n<=N->(mz f k 0 n).Ì.ü=n* k/\M12.Fc k (mz f k 0 n).Ì @(ϒ 0 n)
 |0,_=>{by rw[CD,η.zero_mul];rfl,[CD,xW]▸M12.Fc.Ŀ k}
 |n+ 1,i=>by
  let[c,g]:=aaG d n ∅
  let a:∃x,Ll[n]?\x:=by
   cases e:Ll[n]? with
   |ι x=>rwa[x,2]
   |ε=>
    exfalso
    let h:=arx.mp e
    have:∀m,(ϒ 0 (n+ m))=bB f k 0 n:=λm=>by
     induction m with
     |Ŀ=>rfl
     |ŧ m b=>rw[<-η.add_assoc,mx ([b]▸arx.mpr ∅),b]
    have:=Δ (N - n);rw[show n+ (N - n)=N by ext]at Δ;rw[Δ]at d;ext
  let[x,a]:=a;rw[CF a,θ.flatten_append,θ.flatten_singleton];erw[by rw[aoj,c,aog,aoU,ari,η.one_mul]];have:=Oe a c g k Ź;rw[gQ a]at Δ ⊢;rwa[Δ]
def fc (a:@(ϒ 0 N)=N):M12.Fc k (fK f k (ϒ 0 N)).Ì @(fK f k (ϒ 0 N)):=by have:=(aaG a N Ź).2;rw[Fd a]at Δ;unfold fK;rw[aog];rwa[Δ]
def Fe {ð:Zh}(a:j<k)(b:ð[i]?\n):nx (fK f k ð) j i=ix ð (f j n):=by unfold nx fK;rw[aom (l:=θ.Κ _ ð),aon,b];show ((((~~~k).Κ λi=>((ix ð (f i n):η):π))).á j 0).Φ=_;rw[aom,aon,apx a];rfl
def sI (c:@(ϒ 0 N)=N){j i y:η}(b:j<k)(a:(ϒ 0 N)[i]?\y):(ϒ 0 N)[nx (fK f k (ϒ 0 N)) j i]?\(f j y):=by rw[Fe b a];rwa[Oc (jn γ N) (oB (by have:=(aoh.mp a).1;omega) a b)]
end
def aaH {f:η->η->η}(l:@(bB f (2* n) 0 m)=m)(o:∀x∈bB f (2* n) 0 m,∀j,j<2* n->f (flip j) (f j x)=x)(e:1<=n)(g:n<=40)(q:1<=m)(p:m<=300):Tab n (fK f (2* n) (bB f (2* n) 0 m)):=by
 let æ:@(fK f (2* n) (bB f (2* n) 0 m))=m:=by unfold fK;rw[aog,l]
 let c:∀i,i<@(fK f (2* n) (bB f (2* n) 0 m))->∃y,(bB f (2* n) 0 m)[i]?\y:=λi d=>{_,aoe ∅}
 rwa[33,e,g,λi r h=>?_,λi k d a=>?_,λi k d a=>?_,λi k d a=>?_]
 .unfold fK at h
  cbv
 .let[y,b]:=c i d;erw[_,by unfold fK;rw[aon,b];rfl];rw[Fe a b,aon,apx a];rfl
 .let[y,b]:=c i d;have:=(aoh.mp (sI l a b)).1;ext
 .let[y,b]:=c i d;rw[Fe (IG a) (sI l a b),o y i8 k a];rwa[zq (jn γ m) b]
end M55
namespace K74
open PySem L2
def top (i:η):ŕ:=Γ.Challenge.pw_cosetyard_k74_whole_kin.main.body.á i (.Pass {(0),(0),(0),(0)})
set_option genInjectivity false in
structure rD where
 Sq:Zs
 Sr:Ζ
 A9:Zs
 Ba:Ζ
 Ky:Zs
 Kz:Ζ
 f_back:Zs
 aaI:Ζ
 GJ:Zs
 GK:Ζ
 KC:Zs
 KD:Ζ
 ado:Zs
 adp:Ζ
 KG:Zs
 KH:Ζ
 KJ:Zs
 KL:Ζ
 KN:Zs
 KP:Ζ
 KQ:Zs
 KR:Ζ
 vV:Zs
 vW:Ζ
 Oi:Zs
 Oj:Ζ
 Ol:Zs
 Om:Ζ
 Fh:Zs
 Fi:Ζ
 U0:Zs
 U1:Ζ
 uL:Zs
 uM:Ζ
 tR:Zs
 tS:Ζ
 qE:Zs
 qF:Ζ
 Dj:Zs
 Dl:Ζ
 KS:Zs
 KW:Ζ
 wm:Zs
 wq:Ζ
 Ss:Zs
 Sv:Ζ
 Fj:Zs
 Fm:Ζ
 Bb:Zs
 Bc:Ζ
 GN:Zs
 GO:Ζ
 Oo:Zs
 Oq:Ζ
 KY:Zs
 KZ:Ζ
 zG:Zs
 zH:Ζ
 GP:Zs
 GQ:Ζ
 GR:Zs
 GU:Ζ
 Dm:Zs
 Dn:Ζ
 Dq:Zs
 Dr:Ζ
 Ds:Zs
 Du:Ζ
 GV:Zs
 GW:Ζ
 GX:Zs
 GY:Ζ
 zI:Zs
 zJ:Ζ
 GZ:Zs
 G0:Ζ
 K0:Zs
 K2:Ζ
 G3:Zs
 G4:Ζ
 La:Zs
 Lb:Ζ
 Lc:Zs
 Ld:Ζ
 dY:Zs
 dZ:Ζ
 U2:Zs
 U4:Ζ
 uN:Zs
 uO:Ζ
 pz:Zs
 xY:Ζ
 zK:Zs
 zL:Ζ
 G5:Zs
 G6:Ζ
 ni:Zs
 uP:Ζ
 rE:Zs
 rF:Ζ
 zM:Zs
 zN:Ζ
 xZ:Zs
 x8:Ζ
 Bd:Zs
 Be:Ζ
 zO:Zs
 zP:Ζ
 Bf:Zs
 Bg:Ζ
 Dv:Zs
 Dw:Ζ
 Bh:Zs
 Bi:Ζ
 Bj:Zs
 Bk:Ζ
 uQ:Zs
 uR:Ζ
 G7:Zs
 G8:Ζ
 pA:Zs
 ya:Ζ
 Fn:Zs
 Fo:Ζ
 G9:Zs
 Hc:Ζ
 Le:Zs
 Lf:Ζ
 Dx:Zs
 Dy:Ζ
 yb:Zs
 yc:Ζ
 Dz:Zs
 DB:Ζ
 wu:Zs
 wx:Ζ
 Fp:Zs
 Fq:Ζ
 zQ:Zs
 zR:Ζ
 sJ:Zs
 sL:Ζ
 zS:Zs
 zT:Ζ
 pB:Zs
 yd:Ζ
 zU:Zs
 zV:Ζ
 Ft:Tok
 iX:Zs
 bA:Zs
 b9:Zs
 dA:Zs
 aH:Zs
 aY:Zs
 aK:Zs
 bE:Zs
set_option genInjectivity false in
structure Txt (K:Za1)(mg:Ñ->Zl)(A:rD):ο where
 walked:Def K mg "walked" Ff [ϔ,ό,ϩ] A.Sq A.Sr
 pC:Def K mg "first_places" rn [Q4] A.A9 A.Ba
 pD:Def K mg "steps_of" zt [ϓ] A.Ky A.Kz
 back:Def K mg "back" Og [ϩ] A.f_back A.aaI
 uS:Def K mg "filled_in" w6 [ϩ,"images"] A.GJ A.GK
 numbered:Def K mg "numbered" zu [ϔ] A.KC A.KD
 led:Def K mg "led" UU [We,ό,ϩ] A.ado A.adp
 mB:Def K mg "place_of" zv [Ϝ] A.KG A.KH
 ye:Def K mg "order_by" zx ["name"] A.KJ A.KL
 yf:Def K mg "first_of" zy [ϔ,"some"] A.KN A.KP
 sM:Def K mg "all_gaps" zz [ϓ] A.KQ A.KR
 own:Def K mg "own" UX [MM] A.vV A.vW
 fill:DDef K mg "fill" Oh [ϓ,Q4,me,Mo,"order"] A.Oi A.Oj (tx [114,111,111,109,115])
 Bl:Def K mg "turning" CJ [We,ϩ] A.Ol A.Om
 lE:Def K mg "least_ways" uF [We] A.Fh A.Fi
 iJ:Def K mg "kin" UY ["one",YI,Mo] A.U0 A.U1
 iE:Def K mg "homes_onto" uG ["group",We] A.uL A.uM
 mK:Def K mg "check_lists" tJ [ϔ,ϓ] A.tR A.tS
 iF:Def K mg "turned_by_least_ways" j0 [We] A.qE A.qF
 qG:Def K mg "turned_back" tK [SH] A.Dj A.Dl
 yg:Def K mg "homes_by" zA [Z4,ϓ,Q4] A.KS A.KW
 lF:Def K mg "greatest_letter" oh [Tm] A.wm A.wq
 longer:Def K mg "longer" Fg ["lists","due",Z4] A.Ss A.Sv
 sN:Def K mg "leads_home" uH [Z4,HU,Tm] A.Fj A.Fm
 pE:Def K mg "comes_to_all" ro [Z4,HU] A.Bb A.Bc
 uT:Def K mg "ways_back" w9 [ZL,mT,Z5] A.GN A.GO
 rH:Def K mg "_law_at" CK [ϣ,FA] A.Oo A.Oq
 jo:Def K mg "_law_mix" zB [Ϯ,"_law_place"] A.KY A.KZ
 fx:Def K mg "_law_of_order" qd [SL,Ϯ] A.zG A.zH
 qm:Def K mg "_law_word" xc [RU,LL] A.GP A.GQ
 uU:Def K mg "_law_free" xg [RU] A.GR A.GU
 qH:Def K mg "_law_padded" tL [Uf,jp,Ϯ] A.Dm A.Dn
 qI:Def K mg "_law_groups" tM [ϣ] A.Dq A.Dr
 mM:Def K mg "_law_filled" tN [Uf,ZN] A.Ds A.Du
 uV:Def K mg "_law_step" xh [FA] A.GV A.GW
 qp:Def K mg "_law_ways" xi [RY] A.GX A.GY
 nL:Def K mg "_law_products" qe [RY] A.zI A.zJ
 qt:Def K mg "_law_fold" xj [ϋ,Wl,wE] A.GZ A.G0
 yh:Def K mg "_law_all" zC [ϋ,Wl] A.K0 A.K2
 qu:Def K mg "_law_onto" xk [Uf,ϋ] A.G3 A.G4
 yi:Def K mg "_law_kin" zD [Ϲ,HE,NG,Wl,ϋ] A.La A.Lb
 yj:Def K mg "_law_due" zE [Ϲ,ZN] A.Lc A.Ld
 lG:Def K mg "_law_plain" uI [Ϧ] A.dY A.dZ
 law:Def K mg "law" UZ [ϣ] A.U2 A.U4
 eP:į K A.bA ϐ "TooMany.__init__" mZ [Ż,ON,KK] A.uN A.uO
 ib:į K A.aY ϐ "Going.__init__" pf [Ż,WS,ϩ,ϱ] A.pz A.xY
 nM:į K A.aY "advance" "Going.advance" qf [Ż,ϔ] A.zK A.zL
 uW:į K A.aY "row" "Going.row" xl [Ż,ϔ] A.G5 A.G6
 fL:į K A.aK ϐ "Closing.__init__" m3 [Ż,ϔ,Q4,me] A.ni A.uP
 fV:į K A.aK "begin_rules" "Closing.begin_rules" kO [Ż,ό] A.rE A.rF
 j8:į K A.aK "begin" "Closing.begin" qg [Ż,WS,ϩ,ό] A.zM A.zN
 jH:į K A.aK "settle" "Closing.settle" pj [Ż] A.xZ A.x8
 pF:į K A.aK "make" "Closing.make" rq [Ż,ό,Ϝ] A.Bd A.Be
 nP:į K A.aK "go_on" "Closing.go_on" qh [Ż,Db] A.zO A.zP
 lH:į K A.aK "wait" "Closing.wait" rz [Ż,Db,ό,Ϝ] A.Bf A.Bg
 qJ:į K A.aK "lay" "Closing.lay" tO [Ż,"going"] A.Dv A.Dw
 fM:į K A.aK "wake" "Closing.wake" rA [Ż,ό,Ϝ] A.Bh A.Bi
 pG:į K A.aK "hear" "Closing.hear" rB [Ż] A.Bj A.Bk
 kh:į K A.aK "wake_all" "Closing.wake_all" nh [Ż,ό] A.uQ A.uR
 qv:į K A.dA "gap" "Order.gap" xm [Ż,ϔ] A.G7 A.G8
 ic:į K A.aH ϐ "Rooms.__init__" pk [Ż,ϓ] A.pA A.ya
 sO:į K A.aH "make" "Rooms.make" uJ [Ż,ό,Ϝ] A.Fn A.Fo
 uX:į K A.aH "lay" "Rooms.lay" xn [Ż,ό,Ϝ,YI,"row"] A.G9 A.Hc
 jq:į K A.aH "by" "Rooms.by" zF [Ż,ό,Ϝ] A.Le A.Lf
 iY:į K A.aH "elder" "Rooms.elder" tP [Ż,ό] A.Dx A.Dy
 jI:į K A.aH "standing" "Rooms.standing" pq [Ż] A.yb A.yc
 mO:į K A.aH "paper" "Rooms.paper" tQ [Ż] A.Dz A.DB
 lI:į K A.aH "first_gap" "Rooms.first_gap" oi [Ż,ό] A.wu A.wx
 oC:į K A.aH "keep" "Rooms.keep" uK [Ż,ό,Ϝ,YI] A.Fp A.Fq
 nS:į K A.aH "take_in" "Rooms.take_in" qi [Ż,"way",ZD] A.zQ A.zR
 gI:į K A.aH "put_together" "Rooms.put_together" lD [Ż,ό,Ϝ,"one",YI,ZD] A.sJ A.sL
 nT:į K A.aH "put_off" "Rooms.put_off" qj [Ż,ό,ZD] A.zS A.zT
 ie:į K A.bE ϐ "Moves.__init__" pw [Ż,We] A.pB A.yd
 nU:į K A.bE "by_home" "Moves.by_home" qk [Ż,HU,Ϝ] A.zU A.zV
 uY:mg "MOST_LISTS"=ι (.υ 5000 A.Ft)
 U6:mg ZU=ε
 mP:mg ύ=ε
 U9:mg "min"=ε
 Lg:mg NE=ε
 dm:mg US=ε
 bY:mg "len"=ε
 jJ:mg ŷ=ε
 iR:mg ż=ε
 cV:mg Fa=ε
 Ot:mg LI=ε
 Va:mg Z0=ε
 Ou:mg ϲ=ε
 adq:mg "zip"=ε
 Lh:mg "abs"=ε
 ads:mg "all"=ε
 Li:mg ϧ=ε
 xo:mg "YardError"=ι ?A.iX
 uZ:mg "TooMany"=ι ?A.bA
 sP:mg "TooGreat"=ι ?A.b9
 Xg:mg "Order"=ι ?A.dA
 Xh:mg "Rooms"=ι ?A.aH
 Xi:mg "Going"=ι ?A.aY
 Ov:mg "Closing"=ι ?A.aK
 Xj:mg "Moves"=ι ?A.bE
 Sw:š K A.aH Ñ.empty=ρ
 Sx:Ĺ K A.aH=ρ
 Sy:plainOver K A.aH=ρ
 Sz:Õ K ?A.aH QU=ι (ι (.Ι ϙ))
 yk:makesIn K A.aH=ρ
 SD:Ĭ K ?A.aH=ρ
 u0:Õ K ?A.aH ϓ=ι ε
 rJ:Õ K ?A.aH ON=ι ε
 u6:Õ K ?A.aH KK=ι ε
 j1:Õ K ?A.aH VU=ι ε
 u9:Õ K ?A.aH mf=ι ε
 ki:Õ K ?A.aH LF=ι ε
 pH:Õ K ?A.aH LH=ι ε
 va:Õ K ?A.aH "went"=ι ε
 SF:š K A.aY Ñ.empty=ρ
 SG:Ĺ K A.aY=ρ
 SJ:plainOver K A.aY=ρ
 SK:Õ K ?A.aY QU=ι (ι (.Ι ϙ))
 yl:makesIn K A.aY=ρ
 SM:Ĭ K ?A.aY=ρ
 Fu:Õ K ?A.aY WS=ι ε
 kP:Õ K ?A.aY ϩ=ι ε
 sQ:Õ K ?A.aY ϱ=ι ε
 iG:Õ K ?A.aY BS=ι ε
 fN:Õ K ?A.aY ZL=ι ε
 iZ:Õ K ?A.aY qr=ι ε
 jK:Õ K ?A.aY ma=ι ε
 Lj:š K A.aK Ñ.empty=ρ
 Lk:Ĺ K A.aK=ρ
 Ln:plainOver K A.aK=ρ
 Lp:Õ K ?A.aK QU=ι (ι (.Ι ϙ))
 sR:makesIn K A.aK=ρ
 Lq:Ĭ K ?A.aK=ρ
 fO:Õ K ?A.aK ϔ=ι ε
 Fv:Õ K ?A.aK Q4=ι ε
 kQ:Õ K ?A.aK AL=ι ε
 nj:Õ K ?A.aK FR=ι ε
 lJ:Õ K ?A.aK Da=ι ε
 pI:Õ K ?A.aK bi=ι ε
 SN:š K A.dA Ñ.empty=ρ
 SQ:Ĺ K A.dA=ρ
 SR:plainOver K A.dA=ρ
 SV:Õ K ?A.dA QU=ι (ι (.Ι ϙ))
 SW:makesIn K A.dA=ρ
 SX:Ĭ K ?A.dA=ρ
 SY:Õ K ?A.dA ϐ=ι (ι (.Ι ϟ))
 af3:Õ K ?A.dA ZF=ι (ι (.Ι ϊ))
 af4:mroIn K A.dA (.Â ZO)\ρ
 zW:L2.Ku K A.bA=ρ
 Ls:Ĭ K ?A.bA=ρ
 e_T:exmOne K ?A.bA ?A.bA\ρ
 Lv:(Γ.W.clsIn K A.bA).any (λcd=>L2.o6 cd.mro)=ρ
 Lx:Ĺ K A.bA=ρ
 Ly:Õ K ?A.bA QU=ι (ι (.Ι ϙ))
 zX:Õ K ?A.bA YU=ι (ι (.Ι Ÿ))
 zY:Õ K ?A.bA NH=ι ε
 zZ:Γ.W.subIn K ?A.bA (.Â Ϩ)\ρ
 IQ:Õ K ?A.bA ON=ι ε
 Xk:Õ K ?A.bA KK=ι ε
 af5:specialIn K ?A.iX YU=ι (ι (.Ι "type.__getattribute__"))
 af6:Γ.W.readsIn K A.iX (.Â l9)=ρ
 af7:(match Γ.W.findCls K ?A.iX (.Â l9) ϐ with|ι (.val (.Ι i))=>i==LO | _=>ς)=ρ
 S0:š K A.bE Ñ.empty=ρ
 S3:Ĺ K A.bE=ρ
 S5:plainOver K A.bE=ρ
 S6:Õ K ?A.bE QU=ι (ι (.Ι ϙ))
 ym:makesIn K A.bE=ρ
 S7:Ĭ K ?A.bE=ρ
 Fw:Õ K ?A.bE VO=ι ε
 vX:Õ K ?A.bE Z5=ι ε
 sS:Õ K ?A.bE FO=ι ε
 Lz:excIn K A.b9 ui ϫ=ρ
 LC:Γ.W.isClsIn K A.bA=ρ
 LD:Õ K ?A.bA ZF=ι (ι (.Ι ϊ))
 LJ:mroIn K A.bA (.Â ZO)\ρ
 LK:exmOne K ?A.bA ?A.iX\ρ
 He:Õ K ?A.b9 YU=ι (ι (.Ι Ÿ))
 Hf:Õ K ?A.b9 NH=ι ε
 Hg:Γ.W.isClsIn K A.b9=ρ
 Hh:Õ K ?A.b9 ZF=ι (ι (.Ι ϊ))
 Hi:mroIn K A.b9 (.Â ZO)\ρ
 Hj:Γ.W.subIn K ?A.b9 (.Â Ϩ)\ρ
 Hk:exmOne K ?A.b9 ?A.iX\ρ
 i5:specialIn K (.Ι ϊ) "__get__"=ι (ι (.Ι ϛ))
 i6:Γ.W.takesIn K (.Ι ϊ)\ρ
 LN:ľ K ?A.bA ?A.bA\ρ
 Hl:ľ K ?A.bA ?A.b9\ς
 LQ:ľ K ?A.b9 ?A.bA\ς
 Hn:ľ K ?A.b9 ?A.b9\ρ
def aO {K:Za1}{mg:Ñ->Zl}{A:rD}(T:ų):mV K A.aH:={T.Sw,T.Sx,T.Sy,T.Sz}
def yk {K:Za1}{mg:Ñ->Zl}{A:rD}(T:ų):Mk K A.aH A.pA:={T.yk,T.ic.m.at_,T.ic.m.fn,T.SD}
def a8 {K:Za1}{mg:Ñ->Zl}{A:rD}(T:ų):mV K A.aY:={T.SF,T.SG,T.SJ,T.SK}
def yl {K:Za1}{mg:Ñ->Zl}{A:rD}(T:ų):Mk K A.aY A.pz:={T.yl,T.ib.m.at_,T.ib.m.fn,T.SM}
def aV {K:Za1}{mg:Ñ->Zl}{A:rD}(T:ų):mV K A.aK:={T.Lj,T.Lk,T.Ln,T.Lp}
def sR {K:Za1}{mg:Ñ->Zl}{A:rD}(T:ų):Mk K A.aK A.ni:={T.sR,T.fL.m.at_,T.fL.m.fn,T.Lq}
def Fx {K:Za1}{mg:Ñ->Zl}{A:rD}(T:ų):mV K A.dA:={T.SN,T.SQ,T.SR,T.SV}
def fy {K:Za1}{mg:Ñ->Zl}{A:rD}(T:ų):mV K A.bE:={T.S0,T.S3,T.S5,T.S6}
def ym {K:Za1}{mg:Ñ->Zl}{A:rD}(T:ų):Mk K A.bE A.pB:={T.ym,T.ie.m.at_,T.ie.m.fn,T.S7}
def qw:aL [ϔ,ό,ϩ,"path",Ϝ] [ϔ,ό,ϩ] (aB Ff):=()
def je:aL [Q4,"places",WS,Tm] [Q4] (aB rn):=()
def qK:aL [ϓ,"steps","letter"] [ϓ] (aB zt):=()
def Xl:aL [ϩ] [ϩ] (aB Og):=()
def lK:aL [ϩ,"images","filled",Ϝ,"image"] [ϩ,"images"] (aB w6):=()
def gR:aL [ϔ,"steps",bn,"numbers",KK,"others",YI] [ϔ] (aB zu):=()
def Fy:aL [We,ό,ϩ,Ϝ] [We,ό,ϩ] (aB UU):=()
def Ho:aL [Ϝ] [Ϝ] (aB zv):=()
def Hq:aL ["name"] ["name"] (aB zx):=()
def qL:aL [ϔ,"some",ό,Ϝ] [ϔ,"some"] (aB zy):=()
def Hr:aL [ϓ] [ϓ] (aB zz):=()
def aaJ:aL [MM] [MM] (aB UX):=()
def oK:aL [ϓ,Q4,me,Mo,"order","chosen",ϔ,"closing","gap"] [ϓ,Q4,me,Mo,"order"] (aB Oh):=()
def lL:aL [We,ϩ,SH,Ϝ,"place"] [We,ϩ] (aB CJ):=()
def fz:aL [We,"steps",VU,ό,"row",Ϝ,YI] [We] (aB uF):=()
def rK:aL ["one",YI,Mo,ZL,mT,bn,VU,Z5] ["one",YI,Mo] (aB UY):=()
def tT:aL ["group",We,Z4] ["group",We] (aB uG):=()
def jL:aL [ϔ,ϓ,VO,"letter"] [ϔ,ϓ] (aB tJ):=()
def cD:aL [We,VU,SH,ό,Ϝ,"ahead","place"] [We] (aB j0):=()
def jM:aL [SH,ϔ,ό,YI] [SH] (aB tK):=()
def j2:aL [Z4,ϓ,Q4,bn,"letter","due"] [Z4,ϓ,Q4] (aB zA):=()
def vb:aL [Tm] [Tm] (aB oh):=()
def nk:aL ["lists","due",Z4,bn,ϔ,ό,HU] ["lists","due",Z4] (aB Fg):=()
def gu:aL [Z4,HU,Tm,SH,Ϝ,ό] [Z4,HU,Tm] (aB uH):=()
def d0:aL [Z4,HU,bn,"reached","at",ό,YI] [Z4,HU] (aB ro):=()
def lM:aL [ZL,mT,Z5,VU,"way",ϓ] [ZL,mT,Z5] (aB w9):=()
def LR:aL [ϣ,FA] [ϣ,FA] (aB CK):=()
def i3:aL [Ϯ,"_law_place","_law_turn","_law_part"] [Ϯ,"_law_place"] (aB zB):=()
def eQ:aL [SL,Ϯ,HE,"_law_half","_law_fourth","_law_some","_law_many"] [SL,Ϯ] (aB qd):=()
def ig:aL [RU,LL,"_law_steps","_law_cell",Ϯ,"_law_step_here"] [RU,LL] (aB xc):=()
def jr:aL [RU,"_law_words","_law_kept","_law_cell"] [RU] (aB xg):=()
def ik:aL [Uf,jp,Ϯ,LL,"_law_rules","_law_letter"] [Uf,jp,Ϯ] (aB tL):=()
def dP:aL [ϣ,Ϯ,SL,Ϲ,jp,"_law_which"] [ϣ] (aB tM):=()
def jN:aL [Uf,ZN,Ϧ] [Uf,ZN] (aB tN):=()
def Fz:aL [FA] [FA] (aB xh):=()
def fP:aL [RY,wP,"_law_come","_law_at_here",FA,"_law_other"] [RY] (aB xi):=()
def eR:aL [RY,Ϧ,"_law_room","_law_row","_law_spot",FA] [RY] (aB qe):=()
def jt:aL [ϋ,Wl,wE,"_law_room","_law_step_here"] [ϋ,Wl,wE] (aB xj):=()
def j3:aL [ϋ,Wl,"_law_come","_law_at_here","_law_room"] [ϋ,Wl] (aB zC):=()
def cC:aL [Uf,ϋ,"_law_many","_law_total","_law_letter","_law_lists","_law_longer",Wl,Ϧ,"_law_good","_law_rule"] [Uf,ϋ] (aB xk):=()
def i7:aL [Ϲ,HE,NG,Wl,ϋ,wP,"_law_there","_law_behind","_law_letter","_law_others"] [Ϲ,HE,NG,Wl,ϋ] (aB zD):=()
def i9:aL [Ϲ,ZN,HE,NG,ϋ,Ϧ] [Ϲ,ZN] (aB zE):=()
def j9:aL [Ϧ,"_law_part"] [Ϧ] (aB uI):=()
def iS:aL [ϣ,Ϲ,Ϯ,ZN,"_law_due_here","_law_handed","_law_kept",Ϧ,"e"] [ϣ] (aB UZ):=()
def t6:aL [Ż,ON,KK] [Ż,ON,KK] (aB mZ):=()
def wz:aL [Ż,WS,ϩ,ϱ] [Ż,WS,ϩ,ϱ] (aB pf):=()
def km:aL [Ż,ϔ,ό] [Ż,ϔ] (aB qf):=()
def pJ:aL [Ż,ϔ,"ahead",FO] [Ż,ϔ] (aB xl):=()
def fW:aL [Ż,ϔ,Q4,me,ό,WS,ϩ] [Ż,ϔ,Q4,me] (aB m3):=()
def gT:aL [Ż,ό,Tm,WS] [Ż,ό] (aB kO):=()
def yn:aL [Ż,WS,ϩ,ό] [Ż,WS,ϩ,ό] (aB qg):=()
def wC:aL [Ż] [Ż] (aB pj):=()
def z0:aL [Ż,ό,Ϝ] [Ż,ό,Ϝ] (aB rq):=()
def pK:aL [Ż,Db,"going"] [Ż,Db] (aB qh):=()
def lO:aL [Ż,Db,ό,Ϝ,"steps","numbers"] [Ż,Db,ό,Ϝ] (aB rz):=()
def rL:aL [Ż,"going",Ϝ] [Ż,"going"] (aB tO):=()
def Aa:aL [Ż,ό,Ϝ] [Ż,ό,Ϝ] (aB rA):=()
def Ab:aL [Ż] [Ż] (aB rB):=()
def fX:aL [Ż,ό,Ϝ,"elder"] [Ż,ό] (aB nh):=()
def FC:aL [Ż,ϔ] [Ż,ϔ] (aB xm):=()
def wD:aL [Ż,ϓ] [Ż,ϓ] (aB pk):=()
def tU:aL [Ż,ό,Ϝ,Db] [Ż,ό,Ϝ] (aB uJ):=()
def ve:aL [Ż,ό,Ϝ,YI,"row",ZD] [Ż,ό,Ϝ,YI,"row"] (aB xn):=()
def Hs:aL [Ż,ό,Ϝ] [Ż,ό,Ϝ] (aB zF):=()
def Bm:aL [Ż,ό] [Ż,ό] (aB tP):=()
def wF:aL [Ż] [Ż] (aB pq):=()
def Bn:aL [Ż] [Ż] (aB tQ):=()
def nu:aL [Ż,ό,Ϝ] [Ż,ό] (aB oi):=()
def DC:aL [Ż,ό,Ϝ,YI] [Ż,ό,Ϝ,YI] (aB uK):=()
def eT:aL [Ż,"way",ZD,ό,Ϝ,YI,"led_to","come_from"] [Ż,"way",ZD] (aB qi):=()
def fj:aL [Ż,ό,Ϝ,"one",YI,ZD,"less","more",Db] [Ż,ό,Ϝ,"one",YI,ZD] (aB lD):=()
def iH:aL [Ż,ό,ZD,VU,Ϝ,YI] [Ż,ό,ZD] (aB qj):=()
def wG:aL [Ż,We] [Ż,We] (aB pw):=()
def pL:aL [Ż,HU,Ϝ,ό] [Ż,HU,Ϝ] (aB qk):=()
section
def Ac (K:Za1):Sp:=λb H Q _=>∃(a:Zs)(ns:Zg),b=[?a]/\ay K H a RO/\@ns<=63/\∀c,Q (.bl ρ) c
structure C6 where
 P:Í
 w:à
 K:Za1
 mg:Ñ->Zl
 Β:Û
 A:rD
instance:ť C6:=⟨{default,{λ_ _=>0,{ strHash:=λ_=>0,shareClass:=λ_=>0,mergeTok:=id,idOf:=λ_=>0,idOfShared:=λ_ _=>0,followText:=λ_=>ς,idOfImm:=λ_=>0 }},[],λ_=>ε,default,by constructor <;> rwa[default]}⟩
instance:ť ß:={by constructor <;> rwa[default]}
instance:ť RS:={by constructor <;> rwa[default]}
instance:ť RA:={by constructor <;> rwa[default]}
instance:ť Gg:={by constructor <;> rwa[default]}
instance:ť Zu:=⟨{ Æ:=1 }⟩
instance:ť V:={.non}
instance:ť Dt:={.n}
def C6.Ok (c:C6):ο:=Txt c.K c.mg c.A->cX c.P c.w c.K c.mg c.Β (cS c.P c.w) 14 c.A.U2 c.A.U4 [ϣ] (Ac c.K)
def c6:C6:=ļ.epsilon λc=>¬c.Ok
def aaK (h:c6.Ok)(c:C6):c.Ok:=ao3 λn=>ļ.epsilon_spec (p:=λc:C6=>¬c.Ok) {c,n} h
@[irreducible] noncomputable def P:Program:=c6.P
@[irreducible] noncomputable def w:World:=c6.w
@[irreducible] noncomputable def K:Za1:=c6.K
@[irreducible] noncomputable def mg:Str->Zl:=c6.mg
@[irreducible] noncomputable def base:Heap:=c6.base
@[irreducible] noncomputable def A:rD:=c6.A
def dc {o:HO}(e:ψ H a o=I)(n:H a=ε):ao H I/\I a\o:=by subst e;rwa[ao.ψ n,aj]
def rM {c:Γ.Const}{p:Γ.Pos}{a:θ Γ.ę}{env:Γ.Env}:Γ.Ο (.œ c j p::a) env=(ς,Γ.å (.œ c j p) env)::Γ.Ο a env:=rfl
def bJ (n:η):Zg:=(~~~n).Κ M12.st
def vY (n:η):@(bJ n)=n:=by unfold bJ;cbv
def rN (h:i<n):(bJ n)[i]?\Ps:=by unfold bJ;rw[aon,apx h];rfl
def Xm (i:η):bJ (2* i)++[1+ (i:π)]++[-(1+ (i:π))]=bJ (2* (i+ 1)):=by
 let e:2* (i+ 1)=2* i+ 1+ 1:=∅
 rw[e];unfold bJ;rw[apC,apC,aoE,aoE];let a:M12.st (2* i)=1+ (i:π):=by unfold M12.st;rw[aoO ∅];ext
 let b:M12.st (2* i+ 1)= -(1+ (i:π)):=by unfold M12.st;rw[aoK ∅];ext
 show _=(~~~(2* i)).Κ M12.st++[M12.st (2* i)]++[M12.st (2* i+ 1)];rw[a,b]
def Ow (n:η):(bJ n).Á:=by unfold bJ;rwa[aqa.mpr (θ.Ő.Ŋ ?_ aqT)];intro a b c z;let d:=M12.qb a;rw[z,M12.qb]at d;rwa[c d.Τ]
def bZ {rs:Zn}{r:Zs}(h:rs[i]?\r):lh (rs.Κ V.É) (i:π)\(V.É r):=bX (by rw[aon,h];rfl)
def S8:Sp:=λb H Q _=>∃L:η,b=[.υ L]/\1<=L/\L<=200/\∀l a,Q1 a->a l\.Ν (aw ((~~~(2* L)).Κ M12.st))->Q ?l a
def aaL:Sp:=λb H Q _=>∃L:η,b=[.υ L]/\1<=L/\L<=200/\∀d a,Q1 a->H d=ε->a d\.dK (gK (bJ (2* L)))->Q ?d a
inductive Vb (C:Zs)(vs:Zb)(H:Hp)(Q:VK)(E_:XK):ο
 |mk (x dx:Zs)(L:η):vs=[?x,.υ L]->H x\.ins C dx []->1<=L->L<=200->(∀a H',(∀b o,H b\o->b≠x->H' b\o)->aD C H' x (ϝ (bJ (2* L))) a->(∀b,a.own x b->b=x\/H b=ε)->Q .non H')->Vb C vs H Q E_
def dB (a:RA)(r:Zs)(H c:Hp):ο:=∀b o,¬a.own r b->H b\o->c b\o
inductive Ox (C:Zs)(vs:Zb)(H:Hp)(Q:VK)(E_:XK):ο
 |mk (r:Zs)(S:RS)(a:RA)(c d:η)(z:π):vs=[?r,.υ c,.υ z,.υ d]->aD C H r S a->S.Wf->c<S.q->d<S.q->(∀l∈S.ways,@l<=100000)->(∀H',dB a r H H'->aD C H' r (S.Ï c z d) a->Q .non H')->Ox C vs H Q E_
inductive Oy (C:Zs)(vs:Zb)(H:Hp)(Q:VK)(E_:XK):ο
 |mk (r:Zs)(S:RS)(a:RA)(c:η)(z:π):vs=[?r,.υ c,.υ z]->aD C H r S a->S.Wf->1<=S.L->S.L<=200->c<S.q->S.q<=100000->@S.rows<=1000000->(∀l∈S.ways,@l<=100000)->(∀a' H',dB a r H H'->aD C H' r (S.Ę c z (bJ (2* S.L))) a'->(∀b,JI b->a.own r b\/H b=ε)->Q (.υ S.q) H')->Oy C vs H Q E_
inductive Vc (C:Zs)(vs:Zb)(H:Hp)(Q:VK)(E_:XK):ο
 |mk (r:Zs)(S:RS)(a:RA)(c:η)(z:π):vs=[?r,.υ c,.υ z]->aD C H r S a->c<@S.ways->(Q (((S.by c z).Κ λn:η=>V.υ (n:π)).á .non) H)->Vc C vs H Q E_
inductive IU (C:Zs)(vs:Zb)(H:Hp)(Q:VK)(E_:XK):ο
 |mk (r:Zs)(S:RS)(a:RA)(c e:η):vs=[?r,.υ c]->aD C H r S a->S.bu[c]?\e->Q (.υ e) H->IU C vs H Q E_
inductive Ad (C:Zs)(vs:Zb)(H:Hp)(Q:VK)(E_:XK):ο
 |mk (r:Zs)(S:RS)(a:RA):vs=[?r]->aD C H r S a->S.Wf->S.q<=100000->(∀l,H l=ε->Q ?l (ZP (.Ν (aw (nI ((~~~S.q).Ö λc=>decide (S.bu[c]?\c)))))))->Ad C vs H Q E_
def Ae (k:η):Sp:=λc H Q _=>∃(v:V)(d:Dt),c=[v]/\bK H k v d/\oW d/\∀b a,Q1 a->bK a k b d->Q b a
inductive IV (k:η)(C:Zs)(vs:Zb)(H:Hp)(Q:VK)(E_:XK):ο
 |mk (r:Zs)(S:RS)(a:RA):vs=[?r]->aD C H r S a->@S.rows<=1000000->(∀p d,d∈S.rows->bK H 4 ?p d->bK H k ?p d)->(∀l ps H',Q1 H'->H l=ε->H' l\.Ν (ps.Κ V.É)->ū (λp d=>bK H' 4 ?p d) ps S.rows->Q ?l H')->IV k C vs H Q E_
def aaM:η->Sp
 |0=>λ_ _ _ _=>Ð
 |n+ 1=>Ae n
def yo {dp lv:η}(T:ų)(o:cX P w K mg Β ϴ lv A.vV A.vW [MM] (aaM dp)):cX P w K mg Β ϴ (lv+ 1) A.vV A.vW [MM] (Ae dp):=by
 rwa[T.own.F.okN aaJ (λf H Q E h=>?_) (λcf AA G s H f Q E I h=>?_)]
 .let[v,d,Ų,_]:=h;rfl
 .let[v,d,Ų,L,u,k]:=h
  erw[_,{{bL (iL (On #[0,fi (v:=.ty ŷ) Ų T.jJ apv Ų]))
   {{aZ (Zy #[eK (fns:=[]) (ixs:=[]) (cl:=[]) Ų (kZ (pv 0)) (b0 [] Ų þ.intro Ų) (λC s H ex=>(pc (hj:=aoo _) T.own o I #[0]))])}}
   bf,bL (iL (On #[0,fi (v:=.ty ż) Ų T.iR apk Ų]))
    {{oM}}
    bf,bL (iL (On #[0,fi (v:=.ty ϲ) Ų T.Ou ÿ.Rows.boot_dict Ų]))
    {{oM}}
    bf,aZ (pv 0)}}]
  let atom:(∃n,v=.υ n)\/(∃l,v=.str (tx l))\/∃(a:Zs)(f:Zb)(ds:AE)(m:η),dp=m+ 1/\v=?a/\d=.t ds/\(H a\.Ò f/\@f=@ds/\∀(j:η)(v:V)(x:Dt),f[j]?\v->ds[j]?\x->bK H m v x):=by
   cases L with
   |i=>exact .Α {12}
   |s=>exact .Ç (.Α {12})
   |n=>ext u
   |b=>ext u
   |t g M J=>exact .Ç (.Ç {1111222,g,M,J})
   |l=>ext u
  rcases atom with ⟨n,rfl⟩|⟨l,rfl⟩|⟨a,f,ds,m,Ų,Ų,Ų,B⟩
  .rwa[_,Ų,_,_,_,_,Ų,.υ n,De K,_,Ų,dz ?_];rwa[1211112,.υ n,Ey K,12,dz ?_];rwa[1211112,.υ n,Ez K,12,dz ?_];rwa[12,k _ H (λ_ _ e=>e) L]
  .rwa[1211112,.str (tx l),Df K,12,dz ?_];rwa[1211112,.str (tx l),EA K,12,dz ?_];rwa[1211112,.str (tx l),EB K,12,dz ?_];rwa[12,k _ H (λ_ _ e=>e) L]
  .let[g,M,J]:=B;obtain⟨hz,p⟩:@ds<=100000/\∀x∈ds,oW x:=by cases u with|t a b=>exact{a,b}
   rwa[1211112,.Ò g,Eb K ŷ,12,dE ?_];erw[12,a,2,{_,bG.of g}];rwa[iw @f (λi=>f.á i .non) (λc v i=>∃x,ds[i]?\x/\oW x/\bK c m v x) (λH1 c v i s ζ=>by let[x,e,hn,q]:=ζ;rwa[x,e,hn,q.Μ s]) ?_ (λi c s2 r=>MJ (bG.of (s2^g)) i r) (λi x c X s2 r y=>?_) (λc s2=>DZ (bG.of (s2^g))) (λi c Rr r s2 Y=>?_) (λD c ys s2 W hl I=>?_)]
   .rwa[aot ∅ (show 100000<=Ε by decide)]
   .let[e,B]:=HY (bG.of (s2^g)) i x X r y
    cbv
   .let B:f[i]?\(f.á i .non):=by rw[aom,aoe r];rfl
    obtain⟨R,z⟩:∃gx,ds[i]?\gx:={ds[i]'∅,aoe ∅}
    rwa[12112,(J i β B z).Μ s2,p _ (aoi z),λU H' S q'=>Y U H' S {_,z,p _ (aoi z),q'}]
   .rwa[D,ys,2,.Α {ay.of aj,λl F=>?_}];let N:ao c (ψ c D (.Ν ys)):=ao.ψ W;let O:ao (ψ c D (.Ν ys)) (ψ (ψ c D (.Ν ys)) l (.Ò ys)):=ao.ψ F;rwa[k β (s2.ν (N.ν O)) (.t aj ∅ λj v x e1 Z=>?_)];obtain⟨y,e3,-,q⟩:=I j v e1;obtain rfl:y=x:=Za0 (e3.Τ.ν Z);rwa[q.Μ (N.ν O)]
def Oz (T:ų):cX P w K mg Β ϴ 2 A.vV A.vW [MM] (Ae 0):=yo (dp:=0) (lv:=1) T {λ_ _ _ _ h=>h.Ü,λ_ _ _ _ _ _ _ _ _ _ _ _ _ h=>h.Ü}
def OB (T:ų):cX P w K mg Β ϴ 3 A.vV A.vW [MM] (Ae 1):=yo T (Oz T)
def CL (T:ų):cX P w K mg Β ϴ 4 A.vV A.vW [MM] (Ae 2):=yo T (OB T)
def qM (T:ų):T.pD.Ok P w Β 1 S8:=by
 rwa[T.pD.on qK (λr x f s H u Q E y h=>?_) (len:=by rintro _ _ _ _ ⟨L,Ų,_⟩;rfl)]
 .let[L,Ų,q,t,k]:=h
  erw[_,{{bp 1 qK.nd Op,ž (IO #[ak,Z2 (pv 0) ak]) (cU 2 qK.nd)
    {{aX (ŵ (pv 1) #[2]),aX (ŵ (pv 1) #[Ev (pv 2)])}},aZ (pv 1)}}]
  rwa[aoN _,λl g=>?_];let p:ao H (ZP (.Ν [])):=ao.ψ g;let m:ψ H l (.Ν []) l\(.Ν (aw (bJ (2* 0)))):=aj;erw[121122,(1),(L:π)+ 1,2,{3333}];rwa[du (lo:=1) (n:=((L:π)+ 1 - 1).Φ) (λi j c=>∃v:Zc,j=#v[.υ L,?l,v]/\ao H c/\c l\.Ν (aw (bJ (2* i)))) ⟨ε,2,p,m⟩ ?_ ?_]
  .rintro i j c z ⟨v,Ų,d,a⟩;erw[12,.Α {21,ay.of a},12,l,1122,a,5]
   .rw[aF,vY];rwa[aop (show 2* i<=400 by omega) ⋯]
   erw[12,.Α {21,ay.of aj},1212,l,1122,aj,5]
   .rw[aoj,aF,vY];rwa[aop (show 2* i+ 1<=400 by omega) ⋯]
   erw[12,λb o e=>?_]
   .rw[aq (QA g),aq (QA g)];rwa[d^e]
   .rw[aj,<-Xm,ï,ï];rfl
  .rintro j c ⟨v,Ų,d,a⟩;rw[show ((L:π)+ 1 - 1).Φ=L by ext]at a;rwa[12,k l c d a]
def xq (T:ų):T.sM.Ok P w Β 2 aaL:=by
 rwa[T.sM.on Hr (λX AA n s H vs Q E B h=>?_) (len:=by rintro _ _ _ _ ⟨L,Ų,_⟩;rfl)]
 .let[L,Ų,o,G,k]:=h;erw[_,{{aZ (dD (y6 Ų) Ų T.Ou ÿ.Rows.boot_dict #[eK (fns:=[]) (ixs:=[]) (cl:=[]) Ų (ck (sB B #[0])) (b0 [] Ų þ.intro Ų) (λC s H ex=>(bh #[0,mJ]))])}}];rwa[12,L,2,o,G,λl Y s1 j=>{l,2,{_,ay.of j},5}];let hn:@(aw ((~~~(2* L)).Κ M12.st))=2* L:=by rw[aF,aog,aoU]
  rwa[iw (2* L) (λi=>.υ Ps) (λc v i=>∃p,v=?p/\c p\.Ò [.υ Ps,.bl ρ]) (λY c v i s ζ=>by let[p,e,q]:=ζ;rwa[p,e,s^q]) ?_ (λi c s2 f=>iP (ay.of (s2^j)) i ∅) (λi x c U s2 f y=>?_) (λc s2=>?_) (λi c Rr f s2 W=>?_) (λD c ys s2 S u B=>?_)]
  .rwa[aot (show 2* L<=400 by omega) ⋯]
  .let[e,hx]:=gk (ay.of (s2^j)) i x U ∅ y;erw[e];rw[show (aw ((~~~(2* L)).Κ M12.st))[i]?=ι (.υ Ps) from bR (rN f)]at hx
   cbv
  .have:=fm (ay.of (K:=K) (s2^j));rw[hn]at Δ;rwa[Δ]
  .rwa[12,(Za4 2),λt R=>W β (ao.ψ R) {t,2,aj}]
  .let[g,Ų,F]:=L2.A3 (P:=λi p=>c p\.Ò [.υ Ps,.bl ρ]) ys 0 (λi v hv=>[arK]▸B i v hv);let J:ao c (ψ c D (.Ν (g.Κ V.É))):=ao.ψ S;rw[aog]at u;rwa[D,g,gK (bJ (2* L)),2,aj,by rw[YT,vY,u],λi p kv M r=>?_,λd I=>?_]
   .let f:i<2* L:=by rw[<-u];rwa[(aoh.mp M).1]
    have:=F i p M;rw[arK]at Δ;unfold gK at r;rw[aon,rN f]at r;rw[<-Za0 r];rwa[J^Δ]
   .let e:jW [] (gK (bJ (2* L)))=gK (bJ (2* L)):=by rw[Ce β ?_,aq8];rw[aq8];unfold gK;rw[ao4];rwa[aqa.mpr (θ.Ő.Ŋ (λ{a b} m z=>m MO) (Ow _))]
    rw[e];let O:ao (ψ c D (.Ν (g.Κ V.É))) (ψ (ψ c D (.Ν (g.Κ V.É))) d (.dK (gK (bJ (2* L))))):=ao.ψ I;let N:=s1.ν (s2.ν J);rwa[k d _ (N.ν O) (N.free I) aj]
def ja (T:ų):T.jq.Ok mg P w Β 1 (Vc A.aH):=by
 rwa[T.jq.on Hs (λf n d s H m Q E j h=>?_)]
 .let[r,S,a,c,z,Ų,h,l,k]:=h;let b:=iC j;erw[_,{{aZ (Rk b ((0<<<1)|||1) (pv 2) ⟨2222⟩)}}];let i:S.ways[c]?\ϰ:=by unfold RS.way;rw[aom,aoe l];rfl
  let[p,g,e]:=h.rW.at i;erw[12,r,_,a.dx,112,h.ins,aO T,T.j1,jC^_,12,a.aW,11122,ay.of h.hW,bZ g,p,2,.Α {_,.Α e},121,dF.k (k:=Sum.Α z) e];rw[mX];rwa[k]
def jO (T:ų):T.iY.Ok mg P w Β 1 (IU A.aH):=by
 rwa[T.iY.on Bm (λd j b s H g Q E i h=>?_)]
 .let[r,S,a,c,e,Ų,h,f,k]:=h;erw[_,{{aZ ((0<<<1)|||1)}}];rwa[12,r,_,a.dx,112,h.ins,aO T,T.ki,kz^_,12,a.aE,11122,ay.of h.hE,bX (bR (lA f)),k]
def rO {c:η}(h:c<@S.ways):S.ways[c]?\ϰ:=by unfold RS.way;cbv
def Af {c:η}(h:c<@S.gaps):S.gaps[c]?\UV:=by unfold RS.gap;cbv
def FD (h:∀l∈S.ways,@l<=m):@(S.way n)<=m:=by
 unfold RS.way;rw[aom]
 cases e:S.ways[n]? with
 |ε=>exact aoN _
 |ι l=>exact h l (aoi e)
def Vd {r:Zs}(h:O.ws[i]?\a):O.own r a:=.Ç (.Ç (dW (aoi h)))
def adt {r:Zs}(h:O.gs[i]?\a):O.own r a:=.Ç (.Ç (hV (aoi h)))
def dB.ψ {r:Zs}{o:HO}(h:O.own r a):dB O r H (Ϻ o):=λb u c e=>[aq (λz=>c ([z]▸h))]▸e
def dB.ν {r:Zs}(h:dB O r H I)(c:dB O r I J):dB O r H J:=λb u a e=>c b u a (h b u a e)
def tV (T:ų):T.oC.Ok mg P w Β 1 (Ox A.aH):=by
 rwa[T.oC.on DC (λcf AA F s H vs Q E hr h=>?_)]
 .let[r,S,a,c,d,z,Ų,h,hw,hc,L,U,k]:=h;let j:=iC hr
  erw[_,{{iU j ((0<<<1)|||1) (pv 2) (pv 3) Ų,iU j ((0<<<1)|||3) (Ev (pv 2)) (pv 1) Ų,aX (xP ((0<<<1)|||1) (pv 2) cW ⟨2222⟩),aX (xP ((0<<<1)|||3) (Ev (pv 2)) cW ⟨2222⟩)}}]
  let[p,b,I]:=h.rW.at (rO (S:=S) (c:=c) ([hw.w]▸hc));let b1:@(S.way c)<=100000:=FD U;erw[1212,r,_,a.dx,112,h.ins,aO T,T.j1,jC^_,12,a.aW,11122,ay.of h.hW,bZ b,12,p,12,lz.k (k:=Sum.Α z) I ([Er]▸aop b1 ⋯)];rw[Es];let n:aD A.aH _ r (GE d) a:=h.Ew b gh;let R:dB a r H (WA (.dK (wK gh))):=dB.ψ (Vd b);change ψ H p _=W at n R ⊢;let w1:(GE d).ways.ü=S.q:=by show @(S.ways.set c _)=_;rw[aoR,hw.w]
  let[q,D,B]:=n.rW.at (rO (S:=S.cK c z d) (c:=d) ([w1]▸L))
  let b2:@((GE d).way d)<=100001:=FD λl f=>by
   rcases aqx f with f|rfl
   .rwa[η.le_succ_of_le (U l f)]
   .rwa[aot (RG^_) (by omega)]
  rwa[_,Ų,_,Ų,r,_,a.dx,_,_,Ų,n.ins,aO T,T.j1,jC^_,_,Ų,a.aW,_,_,_,Ų,Ų,ay.of n.hW,bZ D,_,Ų,_,Ų,q,_,Ų,lz.k (k:=Sum.Α (-z)) B (by rw[Er];rwa[aop b2 (by decide)]),?_];rw[Es];let g:aD A.aH _ r ((GE d).cK d (-z) c) a:=n.Ew D (lB ((GE d).way d) (-z) c);let u2:dB a r W (ψ W q (.dK (wK (lB ((GE d).way d) (-z) c)))):=dB.ψ (Vd D);generalize O:(GE d).cK d (-z) c=C at g ⊢;let M:@C.gaps=S.q:=by rw[<-O];rwa[hw.g]
  let[p3,o,m]:=g.rG.at (Af (S:=C) (c:=c) ([M]▸hc))
  let pop:∀{H:Hp}{S:RS}{c:η}{z:π}{p:Zs},aD A.aH H r S a->a.gs[c]?\p->H p\.dK NJ->∀{Q:V->Hp->ο},(∀v J,dB a r H J->aD A.aH J r (S.ou c z) a->Q v J)->
   Rj p (.υ z) .non H Q:=by
   intro H S c z p h b I Q B
   suffices q:(∀v,bF NJ Pi\v->Q v (WA (.dK (fT NJ Pi))))/\(bF NJ Pi=ε->Q .non H) from ⟨_,Sum.Α z,I,2,q.1,q.2⟩
   rw[Nt,WC];cases G:z∈S.gap c
   .rw[aoO G];rwa[λv _=>B β (dB.ψ (adt b)) (h.YY b _),λz=>by ext z]
   .rw[aoK G];rwa[λv z=>(by ext z),λ_=>B β (λ_ _ _ e=>e) ?_];let e:(S.gap c).Ö (λx=>decide (x≠z))=S.gap c:=θ.filter_eq_self.mpr λx hx=>aoP λz=>G (z ▸ hx)
    let f:c<@S.gaps:=by rw[<-h.rG.1];rwa[(aoh.mp b).1]
    have:S.ou c z=S:=by
     unfold RS.ou RS.setG;rw[e]
     let es:S.gaps.set c UV=S.gaps:=apR λi=>by
      cases X:c=i
      .subst X;rw[ao9 f,Af f]
      .rw[apz X]
     rw[es]
    rw[Δ];rwa[h]
  rwa[12,r,_,a.dx,112,g.ins,aO T,T.u9,vO^_,12,a.aG,11122,ay.of g.hG,bZ o,p3,2,.Α {_,.Α m},12,pop g o m λv H3 u3 t=>?_];generalize Z:C.ou c z=Y at t;let g3:@Y.gaps=S.q:=by rw[<-Z];show @(C.gaps.set c _)=_;rw[aoR,M]
  let[p4,y,u]:=t.rG.at (Af (S:=Y) (c:=d) ([g3]▸L));rwa[12,r,_,a.dx,112,t.ins,aO T,T.u9,vO^_,12,a.aG,11122,ay.of t.hG,bZ y,p4,2,.Α {_,.Α u},1212,pop t y u λv H4 u4 N=>?_];rwa[k H4 (R.ν (u2.ν (u3.ν u4))) ?_];rw[<-Z,<-O]at N;rwa[N]
def wH (T:ų):T.ic.Ok mg P w Β 3 (Vb A.aH):=by
 rwa[T.ic.on wD (λcf AA Ψ s H vs Q E hr h=>?_)]
 .let[x,B,L,Ų,hx,tW,FG,k]:=h
  erw[_,{{ώ (pv 1) Ų,ώ ak Ų,ώ Op Ų,ώ (bH #[eJ]) Ų,ώ (bH #[pc T.sM (xq T) hr #[1]]) Ų,ώ (bH #[ak]) Ų,ώ (bH #[bH #[ak]]) Ų,ώ Op Ų}}]
  let st:∀{H0:Hp}{fs:θ (Ñ×V)}{f:Ñ}{v:V},H0 x\.ins A.aH B fs->(∀b o,H b\o->b≠x->H0 b\o)->ψ H0 x (.ins A.aH B (Pe fs)) x\.ins A.aH B (Pe fs)/\(∀b o,H b\o->b≠x->ψ H0 x (.ins A.aH B (Pe fs)) b\o)/\∀b o,b≠x->H0 b\o->ψ H0 x (.ins A.aH B (Pe fs)) b\o:=λ_ h=>{aj,λb o e n=>[aq n]▸h b o e n,λb o n e=>[aq n]▸e}
  erw[1212,x,_,B,12,hx,aO T,T.u0,4];obtain⟨x1,o1,-⟩:=st (f:=ϓ) (v:=.υ L) hx (λb o e _=>e);change ψ H x _=H1 at x1 o1 ⊢;let f1:@(bP ϓ (.υ L) ([]:θ (Ñ×V)))<=1:=kB (n:=0) Ź;erw[12,x,_,B,12,x1,aO T,T.rJ,aop f1 ⋯];obtain⟨x2,o2,-⟩:=st (f:=ON) (v:=.υ 1) x1 o1;let f2:=kB (f:=ON) (v:=.υ 1) f1;generalize e2:bP ON (.υ 1) (bP ϓ (.υ L) [])=fs2 at x2 o2 f2 ⊢;change ψ H1 x _=H2 at x2 o2 ⊢;rwa[aoN _,λu nR=>{12,x,_,B,12,ao.ψ nR β x2,aO T,T.u6,aop f2 ⋯,5}];let hR3:ψ H2 u (.Ν []) u\(.Ν []):=aj;let C:u≠x:=(ax x2 nR).Τ;let s3:=ao.ψ (o:=.Ν []) nR
  let n0:∀{b:Zs}{H0:Hp},(∀c o,H c\o->c≠x->H0 c\o)->H0 b=ε->b≠x->H b=ε:=λ{b H0} h n nx=>by
   cases e:H b with
   |ε=>rfl
   |ι o=>rw[h b o e nx]at n;ext n
  let kR:=n0 o2 nR C;change ψ H2 u _=H3 at hR3 s3 ⊢;let[x4,o4,k4]:=st (f:=KK) (v:=?u) (s3^x2) (λb o e n=>s3^o2 b o e n);let f4:=kB (f:=KK) (v:=?u) f2;generalize e4:bP KK ?u fs2=fs4 at x4 o4 f4 k4 ⊢;let hR4:=k4 β C hR3;change ψ H3 x _=H4 at x4 o4 hR4 ⊢;intro wd nwd;let l:wd≠x:=(ax x4 nwd).Τ;let kwd:=n0 o4 nwd l;generalize e_:ψ H4 wd _=H5;let[s5,af8]:=dc e_ nwd;rwa[TM,λG nW=>{12,x,_,B,12,ao.ψ nW β (s5^x4),aO T,T.j1,aop f4 ⋯,5}];let U:G≠x:=(ax (s5^x4) nW).Τ;let kW:=n0 (λb o e n=>s5^o4 b o e n) nW U;let nWR:G≠u:=(ax (s5^hR4) nW).Τ;generalize e_:ψ H5 G _=H6;let[s6,hW6]:=dc e_ nW;let[x7,o7,k7]:=st (f:=VU) (v:=?G) (s6^s5^x4) (λb o e n=>s6^s5^o4 b o e n);let f7:=kB (f:=VU) (v:=?G) f4;generalize e7:bP VU ?G fs4=fs7 at x7 o7 f7 k7 ⊢;let hR7:=k7 β C (s6^s5^hR4);let hW7:=k7 β U hW6;let aaP:=k7 β l (s6^af8);rwa[12,L,2,tW,FG,λgd H8 s8 ngd af9=>?_];let t:gd≠x:=(ax x7 ngd).Τ;let kgd:=n0 o7 ngd t;let ngw:gd≠wd:=(ax aaP ngd).Τ;rwa[TM,λN nG=>{12,x,_,B,12,ao.ψ nG β (s8^x7),aO T,T.u9,aop f7 ⋯,5}];let OD:N≠x:=(ax (s8^x7) nG).Τ;let kG:=n0 (λb o e n=>s8^o7 b o e n) nG OD;let nGR:N≠u:=(ax (s8^hR7) nG).Τ;let nGW:N≠G:=(ax (s8^hW7) nG).Τ;generalize e_:ψ H8 N _=H9;let[s9,hG9]:=dc e_ nG;let[x10,Ve,X]:=st (f:=mf) (v:=?N) (s9^s8^x7) (λb o e n=>s9^s8^o7 b o e n);let OG:=kB (f:=mf) (v:=?N) f7;generalize e10:bP mf ?N fs7=aga at x10 Ve OG X ⊢;let S9:=X β C (s9^s8^hR7);let Ta:=X β U (s9^s8^hW7);let Vf:=X β l (s9^s8^aaP);let Tc:=X β OD hG9;let Vg:=X β t (s9^af9);change ψ H9 x _=FH at x10 Ve S9 Ta Vf Tc Vg ⊢;rwa[4,λI nE=>{12,x,_,B,12,ao.ψ nE β x10,aO T,T.ki,aop OG ⋯,5}];let Vh:I≠x:=(ax x10 nE).Τ;let kE:=n0 Ve nE Vh;let nER:I≠u:=(ax S9 nE).Τ;let nEW:I≠G:=(ax Ta nE).Τ;let nEG:I≠N:=(ax Tc nE).Τ;generalize e_:ψ FH I _=IW;let[y,agb]:=dc e_ nE;let[W,OI,F]:=st (f:=LF) (v:=?I) (y^x10) (λb o e n=>y^Ve b o e n);let f12:=kB (f:=LF) (v:=?I) OG;generalize e12:bP LF ?I aga=agc at W OI f12 F ⊢;let R:=F β C (y^S9);let J:=F β U (y^Ta);let Vi:=F β l (y^Vf);let S:=F β OD (y^Tc);let Z:=F β t (y^Vg);let O:=F β Vh agb;change ψ IW x _=OJ at W OI R J Vi S Z O ⊢;rwa[4,λcl r=>{TM,λM nC=>{12,x,_,B,12,ao.ψ nC β (ao.ψ r β W),aO T,T.pH,aop f12 ⋯,5}}];let Td:cl≠x:=(ax W r).Τ;let kcl:=n0 OI r Td;let ncR:cl≠u:=(ax R r).Τ;let ncW:cl≠G:=(ax J r).Τ;let ncG:cl≠N:=(ax S r).Τ;let ncE:cl≠I:=(ax O r).Τ;let a:=ao.ψ (o:=.Ν [.υ 0]) r;let z:ψ OJ cl (.Ν [.υ 0]) cl\(.Ν [.υ 0]):=aj;change ψ OJ cl _=H13 at a z nC ⊢;let nxC:M≠x:=(ax (a^W) nC).Τ;let kC:=n0 (λb o e n=>a^OI b o e n) nC nxC;let nCR:M≠u:=(ax (a^R) nC).Τ;let nCW:M≠G:=(ax (a^J) nC).Τ;let nCG:M≠N:=(ax (a^S) nC).Τ;let nCE:M≠I:=(ax (a^O) nC).Τ;let nCc:M≠cl:=(ax z nC).Τ;generalize e_:ψ H13 M _=H14;let[m,agd]:=dc e_ nC;let[OL,Vj,q]:=st (f:=LH) (v:=?M) (m^a^W) (λb o e n=>m^a^OI b o e n);let Vk:=kB (f:=LH) (v:=?M) f12;generalize e15:bP LH ?M agc=age at OL Vj Vk q ⊢;let Te:=q β C (m^a^R);let Tf:=q β U (m^a^J);let Vl:=q β l (m^a^Vi);let Tg:=q β OD (m^a^S);let Vm:=q β t (m^a^Z);let Ti:=q β Vh (m^a^O);let D:=q β Td (m^z);let Tj:=q β nxC agd;change ψ H14 x _=H15 at OL Vj Te Tf Vl Tg Vm Ti D Tj ⊢;rwa[aoN _,λY nN=>{12,x,_,B,12,ao.ψ nN β OL,aO T,T.va,aop Vk ⋯,5}];let nxN:Y≠x:=(ax OL nN).Τ;let kN:=n0 Vj nN nxN;let nNR:Y≠u:=(ax Te nN).Τ;let nNW:Y≠G:=(ax Tf nN).Τ;let nNG:Y≠N:=(ax Tg nN).Τ;let nNE:Y≠I:=(ax Ti nN).Τ;let nNC:Y≠M:=(ax Tj nN).Τ;let nNc:Y≠cl:=(ax D nN).Τ;generalize e_:ψ H15 Y _=H16;let[g,agf]:=dc e_ nN;let[x17,o17,j]:=st (f:="went") (v:=?Y) (g^OL) (λb o e n=>g^Vj b o e n)
  let ef:bP "went" ?Y age=gO (L:π) 1 ⟨B,u,G,N,I,M,Y,[],[wd],[gd],[cl]⟩:=by kernel_rfl
  rw[ef]at x17 o17 j ⊢;rwa[k {B,u,G,N,I,M,Y,[],[wd],[gd],[cl]} _ o17 {x17,j β C (g^Te),j β U (g^Tf),j β OD (g^Tg),j β Vh (g^Ti),j β nxC (g^Tj),j β nxN agf,{2,(λi p d h=>by simp at h)},555,(λd hd=>by ext hd),55} ?_]
  .rwa[ū.ċ (ps:=[]) (xs:=[]) {2,λi p d h=>by simp at h} (j β l (g^Vl))]
  .rwa[ū.ċ (ps:=[]) (xs:=[]) {2,λi p d h=>by simp at h} (j β t (g^Vm))]
  .rwa[ū.ċ (ps:=[]) (xs:=[]) {2,λi p d h=>by simp at h} (j β Td (g^D))]
  .show [u,G,N,I,M,Y,cl].Á;simp only[ao0,aoC,apl,aqM,not_or,aqb,and_true,aqF]
   cbv
  .show [wd,gd].Á;simp only[ao0,aoC,apl,aqM,aqb,and_true,aqF];rwa[ngw.Τ]
  .intro b hb;rcases hb with rfl|hb|hb
   .rwa[.Α Ų]
   .simp only[RA.ò,aoC,apl,aqM]at hb
    cbv
   .simp only[RA.fF,aov,aoC,apl,aqM]at hb
    cbv
def _root_.Lake.L2.aD.FI {r:Zs}(h:SB){p:Zs}(b:H p=ε):¬O.own r p:=λz=>by
 let[o,e]:=h.there z
 cbv
def DE (T:ų):T.sO.Ok mg P w Β 3 (Oy A.aH):=by
 rwa[T.sO.on tU (λcf AA Ψ s H vs Q E hr h=>?_)]
 .let[r,S,a,c,z,Ų,h,hw,tW,FG,hc,hm,pM,hz,k]:=h
  erw[_,{{ZV tU.nd (0<<<1),ώ MU Ų,aX (ŵ (0<<<1) #[bh #[dq (l:=[110,101,119]) Ų,1,2,3]]),aX (ŵ (0<<<1) #[eJ]),aX (ŵ (0<<<1) #[pc T.sM (xq T) hr #[0<<<1]]),aX (ŵ (0<<<1) #[3]),aX (ŵ (0<<<1) #[bH #[3]]),aX (Wp T.oC (tV T) hr #[1,2,3]),aZ (pv 3)}}]
  erw[12,r,_,a.dx,112,h.ins,aO T,T.rJ,vM^_];erw[12112212,r,_,a.dx,12,h.ins,aO T,T.rJ,(by show 8<1000;decide)];rw[Nu,show (S.q:π)+ 1=((S.q+ 1:η):π) by ext];let h1:=h.WD (S.q+ 1);let u1:dB a r H (ψ H r (.ins A.aH a.dx (tz ((S.q+ 1:η):π) a))):=dB.ψ (.Α Ų);change ψ H r _=H1 at h1 u1 ⊢;let lR:@(a.rs.Κ V.É)<Ε:=by rw[aog,h.rR.1];rwa[aop pM ⋯]
  rwa[12,r,_,a.dx,112,h1.ins,aO T,T.u6,vN^_,.Α {21,ay.of h1.hR},121212,(Za4 4),λt ht=>{a.aR,1122,ao.ψ ht β h1.hR,lR,5}];generalize e_:ψ H1 t _=H2;let[s2,OO]:=dc e_ ht
  let hd2:bK H2 4 ?t (um c z S.q):=by
   rwa[.t OO Ų λj v d q F=>?_]
   rcases j with _|_|_|_|j
   .simp at q F;subst q F;rwa[.s]
   .simp at q F;subst q F;rwa[.i]
   .simp at q F;subst q F;rwa[.i]
   .simp at q F;subst q F;rwa[.i]
   .simp at q
  let nl:oW (um c z S.q):=.t (by show 4<=100000;decide) λd hd=>by
   simp only[aoC,apl,aqM]at hd;rcases hd with rfl|rfl|rfl|rfl
   .rwa[.s]
   .rwa[.i]
   .rwa[.i]
   .rwa[.i]
  let B:=(h1.Μ s2).Eu hd2 nl;let u3:dB a r H2 (nv a.aR (.Ν (a.rs.Κ V.É++[?t]))):=dB.ψ (.Ç (.Α gZ));change ψ H2 a.aR _=H3 at B u3 ⊢;generalize ea3:({ a with rs:=a.rs++[t] }:RA)=p at B;let R:∀b,p.own r b->a.own r b:=λb f=>by rw[<-ea3]at f;rwa[f]
  let U3:dB a r H H3:=u1.ν (λb o f e=>u3 b o f (s2^e));erw[12,r,_,p.dx,112,B.ins,aO T,T.j1,jC^_,.Α {21,ay.of B.hW}];intro wd u;let hdW:@(p.ws.Κ V.É)<Ε:=by rw[aog,B.rW.1];rw[hw.w];rwa[aop hm ⋯]
  let s4:=ao.ψ (o:=.dK []) u;let I:ψ H3 wd (.dK []) wd\(.dK (wK [])):=aj;let agg:=B.FI u;erw[p.aW,1122,s4^B.hW,hdW];change ψ H3 wd _=H4 at s4 I ⊢;let C:=(B.Μ s4).YW I (λz=>agg (.Ç (.Ç z)));let u5:dB p r H4 (ψ H4 p.aW (.Ν (p.ws.Κ V.É++[?wd]))):=dB.ψ (.Ç (.Α hH));change ψ H4 p.aW _=H5 at C u5 ⊢;generalize ea5:({ p with ws:=p.ws++[wd] }:RA)=m at C
  let amE:∀b,m.own r b->p.own r b\/b=wd:=λb f=>by
   rw[<-ea5]at f;rcases f with f|f|f
   .rwa[.Α (.Α f)]
   .rwa[.Α (.Ç (.Α f))]
   .simp only[RA.fF,aov,aok]at f;rcases f with (f|f)|f
    .rwa[.Α (.Ç (.Ç (Of f)))]
    .rwa[.Ç f]
    .rwa[.Α (.Ç (.Ç (Q2 f)))]
  let kwd:H wd=ε\/a.own r wd:=by
   cases y:a.own r wd
   .rwa[.Ç y]
   .rwa[.Α ?_]
    cases e:H wd with
    |ε=>rfl
    |ι o=>rw[U3 wd o y e]at u;ext u
  let U5:dB a r H H5:=U3.ν λb o f e=>u5 b o (λz=>f (R b z)) (s4^e)
  rwa[12,r,_,m.dx,112,C.ins,aO T,T.u9,vO^_,.Α {21,ay.of C.hG},12,r,_,m.dx,112,C.ins,aO T,T.u0,y7^_,S.L,2,tW,FG,λx H6 s6 L O=>?_];let hdG:@(m.gs.Κ V.É)<Ε:=by rw[aog,C.rG.1];rw[hw.g];rwa[aop hm ⋯]
  let h6:=C.Μ s6;let Y:=C.FI L;erw[m.aG,1122,h6.hG,hdG];let N:=h6.YX O (λz=>Y (.Ç (.Ç z)));let u7:dB m r H6 (ψ H6 m.aG (.Ν (m.gs.Κ V.É++[?x]))):=dB.ψ (.Ç (.Α j7));change ψ H6 m.aG _=H7 at N u7 ⊢;generalize ea7:({ m with gs:=m.gs++[x] }:RA)=g at N
  let amF:∀b,g.own r b->m.own r b\/b=x:=λb f=>by
   rw[<-ea7]at f;rcases f with f|f|f
   .rwa[.Α (.Α f)]
   .rwa[.Α (.Ç (.Α f))]
   .simp only[RA.fF,aov,aok]at f;rcases f with f|f|f
    .rwa[.Α (.Ç (.Ç (Of f)))]
    .rwa[.Α (.Ç (.Ç (Q2 f)))]
    .rwa[.Ç f]
  let agh:∀b o,¬a.own r b->H b\o->¬m.own r b:=λb o f e z=>by cbv
  let U7:dB a r H H7:=λb o f e=>u7 b o (agh b o f e) (s6^U5 b o f e)
  let kgd:H x=ε\/a.own r x:=by
   cases y:a.own r x
   .rwa[.Ç y]
   .rwa[.Α ?_]
    cases e:H x with
    |ε=>rfl
    |ι o=>rw[U5 x o y e]at L;ext L
  erw[12,r,_,g.dx,112,N.ins,aO T,T.ki,kz^_,.Α {21,ay.of N.hE},12,g.aE,1122,N.hE,5]
  .rw[aF,cJ];rw[hw.e];rwa[aop hm ⋯]
  let eE:aw (nI S.bu)++[V.υ (S.q:π)]=aw (nI (S.bu++[S.q])):=by rw[jX,ï];rfl
  let G:=N.Ci (S.bu++[S.q]);rw[<-eE]at G;let u8:dB g r H7 (ψ H7 g.aE (.Ν (aw (nI S.bu)++[V.υ (S.q:π)]))):=dB.ψ (.Ç (.Α iD));change ψ H7 g.aE _=H8 at G u8 ⊢
  let D:∀b o,¬a.own r b->H b\o->¬g.own r b:=λb o f e z=>by cbv
  let U8:dB a r H H8:=λb o f e=>u8 b o (D b o f e) (U7 b o f e)
  rwa[12,r,_,g.dx,112,G.ins,aO T,T.pH,p5^_,.Α {21,ay.of G.hC},12,TM,λcl n=>{g.aC,1122,ao.ψ n β G.hC,55}]
  .rw[aog,G.rC.1];rw[hw.c];rwa[aop hm ⋯]
  generalize e_:ψ H8 cl _=H9;obtain⟨s9,U⟩:_/\_\(.Ν (aw (nI [S.q]))):=dc e_ n;let X:=G.FI n;let M:=(G.Μ s9).Nv U (λz=>X (.Ç (.Α z)));let W:dB g r H9 (ψ H9 g.aC (.Ν (g.cs.Κ V.É++[?cl]))):=dB.ψ (.Ç (.Α jE));change ψ H9 g.aC _=FH at M W ⊢;generalize Z:({ g with cs:=g.cs++[cl] }:RA)=i at M
  let amx:∀b,i.own r b->g.own r b\/b=cl:=λb f=>by
   rw[<-Z]at f;rcases f with f|f|f
   .rwa[.Α (.Α f)]
   .let Vn:b∈g.ò++[cl]:=f;rcases aov.mp Vn with f|f
    .rwa[.Α (.Ç (.Α f))]
    cbv
   .rwa[.Α (.Ç (.Ç f))]
  let kcl:H cl=ε\/a.own r cl:=by
   cases y:a.own r cl
   .rwa[.Ç y]
   .rwa[.Α ?_]
    cases e:H cl with
    |ε=>rfl
    |ι o=>rw[U8 cl o y e]at n;ext n
  let J:∀b o,¬a.own r b->H b\o->¬i.own r b:=λb o f e z=>by cbv
  let U10:dB a r H FH:=λb o f e=>W b o (D b o f e) (s9^U8 b o f e)
  let hS:aD A.aH FH r (S.Ģ c z (bJ (2* S.L))) i:=M;rwa[12,r,i.dx,12,hS.ins,Zw ⋯,121212,r,S.Ģ c z (bJ (2* S.L)),i,c,S.q,z,2,hS,{5555},555,λIW u11 h11=>?_]
  .show @(S.ways++[[]])=S.q+ 1;rw[aoj,hw.w];rfl
  .show @(S.gaps++[_])=S.q+ 1;rw[aoj,hw.g];rfl
  .show @(S.bu++[_])=S.q+ 1;rw[aoj,hw.e];rfl
  .show @(S.called++[_])=S.q+ 1;rw[aoj,hw.c];rfl
  .show c<S.q+ 1;ext
  .show S.q<S.q+ 1;ext
  .intro l hl;rcases aov.mp hl with hl|hl
   .rwa[hz l hl]
   cbv
  .rwa[_,Ų,k i IW (λb o f e=>u11 b o (J b o f e) (U10 b o f e)) h11 λb f=>?_]
   cbv
def oj (T:ų):T.jI.Ok mg P w Β 1 (Ad A.aH):=by
 rwa[T.jI.on wF (λp B j s H y Q E F h=>?_)]
 .let[r,S,a,Ų,h,hw,u,k]:=h;erw[_,{{aZ (zh (fns:=[Ż]) (ixs:=[0]) (cl:=_) Ų (WF #[0<<<1]) (b0 [(_,_)] Ų {22222,þ.intro} Ų) (λC s H ex=>(FS (aM (jk (K:=K) Ų) (WH (K:=K) Ų (pv 1) Ų) (pv 0) (λ_ _=>rfl)) (pv 0) (bq _))) (λC s H ex=>(pv 0)))}}];erw[12,r,_,a.dx,112,h.ins,aO T,T.rJ,vM^_,(S.q:π),233];erw[λi m ys l=>m=S.q - i/\i<=S.q/\ys=aw (nI ((~~~i).Ö λc=>decide (S.bu[c]?\c)))/\l=H,{S.q,by simp,aoN _,22}];rintro i m ys l ⟨rfl,G,Ų,rfl⟩
  let æ:@(aw (nI ((~~~i).Ö λc=>decide (S.bu[c]?\c))))<=i:=by rw[aF,cJ];rwa[aot (aph β) (by cbv)]
  cases b:i<S.q
  .rwa[.Ç {b,5,λx v g=>?_}]
   .rwa[aop (aot æ (show i<=100000 by omega)) ⋯]
   let[Ų,Ų]:=g;obtain⟨d,n⟩:∃t,S.bu[i]?\t:={S.bu[i]'([hw.e]▸b),aoe _}
   change d=e at n;erw[12,r,_,a.dx,112,h.ins,aO T,T.ki,kz^_,12,a.aE,11122,ay.of h.hE,([arX]▸bX (bR (lA n)))];erw[12212];cases f:e=i
   .subst f;rw[show decide (V.υ (e:π)=V.υ (0+ (e:π)))=ρ from aoP (by rw[arX])];rwa[12,S.q - (e+ 1),32,b,52];rw[apC,apV,aqO (by cbv),θ.filter_nil,jX,ï,arX];rfl
   .rw[show decide (V.υ (e:π)=V.υ (0+ (i:π)))=ς from apd (λz=>f (by injection z with z;omega))];rwa[S.q - (i+ 1),32,b,52];rw[apC,apV,θ.filter_cons_of_neg (by cbv),θ.filter_nil,aoJ]
  .let e:i=S.q:=∅
   subst e;rwa[.Α {aoo _,aot æ (aot u ⋯),λD o=>k D o}]
def rP (T:ų):T.mO.Ok mg P w Β 5 (IV 2 A.aH):=by
 rwa[T.mO.on Bn (λcf AA n s H vs Q E B h=>?_)]
 .let[r,S,a,Ų,h,F,u,k]:=h;erw[_,{{aZ (eK (fns:=[]) (ixs:=[]) (cl:=[]) Ų (ck (0<<<1)) (b0 [] Ų þ.intro Ų) (λC s H ex=>(pc T.own (CL T) B #[0])))}}];erw[12,r,_,a.dx,112,h.ins,aO T,T.u6,vN^_,a.aR,2,{_,ay.of h.hR}];let m:@(a.rs.Κ V.É)=@S.rows:=by rw[aog,h.rR.1]
  let M:∀i,i<@S.rows->∃p d,a.rs[i]?\p/\S.rows[i]?\d/\d∈S.rows/\bK H 4 ?p d:=λi g=>by let c:=aoe g;let[p,o,q]:=h.rR.at c;rwa[p,_,o,c,aoi c,q]
  rwa[iw @S.rows (λi=>(a.rs.Κ V.É).á i .non) (λb v i=>∃p d,v=?p/\S.rows[i]?\d/\oW d/\bK b 4 ?p d) (λH1 b v i s ζ=>by let[p,x,e,f,hn,q]:=ζ;rwa[p,x,e,f,hn,q.Μ s]) ?_ (λi b s2 g=>iP (ay.of (s2^h.hR)) i ∅) (λi x b H3 s2 g y=>?_) (λb s2=>?_) (λi b Rr g s2 kk=>?_) (λD b ys s2 O W B=>?_)]
  .rwa[aot F ⋯]
  .let[e,G]:=gk (ay.of (s2^h.hR)) i x H3 ∅ y;erw[e];rw[aom,G];rfl
  .have:=fm (ay.of (K:=K) (s2^h.hR));rw[m]at Δ;rwa[Δ]
  .let[p,d,o,c,j,q]:=M i g;let G:(a.rs.Κ V.É).á i .non=?p:=by rw[aom,aon,o];rfl
   let q1:=(u p d j q).Μ s2;rw[G];rwa[12,?p,d,2,q1,h.flat d j,λv' H' Z Y=>?_]
   have:∃L,v'=?L:=by
    let J:∃U,d=.t U:=by
     cases q with
     |t=>cbv
     |l=>exact Ρ (h.flat _ j) (λz=>by ext z)
    let[U,Ų]:=J
    cases Y with
    |t=>cbv
   let[L,Ų]:=Δ;rwa[kk _ H' Z {L,d,2,c,h.flat d j,Y.le ⋯}]
  .let[R,Ų,I]:=L2.A3 (P:=λi p=>∃d,S.rows[i]?\d/\bK b 4 ?p d) ys 0 (λi v hv=>by obtain⟨p,d,e,f,-,q⟩:=B i v hv;rw[arK];rwa[p,e,d,f,q])
   let N:ao b (ψ b D (.Ν (R.Κ V.É))):=ao.ψ O;rw[aog]at W;rwa[k D R _ (s2.ν N) (s2.free O) aj {W,λi p d e1 f=>?_}];let[d',X,q]:=I i p e1;rw[arK]at X;obtain rfl:d'=d:=Za0 (X.Τ.ν f);rwa[q.Μ N]
def dG (H:Hp)(p:Zs)(a:Ze):ο:=∃b:Zn,H p\.Ν (b.Κ V.É)/\ū (λq (w:Way)=>H q\.Ò [.υ (w.1:π),.υ w.2.1,.υ (w.2.2:π)]) b a
def sT (a:RA)(r p:Zs)(H c:Hp):ο:=∀b o,¬a.own r b->b≠p->H b\o->c b\o
def dG.Ï {c:Ze}(h:dG H a c)(k:∀o,H a\o->I a\o)(f:∀b d,H b\.Ò d->I b\.Ò d):dG I a c:=by let[g,j,i]:=h;rwa[g,k _ j,i.Ŋ λq w _ _ e=>f^e]
structure Small (S:RS):ο where
 m:S.q<=100000
 w:∀l∈S.ways,@l<=100000
 r:@S.rows<=1000000
 n:@S.bz<=1000000
 c:∀l∈S.called,@l<=1000000
inductive FJ (C:Zs)(vs:Zb)(H:Hp)(Q:VK)(E_:XK):ο
 |mk (r p:Zs)(S:RS)(a:RA)(c:η)(Ë:Ze):vs=[?r,.υ c,?p]->aD C H r S a->S.Wf->c<S.q->Kp S c->(∀l∈S.ways,@l<=100000)->dG H p Ë->¬a.own r p->@Ë<=1000000->(∀a' H',pb H'->aD C H' r (S.qZ c Ë).1 a'->dG H' p (S.qZ c Ë).2->(∀b,JI b->a.own r b\/H b=ε)->Q .non H')->FJ C vs H Q E_
inductive IX (C:Zs)(vs:Zb)(H:Hp)(Q:VK)(E_:XK):ο
 |mk (r p:Zs)(S:RS)(a:RA)(c x y:η)(z:π)(Ë:Ze):vs=[?r,.υ c,.υ z,.υ x,.υ y,?p]->aD C H r S a->S.Wf->x<S.q->y<S.q->x≠y->Kp S Ž->(∀n∈S.cL Ž,n<S.q)->Small S->dG H p Ë->¬a.own r p->@Ë<=1000000->(∀a' H',pb H'->aD C H' r (S.đ c z x y Ë).1 a'->dG H' p (S.đ c z x y Ë).2->(∀b,JI b->a.own r b\/H b=ε)->Q .non H')->IX C vs H Q E_
structure Ag (S:RS):ο where
 wf:S.Wf
 el:∀c,c<S.q->S.az c<S.q
 bl:∀c z d,S.by c z=ι d->d<S.q
 cl:∀c,∀n∈S.cL c,n<S.q
 off:∀c,c<S.q->Kp S c
 sm:Small S
inductive FK (C:Zs)(vs:Zb)(H:Hp)(Q:VK)(E_:XK):ο
 |mk (r t p:Zs)(S:RS)(a:RA)(w:Way)(Ë:Ze):vs=[?r,?t,?p]->aD C H r S a->H t\.Ò [.υ (w.1:π),.υ w.2.1,.υ (w.2.2:π)]->Ag S->w.1<S.q->w.2.2<S.q->dG H p Ë->¬a.own r p->@Ë<=1000000->(∀a' H',pb H'->aD C H' r (S.í Ë w).1 a'->dG H' p (S.í Ë w).2->(∀b,JI b->a.own r b\/H b=ε)->Q .non H')->FK C vs H Q E_
inductive Vo (C:Zs)(vs:Zb)(H:Hp)(Q:VK)(E_:XK):ο
 |mk (r q:Zs)(S:RS)(a:RA)(c d:η)(z:π)(row:Dt)(I:RS->Ze->ο)(μ:RS->Ze->η):vs=[?r,.υ c,.υ z,.υ d,?q]->aD C H r S a->@S.rows<=1000000->bK H 2 ?q row->oW row->I { S with rows:=S.rows++[row] } [(c,z,d)]->(∀S Ë w,I S (Ë++[w])->Ag S/\w.1<S.q/\w.2.2<S.q/\@Ë<=1000000/\I (S.í Ë w).1 (S.í Ë w).2/\μ (S.í Ë w).1 (S.í Ë w).2 < μ S (Ë++[w]))->(∀S' a' H',dB a r H H'->aD C H' r S' a'->I S' []->(∀b,JI b->a.own r b\/H b=ε)->Q .non H')->Vo C vs H Q E_
def rQ (h:i<n):pY n (i:π)\i:=by unfold pY;rw[aoO ∅,aoO ∅,ao8]
def Tn {l:θ (π×η)}(a:(l.Κ (·.1)).Á){q:π×η}(h:q∈l):fZ l q.1\q.2:=by
 induction l with
 |nil=>ext h
 |È p l b=>
  unfold fZ;rw[apF,ao0]at a;cases e:p.1=q.1
  .cbv
  .rw[aqZ (by simpa using e)];rcases aoC.mp h with rfl|h
   .rwa[Ρ Ų e]
   .rwa[b a.2 h]
def yp (T:ų):T.nT.Ok mg P w Β 1 (FJ A.aH):=by
 rwa[T.nT.on iH (λcf AA Ψ s H vs Q E hr h=>?_)]
 .let[r,p,S,a,c,d,Ų,h,hw,hc,ok,sm,hP,np,j4,k]:=h;let y4:=iC hr
  erw[_,{{ZV iH.nd ((0<<<1)|||1),ji eJ (jV (0<<<1) (pv 1) ŀ),ž (ck (Zx #[3])) (Sa iH.nd)
    {{LE iH.nd (jz y4 (pv 3) (pv 4) (λ_ _=>rfl)),bS (bL (a9 vz (pv 5) (pv 1) (bq _))
     {{aX (Rl ((0<<<1)|||5) (Ev (pv 4)) ⟨2222⟩)}}
     bf),aX (RI #[bh #[1,4,5]])}}}}]
  let N:c<@S.ways:=by rw[hw.w];rwa[hc]
  let[wd,u,hWD]:=h.rW.at (rO N);let hl0:@(S.way c)<=100000:=FD sm;erw[12,r,_,a.dx,112,h.ins,aO T,T.j1,jC^_,12,a.aW,11122,ay.of h.hW,bZ u];intro W C;generalize e_:ψ H W _=H1;obtain⟨s1,agi⟩:_/\_\(.dK (wK [])):=dc e_ C;let nn:=h.FI C;let nnp:W≠p:=λz=>by let[G,q1,_]:=hP;cbv
  let h1:=h.Μ s1;let hi:c<@a.ws:=by rw[h.rW.1];rwa[N]
  erw[12,r,_,a.dx,112,h1.ins,aO T,T.j1,jC^_,12,a.aW,11,c,22,h1.hW,rQ ([aog]▸hi)];let h2:=h1.YZ hi agi (λz=>nn (.Ç (.Ç z)));let u2:∀b o,b≠a.aW->H1 b\o->ψ H1 a.aW (.Ν ((a.ws.Κ V.É).set c ?W)) b\o:=λb o v e=>by rw[aq v];rwa[e]
  change ψ H1 a.aW _=H2 at h2 u2 ⊢;let npW:p≠a.aW:=λz=>np (.Ç (.Α ([z]▸hH)))
  let wdW:wd≠a.aW:=(h.ld hH (dW i0)).Τ;let L:H2 wd\(.dK (wK ϰ)):=u2 β wdW (s1^hWD);generalize IY:({ a with ws:=a.ws.set c W }:RA)=a2 at h2;let Uw:aD A.aH H2 r (VI d []).1 a2:=h2
  let agj:¬a2.own r wd:=λz=>by
   rw[<-IY]at z;rcases z with z|z|z
   .rwa[(h.rd (dW i0)) z.Τ]
   .rwa[h.ld z (dW i0) Ų]
   .let ndp:=apb.mp h.oX;let z':wd∈a.ws.set c W++a.gs:=z;rcases aov.mp z' with z|z
    .let[j,J]:=apm z;cases e:c=j
     .subst e;rw[ao9 hi]at J;have:W=wd:=Za0 J;rw[Δ,hWD]at C;ext C
     .rw[apz e]at J;rwa[e ((aro hi ndp.1).mp (u.ν J.Τ))]
    .rwa[ndp.2.2 wd i0 wd z Ų]
  let I:∀b,a2.own r b->a.own r b\/H b=ε:=λb f=>by
   rw[<-IY]at f;rcases f with f|f|f
   .rwa[.Α (.Α f)]
   .rwa[.Α (.Ç (.Α f))]
   .let Vn:b∈a.ws.set c W++a.gs:=f;rcases aov.mp Vn with f|f
    .rcases aqx f with f|rfl
     .rwa[.Α (.Ç (.Ç (Of f)))]
     .rwa[.Ç C]
    .rwa[.Α (.Ç (.Ç (Q2 f)))]
  let Ah:¬a2.own r p:=λz=>by
   rcases I p z with q|q
   .rwa[np q]
   .let[G,q1,_]:=hP;cbv
  let hP2:dG H2 p (VI d []).2:=hP.Ï (λo e=>u2 β npW (s1^e)) (λb R e=>u2 β (h.tl e hH) (s1^e));let B2:sT a r p H H2:=λb o v _ e=>u2 β (λz=>v (.Ç (.Α ([z]▸hH)))) (s1^e)
  rwa[12,wd,12,L,λl nl=>?_];let s3:=ao.ψ (o:=.Ν ((wK ϰ).Κ λD=>kV D.1)) nl;let U:ψ H2 l (.Ν ((wK ϰ).Κ λD=>kV D.1)) l\(.Ν ((wK ϰ).Κ λD=>kV D.1)):=aj;let CM:=Uw.FI nl;let nlp:l≠p:=λz=>by let[G,q1,_]:=hP2;cbv
  let Vp:l≠wd:=λz=>by cbv
  change ψ H2 l _=H3 at s3 U ⊢;erw[l,2,{_,ay.of U}];let æ:@((wK ϰ).Κ λD=>kV D.1)=@(S.way c):=by rw[aog,Er]
  rwa[cF (xs:=(wK ϰ).Κ λD=>kV D.1) (λi σ F=>∃v4 v5,σ=#v[?r,.υ (c:π),?p,?wd,v4,v5]/\aD A.aH F r (VI d ((S.way c).Χ i)).1 a2/\dG F p (VI d ((S.way c).Χ i)).2/\(∀b o,¬a2.own r b->b≠p->H3 b\o->F b\o)) ⟨ε,ε,2,Uw.Μ s3,hP2.Ï (λo e=>s3^e) (λb R e=>s3^e),λb o _ _ e=>e⟩ (λi σ F _ ζ=>by let[_,_,_,_,_,X]:=ζ;rwa[ay.of (X β CM nlp U)]) ?_ ?_]
  .rintro i x σ F hx ⟨v4,v5,Ų,M,y,X⟩;let O:i<@(S.way c):=by rw[<-æ];rwa[(aoh.mp hx).1]
   obtain⟨fA,hg⟩:∃gx,ϰ[i]?\gx:={ϰ[i]'O,aoe O}
   change fA=w at hg
   let ex:x=.υ w.1:=by unfold wK at hx;rw[aon,aon,hg]at hx;rwa[(Za0 hx).Τ]
   subst ex;let hm:=aoi hg;let Ai:(S.way c).Χ (i+ 1)=(S.way c).Χ i++[w]:=by rw[ao2,hg];rfl
   let agk:F wd\(.dK (wK ϰ)):=X β agj (λz=>by let[G,q1,_]:=hP2;cbv) (s3^L);let hv:bF (wK ϰ) (Sum.Α w.1)\(.υ (w.2:π)):=by rw[mX,Tn ok.nd hm];rfl
   let wV:=ok.lt w hm;let hol:=(iz c S d ((S.way c).Χ i)).1;erw[1212,wd,12,(by have:=dF.k (k:=Sum.Α w.1) agk;rw[hv]at Δ;rwa[Δ])];erw[λ fH H'=>fH=#v[?r,.υ (c:π),?p,?wd,.υ w.1,.υ (w.2:π)]/\aD A.aH H' r (VI d ((S.way c).Χ (i+ 1))).1 a2/\dG H' p (VI d ((S.way c).Χ i)).2/\(∀b o,¬a2.own r b->b≠p->H3 b\o->H' b\o),5]
   .rwa[1212212,cQ (λYH=>?_) (λYH=>?_)]
    .let n:w.2≠c:=λz=>by cbv
     let hd2:w.2<(VI d ((S.way c).Χ i)).1.ways.ü:=by rw[hol,hw.w];rwa[wV]
     let[pd,B,hPD]:=M.rW.at (rO hd2)
     let Nz:((VI d ((S.way c).Χ i)).1.by w.2 (-w.1)).ě=ρ:=by
      rw[A4 N _ (λq hq=>[hw.w]▸ok.lt q (aru hq)),aoK]
      .rwa[ok.bk w hm n]
      .rintro (q|⟨q,hq,q1,q2⟩)
       .rwa[n q]
       .let[j,J]:=apm hq
        let hji:j<i:=by have:=(aoh.mp J).1;rw[aoX]at Δ;ext
        rw[arG hji]at J;let e1:((S.way c).Κ (·.1))[j]?\q.1:=by rw[aon,J];rfl
        let e2:((S.way c).Κ (·.1))[i]?\w.1:=by rw[aon,hg];rfl
        let e3:q.1=w.1:=∅
        rw[e3]at e1;have:=(aro ([aog]▸O) ok.nd).mp (e2.ν e1.Τ);ext
     let[m,Aj]:=arF.mp Nz;erw[12,r,_,a2.dx,112,M.ins,aO T,T.j1,jC^_,12,a2.aW,11122,ay.of M.hW,bZ B,pd,2,.Α {_,.Α hPD},12121,Sum.Α (-w.1),.υ (m:π),hPD,25]
     .rw[mX];show ((VI d ((S.way c).Χ i)).1.by w.2 (-w.1)).Κ _=_;rw[Aj];rfl
     .rw[WK];rwa[25,y.Ï (λo e=>?_) (λb R e=>?_),λb o v g e=>?_]
      .rw[Ai,jl];unfold kF;simp only[n,arV,aqF,ne_eq];rwa[M.Ew B _]
      .rw[aq (λz=>Ah (.Ç (.Ç (dW ([z]▸aoi B)))))];rwa[e]
      .rw[aq (M.td e (dW (aoi B)))];rwa[e]
      .rw[aq (λz=>v (.Ç (.Ç (dW ([z]▸aoi B)))))];rwa[X b o v g e]
    .let n:w.2=c:=by
      cases e:w.2=c
      .rwa[e]
      .cbv
     rwa[25,y,X];rw[Ai,jl];unfold kF
     cbv
   rintro fH H5 ⟨rfl,h5,hP5,kk5⟩;let[G,Z,tX]:=hP5
   let hql:@(G.Κ V.É)<Ε:=by rw[aog,tX.1,Cj,aoj,aog,aoX];rwa[aop (show _<=1100000 by omega) ⋯]
   rwa[12,.Α {21,ay.of Z},121212,(Za4 3),λt nt=>?_];generalize e_:ψ H5 t _=H6;let[s6,OQ]:=dc e_ nt;erw[p,1122,s6^Z,hql];let kp:∀b o,b≠p->H6 b\o->ψ H6 p (.Ν (G.Κ V.É++[?t])) b\o:=λb o v e=>by rw[aq v];rwa[e]
   let Y:∀b R,H6 b\.Ò R->ψ H6 p (.Ν (G.Κ V.É++[?t])) b\(.Ò R):=λb R e=>kp β (IM (s6^Z) (by cbv)) e
   rwa[112,(h5.Μ s6).Ï (λb o f e=>kp b o (λz=>Ah (z ▸ f)) e) Y,{G++[t],55},λb o v g e=>kp b o g (s6^kk5 b o v g e)]
   .rw[aj,aoE];rfl
   .rw[Ai,jl];rwa[(tX.Ŋ λq w' _ _ e=>Y^s6^e).ċ (Y^OQ)]
  .rintro σ F ⟨v4,v5,Ų,M,y,X⟩;rw[æ,apc]at M y;rwa[k a2 F (λb o v g e=>?_) M y I];let e2:=B2 b o v g e;rwa[X b o (λz=>by cbv) g (s3^e2)]
def Ak (h:n<@S.called):S.called[n]?\(S.cL n):=by unfold RS.cL;cbv
def pN (h:n<@S.bu):S.bu[n]?\(S.az n):=by unfold RS.az;cbv
def OS (h:∀l∈S.called,@l<=m):@(S.cL n)<=m:=by
 unfold RS.cL;rw[aom]
 cases e:S.called[n]? with
 |ε=>exact aoN _
 |ι l=>exact h l (aoi e)
theorem yq (x:η):∀(l a:Zh),@(l.ă (λa n=>a.set n x) a)=@a
 |[],_=>rfl
 |n::l,a=>by rw[aqd,yq x l,aoR]
def ints_set (ns:Zg)(i:η)(z:π):(aw ns).set i (.υ z)=aw (ns.set i z):=by unfold aw;rw[θ.map_set]
def kS (T:ų):T.gI.Ok mg P w Β 2 (IX A.aH):=by
 rwa[T.gI.on fj (λcf AA Ψ s H vs Q E hr h=>?_)]
 .let[r,p,S,a,c,x,y,z,f,Ų,h,hw,hx,hy,hxy,ok,IZ,sm,hP,np,j4,k]:=h
  erw[_,{{bp 6 fj.nd (NI #[3,4]),bp 7 fj.nd (NL #[3,4]),aX (ŵ (0<<<1) #[bh #[dq (l:=[109,101,101,116]) Ų,1,2,6,7]]),aX (ŵ (0<<<1) #[7]),ž (ck ((0<<<1)|||7)) (cU 8 fj.nd)
    {{ji (pv 6) (jV (0<<<1) (pv 8) ŀ)}},aX (Lo ud ((0<<<1)|||6) #[(0<<<1)|||7]),aX (Wp T.nT (yp T) hr #[7,5])}}]
  let C:(if (y:π)<(x:π) then (y:π) else (x:π))=((min x y:η):π):=by split <;> ext
  let F:(if (y:π) > (x:π) then (y:π) else (x:π))=((max x y:η):π):=by split <;> ext
  let hlm:min x y<max x y:=∅
  let I:max x y<S.q:=∅
  generalize ev:min x y=u at C hlm;let ek:∀Z O,pb O->aD A.aH O r ((S.ç c z u Ž).qZ Ž f).1 Z->dG O p ((S.ç c z u Ž).qZ Ž f).2->(∀b,Z.own r b->a.own r b\/H b=ε)->Q .non O:=λZ O h1 M N g=>k Z O h1 (by unfold RS.đ;rw[ev];rwa[M]) (by unfold RS.đ;rw[ev];rwa[N]) g
  change max x y=v at F hlm I ok IZ ek;erw[1212112];rw[C];erw[1212112];rw[F];let lR:@(a.rs.Κ V.É)<Ε:=by rw[aog,h.rR.1];rwa[aop sm.r ⋯]
  rwa[12,r,_,a.dx,112,h.ins,aO T,T.u6,vN^_,.Α {21,ay.of h.hR},12121212,(Za4 5),λt nt=>{a.aR,1122,ao.ψ nt β h.hR,lR,5}];generalize e_:ψ H t _=H1;let[s1,FL]:=dc e_ nt
  let Ng:bK H1 4 ?t (PP u v):=by
   rwa[.t FL Ų λj w d C F=>?_]
   rcases j with _|_|_|_|_|j
   .simp at C F;subst C F;rwa[.s]
   .simp at C F;subst C F;rwa[.i]
   .simp at C F;subst C F;rwa[.i]
   .simp at C F;subst C F;rwa[.i]
   .simp at C F;subst C F;rwa[.i]
   .simp at C
  let nl:oW (PP u v):=.t (by show 5<=100000;decide) λd hd=>by
   simp only[aoC,apl,aqM]at hd;rcases hd with rfl|rfl|rfl|rfl|rfl
   .rwa[.s]
   .rwa[.i]
   .rwa[.i]
   .rwa[.i]
   .rwa[.i]
  let M:=(h.Μ s1).Eu Ng nl;let B2:sT a r p H (ψ H1 a.aR (.Ν (a.rs.Κ V.É++[?t]))):=λb o D _ e=>by rw[aq (λz=>D (.Ç (.Α ([z]▸gZ))))];rwa[s1^e]
  let npl:∀{b},b∈a.ò->p≠b:=λhb z=>np (.Ç (.Α ([z]▸hb)))
  let P2:dG (ψ H1 a.aR (.Ν (a.rs.Κ V.É++[?t]))) p f:=hP.Ï (λo e=>[aq (npl gZ)]▸s1^e) (λb xs e=>[aq (h.tl e gZ)]▸s1^e);change ψ H1 a.aR _=H2 at M B2 P2 ⊢;generalize IY:({ a with rs:=a.rs++[t] }:RA)=a2 at M;let X:∀b,a2.own r b↔a.own r b:=λb=>by rw[<-IY];rwa[Iff.rfl]
  let Ah:¬a2.own r p:=λz=>np ((X p).mp z)
  let G:∀{b},b∈a2.ò->p≠b:=λhb z=>Ah (.Ç (.Α ([z]▸hb)))
  let lN:@(aw Fk)<Ε:=by rw[aF,cJ];rwa[aop sm.n ⋯]
  erw[12,r,_,a2.dx,112,M.ins,aO T,T.va,vP^_,.Α {21,ay.of M.hN},12,a2.aN,1122,M.hN,lN];let eN:aw Fk++[V.υ (v:π)]=aw (nI (S.bz++[v])):=by rw[jX,ï];rfl
  let N:=M.WG (S.bz++[v]);rw[<-eN]at N;let B3:sT a r p H (nv a2.aN (.Ν (aw Fk++[V.υ (v:π)]))):=λb o D B e=>by rw[aq (λz=>D ((X b).mp (.Ç (.Α ([z]▸jc)))))];rwa[B2 b o D B e]
  let P3:dG (nv a2.aN (.Ν (aw Fk++[V.υ (v:π)]))) p f:=P2.Ï (λo e=>[aq (G jc)]▸e) (λb xs e=>[aq (M.tl e jc)]▸e);let[pv,J,hPV]:=N.rC.at (show S.called[v]?=ι v1 from Ak ([hw.c]▸I));let mpv:=aoi J;erw[12,r,_,a2.dx,112,N.ins,aO T,T.pH,p5^_,12,a2.aC,11122,ay.of N.hC,bZ J,pv,2,{_,ay.of hPV}];obtain⟨-,-,-,-,-,nc⟩:=y8 N.jQ;rwa[cF (xs:=aw (nI v1)) (λi σ L=>∃v8,σ=#v[?r,.υ (c:π),.υ z,.υ (x:π),.υ (y:π),?p,.υ (u:π),.υ (v:π),v8]/\aD A.aH L r { S with rows:=S.rows++[PP u v],bz:=S.bz++[v],bu:=((S.cL v).Χ i).ă (λU n=>U.set n u) S.bu } a2/\sT a r p H L/\dG L p f) {ε,2,N,B3,P3} (λi σ L _ ⟨11,g,11⟩=>ay.of (g.rC.2 v pv _ J (show S.called[v]?=ι v1 from Ak ([hw.c]▸I)))) ?_ ?_]
  .rintro i w σ L hw4 ⟨v8,Ų,g,B4,P4⟩;let[m,Ų,Y]:=bW hw4;unfold nI at Y;rw[aon]at Y
   cases hn:v1[i]? with
   |ε=>rw[hn]at Y;ext Y
   |ι n=>
    rw[hn]at Y;obtain rfl:(n:π)=m:=Za0 Y;let FN:=IZ n (aoi hn);let hel:@(((S.cL v).Χ i).ă (λU n=>U.set n u) S.bu)=S.q:=by rw[yq,hw.e]
    erw[1212,r,_,a2.dx,112,g.ins,aO T,T.ki,kz^_,12,a2.aE,11,n,22,g.hE,rQ ([aF,cJ,hel]▸FN)];rw[ints_set,YR];let h5:=g.Ci ((((S.cL v).Χ i).ă (λU n=>U.set n u) S.bu).set n u);rwa[125,λb o D B e=>?_,P4.Ï (λo e=>?_) (λb xs e=>?_)]
    .let Ai:(S.cL v).Χ (i+ 1)=(S.cL v).Χ i++[n]:=by rw[ao2,hn];rfl
     rw[Ai,aqk];rwa[h5]
    .rw[aq (λz=>D ((X b).mp (.Ç (.Α ([z]▸iD)))))];rwa[B4 b o D B e]
    .rw[aq (G iD)];rwa[e]
    .rw[aq (g.tl e iD)];rwa[e]
  .rintro σ L ⟨v8,Ų,g,B4,P4⟩;rw[aF,cJ,apc]at g;let I0:u<@S.called:=by rw[hw.c];ext
   let hvl:v<@S.called:=by rw[hw.c];rwa[I]
   let[pu,W,hPU]:=g.rC.at (show S.called[u]?=ι (S.cL u) from Ak I0);let agl:=g.rC.2 v pv _ J (show S.called[v]?=ι v1 from Ak hvl);let b1:@(S.cL u)<=1000000:=OS sm.c;let b2:@(S.cL v)<=1000000:=OS sm.c;erw[12,r,_,a2.dx,112,g.ins,aO T,T.pH,p5^_,12,a2.aC,11122,ay.of g.hC,bZ W,.Α {21,ay.of hPU}];erw[12,r,_,a2.dx,112,g.ins,aO T,T.pH,p5^_,12,a2.aC,11122,ay.of g.hC,bZ J,pu,pv,1122,hPU,agl,5]
   .rw[aF,aF,cJ,cJ];rwa[aot (show _<=2000000 by omega) ⋯]
   let eC:aw (nI (S.cL u))++aw (nI v1)=aw (nI (S.cL u++S.cL v)):=by rw[jX,ï]
   rw[eC];let h5:=g.Nw W (S.cL u++S.cL v);let R:=hU (aoi W);let B5:sT a r p H (ψ L pu (.Ν (aw (nI (S.cL u++S.cL v))))):=λb o D B e=>by rw[aq (λz=>D ((X b).mp (.Ç (.Α ([z]▸R)))))];rwa[B4 b o D B e]
   let P5:dG (ψ L pu (.Ν (aw (nI (S.cL u++S.cL v))))) p f:=P4.Ï (λo e=>[aq (G R)]▸e) (λb xs e=>[aq (g.tl e R)]▸e);change ψ L pu _=H5 at h5 B5 P5 ⊢;let h5':aD A.aH H5 r (S.ç c z u v) a2:=h5;rwa[12,r,a2.dx,12,h5'.ins,Zw ⋯,1212,r,p,S.ç c z u v,a2,v,f,2,h5',{hw.w,hw.g,55},I,{ok.nd,ok.lt,ok.bk},sm.w,P5,Ah,j4,λZ O b' r' p' o'=>ek Z O (λb o D B e=>b' b o (λz=>D ((X b).mp z)) B (B5 b o D B e)) r' p' (λb hb=>?_)]
   .show @((S.cL v).ă (λU n=>U.set n u) S.bu)=S.q;rw[yq];rwa[hw.e]
   .show @(S.called.set u (S.cL u++S.cL v))=S.q;rw[aoR];rwa[hw.c]
   .rcases o' b hb with q|q
    .rwa[.Α ((X b).mp q)]
    .cases ho:a.own r b
     .rwa[.Α ho]
     .rwa[.Ç ?_]
      cases e:H b with
      |ε=>rfl
      |ι o=>
       cases hbp:b=p
       .let[qs,q1,_]:=P5
        cbv
       .rw[B5 b o ho hbp e]at q;ext q
def yr (T:ų):T.nS.Ok mg P w Β 3 (FK A.aH):=by
 rwa[T.nS.on eT (λcf AA O s H vs Q E L h=>?_)]
 .let[r,t,p,S,a,w,i,Ų,h,ht,ok,G,y,hP,M,x,k]:=h;let B:=iC L
  erw[_,{{ZV eT.nd ((0<<<1)|||(1&&&ak)),wn eT.nd (1&&&ak),LE eT.nd ((0<<<1)|||(1&&&ak)),bp 6 eT.nd (oV B ((0<<<1)|||3) (pv 4) (pv 5) ⟨2222⟩),bp 7 eT.nd (oV B ((0<<<1)|||5) (Ev (pv 4)) (pv 3) ⟨2222⟩),bS (bL (a9 vz (pv 6) (pv 5) (bq _))
    {{aX (Wp T.gI (kS T) L #[3,4,6,5,2])}}
    {{bS (bL (a9 vz (pv 7) (pv 3) (bq _))
     {{aX (Wp T.gI (kS T) L #[5,Ev (pv 4),7,3,2])}}
     {{aX (Wp T.oC (tV T) L #[3,4,5])}})}})}}]
  let R:bG K H t [.υ (w.1:π),.υ w.2.1,.υ (w.2.2:π)]:=bG.of ht;let C:∀{c:η},c<S.q->S.bu[c]?\KO:=λ{c} j=>pN ([ok.wf.e]▸j)
  let j:=ok.el _ G;let u:=ok.el _ y;erw[12,r,_,a.dx,112,h.ins,aO T,T.ki,kz^_,12,t,11122,R,(rfl:lh _ (0:π)=_),a.aE,11122,ay.of h.hE,bX (bR (lA (C G)))];erw[12,t,11122,R,(rfl:lh _ (1:π)=_)];erw[12,r,_,a.dx,112,h.ins,aO T,T.ki,kz^_,12,t,11122,R,(rfl:lh _ (2:π)=_),a.aE,11122,ay.of h.hE,bX (bR (lA (C y)))];let g:=k;unfold RS.í at g;change S.az w.1=c at j g ⊢;change S.az w.2.2=d at u g ⊢;change w.2.1=z at g ⊢;let[pc,W,I]:=h.rW.at (rO (S:=S) (c:=c) ([ok.wf.w]▸j));let[pd,Z,F]:=h.rW.at (rO (S:=S) (c:=d) ([ok.wf.w]▸u));let gd:∀(o:Zi)(n:η),(o.Κ λr:η=>V.υ (r:π)).á (.υ (n:π))=V.υ ((o.á n:η):π):=λo n=>by cases o <;> rfl
  erw[12,r,_,a.dx,112,h.ins,aO T,T.j1,jC^_,12,a.aW,11122,ay.of h.hW,bZ W,pc,2,.Α {_,.Α I},12121,dF.k (k:=Sum.Α z) I];rw[mX,gd];erw[12,r,_,a.dx,112,h.ins,aO T,T.j1,jC^_,12,a.aW,11122,ay.of h.hW,bZ Z,pd,2,.Α {_,.Α F},1212121,dF.k (k:=Sum.Α (-z)) F];rw[mX,gd];let e1:fZ ϰ z=S.by c z:=rfl;let e2:fZ (S.way d) (-z)=S.by d (-z):=rfl;rw[e1,e2]
  let hl:(S.by c z).á d<S.q:=by
   cases e:S.by c z with
   |ε=>exact u
   |ι m=>exact ok.bl γ e
  let hf:(S.by d (-z)).á c<S.q:=by
   cases e:S.by d (-z) with
   |ε=>exact j
   |ι m=>exact ok.bl γ e
  change (S.by c z).á d=l at hl g ⊢;change (S.by d (-z)).á c=f at hf g ⊢
  let ne:∀{m n:η},m≠n->(!decide (V.υ (m:π)=V.υ (n:π)))=ρ:=λ{m n} q=>by cbv
  rwa[λ_ J=>Q .non J,5,λ_ _ q=>q];cases D:l≠d
  .rw[aoO D]at g;erw[1212212];rw[ne D];rwa[12,r,a.dx,12,h.ins,Zw ⋯,1212121212,r,p,S,a,c,l,d,z,i,2,h,ok.wf,hl,u,D,ok.off _ ∅,λn Y=>ok.cl _ n Y,ok.sm,hP,M,x,g]
  .let X:l=d:=arp.mp D;rw[aoK D]at g;rwa[1212212,Ke (by rw[X]) ?_];rwa[λ_ J=>Q .non J,5,λ_ _ q=>q];cases v:f≠c
   .rw[aoO v]at g;erw[1212212];rw[ne v];rwa[12,r,a.dx,12,h.ins,Zw ⋯,121212121212,r,p,S,a,d,f,c,-z,i,2,h,ok.wf,hf,j,v,ok.off _ ∅,λn Y=>ok.cl _ n Y,ok.sm,hP,M,x,g]
   .let U:f=c:=arp.mp v;rw[aoK v]at g;rwa[1212212,Ke (by rw[U]) ?_];rwa[12,r,a.dx,12,h.ins,Zw ⋯,121212,r,S,a,c,d,z,2,h,ok.wf,j,u,ok.sm.w,λJ N r'=>g a J (λb o nb _ e=>N b o nb e) r' (hP.Ï (λo e=>N β M e) (λb xs e=>N β (h.vQ e) e)) λb hb=>.Α hb]
theorem FP (T:ų):T.uX.Ok mg P w Β 5 (Vo A.aH):=by
 rwa[T.uX.on ve (λcf AA Ψ s H vs Q E hr h=>?_)]
 .let[r,q,S,a,c,d,z,row,I,μ,Ų,h,pM,hq,u,hI,ı,k]:=h
  erw[_,{{aX (ŵ (0<<<1) #[pc T.own (CL T) hr #[4]]),LE ve.nd (bH #[bh #[1,2,3]]),bS (Po (DU (pv 5) (λ_=>rfl))
    {{aX (Wp T.nS (yr T) hr #[CO (pv 5),5])}})}}]
  let lR:@(a.rs.Κ V.É)<Ε:=by rw[aog,h.rR.1];rwa[aop pM ⋯]
  obtain⟨ds,rfl⟩:∃ds,row=.t ds:=by
   cases hq with
   |t=>cbv
   |l=>ext u
  rwa[12,r,_,a.dx,112,h.ins,aO T,T.u6,vN^_,.Α {21,ay.of h.hR},12,?q,.t ds,2,hq,u,λv' H1 s1 Y=>?_];obtain⟨q',rfl⟩:∃q',v'=?q':=by cases Y with|t=>cbv
  erw[a.aR,1122,s1^h.hR,lR];let h2:=(h.Μ s1).Eu (Y.le ⋯) u;let B2:dB a r H (ψ H1 a.aR (.Ν (a.rs.Κ V.É++[?q']))):=λb o j e=>by rw[aq (λz=>j (.Ç (.Α ([z]▸gZ))))];rwa[s1^e]
  change ψ H1 a.aR _=H2 at h2 B2 ⊢;generalize IY:({ a with rs:=a.rs++[q'] }:RA)=a2 at h2;let eo:∀b,a2.own r b↔a.own r b:=λb=>by rw[<-IY];rwa[Iff.rfl]
  rwa[121212,(Za4 3),λt nt=>?_];generalize e_:ψ H2 t _=H3;let[s3,ht3]:=dc e_ nt;rwa[TM,λp npn=>?_];generalize e_:ψ H3 p _=H4;let[s4,hp4]:=dc e_ npn;let R:¬a2.own r p:=(h2.Μ s3).FI npn
  let npH:H p=ε:=by
   cases e:H p with
   |ε=>rfl
   |ι o=>have:=s3^(B2 p o (λz=>R ((eo p).mpr z)) e);cbv
  let B4:dB a r H H4:=λb o j e=>s4^s3^B2 b o j e
  let P4:dG H4 p [(c,z,d)]:={[t],hp4,ū.ċ (ps:=[]) (xs:=[]) {2,λi p d h=>by simp at h} (s4^ht3)};rwa[λ_ N=>Q .non N,5,λ_ _ q=>q];erw[λm σ n=>∃B G Ë,m=μ B Ë/\σ=#v[?r,.υ (c:π),.υ z,.υ (d:π),?q,?p]/\aD A.aH n r B G/\dG n p Ë/\I B Ë/\¬G.own r p/\(∀b o,¬a.own r b->b≠p->H b\o->n b\o)/\∀b,G.own r b->a.own r b\/H b=ε,⟨11,a2,[(c,z,d)],22,(h2.Μ s3).Μ s4,P4,hI,R,λb o j _ e=>B4 b o j e,λb D=>.Α ((eo b).mp D)⟩];rintro m σ n ⟨B,G,Ë,Ų,Ų,h5,P5,I5,L,B5,O5⟩;let[F,x,v]:=id P5;erw[12,!(F.Κ V.É).è,.Α {_,ay.of x,2}];cases O:Ë=[]
  .subst O;let eq0:F=[]:=aqg v.1;subst eq0;rwa[k B G n (λb o j e=>B5 b o j (λz=>by cbv) e) h5 I5 O5]
  .obtain⟨w,X⟩:∃gx,Ë.ĝ++[gx]=Ë:={_,ap5 O};change Ë.ĝ=pre at X;subst X;let J:@F=@pre+ 1:=by rw[v.1,aoj];rfl
   let hqn:F≠[]:=λz=>by rw[z]at J;ext J
   obtain⟨C,y⟩:∃gx,F.ĝ++[gx]=F:={_,ap5 hqn};change F.ĝ=f at y;subst y;let W:@f=@pre:=by rw[aoj]at J;have:@([C]:Zn)=1:=rfl;ext
   let[ok,hw1,hw3,D,hI2,Vq]:=ı B pre w I5;let htq:n C\(.Ò [.υ (w.1:π),.υ w.2.1,.υ (w.2.2:π)]):=v.2 @pre C w (by rw[<-W,aoz Ź,apU];rfl) (by cbv);let ht:(!((f++[C]).Κ V.É).è)=ρ:=by simp
   rw[ht];erw[λ fH N=>∃U a6 g,μ U g < μ B (pre++[w])/\fH=#v[?r,.υ (c:π),.υ z,.υ (d:π),?q,?p]/\aD A.aH N r U a6/\dG N p g/\I U g/\¬a6.own r p/\(∀b o,¬a.own r b->b≠p->H b\o->N b\o)/\∀b,a6.own r b->a.own r b\/H b=ε,λ fH N ζ=>by let[U,a6,g,lt,e1,e2,e3,e4,e5,e6,e7]:=ζ;rwa[_,lt,U,a6,g,2,e1,e2,e3,e4,e5,e6,e7]];erw[12,r,G.dx,12,h5.ins,Zw ⋯,12,.Α {21,ay.of x},p,_,?C,22,x,5]
   .rw[aoE,aoj];show ((f.Κ V.É)++[V.É C])[@(f.Κ V.É)+ 1 - 1]?=_
    rw[η.add_sub_cancel,aoz Ź,apU];rfl
   let edl:((f++[C]).Κ V.É).ĝ=f.Κ V.É:=by rw[aoE];rwa[θ.dropLast_concat]
   rw[edl];let kp:∀b o,b≠p->n b\o->ψ n p (.Ν (f.Κ V.É)) b\o:=λb o j e=>by rw[aq j];rwa[e]
   let kt:∀b xs,n b\.Ò xs->ψ n p (.Ν (f.Κ V.É)) b\(.Ò xs):=λb xs e=>kp b _ (IM x (by cbv)) e
   let h6:=h5.Ï (λb o D e=>kp b o (λz=>L (z ▸ D)) e) kt;let P6:dG (ψ n p (.Ν (f.Κ V.É))) p pre:={f,aj,W,λi t' w' e1 e2=>kt^(v.2 i t' w' ([aoq (aoh.mp e1).1]▸e1) ([aoq (aoh.mp e2).1]▸e2))};rwa[12,r,C,p,B,G,w,pre,2,h6,kt^htq,ok,hw1,hw3,P6,L,D,λa7 H7 b7 h7 P7 o7=>?_];rwa[_,a7,_,Vq,2,h7,P7,hI2,λz=>?_,λb o j M e=>b7 b o (λz=>?_) M (kp b o M (B5 b o j M e)),λb D=>?_]
   .rcases o7 p z with Z|Z
    .rwa[L Z]
    .let[_,q2,_]:=P6;cbv
   .cbv
   .rcases o7 b D with Z|Z
    .rwa[O5 b Z]
    .cases ho:a.own r b
     .rwa[.Α ho]
     .rwa[.Ç ?_]
      cases e:H b with
      |ε=>rfl
      |ι o=>cbv
def Xn {a:Type}{ws:θ a}{z:a}(h:ws[i]?\z):ws.ā i=z::ws.ā (i+ 1):=by let b:=(aoh.mp h).1;rw[aqy b,(aoh.mp h).2]
inductive FQ (C:Zs)(vs:Zb)(H:Hp)(Q:VK)(E_:XK):ο
 |mk (r:Zs)(S:RS)(a:RA)(c:η)(t:Zs)(ws:Zg):vs=[?r,.υ c,?t]->aD C H r S a->S.Wf->c<S.q->(∀c z d,S.by c z=ι d->d<S.q)->H t\.Ò (aw ws)->@ws<=1000->(∀l H',Q1 H'->H' l\.Ν (aw (nI (c::cH S.by c ws)))->Q ?l H')->FQ C vs H Q E_
def CN (T:ų):T.walked.Ok P w Β 2 (FQ A.aH):=by
 rwa[T.walked.on qw (λW AA D s H vs Q E X h=>?_)]
 .let[r,S,a,c,t,ws,Ų,h,hw,hc,C,N,U,k]:=h
  refine{_,{{ZV qw.nd (bH #[1]),AN (Sa qw.nd)
    {{bp 1 qw.nd (Wp T.jq (ja T) X #[1,4]),bL (a9 k6 (pv 1) cW (bq _))
     {{xE}}
     bf,aX (ŵ (pv 3) #[1])}},aZ (pv 3)}},?_}
  rwa[_,Ų,TM,λl B=>?_];generalize e_:ψ H l _=R;obtain⟨I,v⟩:_/\_\(.Ν (aw (nI [c]))):=dc e_ B;let L:¬a.own r l:=h.FI B;let u:=I^N;let F:t≠l:=ax N B;erw[12,t,2,{_,bG.of u}]
  let fin:∀{f:Hp}{pre:Zh},(∀b o,b≠l->R b\o->f b\o)->f l\.Ν (aw (nI (c::pre)))->cH S.by c ws=pre->Q ?l f:=λ{f pre} g d e=>by subst e;rwa[k l f (λb o e=>g b o (QA B) (I^e)) d]
  rwa[cF (xs:=aw ws) (λi y f=>∃cur:η,∃pre J,y=#v[?r,.υ (cur:π),?t,?l,J]/\cur<S.q/\@pre=i/\cH S.by c ws=pre++cH S.by cur (ws.ā i)/\(∀b o,b≠l->R b\o->f b\o)/\f l\.Ν (aw (nI (c::pre)))) ⟨c,[],ε,2,hc,22,λ_ _ _ e=>e,v⟩ (λi y f _ ζ=>by let[_,_,_,_,_,_,_,g,_]:=ζ;rwa[bG.of (g β F u)]) ?_ ?_]
  .rintro i x y f Z ⟨cur,pre,J,Ų,p,m,j,g,d⟩;let[z,Ų,O]:=bW Z;let hi:i<@ws:=(aoh.mp O).1;let M:aD A.aH f r S a:=(h.Μ I).Ï (λb o V e=>g b o (λq=>L (q ▸ V)) e) (λb Y e=>g b _ (IM v (by cbv)) e);rw[Xn O]at j;erw[12,r,a.dx,12,M.ins,Zw ⋯,1212,r,S,a,cur,z,2,M,by rw[hw.w];ext]
   cases G:S.by cur z with
   |ε=>rwa[12212,dE ?_];rw[Cu G,aoJ]at j;rwa[12,fin g d j]
   |ι b=>
    rwa[12212,dz ?_];rw[p8 G]at j;erw[12,.Α {21,ay.of d},12,l,1122,d,5]
    .rw[aF,cJ,aoA,m];rwa[aop (show i+ 1<=1001 by omega) ⋯]
    erw[b,pre++[b],12,C γ G,by rw[aoj,m];rfl,by rw[j,ao6];rfl,λx o n e=>[aq n]▸g x o n e];rw[aj,<-aqP,jX,ï];rfl
  .rintro y f ⟨cur,pre,J,Ų,p,m,j,g,d⟩;rw[aF,θ.drop_length]at j;rwa[12,fin g d ([j]▸aoJ _)]
def ju (g:Gg)(a:Zs):θ (Ñ×V):=[(WS,.υ g.which),(ϩ,?a),(ϱ,.υ g.Θ),(BS,.υ g.Ù),(ZL,.υ g.first),(qr,.υ g.bN),(ma,.υ g.last)]
def To (g:Gg)(a:Zs):(t0 a).ω (WS:Ñ)\(.υ g.which):=by kernel_rfl
def mC (g:Gg)(a:Zs):(t0 a).ω (ϩ:Ñ)\?a:=by kernel_rfl
def yt (g:Gg)(a:Zs):(t0 a).ω (ϱ:Ñ)\(.υ g.Θ):=by kernel_rfl
def mD (g:Gg)(a:Zs):(t0 a).ω (BS:Ñ)\(.υ g.Ù):=by kernel_rfl
def iI (g:Gg)(a:Zs):(t0 a).ω (ZL:Ñ)\(.υ g.first):=by kernel_rfl
def mE (g:Gg)(a:Zs):(t0 a).ω (qr:Ñ)\(.υ g.bN):=by kernel_rfl
def mF (g:Gg)(a:Zs):(t0 a).ω (ma:Ñ)\(.υ g.last):=by kernel_rfl
def Vr {g:Gg}(h:x∉([WS,ϩ,ϱ,BS,ZL,qr,ma]:Zp)):(t0 a).ω x=ε:=by simp only[aoC,apl,aqM,not_or]at h;let[e,c,j,d,i,b,f]:=h;unfold ju;simp only[θ.ω,aoQ.mpr e,aoQ.mpr c,aoQ.mpr j,aoQ.mpr d,aoQ.mpr i,aoQ.mpr b,aoQ.mpr f]
def FU (g:Gg)(a:Zs)(n:η):bP BS (.υ n) (t0 a)=ju { g with Ù:=n } a:=by kernel_rfl
def Tp (g:Gg)(a:Zs)(n:η):bP ZL (.υ n) (t0 a)=ju { g with first:=n } a:=by kernel_rfl
def I7 (g:Gg)(a:Zs)(n:η):bP qr (.υ n) (t0 a)=ju { g with bN:=n } a:=by kernel_rfl
def Xo (g:Gg)(a:Zs)(n:η):bP ma (.υ n) (t0 a)=ju { g with last:=n } a:=by kernel_rfl
structure fh (CG:Zs)(H:Hp)(p dx wa:Zs)(g:Gg):ο where
 ins:H p\(.ins CG dx (t0 wa))
 wo:H wa\(.Ò (aw g.Ω))
def fh.Μ {dx:Zs}{g:Gg}(h:fh a H b dx c g)(s:XL):fh a I b dx c g:={s^h.ins,s^h.wo}
def fh.set {dx:Zs}{g g':Gg}(h:fh a H b dx c g)(e:g'.Ω=g.Ω):fh a (ψ H b (.ins a dx (ju g' c))) b dx c g':={aj,[aq (bD h.wo h.ins (by cbv)),e]▸h.wo}
def jR (a:θ (Zg×η)):θ (Zd×V):=a.Κ λp=>(p.1.Κ Sum.Α,V.υ p.2)
structure Bo (rs:Za3)(fp:θ (Zg×η)):ο where
 a:∀p∈fp,rs[p.2]?\p.1
 b:∀w∈rs,∃n,(w,n)∈fp
 n:(fp.Κ (·.1)).Á
def FV {c:θ (Zg×η)}(w:Zg):bF (jR c) (w.Κ Sum.Α)=((c.find? λp=>decide (p.1=w)).Κ λp=>V.υ p.2):=by
 induction c with
 |nil=>rfl
 |È p l d=>
  cases h:p.1=w
  .rw[θ.find?_cons_of_pos (by cbv)];rwa[cY (p:=(p.1.Κ Sum.Α,V.υ p.2)) (by rw[h])]
  .rw[aqZ (by simpa using h)];rwa[(cR (p:=(p.1.Κ Sum.Α,V.υ p.2)) (λz=>h ?_)).ν d]
   let inj:∀{a b:Zg},a.Κ (Sum.Α:π->Key)=b.Κ Sum.Α->a=b:=λ{a b} e=>by
    induction a generalizing b with
    |nil=>cases b with|nil=>rfl|È=>ext e
    |È x a d=>cases b with
     |nil=>ext e
     |È y b=>cbv
   rwa[inj z]
def Tq:Sp:=λc H Q _=>∃(l:Zs)(rs:Za3),c=[?l]/\bM H l rs/\@rs<=1000/\∀d b a,Q1 a->H d=ε->a d\.dT (jR b)->Bo rs b->Q ?d a
def Al (T:ų):T.pC.Ok P w Β 1 Tq:=by
 rwa[T.pC.on je (λcf AA X s H vs Q E hr h=>?_) (len:=by rintro _ _ _ _ ⟨l,rs,Ų,_⟩;rfl)]
 .let[l,rs,Ų,hW,hl,k]:=h;let R:=iC hr
  erw[_,{{bp 1 je.nd Ri,HH (oN Ų (dQ (cU 2 je.nd) (dQ (cU 3 je.nd) lV)))
    {{aX (RM R (pv 1) (pv 3) (pv 2) {2222})}},aZ (pv 1)}}]
  let[J,G,r]:=id hW;rwa[λd S=>?_]
  generalize e_:ψ H d _=H1;obtain⟨s1,q1⟩:_/\_\(.dT (jR [])):=dc e_ S;erw[12,l,2,{_,ay.of (s1^G)}]
  refine yZ (xs:=J.Κ V.É) (λi L x=>∃a v2 N,L=#v[?l,?d,v2,N]/\ao H x/\x d\.dT (jR a)/\(∀p∈a,rs[p.2]?\p.1/\p.2<i)/\(∀(j:η)(w:Zg),j<i->rs[j]?\w->∃n,(w,n)∈a)/\(a.Κ (·.1)).Á/\@a<=i)
   {[],ε,ε,2,s1,q1,(λp c=>by ext c),λj w y=>Ρ y ∅,aqb,aoo _} (λi L x _ ζ=>by let[_,_,_,_,s2,_]:=ζ;rwa[ay.of (s2^G)]) ?_ ?_
  .rintro i v L x t hi nt ⟨a,v2,N,Ų,s2,M,B,O,hn,æ⟩
   let m:i<@J:=by have:=(aoh.mp hi).1;rw[aog]at Δ;rwa[Δ]
   let D:i<@rs:=by rw[<-r.1];rwa[m]
   obtain⟨f,Z⟩:∃gx,J[i]?\gx:={J[i]'m,aoe m}
   obtain⟨F,U⟩:∃gx,rs[i]?\gx:={rs[i]'D,aoe D}
   rw[aon,Z]at hi;obtain rfl:V.É (f)=v:=Za0 hi;change f=q at Z;change F=w at U;let I:=ao.ψ (o:=.Ò [.υ (i:π),?q]) nt;erw[t,12,bG.of aj,21121122];change ψ x t _=H3 at I ⊢;let g:=I^M;let hq:H3 q\(.Ò ((w.Κ (Sum.Α:π->Key)).Κ kV)):=by rw[ao4];rwa[(s2.ν I) β (r.2 i q w Z U)]
   rwa[12,d,2,.Ç {_,.Α g},1212,jR a,w.Κ Sum.Α,q,g,2,hq,5,λv C=>?_,λC=>?_]
   .unfold jR;rw[aog];rwa[aop (show @a<=1000 by omega) ⋯]
   .rw[FV]at C;let[p,c,Ų]:=apH.mp C;let e:p.1=w:=by let h9:=θ.find?_some c;simpa using h9
    let hm:=θ.mem_of_find?_eq_some c;rwa[a,112,s2.ν I,g,λp c=>{(B p c).1,by have:=(B p c).2;ext},λj u y eu=>?_,hn,3];cases W:j<i
    .rwa[O j u W eu]
    .cbv
   .rw[FV]at C
    let hno:∀p∈a,p.1≠w:=λp c e=>by
     have:=θ.find?_eq_none.mp (arU.mp C) p c
     cbv
    let ep:ú (jR a) (w.Κ Sum.Α) (V.υ (i:π))=jR (a++[(w,i)]):=by rw[lZ _ ([FV]▸C)];unfold jR;rw[aoE];rfl
    rw[ep];let Y:H d=ε:=S;rwa[a++[(w,i)],112,λb o e=>[aq (QA Y)]▸(s2.ν I) β e,aj,λp c=>?_,λj u y eu=>?_,5,by rw[aoj];show _+ 1<=_;ext]
    .rcases aov.mp c with z|z
     .rwa[(B p z).1,by have:=(B p z).2;ext]
     .rw[aok.mp z];rwa[U,3]
    .cbv
    cbv
  .rintro L x ⟨a,v2,N,Ų,s2,M,B,O,hn,æ⟩;rwa[12,k d a x s2 S M {λp c=>(B p c).1,λw hw=>?_,hn}];let[j,y]:=apm hw;rwa[O j w ([aog,r.1]▸(aoh.mp y).1) y]
def CP (a:η)(Ω:Zg)(Θ:η):Gg:={a,Ω,Θ,Θ,(0),Θ,@Ω - 1}
inductive OU (CG:Zs)(vs:Zb)(H:Hp)(Q:VK)(E_:XK):ο
 |mk (x dx wa:Zs)(which Θ:η)(Ω:Zg):vs=[?x,.υ which,?wa,.υ Θ]->H x\.ins CG dx []->H wa\.Ò (aw Ω)->1<=@Ω->@Ω<=1000->(∀H',(∀b o,H b\o->b≠x->H' b\o)->fh CG H' x dx wa (GM Θ)->Q .non H')->OU CG vs H Q E_
def gx1 (a Θ:η)(b:Zs)(l:π):θ (Ñ×V):=[(WS,.υ a)]
def gx2 (a Θ:η)(b:Zs)(l:π):θ (Ñ×V):=[(WS,.υ a),(ϩ,?b)]
def gx3 (a Θ:η)(b:Zs)(l:π):θ (Ñ×V):=[(WS,.υ a),(ϩ,?b),(ϱ,.υ Θ)]
def gx4 (a Θ:η)(b:Zs)(l:π):θ (Ñ×V):=[(WS,.υ a),(ϩ,?b),(ϱ,.υ Θ),(BS,.υ Θ)]
def gx5 (a Θ:η)(b:Zs)(l:π):θ (Ñ×V):=[(WS,.υ a),(ϩ,?b),(ϱ,.υ Θ),(BS,.υ Θ),(ZL,.υ 0)]
def gx6 (a Θ:η)(b:Zs)(l:π):θ (Ñ×V):=[(WS,.υ a),(ϩ,?b),(ϱ,.υ Θ),(BS,.υ Θ),(ZL,.υ 0),(qr,.υ Θ)]
def gx7 (a Θ:η)(b:Zs)(l:π):θ (Ñ×V):=[(WS,.υ a),(ϩ,?b),(ϱ,.υ Θ),(BS,.υ Θ),(ZL,.υ 0),(qr,.υ Θ),(ma,.υ l)]
def gy2 (a Θ:η)(b:Zs)(l:π):bP ϩ ?b (gx1 a Θ b l)=gx2 a Θ b l:=fu (by kernel_rfl)
def gy3 (a Θ:η)(b:Zs)(l:π):bP ϱ (.υ Θ) (gx2 a Θ b l)=gx3 a Θ b l:=fu (by kernel_rfl)
def gy4 (a Θ:η)(b:Zs)(l:π):bP BS (.υ Θ) (gx3 a Θ b l)=gx4 a Θ b l:=fu (by kernel_rfl)
def gy5 (a Θ:η)(b:Zs)(l:π):bP ZL (.υ 0) (gx4 a Θ b l)=gx5 a Θ b l:=fu (by kernel_rfl)
def gy6 (a Θ:η)(b:Zs)(l:π):bP qr (.υ Θ) (gx5 a Θ b l)=gx6 a Θ b l:=fu (by kernel_rfl)
def gy7 (a Θ:η)(b:Zs)(l:π):bP ma (.υ l) (gx6 a Θ b l)=gx7 a Θ b l:=fu (by kernel_rfl)
def wI (T:ų):T.ib.Ok mg P w Β 1 (OU A.aY):=by
 rwa[T.ib.on wz (λO Y m s H X Q E Z h=>?_)]
 .let[x,c,d,a,Θ,Ω,Ų,r,f,W,M,k]:=h
  refine{_,{{ώ (pv 1) Ų,ώ (pv 2) Ų,ώ (pv 3) Ų,ώ (pv 3) Ų,ώ ak Ų,ώ (pv 3) Ų,ώ (Ix (2<<<0) ak) Ų}},?_}
  let st:∀{H0:Hp}{fs gs:θ (Ñ×V)},H0 x\.ins A.aY c fs->(∀b o,H b\o->b≠x->H0 b\o)->ψ H0 x (.ins A.aY c gs) x\.ins A.aY c gs/\∀b o,H b\o->b≠x->ψ H0 x (.ins A.aY c gs) b\o:=λ_ h=>{aj,λb o e n=>[aq n]▸h b o e n}
  let g:d≠x:=bD f r (by cbv);let U:∀b o,H b\o->b≠x->H b\o:=λb o e _=>e
  erw[1212,x,_,c,12,r,a8 T,T.Fu,4];rw[show bP WS (.υ a) []=gx1 a Θ d (((@Ω - 1:η):π)) from rfl];let[v,C]:=st (gs:=gx1 a Θ d (((@Ω - 1:η):π))) r U;change ψ H x _=R at v C ⊢;erw[1212,x,_,c,12,v,a8 T,T.kP,(by show 1<1000;decide)];rw[gy2];let[q,B]:=st (gs:=gx2 a Θ d (((@Ω - 1:η):π))) v C;change ψ R x _=S at q B ⊢;erw[1212,x,_,c,12,q,a8 T,T.sQ,(by show 2<1000;decide)];rw[gy3];let[l,D]:=st (gs:=gx3 a Θ d (((@Ω - 1:η):π))) q B;change ψ S x _=J at l D ⊢;erw[1212,x,_,c,12,l,a8 T,T.iG,(by show 3<1000;decide)];rw[gy4];let[j,F]:=st (gs:=gx4 a Θ d (((@Ω - 1:η):π))) l D;change ψ J x _=N at j F ⊢;erw[12,x,_,c,12,j,a8 T,T.fN,(by show 4<1000;decide)];rw[gy5];let[t,z]:=st (gs:=gx5 a Θ d (((@Ω - 1:η):π))) j F;change ψ N x _=L at t z ⊢;erw[1212,x,_,c,12,t,a8 T,T.iZ,(by show 5<1000;decide)];rw[gy6];let[u,i]:=st (gs:=gx6 a Θ d (((@Ω - 1:η):π))) t z;change ψ L x _=G at u i ⊢;erw[12,d,12,.Ç (bG.of (i β f g)),112212,x,_,c,12,u,a8 T,T.jK,(by show 6<1000;decide)];rw[show V.υ ((@(aw Ω):π) - 1)=V.υ (((@Ω - 1:η):π)) by rw[aF];congr 1;ext];rw[gy7];let[y,p]:=st (gs:=gx7 a Θ d (((@Ω - 1:η):π))) u i;change ψ G x _=I at y p ⊢;rwa[k I p {y,p β f g}]
structure vg (S:RS)(g g':Gg):ο where
 wh:g'.which=g.which
 wo:g'.Ω=g.Ω
 st:g'.Θ=g.Θ
 gi:GI S g'
 ef:S.az g'.Ù=g'.Ù
 er:S.az g'.bN=g'.bN
 k1:S.az g.Ù=g.Ù->S.by g.Ù g.z1=ε->g'.Ù=g.Ù/\g'.first=g.first
 k2:S.az g.bN=g.bN->S.by g.bN g.z2=ε->g'.bN=g.bN/\g'.last=g.last
def vg.fwd {g g1:Gg}(h:vg S g g1)(i:Ø S [] R)(a:g1.first<g1.last){c:η}(hc:S.by g1.Ù g1.z1=ι c):vg S g { g1 with Ù:=c,first:=g1.first+ 1 }:=by
 let[_,b,_,e]:=i.st γ hc;let ll:=h.gi.ll;let hz:=Gg.tF (g:=g1) ∅;rwa[h.wh,h.wo,h.st,{a,ll,h.gi.s,b,h.gi.r,5,h.gi.wr},e,h.er,λf d=>?_,h.k2]
 .have:=h.gi.wf;rw[h.ef]at Δ;show wk S.by _ (g1.Ω.Χ (g1.first+ 1))=ι KO;rw[take_snoc hz,oY Δ,ND hc,e]
 .let[j,k]:=h.k1 f d;unfold Gg.z1 at hc d;rw[j,k,h.wo,d]at hc;ext hc
def vg.bwd {g g1:Gg}(h:vg S g g1)(d:Ø S [] R)(f:g1.first<g1.last){c:η}(hc:S.by g1.bN g1.z2=ι c):vg S g { g1 with bN:=c,last:=g1.last - 1 }:=by
 let[_,a,_,e]:=d.st γ hc;let ll:=h.gi.ll;let hz:=Gg.at2 (g:=g1) ll;rwa[h.wh,h.wo,h.st,{by show g1.first<=g1.last - 1;ext,by show g1.last - 1<@g1.Ω;ext,h.gi.s,h.gi.f,a,h.gi.wf,5},h.ef,e,h.k1,λi b=>?_]
 .have:=h.gi.wr;rw[h.er]at Δ;show wk S.by KO (g1.Ω.ā (g1.last - 1+ 1))=ι (S.az g1.Θ);rw[show g1.last - 1+ 1=g1.last by ext,ř hz,e,iW (d.sy γ hc)];ext
 .let[j,k]:=h.k2 i b;unfold Gg.z2 at hc b;rw[j,k,h.wo,b]at hc;ext hc
inductive Vs (CR CG:Zs)(vs:Zb)(H:Hp)(Q:VK)(E_:XK):ο
 |mk (p dx wa r:Zs)(g:Gg)(S:RS)(a:RA)(R:Za2):vs=[?p,?r]->fh CG H p dx wa g->aD CR H r S a->Ø S [] R->GI S g->¬a.own r p->@g.Ω<=1000->(∀g' H',(∀b o,b≠p->H b\o->H' b\o)->fh CG H' p dx wa g'->Adv S g g'->Q .non H')->Vs CR CG vs H Q E_
def yu (T:ų):T.nM.Ok mg P w Β 2 (Vs A.aH A.aY):=by
 rwa[T.nM.on km (λcf AA X s H vs Q E O h=>?_)]
 .let[p,d,y,r,g,S,a,R,Ų,M,hR,B,x,U,ny,k]:=h
  refine{_,{{ώ (FB T.iY (jO T) O #[0<<<1]) Ų,ώ (FB T.iY (jO T) O #[0<<<1]) Ų,bS (Po (a9 ot (0<<<1) (0<<<1) (bq _))
    {{KB km.nd (FB T.jq (ja T) O #[0<<<1,(0<<<1)&&&(0<<<1)]),bL JJ
     {{xE}}
     bf,ώ (pv 2) Ų,ώ (Z2 (0<<<1) ak) Ų}}),bS (Po (a9 ot (0<<<1) (0<<<1) (bq _))
    {{KB km.nd (FB T.jq (ja T) O #[0<<<1,Ev ((0<<<1)&&&(0<<<1))]),bL JJ
     {{xE}}
     bf,ώ (pv 2) Ų,ώ (Ix (0<<<1) ak) Ų}})}},?_}
  let eo:∀{c:η},c<S.q->S.bu[c]?\KO:=λ{c} hc=>pN ([B.wf.e]▸hc)
  let kp:∀{F:Hp},(∀b o,b≠p->H b\o->F b\o)->aD A.aH F r S a:=λ{F} f=>hR.Ï (λb o hb e=>f b o (λz=>U (z ▸ hb)) e) (λb xs e=>f b _ (IM M.ins (by cbv)) e)
  let up:∀{F:Hp}{o2:HO},(∀b o,b≠p->H b\o->F b\o)->∀b o,b≠p->H b\o->ψ F p o2 b\o:=λ(f) b o n e=>by rw[aq n];rwa[f b o n e]
  erw[12,r,a.dx,12,hR.ins,Zw ⋯,12,p,_,d,112,M.ins,a8 T,T.iG,mD β,r,S,a,g.Ù,S.az g.Ù,2,hR,eo x.f,12,p,_,d,12,M.ins,a8 T,T.iG,(by show 7<1000;decide)];rw[FU];let N:=M.set (g':={ g with Ù:=S.az g.Ù }) rfl;let W:=up (o2:=.ins A.aY d (ju { g with Ù:=S.az g.Ù } y)) (λb o _ e=>e);change ψ H p _=H1 at N W ⊢;let R1:=kp W;erw[12,r,a.dx,12,R1.ins,Zw ⋯,12,p,_,d,112,N.ins,a8 T,T.iZ,mE β,r,S,a,g.bN,S.az g.bN,2,R1,eo x.r,12,p,_,d,12,N.ins,a8 T,T.iZ,(by show 7<1000;decide)];rw[I7];let p2:=N.set (g':={ g with Ù:=S.az g.Ù,bN:=S.az g.bN }) rfl;let f2:=up (o2:=.ins A.aY d (ju { g with Ù:=S.az g.Ù,bN:=S.az g.bN } y)) W;let e1:=(B.el _ x.f).2;let e2:=(B.el _ x.r).2;let D:vg S g { g with Ù:=S.az g.Ù,bN:=S.az g.bN }:={222,{x.fl,x.ll,x.s,B.lt x.f,B.lt x.r,[e1]▸x.wf,[e2]▸x.wr},e1,e2,λe _=>{e,2},λe _=>{e,2}};erw[λ v l=>∃g1 t,v=#v[?p,?r,t]/\(∀b o,b≠p->H b\o->l b\o)/\fh A.aY l p d y g1/\vg S g g1/\(g1.first<g1.last->S.by g1.Ù g1.z1=ε),5]
  .erw[λm I l=>∃g1 t,m=g1.last - g1.first/\I=#v[?p,?r,t]/\(∀b o,b≠p->H b\o->l b\o)/\fh A.aY l p d y g1/\vg S g g1,⟨11,ε,22,f2,p2,D⟩];rintro m I l ⟨g1,t,Ų,Ų,u,i,ad⟩;let J:=kp u;let ll:=ad.gi.ll;erw[12,p,_,d,112,i.ins,a8 T,T.fN,iI β,12,p,_,d,112,i.ins,a8 T,T.jK,mF β,112212];rwa[cQ (λq=>?_) (λq=>?_)]
   .let q:(g1.first:π)<(g1.last:π):=aoS q;erw[_,λ_ _ z=>z];let Z:=Gg.tF (g:=g1) ∅;erw[12,r,a.dx,12,J.ins,Zw ⋯,12,p,_,d,112,i.ins,a8 T,T.iG,mD β,12,p,_,d,112,i.ins,a8 T,T.kP,mC β,12,p,_,d,112,i.ins,a8 T,T.fN,iI β,y,11,.υ g1.z1,22,bG.of i.wo,bX (bR Z),r,S,a,g1.Ù,g1.z1,2,J,[B.wf.w]▸ad.gi.f]
    cases G:S.by g1.Ù g1.z1 with
    |ε=>rwa[12212,dE {g1,12,u,i,ad,λ_=>G}]
    |ι c=>rw[show (Ă.Κ (λn:η=>V.υ (n:π)) (ι c)).á V.non=V.υ (c:π) from rfl];rwa[12212,dz ?_];erw[1212,p,_,d,12,i.ins,a8 T,T.iG,(by show 7<1000;decide)];rw[FU];let C:=i.set (g':={ g1 with Ù:=c }) rfl;let f3:=up (o2:=.ins A.aY d (ju { g1 with Ù:=c } y)) u;erw[12,p,_,d,112,C.ins,a8 T,T.fN,iI β,112212,p,_,d,12,C.ins,a8 T,T.fN,(by show 7<1000;decide)];rw[show V.υ ((({ g1 with Ù:=c }:Gg).first:π)+ 1)=V.υ ((g1.first+ 1:η):π) from rfl,Tp];rwa[_,by show g1.last - (g1.first+ 1)<_;ext,1122,up f3,C.set Ų,ad.fwd B ∅ G]
   .rwa[g1,t,2,u,i,ad,λz=>Ρ (aoP (show (g1.first:π)<(g1.last:π) by omega)) q]
  rintro v l ⟨g0,v0,Ų,f0,p0,D,n0⟩;erw[λ v l=>∃g1 t,v=#v[?p,?r,t]/\(∀b o,b≠p->H b\o->l b\o)/\fh A.aY l p d y g1/\vg S g g1/\(g1.first<g1.last->S.by g1.Ù g1.z1=ε)/\(g1.first<g1.last->S.by g1.bN g1.z2=ε),5]
  .erw[λm I l=>∃g1 t,m=g1.last - g1.first/\I=#v[?p,?r,t]/\(∀b o,b≠p->H b\o->l b\o)/\fh A.aY l p d y g1/\vg S g g1/\(g1.first<g1.last->S.by g1.Ù g1.z1=ε),⟨11,v0,22,f0,p0,D,n0⟩];rintro m I l ⟨g1,t,Ų,Ų,u,i,ad,L⟩;let J:=kp u;let ll:=ad.gi.ll;erw[12,p,_,d,112,i.ins,a8 T,T.fN,iI β,12,p,_,d,112,i.ins,a8 T,T.jK,mF β,112212];rwa[cQ (λq=>?_) (λq=>?_)]
   .let q:(g1.first:π)<(g1.last:π):=aoS q;erw[_,λ_ _ z=>z];let Z:=Gg.at2 (g:=g1) ll;erw[12,r,a.dx,12,J.ins,Zw ⋯,12,p,_,d,112,i.ins,a8 T,T.iZ,mE β,12,p,_,d,112,i.ins,a8 T,T.kP,mC β,12,p,_,d,112,i.ins,a8 T,T.jK,mF β,y,11,.υ (-g1.z2),22,bG.of i.wo,bX (bR Z),12,r,S,a,g1.bN,g1.z2,(by cbv),J,[B.wf.w]▸ad.gi.r]
    cases G:S.by g1.bN g1.z2 with
    |ε=>rwa[12212,dE {g1,12,u,i,ad,L,λ_=>G}]
    |ι c=>rw[show (Ă.Κ (λn:η=>V.υ (n:π)) (ι c)).á V.non=V.υ (c:π) from rfl];rwa[12212,dz ?_];erw[1212,p,_,d,12,i.ins,a8 T,T.iZ,(by show 7<1000;decide)];rw[I7];let C:=i.set (g':={ g1 with bN:=c }) rfl;let f3:=up (o2:=.ins A.aY d (ju { g1 with bN:=c } y)) u;erw[12,p,_,d,112,C.ins,a8 T,T.jK,mF β,112212,p,_,d,12,C.ins,a8 T,T.jK,(by show 7<1000;decide)];rw[show V.υ ((({ g1 with bN:=c }:Gg).last:π) - 1)=V.υ ((g1.last - 1:η):π) by show V.υ ((g1.last:π) - 1)=_;congr 1;ext,Xo];rwa[_,by show (g1.last - 1) - g1.first<_;ext,1122,up f3,C.set Ų,ad.bwd B ∅ G,λz=>L ∅]
   .rwa[g1,t,2,u,i,ad,L,λz=>Ρ (aoP (show (g1.first:π)<(g1.last:π) by omega)) q]
  rintro v l ⟨g1,t,Ų,u,i,ad,L,n2⟩;rwa[k g1 l u i {ad.wh,ad.wo,ad.st,ad.gi,ad.ef,ad.er,L,n2,ad.k1,ad.k2}]
def adu (ns:Zg)(j:η):k8 AS ε (ι (j:π))=aw (ns.Χ j):=by
 rw[Eg,HT.vE];show aw ((θ.ā 0 ns).Χ (min j @ns - 0))=_
 cbv
def Xp (ns:Zg)(j:η)(h:j<=@ns):k8 AS (ι (j:π)) ε=aw (ns.ā j):=by rw[Eg,HT.vE,aqf h];show aw ((ns.ā j).Χ (@ns - j))=_;rw[apq ([aqt]▸aoo _)]
theorem rS {by_:η->π->Zi}:∀{ws:Zg}{r:η},@(cH by_ r ws)<=@ws
 |[],_=>aoo _
 |z::ws,r=>by
  cases q:by_ r z with
  |ε=>rw[Cu q];rwa[aoN _]
  |ι d=>rw[p8 q,aoA,aoA];rwa[ar0 rS]
inductive OV (CR CG:Zs)(vs:Zb)(H:Hp)(Q:VK)(E_:XK):ο
 |mk (p dx wa r:Zs)(g:Gg)(S:RS)(a:RA)(R:Za2):vs=[?p,?r]->fh CG H p dx wa g->aD CR H r S a->Ø S [] R->g.Θ<S.q->g.bN<S.q->g.last<@g.Ω->@g.Ω<=1000->(∀q H',Q1 H'->bK H' 2 ?q (oJ g.which ((g.Θ::cH S.by g.Θ Co)++(g.bN::cH S.by g.bN (g.Ω.ā (g.last+ 1)))) g.first)->Q ?q H')->OV CR CG vs H Q E_
theorem FW (T:ų):T.uW.Ok mg P w Β 3 (OV A.aH A.aY):=by
 rwa[T.uW.on pJ (λcf AA J s H vs Q E Z h=>?_)]
 .let[p,m,wa,r,g,S,a,R,Ų,n,hR,I,hs,M,hll,ny,k]:=h
  refine{_,{{KB pJ.nd (pc T.walked (CN T) Z #[1,0<<<1,xK Ee (0<<<1) HS (vF (0<<<1))]),ZV pJ.nd (pc T.walked (CN T) Z #[1,0<<<1,xK Ee (0<<<1) (vF (Z2 (0<<<1) ak)) HS]),aZ (bh #[dq (l:=[114,117,108,101]) Ų,0<<<1,Zy #[aJ yS (pv 2) (pv 3)],0<<<1])}},?_}
  let y:∀c z d,S.by c z=ι d->d<S.q:=λc z d e=>(I.st c z d e).2.1
  rwa[1212,p,_,m,112,n.ins,a8 T,T.sQ,yt β,12,p,_,m,112,n.ins,a8 T,T.kP,mC β,12,p,_,m,112,n.ins,a8 T,T.fN,iI β,12,wa,12,n.wo,λt1 H1 s1 e1=>?_];rw[adu]at e1;rwa[r,S,a,g.Θ,t1,g.Ω.Χ g.first,2,hR.Μ s1,I.wf,hs,y,e1,by rw[aoX];ext,λl1 H2 s2 h2=>?_];let B:=s1.ν s2;let F:=n.Μ B;rwa[1212,p,_,m,112,F.ins,a8 T,T.iZ,mE β,12,p,_,m,112,F.ins,a8 T,T.kP,mC β,12,p,_,m,112,F.ins,a8 T,T.jK,mF β,112212,wa,12,F.wo,λt2 H3 s3 e3=>?_];rw[show (g.last:π)+ 1=((g.last+ 1:η):π) by ext,Xp β ∅]at e3;let C:=B.ν s3;rwa[r,S,a,g.bN,t2,g.Ω.ā (g.last+ 1),2,hR.Μ C,I.wf,M,y,e3,by rw[aqt];ext,λl2 H4 O h4=>?_];let D:=C.ν O;let U:=n.Μ D;let lx:=rS (by_:=S.by) (ws:=g.Ω.Χ g.first) (r:=g.Θ);let ly:=rS (by_:=S.by) (ws:=g.Ω.ā (g.last+ 1)) (r:=g.bN);rw[aoX]at lx;rw[aqt]at ly;rwa[12,p,_,m,112,U.ins,a8 T,T.Fu,To β,1212,l1,l2,1122,(s3.ν O) β h2,h4,5,λY n3=>?_]
  .rw[aF,aF,cJ,cJ,aoA,aoA];rwa[aot (show _<=100000 by omega) ⋯]
  rwa[Y,12,.Α {ay.of aj,λG V=>?_}];rw[<-ï,<-jX]at V ⊢;let s5:=ao.ψ (o:=.Ν (aw (nI ((g.Θ::cH S.by g.Θ Co)++(g.bN::cH S.by g.bN (g.Ω.ā (g.last+ 1))))))) n3;change (g.Θ::cH S.by g.Θ Co)++(g.bN::cH S.by g.bN (g.Ω.ā (g.last+ 1)))=path at *;let s6:=s5.ν (ao.ψ (o:=.Ò (aw (nI path))) V);let e6:ψ (ψ H4 Y (.Ν (aw (nI path)))) G (.Ò (aw (nI path))) G=_:=aj;rwa[12,p,_,m,112,(s6^U.ins),a8 T,T.fN,iI β,(Za4 4),λq nq=>?_];let W:=ao.ψ (o:=.Ò [.str (tx [114,117,108,101]),.υ (g.which:π),?G,.υ (g.first:π)]) nq;rwa[k q _ (D.ν (s6.ν W)) (.t aj Ų λj v d b f=>?_)]
  match j,b,f with
  |0,b,f=>ext b;ext f;rwa[.s]
  |1,b,f=>ext b;ext f;rwa[.i]
  |2,b,f=>
   ext b;ext f;rwa[.t (W^e6) (by rw[aF,cJ,aog]) λi u x f1 N=>?_]
   let[z,Ų,t]:=bW f1;unfold nI at t;rw[aon]at t N
   cases X:path[i]? with
   |ε=>rw[X]at t;ext t
   |ι c=>rw[X]at t N;ext t;ext N;rwa[.i]
  |3,b,f=>ext b;ext f;rwa[.i]
  |j+ 4,b,f=>simp at b
def Ĩ (s:XL){b:Zs}(h:I b=ε):H b=ε:=by
 cases e:H b with
 |ε=>rfl
 |ι o=>rw[s^e]at h;ext h
structure KA where
 dx:Zs
 aQ:Zs
 aG:Zs
 aA:Zs
 aW:Zs
instance:ť KA:={by constructor <;> rwa[default]}
def vh (r:Zs)(c:KA)(a:η):θ (Ñ×V):=[(ϔ,?r),(Q4,?c.aQ),(AL,?c.aG),(FR,?c.aA),(Da,?c.aW),(bi,.υ a)]
def gW (r:Zs)(c:KA)(a:η):(LM a).ω (ϔ:Ñ)\?r:=by kernel_rfl
def Tt (r:Zs)(c:KA)(a:η):(LM a).ω (Q4:Ñ)\?c.aQ:=by kernel_rfl
def nB (r:Zs)(c:KA)(a:η):(LM a).ω (AL:Ñ)\?c.aG:=by kernel_rfl
def qx (r:Zs)(c:KA)(a:η):(LM a).ω (FR:Ñ)\?c.aA:=by kernel_rfl
def oD (r:Zs)(c:KA)(a:η):(LM a).ω (Da:Ñ)\?c.aW:=by kernel_rfl
def yw (r:Zs)(c:KA)(a:η):(LM a).ω (bi:Ñ)\(.υ a):=by kernel_rfl
def fY {r:Zs}{c:KA}(h:x∉([ϔ,Q4,AL,FR,Da,bi]:Zp)):(LM n).ω x=ε:=by simp only[aoC,apl,aqM,not_or]at h;let[e,b,g,d,f,a]:=h;unfold vh;simp only[θ.ω,aoQ.mpr e,aoQ.mpr b,aoQ.mpr g,aoQ.mpr d,aoQ.mpr f,aoQ.mpr a]
structure sU (CG:Zs)(H:Hp)(gv:Zb)(gs:Zf)(O:Zs->ο):ο where
 l:@gv=@gs
 n:∀(i:η)(v:V),gv[i]?\v->gs[i]?\ε->v=.non
 s:∀(i:η)(v:V)(g:Gg),gv[i]?\v->gs[i]?\ι g->∃p dx wa,v=?p/\fh CG H p dx wa g/\O p
 i:∀(i j:η)(p:Zs),gv[i]?\?p->gv[j]?\?p->i=j
structure cN (CG CC:Zs)(H:Hp)(x r:Zs)(c:KA)(gs:Zf)(ag:Zh)(W:bU)(hd:η)(fp:θ (Zg×η))(O:Zs->ο):ο where
 ins:H x\(.ins CC c.dx (LM hd))
 hG:∃gv,H c.aG\.Ν gv/\sU CG H gv gs O
 hA:H c.aA\(.Ν (aw (nI ag)))
 wt:q8 H c.aW W O
 ne:c.aG≠c.aA
 ox:O x
 oG:O c.aG
 oA:O c.aA
 th:∀b,O b->∃o,H b\o/\(∀xs,o≠.Ò xs)/\(∀kv,o≠.dT kv)/\(∀u v,o≠.dI u v)/\∀ps,o≠.ti ps
section
variable {CG CC:Zs}{H H':Hp}{x r:Zs}{c:KA}{gs:Zf}{ag:Zh}{W:bU}{hd:Nat}{fp:List (Zg×Nat)}{O:Zs->Prop}
def sU.Ï (h:sU CG H L gs O)(f:∀b o,O b->H b\o->H' b\o)(ft:∀b a,H b\.Ò a->H' b\.Ò a):sU CG H' L gs O:=by rwa[h.l,h.n,λi v g d k=>?_,h.i];let[p,dx,j,e,q,o]:=h.s i v g d k;rwa[p,dx,j,e,{f β o q.ins,ft^q.wo},o]
def cN.Ï (h:Ϗ)(f:∀b o,O b->H b\o->H' b\o)(ft:∀b a,H b\.Ò a->H' b\.Ò a):cN CG CC H' x r c gs ag W hd fp O:=by let[i,g,g2]:=h.hG;rwa[f β h.ox h.ins,{i,f β h.oG g,g2.Ï f ft},f β h.oA h.hA,h.wt.Ï f,h.ne,h.ox,h.oG,h.oA,λb d=>?_];let[o,e,q]:=h.th b d;rwa[o,f β d e,q]
def cN.Μ (h:Ϗ)(s:bc):cN CG CC H' x r c gs ag W hd fp O:=h.Ï (λb o _ e=>s b o e) (λb o e=>s^e)
def cN.kb (h:Ϗ){b:Zs}{a:Zb}(e:H b\.Ò a):¬O b:=λz=>by
 let[o,q,n,_]:=h.th b z
 cbv
def cN.OW (h:Ϗ){b:Zs}{kv:θ (Zd×V)}(e:H b\.dT kv):¬O b:=λz=>by
 let[o,q,_,n,_]:=h.th b z
 cbv
def cN.waits (h:Ϗ){j:bU}{a:Zs->ο}(f:∀b o,(∀kv,o≠.dK kv)->H b\o->H' b\o)(d:∀b,O b->a b)(w:q8 H' c.aW j a)(th:∀b,a b->∃o,H' b\o/\(∀s,o≠.Ò s)/\(∀kv,o≠.dT kv)/\(∀u v,o≠.dI u v)/\∀l,o≠.ti l):cN CG CC H' x r c gs ag j hd fp a:=by let[k,n,g2]:=h.hG;rwa[f β (by cbv) h.ins,{k,f β (by cbv) n,g2.l,g2.n,λi v g t m=>?_,g2.i},f β (by cbv) h.hA,w,h.ne,d _ h.ox,d _ h.oG,d _ h.oA,th];let[p,dx,y,e,q,o]:=g2.s i v g t m;rwa[p,dx,y,e,{f β (by cbv) q.ins,f β (by cbv) q.wo},d _ o]
def cN.agenda (h:Ϗ)(a:Zh):cN CG CC (ψ H c.aA (.Ν (aw (nI a)))) x r c gs a W hd fp O:=by
 let[f,l,g2]:=h.hG;let k:∀b o,b≠c.aA->H b\o->ψ H c.aA (.Ν (aw (nI a))) b\o:=λb o n e=>by rw[aq n];rwa[e]
 let kn:∀b o,(∀m,o≠.Ν m)->H b\o->ψ H c.aA (.Ν (aw (nI a))) b\o:=λb o n e=>k b o (λz=>by rw[z,h.hA]at e;cbv) e
 rwa[ZT (by cbv) h.ins,{f,k β h.ne l,g2.l,g2.n,λi v g s j=>?_,g2.i},aj,5,h.ne,h.ox,h.oG,h.oA,λb d=>?_]
 .let[p,dx,t,e,q,o]:=g2.s i v g s j;rwa[p,dx,t,e,{ZT (by cbv) q.ins,ZT (by cbv) q.wo},o]
 .let[D,E,k1,k2]:=h.wt;rwa[D,E,k1.Ï λb o d e=>by let[kv,q]:=k1.there d;cbv,k2]
 .cases e:b=c.aA
  .rwa[_,[e]▸aj,(by cbv),(by cbv),(by cbv),by cbv]
  .let[o,q,n]:=h.th b d;rwa[o,k β e q,n]
end
def Bt (O:Zs->ο)(H a:Hp):ο:=∀b o,¬O b->H b\o->a b\o
def Bt.ν {O a:Zs->ο}(h:Bt O H I)(c:Bt a I J)(f:∀b,a b->O b\/H b=ε):Bt O H J:=λb o n e=>c b o (λz=>(f b z).Ü n λq=>by cbv) (h b o n e)
def Bt.of {O:Zs->ο}(s:XL):Bt O H I:=λb o _ e=>s b o e
inductive OX (CR CG CC:Zs)(vs:Zb)(H:Hp)(Q:VK)(E_:XK):ο
 |mk (x r:Zs)(c:KA)(gs:Zf)(ag:Zh)(W:bU)(hd:η)(fp:θ (Zg×η))(O:Zs->ο)(n m:η)(s:π):vs=[?x,.υ n,.υ m,.υ s]->cN CG CC H x r c gs ag W hd fp O->m<100000->n<100000->(-1000<=s/\s<=1000)->(∀O' H',xy H'->(∀b o,(∀kv,o≠.dK kv)->H b\o->H' b\o)->(∀b,O b->O' b)->(∀b,O' b->O b\/H b=ε)->cN CG CC H' x r c gs ag (addW W m s n) hd fp O'->Q .non H')->OX CR CG CC vs H Q E_
structure lP (H:Hp)(O:Zs->ο)(H1:Hp)(O1:Zs->ο):ο where
 f:∀b o,(∀kv,o≠.dK kv)->H b\o->H1 b\o
 bt:Bt O H H1
 le:∀b,O b->O1 b
 nw:∀b,O1 b->O b\/H b=ε
 th:∀b,O1 b->∃o,H1 b\o/\(∀xs,o≠.Ò xs)/\(∀kv,o≠.dT kv)/\(∀u v,o≠.dI u v)/\∀ps,o≠.ti ps
def lP.new {O a:Zs->ο}(h:lP H O I a){p:Zs}{kv:θ (Key×V)}(c:I p=ε):lP H O (ψ I p (.dK kv)) a:=by let s:=ao.ψ (o:=.dK kv) c;rwa[λb o n e=>s^h.f b o n e,λb o n e=>s^h.bt b o n e,h.le,h.nw,λb d=>?_];let[o,e,q]:=h.th b d;rwa[o,s^e,q]
def lP.put {O a:Zs->ο}(h:lP H O I a){d:Zs}(hd:a d){kv kv':θ (Key×V)}(ed:I d\.dK kv):lP H O (ψ I d (.dK kv')) a:=by
 let k:∀b o,b≠d->I b\o->ψ I d (.dK kv') b\o:=λb o n e=>by rw[aq n];rwa[e]
 rwa[λb o n e=>k β (λz=>by have:=h.f b o n e;cbv) (h.f b o n e),λb o n e=>k β (λz=>?_) (h.bt b o n e),h.le,h.nw,λb c=>?_]
 .rcases h.nw d hd with q|q
  .cbv
  cbv
 .cases e:b=d
  .rwa[_,by rw[e];rwa[aj],(by cbv),(by cbv),(by cbv),by cbv]
  .let[o,q,m]:=h.th b c;rwa[o,k β e q,m]
def lP.or1 {O a:Zs->ο}(h:lP H O I a){p:Zs}(g:H p=ε){o:HO}(c:I p\o)(i:∀j,o≠.Ò j)(e:∀kv,o≠.dT kv)(k:∀u v,o≠.dI u v)(f:∀d,o≠.ti d):lP H O I (NR a p):=by
 rwa[h.f,h.bt,λb z=>.Α (h.le b z),λb z=>z.Ü (h.nw b) λq=>.Ç ([q]▸g),λb z=>?_];rcases z with z|z
 .rwa[h.th b z]
 .rw[z];rwa[o,c,i,e,k,f]
def lP.no {O b:Zs->ο}(h:lP H O I b){p:Zs}(a:I p=ε):H p=ε:=by
 cases e:H p with
 |ε=>rfl
 |ι o=>
  cases q:O p
  .let[d,c,_]:=h.th p (h.le p q);cbv
  .rw[h.bt p o q e]at a;ext a
def cN.mid {x r:Zs}{c:KA}{gs:Zf}{W:bU}{hd:η}{d:θ (Zg×η)}{O:Zs->ο}(h:cN a b H x r c gs B W hd d O):lP H O H O:={λ_ _ _ e=>e,λ_ _ _ e=>e,λ_ z=>z,λ_ z=>.Α z,h.th}
def qy (T:ų):T.lH.Ok mg P w Β 1 (OX A.aH A.aY A.aK):=by
 rwa[T.lH.on lO (λS AA G s H Z Q E U h=>?_)]
 .let[x,r,c,gs,ag,W,B,Y,O,n,m,s,Ų,h,hm,hn,X,k]:=h;let F:=iC U
  erw[_,{{bS (wn lO.nd (p7 (0<<<1) (pv 2) eJ {2222})),bS (LE lO.nd (p7 (pv 4) (pv 3) eJ {2222})),iU F (pv 5) (pv 1) mJ Ų}}]
  erw[λ f J=>∃d y,f=#v[?x,.υ (n:π),.υ (m:π),.υ s,?d,ε]/\lP H O J y/\gH J c.aW W y m d,5]
  .rwa[12,x,_,c.dx,112,h.ins,aV T,T.lJ,oD^_,c.aW,2,h.wt.tE,12,λp b=>?_];let[a,g,q,l,I]:=h.wt.room b (c:=(m:π)) ∅;rwa[a,Sum.Α (m:π),g,2,q,λv j=>?_,λj=>?_]
   .let[d,Ų,w]:=l v j;rwa[d,O,2,h.mid.new b,w]
   .let w:=I j;let M:O c.aW:=by let[D,E,_,z]:=h.wt;rwa[z.o _ (.Α Ų)]
    rwa[p,12,((h.mid.new b).put M g).or1 b ([aq (λz=>by rw[z]at b;let[o,e,_]:=h.th _ M;cbv)]▸aj) (by cbv) (by cbv) (by cbv) (by cbv),w]
  rintro f J ⟨d,y,Ų,u,C⟩;erw[λ f L=>∃e t,f=#v[?x,.υ (n:π),.υ (m:π),.υ s,?d,?e]/\lP H O L t/\sx L c.aW W t m s e,5]
  .rwa[12,d,2,C.tE,12,λp b=>?_];let[a,g,q,l,I]:=C.cell b X;rwa[a,Sum.Α s,g,2,q,λv j=>?_,λj=>?_]
   .let[e,Ų,w]:=l v j;rwa[e,y,2,u.new b,w]
   .let w:=I j;let B:=C.own;rwa[p,12,((u.new b).put B g).or1 (u.no b) ([aq (λz=>by rw[z]at b;let[o,e,_]:=u.th _ B;cbv)]▸aj) (by cbv) (by cbv) (by cbv) (by cbv),w]
  rintro f L ⟨e,t,Ų,R,N⟩;let[a,g,q,l]:=N.put (n:=(n:π)) ∅;erw[1212,e,12,lz.k (k:=Sum.Α (n:π)) g q];let i:=R.put (kv':=ú a (Sum.Α (n:π)) (.bl ρ)) N.own g;rwa[k t _ i.bt i.f i.le i.nw (h.waits i.f i.le l i.th)]
inductive OY (CR CG CC:Zs)(vs:Zb)(H:Hp)(Q:VK)(E_:XK):ο
 |mk (x r:Zs)(c:KA)(gs:Zf)(ag:Zh)(W:bU)(hd:η)(fp:θ (Zg×η))(O:Zs->ο)(m:η)(s:π):vs=[?x,.υ m,.υ s]->cN CG CC H x r c gs ag W hd fp O->(∀ns:Zh,ns.Á->(∀n:η,n∈ns↔W m s n=ρ)->@ag+ @ns<=13000000)->(∀ns H',xy H'->ns.Á->(∀n:η,n∈ns↔W m s n=ρ)->cN CG CC H' x r c gs (ag++ns) (hY W m s) hd fp O->Q .non H')->OY CR CG CC vs H Q E_
theorem gJ (T:ų):T.fM.Ok mg P w Β 1 (OY A.aH A.aY A.aK):=by
 rwa[T.fM.on Aa (λcf AA D s H vs Q E hr h=>?_)]
 .let[x,r,c,gs,ag,W,hd,fp,O,m,s,Ų,h,hz,k]:=h;let C:=iC hr;erw[_,{{aX (Lo ud (0<<<1) #[Zx #[xP (oV C (0<<<1) (pv 1) eJ {2222}) (pv 2) eJ {2222}]])}}]
  let a:∀{i:Hp}{M:bU}{l:Zs}{ns:Zh},cN A.aY A.aK i x r c gs ag M hd fp O->Bt O H i->i l=ε->ns.Á->(∀n:η,n∈ns↔W m s n=ρ)->M=hY W m s->AQ (V.É c.aA) [V.É l] (ψ i l (.Ν (aw (nI ns)))) (λ_ H'=>Q .non H'):=λ{i M l ns} p b2 g R Z eW=>by
   subst eW;let L:=ao.ψ (o:=.Ν (aw (nI ns))) g;erw[c.aA,l,1122,L^p.hA,aj,5]
   .rw[aF,aF,cJ,cJ];rwa[aot (hz ns R Z) ⋯]
   .rw[<-ï,<-jX];rwa[k ns _ (λb o n e=>[aq (λz=>n ([z]▸h.oA))]▸L^b2 b o n e) R Z ((p.Μ L).agenda (ag++ns))]
  rwa[12,x,_,c.dx,112,h.ins,aV T,T.nj,qx^_,.Α {21,ay.of h.hA},12,x,_,c.dx,112,h.ins,aV T,T.lJ,oD^_,c.aW,2,h.wt.tE,12,λX J=>?_];generalize y:ψ H X _=Y;let[s1,S]:=dc y J;let F:=h.Μ s1;let[o,g1,g2]:=F.wt.ű (c:=(m:π));erw[o,g1];rcases g2 with ⟨rfl,no⟩|⟨d,Ų,w⟩
  .rwa[X,Ų,.Α {_,.Α S},_,Ų,λu j=>?_];generalize y:ψ Y u _=i;let[f,N]:=dc y j;rwa[[],Sum.Α s,f^S,2,(λv q=>by ext q),λ_=>{u,[],2,N,λl g=>?_}];rwa[a (ns:=[]) (F.Μ f) (.of (s1.ν f)) g aqb (λn=>{(λz=>by ext z),λz=>by cbv}) (A6 (no s)).Τ]
  .rwa[d,2,w.tE,12,λu j=>?_];generalize y:ψ Y u _=i;let[f,N]:=dc y j;let p:=F.Μ f;let[t,e1,U,e3]:=(w.Μ f).pop s;rwa[t,Sum.Α s,e1,2,λv q=>?_,λq=>{u,[],2,N,λl g=>?_}]
   .let[e,I,ns,Ų,G,f1,f2,f3,f4,f5]:=e3 v q;rwa[e,I,2,[aq G]▸f1,λl g=>?_];let B:=(p.mid.put (kv':=fT t Ϟ) w.own e1);rw[f2];rwa[a (p.waits B.f B.le f5 B.th) (Bt.ν (.of (s1.ν f)) B.bt λb z=>.Α z) g f3 f4 Ų]
   .rwa[a (ns:=[]) p (.of (s1.ν f)) g aqb (λn=>{(λz=>by ext z),λz=>by rw[U q]at z;ext z}) (A6 (U q)).Τ]
def _root_.Lake.L2.CI.aa7 {bs:θ (η×Zg×η)}{gs:Zf}{W:bU}{d:η->π->ο}{x:Zi}(h:CI S bs gs B W d x){m:η}{s:π}{ns:Zh}(nd:ns.Á)(c:∀n:η,n∈ns↔W m s n=ρ):@ns+ za S.q @gs (hY W m s)<=za S.q @gs W:=by
 cases ns with
 |nil=>
  have:∀n,W m s n=ς:=λn=>by
   cases q:W m s n with
   |ς=>rfl
   |ρ=>
    let[_,b,_,e,_]:=h.en γ q
    cbv
  rw[A6 Δ,aoV,arK];rwa[aoo _]
 |È n r=>
  let[k,b,l,_,a,_,f,_]:=h.en γ ((c n).mp (aou ..));let a:m<S.q:=∅
  let i:=WV (G:=@gs) (W:=W) a f
  let g:=NT (P:=λn:η=>W m s n) (G:=@gs) nd λn a=>by let w:=(c n).mp a;let[_,b,_,e,_,j,_]:=h.en γ w;rwa[3,w]
  ext
def _root_.Lake.L2.CI.two {bs:θ (η×Zg×η)}{gs:Zf}{W:bU}{a:η->π->ο}{x:Zi}(h:CI S bs gs B W a x):za S.q @gs W<=2* @gs:=WX λn=>by let[p,q,e,_]:=h.sl n;rwa[p,q,e]
def _root_.Lake.L2.gH.keys {k:Zs}{W:bU}{O:Zs->ο}(h:gH H k W O z d):∃(a:θ (Key×V))(zs:Zg),H d\.dK a/\a.Κ (λkv=>kV kv.1)=aw zs/\@zs<=2001/\∀s n,W z s n=ρ->s∈zs:=by
 let[D,E,j,o,hd]:=h;let[a,g,m,b,c]:=j.RL hd
 let p:@a<=2001:=y9 (n:=2001) (lo:=-1000) m b c λi v l=>by
  cases e:E z i with
  |ε=>rw[e]at l;ext l
  |ι x=>have:=o.e z i x e;ext
 let ex:∃zs:Zg,a.Κ (·.1)=zs.Κ Sum.Α:=by
  clear g m c p
  induction a with
  |nil=>rwa[[],2]
  |È kv r q=>
   let[zs,e]:=q λx f=>b x (JE f)
   let[i,t]:=b kv (aou ..);rwa[i::zs,by cbv]
 let[zs,e]:=ex;rwa[a,zs,g,55,λs n w=>?_]
 .rw[show (λkv:Key×V=>kV kv.1)=kV ∘ (·.1) from rfl,<-ao4,e,ao4];rfl
 .have:=apW θ.ü e;rw[aog,aog]at Δ;ext
 .let[x,f]:=j.se γ w;have:Sum.Α s∈a.Κ (·.1):=Il (v:=?x) (by rw[c,f];rfl)
  cbv
structure nF (CG CC:Zs)(S:RS)(bs:θ (η×Zg×η))(gs:Zf)(W0:bU)(Ex:η->π->ο)(B:η)(x r:Zs)(c:KA)(hd:η)(fp:θ (Zg×η))(O:Zs->ο)(H:Hp)(ag:Zh)(W:bU):ο where
 c:cN CG CC H x r c gs ag W hd fp O
 i:CI S bs gs ag W Ex ε
 s:∀r s n,W r s n=ρ->W0 r s n=ρ
 b:@ag+ za S.q @gs W<=B
def nF.wake {bs:θ (η×Zg×η)}{gs:Zf}{f:bU}{g:η->π->ο}{x r:Zs}{c:KA}{hd:η}{e:θ (Zg×η)}{O:Zs->ο}{W:bU}(h:nF a b S bs gs f g n x r c hd e O H B W){m:η}{s:π}{ns:Zh}(nd:ns.Á)(i:∀d:η,d∈ns↔W m s d=ρ)(q:cN a b I x r c gs (B++ns) (hY W m s) hd e O):nF a b S bs gs f g n x r c hd e O I (B++ns) (hY W m s):={q,h.i.wake i,λr s d w=>h.s γ (dM.mp w).1,by have:=h.i.aa7 nd i;have:=h.b;rw[aoj];ext}
def nF.fits {bs:θ (η×Zg×η)}{gs:Zf}{e:bU}{f:η->π->ο}{x r:Zs}{c:KA}{hd:η}{g:θ (Zg×η)}{O:Zs->ο}{W:bU}(h:nF a b S bs gs e f n x r c hd g O H B W)(j:n<=13000000){m:η}{s:π}:∀ns:Zh,ns.Á->(∀d:η,d∈ns↔W m s d=ρ)->@B+ @ns<=13000000:=λns nd i=>by have:=h.i.aa7 nd i;have:=h.b;ext
inductive I8 (CR CG CC:Zs)(vs:Zb)(H:Hp)(Q:VK)(E_:XK):ο
 |mk (x r:Zs)(c:KA)(S:RS)(a:RA)(bs:θ (η×Zg×η))(gs:Zf)(ag:Zh)(W:bU)(Ex:η->π->ο)(B hd:η)(fp:θ (Zg×η))(O:Zs->ο)(m:η):vs=[?x,.υ m]->nF CG CC S bs gs W Ex B x r c hd fp O H ag W->B<=13000000->aD CR H r S a->S.Wf->(∀b,CU b->¬O b)->m<S.q->S.az m<S.q->(∀jS W' H',xy H'->nF CG CC S bs gs W Ex B x r c hd fp O H' jS W'->(∀s n,W' m s n=ς)->(∀s n,W' (S.az m) s n=ρ->S.by (S.az m) s=ε)->Q .non H')->I8 CR CG CC vs H Q E_
def t7 (T:ų):T.kh.Ok mg P w Β 2 (I8 A.aH A.aY A.aK):=by
 rwa[T.kh.on fX (λcf AA Ψ s H vs Q E hr h=>?_)]
 .let[x,r,c,S,a,bs,X,ag,W,Ex,B,hd,Y,O,m,Ų,h,hB,hR,wf,dj,hm,he,k]:=h;let y4:=iC hr
  erw[_,{{ž (ck (Zx #[oV y4 (0<<<1) (pv 1) eJ {2222}])) (cU 2 fX.nd)
   {{aX (AM hr #[1,2])}},ZV fX.nd (pm (0<<<1) (aO T) T.iY (jO T) hr #[1]),ž (ck (Zx #[oV y4 (0<<<1) (pv 3) eJ {2222}])) (cU 2 fX.nd)
    {{bS (bL (a9 vA (pm (0<<<1) (aO T) T.jq (ja T) hr #[3,2]) cW (bq _))
     {{aX (AM hr #[3,2])}}
     bf)}}}}]
  let rk:∀{C:Hp},xy C->aD A.aH C r S a:=λ{C} b=>hR.Ï (λb' o hb e=>b b' o (dj b' hb) e) (λb' xs e=>b b' _ (h.c.kb e) e)
  let ű:∀{N:Hp}{ag1:Zh}{W1:bU}(m1:η),nF A.aY A.aK S bs X W Ex B x r c hd Y O N ag1 W1->∀L,N L=ε->∃(o:Zc)(d:Zs)(u:θ (Key×V))(G:Zg),dF (ψ N L (.dK [])) c.aW (.υ (m1:π)) o/\o.á ?L=?d/\ψ N L (.dK []) d\.dK u/\u.Κ (λkv=>kV kv.1)=aw G/\∀s n,W1 m1 s n=ρ->s∈G:=λ{N ag1 W1} m1 h1 L D=>by
   let s1:=ao.ψ (o:=.dK []) D;let[o,g1,g2]:=(h1.c.Μ s1).wt.ű (c:=(m1:π));rcases g2 with ⟨rfl,no⟩|⟨d,Ų,w⟩
   .rwa[ε,L,[],[],g1,Ų,aj,Ų,λs n z=>by cbv]
   .let[u,G,e1,e2,_,e4]:=w.keys;rwa[_,d,u,G,g1,2,e1,e2,e4]
  rwa[12,x,_,c.dx,112,h.c.ins,aV T,T.lJ,oD^_,c.aW,2,h.c.wt.tE,12,λL D=>?_];let[o,d,u,G,g1,g2,g3,g4,YM]:=ű m h L D;rwa[o,g1,d,u,(by rw[g2]),g3,λl nl=>?_];rw[g4];let s1:=(ao.ψ (o:=.dK []) D).ν (ao.ψ (o:=.Ν (aw G)) nl);let hl:ψ (ψ H L (.dK [])) l (.Ν (aw G)) l\(.Ν (aw G)):=aj;replace nl:=Ĩ (ao.ψ (o:=.dK []) D) nl;change ψ (ψ H L (.dK [])) l (.Ν (aw G))=N at s1 hl ⊢;let nol:¬O l:=λz=>by let[o,e,_]:=h.c.th l z;cbv
  let h1:nF A.aY A.aK S bs X W Ex B x r c hd Y O N ag W:={h.c.Μ s1,h.i,h.s,h.b};erw[l,2,{_,ay.of hl}]
  refine cF (xs:=aw G) (λi M C=>∃t I v2,M=#v[?x,.υ (m:π),v2,ε]/\Bt O N C/\nF A.aY A.aK S bs X W Ex B x r c hd Y O C t I/\∀(j:η)(s:π),j<i->G[j]?\s->∀n,I m s n=ς)
   {ag,W,ε,2,λ_ _ _ e=>e,h1,λj s F=>Ρ F ∅} (λi M C _ ζ=>by let[_,_,_,_,b2,_]:=ζ;rwa[ay.of (b2 β nol hl)]) ?_ ?_
  .rintro i v M C hi ⟨t,I,v2,Ų,b2,g,F⟩;let[s,Ų,hs]:=bW hi;rwa[12,x,c.dx,12,g.c.ins,fY ⋯,1212,x,r,c,X,t,I,hd,Y,O,m,s,2,g.c,g.fits hB,λns H3 b3 nd hn h3=>?_];rwa[1112,b2.ν b3 λb z=>.Α z,g.wake nd hn h3,λj s' f e n=>?_]
   cases q:hY I m s m s' n with
   |ς=>rfl
   |ρ=>
    let[q1,q2]:=dM.mp q
    cbv
  rintro M C ⟨t,I,v2,Ų,b2,g,F⟩;rw[aF]at F;let b02:Bt O H C:=Bt.ν (.of s1) b2 λb z=>.Α z
  let off:∀s n,I m s n=ς:=λs n=>by
   cases q:I m s n with
   |ς=>rfl
   |ρ=>let[j,f,e]:=aqz.mp (YM s n (g.s γ q));rw[F j s f (by rw[aoe f,e]) n]at q;ext q
  let R2:=rk b02;erw[12,x,_,c.dx,112,g.c.ins,aV T,T.fO,gW^_,r,a.dx,12,R2.ins,Zw ⋯,12,r,S,a,m,S.az m,2,R2,pN ([wf.e]▸hm)];change S.az m=e at he k ⊢;rwa[12,x,_,c.dx,112,g.c.ins,aV T,T.lJ,oD^_,c.aW,2,g.c.wt.tE,12,λp2 Ah=>?_];let[o2,d2,agm,y,g1,g2,g3,g4,agn]:=ű e g p2 Ah;rwa[o2,g1,d2,agm,(by rw[g2]),g3,λl2 CM=>?_];rw[g4];let s3:=(ao.ψ (o:=.dK []) Ah).ν (ao.ψ (o:=.Ν (aw y)) CM);let Cb:ψ (ψ C p2 (.dK [])) l2 (.Ν (aw y)) l2\(.Ν (aw y)):=aj;replace CM:=Ĩ (ao.ψ (o:=.dK []) Ah) CM;change ψ (ψ C p2 (.dK [])) l2 (.Ν (aw y))=H3 at s3 Cb ⊢;let ago:¬O l2:=λz=>by let[o,e,_]:=g.c.th l2 z;cbv
  let h3:nF A.aY A.aK S bs X W Ex B x r c hd Y O H3 t I:={g.c.Μ s3,g.i,g.s,g.b};erw[l2,2,{_,ay.of Cb}]
  refine cF (xs:=aw y) (λi M U=>∃J Z v2,M=#v[?x,.υ (m:π),v2,.υ (e:π)]/\Bt O H3 U/\nF A.aY A.aK S bs X W Ex B x r c hd Y O U J Z/\(∀r s n,Z r s n=ρ->I r s n=ρ)/\∀(j:η)(s:π),j<i->y[j]?\s->∀n,Z e s n=ρ->S.by e s=ε)
   {t,I,12,λ_ _ _ q=>q,h3,λ_ _ _ q=>q,λj s F=>Ρ F ∅} (λi M U _ ζ=>by let[_,_,_,_,b4,_]:=ζ;rwa[ay.of (b4 β ago Cb)]) ?_ ?_
  .rintro i v M U hi ⟨J,Z,v4,Ų,b4,R,p,F⟩;let[s,Ų,hs]:=bW hi;let b04:Bt O H U:=b02.ν (Bt.ν (.of s3) b4 λb z=>.Α z) λb z=>.Α z
   let R4:=rk b04;rwa[15,λ_ _ z=>z];erw[12,x,_,c.dx,112,R.c.ins,aV T,T.fO,gW^_,r,a.dx,12,R4.ins,Zw ⋯,1212,r,S,a,e,s,2,R4,[wf.w]▸he]
   cases eb:S.by e s with
   |ε=>
    erw[212];rwa[1112,b4,R,p,λj s' f q n w=>?_]
    cbv
   |ι d=>
    erw[212];rwa[12,x,c.dx,12,R.c.ins,fY ⋯,1212,x,r,c,X,J,Z,hd,Y,O,e,s,2,R.c,R.fits hB,λns H5 b5 nd hn h5=>?_];rwa[1112,b4.ν b5 λb z=>.Α z,R.wake nd hn h5,λr s n w=>p γ (dM.mp w).1,λj s' f q n w=>?_];let[w1,w2]:=dM.mp w
    cbv
  rintro M U ⟨J,Z,v4,Ų,b4,R,p,F⟩;rw[aF]at F;rwa[k J Z U (b02.ν (Bt.ν (.of s3) b4 λb z=>.Α z) λb z=>.Α z) R (λs n=>?_) λs n w=>?_]
  .cbv
  .let[j,f,q]:=aqz.mp (agn s n (p γ w));rwa[F j s f (by rw[aoe f,q]) n w]
def cN.adv {x r:Zs}{c:KA}{gs:Zf}{W:bU}{hd:η}{l:θ (Zg×η)}{O:Zs->ο}(h:cN a b H x r c gs B W hd l O)(y:∀(n:η) (g:Gg) (p dx j:Zs),gs[n]?\ι g->fh a H p dx j g->p≠x)(n:η):cN a b (wS (.ins b c.dx (LM n))) x r c gs B W n l O:=by
 let kn:∀f o,(∀C d fs,o≠.ins C d fs)->H f\o->ψ H x (.ins b c.dx (LM n)) f\o:=λf o q e=>by rw[aq (λz=>by rw[z,h.ins]at e;cbv)];rwa[e]
 let[t,u,g2]:=h.hG;rwa[aj,{t,ZT (by cbv) u,g2.l,g2.n,λi v g w s=>?_,g2.i},ZT (by cbv) h.hA,5,h.ne,h.ox,h.oG,h.oA,λf k=>?_]
 .let[p,dx,j,e,q,o]:=g2.s i v g w s;rwa[p,dx,j,e,{[aq (y i g p dx j s q)]▸q.ins,ZT (by cbv) q.wo},o]
 .let[D,E,k1,k2]:=h.wt;rwa[D,E,k1.Ï λf o k e=>by let[kv,q]:=k1.there k;rw[q]at e;ext e;rwa[ZT (by cbv) q],k2]
 .cases e:f=x
  .rwa[_,[e]▸aj,(by cbv),(by cbv),(by cbv),by cbv]
  .let[o,q,m]:=h.th f k;rwa[o,[aq e]▸q,m]
def FX {x r:Zs}{c:KA}{d:Zf}{W:bU}{f:θ (Zg×η)}{O:Zs->ο}(h:cN a b H x r c d B W n f O){p j i:Zs}{g:Gg}(q:fh a H p j i g):p≠x:=λz=>by have:=q.ins;rw[z,h.ins]at Δ;let e:=apW (λo:Ă HO=>match o with|ι (.ins β fs)=>@fs|_=>0) Δ;rwa[Ρ (show 6=7 from e) ⋯]
def Vt (S:RS)(a:η):η->π->ο:=λr _=>∃m∈S.bz.ā a,r=m\/r=S.az m
inductive OZ (CR CG CC:Zs)(vs:Zb)(H:Hp)(Q:VK)(E_:XK):ο
 |mk (x r:Zs)(c:KA)(S:RS)(a:RA)(R:Za2)(bs:θ (η×Zg×η))(gs:Zf)(ag:Zh)(W:bU)(B hd:η)(fp:θ (Zg×η))(O:Zs->ο):vs=[?x]->nF CG CC S bs gs W (Vt S hd) B x r c hd fp O H ag W->B<=13000000->hd<=@S.bz->aD CR H r S a->Ø S [] R->(∀m∈S.bz,m<S.q)->(∀b,CU b->¬O b)->(∀jS W' H',xy H'->nF CG CC S bs gs W gP B x r c @S.bz fp O H' jS W'->Q .non H')->OZ CR CG CC vs H Q E_
def Am (T:ų):T.pG.Ok mg P w Β 3 (OZ A.aH A.aY A.aK):=by
 rwa[T.pG.on Ab (λcf AA L s H vs Q E N h=>?_)]
 .let[x,r,c,S,a,R,bs,gs,ag,W,B,hd,Z,O,Ų,h,hB,X,hR,J,V,dj,k]:=h
  refine{_,{{bS (Po (a9 ot (0<<<1) (((0<<<1)<<<1)<<<0) (bq _))
   {{aX (Ϙ T.kh (t7 T) N #[((0<<<1)<<<1)|||(0<<<1)]),ώ (Z2 (0<<<1) ak) Ų}})}},?_}
  let rk:∀{u:Hp},xy u->aD A.aH u r S a:=λ{u} b=>hR.Ï (λG o hb e=>b G o (dj G hb) e) (λG xs e=>b G _ (h.c.kb e) e)
  rwa[λ fH H'=>Q .non H',5,λ_ _ q=>q];erw[λm σ u=>∃d j I,m=@S.bz - d/\σ=#v[?x]/\d<=@S.bz/\Bt O H u/\nF A.aY A.aK S bs gs W (Vt S d) B x r c d Z O u j I,⟨_,hd,ag,W,22,X,λ_ _ _ e=>e,h⟩];rintro m σ u ⟨d,j,I,Ų,Ų,Cb,U,f⟩;let R2:=rk U;let t:=R2.ins;erw[12,x,_,c.dx,112,f.c.ins,aV T,T.pI,yw^_,12,x,_,c.dx,112,f.c.ins,aV T,T.fO,gW^_,r,_,a.dx,112,t,aO T,T.va,vP^_,a.aN,12,.Α (ay.of R2.hN),112212];rwa[cQ (λq=>?_) (λq=>?_)]
  .let q:(d:π)<(@(aw Fk):π):=aoS q;rw[aF,cJ]at q;let i:d<@S.bz:=∅
   obtain⟨F,D⟩:∃gx,S.bz[d]?\gx:={S.bz[d]'i,aoe i}
   change F=m at D;let y:=V m (aoi D);erw[_,λ_ _ z=>z];erw[12,x,c.dx,12,f.c.ins,fY ⋯,12,x,_,c.dx,112,f.c.ins,aV T,T.fO,gW^_,r,_,a.dx,112,t,aO T,T.va,vP^_,12,x,_,c.dx,112,f.c.ins,aV T,T.pI,yw^_,a.aN,11,.υ (m:π),22,ay.of R2.hN,bX (bR (lA D))];rwa[x,r,c,S,a,bs,gs,j,I,Vt S d,B,d,Z,O,m,2,{f.c,f.i,λ_ _ _ z=>z,f.b},hB,R2,J.wf,dj,y,J.lt y,λM W3 H3 b3 l w1 w2=>?_];erw[12,x,_,c.dx,112,l.c.ins,aV T,T.pI,yw^_,112212,x,_,c.dx,12,l.c.ins,aV T,T.pI,(by show 6<1000;decide)];let c4:=l.c.adv (λn g p dx wa _ z=>FX l.c z) (d+ 1);rwa[@S.bz - (d+ 1),3,d+ 1,M,W3,22,i,5,c4,l.i.ex λr' s n w N ex=>?_,λr s n w=>f.s γ (l.s γ w),l.b]
   .rwa[(U.ν b3 λb z=>.Α z).ν (λb o n e=>by rw[aq (λz=>n ([z]▸l.c.ox))];rwa[e]:Bt O H3 _) λb z=>.Α z]
   .let[Y,v,C]:=ex;rw[aqy i]at v;rcases aoC.mp v with z|z
    .let em:Y=m:=by rw[z];rw[aoe i]at D;rwa[Za0 D]
     subst em;rcases C with C|C
     .rw[C,w1]at w;ext w
     .subst C;rwa[.Α {(J.el _ y).2,w2 s n w}]
    .rwa[.Ç {Y,z,C}]
  .let q:¬(d:π)<(@(aw Fk):π):=λz=>q TD
   rw[aF,cJ]at q;let e:d=@S.bz:=∅
   subst e;rwa[k j I u U {f.c,f.i.ex λr' s n w N ex=>?_,f.s,f.b}];let[Y,v,_]:=ex
   cbv
def CQ {h:Ze}(g:Ø S h R)(o:∀a z b,ZI b->z∈l)(r:S.q<=100000)(m:@l<=100000)(s:@S.rows<=1000000)(p:@S.bz<=1000000):Ag S:=by
 rwa[g.wf,λc i=>g.lt i,λc z d e=>(g.st c z d e).2.1,λc n t=>g.cb c n t,λc _=>{g.kn c,λq j=>(g.st c q.1 q.2 (kI (g.kn c) j)).2.1,λq j _=>?_},{r,λf k=>?_,s,p,λf k=>?_}]
 .rw[g.sy c q.1 q.2 (kI (g.kn c) j)];rfl
 .let[c,i]:=apm k;have:S.way c=f:=by unfold RS.way;rw[aom,i];rfl
  rw[<-Δ];rwa[aot (g.NB o c) m]
 .let[c,i]:=apm k;have:S.cL c=f:=by unfold RS.cL;rw[aom,i];rfl
  rw[<-Δ];rwa[aot (g.Y0 c) ∅]
def FY (S:RS):S.Ď<=S.q:=by unfold RS.Ď;rwa[aot θ.countP_le_length (by cbv)]
def LyI (R:Za2)(m L B f M:η)(e:Zg)(d:RS)(c:Ze)(S:RS)(a:Ze):ο:=Ø S a R/\S.q=m/\S.L=L/\@S.rows+ S.Ď<=B/\@S.bz+ S.Ď<=f/\mu @e S a<=M/\∀b,mw S a b->mw d c b
def Tv {M:η}{r:Ze}(p:∀a z b,ZI b->z∈l)(I:m<=100000)(s:@l<=100000)(L:i<=1000000)(J:j<=1000000)(H:M<=1000000)(S:RS)(Ë:Ze)(w:Way)(h:LyI R m n i j M l T r S (Ë++[w])):
 Ag S/\w.1<S.q/\w.2.2<S.q/\@Ë<=1000000/\LyI R m n i j M l T r (S.í Ë w).1 (S.í Ë w).2/\mu @l (S.í Ë w).1 (S.í Ë w).2<mu @l S (Ë++[w]):=by
 let[g,C,v,D,G,o,t]:=h;let[E,F,u,A,q]:=g.Χ p;let hw:=g.pl w Fr;rwa[CQ g p ∅ s ∅ ∅,hw.1,hw.2,5,{E,by rw[u,C],by rw[A,v],553,λB d=>t B (.Χ d)},F]
 .unfold mu at o;rw[aoj]at o;ext
 .rcases q with ⟨e,k,f⟩|⟨e,c,z,x,y,_,_,_,_,_,k,f,_⟩
  .rw[e,k];rwa[D]
  .rw[k,aoj];have:@([PP ϡ Ž]:θ Dt)=1:=rfl;ext
 .rcases q with ⟨e,k,f⟩|⟨e,c,z,x,y,_,_,_,_,_,k,f,_⟩
  .rw[e,f];rwa[G]
  .rw[f,aoj];have:@([max x y]:Zh)=1:=rfl;ext
def il:z∈bJ (2* n)↔z≠0/\z.Ä<=n:=by
 unfold bJ;rw[ao1];constructor
 .rintro ⟨i,a,rfl⟩;rwa[M12.qc (aoZ.mp a)]
 .rintro ⟨d,c⟩;cases b:0<z
  .erw[2* (z.Φ - 1),aoZ.mpr ∅];unfold M12.st;rw[aoO ∅];ext
  .erw[2* (z.Ä - 1)+ 1,aoZ.mpr ∅];unfold M12.st;rw[aoK ∅];ext
structure kT (CR:Zs)(H:Hp)(r:Zs)(S:RS)(a:RA)(R:Za2)(ks:Zg)(B:η):ο where
 at_:aD CR H r S a
 g:Ø S [] R
 w:fU S
 k:∀a z b,ZI b->z∈ks
 m:S.q<=2000
 l:@ks<=400
 rb:@S.rows+ S.Ď<=B
 wb:@S.bz+ S.Ď<=900000
def kT.Ï {CR r:Zs}(h:kT CR H r S O R l n)(k:∀b o,O.own r b->H b\o->I b\o)(c:∀b a,H b\.Ò a->I b\.Ò a):kT CR I r S O R l n:={h.at_.Ï k c,h.g,h.w,h.k,h.m,h.l,h.rb,h.wb}
def kT.Μ {CR r:Zs}(h:kT CR H r S O R l n)(s:XL):kT CR I r S O R l n:=h.Ï (λb o _ e=>s^e) (λb o e=>s^e)
def Bp {r:Zs}(h:SB){b:Zs}{d:θ (Zd×V)}(e:H b\.dT d):¬O.own r b:=λz=>by
 rcases z with z|z|z
 .rw[z,h.ins]at e;ext e
 .let[c,q]:=h.UD z;cbv
 .let[c,q]:=h.tE z;cbv
def Tw (w:η)(p:Zh)(k:η)(h:@p<=100000):oW (oJ w p k):=by
 rwa[.t (by show 4<=100000;decide) λd a=>?_]
 simp only[aoC,apl,aqM]at a;rcases a with rfl|rfl|rfl|rfl
 .rwa[.s]
 .rwa[.i]
 .rwa[.t (by rw[aog];rwa[h]) λd a=>?_]
  let[c,_,Ų]:=ao1.mp a;rwa[.i]
 .rwa[.i]
inductive O6 (CR CG CC:Zs)(vs:Zb)(H:Hp)(Q:VK)(E_:XK):ο
 |mk (x r p dx wa:Zs)(c:KA)(S:RS)(a:RA)(R:Za2)(ks:Zg)(B:η)(ws:Za3)(nr:η)(bs:θ (η×Zg×η))(gs:Zf)(ag:Zh)(W:bU)(fp:θ (Zg×η))(O:Zs->ο)(n:η)(g:Gg):vs=[?x,?p]->cN CG CC H x r c gs ag W @S.bz fp O->kT CR H r S a R ks B->B<900000->(∀b,CU b->¬O b)->CI S bs gs ag W gP (ι n)->gs[n]?\ε->bs[n]?\(g.which,g.Ω,g.Θ)->fh CG H p dx wa g->¬O p->¬a.own r p->GI S g->g.first=g.last->S.az g.Θ=g.Θ->S.az g.Ù=g.Ù->S.az g.bN=g.bN->ws[g.which]?\g.Ω->(g.which<nr\/g.Θ=0)->(∀z∈g.Ω,z∈ks/\-z∈ks)->@g.Ω<=1000->@ag+ 2* @gs<=13000000->(∀S' a' R' jS W' H',(∀b o,¬O b->¬a.own r b->H b\o->H' b\o)->cN CG CC H' x r c gs jS W' @S'.bz fp O->kT CR H' r S' a' R' ks (B+ 1)->(∀b,JI b->a.own r b\/H b=ε)->CI S' bs gs jS W' gP ε->@jS<=@ag+ 2* @gs->(∀a z b,ZI b->R' a z b)->S'.q=S.q->S'.L=S.L->Tr ws nr S S'->Q .non H')->O6 CR CG CC vs H Q E_
def Bq (T:ų):T.qJ.Ok mg P w Β 6 (O6 A.aH A.aY A.aK):=by
 rwa[T.qJ.on rL (λcf AA Ψ s H vs Q E N h=>?_)]
 .let[x,r,p,t,wa,c,S,a,R,ks,B,ws,nr,bs,I,ag,W,fp,O,n,g,Ų,Y,f,hB,dj,ci,hgn,I9,u,npO,npo,i,F,es,ef,er,FZ,hnr,hks,ny,L,k]:=h
  refine{_,{{KB rL.nd ((1<<<1)&&&(1<<<1)),bL (FS (pm (0<<<1) (aO T) T.jq (ja T) N #[1<<<1,2]) (1<<<1) (bq _))
    {{AK}}
    bf,aX (pm (0<<<1) (aO T) T.uX (FP T) N #[1<<<1,2,1<<<1,pm (pv 1) (a8 T) T.uW (FW T) N #[0<<<1]]),aX (AM N #[1<<<1,2]),aX (AM N #[1<<<1,Ev (pv 2)]),aX (E5 (pv 0) (aV T) T.pG (Am T) N)}},?_}
  let hz:=Gg.tF (g:=g) (by rw[F];rwa[i.ll]);let tF:lh (aw g.Ω) (g.first:π)\(.υ g.z1):=bX (bR hz);let gd:=f.g;erw[12,p,_,t,112,u.ins,a8 T,T.kP,mC β,12,p,_,t,112,u.ins,a8 T,T.fN,iI β,wa,11,.υ g.z1,22,bG.of u.wo,tF];erw[12,x,_,c.dx,112,Y.ins,aV T,T.fO,gW^_,r,a.dx,12,f.at_.ins,Zw ⋯,12,p,_,t,112,u.ins,a8 T,T.iG,mD β,12,r,S,a,g.Ù,g.z1,2,f.at_,[gd.wf.w]▸i.f,12,p,_,t,112,u.ins,a8 T,T.iZ,mE β]
  let fin:S.by g.Ù g.z1=ι g.bN->Q .non H:=λj=>by rwa[k S a R ag W H (λ_ _ _ _ e=>e) Y {f.at_,f.g,f.w,f.k,f.m,f.l,by have:=f.rb;ext,f.wb} (λb z=>.Α z) (ci.done hgn λb eb=>?_) ∅ (λ_ _ _ z=>z) Ų Ų (.Ł S)];rw[I9]at eb;obtain rfl:=Za0 eb;rwa[.Ç (i.whole F es ef er j)]
  cases j:S.by g.Ù g.z1=ι g.bN
  .rw[j];erw[212];rwa[cQ (λ_=>fin j) (λz=>Ρ (aoP Ų) z)]
  let tst:QS (((S.by g.Ù g.z1).Κ λn:η=>V.υ (n:π)).á .non) (.υ (g.bN:π))=ρ/\decide ((((S.by g.Ù g.z1).Κ λn:η=>V.υ (n:π)).á .non)=V.υ (g.bN:π))=ς:=by
   cases q:S.by g.Ù g.z1 with
   |ε=>rwa[2,apd f!""]
   |ι d=>rwa[2,apd (λz=>j (by rw[q];have:=V.υ.inj z;congr 1;omega))]
  erw[tst.1,12];rw[tst.2];rwa[12,x,_,c.dx,112,Y.ins,aV T,T.fO,gW^_,r,a.dx,12,f.at_.ins,Zw ⋯,12,p,_,t,112,u.ins,a8 T,T.iG,mD β,1212,p,_,t,112,u.ins,a8 T,T.iZ,mE β,12,p,t,12,u.ins,Vr ⋯,12,x,_,c.dx,112,Y.ins,aV T,T.fO,gW^_,p,t,wa,r,g,S,a,R,2,u,f.at_,gd,i.s,i.r,i.ll,ny,λq H1 s1 dt=>?_];let lx:=rS (by_:=S.by) (ws:=g.Ω.Χ g.first) (r:=g.Θ);let ly:=rS (by_:=S.by) (ws:=g.Ω.ā (g.last+ 1)) (r:=g.bN);rw[aoX]at lx;rw[aqt]at ly;let f1:=i.wf;let f2:=i.wr;rw[es,ef]at f1;rw[es,er,<-F]at f2;rw[<-F]at dt ly;let ra:EH ws nr S g.which g.Ω g.Θ g.first g.Ù g.bN g.z1:={FZ,hnr,{i.s,es},hz,f1,f2,{i.f,ef},{i.r,er},j}
  let v:∀a y b,gb R g.Ù g.z1 g.bN a y b->y∈ks:=by
   have:=hks g.z1 (aoi hz);rintro a y b (z|⟨_,e,_⟩|⟨_,e,_⟩)
   .rwa[f.k γ z]
   .rw[e];rwa[Δ.1]
   .rw[e];rwa[Δ.2]
  let stl:=FY S
  let Vq:mu @ks (ϻ g.bN) [(g.Ù,g.z1,g.bN)]<=1000000:=by unfold mu;let h1:(ϻ g.bN).Ď=S.Ď:=rfl;have:S.Ď* (@ks+ 1)<=2000* 401:=aqX (by have:=f.m;omega) (by have:=f.l;omega);show S.Ď* (@ks+ 1)+ 1<=_;ext
  let gl:=gd.lay g.z1 i.f i.r (ϻ g.bN).rows;rwa[r,q,S,a,g.Ù,g.bN,g.z1,_,LyI (gb R g.Ù g.z1 g.bN) S.q S.L (B+ 1) 900000 1000000 ks (ϻ g.bN) [(g.Ù,g.z1,g.bN)],mu @ks,2,f.at_.Μ s1,by have:=f.rb;ext,dt,Tw γ (by rw[aoj,aoA,aoA];omega),{gl,225,f.wb,Vq,λ_ z=>z},Tv v (by have:=f.m;omega) (by have:=f.l;omega) ∅ ⋯ ⋯,λD a' Z b2 h2 i2 o2=>?_]
  .show @(S.rows++[_])+ S.Ď<=_;rw[aoj];have:=f.rb;show _+ 1+ _<=_;ext
  let[g2,em,eL,rb2,wb2,_,re]:=i2;let lay:=re D (.nil D);let[_,w2,_,_,l,el]:=lay.all gl v ({f.w.a,f.w.b,f.w.c}:fU (ϻ g.bN));let el:D.bz=S.bz++l:=el;let C:∀b o,¬a.own r b->H b\o->Z b\o:=λb o nb e=>b2 b o nb (s1^e)
  let o02:∀b,JI b->a.own r b\/H b=ε:=λb z=>(o2 b z).Ŋ id (Ĩ s1)
  let M:∀b,JI b->¬O b:=λb z y=>by
   rcases o02 b z with q|q
   .rwa[dj b q y]
   .let[o,e,_]:=Y.th b y;cbv
  let U:cN A.aY A.aK Z x r c I ag W @S.bz fp O:=Y.Ï (λb o j e=>C b o (λz=>dj b z j) e) (λb xs e=>C b _ (f.at_.vQ e) e);let p2:fh A.aY Z p t wa g:={C β npo u.ins,C β (f.at_.vQ u.wo) u.wo};let lt:=Œ.of gd g2 kf (arE em.Τ)
  let F0:=ci.lay hgn gd g2 em f.w w2 el i.f ef i.r er λb eb=>by
   rw[I9]at eb;obtain rfl:=Za0 eb;cases X:D.az g.Θ=g.Θ
   .right
    let h1:=lt.wk f1;let h3:=lt.wk f2;let hbb:=g2.ux.mpr {g.Ù,g.bN,mq,22};rw[X]at h1 h3;have:g.Ω=g.Ω.Χ g.first++(g.z1::g.Ω.ā (g.first+ 1)):=by rw[<-ř hz,ap4]
    rw[Δ,oY h1,iW hbb];rwa[h3]
   .rwa[.Α X]
  let O8:nF A.aY A.aK D bs I W _ (@ag+ 2* @I) x r c @S.bz fp O Z ag W:={U,F0,λ_ _ _ z=>z,by have:=F0.two;ext};rwa[12,x,c.dx,12,U.ins,fY ⋯,12,p,_,t,112,p2.ins,a8 T,T.iG,mD β,12,x,r,c,I,ag,W,@S.bz,fp,O,g.Ù,g.z1,2,U,O8.fits L,λns H3 b3 nd hn c3=>?_];let wk1:=O8.wake nd hn c3;let p3:fh A.aY H3 p t wa g:={b3 β npO p2.ins,b3 β (U.kb p2.wo) p2.wo};rwa[12,x,c.dx,12,c3.ins,fY ⋯,12,p,_,t,112,p3.ins,a8 T,T.iZ,mE β,1212,x,r,c,I,11,@S.bz,fp,O,g.bN,-g.z1,2,c3,wk1.fits L,λns2 H4 b4 nd2 F3 c4=>?_];let wk2:=wk1.wake nd2 F3 c4;let G:Bt O Z H4:=b3.ν b4 λb z=>.Α z
  let R4:aD A.aH H4 r D a':=h2.Ï (λb o j e=>G b o (M b j) e) (λb xs e=>G b _ (U.kb e) e)
  let i4:CI D bs I (ag++ns++ns2) (hY (hY W g.Ù g.z1) g.bN (-g.z1)) (Vt D @S.bz) ε:=wk2.i.ex λr' s n' w N ex=>by
   let[w1,n1]:=dM.mp w;let[w2,n2]:=dM.mp w1;rcases ex with ⟨X,e2⟩|⟨X,e2⟩|⟨m,hm,e⟩
   .rwa[Ρ {by rw[X],e2} n2]
   .rwa[Ρ {by rw[X],e2} n1]
   .rwa[.Ç {m,by cbv,e}]
  rwa[_,Ų,x,c.dx,_,Ų,c4.ins,fY (by decide),x,r,c,D,a',_,bs,I,_,_,_,@S.bz,fp,O,Ų,{c4,i4,λ_ _ _ z=>z,wk2.b},L,by rw[el,aoj];ext,R4,g2,w2.c,M,λag5 W5 H5 b5 h5=>?_];let J:Bt O Z H5:=G.ν b5 λb z=>.Α z
  rwa[k D a' _ ag5 W5 H5 (λb o n1 n2 e=>J b o n1 (C b o n2 e)) h5.c {h2.Ï (λb o j e=>J b o (M b j) e) (λb xs e=>J b _ (U.kb e) e),g2,w2,v,[em]▸f.m,f.l,rb2,wb2} o02 h5.i (by have:=h5.b;omega) kf em eL (.ı (.Ł S) ra lay)]
def adw {x:V}{A B:ο}(h:x=q)(k:B):if (!decide (x=q))=ρ then A else B:=by cbv
section
variable {CG CC:Zs}{H H':Hp}{x r:Zs}{c:KA}{gs:Zf}{ag:Zh}{W:bU}{hd:Nat}{fp:List (Zg×Nat)}{O:Zs->Prop}{gv:Zb}{n:Nat}{p dx wa:Zs}{g g':Gg}
def cN.adx (h:Ϗ)(hG:H c.aG\.Ν gv)(j:sU CG H gv gs O)(G:gv[n]?\?p)(L:O p)(q:fh CG H p dx wa g)(f:∀b o,b≠p->H b\o->H' b\o)(J:fh CG H' p dx wa g'):cN CG CC H' x r c Pf ag W hd fp O/\sU CG H' gv Pf O:=by
 let kn:∀b o,(∀C d fs,o≠.ins C d fs)->H b\o->H' b\o:=λb o w e=>f b o (λz=>by rw[z,q.ins]at e;cbv) e
 let a:sU CG H' gv Pf O:=by
  rwa[[aoR]▸j.l,λi v y l=>?_,λi v u y l=>?_,j.i]
  .rcases gG l with ⟨_,z⟩|⟨_,z⟩
   .ext z
   .rwa[j.n i v y z]
  .rcases gG l with ⟨z1,z⟩|⟨z1,z⟩
   .cbv
   .let[B,t,s,e,A,I]:=j.s i v u y z;let F:B≠p:=λz=>z1 (j.i i n p (by cbv) G)
    rwa[B,t,s,e,{f β F A.ins,ZT (by cbv) A.wo},I]
 rwa[{f β (FX h q).Τ h.ins,{gv,ZT (by cbv) hG,a},ZT (by cbv) h.hA,5,h.ne,h.ox,h.oG,h.oA,λb k=>?_},a]
 .let[D,E,k1,k2]:=h.wt;rwa[D,E,k1.Ï λb o k e=>by let[kv,q]:=k1.there k;cbv,k2]
 .cases e:b=p
  .rwa[_,[e]▸J.ins,(by cbv),(by cbv),(by cbv),by cbv]
  .let[o,q,m]:=h.th b k;rwa[o,f β e q,m]
def cN.Ja (h:Ϗ)(hG:H c.aG\.Ν gv)(f:sU CG H gv gs O)(L:gv[n]?\?p)(q:fh CG H p dx wa g):cN CG CC (ψ H c.aG (.Ν (gv.set n .non))) x r c (gs.set n ε) ag W hd fp (λb=>O b/\b≠p):=by
 let k:∀b o,b≠c.aG->H b\o->ψ H c.aG (.Ν (gv.set n .non)) b\o:=λb o n e=>by rw[aq n];rwa[e]
 let kn:∀b o,(∀s,o≠.Ν s)->H b\o->ψ H c.aG (.Ν (gv.set n .non)) b\o:=λb o w e=>k b o (λz=>by cbv) e
 let G:∀{b s},H b\.Ν s->b≠p:=λ{b s} e z=>by rw[z,q.ins]at e;ext e
 rwa[ZT (by cbv) h.ins,{_,aj,[aoR,aoR]▸f.l,λi v l d=>?_,λi v u l d=>?_,λi j N l d=>?_},k β h.ne.Τ h.hA,5,h.ne,{h.ox,(FX h q).Τ},{h.oG,G hG},{h.oA,G h.hA},λb a=>?_]
 .rcases gG l with ⟨z1,z⟩|⟨z1,z⟩
  .rwa[z]
  .rcases gG d with ⟨t,_⟩|⟨_,y⟩
   .rwa[Ρ t z1]
   .rwa[f.n i v z y]
 .rcases gG d with ⟨_,z⟩|⟨z1,z⟩
  .ext z
  .rcases gG l with ⟨t,_⟩|⟨_,y⟩
   .rwa[Ρ t z1]
   .let[F,B,A,e,C,M]:=f.s i v u y z;let J:F≠p:=λw=>z1 (f.i i n p (by cbv) L)
    rwa[F,B,A,e,{ZT (by cbv) C.ins,ZT (by cbv) C.wo},M,J]
 .rcases gG l with ⟨_,z⟩|⟨_,z⟩
  .ext z
  .rcases gG d with ⟨_,y⟩|⟨_,y⟩
   .ext y
   .rwa[f.i i j N z y]
 .let[D,E,k1,k2]:=h.wt;rwa[D,E,k1.Ï λb o a e=>by let[kv,q]:=k1.there a;cbv,λb a=>{k2.o b a,λz=>?_},k2.d,k2.e,k2.w];let[kv,I]:=k1.there a;rw[z,q.ins]at I;ext I
 .cases e:b=c.aG
  .rwa[_,[e]▸aj,(by cbv),(by cbv),(by cbv),by cbv]
  .let[o,q,m]:=h.th b a.1;rwa[o,k β e q,m]
end
structure F4 (ws:Za3)(nr:η)(ks:Zg)(bs:θ (η×Zg×η)):ο where
 w:∀b∈bs,ws[b.1]?\b.2.1
 n:∀b∈bs,b.1<nr\/b.2.2=0
 l:∀b∈bs,@b.2.1<=1000
 k:∀b∈bs,∀z∈b.2.1,z∈ks/\-z∈ks
 c:@bs<100000
def live (a:Zf):η:=a.countP (·.ě)
def F5 {a:Zf}{g:Gg}(h:a[n]?\ι g):(∀u:Gg,live (a.set n (ι u))=live a)/\live (a.set n ε)+ 1=live a:=by
 unfold live
 induction a generalizing n with
 |nil=>simp at h
 |È y r c=>
  cases n with
  |Ŀ=>
   have:y\g:=by simpa using h
   subst Δ;simp[θ.countP_cons]
  |ŧ n=>let[b,d]:=c (n:=n) (by simpa using h);simp only[θ.set_cons_succ,θ.countP_cons];rwa[λu=>by rw[b u],3]
inductive O9 (CR CG CC:Zs)(vs:Zb)(H:Hp)(Q:VK)(E_:XK):ο
 |mk (x r:Zs)(c:KA)(S:RS)(a:RA)(R:Za2)(ks:Zg)(B:η)(ws:Za3)(nr:η)(bs:θ (η×Zg×η))(gs:Zf)(ag:Zh)(W:bU)(fp:θ (Zg×η))(O:Zs->ο)(n:η):vs=[?x,.υ n]->cN CG CC H x r c gs ag W @S.bz fp O->kT CR H r S a R ks B->B<900000->(∀b,CU b->¬O b)->CI S bs gs (ag++[n]) W gP ε->F4 ws nr ks bs->@ag+ 2* @gs<=13000000->(∀S' a' R' jf jS W' O' B' H',(∀b o,¬O b->¬a.own r b->H b\o->H' b\o)->cN CG CC H' x r c jf jS W' @S'.bz fp O'->kT CR H' r S' a' R' ks B'->(∀b,JI b->a.own r b\/H b=ε)->(∀b,O' b->O b\/H b=ε)->(∀b,JI b->¬O' b)->CI S' bs jf jS W' gP ε->(∀a z b,ZI b->R' a z b)->S'.q=S.q->S'.L=S.L->Tr ws nr S S'->(live jf=live gs/\@jS=@ag/\B'=B)\/(live jf+ 1=live gs/\@jS<=@ag+ 2* @gs/\B'<=B+ 1)->Q .non H')->O9 CR CG CC vs H Q E_
def yx (T:ų):T.nP.Ok mg P w Β 7 (O9 A.aH A.aY A.aK):=by
 rwa[T.nP.on pK (λcf AA Ψ s H vs Q E hr h=>?_)]
 .let[x,r,c,S,a,R,ks,B,ws,nr,bs,N,ag,W,fp,O,n,Ų,h,G,hB,Y,ci,l,hag,k]:=h
  refine{_,{{KB pK.nd ((0<<<1)|||1),bL JJ
    {{AK}}
    bf,bL (a9 vz (pm (0<<<1) (aO T) T.iY (jO T) hr #[2<<<1]) (2<<<1) (bq _))
    {{ji cW (jV (0<<<1) (pv 1) ŀ),AK}}
    bf,aX (pm (pv 2) (a8 T) T.nM (yu T) hr #[0<<<1]),bS (bL (a9 ot (2<<<1) (2<<<1) (bq _))
    {{aX (Ϙ T.lH (qy T) hr #[1,2<<<1,(2<<<1)&&&(2<<<1)]),aX (Ϙ T.lH (qy T) hr #[1,2<<<1,Ev ((2<<<1)&&&(2<<<1))])}}
    {{ji cW (jV (0<<<1) (pv 1) ŀ),aX (Ϙ T.qJ (Bq T) hr #[2])}})}},?_}
  let hn:n<@N:=ci.ab n (Q2 (aok.mpr Ų));let[I,hG,X]:=h.hG;obtain⟨fA,Z⟩:∃gx,I[n]?\gx:={I[n]'([X.l]▸hn),aoe _}
  change fA=v at Z;let gd:=G.g;erw[12,x,_,c.dx,112,h.ins,aV T,T.kQ,nB^_,12,c.aG,11,v,22,ay.of hG,bX Z];obtain⟨jv,f⟩:∃gx,N[n]?\gx:={N[n]'hn,aoe hn}
  change jv=og at f
  cases og with
  |ε=>obtain rfl:=X.n n v Z f;rwa[12212,dE ?_];rwa[k S a R N ag W O B H (λ_ _ _ _ e=>e) h G (λb z=>.Α z) (λb z=>.Α z) Y (ci.pop.done f λb eb=>ci.de n b f (by cbv) eb) (λ_ _ _ z=>z) Ų Ų (.Ł S) (.Α {222})]
  |ι g=>
   let[p,i,wa,Ų,J,op]:=X.s n v g Z f;let[I9,gi,_]:=ci.al n g f;let C:=aoi I9;let ny:@g.Ω<=1000:=l.l _ C;let M:¬a.own r p:=λz=>Y p z op
   rwa[12212,dz ?_];erw[12,x,_,c.dx,112,h.ins,aV T,T.fO,gW^_,r,a.dx,12,G.at_.ins,Zw ⋯,12,p,_,i,112,J.ins,a8 T,T.sQ,yt β,r,S,a,g.Θ,S.az g.Θ,2,G.at_,pN ([gd.wf.e]▸gi.s),12,p,_,i,112,J.ins,a8 T,T.sQ,yt β,212];let V:∀b,CU b->¬(O b/\b≠p):=λb z y=>Y b z y.1
   cases es:S.az g.Θ=g.Θ
   .rwa[adw (by rw[es]) ?_];rwa[12,p,i,12,J.ins,Vr ⋯,12,x,_,c.dx,112,h.ins,aV T,T.fO,gW^_,p,i,wa,r,g,S,a,R,2,J,G.at_,gd,gi,M,ny,λd t f1 j ad=>?_];let R1:kT A.aH t r S a R ks B:=G.Ï (λb o hb e=>f1 b o (λz=>M (z ▸ hb)) e) (λb xs e=>f1 b _ (IM J.ins (by cbv)) e);let[c1,gs1]:=h.adx hG X Z op J f1 j;let hG1:t c.aG\(.Ν I):=f1 β (bD hG J.ins (by cbv)) hG;let m:=ad.gi;let hll:=m.ll;let pO:=m.fl;let agp:@d.Ω<=1000:=by rw[ad.wo];rwa[ny]
    let z1:=Gg.tF (g:=d) ∅;let z2:=Gg.at2 (g:=d) hll;let lv:=F5 f;let lm:=G.m;rwa[λ_ H'=>Q .non H',5,λ_ _ q=>q];erw[12,p,_,i,112,j.ins,a8 T,T.fN,iI β,12,p,_,i,112,j.ins,a8 T,T.jK,mF β,112212];rwa[cQ (λq=>?_) (λq=>?_)]
    .let q:(d.first:π)<(d.last:π):=aoS q;let bw:∀z∈d.Ω,-1000<=z/\z<=1000:=λz hz=>ci.bd _ C z (by rw[<-ad.wo];rwa[hz])
     let b1:=bw _ (aoi z1);let b2:=bw _ (aoi z2);let hf:=m.f;let hrr:=m.r;let hnb:n<100000:=by have:=ci.len;have:=l.c;ext
     rwa[12,x,c.dx,12,c1.ins,fY ⋯,1212,p,_,i,112,j.ins,a8 T,T.iG,mD β,12,p,_,i,112,j.ins,a8 T,T.kP,mC β,12,p,_,i,112,j.ins,a8 T,T.fN,iI β,wa,11,.υ d.z1,22,bG.of j.wo,bX (bR z1),x,r,c,_,ag,W,@S.bz,fp,O,n,d.Ù,d.z1,2,c1,3,hnb,b1,λO2 H2 bt2 f2 Vu An D=>?_];let L:fh A.aY H2 p i wa d:={f2 β (by cbv) j.ins,f2 β (by cbv) j.wo};rwa[12,x,c.dx,12,D.ins,fY ⋯,1212,p,_,i,112,L.ins,a8 T,T.iZ,mE β,12,p,_,i,112,L.ins,a8 T,T.kP,mC β,12,p,_,i,112,L.ins,a8 T,T.jK,mF β,wa,11,.υ (-d.z2),22,bG.of L.wo,bX (bR z2),12,x,r,c,_,ag,_,@S.bz,fp,O2,n,d.bN,d.z2,(by cbv),D,3,hnb,3,λO3 H3 bt3 f3 le3 nw3 c3=>?_]
     let agq:∀b,O3 b->O b\/t b=ε:=λb z=>by
      rcases nw3 b z with y|y
      .rwa[An b y]
      .cases w:O b
       .rwa[.Α w]
       .rwa[.Ç ?_]
        cases e:t b with
        |ε=>rfl
        |ι o=>rw[bt2 b o w e]at y;ext y
     let nw:∀b,O3 b->O b\/H b=ε:=λb z=>by
      rcases agq b z with y|y
      .rwa[.Α y]
      .cases w:b=p
       .cbv
       .rwa[.Ç ?_]
        cases e:H b with
        |ε=>rfl
        |ι o=>rw[f1 b o w e]at y;ext y
     let u:Bt O t H3:=bt2.ν bt3 An
     let dj3:∀b,CU b->¬O3 b:=λb z y=>by
      rcases nw b y with w|w
      .rwa[Y b z w]
      .let[o,e]:=G.at_.there z;cbv
     rwa[k S a R _ ag _ O3 B H3 (λb o F _ e=>u b o F (f1 b o (λz=>F ([z]▸op)) e)) c3 (R1.Ï (λb o hb e=>u b o (Y b hb) e) (λb xs e=>u b _ (c1.kb e) e)) (λb z=>.Α z) nw dj3 (ci.pop.waits f ad ∅) (λ_ _ _ z=>z) Ų Ų (.Ł S) (.Α {lv.1 d,22})]
    .let q:¬(d.first:π)<(d.last:π):=λz=>q TD
     let efl:d.first=d.last:=∅
     erw[12,x,_,c.dx,112,c1.ins,aV T,T.kQ,nB^_,12,c.aG,11,n,22,hG1,rQ ([X.l]▸hn)];let D:=c1.Ja hG1 gs1 Z j;let kn:∀b o,(∀xs,o≠.Ν xs)->t b\o->ψ t c.aG (.Ν (I.set n .non)) b\o:=λb o w e=>by rw[aq (λz=>by cbv)];rwa[e]
     let L:fh A.aY (ψ t c.aG (.Ν (I.set n .non))) p i wa d:={ZT (by cbv) j.ins,ZT (by cbv) j.wo};let U:¬a.own r c.aG:=λz=>Y _ z h.oG
     let R2:kT A.aH (ψ t c.aG (.Ν (I.set n .non))) r S a R ks B:=R1.Ï (λb o hb e=>[aq (λz=>U (by cbv))]▸e) (λb xs e=>kn β (by cbv) e);let ess:(N.set n (ι d)).set n ε=N.set n ε:=θ.set_set ..;rw[ess]at D;let f02:∀b o,¬O b->H b\o->ψ t c.aG (.Ν (I.set n .non)) b\o:=λb o F e=>by rw[aq (λz=>F ([z]▸h.oG))];cbv
     let agr:∀b,ψ t c.aG (.Ν (I.set n .non)) b=ε->H b=ε:=λb z=>by
      cases e:H b with
      |ε=>rfl
      |ι o=>
       cases w:O b
       .cases y:b=p
        .rw[y,L.ins]at z;ext z
        .let[o2,e2,_]:=D.th b {w,y};cbv
       .rw[f02 b o w e]at z;ext z
     rwa[12,x,c.dx,12,D.ins,fY ⋯,12,x,r,p,i,wa,c,S,a,R,ks,B,ws,nr,bs,N.set n ε,ag,W,fp,_,n,d,2,D,R2,hB,V,ci.pop.kill,ao9 hn,by rw[I9,ad.wh,ad.wo,ad.st],L,(λz=>z.2 Ų),M,m,efl,[ad.st]▸es,ad.ef,ad.er,[ad.wh,ad.wo]▸l.w _ C,[ad.wh,ad.st]▸l.n _ C,[ad.wo]▸l.k _ C,agp,[aoR]▸hag,λS' a' R' jS W' H' f3 c3 R3 o3 ci3 la rr em eL tr=>?_];let o03:∀b,JI b->a.own r b\/H b=ε:=λb z=>(o3 b z).Ŋ id (agr b)
     rw[aoR]at la;rwa[k S' a' R' _ jS W' _ (B+ 1) H' (λb o F n2 e=>f3 b o (λz=>F z.1) n2 (f02 b o F e)) c3 R3 o03 (λb z=>.Α z.1) (λb z y=>?_) ci3 rr em eL tr (.Ç {lv.2,la,aoo _})];rcases o3 b z with w|w
     .rwa[V b w y]
     .let[o2,e2,_]:=D.th b y;cbv
   .rwa[cQ (λ_=>?_) (λz=>Ρ (by cbv) z)];erw[12,x,_,c.dx,112,h.ins,aV T,T.kQ,nB^_,12,c.aG,11,n,22,hG,rQ ([X.l]▸hn)];let D:=h.Ja hG X Z J;let U:¬a.own r c.aG:=λz=>Y _ z h.oG
    rwa[k S a R _ ag W _ B _ (λb o F _ e=>[aq (λz=>F ([z]▸h.oG))]▸e) D (G.Ï (λb o hb e=>[aq (λz=>U (by cbv))]▸e) (λb xs e=>[aq (λz=>by cbv)]▸e)) (λb z=>.Α z) (λb z=>.Α z.1) V (ci.pop.kill.done (ao9 hn) λb eb=>?_) (λ_ _ _ z=>z) Ų Ų (.Ł S) (.Ç {(F5 f).2,33})];rw[I9]at eb;obtain rfl:=Za0 eb;rwa[.Α es]
def _root_.Lake.L2.Tr.ν {ws:Za3}{c:RS}(h:Tr ws n S T)(k:Tr ws n T c):Tr ws n S c:=by
 induction k with
 |Ł=>exact h
 |ı _ a b d=>exact .ı d a b
inductive F6 (CR CG CC:Zs)(vs:Zb)(H:Hp)(Q:VK)(E_:XK):ο
 |mk (x r:Zs)(c:KA)(S:RS)(a:RA)(R:Za2)(ks:Zg)(B:η)(ws:Za3)(nr:η)(bs:θ (η×Zg×η))(gs:Zf)(ag:Zh)(W:bU)(fp:θ (Zg×η))(O:Zs->ο):vs=[?x]->cN CG CC H x r c gs ag W @S.bz fp O->kT CR H r S a R ks B->B+ live gs<900000->(∀b,CU b->¬O b)->CI S bs gs ag W gP ε->F4 ws nr ks bs->live gs* (2* @bs+ 1)+ @ag+ 2* @bs<=13000000->(∀S' a' R' jf W' O' B' H',(∀b o,¬O b->¬a.own r b->H b\o->H' b\o)->cN CG CC H' x r c jf [] W' @S'.bz fp O'->kT CR H' r S' a' R' ks B'->(∀b,JI b->a.own r b\/O b\/H b=ε)->(∀b,O' b->O b\/a.own r b\/H b=ε)->(∀b,JI b->¬O' b)->CI S' bs jf [] W' gP ε->(∀a z b,ZI b->R' a z b)->S'.q=S.q->S'.L=S.L->Tr ws nr S S'->B'+ live jf<=B+ live gs->Q .non H')->F6 CR CG CC vs H Q E_
def om (T:ų):T.jH.Ok mg P w Β 8 (F6 A.aH A.aY A.aK):=by
 rwa[T.jH.on wC (λcf AA Ψ s H vs Q E hr h=>?_)]
 .let[x,r,c,S,a,R,ks,B,ws,nr,bs,gs,ag,W,fp,O,Ų,h,hR,hB,dj,ci,Y,hm,k]:=h
  refine{_,{{bS (Po (DU (0<<<1) (λ_=>rfl))
   {{aX (Ϙ T.nP (yx T) hr #[CO (0<<<1)])}})}},?_}
  rwa[λ_ H'=>Q .non H',?_,λ_ _ q=>q];erw[λm σ i=>∃j a2 R2 f d M C y,m=live f* (2* @bs+ 1)+ @d/\σ=#v[?x]/\(∀b o,¬O b->¬a.own r b->H b\o->i b\o)/\cN A.aY A.aK i x r c f d M @j.bz fp C/\kT A.aH i r j a2 R2 ks y/\(∀b,a2.own r b->a.own r b\/O b\/H b=ε)/\(∀b,C b->O b\/a.own r b\/H b=ε)/\(∀b,a2.own r b->¬C b)/\CI j bs f d M gP ε/\(∀a z b,ZI b->R2 a z b)/\j.q=S.q/\j.L=S.L/\Tr ws nr S j/\y+ live f<=B+ live gs/\live f* (2* @bs+ 1)+ @d+ 2* @bs<=13000000,⟨_,S,a,R,gs,ag,W,O,B,22,λ_ _ _ _ e=>e,h,hR,λb z=>.Α z,λb z=>.Α z,dj,ci,λ_ _ _ z=>z,22,.Ł S,aoo _,hm⟩];rintro m σ i ⟨j,a2,R2,f,d,M,C,y,Ų,Ų,f2,g,r2,J,v,p,t,U,L,D,I,G,Aj⟩;erw[12,x,_,c.dx,112,g.ins,aV T,T.nj,qx^_,!(aw (nI d)).è,.Α {_,ay.of g.hA,2}];cases F:d=[]
  .subst F;rwa[k j a2 R2 f M C y i f2 g r2 J v p t U L D I G]
  .obtain⟨n,N⟩:∃gx,d.ĝ++[gx]=d:={_,ap5 F};change d.ĝ=pre at N;subst N;rw[show (!(aw (nI (pre++[n]))).è)=ρ by unfold aw nI;simp];erw[_,λ_ _ z=>z];erw[12,x,c.dx,12,g.ins,fY ⋯,12,x,_,c.dx,112,g.ins,aV T,T.nj,qx^_,.Α {21,ay.of g.hA},c.aA,_,.υ (n:π),22,g.hA,5]
   .rw[aF,cJ,aoj];rwa[bR (lA (by show (pre++[n])[@pre+ 1 - 1]?\n;rw[η.add_sub_cancel,aoz Ź,apU];rfl))]
   let edl:(aw (nI (pre++[n]))).ĝ=aw (nI pre):=by rw[jX,ï];rwa[θ.dropLast_concat]
   rw[edl];let c3:=g.agenda pre;let noA:¬a2.own r c.aA:=λz=>p _ z g.oA
   let f3:∀b o,b≠c.aA->i b\o->ψ i c.aA (.Ν (aw (nI pre))) b\o:=λb o X e=>by rw[aq X];rwa[e]
   let r3:kT A.aH (ψ i c.aA (.Ν (aw (nI pre)))) r j a2 R2 ks y:=r2.Ï (λb o hb e=>f3 b o (λz=>noA (by cbv)) e) (λb xs e=>f3 b _ (λz=>by rw[z,g.hA]at e;ext e) e)
   let th3:∀b,ψ i c.aA (.Ν (aw (nI pre))) b=ε->i b=ε:=λb z=>by
    cases e:b=c.aA
    .rw[e,aj]at z;ext z
    .rw[aq e]at z;rwa[z]
   let ln2:=t.len;rw[aoj]at Aj;have:@([n]:Zh)=1:=rfl
   let Z:∀b,i b=ε->a.own r b\/O b\/H b=ε:=λb z=>by
    cases w:a.own r b
    .rwa[.Α w]
    .cases w2:O b
     .rwa[.Ç (.Α w2)]
     .rwa[.Ç (.Ç ?_)]
      cases e:H b with
      |ε=>rfl
      |ι o=>rw[tc o w2 w e]at z;ext z
   rwa[x,r,c,j,a2,R2,ks,y,ws,nr,bs,f,pre,M,fp,C,n,2,c3,r3,3,p,t,Y,3,λS4 a4 R4 l V W4 O4 B4 H4 f4 c4 r4 ow4 oo4 dj4 Pa rr4 em4 eL4 tr4 ms=>?_];let ow:∀b,a4.own r b->a.own r b\/O b\/H b=ε:=λb z=>(ow4 b z).Ü (J b) λw=>Z b (th3 b w)
   let oo:∀b,O4 b->O b\/a.own r b\/H b=ε:=λb z=>(oo4 b z).Ü (v b) λw=>by cbv
   let u:B4+ live l<=B+ live gs/\live l* (2* @bs+ 1)+ @V<live f* (2* @bs+ 1)+ @(pre++[n]):=by
    rw[aoj];rcases ms with ⟨e1,e2,e3⟩|⟨e1,e2,e3⟩
    .rw[e1,e2,e3];rwa[G,3]
    .rw[<-e1,ari];rwa[33]
   rwa[_,u.2,S4,a4,R4,l,V,W4,O4,B4,22,λb o X n2 e=>?_,c4,r4,ow,oo,dj4,Pa,λa z b q=>rr4 γ (U γ q),em4.ν L,eL4.ν D,I.ν tr4,u.1,by have:=u.2;rw[aoj]at Δ;ext];rwa[f4 b o (λz=>?_) (λz=>?_) (f3 b o (λz=>X ?_) (tc o X n2 e))]
   .cbv
   .cbv
   .subst z;rcases v c.aA g.oA with w|w|w
    .rwa[w]
    .rwa[Ρ w n2]
    cbv
def _root_.Lake.L2.CI.begin {bs:θ (η×Zg×η)}{gs:Zf}{W:bU}{t:η->π->ο}(h:CI S bs gs B W t ε){which m:η}{Ω:Zg}(C:Ω≠[])(l:m<S.q)(x:∀z∈Ω,-1000<=z/\z<=1000):CI S (bs++[(which,Ω,m)]) (gs++[ι (GM m)]) (B++[@gs]) W t ε:=by
 let D:=θ.length_pos_iff.mpr C
 let old:∀{k:η}{y:Ă Gg},(gs++[ι (GM m)])[k]?\y->(k<@gs/\gs[k]?\y)\/(k=@gs/\y\CP which Ω m):=λ{k y} e=>by
  cases a:k<@gs
  .rw[aoq a]at e;rwa[.Α {a,e}]
  .rw[aoz ∅]at e;have:=(aoh.mp e).1;let f:k=@gs:=by simp at Δ;ext
   subst f;rw[apU]at e;rwa[.Ç {2,(Za0 e).Τ}]
 let c:∀{k:η},k<@gs->(bs++[(which,Ω,m)])[k]?=bs[k]?:=λ{k} a=>aoq (by rw[<-h.len];rwa[a])
 rwa[by rw[aoj,aoj,h.len];rfl,λk g e=>?_,λk b e F o=>?_,λk a=>?_,λr s k q=>?_,λk=>?_,λb n=>?_]
 .rcases old e with ⟨a,e⟩|⟨a,e⟩
  .let[j,i,E]:=h.al k g e;rwa[[c a]▸j,i,E.Ŋ (aoF _) id]
  .ext e;rwa[5,{aoN _,by show @Ω - 1<@Ω;ext,l,l,l,25},.Α (Q2 (aok.mpr a))]
   .rw[aoz ([a,h.len]▸aoo _),a,h.len,apU];rfl
   .show wk S.by _ (Ω.ā (@Ω - 1+ 1))=_;rw[show @Ω - 1+ 1=@Ω by ext,θ.drop_length];rfl
 .rcases old e with ⟨a,e⟩|⟨a,e⟩
  .rw[c a]at o;rwa[h.de k b e F o]
  .ext e
 .rw[aoj];rcases aov.mp a with q|q
  .have:=h.ab k q;show k<_+ 1;ext
  .rw[aok.mp q];show _<_+ 1;ext
 .let[v,d,G,A,H,I,u]:=h.en r s k q;rwa[v,d,G,A,H,by rw[aoj];show d<_+ 1;ext,u]
 .cases a:k<@gs
  .let[p,q,j,i]:=h.sl k;rwa[p,q,j,λg e=>i g ?_];rw[aoq a]at e;rwa[e]
  .rwa[((GM m).Ù,(GM m).z1),((GM m).bN,(GM m).z2),λr s w=>?_,λg e=>?_]
   .let[_,d,_,e,_,D,_]:=h.en r s k w;ext
   cbv
 .rcases aov.mp n with q|q
  .rwa[h.bd b q]
  .rw[aok.mp q];rwa[x]
def cN.ady {x r:Zs}{l:KA}{gs:Zf}{W:bU}{hd:η}{P:θ (Zg×η)}{O:Zs->ο}{dx:Zs}{g:Gg}(h:cN a b H x r l gs B W hd P O)(hG:H l.aG\.Ν L)(t:sU a H L gs O)(np:H c=ε)(s:XL)(q:fh a I c dx d g):cN a b (ψ I l.aG (.Ν (L++[?c]))) x r l (gs++[ι g]) B W hd P (NR O c):=by
 let k:∀f o,f≠l.aG->I f\o->ψ I l.aG (.Ν (L++[?c])) f\o:=λf o n e=>by rw[aq n];rwa[e]
 let kn:∀f o,(∀X,o≠.Ν X)->I f\o->ψ I l.aG (.Ν (L++[?c])) f\o:=λf o w e=>k f o (λz=>by rw[z,s^hG]at e;cbv) e
 let ó:∀(i:η),L[i]?≠ι ?c:=λi e=>by
  let A:i<@gs:=by rw[<-t.l];rwa[(aoh.mp e).1]
  cases T:gs[i]? with
  |ε=>cbv
  |ι y=>
   cases y with
   |ε=>cases t.n i _ e T
   |ι u=>let[S,_,_,F,G,_]:=t.s i _ u e T;ext F;have:=G.ins;cbv
 let old:∀{i:η}{v:V},(L++[?c])[i]?\v->(i<@L/\L[i]?\v)\/(i=@L/\v=?c):=λ{i v} e=>by
  cases Q:i<@L
  .rw[aoq Q]at e;rwa[.Α {Q,e}]
  .rw[aoz ∅]at e;have:=(aoh.mp e).1;let J:i=@L:=by simp at Δ;ext
   subst J;rw[apU]at e;rwa[.Ç {2,(Za0 e).Τ}]
 rwa[ZT (by cbv) (s^h.ins),{_,aj,by rw[aoj,aoj,t.l];rfl,λi v F p=>?_,λi v u F p=>?_,λi j p' F p=>?_},k β h.ne.Τ (s^h.hA),5,h.ne,.Α h.ox,.Α h.oG,.Α h.oA,λf C=>?_]
 .rcases old F with ⟨A,e⟩|⟨A,e⟩
  .rw[aoq (by rw[<-t.l];rwa[A])]at p;rwa[t.n i v e p]
  .rw[A,t.l,aoz Ź,apU]at p;cases Za0 p
 .rcases old F with ⟨A,e⟩|⟨A,e⟩
  .rw[aoq (by rw[<-t.l];rwa[A])]at p;let[S,N,M,Y,G,U]:=t.s i v u e p;rwa[S,N,M,Y,{ZT (by cbv) (s^G.ins),ZT (by cbv) (s^G.wo)},.Α U]
  .rw[A,t.l,aoz Ź,apU]at p;cases Za0 p;rwa[c,dx,d,e,{ZT (by cbv) q.ins,ZT (by cbv) q.wo},.Ç Ų]
 .rcases old F with ⟨A,e⟩|⟨A,e⟩
  .rcases old p with ⟨Z,R⟩|⟨Z,R⟩
   .rwa[t.i i j p' e R]
   cbv
  cbv
 .let[D,E,k1,k2]:=h.wt;rwa[D,E,(k1.Μ s).Ï λf o C e=>by let[kv,q]:=(k1.Μ s).there C;cbv,λf C=>.Α (k2.o f C),k2.d,k2.e,k2.w]
 .rcases C with C|C
  .cases e:f=l.aG
   .rwa[_,by rw[e];rwa[aj],(by cbv),(by cbv),(by cbv),by cbv]
   .let[o,q,m]:=h.th f C;rwa[o,k β e (s^q),m]
  .rw[C];rwa[_,ZT (by cbv) q.ins,(by cbv),(by cbv),(by cbv),by cbv]
def nz (b:η)(a:Zg)(m:η):θ (η×Zg×η):=if a=[] then [] else [(b,a,m)]
inductive Jb (CR CG CC:Zs)(vs:Zb)(H:Hp)(Q:VK)(E_:XK):ο
 |mk (x r wa:Zs)(c:KA)(S:RS)(bs:θ (η×Zg×η))(gs:Zf)(ag:Zh)(W:bU)(hd:η)(fp:θ (Zg×η))(O:Zs->ο)(Ex:η->π->ο)(which m:η)(Ω:Zg):vs=[?x,.υ which,?wa,.υ m]->cN CG CC H x r c gs ag W hd fp O->CI S bs gs ag W Ex ε->H wa\.Ò (aw Ω)->@Ω<=1000->(∀z∈Ω,-1000<=z/\z<=1000)->m<S.q->@bs<100000->@ag<=@bs->(∀jf jS O' H',xy H'->(∀b,O b->O' b)->(∀b,O' b->O b\/H b=ε)->cN CG CC H' x r c jf jS W hd fp O'->CI S (bs++nz which Ω m) jf jS W Ex ε->@jS<=@(bs++nz which Ω m)->Q .non H')->Jb CR CG CC vs H Q E_
def pP (T:ų):T.j8.Ok mg P w Β 3 (Jb A.aH A.aY A.aK):=by
 rwa[T.j8.on yn (λcf AA I s H vs Q E hr h=>?_)]
 .let[x,r,X,c,S,bs,l,j,W,hd,fp,O,Ex,d,m,a,Ų,h,ci,g,D,F,hm,Z,N,k]:=h
  refine{_,{{bS (bL (a9 pX (2<<<0) ak (bq _))
   {{aX (ŵ (0<<<1) #[(0<<<1)<<<0]),aX (ŵ (0<<<1) #[vD (yl T) (wI T) hr.Za5 Ų T.Xi T.ib.b .nil o8 #[1,2,3]])}}
   bf)}},?_}
  let Jc:=ci.len;rwa[λ_ H'=>Q .non H',5,λ_ _ q=>q];erw[12,X,12,.Ç (bG.of g),112212];rwa[cQ (λq=>?_) (λq=>?_)]
  .let q:(0:π)<(@(aw a):π):=aoS q;rw[aF]at q;let f:a≠[]:=λz=>by cbv
   let[gv,hG,hs]:=h.hG;erw[12,x,_,c.dx,112,h.ins,aV T,T.nj,qx^_,.Α {21,ay.of h.hA},12,x,_,c.dx,112,h.ins,aV T,T.kQ,nB^_,c.aG,12,.Α (ay.of hG),c.aA,1122,h.hA,5]
   .rw[aF,cJ];rwa[aop (show @j<=100000 by omega) ⋯]
   let ea:aw (nI j)++[V.υ (@gv:π)]=aw (nI (j++[@l])):=by rw[jX,ï,hs.l];rfl
   rw[ea];let B:=h.agenda (j++[@l]);let C:∀b o,b≠c.aA->H b\o->ψ H c.aA (.Ν (aw (nI (j++[@l])))) b\o:=λb o n e=>by rw[aq n];rwa[e]
   let Y:∀b,ψ H c.aA (.Ν (aw (nI (j++[@l])))) b=ε->H b=ε:=λb z=>by
    cases e:b=c.aA
    .rw[e,aj]at z;ext z
    .rw[aq e]at z;rwa[z]
   change ψ H c.aA _=L at B C Y ⊢;let v:=C β (bD g h.hA (by cbv)) g;let[gv1,i,t]:=B.hG;rwa[12,x,_,c.dx,112,B.ins,aV T,T.kQ,nB^_,.Α {21,ay.of i},121212,λp R y G J=>?_];let U:ao L (ψ (ψ L R (.own p)) p (.ins A.aY R [])):=(ao.ψ G).ν (ao.ψ ([aq J.Τ]▸y));rwa[p,R,X,d,m,a,2,aj,U^v,3,D,λH3 f3 g3=>{25}];let M:ao L H3:=λb o e=>f3 b o (U^e) (QA y)
   erw[c.aG,1122,M^i,([t.l]▸aop (show @l<=100000 by omega) ⋯)];let u:nz d a m=[(d,a,m)]:=aoK f;rwa[k β (NR O p) _ (λb o n e=>?_) (λb z=>.Α z) (λb z=>z.Ŋ id λw=>[w]▸Y p y) (B.ady i t y M g3) ([u]▸ci.begin f hm F) (by rw[u,aoj,aoj];show _+ 1<=_+ 1;omega)];rw[aq (λz=>n ([z]▸h.oG))];rwa[M^(C b o (λz=>n ([z]▸h.oA)) e)]
  .let q:¬(0:π)<(@(aw a):π):=λz=>q TD
   rw[aF]at q;let f:a=[]:=θ.length_eq_zero_iff.mp ∅;let u:nz d a m=[]:=aoO f;rwa[k l j O H (λ_ _ _ e=>e) (λb z=>z) (λb z=>.Α z) h ([u,aoJ]▸ci) ([u,aoJ]▸N)]
def ip (a:θ (Zg×η))(m:η):θ (η×Zg×η):=a.ĥ λp=>nz p.2 p.1 m
def Vv (w:η)(u:Zg)(m:η):@(nz w u m)<=1:=by
 unfold nz;split
 .rwa[aoN _]
 .rwa[aoo _]
theorem sV (m:η):∀a:θ (Zg×η),@(ip a m)<=@a
 |[]=>aoo _
 |p::l=>by have:=sV m l;have:=Vv p.2 p.1 m;unfold ip at *;rw[aqG,aoj,aoA];ext
def Pb {a:θ (Zg×η)}{p:Zg×η}(h:a[i]?\p)(m:η):ip (a.Χ (i+ 1)) m=ip (a.Χ i) m++nz p.2 p.1 m:=by unfold ip;rw[ao2,h,ap0];show _++(nz p.2 p.1 m++[])=_;rw[aoJ]
def abg {a:θ (Zg×η)}{b:Zd×V}(h:(jR a)[i]?\b):∃p,a[i]?\p/\b=(p.1.Κ Sum.Α,.υ p.2):=by
 unfold jR at h
 cbv
inductive Pg (CR CG CC:Zs)(vs:Zb)(H:Hp)(Q:VK)(E_:XK):ο
 |mk (x r:Zs)(c:KA)(S:RS)(bs:θ (η×Zg×η))(gs:Zf)(ag:Zh)(W:bU)(hd:η)(fp:θ (Zg×η))(O:Zs->ο)(Ex:η->π->ο)(m:η):vs=[?x,.υ m]->cN CG CC H x r c gs ag W hd fp O->H c.aQ\.dT (jR fp)->CI S bs gs ag W Ex ε->(∀p∈fp,@p.1<=1000/\∀z∈p.1,-1000<=z/\z<=1000)->m<S.q->@bs+ @fp<100000->@ag<=@bs->(∀jf jS O' H',xy H'->(∀b,O b->O' b)->(∀b,O' b->O b\/H b=ε)->cN CG CC H' x r c jf jS W hd fp O'->CI S (bs++ip fp m) jf jS W Ex ε->@jS<=@(bs++ip fp m)->Q .non H')->Pg CR CG CC vs H Q E_
def j5 (T:ų):T.fV.Ok mg P w Β 4 (Pg A.aH A.aY A.aK):=by
 rwa[T.fV.on gT (λcf AA Ψ s H vs Q E hr h=>?_)]
 .let[x,r,c,S,bs,gs,ag,W,hd,f,O,Ex,m,Ų,h,J,ci,hfp,hm,hbl,Jd,k]:=h
  refine{_,{{Ih (ž (ac9 (0<<<1) Ų Ų) (oN Ų (dQ (cU 2 gT.nd) (dQ (cU 3 gT.nd) lV)))
   {{aX (Ϙ T.j8 (pP T) hr #[3,2,1])}})}},?_}
  let Y:¬O c.aQ:=h.OW J;let nxQ:x≠c.aQ:=bD h.ins J (by cbv);rwa[c.aQ,_,J,trivial,12,x,_,c.dx,112,h.ins,aV T,T.Fv,Tt^_,c.aQ,jR f,2,J,λfo=>?_];let k0:∀b o,b≠c.aQ->H b\o->ψ H c.aQ (.dI fo (.dT (jR f))) b\o:=λb o n e=>by rw[aq n];rwa[e]
  let h0:cN A.aY A.aK (ψ H c.aQ (.dI fo (.dT (jR f)))) x r c gs ag W hd f O:=h.Ï (λb o G e=>k0 b o (λz=>Y (by rw[<-z];rwa[G])) e) (λb xs e=>k0 b _ (IM J (by cbv)) e)
  refine Y2 (d:=c.aQ) (o:=fo) (kvs:=jR f) (λi V C=>∃g a v v2 v3,V=#v[?x,.υ (m:π),v2,v3]/\C c.aQ\.dI fo (.dT (jR f))/\(∀b o,b≠c.aQ->¬O b->H b\o->C b\o)/\(∀b,O b->v b)/\(∀b,v b->O b\/H b=ε)/\cN A.aY A.aK C x r c g a W hd f v/\CI S (bs++ip (f.Χ i) m) g a W Ex ε/\@a<=@(bs++ip (f.Χ i) m))
   {gs,ag,O,ε,ε,2,aj,λb o n _ e=>k0 b o n e,λb z=>z,λb z=>.Α z,h0,by show CI S (bs++[]) δ _;rw[aoJ];rwa[ci],by cbv} (λi V C _ ζ=>by let[_,_,_,_,_,_,q,_]:=ζ;rwa[q]) ?_ ?_
  .rintro i kv V C t kp hkv nt D ⟨g,a,v,v2,v3,Ų,R,U,B,j,c5,u,l⟩;let[p,hp,Ų]:=abg hkv
   replace D:C kp\(.Ò (aw p.1)):=by rw[D];rw[ao4];rfl
   let I:=ao.ψ (o:=.Ò [?kp,.υ (p.2:π)]) nt;erw[t,12,bG.of aj,21121122];let G:=hfp p (aoi hp);let bl:=sV m (f.Χ i);rw[aoX]at bl;let c6:=c5.Μ I;rwa[12,x,c.dx,12,c6.ins,fY ⋯,121212,x,r,kp,c,S,_,g,a,W,hd,f,v,Ex,p.2,m,p.1,2,c6,u,I^D,G.1,G.2,hm,by rw[aoj];ext,l,λX Z O7 H7 N le7 nw7 c7 L M=>?_];let F:¬v c.aQ:=λz=>(j _ z).Ü Y λq=>by cbv
   rw[ao6,<-Pb hp]at L M;rwa[X,Z,O7,112,N β F (I^R),λb o n1 n2 e=>N b o (λz=>(j b z).Ü n2 λq=>by cbv) (I^U b o n1 n2 e),λb z=>le7 b (B b z),λb z=>?_,c7,L,M];rcases nw7 b z with w|w
   .rwa[j b w]
   .cases y:O b
    .rwa[.Α y]
    .rwa[.Ç ?_]
     cases e:H b with
     |ε=>rfl
     |ι o=>
      cases y2:b=c.aQ
      .rw[y2,I^R]at w;ext w
      .rw[I^U b o y2 y e]at w;ext w
  .rintro V C ⟨g,a,v,v2,v3,Ų,R,U,B,j,c5,u,l⟩;rw[show @(jR f)=@f by unfold jR;rw[aog],apc]at u l;let F:¬v c.aQ:=λz=>(j _ z).Ü Y λq=>by cbv
   rwa[fo,R,k g a v _ (λb o n e=>?_) B j (c5.Ï (λb o G e=>[aq (λz=>F (by rw[<-z];rwa[G]))]▸e) (λb xs e=>[aq (λz=>by cbv)]▸e)) u l];cases z:b=c.aQ
   .rw[z,aj,<-J,<-z];rwa[e]
   .rw[aq z];rwa[U b o z n e]
def cy1 (r:Zs):θ (Ñ×V):=[(ϔ,?r)]
def cy2 (r q:Zs):θ (Ñ×V):=[(ϔ,?r),(Q4,?q)]
def cy3 (r q g:Zs):θ (Ñ×V):=[(ϔ,?r),(Q4,?q),(AL,?g)]
def cy4 (r q g e:Zs):θ (Ñ×V):=[(ϔ,?r),(Q4,?q),(AL,?g),(FR,?e)]
def cy5 (r q g e w:Zs):θ (Ñ×V):=[(ϔ,?r),(Q4,?q),(AL,?g),(FR,?e),(Da,?w)]
def cy6 (r q g e w:Zs)(n:π):θ (Ñ×V):=[(ϔ,?r),(Q4,?q),(AL,?g),(FR,?e),(Da,?w),(bi,.υ n)]
def cz2 (r q:Zs):bP Q4 ?q (cy1 r)=cy2 r q:=fu (by kernel_rfl)
def cz3 (r q g:Zs):bP AL ?g (cy2 r q)=cy3 r q g:=fu (by kernel_rfl)
def cz4 (r q g e:Zs):bP FR ?e (cy3 r q g)=cy4 r q g e:=fu (by kernel_rfl)
def cz5 (r q g e w:Zs):bP Da ?w (cy4 r q g e)=cy5 r q g e w:=fu (by kernel_rfl)
def cz6 (r q g e w:Zs)(n:π):bP bi (.υ n) (cy5 r q g e w)=cy6 r q g e w n:=fu (by kernel_rfl)
def kat_nil {k:Zs}(h:H k\.dK []):eV H k (λ_=>ε) (λ_ _=>ε) (λ_ _ _=>ς):={{[],h,by simp,(λa z=>by ext z),λ_=>rfl},(λ_ _ z=>by ext z),(λ_ _ _ z=>by ext z),(λ_ _ _ z=>by ext z),(λ_ _ _ z=>by ext z),(λ_ _ z=>by ext z),(λ_ _ _ z=>by ext z),(λ_ _ _ z=>by ext z),(λ_ _ _ _ z=>by ext z),(λ_ _ _ _ _ z=>by ext z)}
def dH (S:RS):Zh:=(~~~S.q).Ö λc=>decide (S.bu[c]?\c)
def eA (a:θ (Zg×η))(st:Zh):θ (η×Zg×η):=st.ĥ λm=>ip a m
def gL (a:Za3)(b i:η):θ (η×Zg×η):=(~~~i).ĥ λj=>nz (b+ j) (a.á j []) 0
theorem oE (a:θ (Zg×η)):∀st:Zh,@(eA a st)<=@st* @a
 |[]=>aoN _
 |m::st=>by have:=oE a st;have:=sV m a;unfold eA at *;rw[aqG,aoj,aoA,ari];ext
theorem vi (a:Za3)(b:η):∀i,@(gL a b i)<=i
 |0=>aoo _
 |i+ 1=>by have:=vi a b i;have:=Vv (b+ i) (a.á i []) 0;unfold gL at *;rw[apC,ap0,aoj];show _+ @(nz β 0++[])<=_;rw[aoJ];ext
def vj:bU:=λ_ _ _=>ς
def abo:CI S [] [] [] vj gP ε:={2,(λn g e=>by simp at e),(λn b e=>by simp at e),(λn z=>by ext z),(λr s n z=>by ext z),λn=>{(0,0),(0,0),(λr s z=>by ext z),λg e=>by simp at e},(λb z=>by ext z)}
inductive Ph (CR CG CC:Zs)(vs:Zb)(H:Hp)(Q:VK)(E_:XK):ο
 |mk (x dx r ru pa:Zs)(S:RS)(a:RA)(R:Za2)(rs ps:Za3):vs=[?x,?r,?ru,?pa]->H x\.ins CC dx []->aD CR H r S a->Ø S [] R->0<S.q->S.q<=2000->¬a.own r x->bM H ru rs->bM H pa ps->@rs<=400->@ps<=400->(∀u∈rs++ps,@u<=1000/\∀z∈u,-1000<=z/\z<=1000)->(∀fp,Bo rs fp->S.q* @fp+ @ps<50000)->(∀c gs ag fp O H',(∀b o,H b\o->b≠x->H' b\o)->cN CG CC H' x r c gs ag vj @S.bz fp O->H' c.aQ\.dT (jR fp)->(∀b,O b->b=x\/H b=ε)->CI S (eA fp (dH S)++gL ps @rs @ps) gs ag vj gP ε->@ag<=@(eA fp (dH S)++gL ps @rs @ps)->Bo rs fp->Q .non H')->Ph CR CG CC vs H Q E_
def t8 (T:ų):T.fL.Ok mg P w Β 5 (Ph A.aH A.aY A.aK):=by
 rwa[T.fL.on fW (λcf AA Ψ s H vs Q E hr h=>?_)]
 .let[x,I,r,ru,pa,S,a,R,rs,ps,Ų,hx,hR,gd,hm0,hm,Pj,F7,Ao,pM,j4,hwb,F8,k]:=h
  refine{_,{{ώ (pv 1) Ų,ώ (pc T.pC (Al T) hr #[2]) Ų,ώ Op Ų,ώ Op Ų,ώ eJ Ų,ώ ((1<<<1)<<<0) Ų,ž (ck (am hr)) (Sa fW.nd)
    {{aX (Ϙ T.fV (j5 T) hr #[4])}},ž (NQ Ų T.mP (pv 3) (2<<<0) Ų Ų) (oN Ų (dQ (cU 5 fW.nd) (dQ (cU 6 fW.nd) lV)))
    {{aX (Ϙ T.j8 (pP T) hr #[5,6,ak])}}}},?_}
  let[Vw,Ap,Z]:=id F7;let[U,CT,Aq]:=id Ao
  let st:∀{H0:Hp}{fs gs:θ (Ñ×V)},H0 x\.ins A.aK I fs->(∀b o,H b\o->b≠x->H0 b\o)->ψ H0 x (.ins A.aK I gs) x\.ins A.aK I gs/\(∀b o,H b\o->b≠x->ψ H0 x (.ins A.aK I gs) b\o)/\(∀b o,b≠x->H0 b\o->ψ H0 x (.ins A.aK I gs) b\o)/\∀b,ψ H0 x (.ins A.aK I gs) b=ε->H0 b=ε:=λ_ h=>{aj,λb o e n=>[aq n]▸h b o e n,λb o n e=>[aq n]▸e,λb z=>by
   cases e:b=x
   .rw[e,aj]at z;ext z
   .rw[aq e]at z;rwa[z]}
  let o0:∀b o,H b\o->b≠x->H b\o:=λb o e _=>e
  let nxr:ru≠x:=bD Ap hx (by cbv);let nxp:pa≠x:=bD CT hx (by cbv);erw[1212,x,_,I,12,hx,aV T,T.fO,4];rw[show bP ϔ ?r []=cy1 r from rfl];obtain⟨x1,o1,-,n1⟩:=st (gs:=cy1 r) hx o0;change ψ H x _=H1 at x1 o1 n1 ⊢;let wr1:bM H1 ru rs:={Vw,o1 β Ap nxr,Z.1,λi q u e1 e2=>o1 β (Z.2 i q u e1 e2) (bD (Z.2 i q u e1 e2) hx (by cbv))};rwa[12,ru,rs,2,wr1,3,λq d H2 s2 nq hq hpc=>?_];let x2:=s2^x1;let o2:∀b o,H b\o->b≠x->H2 b\o:=λb o e n=>s2^o1 b o e n
  let n2:∀b,H2 b=ε->H b=ε:=λb z=>n1 b (Ĩ s2 z)
  erw[12,x,_,I,12,x2,aV T,T.Fv,(by show 1<1000;decide)];rw[cz2];let Vx:q≠x:=bD hq x2 (by cbv);let[x3,o3,k3,n3]:=st (gs:=cy2 r q) x2 o2;change ψ H2 x _=W at x3 o3 k3 n3 ⊢;let q3:=k3 β Vx hq;rwa[aoN _,λg ng=>?_];let M:=ao.ψ (o:=.Ν []) ng;let g4:ψ W g (.Ν []) g\(.Ν []):=aj;let n4:∀b,ψ W g (.Ν []) b=ε->H b=ε:=λb z=>n2 b (n3 b (Ĩ M z))
  let ng0:=n2 g (n3 g ng);change ψ W g _=H4 at M g4 n4 ⊢;erw[12,x,_,I,12,M^x3,aV T,T.kQ,(by show 2<1000;decide)];rw[cz3];let[x5,o5,k5,n5]:=st (gs:=cy3 r q g) (M^x3) (λb o e n=>M^o3 b o e n);change ψ H4 x _=H5 at x5 o5 k5 n5 ⊢;let Vy:g≠x:=bD g4 (M^x3) (by cbv);let q5:=k5 β Vx (M^q3);let g5:=k5 β Vy g4;rwa[aoN _,λe ne=>?_];let s6:=ao.ψ (o:=.Ν []) ne;let e6:ψ H5 e (.Ν []) e\(.Ν []):=aj;let n6:∀b,ψ H5 e (.Ν []) b=ε->H b=ε:=λb z=>n4 b (n5 b (Ĩ s6 z))
  let ne0:=n4 e (n5 e ne);let nge:g≠e:=ax g5 ne;change ψ H5 e _=H6 at s6 e6 n6 ⊢;erw[12,x,_,I,12,s6^x5,aV T,T.nj,(by show 3<1000;decide)];rw[cz4];let[x7,o7,k7,n7]:=st (gs:=cy4 r q g e) (s6^x5) (λb o e n=>s6^o5 b o e n);change ψ H6 x _=H7 at x7 o7 k7 n7 ⊢;let zg:e≠x:=bD e6 (s6^x5) (by cbv);let q7:=k7 β Vx (s6^q5);let g7:=k7 β Vy (s6^g5);let e7:=k7 β zg e6;rwa[λw nw=>?_]
  let X:=ao.ψ (o:=.dK []) nw;let w8:ψ H7 w (.dK []) w\(.dK []):=aj;let n8:∀b,ψ H7 w (.dK []) b=ε->H b=ε:=λb z=>n6 b (n7 b (Ĩ X z))
  let nw0:=n6 w (n7 w nw);change ψ H7 w _=H8 at X w8 n8 ⊢;erw[12,x,_,I,12,X^x7,aV T,T.lJ,(by show 4<1000;decide)];rw[cz5];let[x9,o9,k9,n9]:=st (gs:=cy5 r q g e w) (X^x7) (λb o e n=>X^o7 b o e n);change ψ H8 x _=H9 at x9 o9 k9 n9 ⊢;let nwx:w≠x:=bD w8 (X^x7) (by cbv);let R9:aD A.aH H9 r S a:=hR.Ï (λb o hb e=>o9 b o e (λz=>Pj (by cbv))) (λb xs e=>o9 b _ e (IM hx (by cbv)));erw[12,r,_,a.dx,112,R9.ins,aO T,T.va,vP^_,a.aN,12,.Α (ay.of R9.hN),12,x,_,I,12,x9,aV T,T.pI,(by show 5<1000;decide)];rw[aF,cJ,cz6];let[xa,oa,ka,na]:=st (gs:=cy6 r q g e w @S.bz) x9 o9;change ψ H9 x _=Ha at xa oa ka na ⊢;let up:∀b o,b≠x->H8 b\o->Ha b\o:=λb o n z=>ka b o n (k9 b o n z)
  let cA:cN A.aY A.aK Ha x r ⟨I,q,g,e,w⟩ [] [] vj @S.bz d (λb=>b=x\/b=g\/b=e\/b=w):=by
   rwa[xa,{[],up β Vy (X^g7),2,(λi v z=>by simp at z),(λi v u z=>by simp at z),(λi j p z=>by simp at z)},up β zg (X^e7),{11,kat_nil (up β nwx w8),{λb hb=>?_,(λ_ _ z=>by ext z),(λ_ _ _ z=>by ext z),(λ_ _ _ z=>by ext z)}},nge,.Α Ų,.Ç (.Α Ų),.Ç (.Ç (.Α Ų)),λb hb=>?_]
   .rcases hb with z|⟨_,z⟩|⟨_,_,z⟩
    .rwa[.Ç (.Ç (.Ç z))]
    .ext z
    .ext z
   .rcases hb with z|z|z|z
    .rw[z];rwa[_,xa,(by cbv),(by cbv),(by cbv),by cbv]
    .rw[z];rwa[_,up β Vy (X^g7),(by cbv),(by cbv),(by cbv),s!""]
    .rw[z];rwa[_,up β zg (X^e7),(by cbv),(by cbv),(by cbv),by cbv]
    .rw[z];rwa[_,up β nwx w8,(by cbv),(by cbv),(by cbv),by cbv]
  let qa:=up β Vx (X^q7)
  let Oa:∀b,(b=x\/b=g\/b=e\/b=w)->b=x\/H b=ε:=λb z=>by cbv
  let Ra:aD A.aH Ha r S a:=hR.Ï (λb o hb e=>oa b o e (λz=>Pj (by cbv))) (λb xs e=>oa b _ e (IM hx (by cbv)));let nA:∀b,Ha b=ε->H b=ε:=λb z=>n8 b (n9 b (na b z))
  obtain⟨O,eO⟩:∃O:Zs->ο,O=λb=>b=x\/b=g\/b=e\/b=w:={12}
  rw[<-eO]at cA;replace Oa:∀b,O b->b=x\/H b=ε:=by rw[eO];rwa[Oa]
  generalize ec:({I,q,g,e,w}:KA)=c at cA;let qa:Ha c.aQ\(.dT (jR d)):=by rw[<-ec];rwa[qa]
  let hfb:∀p∈d,@p.1<=1000/\∀z∈p.1,-1000<=z/\z<=1000:=λp hp=>hwb _ (Of (aoi (hpc.a p hp)))
  let F8:=F8 d hpc;rwa[12,r,a.dx,12,Ra.ins,Zw ⋯,r,S,a,2,Ra,gd.wf,3,λl nl=>?_];let sl:@(dH S)<=S.q:=aot (aph β) (by cbv);let stm:∀m∈dH S,m<S.q:=λm hm=>aoZ.mp (apa.mp hm).1
  let hmf:@(dH S)* @d<=S.q* @d:=apA _ sl;let sb:=ao.ψ (o:=.Ν xf) nl;let hl:ψ Ha l (.Ν xf) l\(.Ν xf):=aj;rw[show (~~~S.q).Ö (λc=>decide (S.bu[c]?\c))=dH S from rfl];let nlO:¬O l:=λz=>by let[o,e,_]:=cA.th l z;cbv
  change ψ Ha l _=Hb at sb hl ⊢;let cB:=cA.Μ sb;erw[l,2,{_,ay.of hl}]
  refine cF (xs:=aw (nI (dH S))) (λi σ H2=>∃L D O2 v4,σ=#v[?x,?r,?ru,?pa,v4,ε,ε]/\(∀b o,¬O b->Hb b\o->H2 b\o)/\(∀b,O b->O2 b)/\(∀b,O2 b->O b\/Hb b=ε)/\cN A.aY A.aK H2 x r c L D vj @S.bz d O2/\CI S (eA d ((dH S).Χ i)) L D vj gP ε/\@D<=@(eA d ((dH S).Χ i)))
   {[],[],O,ε,2,λ_ _ _ e=>e,λb z=>z,λb z=>.Α z,cB,abo,aoo _} (λi σ H2 _ ζ=>by let[_,_,_,_,_,f,_]:=ζ;rwa[ay.of (f β nlO hl)]) ?_ ?_
  .rintro i v σ H2 hi ⟨L,D,O2,v4,Ų,f2,Vu,An,c2,F0,Pk⟩;let[z,Ų,hz]:=bW hi
   obtain⟨m,hmi,rfl⟩:∃m,(dH S)[i]?\m/\z=(m:π):=by
    unfold nI at hz;rw[aon]at hz
    cases y:(dH S)[i]? with
    |ε=>rw[y]at hz;ext hz
    |ι m=>rw[y]at hz;rwa[m,2,(Za0 hz).Τ]
   let Y:=(aoh.mp hmi).1;let nQ:¬O c.aQ:=cA.OW qa;let q2:=f2 β nQ (sb^qa);let ll:=oE d ((dH S).Χ i);rw[aoX,aqf ∅]at ll;let li:(i+ 1)* @d<=@(dH S)* @d:=apA _ Y;rw[ari]at li;rwa[12,x,c.dx,12,c2.ins,fY ⋯,12,x,r,c,S,_,L,D,vj,@S.bz,d,O2,gP,m,2,c2,q2,F0,hfb,stm m (aoi hmi),3,Pk,λC B O3 W b3 le3 J c3 F G=>?_]
   let es:eA d ((dH S).Χ (i+ 1))=eA d ((dH S).Χ i)++ip d m:=by unfold eA;rw[ao2,hmi,ap0];show _++(ip d m++[])=_;rw[aoJ]
   rw[<-es]at F G;rwa[C,B,O3,12,λb o n e=>b3 b o (λz=>(An b z).Ü n λy=>by cbv) (tc o n e),λb z=>le3 b (Vu b z),λb z=>?_,c3,F,G];rcases J b z with y|y
   .rwa[An b y]
   .cases y2:O b
    .rwa[.Α y2]
    .rwa[.Ç ?_]
     cases e:Hb b with
     |ε=>rfl
     |ι o=>rw[tc o y2 e]at y;ext y
  rintro σ H2 ⟨L,D,O2,v4,Ų,f2,Vu,An,c2,F0,Pk⟩;rw[aF,cJ,apc]at F0 Pk;let ll:=oE d (dH S);let abu:Hb pa\(.Ν (U.Κ V.É)):=sb^oa β CT nxp;let N:∀{b o},H b\o->b≠x->¬O b:=λ{b o} e n z=>(Oa b z).Ü n λy=>by cbv
  let ags:=f2 β (N CT nxp) abu;let agt:=f2 β (N Ap nxr) (sb^oa β Ap nxr);let lr:@(Vw.Κ V.É)=@rs:=by rw[aog,Z.1]
  erw[1212,ru,12,.Α (ay.of agt),pa,(@(Vw.Κ V.É):π),2233,{_,ay.of ags}];rw[lr]
  refine yZ (xs:=U.Κ V.É) (λi σ W=>∃C B O3 v5 v6,σ=#v[?x,?r,?ru,?pa,v4,v5,v6]/\(∀b o,¬O b->Hb b\o->W b\o)/\(∀b,O3 b->O b\/Hb b=ε)/\cN A.aY A.aK W x r c C B vj @S.bz d O3/\CI S (eA d (dH S)++gL ps @rs i) C B vj gP ε/\@B<=@(eA d (dH S)++gL ps @rs i))
   {L,D,O2,ε,ε,2,f2,An,c2,by show CI S (_++[]) δ _;rw[aoJ];rwa[F0],by show _<=@(_++[]);rw[aoJ];rwa[Pk]} (λi σ W _ ζ=>by let[_,_,_,_,_,_,f,_]:=ζ;rwa[ay.of (f β (N CT nxp) abu)]) ?_ ?_
  .rintro i v σ W t hi nt ⟨C,B,O3,v5,v6,Ų,f3,J,c3,F,G⟩
   let Y:i<@U:=by have:=(aoh.mp hi).1;rw[aog]at Δ;rwa[Δ]
   let hip:i<@ps:=by rw[<-Aq.1];rwa[Y]
   obtain⟨fA,g1⟩:∃gx,U[i]?\gx:={U[i]'Y,aoe Y}
   obtain⟨jv,g2⟩:∃gx,ps[i]?\gx:={ps[i]'hip,aoe hip}
   rw[aon,g1]at hi;obtain rfl:V.É (fA)=v:=Za0 hi;change fA=wa at g1;change jv=u at g2;let hwa:=Aq.2 i wa u g1 g2;let hwx:wa≠x:=bD hwa hx (by cbv);let agu:=f3 β (N hwa hwx) (sb^oa β hwa hwx);let M:=ao.ψ (o:=.Ò [.υ ((@rs:π)+ (i:π)),?wa]) nt;erw[t,12,bG.of aj,21121122];let c4:=c3.Μ M;let pl:=vi ps @rs i;let hub:=hwb u (Q2 (aoi g2));rwa[12,x,c.dx,12,c4.ins,fY ⋯,1212,x,r,wa,c,S,_,C,B,vj,@S.bz,d,O3,gP,@rs+ i,(0),u,2,c4,F,M^agu,hub.1,hub.2,hm0,by rw[aoj];ext,G,λgs5 ag5 O5 H5 b5 le5 Pl c5 Vz al5=>?_]
   let ep:gL ps @rs (i+ 1)=gL ps @rs i++nz (@rs+ i) u 0:=by unfold gL;rw[apC,ap0];show _++(nz (@rs+ i) (ps.á i []) 0++[])=_;rw[aoJ,aom,g2];rfl
   rw[ao6,<-ep]at Vz al5;rwa[gs5,ag5,O5,112,λb o n e=>b5 b o (λz=>(J b z).Ü n λy=>by cbv) (M^f3 b o n e),λb z=>?_,c5,Vz,al5];rcases Pl b z with y|y
   .rwa[J b y]
   .cases y2:O b
    .rwa[.Α y2]
    .rwa[.Ç ?_]
     cases e:Hb b with
     |ε=>rfl
     |ι o=>rw[M^f3 b o y2 e]at y;ext y
  .rintro σ W ⟨C,B,O3,v5,v6,Ų,f3,J,c3,F,G⟩;rw[aog,Aq.1]at F G;rwa[k c C B d O3 W (λb o e n=>f3 b o (N e n) (sb^oa b o e n)) c3 (f3 β (cA.OW qa) (sb^qa)) (λb z=>?_) F G hpc];rcases J b z with y|y
   .rwa[Oa b y]
   .rwa[.Ç (nA b (Ĩ sb y))]
def F9 {rs:Za3}{b:θ (Zg×η)}(h:Bo rs b):@b<=@rs:=by
 let c:(b.Κ (·.2)).Á:=by
  have:=h.n;unfold θ.Á at Δ ⊢;rw[aqa]at Δ ⊢
  exact Δ.imp_of_mem λ{p q} a d n e=>n (by
   let i:=h.a p a;let g:=h.a q d
   cbv)
 have:=oy @rs _ c λn f=>by let[p,a,Ų]:=ao1.mp f;rwa[(aoh.mp (h.a p a)).1]
 rw[aog]at Δ;rwa[Δ]
def Ar {b:η×Zg×η}{w:η}(h:b∈nz w l m):b=(w,l,m)/\l≠[]:=by
 unfold nz at h
 cbv
def LV {w:η}(h:l≠[]):(w,l,m)∈nz w l m:=by unfold nz;cbv
def Xq {a:θ (Zg×η)}{st:Zh}{b:η×Zg×η}(h:b∈eA a st++gL W n @W):(∃p∈a,b.1=p.2/\b.2.1=p.1/\b.2.2∈st)\/∃j u,W[j]?\u/\b=(n+ j,u,0):=by
 rcases aov.mp h with q|q
 .let[m,d,q]:=apr.mp q;let[p,c,q]:=apr.mp q;let[Ų,_]:=Ar q;rwa[.Α {p,c,22,d}]
 .let[j,e,q]:=apr.mp q;let[Ų,_]:=Ar q
  cbv
def ends {bs:θ (η×Zg×η)}{d:Zf}{W:bU}(ci:CI S bs d [] W gP ε)(w:Ø S [] R){b:η×Zg×η}(p:b∈bs)(a:S.az b.2.2=b.2.2):NP S b.2.2 b.2.1:=by
 let[n,f]:=apm p;let x:n<@d:=by rw[ci.len];rwa[(aoh.mp f).1]
 cases q:d[n]? with
 |ε=>cbv
 |ι y=>
  cases y with
  |ε=>
   rcases ci.de n b q (by cbv) f with z|z
   .rwa[Ρ a z]
   .rwa[.Α z]
  |ι g=>
   let[e,c,z]:=ci.al n g q;rw[f]at e;obtain rfl:=Za0 e;rcases z with z|z|⟨lt,l,v⟩
   .ext z
   .ext z
   .let[o,_,k,_,_,_,_,f1]:=ci.en γ l;let[s,_,j,_,_,_,_,f2]:=ci.en γ v;let k:o=g.Ù:=∅
    let j:s=g.bN:=∅
    subst k j;rcases f1 with ⟨t,u⟩|f1
    .rcases f2 with ⟨m,r⟩|f2
     .let i:=c.wf;let h:=c.wr;let a:S.az g.Θ=g.Θ:=a;rw[a,t]at i;rw[a,m]at h;rwa[.Ç {g.first,g.last,g.Ù,g.bN,g.z1,-g.z2,lt,Gg.tF (by have:=c.ll;omega),Gg.at2 c.ll,i,u,h,[aqh]▸r}]
     .rwa[f2.Ü]
    .rwa[f1.Ü]
def e8 (S:RS)(L c:η)(z:π):ο:=c<S.q/\S.bu[c]?\c/\z∈bJ (2* L)/\S.by c z=ε
def Je (S:RS)(L c:η)(z:π):ο:=e8 S L c z/\∀a b,e8 S L a b->c<=a/\(a=c->M11.pl z<=M11.pl b)
structure GL (S:RS)(L:η):ο where
 wf:S.Wf
 m:S.q<=100000
 l2:L<=200
 gp:∀c,c<S.q->S.bu[c]?\c->S.gap c=(bJ (2* L)).Ö λz=>(S.by c z).isNone
def GL.mem (g:GL S n)(hc:m<S.q)(c:S.bu[m]?\m){y:π}:e8 S n m y↔y∈S.gap m:=by
 rw[g.gp m hc c,apa];constructor
 .rintro ⟨_,_,b,a⟩;rwa[b,by rw[a];rfl]
 .rintro ⟨b,a⟩;rwa[hc,c,b,by simpa using a]
def yy (S:RS):Zh:=(~~~S.q).Ö λc=>decide (S.bu[c]?\c)
def sW:n∈yy S↔n<S.q/\S.bu[n]?\n:=by unfold yy;rw[apa,aoZ];simp
def LX (n:η):(bJ n).Ő λa b=>M11.pl a<M11.pl b:=by unfold bJ;rwa[aqa.mpr (θ.Ő.Ŋ (λh=>?_) θ.pairwise_lt_range)];rw[M12.qb,M12.qb];rwa[h]
def abw {pre post:Zh}(g:GL S n)(o:yy S=pre++m::post)(t:∀b∈pre,S.gap b=[])(hz:(S.gap m).head?\z):Je S n m z:=by
 let v:m∈yy S:=by rw[o];rwa[Q2 aou]
 let[l,i]:=sW.mp v;let p:(yy S).Ő (·< ·):=θ.Ő.Ö _ θ.pairwise_lt_range;rw[o,θ.pairwise_append]at p;let k:=θ.pairwise_cons.mp p.2.1;let r:(S.gap m).Ő λa b=>M11.pl a<M11.pl b:=by rw[g.gp m l i];rwa[θ.Ő.Ö _ (LX _)]
 let h:z∈S.gap m:=θ.mem_of_mem_head? hz;rwa[(g.mem l i).mpr h,λj s d=>{5,λe=>?_}]
 .let c:=(g.mem d.1 d.2.1).mp d;let f:=sW.mpr {d.1,d.2.1};rw[o]at f;rcases aov.mp f with q|q
  .rw[t j q]at c;ext c
  .rcases aoC.mp q with q|q
   .ext
   .have:=k.1 j q;ext
 .subst e;let c:=(g.mem l i).mp d
  cases e:S.gap j with
  |nil=>rw[e]at c;ext c
  |È y ys=>
   rw[e]at hz c r;let u:y=z:=Za0 hz;subst u;rcases aoC.mp c with q|q
   .rw[q];rwa[aoo _]
   .rwa[aqj ((θ.pairwise_cons.mp r).1 s q)]
inductive LY (C D:Zs)(vs:Zb)(H:Hp)(Q:VK)(E_:XK):ο
 |mk (o dx r:Zs)(S:RS)(a:RA)(L:η):vs=[?o,?r]->H o\.ins D dx []->aD C H r S a->GL S L->((∀c z,¬e8 S L c z)->∀H',Q1 H'->Q .non H')->(∀(c:η)(z:π),Je S L c z->∀t H',Q1 H'->H' t\.Ò [.υ (c:π),.υ z]->Q ?t H')->LY C D vs H Q E_
inductive Jf (C:Zs)(vs:Zb)(H:Hp)(Q:VK)(E_:XK):ο
 |mk (r l:Zs)(S:RS)(a:RA)(cs:Zh):vs=[?r,?l]->aD C H r S a->H l\.Ν (aw (nI cs))->(∀c∈cs,c<@S.gaps)->((∀c∈cs,S.gap c=[])->Q .non H)->(∀(c:η)(z:π)(pre post:Zh),cs=pre++c::post->(∀b∈pre,S.gap b=[])->(S.gap c).head?\z->∀t,H t=ε->Q ?t (ψ H t (.Ò [.υ (c:π),.υ z])))->Jf C vs H Q E_
def VA (l:Zg):V:=(l.head?.Κ V.υ).á .non
inductive abx (C:Zs)(vs:Zb)(H:Hp)(Q:VK)(E_:XK):ο
 |mk (r:Zs)(S:RS)(a:RA)(c:η):vs=[?r,.υ c]->aD C H r S a->c<@S.gaps->Q (VA UV) H->abx C vs H Q E_
def vl (T:ų):T.lI.Ok mg P w Β 1 (abx A.aH):=by
 rwa[T.lI.on nu (λx G m s H F Q E I h=>?_)]
 .let[r,S,a,c,Ų,h,D,k]:=h
  refine{_,{{Ih (ž (ac7 ((0<<<1)|||1)) (cU 2 nu.nd)
   {{aZ (pv 2)}}),aZ cW}},?_}
  let v:=Af D;let[p,y,l]:=h.rG.at v;erw[p,.dK NJ,l,þ.intro];rwa[12,r,_,a.dx,112,h.ins,aO T,T.u9,vO^_,12,a.aG,11122,ay.of h.hG,bZ y,p,gK UV,2,l,λo=>?_]
  let back:ψ (WA (.dI o (.dK NJ))) p (.dK NJ)=H:=by
   rw[V6]
   funext b
   cases t:b=p
   .rw[t,aj,l]
   .rw[aq t]
  rwa[Y1 (d:=p) (o:=o) (kvs:=gK UV) (λi g j=>g=#v[?r,.υ c,ε]/\j=ψ H p (.dI o (.dK NJ))/\i=0) {222} (λi g j _ q=>[q.2.1]▸aj) ?_ ?_]
  .rintro i B g j f ⟨rfl,Ų,rfl⟩
   let e:∃z,(S.gap c).head?\z/\kV B.1=.υ z:=by
    unfold gK at f;rw[aon]at f
    cases q:UV[0]? with
    |ε=>rw[q]at f;ext f
    |ι z=>rw[q]at f;erw[z,[θ.head?_eq_getElem?]▸q];rw[<-Za0 f];rfl
   let[z,C,n]:=e;rw[n];erw[12,o,aj];rw[back];have:VA UV=.υ z:=by unfold VA;rw[C];rfl
   rw[<-Δ];rwa[k]
  .rintro g j ⟨rfl,Ų,e⟩;erw[o,aj];rw[back];have:S.gap c=[]:=aqg (by unfold gK at e;cbv);let n:VA UV=.non:=by rw[Δ];rfl
   rw[<-n];rwa[k]
def Ht (T:ų):T.yf.Ok P w Β 2 (Jf A.aH):=by
 rwa[T.yf.on qL (λM U o s H R Q E N h=>?_)]
 .let[r,l,S,a,cs,Ų,h,C,p,I,G]:=h
  erw[_,{{ž Cf (cU 2 qL.nd)
   {{ZV qL.nd (Wp T.lI (vl T) N #[2]),bL (a9 vA (pv 3) cW (bq _))
    {{aZ (bh #[2,3])}}
    bf}},aZ cW}}]
  erw[12,l,2,{_,ay.of C}];rwa[cF (xs:=aw (nI cs)) (λi g j=>∃v k,g=#v[?r,?l,v,k]/\j=H/\∀c∈cs.Χ i,S.gap c=[]) ⟨ε,ε,22,λc p=>by ext p⟩ (λi g j _ ζ=>by let[_,_,_,e,_]:=ζ;rwa[[e]▸ay.of C]) ?_ ?_]
  .rintro i x g j O ⟨v,k,Ų,Ų,f⟩;let[z,Ų,L]:=bW O
   obtain⟨c,d,rfl⟩:∃c:η,cs[i]?\c/\z=(c:π):=by
    unfold nI at L
    cbv
   let n:=aoi d;erw[12,r,a.dx,12,h.ins,212,r,S,a,c,2,h,p c n];erw[12212]
   cases B:S.gap c with
   |nil=>
    rwa[ι (.υ c),ι .non,22,λb u=>?_];rw[θ.take_add_one,d]at u;rcases aov.mp u with q|q
    .rwa[f b q]
    .rw[aok.mp q];rwa[B]
   |È y m=>rwa[1212,Za4 2,λt F=>G c y (cs.Χ i) (cs.ā (i+ 1)) (by let[J,D]:=aoh.mp d;rw[<-D,<-aqy J,ap4]) f (by rw[B];rfl) t F]
  .rintro g j ⟨v,k,Ų,Ų,f⟩;rw[aF,cJ,apc]at f;rwa[I f]
def vm (T:ų):T.qv.Ok mg P w Β 3 (LY A.aH A.dA):=by
 rwa[T.qv.on FC (λm y d s H x Q E e h=>?_)]
 .let[o,C,r,S,a,L,Ų,B,h,g,j,i]:=h;erw[_,{{aZ (pc T.yf (Ht T) e #[1,am e])}}];rwa[1212,r,a.dx,12,h.ins,2,r,S,a,2,h,g.wf,g.m,λl p=>?_];let s1:ao H (ZP (.Ν (aw (nI (yy S))))):=ao.ψ p;rwa[r,l,S,a,yy S,2,h.Μ s1,aj,λc v=>[g.wf.g]▸(sW.mp v).1,λq=>j (λc z b=>?_) _ s1,λc z pre post u n k t f=>?_]
  .have:=(g.mem b.1 b.2.1).mp b;rw[q c (sW.mpr {b.1,b.2.1})]at Δ
   cbv
  .rwa[i c z (abw g u n k) t _ (s1.ν (ao.ψ f)) aj]
def VB:Zh:=[114,111,111,109,115]
def Pn (b:Zs):Sp:=λa H Q _=>a=[.str (tx VB)]/\∀x d,H x=ε->H d=ε->d≠x->Q ?x (ψ (OP (.own x)) x (.ins b d []))
def Hu (T:ų):T.ye.Ok P w Β 1 (Pn A.dA):=by
 rwa[T.ye.on Hq (λb e a s H c Q E d h=>?_) (len:=by rintro _ _ _ _ ⟨rfl,_⟩;rfl)]
 .let[Ų,k]:=h
  erw[_,{{bL (FS (pv 0) (dq (l:=[114,111,111,109,115]) Ų) (bq _))
   {{aZ (RT T.SW T.SY T.SX Ų T.Xg (by decide))}}
   bf,oM,oM,oM}}]
  rwa[12212,dE k]
def Tx {r:Zs}(h:SB){d:Zs}{o:HO}(g:H d\o)(j:∀p q c,o≠.ins p q c)(i:∀b,o≠.Ν b)(k:∀b,o≠.dK b):¬O.own r d:=λf=>by
 rcases f with q|q|q
 .have:=h.ins;cbv
 .let[b,e]:=h.UD q;cbv
 .let[b,e]:=h.tE q;cbv
def Xr {r:Zs}(h:SB){p:Zs}{c:Zb}(b:H p\.Ò c):¬O.own r p:=Tx h b (by cbv) (by cbv) (by cbv)
def Xs {C x:Zs}(nx:H x=ε)(c:H a=ε)(d:a≠x)(k:∀b o,ψ (Ϻ (.own x)) x (.ins C a []) b\o->b≠x->I b\o)(g:∀b,O.own x b->b=x\/ψ (Ϻ (.own x)) x (.ins C a []) b=ε):ao H I/\∀b,O.own x b->H b=ε:=by let f:ao H (ψ (Ϻ (.own x)) x (.ins C a [])):=(ao.ψ c).ν (ao.ψ ([aq d.Τ]▸nx));rwa[λb o e=>k b o (f^e) (QA nx),λb z=>(g b z).Ü (λe=>[e]▸nx) (Ĩ f)]
def Xt {w:Zg}{k:η}(h:H a\.Ò (aw w)):bK H (k+ 1) ?a (.t (w.Κ Dt.i)):=by
 rwa[.t h (by rw[aF,aog]) λj v d c b=>?_]
 let[z,Ų,e]:=bW c;rw[aon,e]at b;rw[<-Za0 b];rwa[.i]
def pQ {ws:Za3}(h:bM H a ws):bK H 4 ?a (.l (ws.Κ λw=>Dt.t (w.Κ Dt.i))):=by
 let[i,k,e]:=h;rwa[.l k (by rw[aog,aog,e.1]) λj v d b c=>?_]
 rw[aon]at b c
 cases f:i[j]? with
 |ε=>cbv
 |ι p=>
  cases g:ws[j]? with
  |ε=>cbv
  |ι w=>rw[f]at b;rw[g]at c;rw[<-Za0 b,<-Za0 c];rwa[Xt (e.2 j p w f g)]
def Pp {x y:Dt}(h:H a\.Ν [?b,?c])(i:bK H 7 ?b x)(g:bK H 7 ?c y):bK H 8 ?a (.l [x,y]):=by
 rwa[.l h Ų λj v d e f=>?_]
 match j,e,f with
 |0,e,f=>ext e;ext f;rwa[i]
 |1,e,f=>ext e;ext f;rwa[g]
 |j+ 2,e,f=>simp at e
def fQ (p:Zs)(H a:Hp):ο:=∀q o,q≠p->H q\o->a q\o
def fQ.ν (c:fQ a H I)(b:fQ a I J):fQ a H J:=λq o n e=>b q o n (c q o n e)
def fQ.ψ {o:HO}:fQ a H (Ϻ o):=λq u n e=>[aq n]▸e
def _root_.Lake.L2.bT.but {rs:Zn}{rows:Za3}{w:Zs}(h:bT H rs rows)(b:fQ w H I)(c:w∉rs):bT I rs rows:={h.1,λi r ns a d=>b β (λz=>c (by rw[<-z];rwa[aoi a])) (h.2 i r ns a d)}
def Ga {rows:Za3}(h:bT H F rows){r:Zs}(c:r∈F):∃d,H r\(.Ν (aw d)):=by
 let[i,b,e]:=aqz.mp c;let a:i<@rows:=by rw[<-h.1];rwa[b]
 rwa[_,h.2 i r _ (by rw[aoe b,e]) (aoe a)]
def _root_.Lake.L2.bT.ċ {rs:Zn}{rows:Za3}{r:Zs}{ns:Zg}(h:bT H rs rows)(e:H r\.Ν AS):bT H (rs++[r]) (rows++[ns]):=by
 rwa[by rw[aoj,aoj,h.1];rfl,λi q d b a=>?_];cases c:i<@rs
 .rw[aoq c]at b;rw[aoq (by rw[<-h.1];rwa[c])]at a;rwa[h.2 i q d b a]
 .rw[aoz ∅]at b;rw[aoz (by rw[<-h.1];omega)]at a;rw[aok.mp i8,aok.mp (aoi a)];rwa[e]
def bQ (S:RS)(k c:η):η:=(S.by c EM).á 0
inductive As (C:Zs)(vs:Zb)(H:Hp)(Q:VK)(E_:XK):ο
 |mk (r:Zs)(S:RS)(a:RA)(Z:η->ο):vs=[?r]->aD C H r S a->1<=S.L->S.L<=40->S.q<=300->@S.ways=S.q->Z 0->(∀c,Z c->c<S.q/\∀k,k<2* S.L->∃d,S.by c EM=ι d/\Z d)->(∀l N H',Q1 H'->H l=ε->Ċ H' l (DO (2* S.L) (Ŷ (2* S.L) 0 N))->@(Ŷ (2* S.L) 0 N)=N->Q ?l H')->As C vs H Q E_
def yz (a:θ (Key×V))(ğ:Zh):ο:=@a<=@ğ/\∀c:η,IF (Sum.Α (c:π))=if c∈ğ then ι (V.υ (M24.ix ğ c:π)) else ε
def yz.one:yz [(Sum.Α 0,.υ 0)] [0]:={aoo _,λc=>by
 cases h:c=0
 .subst h;rfl
 .rw[aoK (λq=>h (aok.mp q))];show bF (ú [] (Sum.Α 0) (.υ 0)) (Sum.Α (c:π))=ε;rw[fI,aoK (λq=>by injection q with q;omega)];rfl}
def yz.put {c:θ (Key×V)}{ğ:Zh}(h:yz c ğ)(nd:ğ.Á)(hc:n∉ğ):yz (ú c (Sum.Α (n:π)) (.υ (@ğ:π))) (ğ++[n]):=by
 let g:(ğ++[n]).Á:=by rw[apb];rwa[nd,by simp,λa i b j=>by cbv]
 rwa[5,λf=>?_]
 .have:=gN c (Sum.Α (n:π)) (.υ (@ğ:π));have:=h.1;rw[aoj,apL];ext
 rw[fI];cases e:f=n
 .subst e;rw[aoO Ų,aoO Fr,M24.Od hc]
 .rw[aoK (λq=>e (by injection q with q;omega)),h.2];cases d:f∈ğ
  .rw[aoO d,aoO (Of d),M24.zr g d]
  cbv
structure NS (H0 H:Hp)(lf d lr:Zs)(ts:Zn)(kvs:θ (Key×V))(ğ:Zh)(Tb:Za3):ο where
 Μ:ao H0 H
 f1:H lf\(.Ν (aw (nI ğ)))
 d1:H d\(.dK kvs)
 nm:yz kvs ğ
 r1:H lr\(.Ν (ts.Κ V.É))
 r2:bT H ts Tb
 un:(lf::lr::ts).Á
 new:∀x∈lf::lr::ts,H0 x=ε
 dn:H0 d=ε
section
variable {H0 H H':Hp}{lf d lr:Zs}{ts:Zn}{kvs:List (Key×V)}{found:Zh}{Tb:Za3}
def NS.ł (h:OK)(s:bc):NS H0 H' lf d lr ts kvs ğ Tb:={h.Μ.ν s,s^h.f1,s^h.d1,h.nm,s^h.r1,h.r2.Μ s,h.un,h.new,h.dn}
def NS.ne (h:OK):lf≠lr/\lf∉ts/\lr∉ts/\ts.Á:=by
 let a:=ao0.mp h.un
 cbv
def NS.add (h:OK)(nd:ğ.Á){c:η}(hc:c∉ğ):NS H0 (ψ (OP (.dK (ú kvs (Sum.Α (c:π)) (.υ (@ğ:π))))) lf (.Ν (aw (nI ğ)++[.υ (c:π)]))) lf d lr ts (ú kvs (Sum.Α (c:π)) (.υ (@ğ:π))) (ğ++[c]) Tb:=by
 let[j,k,n,m]:=h.ne;let dl:∀b g,H b\.Ν g->b≠d:=λb g e=>bD e h.d1 (by cbv)
 rwa[λb o e=>?_,55,h.nm.put nd hc,5,{h.r2.1,λi q ns f l=>?_},h.un,h.new,h.dn]
 .rw[aq (QA (h.new lf aou)),aq (QA h.dn)];rwa[h.Μ^e]
 .rw[aj,jX,ï];rfl
 .rw[aq (apE (dl lf _ h.f1)),aj]
 .rw[aq (apE j),aq (dl lr _ h.r1)];rwa[h.r1]
 .let a:=h.r2.2 i q ns f l;rw[aq (λe=>k (by rw[<-e];rwa[aoi f])),aq (dl q _ a)];rwa[a]
def NS.row (h:OK){q:Zs}{row:Zg}(f:H q\.Ν (aw row))(p:H0 q=ε)(c:q∉lf::lr::ts):NS H0 (ψ H lr (.Ν ((ts++[q]).Κ V.É))) lf d lr (ts++[q]) kvs ğ (Tb++[row]):=by
 let[g,k,m,i]:=h.ne;simp only[aoC,not_or]at c;let[j,l,n]:=c;rwa[λb o e=>?_,55,h.nm,aj,55,λx a=>?_,h.dn]
 .rw[aq (QA (h.new lr (JE aou)))];rwa[h.Μ^e]
 .rw[aq g];rwa[h.f1]
 .rw[aq (bD h.d1 h.r1 (by cbv))];rwa[h.d1]
 .rwa[bT.but (w:=lr) (h.r2.ċ f) fQ.ψ ?_]
  cbv
 .cbv
 .rw[<-aqP,<-aqP]at a;rcases aov.mp a with a|a
  .rwa[h.new x a]
  cbv
end
theorem Hv (T:ų):T.numbered.Ok P w Β 2 (As A.aH):=by
 rwa[T.numbered.on gR (λcf AA Ψ s H vs Q E hr h=>?_)]
 .let[r,S,a,Z,Ų,hR,tW,FG,hm,hw,hZ0,hZ,k]:=h;let Y:=iC hr
  erw[_,{{bp 1 gR.nd (sB hr #[0<<<1]),KB gR.nd (bH #[ak]),ZV gR.nd (vJ (sj ak ak vI) Ų Ų (by simp) ⋯),wn gR.nd Op,bS (Po (a9 ot (4<<<0) (2<<<0) (bq _))
    {{jY (iy:=5) gR.nd Ų EO (fns:=[KK,ϔ,bn]) (ixs:=[4,0,2]) (cl:=_) Ų Cf (b0 [(_,_),(_,_),(_,_)] Ų {222222222222222,þ.intro} Ų) (λC s H ex=>(pm (pv 2) (aO T) T.jq (ja T) hr #[aM (jk (K:=K) Ų) (pv 3) (aT (Dd (K:=K) Ų) Ų T.bY aoM #[1]) (λ_ _=>rfl),0])),ž Cc (cU 6 gR.nd)
     {{bS (bL (qT (ky Y (pv 6) (pv 3)))
      {{iU Y (pv 3) (pv 6) (2<<<0) Ų,aX (RI #[6])}}
      bf)}},aX (ŵ (pv 4) #[eK (fns:=["numbers"]) (ixs:=[3]) (cl:=_) Ų Cc (b0 [(_,_)] Ų {22222,þ.intro} Ų) (λC s H ex=>(jz Y (pv 1) (pv 0) (λ_ _=>rfl)))])}}),aZ (pv 4)}}]
  rwa[12,r,_,a.dx,112,hR.ins,aO T,T.u0,y7^_,S.L,2,tW,3,λsl H1 s1 VC=>?_];rwa[4,λu xr=>?_];generalize e_:ψ H1 u _=H2;obtain⟨s2,Au⟩:_/\_\(.Ν (aw (nI [0]))):=dc e_ xr;intro d hd;erw[aj,[(Sum.Α 0,.υ 0)],24];generalize Io:ψ (nv d (.dK [])) d _=H3;let Av:H3 d\(.dK [(Sum.Α 0,.υ 0)]):=by rw[<-Io,aj];rfl
  let s3:ao H2 H3:=λb o e=>by rw[<-Io,aq Cs,aq Cs];rwa[e]
  rwa[aoN _,λp hlr=>?_];generalize e_:ψ H3 p _=H4;obtain⟨s4,hr4⟩:_/\_\(.Ν (([]:Zn).Κ V.É)):=dc e_ hlr
  let B4:NS H1 H4 u d p [] [(Sum.Α 0,.υ 0)] (Ŷ (2* S.L) 0 0) (Nd (2* S.L) 0 0):=by
   let nlr:H2 p=ε:=s3.free hlr;let e:u≠p:=λz=>by cbv
   rwa[(s2.ν s3).ν s4,(s3.ν s4) β Au,s4^Av,yz.one,hr4,{2,λi r ns h1=>by simp at h1},by simp[e],λx hx=>?_,s2.free hd];simp only[aoC,apl,aqM]at hx;rcases hx with e|e
   .rw[e];rwa[xr]
   .rw[e];rwa[s2.free nlr]
  let IZ:∀y i,Z y->i<2* S.L->Z (bQ S i y):=λy i hy B=>by let[d,e1,e2]:=(hZ y hy).2 i B;unfold bQ;rw[e1];rwa[e2]
  let oZ:∀n,∀z∈M24.bB (bQ S) (2* S.L) 0 n,Z z:=M24.rj hZ0 IZ;let agv:∀n,@(Ŷ (2* S.L) 0 n)<=300:=λn=>aot (M11.eG S.q _ (xw n) λz O=>(hZ z (oZ n z O)).1) hm
  erw[λ fH H'=>∃(N:η)(F:Zn)(f:θ (Key×V))(v5 L:Zc),fH=#v[?r,?sl,?u,?d,?p,v5,L]/\NS H1 H' u d p F f (Ŷ (2* S.L) 0 N) (Nd (2* S.L) 0 N)/\@(Ŷ (2* S.L) 0 N)=N,5]
  .erw[λm σ H'=>∃(n:η)(F:Zn)(f:θ (Key×V))(v5 L:Zc),m=300 - n/\σ=#v[?r,?sl,?u,?d,?p,v5,L]/\NS H1 H' u d p F f (Ŷ (2* S.L) 0 n) (Nd (2* S.L) 0 n)/\n<=@(Ŷ (2* S.L) 0 n),⟨_,(0),[],_,ε,ε,22,B4,aoN _⟩];rintro m σ H5 ⟨n,F,f,v5,L,Ų,Ų,M,hn⟩
   let U:@F=n:=by rw[M.r2.1];unfold M24.mz;rw[aog,aoX];ext
   erw[12,p,12,.Α (ay.of M.r1),12,u,12,.Α (ay.of M.f1),112212];rwa[cQ (λh=>?_) (λh=>?_)]
   .let wV:n<@(Ŷ (2* S.L) 0 n):=by let h':(@(F.Κ V.É):π)<(@(aw (nI (Ŷ (2* S.L) 0 n))):π):=aoS h;rw[aF,cJ,aog,U]at h';ext
    obtain⟨c,I⟩:∃c,(Ŷ (2* S.L) 0 n)[n]?\c:={_,aoe wV}
    let X:=oZ n c (aoi I);let hcm:=(hZ c X).1;erw[_,λ fH H' h=>h];let R5:aD A.aH H5 r S a:=hR.Μ (s1.ν M.Μ);let D:=M.Μ^VC;erw[12,sl,2,{_,ay.of D}];rwa[jj (aw ((~~~(2* S.L)).Κ M12.st)) (λv=>match v with|.υ z=>.υ (((S.by c z).á 0:η):π)|v=>v) (iP (ay.of D)) (gk (ay.of D)) (fm (ay.of D)) ([aF,aog,aoU]▸aot (show 2* S.L<=1000 by omega) ⋯) (λi v hv Rr R=>?_) (λlo nlo=>?_)]
    .let[z,Ų,O]:=bW hv
     let B:i<2* S.L:=by have:=(aoh.mp O).1;rw[aog,aoU]at Δ;rwa[Δ]
     let ez:M12.st i=z:=Za0 ((rN B).Τ.ν O);let[dd,e1,e2]:=(hZ c X).2 i B;rw[ez]at e1;erw[12,r,a.dx,12,R5.ins,Zw ⋯,1212,p,12,.Α (ay.of M.r1),u,11122,ay.of M.f1,([aog,U]▸bX (bR (lA I))),12,r,S,a,c,z,2,R5,[hw]▸hcm]
     cbv
    let eo:(aw ((~~~(2* S.L)).Κ M12.st)).Κ (λv=>match v with|.υ z=>V.υ (((S.by c z).á 0:η):π)|v=>v)=aw (nI ((~~~(2* S.L)).Κ λi=>bQ S i c)):=by unfold aw nI;rw[ao4,ao4,ao4,ao4];rfl
    rw[eo];generalize e_:ψ H5 lo _=H6;let[s6,ho6]:=dc e_ nlo;let n1:lo≠u:=λz=>by rw[z,M.f1]at nlo;ext nlo
    let hod:∀i,i<2* S.L->((~~~(2* S.L)).Κ λi=>bQ S i c)[i]?\(bQ S i c):=λi B=>by rw[aon,apx B];rfl
    erw[12,lo,2,{_,ay.of ho6}];rwa[cF (xs:=aw (nI ((~~~(2* S.L)).Κ λi=>bQ S i c))) (λi σ W=>∃(f:θ (Key×V))(L:Zc),σ=#v[?r,?sl,?u,?d,?p,?lo,L]/\NS H1 W u d p F f (aa (Ŷ (2* S.L) 0 n) i) (Nd (2* S.L) 0 n)/\W lo\.Ν (aw (nI ((~~~(2* S.L)).Κ λi=>bQ S i c)))) {f,L,2,M.ł s6,ho6} (λi σ W _ ζ=>by let[_,_,_,_,h]:=ζ;rwa[ay.of h]) ?_ ?_]
    .rintro i y σ W B ⟨f,L,Ų,g,l⟩
     let hi':i<2* S.L:=by have:=(aoh.mp B).1;rw[aF,cJ,aog,aoU]at Δ;rwa[Δ]
     rw[bR (lA (hod i hi'))]at B;let ey:=Za0 B;subst ey
     let Jd:@(aa (Ŷ (2* S.L) 0 n) i)<=300:=aot (M11.eG S.q _ (M24.vU (xw n) i) λz O=>by
      rcases M24.my.mp O with q|⟨j,hj,rfl⟩
      .rwa[(hZ z (oZ n z q)).1]
      .rwa[(hZ _ (IZ c j X (by omega))).1]) hm
     let Pq:(aa (Ŷ (2* S.L) 0 n) i).Á:=M24.vU (xw n) i;let hsu:=M24.kK (bQ S) c (Ŷ (2* S.L) 0 n) i;change M24.eM (bQ S) c (Ŷ (2* S.L) 0 n) i=ð at hsu g Jd Pq;rw[hsu];change bQ S i c=o;rwa[15,λ_ _ h=>h];erw[1212,d,12,dF.k (k:=Sum.Α (o:π)) g.d1,12];rw[g.nm.2 o];cases J:o∈ð
     .rw[aoO J];rwa[dz {f,125,l}];unfold M24.add;rw[aoO J];rwa[g]
     .rw[aoK J];let B8:=g.add Pq J;let agw:(@(aw (nI ð)):π)=(@ð:π):=by rw[aF,cJ]
      erw[12,u,12,.Α (ay.of g.f1),1212,d,12,lz.k (k:=Sum.Α (o:π)) g.d1 (aop (show @f<=300 by have:=g.nm.1;omega) ⋯)];let hfd:ψ W d (.dK (ú f (Sum.Α (o:π)) (.υ (@(aw (nI ð)):π)))) u\(.Ν (aw (nI ð))):=by rw[aq (bD g.f1 g.d1 (by cbv))];rwa[g.f1]
      erw[12,.Α {21,ay.of hfd},12,u,1122,hfd,5]
      .rw[aF,cJ];rwa[aop Jd ⋯]
      rw[agw];erw[ú f (Sum.Α (o:π)) (.υ (@ð:π)),125]
      .unfold M24.add;rw[aoK J];rwa[B8]
      .rw[aq n1,aq (bD l g.d1 (by cbv))];rwa[l]
    .rintro σ W ⟨f,L,Ų,g,l⟩;rw[aF,cJ,aog,aoU,<-M24.gQ I]at g;let amy:=agv (n+ 1);let[t,ht]:=M24.xX (bQ S) (2* S.L) 0 n;let FN:n+ 1<=@(Ŷ (2* S.L) 0 (n+ 1)):=by rw[ht,aoj];ext
     let hin:∀i,i<2* S.L->bQ S i c∈M24.bB (bQ S) (2* S.L) 0 (n+ 1):=λi B=>by rw[M24.gQ I];rwa[M24.my.mpr (.Ç {i,B,2})]
     erw[12,.Α {21,ay.of g.r1},12,lo,2,{_,ay.of l}];rwa[jj (aw (nI ((~~~(2* S.L)).Κ λi=>bQ S i c))) (λv=>match v with|.υ z=>.υ ((M24.ix (Ŷ (2* S.L) 0 (n+ 1)) z.Φ:η):π)|v=>v) (iP (ay.of l)) (gk (ay.of l)) (fm (ay.of l)) ([aF,cJ,aog,aoU]▸aot (show 2* S.L<=1000 by omega) ⋯) (λi v hv Rr R=>?_) (λlq G=>?_)]
     .let[z,Ų,O]:=bW hv
      let B:i<2* S.L:=by have:=(aoh.mp O).1;rw[cJ,aog,aoU]at Δ;rwa[Δ]
      let ez:((bQ S i c:η):π)=z:=Za0 ((lA (hod i B)).Τ.ν O);subst ez;let R:Rr (.υ ((M24.ix (Ŷ (2* S.L) 0 (n+ 1)) (((bQ S i c:η):π)).Φ:η):π)) W:=R;rwa[1212,d,125,R];have:=dF.k (k:=Sum.Α ((bQ S i c:η):π)) g.d1;rw[g.nm.2,aoO (hin i B)]at Δ;rwa[Δ]
     let eo:(aw (nI ((~~~(2* S.L)).Κ λi=>bQ S i c))).Κ (λv=>match v with|.υ z=>V.υ ((M24.ix (Ŷ (2* S.L) 0 (n+ 1)) z.Φ:η):π)|v=>v)=aw ((~~~(2* S.L)).Κ λi=>((M24.ix (Ŷ (2* S.L) 0 (n+ 1)) (bQ S i c):η):π)):=by unfold aw nI;rw[ao4,ao4,ao4,ao4];rfl
     rw[eo];generalize e_:ψ W lq _=H8;let[s8,hq8]:=dc e_ G
     let nq:lq∉u::p::F:=by
      simp only[aoC,not_or];rwa[λz=>?_,λz=>?_,λz=>?_]
      .rw[z,g.f1]at G;ext G
      .rw[z,g.r1]at G;ext G
      .let[ns,e]:=Ga g.r2 z
       cbv
     let B8:=(g.ł s8).row hq8 (g.Μ.free G) nq;rw[<-M24.CF I]at B8;erw[p,1122,s8^g.r1,5]
     .rw[aog,U];rwa[aop (show n<=300 by omega) ⋯]
     rw[aoE]at B8;rwa[300 - (n+ 1),3,n+ 1,F++[lq],f,1122,B8,FN]
   .erw[n,F,f,112,M];let h':¬(@(F.Κ V.É):π)<(@(aw (nI (Ŷ (2* S.L) 0 n))):π):=λq=>h (aoP q)
    rw[aF,cJ,aog,U]at h';ext
  rintro fH H' ⟨N,F,f,v5,L,Ų,B',hN⟩;rwa[12,k p N H' (s1.ν B'.Μ) (s1.free (B'.new p (JE aou))) {F,B'.r1,5} hN];rw[<-M24.Fd hN];rwa[B'.r2]
structure CS (CR CG CC:Zs)(H:Hp)(x r:Zs)(q:KA)(S:RS)(a:RA)(R:Za2)(ks:Zg)(B:η)(rs ps:Za3)(fp:θ (Zg×η))(bs:θ (η×Zg×η))(gs:Zf)(ag:Zh)(W:bU)(O:Zs->ο):ο where
 c:cN CG CC H x r q gs ag W @S.bz fp O
 q:H q.aQ\(.dT (jR fp))
 rm:kT CR H r S a R ks B
 dj:∀b,CU b->¬O b
 ci:CI S bs gs ag W gP ε
 bo:F4 (rs++ps) @rs ks bs
 pl:Bo rs fp
 br:∀b∈bs,b.2.2<S.q
 ra:∀w∈rs,w≠[]->∀c,c<S.q->S.az c=c->∃n,(n,w,c)∈bs
 pa:∀w∈ps,w≠[]->∃n,(n,w,0)∈bs
 ln:@bs<=S.q* @fp+ @ps
 wb:∀u∈rs++ps,@u<=1000/\∀z∈u,(-1000<=z/\z<=1000)/\z∈ks/\-z∈ks
def CS.abA {CR x r:Zs}{q:KA}{rs m:Za3}{o:θ (Zg×η)}{bs:θ (η×Zg×η)}{gs:Zf}{W:bU}{d:Zs->ο}(h:CS CR a b H x r q S O R l n rs m o bs gs [] W d)(p:0<S.q):A5 rs m S:=by
 rwa[λw i c hc k=>?_,λw i=>?_]
 .cases g:w=[]
  .rw[g];rwa[.Α Ų]
  .let[e,j]:=h.ra w i g c hc k;rwa[ends (b:=(e,w,c)) h.ci h.rm.g j k]
 .cases g:w=[]
  .rw[g];rwa[.Α Ų]
  .let[e,j]:=h.pa w i g;rwa[ends (b:=(e,w,0)) h.ci h.rm.g j (by have:=(h.rm.g.el 0 p).1;rwa[η.le_zero.mp Δ])]
inductive Jg (CR CG CC:Zs)(vs:Zb)(H:Hp)(Q:VK)(E_:XK):ο
 |mk (x r:Zs)(q:KA)(S:RS)(a:RA)(R:Za2)(B:η)(rs ps:Za3)(fp:θ (Zg×η))(bs:θ (η×Zg×η))(gs:Zf)(W:bU)(O:Zs->ο)(c:η)(z:π):vs=[?x,.υ c,.υ z]->CS CR CG CC H x r q S a R (bJ (2* S.L)) B rs ps fp bs gs [] W O->1<=S.L->S.L<=200->c<S.q->S.az c=c->S.by c z=ε->z∈bJ (2* S.L)-> -z∈bJ (2* S.L)->S.q<1000->(S.q+ 1)* @fp+ @ps<=2500->B<800000->@S.bz+ S.Ď<=800000->(∀S' a' R' bs' jf W' O' B' H',(∀b o,¬O b->¬a.own r b->H b\o->H' b\o)->CS CR CG CC H' x r q S' a' R' (bJ (2* S.L)) B' rs ps fp bs' jf [] W' O'->(∀b,JI b\/O' b->a.own r b\/O b\/H b=ε)->Tr (rs++ps) @rs (S.Ę c z (bJ (2* S.L))) S'->S'.q=S.q+ 1->S'.L=S.L->B'<=B+ 2502->Q .non H')->Jg CR CG CC vs H Q E_
def Aw (T:ų):T.pF.Ok mg P w Β 9 (Jg A.aH A.aY A.aK):=by
 rwa[T.pF.on z0 (λcf AA Ψ s H vs Q E hr h=>?_)]
 .let[x,r,q,S,a,R,B,rs,ps,i,bs,gs,W,O,c,z,Ų,h,tW,FG,hc,ec,d,hz,D,hm,F8,hB,hwn,k]:=h
  refine{_,{{aX (Ϙ T.fV (j5 T) hr #[pm (0<<<1) (aO T) T.sO (DE T) hr #[1,2]]),aX (AM hr #[1,2]),aX (E5 (pv 0) (aV T) T.jH (om T) hr)}},?_}
  let u:=h.rm.g;let rb:=h.rm.rb;let ok:=CQ u h.rm.k ∅ (by have:=h.rm.l;omega) ∅ ∅;rwa[12,x,q.dx,12,h.c.ins,fY ⋯,12,x,_,q.dx,112,h.c.ins,aV T,T.fO,gW^_,r,a.dx,12,h.rm.at_.ins,Zw ⋯,1212,r,S,a,c,z,2,h.rm.at_,u.wf,tW,FG,hc,33,ok.sm.w,λa1 H1 V tF X=>?_];let oth:∀b,O b->∃o,H b\o:=λb y=>by let[o,e,_]:=h.c.th b y;rwa[o,e]
  let tno:∀b Z,H b\.Ò Z->H1 b\(.Ò Z):=λb Z e=>V b _ (λy=>Xr h.rm.at_ e y) e
  let c1:=h.c.Ï (λb o y e=>V b o (λw=>h.dj b w y) e) tno;let q1:H1 q.aQ=_:=V β (Bp h.rm.at_ h.q) h.q;let ci1:=h.ci.Ę u hc ec d h.br (bJ (2* S.L))
  let Y:∀b,a1.own r b->¬O b:=λb y w=>by
   rcases X b y with v|v
   .rwa[h.dj b v w]
   cbv
  let pO:@bs+ @i<=2500:=by have:=h.ln;rw[ari,η.one_mul]at F8;ext
  rwa[x,r,q,S.Ę c z (bJ (2* S.L)),bs,gs,[],W,@S.bz,i,O,_,S.q,2,c1,q1,ci1,λp hp=>?_,apX _,3,aoN _,λf j L H2 t Vu G c2 J Pk=>?_]
  .have:=h.wb p.1 (Of (aoi (h.pl.a p hp)));rwa[Δ.1,λy hy=>(Δ.2 y hy).1]
  let bl:=sV S.q i;let l2:@(bs++ip i S.q)<=2500:=by rw[aoj];ext
  let bo2:F4 (rs++ps) @rs (bJ (2* S.L)) (bs++ip i S.q):=by
   let nw:∀b∈ip i S.q,(rs++ps)[b.1]?\b.2.1/\b.1<@rs:=λb d=>by
    let[p,hp,d]:=apr.mp d;let[Ų,_]:=Ar d;let h1:=h.pl.a p hp
    cbv
   rwa[λb d=>?_,λb d=>?_,λb d=>?_,λb d=>?_,3]
   .rwa[(aov.mp d).Ü (h.bo.w b) λy=>(nw b y).1]
   .rwa[(aov.mp d).Ü (h.bo.n b) λy=>.Α (nw b y).2]
   .rwa[(aov.mp d).Ü (h.bo.l b) λy=>(h.wb _ (aoi (nw b y).1)).1]
   .rwa[(aov.mp d).Ü (h.bo.k b) λy z' D=>((h.wb _ (aoi (nw b y).1)).2 z' D).2]
  let g2:@f<=2500:=by rw[J.len];rwa[l2]
  let O8:nF A.aY A.aK (S.Ę c z (bJ (2* S.L))) (bs++ip i S.q) f W (λr s=>r=c/\s=z) (@j+ 2* @f) x r q @S.bz i L H2 j W:={c2,J,λ_ _ _ z=>z,by have:=J.two;ext};rwa[12,x,q.dx,12,c2.ins,fY ⋯,1212,x,r,q,f,j,W,@S.bz,i,L,c,z,2,c2,O8.fits ∅,λns H3 m nd3 hn3 c3=>?_];let N:=O8.wake nd3 hn3 c3;let ci3:CI (S.Ę c z (bJ (2* S.L))) (bs++ip i S.q) f (j++ns) (hY W c z) gP ε:=N.i.ex λr' s' n' w' _ e=>Ρ {apW η.cast e.1,e.2} (dM.mp w').2
  let dj2:∀b,a1.own r b->¬L b:=λb y w=>by
   rcases G b w with v|v
   .rwa[Y b y v]
   .let[o,e]:=tF.there y;cbv
  let rm1:kT A.aH H1 r (S.Ę c z (bJ (2* S.L))) a1 (LS S.q) (bJ (2* S.L)) (B+ 2):=by
   let es:=Kv (c:=c) (z:=z) (g:=bJ (2* S.L)) u.wf;let M:(S.Ę c z (bJ (2* S.L))).bz=S.bz:=rfl;rwa[tF,u.Ę hc ec d _,uB h.rm.w u.wf γ,λa y b e=>?_,by show S.q+ 1<=_;ext,h.rm.l,5,by rw[M];ext]
   .rcases e with e|⟨_,e,_⟩|⟨_,e,_⟩
    .rwa[h.rm.k γ e]
    .rw[e];rwa[hz]
    .rw[e];rwa[D]
   .show @(S.rows++[_])+ _<=_;rw[aoj,es];show @S.rows+ 1+ _<=_;ext
  let rm3:=(rm1.Ï (λb o y e=>t b o (Y b y) e) (λb Z e=>t b _ (c1.kb e) e)).Ï (λb o y e=>m b o (dj2 b y) e) (λb Z e=>m b _ (c2.kb e) e);let lv:live f<=2500:=aot θ.countP_le_length g2;let hmul:live f* (2* @(bs++ip i S.q)+ 1)<=2500* 5001:=aqX lv ∅;let hag:@(j++ns)<=7500:=by have:=N.b;ext
  rwa[12,x,q.dx,12,c3.ins,fY ⋯,x,r,q,S.Ę c z (bJ (2* S.L)),a1,LS S.q,bJ (2* S.L),B+ 2,rs++ps,@rs,bs++ip i S.q,f,j++ns,hY W c z,i,L,2,c3,rm3,3,dj2,ci3,bo2,3,λS' a' R' jf W' O' B' H' f' c' r' ow oo dj' ci' rr em eL tr Vn=>?_];let I:S'.q=S.q+ 1:=em
  let out:∀{b o},¬O b->¬a.own r b->H b\o->H' b\o:=λ{b o} C F e=>by
   let U:=V b o F e;let e2:=t b o C U;let n3:¬L b:=λy=>(G b y).Ü C λv=>by cbv
   rwa[f' b o n3 (λy=>(X b y).Ü F λv=>by cbv) (m b o n3 e2)]
  let non:∀b,a1.own r b\/L b\/H3 b=ε->a.own r b\/O b\/H b=ε:=λb y=>by
   cases F:a.own r b
   .rwa[.Α F]
   cases C:O b
   .rwa[.Ç (.Α C)]
   rwa[.Ç (.Ç ?_)]
   cases e:H b with
   |ε=>rfl
   |ι o=>
    exfalso
    let U:=V b o F e;let n3:¬L b:=λy=>(G b y).Ü C λv=>by cbv
    rcases y with y|y|y
    .cbv
    .rwa[n3 y]
    .rw[m b o n3 (t b o C U)]at y;ext y
  let lt2:=Œ.of rm1.g r'.g rr (arE em.Τ);let Gb:∀b,b<S.q->(S.Ę c z (bJ (2* S.L))).az b=S.az b:=λb wV=>(gE u.wf c z (bJ (2* S.L)) b).ν (aoK ∅)
  rwa[k S' a' R' (bs++ip i S.q) jf W' O' B' H' (λb o C F e=>out C F e) {c',out (h.c.OW h.q) (Bp h.rm.at_ h.q) h.q,r',dj',ci',bo2,h.pl,λb d=>?_,λw M l b d eb=>?_,λw M l=>?_,5,h.wb} (λb y=>?_) tr I (eL.ν Ų) ∅]
  .rw[I];rcases aov.mp d with y|y
   .have:=h.br b y;ext
   .let[p,_,d]:=apr.mp y;let[Ų,_]:=Ar d;rwa[apX _]
  .cases e:b<S.q
   .let U:=lt2.el b ∅;rw[Gb b e,eb]at U;let l1:=(u.el b e).1;let l2:=(r'.g.el (S.az b) ∅).1;let[n,hn]:=h.ra w M l b e ∅
    cbv
   .let e:b=S.q:=∅
    subst e;let[n,hn]:=h.pl.b w M;rwa[n,Q2 (apr.mpr {(w,n),hn,LV l})]
  .let[n,hn]:=h.pa w M l
   cbv
  .have:=h.ln;rw[aoj,I,ari,η.one_mul];ext
  cbv
def LZ (T:ų):A7 K A.bA:={T.Lv,T.Lx,T.Ly,T.zX,T.zY,T.zZ}
def Pr (n:η)(l:Zs):θ (Ñ×V):=[(ON,.υ n),(KK,?l)]
inductive VD (C:Zs)(vs:Zb)(H:Hp)(Q:VK)(E_:XK):ο
 |mk (x l:Zs)(n:η)(xs:Zb):vs=[?x,.υ n,?l]->H x\XO x C ε ρ->n<100000->H l\.Ν xs->@xs<=1000000->(∀d l2 H',H d=ε->H l2=ε->d≠x->(∀b o,b≠x->H b\o->H' b\o)->H' x\XO x C (ι d) ρ->H' d\XD d (Pr n l2)->H' l2\.Ν xs->l2≠x->Q .non H')->VD C vs H Q E_
def t9 (T:ų):T.eP.Ok mg P w Β 1 (VD A.bA):=by
 rwa[T.eP.on t6 (λJ U C s H S Q E W h=>?_)]
 .let[x,l,n,M,Ų,t,X,F,I,k]:=h
  refine{_,{{aX (Sg (Iz T.zW T.eP.m.at_) {T.af5,T.af6,T.af7} Ų T.xo #[0,B6 (jA (vK (pv 1)) (jA (dq (l:=[32,114,111,111,109,115,32,119,101,114,101,32,109,97,100,101,44,32,97,110,100,32,116,104,101,114,101,32,97,114,101,32,103,97,112,115,32,108,101,102,116]) Ų) MY))] (by decide) Ų Ų Ų),Iu (pv 0) (pv 1) Ų,Iu (pv 0) (dD (lj) Ų T.iR apk #[2]) Ų}},?_}
  let R:=sg (n:=(n:π)) (by omega) (by omega);erw[1212,(n:π),2312,by show 0+ _<=1000000;ext,1255,x,ε,12,t]
  .let e:∀m:η,m<=100->@(Ef (n:π))+ m<=1000000:=λm N=>∅
   rwa[e _ ⋯]
  .rw[aq8,aoj];let e:∀m:η,m<=100->@(Ef (n:π))+ m<=1000000:=λm N=>∅
   rwa[e _ ⋯]
  rwa[1212,x,A.bA,ε,ρ,2,t,LZ T,T.IQ,λd j=>?_];let a:d≠x:=(ax t j).Τ;let c:ψ (OP (XD d [(ON,V.υ n)])) x YO x\YO:=aj;let g:ψ (OP (XD d [(ON,V.υ n)])) x YO d\(XD d [(ON,V.υ n)]):=by rw[aq a,aj]
  let B:∀b o,b≠x->H b\o->ψ (OP (XD d [(ON,V.υ n)])) x YO b\o:=λb o u e=>by rw[aq u,aq (QA j)];rwa[e]
  let u:∀b,ψ (OP (XD d [(ON,V.υ n)])) x YO b=ε->H b=ε:=λb e=>by
   cases q:b=x
   .cbv
   .rw[aq q]at e;cases G:b=d
    .rw[G];rwa[j]
    .rw[aq G]at e;rwa[e]
  change ψ (OP (XD d [(ON,V.υ n)])) x YO=L at c g B u ⊢;let D:l≠x:=bD F t f!"";rwa[12,l,M,2,.Α (ay.of (B β D F)),λv f=>?_];generalize O:ψ L v _=Y;let[r,y]:=dc O f;let i:v≠x:=(ax c f).Τ;let p:v≠d:=(ax g f).Τ;erw[12,x,A.bA,ι d,ρ,2,r^c,LZ T,T.Xk,_,a,r^g,by show 1<1000;decide];rwa[k d v _ j (u _ f) a (λb o q e=>?_) ?_ aj ?_ i]
  .rw[aq (QA j)];rwa[r^B b o q e]
  .rw[aq a.Τ];rwa[r^c]
  .rw[aq p];rwa[y]
inductive Fl (rs ps:Za3)(L lim:η):RS->ο
 |Θ {S:RS}:Tr (rs++ps) @rs (ϝ (bJ (2* L))) S->A5 rs ps S->Fl rs ps L lim S
 |next {S S':RS} {c:η} {z:π}:Fl rs ps L lim S->S.q<lim->Je S L c z->Tr (rs++ps) @rs (S.Ę c z (bJ (2* L))) S'->A5 rs ps S'->Fl rs ps L lim S'
def Jh (L:η)(u:Zg):ο:=@u<=1000/\∀z∈u,z≠0/\z.Ä<=L
def vn (d:n<=200){u:Zg}(h:Jh n u):@u<=1000/\∀z∈u,(-1000<=z/\z<=1000)/\z∈bJ (2* n)/\-z∈bJ (2* n):=by rwa[h.1,λz c=>?_];let[b,a]:=h.2 z c;rwa[3,il.mpr {b,a},il.mpr {33}]
def lQ (h:S.bu[n]?\n):S.az n=n:=by unfold RS.az;rw[aom,h];rfl
def Fl.ys {rs:Za3}(h:ES)(a:∀u∈rs++W,∀z∈u,z∈bJ (2* n)/\-z∈bJ (2* n)):∃R,YS S n (bJ (2* n)) R:=by
 induction h with
 |Θ t _=>let[R,y,_]:=YS.new.tr t a;rwa[R,y]
 |next _ _ l t _ g=>let[R,y]:=g;let[e,c,b,d]:=l.1;let[j,k]:=il.mp b;let[i,f,_]:=(y.Ę e (lQ c) d b (il.mpr {33})).tr t a;rwa[i,f]
def _root_.Lake.L2.YS.gl (y:YS S n (bJ (2* n)) R)(a:S.q<=100000)(d:n<=200):GL S n:={y.g.wf,a,d,λc hc b=>y.gi.fin y.g (Ow _) hc (lQ b)}
def Ans (S:RS)(L:η)(H:Hp)(v:V):ο:=(v=.non/\∀c z,¬e8 S L c z)\/∃(c:η)(z:π)(t:Zs),v=?t/\Je S L c z/\H t\(.Ò [.υ (c:π),.υ z])
def VF (H:Hp)(l:Zs)(S:RS):ο:=∃a:Zn,H l\.Ν (a.Κ V.É)/\ū (λp d=>bK H 4 ?p d) a S.rows/\@S.rows<=1000000
inductive Pt (cT:Zs)(vs:Zb)(H:Hp)(Q:VK)(E:XK):ο
 |mk (ru pa:Zs)(L lim:η)(rs ps:Za3):vs=[.υ L,?ru,?pa,.υ lim,.str (tx VB)]->1<=L->L<=40->1<=lim->lim<=300->bM H ru rs->bM H pa ps->(∀u∈rs++ps,Jh L u)->lim* @rs+ @ps<=2500->@rs<=400->@ps<=400->(∀t tb pp S N H',Q1 H'->Fl rs ps L lim S->(∀c z,¬e8 S L c z)->H' t\.Ò [?tb,?pp]->Ċ H' tb (DO (2* S.L) (Ŷ (2* S.L) 0 N))->@(Ŷ (2* S.L) 0 N)=N->VF H' pp S->Q ?t H')->(∀d pp S H',Q1 H'->Fl rs ps L lim S->S.q=lim->(∃c z,e8 S L c z)->H' d\XD d (Pr S.q pp)->VF H' pp S->E ?cT (ι d) H')->Pt cT vs H Q E
section
variable {CR CG CC:Zs}{H H':Hp}{x r:Zs}{q:KA}{S:RS}{a:RA}{R:Za2}{ks:Zg}{B:Nat}{rs ps:Za3}{fp:List (Zg×Nat)}{bs:List (Nat×Zg×Nat)}{gs:Zf}{ag:Zh}{W:bU}{O:Zs->Prop}
def CS.Ï (h:CS CR CG CC H x r q S a R ks B rs ps fp bs gs ag W O)(f:bc):CS CR CG CC H' x r q S a R ks B rs ps fp bs gs ag W O:={h.c.Μ f,f^h.q,h.rm.Μ f,h.dj,h.ci,h.bo,h.pl,h.br,h.ra,h.pa,h.ln,h.wb}
end
structure Ax (A:rD)(H0 H:Hp)(x r:Zs)(L lim:η)(rs ps:Za3)(S:RS):ο where
 k:ao H0 H
 cs:∃q a R B fp bs gs W O,CS A.aH A.aY A.aK H x r q S a R (bJ (2* L)) B rs ps fp bs gs [] W O/\(∀b,CU b\/O b->H0 b=ε)/\B<=2502* S.q
 f:Fl rs ps L lim S
 m:S.q<=lim
 l:S.L=L
def Ax.kp {H0:Hp}{x r:Zs}{rs b:Za3}(h:Ax A H0 H x r n m rs b S)(k:XL):Ax A H0 I x r n m rs b S:=by let[q,a,R,B,c,bs,gs,W,O,cs,e,d]:=h.cs;rwa[h.k.ν k,{q,a,R,B,c,bs,gs,W,O,cs.Ï k,e,d},h.f,h.m,h.l]
theorem Br (T:ų):cX P w K mg Β ϴ 11 A.Oi A.Oj [ϓ,Q4,me,Mo,"order"] (Pt A.bA):=by
 rwa[T.fill.N4 oK (λvs H Q E h=>?_) (λcf AA Ψ s H vs Q E Z h=>?_)]
 .let[ru,pa,L,i,rs,f,Ų,_]:=h;rfl
 .let[ru,pa,L,i,rs,f,Ų,tW,FG,hl1,Cb,F7,Ao,M,F8,pM,j4,kq,ke]:=h
  erw[_,{{LE oK.nd (pc T.ye (Hu T) Z #[4]),bp 6 oK.nd (vD (yk T) (wH T) (Z.mono ⋯) Ų T.Xh T.ic.b .nil o8 #[0]),bp 7 oK.nd (vD (sR T) (t8 T) (Z.mono ⋯) Ų T.Ov T.fL.b .nil o8 #[6,1,2]),aX (E5 (pv 7) (aV T) T.jH (om T) Z),bp 8 oK.nd (ww #[6]),bS (gM PassesOwn.leaving (a9 vA (pv 8) cW (bq _))
    {{bL (a9 Ug (6<<<1) (pv 3) (bq _))
     {{N6 (E:=E) (t9 T) (Z.mono ⋯) T.eP.b Ų Ų T.uZ (Iz T.zW T.eP.m.at_) T.eP.m.fn T.Ls #[6<<<1,af Z] lvD Ų (by decide) (by decide) Ų Ų}}
     bf,aX (pm (pv 7) (aV T) T.pF (Aw T) Z #[8&&&ak,8&&&ak]),bp 8 oK.nd (ww #[6])}}),aZ (bh #[pc T.numbered (Hv T) Z #[6],af Z])}}]
  let VG:∀u∈rs++f,∀z∈u,z∈bJ (2* L)/\-z∈bJ (2* L):=λu hu z hz=>((vn ∅ (M u hu)).2 z hz).2
  rwa[122,λo dO nx nd Y=>?_];let s1:=(ao.ψ (o:=.own o) nd).ν (ao.ψ (o:=.ins A.dA dO []) ([aq Y.Τ]▸nx));let ho:ψ (ψ H dO (.own o)) o (.ins A.dA dO []) o=_:=aj;change ψ (ψ H dO (.own o)) o (.ins A.dA dO [])=I at s1 ho ⊢;replace F7:=F7.Μ s1;replace Ao:=Ao.Μ s1;rwa[12,λr dx nx X Y=>{r,dx,L,2,aj,tW,3,λra H2 k2 h2 Ji=>{25}}];let[s2,agx]:=Xs (C:=A.aH) nx X Y k2 Ji;rwa[121212,λx dx nx X Y=>?_];let s0:ao H2 (ψ (nv dx (.own x)) x (.ins A.aK dx [])):=(ao.ψ X).ν (ao.ψ ([aq Y.Τ]▸nx));let hx0:ψ (nv dx (.own x)) x (.ins A.aK dx []) x\(.ins A.aK dx []):=aj;let Pj:¬ra.own r x:=λz=>by let[o,e]:=h2.there z;cbv
  let n0:∀b,ψ (nv dx (.own x)) x (.ins A.aK dx []) b=ε->H2 b=ε:=λb z=>Ĩ s0 z
  let gd:=sr L (bJ (2* L))
  let fit:∀D,Bo rs D->1* @D+ @f<=2500:=λD h=>by have:=F9 h;ext
  let sl:0+ (ϝ (bJ (2* L))).Ď<=1:=by rwa[FY (ϝ (bJ (2* L)))]
  let y0:=YS.new (L:=L) (ks:=bJ (2* L));let rm0:kT A.aH H2 r (ϝ (bJ (2* L))) ra (λ_ _ _=>Ð) (bJ (2* L)) 1:={h2,gd,y0.w,y0.k,by show 1<=2000;decide,by rw[vY];ext,sl,aot sl ⋯};rwa[x,dx,r,ru,pa,ϝ (bJ (2* L)),ra,λ_ _ _=>Ð,rs,f,2,hx0,h2.Μ s0,gd,η.one_pos,by show 1<=2000;decide,Pj,(F7.Μ s2).Μ s0,(Ao.Μ s2).Μ s0,pM,j4,λu hu=>{(vn ∅ (M u hu)).1,λz hz=>((vn ∅ (M u hu)).2 z hz).1},λD h=>by have:=fit D h;show 1* @D+ @f<50000;ext,λq gs ag D O H4 f4 c4 q4 o4 Pa al4 hp=>{25}];let hf:=fit D hp;let sd:@(dH (ϝ (bJ (2* L))))<=1:=aot (aph β) (by rwa[aoo _]);let hmf:@(dH (ϝ (bJ (2* L))))* @D<=1* @D:=apA _ sd;let l1:=oE D (dH (ϝ (bJ (2* L))));let l2:=vi f @rs @f;let hbl:@(eA D (dH (ϝ (bJ (2* L))))++gL f @rs @f)<=1* @D+ @f:=by rw[aoj];ext
  let hlv:live gs<=@(eA D (dH (ϝ (bJ (2* L))))++gL f @rs @f):=by rw[<-Pa.len];rwa[θ.countP_le_length]
  let r4:kT A.aH H4 r (ϝ (bJ (2* L))) ra (λ_ _ _=>Ð) (bJ (2* L)) 1:=(rm0.Μ s0).Ï (λb o G e=>f4 b o e (λz=>Pj (by cbv))) (λb xs e=>f4 b _ e (IM hx0 (by cbv)))
  let dj:∀b,ra.own r b->¬O b:=λb z y=>by
   let[o,e]:=(h2.Μ s0).there z
   cbv
  let bin:∀b∈eA D (dH (ϝ (bJ (2* L))))++gL f @rs @f,((rs++f)[b.1]?\b.2.1/\(b.1<@rs\/b.2.2=0))/\b.2.2<1:=λb G=>by
   rcases Xq G with ⟨p,hp',e1,e2,e3⟩|⟨j,u,hj,rfl⟩
   .let h1:=hp.a p hp';let h2:=(aoh.mp h1).1;rw[e1,e2,aoq h2];rwa[{h1,.Α h2},aoZ.mp (apa.mp e3).1]
   cbv
  let U:F4 (rs++f) @rs (bJ (2* L)) (eA D (dH (ϝ (bJ (2* L))))++gL f @rs @f):={λb G=>(bin b G).1.1,λb G=>(bin b G).1.2,λb G=>(M _ (aoi (bin b G).1.1)).1,λb G z hz=>VG _ (aoi (bin b G).1.1) z hz,3}
  let bra:∀w∈rs,w≠[]->∃n,(n,w,0)∈eA D (dH (ϝ (bJ (2* L))))++gL f @rs @f:=λw hw J=>by let[n,hn]:=hp.b w hw;let hcs:0∈dH (ϝ (bJ (2* L))):=apa.mpr {aoZ.mpr η.one_pos,aoP Ų};rwa[n,Of (apr.mpr {(0),hcs,apr.mpr {(w,n),hn,LV J}})]
  let bpa:∀w∈f,w≠[]->∃n,(n,w,0)∈eA D (dH (ϝ (bJ (2* L))))++gL f @rs @f:=λw hw J=>by let[j,hj]:=apm hw;rwa[@rs+ j,Q2 (apr.mpr {j,aoZ.mpr (aoh.mp hj).1,5})];rw[aom,hj];rwa[LV J]
  change eA D (dH (ϝ (bJ (2* L))))++gL f @rs @f=bs at Pa al4 hbl hlv bin U bra bpa;let hmul:live gs* (2* @bs+ 1)<=2500* 5001:=aqX ∅ ∅;rwa[12,x,q.dx,12,c4.ins,fY ⋯,x,r,q,ϝ (bJ (2* L)),ra,λ_ _ _=>Ð,bJ (2* L),(1),rs++f,@rs,bs,gs,ag,vj,D,O,2,c4,r4,3,dj,Pa,U,3,λS' a' R' jf W' O' B' H5 f5 c5 r5 ow oo dj5 Vz rr em eL tr hb5=>?_];let em':S'.q=1:=em
  let fr5:∀b o,I b\o->H5 b\o:=λb o e=>by
   let e2:=s2^e
   let nO:¬O b:=λy=>by cbv
   rwa[f5 b o nO (λy=>by cbv) (f4 b o (s0^e2) (ax e2 nx))]
  let U5:∀b,JI b\/O' b->I b=ε:=λb y=>by
   let nn:ra.own r b\/O b\/H4 b=ε->I b=ε:=λy=>by
    rcases y with y|y|y
    .rwa[agx b y]
    .cases e:I b with
     |ε=>rfl
     |ι u=>
      let e2:=s2^e
      cbv
    .cases e:I b with
     |ε=>rfl
     |ι u=>let e2:=s2^e;rw[f4 b u (s0^e2) (ax e2 nx)]at y;ext y
   cbv
  let cs5:CS A.aH A.aY A.aK H5 x r q S' a' R' (bJ (2* L)) B' rs f D bs jf [] W' O':=by
   rwa[c5,f5 β (c4.OW q4) (Bp r4.at_ q4) q4,r5,dj5,Vz,U,hp,λb G=>[em']▸(bin b G).2,λw hw J c hc _=>?_,bpa,[em']▸hbl,λu hu=>vn ∅ (M u hu)];have:c=0:=∅
   subst Δ;rwa[bra w hw J]
  let fl5:Ax A I H5 x r L i rs f S':={fr5,{q,a',R',B',D,bs,jf,W',O',cs5,U5,3},.Θ tr (cs5.abA ∅),3,eL.ν Ų}
  let look:∀{H5:Hp}{S:RS}{σ:St}{Qv:VK},Ax A I H5 x r L i rs f S->σ[5]?\ι ?o->σ[6]?\ι ?r->(∀v H6,Ax A I H6 x r L i rs f S->Ans S L H6 v->Qv v H6)->yQ A.dA "gap" (LY A.aH A.dA) [] (λ_ _ _=>Ð) (xC 5) (vC (xC 6) uc) σ H5 Qv:=by intro H5 S σ Qv F e5 e6 kk;let[Ry,y]:=F.f.ys VG;let[q,a,R,B,D,bs,gs,W,O,cs,_]:=F.cs;rwa[_,e5,o,dO,[],2,F.k^ho,21,e6,o,dO,r,S,a,L,2,F.k^ho,cs.rm.at_,y.gl (by have:=F.m;omega) ∅,λhn H' k1=>kk β (F.kp k1) (.Α {2,hn}),λc z hl t H' k1 ht=>kk β (F.kp k1) (.Ç {c,z,t,2,hl,ht})]
  rwa[look fl5 Ų Ų λv H6 fl6 an=>?_]
  erw[λ fH H'=>∃S,fH=#v[.υ L,?ru,?pa,.υ i,.str (tx VB),?o,?r,?x,ι .non]/\Ax A I H' x r L i rs f S/\∀c z,¬e8 S L c z,5]
  .erw[λm σ H'=>∃S v,m=i+ 1 - S.q/\σ=#v[.υ L,?ru,?pa,.υ i,.str (tx VB),?o,?r,?x,ι v]/\Ax A I H' x r L i rs f S/\Ans S L H' v,⟨_,S',v,22,fl6,an⟩];rintro m σ H7 ⟨S,v,Ų,Ų,F,an⟩;erw[12212];rcases an with ⟨rfl,hn⟩|⟨c,z,t,Ų,hl,ht⟩
   .rwa[Ke Ų {S,Ų,F,hn}]
   rwa[_,λ fH H' h=>h,?_];let[Ry,y]:=F.f.ys VG;let[q,a,R,B,D,bs,gs,W,O,cs,n0,hB]:=F.cs;let hm:=F.m;let eL:=F.l;let rb:=cs.rm.rb;let wr:=y.wr;erw[12,r,_,a.dx,112,cs.rm.at_.ins,aO T,T.rJ,vM^_,12112212];rwa[cQ (λh=>?_) (λh=>?_)]
   .let h:(i:π)<=(S.q:π):=aoS h;rwa[12,r,_,a.dx,112,cs.rm.at_.ins,aO T,T.rJ,vM^_,12,r,a.dx,12,cs.rm.at_.ins,Zw ⋯,r,S,a,2,cs.rm.at_,3,λp d hd e=>(y.d d hd).low e,λl qs H8 s8 nl hl8 E3=>?_];intro xx nxx;let s9:=ao.ψ (o:=XO xx A.bA ε ρ) nxx;let eln:@(qs.Κ V.É)<=1000000:=by rw[aog,E3.1];ext
    rwa[xx,l,S.q,qs.Κ V.É,2,aj,3,s9^hl8,eln,λd l2 H9 nd CM X f9 hx9 hd9 hl9 nlx=>{2,ι d,hx9,5}]
    let VH:ao H8 (del H9 xx):=λb u e=>by let nb:=ax e nxx;rw[q9 nb];rwa[f9 b u nb (s9^e)]
    rwa[ke d l2 S _ (λb u e=>VH^(s8^(F.k b u (s1^e)))) F.f ∅ {11,hl.1} ([q9 X]▸hd9) {qs,[q9 nlx]▸hl9,E3.Ŋ (λp d _ _ e=>e.Μ VH),3}]
   let h:S.q<i:=η.lt_of_not_le λw=>h (aoP ∅)
   let[g1,g2,g3,g4]:=hl.1;let[z1,z2]:=il.mp g3;let pO:@D<=@rs:=F9 cs.pl;let Vq:(S.q+ 1)* @D<=i* @rs:=aqX h pO;rw[<-eL]at cs;rwa[12,x,q.dx,12,cs.c.ins,fY ⋯,12,t,11122,bG.of ht,212,t,11122,bG.of ht,2,x,r,q,S,a,R,B,rs,f,D,bs,gs,W,O,c,z,2,cs,33,g1,lQ g2,g4,[eL]▸g3,il.mpr {33},3333,λS2 a2 R2 bs2 gs2 W2 O2 B2 H8 f8 cs8 ow8 tr8 em8 el8 hb8=>?_]
   let fl8:Ax A I H8 x r L i rs f S2:=by
    rw[eL]at cs8 tr8;rwa[λb u e=>f8 b u (λw=>by cbv) (λw=>by cbv) (F.k b u e),{q,a2,R2,B2,D,bs2,gs2,W2,O2,cs8,λb w=>?_,3},.next F.f h hl tr8 (cs8.abA ∅),3,el8.ν eL];rcases ow8 b w with v|v|v
    .rwa[n0 b (.Α v)]
    .rwa[n0 b (.Ç v)]
    .cases e:I b with
     |ε=>rfl
     |ι u=>rw[F.k b u e]at v;ext v
   rwa[look fl8 Ų Ų λv H9 fl9 an=>{i+ 1 - S2.q,3,S2,v,22,fl9,an}]
  rintro σ H7 ⟨S,Ų,F,hn⟩;let[Ry,y]:=F.f.ys VG;let[q,a,R,B,D,bs,gs,W,O,cs,n0,hB]:=F.cs;let hm:=F.m;let eL:=F.l;let rb:=cs.rm.rb;let g:=y.g;rwa[12,r,S,a,λc=>c<S.q/\S.az c=c,2,cs.rm.at_,333,g.wf.w,{y.m,by have:=(g.el 0 y.m).1;ext},λc hc=>{hc.1,λk hk=>?_},λtb N H8 s8 nt h8 hN=>?_]
  .cases e:S.by c EM with
   |ι d=>let[_,d2,_,d4]:=g.st γ e;rwa[d,2,d2,d4]
   |ε=>rw[eL]at hk;rwa[Ρ {hc.1,5,aoi (rN hk),e} (hn c _)];rw[pN ([g.wf.e]▸hc.1),hc.2]
  rwa[12,r,a.dx,12,(cs.rm.at_.Μ s8).ins,Zw ⋯,r,S,a,2,cs.rm.at_.Μ s8,3,λp d hd e=>(y.d d hd).low e,λpp qs H9 s9 np hp9 E3=>?_];rwa[Za4 2,λt nt=>?_];let sA:=ao.ψ (o:=.Ò [?tb,?pp]) nt;rwa[kq t tb pp S N _ (λb u e=>sA^(s9^(s8^(F.k b u (s1^e))))) F.f hn aj ((h8.Μ s9).Μ sA) hN {qs,sA^hp9,E3.Ŋ (λp d _ _ e=>e.Μ sA),3}]
def gw (g:η->η->η)(w:Zg)(p:η):η:=w.ă (λp s=>g O0 p) p
def Gd (g:η->η->η)(w u:Zg)(i:η):gw g (w++u) i=gw g u (gw g w i):=aqk ..
structure Mv (rs ps:Za3)(L:η)(D:η->ο)(g:η->η->η)(x:η):ο where
 o:D x
 d:∀p k,D p->k<2* L->D (g k p)
 b:∀p k,D p->k<2* L->g (M11.flip k) (g k p)=p
 r:∀w∈rs,∀p,D p->gw g w p=p
 p:∀w∈ps,gw g w x=x
def vZ (h:z≠0):M12.st ϥ=z:=by
 unfold M11.pl M12.st;split
 .rw[aoO ∅];ext
 .rw[aoK ∅];ext
def qz {v:Zg}(b:M11.aS n l)(a:M11.aS n v):M11.aS n (l++v):=λs c=>(aov.mp c).Ü (b s) (a s)
section
variable {rs ps:Za3}{L lim x:Nat}{S:RS}{D:Nat->Prop}{g:Nat->Nat->Nat}
def oF (h:z∈bJ (2* L)):M11.pl z<2* L/\M11.pl (-z)=M11.flip ϥ/\-z∈bJ (2* L):=by let[a,b]:=il.mp h;rwa[M11.jd {a,b},M11.vR a,il.mpr {33}]
theorem Mv.inj (m:JO):∀(w:Zg){p q:η},(∀z∈w,z∈bJ (2* L))->D p->D q->gw g w p=gw g w q->p=q
 |[],_,_,_,_,_,e=>e
 |z::w,p,q,h,a,b,e=>by let hz:=(oF (h z aou)).1;have:=m.inj w (λy c=>h y (JE c)) (m.d p _ a hz) (m.d q _ b hz) e;rw[<-m.b p _ a hz,Δ,m.b q _ b hz]
theorem Mv.uw (m:JO):∀{w:Zg}{p q:η},UW (λp z q=>D p/\z∈bJ (2* L)/\q=g ϥ p) p w q->q=gw g w p/\(D p->D q)/\(D q->D p)
 |[],p,q,h=>by rw[show p=q from h];rwa[2,id,id]
 |z::w,p,q,⟨r,⟨c,d,f⟩,e⟩=>by let[a,b,_]:=m.uw e;rw[f]at a b;rwa[a,λ_=>b (m.d p _ c (oF d).1),λ_=>c]
def Mv.md (m:JO)(E:∀u∈rs++ps,∀z∈u,z∈bJ (2* L)/\-z∈bJ (2* L))(i:η->η)(M:η)(v:i 0=x)(A:∀c,c<M->D (i c)):Mdl (rs++ps) @rs M i λp z q=>D p/\z∈bJ (2* L)/\q=g ϥ p:=by
 rwa[λp z q ⟨f,k,l⟩=>?_,λp z q J ζ ξ=>by let[_,_,h]:=ζ;let[_,_,B]:=ξ;rwa[h.ν B.Τ],λwhich Ω Θ n c d z f k l r C G=>?_]
 .let[a,b,c]:=oF k;rw[l];rwa[m.d p _ f a,c,by rw[b,m.b p _ f a]]
 let ps:=A Θ l
 let e:gw g Ω (i Θ)=i Θ:=by
  cases j:which<@rs
  .rw[aoq j]at f;rwa[m.r Ω (aoi f) _ ps]
  .rw[aoz ∅]at f;rw[k.resolve_left j,v];rwa[m.p Ω (aoi f)]
 let s:=E _ (aoi f);let[H,I,_]:=m.uw C;let[t,_,w]:=m.uw G;let hz:=(s z (aoi r)).1;let o:=I ps;rwa[o,hz,m.inj (Ω.ā (n+ 1)) (λy F=>(s y (θ.mem_of_mem_drop F)).1) (w ps) (m.d β o (oF hz).1) ?_];let q:gw g (Ω.Χ n++(z::Ω.ā (n+ 1))) (i Θ)=i Θ:=by rw[<-ř r,ap4];rwa[e]
 rw[Gd,<-H]at q;rwa[t.Τ.ν q.Τ]
def Fl.mv (m:JO)(l:∀u∈rs++ps,∀z∈u,z∈bJ (2* L)/\-z∈bJ (2* L))(h:Fl rs ps L lim S):∃ f:η->η,f 0=x/\∀c z d,S.by c z=ι d->D (f c)/\z∈bJ (2* L)/\f d=g ϥ (f c):=by
 suffices ∃(f:η->η)(R:Za2),f 0=x/\(∀c,c<S.q->D (f c))/\0<S.q/\Ø S [] R/\fU S/\(∀a z b,ZI b->z∈bJ (2* L))/\∀a z b,ZI b->D (f a)/\z∈bJ (2* L)/\f b=g ϥ (f a) by let[f,R,s,v,_,j,_,_,u]:=Δ;rwa[f,s,λc z d q=>EJ (U:=λp z q=>D p/\z∈bJ (2* L)/\q=g ϥ p) j (m.md l f _ s v).fn u q]
 induction h with
 |Θ t _=>
  let[R,g,w,e,_,_,k,u]:=t.sound (R:=λ_ _ _=>Ð) (m.md l (λ_=>x) 1 Ų λ_ _=>m.o) l (sr L _) YS.new.w Ź (λ_ _ _ q=>q.Ü) λ_ _ _ q=>q.Ü
  let e:_=1:=e;rwa[λ_=>x,R,2,λ_ _=>m.o,3,g,w,k,u]
 | @next i W c z _ _ gp t _ V=>
   let[f,R,s,v,T,j,w,k,u]:=V;let[A,H,B,O]:=gp.1;let[z1,z2,Q]:=oF B;let C:=v c A;let Y:=m.d β C z1;let e:∀a,a<i.q->(if a=i.q then g ϥ (f c) else f a)=f a:=λa F=>aoK ∅
   let o:∀a,a<i.q+ 1->D (if a=i.q then g ϥ (f c) else f a):=λa F=>by
    split
    .rwa[Y]
    .rwa[v a ∅]
   let n:(if 0=i.q then g ϥ (f c) else f 0)=x:=by rw[e 0 T];rwa[s]
   let md:=m.md l (λa=>if a=i.q then g ϥ (f c) else f a) (i.q+ 1) n o;let I:D (f c)/\z∈bJ (2* L)/\g ϥ (f c)=g ϥ (f c):={C,B,2}
   let[P,J,G,E,_,_,M,N]:=t.sound (R:=gb R c z i.q) md l (j.Ę A (lQ H) O _) (uB w j.wf γ) Ź (λa y b r=>by
    rcases r with r|⟨_,e,_⟩|⟨_,e,_⟩
    .rwa[k γ r]
    .rw[e];rwa[B]
    .rw[e];rwa[Q]) λa y b r=>by
    rcases r with r|⟨rfl,Ų,rfl⟩|⟨rfl,Ų,rfl⟩
    .let[X,l2,_]:=j.rl γ r;simp only[e a X,e b l2];rwa[u γ r]
    .simp only[e _ A,arV];rwa[C,B,þ.intro]
    .simp only[e _ A,arV];rwa[md.sy γ I]
   let E:W.q=i.q+ 1:=E;rwa[_,P,n,λa F=>o a ∅,3,J,G,M,N]
end
def Fl.cl {rs:Za3}(h:ES):A5 rs W S:=by cases h <;> ext
structure FT (rs ps:Za3)(L N:η)(T:Za3):ο where
 t:M11.Tab L T
 f:M12.Fc (2* L) T.Ì @T
 n:@T=N
 s:∀w∈rs++ps,AT w
 r:∀w∈rs,∀i,i<N->M11.Þ T w i=i
 p:∀w∈ps,M11.Þ T w 0=0
 c:∀i,i<N->∃u,AT u/\M11.Þ T u 0=i
 u:∀D g x,Mv rs ps L D g x->∃ φ:η->η,φ 0=x/\∀i,i<N->D (φ i)/\∀k,k<2* L->φ (M11.nx T k i)=g k (φ i)
def Fl.ft {rs:Za3}(h:ES)(C:∀u∈rs++W,∀z∈u,z∈bJ (2* n)/\-z∈bJ (2* n))(hn:∀c z,¬e8 S n c z)(F:S.q<=300)(Q:1<=n)(X:n<=40)(hN:@(Ŷ (2* n) 0 i)=i):
 i<=S.q/\FT rs W n i (DO (2* n) (Ŷ (2* n) 0 i)):=by
 let[R,y]:=h.ys C;let g:=y.g
 let st:∀c k,c<S.q/\S.az c=c->k<2* n->∃d,S.by c EM=ι d/\bQ S k c=d/\d<S.q/\S.az d=d:=λc k hc B=>by
  cases e:S.by c EM with
  |ι d=>let[_,d2,_,d4]:=g.st γ e;rwa[d,2,by unfold bQ;rw[e];rfl,d2,d4]
  |ε=>exact Ρ {hc.1,by rw[pN ([g.wf.e]▸hc.1),hc.2],aoi (rN B),e} (hn c _)
 let Y:0<S.q/\S.az 0=0:={y.m,by have:=(g.el 0 y.m).1;ext}
 let fw:∀(u:Zg){c:η},ϳ u->c<S.q/\S.az c=c->∃d,wk S.by c u=ι d/\d<S.q/\S.az d=d:=λu=>by
  induction u with
  |nil=>exact λ_ hc=>{12,hc}
  |È s u V=>intro c E hc;let v:=E s aou;let[d,A,_,hd]:=st c _ hc (M11.jd v);rw[vZ v.1]at A;rw[iW A];rwa[V (λt J=>E t (JE J)) hd]
 let all:=M24.rj (f:=bQ S) (k:=2* n) (x0:=0) (P:=λc=>(c<S.q/\S.az c=c)/\∃u,ϳ u/\wk S.by 0 u=ι c) ⟨Y,[],λ_ z=>(by ext z),2⟩ (λc k ζ B=>by
  let[hc,u,v,N]:=ζ
  let[d,A,e,h3]:=st c k hc B;rw[e];rwa[h3,u++[M12.st k],qz v (λs E=>[aok.mp E]▸M12.qc B),[oY N]▸ND A]) i
 let O:i<=S.q:=by rw[<-hN];rwa[M11.eG S.q _ (xw i) λc hc=>(all c hc).1.1]
 let M:(Ŷ (2* n) 0 i)[0]?\0:=by let[t,J]:=M24.IL (bQ S) (2* n) 0 0 i;rw[arK]at J;rw[J];rfl
 let U:1<=i:=by have:=(aoh.mp M).1;ext
 let at_:∀o,o<i->∃c,(Ŷ (2* n) 0 i)[o]?\c/\(c<S.q/\S.az c=c)/\∃u,ϳ u/\wk S.by 0 u=ι c:=λo I=>{_,aoe ∅,all _ (aqU _)}
 let tb:=M55.aaH hN (λc hc j hj=>by let[d,A,H,N]:=st c j (all c hc).1 hj;let q:=g.sy γ A;rw[H];unfold bQ;rw[show M12.st (M11.flip j)= -M12.st j by unfold M11.flip M12.st;split <;> split <;> ext,q];rfl) Q X U ∅
 let wt:∀{u:Zg}{o c d:η},ϳ u->(Ŷ (2* n) 0 i)[o]?\c->wk S.by c u=ι d->(Ŷ (2* n) 0 i)[M11.Þ (DO (2* n) (Ŷ (2* n) 0 i)) u o]?\d:=λ{u}=>by
  induction u with
  |nil=>exact λ_ hc e=>by rw[<-Za0 e];rwa[hc]
  |È s u V=>intro o c d E hc e;let[f,A,H]:=iQ e;let v:=E s aou;let q:=M55.sI hN (M11.jd v) hc;rw[show bQ S O0 c=f by unfold bQ;rw[vZ v.1,A];rfl]at q;rwa[V (λt J=>E t (JE J)) q H]
 let inj:∀{o j c:η},(Ŷ (2* n) 0 i)[o]?\c->(Ŷ (2* n) 0 i)[j]?\c->o=j:=λ{o j c} a b=>(aro (aoh.mp a).1 (xw i)).mp (a.ν b.Τ)
 let p:∀w∈rs++W,ϳ w:=λw h z hz=>il.mp (C w h z hz).1
 let rd:∀{w:Zg}{c:η},w∈rs++W->c<S.q/\S.az c=c->NP S c w->wk S.by c w=ι c:=λ{w c} F hc h=>by
  rcases h with h|⟨o,j,f,r,y,z',_,I,_,w1,n1,_⟩
  .rwa[h]
  .let[d,e,hd]:=fw (w.Χ o) (λs E=>p w F s (aru E)) hc;rw[w1]at e;rw[<-Za0 e]at hd;let Z:=p w F y (aoi I);let[_,H,_]:=st f _ hd (M11.jd Z);rw[vZ Z.1,n1]at H;ext H
 rwa[O,tb,M55.fc hN,by unfold M24.fK;rw[aog,hN],p,λw C o I=>?_,λw C=>?_,λo I=>?_,λD g x l=>?_]
 .let[c,hc,L,_]:=at_ o I;let F:=aoF W C;rwa[inj (wt (p w F) hc (rd F L (h.cl.r w C c L.1 L.2))) hc]
 .let F:=aow rs C;rwa[inj (wt (p w F) M (rd F Y (h.cl.p w C))) M]
 .let[c,hc,_,u,v,N]:=at_ o I;rwa[u,v,inj (wt v M N) hc]
 .let[G,p0,ph]:=h.mv l C;let T:∀{o c:η},(Ŷ (2* n) 0 i)[o]?\c->(Ŷ (2* n) 0 i).á o 0=c:=λ{o c} h=>by rw[aom,h];rfl
  rwa[λo=>G ((Ŷ (2* n) 0 i).á o 0),(apW G (T M)).ν p0,λo I=>?_];let[c,hc,L,_]:=at_ o I
  let main:∀k,k<2* n->D (G c)/\G ((Ŷ (2* n) 0 i).á (M11.nx (DO (2* n) (Ŷ (2* n) 0 i)) k o) 0)=g k (G c):=λk B=>by let[d,A,H,_]:=st c k L B;let[a,_,b]:=ph γ A;rw[M12.qb]at b;rw[T (M55.sI hN B hc),H];rwa[a,b]
  show D (G _)/\∀k,k<2* n->G _=g k (G _);rw[T hc];rwa[(main 0 ∅).1,λk B=>(main k B).2]
def Fl.mL {rs:Za3}(h:ES)(b:∀u∈rs++W,∀z∈u,z∈bJ (2* n)/\-z∈bJ (2* n))(o:1<=m):S.q<=m/\S.L=n:=by
 rwa[5,by let[R,y]:=h.ys b;rwa[y.l]]
 cases h with
 |Θ t _=>let[_,_,a,_]:=YS.new.tr t b;let a:S.q=1:=a;ext
 | @next e _ c z f k l t _=>let[R,y]:=f.ys b;let[j,g,d,i]:=l.1;let[_,_,a,_]:=(y.Ę j (lQ g) i d (oF d).2.2).tr t b;let a:S.q=e.q+ 1:=a;ext
def _root_.Lake.L2.Ø.Tz (g:Ø S [] R){a b:η}{z:π}(r:R a z b):S.by (S.az a) z=ι (S.az b):=g.ux.mpr {a,b,r,22}
def _root_.Lake.L2.Œ.r (l:Œ S T)(g:Ø S [] R){a b:η}{z:π}(r:R a z b):T.by (T.az a) z=ι (T.az b):=by let h:=l.by_ γ (g.Tz r);let[d,c,_]:=g.rl γ r;rw[l.el a d,l.el b c]at h;rwa[h]
theorem Ge {rs:Za3}{F:RS}{R1:Za2}(t:Tr (rs++W) @rs S T)(n:∀w∈rs++W,∀z∈w,z∈l/\-z∈l)(g:Ø S [] R1)(w:fU S)(k:∀a z b,R1 a z b->z∈l)(o:Ø F [] R)(j:A5 rs W F)(m:0<F.q)(r:S.q<=F.q)(h:∀a z b,R1 a z b->F.by (F.az a) z=ι (F.az b)):Œ T F:=by
 let md:=aah o j m (λ_ h=>h) λ_ h=>h
 let[f,i,_,v,_,_,_,u]:=t.sound md n g w r k h;rwa[λc s=>?_,λc z d e=>EJ i md.fn u e];rwa[(EI (U:=λp z q=>F.by p z=ι q) md.fn u (i.cg c s)).Τ]
def Pu (e:∀m z,e8 S n m z↔e8 T n m z)(h:Je S n m z)(c:Je T n i y):m=i/\z=y:=by
 let a:=h.2 i y ((e β).mpr c.1);let b:=c.2 m z ((e β).mp h.1);let d:m=i:=∅
 erw[d];let q:M11.pl z=M11.pl y:=η.le_antisymm (a.2 d.Τ) (b.2 d);rw[<-vZ (il.mp h.1.2.2.1).1,q,vZ (il.mp c.1.2.2.1).1]
def Gf {i:Za2}(g:Ø S [] R)(f:Ø T [] i)(em:S.q=T.q)(l:Œ S T)(j:Œ T S):(∀c,c<S.q->S.az c=T.az c)/\∀c z,S.by c z=T.by c z:=by
 let half:∀{S T:RS}{R i:Za2},Ø S [] R->Ø T [] i->S.q=T.q->Œ S T->∀c,c<S.q->T.az c<=S.az c:=λ{S T R i} g f e l c h=>by rw[<-l.el c h];rwa[(f.el _ (by rw[<-e];rwa[g.lt h])).1]
 let a:∀c,c<S.q->S.az c=T.az c:=λc h=>η.le_antisymm (half f g em.Τ j c ∅) (half g f em l c h)
 let b:∀{S T:RS}{R:Za2},Ø S [] R->Œ S T->(∀c,c<S.q->S.az c=T.az c)->∀c z d,S.by c z=ι d->T.by c z=ι d:=λ{S T R} g l a c z d e=>by let[o,m,p,k]:=g.st γ e;have:=l.by_ γ e;rw[<-a c o,<-a d m,p,k]at Δ;rwa[Δ]
 rwa[a,λc z=>?_]
 cases e:S.by c z with
 |ι d=>exact(b g l a c z d e).Τ
 |ε=>
  cases n:T.by c z with
  |ε=>rfl
  |ι d=>rw[b f j (λc h=>(a c ∅).Τ) c z d n]at e;ext e
def Pw {k:Za2}(g:Ø S [] R)(f:Ø T [] k)(em:S.q=T.q)(h:(∀c,c<S.q->S.az c=T.az c)/\∀c z,S.by c z=T.by c z)(c:η)(z:π):e8 S n c z↔e8 T n c z:=by
 let d:∀{S T:RS},S.Wf->T.Wf->S.q=T.q->(∀c,c<S.q->S.az c=T.az c)->(∀c z,S.by c z=T.by c z)->e8 S n c z->e8 T n c z:=λ{S T} w i e a b ζ=>by let[m,j,o,l]:=ζ;rwa[3,by rw[pN (by rw[i.e];omega),<-a c m,lQ j],o,by rw[<-b];rwa[l]]
 rwa[d g.wf f.wf em h.1 h.2,d f.wf g.wf em.Τ (λc p=>(h.1 c ∅).Τ) λc z=>(h.2 c z).Τ]
theorem Fl.later {rs:Za3}(g:∀u∈rs++W,∀z∈u,z∈bJ (2* n)/\-z∈bJ (2* n)):∀(d:η){x l:η}{S F:RS},Fl rs W n x S->Fl rs W n l F->S.q=d->F.q=d->Œ S F:=by
 intro d
 induction d with
 |Ŀ=>intro _ _ S F h _ e _;let[R,y]:=h.ys g;have:=y.m;ext
 |ŧ d N=>
  intro _ _ S F h E e eF;let[RF,p]:=E.ys g;let I:=E.cl
  cases h with
  |Θ t _=>exact Ge (R1:=λ_ _ _=>Ð) t g (sr n _) YS.new.w (λ_ _ _ q=>q.Ü) p.g I p.m p.m λ_ _ _ q=>q.Ü
  | @next A _ c z f0 _ L t _=>
    let[R0,j]:=f0.ys g;let[V,Q,P,U]:=L.1;let v:=j.Ę V (lQ Q) U P (oF P).2.2;let[_,_,m,_]:=v.tr t g;let m:S.q=A.q+ 1:=m
    cases E with
    |Θ B _=>let[_,_,o,_]:=YS.new.tr B g;let o:F.q=1:=o;have:=j.m;ext
    | @next J _ Y Z i _ k B _=>
      let[T,f]:=i.ys g;let[D,H,s,C]:=k.1;let[R2,w,o,sub,_]:=(f.Ę D (lQ H) C s (oF s).2.2).tr B g;let o:F.q=J.q+ 1:=o;let O:=N f0 i ∅ ∅;let l2:=N i f0 ∅ ∅;let[Ų,Ų]:=Pu (Pw j.g f.g ∅ (Gf j.g f.g ∅ O l2)) L k;let G:=Œ.of f.g w.g (λa z b r=>sub γ (kf a z b r)) ∅;rwa[Ge t g v.g v.w v.k p.g I p.m (by show A.q+ 1<=_;omega) ?_];let M:A.q=J.q:=∅
      rintro a y b (r|⟨rfl,Ų,rfl⟩|⟨rfl,Ų,rfl⟩)
      .let[h1,X,_]:=j.g.rl γ r;have:=G.by_ γ (O.r j.g r);rw[G.el a ∅,G.el b ∅]at Δ;rwa[Δ]
      .rw[M];rwa[w.g.Tz (sub γ mq)]
      .rw[M];rwa[w.g.sy γ (w.g.Tz (sub γ mq))]
def Fl.one {rs:Za3}(a:∀u∈rs++W,∀z∈u,z∈bJ (2* n)/\-z∈bJ (2* n))(h:ES)(b:Fl rs W n i T)(em:S.q=T.q):(∀c z,e8 S n c z↔e8 T n c z)/\∀c z,S.by c z=T.by c z:=by let[R,y]:=h.ys a;let[f,d]:=b.ys a;let e:=Gf y.g d.g em (Fl.later a _ h b Ų em.Τ) (Fl.later a _ b h Ų em);rwa[Pw y.g d.g em e,e.2]
def Fl.most {rs:Za3}(b:∀u∈rs++W,∀z∈u,z∈bJ (2* n)/\-z∈bJ (2* n))(h:ES)(o:∀c z,¬e8 S n c z)(j:Fl rs W n i T):T.q<=S.q:=by
 induction j with
 |Θ t _=>let[_,_,a,_]:=YS.new.tr t b;let[R,y]:=h.ys b;rw[a];rwa[y.m]
 | @next d T c z f0 _ e t _ s=>
   let[r,p]:=f0.ys b;let[l,g,f,k]:=e.1;let[_,_,a,_]:=(p.Ę l (lQ g) k f (oF f).2.2).tr t b;let a:T.q=d.q+ 1:=a;rcases arh d.q S.q with q|q
   .ext
   .rwa[Ρ (((h.one b f0 (by omega)).1 c z).mpr e.1) (o c z)]
inductive abC (K:Za1)(vs:Zb)(H:Hp)(Q:VK)(E_:XK):ο
 |mk (a:Zs)(ns:Zg)(k:η):vs=[?a,.υ k]->ay K H a AS->k<=1000->(∀z,Q (.υ z) H)->abC K vs H Q E_
def adz:Sp:=λa H Q _=>∃(z p:π),a=[.υ z,.υ p]/\0<=p/\p<=1000/\∀r:π,0<=r->Q (.υ r) H
def sX (T:ų):T.rH.Ok P w Β 1 (abC K):=by
 rwa[T.rH.on LR (λi m c s H l Q E o h=>?_)]
 .let[a,b,n,Ų,e,p,k]:=h
  erw[_,{{bL (a9 ot (pv 1) (0<<<0) (bq _))
   {{aZ (0|||1)}}
   bf,aZ (Z2 (NN ak (pv 1)) ak)}}]
  erw[1212,a,12,.Α e,112212];rwa[cQ (λh=>?_) (λh=>?_)]
  .let g:(n:π)<(@(aw b):π):=aoS h;rw[aF]at g;obtain⟨d,f⟩:∃j,b[n]?\j:={b[n],aoe ∅}
   rwa[1212,a,11122,e,bX (bR f),k _]
  .rwa[121122,.Α {44},1122,k _]
def jb (T:ų):T.jo.Ok P w Β 1 adz:=by
 rwa[T.jo.on i3 (λl t b s H q Q E x h=>?_) (len:=by rintro _ _ _ _ ⟨z,p,Ų,_⟩;rfl)]
 .let[z,p,Ų,u,g,k]:=h
  erw[_,{{bL (a9 Ug (pv 0) (aJ Mr ak ak) (bq _))
   {{bp 0 i3.nd (Ix (aJ Ec (pv 0) (aJ Mr ak ak)) ak),ž (WF #[FM (pv 1) ak]) (cU 2 i3.nd)
    {{bp 0 i3.nd (aJ Ec (pv 0) ak)}},aZ (FM (pv 0) ak)}}
   bf,ZV i3.nd (FM (NN (Z2 (Z2 (FM (pv 0) ak) (pv 1)) ak) (Z2 (NN (NN ak (pv 1)) (pv 1)) ak)) ak),ZV i3.nd (FM (NN (pv 3) (pv 3)) ak),aZ (FM (NN (pv 3) MU) ak)}}]
  erw[121122,{444},112212];rwa[cQ (λh=>?_) (λh=>?_)]
  .erw[121122,{444},1122,{4,ÿ.noPylong_of_log2 ⋯},1122];erw[1211224,(p % 61),233];rwa[du (lo:=0) (n:=(p % 61).Φ) (λi c d=>∃(y:π)(v:Zc),c=#v[.υ y,.υ p,v,ε]/\d=H) ⟨_,ε,22⟩ ?_ ?_]
   .rintro i c d B ⟨y,v,Ų,rfl⟩;erw[121122,{4,ÿ.noPylong_of_log2 ⋯}];rwa[1122]
   .rintro c d ⟨y,v,Ų,rfl⟩;rwa[1211223,k _ (ara _ ⋯)]
  .erw[12112241211221122121122,.Α {44},121122,.Ç {33},11221122,.Α {33},11223];change ((z % 2147483629+ p+ 1)* (8* p* p+ 48271))=a;let j:=ara a (show (2147483647:π)≠0 by decide);let m:=arP a (show (0:π)<2147483647 by decide);change a % 2147483647=f at j m ⊢;erw[12121122,.Α {33},11223];change f* f=e;let r:=ara e (show (2147483587:π)≠0 by decide);let o:=arP e (show (0:π)<2147483587 by decide);erw[121211221122,.Α {33},11224];rwa[k _ (ara _ ⋯)]
def Px {k:η}(h:k<2* n):M11.aS n [M12.st k]:=λs a=>[aok.mp a]▸M12.qc h
def CV (u:Zg):M11.back Zv=u:=by unfold M11.back;rw[<-θ.map_reverse,θ.reverse_reverse,ao4];rwa[(apM λz _=>aqh z).ν (θ.map_id' u)]
section
variable {rs:Za3}{L N M:Nat}{T F:Za3}
def FT.bk (f:NO){u:Zg}(d:M11.aS L u){i:η}(b:i<N):M11.Þ T Zv (M11.Þ T u i)=i/\M11.Þ T u (M11.Þ T Zv i)=i:=by rw[<-f.n]at b;let c:=M11.mY f.t d b;let a:=M11.mY f.t (M11.jG d) b;rw[M11.dN]at c a;rw[CV]at a;rwa[c,a]
def FT.lt (f:NO){u:Zg}(b:M11.aS L u){i:η}(a:i<N):M11.Þ T u i<N:=by rw[<-f.n]at a ⊢;rwa[M11.jF f.t b a]
def FT.pos (f:NO):0<N:=by have:=f.t.pos;rw[f.n]at Δ;rwa[Δ]
def FT.mv (f:FT rs W L M F)(c:Za3){x:η}(g:x<M)(e:∀w∈c,M11.Þ F w x=x):Mv rs c L (λi=>i<M) (M11.nx F) x:=by rwa[g,λp k a b=>?_,λp k a b=>f.t.back p k ([f.n]▸a) b,λw d p a=>f.r w d p a,e];have:=f.t.lt p k ([f.n]▸a) b;rw[f.n]at Δ;ext
def FT.go (f:NO){D:η->ο}{g:η->η->η}{x:η}(m:Mv rs W L D g x):∃ a:η->η,a 0=x/\∀u i,AT u->i<N->a (M11.Þ T u i)=gw g u (a i):=by
 let[a,k,h]:=f.u D g x m;rwa[a,k,λu=>?_]
 induction u with
 |nil=>exact λi _ _=>rfl
 |È s u e=>
  intro i c d;let j:M11.aS L [s]:=λt b=>c t ([aok.mp b]▸aou)
  show a (M11.Þ T u (zn i))=gw g u (g O0 (a i));rw[e (zn i) (λt b=>c t (JE b)) (f.lt j d),(h i d).2 _ (M11.jd (c s aou))]
end
def gy {T:Za3}(h:Ċ H a T)(g:ZC)(d:i<@T):∃(rs:Zn)(r:Zs)(row:Zg),H a\.Ν (rs.Κ V.É)/\rs[i]?\r/\H r\.Ν (aw row)/\@row=2* n/\∀k,k<2* n->row[k]?\((M11.nx T k i:η):π):=by
 let[rs,m,f]:=h;let c:i<@rs:=by rw[f.1];rwa[d]
 let j:rs[i]?=ι rs[i]:=aoe c
 let b:T[i]?=ι T[i]:=aoe d
 rwa[rs,11,m,j,f.2 i β j b,g.row i _ b,λk l=>?_];let[r,e,o]:=g.val i k d l;rw[b]at e;rw[Za0 e];rwa[o]
def CW {w:Zg}(h:w[n]?\z):M11.Þ W (w.Χ (n+ 1)) i=M11.nx W ϥ (M11.Þ W fg i):=by rw[ao2,h];rwa[M11.dN W fg [z] i]
def Ay {w:Zg}(a:η)(h:l6):M11.aS n (w.Χ a):=λs b=>h s (aru b)
def Py (s:XL)(h:I a=ε):H a=ε:=by
 cases q:H a with
 |ε=>rfl
 |ι o=>rw[s^q]at h;ext h
def wd (u:Zh):Zg:=u.Κ M12.st
structure LW (L:η)(T:Za3)(ws:Ϣ):ο where
 lw:M12.Lw L T ws
 ok:∀(i:η)(u:Zh),ws[i]?\u->(∀k∈u,k<2* L)/\M11.Þ T (wd u) 0=i/\@u<=300
inductive Jj (vs:Zb)(H:Hp)(Q:VK)(E_:XK):ο
 |mk (a:Zs)(T:Za3)(L:η):vs=[?a]->Ċ H a T->M11.Tab L T->M12.Fc (2* L) T.Ì @T->(∀l ws H',Q1 H'->H l=ε->bM H' l IP->LW L T ws->Q ?l H')->Jj vs H Q E_
def rT (u:Zh):@(wd u)=@u:=by unfold wd;rw[aog]
def mG (h:∀k∈B,k<2* n):M11.aS n (wd B):=λs a=>by unfold wd at a;let[k,b,Ų]:=ao1.mp a;rwa[M12.qc (h k b)]
def Az (u v:Zh):wd (u++v)=wd u++wd v:=by unfold wd;cbv
def nV (a:θ (Key×V))(b:Zn):ο:=@a<=@b/\∀i:η,IF (Sum.Α (i:π))=(b[i]?).Κ V.É
def nV.one (p:Zs):nV [(Sum.Α 0,?p)] [p]:=by
 rwa[aoo _,λi=>?_]
 cases i with
 |Ŀ=>exact cY rfl
 |ŧ i=>rw[cR (λz=>by injection z with z;omega)];rfl
def nV.put {a:θ (Key×V)}(h:nV a F)(p:Zs):nV (ú a (Sum.Α (@F:π)) ?p) (F++[p]):=by
 let b:bF a (Sum.Α (@F:π))=ε:=by rw[h.2,aoG Ź];rfl
 rwa[5,λi=>?_]
 .rw[lZ _ b,aoj,aoj];have:=h.1;simp only[aoA,aoV];ext
 .rw[fI];cases e:i=@F
  .subst e;rw[aoO Ų,aoz Ź,apU];rfl
  .rw[aoK (λz=>e (by injection z with z;omega)),h.2];cases c:i<@F
   .rw[aoq c]
   .rw[aoG (show @F<=i by omega),aoG (by rw[aoj];simp only[aoA,aoV];omega)]
def nV.ű {b:θ (Key×V)}(h:nV b F)(hd:H d\.dK b)(c:F[i]?\a):dF H d (.υ (i:π)) (ι ?a):=by have:=dF.k (k:=Sum.Α (i:π)) hd;rw[h.2 i,c]at Δ;rwa[Δ]
def yA (n:η):Zb:=(~~~n).Κ λi:η=>V.υ (i:π)
def pR (n:η):@(yA n)=n:=by unfold yA;cbv
def Jk (h:i<n):(yA n)[i]?\(V.υ (i:π)):=by unfold yA;rw[aon,apx h];rfl
def Hw {d:St}{c:TE}{Q:VK}(g:η->V)(j:n<=1000)(l:∀i:η,i<n->∀R:VK,R (g i) H->c (ι (.υ (i:π))::d) H R)(f:∀D,H D=ε->Q ?D (ψ H D (.Ν ((~~~n).Κ g)))):oQ c d Q (DQ 0 n) H:=by
 rwa[jj (yA n) (λv=>match v with|.υ z=>g z.Φ|v=>v) (λi a=>by rw[pR]at a;rwa[a]) (λi x o a y=>?_) ([pR]▸aoo _) ([pR]▸aot j ⋯) (λi x b R m=>?_) (λD h=>?_)]
 .rw[pR]at a;let[k,p]:=y;erw[k];rw[Jk a]
  cbv
 .let a:i<n:=by have:=(aoh.mp b).1;rw[pR]at Δ;rwa[Δ]
  rw[Jk a]at b;let ex:=Za0 b;subst ex;rwa[l i a R ?_];have:R (g ((i:π)).Φ) H:=m;rw[ao8]at Δ;rwa[Δ]
 .let e:((yA n).Κ λv=>match v with|.υ z=>g z.Φ|v=>v)=(~~~n).Κ g:=by unfold yA;rw[ao4];rfl
  rw[e];rwa[f D h]
def L0 (a:Zn):((θ.range @a).Κ λi=>V.É (a.á i 0))=a.Κ V.É:=by
 apply θ.ext_getElem
 .simp
 .intro i b c;simp[aom]at b ⊢;rw[aoe b];rfl
seal L2.PE L2.PS L2.hL L2.PA L2.PT
def nX (T:ų):T.lE.Ok P w Β 2 Jj:=by
 rwa[T.lE.on fz (λcf AA Ψ s H vs Q E hr h=>?_)]
 .let[a,j,L,Ų,CY,x,hF,k]:=h;let I:=iC hr
  erw[_,{{bp 1 fz.nd (sB hr #[aJ df ((0|||ak)<<<0) ak]),KB fz.nd (dL (by simp) ⋯),HH (oN Ų (dQ (cU 3 fz.nd) (dQ (Sa fz.nd) lV)))
    {{ž (YN Ų T.adq #[1,4] Ų Ų) (oN Ų (dQ (cU 5 fz.nd) (dQ (cU 6 fz.nd) lV)))
     {{bS (bL (qT (ky I (pv 6) (pv 2)))
      {{iU I (pv 2) (pv 6) (aJ xN (jz I (pv 2) (pv 3) (λ_ _=>rfl)) (bh #[5])) Ų}}
      bf)}}}},aZ (eK (fns:=[VU]) (ixs:=[2]) (cl:=_) Ų (WF #[0<<<0]) (b0 [(_,_)] Ų {22222,þ.intro} Ų) (λC s H ex=>(jz I (pv 1) (pv 0) (λ_ _=>rfl))))}}]
  let sY:=x.top;let VJ:=x.qD;let tW:=x.let1;let[VL,r0,Bs,g1,g2,g3,g4,g5]:=gy CY x x.pos;let eL:(@(aw Bs):π) / 2=(L:π):=by rw[aF,g4];ext
  erw[12,a,11,?r0,22,ay.of g1,bZ (i:=0) g2,r0,12,.Α (ay.of g3),1122,{44}];rwa[L,by rw[<-eL];rfl,tW,3,λsl H1 s1 VC=>?_];intro d hd;rwa[aoN _,λX B=>?_];erw[(ao.ψ B) β aj,[(Sum.Α 0,?X)],2,by show 1<=15;decide];let Pz:X≠d:=λz=>by rw[z,aj]at B;ext B
  let PB:H1 X=ε:=by rw[aq Pz]at B;rwa[B]
  generalize hH2:ψ (ψ (ψ H1 d (.dK [])) X (.Ò [])) d _=H2;let hd2:H2 d\(.dK [(Sum.Α 0,?X)]):=by rw[<-hH2,aj];rfl
  let tX:H2 X\(.Ò (aw (wd []))):=by rw[<-hH2,aq Pz,aj];rfl
  let s2:ao H1 H2:=λb o e=>by rw[<-hH2,aq Cs,aq (QA PB),aq Cs];rwa[e]
  let YL:cz H2 [X] ([[]].Κ wd):={2,λi p w h1 h2=>by rw[aok.mp (aoi h1),aok.mp (aoi h2)];rwa[tX]}
  let[rs,PD,S]:=CY.Μ s1;let æ:(@(rs.Κ V.É):π)=(@j:π):=by rw[aog,S.1]
  erw[12,a,2,{_,ay.of (s2^PD)}]
  refine yZ (xs:=rs.Κ V.É) (λi U H3=>∃(f:Zn)(ws:Ϣ)(c:θ (Key×V))(v3 v4 v5 Y:Zc),U=#v[?a,?sl,?d,v3,v4,v5,Y]/\ao H1 H3/\H3 d\.dK c/\nV c f/\cz H3 f IP/\M13.Ŗ L j ws (i* (2* L)))
   {[X],[[]],_,ε,ε,ε,ε,2,s2,hd2,nV.one X,YL,[η.zero_mul]▸M13.Ŗ.Θ x hF} (λi U H3 _ ζ=>by let[_,_,_,_,_,_,_,_,s,_]:=ζ;rwa[ay.of (s^PD)]) ?_ ?_
  .rintro i v U H3 p hi hp ⟨f,ws,c,v3,v4,v5,Y,Ų,s3,Av,hr3,W,t⟩;rw[aon]at hi
   let B9:i<@rs:=by
    cases e:rs[i]? with
    |ε=>rw[e]at hi;ext hi
    |ι r=>exact(aoh.mp e).1
   obtain⟨Z,q1⟩:∃y,rs[i]?\y:={rs[i],aoe B9}
   rw[q1]at hi;let ey:V.É Z=v:=Za0 hi;subst ey;change Z=rr at q1;let F:i<@j:=by rw[<-S.1];rwa[B9]
   obtain⟨jv,q2⟩:∃y,j[i]?\y:={j[i],aoe F}
   change jv=row at q2;let hrr:=S.2 i rr row q1 q2;let pM:=x.row i row q2;let s34:=ao.ψ (o:=.Ò [.υ (i:π),?rr]) hp;erw[p,12,bG.of aj,21121122];let s4:=s3.ν s34;erw[1212,sl,rr,2,{_,ay.of (s4^VC)},{_,ay.of (s4^hrr)}]
   refine Ww (K:=K) (a:=sl) (b:=rr) (xs:=aw ((~~~(2* L)).Κ M12.st)) (ys:=aw row) (λn U H5=>∃(f:Zn)(ws:Ϣ)(c:θ (Key×V))(v5 Y:Zc),U=#v[?a,?sl,?d,.υ (i:π),?rr,v5,Y]/\ao H1 H5/\H5 d\.dK c/\nV c f/\cz H5 f IP/\M13.Ŗ L j ws (i* (2* L)+ n))
    (by rw[aF,aF,aog,aoU,pM]) {f,ws,c,v5,Y,2,s4,s34^Av,hr3,W.Μ s34,t} (λn U H5 _ ζ=>by let[_,_,_,_,_,_,s,_]:=ζ;rwa[ay.of (s^VC),ay.of (s^hrr)]) ?_ ?_
   .rintro n v u U H5 q hv G hq ⟨f,ws,c,v5,Y,Ų,s5,Jl,l,M,g⟩
    let O:n<2* L:=by have:=(aoh.mp hv).1;rw[aF,aog,aoU]at Δ;rwa[Δ]
    rw[show (aw ((~~~(2* L)).Κ M12.st))[n]?=ι (V.υ IT) from bR (rN O)]at hv;let ev:=Za0 hv;subst ev;let[r',e1,e2]:=x.val i n F O;let er:row=r':=Za0 (q2.Τ.ν e1);subst er;rw[bR e2]at G;let eu:=Za0 G;subst eu;let[PF,EX]:=M13.Ŗ.ı x hF g F O;let hle:=M13.Ŗ.le x hF g F O;let J:=ao.ψ (o:=.Ò [.υ IT,.υ ((M11.nx j n i:η):π)]) hq;erw[q,12,bG.of aj,21121122];change ψ H5 q _=H6 at J ⊢;let s6:=s5.ν J;let N:=J^Jl;let OQ:=M.Μ J;let j4:@f=@ws:=by have:=M.1;rw[aog]at Δ;rwa[Δ]
    rwa[15,λ_ _ h=>h];erw[1212,d,12,dF.k (k:=Sum.Α ((M11.nx j n i:η):π)) N,12];rw[l.2];cases PH:M11.nx j n i=@ws
    .rw[aoG (show @f<=M11.nx j n i by omega)];let hiw:=g.has x hF F rfl;obtain⟨vo,G⟩:∃y,ws[i]?\y:={ws[i],aoe hiw}
     change vo=u at G;obtain⟨Gh,m⟩:∃y,f[i]?\y:={f[i]'∅,aoe ∅}
     change Gh=pa at m;let Ao:=OQ.2 i pa (wd u) m (by rw[aon,G];rfl);let I0:=(g.ok i u G).2.2;let amG:=g.top;rwa[1212,d,12,l.ű N m,12,Za4 1,λq7 hq7=>?_];let AB:ao H6 (ψ H6 q7 (.Ò [.υ IT])):=ao.ψ hq7;let TB:ψ H6 q7 (.Ò [.υ IT]) q7\(.Ò (aw (wd [n]))):=aj;rwa[pa,q7,1122,AB^Ao,TB,5,λp3 H8 s78 h8=>?_]
     .rw[aF,aF,rT,rT];rwa[aot (show @u+ 1<=400 by omega) ⋯]
     rw[<-ï,<-Az]at h8;let s68:=AB.ν s78;let hd8:=s68^N;erw[1212,d,12,lz.k (k:=Sum.Α ((M11.nx j n i:η):π)) hd8 (aop (show @c<=300 by have:=l.1;omega) ⋯)]
     let kp:∀p xs,H8 p\.Ò xs->ψ H8 d (.dK (ú c (Sum.Α ((M11.nx j n i:η):π)) ?p3)) p\(.Ò xs):=λp xs e=>by rw[aq (IM hd8 (by cbv))];rwa[e]
     rwa[f++[p3],ws++[u++[n]],1112,λb o e=>?_,aj,55,EX PH u G]
     .rw[aq Cs];rwa[s68^s6^e]
     .have:=l.put p3;rw[j4,<-PH]at Δ;rwa[Δ]
     .rw[aoE];rwa[((OQ.Μ s68).ċ h8).Ï kp]
    .obtain⟨L1,hpx⟩:∃y,f[M11.nx j n i]?\y:={f[M11.nx j n i]'∅,aoe ∅}
     rw[hpx];rwa[dz {f,ws,c,112,s6,N,l,OQ,PF PH}]
   .rintro U H5 ⟨f,ws,c,v5,Y,Ų,s5,Jl,l,M,g⟩;rw[aF,aog,aoU]at g;rwa[f,ws,c,11112,s5,Jl,l,M,[aqL]▸g]
  .rintro U H3 ⟨f,ws,c,v3,v4,v5,Y,Ų,s3,Av,hr3,W,t⟩;rw[aog,S.1]at t;let PL:=M13.Ŗ.end_ x hF t;let j4:@f=@j:=by have:=W.1;rw[aog,PL.1]at Δ;rwa[Δ]
   erw[12,a,12,.Α (ay.of (s3^PD)),(@j:π),by rw[<-æ],33];rw[ao8];rwa[Hw (λi=>V.É (f.á i 0)) ∅ (λi hi R hR=>?_) (λD hD=>?_)]
   .obtain⟨abL,m⟩:∃y,f[i]?\y:={f[i]'∅,aoe ∅}
    rw[aom,m]at hR;rwa[1212,d,12,hr3.ű Av m,hR]
   .rw[<-j4,L0];rwa[k D ws _ ((s1.ν s3).ν (ao.ψ hD)) ((s1.ν s3).free hD) {f,aj,W.Μ (ao.ψ hD)} {PL,λi u G=>?_}];let[a1,a2,a3]:=t.ok i u G;let hi:=(aoh.mp G).1;have:=t.top;rwa[a1,a2,3]
unseal L2.PE L2.PS L2.hL L2.PA L2.PT
def nY (n:η):Zb:=(~~~n).Κ λi:η=>V.υ (i:π)
def yB (n:η):@(nY n)=n:=by unfold nY;cbv
def Jm (h:i<n):(nY n)[i]?\(V.υ (i:π)):=by unfold nY;rw[aon,apx h];rfl
def TC (p:η):(θ.Ê p [V.υ 0]).Ì=aw (θ.Ê p (0:π)):=by
 unfold aw;rw[θ.map_replicate]
 induction p with
 |Ŀ=>rfl
 |ŧ n a=>rw[aqp,aqC,a,aqp];rfl
def mH (h:cz H F W){w:Zs}{b:Zb}{o:HO}(a:H w\.Ν b):cz (ψ H w o) F W:=h.Ï λp c e=>by rw[aq (IM a (by cbv))];rwa[e]
def Xu:Sp:=λa H Q _=>∃s:π,a=[.υ s]/\s≠0/\s.Ä<=1000/\Q (.υ O0) H
def mQ (T:ų):T.mB.Ok P w Β 1 Xu:=by
 rwa[T.mB.on Ho (λc i b s H f Q E g h=>?_) (len:=by rintro _ _ _ _ ⟨s,Ų,_⟩;rfl)]
 .let[s,Ų,d,e,k]:=h
  erw[_,{{bL (a9 pX (pv 0) ak (bq _))
   {{aZ (Ix (NN ak (pv 0)) ak)}}
   bf,aZ (Ix (NN (Ev ak) (pv 0)) ak)}}]
  erw[12112212];rwa[cQ (λh=>?_) (λh=>?_)]
  .let a:(0:π)<s:=aoS h;erw[121122,.Α {44},1122];unfold M11.pl at k;rw[aoO a,show ((2* s.Ä - 2:η):π)=2* s - 2 by ext]at k;rwa[k]
  .let a:¬(0:π)<s:=λz=>h TD
   erw[12121122,.Α {44},1122];unfold M11.pl at k;rw[aoK a,show ((2* s.Ä - 1:η):π)= -2* s - 1 by ext]at k;rwa[k]
def CZ {Im:Za3}{w:Zg}(h:w[n]?\z):M18.fill Im (w.Χ (n+ 1))=M18.fill Im fg++M18.jZ Im z:=by unfold M18.fill;rw[ao2,h,ap0];simp
def ko (w:Zg)(n:η):(θ.Ê n (aw w)).Ì=aw ((θ.Ê n w).Ì):=by
 induction n with
 |Ŀ=>rfl
 |ŧ n a=>rw[aqp,aqC,a,aqp,aqC,ï]
def TF {w:Zg}(h:z∈(θ.Ê n w).Ì):z∈w:=by
 let[u,a,b]:=θ.mem_flatten.mp h
 cbv
def C0 (w:Zg)(n:η):(θ.Ê n w).Ì.ü=@w* n:=by
 induction n with
 |Ŀ=>rfl
 |ŧ n a=>cbv
def lS {T:Za3}{d a:Ϣ}(q:ZC)(s:M12.Fc (2* n) T.Ì @T)(h:M12.Lw n T d)(c:M12.Lw n T a):d=a:=by
 let z:=q.let1
 let f:∀j,j<@T->d[j]?=a[j]?:=by
  intro j
  induction j using η.strongRecOn with
  |_ j x=>
   intro g;cases o:j=0
   .subst o;rw[h.2.1,c.2.1]
   .let[p,y,l,k]:=s.2 j ∅ g;let[u,m,v]:=h.2.2 j p ∅ g l k;let[A,r,t]:=c.2.2 j p ∅ g l k
    let b:p / (2* n)<j:=by rw[η.div_lt_iff_lt_mul ∅];rwa[y]
    let e:=x _ b ∅;rw[m,r]at e;rw[v,t,Za0 e]
 rwa[apR λi=>?_]
 cases w:i<@T
 .rwa[f i w]
 .rw[aoG (by rw[h.1];omega),aoG (by rw[c.1];omega)]
open M11 in
def cj (T:Za3)(w:Zg):Zg:=(θ.range @T).Κ λi=>((M11.Þ T w i:η):π)
inductive C1 (vs:Zb)(H:Hp)(Q:VK)(E_:XK):ο
 |mk (a wa:Zs)(T:Za3)(L:η)(w:Zg):vs=[?a,?wa]->Ċ H a T->M11.Tab L T->H wa\.Ò (aw w)->M11.aS L w->(∀l H',Q1 H'->H l=ε->H' l\.Ν (aw (cj T w))->Q ?l H')->C1 vs H Q E_
def jw (T:Za3)(w:Zg):@(cj T w)=@T:=by unfold cj;rw[aog,aoU]
def mI {T:Za3}{w:Zg}(h:i<@T):(cj T w)[i]?\((M11.Þ T w i:η):π):=by unfold cj;rw[aon,apx h];rfl
def PN {ws:Zg}(h:ws[n]?\z):(cj W Rs).Κ (λa=>((M11.nx W ϥ a.Φ:η):π))=cj W (ws.Χ (n+ 1)):=by
 unfold cj;rw[ao4];rwa[apM λi _=>?_]
 show ((M11.nx W ϥ ((M11.Þ W Rs i:η):π).Φ:η):π)=_;rw[ao8,CW h]
def TK (a:Za3):cj a []=mR 0 @a:=by
 unfold cj mR;rwa[apM λi _=>?_]
 show ((i:η):π)=0+ (i:π);rw[arX]
def L3 (T:ų):T.Bl.Ok P w Β 2 C1:=by
 rwa[T.Bl.on lL (λcf AA N s H vs Q E hr h=>?_)]
 .let[a,wa,b,L,ws,Ų,p,q,o,g,k]:=h
  erw[_,{{KB lL.nd (C9 Ų Ų T.iR Ų T.dm #[0<<<0] Ų Ų),ž (kZ (pv 1)) (cU 3 lL.nd)
    {{wn lL.nd (LP hr #[3]),jY (iy:=2) lL.nd Ų EO (fns:=[We,"place"]) (ixs:=[0,4]) (cl:=_) Ų (ck (pv 2)) (b0 [(_,_),(_,_)] Ų {2222222222,þ.intro} Ų) (λC s H ex=>(aM (jk (K:=K) Ų) (aM (jk (K:=K) Ų) (pv 1) (pv 0) (λ_ _=>rfl)) (pv 2) (λ_ _=>rfl)))}},aZ (pv 2)}}]
  let[rs,J,B]:=id p;let f:=q.top;let M:=q.qD;let æ:(@(rs.Κ V.É):π)=(@b:π):=by rw[aog,B.1]
  rwa[12,a,12,.Α (ay.of J),@b,by rw[<-æ],3,λl hl=>?_];let Y:ao H (ZP (.Ν (aw (mR 0 @b)))):=ao.ψ hl;let F:ψ H l (.Ν (aw (mR 0 @b))) l\(.Ν (aw (cj b (ws.Χ 0)))):=by rw[aj,θ.take_zero,TK]
  erw[12,wa,2,{_,bG.of (Y^o)}];rwa[cF (xs:=aw ws) (λn t d=>∃(l:Zs)(G S:Zc),t=#v[?a,?wa,?l,G,S]/\ao H d/\H l=ε/\d l\.Ν (aw (cj b Rs))) ⟨l,ε,ε,2,Y,hl,F⟩ (λn t d _ ζ=>by let[_,_,_,_,s,_]:=ζ;rwa[bG.of (s^o)]) ?_ ?_]
  .rintro n y t d hn ⟨l,G,S,Ų,s2,m,c⟩;let[z,Ų,Z]:=bW hn;let U:=g z (aoi Z);let j:=p.Μ s2;erw[12,z,2,U.1,aot U.2 (aot M ⋯)];erw[12,l,2,{_,ay.of c}];rwa[jj (aw (cj b Rs)) (λv=>match v with|.υ I=>.υ ((zd I.Φ:η):π)|v=>v) (iP (ay.of c)) (gk (ay.of c)) (fm (ay.of c)) ([aF,jw]▸aot f ⋯) (λi x W R hR=>?_) (λD X=>?_)]
   .let hi:i<@b:=by have:=(aoh.mp W).1;rw[aF,jw]at Δ;rwa[Δ]
    rw[bR (mI hi)]at W;let ex:=Za0 W;subst ex;let u:=M11.jF q (Ay n g) hi;let[rs,r,row,h1,h2,h3,h4,h5]:=gy j q u
    let O:R (V.υ ((zd (M11.Þ b Rs i):η):π)) d:=by have:R (V.υ ((zd ((M11.Þ b Rs i:η):π).Φ:η):π)) d:=hR;rwa[Δ]
    rwa[1212,a,11122,ay.of h1,bZ h2,12,r,11122,ay.of h3,bX (bR (h5 _ (M11.jd U))),O]
   .let e:((aw (cj b Rs)).Κ λv=>match v with|.υ I=>V.υ ((zd I.Φ:η):π)|v=>v)=aw (cj b (ws.Χ (n+ 1))):=by rw[<-PN Z];unfold aw;rw[ao4,ao4];rfl
    rw[e];rwa[D,112,s2.ν (ao.ψ X),Py s2 X,aj]
  .rintro t d ⟨l,G,S,Ų,s2,m,c⟩;rw[aF,apc]at c;rwa[12,k l d s2 m c]
def e9 (T:Za3)(ws:Ϣ):Za3:=ws.Κ λu=>cj T (wd u)
def wy (ws:Ϣ)(r:η):Zg:=wd (ws.á r [])
def bC (a:Zh):Zg:=a.Κ λr=>((r:η):π)
inductive Jn (vs:Zb)(H:Hp)(Q:VK)(E_:XK):ο
 |mk (a:Zs)(T:Za3)(L:η):vs=[?a]->Ċ H a T->M11.Tab L T->M12.Fc (2* L) T.Ì @T->(∀l ws H',Q1 H'->LW L T ws->Ċ H' l xz->Q ?l H')->Jn vs H Q E_
def Xv {T:Za3}{c:Ϣ}(b:ZC)(o:M12.Fc (2* n) T.Ì @T)(hw:M12.Lw n T c){j:η}(d:0<j)(f:j<@T):∃(r k:η)(u:Zh),r<j/\k<2* n/\c[r]?\u/\c[j]?\(u++[k])/\M11.nx T k r=j:=by
 let w:=b.let1;let[q,v,g,i]:=o.2 j d f;let[u,h,t]:=hw.2.2 j q d f g i
 let s:q / (2* n)<j:=by rw[η.div_lt_iff_lt_mul ∅];rwa[v]
 let a:q % (2* n)<2* n:=η.mod_lt _ ∅;let[r,m,p]:=b.val (q / (2* n)) (q % (2* n)) ∅ a;let e:=M12.rh (W:=2* n) ∅ b.row m a;let l:q / (2* n)* (2* n)+ q % (2* n)=q:=by rw[aqJ];rwa[η.div_add_mod β]
 rw[l,g,p]at e;rwa[11,u,s,a,h,t,by have:=Za0 e;ext]
def PQ (T:Za3)(w:Zg)(s:π):(cj T w).Κ (λz=>((zn z.Φ:η):π))=cj T (w++[s]):=by
 unfold cj;rw[ao4];rwa[apM λi _=>?_]
 show ((zn ((M11.Þ T w i:η):π).Φ:η):π)=_;rw[ao8,M11.dN];rfl
def pU (T:ų):T.iF.Ok P w Β 3 Jn:=by
 rwa[T.iF.on cD (λcf AA Ψ s H vs Q E hr h=>?_)]
 .let[a,TT,L,Ų,X,m,hF,k]:=h
  erw[_,{{bp 1 cD.nd (sw hr #[0]),KB cD.nd (bH #[pc T.Bl (L3 T) hr #[0,bh ah]]),ž (IO #[ak,0<<<0]) (cU 3 cD.nd)
    {{wn cD.nd ((1|||3)&&&(Ev ak)),LE cD.nd (2|||((0|||3)|||(LP hr #[Ev (pv 4)]))),bp 6 cD.nd (LP hr #[4]),aX (RI #[eK (fns:=[We,"place"]) (ixs:=[0,6]) (cl:=_) Ų Cc (b0 [(_,_),(_,_)] Ų {2222222222,þ.intro} Ų) (λC s H ex=>(aM (jk (K:=K) Ų) (aM (jk (K:=K) Ų) (pv 1) (pv 0) (λ_ _=>rfl)) (pv 2) (λ_ _=>rfl)))])}},aZ (pv 2)}}]
  let S:=m.top;let VJ:=m.qD;rwa[12,a,TT,L,2,X,m,hF,λlw ws W s1 Vp hWa M=>?_];let I:=M.lw;let ny:@ws=@TT:=I.1;let d:=X.Μ s1;rwa[12,aoN _,λq0 PR=>?_];let s12:ao W (ψ W q0 (.Ò [])):=ao.ψ PR;let tX:ψ W q0 (.Ò []) q0\(.Ò (aw [])):=aj;rwa[a,q0,TT,L,[],2,d.Μ s12,m,tX,(λs hs=>by ext hs),λN H3 s23 nt0 ht3=>?_];rwa[Za4 1,λlt l=>?_];let G:ao H3 (ψ H3 lt (.Ν [?N])):=ao.ψ l;let h4:ψ H3 lt (.Ν [?N]) lt\(.Ν ([N].Κ V.É)):=aj;let nt:lt≠N:=λe=>by cbv
  let Z:=s12.ν s23;let nlt:W lt=ε:=Z.free l;change ψ H3 lt _=H4 at G h4 ⊢;let Y:=Z.ν G;let e0:ws[0]?\[]:=I.2.1
  let R4:bT H4 [N] ((e9 TT ws).Χ 1):=by
   let ef:(e9 TT ws).Χ 1=[zw (wd [])]:=by unfold e9;rw[ao2,aon,e0];rfl
   rw[ef];rwa[2,λi r ns g1 g2=>?_];rw[aok.mp (aoi g1),aok.mp (aoi g2)];rwa[G^ht3]
  let[VL,agy,U]:=id (d.Μ Y);let æ:(@(VL.Κ V.É):π)=(@TT:π):=by rw[aog,U.1]
  erw[12,a,12,.Α (ay.of agy),(1),(@TT:π),by rw[<-æ],{3333}]
  refine du (lo:=1) (n:=((@TT:π) - 1).Φ) (λi σ f=>∃(j:Zn)(v3 v4 v5 v6:Zc),σ=#v[?a,?lw,?lt,v3,v4,v5,v6]/\ao W f/\f lt\.Ν (j.Κ V.É)/\bT f j ((e9 TT ws).Χ (1+ i))/\lt∉j)
   {[N],ε,ε,ε,ε,2,Y,h4,R4,by simpa using nt} ?_ ?_
  .rintro i σ f hi ⟨j,v3,v4,v5,v6,Ų,g,F,O,hnt⟩;let hj:1+ i<@TT:=∅
   let[r,c,u,hrj,y,hu,hju,PH]:=Xv m hF I (show 0<1+ i by omega) hj;let q:=d.Μ g;let ej:(1:π)+ (i:π)=((1+ i:η):π):=∅
   let[J,FZ,hwt]:=hWa.Μ g;let amH:@J=@ws:=by have:=hwt.1;rw[aog]at Δ;rwa[Δ]
   obtain⟨fA,g1⟩:∃gx,J[1+ i]?\gx:={J[1+ i]'∅,aoe ∅}
   change fA=wp at g1;let hwp:=hwt.2 (1+ i) wp (wd (u++[c])) g1 (by rw[aon,hju];rfl);rw[Az,ï]at hwp;let hat:lh (aw (wd u)++aw (wd [c])) (-(1:π))\(V.υ (M12.st c)):=QZ β;let t:=M12.qc y;erw[1212,lw,11,?wp,22,ay.of FZ,(by rwa[bZ g1]),12,wp,11122,bG.of hwp,hat];let[rs,rp,row,t1,t2,t3,t4,t5]:=gy q m hj;let pO:=M11.IG y;let j4:M11.pl (-(M12.st c))=M11.flip c:=by rw[M11.vR t.1,M12.qb]
   let hbk:M11.nx TT (M11.flip c) (1+ i)=r:=by have:=m.back r c ∅ y;rw[PH]at Δ;rwa[Δ]
   let Nh:(e9 TT ws)[r]?\BA:=by unfold e9;rw[aon,hu];rfl
   let htl:@j=1+ i:=by have:=O.1;rw[aoX]at Δ;unfold e9 at Δ;rw[aog]at Δ;ext
   obtain⟨jv,g3⟩:∃gx,j[r]?\gx:={j[r]'∅,aoe ∅}
   change jv=ap at g3;let p:=O.2 r ap BA g3 ([θ.getElem?_take,aoO ∅]▸Nh);erw[121212,a,11,?rp,22,ay.of t1,(by rwa[bZ t2]),1212,-(M12.st c),233];rw[j4];erw[rp,11122,ay.of t3,bX (bR (t5 _ pO))];rw[hbk];erw[lt,11,?ap,22,ay.of F,bZ g3];erw[12,M12.st c,2,t.1,3];erw[12,.Α {21,ay.of F},12,ap,2,{_,ay.of p}];let hus:M11.aS L (wd u):=mG (M.ok r u hu).1;rwa[jj (aw BA) (λv=>match v with|.υ z'=>.υ ((UP z'.Φ:η):π)|v=>v) (iP (ay.of p)) (gk (ay.of p)) (fm (ay.of p)) ([aF,jw]▸aot S ⋯) (λi' x hx R hR=>?_) (λD hD=>?_)]
   .let hi:i'<@TT:=by have:=(aoh.mp hx).1;rw[aF,jw]at Δ;rwa[Δ]
    rw[bR (mI hi)]at hx;let ex:=Za0 hx;subst ex;let l:=M11.jF m hus hi;let[rs,r,row,h1,h2,h3,h4,F]:=gy q m l
    let hR':R (V.υ ((UP (M11.Þ TT (wd u) i'):η):π)) f:=by have:R (V.υ ((UP ((M11.Þ TT (wd u) i':η):π).Φ:η):π)) f:=hR;rwa[Δ]
    rwa[1212,a,11122,ay.of h1,bZ h2,12,r,11122,ay.of h3,bX (bR (F _ (M11.jd t))),hR']
   let e:((aw BA).Κ λv=>match v with|.υ z'=>V.υ ((UP z'.Φ:η):π)|v=>v)=aw (zw (wd (u++[c]))):=by rw[Az];show _=aw (zw (wd u++[M12.st c]));rw[<-PQ];unfold aw;rw[ao4,ao4];rfl
   rw[e];let B:ao f (ψ f D (.Ν (aw (zw (wd (u++[c])))))):=ao.ψ hD;let hD6:ψ f D (.Ν (aw (zw (wd (u++[c]))))) D\(.Ν (aw (zw (wd (u++[c]))))):=aj;let nD:D≠lt:=λz=>by cbv
   erw[lt,1122,B^F,5]
   .rw[aog,htl];rwa[aop (show 1+ i<=300 by omega) ⋯]
   erw[j++[D],11112,λb o e=>[aq (QA nlt)]▸B^g^e,by rw[aj,aoE];rfl,5]
   .let ef:(e9 TT ws).Χ (1+ (i+ 1))=(e9 TT ws).Χ (1+ i)++[zw (wd (u++[c]))]:=by rw[show 1+ (i+ 1)=(1+ i)+ 1 by ext,ao2];unfold e9;rw[aon,hju];rfl
    rw[ef];rwa[bT.but (w:=lt) ((O.Μ B).ċ hD6) fQ.ψ λz=>?_]
    cbv
   cbv
  .rintro σ f ⟨j,v3,v4,v5,v6,Ų,g,F,O,hnt⟩;rw[apq (by unfold e9;rw[aog];omega)]at O;rwa[12,k lt ws f (s1.ν g) M {j,F,O}]
def L4:¬((VO:Ñ)=Z5):=⋯
def Hx:¬((VO:Ñ)=FO):=⋯
def Gi:¬((Z5:Ñ)=FO):=⋯
inductive PV (C:Zs)(vs:Zb)(H:Hp)(Q:VK)(E_:XK):ο
 |mk (x dx a:Zs)(T:Za3)(L:η):vs=[?x,?a]->H x\.ins C dx []->Ċ H a T->M11.Tab L T->M12.Fc (2* L) T.Ì @T->(∀(fs:θ (Ñ×V))(fl d:Zs)(ws:Ϣ)(H':Hp),(∀b o,H b\o->b≠x->H' b\o)->H' x\.ins C dx fs->fs.ω (VO:Ñ)\.υ @T->fs.ω (Z5:Ñ)\?fl->fs.ω (FO:Ñ)\?d->fs.ω ("by_home":Ñ)=ε->H' d\.dK []->H d=ε->Ċ H' fl xz->LW L T ws->Q .non H')->PV C vs H Q E_
def wJ (T:ų):T.ie.Ok mg P w Β 4 (PV A.bE):=by
 rwa[T.ie.on wG (λcf AA W s H vs Q E hr h=>?_)]
 .let[x,c,a,TT,L,Ų,hx,CY,hT,hF,k]:=h
  refine{_,{{ώ (1<<<0) Ų,ώ (pc T.iF (pU T) hr #[1]) Ų,ώ eJ Ų}},?_}
  let[rs,m,l]:=id CY;let Z:a≠x:=bD m hx (by cbv);let æ:(@(rs.Κ V.É):π)=(@TT:π):=by rw[aog,l.1]
  erw[12,a,12,.Α (ay.of m),12,x,A.bE,c,[],2,hx,fy T,T.Fw,4];rw[æ];let f:∀b o,H b\o->b≠x->ψ H x (.ins A.bE c (bP VO (.υ (@TT:π)) [])) b\o:=λb o e n=>by rw[aq n];rwa[e]
  let F:ψ H x (.ins A.bE c (bP VO (.υ (@TT:π)) [])) x\(.ins A.bE c (bP VO (.υ (@TT:π)) [])):=aj;change ψ H x _=H1 at f F ⊢
  let B:Ċ H1 a TT:={rs,f β m Z,l.1,λi r R U N=>by
   have:=l.2 i r R U N
   cbv}
  rwa[12,a,TT,L,2,B,hT,hF,λu ws I p qA O=>?_];let y:=p^F;erw[12,x,A.bE,c,12,y,fy T,T.vX,(by show 1<1000;decide)];let g:∀b o,I b\o->b≠x->ψ I x (.ins A.bE c (bP Z5 ?u (bP VO (.υ (@TT:π)) []))) b\o:=λb o e n=>by rw[aq n];rwa[e]
  let v:ψ I x (.ins A.bE c (bP Z5 ?u (bP VO (.υ (@TT:π)) []))) x\(.ins A.bE c (bP Z5 ?u (bP VO (.υ (@TT:π)) []))):=aj;change ψ I x _=J at g v ⊢;intro d M;let j:ao J (ψ J d (.dK [])):=ao.ψ M;let t:ψ J d (.dK []) d\(.dK []):=aj;change ψ J d _=S at j t ⊢;let D:=j^v;erw[12,x,A.bE,c,12,D,fy T,T.sS,(by show 2<1000;decide)];let G:∀b o,S b\o->b≠x->ψ S x (.ins A.bE c (bP FO ?d (bP Z5 ?u (bP VO (.υ (@TT:π)) [])))) b\o:=λb o e n=>by rw[aq n];rwa[e]
  rwa[k _ u d ws _ (λb o e n=>G β (j^(g β (p^f β e n) n)) n) aj ?_ ?_ ?_ ?_ ?_ ?_ ?_ qA]
  .rw[eZ,aoK Hx,eZ,aoK L4,eZ,aoO Ų]
  .rw[eZ,aoK Gi,eZ,aoO Ų]
  .rw[eZ,aoO Ų]
  .rfl
  .rw[aq (bD t D (by cbv))];rwa[t]
  .cases q:H d with
   |ε=>rfl
   |ι o=>
    cases z:d=x
    .cbv
    .rw[g β (p^f β q z) z]at M;ext M
  .let[fs,X,C]:=O
   let kq:∀b Y,I b\.Ν Y->ψ S x (.ins A.bE c (bP FO ?d (bP Z5 ?u (bP VO (.υ (@TT:π)) [])))) b\(.Ν Y):=λb Y e=>by let n:b≠x:=bD e y (by cbv);rwa[G β (j^g β e n) n]
   rwa[fs,kq^X,C.1,λi r R U N=>kq^C.2 i r R U N]
def Jo (h:(bC B)[i]?\z):∃r,B[i]?\r/\z=((r:η):π):=by
 unfold bC at h;rw[aon]at h
 cases e:B[i]? with
 |ε=>rw[e]at h;ext h
 |ι r=>rw[e]at h;rwa[r,2,(Za0 h).Τ]
def pS {r:η}(h:B[i]?\r):(bC B)[i]?\((r:η):π):=by unfold bC;rw[aon,h];rfl
def eU (a:Zh):@(bC a)=@a:=by unfold bC;rw[aog]
def yC (F:Zh)(j:η):bC (F++[j])=bC F++[((j:η):π)]:=by unfold bC;rw[aoE];rfl
def Xw (C:Zs):Sp:=λa H Q E=>∃r n:η,a=[.υ r,.υ n]/\1<=r/\r<=1000/\n<=1000/\(M20.cap r n<=5000->Q .non H)/\(5000<M20.cap r n->E ?C ε H)
inductive Jp (vs:Zb)(H:Hp)(Q:VK)(E_:XK):ο
 |mk (a:Zs)(r:Zg)(p:η):vs=[?a]->H a\.Ν (aw r)->M11.Pm p r->p<=1000->(∀l t H',Q1 H'->H l=ε->H' l\.Ν (aw t)->M11.zl p r t->Q ?l H')->Jp vs H Q E_
def agz:Sp:=λc H Q _=>∃(a:Zs)(w:Zg),c=[?a]/\H a\.Ò (aw w)/\@w<=1000/\∀b,Q1 b->Q (.υ ((M20.gl w:η):π)) b
def MvD (H:Hp)(d:Zs)(T:Za3)(c:Ϣ)(e:Zs->ο):ο:=∃(a:θ (Key×V))(rs:Zh),H d\.dK a/\rs.Á/\(∀r∈rs,r<@T)/\@a=@rs/\∀i:η,(i∉rs/\bF a (Sum.Α (i:π))=ε)\/∃b,IF (Sum.Α (i:π))\?b/\H b\.Ν (aw (cj T (M11.back (wy c i))))/\¬e b
structure eH (C:Zs)(H:Hp)(m d:Zs)(T:Za3)(ws:Ϣ)(av:Zs->ο):ο where
 ins:∃(dx fl:Zs)(fs:θ (Ñ×V))(bV:Zn),H m\.ins C dx fs/\fs.ω (VO:Ñ)\.υ @T/\fs.ω (Z5:Ñ)\?fl/\fs.ω (FO:Ñ)\?d/\H fl\.Ν (bV.Κ V.É)/\bT H bV xz/\¬av fl/\fs.ω ("by_home":Ñ)=ε/\∀r∈bV,¬av r
 dct:MvD H d T ws av
def Im (b:Ϣ)(a:Zh):Za3:=a.Κ (wy b)
inductive abO (C:Zs)(vs:Zb)(H:Hp)(Q:VK)(E_:XK):ο
 |mk (av:Zs->ο)(m ha d:Zs)(T:Za3)(L:η)(ws:Ϣ)(hs:Zh)(z:π):vs=[?m,?ha,.υ z]->eH C H m d T ws av->(∀q,av q->∃o,H q\o)->M11.Tab L T->LW L T ws->H ha\.Ν (aw (bC hs))->z≠0->z.Ä<=@hs->(∀r∈hs,r<@T)->(∀l H',fQ d H H'->eH C H' m d T ws av->H' l\.Ν (aw (cj T (M18.jZ (Im ws hs) z)))->Q ?l H')->abO C vs H Q E_
inductive Jq (C:Zs)(vs:Zb)(H:Hp)(Q:VK)(E_:XK):ο
 |mk (av:Zs->ο)(m ha ra d:Zs)(T:Za3)(L:η)(ws:Ϣ)(hs:Zh)(w:Zg):vs=[?m,?ha,?ra]->eH C H m d T ws av->(∀q,av q->∃o,H q\o)->M11.Tab L T->LW L T ws->H ha\.Ν (aw (bC hs))->H ra\.Ò (aw w)->M11.aS @hs w->@w<=1000->(∀r∈hs,r<@T)->(∀H',fQ d H H'->eH C H' m d T ws av->Q (.bl (M20.Ø T TU hs w)) H')->Jq C vs H Q E_
def L5 (H a:Hp)(l:Zs)(rows:Za3):ο:=∃rs:Zn,a l\.Ν (rs.Κ V.É)/\bT a rs rows/\H l=ε/\∀r∈rs,H r=ε
inductive Gj (C:Zs)(vs:Zb)(H:Hp)(Q:VK)(E_:XK):ο
 |mk (la da m d:Zs)(T:Za3)(L n:η)(ws ls:Ϣ)(due:Za3):vs=[?la,?da,?m]->Ċ H la (ls.Κ bC)->bM H da due->(eH C H m d T ws (λ_=>Ð))->M11.Tab L T->LW L T ws->(∀h∈ls,@h=n/\∀x∈h,x<@T)->n<=1000->@ls* @T<=5000->@due<=1000->(∀r∈due,M11.aS (n+ 1) r/\@r<=1000)->(∀l H',fQ d H H'->eH C H' m d T ws (λ_=>Ð)->L5 H H' l ((M20.tI T TU @T ls due).Κ bC)->Q ?l H')->Gj C vs H Q E_
inductive C2 (C:Zs)(vs:Zb)(H:Hp)(Q:VK)(E_:XK):ο
 |mk (m ra d:Zs)(T:Za3)(L n:η)(ws:Ϣ)(Ô:Za3):vs=[?m,.υ n,?ra]->bM H ra Ô->(eH C H m d T ws (λ_=>Ð))->M11.Tab L T->LW L T ws->n<=900->M20.cap @T n<=5000->@Ô<=1000->(∀r∈Ô,ϳ r/\@r<=1000)->(∀l H',fQ d H H'->L5 H H' l ((M20.ri T TU @T Ô n).Κ bC)->Q ?l H')->C2 C vs H Q E_
theorem Bu (T:ų):T.qG.Ok P w Β 1 Jp:=by
 rwa[T.qG.on jM (λcf AA J s H vs Q E hr h=>?_)]
 .let[a,r,p,Ų,O,f,hp,k]:=h
  refine{_,{{bp 1 jM.nd (aJ MD (bH #[ak]) (0<<<0)),HH (oN Ų (dQ (cU 2 jM.nd) (dQ (cU 3 jM.nd) lV)))
    {{ji (pv 2) (jV (pv 1) (pv 3) ŀ)}},aZ (pv 1)}},?_}
  rwa[by decide,λq Y=>?_];let B:ao H (ψ H q (.Ν [.υ 0])):=ao.ψ Y;let g:ψ H q (.Ν [.υ 0]) q\(.Ν [.υ 0]):=aj;change ψ H q _=y at B g ⊢;let æ:(@(aw r):π)=(p:π):=by rw[aF,f.len]
  rwa[12,a,12,.Α (ay.of (B^O)),q,1122,g,335,λt R=>?_]
  .rw[æ,ao8];rwa[aot (show 1* p<=1000 by omega) ⋯]
  rw[æ,ao8,TC];let st:ao y (ψ y t (.Ν (aw (θ.Ê p (0:π))))):=ao.ψ R;let x:ψ y t (.Ν (aw (θ.Ê p (0:π)))) t\(.Ν (aw (θ.Ê p (0:π)))):=aj;change ψ y t _=X at st x ⊢;let D:=B.ν st;let U:H t=ε:=B.free R
  let I:a≠t:=λz=>by cbv
  erw[12,a,2,{_,ay.of (D^O)}]
  refine yZ (xs:=aw r) (λn C i=>∃(l:Zg)(M G:Zc),C=#v[?a,?t,M,G]/\fQ t X i/\i t\.Ν (aw l)/\M11.vS p r l n)
   {1112,λ_ _ _ e=>e,x,θ.length_replicate ..,λk j hk=>∅} (λn C i _ ζ=>by let[_,_,_,_,b,_]:=ζ;rwa[ay.of (b β I (D^O))]) ?_ ?_
  .rintro n v C i Z hn N ⟨l,M,G,Ų,F,d,c⟩;let[z,Ų,S]:=bW hn;let L:n<p:=by rw[<-f.len];rwa[(aoh.mp S).1]
   let[j,W,u]:=f.at L;let ez:z=(j:π):=Za0 (S.Τ.ν W);subst ez;let m:=ao.ψ (o:=.Ò [.υ (n:π),.υ (j:π)]) N;erw[Z,12,bG.of aj,21121122];erw[121212,t,11,j,22,m^d,rQ ([aF,c.1]▸u)];rw[ints_set];rwa[1112,(F.ν (λq o _ e=>m^e)).ν fQ.ψ,aj,c.ı f W u]
  .rintro C i ⟨l,M,G,Ų,F,d,c⟩;rw[aF,f.len]at c;rwa[12,k t l _ (λb o e=>F β (QA U) (D^e)) U d (c.all f)]
def adA (w:Zg):uk (w.Κ λy=>((y.Ä:η):π))=((M20.gl w:η):π):=by
 let a:∀(r:Zg)(m:η),(r.Κ λy=>((y.Ä:η):π)).ă (λm x=>if x > m then x else m) ((m:η):π)=((r.ă (λm s=>max m s.Ä) m:η):π):=by
  intro r
  induction r with
  |nil=>intro m;rfl
  |È s r b=>
   intro m;rw[apF,aqd,aqd,<-b]
   congr 1
   cases z:((s.Ä:η):π) > (m:π)
   .rw[aoO z];ext
   .rw[aoK z];ext
 cases w with
 |nil=>rfl
 |È s r=>show (r.Κ λy=>((y.Ä:η):π)).ă (λm x=>if x > m then x else m) ((s.Ä:η):π)=_;rw[a];unfold M20.gl;rw[aqd,η.zero_max]
def vp (T:ų):T.lF.Ok P w Β 1 agz:=by
 rwa[T.lF.on vb (λg o d s H n Q E q h=>?_) (len:=by rintro _ _ _ _ ⟨a,ws,Ų,_⟩;rfl)]
 .let[a,ws,Ų,b,c,k]:=h;erw[_,{{aZ (Wx Ų Ų T.Lg (eK (fns:=[]) (ixs:=[]) (cl:=[]) Ų (kZ (pv 0)) (b0 [] Ų þ.intro Ų) (λC s H ex=>(EQ #[0]))) Ų Ų)}}];erw[12,a,2,{_,bG.of b}];rwa[jj (aw ws) (λv=>match v with|.υ y=>.υ ((y.Ä:η):π)|v=>v) (MJ xb) (HY xb) (DZ xb) ([aF]▸aot c ⋯) (λi x l R m=>?_) (λD f=>?_)]
  .let[y,Ų,p]:=bW l;let e:(if y<0 then -y else y)=((y.Ä:η):π):=by split <;> ext
   erw[12,y,2];rw[e];rwa[m]
  let e:((aw ws).Κ λv=>match v with|.υ y=>V.υ ((y.Ä:η):π)|v=>v)=aw (ws.Κ λy=>((y.Ä:η):π)):=by unfold aw;rw[ao4,ao4];rfl
  rw[e];erw[D,12,ay.of aj];rw[adA];rwa[k _ (ao.ψ f)]
def Bv (T:ų):cX P w K mg Β ϴ 1 A.tR A.tS [ϔ,ϓ] (Xw A.b9):=by
 rwa[T.mK.F.N4 jL (λy H Q E h=>?_) (λB G c s H y Q E I h=>?_)]
 .let[r,n,Ų,_]:=h;rfl
 .let[r,n,Ų,d,t,L,k,D]:=h
  erw[_,{{KB jL.nd ak,bO PassesOwn.leaving Ų (WF #[1]) (cU 3 jL.nd)
    {{KB jL.nd (NN (pv 2) (pv 0)),bL (a9 pX (pv 2) (qS (v:=.υ 5000) Ų T.uY {12}) (bq _))
     {{N5 (E:=E) Ų Ų T.sP T.Lz (B6 (jA (dq (l:=[116,104,101,114,101,32,97,114,101,32,109,111,114,101,32,116,104,97,110,32]) Ų) (jA (vK (qS (v:=.υ 5000) Ų T.uY {12})) (jA (dq (l:=[32,108,105,115,116,115,32,111,102,32]) Ų) (jA (vK (pv 1)) (jA (dq (l:=[32,111,117,116,32,111,102,32]) Ų) (jA (vK (pv 0)) (jA (dq (l:=[32,114,111,111,109,115]) Ų) MY)))))))) lvD Ų Ų (by decide)}}
     bf}}}}]
  erw[12,(n:π),233];rwa[du (lo:=0) (n:=((n:π)).Φ) (λi f g=>∃(a:Zc),f=#v[.υ r,.υ n,.υ ((M20.cap r i:η):π),a]/\g=H/\M20.cap r i<=5000) ⟨ε,22,by show 1<=5000;decide⟩ ?_ ?_]
  .rintro i f g J ⟨a,Ų,Ų,o⟩;erw[12121122,.Α {33}];let e:M20.cap r (i+ 1)=min 5001 (M20.cap r i* r):=rfl;obtain⟨m,F⟩:∃m,m=M20.cap r i* r:={12};let b:((M20.cap r i:η):π)* (r:π)=(m:π):=by rw[F,π.natCast_mul]
   simp only[b];rwa[12112212,cQ (λh=>?_) (λh=>?_)]
   .let x:(5000:π)<(m:π):=aoS h;let C:=sg (n:=(5000:π)) ∅ ∅;let p:=sg (n:=(n:π)) ∅ ∅;let u:=sg (n:=(r:π)) ∅ ∅;erw[12,by (simp only[aoj,aoA,aoV];omega),12412,by (simp only[aoj,aoA,aoV];omega),12,by (simp only[aoj,aoA,aoV];omega),1212312,by (simp only[aoj,aoA,aoV];omega),12,by (simp only[aoj,aoA,aoV];omega),1212312,by (simp only[aoj,aoA,aoV];omega),12,by (simp only[aoj,aoA,aoV];omega),by (simp only[aoj,aoA,aoV];omega)];rwa[D (M20.zo d (j:=i+ 1) (n:=n) ∅ ∅)]
   .let x:¬(5000:π)<(m:π):=λq=>h (aoP q)
    let z:M20.cap r (i+ 1)=m:=∅
    rw[<-z];rwa[1223]
  .rintro f g ⟨a,Ų,Ų,o⟩;rwa[k o]
def Jr {T:Za3}{w:Zg}(g:ZC)(f:l6):M11.Pm @T (cj T w):=by
 let bk:∀i,i<@T->M11.Þ T Tu (M11.Þ T w i)=i:=λi d=>by rw[<-M11.dN];rwa[M11.mY g f d]
 rwa[jw ..,5,λz j=>?_]
 .unfold cj;rwa[aqa.mpr (arJ ?_ aqT)];intro a b k m c z;let h:=bk a (aoZ.mp k);let l:=bk b (aoZ.mp m);let e:M11.Þ T w a=M11.Þ T w b:=∅
  rw[e,l]at h;rwa[c h.Τ]
 .unfold cj at j;let[i,d,Ų]:=ao1.mp j;have:=M11.jF g f (aoZ.mp d);ext
def TL {T:Za3}{w:Zg}(e:ZC)(c:l6){t:Zg}(h:M11.zl @T (cj T w) t):t=cj T Tu:=by
 rwa[M19.inv_one (Jr e c) h {jw ..,λk j d=>?_}];let a:k<@T:=by have:=(aoh.mp d).1;rw[jw]at Δ;rwa[Δ]
 rw[mI a]at d;let f:M11.Þ T w k=j:=by have:=Za0 d;ext
 let b:=M11.jF e c a;rw[f]at b;rw[mI b,<-f,<-M11.dN,M11.mY e c a]
def eH.Ï {ws:Ϣ}{j:Zs->ο}(h:eH a H b d W ws j)(k1:∀c a dx fs,H c\.ins a dx fs->I c\.ins a dx fs)(k2:∀c m,¬j c->H c\.Ν m->I c\.Ν m)(t:∀e,H d\.dK e->I d\.dK e):eH a I b d W ws j:=by
 let[⟨dx,fl,fs,bV,A,B,u,w,v,o,l,x,k⟩,e,rs,p,y,s,z,q]:=h;rwa[{dx,fl,fs,bV,k1 δ A,B,u,w,k2 β l v,{o.1,λi r ns f g=>k2 β (k r (aoi f)) (o.2 i r ns f g)},l,x,k},e,rs,t _ p,y,s,z,λi=>?_];rcases q i with h|⟨c,f,g,n⟩
 .rwa[.Α h]
 .rwa[.Ç {c,f,k2 β n g,n}]
def eH.Μ {ws:Ϣ}{c:Zs->ο}(h:eH a H b d W ws c)(s:XL):eH a I b d W ws c:=h.Ï (λ_ _ _ _ e=>s^e) (λ_ _ _ e=>s^e) (λ_ e=>s^e)
def eH.off {ws:Ϣ}{s:Zs->ο}(h:eH a H b d W ws s):eH a H b d W ws (λ_=>Ð):=by
 let[⟨dx,fl,fs,bV,u,v,m,o,n,t,x,p,w⟩,e,rs,f,q,k,r,g]:=h;rwa[{dx,fl,fs,bV,u,v,m,o,n,t,λz=>z,p,λ_ _ z=>z},e,rs,f,q,k,r,λi=>?_];rcases g i with h|⟨c,l,j,y⟩
 .rwa[.Α h]
 .rwa[.Ç {c,l,j,λz=>z}]
def eH.on {ws:Ϣ}(h:eH a H b d W ws (λ_=>Ð))(j:H c=ε):eH a H b d W ws (λf=>f=c):=by
 let[⟨dx,fl,fs,bV,y,z,s,t,l,m,B,v,A⟩,g,rs,n,w,p,x,o]:=h;rwa[{dx,fl,fs,bV,y,z,s,t,l,m,ax l j,v,λr u=>?_},g,rs,n,w,p,x,λi=>?_]
 .let[ns,e]:=Ga m u;rwa[QA j]
 .rcases o i with h|⟨f,q,k,C⟩
  .rwa[.Α h]
  .rwa[.Ç {f,q,k,ax k j}]
def abP {l:Ϣ}{f:Zs->ο}(h:∀q,f q->∃o,H q\o)(c:fQ d H I)(M:eH a I b d W l f):∀q,f q->∃o,I q\o:=λq k=>by
 let[o,j]:=h q k;cases e:q=d
 .obtain⟨g,m,i,-⟩:=M.dct;rwa[_,[e]▸i]
 .rwa[o,c β e j]
def VM {T:Za3}{ws:Ϣ}(a:LW n T ws){r:η}(g:r<@T):M11.aS n Z8/\M11.Þ T Z8 0=r/\xz[r]?\(cj T Z8):=by
 let f:@ws=@T:=a.lw.1;let b:ws[r]?\(ws[r]'∅):=aoe ∅
 let e:wy ws r=wd (ws[r]'∅):=by unfold wy;rw[aom,b];rfl
 let[c,d,h]:=a.ok r _ b;rw[e];erw[mG c,d];unfold e9;rw[aon,b];rfl
def TN {T:Za3}{e:Ϣ}(a:LW n T e){d:Zh}(b:∀r∈d,r<@T):∀w∈Im e d,ϳ w:=λw c=>by unfold Im at c;let[r,f,Ų]:=ao1.mp c;rwa[(VM a (b r f)).1]
def yD (T:ų):T.nU.Ok mg P w Β 2 (abO A.bE):=by
 rwa[T.nU.on pL (λcf AA Ψ s H vs Q E hr h=>?_)]
 .let[av,m,ha,d,TT,L,ws,hs,z,Ų,hM,PX,hT,qA,Gk,hz0,hzl,VN,k]:=h;let D:=iC hr
  erw[_,{{ZV pL.nd (1|||(Ix (EQ #[2]) ak)),bL (a9 pX (pv 2) ak (bq _))
    {{aZ ((0<<<1)|||3)}}
    bf,bS (bL (qT (ky D (pv 3) (0<<<1)))
    {{iU D (0<<<1) (pv 3) (pc T.qG (Bu T) hr #[(0<<<1)|||3]) Ų}}
    bf),aZ (jz D (0<<<1) (pv 3) (λ_ _=>rfl))}}]
  let sY:=hT.top;let[G,fl,fs,bV,B,j,a,f,p,g,naf,nby,nar]:=hM.ins;let ny:@ws=@TT:=qA.lw.1;let ez:(if z<0 then -z else z) - 1=((z.Ä - 1:η):π):=by split <;> ext
  obtain⟨fA,g0⟩:∃gx,hs[z.Ä - 1]?\gx:={hs[z.Ä - 1]'∅,aoe ∅}
  change fA=r at g0;let U:=VN r (aoi g0);let X:(Im ws hs).á (z.Ä - 1) []=wy ws r:=by unfold Im;rw[aom,aon,g0];rfl
  let[R,hw0,Nh]:=VM qA U
  let agA:@bV=@TT:=by have:=g.1;unfold e9 at Δ;rw[aog,ny]at Δ;rwa[Δ]
  obtain⟨Y,g1⟩:∃gx,bV[r]?\gx:={bV[r]'∅,aoe ∅}
  change Y=N at g1;let V:=g.2 r N (zw Z8) g1 Nh;erw[1212,z,21122,ha,11122,ay.of Gk,([ez]▸bX (bR (pS g0)))];rwa[12112212,cQ (λh=>?_) (λh=>?_)]
  .let h':0<z:=aoS h;erw[12,m,A.bE,G,112,B,fy T,T.vX,a,12,fl,11,?N,22,ay.of p,bZ g1];rwa[k N H (λ_ _ _ e=>e) hM ?_];unfold M18.jZ;rw[aoO h',X];rwa[V]
  .let h':¬ 0<z:=λq=>h (aoP q)
   let him:M18.jZ (Im ws hs) z=M11.back Z8:=by unfold M18.jZ;rw[aoK h',X]
   rw[him]at k;let[c,rs,Z,Pq,u,hkl,S]:=id hM.dct;erw[λ fH H'=>fH=#v[?m,?ha,.υ z,.υ r]/\fQ d H H'/\eH A.bE H' m d TT ws av/\∃c b,H' d\.dK c/\bF c (Sum.Α (r:π))\?b/\H' b\.Ν (aw (zw (M11.back Z8))),5]
   .erw[1212,m,A.bE,G,112,B,fy T,T.sS,f,d,12,dF.k (k:=Sum.Α (r:π)) Z,12];rcases S r with ⟨hnr,J⟩|⟨b,J,hb,nb⟩
    .rw[J];rwa[12,m,A.bE,G,112,B,fy T,T.vX,a,12,fl,11,?N,22,ay.of p,bZ g1,N,_,@TT,2,V,Jr hT R,3,λl t M C nl h1 hI=>?_]
     let nal:¬av l:=λz=>by let[o,ho]:=PX l z;rw[nl]at ho;ext ho
     rw[TL hT R hI]at h1;let I:=C^Z
     let O:@c<=300:=by have:=M11.eG @TT rs Pq u;ext
     erw[12,m,A.bE,G,112,C^B,fy T,T.sS,f,12,d,12,lz.k (k:=Sum.Α (r:π)) I (aop O ⋯)]
     let kL:∀b xs,M b\.Ν xs->ψ M d (.dK (ú c (Sum.Α (r:π)) ?l)) b\(.Ν xs):=λb xs e=>by rw[aq (IM I (by cbv))];rwa[e]
     let W:ψ M d (.dK (ú c (Sum.Α (r:π)) ?l)) d\(.dK (ú c (Sum.Α (r:π)) ?l)):=aj;rwa[2,λb o n e=>[aq n]▸C^e,{{G,fl,fs,bV,5,j,a,f,kL^C^p,{g.1,λi q ns h1 h2=>kL^C^g.2 i q ns h1 h2},naf,nby,nar},ú c (Sum.Α (r:π)) ?l,rs++[r],W,555,λi=>?_},_,l,W,5,kL^h1]
     .rw[aq (bD (C^B) I (by cbv))];rwa[C^B]
     .rwa[apb.mpr {Pq,by simp,λx v y hy z=>?_}];rw[aok.mp hy]at z;rw[z]at v;rwa[hnr v]
     .intro x v;rcases aov.mp v with v|v
      .rwa[u x v]
      .rw[aok.mp v];rwa[U]
     .rw[lZ _ J,aoj,aoj,hkl];rfl
     .rw[fI];cases e:i=r
      .cbv
      .rw[aoK (λz=>e (by injection z with z;omega))];rcases S i with ⟨hni,F⟩|⟨b,F,hbi,nbi⟩
       .exact .Α {λz=>by
         rcases aov.mp z with z|z
         .rwa[hni z]
         .rwa[e (aok.mp z)],F}
       .rwa[.Ç {b,F,kL^C^hbi,nbi}]
     .rw[fI,aoO Ų]
    .rw[J];rwa[dz {2,λ_ _ _ e=>e,hM,c,b,Z,J,hb}]
   rintro fH M ⟨rfl,b1,M1,c,b,Z,J,hb⟩;obtain⟨G,fl,fs,bV,B,j,a,f,-⟩:=M1.ins
   let dg:dF M d (.υ (r:π)) (ι ?b):=by have:=dF.k (k:=Sum.Α (r:π)) Z;rw[J]at Δ;rwa[Δ]
   rwa[12,m,A.bE,G,112,B,fy T,T.sS,f,12,d,12,dg,k b M b1 M1 hb]
def DF (T:ų):T.sN.Ok P w Β 3 (Jq A.bE):=by
 rwa[T.sN.on gu (λcf AA Ψ s H vs Q E hr h=>?_)]
 .let[av,m,ha,S,d,TT,L,u,I,p,Ų,hM,PX,hT,qA,Z,f,Uu,ny,R,k]:=h;let B:=iC hr
  erw[_,{{ZV gu.nd eJ,AN (Sa gu.nd)
    {{bS (bL (qT (ky B (pv 4) (pv 3)))
     {{iU B (pv 3) (pv 4) (pm (pv 0) (fy T) T.nU (yD T) hr #[1,4]) Ų}}
     bf)}},LE gu.nd ak,AN (Sa gu.nd)
    {{LE gu.nd ((jz B (pv 3) (pv 4) (λ_ _=>rfl))|||5)}},aZ (kx dS (pv 5) ak (bq _))}}]
  let hIm:=TN qA R;intro t ht;let st:ao H (ψ H t (.dK [])):=ao.ψ ht;let FL:ψ H t (.dK []) t\(.dK []):=aj;let hM1:=hM.Μ st;obtain⟨kvd,rsd,W,-⟩:=id hM.dct;let X:t≠d:=λe=>by cbv
  let N:S≠d:=bD f W (by cbv);let VP:ha≠d:=bD Z W (by cbv);erw[12,S,2,{_,bG.of (st^f)}]
  refine cF (xs:=aw p) (λi r v=>∃(a:θ (Key×V))(G:Zc),r=#v[?m,?ha,?S,?t,G,ε]/\fQ d H v/\eH A.bE v m d TT u av/\v t\.dK a/\@a<=i/\∀s:π,(s∉p.Χ i/\bF a Ϟ=ε)\/∃b,IF Ϟ\?b/\v b\.Ν (aw (zw (M18.jZ (Im u I) s))))
   {[],ε,2,λb o _ e=>st^e,hM1,FL,aoo _,λs=>.Α {by simp,2}} (λi r v _ ζ=>by let[_,_,_,b,_]:=ζ;rwa[bG.of (b β N f)]) ?_ ?_
  .rintro i y r v hi ⟨a,G,Ų,x,M2,j,hkl,g⟩;let[s,Ų,c]:=bW hi;let B9:i<@p:=(aoh.mp c).1;let U:=Uu s NU;let Ai:p.Χ (i+ 1)=p.Χ i++[s]:=by rw[ao2,c];rfl
   rwa[15,λ_ _ h=>h];erw[1212,t,12,dF.k (k:=Sum.Α s) j,12];rcases g s with ⟨Y,J⟩|⟨b,J,hb⟩
   .rw[J];obtain⟨dx,fl,fs,bV,hm,_,_,_,_,_,_,nby,-⟩:=M2.ins;rwa[12,m,dx,fs,2,hm,nby,1212,av,m,ha,d,TT,L,u,I,s,2,M2,abP PX x M2,hT,qA,x β VP Z,U.1,U.2,R,λl q b3 M3 h3=>?_];let M:=b3 β X j;erw[1212,t,12,lz.k (k:=Sum.Α s) M (aop (show @a<=1000 by omega) ⋯)]
    let kL:∀b F,q b\.Ν F->ψ q t (.dK (ú a Ϟ ?l)) b\(.Ν F):=λb F e=>by rw[aq (IM M (by cbv))];rwa[e]
    rwa[112,λb o n e=>?_,M3.Ï (λb C dx fs e=>?_) (λb F _ e=>kL b F e) (λkv e=>?_),aj,5,λs'=>?_]
    .rw[aq (QA ht)];rwa[b3 β n (x β n e)]
    .rw[aq (IM M (by cbv))];rwa[e]
    .rw[aq (apE X)];rwa[e]
    .rw[lZ _ J,aoj];simp only[aoA,aoV];ext
    .rw[fI];cases e:s'=s
     .cbv
     .rw[aoK (λz=>e (by injection z))];rcases g s' with ⟨hni,D⟩|⟨b,D,O⟩
      .rwa[.Α {λz=>?_,D}];rw[Ai]at z;rcases aov.mp z with z|z
       .rwa[hni z]
       .rwa[e (aok.mp z)]
      .obtain⟨kv3,rs3,Av,-⟩:=id M2.dct;rwa[.Ç {b,D,kL^(b3 β (bD O Av (by cbv)) O)}]
   .rw[J];rwa[dz {a,12,x,M2,j,3,λs'=>?_}]
    cbv
  .rintro r v ⟨a,G,Ų,x,M2,j,hkl,g⟩;rw[aF,apc]at g;erw[12,S,2,{_,bG.of (x β N f)}]
   refine cF (xs:=aw p) (λi r q=>∃(G:Zc),r=#v[?m,?ha,?S,?t,G,.υ ((M11.Þ TT (CA (p.Χ i)) 0:η):π)]/\q=v)
    {122} (λi r q _ ζ=>by let[_,_,e]:=ζ;rwa[[e]▸bG.of (x β N f)]) ?_ ?_
   .rintro i y r q hi ⟨G,Ų,rfl⟩;let[s,Ų,c]:=bW hi;let wV:=M11.jF hT (M18.Kx hIm:M11.aS L (CA (p.Χ i))) hT.pos;rcases g s with ⟨Y,J⟩|⟨b,J,hb⟩
    .rwa[Ρ NU Y]
    let dg:dF q t (.υ s) (ι ?b):=by have:=dF.k (k:=Sum.Α s) j;rw[J]at Δ;rwa[Δ]
    erw[1212,t,12,dg,12,b,11122,ay.of hb,bX (bR (mI wV))];rw[CZ c,M11.dN];rwa[122]
   .rintro r q ⟨G,Ų,rfl⟩;rw[aF,apc];erw[122]
    let e:decide (V.υ ((M11.Þ TT (CA p) 0:η):π)=V.υ 0)=M20.Ø TT (wy u) I p:=by unfold M20.Ø;rw[apN];rwa[λz=>by injection z with z;rwa[π.natCast_inj.mp z],λz=>by rw[show M11.Þ TT (CA p) 0=0 from z];rfl]
    rw[e];rwa[k q x M2]
def PY {K:Za1}{s:St}{n:TE}{Q:VK}{rs:Zn}{us:Za3}(I:Hp->ο)(f:Zg->ã)(o:I H)(d:∀b,I b->b a\.Ν (rs.Κ V.É))(h:∀b,I b->cz b rs us)(hz:@us<=1000)(B:∀(b:Hp) (r:Zs) (u:Zg) (R:VK),I b->u∈us->b r\.Ò (aw u)->(∀j,I j->R (.bl (f u)) j)->n (ι ?r::s) b R)(t:∀D b,I b->b D=ε->Q ?D (ψ b D (.Ν ((us.Κ f).Κ V.bl)))):oQ n s Q LA H:=by
 let A:=(h H o).1;erw[λi m ys b=>m=@rs - i/\i<=@rs/\ys=((us.Χ i).Κ f).Κ V.bl/\I b,{@rs,by simp,aoN _,2,o}];rintro i m ys b ⟨rfl,E,Ų,g⟩;let æ:@(((us.Χ i).Κ f).Κ V.bl)=i:=by rw[aog,aog,aoX];ext
 cases c:i<@rs
 .let p:rs[i]?=ι rs[i]:=aoe c
  let l:i<@us:=∅
  let k:us[i]?=ι us[i]:=aoe l
  let z:=(h b g).2 i β p k;rwa[.Ç {iP bb i ([aog]▸c),[æ]▸aop (show i<=1000 by omega) ⋯,λx j w=>?_}];let[Ų,q]:=gk bb i x j ([aog]▸c) w;rw[aon,p]at q;let ex:V.É rs[i]=x:=Za0 q;subst ex;rwa[B j γ g (aoi k) z λC y=>{@rs - (i+ 1),32,c,5,y}]
  rw[ao2,k,aoE,aoE];rfl
 .let e:i=@rs:=∅
  rwa[.Α {5,[æ]▸aot (show i<=1000 by omega) ⋯,λD v=>?_}]
  .have:=fm (K:=K) bb;rw[aog,<-e]at Δ;rwa[Δ]
  .rw[apq ∅];rwa[t D b g v]
def PZ {c:θ (Key×V)}(h:bM H a W)(b:fQ d H I)(f:H d\.dK c):bM I a W:=by let[i,g,j]:=h;rwa[i,b β (bD g f (by cbv)) g,j.Ï λp k e=>b β (IM f (by cbv)) e]
def abU (f:Zg->ã)(us:Za3):(us.Κ f).all id=us.all f:=by rw[θ.all_map];rfl
def TQ (T:Za3)(wy:η->Zg)(N:η){ls:Ϣ}(due:Za3){i:η}{h:Zh}(a:ls[i]?\h):M20.tI T wy N (ls.Χ (i+ 1)) due=M20.tI T wy N (ls.Χ i) due++(M20.ext N h).Ö λh=>due.all (M20.Ø T wy h):=by unfold M20.tI;rw[ao2,a,ap0];simp
theorem Js (T:Za3)(wy:η->Zg)(N:η)(due:Za3):∀ls:θ Zh,@(M20.tI T wy N ls due)<=@ls* N
 |[]=>by simp[M20.tI]
 |h::ls=>by let a:=Js T wy N due ls;unfold M20.tI at a ⊢;rw[aqG,aoj,aoA,aqL];have:=aph (λh=>due.all (M20.Ø T wy h)) (M20.ext N h);rw[M20.II]at Δ;ext
def C3 (h:Zh)(x:η):aw (bC h)++[V.υ (x:π)]=aw (bC (h++[x])):=by rw[yC,ï];rfl
theorem P0 (T:ų):T.longer.Ok P w Β 4 (Gj A.bE):=by
 rwa[T.longer.on nk (λcf AA Ψ s H vs Q E hr h=>?_)]
 .let[la,da,m,d,TT,L,n,l,ls,due,Ų,hLa,hDa,hM,hT,qA,hls,hn,h5,hdl,hdu,k]:=h
  erw[_,{{ZV nk.nd Op,py (Sa nk.nd)
    {{ž (WF #[2<<<1]) (cU 5 nk.nd)
     {{bp 6 nk.nd (aJ yS (pv 4) (bH #[5])),bS (bL (iL (aT (Rt Ų) Ų T.ads ÿ.Rows.boot_all #[eK (fns:=[Z4,HU]) (ixs:=[2,6]) (cl:=_) Ų Cf (b0 [(_,_),(_,_)] Ų {2222222222,þ.intro} Ų) (λC s H ex=>(pc T.sN (DF T) hr #[1,2,0]))]))
      {{aX (ŵ (pv 3) #[6])}}
      bf)}}}},aZ (pv 3)}}]
  obtain⟨kvd,rsd,I,-⟩:=id hM.dct;let[t,G,Z]:=id hLa;let[dps,v,agB]:=id hDa;let amI:@t=@ls:=by have:=Z.1;rw[aog]at Δ;rwa[Δ]
  rwa[aoN _,λf N=>?_];let s1:ao H (ψ H f (.Ν [])):=ao.ψ N;let h1:ψ H f (.Ν []) f\(.Ν (([]:Zn).Κ V.É)):=aj;change ψ H f _=H1 at s1 h1 ⊢;let nld:la≠d:=bD G I (by cbv);let ndd:da≠d:=bD v I (by cbv);let nfd:f≠d:=λe=>by cbv
  let hM1:=(hM.on N).Μ s1;let amJ:∀q,q=f->∃o,H1 q\o:=λq e=>by cbv
  erw[12,la,2,{_,ay.of (s1^G)}]
  refine cF (xs:=t.Κ V.É) (λi σ W=>∃(a:Zn)(v4 v5 v6:Zc),σ=#v[?la,?da,?m,?f,v4,v5,v6]/\fQ d H W/\eH A.bE W m d TT l (λb=>b=f)/\W f\.Ν (a.Κ V.É)/\bT W a ((M20.tI TT (wy l) @TT (ls.Χ i) due).Κ bC)/\f∉a/\∀p∈a,H p=ε)
   {[],ε,ε,ε,2,λb o _ e=>s1^e,hM1,h1,{2,λi r ns g1=>by simp at g1},by simp,λp hp=>by simp at hp} (λi σ W _ ζ=>by let[_,_,_,_,_,b,_]:=ζ;rwa[ay.of (b β nld G)]) ?_ ?_
  .rintro i y σ W hi ⟨a,v4,v5,v6,Ų,b2,M2,h2,R2,nf2,fr2⟩;rw[aon]at hi
   let B9:i<@t:=by
    cases e:t[i]? with
    |ε=>rw[e]at hi;ext hi
    |ι r=>exact(aoh.mp e).1
   obtain⟨fA,q1⟩:∃gx,t[i]?\gx:={t[i],aoe B9}
   rw[q1]at hi;let ey:V.É fA=y:=Za0 hi;subst ey;change fA=rp at q1;obtain⟨jv,q2⟩:∃gx,ls[i]?\gx:={ls[i]'∅,aoe ∅}
   change jv=g at q2;let[hh1,hh2]:=hls g (aoi q2);let X:=Z.2 i rp (bC g) q1 (by rw[aon,q2];rfl);let nrd:rp≠d:=bD X I (by cbv);obtain⟨dx,fl,fs,bV,hm,L6,-⟩:=M2.ins;rw[TQ TT (wy l) @TT due q2];let adB:=Js TT (wy l) @TT due (ls.Χ i)
   let hll:@(ls.Χ i)* @TT+ @TT<=5000:=by rw[aoX,aqf ∅,<-aqL];rwa[aot (apA _ ∅) h5]
   change M20.tI TT (wy l) @TT (ls.Χ i) due=got at R2 adB;erw[12,m,A.bE,dx,112,hm,fy T,T.Fw,L6,(@TT:π),233]
   refine du (lo:=0) (n:=((@TT:η):π).Φ) (λj σ M=>∃(a:Zn)(v5 v6:Zc),σ=#v[?la,?da,?m,?f,?rp,v5,v6]/\fQ d H M/\eH A.bE M m d TT l (λb=>b=f)/\M f\.Ν (a.Κ V.É)/\bT M a ((got++((~~~j).Κ λx=>g++[x]).Ö λh=>due.all (M20.Ø TT (wy l) h)).Κ bC)/\f∉a/\∀p∈a,H p=ε)
    {a,112,b2,M2,h2,by show bT W a ((got++[]).Κ bC);rw[aoJ];rwa[R2],nf2,fr2} ?_ ?_
   .rintro j σ M hj ⟨a,v5,v6,Ų,b3,M3,h3,R3,nf3,Iq⟩;let hjT:j<@TT:=∅
    rw[arX];rwa[1212,Za4 1,λq hq=>?_];let F:ao M (ψ M q (.Ν [.υ (j:π)])):=ao.ψ hq;let hq4:ψ M q (.Ν [.υ (j:π)]) q\(.Ν [.υ (j:π)]):=aj;change ψ M q _=H4 at F hq4 ⊢;rwa[rp,q,1122,F^b3 β nrd X,hq4,5,λc J=>?_]
    .rw[aF,eU,hh1];rwa[aot (show n+ 1<=2000 by omega) ⋯]
    rw[C3];let s45:ao H4 (ψ H4 c (.Ν (aw (bC (g++[j]))))):=ao.ψ J;let O:ψ H4 c (.Ν (aw (bC (g++[j])))) c\(.Ν (aw (bC (g++[j])))):=aj;change ψ H4 c _=H5 at s45 O ⊢;let S:=F.ν s45;let M5:=M3.Μ S;let b5:fQ d H H5:=λb o n e=>S^b3 β n e
    obtain⟨kv5,rs5,Jl,-⟩:=id M5.dct;let hl5:=S^h3;let nhl:c≠f:=λe=>by rw[e,F^h3]at J;ext J
    let VP:c≠d:=bD O Jl (by cbv)
    let frh:H c=ε:=by
     cases qq:H c with
     |ε=>rfl
     |ι o=>rw[F^b3 β VP qq]at J;ext J
    rwa[15,λ_ _ h=>h];erw[12,da,2,{_,ay.of (b5 β ndd v)}];rwa[PY (λH6=>fQ d H5 H6/\eH A.bE H6 m d TT l (λb=>b=f)) (M20.Ø TT (wy l) (g++[j])) {λ_ _ _ e=>e,M5} (λH6 i6=>i6.1 β ndd (b5 β ndd v)) (λH6 i6=>agB.Ï λp xs e=>i6.1 β (IM I (by cbv)) (b5 β (IM I (by cbv)) e)) hdl (λH6 r u R i6 hu hr hR=>?_) (λD H6 i6 hD=>?_)]
    .let[b6,M6]:=i6;rwa[121212,λb=>b=f,m,c,r,d,TT,L,l,g++[j],u,2,M6,(λq e=>[show q=f from e]▸{_,b6 β nfd hl5}),hT,qA,b6 β VP O,hr,5,(hdu u hu).2,λx hx=>?_,λY b7 M7=>hR Y {b6.ν b7,M7}]
     .rw[aoj,hh1];rwa[(hdu u hu).1]
     .rcases aov.mp hx with hx|hx
      .rwa[hh2 x hx]
      .rw[aok.mp hx];rwa[hjT]
    let[b6,M6]:=i6;let AB:=ao.ψ (o:=.Ν ((due.Κ (M20.Ø TT (wy l) (g++[j]))).Κ V.bl)) hD;erw[D,12,ay.of aj,12];rw[abU];change ψ H6 D _=Y at AB ⊢;let b57:fQ d H5 Y:=λb o n e=>AB^b6 β n e
    let b7:fQ d H Y:=b5.ν b57;let M7:=M6.Μ AB;let U:=b57 β nfd hl5;let B:∀p xs,H5 p\.Ν xs->Y p\(.Ν xs):=λp xs e=>b57 β (IM Jl (by cbv)) e
    let R7:bT Y a ((got++((~~~j).Κ λx=>g++[x]).Ö λh=>due.all (M20.Ø TT (wy l) h)).Κ bC):={R3.1,λi r ns g1 g2=>B^S^R3.2 i r ns g1 g2};let hh7:=B^O;let Ai:((~~~(j+ 1)).Κ λx=>g++[x])=((~~~j).Κ λx=>g++[x])++[g++[j]]:=by rw[apC,aoE];rfl
    let pO:@a<=5000:=by let e1:=R3.1;rw[aog,aoj]at e1;let e2:=aph (λh=>due.all (M20.Ø TT (wy l) h)) ((~~~j).Κ λx=>g++[x]);rw[aog,aoU]at e2;ext
    cases hg:due.all (M20.Ø TT (wy l) (g++[j])) with
    |ρ=>
     erw[12,.Α {21,ay.of U},12,f,1122,U,5]
     .rw[aog];rwa[aop pO ⋯]
     let kU:∀b o,Y b\o->b≠f->ψ Y f (.Ν (a.Κ V.É++[V.É c])) b\o:=λb o e n=>by rw[aq n];rwa[e]
     erw[a++[c],112,λb o n e=>kU β (b7 β n e) (QA N),5,by rw[aj,aoE];rfl,55]
     .rwa[M7.Ï (λb C dx fs e=>kU β e (IM U (by cbv))) (λb xs n e=>kU β e n) (λkv e=>kU β e (apE nfd))]
     .rw[Ai,apV,<-ao6,aoE];let ef:(([g++[j]].Ö λh=>due.all (M20.Ø TT (wy l) h)).Κ bC)=[bC (g++[j])]:=by rw[apZ,hg];rfl
      rw[ef];rwa[bT.but (w:=f) (R7.ċ hh7) fQ.ψ λz=>?_]
      cbv
     .cbv
     cbv
    |ς=>
     rwa[dz {a,112,b7,M7,U,5,nf3,Iq}]
     cbv
   .rintro σ M ⟨a,v5,v6,Ų,b3,M3,h3,R3,nf3,Iq⟩;rwa[a,1112,b3,M3,h3,R3,nf3,Iq]
  .rintro σ W ⟨a,v4,v5,v6,Ų,b2,M2,h2,R2,nf2,fr2⟩;rw[aog,apq ∅]at R2;rwa[12,k f W b2 M2.off {a,h2,R2,N,fr2}]
def P1 {K:Za1}{q:St}{y:TT}{t:TE}{Q:VK}{rs:Zn}{us:Za3}(p:Zg->ã)(g:H a\.Ν (rs.Κ V.É))(h:cz H rs us)(hz:@us<=1000)(A:∀(b:Hp) (r:Zs) (u:Zg) (R:ã->Hp->ο),Q1 b->u∈us->b r\.Ò (aw u)->(∀k,ao b k->R (p u) k)->y (ι ?r::q) b R)(L:∀(b:Hp) (r:Zs) (R:VK),R ?r b->t (ι ?r::q) b R)(B:∀D b c,Q1 b->b D=ε->cz b c (us.Ö p)->Q ?D (ψ b D (.Ν (c.Κ V.É)))):xR y t q Q LA H:=by
 let J:=h.1;erw[λi m ys b=>m=@rs - i/\i<=@rs/\∃c:Zn,ys=c.Κ V.É/\ao H b/\cz b c ((us.Χ i).Ö p),⟨@rs,by simp,aoN _,[],2,λ_ _ e=>e,{by simp,λi r N F=>by simp at F}⟩];rintro i m ys b ⟨rfl,O,c,Ų,s2,f⟩
 let M:@c<=i:=by let P:=f.1;let G:=aph p (us.Χ i);rw[aoX]at G;ext
 cases d:i<@rs
 .let v:rs[i]?=ι rs[i]:=aoe d
  let o:i<@us:=∅
  let n:us[i]?=ι us[i]:=aoe o
  let w:=h.2 i β v n;rwa[.Ç {iP (ay.of (s2^g)) i ([aog]▸d),[aog]▸aop (show @c<=1000 by omega) ⋯,λx k I=>?_}];let[Ų,z]:=gk (ay.of (s2^g)) i x k ([aog]▸d) I;rw[aon,v]at z;let ex:V.É rs[i]=x:=Za0 z;subst ex;rwa[A k γ s2 (aoi n) (s2^w) λE j=>?_]
  let e:us.Χ (i+ 1)=us.Χ i++[us[i]]:=by rw[ao2,n];rfl
  cases s:p us[i]with
  |ρ=>
   rwa[L E β {@rs - (i+ 1),32,d,c++[rs[i]],by rw[aoE];rfl,s2.ν j,5}];let l:([us[i]].Ö p)=[us[i]]:=by rw[apZ,s];rfl
   rw[e,apV,l];rwa[(f.Μ j).ċ (j^s2^w)]
  |ς=>
   erw[@rs - (i+ 1),32,d,c,2,s2.ν j];let l:([us[i]].Ö p)=[]:=by rw[apZ,s];rfl
   rw[e,apV,l,aoJ];rwa[f.Μ j]
 .let e:i=@rs:=∅
  rwa[.Α {5,[aog]▸aot (show @c<=1000 by omega) ⋯,λD C=>?_}]
  .have:=fm (K:=K) (ay.of (s2^g));rw[aog,<-e]at Δ;rwa[Δ]
  .rw[apq ∅]at f;rwa[B D b c s2 C f]
def Gm {i:Ϣ}{j:Zs->ο}(f:fQ d H I)(M:eH a I b d W i j)(g:I c=ε):H c=ε:=by
 cases e:H c with
 |ε=>rfl
 |ι o=>
  obtain⟨h,k,l,-⟩:=M.dct;let n:c≠d:=λz=>by cbv
  rw[f β n e]at g;ext g
def Hy (T:ų):T.yg.Ok P w Β 5 (C2 A.bE):=by
 rwa[T.yg.on j2 (λcf AA Ψ s H vs Q E a h=>?_)]
 .let[m,ra,d,TT,L,n,x,Ô,Ų,P8,hM,hT,qA,hn,TR,J,v,k]:=h
  erw[_,{{ZV j2.nd (bH #[bH ah]),ž (IO #[ak,Z2 (pv 1) ak]) (Sa j2.nd)
    {{Dh (iy:=5) j2.nd Ų EO (fns:=["letter"]) (ixs:=[4]) (cl:=_) Ų (ck (pv 2)) (b0 [(_,_)] Ų {22222,þ.intro} Ų) (λC s H ex=>(FS (pc T.lF (vp T) a #[0]) (pv 1) (bq _))) (λC s H ex=>(pv 0)) (by intro _;rfl) Ų (by trivial),ZV j2.nd (pc T.longer (P0 T) a #[3,5,0])}},aZ (pv 3)}}]
  let f:=hT.pos;let U:∀r∈Ô,∀s∈r,s≠0:=λr a s hs=>((v r a).1 s hs).1
  obtain⟨kvd,rsd,hdd,-⟩:=id hM.dct;rwa[aoN _,λg PR=>?_];let s0:ao H (ψ H g (.Ν [])):=ao.ψ PR;let h0:ψ H g (.Ν []) g\(.Ν (aw (bC []))):=aj;change ψ H g _=H0 at s0 h0 ⊢;rwa[Za4 1,λZ G=>?_];let s1:ao H0 (ψ H0 Z (.Ν [?g])):=ao.ψ G;let h1:ψ H0 Z (.Ν [?g]) Z\(.Ν ([g].Κ V.É)):=aj;let W:=s0.ν s1;erw[121122,(1),(n:π)+ 1,2,{3333}]
  refine du (lo:=1) (n:=((n:π)+ 1 - 1).Φ) (λi σ F=>∃(B:Zs)(v4 v5:Zc),σ=#v[?m,.υ n,?ra,?B,v4,v5]/\fQ d H F/\eH A.bE F m d TT x (λ_=>Ð)/\L5 H F B ((Mn (wy x) @TT Ô i).Κ bC))
   {Z,ε,ε,2,λb o _ e=>W^e,hM.Μ W,[g],h1,{2,λi r ns g1 g2=>?_},s0.free G,λr a=>by cbv} ?_ ?_
  .let e2:ns=bC []:=aok.mp (aoi g2);rw[aok.mp (aoi g1),e2];rwa[s1^h0]
  .rintro i σ F hi ⟨B,v4,v5,Ų,b2,M2,fps,h2,R2,CM,VQ⟩;let O:=PZ P8 b2 hdd;let[Vw,p,X]:=id O;erw[12,ra,2,{_,ay.of p}];rwa[P1 (λu=>decide (M20.gl u=i+ 1)) p X J (λy r u R s3 hu a hR=>?_) (λy r R hR=>{12,hR}) (λD y q s3 hD hdt=>?_)]
   .rwa[12,r,u,2,a,(v u hu).2,λH4 s4=>{122,decide (M20.gl u=i+ 1),5,hR H4 s4}];rwa[apW V.bl ?_];rw[apN];rwa[λz=>by injection z with z;ext,λz=>by congr 1;ext]
   let t:ao y (ψ y D (.Ν (q.Κ V.É))):=ao.ψ hD;let M:bM (ψ y D (.Ν (q.Κ V.É))) D (M20.vT Ô (i+ 1)):={q,aj,hdt.Μ t};change ψ y D _=H4 at t M ⊢;let c:=s3.ν t;let M4:=M2.Μ c;let b4:fQ d H H4:=λb o n e=>c^b2 β n e
   let Ip:M20.cap @TT (i+ 1)<=5000:=by
    cases z:M20.cap @TT (i+ 1)<=5000
    .rwa[z]
    .have:=M20.zo f (j:=i+ 1) (n:=n) ∅ ∅;ext
   let Jd:=M20.sG f Ip;let amK:@(M20.gf @TT (i+ 1))=@(M20.gf @TT i)* @TT:=M20.pe β;let Y:=M20.uE (T:=TT) (wy:=wy x) (N:=@TT) U i;let pO:@(Mn (wy x) @TT Ô i)<=@(M20.gf @TT i):=by rw[Y];rwa[aph β]
   rwa[121212,B,D,m,d,TT,L,i,x,Mn (wy x) @TT Ô i,M20.vT Ô (i+ 1),2,{fps,c^h2,R2.Μ c},M,M4,hT,qA,λh hh=>?_,35,aot (aph β) J,λr a=>?_,λl H5 b5 M5 hN=>?_]
   .rw[Y]at hh;rwa[M20.jm (apa.mp hh).1]
   .rwa[aot (apA _ pO) ∅]
   .let[I,P9]:=apa.mp a;let e:=aoS P9;rwa[λs hs=>{U r I s hs,(M20.zp r (i+ 1)).mp ∅ s hs},(v r I).2]
   .let[S,f1,f2,f3,f4]:=hN;rwa[l,112,b4.ν b5,M5,S,f1,f2,Gm b4 M4 f3,λr a=>Gm b4 M4 (f4 r a)]
  .rintro σ F ⟨B,v4,v5,Ų,b2,M2,hN⟩;rw[show ((n:π)+ 1 - 1).Φ=n by ext]at hN;rwa[12,k B F b2 hN]
def Qa {s:St}{p:TE}{Q:VK}(f:η->Zg)(z:n<=1000)(B:∀(i:η) (a:Hp) (R:VK),i<n->ao H a->(∀l k,ao a k->a l=ε->k l\.Ν (aw (f i))->R ?l k)->p (ι (.υ (0+ (i:π)))::s) a R)(t:∀D a b,Q1 a->a D=ε->bT a b ((~~~n).Κ f)->(∀q∈b,H q=ε)->Q ?D (ψ a D (.Ν (b.Κ V.É)))):oQ p s Q (DQ 0 n) H:=by
 erw[λi m ys a=>m=n - i/\i<=n/\∃b:Zn,ys=b.Κ V.É/\ao H a/\bT a b ((~~~i).Κ f)/\∀q∈b,H q=ε,⟨n,by simp,aoN _,[],2,λ_ _ e=>e,{by simp,λi r C w=>by simp at w},λq d=>by simp at d⟩];rintro i m ys a ⟨rfl,F,b,Ų,s2,g,h⟩;let j:@b=i:=by have:=g.1;rw[aog,aoU]at Δ;rwa[Δ]
 cases c:i<n
 .rwa[.Ç {c,[aog,j]▸aop (show i<=1000 by omega) ⋯,λx k y=>?_}];let[Ų,Ų]:=y;rwa[B i β c s2 λl E o A v=>{n - (i+ 1),32,c,b++[l],by cbv,s2.ν o,5,λq d=>?_}]
  .rw[apC,aoE];rwa[(g.Μ o).ċ v]
  .rcases aov.mp d with d|d
   .rwa[h q d]
   .rw[aok.mp d];rwa[s2.free A]
 .let e:i=n:=∅
  subst e;rwa[.Α {aoo _,[aog,j]▸aot z ⋯,λD u=>t D a b s2 u g h}]
def TV {rs:Zn}{d:Za3}(h:bT H rs W)(c:bT H F d):bT H (rs++F) (W++d):=by
 rwa[by rw[aoj,aoj,h.1,c.1],λi r f b a=>?_];cases e:i<@rs
 .rw[aoq e]at b;rw[aoq (by rw[<-h.1];rwa[e])]at a;rwa[h.2 i r f b a]
 .rw[aoz ∅]at b;rw[aoz (by rw[<-h.1];omega),<-h.1]at a;rwa[c.2 _ r f b a]
def Gn {a:θ Γ.ę}{p:Γ.Pos}{b:θ Γ.ę}{env:Γ.Env}:Γ.Ο (.ń a j p::b) env=(ς,Γ.å (.ń a j p) env)::Γ.Ο b env:=rfl
seal L2.PE L2.PS L2.hL L2.PA L2.PT
unseal L2.PE L2.PS L2.hL L2.PA L2.PT
inductive Qb (vs:Zb)(H:Hp)(Q:VK)(E_:XK):ο
 |mk (a wa:Zs)(T:Za3)(L i:η)(w:Zg):vs=[?a,.υ i,?wa]->Ċ H a T->M11.Tab L T->i<@T->H wa\.Ò (aw w)->M11.aS L w->Q (.υ (M11.Þ T w i)) H->Qb vs H Q E_
def Qc (T:ų):T.led.Ok P w Β 2 Qb:=by
 rwa[T.led.on Fy (λC O l s H M Q E D h=>?_)]
 .let[a,q,I,L,i,ws,Ų,m,j,G,c,b,k]:=h
  refine{_,{{AN (cU 3 Fy.nd)
   {{bp 1 Fy.nd ((0|||1)|||(LP D #[3]))}},aZ (pv 1)}},?_}
  rwa[_,Ų,q,Ų,{_,bG.of c},?_];rwa[cF (xs:=aw ws) (λn d f=>∃v:Zc,d=#v[?a,.υ (M11.Þ I Rs i),?q,v]/\f=H) ⟨ε,22⟩ (λn d f _ ζ=>by let[_,_,e]:=ζ;rwa[[e]▸bG.of c]) ?_ ?_]
  .rintro n y d f J ⟨v,Ų,rfl⟩;let[z,Ų,o]:=bW J;let p:=b z (aoi o);let g:=M11.jF j (Ay n b) G;let[R,r,row,x,t,F,N,B]:=gy m j g;let u:=j.qD;erw[1212,a,11122,ay.of x,bZ t,12,z,2,p.1,3];erw[r,11122,ay.of F,bX (bR (B _ (M11.jd p)))];rwa[_,by rw[CW o];rfl,2]
  .rintro d f ⟨v,Ų,rfl⟩;rw[aF,apc];rwa[12,k]
def Xx:Sp:=λc H Q _=>∃(a:Zs)(ns:Zg),c=[?a]/\H a\.Ò AS/\@ns<=2000/\∀l b,Q1 b->b l\.Ò (aw (M11.back ns))->Q ?l b
def ab3:V->V
 |.υ z=>.υ (-z)
 |v=>v
def Xy (T:ų):T.back.Ok P w Β 1 Xx:=by
 rwa[T.back.on Xl (λj q c s H p Q E r h=>?_) (len:=by rintro _ _ _ _ ⟨a,ns,Ų,_⟩;rfl)]
 .let[a,ns,Ų,b,æ,k]:=h;erw[_,{{aZ (Zy #[eK (fns:=[]) (ixs:=[]) (cl:=[]) Ų (Yn Ų T.Li #[0] Ų) (b0 [] Ų þ.intro Ų) (λC s H ex=>(Ev (pv 0)))])}}];let g:(aw ns).ķ.ü<=Ε:=by rw[arB,aF];rwa[aot æ ⋯]
  erw[12,a,aw ns,2,bG.of b];rwa[jj (aw ns).ķ ab3 (Yo xb) (Wm xb) (Q8 (bG.of (K:=K) b)) g (λi x d R o=>?_) (λD f=>?_)]
  .let[z,Ų,_]:=bW (ns:=ns.ķ) (by unfold aw at d ⊢;rw[θ.map_reverse];rwa[d]);rwa[12,z,2,o]
  .rwa[D,12,.Α {ay.of aj,λl m=>?_}]
   let e:((aw ns).ķ.Κ ab3)=aw (M11.back ns):=by unfold aw M11.back;rw[<-θ.map_reverse,ao4,ao4];rfl
   rwa[k l _ ((ao.ψ f).ν (ao.ψ m)) (by rw[aj,e])]
def TX (w:Zg):@(M11.back w)=@w:=by unfold M11.back;rw[aog,arB]
inductive Gp (vs:Zb)(H:Hp)(Q:VK)(E_:XK):ο
 |mk (wa ia:Zs)(w:Zg)(Im:Za3):vs=[?wa,?ia]->H wa\.Ò (aw w)->bM H ia Im->M11.aS @Im w->@w<=1000->(∀u∈Im,@u<=300)->@Im<=1000->(∀l H',Q1 H'->H' l\.Ò (aw (Ϭ w))->Q ?l H')->Gp vs H Q E_
def Jt {Im:Za3}{s:π}(h:∀u∈Im,@u<=300):@(M18.jZ Im s)<=300:=by
 let a:@(Im.á (s.Ä - 1) [])<=300:=by
  rw[aom]
  cases e:Im[s.Ä - 1]? with
  |ε=>exact aoN _
  |ι w=>exact h w (aoi e)
 unfold M18.jZ;split
 .rwa[a]
 .rw[TX];rwa[a]
def TY {Im:Za3}{w:Zg}(h:∀u∈Im,@u<=300):@(Ϭ w)<=300* @w:=by
 induction w with
 |nil=>exact aoN _
 |È s w a=>have:=Jt (s:=s) h;show @(M18.jZ Im s++M18.fill Im w)<=_;rw[aoj,aoA,η.mul_succ];ext
def Gq (T:ų):T.uS.Ok P w Β 2 Gp:=by
 rwa[T.uS.on lK (λcf AA N s H vs Q E hr h=>?_)]
 .let[wa,Z,w,Im,Ų,i,I,J,ny,c,hIn,k]:=h
  erw[_,{{KB lK.nd Op,ž (kZ (pv 0)) (cU 3 lK.nd)
    {{wn lK.nd (1|||(Ix (EQ #[3]) ak)),aX (Lo Kh (pv 2) #[Yq (QN (a9 pX (pv 3) ak (bq _)) (pv 4) (pc T.back (Xy T) hr #[4]))])}},aZ (Zy #[2])}}]
  let[L,U,p]:=id I;let j4:@L=@Im:=p.1;rwa[aoN _,λa g=>?_];let X:ao H (Ϻ (.Ν [])):=ao.ψ g;let h0:ψ H a (.Ν []) a\(.Ν (aw (Ϭ (w.Χ 0)))):=aj;erw[12,wa,2,{_,bG.of (X^i)}];rwa[cF (xs:=aw w) (λn C d=>∃G R:Zc,C=#v[?wa,?Z,?a,G,R]/\ao H d/\d a\.Ν (aw (Ϭ fg))) ⟨ε,ε,2,X,h0⟩ (λn C d _ ζ=>by let[_,_,_,s,_]:=ζ;rwa[bG.of (s^i)]) ?_ ?_]
  .rintro n y C d hn ⟨G,R,Ų,s2,f⟩;let[z,Ų,Y]:=bW hn;let hs:=J z (aoi Y);obtain⟨t,B⟩:∃S,Im[z.Ä - 1]?\S:={Im[z.Ä - 1]'∅,aoe ∅}
   obtain⟨j,O⟩:∃S,L[z.Ä - 1]?\S:={L[z.Ä - 1]'∅,aoe ∅}
   change t=im at B;change j=W at O;let r:=p.2 γ O B;let B9:=c im (aoi B);let ez:(if z<0 then -z else z) - 1=((z.Ä - 1:η):π):=by split <;> ext
   erw[1212,z,21122,Z,11,?W,22,ay.of (s2^U),([ez]▸bZ O)];let e1:Im.á (z.Ä - 1) []=im:=by rw[aom,B];rfl
   let m:=TY (w:=w.Χ n) c;rw[aoX]at m;let u:@(Ϭ fg)<=300000:=aot m (aot (η.mul_le_mul_left 300 (show min n @w<=1000 by omega)) ⋯);erw[12,.Α {21,ay.of f},λv x=>∃(q:Zs),v=?q/\ao d x/\x q\.Ò (aw (M18.jZ Im z)),5]
   .rwa[12112212,cQ (λh=>?_) (λh=>?_)]
    .let M:(0:π)<z:=aoS h;erw[12,W,2,λ_ _ e=>e];unfold M18.jZ;rw[aoO M,e1];rwa[s2^r]
    .let M:¬(0:π)<z:=λq=>h (aoP q)
     rwa[12,W,im,2,s2^r,3,λl x D h3=>{l,2,D,5}];unfold M18.jZ;rw[aoK M,e1];rwa[h3]
   rintro v x ⟨q,Ų,D,hq⟩;let F:=Jt (s:=z) c;erw[a,q,1122,D^f,hq,5]
   .rw[aF,aF];rwa[aot (η.add_le_add u F) ⋯]
   erw[112,λb o e=>[aq (QA g)]▸D^s2^e];rw[aj,<-ï,CZ Y]
  .rintro C d ⟨G,R,Ų,s2,f⟩;rw[aF,apc]at f;rwa[12,a,12,.Α {ay.of f,λl hl=>k l _ (s2.ν (ao.ψ hl)) aj}]
def Rh (T:Za3)(b:Ϣ)(a:Zh)(i j:η):ο:=∃r∈a,j=M11.Þ T (wy b r) i
inductive Qd (C:Zs)(vs:Zb)(H:Hp)(Q:VK)(E_:XK):ο
 |mk (m ha dx fl:Zs)(fs:θ (Ñ×V))(T:Za3)(L:η)(ws:Ϣ)(hs:Zh):vs=[?m,?ha]->H m\.ins C dx fs->fs.ω (VO:Ñ)\.υ @T->fs.ω (Z5:Ñ)\?fl->Ċ H fl xz->M11.Tab L T->LW L T ws->H ha\.Ν (aw (bC hs))->(∀r∈hs,r<@T)->@hs<=1000->(∀F H',Q1 H'->M19.Cz 0 (Rh T ws hs) F->Q (.bl (decide (@F=@T))) H')->Qd C vs H Q E_
structure Fs (T:Za3)(ws:Ϣ)(hs F:Zh)(kvs:θ (Key×V)):ο where
 nd:F.Á
 lt:∀i∈F,i<@T
 z:0∈F
 mn:∀P:η->ο,P 0->(∀x y,P x->Rh T ws hs x y->P y)->∀x∈F,P x
 kl:@kvs<=@F
 kv:∀i:η,Pc (Sum.Α (i:π))=ε↔i∉F
def Fs.add {T:Za3}{ws:Ϣ}{F:Zh}{d:θ (Key×V)}(h:Fs T ws B F d){i j:η}(k:i∈F)(hR:Rh T ws B i j)(g:j<@T)(l:j∉F):Fs T ws B (F++[j]) (ú d (Sum.Α (j:π)) (.bl ρ)):=by
 rwa[?_,λx c=>?_,Of h.z,λP f B x c=>?_,?_,λx=>?_]
 .rw[apb];rwa[h.nd,by simp,λa m b n=>by cbv]
 .rcases aov.mp c with c|c
  .rwa[h.lt x c]
  .rw[aok.mp c];rwa[g]
 .rcases aov.mp c with c|c
  .rwa[h.mn P f B x c]
  .rw[aok.mp c];rwa[B i j (h.mn P f B i k) hR]
 .rw[lZ _ ((h.kv j).mpr l),aoj,aoj];have:=h.kl;simp only[aoA,aoV];ext
 .rw[fI];cases e:x=j
  .subst e;rw[aoO Ų];simp
  .rw[aoK (λz=>e (by injection z with z;omega)),h.kv];simp[e]
theorem AF (T:ų):T.pE.Ok P w Β 1 (Qd A.bE):=by
 rwa[T.pE.on d0 (λcf AA Ψ s H vs Q E X h=>?_)]
 .let[m,ha,dx,fl,fs,TT,L,ws,J,Ų,hm,L6,Y,hFa,hT,qA,Gk,VN,xt,k]:=h;let y4:=iC X
  erw[_,{{KB d0.nd (bH #[ak]),ZV d0.nd (vJ (sj ak mJ vI) Ų Ų (by simp) ⋯),wn d0.nd ak,bS (Po (a9 ot (pv 4) (2<<<0) (bq _))
    {{ž Cf (cU 5 d0.nd)
     {{bp 6 d0.nd (((0<<<1)|||5)|||(2|||4)),bS (bL (qT (ky y4 (pv 6) (pv 3)))
      {{iU y4 (pv 3) (pv 6) mJ Ų,aX (RI #[6])}}
      bf)}},wn d0.nd (Z2 (pv 4) ak)}}),aZ (kx dS (2<<<0) (0<<<1) (bq _))}}]
  let sY:=hT.top;let ab5:=hT.pos;let ny:@ws=@TT:=qA.lw.1;rwa[4,λg xr=>?_];let s0:ao H (ψ H g (.Ν [.υ 0])):=ao.ψ xr;let h0:ψ H g (.Ν [.υ 0]) g\(.Ν (aw (bC [0]))):=aj;change ψ H g _=H0 at s0 h0 ⊢;intro d hd;erw[aj,[(Sum.Α 0,.bl ρ)],24];generalize hH1:ψ (ψ H0 d (.dK [])) d _=H1;let Ng:H1 d\(.dK [(Sum.Α 0,.bl ρ)]):=by rw[<-hH1,aj];rfl
  let s1:ao H0 H1:=λb o e=>by rw[<-hH1,aq Cs,aq Cs];rwa[e]
  let s01:=s0.ν s1;let h1:=s1^h0;let nld:H d=ε:=s0.free hd
  let F1:Fs TT ws J [0] [(Sum.Α 0,.bl ρ)]:={by simp,λi N=>by rw[aok.mp N];ext,by simp,λP h0 _ x hx=>[aok.mp hx]▸h0,aoo _,λi=>by
   cases e:i=0
   .subst e;rw[show bF [((Sum.Α 0:Key),V.bl ρ)] (Sum.Α ((0:η):π))=ι (.bl ρ) from cY Ų];simp
   .rw[cR (λz=>e (by injection z with z;omega))];simp[e];rfl}
  let go:∀i r,i<@TT->r∈J->M11.Þ TT Z8 i<@TT/\∃u,ws[r]?\u/\wy ws r=wd u:=λi r N X=>by
   let pM:=VN r X;obtain⟨fA,hu⟩:∃gx,ws[r]?\gx:={ws[r]'∅,aoe ∅}
   let ew:wy ws r=wd (fA):=by unfold wy;rw[aom,hu];rfl
   rwa[51,hu,ew];rw[ew];rwa[M11.jF hT (mG (qA.ok r _ hu).1) N]
  erw[λ U O=>∃(F:Zh)(a:θ (Key×V))(B p:Zc)(at_:π),U=#v[?m,?ha,?g,?d,.υ at_,B,p]/\ao H O/\O g\.Ν Ch/\O d\.dK a/\Fs TT ws J F a/\∀i∈F,∀j,Rh TT ws J i j->j∈F,5]
  .erw[λms σ O=>∃(F:Zh)(a:θ (Key×V))(B p:Zc)(n:η),ms=300 - n/\σ=#v[?m,?ha,?g,?d,.υ (n:π),B,p]/\ao H O/\O g\.Ν Ch/\O d\.dK a/\Fs TT ws J F a/\n<=@F/\∀i∈F.Χ n,∀j,Rh TT ws J i j->j∈F,⟨_,[0],_,ε,ε,(0),22,s01,h1,Ng,F1,aoN _,λi N=>by simp at N⟩]
   rintro ms σ H2 ⟨F,a,B,p,n,Ų,Ų,s2,R,hd2,l,F3,W⟩;let hFl:@F<=300:=aot (M11.eG @TT F l.nd l.lt) sY;erw[1212,g,12,.Α (ay.of R),112212];rwa[cQ (λh=>?_) (λh=>?_)]
   .let FN:n<@F:=by let h':(n:π)<(@(aw (bC F)):π):=aoS h;rw[aF,eU]at h';ext
    obtain⟨jv,gn⟩:∃gx,F[n]?\gx:={F[n],aoe FN}
    change jv=M at gn;let hi0:=aoi gn;erw[λ U O=>∃(F:Zh)(a:θ (Key×V))(B p:Zc)(n':η),U=#v[?m,?ha,?g,?d,.υ (n':π),B,p]/\ao H O/\O g\.Ν Ch/\O d\.dK a/\Fs TT ws J F a/\n'<=@F/\(∀i∈F.Χ n',∀j,Rh TT ws J i j->j∈F)/\n'=n+ 1/\n<300,λ U O ζ=>by let[F,a,B,p,n',e,b1,b2,b3,b4,b5,b6,b7,b8]:=ζ;rwa[300 - n',3,F,a,B,p,n',2,e,b1,b2,b3,b4,b5,b6]];erw[12,ha,2,{_,ay.of (s2^Gk)}]
    refine cF (xs:=aw (bC J)) (λt σ Z=>∃(C:Zh)(a:θ (Key×V))(B p:Zc),σ=#v[?m,?ha,?g,?d,.υ (n:π),B,p]/\ao H Z/\Z g\.Ν (aw (bC (F++C)))/\Z d\.dK a/\Fs TT ws J (F++C) a/\∀r∈J.Χ t,M11.Þ TT Z8 M∈F++C)
     {[],a,B,p,2,s2,[aoJ]▸R,hd2,[aoJ]▸l,λr X=>by simp at X} (λt σ Z _ ζ=>by let[_,_,_,_,_,s,_]:=ζ;rwa[ay.of (s^Gk)]) ?_ ?_
    .rintro t y σ Z ht ⟨C,a,B,p,Ų,s3,I,G,c,f⟩;let[z,Ų,hz]:=bW ht;let[r,X,Ų]:=Jo hz;let hrm:=aoi X;let S:M∈F++C:=aoF _ hi0;let[Jc,u,hu,ew]:=go M r (c.lt M S) hrm;let hm3:=s3^hm;let[bV,agC,ab9]:=hFa.Μ s3
     let agA:@bV=@TT:=by have:=ab9.1;unfold e9 at Δ;rw[aog,ny]at Δ;rwa[Δ]
     let pM:=VN r hrm;obtain⟨vo,g1⟩:∃gx,bV[r]?\gx:={bV[r]'∅,aoe ∅}
     change vo=fp at g1;let hfp:=ab9.2 r fp BA g1 (by unfold e9;rw[aon,hu];rfl);let gF:(F++C)[n]?\M:=by rw[aoq FN];rwa[gn]
     erw[12,m,A.bE,dx,112,hm3,fy T,T.vX,Y,12,fl,11,?fp,22,ay.of agC,bZ g1,1212,g,11122,ay.of I,bX (bR (pS gF)),fp,11122,ay.of hfp,bX (bR (mI (c.lt M S)))];rw[<-ew];let Qe:Rh TT ws J M (M11.Þ TT Z8 M):={r,hrm,2}
     let hdn:∀(F2:Zh),M11.Þ TT Z8 M∈F2->(∀x∈F++C,x∈F2)->∀r'∈J.Χ (t+ 1),M11.Þ TT (wy ws r') M∈F2:=λF2 h1 h2 r' D=>by
      rw[ao2,X]at D;rcases aov.mp D with D|D
      .rwa[h2 _ (f r' D)]
      .let e:r'=r:=by simpa using D
       rw[e];rwa[h1]
     change M11.Þ TT Z8 M=j at Jc Qe hdn ⊢;rwa[15,λ_ _ h=>h];erw[1212,d,12,dF.k (k:=Sum.Α (j:π)) G,12];cases hj:j∈F++C
     .let hv:¬bF a (Sum.Α (j:π):Key)=ε:=λz=>((c.kv j).mp z) hj
      cases q:bF a (Sum.Α (j:π):Key) with
      |ε=>exact Ρ q hv
      |ι v=>exact dz {C,a,112,s3,I,G,c,hdn _ hj λx hx=>hx}
     .rw[(c.kv j).mpr hj];let T2:@(F++C)<=300:=aot (M11.eG @TT _ c.nd c.lt) sY;erw[1212,d,12,lz.k (k:=Sum.Α (j:π)) G (aop (show @a<=300 by have:=c.kl;omega) ⋯)];let s4:ao H (ψ Z d (.dK (ú a (Sum.Α (j:π)) (.bl ρ)))):=λb o e=>by rw[aq (QA nld)];rwa[s3^e]
      let Uy:ψ Z d (.dK (ú a (Sum.Α (j:π)) (.bl ρ))) d\(.dK (ú a (Sum.Α (j:π)) (.bl ρ))):=aj;let hl4:ψ Z d (.dK (ú a (Sum.Α (j:π)) (.bl ρ))) g\(.Ν (aw (bC (F++C)))):=by rw[aq (bD I G (by cbv))];rwa[I]
      erw[12,.Α {21,ay.of hl4},12,g,1122,hl4,5]
      .rw[aF,eU];rwa[aop T2 ⋯]
      erw[C++[j],1112,λb o e=>[aq (QA xr)]▸s4^e,5,[aq (bD Uy hl4 f!"")]▸Uy,5]
      .rw[aj,<-ao6,yC,ï];rfl
      .rw[<-ao6];rwa[c.add S Qe Jc hj]
      .rwa[hdn _ (by simp) λx hx=>?_]
       rw[<-ao6];rwa[Of hx]
    .rintro σ Z ⟨C,a,B,p,Ų,s3,I,G,c,f⟩;rw[aF,eU,apc]at f;rwa[121122,F++C,a,B,p,n+ 1,5,s3,I,G,c,by rw[aoj];ext,λi N j hR=>?_,23]
     .rfl
     .rw[aqV ∅,ao2,gn]at N;rcases aov.mp N with N|N
      .rwa[Of (W i N j hR)]
      .let e:i=M:=by simpa using N
       subst e;let[r,X,e2]:=hR;rw[e2];rwa[f r X]
   .let hge:@F<=n:=by
     let h':¬(n:π)<(@(aw (bC F)):π):=λz=>h TD
     rw[aF,eU]at h';ext
    rw[apq hge]at W;rwa[F,a,B,p,12,s2,R,hd2,l,W]
  rintro U H2 ⟨F,a,B,p,at_,Ų,s2,R,hd2,l,W⟩;let Aj:=s2^hm;erw[12,g,12,.Α (ay.of R),12,m,A.bE,dx,112,Aj,fy T,T.Fw,L6,2]
  let e:decide (V.υ (@(aw (bC F)):π)=V.υ (@TT:π))=decide (@F=@TT):=by rw[aF,eU,apN];rwa[λz=>by injection z with z;ext,λz=>by rw[z]]
  rw[e];rwa[k F H2 s2 {l.nd,l.z,λx hx y hR=>W x hx y hR,l.mn}]
def jP {w:Zg}(h:M11.aS n (z::w)):(z≠0/\z.Ä<=n)/\M11.aS n w:={h z (aou ..),λx a=>h x (JE a)}
def Qf (s:π)(w:Zg):M11.back (s::w)=M11.back w++[-s]:=by unfold M11.back;rw[θ.reverse_cons,aoE];rfl
def Xz (k:η):M12.st (M11.flip k)= -M12.st k:=by
 unfold M12.st M11.flip;cases h:k % 2=0
 .rw[aoO h,aoO h,aoK ∅];ext
 .rw[aoK h,aoK h,aoO ∅];ext
def Ju (g:η->η->η)(s:π)(w:Zg)(p:η):gw g (s::w) p=gw g w (g O0 p):=rfl
section
variable {rs ps:Za3}{L x:Nat}{D:Nat->Prop}{g:Nat->Nat->Nat}
theorem Mv.dw (m:JO):∀{w:Zg}{p:η},AT w->D p->D (gw g w p)
 |[],_,_,a=>a
 |s::w,p,b,a=>m.dw (w:=w) (p:=g O0 p) (jP b).2 (m.d p _ a (M11.jd (jP b).1))
def Mv.two (m:JO){s:π}(a:s≠0/\s.Ä<=L){p:η}(b:D p):g (M11.pl (-s)) (g O0 p)=p:=by rw[M11.vR a.1];rwa[m.b p _ b (M11.jd a)]
theorem Mv.bw (m:JO):∀{w:Zg}{p:η},AT w->D p->gw g Tu (gw g w p)=p
 |[],_,_,_=>rfl
 |s::w,p,d,b=>by let[c,a]:=jP d;rw[Qf,Gd,Ju g s w,m.bw a (m.d p _ b (M11.jd c))];rwa[m.two c b]
end
def L7 {K:Za1}{q:St}{y:TT}{t:TE}{Q:VK}{rs:Zn}{us:Za3}(p:Zg->ã)(g:H a\.Ν (rs.Κ V.É))(h:bT H rs us)(hz:@us<=5000)(A:∀(b:Hp) (r:Zs) (u:Zg) (R:ã->Hp->ο),Q1 b->u∈us->b r\.Ν (aw u)->(∀k,ao b k->R (p u) k)->y (ι ?r::q) b R)(L:∀(b:Hp) (r:Zs) (R:VK),R ?r b->t (ι ?r::q) b R)(B:∀D b c,Q1 b->b D=ε->bT b c (us.Ö p)->Q ?D (ψ b D (.Ν (c.Κ V.É)))):xR y t q Q LA H:=by
 let J:=h.1;erw[λi m ys b=>m=@rs - i/\i<=@rs/\∃c:Zn,ys=c.Κ V.É/\ao H b/\bT b c ((us.Χ i).Ö p),⟨@rs,by simp,aoN _,[],2,λ_ _ e=>e,{by simp,λi r N F=>by simp at F}⟩];rintro i m ys b ⟨rfl,O,c,Ų,s2,f⟩
 let M:@c<=i:=by let P:=f.1;let G:=aph p (us.Χ i);rw[aoX]at G;ext
 cases d:i<@rs
 .let v:rs[i]?=ι rs[i]:=aoe d
  let o:i<@us:=∅
  let n:us[i]?=ι us[i]:=aoe o
  let w:=h.2 i β v n;rwa[.Ç {iP (ay.of (s2^g)) i ([aog]▸d),[aog]▸aop (show @c<=5000 by omega) ⋯,λx k I=>?_}];let[Ų,z]:=gk (ay.of (s2^g)) i x k ([aog]▸d) I;rw[aon,v]at z;let ex:V.É rs[i]=x:=Za0 z;subst ex;rwa[A k γ s2 (aoi n) (s2^w) λE j=>?_]
  let e:us.Χ (i+ 1)=us.Χ i++[us[i]]:=by rw[ao2,n];rfl
  cases s:p us[i]with
  |ρ=>
   rwa[L E β {@rs - (i+ 1),32,d,c++[rs[i]],by rw[aoE];rfl,s2.ν j,5}];let l:([us[i]].Ö p)=[us[i]]:=by rw[apZ,s];rfl
   rw[e,apV,l];rwa[(f.Μ j).ċ (j^s2^w)]
  |ς=>
   erw[@rs - (i+ 1),32,d,c,2,s2.ν j];let l:([us[i]].Ö p)=[]:=by rw[apZ,s];rfl
   rw[e,apV,l,aoJ];rwa[f.Μ j]
 .let e:i=@rs:=∅
  rwa[.Α {5,[aog]▸aot (show @c<=5000 by omega) ⋯,λD C=>?_}]
  .have:=fm (K:=K) (ay.of (s2^g));rw[aog,<-e]at Δ;rwa[Δ]
  .rw[apq ∅]at f;rwa[B D b c s2 C f]
structure Md (L:η)(D:η->ο)(g:η->η->η):ο where
 d:∀p k,D p->k<2* L->D (g k p)
 b:∀p k,D p->k<2* L->g (M11.flip k) (g k p)=p
def Hd (D:η->ο)(g:η->η->η)(R:Za3):ο:=∀w∈R,∀p,D p->gw g w p=p
def Md.mv {D:η->ο}{g:η->η->η}(m:Md n D g){x:η}(a:D x){R:Za3}(h:Hd D g R):Mv R [] n D g x:={a,m.d,m.b,h,λ_ z=>by ext z}
def Mv.md' {rs:Za3}{x:η}{D:η->ο}{g:η->η->η}(m:Mv rs W n D g x):Md n D g:={m.d,m.b}
section
variable {L:Nat}{D:Nat->Prop}{g:Nat->Nat->Nat}
def Md.dw (m:Md L D g){w:Zg}{p:η}(b:M11.aS L w)(a:D p):D (gw g w p):=(m.mv a (R:=[]) λ_ z=>by ext z).dw b a
def Md.bw (m:Md L D g){w:Zg}{p:η}(b:M11.aS L w)(a:D p):gw g Tu (gw g w p)=p:=(m.mv a (R:=[]) λ_ z=>by ext z).bw b a
end
def im (U:η->Zg)(z:π):Zg:=if 0<z then U (z.Ä - 1) else M11.back (U (z.Ä - 1))
def StU (L:η)(U:η->Zg):ο:=∀k,k<L->M11.aS L (U k)
def acd (U:η->Zg){z:π}(h:z≠0):im U (-z)=M11.back (im U z):=by
 unfold im;rw[π.natAbs_neg];cases a:0<z
 .rw[aoO a,aoK ∅]
 .rw[aoK a,aoO ∅,CV]
def gU (g:η->η->η)(U:η->Zg)(k p:η):η:=gw g (im U EM) p
theorem L8 (g:η->η->η)(U:η->Zg){L:η}:∀{w:Zg}{p:η},AT w->gw (gU g U) w p=gw g (Id w) p
 |[],_,_=>rfl
 |s::w,p,h=>by let[b,a]:=jP h;rw[Ju,L8 g U a,show s::w=[s]++w from rfl,M16.kg,M16.sF,Gd];unfold gU;rw[vZ b.1]
def VR (k:η):Zg:=[((k+ 1:η):π)]
def ace (L:η):StU L VR:=λk b s a=>[aok.mp a]▸{33}
def FT.md {T:Za3}(f:FT W [] n m T):Md n (λi=>i<m) (M11.nx T):=(f.mv [] f.pos λ_ z=>by ext z).md'
def FT.Ŀ {T:Za3}(f:FT W [] n m T){u v:Zg}(i:M11.aS n u)(d:M11.aS n v)(e:M11.Þ T u 0=M11.Þ T v 0){p:η}(c:p<m):gw (M11.nx T) u p=gw (M11.nx T) v p:=by let[g,j,h]:=f.go (f.mv [] c λ_ z=>by ext z);let b:=h u 0 i f.pos;let a:=h v 0 d f.pos;rw[j]at b a;rwa[b.Τ.ν ((apW g e).ν a)]
def Jv {c:Type}{z:c}{R:c->c->ο}{F d:θ c}(h:M19.Cz z R F)(b:M19.Cz z R d):@F=@d:=θ.Perm.length_eq ((θ.perm_ext_iff_of_nodup h.nd b.nd).mpr λa=>{h.mn (·∈d) b.zm (λx y e r=>b.cl x e y r) a,b.mn (·∈F) h.zm (λx y e r=>h.cl x e y r) a})
def Jw (T:Za3)(a:Ϣ)(h:Zh):ο:=∃F,M19.Cz 0 (Rh T a h) F/\@F=@T
def Gr {b:Zh}(h:bC B=bC b):B=b:=(θ.map_inj_right (λx y q=>∅)).mp h
def T3 {us:Ϣ}{p:Zg->ã}(h:bT H F ((us.Κ bC).Ö p)):bT H F ((us.Ö λu=>p (bC u)).Κ bC):=by rw[θ.filter_map]at h;rwa[h]
structure WB (H0 H:Hp)(d:Zs)(ps:Zn)(g:η->η)(n:η)(kvs:θ (Key×V)):ο where
 s:ao H0 H
 d:H d\(.dK kvs)
 l:@kvs<=n
 a:∀(z:π) v,Pc Pi\v->∃i p,i<n/\ps[i]?\p/\v=?p/\z=(g i:π)
 b:∀i,i<n->∃v,Pc (Sum.Α (g i:π))\v
def Qg {Im:Za3}{w:Zg}(c:∀u∈Im,ϳ u)(e:M11.aS @Im w):M11.aS n (Ϭ w):=λs a=>by
 let[z,d,a]:=apr.mp a;let d:=e z d
 let b:Im.á (z.Ä - 1) []∈Im:=by rw[aom,aoe (show z.Ä - 1<@Im by omega)];rwa[aqU _]
 unfold M18.jZ at a;split at a
 .rwa[c _ b s a]
 .rwa[M11.jG (c _ b) s a]
theorem sZ {H:Hp}:∀{ys:Zb}{P:η->Zg->ο},(∀(i:η)(v:V),ys[i]?\v->∃p w,v=?p/\H p\.Ò (aw w)/\P i w)->∃a b,ys=a.Κ V.É/\cz H a b/\∀i w,b[i]?\w->P i w
 |[],_,_=>{[],[],2,{2,(λi p w e=>by simp at e)},λi w e=>by simp at e}
 |y::ys,P,h=>by
  let[a,b,Ų,f,j]:=sZ (ys:=ys) (P:=λi=>P (i+ 1)) λi v e=>h (i+ 1) v (by simpa using e)
  let[p,w,Ų,g,k]:=h 0 y rfl;rwa[p::a,w::b,2,{by rw[aoA,aoA,f.1],λi q u c d=>?_},λi u e=>?_]
  .cases i with
   |Ŀ=>ext c;ext d;rwa[g]
   |ŧ i=>exact f.2 i q u (by simpa using c) (by simpa using d)
  .cases i with
   |Ŀ=>ext e;rwa[k]
   |ŧ i=>exact j i u (by simpa using e)
theorem sub_len:∀{l m:Zh},l.Á->(∀x∈l,x∈m)->@l<=@m
 |[],m,_,_=>aoN _
 |a::l,m,h,s=>by
  let[e,d]:=ao0.mp h;let b:=s a aou;have:=sub_len (m:=m.erase a) d λx c=>(θ.mem_erase_of_ne (λz=>e (by rw[<-z];rwa[c]))).mpr (s x (JE c))
  rw[ap3 b]at Δ;have:=θ.length_pos_of_mem b;rw[aoA];ext
def acf {l:Zh}{f:η->η}(b:l.Á)(h:∀x∈l,f x∈l)(inj:∀x y,x∈l->y∈l->f x=f y->x=y){y:η}(i:y∈l):∃x∈l,f x=y:=by
 rwa[ao3 λno=>?_]
 let d:(l.Κ f).Á:=aqa.mpr (arJ (λc g n e=>n (inj β c g e)) b)
 have:=sub_len (l:=y::l.Κ f) (m:=l) (ao0.mpr {λq=>no (by let[x,a,e]:=ao1.mp q;rwa[x,a,e]),d}) λx a=>by cbv
 rw[aoA,aog]at Δ;ext
theorem Jx:∀{n:η}{h:Zh},@h=n->(∀x∈h,x<m)->h∈M20.gf m n
 |0,h,e,_=>by rw[θ.length_eq_zero_iff.mp e];rwa[aok.mpr Ų]
 |n+ 1,h,e,a=>by
  let b:h≠[]:=λz=>by rw[z]at e;ext e
  let c:=ap5 b;rw[<-c];rwa[apr.mpr {h.ĝ,Jx (by rw[θ.length_dropLast,e];rfl) λx d=>a x (θ.dropLast_subset _ d),ao1.mpr {_,aoZ.mpr (a _ (θ.getLast_mem b)),2}}]
def hW (a:Ϣ)(h:Zh)(k:η):Zg:=(h.Κ (wy a)).á k []
def v7 {a:Ϣ}{k r:η}(e:B[k]?\r):hW a B k=wy a r:=by unfold hW;rw[aom,aon,e];rfl
def nH {T:Za3}{a:Ϣ}(lw:LW n T a){r:η}(d:r<@T):M11.aS n (wy a r)/\M11.Þ T (wy a r) 0=r/\@(wy a r)<=300:=by
 let e:a[r]?\(a[r]'([lw.lw.1]▸d)):=aoe _
 let[b,c,f]:=lw.ok r _ e;unfold wy;rw[aom,e];rwa[mG b,c,[rT]▸f]
section
variable {L:Nat}{A:Za3}{ws:List Zh}{h:Zh}
def acg {T:Za3}(c:∀r∈A,AT r):h∈M20.ri T TU @T A L↔(@h=L/\∀x∈h,x<@T)/\∀r∈A,M11.Þ T (UF r) 0=0:=by
 rw[M20.uE (λr a s b=>(c r a s b).1),apa];rwa[and_congr {λq=>M20.jm q,λq=>Jx q.1 q.2} ?_];unfold M20.ok;rw[aqQ];rwa[forall_congr' λr=>forall_congr' λa=>?_]
 let d:M20.gl r<=L:=(M20.zp r L).mpr λs b=>(c r a s b).2
 rw[aoP d];rwa[apD]
end
def pT (n:η)(R:Za3):ο:=@R<=30/\∀u∈R,ϳ u/\@u<=30
def jx (H:Hp)(q:Zs)(n:η)(R:Za3):ο:=∃r,H q\.Ò [.υ (n:π),?r]/\bM H r R
inductive Jy (vs:Zb)(H:Hp)(Q:VK)(E_:XK):ο
 |mk (a:Zs)(cs:Zg)(L:η):vs=[?a,.υ L]->H a\.Ν (aw cs)->@cs<=63->1<=L->L<=40->(∀lt ws H',Q1 H'->H' lt\.Ò (aw ws)->M11.aS L ws->@ws=@cs->Q ?lt H')->Jy vs H Q E_
def ach:Sp:=λc H Q _=>∃(a:Zs)(cs:Zg),c=[?a]/\H a\.Ν (aw cs)/\@cs<=24/\∀q R b,Q1 b->jx b q 2 R->pT 2 R->Q ?q b
inductive VS (vs:Zb)(H:Hp)(Q:VK)(E_:XK):ο
 |mk (g:Zs)(L m:η)(z:π)(R:Za3):vs=[?g,.υ m,.υ z]->jx H g L R->pT L R->@R<=6->1<=L->L<=3->L<=m->m<=13->(∀q R' H',Q1 H'->jx H' q m R'->pT m R'->Q ?q H')->VS vs H Q E_
def T4 (K:Za1):Sp:=λg H Q _=>∃(a:Zs)(ns:Zg),g=[?a]/\ay K H a AS/\@ns<=63/\∀(l e f:Zs)(c d:η)(A B:Za3)(b:Hp),Q1 b->b l\.Ν [?e,?f]->jx b e c A->jx b f d B->1<=c->c<=13->1<=d->d<=13->pT c A->pT d B->Q ?l b
def XA:Sp:=λa H Q _=>∃(k:η),a=[.υ k]/\Q (.υ EM) H
def vq (T:ų):T.qm.Ok P w Β 2 Jy:=by
 rwa[T.qm.on ig (λM AA t s H Y Q E C h=>?_)]
 .let[a,cs,L,Ų,D,S,I,W,k]:=h
  erw[_,{{KB ig.nd Op,py (cU 3 ig.nd)
    {{wn ig.nd (ZS C #[3,ak]),LE ig.nd (Z2 ak (FM (aJ df (pv 4) ak) (pv 1))),bS (bL (FS (FM (pv 4) ak) ak (bq _))
     {{LE ig.nd (Ix ak (pv 5))}}
     bf),aX (RI #[5])}},aZ (Zy #[2])}}]
  rwa[aoN _,λl B=>?_];let N:l≠a:=λe=>by cbv
  let x:ao H (ZP (.Ν [])):=ao.ψ B;erw[12,a,2,{_,ay.of (x^D)}]
  refine cF (xs:=aw cs) (λi n j=>∃(ws:Zg)(q u v:Zc),n=#v[?a,.υ L,?l,q,u,v]/\ao H j/\j l\.Ν (aw ws)/\M11.aS L ws/\@ws=i)
   {[],ε,ε,ε,2,x,aj,(λs g=>by ext g),2} (λi n j _ ζ=>by let[_,_,_,_,_,s,_]:=ζ;rwa[ay.of (s^D)]) ?_ ?_
  .rintro i y n j R ⟨ws,q,u,v,Ų,s2,d,f,c⟩;let[z,Ų,J]:=bW R;let O:i<@cs:=(aoh.mp J).1;rwa[12,z,(2),244,λr C=>?_];let e1:=ara (r / 2) (show (L:π)≠0 by omega);let Z:=arP (r / 2) (show (0:π)<(L:π) by omega);erw[121122,{44},12112231122];erw[λ m U=>∃st:π,m=#v[?a,.υ L,?l,.υ z,.υ r,.υ st]/\U=j/\st≠0/\st.Ä<=L,5]
   .erw[1211224212];rwa[cQ (λ_=>?_) (λ_=>{12233})];rwa[12112212233]
   rintro m X ⟨st,Ų,Ų,F,G⟩;erw[12,.Α {21,ay.of d},12,l,1122,d,5]
   .rw[aF];rwa[aop (show @ws<=63 by omega) ⋯]
   rwa[ws++[st],1112,λb o e=>[aq (QA B)]▸s2^e,by rw[aj,ï];rfl,λs g=>?_,by rw[aoj,c];rfl];rcases aov.mp g with g|g
   .rwa[f s g]
   .rw[aok.mp g];rwa[F,G]
  .rintro n j ⟨ws,q,u,v,Ų,s2,d,f,c⟩;rw[aF]at c;rwa[12,l,12,.Α {ay.of d,λlt p=>?_}];rwa[k lt ws _ (s2.ν (ao.ψ p)) aj f c]
def L9 (h:bM H a W)(c:H a\.Ν L)(f:H b\.Ò (aw l)):bM (Ϻ (.Ν (L++[?b]))) a (W++[l]):=by let[e,d,g]:=h;rw[c]at d;ext d;rwa[e++[b],by rw[aj,aoE];rfl,mH (g.ċ f) c]
def Qh (h:bM H a W):∃xs,H a\.Ν xs/\@xs=@W:=by let[d,c,b]:=h;rwa[_,c,by rw[aog,b.1]]
def Gs (T:ų):T.uU.Ok P w Β 3 ach:=by
 rwa[T.uU.on jr (λcf AA Ψ s H vs Q E G h=>?_) (len:=by rintro _ _ _ _ ⟨a,cs,Ų,_⟩;rfl)]
 .let[a,cs,Ų,ha,IZ,k]:=h
  erw[_,{{bp 1 jr.nd Op,KB jr.nd Op,py (cU 3 jr.nd)
    {{aX (RI #[3]),bS (bL (FS (FM (ZS G #[3,ak]) ak) ak (bq _))
     {{aX (ŵ (pv 1) #[pc T.qm (vq T) G #[2,ak]]),KB jr.nd Op}}
     bf)}},aZ (bh #[ak,aJ yS (pv 1) (bH #[pc T.qm (vq T) G #[2,ak]])])}}]
  rwa[aoN _,λf L=>?_];let s0:ao H (ψ H f (.Ν [])):=ao.ψ L;let h0:ψ H f (.Ν []) f\(.Ν (([]:Zn).Κ V.É)):=aj;change ψ H f _=H0 at s0 h0 ⊢;rwa[aoN _,λlk I=>?_];let s1:ao H0 (ψ H0 lk (.Ν [])):=ao.ψ I;let h1:ψ H0 lk (.Ν []) lk\(.Ν (aw [])):=aj;let N:f≠lk:=λe=>by cbv
  let l:H lk=ε:=s0.free I;erw[12,a,2,{_,ay.of (s1^s0^ha)}]
  refine cF (xs:=aw cs) (λi W n=>∃(m:Za3)(lk:Zs)(g:Zg)(Y:Zc),W=#v[?a,?f,?lk,Y]/\ao H n/\H lk=ε/\f≠lk/\bM n f m/\(∀u∈m,M11.aS 2 u/\@u<=24)/\@m<=i/\n lk\.Ν (aw g)/\@g<=i)
   {[],lk,[],ε,2,s0.ν s1,l,N,{[],s1^h0,2,λi r ns h1=>by simp at h1},λr G=>by simp at G,aoo _,h1,aoo _} (λi W n _ ζ=>by let[_,_,_,_,_,s,_]:=ζ;rwa[ay.of (s^ha)]) ?_ ?_
  .rintro i y W n hi ⟨m,lk,g,Y,Ų,s2,l,x,Z,hW,D,j,S⟩;let[z,Ų,hz]:=bW hi;let B9:i<@cs:=(aoh.mp hz).1;erw[12,.Α {21,ay.of j},12,lk,1122,j,[aF]▸aop (show @g<=63 by omega) ⋯];let ek:ψ n lk (.Ν (aw g++[.υ z])) lk\(.Ν (aw (g++[z]))):=by rw[aj,ï];rfl
   let s3:ao H (ψ n lk (.Ν (aw g++[.υ z]))):=λb o e=>by rw[aq (QA l)];rwa[s2^e]
   let X:bM (ψ n lk (.Ν (aw g++[.υ z]))) f m:=by let[B,q1,q2]:=Z;rwa[B,[aq x]▸q1,mH q2 j]
   let R:@(g++[z])=@g+ 1:=by rw[aoj];rfl
   change g++[z]=kw at ek R;rwa[15,λ_ _ h=>h];rwa[12,z,(3),244,λr G=>?_];rwa[11224212,cQ (λ_=>?_) (λ_=>{m,lk,kw,12,s3,l,x,X,hW,3,ek,3})];let[xs,J,hxl]:=Qh X;rwa[12,.Α {21,ay.of J},12,lk,kw,(2),2,ek,344,λt u U d C M I0=>?_];erw[f,1122,d^J,aop (show @xs<=63 by omega) ⋯];let w5:=L9 (X.Μ d) (d^J) C;let s5:ao H (ψ U f (.Ν (xs++[?t]))):=λb o e=>by rw[aq (QA L)];rwa[d^s3^e]
   let n5:ψ U f (.Ν (xs++[?t])) f\(.Ν (xs++[?t])):=aj;rwa[aoN _,λq hq=>?_];rwa[m++[u],q,[],12,s5.ν (ao.ψ hq),s5.free hq,(λe=>by cbv),w5.Μ (ao.ψ hq),λv F=>?_,[aoj]▸ar0 D,aj,aoN _];rcases aov.mp F with F|F
   .rwa[hW v F]
   .rw[aok.mp F];rwa[M,3]
  .rintro W n ⟨m,lk,g,Y,Ų,s2,l,x,Z,hW,D,j,S⟩;rw[aF]at D S;let[B,J,O]:=Z;let j4:=O.1;rwa[1212,lk,g,(2),2,j,344,λt u U d C M I0=>?_];rwa[Za4 1,λl1 n1=>?_];generalize e_:ψ U l1 _=H5;let[c1,d1]:=dc e_ n1;rwa[f,l1,1122,c1^d^J,d1,[aog]▸aot (show @B+ 1<=100 by omega) ⋯,λp np=>{Za4 2,λq nq=>?_}];let c2:=ao.ψ (o:=.Ν (B.Κ V.É++[?t])) np;let d2:ψ H5 p (.Ν (B.Κ V.É++[?t])) p\(.Ν ((B++[t]).Κ V.É)):=by rw[aj,aoE];rfl
   let c3:=ao.ψ (o:=.Ò [.υ 2,?p]) nq;let c:=c1.ν (c2.ν c3);rwa[k q (m++[u]) _ ((s2.ν d).ν c) {p,aj,B++[t],c3^d2,((O.Μ d).Μ c).ċ (c^C)} {by rw[aoj];show @m+ 1<=30;ext,λv F=>?_}]
   cbv
def Gu (T:ų):T.uV.Ok P w Β 1 XA:=by
 rwa[T.uV.on Fz (λb e a s H c Q E d h=>?_) (len:=by rintro _ _ _ _ ⟨n,Ų,_⟩;rfl)]
 .let[n,Ų,h]:=h
  erw[_,{{bL ZE
   {{aZ (Ix (Ix ak ak) Cn)}}
   bf,aZ (Z2 ak Cn)}}]
  rwa[1211224212,cQ (λq=>?_) (λq=>?_)]
  .let q:=aoS q;injection q with q
   erw[1122121122,{44},1122];rw[show (0:π) - 1 - (n:π) / 2=M12.st n by unfold M12.st;ext];rwa[h]
  .let q:¬(n:π) % 2=1:=λz=>q (aoP (by rw[z]))
   erw[121122,{44},1122];rw[show (1:π)+ (n:π) / 2=M12.st n by unfold M12.st;ext];rwa[h]
def Bw (T:ų):T.qH.Ok P w Β 2 VS:=by
 rwa[T.qH.on ik (λcf AA J s H vs Q E O h=>?_)]
 .let[g,L,m,z,R,Ų,hg,t,hR6,tW,hL3,N,hm,k]:=h
  erw[_,{{ji (pv 0) (oN Ų (dQ (cU 3 ik.nd) (dQ (Sa ik.nd) lV))),wn ik.nd (dD lj Ų T.iR apk #[4]),ž (IO #[Z2 (pv 3) ak,Z2 (pv 1) ak]) (cU 5 ik.nd)
    {{bS (bL (FS (FM (ZS O #[2,5]) ak) ak (bq _))
     {{aX (ŵ (pv 4) #[bh #[5]])}}
     {{aX (ŵ (pv 4) #[bh #[5,Ev ak]])}})}},aZ (bh #[NL #[3,1],4])}}]
  let[r,M,ps,O,U]:=hg;erw[12,g,12,bG.of M,21121122];rwa[12,r,12,.Α (ay.of O),λl nl=>?_];generalize e_:ψ H l _=H0;let[Z,h0]:=dc e_ nl;erw[121122121122,(L:π)+ 1,(m:π)+ 1,2,{3333}]
  refine du (lo:=(L:π)+ 1) (n:=((m:π)+ 1 - ((L:π)+ 1)).Φ) (λi S x=>∃(a:Zn)(W:Za3)(Y:Zc),S=#v[?g,.υ m,.υ z,.υ L,?l,Y]/\ao H x/\x l\.Ν (a.Κ V.É)/\cz x a W/\@W=@R+ i/\∀u∈W,TW u/\@u<=30)
   {ps,R,ε,2,Z,h0,U.Μ Z,2,λu C=>{λs d=>{((t.2 u C).1 s d).1,aot ((t.2 u C).1 s d).2 N},(t.2 u C).2}} ?_ ?_
  .rintro i S H1 hi ⟨a,W,Y,Ų,s1,j,t1,hW,f⟩;let ql:=t1.1;erw[λ D x=>∃(p:Zs)(u:Zg)(G:Hp),D=#v[?g,.υ m,.υ z,.υ L,?l,.υ ((L:π)+ 1+ (i:π))]/\ao H1 G/\G p\.Ò (aw u)/\(TW u/\@u<=30)/\x=ψ G l (.Ν (a.Κ V.É++[?p])),5]
   .rwa[1212,z,(L:π)+ 1+ (i:π),233,λy hy=>?_];rwa[11224212,cQ (λ_=>?_) (λ_=>?_)]
    .rwa[12,.Α {21,ay.of j},12,Za4 1,λp B=>?_];erw[l,1122,(ao.ψ B) β j,[aog]▸aop (show @a<=100 by omega) ⋯];rwa[p,[(L:π)+ 1+ (i:π)],12,ao.ψ B,aj,{λs d=>?_,by show 1<=30;decide},2];rw[aok.mp d];ext
    .rwa[12,.Α {21,ay.of j},1212,Za4 2,λp B=>?_];erw[l,1122,(ao.ψ B) β j,[aog]▸aop (show @a<=100 by omega) ⋯];rwa[p,[(L:π)+ 1+ (i:π),-1],12,ao.ψ B,aj,{λs d=>?_,by show 2<=30;decide},2];rcases aoC.mp d with rfl|d
     .ext
     .rw[aok.mp d];rwa[43]
   rintro D x ⟨p,u,G,Ų,I,hp,C,rfl⟩;let h2:=I^j;let X:H l=ε:=nl;rwa[a++[p],W++[u],12,λb o e=>[aq (QA X)]▸I^s1^e,by rw[aj,aoE];rfl,mH ((t1.Μ I).ċ hp) h2,by rw[aoj,hW];rfl,λv F=>?_];rcases aov.mp F with F|F
   .rwa[f v F]
   .rw[aok.mp F];rwa[C]
  rintro S H1 ⟨a,W,Y,Ų,s1,j,t1,hW,f⟩;let em:(if (m:π) > (L:π) then (m:π) else (L:π))=(m:π):=by split <;> ext
  erw[1212112];rw[em];rwa[12,Za4 2,λq nq=>?_];let c:=ao.ψ (o:=.Ò [.υ (m:π),?l]) nq;rwa[k q W _ (s1.ν c) {l,aj,a,c^j,t1.Μ c} {3,f}]
def nZ (L:η)(R:Za3):ο:=1<=@R/\@R<=6/\∀u∈R,AT u/\@u<=30
def nZ.o (h:nZ n W):pT n W:={aot h.2.1 ⋯,h.2.2}
def agD:Sp:=λb H Q _=>∃(n:η)(z:π),b=[.υ n,.υ z]/\1<=n/\n<=12/\∀(q r:Zs)(L:η)(R:Za3)(a:Hp),Q1 a->a q\.Ò [.υ L,?r]->bM a r R->1<=L->L<=3->nZ L R->Q ?q a
def Bx (l:Zs)(H:Hp)(p:Zs):ο:=∃r L R,r≠l/\H p\.Ò [.υ ((L:η):π),?r]/\bM H r R/\1<=L/\L<=3/\nZ L R
structure GS (H0 H:Hp)(l:Zs)(gs:Zn)(n:η):ο where
 s:ao H0 H
 f:H0 l=ε
 h:H l\(.Ν (gs.Κ V.É))
 c:@gs<=n
 p:1<=@gs
 g:∀p∈gs,Bx l H p
def Bx.Μ (h:Bx a H b)(s:XL):Bx a I b:=by let[r,L,R,f,e,c,d]:=h;rwa[r,L,R,f,s^e,c.Μ s,d]
theorem rV {H0:Hp}{l r q:Zs}{ps:Zn}{L:η}(h:GS H0 H l F n)(s:XL)(t:cz I ps W)(ok:nZ L W)(x:1<=L)(A:L<=3)(j:I r=ε)(w:ψ I r (.Ν (ps.Κ V.É)) q=ε):ψ (ψ I r (.Ν (ps.Κ V.É))) q (.Ò [.υ (L:π),?r]) l\.Ν (F.Κ V.É)/\GS H0 (ψ (ψ (ψ I r (.Ν (ps.Κ V.É))) q (.Ò [.υ (L:π),?r])) l (.Ν (F.Κ V.É++[?q]))) l (F++[q]) (n+ 1):=by
 let s1:=ao.ψ (o:=.Ν (ps.Κ V.É)) j;let v:ψ I r (.Ν (ps.Κ V.É)) r\(.Ν (ps.Κ V.É)):=aj;let rl:r≠l:=λe=>by rw[e,s^h.h]at j;ext j
 change ψ I r (.Ν (ps.Κ V.É))=u at *;let g:=ao.ψ (o:=.Ò [.υ (L:π),?r]) w;let y:ψ u q (.Ò [.υ (L:π),?r]) q\(.Ò [.υ (L:π),?r]):=aj;change ψ u q (.Ò [.υ (L:π),?r])=m at *;let k:=s.ν (s1.ν g);let i:=k^h.h;let Ï:∀{p},Bx l m p->Bx l (ψ m l (.Ν (F.Κ V.É++[?q]))) p:=λ{p} ζ=>by let[r,L,W,a,b,⟨ps,c,d⟩,e]:=ζ;rwa[r,L,W,a,[aq (bD b i f!"")]▸b,{ps,[aq a]▸c,mH d i},e]
 rwa[i,λb o e=>[aq (QA h.f)]▸(h.s.ν k) b o e,h.f,by rw[aj,aoE];rfl,[aoj]▸ar0 h.c,[aoj]▸η.le_add_left β,λp f=>?_];rcases aov.mp f with f|f
 .rwa[Ï ((h.g p f).Μ k)]
 .rw[aok.mp f];rwa[Ï {r,L,W,rl,y,{ps,g^v,t.Μ (s1.ν g)},x,A,ok}]
def qB:cz H [] []:={2,λi p w h=>by simp at h}
def rp (w:Zg)(n:η):Zg:=(θ.Ê n w).Ì
def qC {w:Zg}{L:η}(b:M11.aS L w)(h:@w* n<=30):M11.aS L (rp w n)/\@(rp w n)<=30:={λs a=>b s (TF a),by unfold rp;rw[C0];rwa[h]}
def Jz (h:1<=n):M11.aS n [1]:=λs a=>[aok.mp a]▸{4,h}
def s2_ (h:2<=n):M11.aS n [2]:=λs a=>[aok.mp a]▸{4,h}
seal L2.PE L2.PS L2.hL L2.PA L2.PT
def fS (T:ų):T.fx.Ok P w Β 1 agD:=by
 rwa[T.fx.on eQ (λcf AA Ψ s H vs Q E hr h=>?_) (len:=by rintro _ _ _ _ ⟨n,z,Ų,_⟩;rfl)]
 .let[n,z,Ų,JA,hn8,k]:=h
  erw[_,{{KB eQ.nd (Sm (bh #[ak]) (pv 0)),ZV eQ.nd Cn,wn eQ.nd Cn,LE eQ.nd (bH #[bh #[ak,bH #[2]],bh #[ak,bH #[2,bh #[ak]]]]),ž (IO #[ak,Z2 (pv 0) ak]) (cU 6 eQ.nd)
    {{bS (bL (FS (FM (pv 0) (pv 6)) ak (bq _))
     {{aX (Me #[bh #[ak,bH #[Sm (bh #[ak]) (pv 6),Sm (bh #[ak]) (aJ df (pv 0) (pv 6)),bh #[ak,ak,Ev ak,Ev ak]]]])}}
     bf)}},bS (bL ZE
    {{aX (Me #[bh #[ak,bH #[Sm (bh #[ak]) (pv 3),bh #[ak,ak],bh #[ak,ak,ak,ak]]]]),aX (Me #[bh #[ak,bH #[bh #[ak,ak],bh #[ak,ak],Sm (bh #[ak,ak]) (pv 3)]]])}}
    bf),bS (bL ZE
    {{aX (Me #[bh #[ak,bH #[Sm (bh #[ak]) (pv 3),aJ xN (Sm (bh #[ak]) (pv 4)) (bh #[Ev ak,Ev ak]),bh #[Ev ak,ak,ak,ak]]]])}}
    bf),bS (bL (FS (pv 0) ak (bq _))
    {{aX (Me #[bh #[ak,bH (ae (bh #[ak,ak]) (ae (bh #[ak,ak]) (ae (bh #[ak,ak]) (ae (Sm (bh #[ak,ak]) ak) (ae (Sm (bh #[ak,ak]) ak) (ae (Sm (bh #[ak,ak]) ak) ah EV) EV) EV) Gn) Gn) Gn)]])}}
    bf),bS (bL (FS (pv 0) ak (bq _))
    {{aX (Me #[bh #[ak,bH #[bh #[ak,ak,ak],bh #[ak,ak],Sm (bh #[ak,ak]) ak]]])}}
    bf),aZ (5|||(FM (pv 1) (5<<<0)))}}]
  rwa[4,λw0 nw0=>{125}];generalize d:ψ H w0 _=H1;obtain⟨s0,e0⟩:_/\_\(.Ò (aw [1])):=dc d nw0;rwa[w0,1122,e0,33,by rwa[aot (show 1* n<=100 by omega) ⋯],λf H2 s1 e1=>?_];rw[ao8,ko]at e1;let Qi:=s0.ν s1;erw[121122,{44}];erw[121122,{44}];rwa[12,Za4 1,λr1 nr1=>{Za4 2,λq1 nq1=>?_}];let a1:=ao.ψ (o:=.Ν [?f]) nr1;let b1:ψ H2 r1 (.Ν [?f]) r1\(.Ν ([f].Κ V.É)):=aj;change ψ H2 r1 _=H3 at a1 b1 nq1 ⊢;generalize d:ψ H3 q1 _=H4;obtain⟨a2,b2⟩:_/\_\(.Ò [.υ ((1:η):π),?r1]):=dc d nq1;rwa[124,λw2 An=>{Za4 2,λr2 VQ=>{Za4 2,λq2 nq2=>{Za4 2,λl nl=>?_}}}];let a3:=ao.ψ (o:=.Ò [.υ 2]) An;let b3:ψ H4 w2 (.Ò [.υ 2]) w2\(.Ò (aw [2])):=aj;change ψ H4 w2 _=H5 at a3 b3 VQ nq2 nl ⊢;let a4:=ao.ψ (o:=.Ν [?f,?w2]) VQ;let b4:ψ H5 r2 (.Ν [?f,?w2]) r2\(.Ν ([f,w2].Κ V.É)):=aj;change ψ H5 r2 _=H6 at a4 b4 nq2 nl ⊢;let a5:=ao.ψ (o:=.Ò [.υ 2,?r2]) nq2;let b5:ψ H6 q2 (.Ò [.υ 2,?r2]) q2\(.Ò [.υ ((2:η):π),?r2]):=aj;change ψ H6 q2 _=H7 at a5 b5 nl ⊢;generalize d:ψ H7 l _=H8;obtain⟨a6,b6⟩:_/\_\(.Ν ([q1,q2].Κ V.É)):=dc d nl;let VW:=a1.ν (a2.ν (a3.ν (a4.ν a5)));let lf:H l=ε:=(Qi.ν VW).free nl;let r1l:r1≠l:=λe=>by rw[<-e,a5^a4^a3^a2^b1]at nl;ext nl
  let r2l:r2≠l:=λe=>by rw[<-e,a5^b4]at nl;ext nl
  let f1:=qC (w:=[1]) (n:=n) (L:=1) (Jz ⋯) (by show 1* n<=30;omega);let f2:=qC (w:=[1]) (n:=n) (L:=2) (Jz ⋯) (by show 1* n<=30;omega)
  let g8:GS H H8 l [q1,q2] 2:=by
   rwa[Qi.ν (VW.ν a6),lf,b6,aoo _,by show 1<=2;decide,λp hp=>?_];rcases aoC.mp hp with rfl|hp
   .rwa[r1,(1),[rp [1] n],r1l,a6^a5^a4^a3^b2,{[f],a6^a5^a4^a3^a2^b1,qB.ċ (a6^VW^e1)},by decide,by decide,by show 1<=1;decide,by show 1<=6;decide,λu j=>by rw[aok.mp j];rwa[f1]]
   .rw[aok.mp hp]
    exact{r2,(2),[rp [1] n,[2]],r2l,a6^b5,{[f,w2],a6^a5^b4,(qB.ċ (a6^VW^e1)).ċ (a6^a5^a4^b3)},by decide,by decide,by show 1<=2;decide,by show 2<=6;decide,λu j=>by
     rcases aoC.mp j with rfl|j
     .rwa[f2]
     .rw[aok.mp j];rwa[s2_ (by decide),by decide]}
  rwa[_,Ų,_,_,Ų,Ų,(2),(n:π)+ 1,Ų,{by ext,by ext,by ext,by ext},?_];rwa[du (lo:=2) (n:=((n:π)+ 1 - 2).Φ) (λi σ H'=>∃(t:Zn)(v6:Zc),σ=#v[.υ n,.υ z,?f,.υ ((n:π) / 2),.υ ((n:π) / 4),?l,v6]/\GS H H' l t (2+ i)) ⟨[q1,q2],ε,2,g8⟩ ?_ ?_]
  .rintro i σ H9 hi ⟨t,v6,Ų,b⟩;rwa[λ F H'=>∃(t:Zn),F=#v[.υ n,.υ z,?f,.υ ((n:π) / 2),.υ ((n:π) / 4),?l,.υ (2+ (i:π))]/\GS H H' l t (2+ i+ 1),5,λ F H' ζ=>by let[t,e,g]:=ζ;rwa[{t,_,e,g}]];rwa[121211223212,cQ (λ_=>?_) (λ_=>{t,2,b.s,b.f,b.h,η.le_succ_of_le b.c,b.p,b.g})];rwa[12,.Α {21,ay.of b.h},4,λu1 m1=>{125}];generalize d:ψ H9 u1 _=K1;obtain⟨W,U⟩:_/\_\(.Ò (aw [1])):=dc d m1;rwa[u1,1122,U,33,by rwa[aot (show 1* (2+ (i:π)).Φ<=100 by omega) ⋯],λB Z M G=>?_];rw[show (2+ (i:π)).Φ=2+ i by ext,ko]at G;obtain⟨m,em,hm⟩:∃m:η,(n:π) / (2+ (i:π))=(m:π)/\m<=n:={n / (2+ i),by cbv,η.div_le_self β};rwa[4,λu2 m2=>{12121122,{33},5}];rw[em];generalize d:ψ Z u2 _=K3;obtain⟨I,S⟩:_/\_\(.Ò (aw [2])):=dc d m2;rwa[u2,1122,S,33,by rwa[aot (show 1* m<=100 by omega) ⋯],λv K4 c4 d4=>?_];rw[ao8,ko]at d4;rwa[12124,λC J=>?_];generalize d:ψ K4 C _=K5;obtain⟨c5,d5⟩:_/\_\(.Ò (aw [1,2,-1,-2])):=dc d J;rwa[Za4 3,λr3 m4=>{Za4 2,λN m5=>?_}];let c25:=I.ν (c4.ν c5);let ts:cz K5 [B,v,C] [rp [1] (2+ i),rp [2] m,[1,2,-1,-2]]:=((qB.ċ (c25^G)).ċ (c5^d4)).ċ d5
   let D:nZ 2 [rp [1] (2+ i),rp [2] m,[1,2,-1,-2]]:={by show 1<=3;decide,by show 3<=6;decide,λu j=>by
    rcases aoC.mp j with rfl|j
    .rwa[qC (Jz (by decide)) (by show 1* (2+ i)<=30;omega)]
    rcases aoC.mp j with rfl|j
    .rwa[qC (s2_ (by decide)) (by show 1* m<=30;omega)]
    .rw[aok.mp j];rwa[by unfold M11.aS;decide,4]}
   let[x,y]:=rV (l:=l) (r:=r3) (q:=N) (ps:=[B,v,C]) (L:=2) b (W.ν (M.ν c25)) ts D ⋯ ⋯ m4 m5;let gc:=b.c;rwa[l,1122,x,[aog]▸aop (show @t<=100 by omega) ⋯,12,y]
  rintro σ H9 ⟨t,v6,Ų,b⟩;replace b:GS H H9 l t 13:={b.s,b.f,b.h,by have:=b.c;ext,b.p,b.g};obtain⟨P,hP⟩:∃P:η->L2.St->Hp->ο,P=λc F H'=>∃(t:Zn),F=#v[.υ n,.υ z,?f,.υ ((n:π) / 2),.υ ((n:π) / 4),?l,v6]/\GS H H' l t c:={12}
  let up:∀{c c':η}{t:Zn}{H':Hp},c<=c'->GS H H' l t c->P c' #v[.υ n,.υ z,?f,.υ ((n:π) / 2),.υ ((n:π) / 4),?l,v6] H':=λ(h) g=>by rw[hP];rwa[12,g.s,g.f,g.h,aot g.c h,g.p,g.g]
  obtain⟨h,eh,hh⟩:∃h:η,(n:π) / 2=(h:π)/\h<=6:={n / 2,33};obtain⟨q4,eq4,hq4⟩:∃h:η,(n:π) / 4=(h:π)/\h<=3:={n / 4,33};let sd:∀(L:η)(w:Zg),(w.all λs=>decide (s≠0/\s.Ä<=L))=ρ->M11.aS L w:=λL w e s hs=>aoS (aqQ.mp e s hs)
  erw[P 15,5]
  .rwa[1211224212,cQ (λ_=>?_) (λ_=>up ⋯ b)];rw[eh];rwa[12,.Α {21,ay.of b.h},4,λu1 m1=>{125}];generalize d:ψ H9 u1 _=K1;obtain⟨W,U⟩:_/\_\(.Ò (aw [1])):=dc d m1;rwa[u1,1122,U,33,by rwa[aot (show 1* h<=100 by omega) ⋯],λB Z M G=>?_];rw[ao8,ko]at G;rwa[4,λv m2=>{4,λC J=>?_}];let I:=ao.ψ (o:=.Ò [.υ 2,.υ 2]) m2;let S:ψ Z v (.Ò [.υ 2,.υ 2]) v\(.Ò (aw [2,2])):=aj;change ψ Z v _=K3 at I S J ⊢;generalize d:ψ K3 C _=K5;obtain⟨c5,d5⟩:_/\_\(.Ò (aw [1,2,1,2])):=dc d J;rwa[Za4 3,λr3 m4=>{Za4 2,λN m5=>?_}];let ts:cz K5 [B,v,C] [rp [1] h,[2,2],[1,2,1,2]]:=((qB.ċ (c5^I^G)).ċ (c5^S)).ċ d5
   let D:nZ 2 [rp [1] h,[2,2],[1,2,1,2]]:={by show 1<=3;decide,by show 3<=6;decide,λu j=>by
    rcases aoC.mp j with rfl|j
    .rwa[qC (Jz (by decide)) (by show 1* h<=30;omega)]
    rcases aoC.mp j with rfl|j
    .rwa[sd^by decide,by decide]
    .rw[aok.mp j];rwa[sd β ⋯,4]}
   let[x,y]:=rV (l:=l) (r:=r3) (q:=N) (ps:=[B,v,C]) (L:=2) b (W.ν (M.ν (I.ν c5))) ts D ⋯ ⋯ m4 m5;let gc:=b.c;erw[l,1122,x,[aog]▸aop (show @t<=100 by omega) ⋯];let gen:∀{X Y:Hp}{jf:Zn}{c:η},GS H X l jf c->X=Y->GS H Y l jf c:=λg e=>e ▸ g
   generalize eK6:ψ (ψ (ψ K5 r3 _) N _) l _=K6;replace y:GS H K6 l (t++[N]) 14:=gen y eK6;rwa[12,.Α {21,ay.of y.h},4,λO m6=>{4,λx5 m7=>{4,λx6 m8=>{125}}}];let c6:=ao.ψ (o:=.Ò [.υ 1,.υ 1]) m6;let d6:ψ K6 O (.Ò [.υ 1,.υ 1]) O\(.Ò (aw [1,1])):=aj;change ψ K6 O _=K7 at c6 d6 m7 m8 ⊢;let c7:=ao.ψ (o:=.Ò [.υ 2,.υ 2]) m7;let d7:ψ K7 x5 (.Ò [.υ 2,.υ 2]) x5\(.Ò (aw [2,2])):=aj;change ψ K7 x5 _=K8 at c7 d7 m8 ⊢;generalize d:ψ K8 x6 _=K9;obtain⟨c8,d8⟩:_/\_\(.Ò (aw [1,2])):=dc d m8;rwa[x6,1122,d8,33,by rwa[aot (show 2* h<=100 by omega) ⋯],λx7 K10 c9 d9=>?_];rw[ao8,ko]at d9;rwa[Za4 3,λr4 m9=>{Za4 2,λq5 m10=>?_}];let c89:=c8.ν c9;let ts2:cz K10 [O,x5,x7] [[1,1],[2,2],rp [1,2] h]:=((qB.ċ (c89^c7^d6)).ċ (c89^d7)).ċ d9
   let agE:nZ 2 [[1,1],[2,2],rp [1,2] h]:={by show 1<=3;decide,by show 3<=6;decide,λu j=>by
    rcases aoC.mp j with rfl|j
    .rwa[sd^by decide,by decide]
    rcases aoC.mp j with rfl|j
    .rwa[sd^by decide,by decide]
    .rw[aok.mp j];rwa[qC (sd β ⋯) (by show 2* h<=30;omega)]}
   let[x',y']:=rV (l:=l) (r:=r4) (q:=q5) (ps:=[O,x5,x7]) (L:=2) y (c6.ν (c7.ν c89)) ts2 agE ⋯ ⋯ m9 m10;let gc':=y.c;erw[l,1122,x',[aog]▸aop (show @(t++[N])<=100 by omega) ⋯];have:=up (c':=15) ⋯ y';rw[eh]at Δ;rwa[Δ]
  intro F FH g;rw[hP]at g;let[t,Ų,b]:=g;erw[P 16,5]
  .rwa[1211224212,cQ (λ_=>?_) (λ_=>up ⋯ b)];rw[eh,eq4];rwa[12,.Α {21,ay.of b.h},4,λu1 m1=>{125}];generalize d:ψ FH u1 _=K1;obtain⟨W,U⟩:_/\_\(.Ò (aw [1])):=dc d m1;rwa[u1,1122,U,33,by rwa[aot (show 1* h<=100 by omega) ⋯],λB Z M G=>?_];rw[ao8,ko]at G;rwa[4,λu2 m2=>{125}];generalize d:ψ Z u2 _=K3;obtain⟨I,S⟩:_/\_\(.Ò (aw [1])):=dc d m2;rwa[u2,1122,S,33,by rwa[aot (show 1* q4<=100 by omega) ⋯],λv K4 c4 d4=>?_];rw[ao8,ko]at d4;rwa[12124,λu3 J=>?_];generalize d:ψ K4 u3 _=K5;obtain⟨c5,d5⟩:_/\_\(.Ò (aw [-2,-2])):=dc d J;let lr:@(rp [1] q4)=q4:=by unfold rp;rw[C0];rwa[η.one_mul _]
   rwa[v,u3,1122,c5^d4,d5,[aF,aF]▸aot (show @(rp [1] q4)+ 2<=100 by omega) ⋯,λC K6 c6 d6=>?_];rw[<-ï]at d6;rwa[124,λO m4=>?_];generalize d:ψ K6 O _=K7;obtain⟨c7,d7⟩:_/\_\(.Ò (aw [-2,1,2,1])):=dc d m4;rwa[Za4 3,λr3 m5=>{Za4 2,λN m6=>?_}];let c37:=I.ν (c4.ν (c5.ν (c6.ν c7)));let ts:cz K7 [B,C,O] [rp [1] h,rp [1] q4++[-2,-2],[-2,1,2,1]]:=((qB.ċ (c37^G)).ċ (c7^d6)).ċ d7
   let D:nZ 2 [rp [1] h,rp [1] q4++[-2,-2],[-2,1,2,1]]:={by show 1<=3;decide,by show 3<=6;decide,λu j=>by
    rcases aoC.mp j with rfl|j
    .rwa[qC (Jz (by decide)) (by show 1* h<=30;omega)]
    rcases aoC.mp j with rfl|j
    .rwa[λs hs=>(aov.mp hs).Ü ((qC (w:=[1]) (n:=q4) (Jz (by decide)) (by show 1* q4<=30;omega)).1 s) (sd 2 [-2,-2] (by decide) s),by rw[aoj,lr];show q4+ 2<=30;ext]
    .rw[aok.mp j];rwa[sd β ⋯,4]}
   let[x,y]:=rV (l:=l) (r:=r3) (q:=N) (ps:=[B,C,O]) (L:=2) b (W.ν (M.ν c37)) ts D ⋯ ⋯ m5 m6;let gc:=b.c;erw[l,1122,x,[aog]▸aop (show @t<=100 by omega) ⋯];have:=up (c':=16) ⋯ y;rw[eh,eq4]at Δ;rwa[Δ]
  intro F IW g;rw[hP]at g;let[t,Ų,b]:=g;erw[P 17,5]
  .rwa[12212,cQ (λ_=>?_) (λ_=>up ⋯ b)];rwa[12,.Α {21,ay.of b.h},4,λB m1=>{4,λv m2=>{4,λC J=>{4,λO m4=>?_}}}];let W:=ao.ψ (o:=.Ò [.υ 1,.υ 1]) m1;let U:ψ IW B (.Ò [.υ 1,.υ 1]) B\(.Ò (aw [1,1])):=aj;change ψ IW B _=K1 at W U m2 J m4 ⊢;let M:=ao.ψ (o:=.Ò [.υ 2,.υ 2]) m2;let G:ψ K1 v (.Ò [.υ 2,.υ 2]) v\(.Ò (aw [2,2])):=aj;change ψ K1 v _=Z at M G J m4 ⊢;let I:=ao.ψ (o:=.Ò [.υ 3,.υ 3]) J;let S:ψ Z C (.Ò [.υ 3,.υ 3]) C\(.Ò (aw [3,3])):=aj;change ψ Z C _=K3 at I S m4 ⊢;generalize d:ψ K3 O _=K4;obtain⟨c4,d4⟩:_/\_\(.Ò (aw [1,2])):=dc d m4;rwa[O,1122,d4,334,λy1 K5 e4 f4=>?_];rwa[4,λx5 m5=>?_];generalize d:ψ K5 x5 _=K6;obtain⟨c5,d5⟩:_/\_\(.Ò (aw [1,3])):=dc d m5;rwa[x5,1122,d5,334,λy2 K7 e5 f5=>?_];rwa[4,λx6 m6=>?_];generalize d:ψ K7 x6 _=K8;obtain⟨c6,d6⟩:_/\_\(.Ò (aw [2,3])):=dc d m6;rwa[x6,1122,d6,334,λy3 K9 e6 f6=>?_];rwa[Za4 6,λr3 m7=>{Za4 2,λN m8=>?_}];let g6:=c6.ν e6;let g5:=(c5.ν e5).ν g6;let g4:=(c4.ν e4).ν g5;let ts:cz K9 [B,v,C,y1,y2,y3] [[1,1],[2,2],[3,3],rp [1,2] 2,rp [1,3] 2,rp [2,3] 2]:=(((((qB.ċ (g4^I^M^U)).ċ (g4^I^G)).ċ (g4^S)).ċ (g5^f4)).ċ (g6^f5)).ċ f6
   let D:nZ 3 [[1,1],[2,2],[3,3],rp [1,2] 2,rp [1,3] 2,rp [2,3] 2]:={44,λu j=>by
    let a:([[1,1],[2,2],[3,3],rp [1,2] 2,rp [1,3] 2,rp [2,3] 2].all λu=>(u.all λs=>decide (s≠0/\s.Ä<=3)) && decide (@u<=30))=ρ:=⋯
    have:=(apY β).mp (aqQ.mp a u j);rwa[sd 3 u Δ.1,aoS Δ.2]}
   let[x,y]:=rV (l:=l) (r:=r3) (q:=N) (ps:=[B,v,C,y1,y2,y3]) (L:=3) b (W.ν (M.ν (I.ν g4))) ts D ⋯ ⋯ m7 m8;let gc:=b.c;rwa[l,1122,x,[aog]▸aop (show @t<=100 by omega) ⋯,up (c':=17) ⋯ y]
  intro F OJ g;rw[hP]at g;let[t,Ų,b]:=g;erw[P 18,5]
  .rwa[12212,cQ (λ_=>?_) (λ_=>up ⋯ b)];rwa[12,.Α {21,ay.of b.h},4,λB m1=>{4,λv m2=>{4,λC J=>?_}}];let W:=ao.ψ (o:=.Ò [.υ 1,.υ 1,.υ 1]) m1;let U:ψ OJ B (.Ò [.υ 1,.υ 1,.υ 1]) B\(.Ò (aw [1,1,1])):=aj;change ψ OJ B _=K1 at W U m2 J ⊢;let M:=ao.ψ (o:=.Ò [.υ 2,.υ 2]) m2;let G:ψ K1 v (.Ò [.υ 2,.υ 2]) v\(.Ò (aw [2,2])):=aj;change ψ K1 v _=Z at M G J ⊢;generalize d:ψ Z C _=K3;obtain⟨I,S⟩:_/\_\(.Ò (aw [1,2])):=dc d J;rwa[C,1122,S,334,λy1 K4 e3 f3=>?_];rwa[Za4 3,λr3 m7=>{Za4 2,λN m8=>?_}];let g3:=I.ν e3;let ts:cz K4 [B,v,y1] [[1,1,1],[2,2],rp [1,2] 3]:=((qB.ċ (g3^M^U)).ċ (g3^G)).ċ f3
   let D:nZ 2 [[1,1,1],[2,2],rp [1,2] 3]:={44,λu j=>by
    let a:([[1,1,1],[2,2],rp [1,2] 3].all λu=>(u.all λs=>decide (s≠0/\s.Ä<=2)) && decide (@u<=30))=ρ:=⋯
    have:=(apY β).mp (aqQ.mp a u j);rwa[sd 2 u Δ.1,aoS Δ.2]}
   let[x,y]:=rV (l:=l) (r:=r3) (q:=N) (ps:=[B,v,y1]) (L:=2) b (W.ν (M.ν g3)) ts D ⋯ ⋯ m7 m8;let gc:=b.c;rwa[l,1122,x,[aog]▸aop (show @t<=100 by omega) ⋯,up (c':=18) ⋯ y]
  intro F H13 g;rw[hP]at g;let[t,Ų,b]:=g;let gp:=b.p;let[i,ei,hi]:=Rc z (n:=@t) ∅;obtain⟨p,hp⟩:∃p,t[i]?\p:={_,aoe hi}
  let[r,L,R,_,h2,h3,h4,h5,h6]:=b.g p (aoi hp);rwa[121212,l,12,.Α (ay.of b.h),1122,(by rw[aog];omega),l,11,?p,22,ay.of b.h,([aog,ei]▸bZ hp),k p r L R _ b.s h2 h3 h4 h5 h6]
unseal L2.PE L2.PS L2.hL L2.PA L2.PT
def G1 (H:Hp)(q:Zs)(n:η)(R:Za3):ο:=jx H q n R/\1<=n/\n<=13/\pT n R
def jx.Μ (h:jx H a n W)(s:XL):jx I a n W:=by let[r,c,b]:=h;rwa[r,s^c,b.Μ s]
def G1.Μ (h:G1 H a n W)(s:XL):G1 I a n W:={h.1.Μ s,h.2}
def G1.ψ {i:Zs}(h:G1 H b n W)(l:H a\.Ν [?c,?d])(q:H c\.Ò [.υ (m:π),?i]):G1 (Ϻ (.Ν L)) b n W:=by
 let[⟨r,f,o,j,g⟩,e]:=h
 let rl:r≠a:=λz=>by
  rw[z,l]at j;let k:=(HO.Ν.inj (Za0 j))
  match o,k,g with
  |p::_,k,g=>
   let s:c=p:=V.É.inj (θ.È.inj k).1;subst s
   match W,g with
   |w::_,g=>
    have:=g.2 0 c w Ų rfl;rw[q]at Δ;have:=HO.Ò.inj (Za0 Δ)
    match w,Δ with
    |[_,_],Δ=>exact Ρ (θ.È.inj (θ.È.inj Δ).2).1 (by cbv)
   |[],g=>exact Ρ g.1 (by simp)
  |[],k,_=>ext k
 rwa[{r,[aq (bD f l f!"")]▸f,o,[aq rl]▸j,mH g l},e]
def G2 (H0 H:Hp)(l:Zs):ο:=ao H0 H/\H0 l=ε/\∃a b c d A B,H l\.Ν [?a,?b]/\G1 H a c A/\G1 H b d B
def G2.set {H0:Hp}(h:G2 H0 H a)(s:XL)(g:G1 I b n W)(t:j<2):∃xs,I a\.Ν xs/\@xs=2/\G2 H0 (ψ I a (.Ν (xs.set j ?b))) a:=by
 let[q,m,l,p,n1,n2,A,B,r,f,k]:=h;let d:=s^r;replace f:=f.Μ s;replace k:=k.Μ s;let[⟨r1,i,_⟩,_]:=id f;let sm:ao H0 (ψ I a (.Ν ([?l,?p].set j ?b))):=λc o e=>by rw[aq (QA m)];rwa[s^q^e]
 erw[_,d,2,sm,m]
 match j,t with
 |0,_=>rwa[b,p,1111,aj,g.ψ d i,k.ψ d i]
 |1,_=>rwa[l,b,1111,aj,f.ψ d i,g.ψ d i]
def ix2 (h:0<=z):∃j:η,j<2/\z % 2=(j:π)/\pY 2 (z % 2)\j:=by
 have:z % 2=0\/z % 2=1:=∅
 rcases Δ with e|e
 .rwa[(0),by decide,by ext,by rw[e];rfl]
 .rwa[(1),by decide,by ext,by rw[e];rfl]
def adC (ns:Zg):∃ds,k8 AS (ι 4) (ι 28)=aw ds/\@ds<=24:={(ns.ā (HT.cE @(aw ns) 0 (ι 4))).Χ (HT.cE @(aw ns) @(aw ns) (ι 28) - HT.cE @(aw ns) 0 (ι 4)),by unfold k8 aw;rw[θ.map_take,θ.map_drop],by rw[aoX];rwa[aot (η.min_le_left β) ?_];rw[show (ι (4:π))=ι ((4:η):π) from rfl,show (ι (28:π))=ι ((28:η):π) from rfl,HT.vE,HT.vE];ext}
def By (T:ų):T.qI.Ok P w Β 4 (T4 K):=by
 rwa[T.qI.on dP (λcf AA Ψ s H vs Q E b h=>?_) (len:=by rintro _ _ _ _ ⟨a,S,Ų,_⟩;rfl)]
 .let[a,S,Ų,hS,æ,k]:=h
  refine{_,{{bp 1 dP.nd (ZS b #[sK b #[0,ak],ak]),KB dP.nd (Z2 ak ϑ),ZV dP.nd (bH #[VE #[2,aJ df (pv 1) ak],VE #[2,ZS b #[sK b #[0,ak],ak]]]),bS (bL (FS (FM (pv 1) ak) ak (bq _))
    {{ji (VE #[Z2 ak ϑ,1]) (we ϑ ŀ),bS (bL (FS ϑ ak (bq _))
     {{ji (pc T.uU (Gs T) b #[xK Wi (pv 0) (vF ak) (vF ak)]) (we ϑ ŀ)}}
     bf)}}
    bf),bS (bL (FS ϑ ak (bq _))
    {{KB dP.nd (Z2 ak ϑ),ZV dP.nd (bH #[VE #[2,aJ df (pv 1) ak],VE #[2,aJ df (pv 1) ak]]),wn dP.nd ((bH (ae ak (ae ak (ae ak (ae ak (ae ak (ae ak ah rM) rM) rM) rM) rM) rM))|||(Z2 (Ix (NN ak (pv 2)) ak) ϑ)),LE dP.nd ϑ,ji (pc T.qH (Bw T) b #[3|||5,4,1]) (we (pv 5) ŀ)}}
    bf),aZ (pv 3)}},?_}
  rwa[_,Ų,a,S,(0),Ų,hS,by decide,λy=>{y,(4),Ų,by decide,by decide,λz hz=>?_}];erw[121122,{44},112241122];rwa[12121122,{44},(1+ z / 32 % 12).Φ,_,by rw[show (((1+ z / 32 % 12).Φ:η):π)=1+ z / 32 % 12 by ext];rfl,33,λq1 r1 n1 A_ H1 s1 PB Ap l1 u1 ok1=>?_];rwa[1212,a,S,(1),2,s1.seq hS,4,λy1=>{y1,(4),244,λz1 hz1=>?_}];rwa[(1+ z / 32 % 12).Φ,_,by rw[show (((1+ z / 32 % 12).Φ:η):π)=1+ z / 32 % 12 by ext];rfl,33,λq2 r2 n2 B H2 s2 tX Z l2 u2 ok2=>?_];rwa[Za4 2,λl nl=>?_];let f:=ao.ψ (o:=.Ν [?q1,?q2]) nl;let s3:=s1.ν (s2.ν f);let g0:G2 H (nv l (.Ν [?q1,?q2])) l:={s3,(s1.ν s2).free nl,q1,q2,n1,n2,A_,B,aj,{{r1,(s2.ν f) β PB,Ap.Μ (s2.ν f)},l1,3,ok1.o},{{r2,f^tX,Z.Μ f},l2,3,ok2.o}};erw[λ t H'=>t=#v[?a,.υ z,.υ (1+ z / 32 % 12),?l,ε,ε]/\G2 H H' l,5]
  .rwa[1211224212,cQ (λ_=>?_) (λ_=>{2,g0})];rwa[121122,{44},11224112212,(1+ z / 384 % 12).Φ,_,by rw[show (((1+ z / 384 % 12).Φ:η):π)=1+ z / 384 % 12 by ext];rfl,33,λq r n R H4 s4 hq b l4 u4 ok4=>?_];let[j,hj,ej,ix]:=ix2 (z:=z / 4) ∅;let[xs,hx,hxl,x]:=g0.set s4 {{r,hq,b},l4,3,ok4.o} hj;erw[12121122,{44},11224,l,xs,_,j,22,hx,[hxl]▸ix];change ψ H4 l _=H5 at x ⊢;rwa[15,λ_ _ h=>h];rwa[121122,{44},11224212,cQ (λ_=>?_) (λ_=>{2,x})];let[ds,eds,hds]:=adC S;rwa[121212,a,12,x.1.seq hS,λlc nc=>?_];rw[eds];generalize e_:ψ H5 lc _=C;let[cc,hc]:=dc e_ nc;rwa[lc,ds,2,hc,hds,λq' R' D s7 hg p=>?_];let[v,u,g,U]:=x.set (cc.ν s7) {hg,44,p} hj;erw[12121122,{44},11224,l,v,_,j,22,u,[g]▸ix];rwa[2,U]
  rintro t H4 ⟨rfl,x⟩;erw[λ t H'=>∃o l v4 v5,t=#v[?a,.υ z,.υ o,?l,v4,v5]/\G2 H H' l,5]
  .rwa[121122,{44},11224212,cQ (λ_=>?_) (λ_=>{11112,x})];let[L,n04,_]:=x;erw[121122,{44},112241122];obtain⟨o,ho,Ji,ho4⟩:∃o:η,2+ z / 32 % 3=(o:π)/\2<=o/\o<=4:={(2+ z / 32 % 3).Φ,333};rwa[12121122,{44},o,_,by rw[<-ho];rfl,33,λd t1 M I H5 s5 CT FL b1 e1 k1=>?_];rwa[12121122,{44},o,_,by rw[<-ho];rfl,33,λc t2 N A2 C X Aq OO b2 e2 k2=>?_];rwa[Za4 2,λe J=>?_];let f:=ao.ψ (o:=.Ν [?d,?c]) J;let x1:jx (ψ C e (.Ν [?d,?c])) d M I:={t1,(X.ν f) β CT,FL.Μ (X.ν f)};let x2:jx (ψ C e (.Ν [?d,?c])) c N A2:={t2,f^Aq,OO.Μ f};let U:G2 H (ψ C e (.Ν [?d,?c])) e:={L.ν (s5.ν (X.ν f)),L.free (s5.free (X.free J)),d,c,M,N,I,A2,aj,{x1,b1,3,k1.o},{x2,b2,3,k2.o}};let h7:ψ C e (.Ν [?d,?c]) e\(.Ν [?d,?c]):=aj;change ψ C e _=D at U h7 x1 x2 ⊢;rwa[4,λG n6=>?_];let c6:=ao.ψ (o:=.Ν (aw [12,13,7,8,6,7])) n6;let d6:ψ D G (.Ν (aw [12,13,7,8,6,7])) G\(.Ν (aw [12,13,7,8,6,7])):=aj;replace c6:ao D (ψ D G (.Ν [.υ 12,.υ 13,.υ 7,.υ 8,.υ 6,.υ 7])):=c6;replace d6:ψ D G (.Ν [.υ 12,.υ 13,.υ 7,.υ 8,.υ 6,.υ 7]) G\(.Ν (aw [12,13,7,8,6,7])):=d6;obtain⟨i,hi,h6⟩:∃i:η,2* (2+ z / 32 % 3) - 4+ z / 96 % 2=(i:π)/\i<6:={(2* (2+ z / 32 % 3) - 4+ z / 96 % 2).Φ,33}
   obtain⟨m,hm,hm6,amL⟩:∃m:η,lh (aw [12,13,7,8,6,7]) (i:π)\.υ (m:π)/\6<=m/\m<=13:=by
    match i,h6 with
    |0,_=>rwa[(12),244]
    |1,_=>rwa[(13),244]
    |2,_=>rwa[(7),244]
    |3,_=>rwa[(8),244]
    |4,_=>rwa[(6),244]
    |5,_=>rwa[(7),244]
   erw[121122,.Α {44},1122121122,{44},112241122];rw[hi];erw[G,11122,ay.of d6,hm];let[j',O,ej',ix']:=ix2 (z:=z / 192) ∅;erw[121122,{44},11224]
   obtain⟨W,F,Y,tj,gj,bj,ej,kj⟩:∃W F Y,lh [V.É d,V.É c] (z / 192 % 2)\?W/\jx D W F Y/\1<=F/\F<=3/\nZ F Y:=by
    rw[ej']
    match j',O with
    |0,_=>rwa[d,M,I,2,x1,b1,e1,k1]
    |1,_=>rwa[c,N,A2,2,x2,b2,e2,k2]
   rwa[1212,e,11122,ay.of (c6^h7),tj,1212,W,F,m,z,Y,2,gj.Μ c6,kj.o,kj.2.1,bj,ej,33,λq' R' H9 s9 hg' p=>?_];let[v,u,g,g9]:=U.set (c6.ν s9) {hg',33,p} O;erw[1212,e,v,_,j',22,u,[g]▸ix'];rwa[11112,g9]
  rintro t H5 ⟨o,e,v4,v5,Ų,s5,_,d,c,M,N,I,B1,hl',g1,g2⟩;rwa[12,k e d c M N I B1 _ s5 hl' g1.1 g2.1 g1.2.1 g1.2.2.1 g2.2.1 g2.2.2.1 g1.2.2.2 g2.2.2.2]
def qN (g:η->η->η)(N r:η):Zg:=(~~~N).Κ λs=>((g r s:η):π)
def qO (g:η->η->η)(N:η):Za3:=(~~~N).Κ (qN g N)
structure GG (g:η->η->η)(b:η->η)(N:η):ο where
 lt:∀r s,r<N->s<N->g r s<N
 bl:∀j,j<N->b j<N
 inv:∀j,j<N->g j (b j)=0
 uq:∀j s,j<N->s<N->g j s=0->s=b j
def oq (g:η->η->η)(b:η->η)(h:Zh)(r:η)(s:π):η:=if 0<s then g r (h.á (s.Ä - 1) 0) else g r (b (h.á (s.Ä - 1) 0))
def fo (g:η->η->η)(b:η->η)(h:Zh)(w:Zg):η:=w.ă EU 0
def Bz {g:η->η->η}{N r:η}(a:n<N):lh (aw (qN g N r)) (n:π)\(.υ ((g r n:η):π)):=bX (by unfold aw qN;rw[aon,aon,apx a];rfl)
def Ma {g:η->η->η}{r:η}(h:Ċ H a (qO g n))(c:r<n):∃(rs:Zn)(q:Zs),H a\.Ν (rs.Κ V.É)/\lh (rs.Κ V.É) (r:π)\?q/\H q\(.Ν (aw (qN g n r))):=by
 let[rs,d,b]:=h;let f:@rs=n:=by rw[b.1];unfold qO;rw[aog,aoU]
 let e:rs[r]?\(rs[r]'∅):=aoe _
 rwa[rs,_,d,bZ e,b.2 r β e (by unfold qO;rw[aon,apx c];rfl)]
def Qj (a:j<@B):lh (aw (bC B)) (j:π)\(.υ ((B.á j 0:η):π)):=bX (by unfold aw bC;cbv)
def BD (a:∀x∈B,x<n)(b:j<@B):B.á j 0<n:=by rw[aom,aoe b];rwa[a _ (aqU _)]
def GG.acm {g:η->η->η}{b:η->η}(G:GG g b n){h:Zh}(d:∀x∈h,x<n){r:η}(c:r<n){s:π}(e:s≠0/\s.Ä<=@h):oq g b h r s<n:=by
 let a:=BD d (j:=s.Ä - 1) ∅;unfold oq;split
 .rwa[G.lt β c a]
 .rwa[G.lt β c (G.bl _ a)]
theorem GG.fold_lt {g:η->η->η}{b:η->η}{N:η}(G:GG g b N){h:Zh}(d:∀x∈h,x<N):∀{w:Zg}{r:η},r<N->M11.aS @h w->w.ă EU r<N
 |[],_,a,_=>a
 |s::w,_,a,c=>G.fold_lt d (w:=w) (G.acm d a (c s aou)) λt e=>c t (JE e)
inductive Qk (vs:Zb)(H:Hp)(Q:VK)(E_:XK):ο
 |mk (pa ha wa:Zs)(g:η->η->η)(b:η->η)(N:η)(h:Zh)(w:Zg):vs=[?pa,?ha,?wa]->Ċ H pa (qO g N)->GG g b N->H ha\.Ν MW->(∀x∈h,x<N)->H wa\.Ò (aw w)->M11.aS @h w->1<=N->Q (.υ ((fo g b h w:η):π)) H->Qk vs H Q E_
def vr (T:ų):T.qt.Ok P w Β 1 Qk:=by
 rwa[T.qt.on jt (λcf AA v s H vs Q E x h=>?_)]
 .let[m,u,G,g,b,N,h,w,Ų,W,o,S,c,O,d,hN,k]:=h
  refine{_,{{ZV jt.nd ak,AN (Sa jt.nd)
    {{bS (bL (a9 pX (pv 4) ak (bq _))
     {{ZV jt.nd ((0|||3)|||(1|||(Ix (pv 4) ak)))}}
     {{ZV jt.nd ((0|||3)|||(Re (0|||(1|||(Ix (Ix ak (pv 4)) ak))) #[ak]))}})}},aZ (pv 3)}},?_}
  rwa[_,Ų,G,Ų,{_,bG.of O},?_]
  refine cF (xs:=aw w) (λn p j=>∃(B:Zc),p=#v[?m,?u,?G,.υ (((w.Χ n).ă EU 0:η):π),B]/\j=H)
   {ε,Ų,Ų} (λn p j _ ⟨_,_,e⟩=>by rw[e];rwa[bG.of O]) ?_ ?_
  .rintro n y p j hn ⟨B,Ų,rfl⟩;let[z,Ų,M]:=bW hn;let hs:=d z (aoi M);let F:z.Ä - 1<@h:=∅
   let x:(w.Χ n).ă EU 0<N:=o.fold_lt c hN λt Y=>d t (aru Y)
   let f:=BD c F
   let et:(w.Χ (n+ 1)).ă EU 0=oq g b h ((w.Χ n).ă EU 0) z:=by rw[ao2,M,aqk];rfl
   change (w.Χ n).ă EU 0=r at x et ⊢;let[rs,q,R,L,I]:=Ma W x;erw[λ C H'=>∃y:η,C=#v[?m,?u,?G,.υ (y:π),.υ z]/\H'=j/\y=oq g b h r z,5]
   .rwa[12112212,cQ (λa=>?_) (λa=>?_)]
    .let a:=aoS a;let D:z - 1=((z.Ä - 1:η):π):=∅
     erw[1212,m,11122,ay.of R,L,12121122,u,11122,ay.of S,[D]▸Qj F,q,11122,ay.of I,Bz f];rwa[122,by unfold oq;rw[aoO a]]
    .let a:¬z > 0:=λe=>a (aoP e)
     let D:0 - z - 1=((z.Ä - 1:η):π):=∅
     let[rs2,q2,t1,X,J]:=Ma W f;erw[1212,m,11122,ay.of R,L,12121211221122,u,11122,ay.of S,[D]▸Qj F,m,11122,ay.of t1,X];let Z:=o.bl _ f;rwa[.Α {21,ay.of J},q2,_,(0),22,J,5,λi U hm=>?_]
     .rwa[ao1.mpr {_,aoZ.mpr Z,by rw[o.inv _ f];rfl}]
     let l:i<N:=by have:=(aoh.mp U).1;unfold qN at Δ;rw[aog,aoU]at Δ;rwa[Δ]
     let ei:i=b (h.á (z.Ä - 1) 0):=o.uq β f l (by unfold qN at U;cbv)
     erw[q,11122,ay.of I,Bz l];rwa[122,by unfold oq;rw[aoK a,ei]]
   cbv
  .rintro p j ⟨B,Ų,rfl⟩;rw[aF,apc];rwa[12,k]
def JB {T:Za3}(b:ZC)(m:M12.Fc (2* n) T.Ì @T){j:η}(h:0<j)(c:j<@T):∃t k,t<j/\k<2* n/\M11.nx T k t=j:=by let o:=b.let1;let[p,f,g,_]:=m.2 j h c;let d:p / (2* n)<j:=(η.div_lt_iff_lt_mul ∅).mpr f;let a:p % (2* n)<2* n:=η.mod_lt _ ∅;let[r,e,l]:=b.val β (aq9 d c) a;have:=M12.rh (i:=p / (2* n)) ∅ b.row e a;rw[show p / (2* n)* (2* n)+ p % (2* n)=p by rw[aqJ];rwa[η.div_add_mod β],g,l]at Δ;rwa[11,d,a,by have:=Za0 Δ;ext]
def T5 {rows:Za3}{xs:Zn}{o:HO}(h:bT H F rows)(f:H a\.Ν (xs.Κ V.É))(e:∀q∈F,q≠a):bT (Ϻ o) F rows:={h.1,λi r d c b=>[aq (e r NU)]▸h.2 i r d c b}
structure GT (T:Za3)(L:η)(g:η->η->η):ο where
 z:∀r,r<@T->g r 0=r
 lt:∀r s,r<@T->s<@T->g r s<@T
 st:∀r s k,r<@T->s<@T->k<2* L->g r (M11.nx T k s)=M11.nx T k (g r s)
def Rw (T:Za3)(L:η)(g:η->η->η)(r n j:η)(a:Zb):ο:=@a=@T/\∀s,s<@T->(s=0\/∃t k,k<2* L/\(t<n\/t=n/\k<j)/\M11.nx T k t=s)->a[s]?\(.υ ((g r s:η):π))
def Rw.up {r:η}{g:η->η->η}(h:Rw W n g r m (2* n) L):Rw W n g r (m+ 1) 0 L:={h.1,λs d q=>h.2 s d (q.Ŋ id λζ=>by let[t,k,a,b,c]:=ζ;rwa[t,k,a,3,c])}
def Rw.set {r:η}{g:η->η->η}(h:Rw W n g r m j L)(x:η)(i:M11.nx W j m=x):Rw W n g r m (j+ 1) (L.set x (.υ ((g r x:η):π))):={[aoR]▸h.1,λs d q=>by
 cases e:x=s
 .rw[e,ao9 ([h.1]▸d)]
 .rw[apz e];rwa[h.2 s d (q.Ŋ id λζ=>?_)];let[t,k,a,b,c]:=ζ;rwa[t,k,a,5,c];cases f:t=m/\k=j
  .rw[f.1,f.2,i]at c;rwa[Ρ c e]
  .ext}
def Rw.full {T:Za3}{r:η}{g:η->η->η}(f:ZC)(i:M12.Fc (2* n) T.Ì @T)(h:Rw T n g r @T 0 L):L=aw (qN g @T r):=by
 rwa[apR λs=>?_]
 cases d:s<@T
 .rw[h.2 s d (by
   cases e:s=0
   .rwa[.Α e]
   .let[t,k,a,b,c]:=JB f i (show 0<s by omega) d;rwa[.Ç {t,k,b,.Α ∅,c}])]
  unfold aw qN;rw[aon,aon,apx d];rfl
 .rw[aoG (by rw[h.1];omega),aoG (by unfold qN;rw[aF,aog,aoU];omega)]
inductive Ql (vs:Zb)(H:Hp)(Q:VK)(E_:XK):ο
 |mk (ta:Zs)(T:Za3)(L:η)(g:η->η->η):vs=[?ta]->Ċ H ta T->M11.Tab L T->M12.Fc (2* L) T.Ì @T->GT T L g->(∀l H',Q1 H'->Ċ H' l (qO g @T)->Q ?l H')->Ql vs H Q E_
def yE (T:ų):T.nL.Ok P w Β 1 Ql:=by
 rwa[T.nL.on eR (λcf AA Ψ s H f Q E hr h=>?_)]
 .let[B,TT,L,g,Ų,N,z,hF,hG,k]:=h
  refine{_,{{bp 1 eR.nd Op,ž (WF #[0<<<0]) (cU 2 eR.nd)
    {{ZV eR.nd (aJ MD (bH #[cW]) (0<<<0)),ji (pv 2) (we ak ŀ),ž (WF #[0<<<0]) (Sa eR.nd)
     {{ž (WF #[(0|||ak)<<<0]) (cU 5 eR.nd)
      {{ji ((0|||(3|||4))|||5) (we ((0|||4)|||5) ŀ)}}}},aX (ŵ (pv 1) #[3])}},aZ (pv 1)}},?_}
  let sY:=z.top;let VJ:=z.qD;let X:=z.pos;let[rs,O,hrw]:=id N;let æ:(@(rs.Κ V.É):π)=(@TT:π):=by rw[aog,hrw.1]
  rwa[aoN _,λy nf=>?_];generalize e_:ψ H y _=H0;obtain⟨s0,h0⟩:_/\_\(.Ν (([]:Zn).Κ V.É)):=dc e_ nf;let nf0:H y=ε:=nf;erw[12,B,12,.Α (ay.of (s0^O)),(@TT:π),by rw[<-æ],33]
  refine du (lo:=0) (n:=((@TT:π)).Φ) (λi v F=>∃(x:Zn)(v2 v3 I m:Zc),v=#v[?B,?y,v2,v3,I,m]/\ao H F/\(∀q∈x,q≠y)/\F y\.Ν (x.Κ V.É)/\bT F x ((~~~i).Κ (qN g @TT)))
   {[],ε,ε,ε,ε,2,s0,(λq u=>by ext u),h0,⟨2,λi r row a _=>by ext a⟩} ?_ ?_
  .rintro r v H1 hr ⟨x,v2,v3,I,m,Ų,s1,U,h1,u⟩;let M:r<@TT:=∅
   let ql:@x=r:=by rw[u.1,aog,aoU]
   rw[show (0:π)+ (r:π)=(r:π) by ext];rwa[4,λl1 n1=>?_];generalize e_:ψ H1 l1 _=R;let[Y,d1]:=dc e_ n1;rwa[12,B,12,.Α (ay.of (Y^s1^O)),l1,(@TT:π),[V.non],2,by rw[<-æ],d1,335,λd nr=>?_]
   .rwa[aot (show 1* (@TT:π).Φ<=300 by omega) ⋯]
   let er:(θ.Ê (@TT:π).Φ [V.non]).Ì.ü=@TT:=by rw[θ.length_flatten,θ.map_replicate,θ.sum_replicate_nat];show (@TT:π).Φ* 1=_;ext
   let nr':R d=ε:=nr;let c2:=ao.ψ (o:=.Ν (θ.Ê (@TT:π).Φ [V.non]).Ì) nr;let d2:ψ R d (.Ν (θ.Ê (@TT:π).Φ [V.non]).Ì) d\(.Ν (θ.Ê (@TT:π).Φ [V.non]).Ì):=aj;change (θ.Ê (@TT:π).Φ [V.non]).Ì=l at er c2 d2 ⊢;change ψ R d _=H3 at c2 d2 ⊢;erw[1212,d,l,(0),(0),22,d2,by unfold pY;rw[aoO ⋯,aoO ∅];rfl];let s2:ao R (ψ H3 d (.Ν (l.set 0 (.υ (r:π))))):=λb o e=>by rw[aq (QA nr)];rwa[c2^e]
   let d3:ψ H3 d (.Ν (l.set 0 (.υ (r:π)))) d\(.Ν (l.set 0 (.υ (r:π)))):=aj
   let w0:Rw TT L g r 0 0 (l.set 0 (.υ (r:π))):={by cbv,λs hs q=>by
    rcases q with rfl|⟨t,k,_,h,_⟩
    .rw[ao9 (by omega),hG.z r M]
    .ext}
   change l.set 0 (V.υ (r:π))=vs1 at s2 d3 w0 ⊢;let C:=s1.ν Y;erw[12,B,12,.Α (ay.of (s2^C^O)),(@TT:π),by rw[<-æ],33]
   refine du (lo:=0) (n:=((@TT:π)).Φ) (λi v F=>∃(f:Zb)(I m:Zc),v=#v[?B,?y,.υ (r:π),?d,I,m]/\ao R F/\F d\.Ν f/\Rw TT L g r i 0 f)
    {vs1,I,m,2,s2,d3,w0} ?_ ?_
   .rintro n v F hn ⟨f,I,m,Ų,S,h5,w5⟩;let p:n<@TT:=∅
    rw[show (0:π)+ (n:π)=(n:π) by ext];let[VL,r0,Bs,g1,g2,g3,g4,g5]:=gy (N.Μ (C.ν S)) z X;erw[12,B,11,?r0,22,ay.of g1,bZ (i:=0) g2,r0,12,.Α (ay.of g3),((2* L:η):π),by rw[aF,g4],33]
    refine du (lo:=0) (n:=(((2* L:η):π)).Φ) (λj v H6=>∃(f:Zb)(m:Zc),v=#v[?B,?y,.υ (r:π),?d,.υ (n:π),m]/\ao R H6/\H6 d\.Ν f/\Rw TT L g r n j f)
     {f,m,2,S,h5,w5} ?_ ?_
    .rintro j v H6 hj ⟨f,m,Ų,s6,h6,W⟩;let D:j<2* L:=∅
     rw[show (0:π)+ (j:π)=(j:π) by ext]
     let gn:f[n]?\(.υ ((g r n:η):π)):=W.2 n p (by
      cases e:n=0
      .rwa[.Α e]
      .let[t,k,a,b,c]:=JB z hF (show 0<n by omega) p;rwa[.Ç {t,k,b,.Α a,c}])
     let Z:=N.Μ (C.ν s6);let[ra,q1,amM,a1,a2,a3,a4,a5]:=gy Z z (hG.lt r n M p);let[rb,q2,amN,b1,b2,b3,b4,b5]:=gy Z z p;let hx:M11.nx TT j n<@TT:=z.lt n j p D;erw[121212,d,f,1122,ay.of h6,bX gn,B,11,?q1,22,ay.of a1,bZ a2,12,q1,11122,ay.of a3,bX (bR (a5 j D))];erw[121212,B,11,?q2,22,ay.of b1,bZ b2,12,q2,11122,ay.of b3,bX (bR (b5 j D)),d,f,_,M11.nx TT j n,22,h6,by unfold pY;rw[aoO ∅,aoO (by rw[W.1];omega)];rfl];rw[<-hG.st r n j M p D];rwa[112,λb o e=>[aq (QA nr)]▸s6^e,aj,W.set _ Ų]
    .rintro v H6 ⟨f,m,Ų,s6,h6,W⟩;rwa[f,112,s6,h6,W.up]
   .rintro v F ⟨f,I,m,Ų,S,h5,w5⟩;let ev:=w5.full z hF;subst ev;let J:=(Y.ν S) β h1;erw[12,.Α {21,ay.of J},12,y,1122,J,[aog]▸aop (show @x<=300 by omega) ⋯]
    let G:∀q∈x++[d],q≠y:=λq u=>by
     rcases aov.mp u with u|u
     .rwa[U q u]
     .rw[aok.mp u];exact λe=>by rw[e,Y^h1]at nr';ext nr'
    erw[x++[d],11112,λb o e=>[aq (QA nf0)]▸(C.ν S) β e,G,by rw[aj,aoE];rfl];rw[apC,aoE];rwa[T5 ((u.Μ (Y.ν S)).ċ h5) J G]
  .rintro v H1 ⟨x,v2,v3,I,m,Ų,s1,U,h1,u⟩;rwa[12,k y _ s1 {x,h1,u}]
def vt (g:η->η->η)(h:Zh)(i j:η):ο:=∃r∈h,j=g i r
def JC:(j:π)∈bC B↔j∈B:={λh=>by let[x,a,e]:=ao1.mp h;rw[<-π.ofNat.inj e];rwa[a],λh=>ao1.mpr {j,h,2}}
structure AG (g:η->η->η)(h:Zh)(N:η)(F:Zh):ο where
 nd:F.Á
 zm:0∈F
 lt:∀i∈F,i<N
 mn:∀P:η->ο,P 0->(∀x y,P x->vt g h x y->P y)->∀x∈F,P x
def AG.add {g:η->η->η}{F:Zh}(f:AG g B n F){i j:η}(l:i∈F)(r:vt g B i j)(k:j<n)(c:j∉F):AG g B n (F++[j]):={apb.mpr {f.nd,by simp,λa m b o=>by cbv},Of f.zm,λx d=>by
 rcases aov.mp d with d|d
 .rwa[f.lt x d]
 .rw[aok.mp d];rwa[k],λP h e x d=>by
 rcases aov.mp d with d|d
 .rwa[f.mn P h e x d]
 .rw[aok.mp d];rwa[e i j (f.mn P h e i l) r]}
inductive Qm (vs:Zb)(H:Hp)(Q:VK)(E_:XK):ο
 |mk (pa ha:Zs)(g:η->η->η)(N:η)(h:Zh):vs=[?pa,?ha]->Ċ H pa (qO g N)->(∀r s,r<N->s<N->g r s<N)->H ha\.Ν MW->(∀x∈h,x<N)->1<=N->N<=300->(∀F H',Q1 H'->M19.Cz 0 (vt g h) F->Q (.bl (decide (@F=N))) H')->Qm vs H Q E_
theorem Hz (T:ų):T.yh.Ok P w Β 1 Qm:=by
 rwa[T.yh.on j3 (λcf AA Ψ s H vs Q E X h=>?_)]
 .let[M,Y,g,N,v,Ų,hP,hG,hh,xt,VX,hN3,k]:=h
  refine{_,{{KB j3.nd (bH #[ak]),ZV j3.nd ak,bS (Po (a9 ot (pv 3) (2<<<0) (bq _))
    {{ž Cf (Sa j3.nd)
     {{bS (bL (a9 Kk ((0|||(2|||3))|||4) (pv 2) Ų)
      {{aX (RI #[(0|||(2|||3))|||4])}}
      bf)}},ZV j3.nd MU}}),aZ (kx dS (2<<<0) (0<<<0) (bq _))}},?_}
  rwa[by decide,λa xr=>?_];let s0:ao H (Ϻ (.Ν [.υ 0])):=ao.ψ xr;let h0:ψ H a (.Ν [.υ 0]) a\(.Ν (aw (bC [0]))):=aj;let F1:AG g v N [0]:={by simp,by simp,λi C=>[aok.mp C]▸VX,λP h0 _ x hx=>by cbv};erw[λ u D=>∃(F:Zh)(c:Zc)(at_:π),u=#v[?M,?Y,?a,.υ at_,c]/\ao H D/\D a\.Ν Ch/\AG g v N F/\∀i∈F,∀j,vt g v i j->j∈F,5]
  .erw[λms W D=>∃(F:Zh)(c:Zc)(n:η),ms=300 - n/\W=#v[?M,?Y,?a,.υ (n:π),c]/\ao H D/\D a\.Ν Ch/\AG g v N F/\n<=@F/\∀i∈F.Χ n,∀j,vt g v i j->j∈F,⟨_,[0],ε,(0),22,s0,h0,F1,aoN _,λi C=>by simp at C⟩]
   rintro ms W H2 ⟨F,c,n,Ų,Ų,Z,G,l,F3,J⟩;let hFl:@F<=300:=aot (M11.eG N F l.nd l.lt) hN3;erw[1212,a,12,.Α (ay.of G),112212];rwa[cQ (λh=>?_) (λh=>?_)]
   .let I:n<@F:=by let h':(n:π)<(@(aw (bC F)):π):=aoS h;rw[aF,eU]at h';ext
    obtain⟨fA,gn⟩:∃gx,F[n]?\gx:={F[n],aoe I}
    change fA=B at gn;let hi0:=aoi gn;erw[λ u D=>∃(F:Zh)(c:Zc)(U:η),u=#v[?M,?Y,?a,.υ (U:π),c]/\ao H D/\D a\.Ν Ch/\AG g v N F/\U<=@F/\(∀i∈F.Χ U,∀j,vt g v i j->j∈F)/\U=n+ 1/\n<300,λ u D ζ=>by let[F,c,U,e,b1,b2,b3,b4,b5,b6,b7]:=ζ;rwa[300 - U,3,F,c,U,2,e,b1,b2,b3,b4,b5]];erw[12,Y,2,{_,ay.of (Z^hh)}]
    refine cF (xs:=aw (bC v)) (λt W H3=>∃(d:Zh)(c:Zc),W=#v[?M,?Y,?a,.υ (n:π),c]/\ao H H3/\H3 a\.Ν (aw (bC (F++d)))/\AG g v N (F++d)/\∀r∈v.Χ t,g B r∈F++d)
     {[],c,2,Z,[aoJ]▸G,[aoJ]▸l,λr X=>by simp at X} (λt W H3 _ ζ=>by let[_,_,_,s,_]:=ζ;rwa[ay.of (s^hh)]) ?_ ?_
    .rintro t y W H3 ht ⟨d,c,Ų,s3,f,p,m⟩;let[z,Ų,hz]:=bW ht;let[r,X,Ų]:=Jo hz;let S:=aoi X;let O:B∈F++d:=aoF _ hi0;let L:=p.lt _ O;let Jc:=hG B r L (xt r S);let gF:(F++d)[n]?\B:=by rw[aoq I];rwa[gn]
     let[rs,q,p1,p2,p3]:=Ma (hP.Μ s3) L;let px:=Bz (g:=g) (N:=N) (r:=B) (xt r S);let Qe:vt g v B (g B r):={r,S,2}
     let R:∀(F2:Zh),g B r∈F2->(∀x∈F++d,x∈F2)->∀r'∈v.Χ (t+ 1),g B r'∈F2:=λF2 h1 h2 r' hr'=>by
      rw[ao2,X]at hr'
      cbv
     rwa[λ u D=>∃(d:Zh)(c:Zc),u=#v[?M,?Y,?a,.υ (n:π),c]/\ao H D/\D a\.Ν (aw (bC (F++d)))/\AG g v N (F++d)/\∀r∈v.Χ (t+ 1),g B r∈F++d,5,λ_ _ h=>h];generalize hj':g B r=j at Jc Qe R px;erw[121212,a,11122,ay.of f,bX (bR (pS gF)),M,11122,ay.of p1,p2,12,q,11122,ay.of p3,px,121,a,122,f,12];rwa[cQ (λhn=>?_) (λhn=>?_)]
     .let hj:j∉F++d:=λz=>by rw[aoP (JC.mpr z)]at hn;ext hn
      let T2:@(F++d)<=300:=aot (M11.eG N _ p.nd p.lt) hN3;erw[12,.Α {21,ay.of f},121212,a,11122,ay.of f,bX (bR (pS gF)),M,11122,ay.of p1,p2,12,q,11122,ay.of p3,px,a,1122,f,5]
      .rw[aF,eU];rwa[aop T2 ⋯]
      erw[d++[j],12,λb o e=>[aq (QA xr)]▸s3^e,55]
      .rw[aj,<-ao6,yC,ï];rfl
      .rw[<-ao6];rwa[p.add O Qe Jc hj]
      .rwa[R _ (by simp) λx hx=>?_]
       cbv
     .let hj:j∈F++d:=ao3 λz=>hn (by rw[apd (λq=>z (JC.mp q))];rfl)
      rwa[d,12,s3,f,p,R _ hj λx hx=>hx]
    .rintro W H3 ⟨d,c,Ų,s3,f,p,m⟩;rw[aF,eU,apc]at m;rwa[121122,F++d,c,n+ 1,5,s3,f,p,by rw[aoj];ext,λi C j hR=>?_,23]
     .cbv
     .rw[aqV ∅,ao2,gn]at C;rcases aov.mp C with C|C
      .rwa[Of (J i C j hR)]
      .let e:i=B:=by simpa using C
       let[r,X,Ų]:=hR;rw[e];rwa[m r X]
   .let I:@F<=n:=by
     let h':¬(n:π)<(@(aw (bC F)):π):=λz=>h TD
     rw[aF,eU]at h';ext
    rwa[F,c,12,Z,G,l,λi C=>J i ([apq I]▸C)]
  rintro u H2 ⟨F,c,at_,Ų,Z,G,l,J⟩;let[rs,h1,h2]:=hP.Μ Z;let pM:@rs=N:=by rw[h2.1];unfold qO;rw[aog,aoU]
  erw[12,a,12,.Α (ay.of G),12,M,12,.Α (ay.of h1),2]
  let e:decide (V.υ (@(aw (bC F)):π)=V.υ (@(rs.Κ V.É):π))=decide (@F=N):=by rw[aF,eU,aog,pM,apN];rwa[λz=>by injection z with z;ext,λz=>by rw[z]]
  rw[e];rwa[k F H2 Z {l.nd,l.zm,J,l.mn}]
def fk (g:η->η->η)(b:η->η)(Ô:Za3)(h:Zh):ã:=Ô.all λr=>decide (Lu r=0)
def jg (g:η->η->η)(N:η)(h:Zh):ã:=@@decide (∃F,M19.Cz 0 (vt g h) F/\@F=N) Gc
def DJ (g:η->η->η)(b:η->η)(N n:η)(Ô:Za3):θ Zh:=(T0 n).Ö λh=>fk g b Ô h && jg g N h
inductive JD (vs:Zb)(H:Hp)(Q:VK)(E_:XK):ο
 |mk (gq ra pa:Zs)(n:η)(g:η->η->η)(b:η->η)(N:η)(Ô:Za3):vs=[?gq,?pa]->H gq\.Ò [.υ (n:π),?ra]->bM H ra Ô->Ċ H pa (qO g N)->GG g b N->1<=N->N<=300->n<=900->@Ô<=1000->(∀r∈Ô,ϳ r)->(5000<M20.cap N n->Q .non H)->(M20.cap N n<=5000->∀l H',Q1 H'->Ċ H' l ((DJ g b N n Ô).Κ bC)->Q ?l H')->JD vs H Q E_
def vu (T:ų):T.qu.Ok P w Β 2 JD:=by
 rwa[T.qu.on cC (λcf AA Ψ s H vs Q E hr h=>?_)]
 .let[Z,ra,pa,n,g,b,N,Ô,Ų,hgq,P8,hP,hG,W,VY,hn,pM,F7,kE,k]:=h
  refine{_,{{KB cC.nd (1<<<0),ZV cC.nd ak,ž (WF #[0&&&ak]) (Sa cC.nd)
    {{ZV cC.nd (NI #[ak,NN (pv 3) (pv 2)])}},bL (a9 pX (pv 3) ak (bq _))
    {{aZ cW}}
    bf,LE cC.nd (bH #[bH ah]),ž (WF #[0&&&ak]) (Sa cC.nd)
    {{bp 6 cC.nd Op,ž Cc (cU 7 cC.nd)
     {{aX (Lo ud (pv 6) #[eK (fns:=[Wl]) (ixs:=[7]) (cl:=_) Ų (WF #[2]) (b0 [(_,_)] Ų {Ų,Ų,Ų,Ų,Ų,þ.intro} Ų) (λC s H ex=>(aJ yS (pv 1) (bH #[0])))])}},LE cC.nd (pv 6)}},bp 8 cC.nd Op,ž Cc (cU 7 cC.nd)
    {{bp 9 cC.nd mJ,ž (ck (0&&&ak)) (cU 10 cC.nd)
     {{bp 9 cC.nd (mS (pv 9) (qU (kx dS (pc T.qt (vr T) hr #[1,7,10]) ak (bq _))))}},bS (bL (PW.pt (XP (iL (pv 9)) (V8 (iL (pc T.yh (Hz T) hr #[1,7])))))
     {{aX (ŵ (pv 8) #[7])}}
     bf)}},aZ (pv 8)}},?_}
  let[prs,CT,Aq]:=id hP;let j4:(@(prs.Κ V.É):π)=(N:π):=by rw[aog,Aq.1];unfold qO;rw[aog,aoU]
  erw[12,pa,12,.Α (ay.of CT)];rw[j4];erw[12,Z,11122,bG.of hgq,2,(n:π),233]
  refine du (lo:=0) (n:=((n:π)).Φ) (λi u Y=>∃(O:Zc),u=#v[?Z,?pa,.υ (N:π),.υ ((M20.cap N i:η):π),O,ε,ε,ε,ε,ε,ε]/\Y=H)
   {ε,22} ?_ ?_
  .rintro i u Y hi ⟨O,Ų,rfl⟩;let hc:=M20.aaE N i;erw[12121122,.Α {33},112]
   let e:(if ((M20.cap N i:η):π)* (N:π)<5001 then ((M20.cap N i:η):π)* (N:π) else 5001)=((M20.cap N (i+ 1):η):π):=by show _=((min 5001 (M20.cap N i* N):η):π);split <;> ext
   rw[e];rwa[122]
  rintro u Y ⟨O,Ų,rfl⟩;rw[show ((n:π)).Φ=n by ext];rwa[12112212,cQ (λhc=>?_) (λhc=>?_)]
  .let hc:=aoS hc;rwa[kE ∅]
  let TR:M20.cap N n<=5000:=ao3 λz=>hc (aoP (show ((M20.cap N n:η):π) > 5000 by omega))
  rwa[aoN _,λq0 PR=>?_];let s0:ao Y (ψ Y q0 (.Ν [])):=ao.ψ PR;let h0:ψ Y q0 (.Ν []) q0\(.Ν (aw (bC []))):=aj;change ψ Y q0 _=H0 at s0 h0 ⊢;rwa[Za4 1,λl0 hl0=>?_];let s1:ao H0 (ψ H0 l0 (.Ν [?q0])):=ao.ψ hl0;let h1:ψ H0 l0 (.Ν [?q0]) l0\(.Ν ([q0].Κ V.É)):=aj;erw[12,Z,11122,bG.of ((s0.ν s1) β hgq),2,(n:π),233]
  refine du (lo:=0) (n:=((n:π)).Φ) (λi u H3=>∃(X:Zs)(O v6 I:Zc),u=#v[?Z,?pa,.υ (N:π),.υ ((M20.cap N n:η):π),O,?X,v6,I,ε,ε,ε]/\ao Y H3/\L5 Y H3 X ((T0 i).Κ bC))
   {l0,O,ε,ε,2,s0.ν s1,[q0],h1,{2,λi r ns g1 g2=>?_},s0.free hl0,λr hr=>by cbv} ?_ ?_
  .let e2:ns=bC []:=aok.mp (aoi g2);rw[aok.mp (aoi g1),e2];rwa[s1^h0]
  .rintro i u VZ hi ⟨X,O,v6,I,Ų,s2,d,h2,R2,CM,VQ⟩
   let Ip:M20.cap N (i+ 1)<=5000:=by
    cases z:M20.cap N (i+ 1)<=5000
    .rwa[z]
    .have:=M20.zo W (j:=i+ 1) (n:=n) ∅ ∅;ext
   let Jd:=M20.sG W Ip;let S:@(T0 (i+ 1))=@(T0 i)* N:=M20.pe β;let eS:M20.gf N (i+ 1)=(T0 i).ĥ r8:=rfl;let B:∀h∈M20.gf N i,@h=i:=λh hh=>(M20.jm hh).1
   rw[eS];change M20.gf N i=al at R2 S B;let pO:@d=@al:=by have:=R2.1;rw[aog]at Δ;rwa[Δ]
   rwa[aoN _,λf L=>?_];let s3:ao VZ (ψ VZ f (.Ν [])):=ao.ψ L;let h3:ψ VZ f (.Ν []) f\(.Ν (([]:Zn).Κ V.É)):=aj;erw[12,X,2,{_,ay.of (s3^h2)}]
   refine cF (xs:=d.Κ V.É) (λj u H4=>∃(c:Zn)(I:Zc),u=#v[?Z,?pa,.υ (N:π),.υ ((M20.cap N n:η):π),.υ (0+ (i:π)),?X,?f,I,ε,ε,ε]/\ao VZ H4/\H4 f\.Ν (c.Κ V.É)/\f∉c/\(∀q∈c,Y q=ε)/\bT H4 c (((al.Χ j).ĥ r8).Κ bC))
    {[],12,s3,h3,by simp,λq hq=>by simp at hq,{by simp,λi r ns g1=>by simp at g1}} (λj u H4 _ ζ=>by let[_,_,_,s,_]:=ζ;rwa[ay.of (s^h2)]) ?_ ?_
   .rintro j y u H4 M ⟨c,I,Ų,s4,h4,nw4,nq4,R4⟩;rw[aon]at M
    let hjl:j<@d:=by
     cases e:d[j]? with
     |ε=>rw[e]at M;ext M
     |ι r=>exact(aoh.mp e).1
    obtain⟨fA,q1⟩:∃gx,d[j]?\gx:={d[j],aoe hjl}
    rw[q1]at M;let ey:V.É fA=y:=Za0 M;subst ey;change fA=rp at q1;obtain⟨jv,q2⟩:∃gx,al[j]?\gx:={al[j]'∅,aoe ∅}
    change jv=m at q2;let xt:=B m (aoi q2);let U:=s4^(R2.2 j rp (bC m) q1 (by rw[aon,q2];rfl))
    let ny:@c+ N<=5000:=by let e1:=R4.1;rw[aog,M20.pe,aoX,aqf ∅]at e1;have:(j+ 1)* N<=@al* N:=apA _ ∅;rw[aqL]at Δ;ext
    erw[12,.Α {21,ay.of h4},12,(N:π),233];rwa[Qa (n:=((N:π)).Φ) (λx=>bC (m++[x])) ∅ (λx G R hx s5 hR=>?_) (λD G qs s5 hD hqa hqn=>?_)]
    .rw[arX];rwa[1212,Za4 1,λq hq=>?_];let J:ao G (ψ G q (.Ν [.υ (x:π)])):=ao.ψ hq;let hq6:ψ G q (.Ν [.υ (x:π)]) q\(.Ν [.υ (x:π)]):=aj;rwa[rp,q,1122,J^s5^U,hq6,5,λl hl=>?_]
     .rw[aF,eU,xt];rwa[aot (show i+ 1<=2000 by omega) ⋯]
     rw[C3];rwa[hR l _ (J.ν (ao.ψ hl)) (J.free hl) aj]
    let J:ao G (ψ G D (.Ν (qs.Κ V.É))):=ao.ψ hD;let hD6:ψ G D (.Ν (qs.Κ V.É)) D\(.Ν (qs.Κ V.É)):=aj;let hql:@qs=N:=by have:=hqa.1;rw[aog,aoU]at Δ;rwa[Δ]
    let s46:=s5.ν J;erw[f,D,1122,s46^h4,hD6,5]
    .rw[aog,aog,hql];rwa[aot ny ⋯]
    let nq:f∉qs:=λz=>by cbv
    erw[c++qs,12,λb o e=>[aq (QA L)]▸s46^s4^e,by rw[aj,aoE],λz=>?_,λq hq=>?_]
    .cbv
    .rcases aov.mp hq with hq|hq
     .rwa[nq4 q hq]
     .rwa[(s2.ν s4).free (hqn q hq)]
    .let e:((al.Χ (j+ 1)).ĥ r8).Κ bC=((al.Χ j).ĥ r8).Κ bC++(~~~N).Κ λx=>bC (m++[x]):=by
      rw[ao2,q2,ap0,aoE]
      congr 1
      show ((M20.ext N m)++[]).Κ bC=_;rw[aoJ];unfold M20.ext;rw[ao4];rfl
     rw[e];rwa[bT.but (w:=f) (TV (R4.Μ s46) (hqa.Μ J)) fQ.ψ λz=>?_]
     cbv
   .rintro u H4 ⟨c,I,Ų,s4,h4,nw4,nq4,R4⟩;rw[aog,pO,apc]at R4;rwa[12,f,1112,s2.ν s4,c,h4,R4,s2.free L,nq4]
  .rintro u H3 ⟨X,O,v6,I,Ų,s3,d,h3,R3,nl3,nr3⟩;rw[show ((n:π)).Φ=n by ext]at R3;let S:=M20.sG W TR;let B:∀h∈M20.gf N n,@h=n/\∀x∈h,x<N:=λh hh=>M20.jm hh
   let eo:DJ g b N n Ô=(T0 n).Ö λh=>fk g b Ô h && jg g N h:=rfl
   change M20.gf N n=al at R3 S B eo;let pO:@d=@al:=by have:=R3.1;rw[aog]at Δ;rwa[Δ]
   rwa[aoN _,λf L=>?_];let s4:ao H3 (ψ H3 f (.Ν [])):=ao.ψ L;let h4:ψ H3 f (.Ν []) f\(.Ν (([]:Zn).Κ V.É)):=aj;let Vp:H3 f=ε:=L;erw[12,X,2,{_,ay.of (s4^h3)}]
   refine cF (xs:=d.Κ V.É) (λj u G=>∃(c:Zn)(I v9 v:Zc),u=#v[?Z,?pa,.υ (N:π),.υ ((M20.cap N n:η):π),O,?X,v6,I,?f,v9,v]/\ao H3 G/\G f\.Ν (c.Κ V.É)/\f∉c/\bT G c (((al.Χ j).Ö λh=>fk g b Ô h && jg g N h).Κ bC))
    {[],I,ε,ε,2,s4,h4,by simp,{by simp,λi r ns g1=>by simp at g1}} (λj u H4 _ ζ=>by let[_,_,_,_,_,s,_]:=ζ;rwa[ay.of (s^h3)]) ?_ ?_
   .rintro j y u G M ⟨c,I,v9,v,Ų,s5,h5,Pl,R5⟩;rw[aon]at M
    let hjl:j<@d:=by
     cases e:d[j]? with
     |ε=>rw[e]at M;ext M
     |ι r=>exact(aoh.mp e).1
    obtain⟨vo,q1⟩:∃gx,d[j]?\gx:={d[j],aoe hjl}
    rw[q1]at M;let ey:V.É vo=y:=Za0 M;subst ey;change vo=rp at q1;obtain⟨Gh,q2⟩:∃gx,al[j]?\gx:={al[j]'∅,aoe ∅}
    change Gh=m at q2;let[xt,V0]:=B m (aoi q2);let U:=R3.2 j rp (bC m) q1 (by rw[aon,q2];rfl)
    let et:(al.Χ (j+ 1)).Ö (λh=>fk g b Ô h && jg g N h)=(al.Χ j).Ö (λh=>fk g b Ô h && jg g N h)++[m].Ö (λh=>fk g b Ô h && jg g N h):=by rw[ao2,q2,apV];rfl
    let ny:@c<=5000:=by have:=R5.1;rw[aog]at Δ;have:=aph (λh=>fk g b Ô h && jg g N h) (al.Χ j);rw[aoX]at Δ;ext
    let[ps,Ap,P9]:=id P8;let hg5:=At β hgq;erw[12,Z,11122,bG.of hg5,2,ra,2,{_,ay.of (At β Ap)}]
    refine cF (xs:=ps.Κ V.É) (λt u H6=>∃(v:Zc),u=#v[?Z,?pa,.υ (N:π),.υ ((M20.cap N n:η):π),O,?X,v6,?rp,?f,.bl (fk g b (Ô.Χ t) m),v]/\H6=G)
     {v,22} (λj u H4 _ ζ=>by let[_,_,e]:=ζ;rwa[[e]▸ay.of (At β Ap)]) ?_ ?_
    .rintro t y u H6 ht ⟨v,Ų,rfl⟩;rw[aon]at ht
     obtain⟨p,hp,rfl⟩:∃p,ps[t]?\p/\y=?p:=by cbv
     let htl:t<@Ô:=by rw[<-P9.1];rwa[(aoh.mp hp).1]
     obtain⟨L1,hw⟩:∃gx,Ô[t]?\gx:={Ô[t],aoe htl}
     change L1=w at hw;let hpw:=At β (P9.2 t p w hp hw);let Uu:=F7 w (aoi hw)
     let eg:fk g b (Ô.Χ (t+ 1)) m=(fk g b (Ô.Χ t) m && decide (fo g b m w=0)):=by unfold fk;rw[ao2,hw,θ.all_append];show (_ && (_ && ρ))=_;rw[ã.and_true]
     erw[1212];rw[eg];rwa[cQ (λq=>?_) (λq=>?_)]
     .rw[q];erw[121212,pa,rp,p,g,b,N,m,w,2,hP.Μ At,hG,s5^U,V0,hpw,by cbv,W,2]
      let e:decide (V.υ ((fo g b m w:η):π)=V.υ 0)=(ρ && decide (fo g b m w=0)):=by rw[ã.true_and,apN];rwa[λz=>by injection z with z;ext,λz=>by rw[z];rfl]
      rw[e];rwa[122]
     .let q:fk g b (Ô.Χ t) m=ς:=by cases e:fk g b (Ô.Χ t) m with
       |ρ=>exact Ρ e q
       |ς=>rfl
      rw[q];rwa[122]
    .rintro u H6 ⟨v,Ų,rfl⟩;rw[aog,P9.1,apc];rw[et];rwa[λ fH H'=>∃(c:Zn)(I v9 v:Zc),fH=#v[?Z,?pa,.υ (N:π),.υ ((M20.cap N n:η):π),O,?X,v6,I,?f,v9,v]/\ao H3 H'/\H' f\.Ν (c.Κ V.É)/\f∉c/\bT H' c (((al.Χ j).Ö (λh=>fk g b Ô h && jg g N h)++[m].Ö (λh=>fk g b Ô h && jg g N h)).Κ bC),5,λ_ _ h=>h];erw[1212]
     let nil:∀{q:ã},q=ς->(fk g b Ô m=ρ->jg g N m=q)->[m].Ö (λh=>fk g b Ô h && jg g N h)=[]:=λ{q} e z=>by cbv
     rwa[cQ (λq=>?_) (λq=>?_)]
     .rwa[1212,pa,rp,g,N,m,2,hP.Μ At,hG.lt,s5^U,V0,W,VY,λF H7 s7 hC=>{125}]
      let eo:jg g N m=decide (@F=N):=by unfold jg;rw[apN];rwa[λζ=>by let[F',a,b]:=ζ;rwa[(Jv hC a).ν b],λz=>{F,hC,z}]
      let h7:=s7^h5;rwa[cQ (λqo=>?_) (λqo=>?_)]
      .rw[<-eo]at qo;erw[12,.Α {21,ay.of h7},12,f,1122,h7,[aog]▸aop ny ⋯];let nr:rp≠f:=λe=>by cbv
       erw[c++[rp],1112,λb o e=>[aq (QA Vp)]▸(s5.ν s7) β e,by rw[aj,aoE];rfl,λz=>?_]
       .cbv
       .rw[aqO (by rw[q,qo];rfl),θ.filter_nil,aoE];rwa[bT.but (w:=f) ((R5.Μ s7).ċ ((s5.ν s7) β U)) fQ.ψ λz=>?_]
        cbv
      .let qo:decide (@F=N)=ς:=by cases e:decide (@F=N) with
        |ρ=>exact Ρ e qo
        |ς=>rfl
       rw[nil qo λ_=>eo,aoJ];rwa[c,1112,s5.ν s7,h7,Pl,R5.Μ s7]
     .let q:fk g b Ô m=ς:=by cases e:fk g b Ô m with
       |ρ=>exact Ρ e q
       |ς=>rfl
      rw[nil Ų (λz=>by cbv),aoJ];rwa[c,1112,s5,h5,Pl,R5]
   .rintro u G ⟨c,I,v9,v,Ų,s5,h5,Pl,R5⟩;rw[aog,pO,apc,<-eo]at R5;rwa[12,k TR f _ At {c,h5,R5}]
def j6 (T:Za3)(a:Ϣ)(Ô:Za3)(n:η):θ Zh:=(M20.ri T (wy a) @T Ô n).Ö λh=>@@decide (Jw T a h) Gc
inductive Qn (C:Zs)(vs:Zb)(H:Hp)(Q:VK)(E:XK):ο
 |mk (gq ta ra:Zs)(T:Za3)(L n:η)(Ô:Za3):vs=[?gq,?ta]->H gq\.Ò [.υ n,?ra]->bM H ra Ô->Ċ H ta T->M11.Tab L T->M12.Fc (2* L) T.Ì @T->n<=900->@Ô<=1000->(∀r∈Ô,ϳ r/\@r<=1000)->(5000<M20.cap @T n->E ?C ε H)->(M20.cap @T n<=5000->∀(ws:Ϣ)(l:Zs)(H':Hp),Q1 H'->LW L T ws->Ċ H' l ((j6 T ws Ô n).Κ bC)->Q ?l H')->Qn C vs H Q E
def tY (T:ų):cX P w K mg Β ϴ 6 A.uL A.uM ["group",We] (Qn A.b9):=by
 rwa[T.iE.F.N4 tT (λvs H Q E h=>?_) (λcf AA Ψ s H vs Q E p h=>?_)]
 .let[Z,ta,ra,TT,L,n,Ô,Ų,_]:=h;rfl
 .let[Z,ta,ra,TT,L,n,Ô,Ų,y,P8,J,O,hF,hn,pM,W,kE,k]:=h
  erw[_,{{aX (oH (Bv T) (p.mono ⋯) Ų T.mK.m T.mK.F.kp T.mK.b .nil zk #[1<<<0,0&&&ak]),KB tT.nd (vD (ym T) (wJ T) (p.mono ⋯) Ų T.Xj T.ie.b .nil o8 #[1]),aZ (zh (fns:=[Z4]) (ixs:=[2]) (cl:=_) Ų (ck (pc T.yg (Hy T) p #[2,0&&&ak,0&&&ak])) (b0 [(_,_)] Ų {22222,þ.intro} Ų) (λC s H ex=>(iL (pc T.pE (AF T) p #[1,0]))) (λC s H ex=>(pv 0)))}}]
  let sY:=O.top;let v:=O.pos;let[rs,PD,hrw]:=id J;let æ:(@(rs.Κ V.É):π)=(@TT:π):=by rw[aog,hrw.1]
  rwa[12,ta,12,.Α (ay.of PD),12,Z,11122,bG.of y,2,@TT,n,apW (λz=>[V.υ z,V.υ (n:π)]) æ,v,33,λhc=>?_,λz=>kE z];rwa[12,λx I nx ndx zg=>?_]
  let s0:ao H (ψ (ψ H I (.own x)) x (.ins A.bE I [])):=λb o e=>by rw[aq (QA nx),aq (QA ndx)];rwa[e]
  rwa[x,I,ta,TT,L,2,aj,J.Μ s0,O,hF,λfs fl d f H1 kp B j c M Nz t nd hFa G=>{25}];let s1:ao H H1:=λb o e=>kp b o (s0 b o e) (QA nx)
  let nd0:H d=ε:=s0.free nd;let[bV,m,g]:=id hFa;let M1:eH A.bE H1 x d TT f (λ_=>Ð):={{I,fl,fs,bV,B,j,c,M,m,g,λz=>z,Nz,λ_ _ z=>z},[],[],t,by simp,λr p=>by simp at p,2,λi=>.Α {by simp,2}};rwa[1212,Z,11122,bG.of (s1^y),212,Z,11122,bG.of (s1^y),2,x,ra,d,TT,L,n,f,Ô,2,P8.Μ s1,M1,O,G,hn,hc,pM,W,λl H2 b2 hN=>?_];let[rs2,f1,f2,f3,f4]:=hN;let s2:ao H H2:=λb o e=>b2 β (QA nd0) (s1^e)
  let Gv:H2 x\(.ins A.bE I fs):=b2 β (bD B t (by cbv)) B;let hF2:Ċ H2 fl (e9 TT f):={bV,b2 β (bD m t (by cbv)) m,g.1,λi r row a b=>b2 β (bD (g.2 i r row a b) t (by cbv)) (g.2 i r row a b)};let Qo:∀r∈Ô,∀s∈r,s≠0:=λr p s hs=>((W r p).1 s hs).1
  let Y:=M20.uE (T:=TT) (wy:=wy f) (N:=@TT) Qo n;let Jd:=M20.sG v hc
  let pO:@(Mn (wy f) @TT Ô n)<=5000:=by
   have:@(Mn (wy f) @TT Ô n)<=@(M20.gf @TT n):=by rw[Y];rwa[aph β]
   ext
  let U:∀h∈M20.ri TT (wy f) @TT Ô n,@h=n/\∀x∈h,x<@TT:=λh hh=>by rw[Y]at hh;rwa[M20.jm (apa.mp hh).1]
  erw[l,2,{_,ay.of f1}]
  classical
  rwa[L7 (λu=>decide (∃h,u=bC h/\Jw TT f h)) f1 f2 ([aog]▸pO) (λH3 r u R s3 hu p hR=>?_) (λH3 r R hR=>{12,hR}) (λD H3 qs s3 hD hdt=>?_)]
  .let[h,hh,Ų]:=ao1.mp hu;let[hl1,Cb]:=U h hh;rwa[1212,x,r,I,fl,fs,TT,L,f,h,2,s3^Gv,j,c,hF2.Μ s3,O,G,p,Cb,3,λF H4 s4 hC=>{125}]
   let e:decide (@F=@TT)=decide (∃h',bC h=bC h'/\Jw TT f h'):=by rw[apN];rwa[λq=>{h,2,F,hC,q},λζ=>?_];let[h',e,F',X,q]:=ζ;rw[<-Gr e]at X;rw[Jv hC X];rwa[q]
   rw[e];rwa[hR H4 s4]
  .let S:ao H3 (ce (.Ν (qs.Κ V.É))):=ao.ψ hD;rwa[k hc f D _ ((s2.ν s3).ν S) G {qs,aj,5}];have:=(T3 hdt).Μ S
   let e:(Mn (wy f) @TT Ô n).Ö (λu=>decide (∃h,bC u=bC h/\Jw TT f h))=j6 TT f Ô n:=by
    rwa[aql λh _=>?_]
    rw[apN];rwa[λζ=>by let[h',e,q]:=ζ;rwa[[Gr e]▸q],λq=>{h,2,q}]
   rw[<-e];rwa[Δ]
inductive JF (vs:Zb)(H:Hp)(Q:VK)(E_:XK):ο
 |mk (fa sa wa:Zs)(T F Im:Za3)(L M:η):vs=[?fa,?sa,?wa]->Ċ H fa T->M11.Tab L T->M12.Fc (2* L) T.Ì @T->Ċ H sa F->M11.Tab M F->bM H wa Im->@Im=L->(∀u∈Im,M11.aS M u/\@u<=300)->(∀k,k<M->∃j,j<@T/\∀u,AT u->M11.Þ T u 0=j->M11.Þ F (Ϭ u) 0=M11.nx F (2* k) 0)->(∀(ws:Ϣ)(l:Zs)(X:Za3)(H':Hp),Q1 H'->LW L T ws->bM H' l X->@X=M->(∀k w,X[k]?\w->∃i,i<@T/\w=wy ws i/\M11.Þ F (Ϭ w) 0=M11.nx F (2* k) 0)->Q ?l H')->JF vs H Q E_
def Gw (T:ų):T.uT.Ok P w Β 3 JF:=by
 rwa[T.uT.on lM (λcf AA Ψ s H vs Q E S h=>?_)]
 .let[fa,sa,wa,TT,F,Im,L,M,Ų,CY,hT,hFc,Qp,hF,hIa,hIl,hIo,T6,k]:=h;let Y:=iC S
  erw[_,{{ZV lM.nd eJ,ž (ck (sw S #[0])) (Sa lM.nd)
    {{iU Y (pv 3) (pc T.led (Qc T) S #[1,ak,pc T.uS (Gq T) S #[4,2]]) (pv 4) Ų}},LE lM.nd (aJ df ((1|||ak)<<<0) ak),aZ (eK (fns:=[VU,mT]) (ixs:=[3,1]) (cl:=_) Ų (IO #[ak,Z2 (pv 5) ak]) (b0 [(_,_),(_,_)] Ų {2222222222,þ.intro} Ų) (λC s H ex=>(jz Y (pv 1) (pc T.led (Qc T) S #[2,ak,bh #[0]]) (λ_ _=>rfl))))}}]
  let sY:=hT.top;let VJ:=hT.qD;let m40:=hF.qD;let l:=hF.pos;rwa[λd hd=>?_]
  generalize e_:ψ H d _=H0;let[s0,h0]:=dc e_ hd;rwa[12,fa,TT,L,2,CY.Μ s0,hT,hFc,λlw ws H1 s1 Vp FZ G=>?_];let[U,O,hpt]:=FZ;let j4:@U=@TT:=by have:=hpt.1;rw[aog,G.lw.1]at Δ;rwa[Δ]
  let s01:=s0.ν s1
  let at_:∀{i p},U[i]?\p->∃u,ws[i]?\u/\H1 p\.Ò (aw (wd u))/\M11.aS L (wd u)/\M11.Þ TT (wd u) 0=i/\@(wd u)<=300:=λ{i p} h=>by
   let N:i<@ws:=by have:=(aoh.mp h).1;rw[G.lw.1];ext
   obtain⟨fA,e⟩:∃gx,ws[i]?\gx:={ws[i],aoe N}
   let[a1,a2,a3]:=G.ok i _ e;rwa[_,e,hpt.2 i p _ h (by rw[aon,e];rfl),mG a1,a2,[rT]▸a3]
  let stI:∀u∈Im,M11.aS M u:=λu R=>(hIo u R).1
  obtain⟨g,hg⟩:∃g:η->η,∀i u,ws[i]?\u->g i=M11.Þ F (Ϭ (wd u)) 0:={λi=>M11.Þ F (Ϭ (wd (ws.á i []))) 0,λi u h=>by show M11.Þ F (Ϭ (wd (ws.á i []))) 0=_;rw[aom,h];rfl}
  let hda:∀{I:Hp}{b:Zs}{xs:Zb}{c:θ (Key×V)},I b\.Ò xs->I d\.dK c->b≠d:=λW e2=>bD W e2 (by cbv)
  erw[lw,2,{_,ay.of O}];let nd1:H d=ε:=hd
  refine cF (xs:=U.Κ V.É) (λn σ I=>∃(c:θ (Key×V))(v4:Zc),σ=#v[?fa,?sa,?wa,?d,v4,ε]/\(∀b o,b≠d->H1 b\o->I b\o)/\WB H I d U g n c)
   {[],ε,2,λ_ _ _ e=>e,s01,s1^h0,aoo _,(λz v e=>by ext e),λi N=>∅} (λn σ I _ ζ=>by let[_,_,_,f,_]:=ζ;rwa[ay.of (f β (bD O (s1^h0) (by cbv)) O)]) ?_ ?_
  .rintro n y σ I hn ⟨c,v4,Ų,f2,a⟩;rw[aon]at hn
   obtain⟨p,hp,rfl⟩:∃p,U[n]?\p/\y=?p:=by cbv
   let FN:=(aoh.mp hp).1;let[u,R,hpu,B,Z,I0]:=at_ hp;let Aq:=f2 β (hda hpu (s1^h0)) hpu;let hw2:bM I wa Im:=hIa.Μ a.s;rwa[1212121212,p,wa,wd u,Im,2,Aq,hw2,[hIl]▸B,3,λu R=>(hIo u R).2,3,λq H3 m h3=>?_];let stf:=Qg stI (by rw[hIl];rwa[B]:M11.aS @Im (wd u));erw[sa,q,F,M,(0),Ϭ (wd u),2,(Qp.Μ a.s).Μ m,hF,l,h3,stf];let W:M11.Þ F (Ϭ (wd u)) 0=g n:=(hg n u R).Τ;rw[W];let Av:=m^a.d;erw[d,12,lz.k (k:=Sum.Α ((g n:η):π)) Av (aop (show @c<=300 by have:=a.l;omega) ⋯)];rwa[112,λb o n1 e=>[aq n1]▸m^f2 b o n1 e,λb o e=>[aq (QA nd1)]▸m^a.s b o e,aj,aot (gN^_) (ar0 a.l),λz v e=>?_,λi N=>?_]
   .rw[fI]at e;split at e
    .rename_i q;injection q with q
     rwa[n,p,3,hp,(Za0 e).Τ,q]
    .let[i,p',h1,h2]:=a.a z v e;rwa[i,p',3,h2]
   .rw[fI];split
    .cbv
    .rename_i q;cases hin:i=n
     .rwa[Ρ (by rw[hin]) q]
     .rwa[a.b i ∅]
  .rintro σ I ⟨c,v4,Ų,f2,a⟩;rw[aog,j4]at a;let hS2:=Qp.Μ a.s;let[rs,r0,Bs,g1,g2,g3,g4,g5]:=gy hS2 hF l;let eL:(@(aw Bs):π) / 2=(M:π):=by rw[aF,g4];ext
   erw[12,sa,11,?r0,22,ay.of g1,bZ (i:=0) g2,r0,12,.Α (ay.of g3),1122,{44}];rw[eL];erw[121122,(1),(M:π)+ 1,2,{3333}];rw[show ((M:π)+ 1 - 1).Φ=M by ext];rwa[iw M (λi=>.υ (1+ (i:π))) (λH v i=>∃p w,v=?p/\H p\.Ò (aw w)/\∃j,j<@TT/\w=wy ws j/\M11.Þ F (Ϭ w) 0=M11.nx F (2* i) 0) (λ_ _ v i sm ζ=>by let[p,w,e,h,r]:=ζ;rwa[p,w,e,sm^h,r]) (aot (show M<=100 by omega) ⋯) (λi H3 _ N=>N) (λi x H3 H4 _ N y=>?_) (λH3 _=>aoo _) (λi H3 Rr N m kk=>?_) (λD H3 ys m nD Qq S=>?_)]
   .let[W,e2]:=y
    first|rwa[W,e2]|rwa[e2,W]
   .let PF:M11.aS M [1+ (i:π)]:=λt ht=>by rw[aok.mp ht];rwa[33]
    rwa[121212,Za4 1,λq hq=>?_];let sq:=ao.ψ (o:=.Ò [.υ (1+ (i:π))]) hq;erw[sa,q,F,M,(0),[1+ (i:π)],2,(hS2.Μ m).Μ sq,hF,l,aj,PF]
    let ew:M11.Þ F [1+ (i:π)] 0=M11.nx F (2* i) 0:=by
     show M11.nx F (M11.pl _) 0=_
     congr 1
     unfold M11.pl;rw[aoO ∅];ext
    rw[ew];let[j,hj,hjw]:=T6 i N;obtain⟨p,hp⟩:∃p,U[j]?\p:={_,aoe ∅}
    let[u,R,_,B,Z,_]:=at_ hp;let gj:g j=M11.nx F (2* i) 0:=(hg j u R).ν (hjw _ B Z);let[v,hv]:=a.b j hj;rw[gj]at hv;let[i',p',h1,h2,Ų,h4]:=a.a _ v hv;let[u',hu',J,amO,_,amP]:=at_ h2;let hp3:=sq^(m^(f2 β (hda J (s1^h0)) J));let dg:=dF.k (k:=Sum.Α ((M11.nx F (2* i) 0:η):π)) (sq^m^a.d);rw[hv]at dg;rwa[d,12,dg,kk β sq {p',wd u',2,hp3,i',h1,by unfold wy;rw[aom,hu'];rfl,by rw[<-hg i' u' hu'];ext}]
   .let[qs,X,Ų,hX,hP]:=sZ (P:=λi w=>∃j,j<@TT/\w=wy ws j/\M11.Þ F (Ϭ w) 0=M11.nx F (2* i) 0) S;let sD:=ao.ψ (o:=.Ν (qs.Κ V.É)) nD;rwa[k ws D X _ ((a.s.ν m).ν sD) G {qs,aj,hX.Μ sD} (by rw[<-hX.1,<-Qq,aog]) hP]
def FE (b:Za3)(L a:η):ο:=∃S,Fl b [] L a S/\∀c z,¬e8 S L c z
def FE.no {rs:Za3}(h:FE rs n m)(a:∀u∈rs++[],∀z∈u,z∈bJ (2* n)/\-z∈bJ (2* n))(i:1<=m)(f:Fl rs [] n m S)(e:S.q=m){c:η}{z:π}(g:e8 S n c z):Ð:=by let[F,b,d]:=h;let k:=b.most a d f;let j:=(b.mL a i).1;rwa[d c z (((f.one a b ∅).1 c z).mp g)]
def SU (n L:η)(U:η->Zg):ο:=∀k,k<n->M11.aS L (U k)
def Qr {U:η->Zg}(h:SU n m U){z:π}(hz:z≠0/\z.Ä<=n):M11.aS m (im U z):=by
 unfold im;split
 .rwa[h _ ∅]
 .rwa[M11.jG (h _ ∅)]
def flS {U:η->Zg}(h:SU n m U){w:Zg}(c:l6):M11.aS m (Id w):=λs b=>by let[a,d,b]:=apr.mp b;rwa[Qr h (c a d) s b]
def Md.gS {D:η->ο}{g:η->η->η}(a:Md m D g){U:η->Zg}(h:SU n m U):Md n D (K74.gU g U):=by rwa[λp k c b=>a.dw (Qr h (M12.qc b)) c,λp k c b=>?_];unfold K74.gU;rw[Xz,acd U (M12.qc b).1];rwa[a.bw (Qr h (M12.qc b)) c]
def FT.acv {T Q F:Za3}(f:FT W [] n i T)(h:FT Q [] m j F){U:η->Zg}(k:SU n m U)(r:∀w∈W,M11.Þ F (Id w) 0=0):∃ d:η->η,d 0=0/\∀u,ϳ u->d (M11.Þ T u 0)=M11.Þ F (Id u) 0:=by
 let o:∀w∈W,ϳ w:=λw c=>f.s w (Of c)
 let a:=h.md.gS k
 let hR:Hd (λb=>b<j) (gU (M11.nx F) U) W:=λw c p q=>by rw[L8^o w c];rwa[h.Ŀ (v:=[]) (flS k (o w c)) (λ_ z=>by ext z) (r w c) q]
 let[d,g,e]:=f.go (a.mv h.pos hR);rwa[d,g,λu l=>?_];rw[e u 0 l f.pos,g,L8^l];rfl
def hWS {T:Za3}{a:Ϣ}(c:LW m T a)(f:@B=n)(b:∀x∈B,x<@T):SU n m (hW a B):=λk d=>by
 let e:B[k]?\(B[k]'∅):=aoe _
 rw[v7 e];rwa[(nH c (b _ (aqU _))).1]
def acx {F:Za3}{h:Ϣ}(f:FT W [] n m F)(N:LW n F h)(H:@B=i)(R:∀x∈B,x<@F):Jw F h B↔∀b,b<m->∃u,M11.aS i u/\M11.Þ F BC 0=b:=by
 let g:=hWS N H R
 let fwd:∀{b j},Rh F h B b j->∃k,k<i/\j=M11.Þ F (hW h B k) b:=λ{b j} ζ=>by
  let[r,S,e]:=ζ
  let[k,c]:=apm S;rwa[k,by rw[<-H];rwa[(aoh.mp c).1],[v7 c]▸e]
 let bwd:∀{b k},k<i->Rh F h B b (M11.Þ F (hW h B k) b):=λ{b k} c=>by
  let e:B[k]?\(B[k]'∅):=aoe _
  rwa[_,aqU _,by rw[v7 e]]
 let one:∀{k},k<i->M16.fill (im (hW h B)) (VR k)=hW h B k:=λ{k} c=>by unfold VR;rw[M16.sF];unfold im;rw[aoO ∅];congr 1
 constructor
 .rintro ⟨G,D,e⟩ b U
  let lt:∀x∈G,x<m:=D.mn (·< m) f.pos λx y d r=>by let[k,c,Ų]:=fwd r;rwa[f.lt (g k c) d]
  let w:b∈G:=ao3 λno=>by
   have:=M11.eG m (b::G) (ao0.mpr {no,D.nd}) λx d=>by
    rcases aoC.mp d with rfl|d
    .rwa[U]
    .rwa[lt x d]
   rw[aoA,e,f.n]at Δ;ext
  rwa[D.mn (λx=>∃u,M11.aS i u/\M11.Þ F BC 0=x) ⟨[],(λ_ z=>by ext z),2⟩ (λx y ζ r=>?_) b w];let[u,C,d]:=ζ;let[k,c,Ų]:=fwd r;rwa[u++VR k,qz C (ace i k c),by rw[M16.kg,M11.dN,d,one c]]
 .intro a;rwa[θ.range m,{aqT,aoZ.mpr f.pos,λx d y r=>?_,λP L I x d=>?_},by rw[aoU,f.n]]
  .let[k,c,Ų]:=fwd r;rwa[aoZ.mpr (f.lt (g k c) (aoZ.mp d))]
  .let[u,C,Ų]:=a x (aoZ.mp d)
   classical
   let A:∀(u:Zg)(p:η),M11.aS i u->p<m->P p->P (M11.Þ F BC p):=λu=>by
    induction u with
    |nil=>exact λ_ _ _ v=>v
    |È s u V=>
     intro p T v o;let[O,J]:=jP T;rw[show s::u=[s]++u from rfl,M16.kg,M16.sF,M11.dN];rwa[V _ J (f.lt (Qr g O) v) ?_];unfold im;let c:s.Ä - 1<i:=∅
     split
     .rwa[I β o (bwd c)]
     .let q:=acf (l:=(~~~m).Ö λx=>decide (P x)) (f:=M11.Þ F (hW h B (s.Ä - 1))) (aqT.Ö _) (λx d=>by
       let[t,E]:=apa.mp d
       rwa[apa.mpr {aoZ.mpr (f.lt (g _ c) (aoZ.mp t)),aoP (I β (aoS E) (bwd c))}]) (λx y d Q e=>by let t:=aoZ.mp (apa.mp d).1;let M:=aoZ.mp (apa.mp Q).1;rw[<-(f.bk (g _ c) t).1,e,(f.bk (g _ c) M).1]) (y:=p) (apa.mpr {aoZ.mpr v,aoP o})
      let[x,d,Ų]:=q;let[t,E]:=apa.mp d;rw[(f.bk (g _ c) (aoZ.mp t)).1];rwa[aoS E]
   rwa[A u 0 C f.pos L]
def wc {a:Ϣ}(w:Zg):M18.fill (B.Κ (wy a)) w=M16.fill (im (hW a B)) w:=rfl
structure Hm (A F:Za3)(ws:Ϣ)(n:η)(h:Zh):ο where
 len:@h=n
 lt:∀x∈h,x<@F
 car:∀r∈A,M11.Þ F (UF r) 0=0
 on:∀i,i<@F->∃u,ϳ u/\M11.Þ F (UF u) 0=i
def wg {A F:Za3}{g:Ϣ}(f:FT W [] n m F)(j:LW n F g)(k:∀r∈A,M11.aS i r):B∈j6 F g A i↔Hm A F g i B:=by
 unfold j6;rw[apa,acg k];constructor
 .rintro ⟨⟨⟨a,b⟩,c⟩,d⟩;let d:=@@aoS _ Gc d;rwa[a,b,c,λe h=>(acx f j a b).mp d e (by rw[<-f.n];rwa[h])]
 .rintro ⟨a,b,c,d⟩;rwa[{{a,b},c},@@aoP _ Gc ((acx f j a b).mpr λe h=>d e ([f.n]▸h))]
section
variable {A B T F:Za3}{n L N:Nat}{ws:List Zh}{h:Zh}
def Hm.ph (m:Hm A F ws n h)(f1:FT A [] n N T)(f2:FT B [] L N F)(lw:LW L F ws):∃ a:η->η,(∀u,ϳ u->a (M11.Þ T u 0)=M11.Þ F (UF u) 0)/\(∀y,y<N->∃x,x<N/\a x=y)/\∀i j,i<N->j<N->a i=a j->i=j:=by
 let[a,_,b]:=f1.acv f2 (hWS lw m.len m.lt) m.car
 let c:∀y,y<N->∃x,x<N/\a x=y:=λy d=>by let[u,f,e]:=m.on y ([f2.n]▸d);rwa[_,f1.lt f f1.pos,by rw[b u f,e]]
 rwa[a,b,c,λi j g k e=>ao3 λne=>?_]
 have:=sub_len (l:=θ.range N) (m:=((~~~N).erase i).Κ a) aqT λy d=>by cbv
 rw[aog,ap3 (aoZ.mpr g),aoU]at Δ;ext
end
def tD (w:Zg):Dt:=.t (w.Κ Dt.i)
inductive Out (A B:Za3)(n m:η)(T F:Za3):Dt->ο
 |rooms:@T≠@F->Out A B n m T F (.t [.s [114,111,111,109,115],.i @T,.i @F])
 |onto (ws:Ϣ):@T=@F->LW m F ws->M20.cap @F n<=5000->j6 F ws A n=[]->M20.cap @F m<=5000->Out A B n m T F (.t [.s [111,110,116,111],.i 0,.i @(j6 F ws B m)])
 |iJ (w1 w2:Ϣ) (h:Zh) (hs:Ϣ) (X:Za3):@T=@F->LW n T w1->LW m F w2->M20.cap @F n<=5000->j6 F w2 A n=h::hs->@X=m->(∀(k:η)(w:Zg),X[k]?\w->∃i,i<@T/\w=wy w1 i/\M11.Þ F (M18.fill (h.Κ (wy w2)) w) 0=M11.nx F (2* k) 0)->Out A B n m T F (.t [.s [107,105,110],.l ((h.Κ (wy w2)).Κ tD),.l (X.Κ tD)])
def AH (A:Za3)(n m:η)(T F:Za3):ο:=@T=@F/\(5000<M20.cap @F n\/∃a,LW m F a/\M20.cap @F n<=5000/\j6 F a A n=[]/\5000<M20.cap @F m)
section
variable {A B T F:Za3}{n m N M:Nat}
def Out.no {D:Dt}(o:Out A B n m T F D)(g:FT B [] m M F):¬AH A n m T F:=by
 rintro ⟨e,h⟩
 cases o with
 |rooms q=>exact q e
 |onto ws _ lw c q f=>rcases h with h|⟨b,a,_,_,h⟩ <;> ext
 |iJ i j k l X _ _ lw c q _ _=>
  rcases h with h|⟨b,a,_,d,_⟩
  .ext
  .rw[wv a.lw,d]at q;ext q
def Out.one {D J:Dt}(o:Out A B n m T F D)(v:Out A B n m T F J)(f:FT A [] n N T)(g:FT B [] m M F):D=J:=by
 let hA:∀r∈A,ϳ r:=λr hr=>f.s r (Of hr)
 cases o with
 |rooms q=>
  cases v with
  |rooms _=>rfl
  |onto ws e=>exact Ρ e q
  |iJ z y h I X e=>exact Ρ e q
 |onto ws e lw c q Z=>
  cases v with
  |rooms q=>exact Ρ e q
  |onto ws' e d c q Z=>rw[wv d.lw]
  |iJ z y h I X e _ d c l=>rw[wv d.lw,l]at q;ext q
 |iJ z y h I X e x l2 c q hX U=>
  cases v with
  |rooms q=>exact Ρ e q
  |onto ws e d c l=>rw[lS g.t g.f l2.lw d.lw,l]at q;ext q
  |iJ w1' w2' h' Q s _ t w c l V u=>
   let e1:=lS f.t f.f x.lw t.lw;let Y:=lS g.t g.f l2.lw w.lw;subst e1 Y;rw[q]at l;let[Ų,Ų]:=θ.È.inj l;let mh:Hm A F y n h:=(wg g l2 hA).mp ([q]▸aou);let eN:N=M:=by rw[<-f.n,<-g.n];rwa[e]
   subst eN;let[φ,p,_,inj]:=mh.ph f g l2
   let eX:X=s:=apR λk=>by
    cases R:k<m
    .let a:X[k]?\(X[k]'∅):=aoe _
     let b:s[k]?\(s[k]'∅):=aoe _
     rw[a,b];let[i,L,G,C]:=U^a;let[j,O,H,E]:=u^b;let[i1,S,_]:=nH x L;let[P,W,_]:=nH x O;rw[G,wc,<-p _ i1,S]at C;rw[H,wc,<-p _ P,W]at E;rw[G,H,inj i j (by rw[<-f.n];rwa[L]) (by rw[<-f.n];rwa[O]) (C.ν E.Τ)]
    .rw[aoG ∅,aoG ∅]
   rw[eX]
end
def iq (A:Za3)(n a:η)(T:Za3):ο:=∃(S:RS)(N:η),Fl A [] n a S/\(∀c z,¬e8 S n c z)/\@(Ŷ (2* n) 0 N)=N/\T=M24.fK (bQ S) (2* n) (Ŷ (2* n) 0 N)
def iq.fe {A:Za3}(t:iq A n m W):FE A n m:=by let[S,N,a,b,_]:=t;rwa[S,a,b]
def AI {A:Za3}(h:pT n A)(c:n<=40):∀u∈A++[],∀z∈u,z∈bJ (2* n)/\-z∈bJ (2* n):=λu a z b=>by rw[aoJ]at a;rwa[((vn (show n<=200 by omega) (show Jh n u from {aot (h.2 u a).2 ⋯,(h.2 u a).1})).2 z b).2]
def iq.ft {A:Za3}(t:iq A n m W)(h:pT n A)(i:1<=n)(e:n<=40)(g:1<=m)(f:m<=30):∃N,N<=30/\FT A [] n N W:=by let[S,N,a,b,c,Ų]:=t;let d:=AI h e;let j:=(a.mL d g).1;let[x,y]:=a.ft d b ∅ i e c;rwa[N,3,y]
theorem yF {f:η->η->η}{k:η}(h:@(M24.bB f k 0 n)=n):∀d,M24.bB f k 0 (n+ d)=M24.bB f k 0 n
 |0=>rfl
 |d+ 1=>by let a:=yF h d;rw[<-η.add_assoc,M24.mx ([a]▸aoG ∅),a]
def iq.one {A k:Za3}(t:iq A n m W)(o:iq A n m k)(h:pT n A)(s:n<=40):W=k:=by
 let[S,N,a,b,c,Ų]:=t;let[f,j,g,p,l,Ų]:=o;let i:=AI h s;let r:S.q=f.q:=η.le_antisymm (g.most i p a) (a.most i b g)
 let e:bQ S=bQ f:=by
  funext x y
  unfold bQ;rw[(a.one i g r).2]
 rw[e]at c ⊢
 let eN:M24.bB (bQ f) (2* n) 0 N=M24.bB (bQ f) (2* n) 0 j:=by
  rcases arI N j with q|q
  .let[d,Ų]:=arR q;rwa[(yF c d).Τ]
  .let[d,Ų]:=arR q;rwa[yF l d]
 rw[eN]
def JG {k:η}{i g:V}{l e f:Dt}(h:H a\.Ò [q,i,g])(n:bK H k q l)(m:bK H k i e)(o:bK H k g f):bK H (k+ 1) ?a (.t [l,e,f]):=.t h Ų λj v d c b=>by
 match j with
 |0=>ext c;ext b;rwa[n]
 |1=>ext c;ext b;rwa[m]
 |2=>ext c;ext b;rwa[o]
 |j+ 3=>ext c
inductive V1 (cM cG:Zs)(vs:Zb)(H:Hp)(Q:VK)(E:XK):ο
 |mk (o1 o2 r1 r2:Zs)(n m lim:η)(A B:Za3):vs=[?o1,?o2,.υ lim]->H o1\.Ò [.υ n,?r1]->H o2\.Ò [.υ m,?r2]->bM H r1 A->bM H r2 B->(1<=n/\n<=13)->(1<=m/\m<=13)->1<=lim->lim<=30->pT n A->pT m B->(∀d pp H',Q1 H'->¬(FE A n lim/\FE B m lim)->H' d\XD d (Pr lim pp)->E ?cM (ι d) H')->(∀T F,iq A n lim T->iq B m lim F->(AH A n m T F->∀H',Q1 H'->E ?cG ε H')/\∀D v H',Q1 H'->Out A B n m T F D->bK H' 6 v D->Q v H')->V1 cM cG vs H Q E
def JH {A T F:Za3}{b q:Ϣ}(e:@T=@F)(f:FT A [] n i T)(g:FT W [] m j F)(h:LW m F b)(l:j6 F b A n=B::q):∀k,k<m->∃a,a<@T/\∀u,ϳ u->M11.Þ T u 0=a->M11.Þ F (M18.fill (B.Κ (wy b)) u) 0=M11.nx F (2* k) 0:=λk y=>by
 let t:Hm A F b n B:=(wg g h λr o=>f.s r (Of o)).mp ([l]▸aou);let eN:i=j:=by rw[<-f.n,<-g.n];rwa[e]
 subst eN;let[w,c,d,_]:=t.ph f g h;let[x,s,ex]:=d (M11.nx F (2* k) 0) (by rw[<-g.n];rwa[g.t.lt 0 (2* k) g.t.pos ∅]);rwa[x,[f.n]▸s,λu p v=>by rw[wc,<-c u p,v,ex]]
def Gx {K:Za1}{ws:Ϣ}{F:Za3}{Q:VK}(G:H a\.Ν (aw (bC B)))(Z:bM H b IP)(lw:LW n F ws)(E:∀x∈B,x<@F)(hl:@B<=100)(k:∀D I,Q1 I->bM I D (B.Κ TU)->Q ?D I):oQ (Mp (Ka K) (xC 1) (xC 0)) #v[?b] Q LA H:=by
 let[h,t,l]:=Z;let L:@h=@F:=by have:=l.1;rw[aog,lw.lw.1]at Δ;rwa[Δ]
 let A:@(aw (bC B))=@B:=by rw[aF,eU]
 rwa[iw @B (λi=>(aw (bC B)).á i .non) (λH v i=>∃p w,v=?p/\H p\.Ò (aw w)/\w=hW ws B i) (λ_ _ v i S ζ=>by let[p,w,e,hp,r]:=ζ;rwa[p,w,e,S^hp,r]) (aot hl ⋯) (λi z f N=>iP (ay.of (f^G)) i ∅) (λi x z T f N y=>?_) (λz f=>by have:=fm (ay.of (K:=K) (f^G));rw[A]at Δ;rwa[Δ]) (λi z Rr N f X=>?_) (λD H7 ys U nD u hr=>?_)]
 .let[e1,C]:=gk (ay.of (f^G)) i x T ∅ y;rwa[e1,by rw[aom,C];rfl]
 .let e:B[i]?\(B[i]'∅):=aoe _
  let O:=E _ (aoi e);change B[i]'∅=r at e O;let C:(aw (bC B)).á i .non=.υ (r:π):=by rw[aom,bR (pS e)];rfl
  rw[C];obtain⟨q,M⟩:∃q,h[r]?\q:={_,aoe ∅}
  let R:ws[r]?\(ws[r]'([lw.lw.1]▸O)):=aoe _
  let s:=l.2 r q _ M (by rw[aon,R];rfl);rwa[1212,b,11,?q,22,ay.of (f^t),bZ M,X β (ao.Ł _) {q,12,f^s,5}];rw[v7 e];unfold wy;rw[aom,R];rfl
 let[g,W,Ų,j,m]:=sZ (P:=λi w=>w=hW ws B i) hr;let hWl:@W=@B:=by rw[<-j.1,<-u,aog]
 let Y:W=B.Κ TU:=apR λk=>by
  cases hk:k<@B
  .let c:W[k]?\(W[k]'∅):=aoe _
   let d:B[k]?\(B[k]'∅):=aoe _
   rw[aon,c,d,m^c,v7 d];rfl
  .rw[aoG ∅,aoG (by rw[aog];omega)]
 subst Y;let J:=ao.ψ (o:=.Ν (g.Κ V.É)) nD;rwa[k D _ (U.ν J) {g,aj,j.Μ J}]
theorem acy (T:ų):cX P w K mg Β ϴ 12 A.U0 A.U1 ["one",YI,Mo] (V1 A.bA A.b9):=by
 rwa[T.iJ.F.N4 rK (λvs H Q E h=>?_) (λcf AA Ψ s H vs Q E j h=>?_)]
 .let[o1,o2,r1,r2,n,m,B,N,R,Ų,_]:=h;rfl
 .let[o1,o2,r1,r2,n,m,B,N,R,Ų,ho1,Ji,hA,hB,⟨JA,F3⟩,⟨JK,Aj⟩,g,v,b,e,kM,kR]:=h;let[tkd,V2]:=T.fill.bd
  erw[_,{{ZV rK.nd ((oH (dvs:=[V.str (tx [114,111,111,109,115])]) (Br T) (j.mono ⋯) Ų T.fill.m T.fill.kp V2 (.È {12} .nil) zk #[0&&&ak,0&&&ak,bH ah,2])&&&ak),wn rK.nd ((oH (dvs:=[V.str (tx [114,111,111,109,115])]) (Br T) (j.mono ⋯) Ų T.fill.m T.fill.kp V2 (.È {12} .nil) zk #[1&&&ak,1&&&ak,bH ah,2])&&&ak),bL (a9 vz (3<<<0) (4<<<0) (bq _))
    {{aZ (bh #[dq (l:=[114,111,111,109,115]) Ų,3<<<0,4<<<0])}}
    bf,LE rK.nd (oH (tY T) (j.mono ⋯) Ų T.iE.m T.iE.F.kp T.iE.b .nil zk #[0,4]),bL (FS (5<<<0) ak (bq _))
    {{aZ (bh #[dq (l:=[111,110,116,111]) Ų,ak,(oH (tY T) (j.mono ⋯) Ų T.iE.m T.iE.F.kp T.iE.b .nil zk #[1,4])<<<0])}}
    bf,bp 6 rK.nd (sw j #[4]),jY (iy:=7) rK.nd Ų EO (fns:=[VU]) (ixs:=[6]) (cl:=_) Ų (ck (5|||ak)) (b0 [(_,_)] Ų ⟨22222,þ.intro⟩ Ų) (λC s H ex=>(aM (jk (K:=K) Ų) (pv 1) (pv 0) (λ_ _=>rfl))),aZ (bh #[dq (l:=[107,105,110]) Ų,7,pc T.uT (Gw T) j #[3,4,7]])}}]
  let JL:∀u∈N++[],Jh n u:=λu O=>by rw[aoJ]at O;rwa[aot (b.2 u O).2 ⋯,(b.2 u O).1]
  let okB:∀u∈R++[],Jh m u:=λu O=>by rw[aoJ]at O;rwa[aot (e.2 u O).2 ⋯,(e.2 u O).1]
  let wkA:=AI b ∅;let wkB:=AI e ∅;let hmA:=aqX v b.1;let hmB:=aqX v e.1;let hAl:=b.1;let hBl:=e.1;rwa[12,o1,11122,bG.of ho1,212,o1,11122,bG.of ho1,2,aoN _,λe1 ne1=>{125}];let s1:=ao.ψ (o:=.Ν []) ne1;let we1:bM (ψ H e1 (.Ν [])) e1 []:={[],aj,2,λi p w h=>by simp at h};rwa[r1,e1,n,B,N,[],2,JA,3,g,3,hA.Μ s1,we1,JL,by simp only[aoV];ext,3,aoN _,λt1 tb pp1 S1 N1 H2 s2 fl1 Qs FL y VX _=>?_,λd pp S H2 s2 fl em ζ hd _=>by let[c,z,hg]:=ζ;rwa[kM d pp H2 B0 (λq=>q.1.no wkA g fl em hg) (by rw[<-em];rwa[hd])]];let[_,eL1]:=fl1.mL wkA g;rw[eL1]at y VX;let tb1:iq N n B _:={S1,N1,fl1,Qs,VX,2};change M24.fK (bQ S1) (2* n) (M24.bB (bQ S1) (2* n) 0 N1)=T1 at y tb1;erw[t1,11122,bG.of FL,2];let M:=s1.ν s2;rwa[12,o2,11122,bG.of (M^Ji),212,o2,11122,bG.of (M^Ji),2,aoN _,λe2 ne2=>{125}];let s3:=ao.ψ (o:=.Ν []) ne2;let we2:bM (nv e2 (.Ν [])) e2 []:={[],aj,2,λi p w h=>by simp at h};rwa[r2,e2,m,B,R,[],2,JK,3,g,3,hB.Μ (M.ν s3),we2,okB,by simp only[aoV];ext,3,aoN _,λt2 sb pp2 S2 N2 H4 s4 fl2 Qt OO F VY _=>?_,λd pp S H2 s2 fl em ζ hd _=>by let[c,z,hg]:=ζ;rwa[kM d pp H2 (M.ν (s3.ν s2)) (λq=>q.2.no wkB g fl em hg) (by rw[<-em];rwa[hd])]];let[_,eL2]:=fl2.mL wkB g;rw[eL2]at F VY;let U:iq R m B _:={S2,N2,fl2,Qt,VY,2};change M24.fK (bQ S2) (2* m) (M24.bB (bQ S2) (2* m) 0 N2)=x at F U;erw[t2,11122,bG.of OO,2];let s24:=s3.ν s4;let G:=M.ν s24;replace y:=y.Μ s24;let[kG,kD]:=kR T1 x tb1 U;let[Na,agF,f1]:=tb1.ft b JA ∅ g v;let[Nb,agG,f2]:=U.ft e JK ∅ g v;let[x1,Qu,hy1]:=id y;let[x2,Gv,hy2]:=id F;let Gb:(@(x1.Κ V.É):π)=(@T1:π):=by rw[aog,hy1.1]
  let Qw:(@(x2.Κ V.É):π)=(@x:π):=by rw[aog,hy2.1]
  erw[12,tb,12,.Α (ay.of Qu),12,sb,12,.Α (ay.of Gv),2];rw[Gb,Qw];rwa[12,cQ (λq=>?_) (λq=>?_)]
  .rwa[12,tb,12,.Α (ay.of Qu),12,sb,12,.Α (ay.of Gv),Za4 3,λp np=>?_];rw[Gb,Qw];rwa[kD γ (G.ν (ao.ψ np)) (.rooms λz=>?_) (JG (k:=5) aj .s .i .i)]
   cbv
  let f:@T1=@x:=ao3 λz=>q (by cbv)
  let JM:∀r∈N,ϳ r/\@r<=1000:=λr j=>{(b.2 r j).1,aot (b.2 r j).2 ⋯}
  let V3:∀r∈R,TW r/\@r<=1000:=λr j=>{(e.2 r j).1,aot (e.2 r j).2 ⋯}
  rwa[1212,o1,sb,r1,x,m,n,N,2,G^ho1,hA.Μ G,F,f2.t,f2.f,33,JM,λhc=>kG {f,.Α hc} _ G,λhc t lf H5 s5 lw xr=>?_];let J:=F.Μ s5;let L:=G.ν s5;let[bV,Qx,Au]:=id xr;let I:@bV=@(j6 x t N n):=by have:=Au.1;rw[aog]at Δ;rwa[Δ]
  erw[12,lf,12,.Α (ay.of Qx),2];rw[show ((@(bV.Κ V.É):η):π)=(@(j6 x t N n):π) by rw[aog,I]]
  cases hq:j6 x t N n with
  |nil=>
   rwa[12,dE ?_];rwa[1212,o2,sb,r2,x,m,m,R,2,L^Ji,hB.Μ L,J,f2.t,f2.f,33,V3,λzf=>kG {f,.Ç {t,lw,hc,hq,zf}} _ L,λzf Z l2 H6 s6 C4 v=>?_];obtain rfl:t=Z:=lS f2.t f2.f lw.lw C4.lw;let[Qy,Qs,Qt]:=id v;let T7:@Qy=@(j6 x t R m):=by have:=Qt.1;rw[aog]at Δ;rwa[Δ]
   rwa[l2,12,.Α (ay.of Qs),Za4 3,λp np=>?_];rw[show ((@(Qy.Κ V.É):η):π)=(@(j6 x t R m):π) by rw[aog,T7]];rwa[kD γ ((L.ν s6).ν (ao.ψ np)) (.onto t f lw hc hq zf) (JG (k:=5) aj .s .i .i)]
  |È h hs=>
   rwa[12,dz ?_];rw[hq]at Au I;let mh:Hm N x t n h:=(wg f2 lw λr j=>(JM r j).1).mp ([hq]▸aou);let xt:=mh.len;let Qz:=mh.lt;obtain⟨p0,QB⟩:∃p0,bV[0]?\p0:={_,aoe ([I]▸η.succ_pos _)}
   let Qo:H5 p0\(.Ν MW):=Au.2 0 p0 _ QB rfl;rwa[12,sb,x,m,2,J,f2.t,f2.f,λwl Z H6 s6 n6 FZ C4=>?_];obtain rfl:t=Z:=lS f2.t f2.f lw.lw C4.lw;let QC:=s6^Qo;erw[12,lf,11,?p0,22,ay.of (s6^Qx),bZ (i:=0) QB,p0,2,{_,ay.of QC}];rwa[Gx QC FZ lw Qz ∅ λD H8 s78 hD=>?_]
   let hWl:@(h.Κ (wy t))=n:=by rw[aog,xt]
   let Y:=s6.ν s78;let s08:=L.ν Y;rwa[12121212,tb,sb,D,T1,x,h.Κ (wy t),n,m,2,(y.Μ s5).Μ Y,f1.t,f1.f,J.Μ Y,f2.t,hD,hWl,λu O=>?_,JH f f1 f2 lw hq,λw1 lb X H9 s9 lw1 hX hXl hXk=>?_]
   .let[r,hr',Ų]:=ao1.mp O;let[a,_,c]:=nH lw (Qz r hr');rwa[a,c]
   rwa[Za4 3,λp np=>?_];let W:=ao.ψ (o:=.Ò [.str (tx [107,105,110]),?D,?lb]) np;rwa[kD γ (s08.ν (s9.ν W)) (.iJ w1 t h hs X f lw1 lw hc hq hXl hXk) (JG (k:=5) aj .s (pQ ((hD.Μ s9).Μ W)).up (pQ (hX.Μ W)).up)]
inductive Gy (vs:Zb)(H:Hp)(Q:VK)(E_:XK):ο
 |mk (gq:Zs)(n lim:η)(A:Za3):vs=[?gq,.υ lim]->jx H gq n A->1<=n->n<=13->1<=lim->lim<=30->pT n A->(∀H',Q1 H'->¬FE A n lim->Q .non H')->(∀tb T H',Q1 H'->Ċ H' tb T->iq A n lim T->Q ?tb H')->Gy vs H Q E_
def rX (T:ų):T.mM.Ok P w Β 12 Gy:=by
 rwa[T.mM.on jN (λcf AA R s H vs Q E U h=>?_)]
 .let[M,n,b,k,Ų,I,G,F3,e,J,a,kn,kt]:=h;let[tkd,V2]:=T.fill.bd
  erw[_,{{KB jN.nd cW,bS (Iy Ų Ų (Iv (i:=2) jN.nd Ų EO (E4 (dvs:=[V.str (tx [114,111,111,109,115])]) (Br T) (U.mono ⋯) Ų T.fill.m T.fill.kp V2 (.È {12} .nil) #[0&&&ak,dD lj Ų T.iR apk #[0&&&ak],bH ah,1]))
    (aaB Ų T.uZ (λ_=>{{KB jN.nd cW}})
    N9 (by decide))),bL JJ
    {{aZ cW}}
    bf,aZ (2&&&ak)}}]
  let[r,j,L,U,X]:=I;let ok:∀u∈k++[],Jh n u:=λu W=>by rw[aoJ]at W;rwa[aot (a.2 u W).2 ⋯,(a.2 u W).1]
  let hmA:=aqX J a.1;let hAl:=a.1;erw[λ m Z=>ao H Z/\∃v,m=#v[?M,.υ b,ι v]/\(v=.non/\¬FE k n b\/∃t f y T,v=?t/\Z t\.Ò [?f,?y]/\Ċ Z f T/\iq k n b T),5]
  .rwa[12,M,11122,bG.of j,212,M,11122,bG.of j,2,r,12,.Α (ay.of U),λl nl=>?_];let s0:=ao.ψ (o:=.Ν (L.Κ V.É)) nl;let h0:bM (ZP (.Ν (L.Κ V.É))) l k:={L,aj,X.Μ s0};change ψ H l _=H0 at s0 h0 ⊢;rwa[aoN _,λD np=>{125}];let g:ao H0 (ψ H0 D (.Ν [])):=ao.ψ np;let Y:bM (ψ H0 D (.Ν [])) D []:={[],aj,2,λi p w h=>by simp at h};let x:=AI a ∅;rwa[l,D,n,b,k,[],2,G,3,e,3,h0.Μ g,Y,ok,by simp only[aoV];ext,3,aoN _,λt f y S N H2 O C hn F B hN _=>?_,λd y S H2 O C em ⟨c,z,I⟩ _ _=>?_]
   .let[hm,eL]:=C.mL x e;rw[eL]at B hN;rwa[(s0.ν g).ν O,12,.Ç {t,f,y,12,F,B,S,N,C,hn,hN,2}]
   .rwa[12,ρ,T.e_T,dE {(s0.ν g).ν O,12,.Α {2,λq=>q.no x e C em I}}]
  rintro m H1 ⟨g,v,Ų,⟨rfl,hf⟩|⟨t,f,y,TT,Ų,F,B,ft⟩⟩
  .rwa[12212,dE (kn _ g hf)]
  .rwa[12212,dz {12,t,11122,bG.of F,2,kt f TT H1 g B ft}]
def QD (n:η):nY n++[.υ (n:π)]=nY (n+ 1):=by unfold nY;rw[apC,aoE];rfl
structure Gz (H0 H:Hp)(d lc:Zs)(L:η)(T:Za3)(ps:Zn)(ws:Ϣ)(kvs:θ (Key×V))(p:η):ο where
 s:ao H0 H
 d:H d\(.dK kvs)
 r:nV kvs ps
 t:cz H ps IP
 c:H lc\(.Ν (nY @ws))
 p:M13.Ŗ L T ws p
def Gz.Μ {H0:Hp}{ws:Ϣ}{b:θ (Key×V)}(h:Gz H0 H d a n W F ws b m)(s:XL):Gz H0 I d a n W F ws b m:={h.s.ν s,s^h.d,h.r,h.t.Μ s,s^h.c,h.p}
inductive JN (vs:Zb)(H:Hp)(Q:VK)(E_:XK):ο
 |mk (a:Zs)(T:Za3)(L:η):vs=[?a]->Ċ H a T->M11.Tab L T->M12.Fc (2* L) T.Ì @T->(∀l ws H',Q1 H'->bM H' l IP->LW L T ws->Q ?l H')->JN vs H Q E_
seal L2.PE L2.PS L2.hL L2.PA L2.PT
theorem vw (T:ų):T.qp.Ok P w Β 2 JN:=by
 rwa[T.qp.on fP (λcf AA Ψ s H vs Q E hr h=>?_)]
 .let[a,g,L,Ų,W,F,hF,k]:=h;let J:=iC hr
  erw[_,{{bp 1 fP.nd (dL (by simp) ⋯),KB fP.nd (bH #[ak]),ZV fP.nd ak,bS (Po (a9 ot (pv 3) (2<<<0) (bq _))
    {{ž (WF #[(0|||ak)<<<0]) (Sa fP.nd)
     {{LE fP.nd ((0|||(2|||3))|||4),bS (bL (qT (ky J (pv 5) (pv 1)))
      {{iU J (pv 1) (pv 5) (aJ xN (jz J (pv 1) (2|||3) (λ_ _=>rfl)) (bh #[pc T.uV (Gu T) hr #[4]])) Ų,aX (RI #[5])}}
      bf)}},ZV fP.nd MU}}),aZ (eK (fns:=[wP]) (ixs:=[1]) (cl:=_) Ų (WF #[0<<<0]) (b0 [(_,_)] Ų {22222,þ.intro} Ų) (λC s H ex=>(jz J (pv 1) (pv 0) (λ_ _=>rfl))))}}]
  let sY:=F.top;let VJ:=F.qD;let ab5:=F.pos;intro d hd;rwa[aoN _,λR B=>?_];erw[(ao.ψ B) β aj,[(Sum.Α 0,?R)],2,by show 1<=15;decide];let Pz:R≠d:=λz=>by rw[z,aj]at B;ext B
  let PB:H R=ε:=by rw[aq Pz]at B;rwa[B]
  generalize Y:ψ (ψ (OP (.dK [])) R (.Ò [])) d _=H2;let hd2:H2 d\(.dK [(Sum.Α 0,?R)]):=by rw[<-Y,aj];rfl
  let tX:H2 R\(.Ò (aw (wd []))):=by rw[<-Y,aq Pz,aj];rfl
  let s2:ao H H2:=λb o e=>by rw[<-Y,aq Cs,aq (QA PB),aq Cs];rwa[e]
  rwa[4,λq hlc=>?_];generalize e_:ψ H2 q _=H3;obtain⟨s3,hl3⟩:_/\_\(.Ν (nY 1)):=dc e_ hlc;let nlc:=s2.free hlc
  let w3:Gz H H3 d q L g [R] [[]] [(Sum.Α 0,?R)] 0:={s2.ν s3,s3^hd2,nV.one R,{2,λi p w h1 h2=>by rw[aok.mp (aoi h1),aok.mp (aoi h2)];rwa[s3^tX]},hl3,M13.Ŗ.Θ F hF}
  erw[λ fH H'=>∃f ws c v3 G I,fH=#v[?a,?d,?q,v3,G,I]/\Gz H H' d q L g f ws c (@g* (2* L)),5]
  .erw[λm σ H'=>∃i f ws c G I,m=@g - i/\σ=#v[?a,?d,?q,.υ (i:η),G,I]/\i<=@g/\Gz H H' d q L g f ws c (i* (2* L)),⟨_,(0),111,ε,ε,22,aoN _,[η.zero_mul]▸w3⟩];rintro ms σ H1 ⟨i,f,ws,c,G,I,Ų,Ų,hi,w1⟩
   refine{1212,q,12,.Α (ay.of w1.c),112212,cQ (λh=>?_) (λh=>{f,ws,c,1112,by
    let h:¬(i:π)<(@(nY @ws):π):=λz=>h TD
    rw[yB]at h;cases e:i<@g
    .rwa[Ρ (w1.p.has (k:=0) F hF e Ų) ∅]
    .rw[show @g=i by ext];rwa[w1]})}
   let h:(i:π)<(@(nY @ws):π):=aoS h;rw[yB]at h;let S:=w1.p.top;let O:i<@g:=∅
   erw[_,λ fH H' h=>h];let[VL,r0,Bs,z1,z2,z3,z4,z5]:=gy W F ab5;erw[12,a,11,?r0,22,ay.of (w1.s^z1),bZ (i:=0) z2,r0,12,.Α (ay.of (w1.s^z3)),((2* L:η):π),by rw[aF,z4],33];rwa[du (lo:=0) (n:=(((2* L:η):π)).Φ) (λn σ H5=>∃f ws c G I,σ=#v[?a,?d,?q,.υ (i:η),G,I]/\i<@ws/\Gz H H5 d q L g f ws c (i* (2* L)+ n)) ⟨f,ws,c,G,I,23,w1⟩ ?_ ?_]
   .rintro n σ H6 hn ⟨f,ws,c,G,I,Ų,t,j⟩;let X:n<2* L:=∅
    rw[show (0:π)+ (n:π)=(n:π) by ext];let[PF,EX]:=M13.Ŗ.ı F hF j.p O X;let hle:=M13.Ŗ.le F hF j.p O X;let[rs,rr,row,g1,g2,g3,g4,g5]:=gy (W.Μ j.s) F O;erw[121212,q,11,.υ (i:π),22,ay.of j.c,bX (Jm t),a,11,?rr,22,ay.of g1,bZ g2,12,rr,11122,ay.of g3,bX (bR (g5 n X))];let j4:@f=@ws:=by have:=j.t.1;rw[aog]at Δ;rwa[Δ]
    rwa[15,λ_ _ h=>h];erw[1212,d,12,dF.k (k:=Sum.Α ((M11.nx g n i:η):π)) j.d,12];rw[j.r.2];cases M:M11.nx g n i=@ws
    .rw[aoG (show @f<=M11.nx g n i by omega)];obtain⟨fA,Z⟩:∃U,ws[i]?\U:={ws[i],aoe t}
     change fA=u at Z;obtain⟨jv,r⟩:∃U,f[i]?\U:={f[i]'∅,aoe ∅}
     change jv=pa at r;let Ao:=j.t.2 i pa (wd u) r (by rw[aon,Z];rfl);let I0:=(j.p.ok i u Z).2.2;let S:=j.p.top;rwa[121212,q,11,.υ (i:π),22,ay.of j.c,bX (Jm t),d,12,j.r.ű j.d r,12,n,2,TM,λq7 hq7=>?_];let AB:=ao.ψ (o:=.Ò [.υ IT]) hq7;let TB:ψ H6 q7 (.Ò [.υ IT]) q7\(.Ò (aw (wd [n]))):=aj;rwa[pa,q7,1122,AB^Ao,TB,5,λp3 H9 VH h9=>?_]
     .rw[aF,aF,rT,rT];rwa[aot (show @u+ 1<=400 by omega) ⋯]
     rw[<-ï,<-Az]at h9;let l:=j.Μ (AB.ν VH);erw[1212,d,12,lz.k (k:=Sum.Α ((M11.nx g n i:η):π)) l.d (aop (show @c<=300 by have:=l.r.1;omega) ⋯)];let hcd:=aq (H:=H9) (o:=.dK (ú c (Sum.Α ((M11.nx g n i:η):π)) ?p3)) (bD l.c l.d (by cbv));erw[12,.Α {21,ay.of (hcd.ν l.c)},12,q,1122,hcd.ν l.c,5]
     .rw[yB];rwa[aop (show @ws<=300 by omega) ⋯]
     let tk:∀p xs,H9 p\.Ò xs->ψ (ψ H9 d (.dK (ú c (Sum.Α ((M11.nx g n i:η):π)) ?p3))) q (.Ν (nY @ws++[.υ ((M11.nx g n i:η):π)])) p\(.Ò xs):=λp xs e=>by rw[aq (IM l.c (by cbv)),aq (IM l.d (by cbv))];rwa[e]
     rwa[f++[p3],ws++[u++[n]],ú c (Sum.Α ((M11.nx g n i:η):π)) ?p3,112,by rw[aoj];ext,λb o e=>?_,5555,EX M u Z]
     .rw[aq (QA nlc),aq Cs];rwa[l.s^e]
     .rw[aq (bD l.d l.c (by cbv)),aj]
     .have:=l.r.put p3;rw[j4,<-M]at Δ;rwa[Δ]
     .rw[aoE];rwa[(l.t.ċ h9).Ï tk]
     .rw[aj,M,QD,aoj];rfl
    .obtain⟨vo,hpx⟩:∃U,f[M11.nx g n i]?\U:={f[M11.nx g n i]'∅,aoe ∅}
     rw[hpx];rwa[dz {f,ws,c,112,t,j.s,j.d,j.r,j.t,j.c,PF M}]
   .rintro σ H5 ⟨f,ws,c,G,I,Ų,t,w5⟩;rwa[12112213,i+ 1,f,ws,c,1122,O,[aqL]▸w5]
  .rintro fH H4 ⟨f,ws,c,v3,G,I,Ų,N⟩;let PL:=M13.Ŗ.end_ F hF N.p;let S:=N.p.top;let j4:@f=@g:=by have:=N.t.1;rw[aog,PL.1]at Δ;rwa[Δ]
   let[rs,h1,h2]:=W.Μ N.s;erw[12,a,12,.Α (ay.of h1),(@g:π),by rw[aog,h2.1],33];rwa[iw @g (λi=>.υ (0+ (i:π))) (λH v i=>∃p,v=?p/\f[i]?\p) (λ_ _ v i sm h=>h) (aot (show @g<=300 by omega) ⋯) (λi H3 _ hi=>hi) (λi x H3 H4 _ hi y=>?_) (λH3 _=>aoo _) (λi H3 Rr hi s3 kk=>?_) (λD H5 ys s5 nD Qq hr=>?_)]
   .let[e1,e2]:=y
    first|rwa[e1,e2]|rwa[e2,e1]
   .obtain⟨Gh,r⟩:∃U,f[i]?\U:={f[i]'(by omega),aoe (by omega)}
    rw[show (0:π)+ (i:π)=(i:π) by ext];rwa[1212,d,12,N.r.ű (s3^N.d) r,kk β (ao.Ł _) {12,r}]
   .let ey:ys=f.Κ V.É:=apR λi=>by cbv
    subst ey;let sD:=ao.ψ (o:=.Ν (f.Κ V.É)) nD
    exact k D ws _ ((N.s.ν s5).ν sD) {f,aj,(N.t.Μ s5).Μ sD} {PL,λi u Z=>by let[a1,a2,a3]:=N.p.ok i u Z;have:=(aoh.mp Z).1;rwa[a1,a2,3]}
unseal L2.PE L2.PS L2.hL L2.PA L2.PT
inductive QF (vs:Zb)(H:Hp)(Q:VK)(E_:XK):ο
 |mk (lg fa sa ha pa q1 q2 r2:Zs)(T F:Za3)(n m:η)(g:η->η->η)(b:η->η)(h:Zh):vs=[?lg,?fa,?sa,?ha,?pa]->H lg\.Ν [?q1,?q2]->H q2\.Ò [.υ (m:π),?r2]->Ċ H fa T->M11.Tab n T->M12.Fc (2* n) T.Ì @T->Ċ H sa F->M11.Tab m F->M12.Fc (2* m) F.Ì @F->H ha\.Ν MW->@h=n->(∀x∈h,x<@F)->Ċ H pa (qO g @F)->GG g b @F->(∀w1,LW n T w1->∀k,k<m->∃i,i<@T/\fo g b h (wy w1 i)=M11.nx F (2* k) 0)->(∀(w1 w2:Ϣ)(X:Za3)(v:V)(H':Hp),Q1 H'->LW n T w1->LW m F w2->@X=m->(∀(k:η)(w:Zg),X[k]?\w->∃i,i<@T/\w=wy w1 i/\fo g b h w=M11.nx F (2* k) 0)->bK H' 6 v (.t [.s [107,105,110],.l ((h.Κ (wy w2)).Κ tD),.l (X.Κ tD)])->Q v H')->QF vs H Q E_
def HB (T:ų):T.yi.Ok P w Β 3 QF:=by
 rwa[T.yi.on i7 (λcf AA Ψ s H vs Q E hr h=>?_)]
 .let[lg,fa,sa,ha,pa,q1,q2,r2,TT,F,n,m,g,b,h,Ų,QG,tX,CY,hT,hTF,Qp,hF,hFF,Gk,xt,Qz,hPa,hG,T6,k]:=h
  refine{_,{{LE i7.nd (pc T.qp (vw T) hr #[1]),jY (iy:=6) i7.nd Ų EO (fns:=[ϋ,Wl]) (ixs:=[4,3]) (cl:=_) Ų Cc (b0 [(_,_),(_,_)] Ų {Ų,Ų,Ų,Ų,Ų,Ų,Ų,Ų,Ų,Ų,þ.intro} Ų) (λC s H ex=>(pc T.qt (vr T) hr #[1,2,0])),bp 7 i7.nd Op,ž (WF #[(0|||ak)&&&ak]) (cU 8 i7.nd)
    {{aX (ŵ (pv 7) #[5|||(Re (pv 6) #[(2|||ak)|||(NN ak (pv 8))])])}},bp 9 i7.nd (pc T.qp (vw T) hr #[2]),aZ (bh #[dq (l:=[107,105,110]) Ų,eK (fns:=["_law_others"]) (ixs:=[9]) (cl:=_) Ų (ck (pv 3)) (b0 [(_,_)] Ų {Ų,Ų,Ų,Ų,Ų,þ.intro} Ų) (λC s H ex=>(aM (jk (K:=K) Ų) (pv 1) (pv 0) (λ_ _=>rfl))),7])}},?_}
  let sY:=hT.top;let I:=hF.pos;let n40:=hT.qD;let m40:=hF.qD;rwa[12,fa,TT,n,2,CY,hT,hTF,λlw c H1 s1 hw1 B=>?_];let[N,z,R]:=hw1;let j4:@N=@TT:=by have:=R.1;rw[aog,B.lw.1]at Δ;rwa[Δ]
  let amQ:@c=@TT:=B.lw.1;erw[12,lw,2,{_,ay.of z}];rwa[iw @TT (λi=>(N.Κ V.É).á i .non) (λH v i=>∃u,c[i]?\u/\v=.υ ((Lu (wd u):η):π)) (λ_ _ v i sm h=>h) (aot (show @TT<=300 by omega) ⋯) (λi H4 J L=>iP (ay.of (J^z)) i (by rw[aog];omega)) (λi x H4 G J L y=>?_) (λH4 J=>by have:=fm (ay.of (K:=K) (J^z));cbv) (λi H4 Rr L J kk=>?_) (λD H7 ys s7 nD Qq hr=>?_)]
  .let[e1,e2]:=gk (ay.of (J^z)) i x G (by rw[aog];omega) y;rwa[e1,by rw[aom,e2];rfl]
  .obtain⟨fA,d⟩:∃q,N[i]?\q:={N[i]'∅,aoe _}
   change fA=p at d;obtain⟨jv,j⟩:∃q,c[i]?\q:={c[i]'∅,aoe _}
   change jv=u at j;let e2:(N.Κ V.É).á i .non=?p:=by rw[aom,aon,d];rfl
   rw[e2];let hp:=R.2 i p (wd u) d (by rw[aon,j];rfl);let s14:=s1.ν J;rwa[121212,pa,ha,p,g,b,@F,h,wd u,2,hPa.Μ s14,hG,s14^Gk,Qz,J^hp,[xt]▸mG (B.ok i u j).1,I,kk β (ao.Ł _) {u,j,2}]
  let ey:ys=aw (c.Κ λu=>((Lu (wd u):η):π)):=apR λi=>by
   cases L:i<@TT
   .obtain⟨vo,hy⟩:∃q,ys[i]?\q:={ys[i]'∅,aoe _}
    let[u,e1,e2]:=hr i _ hy;unfold aw;rw[hy,e2,aon,aon,e1];rfl
   .rw[aoG ∅,aoG (by rw[aF,aog];omega)]
  subst ey;let s8:=ao.ψ (o:=.Ν (aw (c.Κ λu=>((Lu (wd u):η):π)))) nD;let hD:ψ H7 D (.Ν (aw (c.Κ λu=>((Lu (wd u):η):π)))) D\(.Ν (aw (c.Κ λu=>((Lu (wd u):η):π)))):=aj;generalize U:(c.Κ λu=>((Lu (wd u):η):π))=th at s8 hD ⊢;change ψ H7 D _=H8 at s8 hD ⊢;let W:=s1.ν (s7.ν s8);let s18:=s7.ν s8;rwa[aoN _,λS nb=>?_];generalize e_:ψ H8 S _=H9;obtain⟨s9,hb9⟩:_/\_\(.Ν (([]:Zn).Κ V.É)):=dc e_ nb;let nb8:H8 S=ε:=nb;let Y:=W.ν s9;erw[12,lg,11,?q2,22,ay.of (Y^QG),2,q2,11122,bG.of (Y^tX),2,(m:π),233]
  refine du (lo:=0) (n:=((m:π)).Φ) (λi σ G=>∃(xs:Zn)(X:Za3)(v8:Zc),σ=#v[?lg,?fa,?sa,?ha,?pa,?lw,?D,?S,v8,ε]/\ao H8 G/\G S\.Ν (xs.Κ V.É)/\cz G xs X/\@X=i/\∀(k:η)(w:Zg),X[k]?\w->∃i,i<@TT/\w=wy c i/\fo g b h w=M11.nx F (2* k) 0)
   {[],[],ε,2,s9,hb9,{2,λi r row a _=>by ext a},2,λk w e=>by ext e} ?_ ?_
  .rintro t σ G ht ⟨xs,X,v8,Ų,M,h5,x5,f,hX⟩;let htm:t<m:=∅
   let hxl:@xs=t:=by rw[x5.1,f]
   rw[show (0:π)+ (t:π)=(t:π) by ext];let[rs,r0,Bs,g1,g2,g3,g4,g5]:=gy (Qp.Μ (W.ν M)) hF I;rwa[12,.Α {21,ay.of h5},1212,.Α {21,ay.of (M^hD)},12,sa,11,?r0,22,ay.of g1,bZ (i:=0) g2,121122,.Α {44},r0,11122,ay.of g3,(by rwa[bX (bR (g5 (2* t) ∅))]),D,th,122,M^hD,5,λi L _=>?_]
   .let[i,L,e]:=T6 c B t htm;obtain⟨Gh,j⟩:∃q,c[i]?\q:={c[i]'∅,aoe _}
    rw[<-U];rwa[ao1.mpr {_,aoi j,5}];rw[<-e];unfold wy;rw[aom,j];rfl
   let hiw:i<@c:=by have:=(aoh.mp L).1;rw[<-U,aog]at Δ;rwa[Δ]
   obtain⟨L1,j⟩:∃q,c[i]?\q:={c[i]'hiw,aoe _}
   change L1=u at j;let ewy:wy c i=wd u:=by unfold wy;rw[aom,j];rfl
   let efo:fo g b h (wd u)=M11.nx F (2* t) 0:=by rw[<-U,aon,j]at L;rwa[π.ofNat.inj (Za0 L)]
   obtain⟨abL,d⟩:∃q,N[i]?\q:={N[i]'∅,aoe _}
   change abL=p at d;let hp:=M^(s18^(R.2 i p (wd u) d (by rw[aon,j];rfl)));erw[lw,11,?p,22,ay.of (M^s18^z),bZ d,S,1122,h5,[aog]▸aop (show @xs<=300 by omega) ⋯];rwa[xs++[p],X++[wd u],12,λb o e=>[aq (QA nb8)]▸M^e,by rw[aj,aoE];rfl,mH (x5.ċ hp) h5,by rw[aoj,f];rfl,λk w e=>?_];cases hk:k<t
   .rw[aoq ∅]at e;rwa[hX k w e]
   .let Z:=(aoh.mp e).1;rw[aoj,f]at Z;let hkt:k=t:=by have:k<t+ 1:=Z;ext
    subst hkt;rw[aoz ∅,f,apU]at e;ext e;rwa[i,3,ewy.Τ,efo]
  rintro σ G ⟨xs,X,v8,Ų,M,h5,x5,f,hX⟩;let s05:=W.ν M;rwa[12,sa,F,m,2,Qp.Μ s05,hF,hFF,λl2 w2 H6 s6 hw2 C4=>?_];let s06:=s05.ν s6;let QC:=s06^Gk;erw[12,ha,2,{_,ay.of QC}];rwa[Gx QC hw2 C4 Qz ∅ λD2 FH s60 hD2=>?_]
  rwa[12,Za4 3,λp np=>?_];let O:=ao.ψ (o:=.Ò [.str (tx [107,105,110]),?D2,?S]) np;let hb:bM G S X:={xs,h5,x5};rwa[k c w2 X β (s06.ν (s60.ν O)) B C4 f hX (JG (k:=5) aj .s (pQ (hD2.Μ O)).up (pQ (((hb.Μ s6).Μ s60).Μ O)).up)]
def FT.gg {F:Za3}(f:FT W [] m n F):∃(g:η->η->η)(b:η->η),GT F m g/\GG g b n/\∀r u,r<n->M11.aS m u->g r (M11.Þ F u 0)=M11.Þ F u r:=by
 let ex:∀r,r<n->∃ x:η->η,x 0=r/\∀u i,TW u->i<n->x (M11.Þ F u i)=gw (M11.nx F) u (x i):=λr a=>f.go (f.mv [] a λ_ z=>by ext z)
 classical
 obtain⟨g,A⟩:∃g:η->η->η,∀r,r<n->g r 0=r/\∀u i,TW u->i<n->g r (M11.Þ F u i)=gw (M11.nx F) u (g r i):={λr=>if h:r<n then ļ.choose (ex r h) else id,λr a=>by dsimp only;rw[dif_pos a];rwa[ļ.choose_spec (ex r a)]}
 let t:∀r u,r<n->M11.aS m u->g r (M11.Þ F u 0)=M11.Þ F u r:=λr u a c=>by rw[(A r a).2 u 0 c f.pos,(A r a).1];rfl
 let lt:∀r s,r<n->s<n->g r s<n:=λr s a o=>by let[u,c,Ų]:=f.c s o;rw[t r u a c];rwa[f.lt c a]
 let w:∀j,j<n->∃s,s<n/\g j s=0/\∀l,l<n->g j l=0->l=s:=λj d=>by let[u,c,Ų]:=f.c j d;let q:=M11.jG c;rwa[M11.Þ F Zv 0,f.lt q f.pos,[t β d q]▸(f.bk c f.pos).1,λl y e=>?_];let[v,C,Ų]:=f.c l y;rw[t β d C,<-M11.dN]at e;let z:=f.Ŀ (u:=u++v) (v:=[]) (qz c C) (λ_ z=>by ext z) e (p:=M11.Þ F Zv 0) (f.lt q f.pos);let z:M11.Þ F (u++v) (M11.Þ F Zv 0)=M11.Þ F Zv 0:=z;rw[M11.dN,(f.bk c f.pos).2]at z;rwa[z]
 obtain⟨b,q⟩:∃b:η->η,∀j,j<n->b j<n/\g j (b j)=0/\∀l,l<n->g j l=0->l=b j:={λj=>if h:j<n then ļ.choose (w j h) else 0,λj d=>by dsimp only;rw[dif_pos d];rwa[ļ.choose_spec (w j d)]}
 rwa[g,b,{λr a=>(A r (by rw[<-f.n];rwa[a])).1,λr s a o=>?_,λr s k a o D=>?_},{lt,λj d=>(q j d).1,λj d=>(q j d).2.1,λj s d o e=>(q j d).2.2 s o e},t]
 .rw[f.n]at a o ⊢;rwa[lt r s a o]
 .rw[f.n]at a o;let[u,c,Ų]:=f.c s o;let E:M11.aS m [M12.st k]:=Px D
  let B:∀i,M11.Þ F [M12.st k] i=M11.nx F k i:=λi=>by show M11.nx F (M11.pl EM) i=_;rw[M12.qb]
  have:=t r (u++[M12.st k]) a (qz c E);rw[M11.dN,M11.dN,B,B]at Δ;rw[Δ,t r u a c]
section
variable {B F:Za3}{m N n:Nat}{g:Nat->Nat->Nat}{b:Nat->Nat}{ws:List Zh}{h:Zh}
theorem BE (f:FT B [] m N F)(G:GG g b N)(c:∀r u,r<N->M11.aS m u->g r (M11.Þ F u 0)=M11.Þ F u r)(j:LW m F ws)(k:∀x∈h,x<N):∀(w:Zg)(r:η),M11.aS @h w->r<N->w.ă EU r=M11.Þ F (UF w) r
 |[],_,_,_=>rfl
 |s::w,r,y,l=>by
  let[z,d]:=jP y;let o:s.Ä - 1<@h:=∅
  let a:=BD k o;let t:h[s.Ä - 1]?\(h.á (s.Ä - 1) 0):=by rw[aom,aoe o];rfl
  let q:hW ws h (s.Ä - 1)=wy ws (h.á (s.Ä - 1) 0):=v7 t;let[e,p,_]:=nH j (show h.á (s.Ä - 1) 0<@F by rw[f.n];rwa[a])
  let A:oq g b h r s=M11.Þ F (im (hW ws h) s) r:=by
   unfold oq im;rw[q];split
   .have:=c r _ l e;rw[p]at Δ;rwa[Δ]
   .let i:=M11.jG e
    let v:M11.Þ F (M11.back (wy ws (h.á (s.Ä - 1) 0))) 0=b (h.á (s.Ä - 1) 0):=G.uq β a (f.lt i f.pos) (by rw[c β a i];have:=(f.bk e f.pos).1;rw[p]at Δ;rwa[Δ])
    rw[<-v];rwa[c r _ l i]
  rw[aqd,A,show s::w=[s]++w from rfl,M16.kg,M16.sF,M11.dN];let st:M11.aS m (im (hW ws h) s):=Qr (n:=@h) (hWS j Ų λx a=>[f.n]▸k x a) z;rwa[BE f G c j k w _ d (f.lt st l)]
def QH {R e:η->η->ο}{G:Zh}(k:0<N)(f:∀i j,i<N->(R i j↔e i j))(d:∀i j,i<N->R i j->j<N)(c:M19.Cz 0 R G):M19.Cz 0 e G:=by
 let lt:∀x∈G,x<N:=c.mn (·< N) k λx y a r=>d x y a r
 rwa[c.nd,c.zm,λx a y r=>c.cl x a y ((f x y (lt x a)).mpr r),λP l o x a=>(c.mn (λz=>z<N/\P z) {k,l} (λx y a r=>{d x y a.1 r,o x y a.2 ((f x y a.1).mp r)}) x a).2]
def C5 {A:Za3}(f:FT B [] m N F)(G:GG g b N)(v:∀r u,r<N->M11.aS m u->g r (M11.Þ F u 0)=M11.Þ F u r)(t:LW m F ws)(l:∀r∈A,ϳ r):DJ g b N n A=j6 F ws A n:=by
 unfold DJ j6;rw[M20.uE (λr c s p=>(l r c s p).1),θ.filter_filter,f.n];rwa[aql λh C=>?_]
 let[z,q]:=M20.jm C;rw[ã.and_comm]
 congr 1
 .unfold jg;rw[apN]
  let o:∀i j,i<N->(vt g h i j↔Rh F ws h i j):=λi j d=>by
   unfold vt Rh;rwa[exists_congr λr=>and_congr_right λc=>?_]
   let[x,D,_]:=nH t (show r<@F by rw[f.n];rwa[q r c]);have:=v i _ d x;rw[D]at Δ;rw[Δ]
  let w:∀i j,i<N->vt g h i j->j<N:=λi j d ⟨r,c,e⟩=>by rw[e];rwa[G.lt β d (q r c)]
  unfold Jw;rw[f.n];rwa[λζ=>by let[k,a,e]:=ζ;rwa[k,QH f.pos o w a,e],λζ=>by let[k,a,e]:=ζ;rwa[k,QH f.pos (λi j d=>(o i j d).Τ) (λi j d r=>w i j d ((o i j d).mpr r)) a,e]]
 .unfold fk M20.ok;rwa[M20.Fb λr c=>?_]
  let y:M20.gl r<=n:=(M20.zp r n).mpr λs p=>(l r c s p).2
  rw[aoP y];unfold M20.Ø;show _=decide (M11.Þ F (M18.fill (h.Κ TU) r) 0=0);rw[apN,wc];unfold fo;rw[BE f G v t q r 0 ([z]▸l r c) f.pos]
end
def adD {T:Za3}(a:ZC)(b:M12.Fc (2* n) T.Ì @T):∃ws,LW n T ws:=by
 let row:∀i,i<=@T->∃ws,M13.Ŗ n T ws (i* (2* n)):=λi=>by
  induction i with
  |Ŀ=>exact λ_=>{[[]],[η.zero_mul]▸M13.Ŗ.Θ a b}
  |ŧ i l=>
   intro r;let[ws,w]:=l ∅
   have:∀k,k<=2* n->∃ws,M13.Ŗ n T ws (i* (2* n)+ k):=λk=>by
    induction k with
    |Ŀ=>exact λ_=>{ws,w}
    |ŧ k d=>
     intro p;let[ws,w]:=d ∅;let[c,f]:=M13.Ŗ.ı a b w (show i<@T by omega) (show k<2* n by omega);cases e:M11.nx T k i=@ws
     .rwa[_,f e _ (aoe (w.has a b (show i<@T by omega) Ų))]
     .rwa[_,c e]
   let[ws,w]:=Δ (2* n) Ź;rwa[ws,[aqL]▸w]
 let[ws,w]:=row @T Ź;let g:=M13.Ŗ.end_ a b w;let j:=a.top
 rwa[ws,g,λi u h=>by let[m,o,q]:=w.ok i u h;have:=(aoh.mp h).1;rw[g.1]at Δ;rwa[m,o,3]]
def Mb (A B:Za3)(n m a:η)(v:V)(H:Hp):ο:=(¬(FE A n a/\FE B m a)/\bK H 6 v (.t [.s [109,97,110,121]]))\/(∃T F,iq A n a T/\iq B m a F/\AH A n m T F/\bK H 6 v (.t [.s [103,114,101,97,116]]))\/∃T F D,iq A n a T/\iq B m a F/\Out A B n m T F D/\bK H 6 v D
inductive JP (vs:Zb)(H:Hp)(Q:VK)(E_:XK):ο
 |mk (lg q1 q2:Zs)(n m lim:η)(A B:Za3):vs=[?lg,.υ lim]->H lg\.Ν [?q1,?q2]->jx H q1 n A->jx H q2 m B->(1<=n/\n<=13)->(1<=m/\m<=13)->1<=lim->lim<=30->pT n A->pT m B->(∀v H',Q1 H'->Mb A B n m lim v H'->Q v H')->JP vs H Q E_
def QI {k:η}{e:Dt}(h:H a\.Ò [q])(f:bK H k q e):bK H (k+ 1) ?a (.t [e]):=.t h Ų λj v d c b=>by
 match j with
 |0=>ext c;ext b;rwa[f]
 |j+ 1=>ext c
def HC (T:ų):T.yj.Ok P w Β 13 JP:=by
 rwa[T.yj.on i9 (λcf AA Ψ s H vs Q E U h=>?_)]
 .let[lg,q1,q2,n,m,d,C,O,Ų,B,hA,hB,⟨JA,F3⟩,⟨JK,Aj⟩,G,N,JL,J,k0]:=h
  erw[_,{{KB i9.nd (pc T.mM (rX T) U #[0|||ak,1]),ZV i9.nd (pc T.mM (rX T) U #[0|||ak,1]),bS (bL (PW.pt (acK JJ (XM (a9 k6 (pv 3) cW (bq _)))))
    {{aZ (bh #[dq (l:=[109,97,110,121]) Ų])}}
    bf),bL (a9 vz (2<<<0) (3<<<0) (bq _))
    {{aZ (bh #[dq (l:=[114,111,111,109,115]) Ų,2<<<0,3<<<0])}}
    bf,wn i9.nd (pc T.nL (yE T) U #[3]),LE i9.nd (pc T.qu (vu T) U #[0|||ak,4]),bL (a9 k6 (pv 5) cW (bq _))
    {{aZ (bh #[dq (l:=[103,114,101,97,116]) Ų])}}
    bf,bL (a9 pX (5<<<0) ak (bq _))
    {{aZ (pc T.yi (HB T) U #[0,2,3,5|||ak,4])}}
    bf,LE i9.nd (pc T.qu (vu T) U #[0|||ak,4]),bL (a9 k6 (pv 5) cW (bq _))
    {{aZ (bh #[dq (l:=[103,114,101,97,116]) Ų])}}
    bf,aZ (bh #[dq (l:=[111,110,116,111]) Ų,ak,5<<<0])}}]
  let kM:∀v c,Q1 c->¬(FE C n d/\FE O m d)->bK c 6 v (.t [.s [109,97,110,121]])->Q v c:=λv c s no h=>k0 v c s (.Α {no,h})
  let kR:∀T F,iq C n d T->iq O m d F->(∀v c,Q1 c->AH C n m T F->bK c 6 v (.t [.s [103,114,101,97,116]])->Q v c)/\∀D v c,Q1 c->Out C O n m T F D->bK c 6 v D->Q v c:=λT F a b=>{λv c s g h=>k0 v c s (.Ç (.Α {T,F,a,b,g,h})),λD v c s o h=>k0 v c s (.Ç (.Ç {T,F,D,a,b,o,h}))}
  let[r1,a1,wA]:=id hA;let[r2,a2,wB]:=id hB;let many:∀c,Q1 c->¬(FE C n d/\FE O m d)->1<=Ε/\∀p,c p=ε->Q ?p (ψ c p (.Ò [.str (tx [109,97,110,121])])):=λc s h=>{4,λp Y=>kM β (s.ν xp) h (QI (k:=5) aj .s)}
  let gB:∀{c:Hp},Q1 c->jx c q2 m O:=λs=>hB.Μ s
  rwa[12,lg,11,?q1,22,ay.of B,212,q1,n,d,C,2,hA,JA,F3,G,N,JL,λH1 s1 no=>?_,λfa TT H1 s1 W t1=>?_]
  .rwa[12,lg,11,?q2,22,ay.of (s1^B),212,q2,m,d,O,2,gB s1,JK,Aj,G,N,J,λH2 s2 no2=>?_,λfb F H2 s2 _ _=>?_]
   .rwa[λ_ _=>Ð,5,λ S c z=>z.Ü];let[z1,z2]:=many H2 B0 λq=>no q.1
    rwa[12212,dE (dE {z1,z2})]
   .rwa[λ_ _=>Ð,5,λ S c z=>z.Ü];let[z1,z2]:=many H2 B0 λq=>no q.1
    rwa[12212,dE (dE {z1,z2})]
  rwa[12,lg,11,?q2,22,ay.of (s1^B),212,q2,m,d,O,2,gB s1,JK,Aj,G,N,J,λH2 s2 no2=>?_,λfb F H2 s2 hFb t2=>?_]
  .rwa[λ_ _=>Ð,5,λ S c z=>z.Ü];let[z1,z2]:=many H2 B0 λq=>no2 q.2
   rwa[12212,dz {12212,dE {z1,z2}}]
  erw[λ S c=>S=#v[?lg,.υ d,?fa,?fb,ε,ε]/\c=H2,5]
  .rwa[12212,dz {12212,dz {22}}]
  rintro S c ⟨rfl,rfl⟩;let Qi:=s1.ν s2;replace W:=W.Μ s2;let[kG,kD]:=kR TT F t1 t2;let[Na,agF,f1]:=t1.ft JL JA ∅ G N;let[Nb,agG,f2]:=t2.ft J JK ∅ G N;let[x1,Qu,hy1]:=id W;let[x2,Gv,hy2]:=id hFb;let Gb:(@(x1.Κ V.É):π)=(@TT:π):=by rw[aog,hy1.1]
  let Qw:(@(x2.Κ V.É):π)=(@F:π):=by rw[aog,hy2.1]
  let JM:∀r∈C,ϳ r:=λr U=>(JL.2 r U).1
  let V3:∀r∈O,TW r:=λr U=>(J.2 r U).1
  erw[12,fa,12,.Α (ay.of Qu),12,fb,12,.Α (ay.of Gv),2];rw[Gb,Qw];rwa[12,cQ (λq=>?_) (λq=>?_)]
  .rwa[12,fa,12,.Α (ay.of Qu),12,fb,12,.Α (ay.of Gv),Za4 3,λp Y=>?_];rw[Gb,Qw];rwa[kD γ (Qi.ν xp) (.rooms λz=>?_) (JG (k:=5) aj .s .i .i)]
   cbv
  let t:@TT=@F:=ao3 λz=>q (by cbv)
  let[g,b,gt,gg,g0]:=f2.gg;let y:@F=Nb:=f2.n;let M:=f2.pos;let lw:∀{w w'},LW m F w->LW m F w'->w=w':=λa b=>lS f2.t f2.f a.lw b.lw
  rwa[12,fb,F,m,g,2,hFb,f2.t,f2.f,gt,λpa H3 s3 hP=>?_];let R:=Qi.ν s3;rw[y]at hP;rwa[12,lg,11,?q1,22,ay.of (R^B),212,q1,r1,pa,n,g,b,Nb,C,2,R^a1,wA.Μ R,hP,gg,M,33,aot JL.1 ⋯,JM,λhc=>?_,λhc l1 H4 s4 acF=>?_]
  .rwa[12212,dE {4,λp Y=>kG β (R.ν xp) {t,.Α ([y]▸hc)} (QI (k:=5) aj .s)}]
  let[L,f]:=adD f2.t f2.f;let NW:M20.cap @F n<=5000:=by rw[y];rwa[hc]
  rw[C5 f2 gg g0 f JM]at acF;let[bV,Qx,Au]:=id acF;let I:@bV=@(j6 F L C n):=by have:=Au.1;rw[aog]at Δ;rwa[Δ]
  let u:=R.ν s4;rwa[12212,dz ?_];erw[12,l1,12,.Α (ay.of Qx),1122];rw[show ((@(bV.Κ V.É):η):π)=(@(j6 F L C n):π) by rw[aog,I]]
  cases hq:j6 F L C n with
  |È h hs=>
   rwa[12,cQ (λ_=>?_) (λq=>Ρ (aoP (show ((@(h::hs):η):π) > 0 by rw[aoA];omega)) q)];rw[hq]at Au I;let mh:Hm C F L n h:=(wg f2 f JM).mp ([hq]▸aou);obtain⟨p0,QB⟩:∃p0,bV[0]?\p0:={_,aoe ([I]▸η.succ_pos _)}
   let Qo:H4 p0\(.Ν MW):=Au.2 0 p0 _ QB rfl;let V0:∀x∈h,x<Nb:=λx hx=>by rw[<-y];rwa[mh.lt x hx]
   let fow:∀{w},ϳ w->fo g b h w=M11.Þ F (M18.fill (h.Κ (wy L)) w) 0:=λ{w} hw=>by rwa[BE f2 gg g0 f V0 w 0 ([mh.len]▸hw) M]
   rwa[12121212,l1,11,?p0,22,ay.of Qx,bZ (i:=0) QB,12,lg,fa,fb,p0,pa,q1,q2,r2,TT,F,n,m,g,b,h,2,u^B,u^a2,(W.Μ s3).Μ s4,f1.t,f1.f,(hFb.Μ s3).Μ s4,f2.t,f2.f,Qo,mh.len,mh.lt,[y]▸hP.Μ s4,[y]▸gg,λw1 Z k hk=>?_,λw1 w2 X v H5 s5 Z C4 hXl hX hD=>?_]
   .let[j,hj,hu]:=JH t f1 f2 f hq k hk;let[y1,y2,_]:=nH Z hj;rwa[j,hj,[fow y1]▸hu _ y1 y2]
   .obtain rfl:L=w2:=lw f C4
    exact kD γ (u.ν s5) (.iJ w1 L h hs X t Z f NW hq hXl λk w e=>by let[i,hi,ei,ew]:=hX k w e;let[y1,_,_]:=nH Z hi;rwa[i,hi,ei,by rw[<-ew,ei,fow y1]]) hD
  |nil=>
   rwa[12,dz ?_];rwa[12,lg,11,?q2,22,ay.of (u^B),212,q2,r2,pa,m,g,b,Nb,O,2,u^a2,wB.Μ u,hP.Μ s4,gg,M,33,aot J.1 ⋯,V3,λzf=>?_,λzf l2 H5 s5 acG=>?_]
   .rwa[12212,dE {4,λp Y=>kG β (u.ν xp) {t,.Ç {L,f,NW,hq,[y]▸zf}} (QI (k:=5) aj .s)}]
   rw[C5 f2 gg g0 f V3]at acG;let[Qy,Qs,Qt]:=id acG;let T7:@Qy=@(j6 F L O m):=by have:=Qt.1;rw[aog]at Δ;rwa[Δ]
   rwa[12212,dz ?_];rwa[12,l2,12,.Α (ay.of Qs),Za4 3,λp Y=>?_];rw[show ((@(Qy.Κ V.É):η):π)=(@(j6 F L O m):π) by rw[aog,T7]];rwa[kD γ ((u.ν s5).ν xp) (.onto L t f NW hq ([y]▸zf)) (JG (k:=5) aj .s .i .i)]
inductive rY:η->Dt->ο
 |i {k:η} {n:π}:rY k (.i n)
 |s {k:η} {l:Zh}:rY k (.s l)
 |t {k:η} {ds:AE}:(∀d∈ds,rY k d)->rY (k+ 1) (.t ds)
 |l {k:η} {ds:AE}:(∀d∈ds,rY k d)->rY (k+ 1) (.l ds)
def Out.pl {A T F:Za3}{D:Dt}(o:Out A W n m T F D):rY 3 D:=by
 let w:∀{X:Za3},rY 2 (.l (X.Κ tD)):=λ{X}=>.l λd hd=>by
  let[u,_,Ų]:=ao1.mp hd
  exact .t λe f=>by let[z,_,Ų]:=ao1.mp f;rwa[.i]
 let three:∀{a b c:Dt},rY 2 a->rY 2 b->rY 2 c->rY 3 (.t [a,b,c]):=λ{a b c} x y z=>.t λd hd=>by cbv
 cases o with
 |rooms _=>exact three .s .i .i
 |onto=>exact three .s .i .i
 |iJ=>exact three .s w w
inductive tf (n:η)(vs:Zb)(H:Hp)(Q:VK)(E_:XK):ο
 |mk (v:V)(D:Dt)(j:η):vs=[v]->bK H j v D->rY n D->(∀H',Q1 H'->Q (.bl ρ) H')->tf n vs H Q E_
def yG (T:ų):cX P w K mg Β ϴ 1 A.dY A.dZ [Ϧ] (λ_ _ _ _=>Ð):={λ_ _ _ _ h=>h.Ü,λ_ _ _ _ _ _ _ _ _ _ _ _ _ h=>h.Ü}
def yH (T:ų):cX P w K mg Β ϴ 2 A.dY A.dZ [Ϧ] (tf 0):=by
 let a:cX P w K mg Β ϴ 1 A.dY A.dZ [Ϧ] (λ_ _ _ _=>Ð):=yG T;rwa[T.lG.F.okN j9 (λg H Q E h=>?_) (λl q e s H g Q E n h=>?_)]
 .let[v,D,j,Ų,_]:=h;rfl
 .let[v,D,j,Ų,f,m,k]:=h
  erw[_,{{bL (iL (BT #[0,bh #[fi (v:=.ty ż) Ų T.iR apk Ų,fi (v:=.ty ŷ) Ų T.jJ apv Ų]]))
   {{ž (Ni (pv 0)) (cU 1 j9.nd)
    {{bL (Mi (iL (pc T.lG (a) n #[1])))
     {{aZ mJ}}
     bf}},aZ mJ}}
   bf,aZ (mS (BT #[0,bh #[fi (v:=.ty Z0) Ų T.Va ÿ.Rows.boot_int Ų,fi (v:=.ty ZU) Ų T.U6 ÿ.Rows.boot_str Ų]]) (qU (DN (On #[0,fi (v:=.ty LI) Ų T.Ot ÿ.Rows.boot_bool Ų]))))}}]
  cases m with
  |i=>ext f;rwa[124,λp c=>{_,p,Z0,[ż,ŷ],ς,2,aj,.υ _,E6 K,12,dz ?_}];let s1:=ao.ψ (o:=.Ò [.ty ż,.ty ŷ]) c;rwa[124,λd b=>{_,d,Z0,[Z0,ZU],ρ,2,aj,.υ _,E8 K,125}];rwa[dE {121,LI,_,ς,2,.υ _,uf K,12,k _ (s1.ν (ao.ψ b))}]
  |s=>ext f;rwa[124,λp c=>{_,p,ZU,[ż,ŷ],ς,2,aj,.str _,E7 K,12,dz ?_}];let s1:=ao.ψ (o:=.Ò [.ty ż,.ty ŷ]) c;rwa[124,λd b=>{_,d,ZU,[Z0,ZU],ρ,2,aj,.str _,E9 K,125}];rwa[dE {121,LI,_,ς,2,.str _,uD K,12,k _ (s1.ν (ao.ψ b))}]
def lT (T:ų)(G:cX P w K mg Β ϴ m A.dY A.dZ [Ϧ] (tf n)):cX P w K mg Β ϴ (m+ 1) A.dY A.dZ [Ϧ] (tf (n+ 1)):=by
 rwa[T.lG.F.okN j9 (λR H Q E h=>?_) (λS X F s H R Q E W h=>?_)]
 .let[v,D,j,Ų,_]:=h;rfl
 .let[v,D,j,Ų,B,U,k]:=h
  erw[_,{{bL (iL (BT #[0,bh #[fi (v:=.ty ż) Ų T.iR apk Ų,fi (v:=.ty ŷ) Ų T.jJ apv Ų]]))
   {{ž (Ni (pv 0)) (cU 1 j9.nd)
    {{bL (Mi (iL (pc (hj:=aoo _) T.lG G W #[1])))
     {{aZ mJ}}
     bf}},aZ mJ}}
   bf,aZ (mS (BT #[0,bh #[fi (v:=.ty Z0) Ų T.Va ÿ.Rows.boot_int Ų,fi (v:=.ty ZU) Ų T.U6 ÿ.Rows.boot_str Ų]]) (qU (DN (On #[0,fi (v:=.ty LI) Ų T.Ot ÿ.Rows.boot_bool Ų]))))}}]
  cases U with
  |i=>ext B;rwa[12,Za4 2,λp c=>{_,p,Z0,[ż,ŷ],ς,2,aj,.υ _,E6 K,12,dz ?_}];let s1:=ao.ψ (o:=.Ò [.ty ż,.ty ŷ]) c;rwa[12,Za4 2,λC r=>{_,C,Z0,[Z0,ZU],ρ,2,aj,.υ _,E8 K,125}];rwa[dE {121,LI,_,ς,2,.υ _,uf K,12,k _ (s1.ν (ao.ψ r))}]
  |s=>ext B;rwa[12,Za4 2,λp c=>{_,p,ZU,[ż,ŷ],ς,2,aj,.str _,E7 K,12,dz ?_}];let s1:=ao.ψ (o:=.Ò [.ty ż,.ty ŷ]) c;rwa[12,Za4 2,λC r=>{_,C,ZU,[Z0,ZU],ρ,2,aj,.str _,E9 K,125}];rwa[dE {121,LI,_,ς,2,.str _,uD K,12,k _ (s1.ν (ao.ψ r))}]
  |t f=>
   cases B with
   |t z J L=>
   rwa[12,Za4 2,λp c=>{_,p,ŷ,[ż,ŷ],ρ,2,aj,.Ò ((ao.ψ c) β z),Sj K,12,dE ?_}];generalize N:ψ H p _=I;let[s1,_]:=dc N c;let a:=s1^z;rwa[12,.Ç {12,{_,bG.of a},5}];rwa[cF (λi e b=>∃(w:V)(g:Zc),e=[ι w,g]/\ao I b) ⟨_,ε,2,ao.Ł _⟩ (λi e b _ ζ=>by let[_,_,_,s]:=ζ;rwa[bG.of (s^a)]) ?_ ?_]
   .rintro i y e b x ⟨w,g,Ų,s2⟩;let q:=(aoh.mp x).1;obtain⟨d,u⟩:∃d,_\d:={_,aoe (show i<_ by rw[<-J];rwa[q])};rwa[12,y,d,12,((L i y d x u).Μ s1).Μ s2,f d i0,λO M=>{12,dz ?_}];rwa[112,s2.ν M]
   .rintro e b ⟨w,g,Ų,s2⟩;rwa[k b B0]
  |l f=>
   cases B with
   |l z J L=>
   rwa[12,Za4 2,λp c=>{_,p,ż,[ż,ŷ],ρ,2,aj,.Ν ((ao.ψ c) β z),Si K,12,dE ?_}];generalize N:ψ H p _=I;let[s1,_]:=dc N c;let a:=s1^z;rwa[12,.Α {12,{_,ay.of a},5}];rwa[cF (λi e b=>∃(w:V)(g:Zc),e=[ι w,g]/\ao I b) ⟨_,ε,2,ao.Ł _⟩ (λi e b _ ζ=>by let[_,_,_,s]:=ζ;rwa[ay.of (s^a)]) ?_ ?_]
   .rintro i y e b x ⟨w,g,Ų,s2⟩;let q:=(aoh.mp x).1;obtain⟨d,u⟩:∃d,_\d:={_,aoe (show i<_ by rw[<-J];rwa[q])};rwa[12,y,d,12,((L i y d x u).Μ s1).Μ s2,f d i0,λO M=>{12,dz ?_}];rwa[112,s2.ν M]
   .rintro e b ⟨w,g,Ų,s2⟩;rwa[k b B0]
def yI (T:ų):cX P w K mg Β ϴ 3 A.dY A.dZ [Ϧ] (tf 1):=lT T (yH T)
def yJ (T:ų):cX P w K mg Β ϴ 4 A.dY A.dZ [Ϧ] (tf 2):=lT T (yI T)
def yK (T:ų):cX P w K mg Β ϴ 5 A.dY A.dZ [Ϧ] (tf 3):=lT T (yJ T)
def V4 (h:jx H a n W):bK H 7 ?a (.t [.i (n:π),.l (W.Κ tD)]):=by
 let[r,c,b]:=h
 exact .t c Ų λj v d e f=>by
  match j with
  |0=>ext e;ext f;rwa[.i]
  |1=>ext e;ext f;rwa[(pQ b).le ⋯]
  |j+ 2=>ext e
def acH (T:ų):El K A.bA:={T.zX,T.zY,T.LC,T.LD,T.i5,T.i6,T.LJ,T.zZ}
def acI (T:ų):El K A.b9:={T.He,T.Hf,T.Hg,T.Hh,T.i5,T.i6,T.Hi,T.Hj}
def agH (f e:Zs)(A B:Za3)(n m a:η)(b c:V)(H:Hp):ο:=(b=.non/\∃T F D,iq A n a T/\iq B m a F/\Out A B n m T F D/\bK H 6 c D)\/(∃x d g,b=?x/\H x\XO x f (ι d) ς/\H d\XD d (Pr a g)/\¬(FE A n a/\FE B m a))\/∃x T F,b=?x/\H x\XO x e ε ς/\iq A n a T/\iq B m a F/\AH A n m T F
def Mb.Μ {A:Za3}(h:Mb A W n m i q H)(s:XL):Mb A W n m i q I:=by
 rcases h with ⟨a,b⟩|⟨T,F,a,b,c,d⟩|⟨T,F,D,a,b,c,d⟩
 .rwa[.Α {a,b.Μ s}]
 .rwa[.Ç (.Α {T,F,a,b,c,d.Μ s})]
 .rwa[.Ç (.Ç {T,F,D,a,b,c,d.Μ s})]
def Out.Ò {A T F:Za3}{D:Dt}(o:Out A W n m T F D){H:Hp}{v:V}(h:bK H 6 v D):∃a b,v=?a/\H a\(.Ò b):=by
 cases o with
 |rooms=>cases h with|t a _ _=>exact{_,_,Ų,a}
 |onto=>cases h with|t a _ _=>exact{_,_,Ų,a}
 |iJ=>cases h with|t a _ _=>exact{_,_,Ų,a}
def QJ {k:η}{b:AE}(h:bK H k q (.t b)):∃a,q=?a:=by cases h with|t a _ _=>exact{_,Ų}
def acJ (T:ų):T.law.Ok P w Β 14 (Ac K):=by
 rwa[T.law.on iS (λcf AA Ψ s H vs Q E L h=>?_) (len:=by rintro _ _ _ _ ⟨a,ns,Ų,_⟩;rfl)]
 .let[a,ns,Ų,hS,æ,k]:=h;let V5:=aop (η.add_le_add_left (by decide:8<=64) _) L.İ
  erw[_,{{bp 1 iS.nd (pc T.qI (By T) L #[0]),KB iS.nd (ZS L #[sK L #[0,ak],ak]),ZV iS.nd ak,bS (bL (FS (FM (pv 2) ak) ak (bq _))
    {{ZV iS.nd (Z2 ak (FM (aJ df (pv 2) ak) ak))}}
    bf),wn iS.nd (pc T.yj (HC T) L #[1,3]),jY (iy:=5) iS.nd Ų EO (fns:=[]) (ixs:=[]) (cl:=[]) Ų Cf (b0 [] Ų þ.intro Ų) (λC s H ex=>(bh #[aM (Ic (K:=K) Ų) (pv 0) ak (λ_ _=>rfl),dD (Dc (K:=K) Ų) Ų T.iR apk #[aM (Ic (K:=K) Ų) (pv 0) ak (λ_ _=>rfl)]])),bp 6 iS.nd cW,bp 7 iS.nd cW,bS (Iy Ų Ų (Iv (i:=7) iS.nd Ų EO (E4 (acy T) (L.mono ⋯) Ų T.iJ.m T.iJ.F.kp T.iJ.b .nil #[5|||ak,5|||ak,3]))
    (aay (i:=8) iS.nd Ų Ų Ų T.xo (λ_=>{{bp 6 iS.nd (pv 8)}})
    N9 (by decide))),bL (a9 (Wz V5) (pv 5) (pv 1) (bq _))
    {{aZ mJ}}
    bf,bL (a9 vA (pv 6) cW (bq _))
    {{bL (iL (Sc #[6,qS (v:=?A.bA) Ų T.uZ Ų]))
     {{aZ (mS (kx (A1 V5) (pv 4) (bh #[dq (l:=[109,97,110,121]) Ų]) (bq _)) (mS (DN (Sc #[6,qS (v:=?A.b9) Ų T.sP Ų])) (qU (kx dS (Xc (pv 6) Ų) (pv 3) (bq _)))))}}
     bf,aZ (mS (kx (A1 V5) (pv 4) (bh #[dq (l:=[103,114,101,97,116]) Ų]) (bq _)) (qU (Sc #[6,qS (v:=?A.b9) Ų T.sP Ų])))}}
    bf,aZ (mS (On #[7,fi (v:=.ty ŷ) Ų T.jJ apv Ų]) (mS (pc T.lG (yK T) L #[7]) (qU (kx (A1 V5) (pv 7) (pv 4) (bq _)))))}}]
  rwa[12,a,ns,2,hS,æ,λlg q1 q2 n m A_ B_ H1 s1 QG gA gB n1 n2 m1 m2 Z N=>?_];rwa[12,a,ns,(2),2,s1.seq hS,4,λy=>{y,(5),244,λz hz=>?_}];erw[λ X H'=>∃f:η,X=#v[?a,?lg,.υ z,.υ (f:π),ε,ε,ε,ε,ε]/\H'=H1/\1<=f/\f<=30,5]
  .rwa[121122,(by show (0:π)<8;decide),212,cQ (λ_=>?_) (λ_=>{(30),2244})];erw[121122,{44},1122,(by show (0:π)<12;decide),1122];rwa[(1+ z / 8 % 12).Φ,by rw[show (((1+ z / 8 % 12).Φ:η):π)=1+ z / 8 % 12 by ext];rfl,233]
  rintro X H1' ⟨f,Ų,Ų,M,S⟩;rwa[1212,lg,q1,q2,n,m,f,A_,B_,2,QG,gA,gB,{n1,n2},{m1,m2},M,S,Z,N,λvd H2 s2 due=>?_];let g1:=gA.Μ s2;let g2:=gB.Μ s2;let u:=s2^QG;erw[12,lg,2,{_,ay.of u}]
  rwa[iw 2 (λi=>if i=0 then ?q1 else ?q2) (λH v i=>∃p,v=?p/\if i=0 then jx H p n A_ else jx H p m B_) (λ_ _ v i sm ζ=>by let[p,e,h]:=ζ;rwa[p,e,by cases z:i=0;(rw[aoO z]at h ⊢;rwa[h.Μ sm]);(rw[aoK z]at h ⊢;rwa[h.Μ sm])]) ⋯ (λi H4 s4 hi=>iP (ay.of (s4^u)) i hi) (λi x H4 H5 s4 hi y=>?_) (λH4 s4=>fm (ay.of (K:=K) (s4^u))) (λi H4 Rr hi s4 kk=>?_) (λD H5 ys s5 nD Qq L=>?_)]
  .let[e1,e2]:=gk (ay.of (s4^u)) i x H5 hi y;erw[e1]
   match i,hi with
   |0,_=>ext e2;rfl
   |1,_=>ext e2;rfl
  .obtain⟨q,nn,R,eq,g,kk⟩:∃(q:Zs)(nn:η)(R:Za3),(if i=0 then V.É q1 else V.É q2)=V.É q/\jx H4 q nn R/\∀v H3,ao H4 H3->(∃p,v=V.É p/\jx H3 p nn R)->Rr v H3:=by
    match i,hi with
    |0,_=>rwa[q1,n,A_,2,g1.Μ s4,kk]
    |1,_=>rwa[q2,m,B_,2,g2.Μ s4,kk]
   rw[eq];let[r,hq,ps,L,E3]:=g;rwa[12,q,11122,bG.of hq,212,q,11122,bG.of hq,2,r,12,.Α (ay.of L),λl nl=>?_];let t1:=ao.ψ (o:=.Ν (ps.Κ V.É)) nl;let w1:bM (ψ H4 l (.Ν (ps.Κ V.É))) l R:={ps,aj,E3.Μ t1};change ψ H4 l _=H6 at t1 w1 ⊢;rwa[Za4 2,λp np=>kk β (t1.ν (ao.ψ np)) {p,2,l,aj,w1.Μ (ao.ψ np)}]
  obtain⟨y1,y2,rfl⟩:∃y1 y2,ys=[y1,y2]:=by
   match ys,Qq with
   |[y1,y2],_=>cbv
  let[h1,Ų,G]:=L 0 y1 rfl;let[h2,Ų,I]:=L 1 y2 rfl;replace G:jx H5 h1 n A_:=G;replace I:jx H5 h2 m B_:=I;generalize e_:ψ H5 D _=H6;let[s6,hD]:=dc e_ nD;replace G:=G.Μ s6;replace I:=I.Μ s6;let O:=s5.ν s6;replace due:=due.Μ O;let agI:=O^u;replace g1:=g1.Μ O;replace g2:=g2.Μ O;clear s1 s2 s5 s6 O u QG gA gB L nD hS;let[ra,a1,wA]:=id G;let[rb,a2,wB]:=id I;erw[λ X H'=>∃vk vf,X=#v[?a,?lg,.υ z,.υ (f:π),ι vd,?D,ι vk,ι vf,ε]/\ao H6 H'/\agH A.bA A.b9 A_ B_ n m f vk vf H',5]
  .rwa[12,D,11,?h1,22,ay.of hD,212,D,11,?h2,22,ay.of hD,212,h1,h2,ra,rb,n,m,f,A_,B_,2,a1,a2,wA,wB,{n1,n2},{m1,m2},M,S,Z,N,λd pp H7 J no hd=>?_,λT_ F t1 W=>{λgr H7 J=>?_,λD' v H7 J o Y=>?_}]
   .rwa[12,ρ,T.LK,dE λx nx=>{125}];let B:=ao.ψ (o:=XO x A.bA (ι d) ς) nx;rwa[112,J.ν B,.Ç (.Α {x,d,pp,2,aj,B^hd,no})]
   .rwa[12,ρ,T.Hk,dE λx nx=>{125}];let B:=ao.ψ (o:=XO x A.b9 ε ς) nx;rwa[112,J.ν B,.Ç (.Ç {x,T_,F,2,aj,t1,W,gr})]
   .rwa[112,J,.Α {2,T_,F,D',t1,W,o,Y}]
  rintro X H7 ⟨vk,vf,Ų,J,kr⟩;replace due:=due.Μ J;let dl:=Pp (J^agI) (V4 (g1.Μ J)) (V4 (g2.Μ J));let dh:=Pp (J^hD) (V4 (G.Μ J)) (V4 (I.Μ J));rwa[12121,D,lg,22,dh,dl,12,dz ?_];let one:∀{T T' F F'},iq A_ n f T->iq A_ n f T'->iq B_ m f F->iq B_ m f F'->T=T'/\F=F':=λa b c d=>{a.one b Z ∅,c.one d N ∅}
  rcases kr with ⟨rfl,T_,F,D',t1,W,o,Y⟩|⟨x,d,pp,Ų,hx,hd,no⟩|⟨x,T_,F,Ų,hx,t1,W,gr⟩
  .rwa[_,Ų,Ų,_,Ų,dz ?_];let[Na,_,f1]:=t1.ft Z n1 ∅ M S;let[Nb,_,f2]:=W.ft N m1 ∅ M S;let[av,xs,Ų,PX]:=o.Ò Y;rcases due with ⟨no,_⟩|⟨T',F',t,j,gr,_⟩|⟨T',F',D2,t,j,o2,hd2⟩
   .rwa[Ρ {t1.fe,W.fe} no]
   .let[Ų,Ų]:=one t1 t W j;rwa[Ρ gr (o.no f2)]
   .let[Ų,Ų]:=one t1 t W j;obtain rfl:=o.one o2 f1 f2;let[bv,ys,Ų,_]:=o.Ò hd2;rwa[121,ŷ,_,ρ,2,.Ò PX,Eb K _,12,dE {121,D',(6),2,Y,o.pl,λH8 B=>{12,dE ?_}}];rwa[1212,D',av,bv,22,(Y.Μ B).le ⋯,(hd2.Μ B).le ⋯,k _]
  .rwa[12212,dE ?_];rwa[12,x,1111112,hx,acH T,2,T.LN,12,dE ?_];rcases due with ⟨_,U⟩|⟨T',F',t,j,gr,_⟩|⟨T',F',D2,t,j,o2,hd2⟩
   .let[av,Ų]:=QJ U;rwa[12,Za4 1,λp np=>?_];let B:=ao.ψ (o:=.Ò [.str (tx [109,97,110,121])]) np;rwa[_,av,p,22,(U.Μ B).le ⋯,QI (k:=7) aj .s,12,dE ?_];rwa[12,x,1111112,B^hx,acH T,2,T.Hl,1212,dE ?_];erw[12,x,A.bA,d,ς,Pr f pp,12,B^hx,B^hd,LZ T,T.IQ,2122]
    cbv
   .rwa[Ρ {t.fe,j.fe} no]
   .rwa[Ρ {t.fe,j.fe} no]
  .rwa[12212,dE ?_];let[Nb,_,f2]:=W.ft N m1 ∅ M S;rwa[12,x,1111112,hx,acI T,2,T.LQ,12,dz ?_];rcases due with ⟨no,_⟩|⟨T',F',t,j,gr',U⟩|⟨T',F',D2,t,j,o2,hd2⟩
   .rwa[Ρ {t1.fe,W.fe} no]
   .let[av,Ų]:=QJ U;rwa[12,Za4 1,λp np=>?_];let B:=ao.ψ (o:=.Ò [.str (tx [103,114,101,97,116])]) np;rwa[_,av,p,22,(U.Μ B).le ⋯,QI (k:=7) aj .s,12,dE ?_];rwa[12,x,1111112,B^hx,acI T,2,T.Hn,k _]
   .let[Ų,Ų]:=one t1 t W j;rwa[Ρ gr (o2.no f2)]
end
def adE:c6.Ok:=by let h:=@@acJ;unfold P w K mg Β A at h;rwa[h]
def all_mk {l:Γ.W.OpenLaw}{w:à}{K:Za1}{mg:Ñ->Zl}(k:mg "law"=ι ?a){b d c i g j f h f1 f2 f3 f4 f5 f6 f7 f8 f9 OG Q D f13 f14 Vk t L f18 f19 f20 n f22 W U f25 f26 E f28 V f30 f31 f32 f33 f34 f35 f36 z f38 F f40 f41 f42 f43 f44 f45 f46 f47 f48 G f50 I Y f53 f54 y f56 M f58 f59 f60 f61 f62 f63 f64 f65 f66 f67 f68 f69 Z f71 f72 A f74:Zs}{d1 d2 d3 d4 d5 d6 d7 d8 d9 d10 C d12 q d14 d15 N d17 r u d20 d21 d22 d23 d24 d25 d26 d27 d28 d29 d30 d31 X d33 d34 J x d37 d38 B d40 d41 S d43 d44 d45 d46 d47 d48 O d50 d51 d52 o d54 d55 d56 d57 d58 d59 H m d62 d63 d64 R d66 P d68 d69 d70 d71 d72 d73 d74:Ζ}{p:Tok}(T:Txt K mg {f1,d1,f2,d2,f3,d3,f4,d4,f5,d5,f6,d6,f7,d7,f8,d8,f9,d9,OG,d10,Q,C,D,d12,f13,q,f14,d14,Vk,d15,t,N,L,d17,f18,r,f19,u,f20,d20,n,d21,f22,d22,W,d23,U,d24,f25,d25,f26,d26,E,d27,f28,d28,V,d29,f30,d30,f31,d31,f32,X,f33,d33,f34,d34,f35,J,f36,x,z,d37,f38,d38,F,B,f40,d40,f41,d41,f42,S,f43,d43,f44,d44,f45,d45,f46,d46,f47,d47,f48,d48,G,O,f50,d50,I,d51,Y,d52,f53,o,f54,d54,y,d55,f56,d56,M,d57,f58,d58,f59,d59,f60,H,f61,m,f62,d62,f63,d63,f64,d64,f65,R,f66,d66,f67,P,f68,d68,f69,d69,Z,d70,f71,d71,f72,d72,A,d73,f74,d74,p,b,d,c,i,g,j,f,h})
 :∃fd:Ζ,(∀(s:Zu)(v:Zt),BindsTo s fd ⟨[v],[]⟩ [(ϣ,v)])/\∀Β:Û,K.In Β->Β.Ns ø mg->cX l.À w K mg Β (cS l.À w) 14 a fd [ϣ] (Ac K):=by let e:=k.Τ.ν T.law.m;ext e;let[kV,doc,pm,an,cf,ct,e]:=T.law.fd;dsimp only at e;rwa[_,λs v=>[e]▸.of_eq Ų,λbase _ _=>aaK adE {111111} T]
def Þ {l:Γ.W.OpenLaw}{q:Í}{loose:Zp}{j:(Ñ->Zl)->Û->ο}{e:à->Û->ο}{d:DefRec}{K:Params->Za1}(p:l.most\63)(b:d.Ĳ.defaults=[])(m:∀(w:à) (h:Û),e w h->(K w.Ĳ).In h)(F:∀(w:à) (mg:Ñ->Zl) (c:Zs) (h:Û),(K w.Ĳ).In h->h.Ns ø mg->mg d.û\?c->∃fd:Ζ,(∀(s:Zu) (u:Zt),BindsTo s fd ⟨[u],[]⟩ [(ϣ,u)])/\∀Β:Û,(K w.Ĳ).In Β->Β.Ns ø mg->cX l.À w (K w.Ĳ) mg Β (cS l.À w) 14 c fd [ϣ] (Ac (K w.Ĳ))):
 Γ.W.WalkO q loose j e l.row.toRowW d [] (λf i=>Γ.Ğ f i):=L2.Wj (n:=63) (k:=14) (x:=ϣ) (CX:=λw=>(cS l.À w)) (sp:=λw=>Ac (K w.Ĳ)) p ⋯ b {244} m F (λ_ _ a g o _ r=>{a,g,2,r,o,λ_=>rfl}) λ_ _ _ _ _ z=>UM z
end K74
end Lake
open PySem PySem.W PyProof.Rows
namespace PySem.W.Fast
example:=Q tw9888623963919503031 tw2973132154962096576 tw2078382158933922704 tw11661055156245565839 tw688750900288748123 tw2307882547226826124 tw14953736104290420293 tw16115873465001495602 tw1240841269704353935 tw13731121528548102092 tw16015329527849195665 tw17178723321306129602 tw8287403205058054842 tw7270024198593804490 tw1103061769232688991 tw16295778497553707610 tw15826905224430477543 tw14948005958574812262 tw10978752576885288422 tw2822627604025773448 tw17875995905642444786 tw3041134155384068216 tw7467542887052246231 tw3503149704043110195 tw16974491737600523013 tw4308997531078322092 tw5062193362918507274 tw9418477526065850829 tw13510845640130049204 tw1947798664355848064 tw8824136560636493707 tw12882945088856605757 tw7890666805196325626 tw5702358993559501556 tw10863865060862095266 tw8389956019692519077 tw9009182365566377716 tw1779562852418076961 tw1197981536184393100 tw17061139490499299021 tw12664254883896239729 tw1248311868103959118 tw16171310687107578256 tw11380002014071198144 tw10951939556790694373 tw1848192718311422706 tw11948561236495359044 tw9680754990633672642 tw2515094654289583995 tw7133110344151486012 tw8067130839271440771 tw10856094520519740400 tw6785526374011440394 tw9022089865363465306 tw6345515111624944004 tw15782582423821001570 tw4517031807196673556 tw12837708559022123299 tw1203249658625002010 tw11940262511522793056 tw2969369170469941282 tw9532076301673433813 tw2351607721851328054 tw9513641858304559990 tw5599411580054660014 tw7786231867370423859 tw11341477514267077630 tw6868988233103942212 tw6299205500063278123 tw15502389784790229788 tw8178936855821551821 tw3373136326640571167 tw12702848279422308160 tw1292346992124797298 tw10007661053649282808 tw12613287353366549070 tw18422088373567646545 tw5483244024819346846 tw16603961655586366133 tw4628643961574266157 tw17442701433148222859 tw8846645984176805787 tw3464502550560901072 tw13198930066539601294 tw13289435968932411702 tw14425447204019934445 tw16090055638164709778 tw8713795008343856008 tw16125549053794750678 tw11383964927502169827 tw9514912960811679323 tw9193201016406248916 tw14676943411374006081 tw17685533752412013520 tw5337312463873567857 tw2197596670321155738 tw10751135138976288361 tw694991957912078732 tw6564006384207695707 tw17592433792025860621 tw3223887410697453929 tw10326128947795522824 tw1346438531101851571 tw13580567145603786620 tw12917667903302176418 tw4622423398253909768 tw7700489580017104879 tw10784934853188874484 tw12999895201860393331 tw2352145539635783483 tw12427968315907654716 tw6426295424001569545 tw6187699978756343184 tw13732520411610343713 tw4570425529671281205 tw16346058401031050242 tw1587631183737792352 tw2035306525742118134 tw14424473734809721588 tw9042554483026188080 tw413881444225359013 tw7657579111625001432 tw1979517490636360917 tw4701521060122908838 tw5242092625291426975 tw16283124600947218748 tw4673624950245487072 tw4814048838585657924 tw14164755293767915432 tw9658177789549435382 tw13781449783980807184 tw14710094702057445489 tw206034431336399535 tw9460084564249817311 tw7807991361288075582 tw13626990228340215666 tw13089466479220404822 tw12826526909276265552 tw14925918878116329043 tw13109141554486542691 tw17013752713151838452 tw15918439670952184913 tw8479276210043016172 tw8307858340221124957 tw1284169024288930545 tw17967046362592749820 tw7988452273250247305 tw7369801386397652445 tw6687704550032935884 tw1789315128691554547 tw15981626832092012067 tw14791581007619380525 tw13154082098786880301 tw18267103773942485141 tw12054435939073061358 tw2723651162978051495 tw4054349819476231863 tw7799909704207884731 tw6736984628691500080 tw16987163750847274857 tw14222232737042862204 tw1645542589883997027 tw13731873616163702518 tw17366878456439701183 tw88568476687700852 tw976514265921852762 tw9005622218175469754 tw859884685239719634 tw11164732720963292969 tw4208118533151687035 tw4653391229456115118 tw1431761501544498046 tw15953567750031212516 tw1599427880560666970 tw11466634232260843890 tw126298516120202907 tw3063669047829751688 tw7753749169085532060 tw6065651888165300666 tw11486769085364075051 tw6114736538118542269 tw17343951695427747915 tw6818118638464262720 tw5908756089370974510 tw2788622784825425830 tw12010314471084014409 tw15599028963947958752 tw12244662710979816671 tw13150486836179867890 tw5330540629531583406 tw363182102368449441 tw10575945580873742549 tw874786754210717005 tw11481307973413131772 tw3460843532879164000 tw185399825511542419 tw11935288251842077302 tw17530928113067133689 tw6732479584838745675 tw2462331153258166167
end PySem.W.Fast
end
open Lake
set_option maxRecDepth 100000 in
set_option maxHeartbeats 0 in
theorem PySem.Challenge.cw_cosetyard_k74_whole_kin_holds : PySem.Challenge.rw_cosetyard_k74_whole_kin.Holds := by
  w_on; o_law; k_head;(case hw => w_witness2)
  k_fill
  refine K74.walk (l := PySem.Challenge.rw_cosetyard_k74_whole_kin) rfl rfl (fun w h Y => PySem.W.km_in_of Y) ?F
  case F =>
    intro w mg fa h KX G hmg
    refine' K74.all_mk hmg ⟨?D1,?D2,?D3,?D4,?D5,?D6,?D7,?D8,?D9,?D10,?D11,?D12,?D13,?D14,?D15,?D16,?D17,?D18,?D19,?D20,?D21,?D22,?D23,?D24,?D25,?D26,?D27,?D28,?D29,?D30,?D31,?D32,?D33,?D34,?D35,?D36,?D37,?D38,?D39,?D40,?D41,?D42,?D43,?D44,?D45,?D46,?D47,?D48,?D49,?D50,?D51,?D52,?D53,?D54,?D55,?D56,?D57,?D58,?D59,?D60,?D61,?D62,?D63,?D64,?D65,?D66,?D67,?D68,?D69,?D70,?D71,?D72,?D73,?D74,?g1,?z1,?z2,?z3,?z4,?z5,?z6,?z7,?z8,?z9,?z10,?z11,?z12,?z13,?z14,?z15,?z16,?y_YardError,?y_TooMany,?y_TooGreat,?y_Order,?y_Rooms,?y_Going,?y_Closing,?y_Moves,_,_,_,_,_,_,_,_,_,_,_,_,_,_,_,_,_,_,_,_,_,_,_,_,_,_,_,_,_,_,_,_,_,_,_,_,_,_,_,_,_,_,_,_,_,_,_,_,_,_,_,_,_,_,_,_,_,_,_,_,_,_,_,_,_,_,_,_,_,_,_,_,_,_,_,_,_,_,_,_,_,_,_,_,_,_,_,_,_⟩
    all_goals try dsimp only
    (case y_YardError|y_TooMany|y_TooGreat|y_Order|y_Rooms|y_Going|y_Closing|y_Moves|g1 => refine' PySem.W.mg_of KX G ?a;(case a => k_is))
    (case D1|D7|D16|D21|D23|D24|D26|D32|D38 => refine' L2.Def.of KX G ?_ ?_ ?_ ?_ (fun _ _ _ _ _ _ _ hl => by obtain ⟨_, _, _, rfl⟩ := L2.args_is3 hl; rfl);all_goals try k_is)
    (case D2|D3|D4|D6|D8|D9|D11|D12|D15|D19|D20|D22|D31|D33|D35|D36|D37|D43|D44 => refine' L2.Def.of KX G ?_ ?_ ?_ ?_ (fun _ _ _ _ _ _ _ hl => by obtain ⟨_, rfl⟩ := L2.args_is1 hl; rfl);all_goals try k_is)
    (case D5|D10|D14|D17|D18|D25|D27|D28|D29|D30|D34|D39|D40|D42 => refine' L2.Def.of KX G ?_ ?_ ?_ ?_ (fun _ _ _ _ _ _ _ hl => by obtain ⟨_, _, rfl⟩ := L2.args_is2 hl; rfl);all_goals try k_is)
    (case D13 => refine' L2.DDef.of KX G ?_ ?_ ?_ ?_ ?_ (fun _ _ _ _ _ _ _ hl => by obtain ⟨_, _, _, _, _, rfl⟩ := L2.args_is5 hl; exact ⟨_, rfl, rfl⟩) (fun _ _ _ _ _ _ _ hl => by obtain ⟨_, _, _, _, rfl⟩ := L2.args_is4 (Nat.succ.inj hl); exact ⟨_, rfl, rfl⟩);all_goals try k_is)
    (case D41 => refine' L2.Def.of KX G ?_ ?_ ?_ ?_ (fun _ _ _ _ _ _ _ hl => by obtain ⟨_, _, _, _, _, rfl⟩ := L2.args_is5 hl; rfl);all_goals try k_is)
    (case D45|D53|D57|D62|D64|D70|D72|D74 => refine' L2.MDef.of ?_ ?_ ?_ ?_ ?_ (fun _ _ _ _ _ _ _ hl => by obtain ⟨_, _, _, rfl⟩ := L2.args_is3 hl; rfl);all_goals try k_is)
    (case D46|D49|D51|D55|D69 => refine' L2.MDef.of ?_ ?_ ?_ ?_ ?_ (fun _ _ _ _ _ _ _ hl => by obtain ⟨_, _, _, _, rfl⟩ := L2.args_is4 hl; rfl);all_goals try k_is)
    (case D47|D48|D50|D54|D56|D59|D60|D61|D65|D68|D73 => refine' L2.MDef.of ?_ ?_ ?_ ?_ ?_ (fun _ _ _ _ _ _ _ hl => by obtain ⟨_, _, rfl⟩ := L2.args_is2 hl; rfl);all_goals try k_is)
    (case D52|D58|D66|D67 => refine' L2.MDef.of ?_ ?_ ?_ ?_ ?_ (fun _ _ _ _ _ _ _ hl => by obtain ⟨_, rfl⟩ := L2.args_is1 hl; rfl);all_goals try k_is)
    (case D63 => refine' L2.MDef.of ?_ ?_ ?_ ?_ ?_ (fun _ _ _ _ _ _ _ hl => by obtain ⟨_, _, _, _, _, rfl⟩ := L2.args_is5 hl; rfl);all_goals try k_is)
    (case D71 => refine' L2.MDef.of ?_ ?_ ?_ ?_ ?_ (fun _ _ _ _ _ _ _ hl => by obtain ⟨_, _, _, _, _, _, rfl⟩ := L2.args_is6 hl; rfl);all_goals try k_is)
    (case z1|z2|z3|z4|z5|z6|z7|z8|z9|z10|z11|z12|z13|z14|z15|z16 => refine' PySem.W.mg_none_of KX G ?a;(case a => k_is))
    all_goals first|k_is|kit_is|kts_exm|kernel_rfl
