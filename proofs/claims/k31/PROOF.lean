import PyProof.Rows.All
import Wide.All
import OpenK.AllK
import Wide.FinOn
import Lean
import PyProof.EqAt
import PyProof.EqKinds
import PyProof.TupleCall
import PyProof.FString
import OpenK.KOwn
import KE.KTryMore
import PyProof.NsDelKeeps
import PyProof.StrBlock2
import PyProof.AutoListH
import KE.KIntText
import PyProof.Rows.StrIntSpec
import KE.KRevIter
import PyProof.StrWalks
import PyProof.CompUse
import PyProof.NeKinds
import PyProof.Rows.Range3
import PyProof.Rows.EnumRows
import PyProof.ConsumeWalk
import PyProof.Rows.SeqGen
import PyProof.StrLawsRepr
import PyProof.ZipIter
import PyProof.Rows.FactsT2
import PyProof.EnumMake
import PyProof.DictWalks
import PyProof.DictTruth
import PyProof.ListRange
import PyProof.ListStr
import PyProof.TupleOfGen
import PyProof.TupleOfSeq
import PyProof.MinMaxWalk
import PyProof.WalkInts
import KE.KSortAsk
import PyProof.MeetsSeq3
import KE.KRevSl
import PyProof.Rows.SeqMore
import PyProof.ListMulRoad
import PyProof.Rows.SumAny
import PyProof.SeqI3
import PyProof.AttrMissSeq
import KE.KDictOf
import PyProof.Rows.StrCut
import PyProof.Rows.StrSplitCount
import PyProof.DictItems
import PySem.Challenge.RW_cosetyard_k31_the_first_gap
-- CHANGE:your row's module here,as the last of these rows
set_option Elab.async false
set_option linter.all false
set_option maxRecDepth 100000
namespace L2
open PySem PySem.Spec PyProof.Rows
abbrev Key:=Sum Int Str
def keyIs:Key->Value->Bool
 |.inl k,v=>Value.isInt k v
 |.inr x,v=>Value.isStrOf x v
def keyH (w:World):Key->Int
 |.inl k=>hashInt k
 |.inr x=>hashStr w x
theorem keyIs_shape:∀{k:Key} {v:Value},keyIs k v=true->(∃i t,k=Sum.inl i/\v=Value.int i t)\/(∃x t,k=Sum.inr x/\v=Value.str x t)
 |.inl i,v,h=>by
  obtain⟨t,e⟩:=Value.isInt_shape (k:=i) (v:=v) h;exact .inl ⟨i,t,rfl,e⟩
 |.inr x,v,h=>by
  obtain⟨t,e⟩:=Value.isStrOf_shape (x:=x) (v:=v) h;exact .inr ⟨x,t,rfl,e⟩
theorem keyIs_int (i:Int)(t:Tok):keyIs (.inl i) (.int i t)=true:=by simp[keyIs,Value.isInt]
theorem keyIs_str (x:Str)(t:Tok):keyIs (.inr x) (.str x t)=true:=by simp[keyIs,Value.isStrOf]
theorem key_ll (a b:Int):decide ((Sum.inl a:Key)=Sum.inl b)=(a==b):=by
 by_cases e:a=b
 ·subst e;simp
 ·have h:¬(Sum.inl a:Key)=Sum.inl b:=λq=>e (Sum.inl.inj q)
  rw[decide_eq_false h];exact(beq_eq_false_iff_ne.mpr e).symm
theorem key_rr (a b:Str):decide ((Sum.inr a:Key)=Sum.inr b)=decide (a=b):=by
 by_cases e:a=b
 ·subst e;simp
 ·have h:¬(Sum.inr a:Key)=Sum.inr b:=λq=>e (Sum.inr.inj q)
  rw[decide_eq_false h,decide_eq_false e]
theorem key_lr (a:Int)(b:Str):decide ((Sum.inl a:Key)=Sum.inr b)=false:=decide_eq_false (λq=>nomatch q)
theorem key_rl (a:Str)(b:Int):decide ((Sum.inr a:Key)=Sum.inl b)=false:=decide_eq_false (λq=>nomatch q)
def mixKind (prog:Program)(w:World):PySem.KeyKind prog w Key where
 is:=keyIs
 hash:=keyH w
 inj:=λv a b ha hb=>by
  rcases keyIs_shape ha with ⟨i,t,rfl,rfl⟩|⟨x,t,rfl,rfl⟩
  ·rcases keyIs_shape hb with ⟨j,u,rfl,e⟩|⟨y,u,rfl,e⟩
   ·injection e with e1 _;rw[e1]
   ·exact nomatch e
  ·rcases keyIs_shape hb with ⟨j,u,rfl,e⟩|⟨y,u,rfl,e⟩
   ·exact nomatch e
   ·injection e with e1 _;rw[e1]
 byValue:=λk v h=>by
  rcases keyIs_shape h with ⟨i,t,rfl,rfl⟩|⟨x,t,rfl,rfl⟩ <;> rfl
 pyHash:=λhv h=>by
  rcases keyIs_shape hv with ⟨i,t,rfl,rfl⟩|⟨x,t,rfl,rfl⟩
  ·exact wpAny_pyHash_int h
  ·exact wpAny_pyHash_str h
 eqBool:=λhu hv h=>by
  rcases keyIs_shape hu with ⟨i,t,rfl,rfl⟩|⟨x,t,rfl,rfl⟩
  ·rcases keyIs_shape hv with ⟨j,u,rfl,rfl⟩|⟨y,u,rfl,rfl⟩
   ·rw[key_ll]at h;exact wpAny_eqBool_int h
   ·rw[key_lr]at h;exact SeqAt.EqAt.int_str i t y u _ _ _ _ h
  ·rcases keyIs_shape hv with ⟨j,u,rfl,rfl⟩|⟨y,u,rfl,rfl⟩
   ·rw[key_rl]at h;exact SeqAt.EqAt.str_int x t j u _ _ _ _ h
   ·rw[key_rr]at h;exact wpAny_eqBool_str h
 «strs»:=λk x t v h=>by
  rcases keyIs_shape h with ⟨i,u,rfl,e⟩|⟨y,u,rfl,e⟩
  ·exact nomatch e
  ·injection e with e1 _
   subst e1;cases v <;> rfl
theorem mixKind_int (prog:Program)(w:World)(i:Int)(t:Tok):(mixKind prog w).is (.inl i) (.int i t)=true:=keyIs_int i t
theorem mixKind_str (prog:Program)(w:World)(x:Str)(t:Tok):(mixKind prog w).is (.inr x) (.str x t)=true:=keyIs_str x t
end L2
namespace L2
open PySem PySem.Spec PyProof.Rows
inductive V where
 |non|bl (b:Bool)|int (i:Int)|str (x:Str)|byt (b:Array UInt8)|flt (b:UInt64)|ref (a:Addr)|ty (n:String)
 deriving DecidableEq
def RelV:V->Value->Prop
 |.non,u=>u=Value.none
 |.bl b,u=>u=Value.bool b
 |.int i,u=>∃t,u=Value.int i t
 |.str x,u=>∃t,u=Value.str x t
 |.byt b,u=>∃t,u=Value.bytes b t
 |.flt b,u=>∃t,u=Value.float b t
 |.ref a,u=>u=Value.ref a
 |.ty n,u=>u=Value.type n
abbrev Vals:List V->List Value->Prop:=Paired RelV
theorem Vals.length {xs:List V}{us:List Value}(r:Vals xs us):xs.length=us.length:=Paired.length r
theorem Vals.get:∀{xs:List V} {us:List Value} {i:Nat} {x:V},Vals xs us->xs[i]?=some x->∃u,us[i]?=some u/\RelV x u
 |_,_,_,_,.nil,e=>by simp at e
 |_,_,0,_,.cons r _,e=>by simp at e;subst e;exact⟨_,rfl,r⟩
 |_,_,i+ 1,x,.cons _ t,e=>by
  obtain⟨u,h1,h2⟩:=Vals.get (i:=i) (x:=x) t (by simpa using e);exact⟨u,by simpa using h1,h2⟩
theorem Vals.set {x:V}{u:Value}(r:RelV x u):∀{xs:List V} {us:List Value} (i:Nat),Vals xs us->Vals (xs.set i x) (us.set i u)
 |_,_,_,.nil=>.nil
 |_,_,0,.cons _ t=>.cons r t
 |_,_,i+ 1,.cons q t=>.cons q (Vals.set r i t)
theorem Vals.append:∀{xs ys:List V} {us ws:List Value},Vals xs us->Vals ys ws->Vals (xs++ys) (us++ws)
 |_,_,_,_,.nil,s=>s
 |_,_,_,_,.cons r t,s=>.cons r (Vals.append t s)
theorem Vals.take:∀{xs:List V} {us:List Value} (n:Nat),Vals xs us->Vals (xs.take n) (us.take n)
 |_,_,0,_=>.nil
 |_,_,_+ 1,.nil=>.nil
 |_,_,n+ 1,.cons r t=>.cons r (Vals.take n t)
theorem Vals.drop:∀{xs:List V} {us:List Value} (n:Nat),Vals xs us->Vals (xs.drop n) (us.drop n)
 |_,_,0,r=>r
 |_,_,_+ 1,.nil=>.nil
 |_,_,n+ 1,.cons _ t=>Vals.drop n t
def RelO:Option V->Option Value->Prop
 |some v,some u=>RelV v u
 |none,none=>True
 |_,_=>False
def KV {κ:Type}:List (κ×V)->List (κ×Value)->Prop:=Paired λ(p:κ×V) (q:κ×Value)=>p.1=q.1/\RelV p.2 q.2
def kV:Key->V
 |.inl i=>.int i
 |.inr x=>.str x
inductive HO where
 /-- a list -/
 |lst (xs:List V)
 /-- a tuple (never changes) -/
 |tup (xs:List V)
 /-- a dict whose keys are ints and texts;one whose keys are tuples of ints and texts (the empty one is both) -/
 |dK (kvs:List (Key×V))|dT (kvs:List (List Key×V))
 /-- a set of ints:its members,its size -/
 |set (S:Int->Bool) (n:Nat)
 /-- an instance of the class at C,its dict at dx,its attributes -/
 |ins (C dx:Addr) (fs:List (Str×V))
 /-- the dict of the instance at x -/
 |own (x:Addr)
 /-- the dict of an exception -/
 |xd (fs:List (Str×V))
 /-- a bound method,f of x -/
 |met (f x:Addr)
 /-- a range object lo,lo+ 1,.. below hi -/
 |rng (lo hi:Int)
 /-- a thing that is known to the object (the script;a dict while a loop walks it):read,never written while it is so -/
 |frz (o:Obj) (u:HO)
 /-- a code object's table -/
 |tbl (ps:Array Value)
 /-- any other thing,by what is true of its one object (a def of one's own:SetO a S n:=HO.ext λh=>..) -/
 |ext (φ:Heap->Prop)
abbrev Hp:=Addr->Option HO
def upd (H:Hp)(a:Addr)(o:HO):Hp:=λb=>if b=a then some o else H b
theorem upd_same {H:Hp}{a:Addr}{o:HO}:upd H a o a=some o:=by unfold upd;rw[if_pos rfl]
theorem upd_ne {H:Hp}{a b:Addr}{o:HO}(h:b≠a):upd H a o b=H b:=by unfold upd;rw[if_neg h]
theorem upd_upd {H:Hp}{a:Addr}{o u:HO}:upd (upd H a o) a u=upd H a u:=by
 funext b;unfold upd;split <;> rfl
theorem ne_of {H:Hp}{a b:Addr}{o u:HO}(h:H a=some o)(h':H b=some u)(d:o≠u):a≠b:=by
 intro e;subst e;rw[h]at h';exact d (Option.some.inj h')
theorem ne_of_none {H:Hp}{a b:Addr}{o:HO}(h:H a=some o)(h':H b=none):a≠b:=by
 intro e;subst e;rw[h]at h';cases h'
section
variable (P:Program) (w:World)
def ObjOk (H:Hp)(h:Heap)(a:Addr):HO->Prop
 |.lst xs=>xs.length<=sizeLine/\∃(its:List Value) (n:Nat),Vals xs its/\h.get? a=some { cls:=.type "list",data:=.seq its.toArray n }
 |.tup xs=>xs.length<=sizeLine/\∃its:List Value,Vals xs its/\IsTup h a its.toArray
 |.dK kvs=>kvs.length<=sizeLine/\(a==sysModules)=false/\∃vs,KV kvs vs/\h.DictOf (mixKind P w) a vs
 |.dT kvs=>kvs.length<=sizeLine/\(a==sysModules)=false/\∃xs:List (List Key×Addr×Value),
  Paired (λ(p:List Key×V) (q:List Key×Addr×Value)=>p.1=q.1/\H q.2.1=some (.tup (p.1.map kV))/\RelV p.2 q.2.2) kvs xs/\
  ∃o es ep,h.get? a=some o/\o.ExactDict/\o.data=.dict es ep/\es.toList=xs.map (entryOfKey (tupleKind (mixKind P w)))/\(xs.map (·.1)).Nodup
 |.set S n=>h.SetOf (intKind P w) a S n
 |.ins C dx fs=>H dx=some (.own a)/\fs.length<=1000/\dx≠a/\h.get? a=some (PySem.W.instObj C dx)/\
  ∃mA,h.Ns1 dx mA/\(∀f,RelO (fs.lookup f) (mA f))/\PySem.Within mA (fs.map (·.1))
 |.own _=>∃o,h.get? a=some o
 |.xd fs=>∃mA,h.Ns1 a mA/\∀f,RelO (fs.lookup f) (mA f)
 |.rng lo hi=>∃t u v,h.get? a=some { cls:=.type "range",data:=.fields #[.int lo t,.int hi u,.int 1 v] }
 |.frz o u=>h.get? a=some o/\ObjOk H h a u
 |.tbl ps=>h.get? a=some { cls:=.none,data:=.fields ps }
 |.met f x=>h.get? a=some (PySem.W.methodObj (.ref f) (.ref x))
 |.ext φ=>φ h/\(∃o,h.get? a=some o)/\∀h1 h2:Heap,φ h1->(∀o,h1.get? a=some o->h2.get? a=some o)->φ h2
def HOk (H:Hp)(h:Heap):Prop:=∀a o,H a=some o->ObjOk P w H h a o
end
section
variable {P:Program} {w:World} {H H':Hp} {h h':Heap} {a:Addr} {o:HO}
theorem ObjOk.lt (x:ObjOk P w H h a o):a<h.objs.size:=by
 cases o with
 |lst xs=>obtain⟨_,_,_,_,e⟩:=x;exact Heap.lt_size e
 |tup xs=>obtain⟨_,_,_,p⟩:=x;exact p.lt
 |dK kvs=>obtain⟨_,_,_,_,o,_,_,e,_⟩:=x;exact Heap.lt_size e
 |dT kvs=>obtain⟨_,_,_,_,o,_,_,e,_⟩:=x;exact Heap.lt_size e
 |set S n=>obtain⟨o,_,_,_,e,_⟩:=x;exact Heap.lt_size e
 |ins C dx fs=>obtain⟨_,_,_,e,_⟩:=x;exact Heap.lt_size e
 |own y=>obtain⟨_,e⟩:=x;exact Heap.lt_size e
 |xd fs=>obtain⟨_,⟨_,_,_,e,_⟩,_⟩:=x;exact Heap.lt_size e
 |rng lo hi=>obtain⟨_,_,_,e⟩:=x;exact Heap.lt_size e
 |frz ob u=>obtain⟨e,_⟩:=x;exact Heap.lt_size e
 |tbl ps=>exact Heap.lt_size (show h.get? a=some _ from x)
 |met f y=>exact Heap.lt_size (show h.get? a=some _ from x)
 |ext φ=>obtain⟨_,⟨_,e⟩,_⟩:=x;exact Heap.lt_size e
theorem Paired.mapP {α β:Type}{F G:α->β->Prop}:∀{l₁:List α} {l₂:List β},Paired F l₁ l₂->(∀a b,F a b->G a b)->Paired G l₁ l₂
 |_,_,.nil,_=>.nil
 |_,_,.cons r t,f=>.cons (f _ _ r) (Paired.mapP t f)
theorem ObjOk.stay (x:ObjOk P w H h a o)(k:∀b u,(b=a\/H b=some (.own a))->h.get? b=some u->h'.get? b=some u)
 (ho:∀b,H b=some (.own a)->H' b=some (.own a)) (ht:∀b xs,H b=some (.tup xs)->H' b=some (.tup xs)):ObjOk P w H' h' a o:=by
 induction o with
 |lst xs=>obtain⟨z,its,n,r,e⟩:=x;exact⟨z,its,n,r,k _ _ (.inl rfl) e⟩
 |tup xs=>obtain⟨z,its,r,ob,e,c⟩:=x;exact⟨z,its,r,ob,k _ _ (.inl rfl) e,c⟩
 |dK kvs=>obtain⟨z,y,vs,r,ob,es,ep,e,c⟩:=x;exact⟨z,y,vs,r,ob,es,ep,k _ _ (.inl rfl) e,c⟩
 |dT kvs=>
  obtain⟨z,y,xs,r,ob,es,ep,e,c⟩:=x;exact⟨z,y,xs,Paired.mapP r λp q z=>⟨z.1,ht _ _ z.2.1,z.2.2⟩,ob,es,ep,k _ _ (.inl rfl) e,c⟩
 |set S n=>obtain⟨ob,es,ep,t,e,c⟩:=x;exact⟨ob,es,ep,t,k _ _ (.inl rfl) e,c⟩
 |ins C dx fs=>
  obtain⟨d,z,ne,e,mA,⟨od,es,ep,e2,c⟩,r⟩:=x;exact⟨ho _ d,z,ne,k _ _ (.inl rfl) e,mA,⟨od,es,ep,k _ _ (.inr d) e2,c⟩,r⟩
 |own y=>obtain⟨ob,e⟩:=x;exact⟨ob,k _ _ (.inl rfl) e⟩
 |xd fs=>obtain⟨mA,⟨od,es,ep,e,c⟩,r⟩:=x;exact⟨mA,⟨od,es,ep,k _ _ (.inl rfl) e,c⟩,r⟩
 |rng lo hi=>obtain⟨t,u,v,e⟩:=x;exact⟨t,u,v,k _ _ (.inl rfl) e⟩
 |frz ob u ih=>obtain⟨e,q⟩:=x;exact⟨k _ _ (.inl rfl) e,ih q⟩
 |tbl ps=>
  have e:h.get? a=some { cls:=.none,data:=.fields ps }:=x;show h'.get? a=some { cls:=.none,data:=.fields ps };exact k a _ (.inl rfl) e
 |met f y=>
  have e:h.get? a=some (PySem.W.methodObj (.ref f) (.ref y)):=x;show h'.get? a=some (PySem.W.methodObj (.ref f) (.ref y));exact k a _ (.inl rfl) e
 |ext φ=>obtain⟨p,⟨o,e⟩,st⟩:=x;exact⟨st _ _ p λo q=>k _ _ (.inl rfl) q,⟨o,k _ _ (.inl rfl) e⟩,st⟩
theorem HOk.lt (x:HOk P w H h)(e:H a=some o):a<h.objs.size:=(x a o e).lt
theorem HOk.fresh (x:HOk P w H h)(e:h.objs.size<=a):H a=none:=by
 cases q:H a with
 |none=>rfl
 |some u=>exact absurd (Nat.lt_of_lt_of_le (x.lt q) e) (Nat.lt_irrefl _)
theorem HOk.kept (x:HOk P w H h)(k:∀b u,h.get? b=some u->h'.get? b=some u):HOk P w H h':=λa o e=>
 (x a o e).stay (λb u _ q=>k b u q) (λ_ q=>q) λ_ _ q=>q
theorem HOk.laid (x:HOk P w H h)(k:∀b u,h.get? b=some u->h'.get? b=some u)(hp:h.objs.size<=a)(new:ObjOk P w (upd H a o) h' a o):HOk P w (upd H a o) h':=λb u e=>by
 have hn:=x.fresh hp;by_cases hb:b=a
 ·subst hb;rw[upd_same]at e;cases e;exact new
 ·rw[upd_ne hb]at e;exact(x b u e).stay (λc v _ q=>k c v q) (λc q=>by rw[upd_ne (ne_of_none q hn)];exact q) λc xs q=>by rw[upd_ne (ne_of_none q hn)];exact q
end
def Rd (H:Hp)(a:Addr)(u:HO):Prop:=H a=some u\/∃o,H a=some (.frz o u)
theorem Rd.ok {P:Program}{w:World}{H:Hp}{h:Heap}{a:Addr}{u:HO}(r:Rd H a u)(x:HOk P w H h):ObjOk P w H h a u:=by
 rcases r with r|⟨o,r⟩
 ·exact x a u r
 ·obtain⟨_,q⟩:=x a _ r;exact q
def Mut:Option HO->Prop
 |some (.lst _)=>True
 |some (.dK _)=>True
 |some (.dT _)=>True
 |some (.set _ _)=>True
 |some (.ins _ _ _)=>True
 |some (.ext _)=>True
 |_=>False
section
variable {P:Program} {w:World} {H:Hp} {h h':Heap} {x e:Addr} {o':HO}
theorem HOk.write (ok:HOk P w H h)(mu:Mut (H x))(he:e=x\/H e=some (.own x))(k:∀b u,b≠e->h.get? b=some u->h'.get? b=some u)(heo:∃u,h'.get? e=some u)
 (new:ObjOk P w (upd H x o') h' x o'):HOk P w (upd H x o') h':=λb u q=>by
 have nown:∀c y,H c=some (.own y)->c≠x:=λc y r z=>by subst z;rw[r]at mu;exact mu
 have ntup:∀c xs,H c=some (.tup xs)->c≠x:=λc xs r z=>by subst z;rw[r]at mu;exact mu
 by_cases hb:b=x
 ·subst hb;rw[upd_same]at q;cases q;exact new
 ·rw[upd_ne hb]at q;by_cases hbe:b=e
  ·have q':H b=some (.own x):=by
    rcases he with z|z
    ·exact absurd (hbe.trans z) hb
    ·rw[hbe];exact z
   rw[q]at q';cases q';obtain⟨v,hv⟩:=heo;exact⟨v,by rw[hbe];exact hv⟩
  ·refine(ok b u q).stay (λc v hc r=>k c v ?_ r) (λc r=>by rw[upd_ne (nown c b r)];exact r) λc xs r=>by rw[upd_ne (ntup c xs r)];exact r
   rcases hc with rfl|hc
   ·exact hbe
   ·rintro rfl;rcases he with z|z
    ·exact nown c b hc z
    ·rw[hc]at z;cases z;exact hb rfl
end
structure Un (fs ex:List Addr) (H H':Hp) (h h':Heap):Prop where
 keep:∀b o,h.get? b=some o->H b=none->b∉fs->b∉ex->h'.get? b=some o
 slot:∀b o,h.get? b=some o->H b=none->b∈fs->b∉ex->∃sl,h'.get? b=some { o with slots:=sl }
 free:∀b o,h.get? b=some o->H b=none->b∉ex->H' b=none
 there:∀b o,h.get? b=some o->b∉ex->∃o',h'.get? b=some o'
 tups:∀b xs,H b=some (.tup xs)->H' b=some (.tup xs)
 frzs:∀b o u,H b=some (.frz o u)->H' b=some (.frz o u)
 tbls:∀b ps,H b=some (.tbl ps)->∃more,H' b=some (.tbl (ps++more))
section
variable {fs fs' ex ex':List Addr} {H H1 H2:Hp} {h h1 h2 h':Heap} {a x e:Addr} {o:HO}
theorem Un.any (u:Un fs ex H H1 h h1){b:Addr}{ob:Obj}(q:h.get? b=some ob)(n:H b=none)(hx:b∉ex):∃sl,h1.get? b=some { ob with slots:=sl }:=by
 by_cases hb:b∈fs
 ·exact u.slot b ob q n hb hx
 ·exact⟨ob.slots,u.keep b ob q n hb hx⟩
theorem Un.kept (k:∀b u,h.get? b=some u->h'.get? b=some u):Un fs ex H H h h':=
 ⟨λb ob q _ _ _=>k b ob q,λb ob q _ _ _=>⟨ob.slots,k b ob q⟩,λ_ _ _ n _=>n,λb ob q _=>⟨ob,k b ob q⟩,λ_ _ q=>q,λ_ _ _ q=>q,λ_ ps q=>⟨#[],by rw[q];simp⟩⟩
theorem Un.refl:Un fs ex H H h h:=Un.kept λ_ _ q=>q
theorem Un.laid (k:∀b u,h.get? b=some u->h'.get? b=some u)(hp:h.objs.size<=a)(hn:H a=none):Un fs ex H (upd H a o) h h' where
 keep:=λb u q _ _ _=>k b u q
 slot:=λb u q _ _ _=>⟨u.slots,k b u q⟩
 free:=λb u q n _=>by rw[upd_ne (Nat.ne_of_lt (Nat.lt_of_lt_of_le (Heap.lt_size q) hp))];exact n
 there:=λb u q _=>⟨u,k b u q⟩
 tups:=λb xs q=>by rw[upd_ne (ne_of_none q hn)];exact q
 frzs:=λb u xs q=>by rw[upd_ne (ne_of_none q hn)];exact q
 tbls:=λb ps q=>⟨#[],by rw[upd_ne (ne_of_none q hn),q];simp⟩
theorem Un.write (mu:Mut (H x))(he:e=x\/H e=some (.own x))(k:∀b u,b≠e->h.get? b=some u->h'.get? b=some u)(heo:∃u,h'.get? e=some u):Un fs ex H (upd H x o) h h':=by
 have hx:∀b,H b=none->b≠x:=λb n z=>by subst z;rw[n]at mu;exact mu
 have hb:∀b,H b=none->b≠e:=λb n z=>by
  subst z;rcases he with r|r
  ·exact hx b n r
  ·rw[n]at r;cases r
 have hm:∀b u,H b=some u->¬Mut (some u)->b≠x:=λb u q nm z=>by subst z;rw[q]at mu;exact nm mu
 refine⟨λb u q n _ _=>k b u (hb b n) q,λb u q n _ _=>⟨u.slots,k b u (hb b n) q⟩,λb u q n _=>by rw[upd_ne (hx b n)];exact n,λb u q _=>?_,
  λb xs q=>by rw[upd_ne (hm b _ q λz=>z)];exact q,λb u xs q=>by rw[upd_ne (hm b _ q λz=>z)];exact q,λb ps q=>⟨#[],by rw[upd_ne (hm b _ q λz=>z),q];simp⟩⟩
 by_cases hbe:b=e
 ·subst hbe;exact heo
 ·exact⟨u,k b u hbe q⟩
end
def trk (h:Heap)(H:Hp):List Addr:=(List.range h.objs.size).filter λa=>(H a).isSome
def hidT (h:Heap)(H:Hp):Heap:=PySem.W.hideAll h (trk h H)
theorem hidT_size (h:Heap)(H:Hp):(hidT h H).objs.size=h.objs.size:=PySem.W.hideAll_size _ _
theorem hidT_get {h:Heap}{H:Hp}{b:Addr}{o:Obj}(e:h.get? b=some o)(n:H b=none):(hidT h H).get? b=some o:=
 PySem.W.hideAll_get _ e λhm=>by
  have q:(H b).isSome=true:=(List.mem_filter.mp hm).2;rw[n]at q;simp at q
theorem of_hidT {h:Heap}{H:Hp}{b:Addr}{o:Obj}(e:(hidT h H).get? b=some o):h.get? b=some o/\H b=none:=by
 have e':h.get? b=some o:=PySem.W.of_hideAll (trk h H) e;refine⟨e',?_⟩
 cases q:H b with
 |none=>rfl
 |some x=>
  have hm:b∈trk h H:=List.mem_filter.mpr ⟨List.mem_range.mpr (Heap.lt_size e'),by simp[q]⟩;have z:(hidT h H).get? b=none:=PySem.W.hideAll_none (trk h H) hm;rw[z]at e;cases e
def allNews (g h:Heap)(L:Addr):List (Addr×Obj):=(List.range h.objs.size).filterMap λa=>if a=L\/(g.get? a).isSome=true then none else (h.get? a).map λo=>(a,o)
def rest (g h:Heap)(L d:Addr):List (Addr×Obj):=(allNews g h L).filter λp=>decide (p.1≠d)
end L2
namespace L2
open PySem PySem.Spec PyProof.Rows
structure Mod (K:PySem.W.Frag) (mg:Str->Option Value) (base:Heap):Prop where
 kin:K.In base
 glob:base.Ns mainGlobals mg
 blt:∃mb,base.Ns builtinsNs mb/\∀x:Str,x≠"__name__"->mb x=bootBuiltins x
 nolimit:base.NoLimit
structure Cx where
 prog:Program
 w:World
 K:PySem.W.Frag
 mg:Str->Option Value
 base:Heap
 A:Around
 N:List Str
 s₀:Shared
 H₀:Hp
 env:Env
 outer:List Env
 stack:List Env
 ex:List Addr
 fn:Str->Bool
 calm:Bool
 pn:List (Addr×Obj)
 xe:Value->Shared->Prop
def frs (l:List Env):List Addr:=l.filterMap (·.frame)
abbrev Cx.fs (X:Cx):List Addr:=frs X.outer
def Vis (sc:Scope)(x:Str):Prop:=sc.names.lookup x=some .local\/sc.names.lookup x=some .cell\/sc.names.lookup x=some .free
def Loc (sc:Scope)(x:Str):Prop:=sc.names.lookup x=some .local\/sc.names.lookup x=some .cell
def Look (env:Env)(h:Heap)(m:Str->Option Value)(x:Str)(u:Value):Prop:=
 (env.kindOf x=some .local/\m x=some u)\/((env.kindOf x=some .cell\/env.kindOf x=some .free)/\∃c,env.cells.lookup x=some c/\h.IsCell c (some u))
structure Cx.Ok (X:Cx):Prop where
 mod:Mod X.K X.mg X.base
 kind:X.env.scope.kind=.function
 glob:X.env.globals=mainGlobals
 blt:X.env.builtins=builtinsNs
 above:X.s₀.heap.objs.size<=X.env.locals
 inj:∀x y c,X.env.cells.lookup x=some c->X.env.cells.lookup y=some c->x=y
 has:∀x,(X.env.kindOf x=some .cell\/X.env.kindOf x=some .free)->∃c,X.env.cells.lookup x=some c
 cab:∀x c,X.fn x=true->X.env.cells.lookup x=some c->X.s₀.heap.objs.size<=c
 hd:X.calm=true->X.A.handled=none
 frames:X.A.frames=some X.stack
 stk:X.stack=X.outer\/(X.stack=X.env::X.outer/\X.env.frame=some X.env.locals)
 exf:∀b∈X.ex,b≠X.env.locals/\∀x c,X.env.cells.lookup x=some c->c≠b
 bs:∀b o,X.base.get? b=some o->X.s₀.heap.get? b=some o/\X.H₀ b=none
 bsz:X.base.objs.size<=X.s₀.heap.objs.size
 noex:∀b o,X.base.get? b=some o->b∉X.ex
 exfs:∀b∈X.ex,b∉X.fs
 funs:X.s₀.heap.FunFrames X.base X.outer
 frf:∀b∈X.fs,X.H₀ b=none
structure Inv (X:Cx) (pins:List (Addr×Obj)) (σ:List (Option V)) (H:Hp) (s:Shared):Prop where
 ok:X.Ok
 os:s.os=X.s₀.os
 bare:AllBare s.gens
 base:Un X.fs X.ex X.H₀ H X.s₀.heap s.heap
 loc:∃m,s.heap.Ns X.env.locals m/\∀(i:Nat) (x:Str) (v:V),X.N[i]?=some x->σ[i]?=some (some v)->Vis X.env.scope x->∃u,RelV v u/\Look X.env s.heap m x u
 cell:∀x c,X.env.cells.lookup x=some c->∃v,s.heap.IsCell c v
 free:H X.env.locals=none
 freeC:∀x c,X.env.cells.lookup x=some c->H c=none
 pin:∀p∈X.pn++pins,s.heap.get? p.1=some p.2/\H p.1=none/\p.1≠X.env.locals/\p.1∉X.fs/\∀v,p.2.data≠.cell v
 hok:HOk X.prog X.w H s.heap
 len:σ.length=X.N.length
section
variable {X:Cx} {pins:List (Addr×Obj)} {σ:List (Option V)} {H H':Hp} {s:Shared} {h':Heap}
theorem Cx.Ok.nofr (ok:X.Ok){b:Addr}{o:Obj}(e:X.base.get? b=some o):b∉X.fs:=λhb=>by
 have:=(ok.funs.mem hb).1;rw[e]at this;cases this
theorem Inv.bs (I:Inv X pins σ H s):∀b o,X.base.get? b=some o->s.heap.get? b=some o/\H b=none:=λb o e=>
 ⟨I.base.keep b o (I.ok.bs b o e).1 (I.ok.bs b o e).2 (I.ok.nofr e) (I.ok.noex b o e),I.base.free b o (I.ok.bs b o e).1 (I.ok.bs b o e).2 (I.ok.noex b o e)⟩
theorem Inv.bk (I:Inv X pins σ H s):∀b o,X.base.get? b=some o->s.heap.get? b=some o:=λb o e=>(I.bs b o e).1
theorem Inv.mod (I:Inv X pins σ H s):Mod X.K X.mg X.base:=I.ok.mod
theorem Inv.kIn (I:Inv X pins σ H s):X.K.In s.heap:=I.ok.mod.kin.keeps I.bk
theorem Inv.lt (I:Inv X pins σ H s):X.env.locals<s.heap.objs.size:=let ⟨_,hn,_⟩:=I.loc;hn.lt
theorem Inv.sz (I:Inv X pins σ H s):X.s₀.heap.objs.size<=s.heap.objs.size:=Nat.le_trans I.ok.above (Nat.le_of_lt I.lt)
theorem Inv.nofs (I:Inv X pins σ H s){a:Addr}(h:s.heap.objs.size<=a):a∉X.fs:=λhb=>by
 obtain⟨_,o,ho,_⟩:=I.ok.funs.mem hb;exact absurd (Nat.lt_of_lt_of_le (Heap.lt_size ho) (Nat.le_trans I.sz h)) (Nat.lt_irrefl _)
theorem Inv.cne (I:Inv X pins σ H s):∀x c,X.env.cells.lookup x=some c->c≠X.env.locals:=λx c e z=>by
 obtain⟨v,o,ho,hd⟩:=I.cell x c e;obtain⟨m,⟨o',es,ep,ho',hd',_⟩,_⟩:=I.loc;rw[z,ho']at ho;cases ho;rw[hd']at hd;cases hd
theorem Inv.funs (I:Inv X pins σ H s):s.heap.FunFrames X.base X.outer:=by
 have all:∀(l:List Env),(∀b∈frs l,b∈X.fs)->X.s₀.heap.FunFrames X.base l->s.heap.FunFrames X.base l:=by
  intro l
  induction l with
  |nil=>intro _ _;trivial
  |cons env r ih=>
   intro hs hl;obtain⟨hk,⟨L,o,hf,hn,ho,hd⟩,hr⟩:=hl;have hL:L∈X.fs:=hs L (by unfold frs;rw[List.filterMap_cons,hf];exact List.mem_cons_self);obtain⟨sl,e⟩:=I.base.slot L o ho (I.ok.frf L hL) hL λz=>I.ok.exfs L z hL
   exact⟨hk,⟨L,_,hf,hn,e,hd⟩,ih (λb hb=>hs b (by unfold frs;rw[List.filterMap_cons,hf];exact List.mem_cons_of_mem _ hb)) hr⟩
 exact all X.outer (λ_ hb=>hb) I.ok.funs
theorem Inv.stack (I:Inv X pins σ H s):s.heap.FunFrames X.base X.stack:=by
 rcases I.ok.stk with e|⟨e,hf⟩
 ·rw[e];exact I.funs
 ·rw[e];obtain⟨m,hn,_⟩:=I.loc;refine .cons (by rw[I.ok.kind];decide) hf hn ?_ I.funs;exact Heap.get?_none_of_le (Nat.le_trans I.ok.bsz I.ok.above)
theorem Inv.stkSub (I:Inv X pins σ H s):∀b∈frs X.stack,b∈X.env.locals::X.fs:=λb hb=>by
 rcases I.ok.stk with e|⟨e,hf⟩
 ·rw[e]at hb;exact List.mem_cons_of_mem _ hb
 ·rw[e]at hb;unfold frs at hb;rw[List.filterMap_cons,hf]at hb;exact hb
theorem Inv.stkFree (I:Inv X pins σ H s):∀b∈frs X.stack,H b=none:=λb hb=>by
 rcases List.mem_cons.mp (I.stkSub b hb) with e|hb
 ·rw[e];exact I.free
 ·obtain⟨_,o,ho,_⟩:=I.ok.funs.mem hb;exact I.base.free b o ho (I.ok.frf b hb) λz=>I.ok.exfs b z hb
theorem Inv.step {g':Array GenState}{t':Nat}{d':Drawn}{ch:List Addr}(I:Inv X pins σ H s)
 (hch:∀b∈ch,(b∈X.ex\/X.s₀.heap.objs.size<=b)/\b≠X.env.locals/\(∀x c,X.env.cells.lookup x=some c->c≠b)/\∀p∈X.pn++pins,p.1≠b)
 (keep:∀b o,b≠X.env.locals->b∉X.fs->b∉ch->s.heap.get? b=some o->H b=none->h'.get? b=some o)
 (slot:∀b o,b≠X.env.locals->b∈X.fs->b∉ch->s.heap.get? b=some o->H b=none->∃sl,h'.get? b=some { o with slots:=sl }) (free:∀b o,b∉ch->s.heap.get? b=some o->H b=none->H' b=none)
 (there:∀b o,b∉ch->s.heap.get? b=some o->∃o',h'.get? b=some o')
 (tups:∀b xs,H b=some (.tup xs)->H' b=some (.tup xs)) (frzs:∀b o u,H b=some (.frz o u)->H' b=some (.frz o u)) (tbls:∀b ps,H b=some (.tbl ps)->∃more,H' b=some (.tbl (ps++more)))
 (ns:∀m,s.heap.Ns X.env.locals m->h'.Ns X.env.locals m) (hok:HOk X.prog X.w H' h') (hg:AllBare g'):
 Inv X pins σ H' { s with heap:=h',gens:=g',drawn:=d',toks:=t' }:=by
 have neL:∀b o,X.s₀.heap.get? b=some o->b≠X.env.locals:=λb o e=>Nat.ne_of_lt (Nat.lt_of_lt_of_le (Heap.lt_size e) I.ok.above)
 have neC:∀b o,X.s₀.heap.get? b=some o->b∉X.ex->b∉ch:=λb o e hx hb=>by
  rcases (hch b hb).1 with z|z
  ·exact hx z
  ·exact absurd (Nat.lt_of_lt_of_le (Heap.lt_size e) z) (Nat.lt_irrefl _)
 have cellK:∀x c,X.env.cells.lookup x=some c->∀v,s.heap.IsCell c v->h'.IsCell c v:=λx c e v ⟨o,ho,hd⟩=>by
  have nch:c∉ch:=λz=>(hch c z).2.2.1 x c e rfl
  by_cases hc:c∈X.fs
  ·obtain⟨sl,q⟩:=slot c o (I.cne x c e) hc nch ho (I.freeC x c e);exact⟨_,q,hd⟩
  ·exact⟨o,keep c o (I.cne x c e) hc nch ho (I.freeC x c e),hd⟩
 refine⟨I.ok,I.os,hg,⟨λb o e n hb hx=>?_,λb o e n hb hx=>?_,λb o e n hx=>?_,λb o e hx=>?_,λb xs e=>tups b xs (I.base.tups b xs e),λb o xs e=>frzs b o xs (I.base.frzs b o xs e),λb ps e=>?_⟩,?_,λx c e=>?_,?_,λx c e=>?_,λp hp=>?_,hok,I.len⟩
 ·exact keep b o (neL b o e) hb (neC b o e hx) (I.base.keep b o e n hb hx) (I.base.free b o e n hx)
 ·obtain⟨sl,e1⟩:=I.base.slot b o e n hb hx;obtain⟨sl',e2⟩:=slot b _ (neL b o e) hb (neC b o e hx) e1 (I.base.free b o e n hx);exact⟨sl',e2⟩
 ·obtain⟨o',e1⟩:=I.base.there b o e hx;exact free b o' (neC b o e hx) e1 (I.base.free b o e n hx)
 ·obtain⟨o',e1⟩:=I.base.there b o e hx;exact there b o' (neC b o e hx) e1
 ·obtain⟨m1,e1⟩:=I.base.tbls b ps e;obtain⟨m2,e2⟩:=tbls b _ e1;exact⟨m1++m2,by rw[e2,Array.append_assoc]⟩
 ·obtain⟨m,hn,hl⟩:=I.loc;refine⟨m,ns m hn,λi x v e1 e2 e3=>?_⟩;obtain⟨u,r,l⟩:=hl i x v e1 e2 e3;refine⟨u,r,?_⟩;rcases l with l|⟨k,c,e,z⟩
  ·exact .inl l
  ·exact .inr ⟨k,c,e,cellK x c e _ z⟩
 ·obtain⟨v,z⟩:=I.cell x c e;exact⟨v,cellK x c e v z⟩
 ·obtain⟨m,⟨o,_,_,ho,_⟩,_⟩:=I.loc;exact free _ o (λz=>(hch _ z).2.1 rfl) ho I.free
 ·obtain⟨v,o,ho,hd⟩:=I.cell x c e;exact free c o (λz=>(hch c z).2.2.1 x c e rfl) ho (I.freeC x c e)
 ·obtain⟨e,n,ne,nf,d⟩:=I.pin p hp;have nch:p.1∉ch:=λz=>(hch p.1 z).2.2.2 p hp rfl
  exact⟨keep p.1 p.2 ne nf nch e n,free p.1 p.2 nch e n,ne,nf,d⟩
theorem Inv.un {t':Nat}(I:Inv X pins σ H s)(u:Un X.fs [] H H' s.heap h')(hok:HOk X.prog X.w H' h'):Inv X pins σ H' { s with heap:=h',toks:=t' }:=by
 obtain⟨m,⟨o,es,ep,ho,r⟩,_⟩:=id I.loc;obtain⟨sl,hL⟩:=u.any ho I.free (by simp)
 exact I.step (g':=s.gens) (d':=s.drawn) (ch:=[]) (λ_ z=>nomatch z) (λb o _ hb _ e n=>u.keep b o e n hb (by simp)) (λb o _ hb _ e n=>u.slot b o e n hb (by simp)) (λb o _ e n=>u.free b o e n (by simp)) (λb o _ e=>u.there b o e (by simp)) u.tups u.frzs u.tbls (λm' hm=>by
  obtain⟨o',es',ep',ho',r'⟩:=hm;rw[ho]at ho';cases ho';exact⟨_,es',ep',hL,r'⟩) hok I.bare
theorem Inv.call {g':Array GenState}{t':Nat}{d':Drawn}{ch:List Addr}(I:Inv X pins σ H s)(u:Un (frs X.stack) ch H H' s.heap h')(hok:HOk X.prog X.w H' h')(hg:AllBare g')
 (hch:∀b∈ch,(b∈X.ex\/X.s₀.heap.objs.size<=b)/\b≠X.env.locals/\(∀x c,X.env.cells.lookup x=some c->c≠b)/\∀p∈X.pn++pins,p.1≠b):
 Inv X pins σ H' { s with heap:=h',gens:=g',drawn:=d',toks:=t' }:=by
 obtain⟨m,⟨o,es,ep,ho,r⟩,_⟩:=id I.loc;obtain⟨sl,hL⟩:=u.any ho I.free λz=>(hch _ z).2.1 rfl
 exact I.step (ch:=ch) hch (λb o hL hb hc e n=>u.keep b o e n (λz=>(List.mem_cons.mp (I.stkSub b z)).elim hL hb) hc) (λb o _ _ hc e n=>u.any e n hc) (λb o hc e n=>u.free b o e n hc) (λb o hc e=>u.there b o e hc) u.tups u.frzs u.tbls (λm' hm=>by
  obtain⟨o',es',ep',ho',r'⟩:=hm;rw[ho]at ho';cases ho';exact⟨_,es',ep',hL,r'⟩) hok hg
theorem Inv.turned {t':Nat}{it:Addr}(I:Inv X pins σ H s)(k:∀b o,b≠it->s.heap.get? b=some o->h'.get? b=some o)(hn:H it=none)(hL:it≠X.env.locals)
 (h1:it∈X.ex\/X.s₀.heap.objs.size<=it) (h2:∀x c,X.env.cells.lookup x=some c->c≠it) (h3:∀p∈X.pn++pins,p.1≠it):Inv X pins σ H { s with heap:=h',toks:=t' }:=by
 have nit:∀b u,H b=some u->b≠it:=λb u e z=>by rw[z,hn]at e;cases e
 refine I.step (g':=s.gens) (d':=s.drawn) (ch:=[it]) (λb hb=>?_) (λb o _ _ hc e _=>k b o (λz=>hc (by simp[z])) e) (λb o _ _ hc e _=>⟨o.slots,k b o (λz=>hc (by simp[z])) e⟩) (λ_ _ _ _ n=>n)
  (λb o hc e=>⟨o,k b o (λz=>hc (by simp[z])) e⟩) (λ_ _ e=>e) (λ_ _ _ e=>e) (λb ps e=>⟨#[],by rw[e];simp⟩) (λm hm=>?_) (λb u e=>?_) I.bare
 ·have e:b=it:=by simpa using hb
  subst e;exact⟨h1,hL,h2,h3⟩
 ·obtain⟨o,es,ep,ho,r⟩:=hm;exact⟨o,es,ep,k _ o (Ne.symm hL) ho,r⟩
 ·refine(I.hok b u e).stay (λc v hc q=>k c v ?_ q) (λ_ q=>q) λ_ _ q=>q
  rcases hc with z|z
  ·rw[z];exact nit b u e
  ·exact nit c _ z
theorem Inv.tok (I:Inv X pins σ H s)(t:Nat):Inv X pins σ H { s with toks:=t }:=I.un (h':=s.heap) (t':=t) Un.refl I.hok
theorem Inv.kept {t':Nat}(I:Inv X pins σ H s)(k:∀b u,s.heap.get? b=some u->h'.get? b=some u):Inv X pins σ H { s with heap:=h',toks:=t' }:=I.un (Un.kept k) (I.hok.kept k)
theorem Inv.laid {a:Addr}{o:HO}{t':Nat}(I:Inv X pins σ H s)(k:∀b u,s.heap.get? b=some u->h'.get? b=some u)(hp:s.heap.objs.size<=a)(new:ObjOk X.prog X.w (upd H a o) h' a o):
 Inv X pins σ (upd H a o) { s with heap:=h',toks:=t' }:=I.un (Un.laid k hp (I.hok.fresh hp)) (I.hok.laid k hp new)
theorem Inv.write {x e:Addr}{o:HO}{t':Nat}(I:Inv X pins σ H s)(mu:Mut (H x))(he:e=x\/H e=some (.own x))(k:∀b u,b≠e->s.heap.get? b=some u->h'.get? b=some u)(heo:∃u,h'.get? e=some u)
 (new:ObjOk X.prog X.w (upd H x o) h' x o):Inv X pins σ (upd H x o) { s with heap:=h',toks:=t' }:=I.un (Un.write mu he k heo) (I.hok.write mu he k heo new)
theorem Inv.pins_of {pins':List (Addr×Obj)}(I:Inv X pins σ H s)(h:∀p∈pins',s.heap.get? p.1=some p.2/\H p.1=none/\p.1≠X.env.locals/\p.1∉X.fs/\∀v,p.2.data≠.cell v):Inv X pins' σ H s:=
 ⟨I.ok,I.os,I.bare,I.base,I.loc,I.cell,I.free,I.freeC,λp hp=>(List.mem_append.mp hp).elim (λz=>I.pin p (List.mem_append_left _ z)) (h p),I.hok,I.len⟩
theorem nodup_ix {N:List Str}(hN:N.Nodup){i j:Nat}{x:Str}(a:N[i]?=some x)(b:N[j]?=some x):i=j:=by
 obtain⟨h1,e1⟩:=List.getElem?_eq_some_iff.mp a;obtain⟨h2,e2⟩:=List.getElem?_eq_some_iff.mp b;exact(List.getElem_inj hN).mp (e1.trans e2.symm)
theorem store_ok2 {M:Model}{A:Around}{E:Value->Shared->Prop}{i:Nat}{x:Str}{v:V}{u:Value}{Q:Unit->Shared->Prop}(I:Inv X pins σ H s)(hN:X.N.Nodup)(hi:X.N[i]?=some x)(hx:Loc X.env.scope x)(r:RelV v u)
 (h:∀s',Inv X pins (σ.set i (some v)) H s'->(∃a,Heap.SameBut a s.heap s'.heap/\(a=X.env.locals\/X.env.cells.lookup x=some a))->Q () s') (hf:X.fn x=true\/X.env.scope.names.lookup x=some .local:=by first|exact .inl rfl|exact .inr rfl|assumption):wpAny M A (storeName X.env x u) Q E s:=by
 obtain⟨m,hn,hl⟩:=id I.loc;have hcls:(X.env.scope.kind==.class || (X.env.scope.kind==.module && X.env.locals !=X.env.globals))=false:=by rw[I.ok.kind];rfl
 have hiσ:i < σ.length:=by rw[I.len];exact(List.getElem?_eq_some_iff.mp hi).1
 have cne:=I.cne
 have tracked:∀{a:Addr} {h':Heap},(∃o,s.heap.get? a=some o/\H a=none)->Heap.SameBut a s.heap h'->HOk X.prog X.w H h':=λ{a h'} ha hs b ob e=>by
  obtain⟨_,_,hfree⟩:=ha;refine(I.hok b ob e).stay (λc w' hc q=>(hs.2 c ?_).trans q) (λ_ q=>q) λ_ _ q=>q
  rintro rfl;rcases hc with rfl|hc
  ·rw[hfree]at e;cases e
  ·rw[hfree]at hc;cases hc
 rcases hx with hk|hk
 ·refine wpAny_storeName_local hk hn (λh' hn' hs=>?_) hcls;obtain⟨oL,_,_,hoL,_⟩:=id hn;refine h _ ⟨I.ok,I.os,I.bare,⟨λb o e n hb hx=>?_,λb o e n hb hx=>?_,I.base.free,λb o e hx=>?_,I.base.tups,I.base.frzs,I.base.tbls⟩,⟨_,hn',λj y v' e1 e2 e3=>?_⟩,λy c e=>?_,I.free,I.freeC,λp hp=>?_,tracked ⟨oL,hoL,I.free⟩ hs,by simpa using I.len⟩ ⟨_,hs,.inl rfl⟩
  ·exact(hs.2 b (Nat.ne_of_lt (Nat.lt_of_lt_of_le (Heap.lt_size e) I.ok.above))).trans (I.base.keep b o e n hb hx)
  ·obtain⟨sl,e1⟩:=I.base.slot b o e n hb hx;exact⟨sl,(hs.2 b (Nat.ne_of_lt (Nat.lt_of_lt_of_le (Heap.lt_size e) I.ok.above))).trans e1⟩
  ·obtain⟨o',e1⟩:=I.base.there b o e hx;exact⟨o',(hs.2 b (Nat.ne_of_lt (Nat.lt_of_lt_of_le (Heap.lt_size e) I.ok.above))).trans e1⟩
  ·by_cases hj:j=i
   ·subst hj;rw[hi]at e1;cases e1;rw[List.getElem?_set_self hiσ]at e2;cases e2;exact⟨u,r,.inl ⟨hk,by simp⟩⟩
   ·rw[List.getElem?_set_ne (Ne.symm hj)]at e2;obtain⟨u',r',q⟩:=hl j y v' e1 e2 e3;refine⟨u',r',?_⟩;rcases q with ⟨k,e⟩|⟨k,c,e,z⟩
    ·refine .inl ⟨k,?_⟩;have:y≠x:=λe=>hj (nodup_ix hN e1 (e ▸ hi))
     simp[this,e]
    ·exact .inr ⟨k,c,e,z.sameBut hs (cne y c e)⟩
  ·obtain⟨w',z⟩:=I.cell y c e;exact⟨w',z.sameBut hs (cne y c e)⟩
  ·obtain⟨e,n,ne,nf,d⟩:=I.pin p hp;exact⟨(hs.2 p.1 ne).trans e,n,ne,nf,d⟩
 ·have hfn:X.fn x=true:=by
   rcases hf with z|z
   ·exact z
   ·rw[z]at hk;cases hk
  obtain⟨c,hc⟩:=I.ok.has x (.inl hk);obtain⟨w',z⟩:=I.cell x c hc;refine wpAny_storeName_cell I.ok.kind hk hc z (λh' hc' hs=>?_);obtain⟨oc,hoc,hocd⟩:=id z;refine h { s with heap:=h' } ⟨I.ok,I.os,I.bare,⟨λb o e n hb hx=>?_,λb o e n hb hx=>?_,I.base.free,λb o e hx=>?_,I.base.tups,I.base.frzs,I.base.tbls⟩,⟨m,hn.sameBut hs (Ne.symm (cne x c hc)),λj y v' e1 e2 e3=>?_⟩,λy c' e=>?_,I.free,I.freeC,λp hp=>?_,tracked ⟨oc,hoc,I.freeC x c hc⟩ hs,by simpa using I.len⟩ ⟨c,hs,.inr hc⟩
  ·exact(hs.2 b (Nat.ne_of_lt (Nat.lt_of_lt_of_le (Heap.lt_size e) (I.ok.cab x c hfn hc)))).trans (I.base.keep b o e n hb hx)
  ·obtain⟨sl,e1⟩:=I.base.slot b o e n hb hx;exact⟨sl,(hs.2 b (Nat.ne_of_lt (Nat.lt_of_lt_of_le (Heap.lt_size e) (I.ok.cab x c hfn hc)))).trans e1⟩
  ·obtain⟨o',e1⟩:=I.base.there b o e hx;exact⟨o',(hs.2 b (Nat.ne_of_lt (Nat.lt_of_lt_of_le (Heap.lt_size e) (I.ok.cab x c hfn hc)))).trans e1⟩
  ·by_cases hj:j=i
   ·subst hj;rw[hi]at e1;cases e1;rw[List.getElem?_set_self hiσ]at e2;cases e2;exact⟨u,r,.inr ⟨.inl hk,c,hc,hc'⟩⟩
   ·rw[List.getElem?_set_ne (Ne.symm hj)]at e2;obtain⟨u',r',q⟩:=hl j y v' e1 e2 e3;refine⟨u',r',?_⟩;rcases q with q|⟨k,c',e,z'⟩
    ·exact .inl q
    ·refine .inr ⟨k,c',e,z'.sameBut hs ?_⟩;rintro rfl;exact hj (nodup_ix hN e1 (I.ok.inj _ _ _ e hc ▸ hi))
  ·by_cases hcc:c'=c
   ·subst hcc;exact⟨_,hc'⟩
   ·obtain⟨w2,z2⟩:=I.cell y c' e;exact⟨w2,z2.sameBut hs hcc⟩
  ·obtain⟨e,n,ne,nf,d⟩:=I.pin p hp;refine⟨(hs.2 p.1 ?_).trans e,n,ne,nf,d⟩;intro q;rw[q,hoc]at e;have q':oc=p.2:=Option.some.inj e;exact d w' (by rw[←q'];exact hocd)
theorem store_ok {M:Model}{A:Around}{E:Value->Shared->Prop}{i:Nat}{x:Str}{v:V}{u:Value}{Q:Unit->Shared->Prop}(I:Inv X pins σ H s)(hN:X.N.Nodup)(hi:X.N[i]?=some x)(hx:Loc X.env.scope x)(r:RelV v u)
 (h:∀s',Inv X pins (σ.set i (some v)) H s'->Q () s') (hf:X.fn x=true\/X.env.scope.names.lookup x=some .local:=by first|exact .inl rfl|exact .inr rfl|assumption):wpAny M A (storeName X.env x u) Q E s:=
 store_ok2 I hN hi hx r (λs' I' _=>h s' I') hf
theorem Inv.call' {s':Shared}{ch:List Addr}(I:Inv X pins σ H s)(ho:s'.os=s.os)(u:Un (frs X.stack) ch H H' s.heap s'.heap)(hok:HOk X.prog X.w H' s'.heap)(hg:AllBare s'.gens)
 (hch:∀b∈ch,(b∈X.ex\/X.s₀.heap.objs.size<=b)/\b≠X.env.locals/\(∀x c,X.env.cells.lookup x=some c->c≠b)/\∀p∈X.pn++pins,p.1≠b):Inv X pins σ H' s':=by
 obtain⟨h',g',d',t',o'⟩:=s';have e:o'=s.os:=ho;subst e;exact I.call (g':=g') (t':=t') (d':=d') u hok hg hch
end
abbrev XK:=Value->Option Addr->Hp->Prop
abbrev St:=List (Option V)
abbrev VK:=V->Hp->Prop
abbrev TE:=St->Hp->VK->Prop
abbrev TT:=St->Hp->(Bool->Hp->Prop)->Prop
abbrev TA:=St->Hp->(List V->Hp->Prop)->Prop
structure Ends where
 nx:St->Hp->Prop
 rt:VK
 bk:St->Hp->Prop:=λ_ _=>False
 ct:St->Hp->Prop:=λ_ _=>False
abbrev TS:=Ends->St->Hp->Prop
def EP (X:Cx)(pins:List (Addr×Obj))(σ:St)(Q:VK)(u:Value)(s':Shared):Prop:=∃v H',Inv X pins σ H' s'/\RelV v u/\Q v H'
def TP (X:Cx)(pins:List (Addr×Obj))(σ:St)(Q:Bool->Hp->Prop)(b:Bool)(s':Shared):Prop:=∃H',Inv X pins σ H' s'/\Q b H'
def AP (X:Cx)(pins:List (Addr×Obj))(σ:St)(Q:List V->Hp->Prop)(us:List Value)(s':Shared):Prop:=∃vs H',Inv X pins σ H' s'/\Vals vs us/\Q vs H'
def SP (X:Cx)(pins:List (Addr×Obj))(D:Ends)(f:Flow)(s':Shared):Prop:=
 match f with
 |.next=>∃ σ' H',Inv X pins σ' H' s'/\D.nx σ' H'
 |.brk=>∃ σ' H',Inv X pins σ' H' s'/\D.bk σ' H'
 |.cont=>∃ σ' H',Inv X pins σ' H' s'/\D.ct σ' H'
 |.ret u=>∃v σ' H',Inv X pins σ' H' s'/\RelV v u/\D.rt v H'
def PE (X:Cx)(e:Expr)(t:TE):Prop:=
 ∀(pins:List (Addr×Obj)) (s:Shared) (σ:St) (H:Hp) (Q:VK),Inv X pins σ H s->t σ H Q->wpAny (model X.prog X.w) X.A (eval e X.env) (EP X pins σ Q) X.xe s
def PT (X:Cx)(e:Expr)(t:TT):Prop:=
 ∀(pins:List (Addr×Obj)) (s:Shared) (σ:St) (H:Hp) (Q:Bool->Hp->Prop),Inv X pins σ H s->t σ H Q->wpAny (model X.prog X.w) X.A (isTrue e X.env (eval e X.env)) (TP X pins σ Q) X.xe s
def PW (X:Cx)(e:Expr)(t:TT):Prop:=
 ∀(whole:Sem Value) (pins:List (Addr×Obj)) (s:Shared) (σ:St) (H:Hp) (Q:Bool->Hp->Prop),Inv X pins σ H s->t σ H Q->wpAny (model X.prog X.w) X.A (isTrue e X.env whole) (TP X pins σ Q) X.xe s
theorem PW.pt {X:Cx}{e:Expr}{t:TT}(h:PW X e t):PT X e t:=h _
def PA (X:Cx)(es:List Expr)(t:TA):Prop:=
 ∀(pos:Pos) (pins:List (Addr×Obj)) (s:Shared) (σ:St) (H:Hp) (Q:List V->Hp->Prop),Inv X pins σ H s->t σ H Q->wpAny (model X.prog X.w) X.A (spliced (backTo pos (starEach es X.env))) (AP X pins σ Q) X.xe s
def PS (X:Cx)(st:Stmt)(t:TS):Prop:=
 ∀(pins:List (Addr×Obj)) (s:Shared) (σ:St) (H:Hp) (D:Ends),Inv X pins σ H s->t D σ H->wpAny (model X.prog X.w) X.A (exec st X.env) (SP X pins D) X.xe s
def PSs (X:Cx)(st:List Stmt)(t:TS):Prop:=
 ∀(pins:List (Addr×Obj)) (s:Shared) (σ:St) (H:Hp) (D:Ends),Inv X pins σ H s->t D σ H->wpAny (model X.prog X.w) X.A (execs st X.env) (SP X pins D) X.xe s
theorem thn {α:Type}{t:Sem α}{Q Q':α->Shared->Prop}{M:Model}{A:Around}{E:Value->Shared->Prop}{s:Shared}(h:wpAny M A t Q E s)(hQ:∀a s,Q a s->Q' a s):wpAny M A t Q' E s:=wpAny_mono h hQ λ_ _ x=>x
end L2
namespace L2
open PySem PySem.Spec PyProof.Rows
section
variable {X:Cx}
def tVar (i:Nat):TE:=λ σ H Q=>∃v,σ[i]?=some (some v)/\Q v H
def tC (v:V):TE:=λ_ H Q=>Q v H
theorem pe_var {i:Nat}{x:Str}{pos:Pos}(hN:X.N[i]?=some x)(hv:Vis X.env.scope x)(hd:(x==("__debug__":Str))=false:=by decide)(hcd:(x==("__classdict__":Str))=false:=by decide):PE X (.Name x pos) (tVar i):=by
 intro pins s σ H Q I h;obtain⟨v,e,h⟩:=h;obtain⟨m,hn,hl⟩:=I.loc;obtain⟨u,r,l⟩:=hl i x v hN e hv;have fin:EP X pins σ Q u s:=⟨v,H,I,r,h⟩;rcases l with ⟨hk,hm⟩|⟨hk,c,hc,hcell⟩
 ·exact wpAny_Name (wpAny_loadName_local I.ok.kind hk hn hm fin) hd
 ·rcases hk with hk|hk
  ·exact wpAny_Name (wpAny_loadName_cell I.ok.kind hk hc hcell fin) hd
  ·exact wpAny_Name (wpAny_loadName_free I.ok.kind hk hc hcell fin hcd) hd
theorem pe_int {i j pos}:PE X (.Constant (.int i) j pos) (tC (.int i)):=λ_ _ _ H _ I h=>wpAny_Constant_int ⟨.int i,H,I.tok _,⟨_,rfl⟩,h⟩
theorem pe_bl {b j pos}:PE X (.Constant (.bool b) j pos) (tC (.bl b)):=λ_ _ _ H _ I h=>Constant_bool ⟨.bl b,H,I,rfl,h⟩
theorem pe_non {j pos}:PE X (.Constant .none j pos) (tC .non):=λ_ _ _ H _ I h=>Constant_none ⟨.non,H,I,rfl,h⟩
theorem pe_str {x j pos}:PE X (.Constant (.str x) j pos) (tC (.str x)):=λ_ _ _ H _ I h=>Calls.Constant_str ⟨.str x,H,I.tok _,⟨_,rfl⟩,h⟩
def Gl (X:Cx)(x:Str):Prop:=X.env.kindOf x=some .globalImplicit
theorem ld_glob {E:Value->Shared->Prop}{pins:List (Addr×Obj)}{s:Shared}{σ:St}{H:Hp}{x:Str}{u:Value}{pos:Pos}{Q:Value->Shared->Prop}(I:Inv X pins σ H s)(hg:Gl X x)(hm:X.mg x=some u)(h:Q u s)
 (hd:(x==("__debug__":Str))=false:=by decide):wpAny (model X.prog X.w) X.A (eval (.Name x pos) X.env) Q E s:=
 Calls.Name_function_global I.ok.kind hg (Calls.loadGlobal_global (by rw[I.ok.glob];exact I.mod.glob.keeps I.bk) hm h) hd
theorem ld_blt {E:Value->Shared->Prop}{pins:List (Addr×Obj)}{s:Shared}{σ:St}{H:Hp}{x:Str}{u:Value}{pos:Pos}{Q:Value->Shared->Prop}(I:Inv X pins σ H s)(hg:Gl X x)(hm:X.mg x=none)(hv:bootBuiltins x=some u)(h:Q u s)
 (hn:x≠"__name__":=by decide) (hd:(x==("__debug__":Str))=false:=by decide):wpAny (model X.prog X.w) X.A (eval (.Name x pos) X.env) Q E s:=by
 obtain⟨mb,h1,h2⟩:=I.mod.blt;exact Calls.Name_function_global I.ok.kind hg (Calls.loadGlobal_builtin (by rw[I.ok.glob];exact I.mod.glob.keeps I.bk) hm (by rw[I.ok.blt];exact h1.keeps I.bk) ((h2 x hn).trans hv) h) hd
theorem pe_glob {x:Str}{v:V}{u:Value}{pos:Pos}(hg:Gl X x)(hm:X.mg x=some u)(r:RelV v u)(hd:(x==("__debug__":Str))=false:=by decide):PE X (.Name x pos) (tC v):=
 λ_ _ _ H _ I h=>ld_glob I hg hm ⟨v,H,I,r,h⟩ hd
theorem pe_bltn {x:Str}{v:V}{u:Value}{pos:Pos}(hg:Gl X x)(hm:X.mg x=none)(hv:bootBuiltins x=some u)(r:RelV v u)(hn:x≠"__name__":=by decide)(hd:(x==("__debug__":Str))=false:=by decide):PE X (.Name x pos) (tC v):=
 λ_ _ _ H _ I h=>ld_blt I hg hm hv ⟨v,H,I,r,h⟩ hn hd
def t2I (ta tb:TE)(k:Int->Int->Hp->Prop):St->Hp->Prop:=λ σ H=>ta σ H λx H1=>tb σ H1 λy H2=>∃i j,x=.int i/\y=.int j/\k i j H2
variable {a b:Expr} {ta tb:TE} {pos:Pos}
def tCmp (p:Int->Int->Bool)(ta tb:TE):TE:=λ σ H Q=>t2I ta tb (λi j H2=>Q (.bl (p i j)) H2) σ H
abbrev tLt:TE->TE->TE:=tCmp λi j=>decide (i<j)
def tB (t:TE):TT:=λ σ H Q=>t σ H λx H1=>∃c,x=.bl c/\Q c H1
theorem pt_val {e:Expr}{t:TE}(h:PE X e t)(he:∀whole,isTrue e X.env whole=(do let v ←whole;standAt e.pos;holding [v] (truthy v)):=by intro _;rfl):PT X e (tB t):=by
 intro pins s σ H Q I hw;refine isTrue_plain (thn (h pins s σ H _ I hw) λv s1 ⟨x,H1,I1,r1,q1⟩=>?_) (he _);obtain⟨d,rfl,q⟩:=q1;cases r1;exact wpAny_truthy_bool ⟨H1,I1,q⟩
variable {tA tB':TT} {rest:List Expr}
def tAnd (t u:TT):TT:=λ σ H Q=>t σ H λc H1=>if c=true then u σ H1 Q else Q false H1
def tOr (t u:TT):TT:=λ σ H Q=>t σ H λc H1=>if c=true then Q true H1 else u σ H1 Q
def tNot (t:TT):TT:=λ σ H Q=>t σ H λc H1=>Q (!c) H1
theorem pw_and1 (ha:PT X a tA):PW X (.BoolOp .And [a] pos) tA:=by
 intro wh pins s σ H Q I h;refine isTrue_and (thn (ha pins s σ H Q I h) λc s1 e=>?_)
 cases c with
 |true=>exact isTrue_and_nil e
 |false=>exact e
theorem pw_or1 (ha:PT X a tA):PW X (.BoolOp .Or [a] pos) tA:=by
 intro wh pins s σ H Q I h;refine isTrue_or (thn (ha pins s σ H Q I h) λc s1 e=>?_)
 cases c with
 |false=>exact isTrue_or_nil e
 |true=>exact e
theorem pw_and (ha:PT X a tA)(hb:PW X (.BoolOp .And (b::rest) pos) tB'):PW X (.BoolOp .And (a::b::rest) pos) (tAnd tA tB'):=by
 intro wh pins s σ H Q I h;refine isTrue_and (thn (ha pins s σ H _ I h) λc s1 ⟨H1,I1,q1⟩=>?_)
 cases c with
 |true=>exact hb wh pins s1 σ H1 Q I1 q1
 |false=>exact⟨H1,I1,q1⟩
theorem pw_or (ha:PT X a tA)(hb:PW X (.BoolOp .Or (b::rest) pos) tB'):PW X (.BoolOp .Or (a::b::rest) pos) (tOr tA tB'):=by
 intro wh pins s σ H Q I h;refine isTrue_or (thn (ha pins s σ H _ I h) λc s1 ⟨H1,I1,q1⟩=>?_)
 cases c with
 |true=>exact⟨H1,I1,q1⟩
 |false=>exact hb wh pins s1 σ H1 Q I1 q1
theorem pt_not (ha:PT X a tA):PT X (.UnaryOp .Not a pos) (tNot tA):=by
 intro pins s σ H Q I h;exact isTrue_not (ha pins s σ H (λc H1=>Q (!c) H1) I h)
def tAndV (ta tb:TE):TE:=λ σ H Q=>ta σ H λx H1=>∃c,x=.bl c/\if c=true then tb σ H1 Q else Q (.bl false) H1
def tNotV (ta:TE):TE:=λ σ H Q=>ta σ H λx H1=>∃c,x=.bl c/\Q (.bl (!c)) H1
theorem pe_one {op}{t:TE}(h:PE X a t):PE X (.BoolOp op [a] pos) t:=λpins s σ H Q I hw=>BoolOp_one (h pins s σ H Q I hw)
theorem pe_and (ha:PE X a ta)(hb:PE X (.BoolOp .And (b::rest) pos) tb):PE X (.BoolOp .And (a::b::rest) pos) (tAndV ta tb):=by
 intro pins s σ H Q I h;refine BoolOp_and (thn (ha pins s σ H _ I h) λv s1 ⟨x,H1,I1,r1,q1⟩=>?_);obtain⟨c,rfl,q1⟩:=q1;cases r1;refine wpAny_truthy_bool ?_
 cases c with
 |true=>exact hb pins s1 σ H1 Q I1 q1
 |false=>exact⟨.bl false,H1,I1,rfl,q1⟩
theorem pe_not (ha:PE X a ta):PE X (.UnaryOp .Not a pos) (tNotV ta):=by
 intro pins s σ H Q I h;refine UnaryOp_ (thn (ha pins s σ H _ I h) λv s1 ⟨x,H1,I1,r1,q1⟩=>?_);obtain⟨c,rfl,q1⟩:=q1;cases r1;exact not_of (wpAny_truthy_bool ⟨.bl (!c),H1,I1,rfl,q1⟩)
end
end L2
namespace L2
open PySem PySem.Spec PyProof.Rows
def SqL (K:PySem.W.Frag)(H:Hp)(a:Addr)(xs:List V):Prop:=
 Rd H a (.lst xs)\/
  ∃(o:Obj) (its:Array Value) (n:Nat),K.lookup a=some o/\o.cls=.type "list"/\o.dict=none/\o.data=.seq its n/\its.size<=sizeLine/\Vals xs its.toList
def SqT (K:PySem.W.Frag)(H:Hp)(a:Addr)(xs:List V):Prop:=
 Rd H a (.tup xs)\/
  ∃(o:Obj) (its:Array Value) (n:Nat),K.lookup a=some o/\o.cls=.type "tuple"/\o.data=.seq its n/\its.size<=sizeLine/\Vals xs its.toList
def absV:Value->Option V
 |.none=>some .non
 |.bool b=>some (.bl b)
 |.int i _=>some (.int i)
 |.str x _=>some (.str x)
 |.bytes b _=>some (.byt b)
 |.float b _=>some (.flt b)
 |.ref a=>some (.ref a)
 |.type n=>some (.ty n)
 |_=>none
theorem RelV.abs {x:V}{u:Value}(r:RelV x u):absV u=some x:=by
 cases x with
 |non=>cases r;rfl
 |bl _=>cases r;rfl
 |int _=>obtain⟨t,rfl⟩:=r;rfl
 |str _=>obtain⟨t,rfl⟩:=r;rfl
 |byt _=>obtain⟨t,rfl⟩:=r;rfl
 |flt _=>obtain⟨t,rfl⟩:=r;rfl
 |ref _=>cases r;rfl
 |ty _=>cases r;rfl
theorem RelV.inj {x y:V}{u:Value}(r:RelV x u)(q:RelV y u):x=y:=Option.some.inj (r.abs.symm.trans q.abs)
theorem Vals.inj:∀{xs ys:List V} {us:List Value},Vals xs us->Vals ys us->xs=ys
 |_,_,_,.nil,.nil=>rfl
 |_,_,_,.cons r t,.cons r' t'=>by rw[r.inj r',Vals.inj t t']
section
variable {X:Cx} {pins:List (Addr×Obj)} {σ:St} {H:Hp} {s:Shared} {a:Addr} {xs ys:List V}
theorem SqL.of {K:PySem.W.Frag}(h:H a=some (.lst xs)):SqL K H a xs:=.inl (.inl h)
theorem SqT.of {K:PySem.W.Frag}(h:H a=some (.tup xs)):SqT K H a xs:=.inl (.inl h)
theorem Inv.list (I:Inv X pins σ H s)(h:SqL X.K H a xs):∃its:List Value,Vals xs its/\PlainL s.heap a its.toArray/\xs.length<=sizeLine:=by
 rcases h with h|⟨o,its,n,hk,hc,hd,hs,hz,r⟩
 ·obtain⟨z,its,n,r,e⟩:=h.ok I.hok;exact⟨its,r,⟨_,n,e,rfl,rfl,rfl⟩,z⟩
 ·refine⟨its.toList,r,⟨o,n,I.kIn a o hk,hc,hd,by simpa using hs⟩,?_⟩;have e:=r.length;simp only[Array.length_toList]at e;omega
theorem Inv.tuple (I:Inv X pins σ H s)(h:SqT X.K H a xs):∃its:List Value,Vals xs its/\IsTup s.heap a its.toArray/\xs.length<=sizeLine:=by
 rcases h with h|⟨o,its,n,hk,hc,hs,hz,r⟩
 ·obtain⟨z,its,r,p⟩:=h.ok I.hok;exact⟨its,r,p,z⟩
 ·refine⟨its.toList,r,⟨o,I.kIn a o hk,hc,n,by simpa using hs⟩,?_⟩;have e:=r.length;simp only[Array.length_toList]at e;omega
theorem Inv.list_inj (I:Inv X pins σ H s)(h:SqL X.K H a xs)(h':SqL X.K H a ys):xs=ys:=by
 obtain⟨its,r,⟨o,n,e,_,_,d⟩,_⟩:=I.list h;obtain⟨its',r',⟨o',n',e',_,_,d'⟩,_⟩:=I.list h';rw[e]at e';cases e';rw[d]at d';injection d' with d1 _
 have:its=its':=by simpa using congrArg Array.toList d1
 subst this;exact r.inj r'
theorem Inv.tuple_inj (I:Inv X pins σ H s)(h:SqT X.K H a xs)(h':SqT X.K H a ys):xs=ys:=by
 obtain⟨its,r,⟨o,e,_,n,d⟩,_⟩:=I.tuple h;obtain⟨its',r',⟨o',e',_,n',d'⟩,_⟩:=I.tuple h';rw[e]at e';cases e';rw[d]at d';injection d' with d1 _
 have:its=its':=by simpa using congrArg Array.toList d1
 subst this;exact r.inj r'
end
abbrev Cx.wish (X:Cx) (E:Value->Shared->Prop):Cx:={ X with xe:=E }
abbrev Cx.nox (X:Cx):Cx:=X.wish λ_ _=>False
theorem Cx.Ok.wish {X:Cx}(ok:X.Ok)(E:Value->Shared->Prop):(X.wish E).Ok:=
 ⟨ok.mod,ok.kind,ok.glob,ok.blt,ok.above,ok.inj,ok.has,ok.cab,ok.hd,ok.frames,ok.stk,ok.exf,ok.bs,ok.bsz,ok.noex,ok.exfs,ok.funs,ok.frf⟩
theorem Cx.Ok.unwish {X:Cx}{E:Value->Shared->Prop}(ok:(X.wish E).Ok):X.Ok:=
 ⟨ok.mod,ok.kind,ok.glob,ok.blt,ok.above,ok.inj,ok.has,ok.cab,ok.hd,ok.frames,ok.stk,ok.exf,ok.bs,ok.bsz,ok.noex,ok.exfs,ok.funs,ok.frf⟩
section
variable {X:Cx} {pins:List (Addr×Obj)} {σ:St} {H:Hp} {s:Shared} {E:Value->Shared->Prop}
theorem Inv.wish (I:Inv X pins σ H s)(E:Value->Shared->Prop):Inv (X.wish E) pins σ H s:=⟨I.ok.wish E,I.os,I.bare,I.base,I.loc,I.cell,I.free,I.freeC,I.pin,I.hok,I.len⟩
theorem Inv.unwish (I:Inv (X.wish E) pins σ H s):Inv X pins σ H s:=⟨I.ok.unwish,I.os,I.bare,I.base,I.loc,I.cell,I.free,I.freeC,I.pin,I.hok,I.len⟩
theorem SP.unwish {D:Ends}{f:Flow}{s':Shared}(h:SP (X.wish E) pins D f s'):SP X pins D f s':=by
 cases f with
 |next=>obtain⟨σ',H',I,q⟩:=h;exact⟨σ',H',I.unwish,q⟩
 |brk=>obtain⟨σ',H',I,q⟩:=h;exact⟨σ',H',I.unwish,q⟩
 |cont=>obtain⟨σ',H',I,q⟩:=h;exact⟨σ',H',I.unwish,q⟩
 |ret u=>obtain⟨v,σ',H',I,r,q⟩:=h;exact⟨v,σ',H',I.unwish,r,q⟩
theorem PSs.nox {st:List Stmt}{t:TS}(h:PSs X.nox st t):PSs X st t:=λpins s σ H D I hw=>
 wpAny_mono (h pins s σ H D (I.wish _) hw) (λ_ _ q=>q.unwish) λ_ _ z=>False.elim z
end
section
variable {X:Cx} {st:Stmt} {rest:List Stmt} {t u:TS} {e:Expr} {te:TE} {pos:Pos}
def tNext:TS:=λD σ H=>D.nx σ H
def tSeq (t u:TS):TS:=λD σ H=>t { D with nx:=u D } σ H
theorem pss_nil:PSs X [] tNext:=λ_ _ σ H _ I h=>wpAny_execs_nil ⟨σ,H,I,h⟩
theorem pss_cons (h1:PS X st t)(h2:PSs X rest u):PSs X (st::rest) (tSeq t u):=by
 intro pins s σ H D I h;refine wpAny_execs_cons (thn (h1 pins s σ H { D with nx:=u D } I h) λf s1 q=>?_)
 cases f with
 |next=>
  obtain⟨σ',H',I',q⟩:=q;exact h2 pins s1 σ' H' D I' q
 |ret v=>exact q
 |brk=>exact q
 |cont=>exact q
theorem pss_one (h1:PS X st t):PSs X [st] t:=by
 intro pins s σ H D I h;refine wpAny_execs_cons (thn (h1 pins s σ H D I h) λf s1 q=>?_)
 cases f with
 |next=>exact wpAny_execs_nil q
 |ret v=>exact q
 |brk=>exact q
 |cont=>exact q
theorem Inv.quiet {pins:List (Addr×Obj)}{σ:St}{H:Hp}{s:Shared}(I:Inv X pins σ H s):interactive X.env=false:=by simp[interactive,I.ok.kind]
def tDrop (te:TE):TS:=λD σ H=>te σ H λ_ H1=>D.nx σ H1
theorem ps_expr (he:PE X e te)(hs:swapsWith e none pos.line X.env=pure false:=by rfl):PS X (.Expr e pos) (tDrop te):=by
 intro pins s σ H D I h;exact wpAny_Expr_any (thn (he pins s σ H _ I h) λv s1 ⟨x,H1,I1,r1,q1⟩=>⟨σ,H1,I1,q1⟩) I.quiet hs
def tRet (te:TE):TS:=λD σ H=>te σ H D.rt
theorem ps_ret (he:PE X e te):PS X (.Return (some e) pos) (tRet te):=by
 intro pins s σ H D I h;exact wpAny_Return_some (thn (he pins s σ H _ I h) λv s1 ⟨x,H1,I1,r1,q1⟩=>⟨x,σ,H1,I1,r1,q1⟩)
def tIfS (c:TT)(t u:TS):TS:=λD σ H=>c σ H λb H1=>if b=true then t D σ H1 else u D σ H1
theorem ps_if {c:Expr}{a b:List Stmt}{tc:TT}(hc:PT X c tc)(ha:PSs X a t)(hb:PSs X b u):PS X (.If c a b pos) (tIfS tc t u):=by
 intro pins s σ H D I h;refine wpAny_If (thn (hc pins s σ H _ I h) λd s1 ⟨H1,I1,q1⟩=>?_)
 cases d with
 |true=>exact ha pins s1 σ H1 D I1 q1
 |false=>exact hb pins s1 σ H1 D I1 q1
end
abbrev TG:=V->St->Hp->(St->Hp->Prop)->Prop
abbrev TGs:=List V->St->Hp->(St->Hp->Prop)->Prop
def PG (X:Cx)(target:Expr)(t:TG):Prop:=
 ∀(pins:List (Addr×Obj)) (s:Shared) (σ:St) (H:Hp) (v:V) (u:Value) (Q:St->Hp->Prop),Inv X pins σ H s->RelV v u->t v σ H Q->
  wpAny (model X.prog X.w) X.A (assign target X.env u) (λ_ s'=>∃ σ' H',Inv X pins σ' H' s'/\Q σ' H') X.xe s
def PGs (X:Cx)(ts:List Expr)(t:TGs):Prop:=
 ∀(pins:List (Addr×Obj)) (s:Shared) (σ:St) (H:Hp) (vs:List V) (us:List Value) (Q:St->Hp->Prop),Inv X pins σ H s->Vals vs us->t vs σ H Q->
  wpAny (model X.prog X.w) X.A (assignInOrder ((assignEach ts X.env).map (·.2)) us) (λ_ s'=>∃ σ' H',Inv X pins σ' H' s'/\Q σ' H') X.xe s
abbrev TSet:=V->V->V->Hp->(Hp->Prop)->Prop
def PSet (X:Cx)(t:TSet):Prop:=
 ∀(pins:List (Addr×Obj)) (s:Shared) (σ:St) (H:Hp) (o i v:V) (ov iv u:Value) (Q:Hp->Prop),Inv X pins σ H s->RelV o ov->RelV i iv->RelV v u->t o i v H Q->
  wpAny (model X.prog X.w) X.A (setItem ov iv u) (λ_ s'=>∃H',Inv X pins σ H' s'/\Q H') X.xe s
section
variable {X:Cx} {pos:Pos}
def gName (i:Nat):TG:=λv σ H Q=>Q (σ.set i (some v)) H
theorem pg_name {i:Nat}{x:Str}(hN:X.N.Nodup)(hi:X.N[i]?=some x)(hx:Loc X.env.scope x)(hf:X.fn x=true\/X.env.scope.names.lookup x=some .local:=by first|exact .inl rfl|exact .inr rfl|assumption):PG X (.Name x pos) (gName i):=by
 intro pins s σ H v u Q I r h;exact wpAny_assign_Name (store_ok I hN hi hx r (λs' I'=>⟨_,H,I',h⟩) hf)
def gNil:TGs:=λvs σ H Q=>vs=[]/\Q σ H
def gCons (t:TG)(u:TGs):TGs:=λvs σ H Q=>∃v r,vs=v::r/\t v σ H λ σ' H'=>u r σ' H' Q
theorem pgs_nil:PGs X [] gNil:=by
 intro pins s σ H vs us Q I r h;obtain⟨e,h⟩:=h;subst e;cases r;exact assignInOrder_nil ⟨σ,H,I,h⟩
theorem pgs_cons {e:Expr}{es:List Expr}{t:TG}{u:TGs}(h1:PG X e t)(h2:PGs X es u)
 (hs:(assignEach (e::es) X.env).map (·.2)=assign e X.env::(assignEach es X.env).map (·.2):=by rfl):PGs X (e::es) (gCons t u):=by
 intro pins s σ H vs us Q I r h;obtain⟨v,vr,e1,h⟩:=h;subst e1
 cases r with
 |cons r rr=>
  rw[hs];refine assignInOrder_cons (thn (h1 pins s σ H _ _ _ I r h) λ_ s1 ⟨σ1,H1,I1,q1⟩=>?_);exact h2 pins s1 σ1 H1 _ _ Q I1 rr q1
def gTup (K:PySem.W.Frag)(n:Nat)(t:TGs):TG:=λv σ H Q=>∃a xs,v=.ref a/\SqT K H a xs/\xs.length=n/\t xs σ H Q
theorem pg_tup {es:List Expr}{k:Nat}{t:TGs}{n:Nat}(hc:X.calm=true)(h:PGs X es t)
 (hn:(assignEach es X.env).length=n:=by rfl) (hst:(assignEach es X.env).findIdx? (·.1)=none:=by rfl):PG X (.Tuple es k pos) (gTup X.K n t):=by
 intro pins s σ H v u Q I r hw;obtain⟨a,xs,e1,hq,hl,hw⟩:=hw;subst e1;cases r;obtain⟨its,rv,ht,hz⟩:=I.tuple hq;refine assign_Tuple_tuple (I.ok.hd hc) ht (by simp[hn,←hl,rv.length]) hst λh' hx=>?_
 have I1:Inv X pins σ H { s with heap:=h' }:=I.kept (t':=s.toks) λb o e=>hx b o (Nat.ne_of_lt (Heap.lt_size e)) e
 exact h pins _ σ H xs _ Q I1 (by simpa using rv) hw
def gSub (to ti:TE)(t:TSet):TG:=λv σ H Q=>to σ H λo H1=>ti σ H1 λi H2=>t o i v H2 λH3=>Q σ H3
theorem pg_sub {o i:Expr}{to ti:TE}{t:TSet}(ho:PE X o to)(hi:PE X i ti)(hs:PSet X t)
 (ha:∀v,assign (.Subscript o i pos) X.env v=(do
  let ov ←holding [v] (eval o X.env)
  let iv ←holding [v,ov] (eval i X.env)
  standAt pos
  holding [v,ov,iv] (setItem ov iv v)
  release [v,ov,iv] []):=by intro _;rfl):PG X (.Subscript o i pos) (gSub to ti t):=by
 intro pins s σ H v u Q I r h;rw[ha];refine wpAny_bind (wpAny_holding (thn (ho pins s σ H _ I h) λov s1 ⟨x,H1,I1,r1,q1⟩=>?_));refine wpAny_bind (wpAny_holding (thn (hi pins s1 σ H1 _ I1 q1) λiv s2 ⟨y,H2,I2,r2,q2⟩=>?_));refine wpAny_bind (wpAny_standAt (wpAny_bind (wpAny_holding (thn (hs pins s2 σ H2 x y v ov iv u _ I2 r1 r2 r q2) λ_ s3 ⟨H3,I3,q3⟩=>?_))));exact wpAny_release ⟨σ,H3,I3,q3⟩
def tAsg (te:TE)(g:TG):TS:=λD σ H=>te σ H λx H1=>g x σ H1 D.nx
theorem ps_asg {tg e:Expr}{te:TE}{g:TG}(he:PE X e te)(hg:PG X tg g)(hs:swapsWithSole [tg] e pos.line X.env=pure false:=by rfl)(hw:swappedStores [tg] e X.env=pure none:=by rfl)
 (h1:(assignEach [tg] X.env).map (·.2)=[assign tg X.env]:=by rfl):PS X (.Assign [tg] e pos) (tAsg te g):=by
 intro pins s σ H D I h;refine wpAny_Assign_stores (thn (he pins s σ H _ I h) λv s1 ⟨x,H1,I1,r1,q1⟩=>?_) hs hw;rw[h1];exact thn (hg pins s1 σ H1 x v _ I1 r1 q1) λ_ s2 q=>q
theorem ps_set {i:Nat}{x:Str}{e:Expr}{te:TE}{pos':Pos}(hN:X.N.Nodup)(hi:X.N[i]?=some x)(hx:Loc X.env.scope x)(he:PE X e te)(hs:swapsWith e (some (.Name x pos')) pos.line X.env=pure false:=by rfl)(hf:X.fn x=true\/X.env.scope.names.lookup x=some .local:=by first|exact .inl rfl|exact .inr rfl|assumption):
 PS X (.Assign [.Name x pos'] e pos) (tAsg te (gName i)):=by
 intro pins s σ H D I h;refine wpAny_Assign_Name (thn (he pins s σ H _ I h) λv s1 ⟨y,H1,I1,r1,q1⟩=>?_) hs;exact store_ok I1 hN hi hx r1 (λs2 I2=>⟨_,H1,I2,q1⟩) hf
end
section
variable {X:Cx} {pos:Pos}
def tWhile (c:TT)(tb:TS):TS:=λD σ H=>∃W:Nat->St->Hp->Prop,(∃m,W m σ H)/\∀m σ H,W m σ H->
 c σ H λb H1=>if b=true then ∃N:St->Hp->Prop,(∀ σ' H',N σ' H'->∃m',m'<m/\W m' σ' H')/\tb { D with nx:=N,ct:=N,bk:=D.nx } σ H1 else D.nx σ H1
theorem ps_while {c:Expr}{body:List Stmt}{tc:TT}{tb:TS}(hp:PassesOwn (model X.prog X.w) X.A X.env X.xe)(hc:PT X c tc)(hb:PSs X body tb):PS X (.While c body [] pos) (tWhile tc tb):=by
 intro pins s σ H D I h;obtain⟨W,⟨m0,w0⟩,turn⟩:=h;refine wpAny_While (codeAny_whileLoop (λn s'=>∃ σ' H',Inv X pins σ' H' s'/\W n σ' H') ?_ m0 ⟨σ,H,I,w0⟩);rintro n s1 ⟨σ1,H1,I1,w1⟩;refine wpAny_passesOwn hp (thn (hc pins s1 σ1 H1 _ I1 (turn n σ1 H1 w1)) λb s2 ⟨H2,I2,q2⟩=>?_)
 cases b with
 |true=>
  obtain⟨N,hN,q2⟩:=q2;rw[if_pos rfl];refine wpAny_passesOwn hp (thn (hb pins s2 σ1 H2 _ I2 q2) λf s3 q3=>?_)
  cases f with
  |next=>
   obtain⟨σ3,H3,I3,n3⟩:=q3;obtain⟨m',hm,w3⟩:=hN σ3 H3 n3;exact⟨m',hm,σ3,H3,I3,w3⟩
  |cont=>
   obtain⟨σ3,H3,I3,n3⟩:=q3;obtain⟨m',hm,w3⟩:=hN σ3 H3 n3;exact⟨m',hm,σ3,H3,I3,w3⟩
  |brk=>exact q3
  |ret v=>exact q3
 |false=>
  rw[if_neg Bool.false_ne_true];exact wpAny_execs_nil ⟨σ1,H2,I2,q2⟩
end
structure It where
 go:Nat->Hp->Prop
 yld:Nat->Hp->V->Hp->Prop
 stop:Nat->Hp->Prop
def FpOk (X:Cx)(pins:List (Addr×Obj))(H:Hp)(b:Addr):Prop:=
 H b=none/\b≠X.env.locals/\b∉X.fs/\(b∈X.ex\/X.s₀.heap.objs.size<=b)/\(∀x c,X.env.cells.lookup x=some c->c≠b)/\∀p∈X.pn++pins,p.1≠b
theorem Inv.fpOk {X:Cx}{pins:List (Addr×Obj)}{σ:St}{H H':Hp}{s:Shared}{b:Addr}(I:Inv X pins σ H s)(hb:s.heap.objs.size<=b)(hn:H' b=none):FpOk X pins H' b:=by
 refine⟨hn,Nat.ne_of_gt (Nat.lt_of_lt_of_le I.lt hb),I.nofs hb,.inr (Nat.le_trans I.sz hb),λx c e z=>?_,λp hp z=>?_⟩
 ·obtain⟨v,q⟩:=I.cell x c e;exact absurd (Nat.lt_of_lt_of_le q.lt (by rw[z];exact hb)) (Nat.lt_irrefl _)
 ·exact absurd (Nat.lt_of_lt_of_le (Heap.lt_size (I.pin p hp).1) (by rw[z];exact hb)) (Nat.lt_irrefl _)
structure Turn (P:Program) (w:World) (K:PySem.W.Frag) (tg:Expr) (J:It) (fp:List Addr) (it:Addr) (tn:Nat->Heap->Prop):Prop where
 mem:it∈fp
 obj:∀i h,tn i h->∀b∈fp,∃o,h.get? b=some o/\∀v,o.data≠.cell v
 keep:∀i h h',tn i h->(∀b∈fp,∀o,h.get? b=some o->h'.get? b=some o)->tn i h'
 item:∀(X:Cx),X.prog=P->X.w=w->X.K=K->X.calm=true->∀(i:Nat) (pins:List (Addr×Obj)) (s:Shared) (σ:St) (H:Hp) (E:Value->Shared->Prop),Inv X pins σ H s->(∀b∈fp,FpOk X pins H b)->tn i s.heap->J.go i H->
  wpAny (model P w) X.A (pyNext (.ref it)) (λr s1=>∃u,r=some u/\
   wpAny (model P w) X.A (letOwnedTupleGo tg (.ref it) u) (λ_ s2=>∃x H',Inv X pins σ H' s2/\RelV x u/\J.yld i H x H'/\tn (i+ 1) s2.heap/\∀b∈fp,H' b=none) E s1) E s
 done:∀(X:Cx),X.prog=P->X.w=w->X.K=K->X.calm=true->∀(i:Nat) (pins:List (Addr×Obj)) (s:Shared) (σ:St) (H:Hp) (E:Value->Shared->Prop),Inv X pins σ H s->(∀b∈fp,FpOk X pins H b)->tn i s.heap->J.stop i H->
  wpAny (model P w) X.A (pyNext (.ref it)) (λr s1=>r=none/\Inv X pins σ H s1) E s
 self:∀(A:Around) (i:Nat) (s:Shared) (Q:Value->Shared->Prop) (E:Value->Shared->Prop),tn i s.heap->Q (.ref it) s->wpAny (model P w) A (pyIter (.ref it)) Q E s
abbrev TI:=St->Hp->(It->Hp->Prop)->Prop
def PIE (X:Cx)(pins:List (Addr×Obj))(σ:St)(tg:Expr)(R:It->Hp->Prop)(itv:Value)(s2:Shared):Prop:=
 ∃(it:Addr) (fp:List Addr) (tn:Nat->Heap->Prop) (J:It) (H':Hp),itv=.ref it/\Inv X pins σ H' s2/\Turn X.prog X.w X.K tg J fp it tn/\tn 0 s2.heap/\(∀b∈fp,FpOk X pins H' b)/\R J H'
def PI (X:Cx)(tg iter:Expr)(wi:TI):Prop:=
 ∀(pins:List (Addr×Obj)) (s:Shared) (σ:St) (H:Hp) (R:It->Hp->Prop),Inv X pins σ H s->wi σ H R->
  wpAny (model X.prog X.w) X.A (eval iter X.env) (λv s1=>wpAny (model X.prog X.w) X.A (pyIter v) (PIE X pins σ tg R) X.xe s1) X.xe s
theorem go_of {M:Model}{A:Around}{E:Value->Shared->Prop}{s:Shared}{tg:Expr}{it:Addr}{u:Value}{o:Obj}{n:String}{vs:Array Value}{Q:Unit->Shared->Prop}(ho:s.heap.get? it=some o)(hc:o.cls=.type n)(hd:o.data=.fields vs)
 (hn:["enumerate","zip","dict_itemiterator","dict_reverseitemiterator","odict_iterator","itertools.zip_longest","itertools.pairwise"].contains n=false) (hQ:Q () s):wpAny M A (letOwnedTupleGo tg (.ref it) u) Q E s:=by
 unfold letOwnedTupleGo
 cases tg <;> first
  |exact wpAny_pure hQ
  |(cases u <;> first
   |exact wpAny_pure hQ
   |(refine wpAny_bind (wpAny_load ho ?_)
     rw[hc,hd];show wpAny M A (if (["enumerate","zip","dict_itemiterator","dict_reverseitemiterator","odict_iterator","itertools.zip_longest","itertools.pairwise"].contains n && vs[0]?==some (rawInt _))=true then _ else _) Q E s;rw[if_neg (by intro h;rw[hn,Bool.false_and]at h;cases h)];exact wpAny_pure hQ))
def Itl (K:PySem.W.Frag)(a:Addr):It:=
 ⟨λi H=>∃xs x,SqL K H a xs/\xs[i]?=some x,λi H x H'=>H'=H/\∀xs,SqL K H a xs->xs[i]?=some x,λi H=>∃xs,SqL K H a xs/\xs.length<=i⟩
def Itt (K:PySem.W.Frag)(a:Addr):It:=
 ⟨λi H=>∃xs x,SqT K H a xs/\xs[i]?=some x,λi H x H'=>H'=H/\∀xs,SqT K H a xs->xs[i]?=some x,λi H=>∃xs,SqT K H a xs/\xs.length<=i⟩
def Itr (lo:Int)(n:Nat):It:=⟨λi _=>i<n,λi H x H'=>H'=H/\x=.int (lo+ i),λi _=>n<=i⟩
theorem turn_list {P:Program}{w:World}{K:PySem.W.Frag}{tg:Expr}(a it:Addr):Turn P w K tg (Itl K a) [it] it (λi h=>h.IsListIter it a i) where
 mem:=by simp
 obj:=λi h st b hb=>by
  have e:b=it:=by simpa using hb
  subst e;obtain⟨o,e,c,d⟩:=st;exact⟨o,e,λv z=>by rw[d]at z;cases z⟩
 keep:=λi h h' st k=>st.at λo e=>k it (by simp) o e
 item:=by
  intro X hP hw hK hc i pins s σ H E I hf st hg;subst hP hw hK;obtain⟨xs,x,hq,hx⟩:=hg;obtain⟨its,rv,p,hz⟩:=I.list hq;obtain⟨u,hu,ru⟩:=rv.get hx;obtain⟨f0,f1,f2,f3,f4,f5⟩:=hf it (by simp);refine wpAny_pyNext_list_item st p.isList (x:=u) (by simpa using hu) λh' st' sb=>?_
  have I1:Inv X pins σ H { s with heap:=h' }:=I.turned (t':=s.toks) (λb o hb e=>(sb.2 b hb).trans e) f0 f1 f3 f4 f5;obtain⟨o,e,c,d⟩:=id st';exact⟨u,rfl,go_of (s:={ s with heap:=h' }) e c d (by decide) ⟨x,H,I1,ru,⟨rfl,λys hy=>by rw[I.list_inj hy hq];exact hx⟩,st',λb hb=>(hf b hb).1⟩⟩
 done:=by
  intro X hP hw hK hc i pins s σ H E I hf st hg;subst hP hw hK;obtain⟨xs,hq,hx⟩:=hg;obtain⟨its,rv,p,hz⟩:=I.list hq;obtain⟨f0,f1,f2,f3,f4,f5⟩:=hf it (by simp);have hl:=rv.length;exact wpAny_pyNext_list_end (I.ok.hd hc) st p.isList (by simp;omega) λh' eb=>⟨rfl,I.turned (t':=s.toks) (λb o hb e=>eb b o hb e) f0 f1 f3 f4 f5⟩
 self:=λ_ _ _ _ _ st h=>wpAny_pyIter_listiter st h
theorem turn_tuple {P:Program}{w:World}{K:PySem.W.Frag}{tg:Expr}(a it:Addr):Turn P w K tg (Itt K a) [it] it (λi h=>h.IsTupleIter it a i) where
 mem:=by simp
 obj:=λi h st b hb=>by
  have e:b=it:=by simpa using hb
  subst e;obtain⟨o,e,c,d⟩:=st;exact⟨o,e,λv z=>by rw[d]at z;cases z⟩
 keep:=λi h h' st k=>st.at λo e=>k it (by simp) o e
 item:=by
  intro X hP hw hK hc i pins s σ H E I hf st hg;subst hP hw hK;obtain⟨xs,x,hq,hx⟩:=hg;obtain⟨its,rv,p,hz⟩:=I.tuple hq;obtain⟨u,hu,ru⟩:=rv.get hx;obtain⟨f0,f1,f2,f3,f4,f5⟩:=hf it (by simp);refine wpAny_pyNext_tuple_item st (show s.heap.IsTuple a its.toArray from p) (x:=u) (by simpa using hu) λh' st' sb=>?_
  have I1:Inv X pins σ H { s with heap:=h' }:=I.turned (t':=s.toks) (λb o hb e=>(sb.2 b hb).trans e) f0 f1 f3 f4 f5;obtain⟨o,e,c,d⟩:=id st';exact⟨u,rfl,go_of (s:={ s with heap:=h' }) e c d (by decide) ⟨x,H,I1,ru,⟨rfl,λys hy=>by rw[I.tuple_inj hy hq];exact hx⟩,st',λb hb=>(hf b hb).1⟩⟩
 done:=by
  intro X hP hw hK hc i pins s σ H E I hf st hg;subst hP hw hK;obtain⟨xs,hq,hx⟩:=hg;obtain⟨its,rv,p,hz⟩:=I.tuple hq;obtain⟨f0,f1,f2,f3,f4,f5⟩:=hf it (by simp);have hl:=rv.length;exact wpAny_pyNext_tuple_end (I.ok.hd hc) st (show s.heap.IsTuple a its.toArray from p) (by simp;omega) λh' eb=>⟨rfl,I.turned (t':=s.toks) (λb o hb e=>eb b o hb e) f0 f1 f3 f4 f5⟩
 self:=λ_ _ _ _ _ st h=>wpAny_pyIter_tupleiter st h
theorem turn_range {P:Program}{w:World}{K:PySem.W.Frag}{tg:Expr}(it:Addr)(lo:Int)(n:Nat):Turn P w K tg (Itr lo n) [it] it (λi h=>IsRangeIter h it (lo+ (i:Nat)* 1) ((n:Int) - (i:Nat)) 1) where
 mem:=by simp
 obj:=λi h st b hb=>by
  have e:b=it:=by simpa using hb
  subst e
  exact⟨_,st,λv z=>by
   have z':Data.fields _=Data.cell v:=z;cases z'⟩
 keep:=λi h h' st k=>k it (by simp) _ st
 item:=by
  intro X hP hw hK hc i pins s σ H E I hf st hg;subst hP hw hK;obtain⟨f0,f1,f2,f3,f4,f5⟩:=hf it (by simp);have W:=Walks.range (prog:=X.prog) (w:=X.w) (I.ok.hd hc) it lo 1 n;refine W.item i s _ _ hg st λv h' tk hv st' kk=>?_
  obtain⟨t,rfl⟩:=hv;have I1:Inv X pins σ H { s with heap:=h',toks:=tk }:=I.turned (λb o hb e=>kk b o (by simpa using hb) e) f0 f1 f3 f4 f5;refine⟨_,rfl,go_of (s:={ s with heap:=h',toks:=tk }) (n:="range_iterator") st' rfl rfl (by decide) ⟨.int (lo+ i),H,I1,⟨t,?_⟩,⟨rfl,rfl⟩,st',λb hb=>(hf b hb).1⟩⟩;rw[Int.mul_one]
 done:=by
  intro X hP hw hK hc i pins s σ H E I hf st hg;subst hP hw hK;obtain⟨f0,f1,f2,f3,f4,f5⟩:=hf it (by simp);exact wpAny_pyNext_range_end (I.ok.hd hc) st (by have:n<=i:=hg;omega) λh' eb=>⟨rfl,I.turned (t':=s.toks) (λb o hb e=>eb b o hb e) f0 f1 f3 f4 f5⟩
 self:=λ_ _ _ _ _ st h=>wpAny_pyIter_rangeiter st h
end L2
namespace L2
open PySem PySem.Spec PyProof.Rows
section
variable {X:Cx} {tg:Expr}
def iList (K:PySem.W.Frag)(tl:TE):TI:=λ σ H R=>tl σ H λx H1=>∃a,x=.ref a/\(∃xs,SqL K H1 a xs)/\R (Itl K a) H1
def iTup (K:PySem.W.Frag)(tl:TE):TI:=λ σ H R=>tl σ H λx H1=>∃a,x=.ref a/\(∃xs,SqT K H1 a xs)/\R (Itt K a) H1
theorem pi_list {l:Expr}{tl:TE}(hl:PE X l tl):PI X tg l (iList X.K tl):=by
 intro pins s σ H R I h;refine thn (hl pins s σ H _ I h) λv s1 ⟨x,H1,I1,r1,q1⟩=>?_
 obtain⟨a,e,⟨xs,hq⟩,q⟩:=q1;subst e;cases r1;obtain⟨its,rv,p,hz⟩:=I1.list hq;refine wpAny_pyIter_list p.isList ?_;refine⟨s1.heap.objs.size,[s1.heap.objs.size],_,_,H1,rfl,I1.kept (t':=s1.toks) λb o e=>Heap.get?_push_of_some _ e,turn_list a _,⟨_,Heap.get?_push_size _ rfl,rfl,rfl⟩,λb hb=>?_,q⟩;have e:b=s1.heap.objs.size:=by simpa using hb
 subst e;exact I1.fpOk (Nat.le_refl _) (I1.hok.fresh (Nat.le_refl _))
theorem pi_tup {l:Expr}{tl:TE}(hl:PE X l tl):PI X tg l (iTup X.K tl):=by
 intro pins s σ H R I h;refine thn (hl pins s σ H _ I h) λv s1 ⟨x,H1,I1,r1,q1⟩=>?_
 obtain⟨a,e,⟨xs,hq⟩,q⟩:=q1;subst e;cases r1;obtain⟨its,rv,p,hz⟩:=I1.tuple hq;refine wpAny_pyIter_tuple (show s1.heap.IsTuple a its.toArray from p) ?_;refine⟨s1.heap.objs.size,[s1.heap.objs.size],_,_,H1,rfl,I1.kept (t':=s1.toks) λb o e=>Heap.get?_push_of_some _ e,turn_tuple a _,⟨_,Heap.get?_push_size _ rfl,rfl,rfl⟩,λb hb=>?_,q⟩;have e:b=s1.heap.objs.size:=by simpa using hb
 subst e;exact I1.fpOk (Nat.le_refl _) (I1.hok.fresh (Nat.le_refl _))
theorem range_it {pins:List (Addr×Obj)}{σ:St}{H:Hp}{s:Shared}{R:It->Hp->Prop}{E:Value->Shared->Prop}{lo hi:Int}{t u v:Tok}{tk:Nat}(I:Inv X pins σ H s)(h1: -(2 ^ 62)<=lo)(h2:lo<2 ^ 62)(h3: -(2 ^ 62)<=hi)(h4:hi<2 ^ 62)
 (q:R (Itr lo (hi - lo).toNat) H):wpAny (model X.prog X.w) X.A (pyIter (.ref s.heap.objs.size)) (PIE X pins σ tg R) E { s with heap:=s.heap.push { cls:=.type "range",data:=.fields #[.int lo t,.int hi u,.int 1 v] },toks:=tk }:=by
 refine wpAny_pyIter_range (IsRange.new ..) (small_one h1 h2 h3 h4) ?_;have I1:Inv X pins σ H { s with heap:=s.heap.push { cls:=.type "range",data:=.fields #[.int lo t,.int hi u,.int 1 v] },toks:=tk }:=I.kept λb o e=>Heap.get?_push_of_some _ e
 refine⟨(s.heap.push { cls:=.type "range",data:=.fields #[.int lo t,.int hi u,.int 1 v] }).objs.size,[(s.heap.push { cls:=.type "range",data:=.fields #[.int lo t,.int hi u,.int 1 v] }).objs.size],_,_,H,rfl,
  I1.kept (t':=tk) λb o e=>Heap.get?_push_of_some _ e,turn_range _ lo (hi - lo).toNat,?_,λb hb=>?_,q⟩
 ·have e1:lo+ ((0:Nat):Int)* 1=lo:=by simp
  have e2:(((hi - lo).toNat:Nat):Int) - ((0:Nat):Int)=Builtin.Range.rangeSize lo hi 1:=by rw[rangeSize_one];split <;> omega
  show IsRangeIter _ _ (lo+ ((0:Nat):Int)* 1) ((((hi - lo).toNat:Nat):Int) - ((0:Nat):Int)) 1;rw[e1,e2];exact Heap.get?_push_size _ rfl
 ·have e:b=(s.heap.push { cls:=.type "range",data:=.fields #[.int lo t,.int hi u,.int 1 v] }).objs.size:=by simpa using hb
  subst e;exact I1.fpOk (Nat.le_refl _) (I1.hok.fresh (Nat.le_refl _))
def iRng1 (ta:TA):TI:=λ σ H R=>ta σ H λvs H1=>∃j:Int,vs=[.int j]/\-(2 ^ 62)<=j/\j<2 ^ 62/\R (Itr 0 j.toNat) H1
def iRng2 (ta:TA):TI:=λ σ H R=>ta σ H λvs H1=>∃i j:Int,vs=[.int i,.int j]/\(-(2 ^ 62)<=i/\i<2 ^ 62/\-(2 ^ 62)<=j/\j<2 ^ 62)/\R (Itr i (j - i).toNat) H1
theorem pi_range1 {a:Expr}{ta:TA}{p pos:Pos}(hg:Gl X "range")(hm:X.mg "range"=none)(ha:PA X [a] ta)(hs:starEach [a] X.env=[(false,eval a X.env)]:=by rfl):PI X tg (.Call (.Name "range" p) [a] [] pos) (iRng1 ta):=by
 intro pins s σ H R I h;refine Call_ (ld_blt I hg hm boot_range (PyProof.Rows.callWith_type1 (thn (ha pos pins s σ H _ I h) λus s1 ⟨vs,H1,I1,r1,q1⟩=>?_) hs rfl));obtain⟨j,e,q1,q2,q⟩:=q1;subst e
 cases r1 with
 |cons r rr=>
  cases rr;obtain⟨t,rfl⟩:=r;exact call_range_1 (range_it I1 (by omega) (by omega) q1 q2 (by simpa using q))
theorem pi_range2 {a b:Expr}{ta:TA}{p pos:Pos}(hg:Gl X "range")(hm:X.mg "range"=none)(ha:PA X [a,b] ta)(hs:starEach [a,b] X.env=[(false,eval a X.env),(false,eval b X.env)]:=by rfl)(hs2:starEach [b] X.env=[(false,eval b X.env)]:=by rfl):
 PI X tg (.Call (.Name "range" p) [a,b] [] pos) (iRng2 ta):=by
 intro pins s σ H R I h;refine Call_ (ld_blt I hg hm boot_range (PyProof.Rows.callWith_type1 (thn (ha pos pins s σ H _ I h) λus s1 ⟨vs,H1,I1,r1,q1⟩=>?_) (by rw[hs,hs2]) (by rw[hs2];rfl)));obtain⟨i,j,e,⟨q1,q2,q3,q4⟩,q⟩:=q1;subst e
 cases r1 with
 |cons r rr=>
  cases rr with
  |cons r' rr=>
   cases rr;obtain⟨t,rfl⟩:=r;obtain⟨t',rfl⟩:=r';exact call_range_2 (range_it I1 q1 q2 q3 q4 q)
def tFor (wi:TI)(g:TG)(tb:TS):TS:=λD σ H=>wi σ H λJ H1=>∃W:Nat->Nat->St->Hp->Prop,(∃m,W 0 m σ H1)/\∀i m σ H,W i m σ H->
 (J.stop i H/\D.nx σ H)\/(J.go i H/\∃N:St->Hp->Prop,(∀ σ' H',N σ' H'->∃m',m'<m/\W (i+ 1) m' σ' H')/\∀x H',J.yld i H x H'->g x σ H' λ σ2 H2=>tb { D with nx:=N,ct:=N,bk:=D.nx } σ2 H2)
def pinsAt (fp:List Addr)(h:Heap):List (Addr×Obj):=fp.filterMap λb=>(h.get? b).map λo=>(b,o)
theorem mem_pinsAt {fp:List Addr}{h:Heap}{b:Addr}{o:Obj}(hb:b∈fp)(e:h.get? b=some o):(b,o)∈pinsAt fp h:=List.mem_filterMap.mpr ⟨b,hb,by rw[e];rfl⟩
theorem of_pinsAt {fp:List Addr}{h:Heap}{p:Addr×Obj}(hp:p∈pinsAt fp h):p.1∈fp/\h.get? p.1=some p.2:=by
 obtain⟨b,hb,e⟩:=List.mem_filterMap.mp hp
 cases q:h.get? b with
 |none=>rw[q]at e;cases e
 |some o=>
  rw[q]at e;have e':(b,o)=p:=Option.some.inj e;subst e';exact⟨hb,q⟩
theorem Inv.pinned {pins:List (Addr×Obj)}{σ:St}{H:Hp}{s:Shared}{fp:List Addr}(I:Inv X pins σ H s)(hf:∀b∈fp,FpOk X pins H b)(ho:∀b∈fp,∃o,s.heap.get? b=some o/\∀v,o.data≠.cell v):Inv X (pins++pinsAt fp s.heap) σ H s:=
 I.pins_of λp hp=>(List.mem_append.mp hp).elim (λz=>I.pin p (List.mem_append_right _ z)) λz=>by
  obtain⟨hb,e⟩:=of_pinsAt z;obtain⟨f0,f1,f2,_⟩:=hf p.1 hb;obtain⟨o,e',d⟩:=ho p.1 hb;rw[e]at e';cases e';exact⟨e,f0,f1,f2,d⟩
theorem Inv.unpinned {pins pl:List (Addr×Obj)}{σ:St}{H:Hp}{s:Shared}(I:Inv X (pins++pl) σ H s):Inv X pins σ H s:=I.pins_of λp hp=>I.pin p (List.mem_append_right _ (List.mem_append_left _ hp))
theorem ps_for {iter:Expr}{body:List Stmt}{wi:TI}{g:TG}{tb:TS}{pos:Pos}(hp:PassesOwn (model X.prog X.w) X.A X.env X.xe)(hc:X.calm=true)(hi:PI X tg iter wi)(hg:PG X tg g)(hb:PSs X body tb)
 (hs:∀x,foldedSetIterable iter X.env x=pure x:=by intro _;rfl):PS X (.For tg iter body [] pos) (tFor wi g tb):=by
 intro pins s σ H D I h;refine wpAny_For (thn (hi pins s σ H _ I h) λv s1 h1=>thn h1 λitv s2 h2=>?_) hs;obtain⟨it,fp,tn,J,H2,e,I2,T,st2,f2,W,⟨m0,w0⟩,turn⟩:=h2;subst e
 -- what stays true of the iterator's objects through the loop
 have stat:∀{H':Hp},(∀b∈fp,H' b=none)->∀b∈fp,FpOk X pins H' b:=λhn b hb=>⟨hn b hb,(f2 b hb).2⟩
 refine codeAny_forLoop_any (λn s'=>∃i σ' H',Inv X pins σ' H' s'/\tn i s'.heap/\(∀b∈fp,H' b=none)/\W i n σ' H') ?_ m0 ⟨0,σ,H2,I2,st2,λb hb=>(f2 b hb).1,w0⟩;rintro n s3 ⟨i,σ3,H3,I3,st3,fr3,w3⟩;rcases turn i n σ3 H3 w3 with ⟨stop,qn⟩|⟨go,N,hN,step⟩
 ·refine wpAny_passesOwn hp (thn (T.done X rfl rfl rfl hc i pins s3 σ3 H3 X.xe I3 (stat fr3) st3 stop) λr s4 ⟨hr,I4⟩=>?_);subst hr;exact wpAny_execs_nil ⟨σ3,H3,I4,qn⟩
 ·refine wpAny_passesOwn hp (thn (T.item X rfl rfl rfl hc i pins s3 σ3 H3 X.xe I3 (stat fr3) st3 go) λr s4 ⟨u,hr,h4⟩=>?_);subst hr;refine wpAny_passesOwn hp (thn h4 λ_ s5 ⟨x,H5,I5,r5,y5,st5,fr5⟩=>?_);have I5':=I5.pinned (stat fr5) (T.obj _ _ st5);refine wpAny_passesOwn hp (thn (hg _ s5 σ3 H5 x u _ I5' r5 (step x H5 y5)) λ_ s6 ⟨σ6,H6,I6,q6⟩=>?_);refine wpAny_passesOwn hp (thn (hb _ s6 σ6 H6 _ I6 q6) λf s7 q7=>?_)
  have again:∀{σ7:St} {H7:Hp},Inv X (pins++pinsAt fp s5.heap) σ7 H7 s7->N σ7 H7->∃m,m<n/\∃i σ' H',Inv X pins σ' H' s7/\tn i s7.heap/\(∀b∈fp,H' b=none)/\W i m σ' H':=λ{σ7 H7} I7 n7=>by
   obtain⟨m',hm,w7⟩:=hN σ7 H7 n7;refine⟨m',hm,i+ 1,σ7,H7,I7.unpinned,T.keep _ _ _ st5 λb hb o e=>(I7.pin (b,o) (List.mem_append_right _ (List.mem_append_right _ (mem_pinsAt hb e)))).1,λb hb=>?_,w7⟩;obtain⟨o,e,d⟩:=T.obj _ _ st5 b hb;exact(I7.pin (b,o) (List.mem_append_right _ (List.mem_append_right _ (mem_pinsAt hb e)))).2.1
  cases f with
  |next=>obtain⟨σ7,H7,I7,n7⟩:=q7;exact again I7 n7
  |cont=>obtain⟨σ7,H7,I7,n7⟩:=q7;exact again I7 n7
  |brk=>obtain⟨σ7,H7,I7,q7⟩:=q7;exact⟨σ7,H7,I7.unpinned,q7⟩
  |ret v=>obtain⟨x7,σ7,H7,I7,r7,q7⟩:=q7;exact⟨x7,σ7,H7,I7.unpinned,r7,q7⟩
end
theorem for_list {K:PySem.W.Frag}{a:Addr}{xs:List V}{g:TG}{tb:TS}{D:Ends}{σ:St}{H:Hp}(Pv:Nat->St->Hp->Prop)(h0:Pv 0 σ H)(hl:∀i σ H,i<=xs.length->Pv i σ H->SqL K H a xs)
 (hs:∀i x σ H,xs[i]?=some x->Pv i σ H->g x σ H λ σ2 H2=>tb { D with nx:=Pv (i+ 1),ct:=Pv (i+ 1),bk:=D.nx } σ2 H2) (hd:∀ σ H,Pv xs.length σ H->D.nx σ H):
 ∃W:Nat->Nat->St->Hp->Prop,(∃m,W 0 m σ H)/\∀i m σ H,W i m σ H->
  ((Itl K a).stop i H/\D.nx σ H)\/((Itl K a).go i H/\∃N:St->Hp->Prop,(∀ σ' H',N σ' H'->∃m',m'<m/\W (i+ 1) m' σ' H')/\∀x H',(Itl K a).yld i H x H'->g x σ H' λ σ2 H2=>tb { D with nx:=N,ct:=N,bk:=D.nx } σ2 H2):=by
 refine⟨λi m σ H=>m=xs.length - i/\i<=xs.length/\Pv i σ H,⟨xs.length,by simp,Nat.zero_le _,h0⟩,?_⟩;rintro i m σ H ⟨rfl,hi,p⟩;have q:=hl i σ H hi p;by_cases hlt:i<xs.length
 ·refine .inr ⟨⟨xs,xs[i],q,by simp[hlt]⟩,Pv (i+ 1),λ σ' H' p'=>⟨xs.length - (i+ 1),by omega,rfl,hlt,p'⟩,λx H' y=>?_⟩;obtain⟨e,y⟩:=y;subst e;exact hs i x σ _ (y xs q) p
 ·have e:i=xs.length:=by omega
  subst e;exact .inl ⟨⟨xs,q,Nat.le_refl _⟩,hd σ H p⟩
theorem for_range {lo:Int}{n:Nat}{g:TG}{tb:TS}{D:Ends}{σ:St}{H:Hp}(Pv:Nat->St->Hp->Prop)(h0:Pv 0 σ H)
 (hs:∀i σ H,i<n->Pv i σ H->g (.int (lo+ i)) σ H λ σ2 H2=>tb { D with nx:=Pv (i+ 1),ct:=Pv (i+ 1),bk:=D.nx } σ2 H2) (hd:∀ σ H,Pv n σ H->D.nx σ H):
 ∃W:Nat->Nat->St->Hp->Prop,(∃m,W 0 m σ H)/\∀i m σ H,W i m σ H->
  ((Itr lo n).stop i H/\D.nx σ H)\/((Itr lo n).go i H/\∃N:St->Hp->Prop,(∀ σ' H',N σ' H'->∃m',m'<m/\W (i+ 1) m' σ' H')/\∀x H',(Itr lo n).yld i H x H'->g x σ H' λ σ2 H2=>tb { D with nx:=N,ct:=N,bk:=D.nx } σ2 H2):=by
 refine⟨λi m σ H=>m=n - i/\i<=n/\Pv i σ H,⟨n,by simp,Nat.zero_le _,h0⟩,?_⟩;rintro i m σ H ⟨rfl,hi,p⟩;by_cases hlt:i<n
 ·refine .inr ⟨hlt,Pv (i+ 1),λ σ' H' p'=>⟨n - (i+ 1),by omega,rfl,hlt,p'⟩,λx H' y=>?_⟩;obtain⟨e,y⟩:=y;subst e y;exact hs i σ _ hlt p
 ·have e:i=n:=by omega
  subst e;exact .inl ⟨Nat.le_refl _,hd σ H p⟩
end L2
namespace L2
open PySem PySem.Spec PyProof.Rows
abbrev R2:=V->V->Hp->VK->Prop
def OpR (X:Cx)(f:Value->Value->Sem Value)(r:R2):Prop:=
 ∀(pins:List (Addr×Obj)) (s:Shared) (σ:St) (H:Hp) (x y:V) (v u:Value) (Q:VK),Inv X pins σ H s->RelV x v->RelV y u->r x y H Q->
  wpAny (model X.prog X.w) X.A (f v u) (EP X pins σ Q) X.xe s
def UnR (X:Cx)(f:Value->Sem Value)(r:V->Hp->VK->Prop):Prop:=
 ∀(pins:List (Addr×Obj)) (s:Shared) (σ:St) (H:Hp) (x:V) (v:Value) (Q:VK),Inv X pins σ H s->RelV x v->r x H Q->
  wpAny (model X.prog X.w) X.A (f v) (EP X pins σ Q) X.xe s
def CallR (X:Cx)(f:Value)(r:List V->Hp->VK->Prop):Prop:=
 ∀(pins:List (Addr×Obj)) (s:Shared) (σ:St) (H:Hp) (xs:List V) (us:List Value) (Q:VK),Inv X pins σ H s->Vals xs us->r xs H Q->
  wpAny (model X.prog X.w) X.A (call f us) (EP X pins σ Q) X.xe s
def TruR (X:Cx)(r:V->Hp->(Bool->Hp->Prop)->Prop):Prop:=
 ∀(pins:List (Addr×Obj)) (s:Shared) (σ:St) (H:Hp) (x:V) (v:Value) (Q:Bool->Hp->Prop),Inv X pins σ H s->RelV x v->r x H Q->
  wpAny (model X.prog X.w) X.A (truthy v) (TP X pins σ Q) X.xe s
def tOp (r:R2)(ta tb:TE):TE:=λ σ H Q=>ta σ H λx H1=>tb σ H1 λy H2=>r x y H2 Q
def tUn (r:V->Hp->VK->Prop)(ta:TE):TE:=λ σ H Q=>ta σ H λx H1=>r x H1 Q
def rI (C:Int->Int->Prop)(g:Int->Int->V):R2:=λx y H Q=>∃i j,x=.int i/\y=.int j/\C i j/\Q (g i j) H
def rI0 (g:Int->Int->V):R2:=λx y H Q=>∃i j,x=.int i/\y=.int j/\Q (g i j) H
def rU (g:Int->V):V->Hp->VK->Prop:=λx H Q=>∃i,x=.int i/\Q (g i) H
section
variable {X:Cx} {a b c:Expr} {ta tb tc:TE} {pos:Pos}
theorem binT (ha:PE X a ta)(hb:PE X b tb){pins:List (Addr×Obj)}{s:Shared}{σ:St}{H:Hp}{R:V->V->Hp->Prop}(I:Inv X pins σ H s)
 (h:ta σ H λx H1=>tb σ H1 λy H2=>R x y H2) {Q:Value->Shared->Prop} {f:Value->Value->Sem Value}
 (hf:∀v u s2 x y H2,Inv X pins σ H2 s2->RelV x v->RelV y u->R x y H2->wpAny (model X.prog X.w) X.A (f v u) Q X.xe s2):
 wpAny (model X.prog X.w) X.A (eval a X.env) (λv s₁=>wpAny (model X.prog X.w) X.A (eval b X.env) (λu s₂=>wpAny (model X.prog X.w) X.A (f v u) Q X.xe s₂) X.xe s₁) X.xe s:=by
 refine thn (ha pins s σ H _ I h) λv s1 ⟨x,H1,I1,r1,q1⟩=>?_
 refine thn (hb pins s1 σ H1 _ I1 q1) λu s2 ⟨y,H2,I2,r2,q2⟩=>?_
 exact hf v u s2 x y H2 I2 r1 r2 q2
theorem pe_op {op:Operator}{r:R2}(ho:OpR X (binaryOp op) r)(ha:PE X a ta)(hb:PE X b tb):PE X (.BinOp a op b pos) (tOp r ta tb):=by
 intro pins s σ H Q I h;exact wpAny_BinOp (binT ha hb I h λv u s2 x y H2 I2 rx ry q=>ho pins s2 σ H2 x y v u Q I2 rx ry q)
theorem pe_un {op:UnaryOp}{r:V->Hp->VK->Prop}(ho:UnR X (unaryOp op) r)(ha:PE X a ta):PE X (.UnaryOp op a pos) (tUn r ta):=by
 intro pins s σ H Q I h;exact UnaryOp_ (thn (ha pins s σ H _ I h) λv s1 ⟨x,H1,I1,r1,q1⟩=>ho pins s1 σ H1 x v Q I1 r1 q1)
theorem opI {f:Value->Value->Sem Value}{C:Int->Int->Prop}{g:Int->Int->Int}
 (rule:∀(i j:Int) (t u:Tok) (s:Shared) (Q:Value->Shared->Prop) (E:Value->Shared->Prop),C i j->Q (.int (g i j) s.toks) { s with toks:=s.toks+ 1 }->wpAny (model X.prog X.w) X.A (f (.int i t) (.int j u)) Q E s):
 OpR X f (rI C λi j=>.int (g i j)):=by
 intro pins s σ H x y v u Q I rx ry h;obtain⟨i,j,rfl,rfl,hc,q⟩:=h;obtain⟨t,rfl⟩:=rx;obtain⟨t',rfl⟩:=ry;exact rule i j t t' s _ _ hc ⟨.int (g i j),H,I.tok _,⟨_,rfl⟩,q⟩
theorem opI0 {f:Value->Value->Sem Value}{g:Int->Int->Int}
 (rule:∀(i j:Int) (t u:Tok) (s:Shared) (Q:Value->Shared->Prop) (E:Value->Shared->Prop),Q (.int (g i j) s.toks) { s with toks:=s.toks+ 1 }->wpAny (model X.prog X.w) X.A (f (.int i t) (.int j u)) Q E s):
 OpR X f (rI0 λi j=>.int (g i j)):=by
 intro pins s σ H x y v u Q I rx ry h;obtain⟨i,j,rfl,rfl,q⟩:=h;obtain⟨t,rfl⟩:=rx;obtain⟨t',rfl⟩:=ry;exact rule i j t t' s _ _ ⟨.int (g i j),H,I.tok _,⟨_,rfl⟩,q⟩
theorem opB0 {f:Value->Value->Sem Value}{g:Int->Int->Bool}
 (rule:∀(i j:Int) (t u:Tok) (s:Shared) (Q:Value->Shared->Prop) (E:Value->Shared->Prop),Q (.bool (g i j)) s->wpAny (model X.prog X.w) X.A (f (.int i t) (.int j u)) Q E s):
 OpR X f (rI0 λi j=>.bl (g i j)):=by
 intro pins s σ H x y v u Q I rx ry h;obtain⟨i,j,rfl,rfl,q⟩:=h;obtain⟨t,rfl⟩:=rx;obtain⟨t',rfl⟩:=ry;exact rule i j t t' s _ _ ⟨.bl (g i j),H,I,rfl,q⟩
def CDiv (i j:Int):Prop:=0<j/\j<1073741824
def CMul (i j:Int):Prop:=(-(2 ^ 64)<i/\i<2 ^ 64)\/(-(2 ^ 64)<j/\j<2 ^ 64)
theorem CMul.ok {i j:Int}(h:CMul i j):IntMulOk i j:=by
 rcases h with ⟨h1,h2⟩|⟨h1,h2⟩
 ·exact .of_left (intBits_le_64 h1 h2)
 ·exact .of_right (intBits_le_64 h1 h2)
theorem op_add:OpR X (binaryOp .Add) (rI0 λi j=>.int (i+ j)):=opI0 λ_ _ _ _ _ _ _ q=>add_int q
theorem op_sub:OpR X (binaryOp .Sub) (rI0 λi j=>.int (i - j)):=opI0 λ_ _ _ _ _ _ _ q=>sub_int q
theorem op_mul:OpR X (binaryOp .Mult) (rI CMul λi j=>.int (i* j)):=opI λ_ _ _ _ _ _ _ hc q=>mul_int q hc.ok
theorem op_fdiv:OpR X (binaryOp .FloorDiv) (rI CDiv λi j=>.int (i / j)):=opI λi j _ _ _ _ _ hc q=>by
 have h1:(0:Int)<j:=hc.1;have h2:j<1073741824:=hc.2;exact floordiv_int (by omega) (by rw[Int.fdiv_eq_ediv_of_nonneg i (by omega)];exact q) (.inl (PyProof.noPylong_small (by omega)))
theorem op_mod:OpR X (binaryOp .Mod) (rI (λ_ j=>0<j) λi j=>.int (i % j)):=opI λi j _ _ _ _ _ hc q=>by
 have h1:(0:Int)<j:=hc;exact mod_int' (by omega) (by rw[Int.fmod_eq_emod_of_nonneg i (by omega)];exact q)
theorem unI {f:Value->Sem Value}{g:Int->Int}
 (rule:∀(i:Int) (t:Tok) (s:Shared) (Q:Value->Shared->Prop) (E:Value->Shared->Prop),Q (.int (g i) s.toks) { s with toks:=s.toks+ 1 }->wpAny (model X.prog X.w) X.A (f (.int i t)) Q E s):
 UnR X f (rU λi=>.int (g i)):=by
 intro pins s σ H x v Q I rx h;obtain⟨i,rfl,q⟩:=h;obtain⟨t,rfl⟩:=rx;exact rule i t s _ _ ⟨.int (g i),H,I.tok _,⟨_,rfl⟩,q⟩
theorem un_neg:UnR X (unaryOp .USub) (rU λi=>.int (-i)):=unI λ_ _ _ _ _ q=>neg_int q
end
def scal:V->V->Bool
 |.non,.non=>true|.non,.int _=>true|.int _,.non=>true|.non,.bl _=>true|.bl _,.non=>true|.non,.str _=>true|.str _,.non=>true
 |.int _,.int _=>true|.bl _,.bl _=>true|.str _,.str _=>true|.byt _,.byt _=>true
 |.int _,.str _=>true|.str _,.int _=>true|.bl _,.str _=>true|.str _,.bl _=>true
 |_,_=>false
def rEq:R2:=λx y H Q=>scal x y=true/\Q (.bl (decide (x=y))) H
def rNe:R2:=λx y H Q=>scal x y=true/\Q (.bl (!decide (x=y))) H
theorem dec_int {i j:Int}:decide (V.int i=V.int j)=(i==j):=by
 rw[Bool.eq_iff_iff];simp
theorem dec_bl {i j:Bool}:decide (V.bl i=V.bl j)=(i==j):=by
 rw[Bool.eq_iff_iff];simp
theorem dec_str {i j:Str}:decide (V.str i=V.str j)=(i==j):=by
 rw[Bool.eq_iff_iff];simp
theorem dec_byt {i j:Array UInt8}:decide (V.byt i=V.byt j)=(i.toList==j.toList):=by
 rw[Bool.eq_iff_iff];cases i;cases j;simp
section
variable {X:Cx} {a b c:Expr} {ta tb tc:TE} {pos:Pos}
theorem fin_bl {pins:List (Addr×Obj)}{σ:St}{H:Hp}{s:Shared}{Q:VK}{k k':Bool}(I:Inv X pins σ H s)(q:Q (.bl k) H)(e:k=k'):EP X pins σ Q (.bool k') s:=by
 subst e;exact⟨.bl k,H,I,rfl,q⟩
theorem op_eq:OpR X (compareOp .Eq) rEq:=by
 intro pins s σ H x y v u Q I rx ry h;obtain⟨hs,q⟩:=h
 cases x with
 |non=>
  cases rx
  cases y with
  |non=>cases ry;exact PySem.EqNone.eq_none_none (fin_bl I q (by simp))
  |bl j=>cases ry;exact PySem.EqNone.eq_none_bool (fin_bl I q (by simp))
  |int j=>obtain⟨t',rfl⟩:=ry;exact PySem.EqNone.eq_none_int (fin_bl I q (by simp))
  |str j=>obtain⟨t',rfl⟩:=ry;exact PySem.EqNone.eq_none_str (fin_bl I q (by simp))
  |_=>exact absurd (show false=true from hs) Bool.false_ne_true
 |bl i=>
  cases rx
  cases y with
  |non=>cases ry;exact PySem.EqNone.eq_bool_none (fin_bl I q (by simp))
  |bl j=>cases ry;exact eq_bool (fin_bl I q dec_bl)
  |str j=>obtain⟨t',rfl⟩:=ry;exact PySem.EqMixed.eq_bool_str (fin_bl I q (by simp))
  |_=>exact absurd (show false=true from hs) Bool.false_ne_true
 |int i=>
  obtain⟨t,rfl⟩:=rx
  cases y with
  |non=>cases ry;exact PySem.EqNone.eq_int_none (fin_bl I q (by simp))
  |int j=>obtain⟨t',rfl⟩:=ry;exact eq_int (fin_bl I q dec_int)
  |str j=>obtain⟨t',rfl⟩:=ry;exact PySem.EqMixed.eq_int_str (fin_bl I q (by simp))
  |_=>exact absurd (show false=true from hs) Bool.false_ne_true
 |str i=>
  obtain⟨t,rfl⟩:=rx
  cases y with
  |non=>cases ry;exact PySem.EqNone.eq_str_none (fin_bl I q (by simp))
  |bl j=>cases ry;exact PySem.EqMixed.eq_str_bool (fin_bl I q (by simp))
  |int j=>obtain⟨t',rfl⟩:=ry;exact PySem.EqMixed.eq_str_int (fin_bl I q (by simp))
  |str j=>obtain⟨t',rfl⟩:=ry;exact eq_str (fin_bl I q dec_str)
  |_=>exact absurd (show false=true from hs) Bool.false_ne_true
 |byt i=>
  obtain⟨t,rfl⟩:=rx
  cases y with
  |byt j=>obtain⟨t',rfl⟩:=ry;exact PySem.W.eq_bytes (fin_bl I q dec_byt)
  |_=>exact absurd (show false=true from hs) Bool.false_ne_true
 |_=>cases y <;> exact absurd (show false=true from hs) Bool.false_ne_true
theorem op_ne:OpR X (compareOp .NotEq) rNe:=by
 intro pins s σ H x y v u Q I rx ry h;obtain⟨hs,q⟩:=h
 cases x with
 |non=>
  cases rx
  cases y with
  |non=>cases ry;exact PySem.EqNone.ne_none_none (fin_bl I q (by simp))
  |bl j=>cases ry;exact PySem.EqNone.ne_none_bool (fin_bl I q (by simp))
  |int j=>obtain⟨t',rfl⟩:=ry;exact PySem.EqNone.ne_none_int (fin_bl I q (by simp))
  |str j=>obtain⟨t',rfl⟩:=ry;exact PySem.EqNone.ne_none_str (fin_bl I q (by simp))
  |_=>exact absurd (show false=true from hs) Bool.false_ne_true
 |bl i=>
  cases rx
  cases y with
  |non=>cases ry;exact PySem.EqNone.ne_bool_none (fin_bl I q (by simp))
  |bl j=>cases ry;exact ne_bool (fin_bl I q (congrArg not dec_bl))
  |str j=>obtain⟨t',rfl⟩:=ry;exact PySem.EqMixed.ne_bool_str (fin_bl I q (by simp))
  |_=>exact absurd (show false=true from hs) Bool.false_ne_true
 |int i=>
  obtain⟨t,rfl⟩:=rx
  cases y with
  |non=>cases ry;exact PySem.EqNone.ne_int_none (fin_bl I q (by simp))
  |int j=>obtain⟨t',rfl⟩:=ry;exact ne_int (fin_bl I q (congrArg not dec_int))
  |str j=>obtain⟨t',rfl⟩:=ry;exact PySem.EqMixed.ne_int_str (fin_bl I q (by simp))
  |_=>exact absurd (show false=true from hs) Bool.false_ne_true
 |str i=>
  obtain⟨t,rfl⟩:=rx
  cases y with
  |non=>cases ry;exact PySem.EqNone.ne_str_none (fin_bl I q (by simp))
  |bl j=>cases ry;exact PySem.EqMixed.ne_str_bool (fin_bl I q (by simp))
  |int j=>obtain⟨t',rfl⟩:=ry;exact PySem.EqMixed.ne_str_int (fin_bl I q (by simp))
  |str j=>obtain⟨t',rfl⟩:=ry;exact ne_str (fin_bl I q (congrArg not dec_str))
  |_=>exact absurd (show false=true from hs) Bool.false_ne_true
 |byt i=>
  obtain⟨t,rfl⟩:=rx
  cases y with
  |byt j=>obtain⟨t',rfl⟩:=ry;exact PySem.W.ne_bytes (fin_bl I q (congrArg not dec_byt))
  |_=>exact absurd (show false=true from hs) Bool.false_ne_true
 |_=>cases y <;> exact absurd (show false=true from hs) Bool.false_ne_true
theorem op_lt:OpR X (compareOp .Lt) (rI0 λi j=>.bl (decide (i<j))):=opB0 λ_ _ _ _ _ _ _ q=>lt_int q
theorem op_gt:OpR X (compareOp .Gt) (rI0 λi j=>.bl (decide (j<i))):=opB0 λ_ _ _ _ _ _ _ q=>gt_int q
theorem op_isN:OpR X (compareOp .Is) (λx y H Q=>y=.non/\Q (.bl (decide (x=.non))) H):=by
 intro pins s σ H x y v u Q I rx ry h;obtain⟨rfl,q⟩:=h;cases ry;refine is_none_gen (fin_bl I q ?_)
 cases x <;> first
  |(cases rx;rfl)
  |(obtain⟨t,rfl⟩:=rx;rfl)
theorem op_notN:OpR X (compareOp .IsNot) (λx y H Q=>y=.non/\Q (.bl (!decide (x=.non))) H):=by
 intro pins s σ H x y v u Q I rx ry h;obtain⟨rfl,q⟩:=h;cases ry;refine isnot_none_gen (fin_bl I q ?_)
 cases x <;> first
  |(cases rx;rfl)
  |(obtain⟨t,rfl⟩:=rx;rfl)
theorem nomark (b:Expr){op:CmpOp}(h:op≠.In:=by decide)(h2:op≠.NotIn:=by decide):behindInMarks op b=false:=by
 have e1:(op==CmpOp.In)=false:=by cases op <;> first|rfl|exact absurd rfl h
 have e2:(op==CmpOp.NotIn)=false:=by cases op <;> first|rfl|exact absurd rfl h2
 cases b <;> simp[behindInMarks,e1,e2]
theorem pe_cmpR {op:CmpOp}{r:R2}(ho:OpR X (compareOp op) r)(ha:PE X a ta)(hb:PE X b tb)(hm:behindInMarks op b=false):PE X (.Compare a [op] [b] pos) (tOp r ta tb):=by
 intro pins s σ H Q I h;exact wpAny_Compare1 (binT ha hb I h λv u s2 x y H2 I2 rx ry q=>ho pins s2 σ H2 x y v u Q I2 rx ry q) hm
def tTest (t:TE):TT:=λ σ H Q=>t σ H λx H'=>∃k,x=.bl k/\Q k H'
theorem pt_cmpR {op:CmpOp}{r:R2}(ho:OpR X (compareOp op) r)(ha:PE X a ta)(hb:PE X b tb)(hm:behindInMarks op b=false):PT X (.Compare a [op] [b] pos) (tTest (tOp r ta tb)):=by
 intro pins s σ H Q I h
 refine wpAny_isTrue_Compare1 (thn (ha pins s σ H _ I h) λv s1 ⟨x,H1,I1,r1,q1⟩=>thn (hb pins s1 σ H1 _ I1 q1) λu s2 ⟨y,H2,I2,r2,q2⟩=>
  thn (ho pins s2 σ H2 x y v u _ I2 r1 r2 q2) λc s3 ⟨z,H3,I3,r3,k,e,q3⟩=>?_) hm
 subst e;cases r3;exact wpAny_truthy_bool ⟨H3,I3,q3⟩
def TruV (K:PySem.W.Frag)(x:V)(H:Hp)(k:Bool):Prop:=
 match x with
 |.non=>k=false
 |.bl b=>k=b
 |.int i=>k=(i !=0)
 |.str y=>y.length<=sizeLine/\k=((y.length:Int) !=0)
 |.byt y=>y.size<=sizeLine/\k=((y.size:Int) !=0)
 |.ref p=>(∃xs,SqL K H p xs/\k=!xs.isEmpty)\/(∃xs,SqT K H p xs/\k=!xs.isEmpty)\/∃kvs,H p=some (.dK kvs)/\k=!kvs.isEmpty
 |_=>False
theorem isEmpty_kv {κ:Type}{kvs:List (κ×V)}{vs:List (κ×Value)}(r:KV kvs vs):(!vs.isEmpty)=!kvs.isEmpty:=by
 cases r <;> rfl
theorem isEmpty_of {xs:List V}{its:List Value}(r:Vals xs its):(!its.toArray.isEmpty)=!xs.isEmpty:=by
 cases r <;> simp
theorem line63:(sizeLine:Nat)<2 ^ 63:=by rw[sizeLine_eq];decide
theorem tru_ok:TruR X (λx H Q=>∃k,TruV X.K x H k/\Q k H):=by
 intro pins s σ H x v Q I rx h;obtain⟨k,e,q⟩:=h;have hl:=line63;have hs:sizeLine=16777216:=sizeLine_eq
 cases x with
 |non=>
  cases rx;have e':k=false:=e;subst e';exact truthy_none ⟨H,I,q⟩
 |bl b=>
  cases rx;have e':k=b:=e;subst e';exact wpAny_truthy_bool ⟨H,I,q⟩
 |int i=>
  obtain⟨t,rfl⟩:=rx;have e':k=(i !=0):=e;subst e';exact PySem.P.truthy_int ⟨H,I,q⟩
 |str y=>
  obtain⟨t,rfl⟩:=rx;obtain⟨hy,e'⟩:y.length<=sizeLine/\k=((y.length:Int) !=0):=e;subst e';exact PySem.P.truthy_str (by omega) ⟨H,I.tok _,q⟩
 |byt y=>
  obtain⟨t,rfl⟩:=rx;obtain⟨hy,e'⟩:y.size<=sizeLine/\k=((y.size:Int) !=0):=e;subst e';exact PySem.W.truthy_bytes (by omega) ⟨H,I.tok _,q⟩
 |ref p=>
  cases rx;have e':(∃xs,SqL X.K H p xs/\k=!xs.isEmpty)\/(∃xs,SqT X.K H p xs/\k=!xs.isEmpty)\/∃kvs,H p=some (.dK kvs)/\k=!kvs.isEmpty:=e;rcases e' with ⟨xs,hx,e'⟩|⟨xs,hx,e'⟩|⟨kvs,hx,e'⟩
  ·subst e';obtain⟨its,r,pl,hz⟩:=I.list hx;have hlen:=r.length;exact wpAny_truthy_list pl.isList (by simp only[List.size_toArray];omega) ⟨H,I.tok _,by rw[isEmpty_of r];exact q⟩
  ·subst e';obtain⟨its,r,pl,hz⟩:=I.tuple hx;have hlen:=r.length;exact truthy_tuple pl (by simp only[List.size_toArray];omega) ⟨H,I.tok _,by rw[isEmpty_of r];exact q⟩
  ·subst e';obtain⟨hz,hS,vs,r,m⟩:kvs.length<=sizeLine/\(p==sysModules)=false/\∃vs,KV kvs vs/\s.heap.DictOf (mixKind X.prog X.w) p vs:=I.hok p _ hx;have hlen:kvs.length=vs.length:=Paired.length r;exact wpAny_truthy_dict hS m (by omega) ⟨H,I.tok _,by rw[isEmpty_kv r];exact q⟩
 |_=>exact(show False from e).elim
theorem pt_truth (ha:PE X a ta)(he:∀whole,isTrue a X.env whole=(do let v ←whole;standAt a.pos;holding [v] (truthy v))):
 PT X a (λ σ H Q=>ta σ H λx H'=>∃k,TruV X.K x H' k/\Q k H'):=by
 intro pins s σ H Q I h;exact isTrue_plain (thn (ha pins s σ H _ I h) λv s1 ⟨x,H1,I1,r1,q1⟩=>tru_ok pins s1 σ H1 x v Q I1 r1 q1) (he _)
theorem op_add_str:OpR X (binaryOp .Add) (λx y H Q=>∃i j,x=.str i/\y=.str j/\i.length+ j.length<=sizeLine/\Q (.str (i++j)) H):=by
 intro pins s σ H x y v u Q I rx ry h;obtain⟨i,j,rfl,rfl,hz,q⟩:=h;obtain⟨t,rfl⟩:=rx;obtain⟨t',rfl⟩:=ry;exact add_str (λt' tk=>⟨.str (i++j),H,I.tok _,⟨_,rfl⟩,q⟩) hz
theorem vals1 {x:V}{us:List Value}(r:Vals [x] us):∃u,us=[u]/\RelV x u:=by
 cases r with
 |cons r1 r2=>cases r2;exact⟨_,rfl,r1⟩
theorem vals2 {x y:V}{us:List Value}(r:Vals [x,y] us):∃u w',us=[u,w']/\RelV x u/\RelV y w':=by
 cases r with
 |cons r1 r2=>
  cases r2 with
  |cons r3 r4=>cases r4;exact⟨_,_,rfl,r1,r3⟩
theorem call_max2 (hc:X.calm=true):CallR X (.builtin "max") (λxs H Q=>∃i j,xs=[.int i,.int j]/\Q (.int (if j > i then j else i)) H):=by
 intro pins s σ H xs us Q I r h;obtain⟨i,j,rfl,q⟩:=h;obtain⟨u,w',rfl,⟨t,rfl⟩,⟨t',rfl⟩⟩:=vals2 r;refine max_two_ints (I.ok.hd hc) λh' tk k=>⟨_,H,I.kept k,?_,q⟩
 by_cases hj:j > i
 ·rw[if_pos hj,if_pos hj];exact⟨_,rfl⟩
 ·rw[if_neg hj,if_neg hj];exact⟨_,rfl⟩
theorem call_min2 (hc:X.calm=true):CallR X (.builtin "min") (λxs H Q=>∃i j,xs=[.int i,.int j]/\Q (.int (if j<i then j else i)) H):=by
 intro pins s σ H xs us Q I r h;obtain⟨i,j,rfl,q⟩:=h;obtain⟨u,w',rfl,⟨t,rfl⟩,⟨t',rfl⟩⟩:=vals2 r;refine min_two_ints (I.ok.hd hc) λh' tk k=>⟨_,H,I.kept k,?_,q⟩
 by_cases hj:j<i
 ·rw[if_pos hj,if_pos hj];exact⟨_,rfl⟩
 ·rw[if_neg hj,if_neg hj];exact⟨_,rfl⟩
end
end L2
namespace L2
open PySem PySem.Spec PyProof.Rows
structure ObjM (h:Heap) (x dx C:Addr) (mA:Str->Option Value):Prop where
 obj:h.get? x=some (PySem.W.instObj C dx)
 ns:h.Ns1 dx mA
 ne:dx≠x
theorem lookIn_ns {h:Heap}{dx:Addr}{mA:Str->Option Value}(n:h.Ns1 dx mA):∃od,h.get? dx=some od/\∀name,PySem.W.lookIn name od=some (mA name):=by
 obtain⟨o,es,ep,ho,hd,hk,_,hm⟩:=n;refine⟨o,ho,λname=>?_⟩;have e:=hm name;unfold nsFind findBy at e;rw[←Array.find?_toList]at e;unfold PySem.W.lookIn;rw[hd];dsimp only;split
 ·rename_i y q;rw[q]at e;exact congrArg some e
 ·rename_i q;rw[q]at e
  have a:es.toList.any (·.refKey)=false:=by
   rw[List.any_eq_false];intro y hy;obtain⟨z,t,hkey⟩:=hk y (Array.mem_toList_iff.mp hy);simp[DictEntry.refKey,hkey]
  have a':¬es.toList.any (·.refKey)=true:=by rw[a];exact Bool.false_ne_true
  rw[if_neg a'];exact congrArg some e
theorem ObjM.look {h:Heap}{x dx C:Addr}{mA:Str->Option Value}(I:ObjM h x dx C mA):∃od,PySem.W.InstAt h x (PySem.W.instObj C dx) C (some od)/\∀name,PySem.W.lookIn name od=some (mA name):=
 let ⟨od,ho,hl⟩:=lookIn_ns I.ns
 ⟨od,⟨I.obj,rfl,rfl,ho⟩,hl⟩
section
variable {prog:Program} {w:World} {A:Around} {E:Value->Shared->Prop} {s:Shared} {K:PySem.W.Frag} {x dx C f:Addr} {mA:Str->Option Value} {name:Str} {v:Value}
theorem get_map {expr:Bool}{Q:Value->Shared->Prop}(X:K.In s.heap)(I:ObjM s.heap x dx C mA)(hg:PySem.W.plainGet K C name=true)(hh:PySem.W.hasDictIn K C=true)
 (ha:PySem.W.findIn K (.ref C) name=some none) (hv:mA name=some v) (hv':PySem.W.handedIn v=true) (h:Q v { s with toks:=s.toks+ 1 }):
 wpAny (model prog w) A (getAttr (.ref x) name expr) Q E s:=by
 obtain⟨od,J,hl⟩:=I.look;exact PySem.W.get_value X J (PySem.W.plainGet_of hg).1 (PySem.W.findObj_own hh ha rfl (by rw[hl,hv])) hv' h
theorem get_meth {pl:Sem Bool}{Q:Value×List Value->Shared->Prop}(X:K.In s.heap)(I:ObjM s.heap x dx C mA)(hg:PySem.W.plainGet K C name=true)
 (hf:PySem.W.findIn K (.ref C) name=some (some (.ref f))) (ht:PySem.W.isFn K (.ref f)=true) (hv:mA name=none) (h:Q (.ref f,[.ref x]) s):
 wpAny (model prog w) A (getMethod (.ref x) name pl) Q E s:=by
 obtain⟨od,J,hl⟩:=I.look;exact PySem.W.method_fn X J (PySem.W.plainGet_of hg).1 (PySem.W.plainGet_of hg).2 hf (beq_iff_eq.mp ht) (by show (PySem.W.lookIn name od).map (·.isSome)=some false;rw[hl,hv];rfl) h
theorem set_map {ns:List Str}{Q:Unit->Shared->Prop}(X:K.In s.heap)(I:ObjM s.heap x dx C mA)
 (hs:PySem.W.findIn K (.ref C) "__setattr__"=some (some (.builtin "object.__setattr__"))) (hp:PySem.W.plainOver K C=true) (ht:PySem.W.takerIn K C name=some none) (hh:PySem.W.hasDictIn K C=true)
 (hw:PySem.Within mA ns) (hsz:ns.length<=sizeLine)
 (h:∀h',ObjM h' x dx C (λy=>if y=name then some v else mA y)->Heap.SameBut dx s.heap h'->Q () { s with heap:=h',toks:=s.toks+ 2 }):
 wpAny (model prog w) A (setAttr (.ref x) name v) Q E s:=by
 obtain⟨od,J,hl⟩:=I.look;refine PySem.W.set_plain X J hs (PySem.W.osa_open (s:={ s with toks:=s.toks+ 1 }) (r:=none) X J hp ht λb=>?_);obtain⟨cd,hc,hd'⟩:=PySem.W.any_some hh;have hx:s.heap.get? x=some ⟨.ref C,some dx,.plain,#[]⟩:=I.obj;refine wpAny_bind (wpAny_pure (wpAny_bind (wpAny_bind (wpAny_loadPart hx (wpAny_bind (PySem.W.Looks.here (s:={ s with toks:=s.toks+ 1 }) (PySem.W.looks_clsIn X hc) ?_))))));rw[hd'];refine wpAny_pure (a:=some dx) (wpAny_bind (wpAny_pure (wpAny_bind ?_)));refine wpAny_nsSet1 (s:={ s with toks:=s.toks+ 1 }) I.ns λh' hn2 hs2=>?_
 obtain⟨oD,esD,epD,hoD,hdD,hcD⟩:=hn2.count (PySem.Within.cons name v hw);refine wpAny_bind (wpAny_lookBehind hoD (by rw[hdD];exact pastItsLine_dict (Nat.le_trans hcD (by rw[List.length_cons];omega))) ?_);exact wpAny_pure (h _ ⟨(hs2.2 _ (Ne.symm I.ne)).trans I.obj,hn2,I.ne⟩ hs2)
theorem make_map {R:Result->Shared->Prop}{vs:List Value}{kw:List (Str×Value)}(X:K.In s.heap)(hm:PySem.W.makesIn K C=true)
 (hi:PySem.W.findIn K (.ref C) "__init__"=some (some (.ref f))) (hf:PySem.W.typeIn K (.ref f)=some (.type "function"))
 (h:codeAny (model prog w) (A.under (.builtin "type.__call__" ⟨.ref C::vs,kw⟩)) (.call (.ref f) ⟨.ref (s.heap.objs.size+ 1)::vs,kw⟩) (PySem.W.InitBack (s.heap.objs.size+ 1) R)
  { s with heap:=(s.heap.push PySem.W.emptyDict).push (PySem.W.instObj C s.heap.objs.size) }):
 codeAny (model prog w) A (.call (.ref C) ⟨vs,kw⟩) R s:=by
 obtain⟨hh,g,d,t,os⟩:=s;exact PySem.W.make_core (PySem.W.makes_of X hm) (PySem.W.looks_findIn X hi) (λself=>PySem.W.bind_fn X self hf) (.inl rfl) h
theorem make_map0 {R:Result->Shared->Prop}(X:K.In s.heap)(hm:PySem.W.makesIn K C=true)
 (hi:PySem.W.findIn K (.ref C) "__init__"=some (some (.builtin "object.__init__")))
 (hb:∀self,PySem.W.Looks (model prog w) s.heap (bindSpecial (.builtin "object.__init__") self) (.builtin "object.__init__",[self]))
 (h:codeAny (model prog w) (A.under (.builtin "type.__call__" ⟨[.ref C],[]⟩)) (.call (.builtin "object.__init__") ⟨[.ref (s.heap.objs.size+ 1)],[]⟩) (PySem.W.InitBack (s.heap.objs.size+ 1) R)
  { s with heap:=(s.heap.push PySem.W.emptyDict).push (PySem.W.instObj C s.heap.objs.size) }):
 codeAny (model prog w) A (.call (.ref C) ⟨[],[]⟩) R s:=by
 obtain⟨hh,g,d,t,os⟩:=s;exact PySem.W.make_core (PySem.W.makes_of X hm) (PySem.W.looks_findIn X hi) hb (.inr ⟨rfl,rfl⟩) h
end
def putF (f:Str)(v:V):List (Str×V)->List (Str×V)
 |[]=>[(f,v)]
 |(g,x)::r=>if g=f then (g,v)::r else (g,x)::putF f v r
theorem lookup_putF (f g:Str)(v:V):∀fs:List (Str×V),(putF f v fs).lookup g=if g=f then some v else fs.lookup g
 |[]=>by
  show List.lookup g [(f,v)]=_;by_cases h:g=f
  ·have hb:(g==f)=true:=beq_iff_eq.mpr h;simp only[List.lookup,hb,if_pos h]
  ·have hb:(g==f)=false:=beq_eq_false_iff_ne.mpr h;simp only[List.lookup,hb,if_neg h]
 |(k,x)::r=>by
  have ih:=lookup_putF f g v r;rw[show putF f v ((k,x)::r)=(if k=f then (k,v)::r else (k,x)::putF f v r) from rfl];by_cases hk:k=f
  ·rw[if_pos hk];by_cases h:g=k
   ·have hb:(g==k)=true:=beq_iff_eq.mpr h;simp only[List.lookup,hb,if_pos (h.trans hk)]
   ·have hb:(g==k)=false:=beq_eq_false_iff_ne.mpr h;simp only[List.lookup,hb,if_neg (λe:g=f=>h (e.trans hk.symm))]
  ·rw[if_neg hk];by_cases h:g=k
   ·have hb:(g==k)=true:=beq_iff_eq.mpr h;simp only[List.lookup,hb,if_neg (λe:g=f=>hk (h.symm.trans e))]
   ·have hb:(g==k)=false:=beq_eq_false_iff_ne.mpr h;simp only[List.lookup,hb];exact ih
theorem keys_putF (f:Str)(v:V):∀fs:List (Str×V),f∈(putF f v fs).map (·.1)/\∀g,g∈fs.map (·.1)->g∈(putF f v fs).map (·.1)
 |[]=>⟨by simp[putF],λg h=>by simp at h⟩
 |(k,x)::r=>by
  obtain⟨i1,i2⟩:=keys_putF f v r;rw[show putF f v ((k,x)::r)=(if k=f then (k,v)::r else (k,x)::putF f v r) from rfl];by_cases hk:k=f
  ·rw[if_pos hk];subst hk;exact⟨by simp,λg h=>by simpa using h⟩
  ·rw[if_neg hk];refine⟨?_,λg h=>?_⟩
   ·rw[List.map_cons];exact List.mem_cons_of_mem _ i1
   ·rw[List.map_cons]at h ⊢;rcases List.mem_cons.mp h with e|e
    ·exact List.mem_cons.mpr (.inl e)
    ·exact List.mem_cons_of_mem _ (i2 g e)
theorem length_putF (f:Str)(v:V):∀fs:List (Str×V),(putF f v fs).length<=fs.length+ 1
 |[]=>by simp[putF]
 |(k,x)::r=>by
  have ih:=length_putF f v r;rw[show putF f v ((k,x)::r)=(if k=f then (k,v)::r else (k,x)::putF f v r) from rfl];by_cases hk:k=f
  ·rw[if_pos hk,List.length_cons,List.length_cons];omega
  ·rw[if_neg hk,List.length_cons,List.length_cons];omega
theorem RelO.some_of {v:V}{o:Option Value}(r:RelO (some v) o):∃u,o=some u/\RelV v u:=by
 cases o with
 |none=>exact(show False from r).elim
 |some u=>exact⟨u,rfl,r⟩
theorem RelO.none_of {o:Option Value}(r:RelO none o):o=none:=by
 cases o with
 |none=>rfl
 |some u=>exact(show False from r).elim
theorem handed_of {v:V}{u:Value}(r:RelV v u):PySem.W.handedIn u=true:=by
 cases v with
 |non=>cases (show u=Value.none from r);rfl
 |bl b=>cases (show u=Value.bool b from r);rfl
 |int i=>obtain⟨t,e⟩:=(show ∃t,u=Value.int i t from r);cases e;rfl
 |str x=>obtain⟨t,e⟩:=(show ∃t,u=Value.str x t from r);cases e;rfl
 |byt b=>obtain⟨t,e⟩:=(show ∃t,u=Value.bytes b t from r);cases e;rfl
 |flt b=>obtain⟨t,e⟩:=(show ∃t,u=Value.float b t from r);cases e;rfl
 |ref a=>cases (show u=Value.ref a from r);rfl
 |ty n=>cases (show u=Value.type n from r);rfl
section
variable {P:Program} {w:World} {H H':Hp} {h h':Heap} {a C dx:Addr} {fs fs':List (Str×V)}
theorem ins_get (hok:HOk P w H h)(e:H a=some (.ins C dx fs)):∃mA,ObjM h a dx C mA/\(∀f,RelO (fs.lookup f) (mA f))/\PySem.Within mA (fs.map (·.1))/\fs.length<=1000/\H dx=some (.own a):=by
 obtain⟨d,z,ne,ob,mA,n,r,q⟩:=(show ObjOk P w H h a (.ins C dx fs) from hok a _ e);exact⟨mA,⟨ob,n,ne⟩,r,q,z,d⟩
end
structure Cls (K:PySem.W.Frag) (C:Addr):Prop where
 pg:PySem.W.plainGet K C Str.empty=true
 hd:PySem.W.hasDictIn K C=true
 po:PySem.W.plainOver K C=true
 sa:PySem.W.findIn K (.ref C) "__setattr__"=some (some (.builtin "object.__setattr__"))
theorem Cls.get {K:PySem.W.Frag}{C:Addr}(c:Cls K C)(f:Str):PySem.W.plainGet K C f=true:=c.pg
def NoAttr (K:PySem.W.Frag)(C:Addr)(f:Str):Prop:=PySem.W.findIn K (.ref C) f=some none
theorem NoAttr.taker {K:PySem.W.Frag}{C:Addr}{f:Str}(n:NoAttr K C f):PySem.W.takerIn K C f=some none:=by
 unfold PySem.W.takerIn;rw[show PySem.W.findIn K (.ref C) f=some none from n];rfl
structure Con (K:PySem.W.Frag) (C:Addr) (f:Str) (v:V) (u:Value):Prop where
 at_:PySem.W.findIn K (.ref C) f=some (some u)
 rel:RelV v u
 get:PySem.W.specialIn K u "__get__"=some none
 cp:PySem.W.copiedNames.contains f=false
structure Meth (K:PySem.W.Frag) (C:Addr) (m:Str) (f:Addr):Prop where
 at_:PySem.W.findIn K (.ref C) m=some (some (.ref f))
 fn:PySem.W.isFn K (.ref f)=true
 kp:PySem.W.keepIn K (.ref f)=true
section
variable {X:Cx} {pins:List (Addr×Obj)} {σ:St} {H:Hp} {s:Shared} {a C dx:Addr} {fs:List (Str×V)} {f:Str} {v:V} {A:Around} {E:Value->Shared->Prop}
theorem getattr_ok {b:Bool}{Q:Value->Shared->Prop}(I:Inv X pins σ H s)(e:H a=some (.ins C dx fs))(c:Cls X.K C)(n:NoAttr X.K C f)(l:fs.lookup f=some v)
 (h:∀u s',Inv X pins σ H s'->RelV v u->Q u s'):wpAny (model X.prog X.w) A (getAttr (.ref a) f b) Q E s:=by
 obtain⟨mA,O,r,_,_,_⟩:=ins_get I.hok e;obtain⟨u,hu,ru⟩:=RelO.some_of (v:=v) (o:=mA f) (by rw[←l];exact r f);exact get_map I.kIn O (c.get f) c.hd n hu (handed_of ru) (h u _ (I.tok _) ru)
theorem getmeth_ok {m:Str}{g:Addr}{pl:Sem Bool}{Q:Value×List Value->Shared->Prop}(I:Inv X pins σ H s)(e:H a=some (.ins C dx fs))(c:Cls X.K C)(k:Meth X.K C m g)(l:fs.lookup m=none)
 (h:Q (.ref g,[.ref a]) s):wpAny (model X.prog X.w) A (getMethod (.ref a) m pl) Q E s:=by
 obtain⟨mA,O,r,_,_,_⟩:=ins_get I.hok e;have hn:mA m=none:=RelO.none_of (by rw[←l];exact r m);exact get_meth I.kIn O (c.get m) k.at_ k.fn hn h
theorem setattr_ok {y:V}{u:Value}{Q:Unit->Shared->Prop}(I:Inv X pins σ H s)(e:H a=some (.ins C dx fs))(c:Cls X.K C)(n:NoAttr X.K C f)(hl:fs.length<1000)(ry:RelV y u)
 (h:∀s',Inv X pins σ (upd H a (.ins C dx (putF f y fs))) s'->Q () s'):wpAny (model X.prog X.w) A (setAttr (.ref a) f u) Q E s:=by
 obtain⟨mA,O,r,wi,_,ho⟩:=ins_get I.hok e;have hz:(fs.map (·.1)).length<=sizeLine:=by rw[List.length_map,sizeLine_eq];omega
 refine set_map I.kIn O c.sa c.po n.taker c.hd wi hz λh' O' sb=>h _ ?_
 have hd:∃o,h'.get? dx=some o:=let ⟨o,_,_,e',_⟩:=O'.ns;⟨o,e'⟩
 refine I.write (x:=a) (e:=dx) (by rw[e];exact True.intro) (.inr ho) (λb q hb z=>(sb.2 b hb).trans z) hd ?_;refine⟨by rw[upd_ne O.ne];exact ho,?_,O.ne,O'.obj,_,O'.ns,λg=>?_,λg hg=>?_⟩
 ·have:=length_putF f y fs;omega
 ·show RelO ((putF f y fs).lookup g) (if g=f then some u else mA g);rw[lookup_putF];by_cases q:g=f
  ·rw[if_pos q,if_pos q];exact ry
  ·rw[if_neg q,if_neg q];exact r g
 ·by_cases q:g=f
  ·rw[q];exact(keys_putF f y fs).1
  ·refine(keys_putF f y fs).2 g (wi g λz=>hg ?_);show (if g=f then some u else mA g)=none;rw[if_neg q];exact z
theorem Inv.made (I:Inv X pins σ H s):Inv X pins σ (upd (upd H s.heap.objs.size (.own (s.heap.objs.size+ 1))) (s.heap.objs.size+ 1) (.ins C s.heap.objs.size []))
 { s with heap:=(s.heap.push PySem.W.emptyDict).push (PySem.W.instObj C s.heap.objs.size) }:=by
 have e1:(s.heap.push PySem.W.emptyDict).get? s.heap.objs.size=some PySem.W.emptyDict:=Heap.get?_push_size s.heap rfl
 have e2:((s.heap.push PySem.W.emptyDict).push (PySem.W.instObj C s.heap.objs.size)).get? (s.heap.objs.size+ 1)=some (PySem.W.instObj C s.heap.objs.size):=by
  have:=Heap.get?_push_size (s.heap.push PySem.W.emptyDict) (o:=PySem.W.instObj C s.heap.objs.size) rfl
  rwa [Heap.size_push]at this
 have e3:(s.heap.push PySem.W.emptyDict).Ns s.heap.objs.size (λ_=>none):=⟨PySem.W.emptyDict,#[],_,e1,rfl,(λe he=>absurd he (by simp)),λ_=>rfl⟩;have I1:=I.laid (a:=s.heap.objs.size) (o:=.own (s.heap.objs.size+ 1)) (h':=s.heap.push PySem.W.emptyDict) (t':=s.toks) (λb u q=>Heap.get?_push_of_some _ q) (Nat.le_refl _) ⟨_,e1⟩;refine I1.laid (a:=s.heap.objs.size+ 1) (o:=.ins C s.heap.objs.size []) (t':=s.toks) (λb u q=>Heap.get?_push_of_some _ q) (Nat.le_of_eq (Heap.size_push _ _)) ?_;have ne:s.heap.objs.size≠s.heap.objs.size+ 1:=Nat.ne_of_lt (Nat.lt_succ_self _);refine⟨by rw[upd_ne ne,upd_same],Nat.zero_le _,ne,e2,λ_=>none,(Heap.Ns1.of_empty e3).at λo q=>Heap.get?_push_of_some _ q,λ_=>True.intro,λy hy=>absurd rfl hy⟩
theorem attr_of {prog:Program}{w:World}{env:Env}{e:Expr}{f:Str}{pos:Pos}{s:Shared}{Q:Value->Shared->Prop}(hb:attributeBase e f env (eval e env)=eval e env)
 (h:wpAny (model prog w) A (eval e env) (λo s₁=>wpAny (model prog w) A (getAttr o f true) Q E s₁) E s):wpAny (model prog w) A (eval (.Attribute e f pos) env) Q E s:=
 Attribute_any_ h (by rw[arm_eval_Attribute,hb])
end
def tFld (K:PySem.W.Frag)(ta:TE)(f:Str):TE:=λ σ H Q=>ta σ H λx H1=>∃a C dx fs v,x=.ref a/\H1 a=some (.ins C dx fs)/\Cls K C/\NoAttr K C f/\fs.lookup f=some v/\Q v H1
def sFld (K:PySem.W.Frag)(ta tv:TE)(f:Str):TS:=λD σ H=>tv σ H λy H1=>ta σ H1 λx H2=>∃a C dx fs,x=.ref a/\H2 a=some (.ins C dx fs)/\Cls K C/\NoAttr K C f/\fs.length<1000/\
 D.nx σ (upd H2 a (.ins C dx (putF f y fs)))
section
variable {X:Cx} {o e value:Expr} {f:Str} {pos pos' tpos:Pos} {ta tv:TE}
theorem pe_fld (he:PE X e ta)(hb:attributeBase e f X.env (eval e X.env)=eval e X.env):PE X (.Attribute e f pos) (tFld X.K ta f):=by
 intro pins s σ H Q I h;refine attr_of hb (thn (he pins s σ H _ I h) λu s1 ⟨x,H1,I1,rx,a,C,dx,fs,v,ex,ea,c,n,l,q⟩=>?_);subst ex;obtain rfl:u=Value.ref a:=rx;exact getattr_ok I1 ea c n l λu' s2 I2 ru=>⟨v,H1,I2,ru,q⟩
theorem ps_fld (ha:PE X o ta)(hv:PE X value tv)(hs:swapsWith value (some (.Attribute o f pos')) pos.line X.env=pure false):PS X (.Assign [.Attribute o f pos'] value pos) (sFld X.K ta tv f):=by
 intro pins s σ H D I h;refine plainObj_wpAny_Assign_Attribute (thn (hv pins s σ H _ I h) λu s1 ⟨y,H1,I1,ry,q⟩=>thn (ha pins s1 σ H1 _ I1 q) λov s2 ⟨x,H2,I2,rx,a,C,dx,fs,ex,ea,c,n,l,q2⟩=>?_) hs;subst ex;obtain rfl:ov=Value.ref a:=rx;exact setattr_ok I2 ea c n l ry λs3 I3=>⟨σ,_,I3,q2⟩
end
section
variable {X:Cx} {pins:List (Addr×Obj)} {σ:St} {H:Hp} {s:Shared} {A:Around} {E:Value->Shared->Prop} {Q:Value->Shared->Prop} {c:Value} {b:Bool}
inductive TyOf (K:PySem.W.Frag) (H:Hp):V->Value->Prop where
 |non:TyOf K H .non (.type "NoneType")
 |bl (x:Bool):TyOf K H (.bl x) (.type "bool")
 |int (i:Int):TyOf K H (.int i) (.type "int")
 |str (x:Str):TyOf K H (.str x) (.type "str")
 |flt (x:UInt64):TyOf K H (.flt x) (.type "float")
 |lst {a:Addr} {xs:List V} (e:H a=some (.lst xs)):TyOf K H (.ref a) (.type "list")
 |frz {a:Addr} {o:Obj} {xs:List V} (e:H a=some (.frz o (.lst xs))):TyOf K H (.ref a) (.type "list")
 |tup {a:Addr} {xs:List V} (e:H a=some (.tup xs)):TyOf K H (.ref a) (.type "tuple")
 |dK {a:Addr} {kvs:List (Key×V)} (e:H a=some (.dK kvs)):TyOf K H (.ref a) (.type "dict")
 |dT {a:Addr} {kvs:List (List Key×V)} (e:H a=some (.dT kvs)):TyOf K H (.ref a) (.type "dict")
 |ins {a C dx:Addr} {fs:List (Str×V)} (e:H a=some (.ins C dx fs)) (cl:Cls K C) (ha:PySem.W.findIn K (.ref C) "__class__"=some (some (.builtin "object.__class__")))
  (hn:PySem.W.specialIn K (.builtin "object.__class__") "__get__"=some (some (.builtin "getset_descriptor.__get__"))) (htk:PySem.W.takesIn K (.builtin "object.__class__")=some true)
  (hm:PySem.W.mroIn K C (.type "object")=some true):TyOf K H (.ref a) (.ref C)
theorem isinst_ok {x:V}{u t:Value}(I:Inv X pins σ H s)(rx:RelV x u)(ty:TyOf X.K H x t)(e:PySem.W.kitOne X.K t c=some b)(h:∀tk,Q (.bool b) { s with toks:=tk }):
 wpAny (model X.prog X.w) A (call (.builtin "isinstance") [u,c]) Q E s:=by
 cases ty with
 |non=>cases (show u=Value.none from rx);exact PySem.W.kia_one PySem.W.kitx_none I.kIn True.intro e (λz=>nomatch z) h
 |bl y=>cases (show u=Value.bool y from rx);exact PySem.W.kia_one PySem.W.kitx_bool I.kIn True.intro e (λz=>nomatch z) h
 |int i=>obtain⟨t,q⟩:=(show ∃t,u=Value.int i t from rx);cases q;exact PySem.W.kia_one PySem.W.kitx_int I.kIn True.intro e (λz=>nomatch z) h
 |str y=>obtain⟨t,q⟩:=(show ∃t,u=Value.str y t from rx);cases q;exact PySem.W.kia_one PySem.W.kitx_str I.kIn True.intro e (λz=>nomatch z) h
 |flt y=>obtain⟨t,q⟩:=(show ∃t,u=Value.float y t from rx);cases q;exact PySem.W.kia_one PySem.W.kitx_float I.kIn True.intro e (λz=>nomatch z) h
 | @lst a xs ea=>
   cases (show u=Value.ref a from rx);obtain⟨_,_,n,_,h1⟩:=(show ObjOk X.prog X.w H s.heap a (.lst xs) from I.hok a _ ea);exact PySem.W.kia_one PySem.W.kitx_list I.kIn ⟨_,h1,rfl⟩ e (λz=>nomatch z) h
 | @frz a ob xs ea=>
   cases (show u=Value.ref a from rx);obtain⟨_,_,_,n,_,h1⟩:=(show ObjOk X.prog X.w H s.heap a (.frz ob (.lst xs)) from I.hok a _ ea);exact PySem.W.kia_one PySem.W.kitx_list I.kIn ⟨_,h1,rfl⟩ e (λz=>nomatch z) h
 | @tup a xs ea=>
   cases (show u=Value.ref a from rx);obtain⟨_,_,_,p⟩:=(show ObjOk X.prog X.w H s.heap a (.tup xs) from I.hok a _ ea);obtain⟨o,h1,h2,_⟩:=p;exact PySem.W.kia_one PySem.W.kitx_tuple I.kIn ⟨o,h1,h2⟩ e (λz=>nomatch z) h
 | @dK a kvs ea=>
   cases (show u=Value.ref a from rx);obtain⟨_,_,vs,_,p⟩:=(show ObjOk X.prog X.w H s.heap a (.dK kvs) from I.hok a _ ea);obtain⟨o,es,ep,h1,h2,_⟩:=p;exact PySem.W.kia_one PySem.W.kitx_dict I.kIn ⟨o,h1,h2.1⟩ e (λz=>nomatch z) h
 | @dT a kvs ea=>
   cases (show u=Value.ref a from rx);obtain⟨_,_,xs,_,o,es,ep,h1,h2,_⟩:=(show ObjOk X.prog X.w H s.heap a (.dT kvs) from I.hok a _ ea);exact PySem.W.kia_one PySem.W.kitx_dict I.kIn ⟨o,h1,h2.1⟩ e (λz=>nomatch z) h
 | @ins a C dx fs ea cl ha hn htk hm=>
   cases (show u=Value.ref a from rx);obtain⟨mA,O,_⟩:=ins_get I.hok ea;obtain⟨od,J,_⟩:=O.look;exact PySem.W.kia_one (PySem.W.kitx_own (cl.get _) cl.hd ha hn htk hm) I.kIn J e (λz=>nomatch z) h
end
end L2
namespace L2
open PySem PySem.Spec PyProof.Rows
structure Room (k:Nat) (A:Around):Prop where
 hd:A.handled=none
 dp:A.depth+ 3* k+ 5<recursionLimit
 un:A.units+ 16* k+ 200<cLine
theorem Room.mono {j k:Nat}{A:Around}(r:Room k A)(h:j<=k):Room j A:=⟨r.hd,by have:=r.dp;omega,by have:=r.un;omega⟩
theorem Room.deeper {k:Nat}{A:Around}(r:Room (k+ 1) A)(env:Env):Room k (A.deeper env):=
 ⟨r.hd,by have:=r.dp;show A.depth+ 1+ 3* k+ 5<_;omega,by have:=r.un;show A.units+ 3+ 16* k+ 200<_;omega⟩
theorem Room.in1 {k:Nat}{A:Around}(r:Room (k+ 1) A):Room k A.in1:=
 ⟨r.hd,by have:=r.dp;show A.depth+ 3* k+ 5<_;omega,by have:=r.un;show A.units+ 1+ 16* k+ 200<_;omega⟩
theorem make_depth {A:Around}{C:Addr}{us:List Value}{kw:List (Str×Value)}:(A.under (.builtin "type.__call__" ⟨.ref C::us,kw⟩)).depth=A.depth+ 1:=by
 first|rfl|simp[Around.under,Code.weight,Code.isCreation,Code.isGuard,Code.isCaller,Code.frames,Code.isFrame,guardIds]
theorem make_units {A:Around}{C:Addr}{us:List Value}{kw:List (Str×Value)}:(A.under (.builtin "type.__call__" ⟨.ref C::us,kw⟩)).units=A.units+ 1:=by
 first|rfl|simp[Around.under,Code.cUnits,Code.frames,Code.isFrame]
theorem Room.make {k:Nat}{A:Around}(r:Room (k+ 1) A)(C:Addr)(us:List Value)(kw:List (Str×Value)):Room k (A.under (.builtin "type.__call__" ⟨.ref C::us,kw⟩)):=
 ⟨r.hd,by have:=r.dp;rw[make_depth];omega,by have:=r.un;rw[make_units];omega⟩
theorem Room.depth {k:Nat}{A:Around}(r:Room k A):A.depth<recursionLimit:=by have:=r.dp;omega
theorem Room.units {k:Nat}{A:Around}(r:Room k A):A.units+ 64<cLine:=by have:=r.un;omega
def tNil:TA:=λ_ H Q=>Q [] H
def tCons (ta:TE)(tr:TA):TA:=λ σ H Q=>ta σ H λx H1=>tr σ H1 λxs H2=>Q (x::xs) H2
section
variable {X:Cx} {e:Expr} {es:List Expr} {te:TE} {t:TA} {pos:Pos}
theorem pa_nil:PA X [] tNil:=λ_ _ _ _ H Q I h=>Calls.spliced_nil ⟨[],H,I,.nil,h⟩
theorem pa_cons (ha:PE X e te)(hr:PA X es t)(hs:starEach (e::es) X.env=(false,eval e X.env)::starEach es X.env:=by rfl):PA X (e::es) (tCons te t):=by
 intro pos pins s σ H Q I h;rw[hs];show wpAny _ _ (spliced ((false,eval e X.env)::backTo pos (starEach es X.env))) _ _ s;refine Calls.spliced_cons (thn (ha pins s σ H _ I h) λu s1 ⟨x,H1,I1,r1,q1⟩=>?_);exact thn (hr pos pins s1 σ H1 _ I1 q1) λus s2 ⟨xs,H2,I2,r2,q2⟩=>⟨x::xs,H2,I2,.cons r1 r2,q2⟩
def tTup (t:TA):TE:=λ σ H Q=>t σ H λxs H1=>xs.length<=sizeLine/\∀p,H1 p=none->Q (.ref p) (upd H1 p (.tup xs))
def tLst (t:TA):TE:=λ σ H Q=>t σ H λxs H1=>xs.length<=sizeLine/\∀p,H1 p=none->Q (.ref p) (upd H1 p (.lst xs))
theorem pe_tup {x1}(h:PA X es t):PE X (.Tuple es x1 pos) (tTup t):=by
 intro pins s σ H Q I hq;refine wpAny_Tuple_spliced (thn (h pos pins s σ H _ I hq) λus s1 ⟨xs,H1,I1,r,z,q⟩=>⟨by rw[←r.length];exact z,?_⟩);have hf:H1 s1.heap.objs.size=none:=I1.hok.fresh (Nat.le_refl _);refine⟨.ref s1.heap.objs.size,upd H1 s1.heap.objs.size (.tup xs),I1.laid (t':=s1.toks) (λb u e=>Heap.get?_push_of_some _ e) (Nat.le_refl _) ?_,rfl,q _ hf⟩;exact⟨z,us,r,⟨_,Heap.get?_push_size _ rfl,rfl,_,rfl⟩⟩
theorem pe_lst (h:PA X es t):PE X (.List es pos) (tLst t):=by
 intro pins s σ H Q I hq;refine wpAny_List_spliced (thn (h pos pins s σ H _ I hq) λus s1 ⟨xs,H1,I1,r,z,q⟩=>⟨by rw[←r.length];exact z,?_⟩);have hf:H1 s1.heap.objs.size=none:=I1.hok.fresh (Nat.le_refl _);refine⟨.ref s1.heap.objs.size,upd H1 s1.heap.objs.size (.lst xs),I1.laid (t':=s1.toks) (λb u e=>Heap.get?_push_of_some _ e) (Nat.le_refl _) ?_,rfl,q _ hf⟩;exact⟨z,us,0,r,Heap.get?_push_size _ rfl⟩
end
abbrev Sp:=List V->Hp->VK->XK->Prop
abbrev CXT:=List Env->Hp->Shared->XK->Value->Shared->Prop
structure Env0 (P:Program) (w:World) (K:PySem.W.Frag) (mg:Str->Option Value) (base:Heap) (A:Around) (outer:List Env) (s:Shared) (H:Hp):Prop where
 frames:A.frames=some outer
 mod:Mod K mg base
 bs:∀b o,base.get? b=some o->s.heap.get? b=some o/\H b=none
 bsz:base.objs.size<=s.heap.objs.size
 funs:s.heap.FunFrames base outer
 frf:∀b∈frs outer,H b=none
 hok:HOk P w H s.heap
 bare:AllBare s.gens
def CE (outer:List Env)(P:Program)(w:World)(H:Hp)(s:Shared)(Q:VK)(u:Value)(s':Shared):Prop:=
 ∃v H',s'.os=s.os/\AllBare s'.gens/\Un (frs outer) [] H H' s.heap s'.heap/\HOk P w H' s'.heap/\RelV v u/\Q v H'
def CR (CX:CXT)(outer:List Env)(P:Program)(w:World)(H:Hp)(s:Shared)(Q:VK)(E:XK)(r:Result)(s':Shared):Prop:=
 match r with
 |.ok (.ret u)=>CE outer P w H s Q u s'
 |.ok _=>False
 |.error e=>CX outer H s E e s'
structure FnOk (P:Program) (w:World) (K:PySem.W.Frag) (mg:Str->Option Value) (base:Heap) (CX:CXT) (k:Nat) (f:Addr) (fd:FuncData) (ps:List Str) (sp:Sp):Prop where
 len:∀vs H Q E,sp vs H Q E->vs.length=ps.length
 run:∀(A:Around) (outer:List Env) (s:Shared) (H:Hp) (args:Args) (us:List Value) (vs:List V) (Q:VK) (E:XK),Room k A->Env0 P w K mg base A outer s H->BindsTo s fd args (ps.zip us)->Vals vs us->sp vs H Q E->
  codeAny (model P w) A (.call (.ref f) args) (CR CX outer P w H s Q E) s
theorem Env0.make {P:Program}{w:World}{K:PySem.W.Frag}{mg:Str->Option Value}{base:Heap}{A:Around}{outer:List Env}{s:Shared}{H:Hp}(e:Env0 P w K mg base A outer s H)(C:Addr)(us:List Value)(kw:List (Str×Value)):
 Env0 P w K mg base (A.under (.builtin "type.__call__" ⟨.ref C::us,kw⟩)) outer s H:=⟨by first|exact e.frames|(simpa [Around.under,Code.envs,Code.isFrame,pushEnvs] using e.frames),e.mod,e.bs,e.bsz,e.funs,e.frf,e.hok,e.bare⟩
theorem Env0.in1 {P:Program}{w:World}{K:PySem.W.Frag}{mg:Str->Option Value}{base:Heap}{A:Around}{outer:List Env}{s:Shared}{H:Hp}(e:Env0 P w K mg base A outer s H):
 Env0 P w K mg base A.in1 outer s H:=⟨e.frames,e.mod,e.bs,e.bsz,e.funs,e.frf,e.hok,e.bare⟩
section
variable {X:Cx} {pins:List (Addr×Obj)} {σ:St} {H:Hp} {s s':Shared}
theorem Inv.env0 (I:Inv X pins σ H s):Env0 X.prog X.w X.K X.mg X.base X.A X.stack s H:=
 ⟨I.ok.frames,I.ok.mod,I.bs,Nat.le_trans I.ok.bsz I.sz,I.stack,I.stkFree,I.hok,I.bare⟩
theorem Inv.after {Q:VK}{u:Value}(I:Inv X pins σ H s)(h:CE X.stack X.prog X.w H s Q u s'):EP X pins σ Q u s':=by
 obtain⟨v,H',os,bare,un,hok,r,q⟩:=h;obtain⟨hh,g,d,t,os'⟩:=s';obtain rfl:os'=s.os:=os;exact⟨v,H',I.call (h':=hh) (g':=g) (d':=d) (t':=t) (ch:=[]) un hok bare (λb z=>absurd z (by simp)),r,q⟩
end
def tCall (sp:Sp)(dvs:List V)(E:XK)(t:TA):TE:=λ σ H Q=>t σ H λvs H1=>sp (vs++dvs) H1 Q E
def tMeth (C:Addr)(m:Str)(sp:Sp)(dvs:List V)(E:XK)(ta:TE)(t:TA):TE:=λ σ H Q=>ta σ H λx H1=>∃a dx fs,x=.ref a/\H1 a=some (.ins C dx fs)/\fs.lookup m=none/\
 t σ H1 λvs H2=>sp (x::(vs++dvs)) H2 Q E
def tMake (C:Addr)(sp:Sp)(dvs:List V)(E:XK)(t:TA):TE:=λ σ H Q=>t σ H λvs H1=>∀x dx,H1 x=none->H1 dx=none->dx≠x->
 sp (.ref x::(vs++dvs)) (upd (upd H1 dx (.own x)) x (.ins C dx [])) (λv H2=>v=.non/\Q (.ref x) H2) E
def Binds (K:PySem.W.Frag)(fd:FuncData)(ps:List Str)(ds:List Value):Prop:=
 ∀(s:Shared) (us:List Value),K.In s.heap->(us++ds).length=ps.length->BindsTo s fd ⟨us,[]⟩ (ps.zip (us++ds))
theorem Binds.all {K:PySem.W.Frag}{fd:FuncData}{ps:List Str}(h:∀us:List Value,us.length=ps.length->bindArgs fd ⟨us,[]⟩=pure (ps.zip us)):Binds K fd ps []:=λs us _ hl=>by
 rw[List.append_nil]at hl ⊢;exact .of_eq (h us hl)
def Passes (CX:CXT)(X:Cx)(E:XK):Prop:=∀(pins:List (Addr×Obj)) (σ:St) (H:Hp) (s:Shared) (e:Value) (s':Shared),Inv X pins σ H s->CX X.stack H s E e s'->X.xe e s'
section
variable {X:Cx} {CX:CXT} {k:Nat} {f C:Addr} {fd:FuncData} {ps:List Str} {sp:Sp} {dvs:List V} {ds:List Value} {E:XK} {x m:Str} {p pos apos:Pos} {e o:Expr} {es:List Expr} {ta:TE} {t:TA}
theorem run_fn {pins:List (Addr×Obj)}{σ:St}{H:Hp}{s:Shared}{Q:VK}{us:List Value}{vs:List V}(F:FnOk X.prog X.w X.K X.mg X.base CX k f fd ps sp)(hr:Room k X.A)(hb:Binds X.K fd ps ds)(hd:Vals dvs ds)(hx:Passes CX X E)
 (I:Inv X pins σ H s) (r:Vals vs us) (h:sp (vs++dvs) H Q E):wpAny (model X.prog X.w) X.A (call (.ref f) us) (EP X pins σ Q) X.xe s:=by
 have r2:Vals (vs++dvs) (us++ds):=r.append hd;have hl:(us++ds).length=ps.length:=by rw[←r2.length];exact F.len _ _ _ _ h
 refine wpAny_call (codeAny_mono (F.run X.A X.stack s H ⟨us,[]⟩ (us++ds) (vs++dvs) Q E hr I.env0 (hb s us I.kIn hl) r2 h) λr s' hq=>?_)
 cases r with
 |error e=>exact hx pins σ H s e s' I hq
 |ok fl=>
  cases fl with
  |ret u=>exact I.after hq
  |next=>exact False.elim hq
  |brk=>exact False.elim hq
  |cont=>exact False.elim hq
theorem pe_call (F:FnOk X.prog X.w X.K X.mg X.base CX k f fd ps sp)(hr:Room k X.A)(hg:Gl X x)(hm:X.mg x=some (.ref f))(hk:PySem.W.keepIn X.K (.ref f)=true)(hb:Binds X.K fd ps ds)(hd:Vals dvs ds)(hx:Passes CX X E)
 (ha:PA X (e::es) t) (hdb:(x==("__debug__":Str))=false:=by decide) (he:starEach (e::es) X.env=(false,eval e X.env)::starEach es X.env:=by rfl) (hpl:(backTo pos (starEach es X.env)).any (·.1)=false:=by rfl):
 PE X (.Call (.Name x p) (e::es) [] pos) (tCall sp dvs E t):=by
 intro pins s σ H Q I h;refine wpAny_Call_Name_kw (ld_glob I hg hm ?_ hdb);refine PySem.W.callWith_K (h₀:=X.base) I.ok.mod.kin hk (thn (ha pos pins s σ H _ I h) λus s1 ⟨vs,H1,I1,r,q⟩=>⟨I1.kIn,?_⟩) he hpl;exact run_fn F hr hb hd hx I1 r q
theorem pe_meth {pl:Sem Bool}(he:PE X o ta)(c:Cls X.K C)(hm:Meth X.K C m f)(F:FnOk X.prog X.w X.K X.mg X.base CX k f fd ps sp)(hr:Room k X.A)(hb:Binds X.K fd ps ds)(hd:Vals dvs ds)(hx:Passes CX X E)(ha:PA X (e::es) t)
 (hst:starEach (e::es) X.env=(false,eval e X.env)::starEach es X.env:=by rfl) (hpl:(backTo pos (starEach es X.env)).any (·.1)=false:=by rfl)
 (ht:eval (.Call (.Attribute o m apos) (e::es) [] pos) X.env=(do
  let ov ←eval o X.env
  standAt apos.atName
  let (f,first) ←holding [ov] (getMethod ov m pl)
  callWith pos f first (backTo pos (starEach (e::es) X.env)) (backToKw pos (keywordEach [] X.env))):=by rfl):
 PE X (.Call (.Attribute o m apos) (e::es) [] pos) (tMeth C m sp dvs E ta t):=by
 intro pins s σ H Q I h;refine PySem.W.methodCall_KW (pl:=pl) (thn (he pins s σ H _ I h) λu s1 ⟨x,H1,I1,rx,a,dx,fs,ex,ea,l,q⟩=>?_) ht;subst ex;obtain rfl:u=Value.ref a:=rx;refine getmeth_ok I1 ea c hm l ?_;refine PySem.W.callWith_K (first:=[.ref a]) (h₀:=X.base) I.ok.mod.kin hm.kp (thn (ha pos pins s1 σ H1 _ I1 q) λus s2 ⟨vs,H2,I2,r,q2⟩=>⟨I2.kIn,?_⟩) hst hpl;exact run_fn (us:=.ref a::us) (vs:=.ref a::vs) F hr hb hd hx I2 (.cons rfl r) q2
theorem pe_meth0 {pl:Sem Bool}(he:PE X o ta)(c:Cls X.K C)(hm:Meth X.K C m f)(F:FnOk X.prog X.w X.K X.mg X.base CX k f fd ps sp)(hr:Room k X.A)(hb:Binds X.K fd ps ds)(hd:Vals dvs ds)(hx:Passes CX X E)
 (ht:eval (.Call (.Attribute o m apos) [] [] pos) X.env=(do
  let ov ←eval o X.env
  standAt apos.atName
  let (f,first) ←holding [ov] (getMethod ov m pl)
  callWith pos f first (backTo pos (starEach [] X.env)) (backToKw pos (keywordEach [] X.env))):=by rfl):
 PE X (.Call (.Attribute o m apos) [] [] pos) (tMeth C m sp dvs E ta tNil):=by
 intro pins s σ H Q I h;refine PySem.W.methodCall_KW (pl:=pl) (thn (he pins s σ H _ I h) λu s1 ⟨x,H1,I1,rx,a,dx,fs,ex,ea,l,q⟩=>?_) ht;subst ex;obtain rfl:u=Value.ref a:=rx;refine getmeth_ok I1 ea c hm l ?_;exact PySem.W.callWith_K0 (first:=[.ref a]) I1.kIn hm.kp (run_fn (us:=[.ref a]) (vs:=[.ref a]) F hr hb hd hx I1 (.cons rfl .nil) q)
structure Mk (K:PySem.W.Frag) (C f:Addr):Prop where
 makes:PySem.W.makesIn K C=true
 init:PySem.W.findIn K (.ref C) "__init__"=some (some (.ref f))
 fn:PySem.W.isFn K (.ref f)=true
 kp:PySem.W.keepIn K (.ref C)=true
theorem run_make {pins:List (Addr×Obj)}{σ:St}{H:Hp}{s:Shared}{Q:VK}{us:List Value}{vs:List V}(M:Mk X.K C f)(F:FnOk X.prog X.w X.K X.mg X.base CX k f fd ps sp)(hr:Room (k+ 1) X.A)(hb:Binds X.K fd ps ds)(hd:Vals dvs ds)
 (hx:Passes CX X E) (I:Inv X pins σ H s) (r:Vals vs us)
 (h:∀x dx,H x=none->H dx=none->dx≠x->sp (.ref x::(vs++dvs)) (upd (upd H dx (.own x)) x (.ins C dx [])) (λv H2=>v=.non/\Q (.ref x) H2) E):
 wpAny (model X.prog X.w) X.A (call (.ref C) us) (EP X pins σ Q) X.xe s:=by
 have hq:=h (s.heap.objs.size+ 1) s.heap.objs.size (I.hok.fresh (Nat.le_succ _)) (I.hok.fresh (Nat.le_refl _)) (Nat.ne_of_lt (Nat.lt_succ_self _));have I2:=Inv.made (C:=C) I;have r2:Vals (V.ref (s.heap.objs.size+ 1)::(vs++dvs)) (Value.ref (s.heap.objs.size+ 1)::(us++ds)):=.cons rfl (r.append hd)
 have hl:(Value.ref (s.heap.objs.size+ 1)::us++ds).length=ps.length:=by
  have e:=r2.length;rw[F.len _ _ _ _ hq]at e;exact e.symm
 refine wpAny_call (make_map (f:=f) I.kIn M.makes M.init (beq_iff_eq.mp M.fn) (codeAny_mono (F.run _ X.stack _ _ ⟨Value.ref (s.heap.objs.size+ 1)::us,[]⟩ (Value.ref (s.heap.objs.size+ 1)::(us++ds)) _ _ E (hr.make C us [])
  (I2.env0.make C us []) (hb _ (Value.ref (s.heap.objs.size+ 1)::us) I2.kIn hl) r2 hq) λr s' hq'=>?_))
 cases r with
 |error e=>exact hx pins σ _ _ e s' I2 hq'
 |ok fl=>
  cases fl with
  |ret u=>
   obtain⟨v,H',I3,rv,ev,q3⟩:=I2.after hq';subst ev;exact⟨rv,⟨V.ref (s.heap.objs.size+ 1),H',I3,rfl,q3⟩⟩
  |next=>exact False.elim hq'
  |brk=>exact False.elim hq'
  |cont=>exact False.elim hq'
theorem pe_make (M:Mk X.K C f)(F:FnOk X.prog X.w X.K X.mg X.base CX k f fd ps sp)(hr:Room (k+ 1) X.A)(hg:Gl X x)(hm:X.mg x=some (.ref C))(hb:Binds X.K fd ps ds)(hd:Vals dvs ds)(hx:Passes CX X E)
 (ha:PA X (e::es) t) (hdb:(x==("__debug__":Str))=false:=by decide) (he:starEach (e::es) X.env=(false,eval e X.env)::starEach es X.env:=by rfl) (hpl:(backTo pos (starEach es X.env)).any (·.1)=false:=by rfl):
 PE X (.Call (.Name x p) (e::es) [] pos) (tMake C sp dvs E t):=by
 intro pins s σ H Q I h;refine wpAny_Call_Name_kw (ld_glob I hg hm ?_ hdb);refine PySem.W.callWith_K (h₀:=X.base) I.ok.mod.kin M.kp (thn (ha pos pins s σ H _ I h) λus s1 ⟨vs,H1,I1,r,q⟩=>⟨I1.kIn,?_⟩) he hpl;exact run_make M F hr hb hd hx I1 r q
end
def PK (X:Cx)(kws:List Keyword)(t:TA):Prop:=
 ∀(pos:Pos) (pins:List (Addr×Obj)) (s:Shared) (σ:St) (H:Hp) (Q:List V->Hp->Prop),Inv X pins σ H s->t σ H Q->wpAny (model X.prog X.w) X.A (evalAll ((backToKw pos (keywordEach kws X.env)).map (·.2))) (AP X pins σ Q) X.xe s
section
variable {X:Cx} {CX:CXT} {k:Nat} {f C:Addr} {fd:FuncData} {ps ks:List Str} {sp:Sp} {E:XK} {x m:Str} {p pos apos kpos:Pos} {e o:Expr} {es:List Expr} {kws:List Keyword} {te ta:TE} {t tk:TA} {nm:Option Str}
theorem pk_nil:PK X [] tNil:=λ_ _ _ _ H Q I h=>wpAny_evalAll_nil ⟨[],H,I,.nil,h⟩
theorem pk_cons (ha:PE X e te)(hr:PK X kws t):PK X (⟨nm,e,kpos⟩::kws) (tCons te t):=by
 intro pos pins s σ H Q I h;show wpAny _ _ (evalAll ((do let v ←eval e X.env;standAt pos;pure v)::(backToKw pos (keywordEach kws X.env)).map (·.2))) _ _ s;refine wpAny_evalAll_cons (wpAny_bind (thn (ha pins s σ H _ I h) λu s1 ⟨x,H1,I1,r1,q1⟩=>wpAny_bind (wpAny_standAt (wpAny_pure ?_))));exact thn (hr pos pins s1 σ H1 _ I1 q1) λus s2 ⟨xs,H2,I2,r2,q2⟩=>⟨x::xs,H2,I2,.cons r1 r2,q2⟩
structure KBinds (K:PySem.W.Frag) (fd:FuncData) (ps ks:List Str) (g:List Value->List Value->List Value) (gV:List V->List V->List V):Prop where
 to:∀(s:Shared) (us ws:List Value),K.In s.heap->(g us ws).length=ps.length->BindsTo s fd ⟨us,ks.zip ws⟩ (ps.zip (g us ws))
 rel:∀{vs:List V} {us:List Value} {zs:List V} {ws:List Value},Vals vs us->Vals zs ws->Vals (gV vs zs) (g us ws)
variable {g:List Value->List Value->List Value} {gV:List V->List V->List V}
end
structure FnScope (N P:List Str) (sc:Scope):Prop where
 kind:sc.kind=.function
 co:sc.isCoroutine=false
 gen:sc.isGenerator=false
 nd:N.Nodup
 pre:N.take P.length=P
 par:∀x∈P,sc.names.lookup x=some .local\/sc.names.lookup x=some .cell
 nofree:∀y∈sc.names,y.2≠.free
theorem bindL_out {kindOf:Str->Option NameKind}{x:Str}:∀{binds:List (Str×Value)} {m:Str->Option Value},(∀v,(x,v)∉binds)->bindL kindOf binds m x=m x
 |[],_,_=>rfl
 |(n,v)::r,m,h=>by
  unfold bindL;rw[bindL_out λw hw=>h w (List.mem_cons_of_mem _ hw)];split
  ·have:x≠n:=by rintro rfl;exact h v List.mem_cons_self
   simp[this]
  ·rfl
theorem bindC_out {kindOf:Str->Option NameKind}{x:Str}:∀{binds:List (Str×Value)} {m:Str->Option Value},(∀v,(x,v)∉binds)->bindC kindOf binds m x=m x
 |[],_,_=>rfl
 |(n,v)::r,m,h=>by
  unfold bindC;rw[bindC_out λw hw=>h w (List.mem_cons_of_mem _ hw)];split
  ·rfl
  ·have:x≠n:=by rintro rfl;exact h v List.mem_cons_self
   simp[this]
theorem bindL_get {kindOf:Str->Option NameKind}{x:Str}{v:Value}:∀{P:List Str} {vs:List Value} {i:Nat} {m:Str->Option Value},P.Nodup->P[i]?=some x->vs[i]?=some v->kindOf x=some .local->
 bindL kindOf (P.zip vs) m x=some v
 |[],_,_,_,_,h,_,_=>by simp at h
 |_::_,[],_,_,_,_,h,_=>by simp at h
 |p::P,w::vs,0,m,nd,h1,h2,hk=>by
  simp at h1 h2;subst h1;subst h2;show bindL kindOf ((p,w)::P.zip vs) m p=_;unfold bindL;rw[bindL_out λv hv=>(List.nodup_cons.mp nd).1 (List.of_mem_zip hv).1,if_pos hk];simp
 |p::P,w::vs,i+ 1,m,nd,h1,h2,hk=>by
  show bindL kindOf ((p,w)::P.zip vs) m x=_;unfold bindL;exact bindL_get (i:=i) (List.nodup_cons.mp nd).2 (by simpa using h1) (by simpa using h2) hk
theorem bindC_get {kindOf:Str->Option NameKind}{x:Str}{v:Value}:∀{P:List Str} {vs:List Value} {i:Nat} {m:Str->Option Value},P.Nodup->P[i]?=some x->vs[i]?=some v->kindOf x≠some .local->
 bindC kindOf (P.zip vs) m x=some v
 |[],_,_,_,_,h,_,_=>by simp at h
 |_::_,[],_,_,_,_,h,_=>by simp at h
 |p::P,w::vs,0,m,nd,h1,h2,hk=>by
  simp at h1 h2;subst h1;subst h2;show bindC kindOf ((p,w)::P.zip vs) m p=_;unfold bindC;rw[bindC_out λv hv=>(List.nodup_cons.mp nd).1 (List.of_mem_zip hv).1,if_neg hk];simp
 |p::P,w::vs,i+ 1,m,nd,h1,h2,hk=>by
  show bindC kindOf ((p,w)::P.zip vs) m x=_;unfold bindC;exact bindC_get (i:=i) (List.nodup_cons.mp nd).2 (by simpa using h1) (by simpa using h2) hk
def start (N:List Str)(vs:List V):St:=vs.map some++List.replicate (N.length - vs.length) none
def cxOf (CX:CXT)(P:Program)(w:World)(K:PySem.W.Frag)(mg:Str->Option Value)(base:Heap)(N:List Str)(qual:Str)(scope:Scope)(f:Addr)(cd:Value)(A:Around)(outer:List Env)(s:Shared)(H:Hp)(E:XK):Cx where
 prog:=P
 w:=w
 K:=K
 mg:=mg
 base:=base
 A:=A.deeper (envOfC qual scope s.heap.objs.size f cd)
 N:=N
 s₀:=s
 H₀:=H
 env:=envOfC qual scope s.heap.objs.size f cd
 outer:=outer
 stack:=envOfC qual scope s.heap.objs.size f cd::outer
 ex:=[]
 calm:=true
 fn:=λ_=>true
 pn:=[]
 xe:=λe s'=>wpAny (model P w) (A.deeper (envOfC qual scope s.heap.objs.size f cd)) (leaving (envOfC qual scope s.heap.objs.size f cd) e) (λ_ s''=>CX outer H s E e s'') (λe' s''=>CX outer H s E e' s'') s'
theorem cell_has {sc:Scope}{n:Nat}{x:Str}(h:sc.names.lookup x=some .cell):∃c,(cellsFrom n sc.names []).lookup x=some c:=by
 have q:=PySem.W.cellsFrom_some sc.names n [] (.inl h);exact Option.isSome_iff_exists.mp q
theorem inv_start {CX:CXT}{P:Program}{w:World}{K:PySem.W.Frag}{mg:Str->Option Value}{base:Heap}{N ps:List Str}{qual:Str}{scope:Scope}{f:Addr}{cd:Value}{A:Around}{outer:List Env}{s s1:Shared}{H:Hp}{E:XK}{us:List Value}{vs:List V}
 (S:FnScope N ps scope) (hd:A.handled=none) (e0:Env0 P w K mg base A outer s H) (hl:vs.length=ps.length) (r:Vals vs us)
 (x:InCallC s s.heap.objs.size (bindL (envOfC qual scope s.heap.objs.size f cd).kindOf (ps.zip us) λ_=>none) (cellsFrom (s.heap.objs.size+ 1) scope.names []) (bindC (envOfC qual scope s.heap.objs.size f cd).kindOf (ps.zip us) λ_=>none) s1):
 Inv (cxOf CX P w K mg base N qual scope f cd A outer s H E) [] (start N vs) H s1:=by
 have hpl:ps.length<=N.length:=by have:=congrArg List.length S.pre;rw[List.length_take]at this;omega
 obtain⟨h1,tk,rfl,hk⟩:=x.done;have noA:∀b:Addr,b∉(cxOf CX P w K mg base N qual scope f cd A outer s H E).ex:=λb z=>absurd (show b∈([]:List Addr) from z) (by simp)
 refine⟨⟨e0.mod,S.kind,rfl,rfl,Nat.le_refl _,λy z c h1 h2=>?_,λy hy=>?_,λy c _ h=>?_,λ_=>hd,Around.frames_deeper e0.frames,.inr ⟨rfl,rfl⟩,λb z=>absurd z (noA b),e0.bs,e0.bsz,λb _ _=>noA b,λb z=>absurd z (noA b),e0.funs,e0.frf⟩,
  rfl,e0.bare,Un.kept hk,⟨_,x.toInCall.ns,λi y v h1 h2 h3=>?_⟩,λy c h=>⟨_,x.cell y c h⟩,e0.hok.fresh (Nat.le_refl _),λy c h=>?_,λp hp=>absurd (show p∈([]:List (Addr×Obj)) from hp) (by simp),e0.hok.kept hk,?_⟩
 ·exact name_of_addr x.apart (PySem.mem_of_lookup h1) (PySem.mem_of_lookup h2)
 ·have hy:scope.names.lookup y=some .cell\/scope.names.lookup y=some .free:=hy;rcases hy with hy|hy
  ·exact cell_has hy
  ·exact absurd rfl (S.nofree _ (PySem.mem_of_lookup hy))
 ·exact Nat.le_of_lt (x.above y c (PySem.mem_of_lookup h))
 ·have hi:i<vs.length:=by
   unfold start at h2;by_cases hi:i<vs.length
   ·exact hi
   ·rw[List.getElem?_append_right (by simpa using hi)]at h2;rw[List.getElem?_replicate]at h2;split at h2 <;> cases h2
  have ha:vs[i]?=some v:=by
   unfold start at h2;rw[List.getElem?_append_left (by simpa using hi),List.getElem?_map]at h2
   cases e:vs[i]? with
   |none=>rw[e]at h2;cases h2
   |some a=>rw[e]at h2;cases h2;rfl
  obtain⟨u,hu,rv⟩:=r.get ha
  have hp:ps[i]?=some y:=by
   rw[←S.pre,List.getElem?_take_of_lt (by omega)];exact h1
  have ndP:ps.Nodup:=by rw[←S.pre];exact S.nd.sublist (List.take_sublist _ _)
  refine⟨u,rv,?_⟩;rcases S.par y (List.mem_of_getElem? hp) with k|k
  ·exact .inl ⟨k,bindL_get ndP hp hu k⟩
  ·obtain⟨c,e⟩:=cell_has (n:=s.heap.objs.size+ 1) k;refine .inr ⟨.inl k,c,e,?_⟩;have q:=x.cell y c e;rw[bindC_get ndP hp hu (by show scope.names.lookup y≠_;rw[k];decide)]at q;exact q
 ·exact e0.hok.fresh (Nat.le_of_lt (x.above y c (PySem.mem_of_lookup h)))
 ·unfold start;show _=N.length;rw[List.length_append,List.length_map,List.length_replicate];omega
theorem fn_of {CX:CXT}{P:Program}{w:World}{K:PySem.W.Frag}{mg:Str->Option Value}{base:Heap}{k:Nat}{f:Addr}{name qual:Str}{params:Arguments}{body:List Stmt}{scope:Scope}{dV kV doc pm cdv ct oc:Value}{an od:Option Addr}
 {osl:Array (Option Value)} {N ps:List Str} {sp:Sp} (lk:K.lookup f=some ⟨oc,od,.func (PySem.W.fnOf name qual params body scope dV kV doc pm an cdv ct),osl⟩) (hcd:PySem.W.codeIn K cdv qual=true) (S:FnScope N ps scope)
 (len:∀vs H Q E,sp vs H Q E->vs.length=ps.length)
 (hbody:∀(A:Around) (outer:List Env) (s:Shared) (H:Hp) (vs:List V) (Q:VK) (E:XK),Room k (A.deeper (envOfC qual scope s.heap.objs.size f cdv))->sp vs H Q E->
  ∃t,PSs (cxOf CX P w K mg base N qual scope f cdv A outer s H E) body t/\t { nx:=λ_ H'=>Q .non H',rt:=Q } (start N vs) H):
 FnOk P w K mg base CX (k+ 1) f (PySem.W.fnOf name qual params body scope dV kV doc pm an cdv ct) ps sp:=by
 refine⟨len,λA outer s H args us vs Q E hr e0 hb r hsp=>?_⟩;have hl:=len _ _ _ _ hsp;have KX:K.In s.heap:=e0.mod.kin.keeps λb o e=>(e0.bs b o e).1
 have lim:s.heap.NoLimit:=e0.mod.nolimit.keeps λb o e=>(e0.bs b o e).1
 have hkind:∀y∈ps.zip us,scope.names.lookup y.1=some .local\/(scope.names.lookup y.1=some .cell/\((cellsFrom (s.heap.objs.size+ 1) scope.names []).lookup y.1).isSome=true):=λ⟨n,v⟩ hy=>by
  rcases S.par n (List.of_mem_zip hy).1 with q|q
  ·exact .inl q
  ·exact .inr ⟨q,PySem.W.cellsFrom_some _ _ _ (.inl q)⟩
 refine codeAny_call_function hr.depth (KX _ _ lk) rfl S.co S.gen rfl (PySem.W.codeRec_of KX hcd) (hb _ _ _ _ ?_);refine wpAny_newFunctionEnv_cells S.kind hkind λenv he s1 x=>?_
 subst he;refine⟨lim.keeps x.toInCall.keep,codeAny_func ?_⟩;obtain⟨t,ht,hq⟩:=hbody A outer s H vs Q E (hr.deeper _) hsp;have I:Inv (cxOf CX P w K mg base N qual scope f cdv A outer s H E) [] (start N vs) H s1:=inv_start S hr.hd e0 hl r x;refine wpAny_mono (ht [] s1 (start N vs) H _ I hq) (λfl s' hs=>?_) λe s' hs=>hs
 have fin:∀{σ':St} {H':Hp} {v:V} {u:Value},Inv (cxOf CX P w K mg base N qual scope f cdv A outer s H E) [] σ' H' s'->RelV v u->Q v H'->CE outer P w H s Q u s':=
  λ{σ' H' v u} J rv q=>⟨v,H',J.os,J.bare,J.base,J.hok,rv,q⟩
 cases fl with
 |ret u=>
  obtain⟨v,σ',H',J,rv,q⟩:=hs;exact fin J rv q
 |next=>
  obtain⟨σ',H',J,q⟩:=hs;exact fin (v:=V.non) (u:=Value.none) J rfl q
 |brk=>
  obtain⟨_,_,_,q⟩:=hs;exact False.elim q
 |cont=>
  obtain⟨_,_,_,q⟩:=hs;exact False.elim q
end L2
namespace L2
open PySem PySem.Spec PyProof.Rows
section
variable {X:Cx} {x:Str} {p pos:Pos} {e:Expr} {es:List Expr} {t:TA} {id T:String} {r:List V->Hp->VK->Prop}
def tCB (r:List V->Hp->VK->Prop)(t:TA):TE:=λ σ H Q=>t σ H λvs H1=>r vs H1 Q
theorem pe_callB (hc:CallR X (.builtin id) r)(hg:Gl X x)(hm:X.mg x=none)(hv:bootBuiltins x=some (.builtin id))(ha:PA X (e::es) t)(hn:x≠"__name__":=by decide)(hdb:(x==("__debug__":Str))=false:=by decide)
 (he:starEach (e::es) X.env=(false,eval e X.env)::starEach es X.env:=by rfl) (hpl:(backTo pos (starEach es X.env)).any (·.1)=false:=by rfl):PE X (.Call (.Name x p) (e::es) [] pos) (tCB r t):=by
 intro pins s σ H Q I h;refine wpAny_Call_Name_kw (ld_blt I hg hm hv ?_ hn hdb);exact PyProof.Rows.callWith_builtin1 (thn (ha pos pins s σ H _ I h) λus s1 ⟨vs,H1,I1,r1,q1⟩=>hc pins s1 σ H1 vs us Q I1 r1 q1) he hpl
theorem pe_callTy (hc:CallR X (.type T) r)(hg:Gl X x)(hm:X.mg x=none)(hv:bootBuiltins x=some (.type T))(ha:PA X (e::es) t)(hn:x≠"__name__":=by decide)(hdb:(x==("__debug__":Str))=false:=by decide)
 (he:starEach (e::es) X.env=(false,eval e X.env)::starEach es X.env:=by rfl) (hpl:(backTo pos (starEach es X.env)).any (·.1)=false:=by rfl):PE X (.Call (.Name x p) (e::es) [] pos) (tCB r t):=by
 intro pins s σ H Q I h;refine wpAny_Call_Name_kw (ld_blt I hg hm hv ?_ hn hdb);exact PyProof.Rows.callWith_type1 (thn (ha pos pins s σ H _ I h) λus s1 ⟨vs,H1,I1,r1,q1⟩=>hc pins s1 σ H1 vs us Q I1 r1 q1) he hpl
end
end L2
namespace HT
open PySem PyProof.Rows
def lexLt:List Int->List Int->Bool
 |[],[]=>false
 |[],_::_=>true
 |_::_,[]=>false
 |x::xs,y::ys=>if x=y then lexLt xs ys else decide (x<y)
theorem lexLt_cons (x y:Int)(xs ys:List Int):lexLt (x::xs) (y::ys)=if x=y then lexLt xs ys else decide (x<y):=rfl
theorem lexLt_nil_nil:lexLt [] []=false:=rfl
theorem lexLt_nil_cons (y:Int)(ys:List Int):lexLt [] (y::ys)=true:=rfl
theorem lexLt_cons_nil (x:Int)(xs:List Int):lexLt (x::xs) []=false:=rfl
theorem eqAt_int (A:Around)(s:Shared)(a:Int)(t:Tok)(c:Int)(u:Tok):∃e,SeqAt.EqAt A s (.int a t) (.int c u) e/\(e=true↔a=c):=
 ⟨(a==c),SeqAt.EqAt.int_int a t c u,by simp⟩
theorem rcLt_int (A:Around)(s:Shared)(a:Int)(t:Tok)(c:Int)(u:Tok)(prog:Program)(w:World)(E:Value->Shared->Prop)(Q:Value->Shared->Prop)(h:Q (.bool (decide (a<c))) s):
 wpAny (model prog w) A (richCompare .Lt (.int a t) (.int c u)) Q E s:=
 (PyProof.Rows.lt_int h:wpAny (model prog w) A (compareOp .Lt (.int a t) (.int c u)) Q E s)
section
open PySem.SeqAt
open PySem.AutoSeq1 (wpAny_loadPart')
open PySem.MeetsSeq PySem.MeetsSeq2 PySem.MeetsSeq3
theorem tuple_lt_ints (l b:Addr)(items items2:Array Value)(n n2:Nat)(dd dd2:Option Addr)(sl sl2:Array (Option Value))(ns ms:List Int)(hi:IntsAre items.toList ns)(hj:IntsAre items2.toList ms):
 Meets (Builtin.«tuple.__lt__» ⟨[.ref l,.ref b],[]⟩)
  (λ_ R s=>s.heap.get? l=some { cls:=.type "tuple",dict:=dd,data:=.seq items n,slots:=sl }/\s.heap.get? b=some { cls:=.type "tuple",dict:=dd2,data:=.seq items2 n2,slots:=sl2 }/\
   R (.ok (.ret (.bool (lexLt ns ms)))) s):=
 .of_wp λprog w A R s h=>by
  obtain⟨hp,g,d,tk,os⟩:=s;obtain⟨hl,hb,h⟩:=h;have f2:=AutoSeq1.sub_tuple_tuple;have z1:items.size=ns.length:=by rw[←hi.length];simp
  have z2:items2.size=ms.length:=by rw[←hj.length];simp
  wp_walk using wpAny_loadPart' hl,wpAny_loadPart' hb,wpAny_forIn_list _ (λrest b s'=>b.1=none/\s'=⟨hp,g,d,tk,os⟩/\∃(vs ws:List Value) (ns' ms':List Int),rest=vs.zip ws/\
   IntsAre vs ns'/\IntsAre ws ms'/\ns'.length+ items2.size=ms'.length+ items.size/\R (.ok (.ret (.bool (lexLt ns' ms')))) ⟨hp,g,d,tk,os⟩) _
  case turn=>
   rintro ⟨y,x⟩ rest b s' ⟨hb',rfl,vs,ws,ns',ms',hz,hvi,hwi,hlen,hR⟩
   cases hvi with
   |nil=>rw[List.zip_nil_left]at hz;cases hz
   |cons a t hvi'=>
    cases hwi with
    |nil=>rw[List.zip_nil_right]at hz;cases hz
    |cons c u hwi'=>
     rw[List.zip_cons_cons]at hz;injection hz with hyx hrest
     injection hyx with hy hx
     subst hy hx;rw[lexLt_cons]at hR;simp only[List.length_cons]at hlen;obtain⟨e,he,hiff⟩:=eqAt_int A.in1 ⟨hp,g,d,tk,os⟩ a t c u;refine wpAny_bind (he prog w _ _ ?_)
     cases e with
     |true=>
      rw[if_pos (hiff.mp rfl)]at hR
      wp_walk
      exact⟨rfl,rfl,_,_,_,_,hrest,hvi',hwi',by omega,hR⟩
     |false=>
      rw[if_neg (λq=>absurd (hiff.mpr q) Bool.false_ne_true)]at hR;have hri:=rcLt_int A.in1 ⟨hp,g,d,tk,os⟩ a t c u prog w
      wp_walk using hri
      exact⟨_,rfl,by simpa using hR⟩
  case fin=>
   rintro ⟨b1,b2⟩ s' ⟨hb',rfl,vs,ws,ns',ms',hz,hvi,hwi,hlen,hR⟩;simp only at hb';subst hb'
   have hv:lexLt ns' ms'=decide (items.size<items2.size):=by
    cases hvi with
    |nil=>
     cases hwi with
     |nil=>
      simp only[List.length_nil]at hlen;rw[lexLt_nil_nil];exact(decide_eq_false (by omega)).symm
     |cons c u hw=>
      simp only[List.length_nil,List.length_cons]at hlen;rw[lexLt_nil_cons];exact(decide_eq_true (by omega)).symm
    |cons a t hv=>
     cases hwi with
     |nil=>
      simp only[List.length_nil,List.length_cons]at hlen;rw[lexLt_cons_nil];exact(decide_eq_false (by omega)).symm
     |cons c u hw=>
      rw[List.zip_cons_cons]at hz;cases hz
   rw[hv]at hR
   wp_walk
   exact⟨_,rfl,by simpa [Builtin.Tuple.tupleCompareSizes] using hR⟩
  case h=>
   exact⟨rfl,rfl,items.toList,items2.toList,ns,ms,rfl,hi,hj,by omega,h⟩
end
section
variable {prog:Program} {w:World} {A:Around} {E:Value->Shared->Prop} {s:Shared}
theorem lt_tupInts {l b:Addr}{items items2:Array Value}{ns ms:List Int}{Q:Value->Shared->Prop}(hl:IsTup s.heap l items)(hb:IsTup s.heap b items2)(hi:IntsAre items.toList ns)(hj:IntsAre items2.toList ms)
 (hu:A.units<cLine) (h:Q (.bool (lexLt ns ms)) s):wpAny (model prog w) A (compareOp .Lt (.ref l) (.ref b)) Q E s:=by
 obtain⟨⟨cls,dd,data,sl⟩,ho,hc,n,hd⟩:=id hl;obtain⟨⟨cls2,dd2,data2,sl2⟩,ho2,hc2,n2,hd2⟩:=id hb;simp only at hc hd hc2 hd2;subst hc hd hc2 hd2
 exact richCompare_meets_room (op:=.Lt) ⟨_,ho,rfl⟩ ⟨_,ho2,rfl⟩ PySem.F.slot_tuple_lt PySem.F.entry_tuple_lt (PySem.F.args_tuple_lt_2 _ _) (tuple_lt_ints l b items items2 n n2 dd dd2 sl sl2 ns ms hi hj)
  ⟨ho,ho2,show Value.bool (lexLt ns ms)≠Value.notImplemented/\Q (.bool (lexLt ns ms)) s from ⟨(λx=>nomatch x),h⟩⟩ hu
def sIx (n d:Nat):Option Int->Nat
 |none=>d
 |some v=>if v<0 then (v+ (n:Int)).toNat else min v.toNat n
end
end HT
namespace L2
open PySem PySem.Spec PyProof.Rows
abbrev TO:=St->Hp->(Option Int->Hp->Prop)->Prop
def PO (X:Cx)(e:Option Expr)(t:TO):Prop:=
 ∀(pins:List (Addr×Obj)) (s:Shared) (σ:St) (H:Hp) (Q:Option Int->Hp->Prop),Inv X pins σ H s->t σ H Q->
  wpAny (model X.prog X.w) X.A (evalPart e X.env) (λu s'=>∃o H',Inv X pins σ H' s'/\IsPart u o/\Q o H') X.xe s
def tNoPart:TO:=λ_ H Q=>Q none H
def tPart (t:TE):TO:=λ σ H Q=>t σ H λx H1=>∃i,x=.int i/\Q (some i) H1
theorem intsAre_of {ns:List Int}:∀{us:List Value},Vals (ns.map V.int) us->IntsAre us ns:=by
 induction ns with
 |nil=>intro us r;rw[List.map_nil]at r;cases r;exact .nil
 |cons n ns ih=>
  intro us r;rw[List.map_cons]at r
  cases r with
  |cons r1 r2=>
   obtain⟨t,e⟩:=r1;subst e;exact .cons n t (ih r2)
section
variable {X:Cx} {e:Expr} {te:TE} {lo hi:Option Expr} {tl th:TO} {pos p2:Pos}
theorem po_none:PO X none tNoPart:=by
 intro pins s σ H Q I h;rw[evalPart_none];exact wpAny_pure ⟨none,H,I,.none,h⟩
theorem po_some (h:PE X e te):PO X (some e) (tPart te):=by
 intro pins s σ H Q I hw;rw[evalPart_some];refine thn (h pins s σ H _ I hw) λu s1 ⟨x,H1,I1,r1,q1⟩=>?_
 obtain⟨i,rfl,q⟩:=q1;obtain⟨t,rfl⟩:=r1;exact⟨some i,H1,I1,.int i t,q⟩
def SlR (X:Cx)(r:V->Option Int->Option Int->Hp->VK->Prop):Prop:=
 ∀(pins:List (Addr×Obj)) (s:Shared) (σ:St) (H:Hp) (x:V) (v vl vu:Value) (lo hi:Option Int) (sl:Addr) (Q:VK),Inv X pins σ H s->RelV x v->s.heap.IsSliceOf sl vl vu .none->IsPart vl lo->IsPart vu hi->r x lo hi H Q->
  ∃T id,typeLookup (.type T) "__getitem__"=pure (some (.builtin id))/\s.TypeIs v T/\wpAny (model X.prog X.w) X.A (getItem v (.ref sl)) (EP X pins σ Q) X.xe s
def tSl (r:V->Option Int->Option Int->Hp->VK->Prop)(te:TE)(tl th:TO):TE:=λ σ H Q=>te σ H λx H1=>tl σ H1 λl H2=>th σ H2 λu H3=>r x l u H3 Q
theorem pe_slice {r:V->Option Int->Option Int->Hp->VK->Prop}(hr:SlR X r)(he:PE X e te)(hl:PO X lo tl)(hu:PO X hi th):PE X (.Subscript e (.Slice lo hi none p2) pos) (tSl r te tl th):=by
 intro pins s σ H Q I h;refine Subscript_ (thn (he pins s σ H _ I h) λv s1 ⟨x,H1,I1,r1,q1⟩=>?_);refine wpAny_Slice (thn (hl pins s1 σ H1 _ I1 q1) λvl s2 ⟨l,H2,I2,pl,q2⟩=>thn (hu pins s2 σ H2 _ I2 q2) λvu s3 ⟨u,H3,I3,pu,q3⟩=>?_);rw[evalPart_none];refine wpAny_pure ?_;have I4:Inv X pins σ H3 { s3 with heap:=s3.heap.push { cls:=.type "slice",data:=.fields #[vl,vu,.none] } }:=I3.kept (t':=s3.toks) λb ob q=>Heap.get?_push_of_some _ q
 obtain⟨T,id,hT,ht,hg⟩:=hr pins { s3 with heap:=s3.heap.push { cls:=.type "slice",data:=.fields #[vl,vu,.none] } } σ H3 x v vl vu l u s3.heap.objs.size Q I4 r1 (Heap.IsSliceOf.new ..) pl pu q3;show wpAny (model X.prog X.w) X.A (subscriptTail e (.Slice lo hi none p2) v (.ref s3.heap.objs.size)) (EP X pins σ Q) X.xe { s3 with heap:=s3.heap.push { cls:=.type "slice",data:=.fields #[vl,vu,.none] } };exact tail_any (ops:=[.ref s3.heap.objs.size,v]) ht hT hg (by with_unfolding_all rfl)
def cutV (xs:List V)(lo hi:Option Int):List V:=(xs.drop (HT.sIx xs.length 0 lo)).take (HT.sIx xs.length xs.length hi - HT.sIx xs.length 0 lo)
theorem cutV_length (xs:List V)(lo hi:Option Int):(cutV xs lo hi).length<=xs.length:=by
 unfold cutV;rw[List.length_take,List.length_drop];omega
def rLtT (K:PySem.W.Frag):R2:=λx y H Q=>∃a b ns ms,x=.ref a/\y=.ref b/\SqT K H a (ns.map V.int)/\SqT K H b (ms.map V.int)/\Q (.bl (HT.lexLt ns ms)) H
theorem op_ltT (hu:X.A.units<cLine):OpR X (compareOp .Lt) (rLtT X.K):=by
 intro pins s σ H x y v u Q I rx ry h;obtain⟨a,b,ns,ms,rfl,rfl,ha,hb,q⟩:=h;cases rx;cases ry;obtain⟨its,r1,p1,_⟩:=I.tuple ha;obtain⟨its2,r2,p2,_⟩:=I.tuple hb;have i1:IntsAre its.toArray.toList ns:=intsAre_of r1;have i2:IntsAre its2.toArray.toList ms:=intsAre_of r2;exact HT.lt_tupInts p1 p2 i1 i2 hu ⟨.bl (HT.lexLt ns ms),H,I,rfl,q⟩
end
end L2
namespace L2
open PySem PySem.Spec PyProof.Rows
def ixN (n:Nat)(i:Int):Option Nat:=if 0<=i then (if i<n then some i.toNat else none) else if -(n:Int)<=i then some (i+ n).toNat else none
def atI {α:Type}(xs:List α)(i:Int):Option α:=(ixN xs.length i).bind λj=>xs[j]?
theorem ixN_seq {n:Nat}{i:Int}{j:Nat}(h:ixN n i=some j):seqIndex? i n=some j/\j<n/\-(n:Int)<=i/\i<n:=by
 unfold ixN at h;by_cases h0:0<=i
 ·rw[if_pos h0]at h;by_cases h1:i<n
  ·rw[if_pos h1]at h;have e:i.toNat=j:=Option.some.inj h;exact⟨by rw[seqIndex_of h0 h1,e],by omega,by omega,h1⟩
  ·rw[if_neg h1]at h;cases h
 ·rw[if_neg h0]at h;by_cases h1: -(n:Int)<=i
  ·rw[if_pos h1]at h;have e:(i+ n).toNat=j:=Option.some.inj h;exact⟨by rw[seqIndex_neg (by omega) h1,e],by omega,h1,by omega⟩
  ·rw[if_neg h1]at h;cases h
theorem atI_get {α:Type}{xs:List α}{i:Int}{v:α}(h:atI xs i=some v):∃j,seqIndex? i xs.length=some j/\xs[j]?=some v/\j<xs.length/\-(xs.length:Int)<=i/\i<xs.length:=by
 unfold atI at h
 cases e:ixN xs.length i with
 |none=>rw[e]at h;cases h
 |some j=>
  rw[e]at h;obtain⟨h1,h2,h3,h4⟩:=ixN_seq e;exact⟨j,h1,h,h2,h3,h4⟩
theorem atI_nat {α:Type}{xs:List α}{j:Nat}{v:α}(h:xs[j]?=some v):atI xs (j:Int)=some v:=by
 have hj:j<xs.length:=(List.getElem?_eq_some_iff.mp h).1
 have e:ixN xs.length (j:Int)=some j:=by
  unfold ixN;rw[if_pos (by omega),if_pos (by omega)];simp
 unfold atI;rw[e];exact h
def PlainIx (b:Expr):Prop:=∀o i,subscripted b false o i=operate [o,i] (getItem o i)
def IxR (X:Cx)(r:R2):Prop:=
 ∀(value slice:Expr) (pins:List (Addr×Obj)) (s:Shared) (σ:St) (H:Hp) (x y:V) (v u:Value) (Q:VK),Inv X pins σ H s->RelV x v->RelV y u->r x y H Q->
  subscripted slice false v u=operate [v,u] (getItem v u)->wpAny (model X.prog X.w) X.A (subscriptTail value slice v u) (EP X pins σ Q) X.xe s
def MtR (X:Cx)(id:String)(r:V->List V->Hp->VK->Prop):Prop:=
 ∀(pins:List (Addr×Obj)) (s:Shared) (σ:St) (H:Hp) (x:V) (xs:List V) (v:Value) (us:List Value) (Q:VK),Inv X pins σ H s->RelV x v->Vals xs us->r x xs H Q->
  wpAny (model X.prog X.w) X.A (call (.builtin id) (v::us)) (EP X pins σ Q) X.xe s
section
variable {X:Cx} {a b:Expr} {ta tb:TE} {pos:Pos}
theorem pe_ix {r:R2}(hr:IxR X r)(ha:PE X a ta)(hb:PE X b tb)(hs:PlainIx b):PE X (.Subscript a b pos) (tOp r ta tb):=by
 intro pins s σ H Q I h;exact Subscript_ (binT ha hb I h λv u s2 x y H2 I2 rx ry q=>hr a b pins s2 σ H2 x y v u Q I2 rx ry q (hs _ _))
def rIxL (K:PySem.W.Frag):R2:=λx y H Q=>∃p xs i v,x=.ref p/\y=.int i/\SqL K H p xs/\atI xs i=some v/\Q v H
def rIxT (K:PySem.W.Frag):R2:=λx y H Q=>∃p xs i v,x=.ref p/\y=.int i/\SqT K H p xs/\atI xs i=some v/\Q v H
def rIxS:R2:=λx y H Q=>∃z i c,x=.str z/\y=.int i/\z.length<=sizeLine/\atI z.cps.toList i=some c/\Q (.str ⟨#[c]⟩) H
theorem ix_list:IxR X (rIxL X.K):=by
 intro value slice pins s σ H x y v u Q I rx ry h hs;obtain⟨p,xs,i,z,rfl,rfl,hq,he,q⟩:=h;cases rx;obtain⟨t,rfl⟩:=ry;obtain⟨its,r,pl,hz⟩:=I.list hq;obtain⟨j,h1,h2,h3,h4,h5⟩:=atI_get he;obtain⟨w,ew,rw'⟩:=r.get h2;have hl:=r.length;have hn:=line63;have fin:EP X pins σ Q w s:=⟨z,H,I,rw',q⟩;by_cases h0:0<=i
 ·have hj:i.toNat=j:=by
   rw[seqIndex_of h0 h5]at h1;exact Option.some.inj h1
  exact item_listR pl.isList h0 (by omega) (by rw[hj];simpa using ew) fin hs
 ·have hj:(i+ (its.toArray.size:Int)).toNat=j:=by
   rw[seqIndex_neg (by omega) h4]at h1;rw[List.size_toArray,←hl];exact Option.some.inj h1
  exact subscriptTail_builtinR (x:=w) pl.isList.typeIs slot_list_getitem.lookup
   (wpAny_getItem_list_neg (Q:=λr s'=>r=w/\EP X pins σ Q r s') pl.isList (by omega) (by rw[List.size_toArray] <;> omega) (by omega) (by rw[hj];simpa using ew) ⟨rfl,fin⟩) hs
theorem ix_tup:IxR X (rIxT X.K):=by
 intro value slice pins s σ H x y v u Q I rx ry h hs;obtain⟨p,xs,i,z,rfl,rfl,hq,he,q⟩:=h;cases rx;obtain⟨t,rfl⟩:=ry;obtain⟨its,r,pl,hz⟩:=I.tuple hq;obtain⟨j,h1,h2,h3,h4,h5⟩:=atI_get he;obtain⟨w,ew,rw'⟩:=r.get h2;have hl:=r.length;have hn:=line63;have fin:EP X pins σ Q w s:=⟨z,H,I,rw',q⟩
 exact subscriptTail_builtinR (x:=w) pl.typeIs slot_tuple_getitem.lookup
  (getItem_tuple (j:=j) (Q:=λr s'=>r=w/\EP X pins σ Q r s') pl (by omega) (by omega) (by rw[List.size_toArray,←hl];exact h1) (by simpa using ew) ⟨rfl,fin⟩) hs
theorem ix_str:IxR X rIxS:=by
 intro value slice pins s σ H x y v u Q I rx ry h hs;obtain⟨z,i,c,rfl,rfl,hz,he,q⟩:=h;obtain⟨t,rfl⟩:=rx;obtain⟨t',rfl⟩:=ry;obtain⟨j,h1,h2,h3,h4,h5⟩:=atI_get he;have hl:z.cps.toList.length=z.length:=by simp[Str.length]
 rw[hl]at h1 h4 h5;have hn:=line63
 exact tail_any (typeIs_str s z t) slot_str_getitem.lookup (getItem_str (c:=c) (by
  have e1:decide (i < -(2 ^ 63:Int))=false:=decide_eq_false (by omega);have e2:decide (i>=2 ^ 63)=false:=decide_eq_false (by omega);rw[e1,e2,Bool.or_false]) (by rw[h1];simpa using h2) ⟨.str ⟨#[c]⟩,H,I.tok _,⟨_,rfl⟩,q⟩) hs
theorem mapSeq_set (its:List Value)(n j:Nat)(u:Value):Obj.mapSeq (·.setIfInBounds j u) { cls:=.type "list",data:=.seq its.toArray n }={ cls:=.type "list",data:=.seq (its.set j u).toArray n }:=by
 simp[Obj.mapSeq]
theorem Inv.lst {pins:List (Addr×Obj)}{σ:St}{H:Hp}{s:Shared}{p:Addr}{xs:List V}(I:Inv X pins σ H s)(h:H p=some (.lst xs)):
 ∃(its:List Value) (n:Nat),Vals xs its/\s.heap.get? p=some { cls:=.type "list",data:=.seq its.toArray n }/\xs.length<=sizeLine:=by
 obtain⟨z,its,n,r,e⟩:=I.hok p _ h;exact⟨its,n,r,e,z⟩
theorem Inv.lstUpd {pins:List (Addr×Obj)}{σ:St}{H:Hp}{s:Shared}{p:Addr}{xs ys:List V}{its its':List Value}{n n':Nat}{f:Obj->Obj}(I:Inv X pins σ H s)(h:H p=some (.lst xs))
 (ho:s.heap.get? p=some { cls:=.type "list",data:=.seq its.toArray n }) (hf:f { cls:=.type "list",data:=.seq its.toArray n }={ cls:=.type "list",data:=.seq its'.toArray n' }) (r:Vals ys its') (hz:ys.length<=sizeLine) (t:Nat):
 Inv X pins σ (upd H p (.lst ys)) { s with heap:=s.heap.update p f,toks:=t }:=by
 have e:(s.heap.update p f).get? p=some { cls:=.type "list",data:=.seq its'.toArray n' }:=by
  rw[Heap.get?_update_self f ho (by rw[hf] <;> rfl),hf]
 refine I.write (x:=p) (e:=p) (by rw[h];trivial) (.inl rfl) (λb u hb q=>(Heap.get?_update_other _ _ (Ne.symm hb)).trans q) ⟨_,e⟩ ?_;exact⟨hz,its',n',r,e⟩
def rSetL:V->V->V->Hp->(Hp->Prop)->Prop:=λo i v H Q=>∃p xs k j,o=.ref p/\i=.int k/\H p=some (.lst xs)/\ixN xs.length k=some j/\Q (upd H p (.lst (xs.set j v)))
theorem set_list:PSet X rSetL:=by
 intro pins s σ H o i v ov iv u Q I ro ri rv h;obtain⟨p,xs,k,j,rfl,rfl,hp,hj,q⟩:=h;cases ro;obtain⟨t,rfl⟩:=ri;obtain⟨its,n,r,ho,hz⟩:=I.lst hp;obtain⟨h1,h2,h3,h4⟩:=ixN_seq hj;have hl:=r.length;have hn:=line63
 have I':Inv X pins σ (upd H p (.lst (xs.set j v))) { s with heap:=s.heap.update p (Obj.mapSeq (·.setIfInBounds j u)) }:=
  I.lstUpd hp ho (mapSeq_set its n j u) (r.set rv j) (by rw[List.length_set];exact hz) s.toks
 by_cases h0:0<=k
 ·have hk:k.toNat=j:=by
   rw[seqIndex_of h0 h4]at h1;exact Option.some.inj h1
  exact PySem.W.ki_setAt ho h0 (by omega) (by rw[List.size_toArray,←hl];exact h4) (by rw[hk];exact⟨_,I',q⟩)
 ·have hk:(k+ (its.toArray.size:Int)).toNat=j:=by
   rw[seqIndex_neg (by omega) h3]at h1;rw[List.size_toArray,←hl];exact Option.some.inj h1
  exact PySem.W.ki_setBack ho (by omega) (by rw[List.size_toArray,←hl];exact h3) (by omega) (by rw[hk];exact⟨_,I',q⟩)
theorem slice_bounds (lo hi:Option Int)(n:Nat):(sliceBounds lo hi none n).1=((HT.sIx n 0 lo:Nat):Int)/\(sliceBounds lo hi none n).2.1=((HT.sIx n n hi:Nat):Int)/\(sliceBounds lo hi none n).2.2=1:=by
 refine⟨?_,?_,rfl⟩
 ·cases lo with
  |none=>simp[sliceBounds,HT.sIx]
  |some i=>
   simp only[sliceBounds,HT.sIx,Option.getD_none,show (1:Int) > 0 by decide,if_true];by_cases h:i<0
   ·simp only[h,if_true] <;> omega
   ·simp only[h,if_false] <;> omega
 ·cases hi with
  |none=>simp[sliceBounds,HT.sIx]
  |some i=>
   simp only[sliceBounds,HT.sIx,Option.getD_none,show (1:Int) > 0 by decide,if_true];by_cases h:i<0
   ·simp only[h,if_true] <;> omega
   ·simp only[h,if_false] <;> omega
theorem slicePick_cut (its:List Value)(lo hi:Option Int):slicePick its.toArray lo hi none=((its.drop (HT.sIx its.length 0 lo)).take (HT.sIx its.length its.length hi - HT.sIx its.length 0 lo)).toArray:=by
 obtain⟨h1,h2,h3⟩:=slice_bounds lo hi its.toArray.size;unfold slicePick;rw[h1,h2,h3];simp only[sliceRange_one,pick_run,List.size_toArray] <;> rfl
def rSlL (K:PySem.W.Frag):V->Option Int->Option Int->Hp->VK->Prop:=λx lo hi H Q=>∃a xs,x=.ref a/\SqL K H a xs/\∀p,H p=none->Q (.ref p) (upd H p (.lst (cutV xs lo hi)))
theorem sl_list:SlR X (rSlL X.K):=by
 intro pins s σ H x v vl vu lo hi sl Q I rx hs pl pu h;obtain⟨a,xs,rfl,hx,q⟩:=h;cases rx;obtain⟨its,r,ht,hz⟩:=I.list hx;have hlen:=r.length;refine⟨"list",_,slot_list_getitem.lookup,ht.isList.typeIs,?_⟩;refine wpAny_getItem_list_slice ht.isList hs pl pu .none (by simp) ?_ (by rw[List.size_toArray] <;> omega);rw[slicePick_cut,←hlen];refine⟨.ref s.heap.objs.size,_,I.laid (t':=s.toks) (o:=.lst (cutV xs lo hi)) (λb ob q=>Heap.get?_push_of_some _ q) (Nat.le_refl _) ?_,rfl,q _ (I.hok.fresh (Nat.le_refl _))⟩;exact⟨Nat.le_trans (cutV_length xs lo hi) hz,_,0,(r.drop (HT.sIx xs.length 0 lo)).take (HT.sIx xs.length xs.length hi - HT.sIx xs.length 0 lo),Heap.get?_push_size _ rfl⟩
theorem call_len_seq:CallR X (.builtin "len") (λxs H Q=>∃p ys,xs=[.ref p]/\(SqL X.K H p ys\/SqT X.K H p ys)/\Q (.int ys.length) H):=by
 intro pins s σ H xs us Q I r h;obtain⟨p,ys,rfl,hq,q⟩:=h;obtain⟨u,rfl,rx⟩:=vals1 r;cases rx;have hn:=line63;rcases hq with hq|hq
 ·obtain⟨its,r',pl,hz⟩:=I.list hq;have hlen:=r'.length;exact Calls.call_len_list pl.isList (by simp only[List.size_toArray] <;> omega) ⟨.int ys.length,H,I.tok _,⟨s.toks+ 1,by rw[List.size_toArray,hlen]⟩,q⟩
 ·obtain⟨its,r',pl,hz⟩:=I.tuple hq;have hlen:=r'.length;exact len_tuple pl (by simp only[List.size_toArray] <;> omega) ⟨.int ys.length,H,I.tok _,⟨s.toks+ 1,by rw[List.size_toArray,hlen]⟩,q⟩
theorem call_tuple_of:CallR X (.type "tuple") (λxs H Q=>∃p ys,xs=[.ref p]/\((SqL X.K H p ys/\∀l,H l=none->Q (.ref l) (upd H l (.tup ys)))\/(SqT X.K H p ys/\Q (.ref p) H))):=by
 intro pins s σ H xs us Q I r h;obtain⟨p,ys,rfl,h⟩:=h;obtain⟨u,rfl,rx⟩:=vals1 r;cases rx;rcases h with ⟨hq,q⟩|⟨hq,q⟩
 ·obtain⟨its,r',pl,hz⟩:=I.list hq;have hlen:=r'.length;refine call_tuple_list pl.isList (λh' kp=>?_) (by simp only[List.size_toArray] <;> omega);have I1:Inv X pins σ H { s with heap:=h' }:=I.kept (t':=s.toks) kp
  have I2:Inv X pins σ (upd H h'.objs.size (.tup ys)) { s with heap:=h'.push { cls:=.type "tuple",data:=.seq its.toArray } }:=
   I1.laid (t':=s.toks) (λb o e=>Heap.get?_push_of_some _ e) (Nat.le_refl _) (show ObjOk X.prog X.w _ _ _ (.tup ys) from ⟨hz,its,r',IsTup.new _ _⟩)
  exact⟨.ref h'.objs.size,_,I2,rfl,q _ (I1.hok.fresh (Nat.le_refl _))⟩
 ·obtain⟨its,r',pl,hz⟩:=I.tuple hq;exact call_tuple_same pl ⟨.ref p,H,I,rfl,q⟩
def tyV (K:PySem.W.Frag)(T:String)(x:V)(H:Hp):Prop:=match x with
 |.str _=>T="str"
 |.int _=>T="int"
 |.ref p=>(T="list"/\∃xs,SqL K H p xs)\/(T="tuple"/\∃o,K.lookup p=some o/\o.cls=.type "tuple"/\o.dict=none)\/
  (T="dict"/\((∃kvs,H p=some (.dK kvs))\/∃kvs,H p=some (.dT kvs)))\/(T="set"/\∃S n,H p=some (.set S n))
 |_=>False
theorem tyV_is {pins:List (Addr×Obj)}{σ:St}{H:Hp}{s:Shared}{T:String}{x:V}{v:Value}(I:Inv X pins σ H s)(r:RelV x v)(ty:tyV X.K T x H):
 s.TypeIs v T/\∀a,v=.ref a->∃ob,s.heap.get? a=some ob/\ob.dict=none:=by
 cases x with
 |str z=>
  obtain⟨t,rfl⟩:=r;cases (show T="str" from ty);exact⟨typeIs_str s z t,λ_ e=>nomatch e⟩
 |int i=>
  obtain⟨t,rfl⟩:=r;cases (show T="int" from ty);exact⟨typeIs_int s i t,λ_ e=>nomatch e⟩
 |ref p=>
  cases r;rcases ty with ⟨rfl,xs,hq⟩|⟨rfl,o,hk,hc,hd⟩|⟨rfl,hk⟩|⟨rfl,S,n,hk⟩
  ·obtain⟨its,_,pl,_⟩:=I.list hq;refine⟨pl.isList.typeIs,λa e=>?_⟩;cases e;obtain⟨o,n,e,c,hd,_⟩:=pl;exact⟨o,e,hd⟩
  ·refine⟨⟨o,I.kIn p o hk,hc⟩,λa e=>?_⟩;cases e;exact⟨o,I.kIn _ o hk,hd⟩
  ·have z:∃o,s.heap.get? p=some o/\o.ExactDict:=by
    rcases hk with ⟨kvs,hk⟩|⟨kvs,hk⟩
    ·obtain⟨_,_,_,_,o,_,_,e,ex,_⟩:=I.hok p _ hk;exact⟨o,e,ex⟩
    ·obtain⟨_,_,_,_,o,_,_,e,ex,_⟩:=I.hok p _ hk;exact⟨o,e,ex⟩
   obtain⟨o,e,ex⟩:=z;refine⟨⟨o,e,ex.1⟩,λa e2=>?_⟩;cases e2;exact⟨o,e,ex.2.1⟩
  ·obtain⟨o,_,_,_,e,ex,_⟩:=I.hok p _ hk;refine⟨⟨o,e,ex.1⟩,λa e2=>?_⟩;cases e2;exact⟨o,e,ex.2.1⟩
 |_=>exact False.elim ty
def tBM0 (K:PySem.W.Frag)(T:String)(r:V->List V->Hp->VK->Prop)(to:TE):TE:=λ σ H Q=>to σ H λx H1=>tyV K T x H1/\r x [] H1 Q
def tBM (K:PySem.W.Frag)(T:String)(r:V->List V->Hp->VK->Prop)(to:TE)(t:TA):TE:=λ σ H Q=>to σ H λx H1=>tyV K T x H1/\t σ H1 λxs H2=>r x xs H2 Q
variable {o e:Expr} {es:List Expr} {to:TE} {t:TA} {name:Str} {apos cpos:Pos} {T id:String} {r:V->List V->Hp->VK->Prop}
theorem pe_bm0 (pa:PlainAttrs T)(slot:Slot T name id)(hty:typeOf (.builtin id)=pure (.type "method_descriptor"))(hm:MtR X id r)(ho:PE X o to)
 (hbase:attributeBase o name X.env (eval o X.env)=eval o X.env:=by rfl) (hline:(apos.endLine==cpos.line)=true:=by rfl):PE X (.Call (.Attribute o name apos) [] [] cpos) (tBM0 X.K T r to):=by
 intro pins s σ H Q I h;refine wpAny_Call_method0_late hbase hline (thn (ho pins s σ H _ I h) λv s1 ⟨x,H1,I1,r1,ty,q1⟩=>?_);obtain⟨h1,h2⟩:=tyV_is I1 r1 ty;exact⟨T,id,pa,slot,hty,h1,h2,Calls.callWith_builtin rfl (PySem.evalArgs_none (hm pins s1 σ H1 x [] v [] Q I1 r1 .nil q1))⟩
theorem pe_bm (pa:PlainAttrs T)(slot:Slot T name id)(hty:typeOf (.builtin id)=pure (.type "method_descriptor"))(hm:MtR X id r)(ho:PE X o to)(ha:PA X (e::es) t)
 (hbase:attributeBase o name X.env (eval o X.env)=eval o X.env:=by rfl)
 (hfew:((backTo cpos (starEach (e::es) X.env)).all (λx=>!x.1) && (backToKw cpos (keywordEach [] X.env)).all (λx=>x.1.isSome)
  && decide ((e::es).length+ ([]:List Keyword).length+ (if ([]:List Keyword).isEmpty then 0 else 1)<30))=true:=by rfl)
 (hline:(apos.endLine==cpos.line)=true:=by rfl) (hs:starEach (e::es) X.env=(false,eval e X.env)::starEach es X.env:=by rfl) (hplain:(backTo cpos (starEach es X.env)).any (·.1)=false:=by rfl):
 PE X (.Call (.Attribute o name apos) (e::es) [] cpos) (tBM X.K T r to t):=by
 intro pins s σ H Q I h;refine wpAny_Call_method_late hbase hfew hline rfl (thn (ho pins s σ H _ I h) λv s1 ⟨x,H1,I1,r1,ty,q1⟩=>?_);obtain⟨h1,h2⟩:=tyV_is I1 r1 ty;refine⟨T,id,pa,slot,hty,h1,h2,?_⟩;have hA:=ha cpos pins s1 σ H1 _ I1 q1;rw[hs]at hA ⊢;refine Calls.callWith_builtin (by show (false || (backTo cpos (starEach es X.env)).any (·.1))=false;rw[hplain] <;> rfl) (Calls.evalArgs_plain ?_);exact thn hA λus s2 ⟨vs,H2,I2,r2,q2⟩=>hm pins s2 σ H2 x vs v us Q I2 r1 r2 q2
/- xs.append(e),list.index on a module's tuple .. are MtR facts of 06m -/
end
end L2
namespace L2
open PySem PySem.Spec PyProof.Rows
def MtM (X:Cx)(id:String)(r:V->List V->Hp->VK->Prop):Prop:=
 ∀(pins:List (Addr×Obj)) (s:Shared) (σ:St) (H:Hp) (x:V) (xs:List V) (v:Value) (us:List Value) (Q:VK),Inv X pins σ H s->RelV x v->Vals xs us->r x xs H Q->
  wpAny (model X.prog X.w) X.A (call (.builtin id) (v::us)) (EP X pins σ Q) X.xe s
theorem Vals.one:∀{x:V} {us:List Value},Vals [x] us->∃u,us=[u]/\RelV x u
 |_,_,.cons r .nil=>⟨_,rfl,r⟩
theorem Vals.zero:∀{us:List Value},Vals [] us->us=[]
 |_,.nil=>rfl
theorem Vals.dropLast {xs:List V}{us:List Value}(h:Vals xs us):Vals xs.dropLast us.dropLast:=by
 induction h with
 |nil=>exact .nil
 |cons r t ih=>
  cases t with
  |nil=>exact .nil
  |cons q t'=>exact .cons r ih
theorem erase_last {α:Type}(l:List α):l.eraseIdx (l.length - 1)=l.dropLast:=by
 induction l with
 |nil=>rfl
 |cons a r ih=>
  cases r with
  |nil=>rfl
  |cons b r=>
   have e:(a::b::r).length - 1=((b::r).length - 1)+ 1:=by
    have h1:(a::b::r).length=r.length+ 2:=rfl;have h2:(b::r).length=r.length+ 1:=rfl;omega
   rw[e,List.eraseIdx_cons_succ,ih]
   all_goals rfl
section
variable {X:Cx} {pins:List (Addr×Obj)} {σ:St} {H:Hp} {s:Shared} {l b:Addr} {xs ys zs:List V}
theorem Inv.lset {its its':List Value}{n:Nat}{f:Array Value->Array Value}{t':Nat}(I:Inv X pins σ H s)(hH:H l=some (.lst xs))
 (e:s.heap.get? l=some { cls:=.type "list",data:=.seq its.toArray n }) (hf:f its.toArray=its'.toArray) (hv:Vals ys its') (hz:ys.length<=sizeLine):
 Inv X pins σ (upd H l (.lst ys)) { s with heap:=s.heap.update l (Obj.mapSeq f),toks:=t' }:=by
 have q:=PySem.IsL.update e f;rw[hf]at q;refine I.write (x:=l) (e:=l) (by rw[hH];exact trivial) (.inl rfl) (λb' u hb hu=>(Heap.get?_update_other s.heap (Obj.mapSeq f) (Ne.symm hb)).trans hu) ⟨_,q⟩ ?_;exact⟨hz,its',_,hv,q⟩
theorem Inv.lstM (I:Inv X pins σ H s)(hH:H l=some (.lst xs)):xs.length<=sizeLine/\∃(its:List Value) (n:Nat),Vals xs its/\xs.length=its.length/\s.heap.get? l=some { cls:=.type "list",data:=.seq its.toArray n }:=by
 obtain⟨z,its,n,r,e⟩:=I.hok l _ hH;exact⟨z,its,n,r,r.length,e⟩
theorem notLongL {n:Nat}(h:n<=sizeLine):Builtin.List.listTooLong n=false:=by
 unfold Builtin.List.listTooLong;exact decide_eq_false (by omega)
end
section
variable {X:Cx}
def rAppend:V->List V->Hp->VK->Prop:=λx vs H Q=>∃l xs y,x=.ref l/\vs=[y]/\H l=some (.lst xs)/\xs.length<sizeLine/\Q .non (upd H l (.lst (xs++[y])))
theorem mt_append:MtM X "list.append" rAppend:=by
 intro pins s σ H x vs v us Q I rx rv h;obtain⟨l,xs,y,rfl,rfl,hH,hz,q⟩:=h;cases rx;obtain⟨u,rfl,ru⟩:=rv.one;obtain⟨z,its,n,r,hl,e⟩:=I.lstM hH;refine call_meets F.slot_list_append ⟨_,e,rfl⟩ F.entry_list_append (F.args_list_append_2 _ _) (PySem.list_append l its.toArray n u (by rw[List.size_toArray];omega)) ⟨e,?_⟩;refine⟨.non,_,I.lset (its':=its++[u]) hH e (by simp) (r.append (.cons ru .nil)) ?_,rfl,q⟩;rw[List.length_append,List.length_singleton];omega
def rExtend:V->List V->Hp->VK->Prop:=λx vs H Q=>∃l b xs zs,x=.ref l/\vs=[.ref b]/\H l=some (.lst xs)/\H b=some (.lst zs)/\xs.length+ zs.length<=sizeLine/\Q .non (upd H l (.lst (xs++zs)))
theorem mt_extend:MtM X "list.extend" rExtend:=by
 intro pins s σ H x vs v us Q I rx rv h;obtain⟨l,b,xs,zs,rfl,rfl,hH,hB,hz,q⟩:=h;cases rx;obtain⟨u,rfl,ru⟩:=rv.one;cases ru;obtain⟨z,its,n,r,hl,e⟩:=I.lstM hH;obtain⟨z2,its2,n2,r2,hl2,e2⟩:=I.lstM hB;have hsz:its.toArray.size+ its2.toArray.size<=sizeLine:=by rw[List.size_toArray,List.size_toArray];omega
 have hlong:¬(!its.toArray.isEmpty && Builtin.List.listTooLong (its.toArray.size+ its2.toArray.size))=true:=by
  rw[notLongL hsz,Bool.and_false];exact Bool.false_ne_true
 refine call_meets F.slot_list_extend ⟨_,e,rfl⟩ F.entry_list_extend (F.args_list_extend_2 _ _)
  (AutoSeq1.list_extend_list_list_0 l its.toArray n b its2.toArray n2 hlong (by rw[List.size_toArray];omega) (by omega)) ⟨e,e2,?_⟩
 refine⟨.non,_,I.lset (its':=its++its2) hH e (by simp) (r.append r2) ?_,rfl,q⟩;rw[List.length_append];omega
def rPop:V->List V->Hp->VK->Prop:=λx vs H Q=>∃l xs y,x=.ref l/\vs=[]/\H l=some (.lst xs)/\xs[xs.length - 1]?=some y/\Q y (upd H l (.lst xs.dropLast))
theorem mt_pop:MtM X "list.pop" rPop:=by
 intro pins s σ H x vs v us Q I rx rv h;obtain⟨l,xs,y,rfl,rfl,hH,hy,q⟩:=h;cases rx;have hus:=rv.zero;subst hus;obtain⟨z,its,n,r,hl,e⟩:=I.lstM hH;obtain⟨u,hu,ru⟩:=r.get hy
 have hy':its.toArray[its.toArray.size - 1]?=some u:=by
  show its.toArray[its.length - 1]?=some u
  rw[←Array.getElem?_toList,←hl];exact hu
 refine call_meets F.slot_list_pop ⟨_,e,rfl⟩ F.entry_list_pop (F.args_list_pop_1 _) (MeetsSeq.list_pop_last l its.toArray n u hy' (by rw[List.size_toArray];omega)) ⟨e,?_⟩;refine⟨y,_,I.lset (its':=its.dropLast) hH e ?_ r.dropLast ?_,ru,q⟩
 ·show its.toArray.eraseIdxIfInBounds (its.toArray.size - 1)=its.dropLast.toArray;rw[List.size_toArray,List.eraseIdxIfInBounds_toArray,erase_last]
 ·rw[List.length_dropLast];omega
end
section
variable {prog:Program} {w:World} {A:Around} {E:Value->Shared->Prop} {s:Shared}
end
section
variable {X:Cx}
end
end L2
namespace Att
open PySem PySem.W PySem.Calls PyProof.Rows
theorem ints_of_wellAll {P:Params}{h:Heap}:∀(ns:List Int) (vs:List Value),WellAll P h vs (ns.map WData.int)->IntsAre vs ns:=by
 intro ns
 induction ns with
 |nil=>
  intro vs w;rw[List.map_nil]at w;cases w;exact .nil
 |cons n ns ih=>
  intro vs w;rw[List.map_cons]at w
  cases w with
  |cons a b=>
   cases a;exact .cons _ _ (ih _ b)
theorem script_of {l:OpenLaw}{n:Nat}(hn:l.most=some n){P:Params}{h:Heap}{args:List WData}{vals:List Value}
 (hpre:l.row.toRowW.claim.pre args=true) (hwl:WellAll P h vals args):
 ∃a vs ns,vals=[Value.ref a]/\args=[WData.list (ns.map WData.int)]/\h.get? a=some { cls:=.type "list",data:=.seq vs.toArray }/\IntsAre vs ns/\ns.length<=n:=by
 have hsh:WShape.hasAll [] args [.list .int]=true:=(pre_splitW hpre).1;have hc:l.pre.holds [] { args:=args }=true:=(pre_splitW hpre).2;obtain⟨d,r,rfl,h1,h2⟩:=hasAllW_cons hsh;obtain rfl:=hasAllW_nil h2;obtain⟨xs,rfl,h3⟩:=hasW_list h1;obtain⟨ns,rfl⟩:=items_int h3
 have hlen:ns.length<=n:=by
  unfold OpenLaw.pre at hc
  have h4:(WTm.not (.lt (.lit (.int (n:Int))) (.len (.arg 0)))).holds [] { args:=[.list (ns.map .int)] }=true:=by
   have h4:=(holds_andW hc).1;rw[hn]at h4;exact h4
  have h5:=condW_of h4 (w_not (w_lt w_lit (w_len_list (w_arg rfl))));rw[List.length_map]at h5;refine Nat.le_of_not_lt λq=>?_
  have q':(n:Int)<((ns.length:Nat):Int):=by omega
  first
   |(rw[decide_eq_true q']at h5;exact absurd h5 (by decide))
   |(simp at h5;omega)
 cases hwl with
 |cons w1 w2=>
  cases w2
  cases w1 with
  |list ho hall=>exact⟨_,_,ns,rfl,rfl,ho,ints_of_wellAll ns _ hall,hlen⟩
theorem post_true (l:OpenLaw)(args:List WData):l.row.toRowW.claim.post args (.bool true) args=true:=
 postW_of (r:=l.row.toRowW) (X:=(true==true))
  (show WShape.has [] (.bool true) .bool=true by first|rfl|decide|simp[WShape.has,WShape.arms,WShape.armsAll])
  (show (WTm.eq .res (.lit (.bool true))).value [] { args:=args,res:=some (.bool true),after:=args }=some (.bool (true==true)) from w_eq_bool (w_res rfl) w_lit) rfl
theorem attach_call {l:OpenLaw}{n:Nat}{q:Program}{loose:List Str}{XP:(Str->Option Value)->Heap->Prop}{YP:World->Heap->Prop}{d:DefRec}
 (hn:l.most=some n) (hdf:d.params.defaults=[])
 (call:∀(w:World) (s₀ s₁:Shared) (mg mb:Str->Option Value) (fa:Addr) (o:Obj) (pm cd doc:Value) (a:Addr) (vs:List Value) (ns:List Int),
  Ground q loose [] XP w s₀ mg mb s₁.heap->YP w s₁.heap->
  s₁.heap.get? fa=some o->o.data=.func (docDef d.name d.params d.body d.scope pm cd doc)->s₁.heap.CodeRec cd d.name->mg d.name=some (.ref fa)->
  s₁.heap.get? a=some { cls:=.type "list",data:=.seq vs.toArray }->IntsAre vs ns->ns.length<=n->s₁.gens=#[]->
  codeAny (model l.prog w) callerA (.call (.ref fa) ⟨[.ref a],[]⟩) (λr s'=>r=.ok (.ret (.bool true))/\OldK s₁.heap s'.heap/\s'.os=s₁.os/\AllBare s'.gens) s₁):
 WalkO q loose XP YP l.row.toRowW d [] (λf vs=>PySem.call f vs):=by
 intro w s₀ s₁ mg mb G Y fa o pm cd doc dV kV ho hd hcd hD hmg hg args vals as hpre hlay hrd hwl hlo;obtain rfl:dV=.none:=Dflts.none hD hdf;obtain rfl:kV=.none:=Dflts.noKw hD;obtain⟨a,vs,ns,rfl,rfl,hobj,hints,hlen⟩:=script_of hn hpre hwl;refine enter_call (codeAny_mono (call w s₀ s₁ mg mb fa o pm cd doc a vs ns G Y ho (fd_plain hd) hcd hmg hobj hints hlen hg) λr s' hq=>?_);obtain⟨rfl,h2,h3,h4⟩:=hq;exact⟨.inl ⟨.bool true,.bool true,[],rfl,λ_=>rfl,.bool true,post_true l _,λ_=>⟨List.Pairwise.nil,λ_ hm=>(nomatch hm)⟩⟩,h2,h3,h4⟩
section
variable {prog:Program} {w:World} {A:Around} {E:Value->Shared->Prop} {s:Shared} {K:Frag}
end
end Att
namespace L2
open PySem PySem.Spec PyProof.Rows
theorem vals_ints:∀{vs:List Value} {ns:List Int},IntsAre vs ns->Vals (ns.map V.int) vs
 |_,_,.nil=>.nil
 |_,_,.cons n t h=>.cons ⟨t,rfl⟩ (vals_ints h)
end L2
namespace L2
open PySem PySem.Spec PyProof.Rows
end L2
namespace L2
open PySem PySem.Spec PyProof.Rows
def inClass (s:Stmt)(j:Nat):Stmt:=match s with
 |.ClassDef _ _ _ body _ _ _ _ _ _ _=>body.getD j (.Pass ⟨0,0,0,0⟩)
 |_=>.Pass ⟨0,0,0,0⟩
def defArgs (s:Stmt):Arguments:=match s with
 |.FunctionDef _ a _ _ _ _ _ _ _ _=>a
 |_=>{ posonlyargs:=[],args:=[],vararg:=none,kwonlyargs:=[],kw_defaults:=[],kwarg:=none,defaults:=[] }
def defBody (s:Stmt):List Stmt:=match s with
 |.FunctionDef _ _ b _ _ _ _ _ _ _=>b
 |_=>[]
def defScope (s:Stmt):Scope:=match s with
 |.FunctionDef _ _ _ _ _ _ sc _ _ _=>sc
 |_=>{ kind:=.function,names:=[],isGenerator:=false,isCoroutine:=false }
abbrev CX0:CXT:=λ_ _ _ _ _ _=>False
abbrev E0:XK:=λ_ _ _=>False
structure Fun (K:PySem.W.Frag) (x qual:Str) (st:Stmt) (f:Addr) (fd:FuncData):Prop where
 ex:∃(oc:Value) (od:Option Addr) (kV doc pm:Value) (an:Option Addr) (cdv ct:Value) (osl:Array (Option Value)),
  fd=PySem.W.fnOf x qual (defArgs st) (defBody st) (defScope st) .none kV doc pm an cdv ct/\K.lookup f=some ⟨oc,od,.func fd,osl⟩/\PySem.W.codeIn K cdv qual=true
 kp:PySem.W.keepIn K (.ref f)=true
section
variable {P:Program} {w:World} {K:PySem.W.Frag} {mg:Str->Option Value} {base:Heap}
theorem Fun.binds {x qual:Str}{st:Stmt}{f:Addr}{fd:FuncData}{ps:List Str}(F:Fun K x qual st f fd)
 (h:∀(kV doc pm:Value) (an:Option Addr) (cdv ct:Value) (us:List Value),us.length=ps.length->bindArgs (PySem.W.fnOf x qual (defArgs st) (defBody st) (defScope st) .none kV doc pm an cdv ct) ⟨us,[]⟩=pure (ps.zip us)):Binds K fd ps []:=by
 obtain⟨oc,od,kV,doc,pm,an,cdv,ct,osl,rfl,lk,hcd⟩:=F.ex;exact .all (h kV doc pm an cdv ct)
theorem fun_mk {x qual:Str}{st:Stmt}{f:Addr}{oc:Value}{od an:Option Addr}{osl:Array (Option Value)}{kV doc pm cdv ct:Value}(l:K.lookup f=some ⟨oc,od,.func (PySem.W.fnOf x qual (defArgs st) (defBody st) (defScope st) .none kV doc pm an cdv ct),osl⟩)
 (c:PySem.W.codeIn K cdv qual=true) (k:PySem.W.keepIn K (.ref f)=true):Fun K x qual st f (PySem.W.fnOf x qual (defArgs st) (defBody st) (defScope st) .none kV doc pm an cdv ct):=⟨⟨oc,od,kV,doc,pm,an,cdv,ct,osl,rfl,l,c⟩,k⟩
end
theorem hu_of {A:Around}{k:Nat}(hr:Room k A):A.units+ 1<cLine:=Nat.lt_of_le_of_lt (Nat.add_le_add_left (by decide:1<=64) _) hr.units
section
variable {X:Cx}
theorem pv (i:Nat){x:Str}{pos:Pos}(hN:X.N[i]?=some x:=by rfl)(hv:Vis X.env.scope x:=by first|exact Or.inl rfl|exact Or.inr (Or.inl rfl)|exact Or.inr (Or.inr rfl))(hd:(x==("__debug__":Str))=false:=by decide)
 (hcd:(x==("__classdict__":Str))=false:=by decide):PE X (.Name x pos) (tVar i):=pe_var hN hv hd hcd
end
theorem iteF {A B:Prop}(h:B):if false=true then A else B:=by
 rw[if_neg Bool.false_ne_true];exact h
theorem iteT {A B:Prop}(h:A):if true=true then A else B:=by
 rw[if_pos rfl];exact h
theorem ite2 {c A B:Prop} [Decidable c](h1:c->A)(h2:¬c->B):if c then A else B:=by
 by_cases h:c
 ·rw[if_pos h];exact h1 h
 ·rw[if_neg h];exact h2 h
theorem iteNS {c A B:Prop} [Decidable c](hc:c)(h:B):if (!decide c)=true then A else B:=by
 rw[decide_eq_true hc];exact iteF h
def Same (H H':Hp):Prop:=∀b o,H b=some o->H' b=some o
theorem Same.trans {H H1 H2:Hp}(a:Same H H1)(b:Same H1 H2):Same H H2:=λc o h=>b c o (a c o h)
theorem Same.free {H H':Hp}(e:Same H H'){l:Addr}(h:H' l=Option.none):H l=Option.none:=by
 cases q:H l with
 |none=>rfl
 |some o=>
  rw[e l o q]at h;cases h
end L2
set_option maxHeartbeats 4000000
namespace L2
open PySem PySem.Spec PyProof.Rows
section
variable {prog:Program} {w:World} {A:Around} {R:Result->Shared->Prop} {s:Shared}
theorem compLoop_go {elt target iter:Expr}{scope:Scope}{pos:Pos}{it acc:Value}{env:Env}(I:Nat->Shared->Prop)
 (turn:∀n s,I n s->wpAny (model prog w) A (pyNext it) (λr s₁=>match r with
  |none=>R (.ok .next) s₁
  |some v=>wpAny (model prog w) A (letOwnedTupleGo target it v) (λ_ s₀=>wpAny (model prog w) A (assign target env v) (λ_ s₂=>wpAny (model prog w) A (eval elt env) (λx s₃=>
   wpAny (model prog w) A (call (.builtin "list.append") [acc,x]) (λ_ s₄=>∃m,m<n/\I m s₄) (λ_ _=>False) s₃) (λ_ _=>False) s₂) (λ_ _=>False) s₀) (λ_ _=>False) s₁) (λ_ _=>False) s)
 (n:Nat) (h:I n s):codeAny (model prog w) A (.compLoop (.ListComp elt [⟨target,iter,[],0⟩] scope pos) 0 it acc env) R s:=by
 refine codeAny_loop rfl I (λn s hI=>?_) n h;show wpAny _ _ ((compTurn (.ListComp elt [⟨target,iter,[],0⟩] scope pos) 0 it acc env).onRaise (λx=>do noteFrame x env;theTreesLotGoes x)) _ _ s;refine wpAny_noted ?_;rw[compTurn_list1];refine wpAny_bind (wpAny_standAt (wpAny_bind (wpAny_mono (turn n s hI) (λr s₁ h₁=>?_) λ_ _ h'=>h'.elim)))
 cases r with
 |none=>exact wpAny_pure h₁
 |some v=>
  refine wpAny_bind (wpAny_mono h₁ (λ_ s₀ h₀=>?_) λ_ _ h'=>h'.elim)
  exact wpAny_bind (wpAny_mono h₀ (λ_ s₂ h₂=>wpAny_bind (wpAny_bind (wpAny_mono h₂ (λx s₃ h₃=>wpAny_bind (wpAny_mono h₃
   (λ_ s₄ h₄=>wpAny_pure (wpAny_pure ⟨rfl,h₄⟩)) λ_ _ h'=>h'.elim)) λ_ _ h'=>h'.elim))) λ_ _ h'=>h'.elim)
end
def cxComp (X:Cx)(Nc:List Str)(scope:Scope)(cl:List (Str×Addr))(C:Addr)(s:Shared)(H:Hp)(ex:List Addr):Cx where
 prog:=X.prog
 w:=X.w
 K:=X.K
 mg:=X.mg
 base:=X.base
 A:=X.A
 N:=Nc
 s₀:=s
 H₀:=H
 env:=compEnvC scope cl C X.env
 outer:=X.stack
 stack:=X.stack
 ex:=ex
 fn:=λ_=>false
 calm:=X.calm
 pn:=[]
 xe:=λ_ _=>False
def CompGo (te:TE)(fv:St)(Q:VK)(J:It)(H1:Hp):Prop:=∃W:Nat->Nat->List V->Hp->Prop,(∃m,W 0 m [] H1)/\∀i m ys H2,W i m ys H2->
 (J.stop i H2/\ys.length<=sizeLine/\∀D,H2 D=none->Q (.ref D) (upd H2 D (.lst ys)))\/
 (J.go i H2/\ys.length<sizeLine/\∀x H3,J.yld i H2 x H3->te (some x::fv) H3 λy H4=>∃m',m'<m/\W (i+ 1) m' (ys++[y]) H4)
def tComp (wi:TI)(fv:St->St)(te:TE):TE:=λ σ H Q=>wi σ H (CompGo te (fv σ) Q)
structure CompScope (X:Cx) (x:Str) (fns:List Str) (ixs:List Nat) (scope:Scope) (cl:List (Str×Addr)):Prop where
 clos:closureFor scope X.env=pure cl
 sub:∀y c,cl.lookup y=some c->X.env.cells.lookup y=some c
 cell:∀y∈scope.names,y.2≠.cell
 kind:scope.kind=.function
 names:∀y∈scope.names,y.2=.local->scope.names.lookup y.1=some .local
 own:scope.names.lookup x=some .local
 has:∀y,((relabel scope X.env).names.lookup y=some .cell\/(relabel scope X.env).names.lookup y=some .free)->∃c,cl.lookup y=some c
 nd:(x::fns).Nodup
 len:ixs.length=fns.length
 at_:∀(j:Nat) (y:Str),fns[j]?=some y->∃i:Nat,ixs[j]?=some i/\X.N[i]?=some y/\(X.env.kindOf y=some .cell\/X.env.kindOf y=some .free)/\∃c,cl.lookup y=some c/\((relabel scope X.env).names.lookup y=some .cell\/(relabel scope X.env).names.lookup y=some .free)
def fvOf (ixs:List Nat):St->St:=λ σ=>ixs.map λi=>(σ[i]?).join
section
variable {X:Cx} {elt iter:Expr} {x:Str} {px pos:Pos} {scope:Scope} {cl:List (Str×Addr)} {fns:List Str} {ixs:List Nat} {wi:TI} {te:TE}
theorem relabel_own (hx:scope.names.lookup x=some .local):(relabel scope X.env).names.lookup x=some .local:=lookup_relabel_local hx
theorem pe_comp (hc:X.calm=true)(hi:PI X (.Name x px) iter wi)(S:CompScope X x fns ixs scope cl)
 (he:∀(C:Addr) (s:Shared) (H:Hp) (ex:List Addr),PE (cxComp X (x::fns) scope cl C s H ex) elt te)
 (hs:∀x,foldedSetIterable iter X.env x=pure x:=by intro _;rfl):
 PE X (.ListComp elt [⟨.Name x px,iter,[],0⟩] scope pos) (tComp wi (fvOf ixs) te):=by
 intro pins s σ H Q I h;rw[eval_ListComp];refine wpAny_comprehension_free (use:=none) rfl hs S.clos S.kind S.names (thn (hi pins s σ H _ I h) λv s1 h1=>thn h1 λitv s2 h2=>?_);obtain⟨it,fp,tn,J,H2,e,I2,T,st2,f2,W,⟨m0,w0⟩,turn⟩:=h2;subst e
 have hfpLt:∀b∈fp,b<s2.heap.objs.size:=λb hb=>by
  obtain⟨o,ho,_⟩:=T.obj _ _ st2 b hb;exact Heap.lt_size ho
 refine wpAny_newObj_type (wpAny_newFunctionEnv S.cell (by intro y hy;simp at hy) (λh₁ hns₁ hsb₁=>?_) S.kind);dsimp only at hns₁ hsb₁ ⊢;generalize hH3:s2.heap.push { cls:=.type "list",dict:=none,data:=.seq ([]:List Value).toArray }=hp3 at hns₁ hsb₁ ⊢;generalize hD:s2.heap.objs.size=D at hfpLt ⊢;have hC:hp3.objs.size=D+ 1:=by rw[←hH3,Heap.size_push,hD]
 generalize hCe:hp3.objs.size=C at hC hns₁ hsb₁ ⊢;have hDltC:D<C:=by omega
 have hDC:D≠C:=Nat.ne_of_lt hDltC;have k23:∀b u,s2.heap.get? b=some u->hp3.get? b=some u:=λb u q=>by rw[←hH3];exact Heap.get?_push_of_some _ q
 have ltD:∀{b u},s2.heap.get? b=some u->b<D:=λq=>by rw[←hD];exact Heap.lt_size q
 have k34:∀b u,hp3.get? b=some u->h₁.get? b=some u:=λb u q=>
  hsb₁.extBut b u (Nat.ne_of_lt (Nat.lt_of_lt_of_le (Heap.lt_size q) (Nat.le_of_eq hCe))) (Heap.get?_push_of_some _ q)
 have hDo:hp3.get? D=some { cls:=.type "list",dict:=none,data:=.seq ([]:List Value).toArray }:=by rw[←hH3,←hD];exact Heap.get?_push_size _ rfl
 have I3:Inv X pins σ H2 { s2 with heap:=hp3 }:=I2.kept (t':=s2.toks) k23;have hnD:H2 D=none:=I2.hok.fresh (by omega);have hnC:H2 C=none:=I2.hok.fresh (by omega)
 have nstk:∀b∈D::fp,b∉frs X.stack:=λb hb z=>by
  rcases List.mem_cons.mp (I2.stkSub b z) with e|z
  ·rcases List.mem_cons.mp hb with e2|hb
   ·exact absurd I2.lt (by rw[←e,e2,←hD];exact Nat.lt_irrefl _)
   ·exact(f2 b hb).2.1 e
  ·rcases List.mem_cons.mp hb with e2|hb
   ·exact I2.nofs (by rw[e2,←hD];exact Nat.le_refl _) z
   ·exact(f2 b hb).2.2.1 z
 have cne:∀y c,cl.lookup y=some c->∀b∈D::fp,c≠b:=λy c q b hb z=>by
  obtain⟨v,hv⟩:=I2.cell y c (S.sub y c q);rcases List.mem_cons.mp hb with e2|hb
  ·exact absurd hv.lt (by rw[z,e2,←hD];exact Nat.lt_irrefl _)
  ·exact(f2 b hb).2.2.2.2.1 y c (S.sub y c q) z
 -- the block's context
 let Xc:Cx:=cxComp X (x::fns) scope cl C { s2 with heap:=hp3 } H2 (D::fp)
 have ok:Xc.Ok:={
  mod:=I2.ok.mod
  kind:=S.kind
  glob:=I2.ok.glob
  blt:=I2.ok.blt
  above:=by show hp3.objs.size<=C;omega
  inj:=λy z c q1 q2=>I2.ok.inj y z c (S.sub _ _ q1) (S.sub _ _ q2)
  has:=S.has
  cab:=λy c q=>nomatch q
  hd:=I2.ok.hd
  frames:=I2.ok.frames
  stk:=.inl rfl
  exf:=λb hb=>⟨by
   rcases List.mem_cons.mp hb with e2|hb
   ·rw[e2];exact hDC
   ·exact Nat.ne_of_lt (Nat.lt_trans (hfpLt b hb) hDltC),λy c q=>cne y c q b hb⟩
  bs:=I3.bs
  bsz:=Nat.le_trans I3.ok.bsz I3.sz
  noex:=λb o q hb=>by
   rcases List.mem_cons.mp hb with e2|hb
   ·exact absurd (ltD (I2.bs b o q).1) (by rw[e2];exact Nat.lt_irrefl _)
   ·rcases (f2 b hb).2.2.2.1 with z|z
    ·exact I2.ok.noex b o q z
    ·exact absurd (Heap.lt_size (I2.ok.bs b o q).1) (Nat.not_lt.mpr z)
  exfs:=nstk
  funs:=I3.stack
  frf:=I3.stkFree }
 have start:∀(v0:Option V),v0=none->Inv Xc [(D,{ cls:=.type "list",dict:=none,data:=.seq ([]:List Value).toArray })] (v0::fvOf ixs σ) H2 { s2 with heap:=h₁,toks:=s2.toks+ ([]:List (Str×Value)).length }:=λv0 hv0=>{
  ok:=ok
  os:=rfl
  bare:=I2.bare
  base:=Un.kept k34
  loc:=⟨_,hns₁,λi y v e1 e2 e3=>by
   cases i with
   |zero=>rw[hv0]at e2;cases e2
   |succ j=>
    have e1':fns[j]?=some y:=e1
    have e2':(fvOf ixs σ)[j]?=some (some v):=e2
    obtain⟨i,hi1,hi2,hk,c,hc1,hc2⟩:=S.at_ j y e1';unfold fvOf at e2';rw[List.getElem?_map,hi1]at e2'
    have e3':σ[i]?=some (some v):=by
     have z:(σ[i]?).join=some v:=Option.some.inj e2'
     cases q:σ[i]? with
     |none=>rw[q]at z;cases z
     |some o=>rw[q]at z;rw[show o=some v from z]
    obtain⟨m,_,hl⟩:=I2.loc;obtain⟨u,r,l⟩:=hl i y v hi2 e3' (hk.elim (λz=>.inr (.inl z)) λz=>.inr (.inr z));refine⟨u,r,.inr ⟨hc2,c,hc1,?_⟩⟩;rcases l with ⟨z,_⟩|⟨_,c',hc',hcell⟩
    ·rcases hk with hk|hk <;> (rw[hk]at z;cases z)
    ·have:c'=c:=Option.some.inj (hc'.symm.trans (S.sub _ _ hc1));subst this;obtain⟨o,ho,hd⟩:=hcell;exact⟨o,k34 _ _ (k23 _ _ ho),hd⟩⟩
  cell:=λy c q=>by
   obtain⟨v,o,ho,hd⟩:=I2.cell y c (S.sub y c q);exact⟨v,o,k34 _ _ (k23 _ _ ho),hd⟩
  free:=hnC
  freeC:=λy c q=>I2.freeC y c (S.sub y c q)
  pin:=λp hp=>by
   have hp':p=(D,{ cls:=.type "list",dict:=none,data:=.seq ([]:List Value).toArray }):=by simpa [Xc,cxComp] using hp
   subst hp';exact⟨k34 _ _ hDo,hnD,hDC,nstk D (List.mem_cons_self ..),λv z=>nomatch z⟩
  hok:=(I2.hok.kept k23).kept k34
  len:=by show (v0::fvOf ixs σ).length=(x::fns).length;simp[fvOf,S.len] }
 -- what stays true of the iterator's objects
 have fpc:∀{H':Hp} {pins':List (Addr×Obj)},(∀b∈fp,H' b=none)->(∀p∈pins',p.1=D)->∀b∈fp,FpOk Xc pins' H' b:=λ{H' pins'} hn hp b hb=>
  ⟨hn b hb,Nat.ne_of_lt (Nat.lt_trans (hfpLt b hb) hDltC),nstk b (List.mem_cons_of_mem _ hb),.inl (List.mem_cons_of_mem _ hb),λy c q=>cne y c q b (List.mem_cons_of_mem _ hb),λp q=>by
   have q':p∈pins':=by simpa [Xc,cxComp] using q
   rw[hp p q'];exact Nat.ne_of_gt (hfpLt b hb)⟩
 have loop:codeAny (model X.prog X.w) X.A (.compLoop (.ListComp elt [⟨.Name x px,iter,[],0⟩] scope pos) 0 (.ref it) (.ref D) (compEnvC scope cl C X.env))
  (compPost (model X.prog X.w) X.A X.xe none (EP X pins σ Q) (.ref D) C) { s2 with heap:=h₁,toks:=s2.toks+ ([]:List (Str×Value)).length }:=by
  refine compLoop_go (λn s'=>∃(i:Nat) (ys:List V) (its:List Value) (nn:Nat) (v0:Option V) (H':Hp),Inv Xc [(D,{ cls:=.type "list",dict:=none,data:=.seq its.toArray nn })] (v0::fvOf ixs σ) H' s'/\tn i s'.heap/\(∀b∈fp,H' b=none)/\Vals ys its/\W i n ys H') ?_ m0
   ⟨0,[],[],0,none,H2,start none rfl,T.keep _ _ _ st2 λb _ o q=>k34 _ _ (k23 _ _ q),λb hb=>(f2 b hb).1,.nil,w0⟩
  rintro n s3 ⟨i,ys,its,nn,v0,H3,J3,tn3,fr3,vv,w3⟩
  have pinD:∀p∈([(D,({ cls:=.type "list",dict:=none,data:=.seq its.toArray nn }:Obj))]:List (Addr×Obj)),p.1=D:=λp hp=>by
   have:p=(D,{ cls:=.type "list",dict:=none,data:=.seq its.toArray nn }):=by simpa using hp
   rw[this]
  rcases turn i n ys H3 w3 with ⟨stop,hlen,q⟩|⟨go,hlen,step⟩
  ·-- the end
   refine thn (T.done Xc rfl rfl rfl hc i _ s3 _ H3 _ J3 (fpc fr3 pinD) tn3 stop) λr s4 ⟨hr,J4⟩=>?_
   subst hr;obtain⟨m,hn,_⟩:=J4.loc;refine⟨m,hn,λh'' hsb=>?_⟩;obtain⟨gD,nD,_,_,_⟩:=J4.pin (D,{ cls:=.type "list",dict:=none,data:=.seq its.toArray nn }) (by simp[Xc,cxComp]);have B:=J4.base;have kC:∀b u,b≠C->s4.heap.get? b=some u->h''.get? b=some u:=λb u hb q=>(hsb.2 b hb).trans q
   have ne:∀{b o},s2.heap.get? b=some o->b≠C/\b≠D:=λq=>⟨Nat.ne_of_lt (Nat.lt_trans (ltD q) hDltC),Nat.ne_of_lt (ltD q)⟩
   have nex:∀{b o},s2.heap.get? b=some o->b∉fp->b∉D::fp:=λq hx z=>(List.mem_cons.mp z).elim (ne q).2 hx
   have uu:Un (frs X.stack) fp H2 (upd H3 D (.lst ys)) s2.heap h'':={
    keep:=λb o q n hb hx=>kC b o (ne q).1 (B.keep b o (k23 b o q) n hb (nex q hx))
    slot:=λb o q n hb hx=>by
     obtain⟨sl,e⟩:=B.slot b o (k23 b o q) n hb (nex q hx);exact⟨sl,kC b _ (ne q).1 e⟩
    free:=λb o q n hx=>by rw[upd_ne (ne q).2];exact B.free b o (k23 b o q) n (nex q hx)
    there:=λb o q hx=>by
     obtain⟨o',e⟩:=B.there b o (k23 b o q) (nex q hx);exact⟨o',kC b _ (ne q).1 e⟩
    tups:=λb xs q=>by rw[upd_ne (ne_of_none q hnD)];exact B.tups b xs q
    frzs:=λb o xs q=>by rw[upd_ne (ne_of_none q hnD)];exact B.frzs b o xs q
    tbls:=λb ps q=>by
     obtain⟨more,e⟩:=B.tbls b ps q;exact⟨more,by rw[upd_ne (ne_of_none q hnD)];exact e⟩ }
   have hok:HOk X.prog X.w (upd H3 D (.lst ys)) h'':=λb u e=>by
    by_cases hb:b=D
    ·subst hb;rw[upd_same]at e;cases e;exact⟨hlen,its,nn,vv,kC _ _ hDC gD⟩
    ·rw[upd_ne hb]at e;refine(J4.hok b u e).stay (λc v hc q=>kC c v ?_ q) (λc q=>by rw[upd_ne (ne_of_none q nD)];exact q) λc xs q=>by rw[upd_ne (ne_of_none q nD)];exact q
     have fC:H3 C=none:=J4.free;rcases hc with rfl|hc
     ·exact ne_of_none e fC
     ·exact ne_of_none hc fC
   exact⟨.ref D,_,I2.call' (s':={ s4 with heap:=h'' }) J4.os uu hok J4.bare (λb hb=>⟨(f2 b hb).2.2.2.1,(f2 b hb).2.1,(f2 b hb).2.2.2.2.1,(f2 b hb).2.2.2.2.2⟩),rfl,q D nD⟩
  ·-- a turn
   refine thn (T.item Xc rfl rfl rfl hc i _ s3 _ H3 _ J3 (fpc fr3 pinD) tn3 go) λr s4 ⟨u,hr,h4⟩=>?_
   subst hr;refine thn h4 λ_ s5 ⟨xv,H5,J5,r5,y5,tn5,fr5⟩=>?_
   have J5':=J5.pinned (fpc fr5 pinD) (T.obj _ _ tn5);have hg:PG Xc (.Name x px) (gName 0):=pg_name (X:=Xc) (i:=0) S.nd rfl (.inl (relabel_own S.own)) (.inr (relabel_own S.own));refine thn (hg _ s5 _ H5 xv u (λ σ' H'=>σ'=some xv::fvOf ixs σ/\H'=H5) J5' r5 ⟨rfl,rfl⟩) λ_ s6 ⟨σ6,H6,J6,e6,e6'⟩=>?_
   subst e6 e6';refine thn (he C { s2 with heap:=hp3 } H2 (D::fp) _ s6 _ H6 _ J6 (step xv H6 y5)) λyv s7 ⟨y,H7,J7,r7,m',hm',w7⟩=>?_
   obtain⟨gD,nD,_,_,_⟩:=J7.pin (D,{ cls:=.type "list",dict:=none,data:=.seq its.toArray nn }) (by simp[Xc,cxComp]);have tn7:tn (i+ 1) s7.heap:=T.keep _ _ _ tn5 λb hb o e=>(J7.pin (b,o) (List.mem_append_right _ (List.mem_append_right _ (mem_pinsAt hb e)))).1
   have fr7:∀b∈fp,H7 b=none:=λb hb=>by
    obtain⟨o,e,d⟩:=T.obj _ _ tn5 b hb;exact(J7.pin (b,o) (List.mem_append_right _ (List.mem_append_right _ (mem_pinsAt hb e)))).2.1
   have J7':Inv Xc [] (some xv::fvOf ixs σ) H7 s7:=J7.pins_of λp hp=>nomatch hp
   refine wpAny_list_append_plain (hsz:=by rw[List.size_toArray,←vv.length];omega) ⟨nn,gD⟩ λh8 pl8 sb8=>?_
   obtain⟨n8,g8⟩:=pl8
   have J8:Inv Xc [] (some xv::fvOf ixs σ) H7 { s7 with heap:=h8 }:=J7'.turned (t':=s7.toks) (it:=D) (λb o hb e=>(sb8.2 b hb).trans e) nD (hDC) (.inl (List.mem_cons_self ..))
    (λy c q=>cne y c q D (List.mem_cons_self ..)) (λp hp=>by simp[Xc,cxComp]at hp)
   refine⟨m',hm',i+ 1,ys++[y],its++[yv],n8,some xv,H7,J8.pins_of λp hp=>?_,?_,fr7,vv.append (.cons r7 .nil),w7⟩
   ·have:p=(D,{ cls:=.type "list",dict:=none,data:=.seq (its++[yv]).toArray n8 }):=by simpa using hp
    subst this;refine⟨?_,nD,hDC,nstk D (List.mem_cons_self ..),λv z=>nomatch z⟩;have:its.toArray.push yv=(its++[yv]).toArray:=by simp
    rw[this]at g8;exact g8
   ·exact T.keep _ _ _ tn7 λb hb o e=>(sb8.2 b (Nat.ne_of_lt (hfpLt b hb))).trans e
 exact codeAny_compStart_list loop (T.self _ 0 _ _ _ (T.keep _ _ _ st2 λb _ o q=>k34 _ _ (k23 _ _ q)) loop)
end
theorem compScope0 {X:Cx}{x:Str}{scope:Scope}(hf:∀y∈scope.names,y.2≠.free)(hc:∀y∈scope.names,y.2≠.cell)(hk:scope.kind=.function)
 (hn:∀y∈scope.names,y.2=.local->scope.names.lookup y.1=some .local) (hx:scope.names.lookup x=some .local):CompScope X x [] [] scope [] where
 clos:=closureFor_none hf
 sub:=λy c h=>nomatch h
 cell:=hc
 kind:=hk
 names:=hn
 own:=hx
 has:=λy h=>by
  have e:(relabel scope X.env).names=scope.names:=by
   unfold relabel;refine map_eq_self λz hz=>?_
   obtain⟨n,k⟩:=z;have:(k==NameKind.free)=false:=by simpa using hf _ hz
   simp[this]
  rw[e]at h;rcases h with h|h
  ·exact absurd rfl (hc _ (PySem.mem_of_lookup h))
  ·exact absurd rfl (hf _ (PySem.mem_of_lookup h))
 nd:=by simp
 len:=rfl
 at_:=λj y h=>by simp at h
theorem itt_go {K:PySem.W.Frag}{H:Hp}{a:Addr}{xs:List V}(h:SqT K H a xs):∀i,i<xs.length->(Itt K a).go i H:=λi hi=>⟨xs,xs[i],h,List.getElem?_eq_getElem hi⟩
theorem itt_yld {K:PySem.W.Frag}{H:Hp}{a:Addr}{xs:List V}(h:SqT K H a xs):∀i x H3,i<xs.length->(Itt K a).yld i H x H3->H3=H/\xs[i]?=some x:=λi x H3 _ y=>⟨y.1,y.2 xs h⟩
theorem itt_stop {K:PySem.W.Frag}{H:Hp}{a:Addr}{xs:List V}(h:SqT K H a xs):(Itt K a).stop xs.length H:=⟨xs,h,Nat.le_refl _⟩
theorem itl_go {K:PySem.W.Frag}{H:Hp}{a:Addr}{xs:List V}(h:SqL K H a xs):∀i,i<xs.length->(Itl K a).go i H:=λi hi=>⟨xs,xs[i],h,List.getElem?_eq_getElem hi⟩
theorem itl_yld {K:PySem.W.Frag}{H:Hp}{a:Addr}{xs:List V}(h:SqL K H a xs):∀i x H3,i<xs.length->(Itl K a).yld i H x H3->H3=H/\xs[i]?=some x:=λi x H3 _ y=>⟨y.1,y.2 xs h⟩
theorem itl_stop {K:PySem.W.Frag}{H:Hp}{a:Addr}{xs:List V}(h:SqL K H a xs):(Itl K a).stop xs.length H:=⟨xs,h,Nat.le_refl _⟩
def tCut (t:TS):TS:=λD σ H=>∃G:St->Hp->Prop,t { D with nx:=G } σ H/\∀ σ' H',G σ' H'->D.nx σ' H'
theorem ps_cut {X:Cx}{st:Stmt}{t:TS}(h:PS X st t):PS X st (tCut t):=by
 intro pins s σ H D I ⟨G,h1,h2⟩;refine thn (h pins s σ H { D with nx:=G } I h1) λf s' q=>?_
 cases f with
 |next=>obtain⟨σ',H',I',g⟩:=q;exact⟨σ',H',I',h2 σ' H' g⟩
 |_=>exact q
theorem relabel_mem {scope:Scope}{env:Env}{y:Str}{k:NameKind}(h:(relabel scope env).names.lookup y=some k)(hk:k=.cell\/k=.free)(hc:∀z∈scope.names,z.2≠.cell):(y,NameKind.free)∈scope.names:=by
 have hm:=PySem.mem_of_lookup h;unfold relabel at hm;obtain⟨⟨n,k'⟩,hz,e⟩:=List.mem_map.mp hm;dsimp only at e;by_cases hf:(k'==NameKind.free && env.scope.kind==.function && env.kindOf n==some .cell)=true
 ·rw[if_pos hf]at e;have e1:n=y:=congrArg Prod.fst e;rw[Bool.and_eq_true,Bool.and_eq_true]at hf;have e2:k'=.free:=eq_of_beq hf.1.1;rw[←e1,←e2];exact hz
 ·rw[if_neg hf]at e;have e1:n=y:=congrArg Prod.fst e;have e2:k'=k:=congrArg Prod.snd e;subst e1 e2;rcases hk with rfl|rfl
  ·exact absurd rfl (hc _ hz)
  ·exact hz
theorem lookup_relabel_free {env:Env}(hf:env.scope.kind=.function){y:Str}(hy:env.kindOf y=some .cell):∀{names:List (Str×NameKind)},names.lookup y=some .free->
 (names.map λ(n,k)=>if (k==NameKind.free && env.scope.kind==.function && env.kindOf n==some .cell) then (n,NameKind.cell) else (n,k)).lookup y=some .cell
 |[],h=>by simp at h
 |(n,k)::r,h=>by
  have ih:=@lookup_relabel_free env hf y hy r;show List.lookup y ((if (k==NameKind.free && env.scope.kind==.function && env.kindOf n==some .cell)=true then (n,NameKind.cell) else (n,k))::_)=_
  cases hx:y==n with
  |true=>
   simp only[List.lookup_cons,hx]at h;have e:y=n:=eq_of_beq hx;subst e;cases h;have hc:(NameKind.free==NameKind.free && env.scope.kind==.function && env.kindOf y==some .cell)=true:=by rw[hf,hy];rfl
   rw[if_pos hc];simp only[List.lookup_cons,hx]
  |false=>
   simp only[List.lookup_cons,hx]at h;by_cases hc:(k==NameKind.free && env.scope.kind==.function && env.kindOf n==some .cell)=true
   ·rw[if_pos hc];simp only[List.lookup_cons,hx];exact ih h
   ·rw[if_neg hc];simp only[List.lookup_cons,hx];exact ih h
theorem compScope1 {X:Cx}{x y:Str}{scope:Scope}{c:Addr}{i:Nat}(hclos:closureFor scope X.env=pure [(y,c)])(hy:X.env.cells.lookup y=some c)(hc:∀z∈scope.names,z.2≠.cell)(hk:scope.kind=.function)
 (hn:∀z∈scope.names,z.2=.local->scope.names.lookup z.1=some .local) (hx:scope.names.lookup x=some .local) (hfree:∀z∈scope.names,z.2=.free->z.1=y) (hxy:x≠y) (hi:X.N[i]?=some y)
 (hky:X.env.kindOf y=some .cell) (hkf:X.env.scope.kind=.function) (hys:scope.names.lookup y=some .free):CompScope X x [y] [i] scope [(y,c)] where
 clos:=hclos
 sub:=λz d h=>by
  by_cases e:z=y
  ·subst e;have:c=d:=by simpa [List.lookup_cons] using h
   rw[←this];exact hy
  ·have hb:(z==y)=false:=beq_eq_false_iff_ne.mpr e;simp[List.lookup_cons,hb]at h
 cell:=hc
 kind:=hk
 names:=hn
 own:=hx
 has:=λz h=>by
  have e:z=y:=by
   rcases h with h|h
   ·exact hfree _ (relabel_mem h (.inl rfl) hc) rfl
   ·exact hfree _ (relabel_mem h (.inr rfl) hc) rfl
  subst e;exact⟨c,by simp[List.lookup_cons]⟩
 nd:=by simp[hxy]
 len:=rfl
 at_:=λj z h=>by
  cases j with
  |zero=>
   have e:y=z:=by simpa using h
   subst e;exact⟨i,rfl,hi,.inl hky,c,by simp[List.lookup_cons],.inl (lookup_relabel_free hkf hky hys)⟩
  |succ j=>simp at h
end L2
namespace L2
open PySem PySem.Spec PyProof.Rows
namespace Rv
theorem slot_init:Slot "reversed" "__init__" "object.__init__":=
 .of (owner:="object") (n:="__init__") (by rw[typeLookup_type,builtinLookup_eq_fast];kernel_rfl) (by decide +kernel) (by decide +kernel) (by decide +kernel)
  (by first|exact .inl (by decide +kernel)|exact .inr (by decide +kernel)) (by rw[isSubtype_type];kernel_rfl)
theorem called:TypeCalled "reversed" "reversed.__new__" "object.__init__":=
 ⟨by decide +kernel,by decide +kernel,⟨_,_,PySem.F.mro_reversed⟩,PySem.F.made_reversed,by decide +kernel,by rw[isSubtype_type];kernel_rfl,slot_init⟩
def IsRv (h:Heap)(it t:Addr)(i:Int):Prop:=∃o,h.get? it=some o/\o.cls=.type "reversed"/\o.data=.fields #[.ref t,rawInt i]
section
variable {prog:Program} {w:World} {A:Around} {E:Value->Shared->Prop} {s:Shared}
end
end Rv
section
variable {X:Cx} {tg:Expr}
end
end L2
namespace L2
open PySem PySem.Spec PyProof.Rows
def intV (ns:List Int):List V:=ns.map V.int
theorem ints_at {ns:List Int}{i:Nat}{z:Int}(h:ns[i]?=some z):(intV ns)[i]?=some (V.int z):=by
 unfold intV;rw[List.getElem?_map,h];rfl
theorem ints_len (ns:List Int):(intV ns).length=ns.length:=List.length_map ..
theorem ints_of_at {ns:List Int}{i:Nat}{v:V}(h:(intV ns)[i]?=some v):∃z,v=V.int z/\ns[i]?=some z:=by
 unfold intV at h;rw[List.getElem?_map]at h
 cases e:ns[i]? with
 |none=>rw[e]at h;cases h
 |some z=>rw[e]at h;exact⟨z,(Option.some.inj h).symm,rfl⟩
theorem ints_app (a b:List Int):intV (a++b)=intV a++intV b:=List.map_append ..
theorem all_eq (ns ms:List Int):((List.range (min ns.length ms.length)).all (λj=>decide (ns[j]?=ms[j]?)) && ns.length==ms.length)=decide (ns=ms):=by
 rw[Bool.eq_iff_iff,Bool.and_eq_true,List.all_eq_true,decide_eq_true_iff,beq_iff_eq];constructor
 ·rintro ⟨h1,h2⟩;refine List.ext_getElem? λi=>?_
  by_cases hi:i<ns.length
  ·exact of_decide_eq_true (h1 i (List.mem_range.mpr (by omega)))
  ·rw[List.getElem?_eq_none (by omega),List.getElem?_eq_none (by omega)]
 ·rintro rfl;exact⟨λj _=>decide_eq_true rfl,rfl⟩
section
variable {X:Cx}
def rEqTI (K:PySem.W.Frag):R2:=λx y H Q=>∃a b ns ms,x=.ref a/\y=.ref b/\SqT K H a (intV ns)/\SqT K H b (intV ms)/\Q (.bl (decide (ns=ms))) H
theorem eqItems {A:Around}{s:Shared}{ns ms:List Int}{its its2:List Value}(r1:Vals (intV ns) its)(r2:Vals (intV ms) its2)(j:Nat)(h1:j<its.toArray.size)(h2:j<its2.toArray.size):
 SeqAt.EqAt A s its.toArray[j] its2.toArray[j] (decide (ns[j]?=ms[j]?)):=by
 have l1:=r1.length;have l2:=r2.length;rw[ints_len]at l1 l2;have g1:j<its.length:=by simpa using h1
 have g2:j<its2.length:=by simpa using h2
 have e1:ns[j]?=some ns[j]:=List.getElem?_eq_getElem (by omega)
 have e2:ms[j]?=some ms[j]:=List.getElem?_eq_getElem (by omega)
 obtain⟨u,hu,t,rfl⟩:=r1.get (ints_at e1);obtain⟨v,hv,t',rfl⟩:=r2.get (ints_at e2)
 have f1:its.toArray[j]=Value.int ns[j] t:=by
  rw[List.getElem_toArray];exact Option.some.inj ((List.getElem?_eq_getElem g1).symm.trans hu)
 have f2:its2.toArray[j]=Value.int ms[j] t':=by
  rw[List.getElem_toArray];exact Option.some.inj ((List.getElem?_eq_getElem g2).symm.trans hv)
 rw[f1,f2,e1,e2];have:=SeqAt.EqAt.int_int (A:=A) (s:=s) ns[j] t ms[j] t'
 have e:decide (some ns[j]=some ms[j])=(ns[j]==ms[j]):=by
  rw[Bool.eq_iff_iff,decide_eq_true_iff,beq_iff_eq];exact⟨Option.some.inj,congrArg some⟩
 rw[e];exact this
theorem op_eqTI (hu:X.A.units<cLine):OpR X (compareOp .Eq) (rEqTI X.K):=by
 intro pins s σ H x y v u Q I rx ry h;obtain⟨a,b,ns,ms,rfl,rfl,ha,hb,q⟩:=h;cases rx;cases ry;obtain⟨its,r1,p1,_⟩:=I.tuple ha;obtain⟨its2,r2,p2,_⟩:=I.tuple hb;refine SeqAt.eq_tupleAt (e:=λj=>decide (ns[j]?=ms[j]?)) (show s.heap.IsTuple a its.toArray from p1) (show s.heap.IsTuple b its2.toArray from p2) hu (λj h1 h2=>eqItems r1 r2 j h1 h2) ⟨.bl (decide (ns=ms)),H,I,?_,q⟩;have l1:=r1.length;have l2:=r2.length;rw[ints_len]at l1 l2;show _=Value.bool (decide (ns=ms));rw[←all_eq,List.size_toArray,List.size_toArray,←l1,←l2]
def rIsi (K:PySem.W.Frag):List V->Hp->VK->Prop:=λxs H Q=>∃x T t b,xs=[x,.ty T]/\TyOf K H x t/\PySem.W.kitOne K t (.type T)=some b/\Q (.bl b) H
theorem call_isi:CallR X (.builtin "isinstance") (rIsi X.K):=by
 intro pins s σ H xs us Q I r h;obtain⟨x,T,t,b,rfl,ty,e,q⟩:=h;obtain⟨u,w',rfl,rx,ry⟩:=vals2 r;cases ry;exact isinst_ok I rx ty e λtk=>⟨.bl b,H,I.tok tk,rfl,q⟩
theorem kit_self (K:PySem.W.Frag)(T:String):PySem.W.kitOne K (.type T) (.type T)=some true:=by
 unfold PySem.W.kitOne;rw[if_pos (beq_self_eq_true _)]
theorem kit_int_bool (K:PySem.W.Frag):PySem.W.kitOne K (.type "int") (.type "bool")=some false:=by
 first|rfl|kernel_rfl|decide +kernel
end
end L2
namespace L2
open PySem PySem.Spec PyProof.Rows
theorem Same.upd {H:Hp}{a:Addr}{o:HO}(h:H a=Option.none):Same H (upd H a o):=λb u e=>by
 rw[upd_ne (ne_of_none e h)];exact e
section
variable {X:Cx}
end
end L2
namespace HT
open PySem PyProof.Rows
section
variable {prog:Program} {w:World} {A:Around} {E:Value->Shared->Prop} {s:Shared}
end
end HT
namespace L2
open PySem PySem.Spec PyProof.Rows
section
variable {X:Cx} {e:Expr} {te:TE} {lo hi:Option Expr} {st:Expr} {tl th ts:TO} {pos p2:Pos}
end
end L2
namespace L2
open PySem PySem.Spec PyProof.Rows
def tx (l:List Nat):Str:=⟨l.toArray⟩
theorem tx_list (l:List Nat):(tx l).cps.toList=l:=rfl
theorem tx_len (l:List Nat):(tx l).length=l.length:=by
 show l.toArray.size=l.length;simp
theorem tx_inj {a b:List Nat}(h:tx a=tx b):a=b:=by
 have:=congrArg (λs:Str=>s.cps.toList) h;exact this
theorem str_ext {x y:Str}(h:x.cps.toList=y.cps.toList):x=y:=by
 obtain⟨a⟩:=x;obtain⟨b⟩:=y;have:a=b:=Array.toList_inj.mp h;rw[this]
theorem tx_of (x:Str):x=tx x.cps.toList:=str_ext rfl
theorem tx_app (a b:List Nat):tx a++tx b=tx (a++b):=by
 refine str_ext ?_;show ((tx a).cps++(tx b).cps).toList=(a++b);rw[Array.toList_append];rfl
section
variable {X:Cx} {pos:Pos}
theorem pe_strX {x:Str}{l:List Nat}{j}(h:x=tx l):PE X (.Constant (.str x) j pos) (tC (.str (tx l))):=by
 rw[←h];exact pe_str
def rAddX:R2:=λx y H Q=>∃a b,x=.str (tx a)/\y=.str (tx b)/\a.length+ b.length<=sizeLine/\Q (.str (tx (a++b))) H
theorem op_addX:OpR X (binaryOp .Add) rAddX:=by
 intro pins s σ H x y v u Q I rx ry h;obtain⟨a,b,rfl,rfl,hz,q⟩:=h;exact op_add_str pins s σ H _ _ v u Q I rx ry ⟨_,_,rfl,rfl,by rw[tx_len,tx_len];exact hz,by rw[tx_app];exact q⟩
def rIxX:R2:=λx y H Q=>∃l i c,x=.str (tx l)/\y=.int i/\l.length<=sizeLine/\atI l i=some c/\Q (.str (tx [c])) H
theorem ix_X:IxR X rIxX:=by
 intro value slice pins s σ H x y v u Q I rx ry h hs;obtain⟨l,i,c,rfl,rfl,hz,he,q⟩:=h;exact ix_str value slice pins s σ H _ _ v u Q I rx ry ⟨_,i,c,rfl,rfl,by rw[tx_len];exact hz,he,q⟩ hs
theorem slice_to (l:List Nat)(j:Nat)(h:j<=l.length):Txt.slice (tx l) none (some (j:Int))=tx (l.take j):=by
 have:=eq_of_beq (slice_closes_toL (x:=tx l) (j:=(j:Int)) (by omega) (by rw[tx_len];omega));rw[this];refine str_ext ?_;show (((tx l).cps.toList.drop (0:Int).toNat).take ((j:Int) - 0).toNat).toArray.toList=l.take j;rw[tx_list];simp
theorem slice_from (l:List Nat)(i:Nat)(h:i<=l.length):Txt.slice (tx l) (some (i:Int)) none=tx (l.drop i):=by
 have:=eq_of_beq (slice_closes_fromL (x:=tx l) (i:=(i:Int)) (b:=(l.length:Int)) (by omega) (by rw[tx_len];omega) (by rw[tx_len]));rw[this];refine str_ext ?_;show (((tx l).cps.toList.drop (i:Int).toNat).take ((l.length:Int) - (i:Int)).toNat).toArray.toList=l.drop i;rw[tx_list];simp only[Int.toNat_natCast];refine List.take_of_length_le ?_;rw[List.length_drop];omega
def rSlX:V->Option Int->Option Int->Hp->VK->Prop:=λx lo hi H Q=>∃l,x=.str (tx l)/\l.length<=sizeLine/\
 ((lo=none/\∃j:Nat,hi=some (j:Int)/\j<=l.length/\Q (.str (tx (l.take j))) H)\/(hi=none/\∃i:Nat,lo=some (i:Int)/\i<=l.length/\Q (.str (tx (l.drop i))) H))
theorem sl_X:SlR X rSlX:=by
 intro pins s σ H x v vl vu lo hi sl Q I rx hs pl pu h;obtain⟨l,rfl,hz,h⟩:=h;obtain⟨t,rfl⟩:=rx;have hz':(tx l).length<=sizeLine:=by rw[tx_len];exact hz
 refine⟨"str",_,F.slot_str_getitem.lookup,typeIs_str _ _ _,?_⟩;obtain⟨os,hos,hcs,hds⟩:=id hs;rcases h with ⟨rfl,j,rfl,hj,q⟩|⟨rfl,i,rfl,hi,q⟩
 ·cases pl
  cases pu with
  |int i u=>
   refine wpAny_getItem_str_slice (l:=none) (u:=some ((j:Int),u)) (st:=none) ⟨os,hos,hcs,hds⟩ rfl ?_;refine post_val_or_str ⟨Nat.le_trans (Txt.slice_le (tx l) none (some (j:Int))) hz',λt' k=>?_⟩;refine⟨.str (tx (l.take j)),H,I.tok _,⟨t',?_⟩,q⟩;rw[←slice_to l j hj];rfl
 ·cases pu
  cases pl with
  |int i u=>
   refine wpAny_getItem_str_slice (l:=some (_,u)) (u:=none) (st:=none) ⟨os,hos,hcs,hds⟩ rfl ?_;refine post_val_or_str ⟨Nat.le_trans (Txt.slice_le (tx l) (some _) none) hz',λt' k=>?_⟩;refine⟨.str (tx (l.drop _)),H,I.tok _,⟨t',?_⟩,q⟩;rw[←slice_from l _ hi];rfl
def rUpX:V->List V->Hp->VK->Prop:=λx vs H Q=>∃l,x=.str (tx l)/\vs=[]/\l.length<=1000/\(∀c∈l,c<128)/\Q (.str (tx (l.map up1))) H
theorem mt_upX:MtM X "str.upper" rUpX:=by
 intro pins s σ H x vs v us Q I rx rv h;obtain⟨l,rfl,rfl,hz,ha,q⟩:=h;obtain⟨t,rfl⟩:=rx;have hus:=rv.zero;subst hus
 have e:Txt.upper (tx l)=tx (l.map up1):=by
  rw[upper_ascii (x:=tx l) ha];refine str_ext ?_;show ((tx l).cps.map up1).toList=l.map up1;rw[Array.toList_map];rfl
 refine PySem.SC.upper ?_ ?_
 ·rw[e,tx_len,List.length_map];unfold Builtin.Str.tooLong;exact decide_eq_false (Nat.not_lt.mpr (Nat.le_trans hz (by decide)))
 ·rw[e];exact⟨.str (tx (l.map up1)),H,I.tok _,⟨_,rfl⟩,q⟩
end
end L2
namespace L2
open PySem PySem.Spec PyProof.Rows
structure Def (K:PySem.W.Frag) (mg:Str->Option Value) (x:Str) (st:Stmt) (ps:List Str) (f:Addr) (fd:FuncData):Prop where
 F:Fun K x x st f fd
 m:mg x=some (.ref f)
 b:Binds K fd ps []
section
variable {X:Cx}
end
theorem cut_ints (ns:List Int)(lo hi:Option Int):cutV (intV ns) lo hi=intV ((ns.drop (HT.sIx ns.length 0 lo)).take (HT.sIx ns.length ns.length hi - HT.sIx ns.length 0 lo)):=by
 unfold cutV intV;rw[List.length_map,List.map_take,List.map_drop]
end L2
namespace L2
open PySem PySem.Spec PyProof.Rows
section
variable {κ:Type} [DecidableEq κ]
def valV (kvs:List (κ×V))(k:κ):Option V:=(kvs.find? λkv=>decide (kv.1=k)).map (·.2)
def putK (kvs:List (κ×V))(k:κ)(v:V):List (κ×V):=
 if (kvs.any λkv=>decide (kv.1=k))=true then kvs.map (λkv=>if kv.1=k then (kv.1,v) else kv) else kvs++[(k,v)]
def dropK (kvs:List (κ×V))(k:κ):List (κ×V):=kvs.filter λkv=>decide (kv.1≠k)
theorem valV_pos {p:κ×V}{r:List (κ×V)}{k:κ}(e:p.1=k):valV (p::r) k=some p.2:=by simp[valV,List.find?_cons,e]
theorem valV_neg {p:κ×V}{r:List (κ×V)}{k:κ}(e:¬p.1=k):valV (p::r) k=valV r k:=by simp[valV,List.find?_cons,e]
theorem valV_any (k:κ):∀kvs:List (κ×V),(kvs.any λkv=>decide (kv.1=k))=(valV kvs k).isSome
 |[]=>rfl
 |p::r=>by
  rw[List.any_cons];by_cases e:p.1=k
  ·simp only[valV_pos e,decide_eq_true e,Bool.true_or,Option.isSome_some]
  ·rw[valV_neg e,decide_eq_false e,Bool.false_or];exact valV_any k r
theorem valV_map (k j:κ)(y:V):∀kvs:List (κ×V),valV (kvs.map λkv=>if kv.1=k then (kv.1,y) else kv) j=(valV kvs j).map λx=>if j=k then y else x
 |[]=>rfl
 |p::r=>by
  have ih:=valV_map k j y r;rw[List.map_cons];by_cases h:p.1=k
  ·rw[if_pos h];by_cases e:p.1=j
   ·rw[valV_pos (p:=(p.1,y)) e,valV_pos e,Option.map_some,if_pos (e.symm.trans h)]
   ·rw[valV_neg (p:=(p.1,y)) e,valV_neg e,ih]
  ·rw[if_neg h];by_cases e:p.1=j
   ·rw[valV_pos (p:=p) e,valV_pos e,Option.map_some,if_neg (λz=>h (e.trans z))]
   ·rw[valV_neg (p:=p) e,valV_neg e,ih]
theorem valV_snoc (k j:κ)(y:V):∀kvs:List (κ×V),valV kvs k=none->valV (kvs++[(k,y)]) j=if j=k then some y else valV kvs j
 |[],_=>by
  by_cases e:k=j
  ·rw[if_pos e.symm];exact valV_pos (p:=(k,y)) e
  ·rw[if_neg (λz=>e z.symm)];exact valV_neg (p:=(k,y)) e
 |p::r,hn=>by
  rw[List.cons_append];have hk:¬p.1=k:=λz=>by rw[valV_pos z]at hn;cases hn
  rw[valV_neg hk]at hn;have ih:=valV_snoc k j y r hn;by_cases e:p.1=j
  ·rw[valV_pos e,valV_pos e,if_neg (λz=>hk (e.trans z))]
  ·rw[valV_neg e,valV_neg e,ih]
theorem valV_put (kvs:List (κ×V))(k j:κ)(y:V):valV (putK kvs k y) j=if j=k then some y else valV kvs j:=by
 unfold putK;by_cases a:(kvs.any λkv=>decide (kv.1=k))=true
 ·rw[if_pos a,valV_map];rw[valV_any]at a;by_cases e:j=k
  ·obtain⟨x,hx⟩:=Option.isSome_iff_exists.mp a;rw[if_pos e,e,hx,Option.map_some,if_pos rfl]
  ·rw[if_neg e]
   cases valV kvs j with
   |none=>rfl
   |some x=>rw[Option.map_some,if_neg e]
 ·rw[if_neg a];refine valV_snoc k j y kvs ?_;rw[valV_any]at a
  cases q:valV kvs k with
  |none=>rfl
  |some x=>rw[q]at a;exact(a rfl).elim
theorem length_putK (kvs:List (κ×V))(k:κ)(v:V):(putK kvs k v).length<=kvs.length+ 1:=by
 unfold putK;split
 ·rw[List.length_map];omega
 ·rw[List.length_append,List.length_cons,List.length_nil];omega
theorem putK_new {kvs:List (κ×V)}{k:κ}(v:V)(h:valV kvs k=none):putK kvs k v=kvs++[(k,v)]:=by
 unfold putK;rw[valV_any,h];exact if_neg (by decide)
theorem RelO.isSome_eq {o:Option V}{u:Option Value}(r:RelO o u):o.isSome=u.isSome:=by
 cases o with
 |none=>cases u with
  |none=>rfl
  |some _=>exact(show False from r).elim
 |some _=>cases u with
  |none=>exact(show False from r).elim
  |some _=>rfl
theorem RelO.getD {o:Option V}{u:Option Value}{d:V}{d':Value}(r:RelO o u)(rd:RelV d d'):RelV (o.getD d) (u.getD d'):=by
 cases o with
 |none=>cases u with
  |none=>exact rd
  |some _=>exact(show False from r).elim
 |some _=>cases u with
  |none=>exact(show False from r).elim
  |some _=>exact r
theorem KV.val {kvs:List (κ×V)}{vs:List (κ×Value)}(r:KV kvs vs)(k:κ):RelO (valV kvs k) (valueAt vs k):=by
 unfold KV at r
 induction r with
 |nil=>exact True.intro
 | @cons p q ps qs h t ih=>
   obtain⟨h1,h2⟩:=h;by_cases e:p.1=k
   ·have e':q.1=k:=h1.symm.trans e;have b:valueAt (q::qs) k=some q.2:=by simp[valueAt,List.find?_cons,e']
    rw[valV_pos e,b];exact h2
   ·have e':¬q.1=k:=λz=>e (h1.trans z)
    have b:valueAt (q::qs) k=valueAt qs k:=by simp[valueAt,List.find?_cons,e']
    rw[valV_neg e,b];exact ih
theorem KV.any {kvs:List (κ×V)}{vs:List (κ×Value)}(r:KV kvs vs)(k:κ):(kvs.any λkv=>decide (kv.1=k))=vs.any λkv=>decide (kv.1=k):=by
 unfold KV at r
 induction r with
 |nil=>rfl
 |cons h t ih=>rw[List.any_cons,List.any_cons,ih,h.1]
theorem KV.repl {kvs:List (κ×V)}{vs:List (κ×Value)}(r:KV kvs vs)(k:κ){y:V}{u:Value}(ry:RelV y u):
 KV (kvs.map λkv=>if kv.1=k then (kv.1,y) else kv) (vs.map λkv=>if kv.1=k then (kv.1,u) else kv):=by
 unfold KV at r ⊢
 induction r with
 |nil=>exact .nil
 | @cons p q ps qs h t ih=>
   rw[List.map_cons,List.map_cons];refine .cons ?_ ih;obtain⟨h1,h2⟩:=h;by_cases e:p.1=k
   ·rw[if_pos e,if_pos (h1.symm.trans e)];exact⟨h1,ry⟩
   ·rw[if_neg e,if_neg (λz=>e (h1.trans z))];exact⟨h1,h2⟩
theorem KV.put {kvs:List (κ×V)}{vs:List (κ×Value)}(r:KV kvs vs)(k:κ){y:V}{u:Value}(ry:RelV y u):KV (putK kvs k y) (stored vs k u):=by
 unfold putK stored;rw[r.any k];by_cases e:(vs.any λkv=>decide (kv.1=k))=true
 ·rw[if_pos e,if_pos e];exact r.repl k ry
 ·rw[if_neg e,if_neg e];exact Paired.snoc r ⟨rfl,ry⟩
theorem KV.drop {kvs:List (κ×V)}{vs:List (κ×Value)}(r:KV kvs vs)(k:κ):KV (dropK kvs k) (without vs k):=by
 unfold KV at r ⊢;unfold dropK without
 induction r with
 |nil=>exact .nil
 | @cons p q ps qs h t ih=>
   obtain⟨h1,h2⟩:=h;rw[List.filter_cons,List.filter_cons];by_cases e:p.1=k
   ·have a:¬decide (p.1≠k)=true:=by simp[e]
    have b:¬decide (q.1≠k)=true:=by simp[h1.symm.trans e]
    rw[if_neg a,if_neg b];exact ih
   ·have e':¬q.1=k:=λz=>e (h1.trans z)
    have a:decide (p.1≠k)=true:=by simp[e]
    have b:decide (q.1≠k)=true:=by simp[e']
    rw[if_pos a,if_pos b];exact .cons ⟨h1,h2⟩ ih
theorem KV.length {kvs:List (κ×V)}{vs:List (κ×Value)}(r:KV kvs vs):kvs.length=vs.length:=Paired.length r
theorem dropK_le (kvs:List (κ×V))(k:κ):(dropK kvs k).length<=kvs.length:=List.length_filter_le _ _
end
theorem kV_is {P:Program}{w:World}{k:Key}{u:Value}(r:RelV (kV k) u):(mixKind P w).is k u=true:=by
 cases k with
 |inl i=>obtain⟨t,e⟩:=(show ∃t,u=Value.int i t from r);subst e;exact mixKind_int P w i t
 |inr x=>obtain⟨t,e⟩:=(show ∃t,u=Value.str x t from r);subst e;exact mixKind_str P w x t
theorem items_are {P:Program}{w:World}:∀{ks:List Key} {us:List Value},Vals (ks.map kV) us->ItemsAre (mixKind P w) ks us
 |[],_,r=>by rw[List.map_nil]at r;cases r;exact .nil
 |k::ks,_,r=>by
  rw[List.map_cons]at r
  cases r with
  |cons h t=>exact .cons (kV_is h) (items_are t)
abbrev KT (H:Hp):List (List Key×V)->List (List Key×Addr×Value)->Prop:=Paired λp q=>p.1=q.1/\H q.2.1=some (.tup (p.1.map kV))/\RelV p.2 q.2.2
theorem KT.val {H:Hp}{kvs:List (List Key×V)}{xs:List (List Key×Addr×Value)}(r:KT H kvs xs)(k:List Key):RelO (valV kvs k) ((atKey xs k).map (·.2)):=by
 induction r with
 |nil=>exact True.intro
 | @cons p q ps qs h t ih=>
   obtain⟨h1,_,h2⟩:=h;by_cases e:p.1=k
   ·have e':q.1=k:=h1.symm.trans e;have b:atKey (q::qs) k=some q.2:=by simp[atKey,List.find?_cons,e']
    rw[valV_pos e,b];exact h2
   ·have e':¬q.1=k:=λz=>e (h1.trans z)
    have b:atKey (q::qs) k=atKey qs k:=by simp[atKey,List.find?_cons,e']
    rw[valV_neg e,b];exact ih
theorem KT.repl {H:Hp}{kvs:List (List Key×V)}{xs:List (List Key×Addr×Value)}(r:KT H kvs xs)(k:List Key){y:V}{u:Value}(ry:RelV y u):
 KT H (kvs.map λkv=>if kv.1=k then (kv.1,y) else kv) (xs.map (putAt k u)):=by
 induction r with
 |nil=>exact .nil
 | @cons p q ps qs h t ih=>
   rw[List.map_cons,List.map_cons];refine .cons ?_ ih;obtain⟨h1,h2,h3⟩:=h;unfold putAt;by_cases e:p.1=k
   ·rw[if_pos e,if_pos (h1.symm.trans e)];exact⟨h1,h2,ry⟩
   ·rw[if_neg e,if_neg (λz=>e (h1.trans z))];exact⟨h1,h2,h3⟩
theorem KT.put {H:Hp}{kvs:List (List Key×V)}{xs:List (List Key×Addr×Value)}(r:KT H kvs xs)(k:List Key){b:Addr}{y:V}{u:Value}(hb:H b=some (.tup (k.map kV)))(ry:RelV y u):
 KT H (putK kvs k y) (storedH xs k b u):=by
 have e:(kvs.any λkv=>decide (kv.1=k))=(atKey xs k).isSome:=by
  rw[valV_any,(r.val k).isSome_eq,Option.isSome_map]
 unfold putK storedH;rw[e];by_cases q:(atKey xs k).isSome=true
 ·rw[if_pos q,if_pos q];exact r.repl k ry
 ·rw[if_neg q,if_neg q];exact Paired.snoc r ⟨rfl,hb,ry⟩
theorem KT.keeps {H H':Hp}{kvs:List (List Key×V)}{xs:List (List Key×Addr×Value)}(r:KT H kvs xs)(ht:∀b ys,H b=some (.tup ys)->H' b=some (.tup ys)):KT H' kvs xs:=
 Paired.mapP r λ_ _ z=>⟨z.1,ht _ _ z.2.1,z.2.2⟩
section
variable {P:Program} {w:World} {H:Hp} {h:Heap} {a:Addr}
theorem rd_of {u:HO}(ok:HOk P w H h)(e:Rd H a u):ObjOk P w H h a u:=e.ok ok
theorem dk_rd {kvs:List (Key×V)}(ok:HOk P w H h)(e:Rd H a (.dK kvs)):kvs.length<=sizeLine/\(a==sysModules)=false/\∃vs,KV kvs vs/\h.DictOf (mixKind P w) a vs:=
 show ObjOk P w H h a (.dK kvs) from rd_of ok e
theorem dk_of {kvs:List (Key×V)}(ok:HOk P w H h)(e:H a=some (.dK kvs)):kvs.length<=sizeLine/\(a==sysModules)=false/\∃vs,KV kvs vs/\h.DictOf (mixKind P w) a vs:=dk_rd ok (.inl e)
theorem key_of {ks:List Key}(ok:HOk P w H h)(e:H a=some (.tup (ks.map kV))):(tupleKind (mixKind P w)).is h ks a:=by
 obtain⟨_,its,r,o,h1,h2,n,h3⟩:=(show ObjOk P w H h a (.tup (ks.map kV)) from ok a _ e);exact⟨o,its.toArray,n,h1,h2,h3,by simpa using items_are r⟩
theorem dt_rd {kvs:List (List Key×V)}(ok:HOk P w H h)(e:Rd H a (.dT kvs)):kvs.length<=sizeLine/\(a==sysModules)=false/\
 ∃xs,KT H kvs xs/\h.DictOfH (tupleKind (mixKind P w)) a xs:=by
 obtain⟨z,y,xs,r,o,es,ep,h1,h2,h3,h4,h5⟩:=(show ObjOk P w H h a (.dT kvs) from rd_of ok e);refine⟨z,y,xs,r,o,es,ep,h1,h2,h3,h4,λx hx=>?_,h5⟩
 have all:∀{l:List (List Key×V)} {m:List (List Key×Addr×Value)},KT H l m->∀x∈m,(tupleKind (mixKind P w)).is h x.1 x.2.1:=by
  intro l m q
  induction q with
  |nil=>intro x hx;exact nomatch hx
  | @cons p q ps qs hq t ih=>
    intro x hx;rcases List.mem_cons.mp hx with e|hx
    ·subst e;exact key_of ok (by rw[←hq.1];exact hq.2.1)
    ·exact ih x hx
 exact all r x hx
theorem dt_of {kvs:List (List Key×V)}(ok:HOk P w H h)(e:H a=some (.dT kvs)):kvs.length<=sizeLine/\(a==sysModules)=false/\
 ∃xs,KT H kvs xs/\h.DictOfH (tupleKind (mixKind P w)) a xs:=dt_rd ok (.inl e)
end
def DGet (H:Hp)(a:Addr)(y:V)(r:Option V):Prop:=
 (∃kvs k,Rd H a (.dK kvs)/\y=kV k/\r=valV kvs k)\/∃kvs k b,Rd H a (.dT kvs)/\y=.ref b/\H b=some (.tup (k.map kV))/\r=valV kvs k
def DPut (H:Hp)(a:Addr)(y v:V)(H':Hp):Prop:=
 (∃kvs k,H a=some (.dK kvs)/\y=kV k/\kvs.length<sizeLine/\H'=upd H a (.dK (putK kvs k v)))\/
 ∃kvs k b,H a=some (.dT kvs)/\y=.ref b/\H b=some (.tup (k.map kV))/\kvs.length<sizeLine/\H'=upd H a (.dT (putK kvs k v))
theorem DGet.k {H:Hp}{a:Addr}{kvs:List (Key×V)}{k:Key}(e:H a=some (.dK kvs)):DGet H a (kV k) (valV kvs k):=.inl ⟨kvs,k,.inl e,rfl,rfl⟩
theorem DPut.k {H:Hp}{a:Addr}{kvs:List (Key×V)}{k:Key}{v:V}(e:H a=some (.dK kvs))(hl:kvs.length<sizeLine):DPut H a (kV k) v (upd H a (.dK (putK kvs k v))):=.inl ⟨kvs,k,e,rfl,hl,rfl⟩
section
variable {X:Cx} {pins:List (Addr×Obj)} {σ:St} {H:Hp} {s:Shared} {a:Addr} {y v:V} {u r:Value} {o:Option V} {A:Around} {E:Value->Shared->Prop}
theorem Inv.big (I:Inv X pins σ H s):sysModules<s.heap.objs.size:=by
 have h:mainGlobals<s.heap.objs.size:=(I.mod.glob.keeps I.bk).lt;exact Nat.lt_trans (by decide) h
theorem d_getItem {Q:Value->Shared->Prop}(hu:A.units+ 1<cLine)(I:Inv X pins σ H s)(g:DGet H a y (some v))(ry:RelV y u)(h:∀w' s',Inv X pins σ H s'->RelV v w'->Q w' s'):
 wpAny (model X.prog X.w) A (getItem (.ref a) u) Q E s:=by
 rcases g with ⟨kvs,k,e,ey,l⟩|⟨kvs,k,b,e,ey,eb,l⟩
 ·subst ey;obtain⟨z,hd,vs,rel,dd⟩:=dk_rd I.hok e;obtain⟨w',hw,rw'⟩:=RelO.some_of (v:=v) (o:=valueAt vs k) (by rw[l];exact rel.val k);exact wpAny_getItem_of (kV_is ry) dd.mapOf hw (h w' _ (I.tok _) rw')
 ·subst ey;cases (show u=Value.ref b from ry);obtain⟨z,hd,xs,rel,dd⟩:=dt_rd I.hok e;obtain⟨w',hw,rw'⟩:=RelO.some_of (v:=v) (o:=(atKey xs k).map (·.2)) (by rw[l];exact rel.val k);obtain⟨p,hp,hp2⟩:=Option.map_eq_some_iff.mp hw;refine wpAny_getItem_heap (tupleKind_room_in1 hu) (key_of I.hok eb) dd hp ?_;rw[hp2];exact h w' _ (I.tok _) rw'
theorem d_write {h':Heap}{t':Nat}{ob:HO}(I:Inv X pins σ H s)(mu:Mut (H a))(hs:Heap.SameBut a s.heap h')(he:∃q,h'.get? a=some q)(new:ObjOk X.prog X.w (upd H a ob) h' a ob):
 Inv X pins σ (upd H a ob) { s with heap:=h',toks:=t' }:=
 I.write (x:=a) (e:=a) mu (.inl rfl) (λb q hb z=>(hs.2 b hb).trans z) he new
theorem dk_new {P:Program}{w:World}{H':Hp}{h':Heap}{kvs:List (Key×V)}{vs:List (Key×Value)}(z:kvs.length<=sizeLine)(hd:(a==sysModules)=false)(rel:KV kvs vs)(dd:h'.DictOf (mixKind P w) a vs):
 ObjOk P w H' h' a (.dK kvs):=⟨z,hd,vs,rel,dd⟩
theorem d_setItem {H':Hp}{Q:Unit->Shared->Prop}(hu:A.units+ 1<cLine)(I:Inv X pins σ H s)(g:DPut H a y v H')(ry:RelV y u)(rv:RelV v r)(h:∀s',Inv X pins σ H' s'->Q () s'):
 wpAny (model X.prog X.w) A (setItem (.ref a) u r) Q E s:=by
 rcases g with ⟨kvs,k,e,ey,l,eH⟩|⟨kvs,k,b,e,ey,eb,l,eH⟩
 ·subst ey eH;obtain⟨z,hd,vs,rel,dd⟩:=dk_of I.hok e;have hz:vs.length<=sizeLine:=by rw[←rel.length];exact z
  have hl:(putK kvs k v).length<=sizeLine:=by have:=length_putK kvs k v;omega
  refine wpAny_setItem_pairs (hsz:=hz) (kV_is ry) dd λh' dd' hs=>h _ ?_
  have he:∃q,h'.get? a=some q:=let ⟨q,_,_,hq,_⟩:=dd';⟨q,hq⟩
  exact d_write I (by rw[e];exact True.intro) hs he (dk_new hl hd (rel.put k rv) dd')
 ·subst ey eH;cases (show u=Value.ref b from ry);obtain⟨z,hd,xs,rel,dd⟩:=dt_of I.hok e;have hz:xs.length<=sizeLine:=by rw[←Paired.length rel];exact z
  have hl:(putK kvs k v).length<=sizeLine:=by have:=length_putK kvs k v;omega
  refine wpAny_setItem_heap (hsz:=hz) (tupleKind_room_in1 hu) (key_of I.hok eb) dd λh' dd' hs=>h _ ?_
  obtain⟨q,es,ep,hq,h2,h3,h4,_,h5⟩:=dd';refine d_write I (by rw[e];exact True.intro) hs ⟨q,hq⟩ ⟨hl,hd,_,(rel.put k eb rv).keeps λc ys ec=>?_,q,es,ep,hq,h2,h3,h4,h5⟩;rw[upd_ne (ne_of ec e (λz=>nomatch z))];exact ec
end
section
variable {X:Cx} {pins:List (Addr×Obj)} {σ:St} {H:Hp} {s:Shared} {a:Addr} {kvs:List (Key×V)} {k:Key} {u:Value} {A:Around} {E:Value->Shared->Prop}
theorem d_pop {v:V}{more:List Value}{Q:Value->Shared->Prop}(I:Inv X pins σ H s)(e:H a=some (.dK kvs))(ry:RelV (kV k) u)(l:valV kvs k=some v)(hm:more=[]\/∃x,more=[x])
 (h:∀w' s',Inv X pins σ (upd H a (.dK (dropK kvs k))) s'->RelV v w'->Q w' s'):wpAny (model X.prog X.w) A (call (.builtin "dict.pop") (.ref a::u::more)) Q E s:=by
 obtain⟨z,hd,vs,rel,dd⟩:=dk_of I.hok e;obtain⟨w',hw,rw'⟩:=RelO.some_of (v:=v) (o:=valueAt vs k) (by rw[←l];exact rel.val k)
 have hp:(keyPart u).isSome=true:=by
  cases k with
  |inl i=>obtain⟨t,q⟩:=(show ∃t,u=Value.int i t from ry);subst q;rfl
  |inr x=>obtain⟨t,q⟩:=(show ∃t,u=Value.str x t from ry);subst q;rfl
 have ha:argsOk "dict.pop" ⟨.ref a::u::more,[]⟩:=by
  rcases hm with q|⟨x,q⟩
  ·subst q;exact PySem.F.args_dict_pop_2 _ _
  ·subst q;exact PySem.F.args_dict_pop_3 _ _ _
 refine call_meetsIn PySem.F.slot_dict_pop dd.typeIs PySem.F.entry_dict_pop ha (meets_dict_pop_there (mixKind X.prog X.w) a (kV_is ry) more hm hp)
  ⟨vs,w',dd,by rw[←rel.length];exact z,hw,λh' dd' hs=>h w' _ ?_ rw'⟩
 have he:∃q,h'.get? a=some q:=let ⟨q,_,_,hq,_⟩:=dd';⟨q,hq⟩
 exact d_write I (by rw[e];exact True.intro) hs he (dk_new (Nat.le_trans (dropK_le kvs k) z) hd (rel.drop k) dd')
theorem d_popD {r:Value}{Q:Value->Shared->Prop}(I:Inv X pins σ H s)(e:H a=some (.dK kvs))(ry:RelV (kV k) u)(l:valV kvs k=none)(h:∀s',Inv X pins σ H s'->Q r s'):
 wpAny (model X.prog X.w) A (call (.builtin "dict.pop") [.ref a,u,r]) Q E s:=by
 obtain⟨z,hd,vs,rel,dd⟩:=dk_of I.hok e;have hn:valueAt vs k=none:=RelO.none_of (by rw[←l];exact rel.val k)
 have hp:(keyPart u).isSome=true:=by
  cases k with
  |inl i=>obtain⟨t,q⟩:=(show ∃t,u=Value.int i t from ry);subst q;rfl
  |inr x=>obtain⟨t,q⟩:=(show ∃t,u=Value.str x t from ry);subst q;rfl
 exact call_meetsIn PySem.F.slot_dict_pop dd.typeIs PySem.F.entry_dict_pop (PySem.F.args_dict_pop_3 _ _ _) (meets_dict_pop_default (mixKind X.prog X.w) a (kV_is ry) hd hp r) ⟨vs,dd,hn,h _ (I.tok _)⟩
end
def NoSl (i:Expr):Prop:=∀ov iv,subscripted i false ov iv=operate [ov,iv] (getItem ov iv)
theorem subD_of {prog:Program}{w:World}{A:Around}{E:Value->Shared->Prop}{s:Shared}{env:Env}{value slice:Expr}{pos:Pos}{T id:String}{Q:Value->Shared->Prop}
 (hl:typeLookup (.type T) "__getitem__"=pure (some (.builtin id))) (hs:NoSl slice)
 (h:wpAny (model prog w) A (eval value env) (λo s₁=>wpAny (model prog w) A (eval slice env) (λi s₂=>s₂.TypeIs o T/\wpAny (model prog w) A (getItem o i) Q E s₂) E s₁) E s):
 wpAny (model prog w) A (eval (.Subscript value slice pos) env) Q E s:=by
 refine Subscript_ (wpAny_mono h (λo s₁ h₁=>wpAny_mono h₁ (λi s₂ h₂=>?_) λ_ _ x=>x) λ_ _ x=>x);obtain⟨hT,h₂⟩:=h₂;unfold subscriptTail;refine wpAny_bind ?_;rw[getitemInPython_of_ne hT.not_modules];refine wpAny_bind (wpAny_specialOf hT hl ?_)
 have fin:wpAny (model prog w) A (subscripted slice false o i) (λr s₃=>wpAny (model prog w) A (letTemporaryGo value o r >>=λ_=>pure r) Q E s₃) E s₂:=by
  rw[hs o i];exact wpAny_operating (wpAny_mono h₂ (λr s₃ h₃=>wpAny_bind (wpAny_letTemporaryGo (wpAny_pure h₃))) λ_ _ x=>x)
 first
  |exact wpAny_pure (wpAny_bind fin)
  |exact wpAny_bind (wpAny_pure (wpAny_bind fin))
  |exact wpAny_bind fin
theorem dict_typeIs {X:Cx}{pins:List (Addr×Obj)}{σ:St}{H:Hp}{s:Shared}{a:Addr}{y:V}{o:Option V}(I:Inv X pins σ H s)(g:DGet H a y o):s.TypeIs (.ref a) "dict":=by
 rcases g with ⟨kvs,k,e,_,_⟩|⟨kvs,k,b,e,_,_,_⟩
 ·obtain⟨_,_,vs,_,dd⟩:=dk_rd I.hok e;exact dd.typeIs
 ·obtain⟨_,_,xs,_,dd⟩:=dt_rd I.hok e;exact dd.typeIs
def tDGet (td ty:TE):TE:=λ σ H Q=>td σ H λx H1=>ty σ H1 λy H2=>∃a v,x=.ref a/\DGet H2 a y (some v)/\Q v H2
def sDPut (td ty tv:TE):TS:=λD σ H=>tv σ H λv H1=>td σ H1 λx H2=>ty σ H2 λy H3=>∃a H4,x=.ref a/\DPut H3 a y v H4/\D.nx σ H4
section
variable {X:Cx} {o i e value:Expr} {pos pos' tpos:Pos} {td ty tv:TE}
theorem pe_dget (hu:X.A.units+ 1<cLine)(ho:PE X o td)(hi:PE X i ty)(hs:NoSl i):PE X (.Subscript o i pos) (tDGet td ty):=by
 intro pins s σ H Q I h;refine subD_of PySem.F.slot_dict_getitem.lookup hs (thn (ho pins s σ H _ I h) λu s1 ⟨x,H1,I1,rx,q1⟩=>thn (hi pins s1 σ H1 _ I1 q1) λiv s2 ⟨y,H2,I2,ry,a,v,ex,g,q2⟩=>?_);subst ex;obtain rfl:u=Value.ref a:=rx;exact⟨dict_typeIs I2 g,d_getItem hu I2 g ry λw' s3 I3 rw'=>⟨v,H2,I3,rw',q2⟩⟩
theorem ps_dput (hu:X.A.units+ 1<cLine)(ho:PE X o td)(hi:PE X i ty)(hv:PE X value tv)(hs:swapsWith value (some (.Subscript o i pos')) pos.line X.env=pure false):
 PS X (.Assign [.Subscript o i pos'] value pos) (sDPut td ty tv):=by
 intro pins s σ H D I h;refine wpAny_Assign_Subscript (thn (hv pins s σ H _ I h) λr s1 ⟨v,H1,I1,rv,q1⟩=>thn (ho pins s1 σ H1 _ I1 q1) λu s2 ⟨x,H2,I2,rx,q2⟩=>thn (hi pins s2 σ H2 _ I2 q2) λiv s3 ⟨y,H3,I3,ry,a,H4,ex,g,q3⟩=>?_) hs;subst ex;obtain rfl:u=Value.ref a:=rx;exact d_setItem hu I3 g ry rv λs4 I4=>⟨σ,H4,I4,q3⟩
end
theorem dk_empty {P:Program}{w:World}{H:Hp}(h:Heap)(hb:sysModules<h.objs.size):ObjOk P w H (h.push { cls:=.type "dict",data:=.dict #[] }) h.objs.size (.dK []):=
 ⟨Nat.zero_le _,beq_eq_false_iff_ne.mpr (Ne.symm (Nat.ne_of_lt hb)),[],.nil,Heap.DictOf.new h⟩
def tDNewK:TE:=λ_ H Q=>∀p,H p=none->Q (.ref p) (upd H p (.dK []))
section
variable {X:Cx} {pos:Pos}
theorem pe_dnewK:PE X (.Dict [] [] pos) tDNewK:=λpins s σ H Q I h=>
 wpAny_Dict_empty ⟨.ref s.heap.objs.size,_,I.laid (a:=s.heap.objs.size) (o:=.dK []) (t':=s.toks) (λ_ _ q=>Heap.get?_push_of_some _ q) (Nat.le_refl _) (dk_empty s.heap I.big),rfl,h _ (I.hok.fresh (Nat.le_refl _))⟩
end
def mergeK (kvs more:List (Key×V)):List (Key×V):=more.foldl (λacc kv=>putK acc kv.1 kv.2) kvs
theorem KV.merge:∀{more:List (Key×V)} {rs:List (Key×Value)} {kvs:List (Key×V)} {vs:List (Key×Value)},KV more rs->KV kvs vs->KV (mergeK kvs more) (merged vs rs):=by
 intro more rs kvs vs r;unfold KV at r
 induction r generalizing kvs vs with
 |nil=>intro q;exact q
 | @cons p q ps qs h t ih=>
   intro r0
   have e:KV (putK kvs p.1 p.2) (stored vs q.1 q.2):=by
    have:=r0.put p.1 h.2;rw[←h.1];exact this
   exact ih e
theorem length_mergeK:∀(more kvs:List (Key×V)),(mergeK kvs more).length<=kvs.length+ more.length
 |[],kvs=>by show kvs.length<=kvs.length+ 0;omega
 |p::r,kvs=>by
  have h1:=length_mergeK r (putK kvs p.1 p.2);have h2:=length_putK kvs p.1 p.2;show (mergeK (putK kvs p.1 p.2) r).length<=_;rw[List.length_cons];omega
structure M1 (X:Cx) (o:Expr) (m:Str) (apos:Pos) (e:Expr) (cpos:Pos):Prop where
 base:attributeBase o m X.env (eval o X.env)=eval o X.env
 few:((backTo cpos (starEach [e] X.env)).all (λx=>!x.1) && (backToKw cpos (keywordEach [] X.env)).all (λx=>x.1.isSome)
  && decide (([e]:List Expr).length+ ([]:List Keyword).length+ (if ([]:List Keyword).isEmpty then 0 else 1)<30))=true
 line:(apos.endLine==cpos.line)=true
 trees:backTo cpos (starEach [e] X.env)=[(false,eval e X.env)]
structure M2 (X:Cx) (o:Expr) (m:Str) (apos:Pos) (e f:Expr) (cpos:Pos):Prop where
 base:attributeBase o m X.env (eval o X.env)=eval o X.env
 few:((backTo cpos (starEach [e,f] X.env)).all (λx=>!x.1) && (backToKw cpos (keywordEach [] X.env)).all (λx=>x.1.isSome)
  && decide (([e,f]:List Expr).length+ ([]:List Keyword).length+ (if ([]:List Keyword).isEmpty then 0 else 1)<30))=true
 line:(apos.endLine==cpos.line)=true
 trees:backTo cpos (starEach [e,f] X.env)=[(false,eval e X.env),(false,eval f X.env)]
def IsD (H:Hp)(a:Addr):Prop:=(∃kvs,Rd H a (.dK kvs))\/∃kvs,Rd H a (.dT kvs)
theorem isD_at {X:Cx}{pins:List (Addr×Obj)}{σ:St}{H:Hp}{s:Shared}{a:Addr}(I:Inv X pins σ H s)(d:IsD H a):
 s.TypeIs (.ref a) "dict"/\(∀b,Value.ref a=.ref b->∃ob,s.heap.get? b=some ob/\ob.dict=none)/\(a==sysModules)=false:=by
 rcases d with ⟨kvs,e⟩|⟨kvs,e⟩
 ·obtain⟨_,hd,vs,_,dd⟩:=dk_rd I.hok e;refine⟨dd.typeIs,λb q=>?_,hd⟩;cases q;obtain⟨ob,_,_,h1,h2,_⟩:=dd;exact⟨ob,h1,h2.2.1⟩
 ·obtain⟨_,hd,xs,_,dd⟩:=dt_rd I.hok e;refine⟨dd.typeIs,λb q=>?_,hd⟩;cases q;obtain⟨ob,_,_,h1,h2,_⟩:=dd;exact⟨ob,h1,h2.2.1⟩
section
variable {X:Cx} {pins:List (Addr×Obj)} {σ:St} {H:Hp} {s:Shared} {a:Addr} {y d:V} {u r:Value} {o:Option V} {A:Around} {E:Value->Shared->Prop}
theorem d_get1 {Q:Value->Shared->Prop}(hu:A.units+ 1<cLine)(I:Inv X pins σ H s)(g:DGet H a y o)(ry:RelV y u)(h:∀w' s',Inv X pins σ H s'->RelV (o.getD .non) w'->Q w' s'):
 wpAny (model X.prog X.w) A (call (.builtin "dict.get") [.ref a,u]) Q E s:=by
 rcases g with ⟨kvs,k,e,ey,l⟩|⟨kvs,k,b,e,ey,eb,l⟩
 ·subst ey;obtain⟨z,hd,vs,rel,dd⟩:=dk_rd I.hok e;refine call_meetsIn PySem.F.slot_dict_get dd.typeIs PySem.F.entry_dict_get (PySem.F.args_dict_get_2 _ _) (meets_dict_get (mixKind X.prog X.w) a (kV_is ry) hd) ⟨_,dd.mapOf,h _ _ (I.tok _) ?_⟩;rw[l];exact(rel.val k).getD rfl
 ·subst ey;cases (show u=Value.ref b from ry);obtain⟨z,hd,xs,rel,dd⟩:=dt_rd I.hok e;refine call_meetsIn PySem.F.slot_dict_get dd.typeIs PySem.F.entry_dict_get (PySem.F.args_dict_get_2 _ _) (meetsH_dict_get (tupleKind (mixKind X.prog X.w)) a b hd) ⟨tupleKind_room_in1 hu,k,xs,key_of I.hok eb,dd,h _ _ (I.tok _) ?_⟩;rw[l];exact(rel.val k).getD rfl
theorem d_get2 {Q:Value->Shared->Prop}(hu:A.units+ 1<cLine)(I:Inv X pins σ H s)(g:DGet H a y o)(ry:RelV y u)(rd:RelV d r)(h:∀w' s',Inv X pins σ H s'->RelV (o.getD d) w'->Q w' s'):
 wpAny (model X.prog X.w) A (call (.builtin "dict.get") [.ref a,u,r]) Q E s:=by
 rcases g with ⟨kvs,k,e,ey,l⟩|⟨kvs,k,b,e,ey,eb,l⟩
 ·subst ey;obtain⟨z,hd,vs,rel,dd⟩:=dk_rd I.hok e;refine call_meetsIn PySem.F.slot_dict_get dd.typeIs PySem.F.entry_dict_get (PySem.F.args_dict_get_3 _ _ _) (meets_dict_get_default (mixKind X.prog X.w) a (kV_is ry) hd r) ⟨_,dd.mapOf,h _ _ (I.tok _) ?_⟩;rw[l];exact(rel.val k).getD rd
 ·subst ey;cases (show u=Value.ref b from ry);obtain⟨z,hd,xs,rel,dd⟩:=dt_rd I.hok e;refine call_meetsIn PySem.F.slot_dict_get dd.typeIs PySem.F.entry_dict_get (PySem.F.args_dict_get_3 _ _ _) (meetsH_dict_get_default (tupleKind (mixKind X.prog X.w)) a b hd r) ⟨tupleKind_room_in1 hu,k,xs,key_of I.hok eb,dd,h _ _ (I.tok _) ?_⟩;rw[l];exact(rel.val k).getD rd
end
def tDGet1 (td ty:TE):TE:=λ σ H Q=>td σ H λx H1=>∃a,x=.ref a/\IsD H1 a/\ty σ H1 λy H2=>∃o,DGet H2 a y o/\Q (o.getD .non) H2
def tDGet2 (td ty tx:TE):TE:=λ σ H Q=>td σ H λx H1=>∃a,x=.ref a/\IsD H1 a/\ty σ H1 λy H2=>tx σ H2 λz H3=>∃o,DGet H3 a y o/\Q (o.getD z) H3
def tDPop1 (td ty:TE):TE:=λ σ H Q=>td σ H λx H1=>∃a,x=.ref a/\IsD H1 a/\ty σ H1 λy H2=>∃kvs k v,H2 a=some (.dK kvs)/\y=kV k/\valV kvs k=some v/\Q v (upd H2 a (.dK (dropK kvs k)))
def tDPop2 (td ty tx:TE):TE:=λ σ H Q=>td σ H λx H1=>∃a,x=.ref a/\IsD H1 a/\ty σ H1 λy H2=>tx σ H2 λz H3=>∃kvs k,H3 a=some (.dK kvs)/\y=kV k/\
 (∀v,valV kvs k=some v->Q v (upd H3 a (.dK (dropK kvs k))))/\(valV kvs k=none->Q z H3)
section
variable {X:Cx} {o e f:Expr} {apos cpos:Pos} {td ty tx:TE}
theorem pe_dget1 (hu:X.A.units+ 1<cLine)(ho:PE X o td)(he:PE X e ty)(m:M1 X o "get" apos e cpos):PE X (.Call (.Attribute o "get" apos) [e] [] cpos) (tDGet1 td ty):=by
 intro pins s σ H Q I h;refine wpAny_Call_method m.base m.few m.line PySem.F.plainAttrs_dict PySem.F.slot_dict_get PySem.F.type_dict_get (thn (ho pins s σ H _ I h) λu s1 ⟨x,H1,I1,rx,a,ex,d,q1⟩=>?_);subst ex;obtain rfl:u=Value.ref a:=rx;obtain⟨t1,t2,_⟩:=isD_at I1 d;refine⟨t1,t2,?_⟩;rw[m.trees];refine Calls.callWith_builtin rfl (Calls.evalArgs_plain (Calls.spliced_cons (thn (he pins s1 σ H1 _ I1 q1) λiv s2 ⟨y,H2,I2,ry,ov,g,q2⟩=>Calls.spliced_nil ?_)));exact d_get1 hu I2 g ry λw' s3 I3 rw'=>⟨_,H2,I3,rw',q2⟩
theorem pe_dget2 (hu:X.A.units+ 1<cLine)(ho:PE X o td)(he:PE X e ty)(hf:PE X f tx)(m:M2 X o "get" apos e f cpos):PE X (.Call (.Attribute o "get" apos) [e,f] [] cpos) (tDGet2 td ty tx):=by
 intro pins s σ H Q I h;refine wpAny_Call_method m.base m.few m.line PySem.F.plainAttrs_dict PySem.F.slot_dict_get PySem.F.type_dict_get (thn (ho pins s σ H _ I h) λu s1 ⟨x,H1,I1,rx,a,ex,d,q1⟩=>?_);subst ex;obtain rfl:u=Value.ref a:=rx;obtain⟨t1,t2,_⟩:=isD_at I1 d;refine⟨t1,t2,?_⟩;rw[m.trees]
 refine Calls.callWith_builtin rfl (Calls.evalArgs_plain (Calls.spliced_cons (thn (he pins s1 σ H1 _ I1 q1) λiv s2 ⟨y,H2,I2,ry,q2⟩=>
  Calls.spliced_cons (thn (hf pins s2 σ H2 _ I2 q2) λfv s3 ⟨z,H3,I3,rz,ov,g,q3⟩=>Calls.spliced_nil ?_))))
 exact d_get2 hu I3 g ry rz λw' s4 I4 rw'=>⟨_,H3,I4,rw',q3⟩
theorem pe_dpop1 (ho:PE X o td)(he:PE X e ty)(m:M1 X o "pop" apos e cpos):PE X (.Call (.Attribute o "pop" apos) [e] [] cpos) (tDPop1 td ty):=by
 intro pins s σ H Q I h;refine wpAny_Call_method m.base m.few m.line PySem.F.plainAttrs_dict PySem.F.slot_dict_pop PySem.F.type_dict_pop (thn (ho pins s σ H _ I h) λu s1 ⟨x,H1,I1,rx,a,ex,d,q1⟩=>?_);subst ex;obtain rfl:u=Value.ref a:=rx;obtain⟨t1,t2,_⟩:=isD_at I1 d;refine⟨t1,t2,?_⟩;rw[m.trees];refine Calls.callWith_builtin rfl (Calls.evalArgs_plain (Calls.spliced_cons (thn (he pins s1 σ H1 _ I1 q1) λiv s2 ⟨y,H2,I2,ry,kvs,k,v,ea,ey,l,q2⟩=>Calls.spliced_nil ?_)));subst ey;exact d_pop I2 ea ry l (.inl rfl) λw' s3 I3 rw'=>⟨v,_,I3,rw',q2⟩
theorem pe_dpop2 (ho:PE X o td)(he:PE X e ty)(hf:PE X f tx)(m:M2 X o "pop" apos e f cpos):PE X (.Call (.Attribute o "pop" apos) [e,f] [] cpos) (tDPop2 td ty tx):=by
 intro pins s σ H Q I h;refine wpAny_Call_method m.base m.few m.line PySem.F.plainAttrs_dict PySem.F.slot_dict_pop PySem.F.type_dict_pop (thn (ho pins s σ H _ I h) λu s1 ⟨x,H1,I1,rx,a,ex,d,q1⟩=>?_);subst ex;obtain rfl:u=Value.ref a:=rx;obtain⟨t1,t2,_⟩:=isD_at I1 d;refine⟨t1,t2,?_⟩;rw[m.trees]
 refine Calls.callWith_builtin rfl (Calls.evalArgs_plain (Calls.spliced_cons (thn (he pins s1 σ H1 _ I1 q1) λiv s2 ⟨y,H2,I2,ry,q2⟩=>
  Calls.spliced_cons (thn (hf pins s2 σ H2 _ I2 q2) λfv s3 ⟨z,H3,I3,rz,kvs,k,ea,ey,q3,q4⟩=>Calls.spliced_nil ?_))))
 subst ey
 cases l:valV kvs k with
 |some v=>exact d_pop I3 ea ry l (.inr ⟨fv,rfl⟩) λw' s4 I4 rw'=>⟨v,_,I4,rw',q3 v l⟩
 |none=>exact d_popD I3 ea ry l λs4 I4=>⟨z,H3,I4,rz,q4 l⟩
end
section
variable {X:Cx} {pins:List (Addr×Obj)} {σ:St} {H:Hp} {s:Shared} {a:Addr} {kvs:List (Key×V)} {A:Around} {E:Value->Shared->Prop}
end
section
variable {X:Cx} {pins:List (Addr×Obj)} {σ:St} {H:Hp} {s:Shared} {a:Addr} {y:V} {u:Value} {A:Around} {E:Value->Shared->Prop}
end
end L2
namespace L2
open PySem PySem.Spec PyProof.Rows
section
variable {X:Cx} {pos:Pos}
end
end L2
namespace L2
open PySem PySem.Spec PyProof.Rows
section
variable {X:Cx} {pins:List (Addr×Obj)} {σ:St} {H:Hp} {s:Shared} {h':Heap}
theorem Inv.turnLaid {fp:List Addr}{a:Addr}{o:HO}{t':Nat}(I:Inv X pins σ H s)(k:∀b u,b∉fp->s.heap.get? b=some u->h'.get? b=some u)(hf:∀b∈fp,FpOk X pins H b)
 (hp:s.heap.objs.size<=a) (new:ObjOk X.prog X.w (upd H a o) h' a o):Inv X pins σ (upd H a o) { s with heap:=h',toks:=t' }:=by
 have hn:=I.hok.fresh hp;have nf:∀b u,H b=some u->b∉fp:=λb u e z=>by rw[(hf b z).1]at e;cases e
 refine I.step (g':=s.gens) (d':=s.drawn) (ch:=fp) (λb hb=>⟨(hf b hb).2.2.2.1,(hf b hb).2.1,(hf b hb).2.2.2.2.1,(hf b hb).2.2.2.2.2⟩) (λb o _ _ hc e _=>k b o hc e) (λb o _ _ hc e _=>⟨o.slots,k b o hc e⟩)
  (λb o _ e n=>by rw[upd_ne (Nat.ne_of_lt (Nat.lt_of_lt_of_le (Heap.lt_size e) hp))];exact n) (λb o hc e=>⟨o,k b o hc e⟩) (λb xs e=>by rw[upd_ne (ne_of_none e hn)];exact e)
  (λb o u e=>by rw[upd_ne (ne_of_none e hn)];exact e) (λb ps e=>⟨#[],by rw[upd_ne (ne_of_none e hn),e];simp⟩) (λm hm=>?_) (λb u e=>?_) I.bare
 ·obtain⟨o,es,ep,ho,r⟩:=hm;exact⟨o,es,ep,k _ o (λz=>(hf _ z).2.1 rfl) ho,r⟩
 ·by_cases hb:b=a
  ·subst hb;rw[upd_same]at e;cases e;exact new
  ·rw[upd_ne hb]at e;refine(I.hok b u e).stay (λc v hc q=>k c v ?_ q) (λc q=>by rw[upd_ne (ne_of_none q hn)];exact q) λc xs q=>by rw[upd_ne (ne_of_none q hn)];exact q
   rcases hc with z|z
   ·rw[z];exact nf b u e
   ·exact nf c _ z
theorem Inv.turnedL {fp:List Addr}{t':Nat}(I:Inv X pins σ H s)(k:∀b u,b∉fp->s.heap.get? b=some u->h'.get? b=some u)(hf:∀b∈fp,FpOk X pins H b):Inv X pins σ H { s with heap:=h',toks:=t' }:=by
 have nf:∀b u,H b=some u->b∉fp:=λb u e z=>by rw[(hf b z).1]at e;cases e
 refine I.step (g':=s.gens) (d':=s.drawn) (ch:=fp) (λb hb=>⟨(hf b hb).2.2.2.1,(hf b hb).2.1,(hf b hb).2.2.2.2.1,(hf b hb).2.2.2.2.2⟩) (λb o _ _ hc e _=>k b o hc e) (λb o _ _ hc e _=>⟨o.slots,k b o hc e⟩)
  (λb o _ e n=>n) (λb o hc e=>⟨o,k b o hc e⟩) (λb xs e=>e) (λb o u e=>e) (λb ps e=>⟨#[],by rw[e];simp⟩) (λm hm=>?_) (λb u e=>?_) I.bare
 ·obtain⟨o,es,ep,ho,r⟩:=hm;exact⟨o,es,ep,k _ o (λz=>(hf _ z).2.1 rfl) ho,r⟩
 ·refine(I.hok b u e).stay (λc v hc q=>k c v ?_ q) (λc q=>q) λc xs q=>q
  rcases hc with z|z
  ·rw[z];exact nf b u e
  ·exact nf c _ z
end
namespace En
section
variable {prog:Program} {w:World} {A:Around} {E:Value->Shared->Prop} {s:Shared}
theorem next_pair {e it:Addr}{fp:List Addr}{n i:Nat}{j:Int}{P:Nat->Value->Prop}{St:Nat->Heap->Prop}{old:Value}{Q:Option Value->Shared->Prop}(D:Draws prog w A.in1 it fp n P St)
 (he:IsEnum s.heap e it j old) (hst:St i s.heap) (hlt:i<n) (hne:e≠it) (hef:e∉fp)
 (hQ:∀x h' tk,P i x->IsEnumOut h' e it (j+ 1) x s.heap.objs.size->St (i+ 1) h'->h'.get? s.heap.objs.size=some { cls:=.type "tuple",data:=.seq #[.int j tk,x] }->
  (∀b o,b≠e->b≠it->s.heap.get? b=some o->h'.get? b=some o)->Q (some (.ref s.heap.objs.size)) { s with heap:=h',toks:=tk+ 1 }):
 wpAny (model prog w) A (pyNext (.ref e)) Q E s:=by
 have hT:s.TypeIs (.ref e) "enumerate":=⟨_,he,rfl⟩;unfold pyNext;refine wpAny_bind (wpAny_attempt (wpAny_callSpecial?_slot (name:=Str.ofString "__next__") hT F.slot_enumerate_next (wpAny_call_entry F.slot_enumerate_next hT F.entry_enumerate_next ?_ (F.args_enumerate_next_1 _))));obtain⟨hp,g,d,tk₀,os⟩:=s;show wpAny _ _ (field (.ref e) 2 >>=_) _ _ _;refine wpAny_bind (wpAny_field he rfl (x:=.ref it) rfl (wpAny_bind (D.item i _ _ _ hlt hst λx h₁ tk hPx hit₁ hs₁=>?_)));replace hs₁:Heap.SameBut it hp h₁:=hs₁;have he₁:IsEnum h₁ e it j old:=(hs₁.2 e hne).trans he;show wpAny _ _ (field (.ref e) 3 >>=_) _ _ ⟨h₁,g,d,tk,os⟩;refine wpAny_bind (wpAny_field he₁ rfl (x:=rawInt j) rfl ?_);show wpAny _ _ (field (.ref e) 4 >>=_) _ _ ⟨h₁,g,d,tk,os⟩;refine wpAny_bind (wpAny_field he₁ rfl (x:=.none) rfl ?_);show wpAny _ _ (mkInt j >>=_) _ _ ⟨h₁,g,d,tk,os⟩;refine wpAny_bind (wpAny_mkInt ?_);show wpAny _ _ (setField (.ref e) 3 (rawInt (j+ 1)) >>=_) _ _ ⟨h₁,g,d,tk+ 1,os⟩;refine wpAny_bind (wpAny_setField_rec he₁ (by simp) λh₂ he₂ hs₂=>?_);replace hs₂:Heap.SameBut e h₁ h₂:=hs₂;replace he₂:IsEnum h₂ e it (j+ 1) old:=he₂;show wpAny _ _ (setField (.ref e) 4 .none >>=_) _ _ ⟨h₂,g,d,tk+ 1,os⟩;refine wpAny_bind (wpAny_setField_rec he₂ (by simp) λh₃ he₃ hs₃=>?_);replace hs₃:Heap.SameBut e h₂ h₃:=hs₃;replace he₃:IsEnum h₃ e it (j+ 1) old:=he₃;show wpAny _ _ (newTuple [.int j tk,x] >>=_) _ _ ⟨h₃,g,d,tk+ 1,os⟩;refine wpAny_bind (wpAny_newTuple ?_);have he₄:IsEnum (h₃.push { cls:=.type "tuple",data:=.seq #[.int j tk,x] }) e it (j+ 1) old:=Heap.get?_push_of_some _ he₃;generalize hh₄:h₃.push { cls:=.type "tuple",data:=.seq #[.int j tk,x] }=h₄ at he₄;have hsz:h₃.objs.size=hp.objs.size:=by rw[hs₃.1,hs₂.1,hs₁.1]
 have hel:e<hp.objs.size:=Heap.lt_size he;have ht₄:h₄.get? hp.objs.size=some { cls:=.type "tuple",data:=.seq #[.int j tk,x] }:=by rw[←hh₄,←hsz];exact Heap.get?_push_size _ rfl
 have hk₄:∀b o,b≠e->b≠it->hp.get? b=some o->h₄.get? b=some o:=λb o hbe hbi hb=>by
  rw[←hh₄];exact Heap.get?_push_of_some _ (hs₃.extBut b o hbe (hs₂.extBut b o hbe (hs₁.extBut b o hbi hb)))
 have hit₄:St (i+ 1) h₄:=D.frame _ _ _ hit₁ λb hb o y=>by
  have hbe:b≠e:=λq=>hef (q ▸ hb)
  rw[←hh₄];exact Heap.get?_push_of_some _ (hs₃.extBut b o hbe (hs₂.extBut b o hbe y))
 show wpAny _ _ (Builtin.SmallTypes.ownedTupleIsFree (.ref e) >>=_) _ _ ⟨h₄,g,d,tk+ 1,os⟩;rw[hsz];clear hh₄ he₃ hs₃ he₂ hs₂ he₁ hs₁ hit₁ hsz h₃ h₂ h₁;refine wpAny_bind ?_;unfold Builtin.SmallTypes.ownedTupleIsFree;refine wpAny_bind (wpAny_field he₄ rfl (x:=.none) rfl (wpAny_pure ?_));simp only[if_true];refine wpAny_bind (wpAny_rule (wpAny_bind (wpAny_field he₄ rfl (x:=old) rfl (wpAny_bind (wpAny_setField_rec he₄ (by simp) λh₅ he₅ hs₅=>?_)))));replace hs₅:Heap.SameBut e h₄ h₅:=hs₅;replace he₅:IsEnum h₅ e it (j+ 1) x:=he₅;show wpAny _ _ (Builtin.SmallTypes.ownedTupleHandOut (.ref e) (.ref hp.objs.size) >>=_) _ _ ⟨h₅,g,d,tk+ 1,os⟩;refine wpAny_bind ?_;unfold Builtin.SmallTypes.ownedTupleHandOut;refine wpAny_bind (wpAny_setField_rec he₅ (by simp) λh₆ he₆ hs₆=>?_);replace hs₆:Heap.SameBut e h₅ h₆:=hs₆;replace he₆:IsEnumOut h₆ e it (j+ 1) x hp.objs.size:=he₆;refine wpAny_setField_rec he₆ (by simp) λh₇ he₇ hs₇=>?_
 replace hs₇:Heap.SameBut e h₆ h₇:=hs₇;replace he₇:IsEnumOut h₇ e it (j+ 1) x hp.objs.size:=he₇;refine wpAny_bind (wpAny_letGo (wpAny_pure ⟨_,rfl,wpAny_pure (hQ x h₇ tk hPx he₇ ?_ ?_ ?_)⟩))
 ·exact D.frame _ _ _ hit₄ λb hb o y=>by
   have hbe:b≠e:=λq=>hef (q ▸ hb)
   exact hs₇.extBut b o hbe (hs₆.extBut b o hbe (hs₅.extBut b o hbe y))
 ·exact hs₇.extBut _ _ (Nat.ne_of_gt hel) (hs₆.extBut _ _ (Nat.ne_of_gt hel) (hs₅.extBut _ _ (Nat.ne_of_gt hel) ht₄))
 ·exact λb o hbe hbi hb=>hs₇.extBut b o hbe (hs₆.extBut b o hbe (hs₅.extBut b o hbe (hk₄ b o hbe hbi hb)))
end
end En
end L2
namespace L2
open PySem PySem.Spec PyProof.Rows
section
variable {X:Cx}
end
end L2
namespace L2
open PySem PySem.Spec PyProof.Rows
section
variable {X:Cx}
end
end L2
namespace L2
open PySem PySem.Spec PyProof.Rows
def CXw (P:Program)(w:World):CXT:=λouter H s E e s'=>∃(x C:Addr) (B:Heap) (H':Hp) (a0:Value),e=.ref x/\s'.os=s.os/\AllBare s'.gens/\Heap.FlyingW B outer x (.ref C) a0 s'.heap/\
 Un (frs outer) [] H H' s.heap s'.heap/\HOk P w H' B/\(∀b o,s.heap.get? b=some o->H b=none->b∉frs outer->B.get? b=some o)/\(∀b o,s.heap.get? b=some o->b∉frs outer->∃o',B.get? b=some o')/\E (.ref C) none H'
section
variable {P:Program} {w:World} {K:PySem.W.Frag} {mg:Str->Option Value} {base:Heap} {N:List Str} {qual:Str} {scope:Scope} {f:Addr} {cd:Value} {A:Around} {outer:List Env} {s:Shared} {H:Hp} {E:XK}
 {pins:List (Addr×Obj)} {σ:St} {H1:Hp} {s1:Shared}
theorem ex_frames {b:Addr}{o:Obj}(I:Inv (cxOf (CXw P w) P w K mg base N qual scope f cd A outer s H E) pins σ H1 s1)(e:s.heap.get? b=some o)(hb:b∉frs outer):b∉frs (cxOf (CXw P w) P w K mg base N qual scope f cd A outer s H E).stack:=λz=>by
 rcases List.mem_cons.mp (show b∈s.heap.objs.size::frs outer from z) with z|z
 ·exact absurd (Heap.lt_size e) (by rw[z];exact Nat.lt_irrefl _)
 ·exact hb z
theorem leave_made {e C:Addr}{vs:List Value}{h':Heap}(I:Inv (cxOf (CXw P w) P w K mg base N qual scope f cd A outer s H E) pins σ H1 s1)(hm:Heap.MadeExcOf s1.heap h' e (.ref C) vs)(q:E (.ref C) none H1):
 (cxOf (CXw P w) P w K mg base N qual scope f cd A outer s H E).xe (.ref e) { s1 with heap:=h' }:=by
 have hfr:=I.ok.frames;have hin:∀env∈(cxOf (CXw P w) P w K mg base N qual scope f cd A outer s H E).stack,∀b,env.frame=some b->b∈frs (cxOf (CXw P w) P w K mg base N qual scope f cd A outer s H E).stack:=λenv he b hb=>List.mem_filterMap.mpr ⟨env,he,hb⟩
 have hff:=PySem.W.funFrames_hide I.stack hin;refine wpAny_leaves_madeW (s:={ s1 with heap:=h' }) (base:=PySem.W.hideAll s1.heap (frs (cxOf (CXw P w) P w K mg base N qual scope f cd A outer s H E).stack)) (h:=s1.heap) (L:=s.heap.objs.size) hfr rfl (λb o z=>PySem.W.of_hideAll _ z) hff hm λh'' t fl tup hnt ups=>?_
 have kb:∀b o,s.heap.get? b=some o->H b=none->b∉frs outer->(PySem.W.hideAll s1.heap (frs (cxOf (CXw P w) P w K mg base N qual scope f cd A outer s H E).stack)).get? b=some o:=λb o e1 e2 e3=>
  PySem.W.hideAll_get _ (I.base.keep b o e1 e2 e3 (by simp[cxOf])) (ex_frames I e1 e3)
 have tb:∀b o,s.heap.get? b=some o->b∉frs outer->∃o',(PySem.W.hideAll s1.heap (frs (cxOf (CXw P w) P w K mg base N qual scope f cd A outer s H E).stack)).get? b=some o':=λb o e1 e3=>by
  obtain⟨o',e4⟩:=I.base.there b o e1 (by simp[cxOf]);exact⟨o',PySem.W.hideAll_get _ e4 (ex_frames I e1 e3)⟩
 have fr:∀b o,s1.heap.get? b=some o->b∈frs outer->∃sl,h''.get? b=some { o with slots:=sl }:=λb o e1 e2=>by
  obtain⟨_,o2,e3,nf⟩:=I.stack.mem (show b∈frs (cxOf (CXw P w) P w K mg base N qual scope f cd A outer s H E).stack from List.mem_cons_of_mem _ e2);rw[e1]at e3;cases e3;exact ups b o (hm.keeps b o e1) nf
 refine⟨e,C,_,H1,.ref t,rfl,I.os,I.bare,fl,?_,?_,kb,tb,q⟩
 ·refine⟨λb o e1 e2 e3 _=>fl.1 b o (kb b o e1 e2 e3),λb o e1 e2 e3 _=>?_,λb o e1 e2 _=>I.base.free b o e1 e2 (by simp[cxOf]),λb o e1 _=>?_,I.base.tups,I.base.frzs,I.base.tbls⟩
  ·obtain⟨sl,e4⟩:=I.base.slot b o e1 e2 e3 (by simp[cxOf]);obtain⟨sl2,e5⟩:=fr b _ e4 e3;exact⟨sl2,e5⟩
  ·by_cases hb:b∈frs outer
   ·obtain⟨o',e4⟩:=I.base.there b o e1 (by simp[cxOf]);obtain⟨sl,e5⟩:=fr b o' e4 hb;exact⟨_,e5⟩
   ·obtain⟨o',e4⟩:=tb b o e1 hb;exact⟨o',fl.1 b o' e4⟩
 ·intro b u e1
  have nfr:∀c v,H1 c=some v->c∉frs (cxOf (CXw P w) P w K mg base N qual scope f cd A outer s H E).stack:=λc v e2 z=>by
   rw[I.stkFree c z]at e2;cases e2
  refine(I.hok b u e1).stay (λc v hc z=>PySem.W.hideAll_get _ z ?_) (λc z=>z) λc xs z=>z
  rcases hc with z2|z2
  ·rw[z2];exact nfr b u e1
  ·exact nfr c _ z2
end
end L2
namespace L2
open PySem PySem.Spec PyProof.Rows
section
variable {X:Cx} {pos:Pos}
abbrev TJ:=St->Hp->List Nat->VK->Prop
def PJ (X:Cx)(es:List Expr)(t:TJ):Prop:=
 ∀(pins:List (Addr×Obj)) (s:Shared) (σ:St) (H:Hp) (acc:List Nat) (Q:VK),Inv X pins σ H s->t σ H acc Q->wpAny (model X.prog X.w) X.A (joinParts (tx acc) (evalEach es X.env)) (EP X pins σ Q) X.xe s
theorem pj_nil:PJ X [] (λ σ H acc Q=>acc.length<=1000000/\Q (.str (tx acc)) H):=λpins s σ H acc Q I h=>
 joinParts_nil ⟨.str (tx acc),H,I.tok _,⟨_,rfl⟩,h.2⟩ (by rw[tx_len];exact Nat.le_trans h.1 (by decide))
theorem pj_cons {e:Expr}{es:List Expr}{te:TE}{t:TJ}(he:PE X e te)(hr:PJ X es t)(hs:evalEach (e::es) X.env=eval e X.env::evalEach es X.env:=by rfl):
 PJ X (e::es) (λ σ H acc Q=>te σ H λv H1=>∃l,v=.str (tx l)/\acc.length+ l.length<=1000000/\t σ H1 (acc++l) Q):=by
 intro pins s σ H acc Q I h;rw[hs];refine joinParts_cons (thn (he pins s σ H _ I h) λv s1 ⟨x,H1,I1,r,l,e1,hl,q⟩=>?_);subst e1;obtain⟨t',rfl⟩:=r;refine⟨?_,?_⟩
 ·rw[tx_app,tx_len,List.length_append];exact Nat.le_trans hl (by decide)
 ·rw[tx_app];exact hr pins s1 σ H1 (acc++l) Q I1 q
theorem pe_joined {a b:Expr}{es:List Expr}{t:TJ}(h:PJ X (a::b::es) t)(hs:evalEach (a::b::es) X.env=eval a X.env::eval b X.env::evalEach es X.env:=by rfl):PE X (.JoinedStr (a::b::es) pos) (λ σ H Q=>t σ H [] Q):=by
 intro pins s σ H Q I q;refine JoinedStr_many ?_;have:=h pins s σ H [] Q I q;rw[hs]at this;exact this
abbrev mroV:List Value:=[.type "ValueError",.type "Exception",.type "BaseException",.type "object"]
abbrev ExcC (K:PySem.W.Frag) (C:Addr):Prop:=PySem.W.excIn K C mroV "ValueError.__new__"=true
theorem exc_obj {K:PySem.W.Frag}{h:Heap}{C:Addr}(XK:K.In h)(q:ExcC K C):∃bm N nm qn bs hdct sn sub ab col dd k0 k1 k2 k3 k5 mN,
 h.get? C=some (excClassObj nm qn C N bs bm hdct sn sub ab col dd k0 k1 k2 k3 k5 "ValueError.__new__")/\h.Ns N mN/\mN "__init__"=none/\OwnTail h mroV bm:=by
 have q':PySem.W.excIn K C mroV "ValueError.__new__"=true:=q;unfold PySem.W.excIn at q';split at q'
 ·rename_i dd cls slt hlook;split at q'
  ·rename_i C2 bm a0 a1 a2 a3 nid a5 hmro hslots;simp only[Bool.and_eq_true,beq_iff_eq,Bool.not_eq_true']at q';obtain⟨⟨⟨⟨⟨rfl,rfl⟩,hdel⟩,htail⟩,hns⟩,hinit⟩:=q';obtain⟨nm,bs,mro,ns,qn,hd,sn,sub,ab,col,del⟩:=cls;dsimp only at hmro hdel hns hinit;subst hmro hdel
   have hsl:slt=#[a0,a1,a2,a3,some (.builtin "ValueError.__new__"),a5]:=by
    obtain⟨l⟩:=slt;simp only at hslots;rw[hslots]
   subst hsl;exact⟨bm,ns,nm,qn,bs,hd,sn,sub,ab,col,dd,a0,a1,a2,a3,a5,_,XK _ _ hlook,.of_isNs (PySem.W.isNs_of_in XK hns),PySem.W.nsMap_none_of_in XK hns hinit,PySem.W.tail_of_in XK htail⟩
  ·cases q'
 ·cases q'
def tRaise (C:Addr)(E:XK)(te:TE):TS:=λ_ σ H=>te σ H λ_ H1=>E (.ref C) none H1
theorem ps_raise {x:Str}{C:Addr}{E:XK}{e₀:Expr}{te:TE}{np cpos:Pos}(hc:X.calm=true)(hg:Gl X x)(hm:X.mg x=some (.ref C))(hC:ExcC X.K C)(he:PE X e₀ te)
 (hx:∀(pins:List (Addr×Obj)) (σ:St) (H:Hp) (s:Shared) (h':Heap) (e:Addr) (vs:List Value),Inv X pins σ H s->Heap.MadeExcOf s.heap h' e (.ref C) vs->E (.ref C) none H->X.xe (.ref e) { s with heap:=h' })
 (hs:starEach [e₀] X.env=[(false,eval e₀ X.env)]:=by rfl) (hdb:(x==("__debug__":Str))=false:=by decide):
 PS X (.Raise (some (.Call (.Name x np) [e₀] [] cpos)) none pos) (tRaise C E te):=by
 intro pins s σ H D I h;obtain⟨bm,N,nm,qn,bs,hdct,sn,sub,ab,col,dd,k0,k1,k2,k3,k5,mN,o1,o2,o3,o4⟩:=exc_obj I.ok.mod.kin hC;have kp:∀{σ' H' s'},Inv X pins σ' H' s'->∀b o,X.base.get? b=some o->s'.heap.get? b=some o:=λJ b o q=>(J.bs b o q).1
 refine wpAny_Raise_call_subT (C:=C) (nm:=nm) (q:=qn) (N:=N) (bs:=bs) (bm:=bm) (hdct:=hdct) (sn:=sn) (sub:=sub) (ab:=ab) (col:=col) (dd:=dd) (k0:=k0) (k1:=k1) (k2:=k2) (k3:=k3) (k5:=k5)
  F.excBase_ValueError (mN:=mN) (o4.hasType (by decide +kernel)) (I.ok.hd hc) (by rw[hs];rfl) o3 (ld_glob I hg hm ⟨rfl,?_⟩ hdb)
 rw[hs];refine Calls.evalArgs_plain (Calls.spliced_cons (thn (he pins s σ H _ I h) λv s1 ⟨y,H1,I1,r,q⟩=>Calls.spliced_nil ?_));exact⟨rfl,by show 1<=sizeLine;decide,kp I1 _ _ o1,o2.keeps (kp I1),o4.keeps (kp I1),λh' e hmk=>hx pins σ H1 s1 h' e _ I1 hmk q⟩
end
section
variable {P:Program} {w:World} {K:PySem.W.Frag} {mg:Str->Option Value} {base:Heap}
theorem Fun.okX {x qual:Str}{st:Stmt}{f:Addr}{fd:FuncData}{N ps:List Str}{k:Nat}{sp:Sp}(F:Fun K x qual st f fd)(S:FnScope N ps (defScope st))(len:∀vs H Q E,sp vs H Q E->vs.length=ps.length)
 (hbody:∀(cdv:Value) (A:Around) (outer:List Env) (s:Shared) (H:Hp) (vs:List V) (Q:VK) (E:XK),Room k (A.deeper (envOfC qual (defScope st) s.heap.objs.size f cdv))->sp vs H Q E->
  ∃t,PSs (cxOf (CXw P w) P w K mg base N qual (defScope st) f cdv A outer s H E) (defBody st) t/\t { nx:=λ_ H'=>Q .non H',rt:=Q } (start N vs) H):FnOk P w K mg base (CXw P w) (k+ 1) f fd ps sp:=by
 obtain⟨oc,od,kV,doc,pm,an,cdv,ct,osl,rfl,lk,hcd⟩:=F.ex;exact fn_of lk hcd S len λA outer s H vs Q E hr hsp=>hbody cdv A outer s H vs Q E hr hsp
end
end L2
namespace L2
open PySem PySem.Spec PyProof.Rows
theorem ObjOk.get {P:Program}{w:World}{H:Hp}{h:Heap}{a:Addr}{o:HO}(x:ObjOk P w H h a o):∃u,h.get? a=some u:=by
 cases o with
 |lst xs=>obtain⟨_,_,_,_,e⟩:=x;exact⟨_,e⟩
 |tup xs=>obtain⟨_,_,_,ob,e,_⟩:=x;exact⟨_,e⟩
 |dK kvs=>obtain⟨_,_,_,_,o,_,_,e,_⟩:=x;exact⟨_,e⟩
 |dT kvs=>obtain⟨_,_,_,_,o,_,_,e,_⟩:=x;exact⟨_,e⟩
 |set S n=>obtain⟨o,_,_,_,e,_⟩:=x;exact⟨_,e⟩
 |ins C dx fs=>obtain⟨_,_,_,e,_⟩:=x;exact⟨_,e⟩
 |own y=>exact x
 |xd fs=>obtain⟨_,⟨_,_,_,e,_⟩,_⟩:=x;exact⟨_,e⟩
 |rng lo hi=>obtain⟨_,_,_,e⟩:=x;exact⟨_,e⟩
 |frz ob u=>obtain⟨e,_⟩:=x;exact⟨_,e⟩
 |tbl ps=>exact⟨_,show h.get? a=some _ from x⟩
 |met f y=>exact⟨_,show h.get? a=some _ from x⟩
 |ext φ=>obtain⟨_,e,_⟩:=x;exact e
def ExAt (x C:Addr)(h:Heap):Prop:=∃ob vs,h.get? x=some ob/\ob.cls=.ref C/\ob.data=.fields vs
def ExO (x C:Addr):HO:=.ext (ExAt x C)
theorem ExAt.stay {x C:Addr}{h1 h2:Heap}(p:ExAt x C h1)(k:∀o,h1.get? x=some o->h2.get? x=some o):ExAt x C h2:=by
 obtain⟨ob,vs,e,r⟩:=p;exact⟨ob,vs,k _ e,r⟩
def Thr (X:Cx)(pins:List (Addr×Obj))(σ:St)(H':Hp)(x C:Addr)(s:Shared):Prop:=
 ∃(B:Heap) (H1:Hp) (s1:Shared) (a0:Value),Inv X pins σ H1 s1/\s.os=s1.os/\AllBare s.gens/\Heap.FlyingW B X.stack x (.ref C) a0 s.heap/\Un (frs X.stack) [] H1 H' s1.heap s.heap/\HOk X.prog X.w H' B/\
  (∀b o,s1.heap.get? b=some o->H1 b=none->b∉frs X.stack->B.get? b=some o)/\(∀b o,s1.heap.get? b=some o->b∉frs X.stack->∃o',B.get? b=some o')
section
variable {X:Cx} {pins:List (Addr×Obj)} {σ:St} {H':Hp} {x C:Addr} {s:Shared}
theorem Thr.of {E:XK}{H:Hp}{s1:Shared}{e:Value}(I:Inv X pins σ H s1)(cx:CXw X.prog X.w X.stack H s1 E e s):∃x C H',e=.ref x/\Thr X pins σ H' x C s/\E (.ref C) none H':=by
 obtain⟨x,C,B,H',a0,rfl,os,bare,fl,un,hokB,kb,tb,q⟩:=cx;exact⟨x,C,H',rfl,⟨B,H,s1,a0,I,os,bare,fl,un,hokB,kb,tb⟩,q⟩
theorem Inv.noRec {H:Hp}{s1:Shared}(I:Inv X pins σ H s1){b:Addr}(hb:b∈frs X.stack):∃o,s1.heap.get? b=some o/\∀vs,o.data≠.fields vs:=by
 obtain⟨_,o,e,n⟩:=I.stack.mem hb;exact⟨o,e,n⟩
theorem Thr.look {Q:Unit->Shared->Prop}{E:Value->Shared->Prop}{A:Around}(t:Thr X pins σ H' x C s)(hst:X.stack=X.env::X.outer)(hf:X.env.frame=some X.env.locals)(hA:A.frames=some X.stack)
 (h:∀h',Thr X pins σ H' x C { s with heap:=h' }->Q () { s with heap:=h' }):
 wpAny (model X.prog X.w) A (noteFrame (.ref x) X.env) (λ_ s2=>wpAny (model X.prog X.w) A (setFlight (.ref x) none) Q E s2) E s:=by
 obtain⟨B,H1,s1,a0,I,os,bare,fl,un,hok,kb,tb⟩:=t;have fl':=fl;rw[hst]at fl';refine wpAny_looks_onW (base:=B) (hA.trans (by rw[hst])) hf fl' λh2 hh u1=>?_
 refine wpAny_landsW hh λh3 fl3 u2=>h h3 ?_
 have u:=u1.trans u2
 have fr:∀b o,s1.heap.get? b=some o->b∈frs X.stack->∃sl,h3.get? b=some { o with slots:=sl }:=λb o e hb=>by
  obtain⟨o2,e2,nr⟩:=I.noRec hb;rw[e]at e2;cases e2;obtain⟨sl,e4⟩:=un.slot b o e (I.stkFree b hb) hb (by simp);obtain⟨sl2,e5⟩:=u b _ e4 nr;exact⟨sl2,e5⟩
 refine⟨B,H1,s1,a0,I,os,bare,by rw[hst];exact fl3,⟨λb o e1 e2 e3 _=>fl3.1 b o (kb b o e1 e2 e3),λb o e1 _ e3 _=>fr b o e1 e3,un.free,λb o e1 _=>?_,un.tups,un.frzs,un.tbls⟩,hok,kb,tb⟩;by_cases hb:b∈frs X.stack
 ·obtain⟨sl,e5⟩:=fr b o e1 hb;exact⟨_,e5⟩
 ·obtain⟨o',e4⟩:=tb b o e1 hb;exact⟨o',fl3.1 b o' e4⟩
theorem Thr.again {Q:Unit->Shared->Prop}{E:Value->Shared->Prop}{A:Around}(t:Thr X pins σ H' x C s)(h:∀h',Thr X pins σ H' x C { s with heap:=h' }->Q () { s with heap:=h' }):
 wpAny (model X.prog X.w) A (setFlight (.ref x) none) Q E s:=by
 obtain⟨B,H1,s1,a0,I,os,bare,fl,un,hok,kb,tb⟩:=t;refine lands_againW fl λh3 fl3 u=>h h3 ?_
 have fr:∀b o,s1.heap.get? b=some o->b∈frs X.stack->∃sl,h3.get? b=some { o with slots:=sl }:=λb o e hb=>by
  obtain⟨o2,e2,nr⟩:=I.noRec hb;rw[e]at e2;cases e2;obtain⟨sl,e4⟩:=un.slot b o e (I.stkFree b hb) hb (by simp);obtain⟨sl2,e5⟩:=u b _ e4 nr;exact⟨sl2,e5⟩
 refine⟨B,H1,s1,a0,I,os,bare,fl3,⟨λb o e1 e2 e3 _=>fl3.1 b o (kb b o e1 e2 e3),λb o e1 _ e3 _=>fr b o e1 e3,un.free,λb o e1 _=>?_,un.tups,un.frzs,un.tbls⟩,hok,kb,tb⟩;by_cases hb:b∈frs X.stack
 ·obtain⟨sl,e5⟩:=fr b o e1 hb;exact⟨_,e5⟩
 ·obtain⟨o',e4⟩:=tb b o e1 hb;exact⟨o',fl3.1 b o' e4⟩
theorem Thr.inv (t:Thr X pins σ H' x C s):Inv X pins σ H' s:=by
 obtain⟨B,H1,s1,a0,I,os,bare,fl,un,hok,kb,tb⟩:=t;exact I.call' (ch:=[]) os un (hok.kept fl.1) bare (λb z=>absurd z (by simp))
theorem Thr.none (t:Thr X pins σ H' x C s):H' x=none:=by
 obtain⟨B,H1,s1,a0,I,os,bare,fl,un,hok,kb,tb⟩:=t
 cases e:H' x with
 |none=>rfl
 |some u=>
  obtain⟨o,e1⟩:=(hok x u e).get;rw[fl.2.1]at e1;cases e1
theorem Thr.invX (t:Thr X pins σ H' x C s):Inv X pins σ (upd H' x (ExO x C)) s:=by
 have hn:=t.none;obtain⟨B,H1,s1,a0,I,os,bare,fl,un,hok,kb,tb⟩:=t;obtain⟨oe,vs,he,hc,hd,_⟩:=fl.first;have ne:∀b u,H' b=some u->b≠x:=λb u e z=>by rw[z,hn]at e;cases e
 refine I.call' (ch:=[]) os ⟨un.keep,un.slot,λb o e1 e2 e3=>?_,un.there,λb xs e=>?_,λb o u e=>?_,λb ps e=>?_⟩ (λb u e=>?_) bare (λb z=>absurd z (by simp))
 ·refine(upd_ne ?_).trans (un.free b o e1 e2 e3);rintro rfl;by_cases hb:b∈frs X.stack
  ·obtain⟨o2,e4,nr⟩:=I.noRec hb;rw[e1]at e4;cases e4;obtain⟨sl,e5⟩:=un.slot b o e1 e2 hb (by simp);rw[he]at e5;cases e5;exact nr vs hd
  ·have:=kb b o e1 e2 hb;rw[fl.2.1]at this;cases this
 ·have:=un.tups b xs e;rw[upd_ne (ne _ _ this)];exact this
 ·have:=un.frzs b o u e;rw[upd_ne (ne _ _ this)];exact this
 ·obtain⟨m,this⟩:=un.tbls b ps e;exact⟨m,by rw[upd_ne (ne _ _ this)];exact this⟩
 ·by_cases hb:b=x
  ·subst hb;rw[upd_same]at e;cases e;exact⟨⟨oe,vs,he,hc,hd⟩,⟨oe,he⟩,λh1 h2 p k=>p.stay k⟩
  ·rw[upd_ne hb]at e;exact(hok b u e).stay (λc v _ q=>fl.1 c v q) (λc q=>by rw[upd_ne (ne _ _ q)];exact q) λc xs q=>by rw[upd_ne (ne _ _ q)];exact q
theorem Thr.at (t:Thr X pins σ H' x C s):ExAt x C s.heap:=by
 obtain⟨B,H1,s1,a0,I,os,bare,fl,un,hok,kb,tb⟩:=t;obtain⟨oe,vs,he,hc,hd,_⟩:=fl.first;exact⟨oe,vs,he,hc,hd⟩
abbrev Cx.mkd (X:Cx) (x:Addr):Cx:={ X with A:=X.A.mark (some (.ref x)),calm:=false,xe:=λ_ _=>False }
theorem Inv.mkd {H:Hp}(I:Inv X pins σ H s)(x:Addr):Inv (X.mkd x) pins σ H s:=
 ⟨⟨I.ok.mod,I.ok.kind,I.ok.glob,I.ok.blt,I.ok.above,I.ok.inj,I.ok.has,I.ok.cab,(λz=>by cases z),I.ok.frames,I.ok.stk,I.ok.exf,I.ok.bs,I.ok.bsz,I.ok.noex,I.ok.exfs,I.ok.funs,I.ok.frf⟩,I.os,I.bare,I.base,I.loc,I.cell,I.free,I.freeC,I.pin,I.hok,I.len⟩
theorem Inv.unmkd {H:Hp}(ok:X.Ok)(I:Inv (X.mkd x) pins σ H s):Inv X pins σ H s:=⟨ok,I.os,I.bare,I.base,I.loc,I.cell,I.free,I.freeC,I.pin,I.hok,I.len⟩
theorem gone_ok {M:Model}{A:Around}{E:Value->Shared->Prop}{H:Hp}{i:Nat}{n:Str}{pos:Pos}{Q:Unit->Shared->Prop}(I:Inv X pins σ H s)(hN:X.N.Nodup)(hi:X.N[i]?=some n)(hx:X.env.scope.names.lookup n=some .local)
 (h:∀s',Inv X pins (σ.set i none) H s'->Q () s'):wpAny M A (do bindName X.env n .none;unbindBehindTheSuite X.env n pos) Q E s:=by
 obtain⟨m,hn,hl⟩:=id I.loc;have hcls:(X.env.scope.kind==.class || (X.env.scope.kind==.module && X.env.locals !=X.env.globals))=false:=by rw[I.ok.kind];rfl
 have hiσ:i < σ.length:=by rw[I.len];exact(List.getElem?_eq_some_iff.mp hi).1
 refine wpAny_nameGoes_keeps hx hn hcls λh' v hn' hs=>?_
 obtain⟨oL,_,_,hoL,_⟩:=id hn;have neL:∀b o,X.s₀.heap.get? b=some o->b≠X.env.locals:=λb o e=>Nat.ne_of_lt (Nat.lt_of_lt_of_le (Heap.lt_size e) I.ok.above)
 refine h _ ⟨I.ok,I.os,I.bare,⟨λb o e k hb hx=>(hs.2 b (neL b o e)).trans (I.base.keep b o e k hb hx),λb o e k hb hx=>?_,I.base.free,λb o e hx=>?_,I.base.tups,I.base.frzs,I.base.tbls⟩,⟨_,hn',λj y v' e1 e2 e3=>?_⟩,λy c e=>?_,I.free,I.freeC,λp hp=>?_,λb ob e=>?_,by simpa using I.len⟩
 ·obtain⟨sl,e1⟩:=I.base.slot b o e k hb hx;exact⟨sl,(hs.2 b (neL b o e)).trans e1⟩
 ·obtain⟨o',e1⟩:=I.base.there b o e hx;exact⟨o',(hs.2 b (neL b o e)).trans e1⟩
 ·by_cases hj:j=i
  ·subst hj;rw[List.getElem?_set_self hiσ]at e2;cases e2
  ·rw[List.getElem?_set_ne (Ne.symm hj)]at e2;obtain⟨u',r',q⟩:=hl j y v' e1 e2 e3;refine⟨u',r',?_⟩;rcases q with ⟨k,e⟩|⟨k,c,e,z⟩
   ·refine .inl ⟨k,?_⟩;have:y≠n:=λe=>hj (nodup_ix hN e1 (e ▸ hi))
    simp[this,e]
   ·exact .inr ⟨k,c,e,z.sameBut hs (I.cne y c e)⟩
 ·obtain⟨w',z⟩:=I.cell y c e;exact⟨w',z.sameBut hs (I.cne y c e)⟩
 ·obtain⟨e,k,ne,nf,d⟩:=I.pin p hp;exact⟨(hs.2 p.1 ne).trans e,k,ne,nf,d⟩
 ·refine(I.hok b ob e).stay (λc w' hc q=>(hs.2 c ?_).trans q) (λ_ q=>q) λ_ _ q=>q
  rintro rfl;rcases hc with rfl|hc
  ·rw[I.free]at e;cases e
  ·rw[I.free]at hc;cases hc
end
abbrev XR:=Addr->St->Hp->Prop
abbrev TEX:=St->Hp->VK->XR->Prop
abbrev TSX:=Ends->XR->St->Hp->Prop
def XP (X:Cx)(pins:List (Addr×Obj))(R:XR)(e:Value)(s:Shared):Prop:=∃x C σ H,e=.ref x/\Thr X pins σ H x C s/\R C σ H
def PEX (X:Cx)(e:Expr)(t:TEX):Prop:=
 ∀(pins:List (Addr×Obj)) (s:Shared) (σ:St) (H:Hp) (Q:VK) (R:XR),Inv X pins σ H s->t σ H Q R->wpAny (model X.prog X.w) X.A (eval e X.env) (EP X pins σ Q) (XP X pins R) s
def PSX (X:Cx)(st:Stmt)(t:TSX):Prop:=
 ∀(pins:List (Addr×Obj)) (s:Shared) (σ:St) (H:Hp) (D:Ends) (R:XR),Inv X pins σ H s->t D R σ H->wpAny (model X.prog X.w) X.A (exec st X.env) (SP X pins D) (XP X pins R) s
section
variable {X:Cx} {k:Nat} {f:Addr} {fd:FuncData} {ps:List Str} {sp:Sp} {x:Str} {p pos:Pos} {e:Expr} {es:List Expr} {t:TA}
def tCallX (sp:Sp)(t:TA):TEX:=λ σ H Q R=>t σ H λvs H1=>sp vs H1 Q λc _ H2=>∃C,c=.ref C/\R C σ H2
theorem pex_call (F:FnOk X.prog X.w X.K X.mg X.base (CXw X.prog X.w) k f fd ps sp)(hr:Room k X.A)(hg:Gl X x)(hm:X.mg x=some (.ref f))(hk:PySem.W.keepIn X.K (.ref f)=true)(hb:Binds X.K fd ps [])
 (ha:PA X.nox (e::es) t) (hdb:(x==("__debug__":Str))=false:=by decide) (he:starEach (e::es) X.env=(false,eval e X.env)::starEach es X.env:=by rfl) (hpl:(backTo pos (starEach es X.env)).any (·.1)=false:=by rfl):
 PEX X (.Call (.Name x p) (e::es) [] pos) (tCallX sp t):=by
 intro pins s σ H Q R I h;refine wpAny_Call_Name_kw (ld_glob I hg hm ?_ hdb);refine PySem.W.callWith_K (h₀:=X.base) I.ok.mod.kin hk (wpAny_mono (ha pos pins s σ H _ (I.wish _) h) (λus s1 ⟨vs,H1,I1,r,q⟩=>⟨I1.kIn,?_⟩) λ_ _ z=>False.elim z) he hpl;have J:=I1.unwish;have hl:(us++[]).length=ps.length:=by rw[List.append_nil,←r.length];exact F.len _ _ _ _ q
 have hbb:=hb s1 us J.kIn hl;rw[List.append_nil]at hbb;refine wpAny_call (codeAny_mono (F.run X.A X.stack s1 H1 ⟨us,[]⟩ us vs Q _ hr J.env0 hbb r q) λr s' hq=>?_)
 cases r with
 |error e=>
  have hq:CXw X.prog X.w X.stack H1 s1 (λc _ H2=>∃C,c=Value.ref C/\R C σ H2) e s':=hq;obtain⟨x,C,H',rfl,th,C',e1,z⟩:=Thr.of J hq;cases e1;exact⟨x,C,σ,H',rfl,th,z⟩
 |ok fl=>
  cases fl with
  |ret u=>exact J.after hq
  |next=>exact False.elim hq
  |brk=>exact False.elim hq
  |cont=>exact False.elim hq
def tDropX (te:TEX):TSX:=λD R σ H=>te σ H (λ_ H1=>D.nx σ H1) R
theorem psx_expr {te:TEX}(he:PEX X e te)(hs:swapsWith e none pos.line X.env=pure false:=by rfl):PSX X (.Expr e pos) (tDropX te):=by
 intro pins s σ H D R I h;exact wpAny_Expr_any (thn (he pins s σ H _ R I h) λv s1 ⟨x,H1,I1,r1,q1⟩=>⟨σ,H1,I1,q1⟩) I.quiet hs
end
abbrev TH:=Ends->Addr->St->Hp->Prop
def PH (X:Cx)(hs:List ExceptHandler)(t:TH):Prop:=
 ∀(pins:List (Addr×Obj)) (s:Shared) (σ:St) (H:Hp) (x C:Addr) (D:Ends),Thr X pins σ H x C s->t D C σ H->wpAny (model X.prog X.w) X.A (handleBy (.ref x) X.env hs) (SP X pins D) X.xe s
section
variable {X:Cx} {y n:Str} {Y:Addr} {np pos:Pos} {b₀:Stmt} {suite:List Stmt} {rest:List ExceptHandler} {tb:TS} {tr:TH} {i:Nat}
theorem ExAt.looks {M:Model}{x C:Addr}{h:Heap}(p:ExAt x C h):PySem.W.Looks M h (typeOf (.ref x)) (.ref C):=by
 obtain⟨o,_,h1,h2,_⟩:=p;exact h2 ▸ (PySem.W.Looks.ld h1).andThen .now
def tHas (K:PySem.W.Frag)(Y:Addr)(i:Nat)(tb:TS)(tr:TH):TH:=λD C σ H=>∃b,PySem.W.exmOne K (.ref C) (.ref Y)=some b/\
 if b=true then ∀x,H x=none->tb { nx:=λ σ' H'=>D.nx (σ'.set i none) H',rt:=D.rt,bk:=λ σ' H'=>D.bk (σ'.set i none) H',ct:=λ σ' H'=>D.ct (σ'.set i none) H' } (σ.set i (some (.ref x))) (upd H x (ExO x C)) else tr D C σ H
theorem ph_as (hN:X.N.Nodup)(hi:X.N[i]?=some n)(hx:X.env.scope.names.lookup n=some .local)(hg:Gl X y)(hm:X.mg y=some (.ref Y))(hb:∀x,PSs (X.mkd x) (b₀ :: suite) tb)(hr:PH X rest tr)(hdb:(y==("__debug__":Str))=false:=by decide):
 PH X (.ExceptHandler (some (.Name y np)) (some n) (b₀ :: suite) pos::rest) (tHas X.K Y i tb tr):=by
 intro pins s σ H x C D th h;obtain⟨b,hb1,h⟩:=h;have I:=th.inv;refine wpAny_handleBy_cons (codeAny_handlers_test ?_) (by intro q;cases q);refine ld_glob (X:=X.mkd x) (I.mkd x) hg hm ?_ hdb;refine PySem.W.exm_one I.kIn th.at.looks hb1 _ _ _ _ (λ_ _ e=>e) ?_
 cases b with
 |false=>exact hr pins s σ H x C D th h
 |true=>
  have h:=h x th.none;refine codeAny_handlers_suite_as (th.again λh' th'=>?_);have J:=th'.invX;refine store_ok (X:=X.mkd x) (J.mkd x) hN hi (.inl hx) (v:=.ref x) rfl (λs2 I2=>?_) (.inr hx);refine wpAny_mono (hb x pins s2 _ _ _ I2 h) (λfl s3 q=>?_) λ_ _ z=>False.elim z
  show wpAny _ _ _ _ _ _
  cases fl with
  |next=>obtain⟨σ',H',I3,q⟩:=q;exact gone_ok (I3.unmkd I.ok) hN hi hx λs4 I4=>⟨_,_,I4,q⟩
  |brk=>obtain⟨σ',H',I3,q⟩:=q;exact gone_ok (I3.unmkd I.ok) hN hi hx λs4 I4=>⟨_,_,I4,q⟩
  |cont=>obtain⟨σ',H',I3,q⟩:=q;exact gone_ok (I3.unmkd I.ok) hN hi hx λs4 I4=>⟨_,_,I4,q⟩
  |ret u=>obtain⟨v,σ',H',I3,r,q⟩:=q;exact gone_ok (I3.unmkd I.ok) hN hi hx λs4 I4=>⟨v,_,_,I4,r,q⟩
def tHno:TH:=λ_ _ _ _=>False
theorem ph_no:PH X rest tHno:=λ_ _ _ _ _ _ _ _ h=>h.elim
def tTry (t:TSX)(th:TH):TS:=λD σ H=>t D (λC σ1 H1=>th D C σ1 H1) σ H
theorem ps_try {st:Stmt}{t:TSX}{h₀:ExceptHandler}{hs:List ExceptHandler}{th:TH}(hst:X.stack=X.env::X.outer)(hf:X.env.frame=some X.env.locals)(hb:PSX X st t)(hh:PH X (h₀ :: hs) th):
 PS X (.Try [st] (h₀ :: hs) [] [] pos) (tTry t th):=by
 intro pins s σ H D I h;refine wpAny_Try_except (wpAny_execs_cons (wpAny_mono (hb pins s σ H D _ I h) (λfl s1 q=>?_) λe s1 q=>?_))
 ·cases fl with
  |next=>exact wpAny_execs_nil (wpAny_execs_nil q)
  |ret v=>exact q
  |brk=>exact q
  |cont=>exact q
 ·obtain⟨x,C,σ1,H1,rfl,th,q⟩:=q;exact th.look hst hf I.ok.frames λh' th'=>hh pins _ σ1 H1 x C D th' q
end
end L2
namespace L2
open PySem PySem.Spec PyProof.Rows PySem.Calls PySem.W Builtin Builtin.ObjectAttr Builtin.Getset_descriptor
structure ExcI (K:PySem.W.Frag) (C:Addr):Prop where
 ga:findIn K (.ref C) "__getattribute__"=some (some (.builtin "BaseException.__getattribute__"))
 gt:findIn K (.ref C) "__getattr__"=some none
 cl:isClsIn K C=true
 at_:findIn K (.ref C) "__class__"=some (some (.builtin "object.__class__"))
 gs:specialIn K (.builtin "object.__class__") "__get__"=some (some (.builtin "getset_descriptor.__get__"))
 tk:takesIn K (.builtin "object.__class__")=some true
 mo:mroIn K C (.type "object")=some true
 be:subIn K (.ref C) (.type "BaseException")=some true
section
variable {prog:Program} {w:World} {A:Around} {E:Value->Shared->Prop} {s:Shared} {K:PySem.W.Frag} {x C:Addr}
theorem exc_class_get {R:Result->Shared->Prop}{tp:Value}(X:K.In s.heap)(L0:Looks (model prog w) s.heap (typeOf (.ref x)) (.ref C))(hm:mroIn K C (.type "object")=some true)
 (h:R (.ok (.ret (.ref C))) s):codeAny (model prog w) A (.call (.builtin "getset_descriptor.__get__") ⟨[.builtin "object.__class__",.ref x,tp],[]⟩) R s:=by
 obtain⟨hh,g,dr,t,os⟩:=s;have L1:=looks_mroIn (M:=model prog w) X hm;refine codeAny_call_builtin KF.slot_gs.plain KF.entry_gs (KF.slot_gs.check _ _ _ _ _ _ _ _ KF.type_class (KF.args_gs _ _ _) ?_);unfold Builtin.«getset_descriptor.__get__» descrGet;rw[dga_obj];refine wpAny_bind (wpAny_pure ?_);unfold descrGetter descrCheckInstance descrNameAndClass isInstance;simp only[KF.owner_class]
 repeat lk
 refine⟨Code.quiet_builtin _ (by decide +kernel),codeAny_builtin KF.entry_class ?_⟩;unfold Builtin.«object.__class__» shownTypeOf
 repeat lk
 exact h
theorem exc_check {M:Model}{nameV:Value}{Q:Unit->Shared->Prop}{h:Heap}{g:Array GenState}{d:Drawn}{t:Nat}{os:OsState}(L0:Looks M h (typeOf (.ref x)) (.ref C))(Lb:Looks M h (isSubtype (.ref C) (.type "BaseException")) true)(hq:Q () ⟨h,g,d,t,os⟩):
 wpAny M A (checkBuiltinCall "BaseException.__getattribute__" ⟨[.ref x,nameV],[]⟩) Q E ⟨h,g,d,t,os⟩:=by
 have hk:builtinKind "BaseException.__getattribute__"=some .slot:=by decide +kernel
 have hsplit:splitId "BaseException.__getattribute__"=some ("BaseException","__getattribute__"):=by decide +kernel
 have ha:=F.args_bexc_ga (.ref x) nameV;have LI:Looks M h (isInstance (.ref x) (.type "BaseException")) true:=L0.andThen Lb;simp only[checkBuiltinCall,hk,hsplit];refine wpAny_bind (LI.at ?_)
 repeat (any_goals (first|assumption|wp_step))
theorem exc_class {Q:Option Value->Shared->Prop}(X:K.In s.heap)(p:ExAt x C s.heap)(hC:ExcI K C)(h:Q (some (.ref C)) { s with toks:=s.toks+ 1 }):wpAny (model prog w) A (getAttr? (.ref x) "__class__") Q E s:=by
 obtain⟨hga,hgt,hc,ha,hn,htk,hm,hbe⟩:=hC;obtain⟨hh,g,d,t,os⟩:=s;have L0:Looks (model prog w) hh (typeOf (.ref x)) (.ref C):=p.looks;have L1:=looks_findIn (M:=model prog w) X hga;have L2:=looks_findIn (M:=model prog w) X hgt;have Lb:Looks (model prog w) hh (isSubtype (.ref C) (.type "BaseException")) true:=looks_subIn X hbe;have La:=looks_findIn (M:=model prog w) X ha;have Ln:Looks (model prog w) hh (getOf (some (.builtin "object.__class__"))) (some (.builtin "getset_descriptor.__get__")):=looks_specialIn X hn;have Lt:=looks_takesIn (M:=model prog w) X htk
 have Lf:Looks (model prog w) hh (find (.ref x) (.ref C) "__class__") (.bind (.builtin "getset_descriptor.__get__") (.builtin "object.__class__")):=
  La.andThen (Ln.andThen ((show Looks (model prog w) hh (dataDescriptor? (some (.builtin "object.__class__")) (some (.builtin "getset_descriptor.__get__"))) (some (.builtin "getset_descriptor.__get__",.builtin "object.__class__")) from Lt.andThen .now).andThen (Looks.tag .now)))
 have hx2:(Value.builtin "BaseException.__getattribute__"==Value.builtin "object.__getattribute__")=false:=by decide +kernel
 have hx1:(onTheHeap (Value.ref C) && Value.builtin "BaseException.__getattribute__"==Value.builtin "object.__getattribute__")=false:=by rw[hx2];rfl
 have f3:=F.excAttr_ValueError.ga.bind (.ref x);unfold getAttr? getAttrBy? getAttrBy;refine wpAny_bind (wpAny_mkText (wpAny_bind (wpAny_attempt (wpAny_holding (wpAny_bind (L0.at (wpAny_bind (L1.at ?_))))))));dsimp only;rw[if_neg (by rw[hx1];decide)];unfold getAttrByItsOwn hookBefore;rw[if_pos (show onTheHeap (Value.ref C)=true from rfl)];refine wpAny_bind (L2.at (wpAny_bind (wpAny_attempt (wpAny_holding ?_))));unfold callGetattribute boundAndCalled;rw[if_neg (by decide),f3];refine wpAny_bind (wpAny_pure ?_);show wpAny _ _ (call (.builtin "BaseException.__getattribute__") [.ref x,.str "__class__" t]) _ _ _;refine wpAny_call (codeAny_call_builtin F.excAttr_ValueError.ga.plain F.entry_bexc_ga (exc_check L0 Lb ?_));unfold Builtin.«object.__getattribute__»
 repeat (any_goals (first|with_reducible refine wpAny_call (exc_class_get (s:=⟨hh,g,d,t+ 1,os⟩) X L0 hm ?_)|lk))
 exact h
theorem kitx_exc (hC:ExcI K C):KitX K (.ref x) (.ref C) (ExAt x C) where
 ty:=λ_ _ _ p=>p.looks
 it:=λ_ _ X _=>by
  have hc:(clsIn K C).isSome=true:=hC.cl;unfold clsIn at hc;split at hc
  ·rename_i c' d' cd' sl' ho;intro A' Q' E' s' k q;unfold isType loadHead;exact wpAny_bind (wpAny_loadPart (k _ _ (X _ _ ho)) (wpAny_pure q))
  ·cases hc
 ne:=λh tp dd its n sl X htp=>by
  have hc:(clsIn K C).isSome=true:=hC.cl;refine Bool.eq_false_iff.mpr λq=>?_
  have e:C=tp:=Value.ref.inj (beq_iff_eq.mp q);subst e;unfold clsIn at hc;split at hc
  ·rename_i c' d' cd' sl' ho;have z:=(X _ _ ho).symm.trans htp;cases z
  ·cases hc
 ca:=λX p h=>exc_class X p hC h
end
section
variable {X:Cx}
def vOf:V->Option Value
 |.ref a=>some (.ref a)
 |.ty n=>some (.type n)
 |_=>none
theorem vOf_rel {v:V}{u u':Value}(h:vOf v=some u)(r:RelV v u'):u'=u:=by
 cases v <;> first|(cases h;exact r)|cases h
def rIsiE (K:PySem.W.Frag):List V->Hp->VK->Prop:=λxs H Q=>∃x C y b,xs=[.ref x,y]/\H x=some (ExO x C)/\ExcI K C/\
 ((∃c,vOf y=some c/\PySem.W.kitOne K (.ref C) c=some b/\H x=some (ExO x C))\/(∃tp ys cs,y=.ref tp/\H tp=some (.tup ys)/\ys.map vOf=cs.map some/\PySem.W.kitAny K (.ref C) cs=some b))/\Q (.bl b) H
theorem vals_of:∀{ys:List V} {cs its:List Value},ys.map vOf=cs.map some->Vals ys its->its=cs
 |[],[],_,_,.nil=>rfl
 |[],_::_,_,e,_=>by cases e
 |_::_,[],_,e,_=>by cases e
 |y::ys,c::cs,_,e,.cons r t=>by
  simp only[List.map_cons,List.cons.injEq]at e;rw[vOf_rel e.1 r,vals_of e.2 t]
theorem call_isiE:CallR X (.builtin "isinstance") (rIsiE X.K):=by
 intro pins s σ H xs us Q I r h;obtain⟨x,C,y,b,rfl,hx,hC,hy,q⟩:=h;obtain⟨u,w',rfl,rx,ry⟩:=vals2 r;cases rx;obtain⟨p,_,_⟩:=I.hok x _ hx;have hne:(Value.ref x)≠.builtin "__main__.__loader__#opaque":=λz=>by cases z
 rcases hy with ⟨c,e1,e2,_⟩|⟨tp,ys,cs,rfl,e1,e2,e3⟩
 ·have:=vOf_rel e1 ry;subst this;exact kia_one (kitx_exc hC) I.kIn p e2 hne λtk=>⟨.bl b,H,I.tok tk,rfl,q⟩
 ·cases ry;obtain⟨_,its,rv,o,e4,e5⟩:=I.hok tp _ e1;have e6:=vals_of e2 rv;subst e6;obtain⟨oc,od,oda,osl⟩:=o;obtain⟨e5,n,e7⟩:=e5;dsimp only at e5 e7;subst e5 e7;exact kia_tup (kitx_exc hC) I.kIn p e4 e3 hne λtk=>⟨.bl b,H,I.tok tk,rfl,q⟩
end
end L2
namespace L2
open PySem PySem.Spec PyProof.Rows
theorem passF {P:Program}{w:World}{X:Cx}:Passes (CXw P w) X (λ_ _ _=>False):=λ_ _ _ _ _ _ _ h=>by
 obtain⟨x,C,B,H',a0,_,_,_,_,_,_,_,_,q⟩:=h;exact q.elim
theorem noCX {P:Program}{w:World}{outer:List Env}{H:Hp}{s s':Shared}{e:Value}(h:CXw P w outer H s (λ_ _ _=>False) e s'):False:=by
 obtain⟨x,C,B,H',a0,_,_,_,_,_,_,_,_,q⟩:=h;exact q
theorem boot_VE:bootBuiltins "ValueError"=some (.type "ValueError"):=by decide +kernel
section
variable {P:Program} {w:World} {K:PySem.W.Frag} {mg:Str->Option Value} {base:Heap}
theorem Fun.okN {CX:CXT}{x qual:Str}{st:Stmt}{f:Addr}{fd:FuncData}{N ps:List Str}{k:Nat}{sp:Sp}(F:Fun K x qual st f fd)(S:FnScope N ps (defScope st))(len:∀vs H Q E,sp vs H Q E->vs.length=ps.length)
 (hbody:∀(cdv:Value) (A:Around) (outer:List Env) (s:Shared) (H:Hp) (vs:List V) (Q:VK) (E:XK),Room k (A.deeper (envOfC qual (defScope st) s.heap.objs.size f cdv))->sp vs H Q E->
  ∃t,PSs (cxOf CX P w K mg base N qual (defScope st) f cdv A outer s H E).nox (defBody st) t/\t { nx:=λ_ H'=>Q .non H',rt:=Q } (start N vs) H):FnOk P w K mg base CX (k+ 1) f fd ps sp:=by
 obtain⟨oc,od,kV,doc,pm,an,cdv,ct,osl,rfl,lk,hcd⟩:=F.ex;refine fn_of lk hcd S len λA outer s H vs Q E hr hsp=>?_
 obtain⟨t,h1,h2⟩:=hbody cdv A outer s H vs Q E hr hsp;exact⟨t,h1.nox,h2⟩
end
end L2
namespace L2
open PySem PySem.Spec PyProof.Rows
section
variable {X:Cx}
end
end L2
namespace L2
open PySem PySem.Spec PyProof.Rows
section
variable {prog:Program} {w:World} {A:Around} {R:Result->Shared->Prop} {s:Shared}
theorem compLoopIf_go {elt target iter c:Expr}{scope:Scope}{pos:Pos}{it acc:Value}{env:Env}(I:Nat->Shared->Prop)
 (turn:∀n s,I n s->wpAny (model prog w) A (pyNext it) (λr s₁=>match r with
  |none=>R (.ok .next) s₁
  |some v=>wpAny (model prog w) A (letOwnedTupleGo target it v) (λ_ s₀=>wpAny (model prog w) A (assign target env v) (λ_ s₂=>wpAny (model prog w) A (isTrue c env (eval c env)) (λb s₅=>
   match b with
   |true=>wpAny (model prog w) A (eval elt env) (λx s₃=>wpAny (model prog w) A (call (.builtin "list.append") [acc,x]) (λ_ s₄=>∃m,m<n/\I m s₄) (λ_ _=>False) s₃) (λ_ _=>False) s₅
   |false=>∃m,m<n/\I m s₅) (λ_ _=>False) s₂) (λ_ _=>False) s₀) (λ_ _=>False) s₁) (λ_ _=>False) s)
 (n:Nat) (h:I n s):codeAny (model prog w) A (.compLoop (.ListComp elt [⟨target,iter,[c],0⟩] scope pos) 0 it acc env) R s:=by
 refine codeAny_loop rfl I (λn s hI=>?_) n h;show wpAny _ _ ((compTurn (.ListComp elt [⟨target,iter,[c],0⟩] scope pos) 0 it acc env).onRaise (λx=>do noteFrame x env;theTreesLotGoes x)) _ _ s;refine wpAny_noted ?_;rw[compTurn_list];refine wpAny_bind (wpAny_standAt (wpAny_bind (wpAny_mono (turn n s hI) (λr s₁ h₁=>?_) λ_ _ h'=>h'.elim)))
 cases r with
 |none=>exact wpAny_pure h₁
 |some v=>
  refine wpAny_bind (wpAny_mono h₁ (λ_ s₀ h₀=>?_) λ_ _ h'=>h'.elim);refine wpAny_bind (wpAny_mono h₀ (λ_ s₂ h₂=>wpAny_bind (wpAny_tests_one (wpAny_mono h₂ (λok s₃ h₃=>?_) λ_ _ h'=>h'.elim))) λ_ _ h'=>h'.elim)
  cases ok with
  |false=>exact wpAny_pure ⟨rfl,h₃⟩
  |true=>
   exact wpAny_bind (wpAny_bind (wpAny_mono h₃ (λx s₄ h₄=>wpAny_bind (wpAny_mono h₄ (λ_ s₅ h₅=>wpAny_pure (wpAny_pure ⟨rfl,h₅⟩)) λ_ _ h'=>h'.elim)) λ_ _ h'=>h'.elim))
end
def CompGoIf (tt:TT)(te:TE)(fv:St)(Q:VK)(J:It)(H1:Hp):Prop:=∃W:Nat->Nat->List V->Hp->Prop,(∃m,W 0 m [] H1)/\∀i m ys H2,W i m ys H2->
 (J.stop i H2/\ys.length<=sizeLine/\∀D,H2 D=none->Q (.ref D) (upd H2 D (.lst ys)))\/
 (J.go i H2/\ys.length<sizeLine/\∀x H3,J.yld i H2 x H3->tt (some x::fv) H3 λb H4=>match b with
  |true=>te (some x::fv) H4 λy H5=>∃m',m'<m/\W (i+ 1) m' (ys++[y]) H5
  |false=>∃m',m'<m/\W (i+ 1) m' ys H4)
def tCompIf (wi:TI)(fv:St->St)(tt:TT)(te:TE):TE:=λ σ H Q=>wi σ H (CompGoIf tt te (fv σ) Q)
section
variable {X:Cx} {elt iter cnd:Expr} {x:Str} {px pos:Pos} {scope:Scope} {cl:List (Str×Addr)} {fns:List Str} {ixs:List Nat} {wi:TI} {tt:TT} {te:TE}
theorem pe_compIf (hc:X.calm=true)(hi:PI X (.Name x px) iter wi)(S:CompScope X x fns ixs scope cl)
 (ht:∀(C:Addr) (s:Shared) (H:Hp) (ex:List Addr),PT (cxComp X (x::fns) scope cl C s H ex) cnd tt) (he:∀(C:Addr) (s:Shared) (H:Hp) (ex:List Addr),PE (cxComp X (x::fns) scope cl C s H ex) elt te)
 (hs:∀x,foldedSetIterable iter X.env x=pure x:=by intro _;rfl):
 PE X (.ListComp elt [⟨.Name x px,iter,[cnd],0⟩] scope pos) (tCompIf wi (fvOf ixs) tt te):=by
 intro pins s σ H Q I h;rw[eval_ListComp];refine wpAny_comprehension_free (use:=none) rfl hs S.clos S.kind S.names (thn (hi pins s σ H _ I h) λv s1 h1=>thn h1 λitv s2 h2=>?_);obtain⟨it,fp,tn,J,H2,e,I2,T,st2,f2,W,⟨m0,w0⟩,turn⟩:=h2;subst e
 have hfpLt:∀b∈fp,b<s2.heap.objs.size:=λb hb=>by
  obtain⟨o,ho,_⟩:=T.obj _ _ st2 b hb;exact Heap.lt_size ho
 refine wpAny_newObj_type (wpAny_newFunctionEnv S.cell (by intro y hy;simp at hy) (λh₁ hns₁ hsb₁=>?_) S.kind);dsimp only at hns₁ hsb₁ ⊢;generalize hH3:s2.heap.push { cls:=.type "list",dict:=none,data:=.seq ([]:List Value).toArray }=hp3 at hns₁ hsb₁ ⊢;generalize hD:s2.heap.objs.size=D at hfpLt ⊢;have hC:hp3.objs.size=D+ 1:=by rw[←hH3,Heap.size_push,hD]
 generalize hCe:hp3.objs.size=C at hC hns₁ hsb₁ ⊢;have hDltC:D<C:=by omega
 have hDC:D≠C:=Nat.ne_of_lt hDltC;have k23:∀b u,s2.heap.get? b=some u->hp3.get? b=some u:=λb u q=>by rw[←hH3];exact Heap.get?_push_of_some _ q
 have ltD:∀{b u},s2.heap.get? b=some u->b<D:=λq=>by rw[←hD];exact Heap.lt_size q
 have k34:∀b u,hp3.get? b=some u->h₁.get? b=some u:=λb u q=>
  hsb₁.extBut b u (Nat.ne_of_lt (Nat.lt_of_lt_of_le (Heap.lt_size q) (Nat.le_of_eq hCe))) (Heap.get?_push_of_some _ q)
 have hDo:hp3.get? D=some { cls:=.type "list",dict:=none,data:=.seq ([]:List Value).toArray }:=by rw[←hH3,←hD];exact Heap.get?_push_size _ rfl
 have I3:Inv X pins σ H2 { s2 with heap:=hp3 }:=I2.kept (t':=s2.toks) k23;have hnD:H2 D=none:=I2.hok.fresh (by omega);have hnC:H2 C=none:=I2.hok.fresh (by omega)
 have nstk:∀b∈D::fp,b∉frs X.stack:=λb hb z=>by
  rcases List.mem_cons.mp (I2.stkSub b z) with e|z
  ·rcases List.mem_cons.mp hb with e2|hb
   ·exact absurd I2.lt (by rw[←e,e2,←hD];exact Nat.lt_irrefl _)
   ·exact(f2 b hb).2.1 e
  ·rcases List.mem_cons.mp hb with e2|hb
   ·exact I2.nofs (by rw[e2,←hD];exact Nat.le_refl _) z
   ·exact(f2 b hb).2.2.1 z
 have cne:∀y c,cl.lookup y=some c->∀b∈D::fp,c≠b:=λy c q b hb z=>by
  obtain⟨v,hv⟩:=I2.cell y c (S.sub y c q);rcases List.mem_cons.mp hb with e2|hb
  ·exact absurd hv.lt (by rw[z,e2,←hD];exact Nat.lt_irrefl _)
  ·exact(f2 b hb).2.2.2.2.1 y c (S.sub y c q) z
 -- the block's context
 let Xc:Cx:=cxComp X (x::fns) scope cl C { s2 with heap:=hp3 } H2 (D::fp)
 have ok:Xc.Ok:={
  mod:=I2.ok.mod
  kind:=S.kind
  glob:=I2.ok.glob
  blt:=I2.ok.blt
  above:=by show hp3.objs.size<=C;omega
  inj:=λy z c q1 q2=>I2.ok.inj y z c (S.sub _ _ q1) (S.sub _ _ q2)
  has:=S.has
  cab:=λy c q=>nomatch q
  hd:=I2.ok.hd
  frames:=I2.ok.frames
  stk:=.inl rfl
  exf:=λb hb=>⟨by
   rcases List.mem_cons.mp hb with e2|hb
   ·rw[e2];exact hDC
   ·exact Nat.ne_of_lt (Nat.lt_trans (hfpLt b hb) hDltC),λy c q=>cne y c q b hb⟩
  bs:=I3.bs
  bsz:=Nat.le_trans I3.ok.bsz I3.sz
  noex:=λb o q hb=>by
   rcases List.mem_cons.mp hb with e2|hb
   ·exact absurd (ltD (I2.bs b o q).1) (by rw[e2];exact Nat.lt_irrefl _)
   ·rcases (f2 b hb).2.2.2.1 with z|z
    ·exact I2.ok.noex b o q z
    ·exact absurd (Heap.lt_size (I2.ok.bs b o q).1) (Nat.not_lt.mpr z)
  exfs:=nstk
  funs:=I3.stack
  frf:=I3.stkFree }
 have start:∀(v0:Option V),v0=none->Inv Xc [(D,{ cls:=.type "list",dict:=none,data:=.seq ([]:List Value).toArray })] (v0::fvOf ixs σ) H2 { s2 with heap:=h₁,toks:=s2.toks+ ([]:List (Str×Value)).length }:=λv0 hv0=>{
  ok:=ok
  os:=rfl
  bare:=I2.bare
  base:=Un.kept k34
  loc:=⟨_,hns₁,λi y v e1 e2 e3=>by
   cases i with
   |zero=>rw[hv0]at e2;cases e2
   |succ j=>
    have e1':fns[j]?=some y:=e1
    have e2':(fvOf ixs σ)[j]?=some (some v):=e2
    obtain⟨i,hi1,hi2,hk,c,hc1,hc2⟩:=S.at_ j y e1';unfold fvOf at e2';rw[List.getElem?_map,hi1]at e2'
    have e3':σ[i]?=some (some v):=by
     have z:(σ[i]?).join=some v:=Option.some.inj e2'
     cases q:σ[i]? with
     |none=>rw[q]at z;cases z
     |some o=>rw[q]at z;rw[show o=some v from z]
    obtain⟨m,_,hl⟩:=I2.loc;obtain⟨u,r,l⟩:=hl i y v hi2 e3' (hk.elim (λz=>.inr (.inl z)) λz=>.inr (.inr z));refine⟨u,r,.inr ⟨hc2,c,hc1,?_⟩⟩;rcases l with ⟨z,_⟩|⟨_,c',hc',hcell⟩
    ·rcases hk with hk|hk <;> (rw[hk]at z;cases z)
    ·have:c'=c:=Option.some.inj (hc'.symm.trans (S.sub _ _ hc1));subst this;obtain⟨o,ho,hd⟩:=hcell;exact⟨o,k34 _ _ (k23 _ _ ho),hd⟩⟩
  cell:=λy c q=>by
   obtain⟨v,o,ho,hd⟩:=I2.cell y c (S.sub y c q);exact⟨v,o,k34 _ _ (k23 _ _ ho),hd⟩
  free:=hnC
  freeC:=λy c q=>I2.freeC y c (S.sub y c q)
  pin:=λp hp=>by
   have hp':p=(D,{ cls:=.type "list",dict:=none,data:=.seq ([]:List Value).toArray }):=by simpa [Xc,cxComp] using hp
   subst hp';exact⟨k34 _ _ hDo,hnD,hDC,nstk D (List.mem_cons_self ..),λv z=>nomatch z⟩
  hok:=(I2.hok.kept k23).kept k34
  len:=by show (v0::fvOf ixs σ).length=(x::fns).length;simp[fvOf,S.len] }
 -- what stays true of the iterator's objects
 have fpc:∀{H':Hp} {pins':List (Addr×Obj)},(∀b∈fp,H' b=none)->(∀p∈pins',p.1=D)->∀b∈fp,FpOk Xc pins' H' b:=λ{H' pins'} hn hp b hb=>
  ⟨hn b hb,Nat.ne_of_lt (Nat.lt_trans (hfpLt b hb) hDltC),nstk b (List.mem_cons_of_mem _ hb),.inl (List.mem_cons_of_mem _ hb),λy c q=>cne y c q b (List.mem_cons_of_mem _ hb),λp q=>by
   have q':p∈pins':=by simpa [Xc,cxComp] using q
   rw[hp p q'];exact Nat.ne_of_gt (hfpLt b hb)⟩
 have loop:codeAny (model X.prog X.w) X.A (.compLoop (.ListComp elt [⟨.Name x px,iter,[cnd],0⟩] scope pos) 0 (.ref it) (.ref D) (compEnvC scope cl C X.env))
  (compPost (model X.prog X.w) X.A X.xe none (EP X pins σ Q) (.ref D) C) { s2 with heap:=h₁,toks:=s2.toks+ ([]:List (Str×Value)).length }:=by
  refine compLoopIf_go (λn s'=>∃(i:Nat) (ys:List V) (its:List Value) (nn:Nat) (v0:Option V) (H':Hp),Inv Xc [(D,{ cls:=.type "list",dict:=none,data:=.seq its.toArray nn })] (v0::fvOf ixs σ) H' s'/\tn i s'.heap/\(∀b∈fp,H' b=none)/\Vals ys its/\W i n ys H') ?_ m0
   ⟨0,[],[],0,none,H2,start none rfl,T.keep _ _ _ st2 λb _ o q=>k34 _ _ (k23 _ _ q),λb hb=>(f2 b hb).1,.nil,w0⟩
  rintro n s3 ⟨i,ys,its,nn,v0,H3,J3,tn3,fr3,vv,w3⟩
  have pinD:∀p∈([(D,({ cls:=.type "list",dict:=none,data:=.seq its.toArray nn }:Obj))]:List (Addr×Obj)),p.1=D:=λp hp=>by
   have:p=(D,{ cls:=.type "list",dict:=none,data:=.seq its.toArray nn }):=by simpa using hp
   rw[this]
  rcases turn i n ys H3 w3 with ⟨stop,hlen,q⟩|⟨go,hlen,step⟩
  ·-- the end
   refine thn (T.done Xc rfl rfl rfl hc i _ s3 _ H3 _ J3 (fpc fr3 pinD) tn3 stop) λr s4 ⟨hr,J4⟩=>?_
   subst hr;obtain⟨m,hn,_⟩:=J4.loc;refine⟨m,hn,λh'' hsb=>?_⟩;obtain⟨gD,nD,_,_,_⟩:=J4.pin (D,{ cls:=.type "list",dict:=none,data:=.seq its.toArray nn }) (by simp[Xc,cxComp]);have B:=J4.base;have kC:∀b u,b≠C->s4.heap.get? b=some u->h''.get? b=some u:=λb u hb q=>(hsb.2 b hb).trans q
   have ne:∀{b o},s2.heap.get? b=some o->b≠C/\b≠D:=λq=>⟨Nat.ne_of_lt (Nat.lt_trans (ltD q) hDltC),Nat.ne_of_lt (ltD q)⟩
   have nex:∀{b o},s2.heap.get? b=some o->b∉fp->b∉D::fp:=λq hx z=>(List.mem_cons.mp z).elim (ne q).2 hx
   have uu:Un (frs X.stack) fp H2 (upd H3 D (.lst ys)) s2.heap h'':={
    keep:=λb o q n hb hx=>kC b o (ne q).1 (B.keep b o (k23 b o q) n hb (nex q hx))
    slot:=λb o q n hb hx=>by
     obtain⟨sl,e⟩:=B.slot b o (k23 b o q) n hb (nex q hx);exact⟨sl,kC b _ (ne q).1 e⟩
    free:=λb o q n hx=>by rw[upd_ne (ne q).2];exact B.free b o (k23 b o q) n (nex q hx)
    there:=λb o q hx=>by
     obtain⟨o',e⟩:=B.there b o (k23 b o q) (nex q hx);exact⟨o',kC b _ (ne q).1 e⟩
    tups:=λb xs q=>by rw[upd_ne (ne_of_none q hnD)];exact B.tups b xs q
    frzs:=λb o xs q=>by rw[upd_ne (ne_of_none q hnD)];exact B.frzs b o xs q
    tbls:=λb ps q=>by
     obtain⟨more,e⟩:=B.tbls b ps q;exact⟨more,by rw[upd_ne (ne_of_none q hnD)];exact e⟩ }
   have hok:HOk X.prog X.w (upd H3 D (.lst ys)) h'':=λb u e=>by
    by_cases hb:b=D
    ·subst hb;rw[upd_same]at e;cases e;exact⟨hlen,its,nn,vv,kC _ _ hDC gD⟩
    ·rw[upd_ne hb]at e;refine(J4.hok b u e).stay (λc v hc q=>kC c v ?_ q) (λc q=>by rw[upd_ne (ne_of_none q nD)];exact q) λc xs q=>by rw[upd_ne (ne_of_none q nD)];exact q
     have fC:H3 C=none:=J4.free;rcases hc with rfl|hc
     ·exact ne_of_none e fC
     ·exact ne_of_none hc fC
   exact⟨.ref D,_,I2.call' (s':={ s4 with heap:=h'' }) J4.os uu hok J4.bare (λb hb=>⟨(f2 b hb).2.2.2.1,(f2 b hb).2.1,(f2 b hb).2.2.2.2.1,(f2 b hb).2.2.2.2.2⟩),rfl,q D nD⟩
  ·-- a turn
   refine thn (T.item Xc rfl rfl rfl hc i _ s3 _ H3 _ J3 (fpc fr3 pinD) tn3 go) λr s4 ⟨u,hr,h4⟩=>?_
   subst hr;refine thn h4 λ_ s5 ⟨xv,H5,J5,r5,y5,tn5,fr5⟩=>?_
   have J5':=J5.pinned (fpc fr5 pinD) (T.obj _ _ tn5);have hg:PG Xc (.Name x px) (gName 0):=pg_name (X:=Xc) (i:=0) S.nd rfl (.inl (relabel_own S.own)) (.inr (relabel_own S.own));refine thn (hg _ s5 _ H5 xv u (λ σ' H'=>σ'=some xv::fvOf ixs σ/\H'=H5) J5' r5 ⟨rfl,rfl⟩) λ_ s6 ⟨σ6,H6,J6,e6,e6'⟩=>?_
   subst e6 e6';refine thn (ht C { s2 with heap:=hp3 } H2 (D::fp) _ s6 _ H6 _ J6 (step xv H6 y5)) λbt s6b ⟨H6b,J6b,q6⟩=>?_
   cases bt with
   |true=>
    refine thn (he C { s2 with heap:=hp3 } H2 (D::fp) _ s6b _ H6b _ J6b q6) λyv s7 ⟨y,H7,J7,r7,m',hm',w7⟩=>?_
    obtain⟨gD,nD,_,_,_⟩:=J7.pin (D,{ cls:=.type "list",dict:=none,data:=.seq its.toArray nn }) (by simp[Xc,cxComp]);have tn7:tn (i+ 1) s7.heap:=T.keep _ _ _ tn5 λb hb o e=>(J7.pin (b,o) (List.mem_append_right _ (List.mem_append_right _ (mem_pinsAt hb e)))).1
    have fr7:∀b∈fp,H7 b=none:=λb hb=>by
     obtain⟨o,e,d⟩:=T.obj _ _ tn5 b hb;exact(J7.pin (b,o) (List.mem_append_right _ (List.mem_append_right _ (mem_pinsAt hb e)))).2.1
    have J7':Inv Xc [] (some xv::fvOf ixs σ) H7 s7:=J7.pins_of λp hp=>nomatch hp
    refine wpAny_list_append_plain (hsz:=by rw[List.size_toArray,←vv.length];omega) ⟨nn,gD⟩ λh8 pl8 sb8=>?_
    obtain⟨n8,g8⟩:=pl8
    have J8:Inv Xc [] (some xv::fvOf ixs σ) H7 { s7 with heap:=h8 }:=J7'.turned (t':=s7.toks) (it:=D) (λb o hb e=>(sb8.2 b hb).trans e) nD (hDC) (.inl (List.mem_cons_self ..))
     (λy c q=>cne y c q D (List.mem_cons_self ..)) (λp hp=>by simp[Xc,cxComp]at hp)
    refine⟨m',hm',i+ 1,ys++[y],its++[yv],n8,some xv,H7,J8.pins_of λp hp=>?_,?_,fr7,vv.append (.cons r7 .nil),w7⟩
    ·have:p=(D,{ cls:=.type "list",dict:=none,data:=.seq (its++[yv]).toArray n8 }):=by simpa using hp
     subst this;refine⟨?_,nD,hDC,nstk D (List.mem_cons_self ..),λv z=>nomatch z⟩;have:its.toArray.push yv=(its++[yv]).toArray:=by simp
     rw[this]at g8;exact g8
    ·exact T.keep _ _ _ tn7 λb hb o e=>(sb8.2 b (Nat.ne_of_lt (hfpLt b hb))).trans e
   |false=>
    obtain⟨m',hm',w7⟩:=q6;obtain⟨gD,nD,_,_,_⟩:=J6b.pin (D,{ cls:=.type "list",dict:=none,data:=.seq its.toArray nn }) (by simp[Xc,cxComp]);have tn7:tn (i+ 1) s6b.heap:=T.keep _ _ _ tn5 λb hb o e=>(J6b.pin (b,o) (List.mem_append_right _ (List.mem_append_right _ (mem_pinsAt hb e)))).1
    have fr7:∀b∈fp,H6b b=none:=λb hb=>by
     obtain⟨o,e,d⟩:=T.obj _ _ tn5 b hb;exact(J6b.pin (b,o) (List.mem_append_right _ (List.mem_append_right _ (mem_pinsAt hb e)))).2.1
    refine⟨m',hm',i+ 1,ys,its,nn,some xv,H6b,J6b.pins_of λp hp=>?_,tn7,fr7,vv,w7⟩;have:p=(D,{ cls:=.type "list",dict:=none,data:=.seq its.toArray nn }):=by simpa using hp
    subst this;exact⟨gD,nD,hDC,nstk D (List.mem_cons_self ..),λv z=>nomatch z⟩
 exact codeAny_compStart_list loop (T.self _ 0 _ _ _ (T.keep _ _ _ st2 λb _ o q=>k34 _ _ (k23 _ _ q)) loop)
end
end L2
set_option maxRecDepth 10000
set_option maxHeartbeats 400000
namespace L2
open PySem PySem.Spec PyProof.Rows
section
variable {X:Cx}
end
end L2
set_option maxRecDepth 100000
set_option maxHeartbeats 4000000
namespace L2
open PySem PySem.Spec PyProof.Rows
section
variable {X:Cx}
end
end L2
namespace L2
open PySem PySem.Spec PyProof.Rows
section
variable {X:Cx} {tg:Expr}
end
end L2
namespace L2
open PySem PySem.Spec PyProof.Rows
section
variable {X:Cx} {elt iter cnd:Expr} {x:Str} {px pos:Pos} {scope:Scope} {cl:List (Str×Addr)} {fns:List Str} {ixs:List Nat} {wi:TI} {tt:TT} {te:TE}
theorem ps_setCompIf {iy:Nat}{y:Str}{py spos:Pos}(hN:X.N.Nodup)(hiy:X.N[iy]?=some y)(hy:Loc X.env.scope y)(hc:X.calm=true)(hi:PI X (.Name x px) iter wi)(S:CompScope X x fns ixs scope cl)
 (ht:∀(C:Addr) (s:Shared) (H:Hp) (ex:List Addr),PT (cxComp X (x::fns) scope cl C s H ex) cnd tt) (he:∀(C:Addr) (s:Shared) (H:Hp) (ex:List Addr),PE (cxComp X (x::fns) scope cl C s H ex) elt te)
 (hs:∀x,foldedSetIterable iter X.env x=pure x:=by intro _;rfl) (hsw:swapsWith (.ListComp elt [⟨.Name x px,iter,[cnd],0⟩] scope pos) (some (.Name y py)) spos.line X.env=pure true:=by rfl)
 (hfy:X.fn y=true\/X.env.scope.names.lookup y=some .local:=by first|exact .inl rfl|exact .inr rfl|assumption):
 PS X (.Assign [.Name y py] (.ListComp elt [⟨.Name x px,iter,[cnd],0⟩] scope pos) spos) (tAsg (tCompIf wi (fvOf ixs) tt te) (gName iy)):=by
 intro pins s σ H DD I h;rw[exec_Assign_Name_used _ _ _ _ hsw];refine wpAny_bind (wpAny_standAt (wpAny_bind ?_));show wpAny _ X.A (do let _ ←comprehension (.ListComp elt [⟨.Name x px,iter,[cnd],0⟩] scope pos) scope X.env _ (newList []) false (eval iter X.env) (some (assign (.Name y py) X.env))) _ _ s;refine wpAny_bind (wpAny_mono (wpAny_comprehension_free (use:=some (assign (.Name y py) X.env)) (Q:=λ_ s'=>SP X pins DD .next s') rfl hs S.clos S.kind S.names (thn (hi pins s σ H _ I h) λv s1 h1=>thn h1 λitv s2 h2=>?_)) (λ_ s' hq=>wpAny_pure (wpAny_pure hq)) λ_ _ e=>e);obtain⟨it,fp,tn,J,H2,e,I2,T,st2,f2,W,⟨m0,w0⟩,turn⟩:=h2;subst e
 have hfpLt:∀b∈fp,b<s2.heap.objs.size:=λb hb=>by
  obtain⟨o,ho,_⟩:=T.obj _ _ st2 b hb;exact Heap.lt_size ho
 refine wpAny_newObj_type (wpAny_newFunctionEnv S.cell (by intro y hy;simp at hy) (λh₁ hns₁ hsb₁=>?_) S.kind);dsimp only at hns₁ hsb₁ ⊢;generalize hH3:s2.heap.push { cls:=.type "list",dict:=none,data:=.seq ([]:List Value).toArray }=hp3 at hns₁ hsb₁ ⊢;generalize hD:s2.heap.objs.size=D at hfpLt ⊢;have hC:hp3.objs.size=D+ 1:=by rw[←hH3,Heap.size_push,hD]
 generalize hCe:hp3.objs.size=C at hC hns₁ hsb₁ ⊢;have hDltC:D<C:=by omega
 have hDC:D≠C:=Nat.ne_of_lt hDltC;have k23:∀b u,s2.heap.get? b=some u->hp3.get? b=some u:=λb u q=>by rw[←hH3];exact Heap.get?_push_of_some _ q
 have ltD:∀{b u},s2.heap.get? b=some u->b<D:=λq=>by rw[←hD];exact Heap.lt_size q
 have k34:∀b u,hp3.get? b=some u->h₁.get? b=some u:=λb u q=>
  hsb₁.extBut b u (Nat.ne_of_lt (Nat.lt_of_lt_of_le (Heap.lt_size q) (Nat.le_of_eq hCe))) (Heap.get?_push_of_some _ q)
 have hDo:hp3.get? D=some { cls:=.type "list",dict:=none,data:=.seq ([]:List Value).toArray }:=by rw[←hH3,←hD];exact Heap.get?_push_size _ rfl
 have I3:Inv X pins σ H2 { s2 with heap:=hp3 }:=I2.kept (t':=s2.toks) k23;have hnD:H2 D=none:=I2.hok.fresh (by omega);have hnC:H2 C=none:=I2.hok.fresh (by omega)
 have nstk:∀b∈D::fp,b∉frs X.stack:=λb hb z=>by
  rcases List.mem_cons.mp (I2.stkSub b z) with e|z
  ·rcases List.mem_cons.mp hb with e2|hb
   ·exact absurd I2.lt (by rw[←e,e2,←hD];exact Nat.lt_irrefl _)
   ·exact(f2 b hb).2.1 e
  ·rcases List.mem_cons.mp hb with e2|hb
   ·exact I2.nofs (by rw[e2,←hD];exact Nat.le_refl _) z
   ·exact(f2 b hb).2.2.1 z
 have cne:∀y c,cl.lookup y=some c->∀b∈D::fp,c≠b:=λy c q b hb z=>by
  obtain⟨v,hv⟩:=I2.cell y c (S.sub y c q);rcases List.mem_cons.mp hb with e2|hb
  ·exact absurd hv.lt (by rw[z,e2,←hD];exact Nat.lt_irrefl _)
  ·exact(f2 b hb).2.2.2.2.1 y c (S.sub y c q) z
 -- the block's context
 let Xc:Cx:=cxComp X (x::fns) scope cl C { s2 with heap:=hp3 } H2 (D::fp)
 have ok:Xc.Ok:={
  mod:=I2.ok.mod
  kind:=S.kind
  glob:=I2.ok.glob
  blt:=I2.ok.blt
  above:=by show hp3.objs.size<=C;omega
  inj:=λy z c q1 q2=>I2.ok.inj y z c (S.sub _ _ q1) (S.sub _ _ q2)
  has:=S.has
  cab:=λy c q=>nomatch q
  hd:=I2.ok.hd
  frames:=I2.ok.frames
  stk:=.inl rfl
  exf:=λb hb=>⟨by
   rcases List.mem_cons.mp hb with e2|hb
   ·rw[e2];exact hDC
   ·exact Nat.ne_of_lt (Nat.lt_trans (hfpLt b hb) hDltC),λy c q=>cne y c q b hb⟩
  bs:=I3.bs
  bsz:=Nat.le_trans I3.ok.bsz I3.sz
  noex:=λb o q hb=>by
   rcases List.mem_cons.mp hb with e2|hb
   ·exact absurd (ltD (I2.bs b o q).1) (by rw[e2];exact Nat.lt_irrefl _)
   ·rcases (f2 b hb).2.2.2.1 with z|z
    ·exact I2.ok.noex b o q z
    ·exact absurd (Heap.lt_size (I2.ok.bs b o q).1) (Nat.not_lt.mpr z)
  exfs:=nstk
  funs:=I3.stack
  frf:=I3.stkFree }
 have start:∀(v0:Option V),v0=none->Inv Xc [(D,{ cls:=.type "list",dict:=none,data:=.seq ([]:List Value).toArray })] (v0::fvOf ixs σ) H2 { s2 with heap:=h₁,toks:=s2.toks+ ([]:List (Str×Value)).length }:=λv0 hv0=>{
  ok:=ok
  os:=rfl
  bare:=I2.bare
  base:=Un.kept k34
  loc:=⟨_,hns₁,λi y v e1 e2 e3=>by
   cases i with
   |zero=>rw[hv0]at e2;cases e2
   |succ j=>
    have e1':fns[j]?=some y:=e1
    have e2':(fvOf ixs σ)[j]?=some (some v):=e2
    obtain⟨i,hi1,hi2,hk,c,hc1,hc2⟩:=S.at_ j y e1';unfold fvOf at e2';rw[List.getElem?_map,hi1]at e2'
    have e3':σ[i]?=some (some v):=by
     have z:(σ[i]?).join=some v:=Option.some.inj e2'
     cases q:σ[i]? with
     |none=>rw[q]at z;cases z
     |some o=>rw[q]at z;rw[show o=some v from z]
    obtain⟨m,_,hl⟩:=I2.loc;obtain⟨u,r,l⟩:=hl i y v hi2 e3' (hk.elim (λz=>.inr (.inl z)) λz=>.inr (.inr z));refine⟨u,r,.inr ⟨hc2,c,hc1,?_⟩⟩;rcases l with ⟨z,_⟩|⟨_,c',hc',hcell⟩
    ·rcases hk with hk|hk <;> (rw[hk]at z;cases z)
    ·have:c'=c:=Option.some.inj (hc'.symm.trans (S.sub _ _ hc1));subst this;obtain⟨o,ho,hd⟩:=hcell;exact⟨o,k34 _ _ (k23 _ _ ho),hd⟩⟩
  cell:=λy c q=>by
   obtain⟨v,o,ho,hd⟩:=I2.cell y c (S.sub y c q);exact⟨v,o,k34 _ _ (k23 _ _ ho),hd⟩
  free:=hnC
  freeC:=λy c q=>I2.freeC y c (S.sub y c q)
  pin:=λp hp=>by
   have hp':p=(D,{ cls:=.type "list",dict:=none,data:=.seq ([]:List Value).toArray }):=by simpa [Xc,cxComp] using hp
   subst hp';exact⟨k34 _ _ hDo,hnD,hDC,nstk D (List.mem_cons_self ..),λv z=>nomatch z⟩
  hok:=(I2.hok.kept k23).kept k34
  len:=by show (v0::fvOf ixs σ).length=(x::fns).length;simp[fvOf,S.len] }
 -- what stays true of the iterator's objects
 have fpc:∀{H':Hp} {pins':List (Addr×Obj)},(∀b∈fp,H' b=none)->(∀p∈pins',p.1=D)->∀b∈fp,FpOk Xc pins' H' b:=λ{H' pins'} hn hp b hb=>
  ⟨hn b hb,Nat.ne_of_lt (Nat.lt_trans (hfpLt b hb) hDltC),nstk b (List.mem_cons_of_mem _ hb),.inl (List.mem_cons_of_mem _ hb),λy c q=>cne y c q b (List.mem_cons_of_mem _ hb),λp q=>by
   have q':p∈pins':=by simpa [Xc,cxComp] using q
   rw[hp p q'];exact Nat.ne_of_gt (hfpLt b hb)⟩
 have loop:codeAny (model X.prog X.w) X.A (.compLoop (.ListComp elt [⟨.Name x px,iter,[cnd],0⟩] scope pos) 0 (.ref it) (.ref D) (compEnvC scope cl C X.env))
  (compPost (model X.prog X.w) X.A X.xe (some (assign (.Name y py) X.env)) (λ_ s'=>SP X pins DD .next s') (.ref D) C) { s2 with heap:=h₁,toks:=s2.toks+ ([]:List (Str×Value)).length }:=by
  refine compLoopIf_go (λn s'=>∃(i:Nat) (ys:List V) (its:List Value) (nn:Nat) (v0:Option V) (H':Hp),Inv Xc [(D,{ cls:=.type "list",dict:=none,data:=.seq its.toArray nn })] (v0::fvOf ixs σ) H' s'/\tn i s'.heap/\(∀b∈fp,H' b=none)/\Vals ys its/\W i n ys H') ?_ m0
   ⟨0,[],[],0,none,H2,start none rfl,T.keep _ _ _ st2 λb _ o q=>k34 _ _ (k23 _ _ q),λb hb=>(f2 b hb).1,.nil,w0⟩
  rintro n s3 ⟨i,ys,its,nn,v0,H3,J3,tn3,fr3,vv,w3⟩
  have pinD:∀p∈([(D,({ cls:=.type "list",dict:=none,data:=.seq its.toArray nn }:Obj))]:List (Addr×Obj)),p.1=D:=λp hp=>by
   have:p=(D,{ cls:=.type "list",dict:=none,data:=.seq its.toArray nn }):=by simpa using hp
   rw[this]
  rcases turn i n ys H3 w3 with ⟨stop,hlen,q⟩|⟨go,hlen,step⟩
  ·-- the end
   refine thn (T.done Xc rfl rfl rfl hc i _ s3 _ H3 _ J3 (fpc fr3 pinD) tn3 stop) λr s4 ⟨hr,J4⟩=>?_
   subst hr;obtain⟨m,hn,_⟩:=J4.loc;generalize hh4:s4.heap=h'';have hsb:Heap.SameBut C s4.heap h'':=by rw[←hh4];exact⟨rfl,λ_ _=>rfl⟩
   obtain⟨gD,nD,_,_,_⟩:=J4.pin (D,{ cls:=.type "list",dict:=none,data:=.seq its.toArray nn }) (by simp[Xc,cxComp]);have B:=J4.base;have kC:∀b u,b≠C->s4.heap.get? b=some u->h''.get? b=some u:=λb u hb q=>(hsb.2 b hb).trans q
   have ne:∀{b o},s2.heap.get? b=some o->b≠C/\b≠D:=λq=>⟨Nat.ne_of_lt (Nat.lt_trans (ltD q) hDltC),Nat.ne_of_lt (ltD q)⟩
   have nex:∀{b o},s2.heap.get? b=some o->b∉fp->b∉D::fp:=λq hx z=>(List.mem_cons.mp z).elim (ne q).2 hx
   have uu:Un (frs X.stack) fp H2 (upd H3 D (.lst ys)) s2.heap h'':={
    keep:=λb o q n hb hx=>kC b o (ne q).1 (B.keep b o (k23 b o q) n hb (nex q hx))
    slot:=λb o q n hb hx=>by
     obtain⟨sl,e⟩:=B.slot b o (k23 b o q) n hb (nex q hx);exact⟨sl,kC b _ (ne q).1 e⟩
    free:=λb o q n hx=>by rw[upd_ne (ne q).2];exact B.free b o (k23 b o q) n (nex q hx)
    there:=λb o q hx=>by
     obtain⟨o',e⟩:=B.there b o (k23 b o q) (nex q hx);exact⟨o',kC b _ (ne q).1 e⟩
    tups:=λb xs q=>by rw[upd_ne (ne_of_none q hnD)];exact B.tups b xs q
    frzs:=λb o xs q=>by rw[upd_ne (ne_of_none q hnD)];exact B.frzs b o xs q
    tbls:=λb ps q=>by
     obtain⟨more,e⟩:=B.tbls b ps q;exact⟨more,by rw[upd_ne (ne_of_none q hnD)];exact e⟩ }
   have hok:HOk X.prog X.w (upd H3 D (.lst ys)) h'':=λb u e=>by
    by_cases hb:b=D
    ·subst hb;rw[upd_same]at e;cases e;exact⟨hlen,its,nn,vv,kC _ _ hDC gD⟩
    ·rw[upd_ne hb]at e;refine(J4.hok b u e).stay (λc v hc q=>kC c v ?_ q) (λc q=>by rw[upd_ne (ne_of_none q nD)];exact q) λc xs q=>by rw[upd_ne (ne_of_none q nD)];exact q
     have fC:H3 C=none:=J4.free;rcases hc with rfl|hc
     ·exact ne_of_none e fC
     ·exact ne_of_none hc fC
   have I5:Inv X pins σ (upd H3 D (.lst ys)) s4:=I2.call' (s':=s4) J4.os (by rw[hh4];exact uu) (by rw[hh4];exact hok) J4.bare (λb hb=>⟨(f2 b hb).2.2.2.1,(f2 b hb).2.1,(f2 b hb).2.2.2.2.1,(f2 b hb).2.2.2.2.2⟩);show wpAny _ X.A (assign (.Name y py) X.env (.ref D)) _ _ _
   have cL:X.env.locals≠C:=λz=>by
    have h1:=I2.lt;rw[hD,z]at h1;exact absurd (Nat.lt_trans h1 hDltC) (Nat.lt_irrefl _)
   have cC:∀z c,X.env.cells.lookup z=some c->c≠C:=λz c hz e=>by
    obtain⟨v,hv⟩:=I2.cell z c hz;have h1:=hv.lt;rw[hD,e]at h1;exact absurd (Nat.lt_trans h1 hDltC) (Nat.lt_irrefl _)
   have hCn:upd H3 D (.lst ys) C=none:=by
    rw[upd_ne (Ne.symm hDC)];exact J4.free
   refine wpAny_assign_Name (store_ok2 I5 hN hiy hy (v:=.ref D) rfl (λs5 I6 hsame=>?_) hfy);obtain⟨a5,sb5,ha5⟩:=hsame
   have neC:C≠a5:=by
    rcases ha5 with e|e
    ·rw[e];exact Ne.symm cL
    ·exact Ne.symm (cC y a5 e)
   refine⟨m,hn.sameBut sb5 neC,λh6 sb6=>?_⟩
   refine⟨_,_,I6.turned (t':=s5.toks) (it:=C) (λb o hb e=>(sb6.2 b hb).trans e) hCn (Ne.symm cL) (.inr (by
    have:=I2.sz;rw[hD]at this;exact Nat.le_trans this (Nat.le_of_lt hDltC))) cC (λp hp z=>?_),q D nD⟩
   have hlt:=Heap.lt_size (I2.pin p hp).1;rw[hD,z]at hlt;exact absurd (Nat.lt_trans hlt hDltC) (Nat.lt_irrefl _)
  ·-- a turn
   refine thn (T.item Xc rfl rfl rfl hc i _ s3 _ H3 _ J3 (fpc fr3 pinD) tn3 go) λr s4 ⟨u,hr,h4⟩=>?_
   subst hr;refine thn h4 λ_ s5 ⟨xv,H5,J5,r5,y5,tn5,fr5⟩=>?_
   have J5':=J5.pinned (fpc fr5 pinD) (T.obj _ _ tn5);have hg:PG Xc (.Name x px) (gName 0):=pg_name (X:=Xc) (i:=0) S.nd rfl (.inl (relabel_own S.own)) (.inr (relabel_own S.own));refine thn (hg _ s5 _ H5 xv u (λ σ' H'=>σ'=some xv::fvOf ixs σ/\H'=H5) J5' r5 ⟨rfl,rfl⟩) λ_ s6 ⟨σ6,H6,J6,e6,e6'⟩=>?_
   subst e6 e6';refine thn (ht C { s2 with heap:=hp3 } H2 (D::fp) _ s6 _ H6 _ J6 (step xv H6 y5)) λbt s6b ⟨H6b,J6b,q6⟩=>?_
   cases bt with
   |true=>
    refine thn (he C { s2 with heap:=hp3 } H2 (D::fp) _ s6b _ H6b _ J6b q6) λyv s7 ⟨y,H7,J7,r7,m',hm',w7⟩=>?_
    obtain⟨gD,nD,_,_,_⟩:=J7.pin (D,{ cls:=.type "list",dict:=none,data:=.seq its.toArray nn }) (by simp[Xc,cxComp]);have tn7:tn (i+ 1) s7.heap:=T.keep _ _ _ tn5 λb hb o e=>(J7.pin (b,o) (List.mem_append_right _ (List.mem_append_right _ (mem_pinsAt hb e)))).1
    have fr7:∀b∈fp,H7 b=none:=λb hb=>by
     obtain⟨o,e,d⟩:=T.obj _ _ tn5 b hb;exact(J7.pin (b,o) (List.mem_append_right _ (List.mem_append_right _ (mem_pinsAt hb e)))).2.1
    have J7':Inv Xc [] (some xv::fvOf ixs σ) H7 s7:=J7.pins_of λp hp=>nomatch hp
    refine wpAny_list_append_plain (hsz:=by rw[List.size_toArray,←vv.length];omega) ⟨nn,gD⟩ λh8 pl8 sb8=>?_
    obtain⟨n8,g8⟩:=pl8
    have J8:Inv Xc [] (some xv::fvOf ixs σ) H7 { s7 with heap:=h8 }:=J7'.turned (t':=s7.toks) (it:=D) (λb o hb e=>(sb8.2 b hb).trans e) nD (hDC) (.inl (List.mem_cons_self ..))
     (λy c q=>cne y c q D (List.mem_cons_self ..)) (λp hp=>by simp[Xc,cxComp]at hp)
    refine⟨m',hm',i+ 1,ys++[y],its++[yv],n8,some xv,H7,J8.pins_of λp hp=>?_,?_,fr7,vv.append (.cons r7 .nil),w7⟩
    ·have:p=(D,{ cls:=.type "list",dict:=none,data:=.seq (its++[yv]).toArray n8 }):=by simpa using hp
     subst this;refine⟨?_,nD,hDC,nstk D (List.mem_cons_self ..),λv z=>nomatch z⟩;have:its.toArray.push yv=(its++[yv]).toArray:=by simp
     rw[this]at g8;exact g8
    ·exact T.keep _ _ _ tn7 λb hb o e=>(sb8.2 b (Nat.ne_of_lt (hfpLt b hb))).trans e
   |false=>
    obtain⟨m',hm',w7⟩:=q6;obtain⟨gD,nD,_,_,_⟩:=J6b.pin (D,{ cls:=.type "list",dict:=none,data:=.seq its.toArray nn }) (by simp[Xc,cxComp]);have tn7:tn (i+ 1) s6b.heap:=T.keep _ _ _ tn5 λb hb o e=>(J6b.pin (b,o) (List.mem_append_right _ (List.mem_append_right _ (mem_pinsAt hb e)))).1
    have fr7:∀b∈fp,H6b b=none:=λb hb=>by
     obtain⟨o,e,d⟩:=T.obj _ _ tn5 b hb;exact(J6b.pin (b,o) (List.mem_append_right _ (List.mem_append_right _ (mem_pinsAt hb e)))).2.1
    refine⟨m',hm',i+ 1,ys,its,nn,some xv,H6b,J6b.pins_of λp hp=>?_,tn7,fr7,vv,w7⟩;have:p=(D,{ cls:=.type "list",dict:=none,data:=.seq its.toArray nn }):=by simpa using hp
    subst this;exact⟨gD,nD,hDC,nstk D (List.mem_cons_self ..),λv z=>nomatch z⟩
 exact codeAny_compStart_list loop (T.self _ 0 _ _ _ (T.keep _ _ _ st2 λb _ o q=>k34 _ _ (k23 _ _ q)) loop)
end
end L2
namespace L2
open PySem PySem.Spec PyProof.Rows
theorem first_of {l:List Nat}{c:Nat}(h:c∈l):∃i:Nat,l[i]?=some c/\∀j,j<i->l[j]?≠some c:=by
 induction l with
 |nil=>cases h
 |cons a l ih=>
  by_cases e:a=c
  ·exact⟨0,by rw[e];rfl,λj hj=>by omega⟩
  ·obtain⟨i,h1,h2⟩:=ih ((List.mem_cons.mp h).resolve_left (Ne.symm e));refine⟨i+ 1,h1,λj hj=>?_⟩
   cases j with
   |zero=>exact λz=>e (Option.some.inj z)
   |succ j=>exact h2 j (by omega)
section
variable {X:Cx}
end
end L2
namespace L2
open PySem PySem.Spec PyProof.Rows
def rng (lo:Int)(n:Nat):List Int:=(List.range n).map λi:Nat=>lo+ (i:Int)
section
variable {X:Cx} {a b:Expr} {ta:TA} {p p2 pos pos2:Pos}
end
end L2
namespace L2
open PySem PySem.Spec PyProof.Rows
def RowsAt (H:Hp)(rs:List Addr)(rows:List (List Int)):Prop:=rs.length=rows.length/\∀(i:Nat) (r:Addr) (ns:List Int),rs[i]?=some r->rows[i]?=some ns->H r=some (.lst (intV ns))
def TabAt (H:Hp)(a:Addr)(rows:List (List Int)):Prop:=∃rs:List Addr,H a=some (.lst (rs.map V.ref))/\RowsAt H rs rows
theorem vals_refs {rs:List Addr}:∀{us:List Value},Vals (rs.map V.ref) us->us=rs.map Value.ref:=by
 induction rs with
 |nil=>intro us r;cases r;rfl
 |cons c rs ih=>
  intro us r
  cases r with
  |cons r0 r1=>cases r0;rw[ih r1];rfl
section
variable {X:Cx} {pins:List (Addr×Obj)} {σ:St} {H:Hp} {s:Shared} {A:Around}
end
section
variable {X:Cx}
theorem ix_listK {K:PySem.W.Frag}(h:X.K=K):IxR X (rIxL K):=by subst h;exact ix_list
theorem ix_tupK {K:PySem.W.Frag}(h:X.K=K):IxR X (rIxT K):=by subst h;exact ix_tup
end
end L2
namespace L2
open PySem PySem.Spec PyProof.Rows
def TupsAt (H:Hp)(ps:List Addr)(ws:List (List Int)):Prop:=ps.length=ws.length/\∀(i:Nat) (p:Addr) (w:List Int),ps[i]?=some p->ws[i]?=some w->H p=some (.tup (intV w))
def WordsAt (H:Hp)(a:Addr)(ws:List (List Int)):Prop:=∃ps:List Addr,H a=some (.lst (ps.map V.ref))/\TupsAt H ps ws
section
variable {X:Cx} {pins:List (Addr×Obj)} {σ:St} {H:Hp} {s:Shared} {A:Around}
end
section
variable {X:Cx}
end
end L2
namespace L2
open PySem PySem.Spec PyProof.Rows
section
variable {X:Cx}
def isInt (k:Int):Value->Bool
 |.int z _=>z==k
 |_=>false
end
end L2
namespace L2
open PySem PySem.Spec PyProof.Rows
section
variable {X:Cx} {tg:Expr}
end
end L2
namespace L2
open PySem PySem.Spec PyProof.Rows
def Itel (K:PySem.W.Frag)(a:Addr):It:=
 ⟨λi H=>∃xs x,SqL K H a xs/\xs[i]?=some x,λi H x H'=>∃p v,H p=none/\(∀ys,SqL K H a ys->ys[i]?=some v)/\x=.ref p/\H'=upd H p (.tup [.int (i:Int),v]),λi H=>∃xs,SqL K H a xs/\xs.length=i⟩
theorem ne_cls {h:Heap}{a b:Addr}{o u:Obj}(ha:h.get? a=some o)(hb:h.get? b=some u)(hc:o.cls≠u.cls):a≠b:=λz=>by
 subst z;rw[ha]at hb;exact hc (by rw[Option.some.inj hb])
theorem turn_enumL {P:Program}{w:World}{K:PySem.W.Frag}{elts:List Expr}{x1:Nat}{tp:Pos}(e it a:Addr)(hei:e≠it):
 Turn P w K (.Tuple elts x1 tp) (Itel K a) [e,it] e (λi h=>(∃old,IsEnum h e it (i:Int) old)/\h.IsListIter it a i) where
 mem:=by simp
 obj:=λi h st b hb=>by
  obtain⟨⟨old,he⟩,o,ho,hc,hd⟩:=st;rcases List.mem_cons.mp hb with rfl|hb
  ·exact⟨_,he,λv z=>by cases z⟩
  ·rw[List.mem_singleton.mp hb];exact⟨o,ho,λv z=>by rw[hd]at z;cases z⟩
 keep:=λi h h' st k=>by
  obtain⟨⟨old,he⟩,hl⟩:=st;exact⟨⟨old,k e (by simp) _ he⟩,hl.at λo e=>k it (by simp) o e⟩
 item:=by
  intro X hP hw hK hc i pins s σ H E I hf st hg;subst hP hw hK;obtain⟨⟨old,he⟩,hst⟩:=st;obtain⟨xs,x,hq,hx⟩:=hg;obtain⟨its,rv,p,hz⟩:=I.list hq;obtain⟨u,hu,ru⟩:=rv.get hx;have hit:=p.isList;obtain⟨o1,ho1,hc1,hd1⟩:=id hit;obtain⟨o2,ho2,hc2,hd2⟩:=id hst;have hai:a≠it:=ne_cls ho1 ho2 (by rw[hc1,hc2];decide);have hea:e≠a:=ne_cls he ho1 (by rw[hc1];show Value.type "enumerate"≠Value.type "list";decide);have D:=Draws.list (prog:=X.prog) (w:=X.w) (A:=X.A.in1) (I.ok.hd hc) it a hai its.toArray;have hel:e<s.heap.objs.size:=Heap.lt_size he;have hil:i<its.length:=(List.getElem?_eq_some_iff.mp hu).1;refine En.next_pair D he ⟨hst,hit⟩ (by simpa using hil) hei (by simp[hei,hea]) λy h' tk hPx ho hs' hT hk=>?_
  have ey:u=y:=by
   have h2:its[i]?=some y:=by simpa using hPx
   exact Option.some.inj (hu.symm.trans h2)
  subst ey;refine⟨_,rfl,?_⟩;refine wpAny_letOwnedTupleGo_enum ho λh'' he' hs''=>?_
  have hT2:h''.get? s.heap.objs.size=some { cls:=.type "tuple",data:=.seq #[.int (i:Int) tk,u] }:=(hs''.2 _ (Nat.ne_of_gt hel)).trans hT
  have hkk:∀b ob,b∉[e,it]->s.heap.get? b=some ob->h''.get? b=some ob:=λb ob hb q=>by
   have h1:b≠e:=λz=>hb (by simp[z])
   have h2:b≠it:=λz=>hb (by simp[z])
   exact(hs''.2 b h1).trans (hk b ob h1 h2 q)
  have hfr:=I.hok.fresh (Nat.le_refl s.heap.objs.size);refine⟨.ref s.heap.objs.size,_,I.turnLaid (fp:=[e,it]) (a:=s.heap.objs.size) (o:=.tup [.int (i:Int),x]) (h':=h'') (t':=tk+ 1) hkk hf (Nat.le_refl _) ?_,rfl,⟨_,x,hfr,λys hy=>by rw[I.list_inj hy hq];exact hx,rfl,rfl⟩,⟨⟨u,?_⟩,?_⟩,λb hb=>?_⟩
  ·exact⟨by show 2<=sizeLine;decide,[.int (i:Int) tk,u],.cons ⟨_,rfl⟩ (.cons ru .nil),_,hT2,rfl,_,rfl⟩
  ·rw[show ((i+ 1:Nat):Int)=(i:Int)+ 1 by omega];exact he'
  ·exact(D.frame _ _ _ hs' λb hb o q=>(hs''.2 b (by
    rcases List.mem_cons.mp hb with z|hb
    ·rw[z];exact Ne.symm hei
    ·rw[List.mem_singleton.mp hb];exact Ne.symm hea)).trans q).1
  ·rw[upd_ne]
   ·exact(hf b hb).1
   ·intro z;subst z;rcases List.mem_cons.mp hb with z|hb
    ·exact absurd hel (by rw[←z];exact Nat.lt_irrefl _)
    ·exact absurd (Heap.lt_size ho2) (by rw[←List.mem_singleton.mp hb];exact Nat.lt_irrefl _)
 done:=by
  intro X hP hw hK hc i pins s σ H E I hf st hg;subst hP hw hK;obtain⟨⟨old,he⟩,hst⟩:=st;obtain⟨xs,hq,hx⟩:=hg;obtain⟨its,rv,p,hz⟩:=I.list hq;have hit:=p.isList;obtain⟨o1,ho1,hc1,hd1⟩:=id hit;obtain⟨o2,ho2,hc2,hd2⟩:=id hst;have hai:a≠it:=ne_cls ho1 ho2 (by rw[hc1,hc2];decide);have D:=Draws.list (prog:=X.prog) (w:=X.w) (A:=X.A.in1) (I.ok.hd hc) it a hai its.toArray;have hsz:its.toArray.size=i:=by rw[List.size_toArray,←rv.length];exact hx
  refine wpAny_pyNext_enum_endD D he (by rw[hsz];exact⟨hst,hit⟩) λh' eb=>⟨rfl,I.turnedL (fp:=[e,it]) (t':=s.toks) (λb o hb q=>eb b o (λz=>hb (by simp[z])) q) hf⟩
 self:=λA i s Q E st h=>by
  obtain⟨⟨old,he⟩,_⟩:=st;have hT:s.TypeIs (.ref e) "enumerate":=⟨_,he,rfl⟩;refine wpAny_pyIter_slot hT F.slot_enumerate_iter (wpAny_call_entry F.slot_enumerate_iter hT F.entry_enumerate_iter ?_ (F.args_enumerate_iter_1 _));show wpAny _ _ (ret (.ref e)) _ _ s;exact wpAny_pure ⟨_,rfl,"enumerate",_,hT,F.slot_enumerate_next.lookup,h⟩
section
variable {X:Cx}
def iEnumL (K:PySem.W.Frag)(ta:TA):TI:=λ σ H R=>ta σ H λvs H1=>∃a,vs=[.ref a]/\(∃xs,SqL K H1 a xs)/\R (Itel K a) H1
theorem pi_enumL {a:Expr}{te:TE}{elts:List Expr}{x1:Nat}{tp p pos:Pos}(hg:Gl X "enumerate")(hm:X.mg "enumerate"=none)(he:PE X a te)(hs:starEach [a] X.env=[(false,eval a X.env)]:=by rfl):
 PI X (.Tuple elts x1 tp) (.Call (.Name "enumerate" p) [a] [] pos) (iEnumL X.K (tCons te tNil)):=by
 intro pins s σ H R I h;refine Call_ (ld_blt I hg hm boot_enumerate (PyProof.Rows.callWith_type1 (thn ((pa_cons he pa_nil hs) pos pins s σ H _ I h) λus s1 ⟨vs,H1,I1,r1,q1⟩=>?_) hs rfl));obtain⟨l,rfl,⟨xs,hq⟩,q⟩:=q1;obtain⟨u,rfl,ru⟩:=vals1 r1;cases ru;obtain⟨its,rv,pl,hz⟩:=I1.list hq;refine call_enumerate_list pl.isList λh' he' hit hsz hk=>?_
 have I3:Inv X pins σ H1 { s1 with heap:=h' }:=I1.kept (t':=s1.toks) hk;have T:=turn_enumL (P:=X.prog) (w:=X.w) (K:=X.K) (elts:=elts) (x1:=x1) (tp:=tp) (s1.heap.objs.size+ 1) s1.heap.objs.size l (Nat.succ_ne_self _);refine T.self _ 0 { s1 with heap:=h' } _ _ ⟨⟨_,he'⟩,hit⟩ ⟨_,_,_,_,H1,rfl,I3,T,⟨⟨_,he'⟩,hit⟩,λb hb=>?_,q⟩;rcases List.mem_cons.mp hb with e|hb
 ·subst e;exact I1.fpOk (Nat.le_succ _) (I1.hok.fresh (Nat.le_succ _))
 ·rw[List.mem_singleton.mp hb];exact I1.fpOk (Nat.le_refl _) (I1.hok.fresh (Nat.le_refl _))
end
theorem for_enumL {K:PySem.W.Frag}{a:Addr}{xs:List V}{g:TG}{tb:TS}{D:Ends}{σ:St}{H:Hp}(Pv:Nat->St->Hp->Prop)(h0:Pv 0 σ H)(hl:∀i σ H,i<=xs.length->Pv i σ H->SqL K H a xs)
 (hs:∀i v σ H p,xs[i]?=some v->H p=none->Pv i σ H->g (.ref p) σ (upd H p (.tup [.int (i:Int),v])) λ σ2 H2=>tb { D with nx:=Pv (i+ 1),ct:=Pv (i+ 1),bk:=D.nx } σ2 H2) (hd:∀ σ H,Pv xs.length σ H->D.nx σ H):
 ∃W:Nat->Nat->St->Hp->Prop,(∃m,W 0 m σ H)/\∀i m σ H,W i m σ H->
  ((Itel K a).stop i H/\D.nx σ H)\/((Itel K a).go i H/\∃N:St->Hp->Prop,(∀ σ' H',N σ' H'->∃m',m'<m/\W (i+ 1) m' σ' H')/\∀x H',(Itel K a).yld i H x H'->g x σ H' λ σ2 H2=>tb { D with nx:=N,ct:=N,bk:=D.nx } σ2 H2):=by
 refine⟨λi m σ H=>m=xs.length - i/\i<=xs.length/\Pv i σ H,⟨xs.length,by simp,Nat.zero_le _,h0⟩,?_⟩;rintro i m σ H ⟨rfl,hi,p⟩;have q:=hl i σ H hi p;by_cases hlt:i<xs.length
 ·refine .inr ⟨⟨xs,_,q,List.getElem?_eq_getElem hlt⟩,Pv (i+ 1),λ σ' H' p'=>⟨xs.length - (i+ 1),by omega,rfl,hlt,p'⟩,λx H' y=>?_⟩;obtain⟨r,v,hr,hv,rfl,rfl⟩:=y;exact hs i v σ H r (hv xs q) hr p
 ·have e:i=xs.length:=by omega
  subst e;exact .inl ⟨⟨xs,q,rfl⟩,hd σ H p⟩
end L2
namespace L2
open PySem PySem.Spec PyProof.Rows
section
variable {X:Cx}
theorem fig_repr {q c:Nat}(h:Unicode.isPrintable c=true)(h1:c≠10)(h2:c≠13)(h3:c≠9):(Builtin.Str.reprChar q c).length<=2:=by
 unfold Builtin.Str.reprChar;dsimp only;by_cases hq:(c==q || c==92)=true
 ·rw[if_pos hq];exact Nat.le_refl _
 ·rw[if_neg hq,if_neg (by simpa using h1),if_neg (by simpa using h2),if_neg (by simpa using h3),if_pos h];exact Nat.le_succ _
theorem fold_two (f:Nat->Nat):∀(l:List Nat) (n:Nat),(∀c∈l,f c<=2)->l.foldl (λn c=>n+ f c) n<=n+ 2* l.length
 |[],n,_=>Nat.le_refl _
 |a::l,n,h=>by
  have h1:=fold_two f l (n+ f a) λc hc=>h c (List.mem_cons_of_mem _ hc)
  have h2:=h a (List.mem_cons_self ..);rw[List.foldl_cons,List.length_cons];omega
end
end L2
namespace L2
open PySem PySem.Spec PyProof.Rows
section
variable {X:Cx}
end
end L2
namespace L2
open PySem PySem.Spec PyProof.Rows
namespace En
section
variable {prog:Program} {w:World} {A:Around} {E:Value->Shared->Prop} {s:Shared}
end
end En
end L2
namespace L2
open PySem PySem.Spec PyProof.Rows
namespace En
open AutoSeq1 (wpAny_loadPart')
section
variable {prog:Program} {w:World} {A:Around} {E:Value->Shared->Prop} {s:Shared}
end
end En
section
variable {X:Cx}
end
end L2
namespace L2
open PySem PySem.Spec PyProof.Rows
namespace En
open AutoSeq1 (wpAny_loadPart')
section
variable {prog:Program} {w:World} {A:Around} {E:Value->Shared->Prop} {s:Shared}
end
end En
section
variable {X:Cx}
end
end L2
namespace L2
open PySem PySem.Spec PyProof.Rows
section
variable {X:Cx}
end
section
variable {X:Cx} {tg:Expr}
end
section
variable {X:Cx} {pins:List (Addr×Obj)} {σ:St} {H:Hp} {s:Shared} {A:Around}
theorem all_true (n:Nat)(f:Nat->Bool)(h:∀j,f j=true):(List.range n).all f=true:=List.all_eq_true.mpr λj _=>h j
end
section
variable {X:Cx}
end
end L2
namespace L2
open PySem PySem.Spec PyProof.Rows
def RawD (h:Heap)(d:Addr)(es:Array DictEntry)(ep:Nat):Prop:=∃o,h.get? d=some o/\o.ExactDict/\o.data=.dict es ep
namespace Dk
section
variable {prog:Program} {w:World} {A:Around} {E:Value->Shared->Prop} {s:Shared} {d:Addr} {es:Array DictEntry} {ep:Nat}
theorem typ (hm:RawD s.heap d es ep):s.TypeIs (.ref d) "dict":=let ⟨o,ho,hc,_⟩:=hm;⟨o,ho,hc.1⟩
theorem iter {Q:Value->Shared->Prop}(hd:(d==sysModules)=false)(hm:RawD s.heap d es ep)
 (hQ:Q (.ref s.heap.objs.size) { s with heap:=s.heap.push { cls:=.type "dict_keyiterator",data:=.fields #[.ref d,.int 0 0,.int es.size 0,.int ep 0] } }):wpAny (model prog w) A (pyIter (.ref d)) Q E s:=by
 have hT:=typ hm;obtain⟨o,ho,hc,hdat⟩:=hm;refine wpAny_pyIter_slot hT F.slot_dict_iter (wpAny_call_entry F.slot_dict_iter hT F.entry_dict_iter ?_ (F.args_dict_iter_1 _));unfold Builtin.«dict.__iter__»;refine wpAny_bind ?_;unfold Builtin.Dict.dictSlotNone;refine wpAny_bind (wpAny_notOrdered_dict hT ?_);show wpAny _ _ (pure (Value.ref d)) _ _ s;refine wpAny_pure ?_;show wpAny _ _ (Builtin.Dict.showsAll d >>=_) _ _ s;unfold Builtin.Dict.showsAll;rw[if_neg (by rw[hd];exact Bool.false_ne_true)];refine wpAny_bind (wpAny_pure (wpAny_bind (wpAny_dictEntries ho hdat (wpAny_bind (wpAny_dictEpoch ho hdat ?_)))));exact wpAny_bind (wpAny_newObj_type (wpAny_pure ⟨_,rfl,"dict_keyiterator",_,⟨_,Heap.get?_push_size _ rfl,rfl⟩,F.slot_dict_keyiterator_next.lookup,by simpa [rawInt] using hQ⟩))
theorem item {it:Addr}{i:Nat}{en:DictEntry}{Q:Option Value->Shared->Prop}(hit:s.heap.IsKeyIter it d i es.size ep)(hm:RawD s.heap d es ep)(hx:es[i]?=some en)
 (hQ:∀g1,g1.IsKeyIter it d (i+ 1) es.size ep->Heap.SameBut it s.heap g1->Q (some en.key) { s with heap:=g1 }):wpAny (model prog w) A (pyNext (.ref it)) Q E s:=by
 obtain⟨o,ho,hc,hd⟩:=id hit;obtain⟨od,hod,hcd,hdd⟩:=id hm;unfold pyNext;refine wpAny_bind (wpAny_attempt (wpAny_callSpecial?_slot (name:=Str.ofString "__next__") hit.typeIs F.slot_dict_keyiterator_next (wpAny_call_entry F.slot_dict_keyiterator_next hit.typeIs F.entry_dict_keyiterator_next ?_ (F.args_dict_keyiterator_next_1 _))));refine wpAny_bind (wpAny_pure (wpAny_bind (wpAny_bind ?_)))
 first|refine wpAny_bind (wpAny_typeNameOfWhole_keyiter hit.typeIs (wpAny_pure ?_))|refine wpAny_bind (wpAny_typeNameOf_keyiter hit.typeIs (wpAny_pure ?_))
 refine wpAny_bind (wpAny_fieldsOf ho hd ?_);have own:Builtin.Dict_items.ownsTuple "dict_keyiterator"=false:=by decide
 simp only[own,Bool.false_eq_true,if_false];show wpAny _ _ (if (Value.ref d==Value.none)=true then _ else _) _ _ s;rw[if_neg (show ¬((Value.ref d==Value.none)=true) from Bool.false_ne_true)];refine wpAny_bind (wpAny_pure (wpAny_bind (wpAny_dictEntries hod hdd ?_)));rw[if_neg (by simp)];refine wpAny_bind (wpAny_pure (wpAny_bind (wpAny_dictEpoch hod hdd ?_)));rw[if_neg (by simp)];refine wpAny_pure ?_;simp only[show ¬((i:Int)<0) from by omega,if_false,Int.toNat_natCast,hx];refine wpAny_bind ?_
 first|refine wpAny_bind (wpAny_typeNameOfWhole_keyiter hit.typeIs (wpAny_pure ?_))|refine wpAny_bind (wpAny_typeNameOf_keyiter hit.typeIs (wpAny_pure ?_))
 refine wpAny_bind (wpAny_isOneOf_keyiter hit.typeIs ?_);show wpAny _ _ (setField (.ref it) 1 (rawInt ((i:Int)+ 1)) >>=_) _ _ s;refine wpAny_bind (wpAny_setField ho hd (by simp) ?_)
 have j1:(s.heap.update it (Obj.mapFields (·.setIfInBounds 1 (rawInt ((i:Int)+ 1))))).IsKeyIter it d (i+ 1) es.size ep:=
  ⟨_,Heap.get?_update_self _ ho (Obj.isFreed_of_fields (Obj.data_mapFields hd _)),(Obj.cls_mapFields ..).trans hc,by rw[Obj.data_mapFields hd];simp[rawInt]⟩
 refine wpAny_bind (wpAny_holding ?_);refine wpAny_bind (wpAny_isOneOf_keyiter (s:={ s with heap:=s.heap.update it (Obj.mapFields (·.setIfInBounds 1 (rawInt ((i:Int)+ 1)))) }) j1.typeIs ?_);show wpAny _ _ (pure en.key) _ _ _;exact wpAny_pure (wpAny_pure ⟨_,rfl,wpAny_pure (hQ _ j1 (Heap.SameBut.update ..))⟩)
theorem fin {it:Addr}{i:Nat}{Q:Option Value->Shared->Prop}(hh:A.handled=none)(hit:s.heap.IsKeyIter it d i es.size ep)(hm:RawD s.heap d es ep)(hx:es[i]?=none)
 (hQ:∀g1,Heap.ExtBut it s.heap g1->Q none { s with heap:=g1 }):wpAny (model prog w) A (pyNext (.ref it)) Q E s:=by
 obtain⟨o,ho,hc,hd⟩:=id hit;obtain⟨od,hod,hcd,hdd⟩:=id hm;unfold pyNext;refine wpAny_bind (wpAny_attempt (wpAny_callSpecial?_slot (name:=Str.ofString "__next__") hit.typeIs F.slot_dict_keyiterator_next (wpAny_call_entry F.slot_dict_keyiterator_next hit.typeIs F.entry_dict_keyiterator_next ?_ (F.args_dict_keyiterator_next_1 _))));refine wpAny_bind (wpAny_pure (wpAny_bind (wpAny_bind ?_)))
 first|refine wpAny_bind (wpAny_typeNameOfWhole_keyiter hit.typeIs (wpAny_pure ?_))|refine wpAny_bind (wpAny_typeNameOf_keyiter hit.typeIs (wpAny_pure ?_))
 refine wpAny_bind (wpAny_fieldsOf ho hd ?_);have own:Builtin.Dict_items.ownsTuple "dict_keyiterator"=false:=by decide
 simp only[own,Bool.false_eq_true,if_false];show wpAny _ _ (if (Value.ref d==Value.none)=true then _ else _) _ _ s;rw[if_neg (show ¬((Value.ref d==Value.none)=true) from Bool.false_ne_true)];refine wpAny_bind (wpAny_pure (wpAny_bind (wpAny_dictEntries hod hdd ?_)));rw[if_neg (by simp)];refine wpAny_bind (wpAny_pure (wpAny_bind (wpAny_dictEpoch hod hdd ?_)));rw[if_neg (by simp)];refine wpAny_pure ?_;simp only[show ¬((i:Int)<0) from by omega,if_false,Int.toNat_natCast,hx];refine wpAny_bind ?_
 first|refine wpAny_bind (wpAny_typeNameOfWhole_keyiter hit.typeIs (wpAny_pure ?_))|refine wpAny_bind (wpAny_typeNameOf_keyiter hit.typeIs (wpAny_pure ?_))
 show wpAny _ _ (setField (.ref it) 0 .none >>=_) _ _ s;refine wpAny_bind (wpAny_setField ho hd (by simp) ?_);show wpAny _ _ (newExc (.type "StopIteration") [] >>=_) _ _ _;refine wpAny_bind ?_;simp only[newExc,newTuple];refine wpAny_bind (wpAny_newObj_type ?_ (by size_fits));refine wpAny_bind (m:=firstArgMember _ _) (wpAny_of_eq (a:=Value.none) (by first|rfl|(simp only[firstArgMember];rfl)) ?_);refine wpAny_newObj_type ?_ (by size_fits);simp only[raiseNew];refine wpAny_bind (wpAny_handled ?_);rw[show A.in1.handled=none from hh];refine wpAny_bind (wpAny_pure (wpAny_throw ?_));refine wpAny_bind (wpAny_isInstance (T:="StopIteration") (b:=true) ⟨_,Heap.get?_push_size _ rfl,rfl⟩ isSubtype_stop ?_);exact wpAny_pure (hQ _ (((Heap.SameBut.update ..).extBut.push _).push _))
theorem RawD.at {h h':Heap}(x:RawD h d es ep)(e:∀o,h.get? d=some o->h'.get? d=some o):RawD h' d es ep:=let ⟨o,ho,r⟩:=x;⟨o,e _ ho,r⟩
theorem walks (hh:A.handled=none)(I:Addr)(hne:d≠I):Walks prog w A I [I,d] [I] es.size (λi v=>∃en,es[i]?=some en/\v=en.key) (λi h=>h.IsKeyIter I d i es.size ep/\RawD h d es ep) where
 sub:=λb hb=>by simp at hb;simp[hb]
 frame:=λ_ _ _ st hk=>⟨st.1.at λo e=>hk I (by simp) o e,RawD.at st.2 λo e=>hk d (by simp) o e⟩
 item:=λi s Q E hi st hQ=>by
  refine item (en:=es[i]) st.1 st.2 (by simp[hi]) λg1 j1 b1=>?_
  exact hQ _ g1 s.toks ⟨_,by simp[hi],rfl⟩ ⟨j1,RawD.at st.2 λo e=>b1.extBut _ _ hne e⟩ λb o hb e=>b1.extBut b o (λh=>hb (by simp[h])) e
 done:=λs Q E st hQ=>fin hh st.1 st.2 (by simp) λg1 b1=>hQ g1 s.toks λb o hb e=>b1 b o (λh=>hb (by simp[h])) e
 self:=λ_ _ _ _ st hQ=>wpAny_pyIter_keyiter st.1 hQ
theorem hint {Q:Bool->Shared->Prop}(hm:RawD s.heap d es ep)(h:Q false s):wpAny (model prog w) A (Builtin.List.listLengthHint (.ref d)) Q E s:=by
 unfold Builtin.List.listLengthHint;refine wpAny_bind (wpAny_specialOf (typ hm) F.slot_dict_len.lookup ?_);generalize hid:("dict.__len__":String)=id0
 wp_delta
 rw[show splitId id0=some ("dict","__len__") from by subst hid;decide +kernel];subst hid;refine wpAny_bind (wpAny_isInstance (T:="dict") (b:=true) (typ hm) (by rw[isSubtype_type];kernel_rfl) ?_);refine wpAny_ite_split (λhab=>absurd hab (by decide)) (λ_=>?_);refine wpAny_ite_split (λ_=>?_) (λhab=>absurd (by decide +kernel) hab);exact wpAny_bind (wpAny_typeOf (T:="dict") (typ hm) (wpAny_pure h))
theorem extend {R:Result->Shared->Prop}(hh:A.handled=none)(hd:(d==sysModules)=false)(hm:RawD s.heap d es ep)(hlen:es.size<=sizeLine)(S:Addr)(res:Value)(c₀:Nat)(hS:s.heap.get? S=some { cls:=.type "list",data:=.seq #[] c₀ })
 (hR:∀g1 tk acc' c',(∀b o,b≠S->s.heap.get? b=some o->g1.get? b=some o)->g1.get? S=some { cls:=.type "list",dict:=none,data:=.seq acc' c',slots:=#[] }->
  ItemsOf (λi v=>∃en,es[i]?=some en/\v=en.key) acc' es.size->R (.ok (.ret res)) { s with heap:=g1,toks:=tk }):
 wpAny (model prog w) A.in1 (Builtin.List.listExtendWith (.ref S) (.ref d) res)
  (λfin s'=>match fin with|.done f=>R (.ok f) s'|.again c'=>c'.quiet=true/\codeAny (model prog w) A c' R s') (λe s'=>R (.error e) s') s:=by
 have hSd:S≠d:=λe=>by
  obtain⟨o,ho,hc,hdat⟩:=hm;rw[←e,hS]at ho;rw[←Option.some.inj ho]at hdat;cases hdat
 have hdl:d<s.heap.objs.size:=by obtain⟨o,ho,_⟩:=hm;exact Heap.lt_size ho
 have hSI:S≠s.heap.objs.size:=Nat.ne_of_lt (Heap.lt_size hS);have hdI:d≠s.heap.objs.size:=Nat.ne_of_lt hdl;unfold Builtin.List.listExtendWith;refine wpAny_bind (wpAny_typeOf (T:="dict") (typ hm) ?_);have h1:Builtin.List.listSameRef (.ref S) (.ref d)=false:=by simp[Builtin.List.listSameRef,hSd]
 have h2:(Value.type "dict"==Value.type "list")=false:=by decide
 have h3:(Value.type "dict"==Value.type "tuple")=false:=by decide
 simp only[h1,h2,h3,Bool.or_false,Bool.false_eq_true,if_false];refine wpAny_bind (iter hd hm ?_);have hm1:RawD (s.heap.push { cls:=.type "dict_keyiterator",data:=.fields #[.ref d,.int 0 0,.int es.size 0,.int ep 0] }) d es ep:=RawD.at hm λo e=>Heap.get?_push_of_some _ e
 refine wpAny_bind (wpAny_holding (hint (s:={ s with heap:=s.heap.push { cls:=.type "dict_keyiterator",data:=.fields #[.ref d,.int 0 0,.int es.size 0,.int ep 0] } }) hm1 ?_));have hS1:=Heap.get?_push_of_some { cls:=.type "dict_keyiterator",data:=.fields #[.ref d,.int 0 0,.int es.size 0,.int ep 0] } hS;have hI1:(s.heap.push { cls:=.type "dict_keyiterator",data:=.fields #[.ref d,.int 0 0,.int es.size 0,.int ep 0] }).IsKeyIter s.heap.objs.size d 0 es.size ep:=⟨_,Heap.get?_push_size _ rfl,rfl,rfl⟩;have kp:∀b o,s.heap.get? b=some o->(s.heap.push { cls:=.type "dict_keyiterator",data:=.fields #[.ref d,.int 0 0,.int es.size 0,.int ep 0] }).get? b=some o:=λb o e=>Heap.get?_push_of_some _ e
 generalize s.heap.push { cls:=.type "dict_keyiterator",data:=.fields #[.ref d,.int 0 0,.int es.size 0,.int ep 0] }=h1' at hS1 hI1 kp hm1 ⊢;refine wpAny_ite_split (λ_=>?_) (λhab=>absurd (by decide +kernel) hab);refine wpAny_bind (wpAny_rule ?_);refine wpAny_bind ?_;show wpAny _ _ (updateSeq S (·.push .none) >>=λ_=>updateSeq S (·.pop)) _ _ _;refine wpAny_bind (wpAny_updateSeq hS1 rfl ?_);have hS2:=Heap.get?_update_self (Obj.mapSeq (·.push Value.none)) hS1 rfl;refine wpAny_updateSeq (hz:=by seq_fits) hS2 rfl ?_;have hS3:=Heap.get?_update_self (Obj.mapSeq (·.pop)) hS2 rfl;have oth:∀b o,b≠S->h1'.get? b=some o->((h1'.update S (Obj.mapSeq (·.push Value.none))).update S (Obj.mapSeq (·.pop))).get? b=some o:=λb o hb e=>(Heap.get?_update_other _ _ (Ne.symm hb)).trans ((Heap.get?_update_other _ _ (Ne.symm hb)).trans e)
 have W:=(walks (prog:=prog) (w:=w) (A:=A.in1) (d:=d) (es:=es) (ep:=ep) hh s.heap.objs.size hdI).toS
 have hSf:S∉[s.heap.objs.size,d]:=λhmem=>by
  rcases List.mem_cons.mp hmem with e|hmem
  ·exact hSI e
  ·exact hSd (List.mem_singleton.mp hmem)
 refine wpAny_pure ⟨plainId_quiet F.plain_extend_loop _,?_⟩;refine codeAny_extend_loopS W hlen S hSf res es.size 0 _ #[] _ rfl (Nat.zero_le _) ⟨hI1.at λo e=>oth _ o (Ne.symm hSI) e,RawD.at hm1 λo e=>oth _ o (Ne.symm hSd) e⟩ hS3 (ItemsOf.nil _) λs' acc' c' hmv hS' hacc=>?_
 rw[Moved.eq_with hmv];refine hR s'.heap s'.toks acc' c' (λb o hb e=>hmv.heap b o (λhmem=>?_) (oth b o hb (kp b o e))) hS' hacc;rcases List.mem_cons.mp hmem with e'|hmem
 ·exact hb e'
 ·exact absurd (Heap.lt_size e) (by rw[List.mem_singleton.mp hmem];exact Nat.lt_irrefl _)
theorem init {R:Result->Shared->Prop}(hh:A.handled=none)(hd:(d==sysModules)=false)(hm:RawD s.heap d es ep)(hlen:es.size<=sizeLine)(S:Addr)(hS:s.heap.get? S=some { cls:=.type "list",data:=.seq #[] })
 (hR:∀g1 tk acc' c',(∀b o,b≠S->s.heap.get? b=some o->g1.get? b=some o)->g1.get? S=some { cls:=.type "list",dict:=none,data:=.seq acc' c',slots:=#[] }->
  ItemsOf (λi v=>∃en,es[i]?=some en/\v=en.key) acc' es.size->R (.ok (.ret .none)) { s with heap:=g1,toks:=tk }):
 wpAny (model prog w) A.in1 (Builtin.«list.__init__» ⟨[.ref S,.ref d],[]⟩)
  (λfin s'=>match fin with|.done f=>R (.ok f) s'|.again c'=>c'.quiet=true/\codeAny (model prog w) A c' R s') (λe s'=>R (.error e) s') s:=by
 have hSd:d≠S:=λe=>by
  obtain⟨o,ho,hc,hdat⟩:=hm;rw[e,hS]at ho;rw[←Option.some.inj ho]at hdat;cases hdat
 show wpAny _ _ (do let old ←Builtin.List.listItems (.ref S);Builtin.List.listUpdate (.ref S) (λ_=>#[]);letGo old.toList.reverse;Builtin.List.listExtendWith (.ref S) (.ref d) .none) _ _ s;refine wpAny_bind ?_;unfold Builtin.List.listItems;refine wpAny_bind (wpAny_seqItems hS rfl (wpAny_pure ?_));show wpAny _ _ (updateSeq S (λ_=>#[]) >>=λ_=>letGo (#[]:Array Value).toList.reverse >>=λ_=>Builtin.List.listExtendWith (.ref S) (.ref d) .none) _ _ s;refine wpAny_bind (wpAny_updateSeq hS rfl ?_);have hS2:=Heap.get?_update_self (Obj.mapSeq (λ_=>(#[]:Array Value))) hS rfl;have oth:∀b o,b≠S->s.heap.get? b=some o->(s.heap.update S (Obj.mapSeq (λ_=>(#[]:Array Value)))).get? b=some o:=λb o hb e=>(Heap.get?_update_other _ _ (Ne.symm hb)).trans e
 refine wpAny_bind (wpAny_letGo ?_);refine extend (s:={ s with heap:=s.heap.update S (Obj.mapSeq (λ_=>(#[]:Array Value))) }) hh hd (RawD.at hm λo e=>oth _ o hSd e) hlen S .none _ hS2 λg1 tk acc' c' hk hS' hacc=>?_
 exact hR g1 tk acc' c' (λb o hb e=>hk b o hb (oth b o hb e)) hS' hacc
theorem call_list {Q:Value->Shared->Prop}(hh:A.handled=none)(hd:(d==sysModules)=false)(hm:RawD s.heap d es ep)(hlen:es.size<=sizeLine)
 (hQ:∀g1 tk acc' c',(∀b o,s.heap.get? b=some o->g1.get? b=some o)->g1.get? s.heap.objs.size=some { cls:=.type "list",dict:=none,data:=.seq acc' c',slots:=#[] }->ItemsOf (λi v=>∃en,es[i]?=some en/\v=en.key) acc' es.size->Q (.ref s.heap.objs.size) { s with heap:=g1,toks:=tk }):
 wpAny (model prog w) A (call (.type "list") [.ref d]) Q E s:=by
 refine callType_codes (Q₁:=λobj s₁=>obj=.ref s.heap.objs.size/\s₁={ s with heap:=s.heap.push { cls:=.type "list",data:=.seq #[] } }) F.called_list (F.typeCall_list_1 _) F.entry_list_init (code_list_new _ ⟨rfl,rfl⟩) λobj s₁ h₁=>?_
 obtain⟨rfl,rfl⟩:=h₁;have hS:(s.heap.push { cls:=.type "list",data:=.seq #[] }).get? s.heap.objs.size=some { cls:=.type "list",data:=.seq #[] }:=Heap.get?_push_size _ rfl;refine⟨⟨_,hS,rfl⟩,F.args_list_init_2 _ _,init (A:=A.in1) (s:={ s with heap:=s.heap.push { cls:=.type "list",data:=.seq #[] } }) hh hd (RawD.at hm λo e=>Heap.get?_push_of_some _ e) hlen _ hS λg1 tk acc' c' hk hS' hacc=>?_⟩;exact⟨rfl,hQ g1 tk acc' c' (λb o e=>hk b o (Nat.ne_of_lt (Heap.lt_size e)) (Heap.get?_push_of_some _ e)) hS' hacc⟩
end
end Dk
section
variable {X:Cx}
end
end L2
namespace L2
open PySem PySem.Spec PyProof.Rows
open Sem (wp)
open AutoSeq1 (wpAny_loadPart')
section
variable {prog:Program} {w:World} {A:Around} {E:Value->Shared->Prop} {s:Shared}
end
section
variable {X:Cx} {a b:Expr} {ta:TA} {p p2 pos pos2:Pos}
end
section
variable {X:Cx}
end
end L2
namespace L2
open PySem PySem.Spec PyProof.Rows
structure MDef (K:PySem.W.Frag) (C:Addr) (x q:Str) (st:Stmt) (ps:List Str) (f:Addr) (fd:FuncData):Prop where
 F:Fun K x q st f fd
 m:Meth K C x f
 b:Binds K fd ps []
section
variable {X:Cx}
end
section
variable {X:Cx} {o e:Expr} {es:List Expr} {to:TE} {t:TA} {name:Str} {apos cpos:Pos} {T id:String} {r:V->List V->Hp->VK->Prop}
end
end L2
namespace L2
open PySem PySem.Spec PyProof.Rows
section
variable {prog:Program} {w:World} {A:Around} {E:Value->Shared->Prop}
end
section
variable {X:Cx}
end
end L2
namespace L2
open PySem PySem.Spec PyProof.Rows
open PySem.W (KasT kas_rev kas_asc kas_desc kas_tail3 kas_descPart kas_count kas_place kas_bin kas_sort kas_ask kas_ask_eq kas_runs kas_st kas_range kas_item kas_item_eq)
namespace Srt
def Gd {α:Type}(P:Nat->Nat->Prop)(f:Nat->Nat->Bool):KasT α->(α->Prop)->Prop
 |.ret a,Q=>Q a
 |.ask i j k,Q=>P i j/\Gd P f (k (f i j)) Q
section
variable {n:Nat} {key:Nat->Int}
structure Pr (n:Nat) (p:Array Nat):Prop where
 sz:p.size=n
 lt:∀i,i<n->p.getD i 0<n
 inj:∀i j,i<n->j<n->p.getD i 0=p.getD j 0->i=j
def Up (key:Nat->Int)(p:Array Nat)(m:Nat):Prop:=∀i j,i<j->j<m->key (p.getD i 0)<key (p.getD j 0)
def Dn (key:Nat->Int)(p:Array Nat)(m:Nat):Prop:=∀i j,i<j->j<m->key (p.getD j 0)<key (p.getD i 0)
def Ok (n:Nat)(key:Nat->Int)(i j:Nat):Prop:=i<n/\j<n/\key i≠key j
def Inj (n:Nat)(key:Nat->Int):Prop:=∀i j,i<n->j<n->key i=key j->i=j
abbrev ask (key:Nat->Int) (i j:Nat):Bool:=decide (key i<key j)
end
end Srt
end L2
namespace L2
open PySem PySem.Spec PyProof.Rows
open AutoSeq1 (wpAny_loadPart')
open PySem.W (KasT kas_sort kas_ask kas_ask_eq kas_runs kas_st kas_range kas_item kas_item_eq)
namespace Srt
section
variable {prog:Program} {w:World} {A:Around} {E:Value->Shared->Prop} {s:Shared}
end
end Srt
end L2
namespace L2
open PySem PySem.Spec PyProof.Rows
section
variable {X:Cx}
end
end L2
namespace L2
open PySem PySem.Spec PyProof.Rows
theorem miss_keys:typeLookup (.type "list") "keys"=pure none:=by rw[typeLookup_type,builtinLookup_eq_fast];kernel_rfl
theorem try_keys {prog:Program}{w:World}{A:Around}{E:Value->Shared->Prop}{s:Shared}{a:Addr}{xs:Array Value}{k:Nat}{Q:Option Value->Shared->Prop}
 (hx:s.heap.get? a=some { cls:=.type "list",data:=.seq xs k }) (hA:A.handled=none)
 (h:∀h' tk,(∀b o,s.heap.get? b=some o->h'.get? b=some o)->Q none { s with heap:=h',toks:=tk }):
 wpAny (model prog w) A (getAttr? (.ref a) "keys") Q E s:=by
 obtain⟨hp,g,d,tk,os⟩:=s;have hT:∀tk',(⟨hp,g,d,tk',os⟩:Shared).TypeIs (.ref a) "list":=λ_=>⟨_,hx,rfl⟩
 have f1:=sub_AttributeError;have f3:=F.slot_list_getattribute.lookup;have f4:=F.slot_list_getattribute.bind (.ref a);have f5:=am_list_getattr_none;unfold getAttr? getAttrBy? getAttrBy
 repeat (any_goals (first|assumption|exact hT _|((with_reducible show wpAny _ _ (call (Value.builtin "list.__getattribute__") _ _) _ _ _);refine call_meets F.slot_list_getattribute (hT _) am_entry_list_getattribute (F.args_list_getattribute_2 _ _) (meets_getattribute_miss_list a xs k #[] "keys" _ miss_keys (by decide +kernel) (by decide +kernel)) ⟨hx,hA,λh' tk' e hx'=>?_⟩)|wp_step))
 obtain⟨t',u',he⟩:=hx'.there;show wpAny _ _ (getattributeRaised _ _ _ _ _ _ _) _ _ _;unfold getattributeRaised
 repeat (any_goals (first|assumption|wp_step))
 exact h _ _ hx'.keeps
theorem entry_upd_loop:entryFor table "dict.update.loop"=some Builtin.«dict.update.loop»:=entryFor_of_fast (by kernel_rfl)
theorem plain_upd_loop:plainId "dict.update.loop"=true:=by decide +kernel
section
variable {prog:Program} {w:World} {K:Type} [DecidableEq K] {knd:KeyKind prog w K} {A:Around} {E:Value->Shared->Prop}
theorem loop_pairs {R:Result->Shared->Prop}{it l d:Addr}{its:List Value}{rs:List (K×Value)}(hh:A.in1.handled=none)(hne:l≠it)(ndi:d≠it)(ndl:d≠l)(hlen:its.length=rs.length)(hsz:rs.length<=sizeLine):
 ∀(k i:Nat) (s:Shared),its.length - i=k->i<=its.length->s.heap.IsListIter it l i->s.heap.IsList l its.toArray->s.heap.DictOf knd d (merged [] (rs.take i))->
 (∀(j:Nat) (u:Value) (kv:K×Value),its[j]?=some u->rs[j]?=some kv->∃p key,u=.ref p/\p≠d/\p≠it/\knd.is kv.1 key=true/\IsTup s.heap p #[key,kv.2])->
 (∀h' tk,h'.DictOf knd d (merged [] rs)->(∀b o,b≠d->b≠it->s.heap.get? b=some o->h'.get? b=some o)->R (.ok (.ret .none)) { s with heap:=h',toks:=tk })->
 codeAny (model prog w) A (.builtin "dict.update.loop" ⟨[.ref d,.ref it,rawInt (i:Int),.none],[]⟩) R s:=by
 have W:=Walks.list (prog:=prog) (w:=w) (A:=A.in1) hh it l hne its.toArray;have wr1:∀b:Addr,b≠it->b∉[it]:=λb hb z=>hb (List.mem_singleton.mp z)
 intro k
 induction k with
 |zero=>
  intro i s hk hi hit hl hd hp hR;have ei:i=its.length:=by omega
  refine codeAny_builtin entry_upd_loop ?_;rw[Around.under_plainId plain_upd_loop _];show wpAny _ A.in1 (pyNext (.ref it) >>=_) _ _ s;refine wpAny_bind (W.done s _ _ ⟨by rw[List.size_toArray,←ei];exact hit,hl⟩ λh' tk kp=>?_);show wpAny _ A.in1 (Builtin.Dict.addKeywords d [] >>=_) _ _ _;refine wpAny_bind (wpAny_pure (wpAny_pure ?_));rw[List.take_of_length_le (by omega)]at hd;obtain⟨od,x1,x2,h1,h2⟩:=id hd;refine hR h' tk ⟨od,x1,x2,kp _ _ (wr1 _ ndi) h1,h2⟩ λb o _ hb e=>kp b o (wr1 _ hb) e
 |succ k ih=>
  intro i s hk hi hit hl hd hp hR;have hlt:i<its.length:=by omega
  refine codeAny_builtin entry_upd_loop ?_;rw[Around.under_plainId plain_upd_loop _];show wpAny _ A.in1 (pyNext (.ref it) >>=_) _ _ s;refine wpAny_bind (W.item i s _ _ (by rw[List.size_toArray];exact hlt) ⟨hit,hl⟩ λv h' tk hP st2 kp=>?_);obtain⟨hit2,hl2⟩:=st2;have hP2:its[i]?=some v:=by simpa using hP
  have hkv:rs[i]?=some (rs[i]'(by omega)):=List.getElem?_eq_getElem (by omega)
  generalize rs[i]'(by omega)=kv at hkv;obtain⟨p,key,rfl,pd,pi,hkey,o,ho,hc,n,hdat⟩:=hp i v kv hP2 hkv;have ho2:=kp _ _ (wr1 _ pi) ho;have etk:rs.take (i+ 1)=rs.take i++[kv]:=by rw[List.take_succ,hkv];rfl
  have hd2:h'.DictOf knd d (merged [] (rs.take i)):=by
   obtain⟨od,x1,x2,h1,h2⟩:=id hd;exact⟨od,x1,x2,kp _ _ (wr1 _ ndi) h1,h2⟩
  have hml:=merged_length_le ([]:List (K×Value)) (rs.take i)
  have hml2:(merged [] (rs.take i)).length<=sizeLine:=by
   rw[List.length_take,List.length_nil]at hml;omega
  show wpAny _ A.in1 (holding [Value.ref p] _ >>=_) _ _ _;refine wpAny_bind (wpAny_holding ?_);refine wpAny_bind (wpAny_tryCatch ?_);show wpAny _ A.in1 (typeOf (Value.ref p) >>=_) _ _ _;refine wpAny_bind (wpAny_typeOf (T:="tuple") ⟨o,ho2,hc⟩ ?_);rw[if_pos (by decide)];refine wpAny_bind (wpAny_seqItems ho2 hdat ?_);refine wpAny_pure ?_;show wpAny _ A.in1 (holding [key,kv.2] (dictSet d key kv.2)) _ _ _;refine wpAny_holding (wpAny_dictSet_pairs hkey hd2 (λg hd3 sb=>?_) hml2);have kg:∀b o,b≠d->h'.get? b=some o->g.get? b=some o:=λb o hb e=>(sb.2 b hb).trans e
  refine wpAny_pure ⟨plainId_quiet plain_upd_loop _,?_⟩;have hcast:rawInt ((i:Int)+ 1)=rawInt (((i+ 1:Nat)):Int):=rfl;rw[hcast];refine ih (i+ 1) _ (by omega) (by omega) (hit2.at λo e=>kg _ _ (Ne.symm ndi) e) (hl2.at λo e=>kg _ _ (Ne.symm ndl) e) ?_ ?_ ?_
  ·rw[etk,merged,List.foldl_append];exact hd3
  ·intro j u kv2 h1 h2;obtain⟨p,key,rfl,a1,a2,a3,o,b1,b2⟩:=hp j u kv2 h1 h2;exact⟨p,key,rfl,a1,a2,a3,o,kg _ _ a1 (kp _ _ (wr1 _ a2) b1),b2⟩
  ·intro h2 tk2 hd4 kp2;exact hR h2 tk2 hd4 λb o hb hi e=>kp2 b o hb hi (kg _ _ hb (kp _ _ (wr1 _ hi) e))
theorem call_dict_list {s:Shared}{Q:Value->Shared->Prop}{l:Addr}{its:List Value}{c:Nat}{rs:List (K×Value)}(hh:A.handled=none)(hlen:its.length=rs.length)(hsz:rs.length<=sizeLine)
 (hl:s.heap.get? l=some { cls:=.type "list",data:=.seq its.toArray c })
 (hp:∀(j:Nat) (u:Value) (kv:K×Value),its[j]?=some u->rs[j]?=some kv->∃p key,u=.ref p/\knd.is kv.1 key=true/\IsTup s.heap p #[key,kv.2])
 (hQ:∀h' tk,h'.DictOf knd s.heap.objs.size (merged [] rs)->(∀b o,s.heap.get? b=some o->h'.get? b=some o)->Q (.ref s.heap.objs.size) { s with heap:=h',toks:=tk }):
 wpAny (model prog w) A (call (.type "dict") [.ref l]) Q E s:=by
 refine callType_codes (Q₁:=λobj s₁=>obj=.ref s.heap.objs.size/\s₁={ s with heap:=s.heap.push { cls:=.type "dict",data:=.dict #[] } }) F.kt_called_dict (F.kt_typeCall_dict_1 _) F.entry_dict_init (kt_code_dict_new _ ⟨rfl,rfl⟩) ?_;rintro obj s₁ ⟨rfl,rfl⟩;have hnew:(s.heap.push { cls:=.type "dict",data:=.dict #[] }).DictOf knd s.heap.objs.size []:=Heap.DictOf.new s.heap;have hl2:(s.heap.push { cls:=.type "dict",data:=.dict #[] }).get? l=some { cls:=.type "list",data:=.seq its.toArray c }:=Heap.get?_push_of_some _ hl;have hll:=Heap.lt_size hl;refine⟨hnew.typeIs,F.args_dict_init_2 _ _,?_⟩;unfold Builtin.«dict.__init__»;refine wpAny_bind ?_;unfold Builtin.Dict.selfAndRest;refine wpAny_bind (wpAny_notOrdered_dict hnew.typeIs ?_);show wpAny _ _ (pure (s.heap.objs.size,[Value.ref l])) _ _ _;refine wpAny_pure ?_;show wpAny _ _ (Builtin.Dict.updateFrom "dict.__init__" s.heap.objs.size (.ref l) [] .none) _ _ _;unfold Builtin.Dict.updateFrom;refine wpAny_bind (wpAny_typeOf (T:="list") ⟨_,hl2,rfl⟩ ?_);rw[if_pos (by decide)];refine wpAny_bind (try_keys hl2 hh λg tk kp=>?_);rw[if_pos (by decide)];refine wpAny_bind (wpAny_rule ?_);have hl3:=kp _ _ hl2;refine wpAny_bind (wpAny_pyIter_list (items:=its.toArray) ⟨_,hl3,rfl,c,rfl⟩ ?_)
 have hd0:s.heap.objs.size<g.objs.size:=by
  obtain⟨od,_,_,h1,_⟩:=id hnew;exact Heap.lt_size (kp _ _ h1)
 have hlg:=Heap.lt_size hl3;have k2:∀b o,s.heap.get? b=some o->(g.push { cls:=.type "list_iterator",data:=.fields #[.ref l,.int 0 0] }).get? b=some o:=λb o e=>Heap.get?_push_of_some _ (kp _ _ (Heap.get?_push_of_some _ e))
 refine wpAny_pure ⟨plainId_quiet plain_upd_loop _,loop_pairs (knd:=knd) (A:=A.in1) (rs:=rs) (its:=its) (l:=l) (it:=g.objs.size) hh (Nat.ne_of_lt hlg) (Nat.ne_of_lt hd0) (Nat.ne_of_gt hll) hlen hsz its.length 0 _ rfl (Nat.zero_le _) ?_ ⟨_,Heap.get?_push_of_some _ hl3,rfl,c,rfl⟩ ?_ ?_ ?_⟩
 ·exact⟨_,Heap.get?_push_size _ rfl,rfl,rfl⟩
 ·obtain⟨od,x1,x2,h1,h2⟩:=id hnew;exact⟨od,x1,x2,Heap.get?_push_of_some _ (kp _ _ h1),h2⟩
 ·intro j u kv h1 h2;obtain⟨p,key,rfl,a3,o,b1,b2⟩:=hp j u kv h1 h2;have hpl:=Heap.lt_size b1;exact⟨p,key,rfl,Nat.ne_of_lt hpl,Nat.ne_of_lt (Nat.lt_trans hpl hd0),a3,o,k2 _ _ b1,b2⟩
 ·intro h' tk2 hd4 kp2;refine⟨rfl,hQ h' tk2 hd4 λb o e=>?_⟩;have hb:=Heap.lt_size e;exact kp2 b o (Nat.ne_of_lt hb) (Nat.ne_of_lt (Nat.lt_trans hb hd0)) (k2 _ _ e)
end
section
variable {X:Cx}
def rDictP:List V->Hp->VK->Prop:=λxs H Q=>∃(l:Addr) (ps:List Addr) (kvs:List (Key×V)),xs=[.ref l]/\H l=some (.lst (ps.map V.ref))/\ps.length=kvs.length/\
 (∀(i:Nat) (p:Addr) (kv:Key×V),ps[i]?=some p->kvs[i]?=some kv->H p=some (.tup [kV kv.1,kv.2]))/\∀d,H d=none->Q (.ref d) (upd H d (.dK (mergeK [] kvs)))
theorem pairs_of {P:Program}{w:World}{H:Hp}{h:Heap}(ok:HOk P w H h):∀(ps:List Addr) (kvs:List (Key×V)),ps.length=kvs.length->(∀(i:Nat) (p:Addr) (kv:Key×V),ps[i]?=some p->kvs[i]?=some kv->H p=some (.tup [kV kv.1,kv.2]))->
 ∃rs:List (Key×Value),KV kvs rs/\∀(j:Nat) (p:Addr) (kv:Key×Value),ps[j]?=some p->rs[j]?=some kv->∃key,(mixKind P w).is kv.1 key=true/\IsTup h p #[key,kv.2]
 |[],[],_,_=>⟨[],.nil,λj p kv h1=>by simp at h1⟩
 |p::ps,kv::kvs,hl,hp=>by
  obtain⟨rs,r1,r2⟩:=pairs_of ok ps kvs (by simpa using hl) λi q kv h1 h2=>hp (i+ 1) q kv (by simpa using h1) (by simpa using h2)
  obtain⟨-,its,rv,ht⟩:=ok p _ (hp 0 p kv rfl rfl);obtain⟨u,v,rfl,ru,rv2⟩:=vals2 rv;refine⟨(kv.1,v)::rs,.cons ⟨rfl,rv2⟩ r1,λj q kv2 h1 h2=>?_⟩
  cases j with
  |zero=>
   obtain rfl:p=q:=by simpa using h1
   obtain rfl:(kv.1,v)=kv2:=by simpa using h2
   exact⟨u,kV_is ru,ht⟩
  |succ j=>exact r2 j q kv2 (by simpa using h1) (by simpa using h2)
theorem call_dict_pairs (hc:X.calm=true):CallR X (.type "dict") rDictP:=by
 intro pins s σ H xs us Q I r h;obtain⟨l,ps,kvs,rfl,hl,hlen,hp,q⟩:=h;obtain⟨u,rfl,rx⟩:=vals1 r;cases rx;obtain⟨hz,its,c,rv,hg⟩:=I.hok l _ hl;obtain rfl:=vals_refs rv;obtain⟨rs,r1,r2⟩:=pairs_of I.hok ps kvs hlen hp;have hkl:kvs.length=rs.length:=r1.length;rw[List.length_map]at hz;refine call_dict_list (knd:=mixKind X.prog X.w) (rs:=rs) (I.ok.hd hc) (by rw[List.length_map];omega) (by omega) hg (λj u kv h1 h2=>?_) λg tk dd kp=>?_
 ·rw[List.getElem?_map]at h1
  cases hy:ps[j]? with
  |none=>rw[hy]at h1;cases h1
  |some p=>
   rw[hy]at h1;obtain⟨key,k1,k2⟩:=r2 j p kv hy h2;exact⟨p,key,(Option.some.inj h1).symm,k1,k2⟩
 ·have hm:KV (mergeK [] kvs) (merged [] rs):=KV.merge r1 .nil;have hml:=length_mergeK kvs [];rw[List.length_nil]at hml;exact⟨.ref s.heap.objs.size,_,I.laid (t':=tk) kp (Nat.le_refl _) (dk_new (by omega) (beq_eq_false_iff_ne.mpr (Ne.symm (Nat.ne_of_lt I.big))) hm dd),rfl,q _ (I.hok.fresh (Nat.le_refl _))⟩
end
end L2
namespace L2
open PySem PySem.Spec PyProof.Rows
section
variable {X:Cx} {pins:List (Addr×Obj)} {σ:St} {H:Hp} {s:Shared} {d:Addr} {u:HO} {o:Obj}
theorem Inv.freeze (I:Inv X pins σ H s)(e:H d=some u)(mu:Mut (some u))(ho:s.heap.get? d=some o):Inv X pins σ (upd H d (.frz o u)) s:=by
 have mu':Mut (H d):=by rw[e];exact mu
 have nown:∀c y,H c=some (.own y)->c≠d:=λc y r z=>by subst z;rw[r]at mu';exact mu'
 have ntup:∀c xs,H c=some (.tup xs)->c≠d:=λc xs r z=>by subst z;rw[r]at mu';exact mu'
 have new:ObjOk X.prog X.w (upd H d (.frz o u)) s.heap d u:=(I.hok d u e).stay (λc v _ r=>r) (λc r=>by rw[upd_ne (nown _ _ r)];exact r) λc xs r=>by rw[upd_ne (ntup _ _ r)];exact r
 exact d_write (t':=s.toks) I mu' (Heap.SameBut.refl _ _) ⟨o,ho⟩ ⟨ho,new⟩
theorem Inv.thaw (I:Inv X pins σ H s)(e:H d=some (.frz o u))(mu:Mut (some u))(h0:∀o u,X.H₀ d≠some (.frz o u)):Inv X pins σ (upd H d u) s:=by
 have nn:∀b,H b=none->b≠d:=λb n z=>by rw[z,e]at n;cases n
 have nown:∀c y,H c=some (.own y)->c≠d:=λc y r z=>by rw[z,e]at r;cases r
 have ntup:∀c xs,H c=some (.tup xs)->c≠d:=λc xs r z=>by rw[z,e]at r;cases r
 refine⟨I.ok,I.os,I.bare,⟨I.base.keep,I.base.slot,λb ob q n hx=>?_,I.base.there,λb xs q=>?_,λb ob v q=>?_,λb ps q=>?_⟩,I.loc,I.cell,?_,λx c q=>?_,λp hp=>?_,λb v q=>?_,I.len⟩
 ·have h1:=I.base.free b ob q n hx;rw[upd_ne (nn b h1)];exact h1
 ·have h1:=I.base.tups b xs q;rw[upd_ne (ntup _ _ h1)];exact h1
 ·have h1:=I.base.frzs b ob v q;rw[upd_ne (λz=>h0 ob v (by rw[←z];exact q))];exact h1
 ·obtain⟨m,h1⟩:=I.base.tbls b ps q;refine⟨m,?_⟩;rw[upd_ne (λz=>by rw[z,e]at h1;cases h1)];exact h1
 ·rw[upd_ne (nn _ I.free)];exact I.free
 ·have h1:=I.freeC x c q;rw[upd_ne (nn _ h1)];exact h1
 ·obtain⟨a,b,c⟩:=I.pin p hp;refine⟨a,?_,c⟩;rw[upd_ne (nn _ b)];exact b
 ·have st:∀b v,ObjOk X.prog X.w H s.heap b v->ObjOk X.prog X.w (upd H d u) s.heap b v:=λb v q=>q.stay (λc v _ r=>r) (λc r=>by rw[upd_ne (nown _ _ r)];exact r) λc xs r=>by rw[upd_ne (ntup _ _ r)];exact r
  by_cases hb:b=d
  ·subst hb;rw[upd_same]at q;obtain rfl:=Option.some.inj q;exact st _ _ (I.hok _ _ e).2
  ·rw[upd_ne hb]at q;exact st _ _ (I.hok b v q)
theorem Inv.unfrozen (I:Inv X pins σ H s)(e:H d=some u)(mu:Mut (some u)):∀o u,X.H₀ d≠some (.frz o u):=λo v q=>by
 rw[I.base.frzs d o v q]at e;cases e;exact mu
def tThaw (t:TS):TS:=λD σ H=>∃(d:Addr) (u:HO),H d=some u/\Mut (some u)/\
 t { nx:=λ σ' H'=>∃o,H' d=some (.frz o u)/\D.nx σ' (upd H' d u),rt:=λv H'=>∃o,H' d=some (.frz o u)/\D.rt v (upd H' d u),
     bk:=λ σ' H'=>∃o,H' d=some (.frz o u)/\D.bk σ' (upd H' d u),ct:=λ σ' H'=>∃o,H' d=some (.frz o u)/\D.ct σ' (upd H' d u) } σ H
theorem ps_thaw {st:Stmt}{t:TS}(h:PS X st t):PS X st (tThaw t):=by
 intro pins s σ H D I q;obtain⟨d,u,e,mu,q⟩:=q;have h0:=I.unfrozen e mu;refine thn (h pins s σ H _ I q) λf s' p=>?_
 cases f with
 |next=>obtain⟨σ',H',I',o,e',q'⟩:=p;exact⟨σ',_,I'.thaw e' mu h0,q'⟩
 |brk=>obtain⟨σ',H',I',o,e',q'⟩:=p;exact⟨σ',_,I'.thaw e' mu h0,q'⟩
 |cont=>obtain⟨σ',H',I',o,e',q'⟩:=p;exact⟨σ',_,I'.thaw e' mu h0,q'⟩
 |ret v=>obtain⟨v',σ',H',I',r,o,e',q'⟩:=p;exact⟨v',σ',_,I'.thaw e' mu h0,r,q'⟩
end
def ItdK (d:Addr)(o:Obj)(kvs:List (Key×V)):It:=
 ⟨λi H=>i<kvs.length/\H d=some (.frz o (.dK kvs)),λi H x H'=>H'=H/\∃kv,kvs[i]?=some kv/\x=kV kv.1,λi H=>kvs.length<=i/\H d=some (.frz o (.dK kvs))⟩
section
variable {X:Cx} {tg:Expr}
theorem mix_rel {P:Program}{w:World}{k:Key}{v:Value}(h:(mixKind P w).is k v=true):RelV (kV k) v:=by
 cases k with
 |inl i=>
  have h':Value.isInt i v=true:=h
  cases v with
  |int j t=>simp[Value.isInt]at h';subst h';exact⟨_,rfl⟩
  |_=>simp[Value.isInt]at h'
 |inr x=>
  have h':Value.isStrOf x v=true:=h
  cases v with
  |str j t=>simp[Value.isStrOf]at h';subst h';exact⟨_,rfl⟩
  |_=>simp[Value.isStrOf]at h'
end
end L2
namespace L2
open PySem PySem.Spec PyProof.Rows
inductive Dt where
 |i (n:Int)|s (l:List Nat)|n|b (k:Bool)|t (xs:List Dt)|l (xs:List Dt)
inductive DtAt (H:Hp):Nat->V->Dt->Prop where
 |i {k:Nat} {n:Int}:DtAt H k (.int n) (.i n)
 |s {k:Nat} {l:List Nat}:DtAt H k (.str (tx l)) (.s l)
 |n {k:Nat}:DtAt H k .non .n
 |b {k:Nat} {c:Bool}:DtAt H k (.bl c) (.b c)
 |t {k:Nat} {a:Addr} {vs:List V} {ds:List Dt}:H a=some (.tup vs)->vs.length=ds.length->(∀(j:Nat) (v:V) (d:Dt),vs[j]?=some v->ds[j]?=some d->DtAt H k v d)->DtAt H (k+ 1) (.ref a) (.t ds)
 |l {k:Nat} {a:Addr} {vs:List V} {ds:List Dt}:H a=some (.lst vs)->vs.length=ds.length->(∀(j:Nat) (v:V) (d:Dt),vs[j]?=some v->ds[j]?=some d->DtAt H k v d)->DtAt H (k+ 1) (.ref a) (.l ds)
theorem DtAt.keep {H H':Hp}(ht:∀a xs,H a=some (.tup xs)->H' a=some (.tup xs))(hl:∀a xs,H a=some (.lst xs)->H' a=some (.lst xs)){k:Nat}{v:V}{d:Dt}(h:DtAt H k v d):DtAt H' k v d:=by
 induction h with
 |i=>exact .i
 |s=>exact .s
 |n=>exact .n
 |b=>exact .b
 |t a b c ih=>exact .t (ht _ _ a) b ih
 |l a b c ih=>exact .l (hl _ _ a) b ih
theorem DtAt.same {H H':Hp}(s:Same H H'){k:Nat}{v:V}{d:Dt}(h:DtAt H k v d):DtAt H' k v d:=h.keep (λ_ _ e=>s _ _ e) (λ_ _ e=>s _ _ e)
theorem DtAt.up {H:Hp}{k:Nat}{v:V}{d:Dt}(h:DtAt H k v d):DtAt H (k+ 1) v d:=by
 induction h with
 |i=>exact .i
 |s=>exact .s
 |n=>exact .n
 |b=>exact .b
 |t a b c ih=>exact .t a b ih
 |l a b c ih=>exact .l a b ih
theorem DtAt.le {H:Hp}{k m:Nat}{v:V}{d:Dt}(h:DtAt H k v d)(hm:k<=m):DtAt H m v d:=by
 obtain⟨j,rfl⟩:=Nat.exists_eq_add_of_le hm;clear hm
 induction j with
 |zero=>exact h
 |succ j ih=>exact ih.up
section
variable {X:Cx} {pins:List (Addr×Obj)} {σ:St} {H:Hp} {s:Shared}
theorem beq_same (x:Str):(x==x)=true:=by simp
theorem eq_int_self {A:Around}(n:Int)(t t':Tok):SeqAt.EqAt A s (.int n t) (.int n t') true:=by
 have:=SeqAt.EqAt.int_int (A:=A) (s:=s) n t n t';rw[beq_self_eq_true]at this;exact this
theorem eq_str_self {A:Around}(x:Str)(t t':Tok):SeqAt.EqAt A s (.str x t) (.str x t') true:=by
 have:=SeqAt.EqAt.str_str (A:=A) (s:=s) x t x t';rw[beq_same]at this;exact this
theorem eq_dt (I:Inv X pins σ H s):∀(k:Nat) (A:Around) (v v':V) (u u':Value) (d:Dt),A.units+ k<cLine->DtAt H k v d->DtAt H k v' d->RelV v u->RelV v' u'->SeqAt.EqAt A s u u' true:=by
 intro k
 induction k with
 |zero=>
  intro A v v' u u' d hu h h' r r'
  cases h with
  | @i n=>cases h' with|i=>?_
          obtain⟨t,rfl⟩:=r;obtain⟨t',rfl⟩:=r';exact eq_int_self _ _ _
  | @s l=>cases h' with|s=>?_
          obtain⟨t,rfl⟩:=r;obtain⟨t',rfl⟩:=r';exact eq_str_self _ _ _
  |n=>cases h' with|n=>?_
      cases r;cases r';exact SeqAt.EqAt.same _
  | @b c=>cases h' with|b=>?_
          cases r;cases r';exact SeqAt.EqAt.same _
 |succ k ih=>
  intro A v v' u u' d hu h h' r r'
  cases h with
  | @i _ n=>cases h' with|i=>?_
            obtain⟨t,rfl⟩:=r;obtain⟨t',rfl⟩:=r';exact eq_int_self _ _ _
  | @s _ l=>cases h' with|s=>?_
            obtain⟨t,rfl⟩:=r;obtain⟨t',rfl⟩:=r';exact eq_str_self _ _ _
  |n=>cases h' with|n=>?_
      cases r;cases r';exact SeqAt.EqAt.same _
  | @b _ c=>cases h' with|b=>?_
            cases r;cases r';exact SeqAt.EqAt.same _
  | @t _ a vs ds h1 h2 h3=>
    cases h' with
    | @t _ b vs' _ g1 g2 g3=>
      cases r;cases r';by_cases e:a=b
      ·subst e;exact SeqAt.EqAt.same _
      ·refine SeqAt.EqAt.of_refs e ?_;obtain⟨its,r1,p1,_⟩:=I.tuple (SqT.of h1);obtain⟨its2,r2,p2,_⟩:=I.tuple (SqT.of g1);have l1:=r1.length;have l2:=r2.length;have:=SeqAt.RcAt.tuples (A:=A) (e:=λ_=>true) (show s.heap.IsTuple a its.toArray from p1) (show s.heap.IsTuple b its2.toArray from p2) (by omega) (λj q1 q2=>?_)
       ·rw[List.size_toArray,List.size_toArray,←l1,←l2,h2,g2,all_true _ _ λ_=>rfl]at this;simpa using this
       ·have k1:j<its.length:=by simpa using q1
        have k2:j<its2.length:=by simpa using q2
        have d1:vs[j]?=some (vs[j]'(by omega)):=List.getElem?_eq_getElem (by omega)
        have d2:vs'[j]?=some (vs'[j]'(by omega)):=List.getElem?_eq_getElem (by omega)
        have d3:ds[j]?=some (ds[j]'(by omega)):=List.getElem?_eq_getElem (by omega)
        obtain⟨w1,e1,z1⟩:=r1.get d1;obtain⟨w2,e2,z2⟩:=r2.get d2;have f1:its.toArray[j]=w1:=by rw[List.getElem_toArray];exact Option.some.inj ((List.getElem?_eq_getElem k1).symm.trans e1)
        have f2:its2.toArray[j]=w2:=by rw[List.getElem_toArray];exact Option.some.inj ((List.getElem?_eq_getElem k2).symm.trans e2)
        rw[f1,f2];exact ih _ _ _ _ _ _ (show A.units+ 1+ k<cLine by omega) (h3 j _ _ d1 d3) (g3 j _ _ d2 d3) z1 z2
  | @l _ a vs ds h1 h2 h3=>
    cases h' with
    | @l _ b vs' _ g1 g2 g3=>
      cases r;cases r';by_cases e:a=b
      ·subst e;exact SeqAt.EqAt.same _
      ·refine SeqAt.EqAt.of_refs e ?_;obtain⟨its,r1,p1,_⟩:=I.list (SqL.of h1);obtain⟨its2,r2,p2,_⟩:=I.list (SqL.of g1);have l1:=r1.length;have l2:=r2.length;have:=SeqAt.RcAt.lists (A:=A) (e:=λ_=>true) p1.isList p2.isList (by simp;omega) (by omega) (λj q1 q2=>?_)
       ·rw[all_true _ _ λ_=>rfl]at this;exact this
       ·have k1:j<its.length:=by simpa using q1
        have k2:j<its2.length:=by simpa using q2
        have d1:vs[j]?=some (vs[j]'(by omega)):=List.getElem?_eq_getElem (by omega)
        have d2:vs'[j]?=some (vs'[j]'(by omega)):=List.getElem?_eq_getElem (by omega)
        have d3:ds[j]?=some (ds[j]'(by omega)):=List.getElem?_eq_getElem (by omega)
        obtain⟨w1,e1,z1⟩:=r1.get d1;obtain⟨w2,e2,z2⟩:=r2.get d2;have f1:its.toArray[j]=w1:=by rw[List.getElem_toArray];exact Option.some.inj ((List.getElem?_eq_getElem k1).symm.trans e1)
        have f2:its2.toArray[j]=w2:=by rw[List.getElem_toArray];exact Option.some.inj ((List.getElem?_eq_getElem k2).symm.trans e2)
        rw[f1,f2];exact ih _ _ _ _ _ _ (show A.units+ 1+ k<cLine by omega) (h3 j _ _ d1 d3) (g3 j _ _ d2 d3) z1 z2
end
section
variable {X:Cx}
theorem dt_items {pins:List (Addr×Obj)}{σ:St}{H:Hp}{s:Shared}(I:Inv X pins σ H s){k:Nat}{A:Around}(hu:A.units+ k<cLine){vs vs':List V}{its its2:List Value}{ds:List Dt}(r1:Vals vs its)(r2:Vals vs' its2)(h2:vs.length=ds.length)(g2:vs'.length=ds.length)
 (h3:∀(j:Nat) (v:V) (d:Dt),vs[j]?=some v->ds[j]?=some d->DtAt H k v d) (g3:∀(j:Nat) (v:V) (d:Dt),vs'[j]?=some v->ds[j]?=some d->DtAt H k v d) (j:Nat) (q1:j<its.toArray.size) (q2:j<its2.toArray.size):SeqAt.EqAt A s its.toArray[j] its2.toArray[j] true:=by
 have l1:=r1.length;have l2:=r2.length;have k1:j<its.length:=by simpa using q1
 have k2:j<its2.length:=by simpa using q2
 have d1:vs[j]?=some (vs[j]'(by omega)):=List.getElem?_eq_getElem (by omega)
 have d2:vs'[j]?=some (vs'[j]'(by omega)):=List.getElem?_eq_getElem (by omega)
 have d3:ds[j]?=some (ds[j]'(by omega)):=List.getElem?_eq_getElem (by omega)
 obtain⟨w1,e1,z1⟩:=r1.get d1;obtain⟨w2,e2,z2⟩:=r2.get d2;have f1:its.toArray[j]=w1:=by rw[List.getElem_toArray];exact Option.some.inj ((List.getElem?_eq_getElem k1).symm.trans e1)
 have f2:its2.toArray[j]=w2:=by rw[List.getElem_toArray];exact Option.some.inj ((List.getElem?_eq_getElem k2).symm.trans e2)
 rw[f1,f2];exact eq_dt I k _ _ _ _ _ _ hu (h3 j _ _ d1 d3) (g3 j _ _ d2 d3) z1 z2
def rEqDt:R2:=λx y H Q=>∃d a b,x=.ref a/\y=.ref b/\DtAt H 8 x d/\DtAt H 8 y d/\Q (.bl true) H
theorem op_eqDt (hu:X.A.units+ 8<cLine):OpR X (compareOp .Eq) rEqDt:=by
 intro pins s σ H x y v u Q I rx ry h;obtain⟨d,a,b,rfl,rfl,h,h',q⟩:=h;cases rx;cases ry
 cases h with
 |t h1 h2 h3=>
  cases h' with
  |t g1 g2 g3=>
   obtain⟨its,r1,p1,_⟩:=I.tuple (SqT.of h1);obtain⟨its2,r2,p2,_⟩:=I.tuple (SqT.of g1);have l1:=r1.length;have l2:=r2.length;refine SeqAt.eq_tupleAt (e:=λ_=>true) (show s.heap.IsTuple a _ from p1) (show s.heap.IsTuple b _ from p2) (by omega) (λj q1 q2=>dt_items I (k:=7) (by show X.A.units+ 1+ 7<cLine;omega) r1 r2 h2 g2 h3 g3 j q1 q2) ⟨.bl true,H,I,?_,q⟩;show _=Value.bool true;rw[List.size_toArray,List.size_toArray,←l1,←l2,h2,g2,all_true _ _ λ_=>rfl];simp
 |l h1 h2 h3=>
  cases h' with
  |l g1 g2 g3=>
   obtain⟨its,r1,p1,_⟩:=I.list (SqL.of h1);obtain⟨its2,r2,p2,_⟩:=I.list (SqL.of g1);have l1:=r1.length;have l2:=r2.length;refine SeqAt.eq_listAt (e:=λ_=>true) p1.isList p2.isList (by simp;omega) (by omega) (λj q1 q2=>dt_items I (k:=7) (by show X.A.units+ 1+ 7<cLine;omega) r1 r2 h2 g2 h3 g3 j q1 q2) ⟨.bl true,H,I,?_,q⟩;show _=Value.bool true;rw[all_true _ _ λ_=>rfl]
end
end L2
namespace L2
open PySem PySem.Spec PyProof.Rows
def nI (l:List Nat):List Int:=l.map λn:Nat=>(n:Int)
theorem nI_len (l:List Nat):(nI l).length=l.length:=List.length_map ..
theorem nI_get {l:List Nat}{i n:Nat}(h:l[i]?=some n):(nI l)[i]?=some (n:Int):=by unfold nI;rw[List.getElem?_map,h];rfl
theorem nI_app (a b:List Nat):nI (a++b)=nI a++nI b:=List.map_append ..
theorem nI_set (l:List Nat)(i n:Nat):(nI l).set i (n:Int)=nI (l.set i n):=by unfold nI;rw[List.map_set]
structure RS where
 L:Nat
 made:Nat
 rows:List Dt
 ways:List (List (Int×Nat))
 gaps:List (List Int)
 elders:List Nat
 called:List (List Nat)
 went:List Nat
def wK (l:List (Int×Nat)):List (Key×V):=l.map λp=>(Sum.inl p.1,V.int p.2)
def gK (l:List Int):List (Key×V):=l.map λs=>(Sum.inl s,V.bl true)
def getW (l:List (Int×Nat))(s:Int):Option Nat:=(l.find? λp=>decide (p.1=s)).map (·.2)
def putW (l:List (Int×Nat))(s:Int)(r:Nat):List (Int×Nat):=if (l.any λp=>decide (p.1=s))=true then l.map λp=>if p.1=s then (p.1,r) else p else l++[(s,r)]
theorem wK_len (l:List (Int×Nat)):(wK l).length=l.length:=List.length_map ..
theorem gK_len (l:List Int):(gK l).length=l.length:=List.length_map ..
theorem key_eq (a b:Int):decide ((Sum.inl a:Key)=Sum.inl b)=decide (a=b):=by
 rw[Bool.eq_iff_iff,decide_eq_true_iff,decide_eq_true_iff];exact⟨Sum.inl.inj,congrArg Sum.inl⟩
theorem wK_val (s:Int):∀l:List (Int×Nat),valV (wK l) (Sum.inl s)=(getW l s).map λr:Nat=>V.int (r:Int)
 |[]=>rfl
 |p::l=>by
  have ih:=wK_val s l;by_cases h:p.1=s
  ·have e:valV (wK (p::l)) (Sum.inl s)=some (V.int p.2):=valV_pos (p:=(Sum.inl p.1,V.int p.2)) (by rw[h]);have e2:getW (p::l) s=some p.2:=by unfold getW;rw[List.find?_cons_of_pos (by exact decide_eq_true h)];rfl
   rw[e,e2];rfl
  ·have e:valV (wK (p::l)) (Sum.inl s)=valV (wK l) (Sum.inl s):=valV_neg (p:=(Sum.inl p.1,V.int p.2)) (λz=>h (Sum.inl.inj z));have e2:getW (p::l) s=getW l s:=by unfold getW;rw[List.find?_cons_of_neg (by simpa using h)]
   rw[e,e2,ih]
theorem wK_put (l:List (Int×Nat))(s:Int)(r:Nat):putK (wK l) (Sum.inl s) (.int r)=wK (putW l s r):=by
 unfold putK putW
 have ha:((wK l).any λkv=>decide (kv.1=Sum.inl s))=l.any λp=>decide (p.1=s):=by
  unfold wK;rw[List.any_map]
  congr 1
  funext p
  exact key_eq _ _
 rw[ha];split
 ·unfold wK;rw[List.map_map,List.map_map];refine List.map_congr_left λp _=>?_
  show (if (Sum.inl p.1:Key)=Sum.inl s then _ else _)=_;by_cases h:p.1=s
  ·simp only[Function.comp,h,if_true]
  ·have:¬(Sum.inl p.1:Key)=Sum.inl s:=λz=>h (Sum.inl.inj z)
   simp only[Function.comp,h,this,if_false]
 ·unfold wK;rw[List.map_append];rfl
theorem getW_put (l:List (Int×Nat))(s t:Int)(r:Nat):getW (putW l s r) t=if t=s then some r else getW l t:=by
 have h1:=wK_val t (putW l s r);rw[←wK_put,valV_put,wK_val]at h1
 have inj:∀a b:Option Nat,(a.map λr:Nat=>V.int (r:Int))=(b.map λr:Nat=>V.int (r:Int))->a=b:=λa b h=>by
  cases a <;> cases b <;> simp at h ⊢
  omega
 apply inj;rw[←h1];by_cases e:t=s
 ·rw[if_pos e,if_pos (by rw[e])];rfl
 ·rw[if_neg e,if_neg (λz=>e (Sum.inl.inj z))]
theorem putW_len (l:List (Int×Nat))(s:Int)(r:Nat):(putW l s r).length<=l.length+ 1:=by
 unfold putW;split
 ·rw[List.length_map];omega
 ·rw[List.length_append];exact Nat.le_refl _
theorem gK_drop (l:List Int)(s:Int):dropK (gK l) (Sum.inl s)=gK (l.filter λx=>decide (x≠s)):=by
 unfold dropK gK;rw[List.filter_map]
 congr 1
 refine List.filter_congr λx _=>?_
 show decide ((Sum.inl x:Key)≠Sum.inl s)=decide (x≠s);rw[Bool.eq_iff_iff,decide_eq_true_iff,decide_eq_true_iff];exact⟨λh z=>h (congrArg Sum.inl z),λh z=>h (Sum.inl.inj z)⟩
theorem gK_val (s:Int):∀l:List Int,valV (gK l) (Sum.inl s)=if s∈l then some (V.bl true) else none
 |[]=>rfl
 |x::l=>by
  by_cases h:x=s
  ·rw[if_pos (by rw[h];exact List.mem_cons_self)];exact valV_pos (p:=(Sum.inl x,V.bl true)) (by rw[h])
  ·have e:valV (gK (x::l)) (Sum.inl s)=valV (gK l) (Sum.inl s):=valV_neg (p:=(Sum.inl x,V.bl true)) (λz=>h (Sum.inl.inj z));rw[e,gK_val s l];have:(s∈x::l)↔s∈l:=⟨λz=>(List.mem_cons.mp z).elim (λq=>absurd q.symm h) id,List.mem_cons_of_mem _⟩;simp only[this]
theorem merge_new:∀(more acc:List (Key×V)),((acc++more).map (·.1)).Nodup->mergeK acc more=acc++more
 |[],acc,_=>(List.append_nil _).symm
 |p::more,acc,h=>by
  have hn:valV acc p.1=none:=by
   unfold valV;rw[List.find?_eq_none.mpr ?_];rfl;intro q hq;rw[decide_eq_true_iff];intro e;rw[List.map_append,List.nodup_append]at h;exact h.2.2 q.1 (List.mem_map_of_mem hq) p.1 (List.mem_map_of_mem List.mem_cons_self) e
  show mergeK (putK acc p.1 p.2) more=_;rw[putK_new _ hn,merge_new more (acc++[(p.1,p.2)]) (by rw[List.append_assoc];exact h),List.append_assoc];rfl
structure RA where
 dx:Addr
 aR:Addr
 aW:Addr
 aG:Addr
 aE:Addr
 aC:Addr
 aN:Addr
 rs:List Addr
 ws:List Addr
 gs:List Addr
 cs:List Addr
def flds (L made:Int)(a:RA):List (Str×V):=[("letters",.int L),("made",.int made),("rows",.ref a.aR),("ways",.ref a.aW),("gaps",.ref a.aG),("elders",.ref a.aE),("called",.ref a.aC),("went",.ref a.aN)]
theorem putF_made (L m n:Int)(a:RA):putF "made" (.int n) (flds L m a)=flds L n a:=by
 have h:¬(("letters":Str)="made"):=by decide +kernel
 unfold flds;simp only[putF,if_neg h,if_true]
theorem lk_letters (L m:Int)(a:RA):(flds L m a).lookup ("letters":Str)=some (.int L):=by kernel_rfl
theorem lk_made (L m:Int)(a:RA):(flds L m a).lookup ("made":Str)=some (.int m):=by kernel_rfl
theorem lk_rows (L m:Int)(a:RA):(flds L m a).lookup ("rows":Str)=some (.ref a.aR):=by kernel_rfl
theorem lk_ways (L m:Int)(a:RA):(flds L m a).lookup ("ways":Str)=some (.ref a.aW):=by kernel_rfl
theorem lk_gaps (L m:Int)(a:RA):(flds L m a).lookup ("gaps":Str)=some (.ref a.aG):=by kernel_rfl
theorem lk_elders (L m:Int)(a:RA):(flds L m a).lookup ("elders":Str)=some (.ref a.aE):=by kernel_rfl
theorem lk_called (L m:Int)(a:RA):(flds L m a).lookup ("called":Str)=some (.ref a.aC):=by kernel_rfl
theorem lk_went (L m:Int)(a:RA):(flds L m a).lookup ("went":Str)=some (.ref a.aN):=by kernel_rfl
theorem lk_none (L m:Int)(a:RA){x:Str}(h:x∉(["letters","made","rows","ways","gaps","elders","called","went"]:List Str)):(flds L m a).lookup x=none:=by
 simp only[List.mem_cons,List.not_mem_nil,or_false,not_or]at h;obtain⟨h1,h2,h3,h4,h5,h6,h7,h8⟩:=h;unfold flds;simp only[List.lookup,beq_eq_false_iff_ne.mpr h1,beq_eq_false_iff_ne.mpr h2,beq_eq_false_iff_ne.mpr h3,beq_eq_false_iff_ne.mpr h4,beq_eq_false_iff_ne.mpr h5,beq_eq_false_iff_ne.mpr h6,beq_eq_false_iff_ne.mpr h7,beq_eq_false_iff_ne.mpr h8]
inductive NoL:Dt->Prop where
 |i {n:Int}:NoL (.i n)
 |s {l:List Nat}:NoL (.s l)
 |t {ds:List Dt}:ds.length<=100000->(∀d∈ds,NoL d)->NoL (.t ds)
theorem DtAt.keepT {H H':Hp}(ht:∀a xs,H a=some (.tup xs)->H' a=some (.tup xs)){k:Nat}{v:V}{d:Dt}(h:DtAt H k v d)(hn:NoL d):DtAt H' k v d:=by
 induction h with
 |i=>exact .i
 |s=>exact .s
 |n=>exact .n
 |b=>exact .b
 |t a b c ih=>
  cases hn with
  |t _ hh=>exact .t (ht _ _ a) b λj v d h1 h2=>ih j v d h1 h2 (hh d (List.mem_of_getElem? h2))
 |l a b c ih=>cases hn
def Each {α:Type}(R:Addr->α->Prop)(ps:List Addr)(xs:List α):Prop:=ps.length=xs.length/\∀(i:Nat) (p:Addr) (x:α),ps[i]?=some p->xs[i]?=some x->R p x
theorem Each.imp {α:Type}{R R':Addr->α->Prop}{ps:List Addr}{xs:List α}(h:Each R ps xs)(f:∀p x,p∈ps->x∈xs->R p x->R' p x):Each R' ps xs:=
 ⟨h.1,λi p x h1 h2=>f p x (List.mem_of_getElem? h1) (List.mem_of_getElem? h2) (h.2 i p x h1 h2)⟩
theorem Each.snoc {α:Type}{R:Addr->α->Prop}{ps:List Addr}{xs:List α}{p:Addr}{x:α}(h:Each R ps xs)(hp:R p x):Each R (ps++[p]) (xs++[x]):=by
 refine⟨by rw[List.length_append,List.length_append,h.1];rfl,λi q y h1 h2=>?_⟩;by_cases hi:i<ps.length
 ·rw[List.getElem?_append_left hi]at h1;rw[List.getElem?_append_left (by rw[←h.1];exact hi)]at h2;exact h.2 i q y h1 h2
 ·rw[List.getElem?_append_right (by omega)]at h1;rw[List.getElem?_append_right (by rw[←h.1];omega)]at h2;rw[List.mem_singleton.mp (List.mem_of_getElem? h1),List.mem_singleton.mp (List.mem_of_getElem? h2)];exact hp
theorem Each.at {α:Type}{R:Addr->α->Prop}{ps:List Addr}{xs:List α}(h:Each R ps xs){i:Nat}{x:α}(hx:xs[i]?=some x):∃p,ps[i]?=some p/\R p x:=by
 have hi:i<ps.length:=by rw[h.1];exact(List.getElem?_eq_some_iff.mp hx).1
 exact⟨_,List.getElem?_eq_getElem hi,h.2 i _ x (List.getElem?_eq_getElem hi) hx⟩
theorem Each.mem {α:Type}{R:Addr->α->Prop}{ps:List Addr}{xs:List α}(h:Each R ps xs){p:Addr}(hp:p∈ps):∃x,x∈xs/\R p x:=by
 obtain⟨i,hi⟩:=List.getElem?_of_mem hp;have hl:i<xs.length:=by rw[←h.1];exact(List.getElem?_eq_some_iff.mp hi).1
 exact⟨_,List.mem_of_getElem? (List.getElem?_eq_getElem hl),h.2 i p _ hi (List.getElem?_eq_getElem hl)⟩
theorem Each.set {α:Type}{R R':Addr->α->Prop}{ps:List Addr}{xs:List α}{i:Nat}{p:Addr}{x:α}(h:Each R ps xs)(hp:ps[i]?=some p)(hx:R' p x)(hn:ps.Nodup)(f:∀q y,q∈ps->q≠p->R q y->R' q y):Each R' ps (xs.set i x):=by
 refine⟨by rw[List.length_set];exact h.1,λj q y h1 h2=>?_⟩;by_cases e:i=j
 ·subst e;rw[hp]at h1;obtain rfl:=Option.some.inj h1;have hi:i<xs.length:=by rw[←h.1];exact(List.getElem?_eq_some_iff.mp hp).1
  rw[List.getElem?_set_self hi]at h2;obtain rfl:=Option.some.inj h2;exact hx
 ·rw[List.getElem?_set_ne e]at h2;refine f q y (List.mem_of_getElem? h1) (λz=>?_) (h.2 j q y h1 h2);subst z;exact e ((List.getElem?_inj (List.getElem?_eq_some_iff.mp hp).1 hn).mp (hp.trans h1.symm))
def RA.lists (a:RA):List Addr:=a.aR::a.aW::a.aG::a.aE::a.aC::a.aN::a.cs
def RA.dicts (a:RA):List Addr:=a.ws++a.gs
def RA.own (a:RA)(r b:Addr):Prop:=b=r\/b∈a.lists\/b∈a.dicts
structure RoomsAt (C:Addr) (H:Hp) (r:Addr) (S:RS) (a:RA):Prop where
 ins:H r=some (.ins C a.dx (flds S.L S.made a))
 hR:H a.aR=some (.lst (a.rs.map V.ref))
 hW:H a.aW=some (.lst (a.ws.map V.ref))
 hG:H a.aG=some (.lst (a.gs.map V.ref))
 hE:H a.aE=some (.lst (intV (nI S.elders)))
 hC:H a.aC=some (.lst (a.cs.map V.ref))
 hN:H a.aN=some (.lst (intV (nI S.went)))
 rR:Each (λp d=>DtAt H 4 (.ref p) d) a.rs S.rows
 rW:Each (λp l=>H p=some (.dK (wK l))) a.ws S.ways
 rG:Each (λp l=>H p=some (.dK (gK l))) a.gs S.gaps
 rC:Each (λp l=>H p=some (.lst (intV (nI l)))) a.cs S.called
 flat:∀d∈S.rows,NoL d
 ndL:a.lists.Nodup
 ndD:a.dicts.Nodup
section
variable {C:Addr} {H H':Hp} {r:Addr} {S:RS} {a:RA}
theorem RoomsAt.keep (h:RoomsAt C H r S a)(k:∀b o,a.own r b->H b=some o->H' b=some o)(kt:∀b xs,H b=some (.tup xs)->H' b=some (.tup xs)):RoomsAt C H' r S a:=by
 have kl:∀b o,b∈a.lists->H b=some o->H' b=some o:=λb o hb=>k b o (.inr (.inl hb))
 have kd:∀b o,b∈a.dicts->H b=some o->H' b=some o:=λb o hb=>k b o (.inr (.inr hb))
 exact⟨k _ _ (.inl rfl) h.ins,kl _ _ (by simp[RA.lists]) h.hR,kl _ _ (by simp[RA.lists]) h.hW,kl _ _ (by simp[RA.lists]) h.hG,kl _ _ (by simp[RA.lists]) h.hE,kl _ _ (by simp[RA.lists]) h.hC,kl _ _ (by simp[RA.lists]) h.hN,
  h.rR.imp λp x _ hx e=>e.keepT kt (h.flat x hx),h.rW.imp λp x hp _ e=>kd _ _ (List.mem_append_left _ hp) e,h.rG.imp λp x hp _ e=>kd _ _ (List.mem_append_right _ hp) e,
  h.rC.imp λp x hp _ e=>kl _ _ (by simp[RA.lists,hp]) e,h.flat,h.ndL,h.ndD⟩
theorem RoomsAt.same (h:RoomsAt C H r S a)(s:Same H H'):RoomsAt C H' r S a:=h.keep (λ_ _ _ e=>s _ _ e) (λ_ _ e=>s _ _ e)
theorem RoomsAt.there (h:RoomsAt C H r S a){b:Addr}(hb:a.own r b):∃o,H b=some o:=by
 rcases hb with rfl|hb|hb
 ·exact⟨_,h.ins⟩
 ·unfold RA.lists at hb;simp only[List.mem_cons]at hb;rcases hb with rfl|rfl|rfl|rfl|rfl|rfl|hb
  ·exact⟨_,h.hR⟩
  ·exact⟨_,h.hW⟩
  ·exact⟨_,h.hG⟩
  ·exact⟨_,h.hE⟩
  ·exact⟨_,h.hC⟩
  ·exact⟨_,h.hN⟩
  ·obtain⟨x,_,e⟩:=h.rC.mem hb;exact⟨_,e⟩
 ·rcases List.mem_append.mp hb with hb|hb
  ·obtain⟨x,_,e⟩:=h.rW.mem hb;exact⟨_,e⟩
  ·obtain⟨x,_,e⟩:=h.rG.mem hb;exact⟨_,e⟩
theorem RoomsAt.notup (h:RoomsAt C H r S a){b:Addr}{xs:List V}(e:H b=some (.tup xs)):¬a.own r b:=λhb=>by
 rcases hb with rfl|hb|hb
 ·rw[h.ins]at e;cases e
 ·unfold RA.lists at hb;simp only[List.mem_cons]at hb;rcases hb with rfl|rfl|rfl|rfl|rfl|rfl|hb
  ·rw[h.hR]at e;cases e
  ·rw[h.hW]at e;cases e
  ·rw[h.hG]at e;cases e
  ·rw[h.hE]at e;cases e
  ·rw[h.hC]at e;cases e
  ·rw[h.hN]at e;cases e
  ·obtain⟨x,_,e'⟩:=h.rC.mem hb;rw[e']at e;cases e
 ·rcases List.mem_append.mp hb with hb|hb
  ·obtain⟨x,_,e'⟩:=h.rW.mem hb;rw[e']at e;cases e
  ·obtain⟨x,_,e'⟩:=h.rG.mem hb;rw[e']at e;cases e
end
end L2
namespace L2
open PySem PySem.Spec PyProof.Rows
section
variable {C:Addr} {H H':Hp} {r:Addr} {S:RS} {a:RA}
theorem mem_R:a.aR∈a.lists:=by simp[RA.lists]
theorem mem_W:a.aW∈a.lists:=by simp[RA.lists]
theorem mem_G:a.aG∈a.lists:=by simp[RA.lists]
theorem mem_E:a.aE∈a.lists:=by simp[RA.lists]
theorem mem_C:a.aC∈a.lists:=by simp[RA.lists]
theorem mem_N:a.aN∈a.lists:=by simp[RA.lists]
theorem mem_cs {p:Addr}(h:p∈a.cs):p∈a.lists:=by simp[RA.lists,h]
theorem mem_ws {p:Addr}(h:p∈a.ws):p∈a.dicts:=List.mem_append_left _ h
theorem mem_gs {p:Addr}(h:p∈a.gs):p∈a.dicts:=List.mem_append_right _ h
theorem RoomsAt.isL (h:RoomsAt C H r S a){b:Addr}(hb:b∈a.lists):∃xs,H b=some (.lst xs):=by
 unfold RA.lists at hb;simp only[List.mem_cons]at hb;rcases hb with rfl|rfl|rfl|rfl|rfl|rfl|hb
 ·exact⟨_,h.hR⟩
 ·exact⟨_,h.hW⟩
 ·exact⟨_,h.hG⟩
 ·exact⟨_,h.hE⟩
 ·exact⟨_,h.hC⟩
 ·exact⟨_,h.hN⟩
 ·obtain⟨x,_,e⟩:=h.rC.mem hb;exact⟨_,e⟩
theorem RoomsAt.isD (h:RoomsAt C H r S a){b:Addr}(hb:b∈a.dicts):∃kvs,H b=some (.dK kvs):=by
 rcases List.mem_append.mp hb with hb|hb
 ·obtain⟨x,_,e⟩:=h.rW.mem hb;exact⟨_,e⟩
 ·obtain⟨x,_,e⟩:=h.rG.mem hb;exact⟨_,e⟩
theorem RoomsAt.rl (h:RoomsAt C H r S a){b:Addr}(hb:b∈a.lists):r≠b:=by obtain⟨xs,e⟩:=h.isL hb;exact ne_of h.ins e (by intro z;cases z)
theorem RoomsAt.rd (h:RoomsAt C H r S a){b:Addr}(hb:b∈a.dicts):r≠b:=by obtain⟨xs,e⟩:=h.isD hb;exact ne_of h.ins e (by intro z;cases z)
theorem RoomsAt.ld (h:RoomsAt C H r S a){b c:Addr}(hb:b∈a.lists)(hc:c∈a.dicts):b≠c:=by
 obtain⟨xs,e⟩:=h.isL hb;obtain⟨ys,e'⟩:=h.isD hc;exact ne_of e e' (by intro z;cases z)
theorem RoomsAt.tl (h:RoomsAt C H r S a){b c:Addr}{xs:List V}(hb:H b=some (.tup xs))(hc:c∈a.lists):b≠c:=λz=>h.notup hb (.inr (.inl (by rw[z];exact hc)))
theorem RoomsAt.td (h:RoomsAt C H r S a){b c:Addr}{xs:List V}(hb:H b=some (.tup xs))(hc:c∈a.dicts):b≠c:=λz=>h.notup hb (.inr (.inr (by rw[z];exact hc)))
theorem RoomsAt.tr (h:RoomsAt C H r S a){b:Addr}{xs:List V}(hb:H b=some (.tup xs)):b≠r:=λz=>h.notup hb (.inl z)
theorem RoomsAt.setMade (h:RoomsAt C H r S a)(n:Nat):RoomsAt C (upd H r (.ins C a.dx (flds S.L n a))) r { S with made:=n } a:=by
 have kl:∀b o,b∈a.lists->H b=some o->upd H r (.ins C a.dx (flds S.L n a)) b=some o:=λb o hb e=>by rw[upd_ne (h.rl hb).symm];exact e
 have kd:∀b o,b∈a.dicts->H b=some o->upd H r (.ins C a.dx (flds S.L n a)) b=some o:=λb o hb e=>by rw[upd_ne (h.rd hb).symm];exact e
 exact⟨upd_same,kl _ _ mem_R h.hR,kl _ _ mem_W h.hW,kl _ _ mem_G h.hG,kl _ _ mem_E h.hE,kl _ _ mem_C h.hC,kl _ _ mem_N h.hN,h.rR.imp λp x _ hx e=>e.keepT (λb xs eb=>by rw[upd_ne (h.tr eb)];exact eb) (h.flat x hx),
  h.rW.imp λp x hp _ e=>kd _ _ (mem_ws hp) e,h.rG.imp λp x hp _ e=>kd _ _ (mem_gs hp) e,h.rC.imp λp x hp _ e=>kl _ _ (mem_cs hp) e,h.flat,h.ndL,h.ndD⟩
theorem RoomsAt.listUpd (h:RoomsAt C H r S a){q:Addr}{o:HO}(hq:q∈a.lists):upd H q o r=some (.ins C a.dx (flds S.L S.made a))/\(∀b x,b∈a.lists->b≠q->H b=some x->upd H q o b=some x)/\(∀b x,b∈a.dicts->H b=some x->upd H q o b=some x)/\∀b xs,H b=some (.tup xs)->upd H q o b=some (.tup xs):=
 ⟨by rw[upd_ne (h.rl hq)];exact h.ins,λb x _ n e=>by rw[upd_ne n];exact e,λb x hb e=>by rw[upd_ne (h.ld hq hb).symm];exact e,λb xs e=>by rw[upd_ne (h.tl e hq)];exact e⟩
theorem nd7 (nd:a.lists.Nodup):(a.aR≠a.aW/\a.aR≠a.aG/\a.aR≠a.aE/\a.aR≠a.aC/\a.aR≠a.aN)/\(a.aW≠a.aG/\a.aW≠a.aE/\a.aW≠a.aC/\a.aW≠a.aN)/\(a.aG≠a.aE/\a.aG≠a.aC/\a.aG≠a.aN)/\(a.aE≠a.aC/\a.aE≠a.aN)/\a.aC≠a.aN/\∀p∈a.cs,p≠a.aR/\p≠a.aW/\p≠a.aG/\p≠a.aE/\p≠a.aC/\p≠a.aN:=by
 unfold RA.lists at nd;simp only[List.nodup_cons,List.mem_cons,not_or]at nd;obtain⟨⟨h1,h2,h3,h4,h5,h6⟩,⟨g2,g3,g4,g5,g6⟩,⟨f3,f4,f5,f6⟩,⟨e4,e5,e6⟩,⟨d5,d6⟩,c6,-⟩:=nd;exact⟨⟨h1,h2,h3,h4,h5⟩,⟨g2,g3,g4,g5⟩,⟨f3,f4,f5⟩,⟨e4,e5⟩,d5,λp hp=>⟨λz=>h6 (z ▸ hp),λz=>g6 (z ▸ hp),λz=>f6 (z ▸ hp),λz=>e6 (z ▸ hp),λz=>d6 (z ▸ hp),λz=>c6 (z ▸ hp)⟩⟩
theorem RoomsAt.addRow (h:RoomsAt C H r S a){p:Addr}{d:Dt}(hp:DtAt H 4 (.ref p) d)(hd:NoL d):RoomsAt C (upd H a.aR (.lst (a.rs.map V.ref++[.ref p]))) r { S with rows:=S.rows++[d] } { a with rs:=a.rs++[p] }:=by
 obtain⟨h0,kl,kd,kt⟩:=h.listUpd (o:=.lst (a.rs.map V.ref++[.ref p])) (mem_R (a:=a));obtain⟨⟨n1,n2,n3,n4,n5⟩,-,-,-,-,nc⟩:=nd7 h.ndL
 refine⟨h0,?_,kl _ _ mem_W n1.symm h.hW,kl _ _ mem_G n2.symm h.hG,kl _ _ mem_E n3.symm h.hE,kl _ _ mem_C n4.symm h.hC,kl _ _ mem_N n5.symm h.hN,(h.rR.imp λq x _ hx e=>e.keepT kt (h.flat x hx)).snoc (hp.keepT kt hd),
  h.rW.imp λq x hq _ e=>kd _ _ (mem_ws hq) e,h.rG.imp λq x hq _ e=>kd _ _ (mem_gs hq) e,h.rC.imp λq x hq _ e=>kl _ _ (mem_cs hq) (nc q hq).1 e,λx hx=>?_,h.ndL,h.ndD⟩
 ·show upd H a.aR _ a.aR=some (.lst ((a.rs++[p]).map V.ref));rw[upd_same,List.map_append];rfl
 ·rcases List.mem_append.mp hx with hx|hx
  ·exact h.flat x hx
  ·rw[List.mem_singleton.mp hx];exact hd
theorem RoomsAt.addWay (h:RoomsAt C H r S a){p:Addr}{l:List (Int×Nat)}(hp:H p=some (.dK (wK l)))(hn:p∉a.dicts):RoomsAt C (upd H a.aW (.lst (a.ws.map V.ref++[.ref p]))) r { S with ways:=S.ways++[l] } { a with ws:=a.ws++[p] }:=by
 obtain⟨h0,kl,kd,kt⟩:=h.listUpd (o:=.lst (a.ws.map V.ref++[.ref p])) (mem_W (a:=a));obtain⟨⟨n1,-⟩,⟨n2,n3,n4,n5⟩,-,-,-,nc⟩:=nd7 h.ndL;have hpw:upd H a.aW (.lst (a.ws.map V.ref++[.ref p])) p=some (.dK (wK l)):=by rw[upd_ne (ne_of hp h.hW (by intro z;cases z))];exact hp
 refine⟨h0,kl _ _ mem_R n1 h.hR,?_,kl _ _ mem_G n2.symm h.hG,kl _ _ mem_E n3.symm h.hE,kl _ _ mem_C n4.symm h.hC,kl _ _ mem_N n5.symm h.hN,h.rR.imp λq x _ hx e=>e.keepT kt (h.flat x hx),
  (h.rW.imp λq x hq _ e=>kd _ _ (mem_ws hq) e).snoc hpw,h.rG.imp λq x hq _ e=>kd _ _ (mem_gs hq) e,h.rC.imp λq x hq _ e=>kl _ _ (mem_cs hq) (nc q hq).2.1 e,h.flat,h.ndL,?_⟩
 ·show upd H a.aW _ a.aW=some (.lst ((a.ws++[p]).map V.ref));rw[upd_same,List.map_append];rfl
 ·show (a.ws++[p]++a.gs).Nodup;rw[List.append_assoc];exact(List.perm_middle.nodup_iff).mpr (List.nodup_cons.mpr ⟨hn,h.ndD⟩)
theorem RoomsAt.addGap (h:RoomsAt C H r S a){p:Addr}{l:List Int}(hp:H p=some (.dK (gK l)))(hn:p∉a.dicts):RoomsAt C (upd H a.aG (.lst (a.gs.map V.ref++[.ref p]))) r { S with gaps:=S.gaps++[l] } { a with gs:=a.gs++[p] }:=by
 obtain⟨h0,kl,kd,kt⟩:=h.listUpd (o:=.lst (a.gs.map V.ref++[.ref p])) (mem_G (a:=a));obtain⟨⟨-,n1,-⟩,⟨n2,-⟩,⟨n3,n4,n5⟩,-,-,nc⟩:=nd7 h.ndL;have hpw:upd H a.aG (.lst (a.gs.map V.ref++[.ref p])) p=some (.dK (gK l)):=by rw[upd_ne (ne_of hp h.hG (by intro z;cases z))];exact hp
 refine⟨h0,kl _ _ mem_R n1 h.hR,kl _ _ mem_W n2 h.hW,?_,kl _ _ mem_E n3.symm h.hE,kl _ _ mem_C n4.symm h.hC,kl _ _ mem_N n5.symm h.hN,h.rR.imp λq x _ hx e=>e.keepT kt (h.flat x hx),
  h.rW.imp λq x hq _ e=>kd _ _ (mem_ws hq) e,(h.rG.imp λq x hq _ e=>kd _ _ (mem_gs hq) e).snoc hpw,h.rC.imp λq x hq _ e=>kl _ _ (mem_cs hq) (nc q hq).2.2.1 e,h.flat,h.ndL,?_⟩
 ·show upd H a.aG _ a.aG=some (.lst ((a.gs++[p]).map V.ref));rw[upd_same,List.map_append];rfl
 ·show (a.ws++(a.gs++[p])).Nodup;rw[←List.append_assoc];refine List.nodup_append.mpr ⟨h.ndD,by simp,λx hx y hy z=>?_⟩;rw[List.mem_singleton.mp hy]at z;exact hn (z ▸ hx)
theorem RoomsAt.setElders (h:RoomsAt C H r S a)(es:List Nat):RoomsAt C (upd H a.aE (.lst (intV (nI es)))) r { S with elders:=es } a:=by
 obtain⟨h0,kl,kd,kt⟩:=h.listUpd (o:=.lst (intV (nI es))) (mem_E (a:=a));obtain⟨⟨-,-,n1,-⟩,⟨-,n2,-⟩,⟨n3,-⟩,⟨n4,n5⟩,-,nc⟩:=nd7 h.ndL
 exact⟨h0,kl _ _ mem_R n1 h.hR,kl _ _ mem_W n2 h.hW,kl _ _ mem_G n3 h.hG,upd_same,kl _ _ mem_C n4.symm h.hC,kl _ _ mem_N n5.symm h.hN,h.rR.imp λq x _ hx e=>e.keepT kt (h.flat x hx),
  h.rW.imp λq x hq _ e=>kd _ _ (mem_ws hq) e,h.rG.imp λq x hq _ e=>kd _ _ (mem_gs hq) e,h.rC.imp λq x hq _ e=>kl _ _ (mem_cs hq) (nc q hq).2.2.2.1 e,h.flat,h.ndL,h.ndD⟩
theorem RoomsAt.setWent (h:RoomsAt C H r S a)(es:List Nat):RoomsAt C (upd H a.aN (.lst (intV (nI es)))) r { S with went:=es } a:=by
 obtain⟨h0,kl,kd,kt⟩:=h.listUpd (o:=.lst (intV (nI es))) (mem_N (a:=a));obtain⟨⟨-,-,-,-,n1⟩,⟨-,-,-,n2⟩,⟨-,-,n3⟩,⟨-,n4⟩,n5,nc⟩:=nd7 h.ndL
 exact⟨h0,kl _ _ mem_R n1 h.hR,kl _ _ mem_W n2 h.hW,kl _ _ mem_G n3 h.hG,kl _ _ mem_E n4 h.hE,kl _ _ mem_C n5 h.hC,upd_same,h.rR.imp λq x _ hx e=>e.keepT kt (h.flat x hx),
  h.rW.imp λq x hq _ e=>kd _ _ (mem_ws hq) e,h.rG.imp λq x hq _ e=>kd _ _ (mem_gs hq) e,h.rC.imp λq x hq _ e=>kl _ _ (mem_cs hq) (nc q hq).2.2.2.2.2 e,h.flat,h.ndL,h.ndD⟩
theorem RoomsAt.addCalled (h:RoomsAt C H r S a){p:Addr}{l:List Nat}(hp:H p=some (.lst (intV (nI l))))(hn:p∉a.lists):RoomsAt C (upd H a.aC (.lst (a.cs.map V.ref++[.ref p]))) r { S with called:=S.called++[l] } { a with cs:=a.cs++[p] }:=by
 obtain⟨h0,kl,kd,kt⟩:=h.listUpd (o:=.lst (a.cs.map V.ref++[.ref p])) (mem_C (a:=a));obtain⟨⟨-,-,-,n1,-⟩,⟨-,-,n2,-⟩,⟨-,n3,-⟩,⟨n4,-⟩,n5,nc⟩:=nd7 h.ndL;have npc:p≠a.aC:=λz=>hn (by rw[z];exact mem_C)
 have hpw:upd H a.aC (.lst (a.cs.map V.ref++[.ref p])) p=some (.lst (intV (nI l))):=by rw[upd_ne npc];exact hp
 refine⟨h0,kl _ _ mem_R n1 h.hR,kl _ _ mem_W n2 h.hW,kl _ _ mem_G n3 h.hG,kl _ _ mem_E n4 h.hE,?_,kl _ _ mem_N n5.symm h.hN,h.rR.imp λq x _ hx e=>e.keepT kt (h.flat x hx),
  h.rW.imp λq x hq _ e=>kd _ _ (mem_ws hq) e,h.rG.imp λq x hq _ e=>kd _ _ (mem_gs hq) e,(h.rC.imp λq x hq _ e=>kl _ _ (mem_cs hq) (nc q hq).2.2.2.2.1 e).snoc hpw,h.flat,?_,h.ndD⟩
 ·show upd H a.aC _ a.aC=some (.lst ((a.cs++[p]).map V.ref));rw[upd_same,List.map_append];rfl
 ·show (a.lists++[p]).Nodup;refine List.nodup_append.mpr ⟨h.ndL,by simp,λx hx y hy z=>?_⟩;rw[List.mem_singleton.mp hy]at z;exact hn (z ▸ hx)
theorem RoomsAt.setCalled (h:RoomsAt C H r S a){i:Nat}{p:Addr}(hp:a.cs[i]?=some p)(l:List Nat):RoomsAt C (upd H p (.lst (intV (nI l)))) r { S with called:=S.called.set i l } a:=by
 have hm:=List.mem_of_getElem? hp;obtain⟨h0,kl,kd,kt⟩:=h.listUpd (o:=.lst (intV (nI l))) (mem_cs hm);obtain⟨-,-,-,-,-,nc⟩:=nd7 h.ndL;obtain⟨n1,n2,n3,n4,n5,n6⟩:=nc p hm
 have ncs:a.cs.Nodup:=by
  have:=h.ndL;unfold RA.lists at this;simp only[List.nodup_cons]at this;exact this.2.2.2.2.2.2
 exact⟨h0,kl _ _ mem_R n1.symm h.hR,kl _ _ mem_W n2.symm h.hW,kl _ _ mem_G n3.symm h.hG,kl _ _ mem_E n4.symm h.hE,kl _ _ mem_C n5.symm h.hC,kl _ _ mem_N n6.symm h.hN,h.rR.imp λq x _ hx e=>e.keepT kt (h.flat x hx),
  h.rW.imp λq x hq _ e=>kd _ _ (mem_ws hq) e,h.rG.imp λq x hq _ e=>kd _ _ (mem_gs hq) e,h.rC.set hp upd_same ncs λq y hq n e=>kl _ _ (mem_cs hq) n e,h.flat,h.ndL,h.ndD⟩
theorem RoomsAt.dictUpd (h:RoomsAt C H r S a){q:Addr}{o:HO}(hq:q∈a.dicts):upd H q o r=some (.ins C a.dx (flds S.L S.made a))/\(∀b x,b∈a.dicts->b≠q->H b=some x->upd H q o b=some x)/\(∀b x,b∈a.lists->H b=some x->upd H q o b=some x)/\∀b xs,H b=some (.tup xs)->upd H q o b=some (.tup xs):=
 ⟨by rw[upd_ne (h.rd hq)];exact h.ins,λb x _ n e=>by rw[upd_ne n];exact e,λb x hb e=>by rw[upd_ne (h.ld hb hq)];exact e,λb xs e=>by rw[upd_ne (h.td e hq)];exact e⟩
theorem RoomsAt.setWay (h:RoomsAt C H r S a){i:Nat}{p:Addr}(hp:a.ws[i]?=some p)(l:List (Int×Nat)):RoomsAt C (upd H p (.dK (wK l))) r { S with ways:=S.ways.set i l } a:=by
 have hm:=List.mem_of_getElem? hp;obtain⟨h0,kd,kl,kt⟩:=h.dictUpd (o:=.dK (wK l)) (mem_ws hm);have nd:=List.nodup_append.mp h.ndD
 exact⟨h0,kl _ _ mem_R h.hR,kl _ _ mem_W h.hW,kl _ _ mem_G h.hG,kl _ _ mem_E h.hE,kl _ _ mem_C h.hC,kl _ _ mem_N h.hN,h.rR.imp λq x _ hx e=>e.keepT kt (h.flat x hx),
  h.rW.set hp upd_same nd.1 λq y hq n e=>kd _ _ (mem_ws hq) n e,h.rG.imp λq x hq _ e=>kd _ _ (mem_gs hq) (λz=>nd.2.2 p hm q hq z.symm) e,h.rC.imp λq x hq _ e=>kl _ _ (mem_cs hq) e,h.flat,h.ndL,h.ndD⟩
theorem RoomsAt.setGap (h:RoomsAt C H r S a){i:Nat}{p:Addr}(hp:a.gs[i]?=some p)(l:List Int):RoomsAt C (upd H p (.dK (gK l))) r { S with gaps:=S.gaps.set i l } a:=by
 have hm:=List.mem_of_getElem? hp;obtain⟨h0,kd,kl,kt⟩:=h.dictUpd (o:=.dK (gK l)) (mem_gs hm);have nd:=List.nodup_append.mp h.ndD
 exact⟨h0,kl _ _ mem_R h.hR,kl _ _ mem_W h.hW,kl _ _ mem_G h.hG,kl _ _ mem_E h.hE,kl _ _ mem_C h.hC,kl _ _ mem_N h.hN,h.rR.imp λq x _ hx e=>e.keepT kt (h.flat x hx),
  h.rW.imp λq x hq _ e=>kd _ _ (mem_ws hq) (λz=>nd.2.2 q hq p hm z) e,h.rG.set hp upd_same nd.2.1 λq y hq n e=>kd _ _ (mem_gs hq) n e,h.rC.imp λq x hq _ e=>kl _ _ (mem_cs hq) e,h.flat,h.ndL,h.ndD⟩
end
def RS.setW (S:RS)(i:Nat)(l:List (Int×Nat)):RS:={ S with ways:=S.ways.set i l }
def RS.setG (S:RS)(i:Nat)(l:List Int):RS:={ S with gaps:=S.gaps.set i l }
def RS.way (S:RS)(c:Nat):List (Int×Nat):=S.ways.getD c []
def RS.gap (S:RS)(c:Nat):List Int:=S.gaps.getD c []
def RS.by (S:RS)(c:Nat)(z:Int):Option Nat:=getW (S.way c) z
def RS.putWay (S:RS)(c:Nat)(z:Int)(d:Nat):RS:=S.setW c (putW (S.way c) z d)
def RS.noGap (S:RS)(c:Nat)(z:Int):RS:=S.setG c ((S.gap c).filter λx=>decide (x≠z))
def RS.keep (S:RS)(c:Nat)(z:Int)(d:Nat):RS:=(((S.putWay c z d).putWay d (-z) c).noGap c z).noGap d (-z)
def rowNew (c:Nat)(z:Int)(n:Nat):Dt:=.t [.s [110,101,119],.i c,.i z,.i n]
def RS.grown (S:RS)(c:Nat)(z:Int)(gaps:List Int):RS:={ S with made:=S.made+ 1,rows:=S.rows++[rowNew c z S.made],ways:=S.ways++[[]],gaps:=S.gaps++[gaps],elders:=S.elders++[S.made],called:=S.called++[[S.made]] }
def RS.make (S:RS)(c:Nat)(z:Int)(gaps:List Int):RS:=(S.grown c z gaps).keep c z S.made
def RS.new (L:Nat)(gaps:List Int):RS:=⟨L,1,[],[[]],[gaps],[0],[[0]],[]⟩
structure RS.Wf (S:RS):Prop where
 w:S.ways.length=S.made
 g:S.gaps.length=S.made
 e:S.elders.length=S.made
 c:S.called.length=S.made
end L2
namespace L2
open PySem PySem.Spec PyProof.Rows
section
variable {X:Cx} {e:Expr} {f:Str} {ta:TE} {pos:Pos}
theorem pe_fldK {K:PySem.W.Frag}(hK:X.K=K)(he:PE X e ta)(hb:attributeBase e f X.env (eval e X.env)=eval e X.env):PE X (.Attribute e f pos) (tFld K ta f):=by
 subst hK;exact pe_fld he hb
end
theorem comp_make {α:Type}{J:It}{H:Hp}{fv:St}{te:TE}{Q:VK}(n:Nat)(xs:Nat->V)(R:Hp->V->Nat->Prop)(hR:∀H1 H2 v i,Same H1 H2->R H1 v i->R H2 v i)(hfit:n<=sizeLine)
 (hgo:∀(i:Nat) H2,Same H H2->i<n->J.go i H2) (hy:∀(i:Nat) (x:V) (H2 H3:Hp),Same H H2->i<n->J.yld i H2 x H3->H3=H2/\x=xs i) (hst:∀H2,Same H H2->J.stop n H2)
 (he:∀(i:Nat) (H2:Hp) (Rr:VK),i<n->Same H H2->(∀v H3,Same H2 H3->R H3 v i->Rr v H3)->te (some (xs i)::fv) H2 Rr)
 (hQ:∀D H2 ys,Same H H2->H2 D=none->ys.length=n->(∀(i:Nat) (v:V),ys[i]?=some v->R H2 v i)->Q (.ref D) (upd H2 D (.lst ys))):CompGo te fv Q J H:=by
 refine⟨λi m ys H2=>m=n - i/\i<=n/\ys.length=i/\Same H H2/\∀(j:Nat) (v:V),ys[j]?=some v->R H2 v j,⟨n,by simp,Nat.zero_le _,rfl,λ_ _ e=>e,λj v h=>by simp at h⟩,?_⟩;rintro i m ys H2 ⟨rfl,hi,hl,s2,hr⟩;by_cases hlt:i<n
 ·refine .inr ⟨hgo i H2 s2 hlt,by omega,λx H3 hyl=>?_⟩;obtain⟨rfl,rfl⟩:=hy i x H2 H3 s2 hlt hyl;refine he i _ _ hlt s2 λv H4 s4 hv=>⟨n - (i+ 1),by omega,rfl,hlt,by rw[List.length_append,hl];rfl,s2.trans s4,λj w hw=>?_⟩
  by_cases hj:j<ys.length
  ·rw[List.getElem?_append_left hj]at hw;exact hR _ _ _ _ s4 (hr j w hw)
  ·rw[List.getElem?_append_right (by omega)]at hw
   have ej:j - ys.length=0:=by
    have:=(List.getElem?_eq_some_iff.mp hw).1;rw[List.length_singleton]at this;omega
   rw[ej]at hw;have:j=i:=by omega
   subst this;rw[←Option.some.inj hw];exact hv
 ·have e:i=n:=by omega
  subst e;exact .inl ⟨hst H2 s2,by omega,λD hD=>hQ D H2 ys s2 hD hl hr⟩
end L2
namespace L2
open PySem PySem.Spec PyProof.Rows
theorem refs_of {P:Nat->Addr->Prop}:∀(ys:List V) (k:Nat),(∀(i:Nat) (v:V),ys[i]?=some v->∃p,v=.ref p/\P (k+ i) p)->∃ps:List Addr,ys=ps.map V.ref/\∀(i:Nat) (p:Addr),ps[i]?=some p->P (k+ i) p
 |[],_,_=>⟨[],rfl,λi p h=>by simp at h⟩
 |v::ys,k,h=>by
  obtain⟨p,rfl,hp⟩:=h 0 v rfl
  obtain⟨ps,rfl,hps⟩:=refs_of (P:=P) ys (k+ 1) λi w hw=>by
   obtain⟨q,e,hq⟩:=h (i+ 1) w (by simpa using hw);exact⟨q,e,by rw[show k+ 1+ i=k+ (i+ 1) by omega];exact hq⟩
  refine⟨p::ps,rfl,λi q hq=>?_⟩
  cases i with
  |zero=>obtain rfl:p=q:=by simpa using hq
         exact hp
  |succ i=>
   have:=hps i q (by simpa using hq);rw[show k+ 1+ i=k+ (i+ 1) by omega]at this;exact this
theorem putF_le {f:Str}{v:V}{n:Nat}:∀{fs:List (Str×V)},fs.length<=n->(putF f v fs).length<=n+ 1
 |[],h=>by show 1<=n+ 1;omega
 |(g,x)::r,h=>by
  show (if g=f then (g,v)::r else (g,x)::putF f v r).length<=n+ 1;rw[List.length_cons]at h;split
  ·rw[List.length_cons];omega
  ·have:=putF_le (f:=f) (v:=v) (n:=n - 1) (fs:=r) (by omega);rw[List.length_cons];omega
theorem kit_int_tuple (K:PySem.W.Frag):PySem.W.kitOne K (.type "int") (.type "tuple")=some false:=by first|rfl|kernel_rfl
theorem kit_int_list (K:PySem.W.Frag):PySem.W.kitOne K (.type "int") (.type "list")=some false:=by first|rfl|kernel_rfl
theorem kit_int_dict (K:PySem.W.Frag):PySem.W.kitOne K (.type "int") (.type "dict")=some false:=by first|rfl|kernel_rfl
theorem kit_str_tuple (K:PySem.W.Frag):PySem.W.kitOne K (.type "str") (.type "tuple")=some false:=by first|rfl|kernel_rfl
theorem kit_str_list (K:PySem.W.Frag):PySem.W.kitOne K (.type "str") (.type "list")=some false:=by first|rfl|kernel_rfl
theorem kit_str_dict (K:PySem.W.Frag):PySem.W.kitOne K (.type "str") (.type "dict")=some false:=by first|rfl|kernel_rfl
end L2
namespace L2
open PySem PySem.Spec PyProof.Rows
theorem pairs_rel {P:Program}{w:World}:∀{es:List DictEntry} {vs:List (Key×Value)} {kvs:List (Key×V)},Pairs (mixKind P w) es vs->KV kvs vs->Vals (kvs.map λkv=>kV kv.1) (es.map (·.key))
 |[],_,_,.nil,r=>by cases r;exact .nil
 |e::es,_,_,.cons h1 h2 h3,r=>by
  cases r with
  |cons a b=>
   rw[List.map_cons,List.map_cons];refine .cons ?_ (pairs_rel h3 b);rw[a.1];exact mix_rel h1
theorem pairs_len {P:Program}{w:World}:∀{es:List DictEntry} {vs:List (Key×Value)},Pairs (mixKind P w) es vs->es.length=vs.length
 |_,_,.nil=>rfl
 |_,_,.cons _ _ h=>by rw[List.length_cons,List.length_cons,pairs_len h]
section
variable {X:Cx}
def rListK:List V->Hp->VK->Prop:=λxs H Q=>∃(d:Addr) (kvs:List (Key×V)),xs=[.ref d]/\H d=some (.dK kvs)/\∀l,H l=none->Q (.ref l) (upd H l (.lst (kvs.map λkv=>kV kv.1)))
theorem call_list_dK (hc:X.calm=true):CallR X (.type "list") rListK:=by
 intro pins s σ H xs us Q I r h;obtain⟨d,kvs,rfl,hd,q⟩:=h;obtain⟨u,rfl,rx⟩:=vals1 r;cases rx;obtain⟨hz,hsm,vs,rel,o,es,ep,ho,hcx,hdat,hk,hp,hn⟩:=dk_of I.hok hd;have hlen:kvs.length=vs.length:=rel.length;have hel:=pairs_len hp;have hsz:es.size=kvs.length:=by rw[←Array.length_toList,hel,hlen]
 refine Dk.call_list (I.ok.hd hc) hsm ⟨o,ho,hcx,hdat⟩ (by omega) λg1 tk acc' c' hk' hS' hacc=>?_
 have ea:acc'.toList=es.toList.map (·.key):=by
  refine List.ext_getElem? λi=>?_
  rw[Array.getElem?_toList,List.getElem?_map,Array.getElem?_toList]
  cases hv:acc'[i]? with
  |none=>
   have hi:es.size<=i:=by
    have h1:acc'.size<=i:=Array.getElem?_eq_none_iff.mp hv;rw[hacc.1]at h1;exact h1
   rw[Array.getElem?_eq_none hi];rfl
  |some v=>
   obtain⟨en,e1,rfl⟩:=hacc.2 i v hv;rw[e1];rfl
 have eb:acc'=(es.toList.map (·.key)).toArray:=by rw[←ea]
 rw[eb]at hS';have hv:=pairs_rel hp rel;exact⟨.ref s.heap.objs.size,_,I.laid (t':=tk) hk' (Nat.le_refl _) (show ObjOk X.prog X.w _ g1 _ (.lst (kvs.map λkv=>kV kv.1)) from ⟨by rw[List.length_map];exact hz,_,c',hv,hS'⟩),rfl,q _ (I.hok.fresh (Nat.le_refl _))⟩
end
end L2
namespace L2
open PySem PySem.Spec PyProof.Rows
section
variable {C:Addr} {H H':Hp} {r:Addr} {S:RS} {a:RA}
theorem RoomsAt.newWay (h:RoomsAt C H r S a){i:Nat}(hi:i<a.ws.length){q:Addr}{l:List (Int×Nat)}(hq:H q=some (.dK (wK l)))(hn:q∉a.dicts):RoomsAt C (upd H a.aW (.lst ((a.ws.map V.ref).set i (.ref q)))) r { S with ways:=S.ways.set i l } { a with ws:=a.ws.set i q }:=by
 obtain⟨h0,kl,kd,kt⟩:=h.listUpd (o:=.lst ((a.ws.map V.ref).set i (.ref q))) (mem_W (a:=a));obtain⟨⟨n1,-⟩,⟨n2,n3,n4,n5⟩,-,-,-,nc⟩:=nd7 h.ndL;have hqw:upd H a.aW (.lst ((a.ws.map V.ref).set i (.ref q))) q=some (.dK (wK l)):=by rw[upd_ne (ne_of hq h.hW (by intro z;cases z))];exact hq
 have nd:=List.nodup_append.mp h.ndD
 refine⟨h0,kl _ _ mem_R n1 h.hR,?_,kl _ _ mem_G n2.symm h.hG,kl _ _ mem_E n3.symm h.hE,kl _ _ mem_C n4.symm h.hC,kl _ _ mem_N n5.symm h.hN,h.rR.imp λq x _ hx e=>e.keepT kt (h.flat x hx),
  ?_,h.rG.imp λq x hq _ e=>kd _ _ (mem_gs hq) e,h.rC.imp λq x hq _ e=>kl _ _ (mem_cs hq) (nc q hq).2.1 e,h.flat,h.ndL,?_⟩
 ·show upd H a.aW _ a.aW=some (.lst ((a.ws.set i q).map V.ref));rw[upd_same,List.map_set]
 ·refine⟨by show (a.ws.set i q).length=(S.ways.set i l).length;rw[List.length_set,List.length_set];exact h.rW.1,λj p x e1 e2=>?_⟩;have e1':(a.ws.set i q)[j]?=some p:=e1
  have e2':(S.ways.set i l)[j]?=some x:=e2
  by_cases z:i=j
  ·subst z;rw[List.getElem?_set_self hi]at e1';rw[List.getElem?_set_self (by rw[←h.rW.1];exact hi)]at e2';obtain rfl:=Option.some.inj e1';obtain rfl:=Option.some.inj e2';exact hqw
  ·rw[List.getElem?_set_ne z]at e1' e2';exact kd _ _ (mem_ws (List.mem_of_getElem? e1')) (h.rW.2 j p x e1' e2')
 ·show (a.ws.set i q++a.gs).Nodup;have qw:q∉a.ws:=λz=>hn (List.mem_append_left _ z)
  have qg:q∉a.gs:=λz=>hn (List.mem_append_right _ z)
  refine List.nodup_append.mpr ⟨?_,nd.2.1,λx hx y hy z=>?_⟩
  ·have:∀(l:List Addr) (i:Nat),l.Nodup->q∉l->(l.set i q).Nodup:=by
    intro l
    induction l with
    |nil=>intro i _ _;simp
    |cons x l ih=>
     intro i h1 h2;obtain⟨h3,h4⟩:=List.nodup_cons.mp h1;have h5:q≠x:=λz=>h2 (by rw[z];exact List.mem_cons_self)
     have h6:q∉l:=λz=>h2 (List.mem_cons_of_mem _ z)
     cases i with
     |zero=>exact List.nodup_cons.mpr ⟨h6,h4⟩
     |succ i=>
      refine List.nodup_cons.mpr ⟨λz=>?_,ih i h4 h6⟩;rcases List.mem_or_eq_of_mem_set z with z|z
      ·exact h3 z
      ·exact h5 z.symm
   exact this a.ws i nd.1 qw
  ·rcases List.mem_or_eq_of_mem_set hx with hx|hx
   ·exact nd.2.2 x hx y hy z
   ·rw[←hx,z]at qg;exact qg hy
end
theorem wK_drop (l:List (Int×Nat))(s:Int):dropK (wK l) (Sum.inl s)=wK (l.filter λp=>decide (p.1≠s)):=by
 unfold dropK wK;rw[List.filter_map]
 congr 1
 refine List.filter_congr λx _=>?_
 show decide ((Sum.inl x.1:Key)≠Sum.inl s)=decide (x.1≠s);rw[Bool.eq_iff_iff,decide_eq_true_iff,decide_eq_true_iff];exact⟨λh z=>h (congrArg Sum.inl z),λh z=>h (Sum.inl.inj z)⟩
theorem getW_drop (l:List (Int×Nat))(s t:Int):getW (l.filter λp=>decide (p.1≠s)) t=if t=s then none else getW l t:=by
 induction l with
 |nil=>unfold getW;split <;> rfl
 |cons p l ih=>
  have hc:∀(q:Int×Nat) (m:List (Int×Nat)),getW (q::m) t=if q.1=t then some q.2 else getW m t:=λq m=>by
   unfold getW;by_cases h:q.1=t
   ·rw[List.find?_cons_of_pos (by exact decide_eq_true h),if_pos h];rfl
   ·rw[List.find?_cons_of_neg (by simpa using h),if_neg h]
  by_cases h:p.1=s
  ·rw[List.filter_cons_of_neg (by simpa using h),ih,hc];by_cases e:t=s
   ·rw[if_pos e,if_pos e]
   ·rw[if_neg e,if_neg e,if_neg (λz=>e (z.symm.trans h))]
  ·rw[List.filter_cons_of_pos (by simpa using h),hc,hc,ih];by_cases e:p.1=t
   ·rw[if_pos e,if_pos e,if_neg (λz=>h (e.trans z))]
   ·rw[if_neg e,if_neg e]
abbrev Way:=Nat×Int×Nat
def RS.eld (S:RS)(c:Nat):Nat:=S.elders.getD c 0
def RS.cal (S:RS)(c:Nat):List Nat:=S.called.getD c []
def rowMeet (c:Nat)(z:Int)(x y:Nat):Dt:=.t [.s [109,101,101,116],.i c,.i z,.i x,.i y]
def RS.joined (S:RS)(c:Nat)(z:Int)(x y:Nat):RS:=
 { S with rows:=S.rows++[rowMeet c z x y],went:=S.went++[y],elders:=(S.cal y).foldl (λes n=>es.set n x) S.elders,called:=S.called.set x (S.cal x++S.cal y) }
def RS.dropWay (S:RS)(c:Nat)(z:Int):RS:=S.setW c ((S.way c).filter λp=>decide (p.1≠z))
def offStep (c:Nat)(st:RS×List Way)(p:Int×Nat):RS×List Way:=(if p.2≠c then st.1.dropWay p.2 (-p.1) else st.1,st.2++[(c,p.1,p.2)])
def RS.putOff (S:RS)(c:Nat)(pend:List Way):RS×List Way:=(S.way c).foldl (offStep c) (S.setW c [],pend)
def RS.meet (S:RS)(c:Nat)(z:Int)(x y:Nat)(pend:List Way):RS×List Way:=(S.joined c z (min x y) (max x y)).putOff (max x y) pend
def RS.takeIn (S:RS)(pend:List Way)(w:Way):RS×List Way:=
 if (S.by (S.eld w.1) w.2.1).getD (S.eld w.2.2)≠S.eld w.2.2 then S.meet (S.eld w.1) w.2.1 ((S.by (S.eld w.1) w.2.1).getD (S.eld w.2.2)) (S.eld w.2.2) pend
 else if (S.by (S.eld w.2.2) (-w.2.1)).getD (S.eld w.1)≠S.eld w.1 then S.meet (S.eld w.2.2) (-w.2.1) ((S.by (S.eld w.2.2) (-w.2.1)).getD (S.eld w.1)) (S.eld w.1) pend
 else (S.keep (S.eld w.1) w.2.1 (S.eld w.2.2),pend)
structure OffOk (S:RS) (c:Nat):Prop where
 nd:((S.way c).map (·.1)).Nodup
 lt:∀q∈S.way c,q.2<S.made
 bk:∀q∈S.way c,q.2≠c->(S.by q.2 (-q.1)).isSome=true
theorem way_setW {S:RS}{c c':Nat}{l:List (Int×Nat)}(hc:c<S.ways.length):(S.setW c l).way c'=if c'=c then l else S.way c':=by
 unfold RS.setW RS.way;show (S.ways.set c l).getD c' []=_;rw[List.getD_eq_getElem?_getD,List.getD_eq_getElem?_getD];by_cases h:c=c'
 ·subst h;rw[List.getElem?_set_self hc,if_pos rfl];rfl
 ·rw[List.getElem?_set_ne h,if_neg (Ne.symm h)]
theorem by_putWay {S:RS}{c c' d:Nat}{z z':Int}(hc:c<S.ways.length):(S.putWay c z d).by c' z'=if c'=c/\z'=z then some d else S.by c' z':=by
 unfold RS.putWay RS.by;rw[way_setW hc];by_cases h:c'=c
 ·subst h;rw[if_pos rfl,getW_put];by_cases hz:z'=z
  ·rw[if_pos hz,if_pos ⟨rfl,hz⟩]
  ·rw[if_neg hz,if_neg (λq=>hz q.2)]
 ·rw[if_neg h,if_neg (λq=>h q.1)]
theorem by_dropWay {S:RS}{c c':Nat}{z z':Int}(hc:c<S.ways.length):(S.dropWay c z).by c' z'=if c'=c/\z'=z then none else S.by c' z':=by
 unfold RS.dropWay RS.by;rw[way_setW hc];by_cases h:c'=c
 ·subst h;rw[if_pos rfl,getW_drop];by_cases hz:z'=z
  ·rw[if_pos hz,if_pos ⟨rfl,hz⟩]
  ·rw[if_neg hz,if_neg (λq=>hz q.2)]
 ·rw[if_neg h,if_neg (λq=>h q.1)]
theorem by_setW {S:RS}{c c':Nat}{l:List (Int×Nat)}{z:Int}(hc:c<S.ways.length):(S.setW c l).by c' z=if c'=c then getW l z else S.by c' z:=by
 unfold RS.by;rw[way_setW hc];split <;> rfl
def offs (c:Nat)(S:RS)(pend:List Way)(ps:List (Int×Nat)):RS×List Way:=ps.foldl (offStep c) (S.setW c [],pend)
theorem offs_snoc (c:Nat)(S:RS)(pend:List Way)(ps:List (Int×Nat))(p:Int×Nat):offs c S pend (ps++[p])=offStep c (offs c S pend ps) p:=by unfold offs;rw[List.foldl_append];rfl
theorem snoc_ind {α:Type}{P:List α->Prop}(h0:P [])(h1:∀l x,P l->P (l++[x])):∀l,P l:=λl=>by
 have:∀n (l:List α),l.length=n->P l:=by
  intro n
  induction n with
  |zero=>intro l e;rw[List.eq_nil_of_length_eq_zero e];exact h0
  |succ n ih=>
   intro l e;have hne:l≠[]:=λz=>by rw[z]at e;cases e
   rw[←List.dropLast_concat_getLast hne];exact h1 _ _ (ih _ (by rw[List.length_dropLast];omega))
 exact this _ l rfl
theorem offs_pend (c:Nat)(S:RS)(pend:List Way):∀ps:List (Int×Nat),(offs c S pend ps).2=pend++ps.map λp=>(c,p.1,p.2):=by
 refine snoc_ind (by simp[offs]) λps p ih=>?_
 rw[offs_snoc];show (offs c S pend ps).2++_=_;rw[ih,List.map_append,List.append_assoc];rfl
theorem offs_rest (c:Nat)(S:RS)(pend:List Way):∀ps:List (Int×Nat),(offs c S pend ps).1.ways.length=S.ways.length/\(offs c S pend ps).1={ S with ways:=(offs c S pend ps).1.ways }:=by
 refine snoc_ind ⟨by simp[offs,RS.setW],rfl⟩ λps p ih=>?_
 rw[offs_snoc];unfold offStep;by_cases h:p.2≠c
 ·simp only[h,if_true,not_false_eq_true,ne_eq];refine⟨?_,?_⟩
  ·show (List.set _ _ _).length=_;rw[List.length_set];exact ih.1
  ·unfold RS.dropWay RS.setW;rw[ih.2]
 ·simp only[h,if_false];exact ih
theorem offs_by {c:Nat}{S:RS}{pend:List Way}(hc:c<S.ways.length):∀ps:List (Int×Nat),(∀q∈ps,q.2<S.ways.length)->∀d z,(offs c S pend ps).1.by d z=if d=c\/∃q∈ps,q.2=d/\z= -q.1 then none else S.by d z:=by
 refine snoc_ind (λ_ d z=>?_) λps p ih hl d z=>?_
 ·show (S.setW c []).by d z=_;rw[by_setW hc];by_cases h:d=c
  ·rw[if_pos h,if_pos (.inl h)];rfl
  ·rw[if_neg h,if_neg (by rintro (q|⟨q,hq,_⟩);exact h q;cases hq)]
 ·have ih':=ih (λq hq=>hl q (List.mem_append_left _ hq)) d z;have hp:=hl p (List.mem_append_right _ List.mem_cons_self);rw[offs_snoc];unfold offStep;by_cases h:p.2≠c
  ·simp only[h,if_true,not_false_eq_true,ne_eq];rw[by_dropWay (by rw[(offs_rest c S pend ps).1];exact hp),ih'];by_cases e:d=p.2/\z= -p.1
   ·rw[if_pos e,if_pos (.inr ⟨p,List.mem_append_right _ List.mem_cons_self,e.1.symm,e.2⟩)]
   ·rw[if_neg e];by_cases e2:d=c\/∃q∈ps,q.2=d/\z= -q.1
    ·rw[if_pos e2,if_pos (e2.imp id λ⟨q,hq,r⟩=>⟨q,List.mem_append_left _ hq,r⟩)]
    ·rw[if_neg e2,if_neg];rintro (q|⟨q,hq,r⟩)
     ·exact e2 (.inl q)
     ·rcases List.mem_append.mp hq with hq|hq
      ·exact e2 (.inr ⟨q,hq,r⟩)
      ·rw[List.mem_singleton.mp hq]at r;exact e ⟨r.1.symm,r.2⟩
  ·simp only[h,if_false];rw[ih'];have h':p.2=c:=Decidable.not_not.mp h;by_cases e2:d=c\/∃q∈ps,q.2=d/\z= -q.1
   ·rw[if_pos e2,if_pos (e2.imp id λ⟨q,hq,r⟩=>⟨q,List.mem_append_left _ hq,r⟩)]
   ·rw[if_neg e2,if_neg];rintro (q|⟨q,hq,r⟩)
    ·exact e2 (.inl q)
    ·rcases List.mem_append.mp hq with hq|hq
     ·exact e2 (.inr ⟨q,hq,r⟩)
     ·rw[List.mem_singleton.mp hq]at r;exact e2 (.inl (r.1.symm.trans h'))
end L2
namespace L2
open PySem PySem.Spec PyProof.Rows
inductive Cg (R:Nat->Int->Nat->Prop):Nat->Nat->Prop where
 |refl (a:Nat):Cg R a a
 |symm {a b:Nat}:Cg R a b->Cg R b a
 |trans {a b c:Nat}:Cg R a b->Cg R b c->Cg R a c
 |step {a a' b b':Nat} {z:Int}:R a z b->R a' z b'->Cg R a a'->Cg R b b'
theorem Cg.mono {R R':Nat->Int->Nat->Prop}(h:∀a z b,R a z b->R' a z b){a b:Nat}(c:Cg R a b):Cg R' a b:=by
 induction c with
 |refl=>exact .refl _
 |symm _ ih=>exact .symm ih
 |trans _ _ i1 i2=>exact .trans i1 i2
 |step r1 r2 _ ih=>exact .step (h _ _ _ r1) (h _ _ _ r2) ih
def Im (S:RS)(R:Nat->Int->Nat->Prop)(c:Nat)(z:Int)(d:Nat):Prop:=∃c' d',R c' z d'/\S.eld c'=c/\S.eld d'=d
def Cov (S:RS)(pend:List Way)(c:Nat)(z:Int)(d:Nat):Prop:=S.by c z=some d\/∃w∈pend,(S.eld w.1=c/\w.2.1=z/\S.eld w.2.2=d)\/(S.eld w.1=d/\w.2.1= -z/\S.eld w.2.2=c)
structure Good (S:RS) (pend:List Way) (R:Nat->Int->Nat->Prop):Prop where
 wf:S.Wf
 el:∀c,c<S.made->S.eld c<=c/\S.eld (S.eld c)=S.eld c
 ca:∀e,e<S.made->S.eld e=e->∀c,c∈S.cal e↔c<S.made/\S.eld c=e
 cb:∀e c,c∈S.cal e->c<S.made
 cn:∀e,(S.cal e).Nodup
 kn:∀c,((S.way c).map (·.1)).Nodup
 st:∀c z d,S.by c z=some d->c<S.made/\d<S.made/\S.eld c=c/\S.eld d=d
 sy:∀c z d,S.by c z=some d->S.by d (-z)=some c
 pl:∀w∈pend,w.1<S.made/\w.2.2<S.made
 rl:∀c z d,R c z d->c<S.made/\d<S.made/\R d (-z) c
 cv:∀c z d,R c z d->Cov S pend (S.eld c) z (S.eld d)
 so:∀c z d,S.by c z=some d->Im S R c z d
 sp:∀w∈pend,Im S R (S.eld w.1) w.2.1 (S.eld w.2.2)
 cg:∀c,c<S.made->Cg R c (S.eld c)
section
variable {S:RS} {pend:List Way} {R:Nat->Int->Nat->Prop}
theorem Good.lt (h:Good S pend R){c:Nat}(hc:c<S.made):S.eld c<S.made:=Nat.lt_of_le_of_lt (h.el c hc).1 hc
theorem Im.back (h:Good S pend R){c d:Nat}{z:Int}(i:Im S R c z d):Im S R d (-z) c:=by
 obtain⟨c',d',r,e1,e2⟩:=i;exact⟨d',c',(h.rl _ _ _ r).2.2,e2,e1⟩
theorem Good.must (h:Good S pend R){c x y:Nat}{z:Int}(i:Im S R c z x)(j:Im S R c z y):Cg R x y:=by
 obtain⟨c1,x1,r1,e1,e2⟩:=i;obtain⟨c2,y2,r2,f1,f2⟩:=j;obtain⟨l1,l2,_⟩:=h.rl _ _ _ r1;obtain⟨m1,m2,_⟩:=h.rl _ _ _ r2;have a1:=h.cg _ l1;have a2:=h.cg _ l2;have b1:=h.cg _ m1;have b2:=h.cg _ m2;rw[e1]at a1;rw[e2]at a2;rw[f1]at b1;rw[f2]at b2;exact a2.symm.trans ((Cg.step r1 r2 (a1.trans b1.symm)).trans b2)
theorem Good.keep (h:Good S pend R){c d:Nat}{z:Int}(hc:c<S.made)(hd:d<S.made)(ec:S.eld c=c)(ed:S.eld d=d)(i:Im S R c z d)(h1:S.by c z=none\/S.by c z=some d)(h2:S.by d (-z)=none\/S.by d (-z)=some c){pend':List Way}(hp:∀w∈pend',w∈pend)
 (hcv:∀w∈pend,w∉pend'->S.eld w.1=c/\w.2.1=z/\S.eld w.2.2=d):Good (S.keep c z d) pend' R:=by
 have hcw:c<S.ways.length:=by rw[h.wf.w];exact hc
 have hdw:d<S.ways.length:=by rw[h.wf.w];exact hd
 have hby:∀a s,(S.keep c z d).by a s=if a=d/\s= -z then some c else if a=c/\s=z then some d else S.by a s:=λa s=>by
  show ((S.putWay c z d).putWay d (-z) c).by a s=_;rw[by_putWay (by show d<(S.ways.set c _).length;rw[List.length_set];exact hdw),by_putWay hcw]
 have old:∀a s b,S.by a s=some b->(S.keep c z d).by a s=some b:=λa s b e=>by
  rw[hby];by_cases q1:a=d/\s= -z
  ·rw[if_pos q1];obtain⟨rfl,rfl⟩:=q1;rcases h2 with q|q <;> rw[q]at e <;> cases e
   rfl
  ·rw[if_neg q1];by_cases q2:a=c/\s=z
   ·rw[if_pos q2];obtain⟨rfl,rfl⟩:=q2;rcases h1 with q|q <;> rw[q]at e <;> cases e
    rfl
   ·rw[if_neg q2];exact e
 have el:∀a,(S.keep c z d).eld a=S.eld a:=λa=>rfl
 have new:∀a s b,(S.keep c z d).by a s=some b->(a=d/\s= -z/\b=c)\/(a=c/\s=z/\b=d)\/S.by a s=some b:=λa s b e=>by
  rw[hby]at e;by_cases q1:a=d/\s= -z
  ·rw[if_pos q1]at e;exact .inl ⟨q1.1,q1.2,(Option.some.inj e).symm⟩
  ·rw[if_neg q1]at e;by_cases q2:a=c/\s=z
   ·rw[if_pos q2]at e;exact .inr (.inl ⟨q2.1,q2.2,(Option.some.inj e).symm⟩)
   ·rw[if_neg q2]at e;exact .inr (.inr e)
 have put1:(S.keep c z d).by d (-z)=some c:=by rw[hby,if_pos ⟨rfl,rfl⟩]
 have put2:(S.keep c z d).by c z=some d:=by
  rw[hby];by_cases q1:c=d/\z= -z
  ·rw[if_pos q1,q1.1]
  ·rw[if_neg q1,if_pos ⟨rfl,rfl⟩]
 have knp:∀(l:List (Int×Nat)) (s:Int) (r:Nat),(l.map (·.1)).Nodup->((putW l s r).map (·.1)).Nodup:=λl s r hl=>by
  unfold putW;split
  ·rw[List.map_map]
   have:((λx:Int×Nat=>x.1) ∘ λp:Int×Nat=>if p.1=s then (p.1,r) else p)=λx=>x.1:=by
    funext p
    show (if p.1=s then (p.1,r) else p).1=p.1;split <;> rfl
   rw[this];exact hl
  ·rename_i q;rw[List.map_append];refine List.nodup_append.mpr ⟨hl,by simp,λa ha b hb e=>q ?_⟩;obtain⟨p,hp,rfl⟩:=List.mem_map.mp ha;have:b=s:=by simpa using hb
   exact List.any_eq_true.mpr ⟨p,hp,decide_eq_true (e.trans this)⟩
 refine⟨⟨?_,?_,h.wf.e,h.wf.c⟩,h.el,h.ca,h.cb,h.cn,λa=>?_,λa s b e=>?_,λa s b e=>?_,λw hw=>h.pl w (hp w hw),h.rl,λa s b r=>?_,λa s b e=>?_,λw hw=>h.sp w (hp w hw),h.cg⟩
 ·show ((List.set _ _ _).set _ _).length=S.made;rw[List.length_set,List.length_set];exact h.wf.w
 ·show ((List.set _ _ _).set _ _).length=S.made;rw[List.length_set,List.length_set];exact h.wf.g
 ·show ((((S.putWay c z d).putWay d (-z) c).way a).map (·.1)).Nodup;unfold RS.putWay;rw[way_setW (by show d<(S.ways.set c _).length;rw[List.length_set];exact hdw)]
  have k1:∀a,(((S.setW c (putW (S.way c) z d)).way a).map (·.1)).Nodup:=λa=>by
   rw[way_setW hcw];split
   ·exact knp _ _ _ (h.kn c)
   ·exact h.kn a
  split
  ·exact knp _ _ _ (k1 d)
  ·exact k1 a
 ·rcases new a s b e with ⟨rfl,rfl,rfl⟩|⟨rfl,rfl,rfl⟩|e
  ·exact⟨hd,hc,ed,ec⟩
  ·exact⟨hc,hd,ec,ed⟩
  ·exact h.st a s b e
 ·rcases new a s b e with ⟨rfl,rfl,rfl⟩|⟨rfl,rfl,rfl⟩|e
  ·rw[Int.neg_neg];exact put2
  ·exact put1
  ·exact old _ _ _ (h.sy _ _ _ e)
 ·rcases h.cv a s b r with q|⟨w,hw,q⟩
  ·exact .inl (old _ _ _ q)
  ·by_cases hm:w∈pend'
   ·exact .inr ⟨w,hm,q⟩
   ·obtain⟨f1,f2,f3⟩:=hcv w hw hm;refine .inl ?_;show (S.keep c z d).by (S.eld a) s=some (S.eld b);rcases q with ⟨q1,q2,q3⟩|⟨q1,q2,q3⟩
    ·rw[←q1,←q2,←q3,f1,f2,f3];exact put2
    ·have es:s= -z:=by rw[←f2,q2,Int.neg_neg]
     rw[←q1,←q3,f1,f3,es];exact put1
 ·rcases new a s b e with ⟨rfl,rfl,rfl⟩|⟨rfl,rfl,rfl⟩|e
  ·exact Im.back h i
  ·exact i
  ·exact h.so a s b e
end
theorem fold_set (x:Nat):∀(l es:List Nat) (a:Nat),(∀n∈l,n<es.length)->(l.foldl (λes n=>es.set n x) es).getD a 0=if a∈l then x else es.getD a 0
 |[],es,a,_=>by simp
 |n::l,es,a,h=>by
  rw[List.foldl_cons,fold_set x l (es.set n x) a (λm hm=>by rw[List.length_set];exact h m (List.mem_cons_of_mem _ hm))];by_cases h1:a∈l
  ·rw[if_pos h1,if_pos (List.mem_cons_of_mem _ h1)]
  ·rw[if_neg h1];by_cases h2:a=n
   ·subst h2;rw[if_pos List.mem_cons_self,List.getD_eq_getElem?_getD,List.getElem?_set_self (h a List.mem_cons_self)];rfl
   ·rw[if_neg (λz=>(List.mem_cons.mp z).elim h2 h1),List.getD_eq_getElem?_getD,List.getElem?_set_ne (Ne.symm h2),←List.getD_eq_getElem?_getD]
theorem fold_setL (x:Nat):∀(l es:List Nat),(l.foldl (λes n=>es.set n x) es).length=es.length
 |[],_=>rfl
 |n::l,es=>by rw[List.foldl_cons,fold_setL x l,List.length_set]
theorem getW_some {l:List (Int×Nat)}{s:Int}{r:Nat}(h:getW l s=some r):(s,r)∈l:=by
 unfold getW at h;obtain⟨q,hq,rfl⟩:=Option.map_eq_some_iff.mp h;have h1:=List.find?_some hq;have h2:=List.mem_of_find?_eq_some hq;have:q.1=s:=of_decide_eq_true h1;rw[←this];exact h2
theorem getW_of {l:List (Int×Nat)}(nd:(l.map (·.1)).Nodup){q:Int×Nat}(h:q∈l):getW l q.1=some q.2:=by
 induction l with
 |nil=>cases h
 |cons p l ih=>
  unfold getW;rw[List.map_cons,List.nodup_cons]at nd;by_cases e:p.1=q.1
  ·rw[List.find?_cons_of_pos (by exact decide_eq_true e)];rcases List.mem_cons.mp h with rfl|h
   ·rfl
   ·exact absurd (by rw[e];exact List.mem_map_of_mem h) nd.1
  ·rw[List.find?_cons_of_neg (by simpa using e)];rcases List.mem_cons.mp h with rfl|h
   ·exact absurd rfl e
   ·exact ih nd.2 h
theorem nodup_lenN:∀(n:Nat) (l:List Nat),l.Nodup->(∀x∈l,x<n)->l.length<=n
 |0,[],_,_=>Nat.le_refl _
 |0,a::l,_,h=>absurd (h a (List.mem_cons_self ..)) (by omega)
 |n+ 1,l,hn,h=>by
  by_cases hm:n∈l
  ·have:=nodup_lenN n (l.erase n) (hn.erase n) (λx hx=>by
    have h1:=(hn.mem_erase_iff).mp hx;have h2:=h x h1.2;have h3:=h1.1;omega)
   rw[List.length_erase_of_mem hm]at this;omega
  ·have:=nodup_lenN n l hn (λx hx=>by
    have h2:=h x hx;have h3:x≠n:=λz=>hm (by rw[←z];exact hx)
    omega)
   omega
theorem nodup_sub:∀(k l:List Int),l.Nodup->(∀x∈l,x∈k)->l.length<=k.length
 |[],[],_,_=>Nat.le_refl _
 |[],a::l,_,h=>by have:=h a List.mem_cons_self;cases this
 |y::k,l,hn,h=>by
  by_cases hm:y∈l
  ·have:=nodup_sub k (l.erase y) (hn.erase y) (λx hx=>by
    have h1:=(hn.mem_erase_iff).mp hx;rcases List.mem_cons.mp (h x h1.2) with e|e
    ·exact absurd e h1.1
    ·exact e)
   rw[List.length_erase_of_mem hm]at this;have:1<=l.length:=List.length_pos_of_mem hm;rw[List.length_cons];omega
  ·have:=nodup_sub k l hn (λx hx=>by
    rcases List.mem_cons.mp (h x hx) with e|e
    ·exact absurd (e ▸ hx) hm
    ·exact e)
   rw[List.length_cons];omega
theorem offs_kn {c:Nat}{S:RS}{pend:List Way}(hc:c<S.ways.length)(kn:∀a,((S.way a).map (·.1)).Nodup):∀ps:List (Int×Nat),(∀q∈ps,q.2<S.ways.length)->∀a,(((offs c S pend ps).1.way a).map (·.1)).Nodup:=by
 refine snoc_ind (λ_ a=>?_) λps p ih hl a=>?_
 ·show (((S.setW c []).way a).map (·.1)).Nodup;rw[way_setW hc];split
  ·exact List.nodup_nil
  ·exact kn a
 ·have ih':=ih (λq hq=>hl q (List.mem_append_left _ hq));rw[offs_snoc];unfold offStep;by_cases h:p.2≠c
  ·simp only[h,if_true,not_false_eq_true,ne_eq];unfold RS.dropWay;rw[way_setW (by rw[(offs_rest c S pend ps).1];exact hl p (List.mem_append_right _ List.mem_cons_self))];split
   ·exact List.Nodup.sublist (List.Sublist.map _ List.filter_sublist) (ih' p.2)
   ·exact ih' a
  ·simp only[h,if_false];exact ih' a
section
variable {S:RS} {pend:List Way} {R:Nat->Int->Nat->Prop}
theorem Cov.back (h:Good S pend R){S':RS}{pend':List Way}(sy:∀c z d,S'.by c z=some d->S'.by d (-z)=some c){c d:Nat}{z:Int}(i:Cov S' pend' c z d):Cov S' pend' d (-z) c:=by
 rcases i with q|⟨w,hw,q⟩
 ·exact .inl (sy _ _ _ q)
 ·refine .inr ⟨w,hw,?_⟩;rcases q with ⟨q1,q2,q3⟩|⟨q1,q2,q3⟩
  ·exact .inr ⟨q1,by rw[q2,Int.neg_neg],q3⟩
  ·exact .inl ⟨q1,q2,q3⟩
theorem Good.meet (h:Good S pend R){c x y:Nat}{z:Int}(hx:S.by c z=some x)(hy:y<S.made)(ey:S.eld y=y)(hxy:x≠y)(iy:Im S R c z y){pend':List Way}(hp:∀w∈pend',w∈pend)
 (hcv:∀w∈pend,w∉pend'->(S.eld w.1=c/\w.2.1=z/\S.eld w.2.2=y)\/(S.eld w.1=y/\w.2.1= -z/\S.eld w.2.2=c)):
 Good (S.meet c z x y pend').1 (S.meet c z x y pend').2 R/\(∀a,(S.meet c z x y pend').1.eld a=if S.eld a=max x y then min x y else S.eld a)/\(S.meet c z x y pend').2=pend'++(S.way (max x y)).map (λp=>(max x y,p.1,p.2)):=by
 obtain⟨hc,hxm,ec,ex⟩:=h.st _ _ _ hx;have hcgxy:Cg R x y:=h.must (h.so _ _ _ hx) iy;have hu:min x y<S.made:=by omega
 have hv:max x y<S.made:=by omega
 have huv:min x y<max x y:=by omega
 have eu:S.eld (min x y)=min x y:=by rcases Nat.lt_or_ge x y with q|q;rw[Nat.min_eq_left (by omega)];exact ex;rw[Nat.min_eq_right (by omega)];exact ey
 have ev:S.eld (max x y)=max x y:=by rcases Nat.lt_or_ge x y with q|q;rw[Nat.max_eq_right (by omega)];exact ey;rw[Nat.max_eq_left (by omega)];exact ex
 have xuv:x=min x y\/x=max x y:=by omega
 have yuv:y=min x y\/y=max x y:=by omega
 have hcguv:Cg R (max x y) (min x y):=by
  rcases Nat.lt_or_ge x y with q|q
  ·rw[Nat.max_eq_right (by omega),Nat.min_eq_left (by omega)];exact hcgxy.symm
  ·rw[Nat.max_eq_left (by omega),Nat.min_eq_right (by omega)];exact hcgxy
 unfold RS.meet;generalize max x y=v at hv huv ev xuv yuv hcguv ⊢;generalize min x y=u at hu huv eu xuv yuv hcguv ⊢;have hvw:v<S.ways.length:=by rw[h.wf.w];exact hv
 have hqs:∀q∈S.way v,q.2<S.ways.length:=λq hq=>by
  rw[h.wf.w];exact(h.st v q.1 q.2 (getW_of (h.kn v) hq)).2.1
 have hP:((S.joined c z u v).putOff v pend')=offs v (S.joined c z u v) pend' (S.way v):=rfl;rw[hP];have rest:=offs_rest v (S.joined c z u v) pend' (S.way v);have byJ:∀a s,(S.joined c z u v).by a s=S.by a s:=λa s=>rfl
 have hby:∀a s,(offs v (S.joined c z u v) pend' (S.way v)).1.by a s=if a=v\/S.by a s=some v then none else S.by a s:=λa s=>by
  rw[offs_by (S:=S.joined c z u v) hvw _ hqs,byJ]
  have:(a=v\/∃q∈S.way v,q.2=a/\s= -q.1)↔(a=v\/S.by a s=some v):=by
   refine or_congr Iff.rfl ⟨?_,λe=>?_⟩
   ·rintro ⟨q,hq,rfl,rfl⟩;exact h.sy _ _ _ (getW_of (h.kn v) hq)
   ·have:=getW_some (h.sy _ _ _ e);exact⟨_,this,rfl,(Int.neg_neg s).symm⟩
  simp only[this]
 have hpe:(offs v (S.joined c z u v) pend' (S.way v)).2=pend'++(S.way v).map λp=>(v,p.1,p.2):=offs_pend _ _ _ _
 have hkn:=offs_kn (S:=S.joined c z u v) (pend:=pend') hvw h.kn (S.way v) hqs
 have heq:∀a,(offs v (S.joined c z u v) pend' (S.way v)).1.eld a=if S.eld a=v then u else S.eld a:=λa=>by
  rw[rest.2];show ((S.cal v).foldl (λes n=>es.set n u) S.elders).getD a 0=_;rw[fold_set u _ _ _ (λn hn=>by rw[h.wf.e];exact h.cb v n hn)];by_cases ha:a<S.made
  ·have:=h.ca v hv ev a;by_cases e:S.eld a=v
   ·rw[if_pos (this.mpr ⟨ha,e⟩),if_pos e]
   ·rw[if_neg (λq=>e (this.mp q).2),if_neg e];rfl
  ·have e0:S.eld a=0:=by unfold RS.eld;rw[List.getD_eq_getElem?_getD,List.getElem?_eq_none (by rw[h.wf.e];omega)];rfl
   rw[if_neg (λq=>ha (h.cb v a q)),if_neg (by rw[e0];omega)];rfl
 have hcal:∀e,(offs v (S.joined c z u v) pend' (S.way v)).1.cal e=if e=u then S.cal u++S.cal v else S.cal e:=λe=>by
  rw[rest.2];show (S.called.set u (S.cal u++S.cal v)).getD e []=_;rw[List.getD_eq_getElem?_getD];by_cases q:e=u
  ·subst q;rw[List.getElem?_set_self (by rw[h.wf.c];exact hu),if_pos rfl];rfl
  ·rw[List.getElem?_set_ne (Ne.symm q),if_neg q];unfold RS.cal;rw[List.getD_eq_getElem?_getD]
 have hmade:(offs v (S.joined c z u v) pend' (S.way v)).1.made=S.made:=by rw[rest.2];rfl
 have hwf:(offs v (S.joined c z u v) pend' (S.way v)).1.Wf:=by
  refine⟨by rw[rest.1,hmade];exact h.wf.w,?_,?_,?_⟩
  ·rw[rest.2];exact h.wf.g
  ·rw[rest.2];show ((S.cal v).foldl (λes n=>es.set n u) S.elders).length=S.made;rw[fold_setL];exact h.wf.e
  ·rw[rest.2];show (S.called.set u (S.cal u++S.cal v)).length=S.made;rw[List.length_set];exact h.wf.c
 generalize (offs v (S.joined c z u v) pend' (S.way v)).2=P2 at hpe ⊢;generalize (offs v (S.joined c z u v) pend' (S.way v)).1=S2 at rest hby hkn heq hcal hmade hwf ⊢;clear rest;refine⟨?_,heq,hpe⟩
 have bo:∀a s b,S2.by a s=some b↔S.by a s=some b/\a≠v/\b≠v:=λa s b=>by
  rw[hby];by_cases q:a=v\/S.by a s=some v
  ·rw[if_pos q];refine⟨(λz=>by cases z),λ⟨e,n1,n2⟩=>?_⟩;rcases q with q|q
   ·exact absurd q n1
   ·rw[q]at e;exact absurd (Option.some.inj e).symm n2
  ·rw[if_neg q];refine⟨λe=>⟨e,λz=>q (.inl z),λz=>q (.inr (by rw[e,z]))⟩,λe=>e.1⟩
 have nv2:∀a,S2.eld (S.eld a)=S2.eld a:=λa=>by
  rw[heq,heq];by_cases ha:a<S.made
  ·rw[(h.el a ha).2]
  ·have e0:∀a,¬a<S.made->S.eld a=0:=λa ha=>by unfold RS.eld;rw[List.getD_eq_getElem?_getD,List.getElem?_eq_none (by rw[h.wf.e];omega)];rfl
   rw[e0 a ha];have:S.eld 0=0:=by have:=(h.el 0 (by omega)).1;omega
   rw[this]
 have eqv:∀{a b},S.eld a=S.eld b->S2.eld a=S2.eld b:=λ{a b} e=>by rw[heq,heq,e]
 have sy2:∀a s b,S2.by a s=some b->S2.by b (-s)=some a:=λa s b e=>by
  rw[bo]at e ⊢;exact⟨h.sy _ _ _ e.1,e.2.2,e.2.1⟩
 have std:∀{a},S.eld a=a->S2.eld a=if a=v then u else a:=λ{a} e=>by rw[heq,e]
 have kept:∀p s q,S.by p s=some q->Cov S2 P2 (S2.eld p) s (S2.eld q):=λp s q e=>by
  obtain⟨lp,lq,ep,eq⟩:=h.st _ _ _ e;by_cases h1:p=v
  ·refine .inr ⟨(v,s,q),?_,.inl ⟨by rw[h1],rfl,rfl⟩⟩;rw[hpe];rw[h1]at e;exact List.mem_append_right _ (List.mem_map.mpr ⟨(s,q),getW_some e,rfl⟩)
  ·by_cases h2:q=v
   ·refine .inr ⟨(v,-s,p),?_,.inr ⟨by rw[h2],rfl,rfl⟩⟩;rw[hpe];have e':=h.sy _ _ _ e;rw[h2]at e';exact List.mem_append_right _ (List.mem_map.mpr ⟨(-s,p),getW_some e',rfl⟩)
   ·refine .inl ?_;rw[std ep,std eq,if_neg h1,if_neg h2];exact(bo _ _ _).mpr ⟨e,h1,h2⟩
 have eu2:S2.eld u=u:=by rw[std eu,if_neg (by omega)]
 have ev2:S2.eld v=u:=by rw[std ev,if_pos rfl]
 have exy:S2.eld x=S2.eld y:=by
  have q1:S2.eld x=u:=by rcases xuv with q|q <;> rw[q] <;> assumption
  have q2:S2.eld y=u:=by rcases yuv with q|q <;> rw[q] <;> assumption
  rw[q1,q2]
 have imq:∀{a b s},Im S R (S.eld a) s (S.eld b)->Im S2 R (S2.eld a) s (S2.eld b):=λ{a b s} ⟨a',b',r,e1,e2⟩=>⟨a',b',r,eqv e1,eqv e2⟩
 refine⟨hwf,λa ha=>?_,λe he ee a=>?_,λe a ha=>?_,λe=>?_,hkn,λa s b e=>?_,sy2,λw hw=>?_,λa s b r=>?_,λa s b r=>?_,λa s b e=>?_,λw hw=>?_,λa ha=>?_⟩
 ·rw[hmade]at ha;obtain⟨l1,l2⟩:=h.el a ha;rw[heq];by_cases q:S.eld a=v
  ·rw[if_pos q];exact⟨by omega,eu2⟩
  ·rw[if_neg q];exact⟨l1,by rw[heq,l2,if_neg q]⟩
 ·rw[hmade]at he ⊢;rw[hcal];have nev:e≠v:=λz=>by rw[z,ev2]at ee;omega
  by_cases q:e=u
  ·subst q;rw[if_pos rfl,List.mem_append,h.ca _ hu eu,h.ca v hv ev,heq];constructor
   ·rintro (⟨q1,q2⟩|⟨q1,q2⟩)
    ·exact⟨q1,by rw[if_neg (by omega)];exact q2⟩
    ·exact⟨q1,by rw[if_pos q2]⟩
   ·rintro ⟨q1,q2⟩;by_cases q3:S.eld a=v
    ·exact .inr ⟨q1,q3⟩
    ·rw[if_neg q3]at q2;exact .inl ⟨q1,q2⟩
  ·rw[if_neg q]
   have e0:S.eld e=e:=by
    rw[heq]at ee;by_cases q3:S.eld e=v
    ·rw[if_pos q3]at ee;exact absurd ee.symm q
    ·rw[if_neg q3]at ee;exact ee
   rw[h.ca e he e0,heq];constructor
   ·rintro ⟨q1,q2⟩;exact⟨q1,by rw[if_neg (by rw[q2];exact nev)];exact q2⟩
   ·rintro ⟨q1,q2⟩;by_cases q3:S.eld a=v
    ·rw[if_pos q3]at q2;exact absurd q2.symm q
    ·rw[if_neg q3]at q2;exact⟨q1,q2⟩
 ·rw[hmade];rw[hcal]at ha;split at ha
  ·rcases List.mem_append.mp ha with ha|ha
   ·exact h.cb _ _ ha
   ·exact h.cb _ _ ha
  ·exact h.cb _ _ ha
 ·rw[hcal];split
  ·refine List.nodup_append.mpr ⟨h.cn _,h.cn _,λa ha b hb e=>?_⟩;have q1:=((h.ca _ hu eu a).mp ha).2;have q2:=((h.ca v hv ev b).mp hb).2;rw[e,q2]at q1;omega
  ·exact h.cn _
 ·rw[bo]at e;obtain⟨l1,l2,l3,l4⟩:=h.st _ _ _ e.1;exact⟨by rw[hmade];exact l1,by rw[hmade];exact l2,by rw[std l3,if_neg e.2.1],by rw[std l4,if_neg e.2.2]⟩
 ·rw[hmade];rw[hpe]at hw;rcases List.mem_append.mp hw with hw|hw
  ·exact h.pl w (hp w hw)
  ·obtain⟨q,hq,rfl⟩:=List.mem_map.mp hw;exact⟨hv,(h.st v q.1 q.2 (getW_of (h.kn v) hq)).2.1⟩
 ·rw[hmade];exact h.rl a s b r
 ·rcases h.cv a s b r with q|⟨w,hw,q⟩
  ·have:=kept _ _ _ q;rw[nv2,nv2]at this;exact this
  ·by_cases hm:w∈pend'
   ·refine .inr ⟨w,by rw[hpe];exact List.mem_append_left _ hm,?_⟩;rcases q with ⟨q1,q2,q3⟩|⟨q1,q2,q3⟩
    ·exact .inl ⟨eqv q1,q2,eqv q3⟩
    ·exact .inr ⟨eqv q1,q2,eqv q3⟩
   ·have base:Cov S2 P2 (S2.eld c) z (S2.eld y):=by rw[←exy];exact kept _ _ _ hx
    have one:∀{p q:Nat},S.eld p=c->S.eld q=y->S2.eld p=S2.eld c/\S2.eld q=S2.eld y:=λ{p q} e1 e2=>⟨by rw[←nv2 p,e1],by rw[←nv2 q,e2]⟩
    rcases hcv w hw hm with ⟨f1,f2,f3⟩|⟨f1,f2,f3⟩
    ·rcases q with ⟨q1,q2,q3⟩|⟨q1,q2,q3⟩
     ·obtain⟨g1,g2⟩:=one (q1.symm.trans f1) (q3.symm.trans f3);rw[g1,g2,←q2,f2];exact base
     ·obtain⟨g1,g2⟩:=one (q1.symm.trans f1) (q3.symm.trans f3);have es:s= -z:=by rw[←f2,q2,Int.neg_neg]
      rw[g1,g2,es];exact Cov.back h sy2 base
    ·rcases q with ⟨q1,q2,q3⟩|⟨q1,q2,q3⟩
     ·obtain⟨g1,g2⟩:=one (q3.symm.trans f3) (q1.symm.trans f1);have es:s= -z:=by rw[←q2,f2]
      rw[g1,g2,es];exact Cov.back h sy2 base
     ·obtain⟨g1,g2⟩:=one (q3.symm.trans f3) (q1.symm.trans f1);have es:s=z:=by have:=q2.symm.trans f2;omega
      rw[g1,g2,es];exact base
 ·rw[bo]at e;obtain⟨l1,l2,l3,l4⟩:=h.st _ _ _ e.1;have:=h.so _ _ _ e.1;rw[←l3,←l4]at this;have q:=imq this;rw[std l3,std l4,if_neg e.2.1,if_neg e.2.2]at q;exact q
 ·rw[hpe]at hw;rcases List.mem_append.mp hw with hw|hw
  ·exact imq (h.sp w (hp w hw))
  ·obtain⟨q,hq,rfl⟩:=List.mem_map.mp hw;have e:=getW_of (h.kn v) hq;obtain⟨l1,l2,l3,l4⟩:=h.st v q.1 q.2 e;have:=h.so _ _ _ e;rw[←l3,←l4]at this;exact imq this
 ·rw[hmade]at ha;rw[heq];split
  ·rename_i q;have:=h.cg a ha;rw[q]at this;exact this.trans hcguv
  ·exact h.cg a ha
end
def RS.stand (S:RS):Nat:=(List.range S.made).countP λc=>decide (S.eld c=c)
theorem count_less {p p':Nat->Bool}{v:Nat}(h:∀a,p' a=(p a && decide (a≠v)))(hv:p v=true):∀n,(List.range n).countP p'+ (if v<n then 1 else 0)=(List.range n).countP p
 |0=>rfl
 |n+ 1=>by
  have ih:=count_less h hv n;rw[List.range_succ,List.countP_append,List.countP_append,←ih];rw[List.countP_singleton,List.countP_singleton,h n];by_cases e:n=v
  ·subst e;rw[hv,if_neg (Nat.lt_irrefl n),if_pos (Nat.lt_succ_self n)];simp
  ·have:decide (n≠v)=true:=decide_eq_true e;rw[this,Bool.and_true];have hh:(v<n+ 1)=(v<n):=propext ⟨λ_=>by omega,λ_=>by omega⟩;simp only[hh];omega
def mu (k:Nat)(S:RS)(pend:List Way):Nat:=S.stand* (k+ 1)+ pend.length
section
variable {S:RS} {pend:List Way} {R:Nat->Int->Nat->Prop} {w:Way} {ks:List Int}
theorem Good.wayLen (h:Good S pend R)(hk:∀c z d,R c z d->z∈ks)(c:Nat):(S.way c).length<=ks.length:=by
 have:=nodup_sub ks ((S.way c).map (·.1)) (h.kn c) (λx hx=>by
  obtain⟨q,hq,rfl⟩:=List.mem_map.mp hx;obtain⟨a,b,r,_⟩:=h.so c q.1 q.2 (getW_of (h.kn c) hq);exact hk _ _ _ r)
 rw[List.length_map]at this;exact this
theorem Good.calLen (h:Good S pend R)(c:Nat):(S.cal c).length<=S.made:=nodup_lenN _ _ (h.cn c) λx hx=>h.cb c x hx
theorem Good.take (h:Good S (pend++[w]) R)(hk:∀c z d,R c z d->z∈ks):Good (S.takeIn pend w).1 (S.takeIn pend w).2 R/\mu ks.length (S.takeIn pend w).1 (S.takeIn pend w).2<mu ks.length S (pend++[w])/\(S.takeIn pend w).1.made=S.made/\(S.takeIn pend w).1.L=S.L/\
 ((S.takeIn pend w).1.stand=S.stand/\(S.takeIn pend w).1.rows=S.rows/\(S.takeIn pend w).1.went=S.went\/(S.takeIn pend w).1.stand+ 1=S.stand/\∃c z x y,S.by c z=some x/\Im S R c z y/\y<S.made/\S.eld y=y/\x≠y/\(S.takeIn pend w).1.rows=S.rows++[rowMeet c z (min x y) (max x y)]/\(S.takeIn pend w).1.went=S.went++[max x y]/\∀a,(S.takeIn pend w).1.eld a=if S.eld a=max x y then min x y else S.eld a):=by
 have hw:=h.pl w (List.mem_append_right _ List.mem_cons_self);have iw:=h.sp w (List.mem_append_right _ List.mem_cons_self);have hc:=h.lt hw.1;have hd:=h.lt hw.2;have ec:=(h.el _ hw.1).2;have ed:=(h.el _ hw.2).2;have hp:∀x∈pend,x∈pend++[w]:=λx hx=>List.mem_append_left _ hx
 have last:∀x∈pend++[w],x∉pend->x=w:=λx hx nx=>by
  rcases List.mem_append.mp hx with q|q
  ·exact absurd q nx
  ·exact List.mem_singleton.mp q
 have met:∀{c x y:Nat} {z:Int},S.by c z=some x->y<S.made->S.eld y=y->x≠y->Im S R c z y->((S.eld w.1=c/\w.2.1=z/\S.eld w.2.2=y)\/(S.eld w.1=y/\w.2.1= -z/\S.eld w.2.2=c))->
  Good (S.meet c z x y pend).1 (S.meet c z x y pend).2 R/\mu ks.length (S.meet c z x y pend).1 (S.meet c z x y pend).2<mu ks.length S (pend++[w])/\(S.meet c z x y pend).1.made=S.made/\(S.meet c z x y pend).1.L=S.L/\(S.meet c z x y pend).1.stand+ 1=S.stand/\(S.meet c z x y pend).1.rows=S.rows++[rowMeet c z (min x y) (max x y)]/\(S.meet c z x y pend).1.went=S.went++[max x y]/\∀a,(S.meet c z x y pend).1.eld a=if S.eld a=max x y then min x y else S.eld a:=by
  intro c x y z hx hy ey hxy iy hcv;obtain⟨g,g1,g2⟩:=h.meet hx hy ey hxy iy hp (λx hx nx=>by rw[last x hx nx];exact hcv);obtain⟨hc,hxm,ec,ex⟩:=h.st _ _ _ hx;have rest:=(offs_rest (max x y) (S.joined c z (min x y) (max x y)) pend ((S.joined c z (min x y) (max x y)).way (max x y))).2
  have hm:(S.meet c z x y pend).1.made=S.made:=by
   show (offs (max x y) (S.joined c z (min x y) (max x y)) pend ((S.joined c z (min x y) (max x y)).way (max x y))).1.made=_;rw[rest];rfl
  have hL:(S.meet c z x y pend).1.L=S.L:=by
   show (offs (max x y) (S.joined c z (min x y) (max x y)) pend ((S.joined c z (min x y) (max x y)).way (max x y))).1.L=_;rw[rest];rfl
  have hr:(S.meet c z x y pend).1.rows=S.rows++[rowMeet c z (min x y) (max x y)]:=by
   show (offs (max x y) (S.joined c z (min x y) (max x y)) pend ((S.joined c z (min x y) (max x y)).way (max x y))).1.rows=_;rw[rest];rfl
  have hn:(S.meet c z x y pend).1.went=S.went++[max x y]:=by
   show (offs (max x y) (S.joined c z (min x y) (max x y)) pend ((S.joined c z (min x y) (max x y)).way (max x y))).1.went=_;rw[rest];rfl
  have huv:min x y<max x y:=by omega
  have ev:S.eld (max x y)=max x y:=by rcases Nat.lt_or_ge x y with q|q;rw[Nat.max_eq_right (by omega)];exact ey;rw[Nat.max_eq_left (by omega)];exact ex
  have hs:(S.meet c z x y pend).1.stand+ 1=S.stand:=by
   unfold RS.stand;rw[hm]
   have:=count_less (p:=λc=>decide (S.eld c=c)) (p':=λa=>decide ((S.meet c z x y pend).1.eld a=a)) (v:=max x y) (λa=>by
    rw[g1,Bool.eq_iff_iff,Bool.and_eq_true,decide_eq_true_iff,decide_eq_true_iff,decide_eq_true_iff];by_cases q:S.eld a=max x y
    ·rw[if_pos q];constructor
     ·intro e;have e2:S.eld (min x y)=min x y:=by rcases Nat.lt_or_ge x y with q|q;rw[Nat.min_eq_left (by omega)];exact ex;rw[Nat.min_eq_right (by omega)];exact ey
      rw[e]at e2;rw[e2]at q;omega
     ·rintro ⟨e1,e2⟩;exact absurd (e1.symm.trans q) e2
    ·rw[if_neg q];exact⟨λe=>⟨e,λe2=>q (by rw[e2];exact ev)⟩,λe=>e.1⟩) (decide_eq_true ev) S.made
   rw[if_pos (by omega)]at this;exact this
  have hl:=h.wayLen hk (max x y);refine⟨g,?_,hm,hL,hs,hr,hn,g1⟩;unfold mu;rw[g2,←hs,List.length_append,List.length_append,List.length_map,Nat.add_mul,Nat.one_mul];have:([w]:List Way).length=1:=rfl;omega
 unfold RS.takeIn;by_cases h1:(S.by (S.eld w.1) w.2.1).getD (S.eld w.2.2)≠S.eld w.2.2
 ·rw[if_pos h1]
  cases e:S.by (S.eld w.1) w.2.1 with
  |none=>rw[e]at h1;exact absurd rfl h1
  |some x=>
   rw[e]at h1;obtain⟨a1,a2,a3,a4,a5,a6,a7,a8⟩:=met e hd ed h1 iw (.inl ⟨rfl,rfl,rfl⟩);exact⟨a1,a2,a3,a4,.inr ⟨a5,_,_,x,_,e,iw,hd,ed,h1,a6,a7,a8⟩⟩
 ·rw[if_neg h1];by_cases h2:(S.by (S.eld w.2.2) (-w.2.1)).getD (S.eld w.1)≠S.eld w.1
  ·rw[if_pos h2]
   cases e:S.by (S.eld w.2.2) (-w.2.1) with
   |none=>rw[e]at h2;exact absurd rfl h2
   |some x=>
    rw[e]at h2;have ib:=Im.back h iw;obtain⟨a1,a2,a3,a4,a5,a6,a7,a8⟩:=met e hc ec h2 ib (.inr ⟨rfl,(Int.neg_neg _).symm,rfl⟩);exact⟨a1,a2,a3,a4,.inr ⟨a5,_,_,x,_,e,ib,hc,ec,h2,a6,a7,a8⟩⟩
  ·rw[if_neg h2]
   have k1:S.by (S.eld w.1) w.2.1=none\/S.by (S.eld w.1) w.2.1=some (S.eld w.2.2):=by
    cases e:S.by (S.eld w.1) w.2.1 with
    |none=>exact .inl rfl
    |some x=>rw[e]at h1;exact .inr (congrArg some (Decidable.not_not.mp h1))
   have k2:S.by (S.eld w.2.2) (-w.2.1)=none\/S.by (S.eld w.2.2) (-w.2.1)=some (S.eld w.1):=by
    cases e:S.by (S.eld w.2.2) (-w.2.1) with
    |none=>exact .inl rfl
    |some x=>rw[e]at h2;exact .inr (congrArg some (Decidable.not_not.mp h2))
   refine⟨h.keep hc hd ec ed iw k1 k2 hp (λx hx nx=>by rw[last x hx nx];exact⟨rfl,rfl,rfl⟩),?_,rfl,rfl,.inl ⟨rfl,rfl,rfl⟩⟩;unfold mu;show S.stand* _+ pend.length<S.stand* _+ (pend++[w]).length;rw[List.length_append];have:([w]:List Way).length=1:=rfl;omega
theorem Good.by_iff (h:Good S [] R){c d:Nat}{z:Int}:S.by c z=some d↔Im S R c z d:=by
 constructor
 ·exact h.so c z d
 ·rintro ⟨c',d',r,rfl,rfl⟩;rcases h.cv _ _ _ r with q|⟨w,hw,_⟩
  ·exact q
  ·cases hw
end
end L2
namespace L2
open PySem PySem.Spec PyProof.Rows
section
variable {X:Cx}
end
def RAdd (R:Nat->Int->Nat->Prop)(c:Nat)(z:Int)(d:Nat):Nat->Int->Nat->Prop:=λa s b=>R a s b\/(a=c/\s=z/\b=d)\/(a=d/\s= -z/\b=c)
theorem radd_sub {R:Nat->Int->Nat->Prop}{c d:Nat}{z:Int}:∀a s b,R a s b->RAdd R c z d a s b:=λ_ _ _ r=>.inl r
theorem radd_new {R:Nat->Int->Nat->Prop}{c d:Nat}{z:Int}:RAdd R c z d c z d:=.inr (.inl ⟨rfl,rfl,rfl⟩)
theorem good_new (L:Nat)(g:List Int):Good (RS.new L g) [] (λ_ _ _=>False) where
 wf:=⟨rfl,rfl,rfl,rfl⟩
 el:=λc hc=>by
  have:c=0:=by have:c<1:=hc;omega
  subst this;exact⟨Nat.le_refl _,rfl⟩
 ca:=λe he _ c=>by
  have:e=0:=by have:e<1:=he;omega
  subst this;show c∈[0]↔c<1/\(RS.new L g).eld c=0;rw[List.mem_singleton];constructor
  ·rintro rfl;exact⟨by decide,rfl⟩
  ·rintro ⟨h,_⟩;omega
 cb:=λe c hc=>by
  have:(RS.new L g).cal e=[0]\/(RS.new L g).cal e=[]:=by
   rcases e with _|e
   ·exact .inl rfl
   ·exact .inr rfl
  show c<1;rcases this with q|q <;> rw[q]at hc
  ·rw[List.mem_singleton.mp hc];decide
  ·cases hc
 cn:=λe=>by
  rcases e with _|e
  ·show [0].Nodup;simp
  ·exact List.nodup_nil
 kn:=λc=>by
  rcases c with _|c <;> exact List.nodup_nil
 st:=λc z d h=>by
  have:(RS.new L g).by c z=none:=by rcases c with _|c <;> rfl
  rw[this]at h;cases h
 sy:=λc z d h=>by
  have:(RS.new L g).by c z=none:=by rcases c with _|c <;> rfl
  rw[this]at h;cases h
 pl:=λw hw=>by cases hw
 rl:=λ_ _ _ h=>h.elim
 cv:=λ_ _ _ h=>h.elim
 so:=λc z d h=>by
  have:(RS.new L g).by c z=none:=by rcases c with _|c <;> rfl
  rw[this]at h;cases h
 sp:=λw hw=>by cases hw
 cg:=λc hc=>by
  have:c=0:=by have:c<1:=hc;omega
  subst this;exact .refl _
section
variable {S:RS} {R:Nat->Int->Nat->Prop}
theorem Good.lay (h:Good S [] R){c d:Nat}(z:Int)(hc:c<S.made)(hd:d<S.made)(rows:List Dt):Good { S with rows:=rows } [(c,z,d)] (RAdd R c z d) where
 wf:=⟨h.wf.w,h.wf.g,h.wf.e,h.wf.c⟩
 el:=h.el
 ca:=h.ca
 cb:=h.cb
 cn:=h.cn
 kn:=h.kn
 st:=h.st
 sy:=h.sy
 pl:=λw hw=>by rw[List.mem_singleton.mp hw];exact⟨hc,hd⟩
 rl:=by
  rintro a s b (r|⟨rfl,rfl,rfl⟩|⟨rfl,rfl,rfl⟩)
  ·obtain⟨q1,q2,q3⟩:=h.rl _ _ _ r;exact⟨q1,q2,.inl q3⟩
  ·exact⟨hc,hd,.inr (.inr ⟨rfl,rfl,rfl⟩)⟩
  ·exact⟨hd,hc,.inr (.inl ⟨rfl,Int.neg_neg _,rfl⟩)⟩
 cv:=by
  rintro a s b (r|⟨rfl,rfl,rfl⟩|⟨rfl,rfl,rfl⟩)
  ·rcases h.cv _ _ _ r with q|⟨w,hw,_⟩
   ·exact .inl q
   ·cases hw
  ·exact .inr ⟨_,List.mem_cons_self,.inl ⟨rfl,rfl,rfl⟩⟩
  ·exact .inr ⟨_,List.mem_cons_self,.inr ⟨rfl,(Int.neg_neg _).symm,rfl⟩⟩
 so:=λa s b e=>by
  obtain⟨c',d',r,e1,e2⟩:=h.so a s b e;exact⟨c',d',.inl r,e1,e2⟩
 sp:=λw hw=>by
  rw[List.mem_singleton.mp hw];exact⟨c,d,radd_new,rfl,rfl⟩
 cg:=λa ha=>(h.cg a ha).mono radd_sub
theorem eld_grown (hw:S.Wf)(c:Nat)(z:Int)(g:List Int)(a:Nat):(S.grown c z g).eld a=if a=S.made then S.made else S.eld a:=by
 unfold RS.eld;show (S.elders++[S.made]).getD a 0=_;rw[List.getD_eq_getElem?_getD];by_cases e:a=S.made
 ·rw[if_pos e,e,List.getElem?_append_right (by rw[hw.e];exact Nat.le_refl _),hw.e,Nat.sub_self];rfl
 ·rw[if_neg e,List.getD_eq_getElem?_getD];by_cases q:a<S.made
  ·rw[List.getElem?_append_left (by rw[hw.e];exact q)]
  ·rw[List.getElem?_eq_none (by rw[List.length_append,hw.e];show S.made+ 1<=a;omega),List.getElem?_eq_none (by rw[hw.e];omega)]
theorem cal_grown (hw:S.Wf)(c:Nat)(z:Int)(g:List Int)(a:Nat):(S.grown c z g).cal a=if a=S.made then [S.made] else S.cal a:=by
 unfold RS.cal;show (S.called++[[S.made]]).getD a []=_;rw[List.getD_eq_getElem?_getD];by_cases e:a=S.made
 ·rw[if_pos e,e,List.getElem?_append_right (by rw[hw.c];exact Nat.le_refl _),hw.c,Nat.sub_self];rfl
 ·rw[if_neg e,List.getD_eq_getElem?_getD];by_cases q:a<S.made
  ·rw[List.getElem?_append_left (by rw[hw.c];exact q)]
  ·rw[List.getElem?_eq_none (by rw[List.length_append,hw.c];show S.made+ 1<=a;omega),List.getElem?_eq_none (by rw[hw.c];omega)]
theorem way_grown (hw:S.Wf)(c:Nat)(z:Int)(g:List Int)(a:Nat):(S.grown c z g).way a=S.way a:=by
 unfold RS.way;show (S.ways++[[]]).getD a []=_;rw[List.getD_eq_getElem?_getD,List.getD_eq_getElem?_getD];by_cases q:a<S.ways.length
 ·rw[List.getElem?_append_left q]
 ·rw[List.getElem?_append_right (by omega),List.getElem?_eq_none (l:=S.ways) (by omega)];by_cases h2:a - S.ways.length=0
  ·rw[h2];rfl
  ·rw[List.getElem?_eq_none (by simp;omega)]
theorem Good.make (h:Good S [] R){c:Nat}{z:Int}(hc:c<S.made)(ec:S.eld c=c)(hn:S.by c z=none)(g:List Int):Good (S.make c z g) [] (RAdd R c z S.made):=by
 have hw:=h.wf;have elo:∀a,a<S.made->(S.grown c z g).eld a=S.eld a:=λa ha=>by rw[eld_grown hw,if_neg (by omega)]
 have eln:(S.grown c z g).eld S.made=S.made:=by rw[eld_grown hw,if_pos rfl]
 have byg:∀a s,(S.grown c z g).by a s=S.by a s:=λa s=>by unfold RS.by;rw[way_grown hw]
 have G:Good (S.grown c z g) [(c,z,S.made)] (RAdd R c z S.made):=by
  refine⟨⟨?_,?_,?_,?_⟩,λa ha=>?_,λe he ee a=>?_,λe a ha=>?_,λe=>?_,λa=>?_,λa s b e=>?_,λa s b e=>?_,λw hw=>?_,?_,?_,λa s b e=>?_,λw hw=>?_,λa ha=>?_⟩
  ·show (S.ways++[[]]).length=S.made+ 1;rw[List.length_append,hw.w];rfl
  ·show (S.gaps++[_]).length=S.made+ 1;rw[List.length_append,hw.g];rfl
  ·show (S.elders++[_]).length=S.made+ 1;rw[List.length_append,hw.e];rfl
  ·show (S.called++[_]).length=S.made+ 1;rw[List.length_append,hw.c];rfl
  ·have ha':a<S.made+ 1:=ha;by_cases e:a=S.made
   ·rw[e,eln];exact⟨Nat.le_refl _,eln⟩
   ·have hl:a<S.made:=by omega
    rw[elo a hl];obtain⟨q1,q2⟩:=h.el a hl;exact⟨q1,by rw[elo _ (by omega)];exact q2⟩
  ·have he':e<S.made+ 1:=he;show _↔a<S.made+ 1/\_;rw[cal_grown hw,eld_grown hw];by_cases q:e=S.made
   ·subst q;rw[if_pos rfl,List.mem_singleton];constructor
    ·rintro rfl;exact⟨by omega,by rw[if_pos rfl]⟩
    ·rintro ⟨q1,q2⟩;by_cases q3:a=S.made
     ·exact q3
     ·rw[if_neg q3]at q2;have:=(h.el a (by omega)).1;omega
   ·have hl:e<S.made:=by omega
    rw[elo e hl]at ee;rw[if_neg q,h.ca e hl ee a];constructor
    ·rintro ⟨q1,q2⟩;exact⟨by omega,by rw[if_neg (by omega)];exact q2⟩
    ·rintro ⟨q1,q2⟩;by_cases q3:a=S.made
     ·rw[if_pos q3]at q2;exact absurd q2.symm q
     ·rw[if_neg q3]at q2;exact⟨by omega,q2⟩
  ·show a<S.made+ 1;rw[cal_grown hw]at ha;split at ha
   ·rw[List.mem_singleton.mp ha];omega
   ·exact Nat.lt_succ_of_lt (h.cb e a ha)
  ·rw[cal_grown hw];split
   ·simp
   ·exact h.cn e
  ·rw[way_grown hw];exact h.kn a
  ·rw[byg]at e;obtain⟨q1,q2,q3,q4⟩:=h.st a s b e;exact⟨Nat.lt_succ_of_lt q1,Nat.lt_succ_of_lt q2,by rw[elo a q1];exact q3,by rw[elo b q2];exact q4⟩
  ·rw[byg]at e ⊢;exact h.sy a s b e
  ·rw[List.mem_singleton.mp hw];exact⟨Nat.lt_succ_of_lt hc,Nat.lt_succ_self _⟩
  ·rintro a s b (r|⟨rfl,rfl,rfl⟩|⟨rfl,rfl,rfl⟩)
   ·obtain⟨q1,q2,q3⟩:=h.rl _ _ _ r;exact⟨Nat.lt_succ_of_lt q1,Nat.lt_succ_of_lt q2,.inl q3⟩
   ·exact⟨Nat.lt_succ_of_lt hc,Nat.lt_succ_self _,.inr (.inr ⟨rfl,rfl,rfl⟩)⟩
   ·exact⟨Nat.lt_succ_self _,Nat.lt_succ_of_lt hc,.inr (.inl ⟨rfl,Int.neg_neg _,rfl⟩)⟩
  ·rintro a s b (r|⟨rfl,rfl,rfl⟩|⟨rfl,rfl,rfl⟩)
   ·obtain⟨q1,q2,_⟩:=h.rl _ _ _ r;rcases h.cv _ _ _ r with q|⟨w,hw,_⟩
    ·exact .inl (by rw[elo a q1,elo b q2,byg];exact q)
    ·cases hw
   ·exact .inr ⟨_,List.mem_cons_self,.inl ⟨rfl,rfl,rfl⟩⟩
   ·exact .inr ⟨_,List.mem_cons_self,.inr ⟨rfl,(Int.neg_neg _).symm,rfl⟩⟩
  ·rw[byg]at e;obtain⟨c',d',r,e1,e2⟩:=h.so a s b e;obtain⟨q1,q2,_⟩:=h.rl _ _ _ r;exact⟨c',d',.inl r,by rw[elo c' q1];exact e1,by rw[elo d' q2];exact e2⟩
  ·rw[List.mem_singleton.mp hw];exact⟨c,S.made,radd_new,rfl,rfl⟩
  ·have ha':a<S.made+ 1:=ha;by_cases e:a=S.made
   ·rw[e,eln];exact .refl _
   ·rw[elo a (by omega)];exact(h.cg a (by omega)).mono radd_sub
 have e1:(S.grown c z g).eld c=c:=by rw[elo c hc];exact ec
 have i:=G.sp _ List.mem_cons_self;rw[show (c,z,S.made).1=c from rfl,show (c,z,S.made).2.2=S.made from rfl,e1,eln]at i;refine G.keep (Nat.lt_succ_of_lt hc) (Nat.lt_succ_self _) e1 eln i (.inl (by rw[byg];exact hn)) (.inl ?_) (λw hw=>by cases hw) (λw hw _=>by rw[List.mem_singleton.mp hw];exact⟨e1,rfl,eln⟩);rw[byg]
 cases e:S.by S.made (-z) with
 |none=>rfl
 |some b=>have:=(h.st _ _ _ e).1;omega
end
end L2
namespace L2
open PySem PySem.Spec PyProof.Rows
def RowR (n:Nat)(s:Int):Nat->Int->Nat->Prop:=λa z b=>(z=s/\b=a+ 1/\b<n)\/(z= -s/\a=b+ 1/\a<n)
section
variable {n one other:Nat} {s:Int}
variable (hs:s=1\/s= -1) (h1:one<n) (h2:other<n) {S:RS} (g:Good S [] (RAdd (RowR n s) one s other)) (hm:S.made=n)
include hs h1 h2 g hm
end
end L2
namespace L2
open PySem PySem.Spec PyProof.Rows
section
variable {X:Cx}
end
end L2
namespace L2
open PySem PySem.Spec PyProof.Rows
section
variable {X:Cx}
end
end L2
namespace L2
theorem seq_let1 {a1 z:TS}{D:Ends}{σ:St}{H:Hp}(h:let u1:TS:=z;tSeq a1 u1 D σ H):(tSeq a1 z) D σ H:=h
theorem seq_let2 {a1 a2 z:TS}{D:Ends}{σ:St}{H:Hp}(h:let u2:TS:=z;let u1:TS:=tSeq a2 u2;tSeq a1 u1 D σ H):(tSeq a1 (tSeq a2 z)) D σ H:=h
theorem seq_let3 {a1 a2 a3 z:TS}{D:Ends}{σ:St}{H:Hp}(h:let u3:TS:=z;let u2:TS:=tSeq a3 u3;let u1:TS:=tSeq a2 u2;tSeq a1 u1 D σ H):(tSeq a1 (tSeq a2 (tSeq a3 z))) D σ H:=h
theorem seq_let4 {a1 a2 a3 a4 z:TS}{D:Ends}{σ:St}{H:Hp}(h:let u4:TS:=z;let u3:TS:=tSeq a4 u4;let u2:TS:=tSeq a3 u3;let u1:TS:=tSeq a2 u2;tSeq a1 u1 D σ H):(tSeq a1 (tSeq a2 (tSeq a3 (tSeq a4 z)))) D σ H:=h
theorem seq_let5 {a1 a2 a3 a4 a5 z:TS}{D:Ends}{σ:St}{H:Hp}(h:let u5:TS:=z;let u4:TS:=tSeq a5 u5;let u3:TS:=tSeq a4 u4;let u2:TS:=tSeq a3 u3;let u1:TS:=tSeq a2 u2;tSeq a1 u1 D σ H):(tSeq a1 (tSeq a2 (tSeq a3 (tSeq a4 (tSeq a5 z))))) D σ H:=h
theorem seq_let6 {a1 a2 a3 a4 a5 a6 z:TS}{D:Ends}{σ:St}{H:Hp}(h:let u6:TS:=z;let u5:TS:=tSeq a6 u6;let u4:TS:=tSeq a5 u5;let u3:TS:=tSeq a4 u4;let u2:TS:=tSeq a3 u3;let u1:TS:=tSeq a2 u2;tSeq a1 u1 D σ H):(tSeq a1 (tSeq a2 (tSeq a3 (tSeq a4 (tSeq a5 (tSeq a6 z)))))) D σ H:=h
theorem seq_let7 {a1 a2 a3 a4 a5 a6 a7 z:TS}{D:Ends}{σ:St}{H:Hp}(h:let u7:TS:=z;let u6:TS:=tSeq a7 u7;let u5:TS:=tSeq a6 u6;let u4:TS:=tSeq a5 u5;let u3:TS:=tSeq a4 u4;let u2:TS:=tSeq a3 u3;let u1:TS:=tSeq a2 u2;tSeq a1 u1 D σ H):(tSeq a1 (tSeq a2 (tSeq a3 (tSeq a4 (tSeq a5 (tSeq a6 (tSeq a7 z))))))) D σ H:=h
theorem seq_let8 {a1 a2 a3 a4 a5 a6 a7 a8 z:TS}{D:Ends}{σ:St}{H:Hp}(h:let u8:TS:=z;let u7:TS:=tSeq a8 u8;let u6:TS:=tSeq a7 u7;let u5:TS:=tSeq a6 u6;let u4:TS:=tSeq a5 u5;let u3:TS:=tSeq a4 u4;let u2:TS:=tSeq a3 u3;let u1:TS:=tSeq a2 u2;tSeq a1 u1 D σ H):(tSeq a1 (tSeq a2 (tSeq a3 (tSeq a4 (tSeq a5 (tSeq a6 (tSeq a7 (tSeq a8 z)))))))) D σ H:=h
theorem seq_let10 {a1 a2 a3 a4 a5 a6 a7 a8 a9 a10 z:TS}{D:Ends}{σ:St}{H:Hp}(h:let u10:TS:=z;let u9:TS:=tSeq a10 u10;let u8:TS:=tSeq a9 u9;let u7:TS:=tSeq a8 u8;let u6:TS:=tSeq a7 u7;let u5:TS:=tSeq a6 u6;let u4:TS:=tSeq a5 u5;let u3:TS:=tSeq a4 u4;let u2:TS:=tSeq a3 u3;let u1:TS:=tSeq a2 u2;tSeq a1 u1 D σ H):(tSeq a1 (tSeq a2 (tSeq a3 (tSeq a4 (tSeq a5 (tSeq a6 (tSeq a7 (tSeq a8 (tSeq a9 (tSeq a10 z)))))))))) D σ H:=h
theorem args_is1 {α:Type}:∀{us:List α},us.length=1->∃x0,us=[x0]
 |[x0],_=>⟨x0,rfl⟩
theorem args_is2 {α:Type}:∀{us:List α},us.length=2->∃x0 x1,us=[x0,x1]
 |[x0,x1],_=>⟨x0,x1,rfl⟩
theorem args_is3 {α:Type}:∀{us:List α},us.length=3->∃x0 x1 x2,us=[x0,x1,x2]
 |[x0,x1,x2],_=>⟨x0,x1,x2,rfl⟩
theorem args_is4 {α:Type}:∀{us:List α},us.length=4->∃x0 x1 x2 x3,us=[x0,x1,x2,x3]
 |[x0,x1,x2,x3],_=>⟨x0,x1,x2,x3,rfl⟩
theorem args_is5 {α:Type}:∀{us:List α},us.length=5->∃x0 x1 x2 x3 x4,us=[x0,x1,x2,x3,x4]
 |[x0,x1,x2,x3,x4],_=>⟨x0,x1,x2,x3,x4,rfl⟩
theorem args_is6 {α:Type}:∀{us:List α},us.length=6->∃x0 x1 x2 x3 x4 x5,us=[x0,x1,x2,x3,x4,x5]
 |[x0,x1,x2,x3,x4,x5],_=>⟨x0,x1,x2,x3,x4,x5,rfl⟩
section
open PySem PySem.Spec PyProof.Rows
variable {C:CXT} {P:Program} {w:World} {K:PySem.W.Frag} {mg:Str->Option Value} {base:Heap} {N:List Str} {q:Str} {sc:Scope} {f:Addr} {cd:Value} {A:Around} {outer:List Env} {s:Shared} {H:Hp} {E:XK}
theorem cx_noxK:(cxOf C P w K mg base N q sc f cd A outer s H E).nox.K=K:=rfl
theorem cx_K:(cxOf C P w K mg base N q sc f cd A outer s H E).K=K:=rfl
end
end L2
namespace L2
open PySem PySem.Spec PyProof.Rows PySem.Builtin PySem.Builtin.Str
section
variable {X:Cx}
end
end L2
namespace L2
structure GapI (S:RS) (R:Nat->Int->Nat->Prop) (ks:List Int):Prop where
 sub:∀c,c<S.made->(S.gap c).Sublist ks
 im:∀c,c<S.made->S.eld c=c->∀z∈ks,z∉S.gap c->∃d,Im S R c z d
 by_:∀c z d,S.by c z=some d->z∉S.gap c
section
variable {S:RS} {pend:List Way} {R:Nat->Int->Nat->Prop} {ks:List Int}
theorem gap_noGap {c x:Nat}{z:Int}(hc:c<S.gaps.length):(S.noGap c z).gap x=if x=c then (S.gap c).filter (λy=>decide (y≠z)) else S.gap x:=by
 unfold RS.noGap RS.setG RS.gap;show (S.gaps.set c _).getD x []=_;rw[List.getD_eq_getElem?_getD];by_cases h:x=c
 ·subst h;rw[if_pos rfl,List.getElem?_set_self hc];rfl
 ·rw[if_neg h,List.getElem?_set_ne (λe=>h e.symm),List.getD_eq_getElem?_getD]
theorem noGap_len {c:Nat}{z:Int}:(S.noGap c z).gaps.length=S.gaps.length:=by
 unfold RS.noGap RS.setG;exact List.length_set ..
theorem gap_keep {c d x:Nat}{z y:Int}(hc:c<S.gaps.length)(hd:d<S.gaps.length):y∈(S.keep c z d).gap x↔y∈S.gap x/\¬(x=c/\y=z)/\¬(x=d/\y= -z):=by
 unfold RS.keep;have h1:∀x,((S.putWay c z d).putWay d (-z) c).gap x=S.gap x:=λx=>rfl
 have l1:((S.putWay c z d).putWay d (-z) c).gaps.length=S.gaps.length:=rfl;rw[gap_noGap (by rw[noGap_len];exact hd),gap_noGap (by exact hc),gap_noGap (by exact hc),h1,h1,h1];by_cases e1:x=d
 ·subst e1;rw[if_pos rfl];by_cases e2:x=c
  ·subst e2;rw[if_pos rfl,List.mem_filter,List.mem_filter];simp;constructor
   ·rintro ⟨⟨a,b⟩,e⟩;exact⟨a,b,e⟩
   ·rintro ⟨a,b,e⟩;exact⟨⟨a,b⟩,e⟩
  ·rw[if_neg e2,List.mem_filter];simp[e2]
 ·rw[if_neg e1];by_cases e2:x=c
  ·subst e2;rw[if_pos rfl,List.mem_filter];simp[e1]
  ·rw[if_neg e2];simp[e1,e2]
theorem gap_keep_sub {c d x:Nat}{z:Int}(hc:c<S.gaps.length)(hd:d<S.gaps.length):((S.keep c z d).gap x).Sublist (S.gap x):=by
 unfold RS.keep;have h1:∀x,((S.putWay c z d).putWay d (-z) c).gap x=S.gap x:=λx=>rfl
 rw[gap_noGap (by rw[noGap_len];exact hd),gap_noGap (by exact hc),gap_noGap (by exact hc),h1,h1,h1];by_cases e1:x=d
 ·subst e1;rw[if_pos rfl];by_cases e2:x=c
  ·subst e2;rw[if_pos rfl];exact List.Sublist.trans List.filter_sublist List.filter_sublist
  ·rw[if_neg e2];exact List.filter_sublist
 ·rw[if_neg e1];by_cases e2:x=c
  ·subst e2;rw[if_pos rfl];exact List.filter_sublist
  ·rw[if_neg e2];exact List.Sublist.refl _
theorem by_keep {c d x:Nat}{z y:Int}(hc:c<S.ways.length)(hd:d<S.ways.length):(S.keep c z d).by x y=if x=d/\y= -z then some c else if x=c/\y=z then some d else S.by x y:=by
 unfold RS.keep;show (((S.putWay c z d).putWay d (-z) c)).by x y=_;rw[by_putWay (by unfold RS.putWay RS.setW;rw[List.length_set];exact hd),by_putWay hc]
theorem GapI.keep (h:GapI S R ks)(g:Good S pend R){c d:Nat}{z:Int}(hc:c<S.made)(hd:d<S.made)(i:Im S R c z d):GapI (S.keep c z d) R ks:=by
 have gc:c<S.gaps.length:=by rw[g.wf.g];exact hc
 have gd:d<S.gaps.length:=by rw[g.wf.g];exact hd
 refine⟨λx hx=>(gap_keep_sub gc gd).trans (h.sub x hx),λx hx ex y hy hn=>?_,λx y e he=>?_⟩
 ·rw[gap_keep gc gd]at hn;by_cases h1:x=c/\y=z
  ·rw[h1.1,h1.2];exact⟨d,i⟩
  ·by_cases h2:x=d/\y= -z
   ·rw[h2.1,h2.2];exact⟨c,i.back g⟩
   ·exact h.im x hx ex y hy λq=>hn ⟨q,h1,h2⟩
 ·rw[by_keep (by rw[g.wf.w];exact hc) (by rw[g.wf.w];exact hd)]at he;rw[gap_keep gc gd];rintro ⟨q,q1,q2⟩;rw[if_neg q2,if_neg q1]at he;exact h.by_ x y e he q
theorem meet_gap {c x y:Nat}{z:Int}:(S.meet c z x y pend).1.gaps=S.gaps:=by
 have:=(offs_rest (max x y) (S.joined c z (min x y) (max x y)) pend ((S.joined c z (min x y) (max x y)).way (max x y))).2;have:=congrArg RS.gaps this;exact this
theorem GapI.meet (h:GapI S R ks)(g:Good S pend R){c x y:Nat}{z:Int}(hx:S.by c z=some x)(hy:y<S.made)(ey:S.eld y=y)(hxy:x≠y){pend':List Way}
 (made:(S.meet c z x y pend').1.made=S.made) (eld:∀a,(S.meet c z x y pend').1.eld a=if S.eld a=max x y then min x y else S.eld a):GapI (S.meet c z x y pend').1 R ks:=by
 have hg:∀a,(S.meet c z x y pend').1.gap a=S.gap a:=λa=>by unfold RS.gap;rw[meet_gap]
 obtain⟨_,hxm,_,ex⟩:=g.st _ _ _ hx;have hmx:max x y<S.made:=by rcases Nat.le_total x y with q|q <;> omega
 have hmm:min x y<max x y:=by rcases Nat.lt_or_gt_of_ne hxy with q|q <;> omega
 have stay:∀a,a<S.made->(S.meet c z x y pend').1.eld a=a->S.eld a=a/\a≠max x y:=λa ha e=>by
  rw[eld]at e;have hle:=(g.el a ha).1;by_cases q:S.eld a=max x y
  ·rw[if_pos q]at e;omega
  ·rw[if_neg q]at e;exact⟨e,λz=>q (by rw[e,z])⟩
 refine⟨λa ha=>by rw[hg];exact h.sub a (by rw[←made];exact ha),λa ha ea s hs hn=>?_,λa s b hb=>?_⟩
 ·rw[hg]at hn;obtain⟨e1,e2⟩:=stay a (by rw[←made];exact ha) ea;obtain⟨b,c',d',r,q1,q2⟩:=h.im a (by rw[←made];exact ha) e1 s hs hn;exact⟨_,c',d',r,by rw[eld,if_neg (by rw[q1];exact e2)];exact q1,rfl⟩
 ·rw[hg]
  have hlt:∀q∈(S.joined c z (min x y) (max x y)).way (max x y),q.2<(S.joined c z (min x y) (max x y)).ways.length:=λq hq=>by
   show q.2<S.ways.length;rw[g.wf.w];exact(g.st _ _ _ (getW_of (g.kn (max x y)) hq)).2.1
  have hb':(offs (max x y) (S.joined c z (min x y) (max x y)) pend' ((S.joined c z (min x y) (max x y)).way (max x y))).1.by a s=some b:=hb;rw[offs_by (by show max x y<S.ways.length;rw[g.wf.w];exact hmx) _ hlt]at hb';split at hb'
  ·cases hb'
  ·exact h.by_ a s b hb'
theorem meet_made {c x y:Nat}{z:Int}:(S.meet c z x y pend).1.made=S.made:=by
 have:=(offs_rest (max x y) (S.joined c z (min x y) (max x y)) pend ((S.joined c z (min x y) (max x y)).way (max x y))).2;have:=congrArg RS.made this;exact this
theorem GapI.take {w:Way}(hG:GapI S R ks)(h:Good S (pend++[w]) R):GapI (S.takeIn pend w).1 R ks:=by
 have hw:=h.pl w (List.mem_append_right _ List.mem_cons_self);have iw:=h.sp w (List.mem_append_right _ List.mem_cons_self);have hc:=h.lt hw.1;have hd:=h.lt hw.2;have ec:=(h.el _ hw.1).2;have ed:=(h.el _ hw.2).2;have hp:∀x∈pend,x∈pend++[w]:=λx hx=>List.mem_append_left _ hx
 have last:∀x∈pend++[w],x∉pend->x=w:=λx hx nx=>by
  rcases List.mem_append.mp hx with q|q
  ·exact absurd q nx
  ·exact List.mem_singleton.mp q
 unfold RS.takeIn;by_cases h1:(S.by (S.eld w.1) w.2.1).getD (S.eld w.2.2)≠S.eld w.2.2
 ·rw[if_pos h1]
  cases e:S.by (S.eld w.1) w.2.1 with
  |none=>rw[e]at h1;exact absurd rfl h1
  |some x=>
   rw[e]at h1;have h1:x≠S.eld w.2.2:=h1;obtain⟨_,e1,_⟩:=h.meet e hd ed h1 iw hp (λx hx nx=>by rw[last x hx nx];exact .inl ⟨rfl,rfl,rfl⟩);exact hG.meet h e hd ed h1 meet_made e1
 ·rw[if_neg h1];by_cases h2:(S.by (S.eld w.2.2) (-w.2.1)).getD (S.eld w.1)≠S.eld w.1
  ·rw[if_pos h2]
   cases e:S.by (S.eld w.2.2) (-w.2.1) with
   |none=>rw[e]at h2;exact absurd rfl h2
   |some x=>
    rw[e]at h2;have h2:x≠S.eld w.1:=h2;obtain⟨_,e1,_⟩:=h.meet e hc ec h2 (iw.back h) hp (λx hx nx=>by rw[last x hx nx];exact .inr ⟨rfl,(Int.neg_neg _).symm,rfl⟩);exact hG.meet h e hc ec h2 meet_made e1
  ·rw[if_neg h2];exact hG.keep h hc hd iw
theorem GapI.more {R':Nat->Int->Nat->Prop}(h:GapI S R ks)(hr:∀a z b,R a z b->R' a z b):GapI S R' ks:=⟨h.sub,λc hc ec z hz hn=>by
 obtain⟨d,c',d',r,e1,e2⟩:=h.im c hc ec z hz hn;exact⟨d,c',d',hr _ _ _ r,e1,e2⟩,h.by_⟩
theorem GapI.rows (h:GapI S R ks)(rows:List Dt):GapI { S with rows:=rows } R ks:=⟨h.sub,h.im,h.by_⟩
theorem gap_new (L:Nat)(g:List Int):GapI (RS.new L g) (λ_ _ _=>False) g:=by
 refine⟨λc hc=>?_,λc hc _ z hz hn=>?_,λc z d e=>?_⟩
 ·have hc:c<1:=hc;rw[show c=0 by omega];exact List.Sublist.refl _
 ·have hc:c<1:=hc;rw[show c=0 by omega]at hn;exact absurd hz hn
 ·have:(RS.new L g).by c z=none:=by rcases c with _|c <;> rfl
  rw[this]at e;cases e
theorem GapI.make (h:GapI S R ks)(g:Good S [] R){c:Nat}{z:Int}(hc:c<S.made)(ec:S.eld c=c)(hn:S.by c z=none):GapI (S.make c z ks) (RAdd R c z S.made) ks:=by
 have gg:∀x,(S.grown c z ks).gap x=if x=S.made then ks else S.gap x:=λx=>by
  unfold RS.gap;show (S.gaps++[ks]).getD x []=_;rw[List.getD_eq_getElem?_getD,List.getD_eq_getElem?_getD];by_cases hx:x=S.made
  ·subst hx;rw[if_pos rfl,List.getElem?_append_right (by rw[g.wf.g];exact Nat.le_refl _),g.wf.g,Nat.sub_self];rfl
  ·rw[if_neg hx];by_cases hl:x<S.gaps.length
   ·rw[List.getElem?_append_left hl]
   ·have:=g.wf.g;rw[List.getElem?_append_right (by omega),List.getElem?_eq_none (by rw[List.length_singleton];omega),List.getElem?_eq_none (by omega)]
 have bg:∀x y,(S.grown c z ks).by x y=S.by x y:=λx y=>by unfold RS.by;rw[way_grown g.wf]
 have hcg:c<(S.grown c z ks).gaps.length:=by show c<(S.gaps++[ks]).length;rw[List.length_append,g.wf.g];omega
 have hmg:S.made<(S.grown c z ks).gaps.length:=by show S.made<(S.gaps++[ks]).length;rw[List.length_append,g.wf.g,List.length_singleton];omega
 have hcw:c<(S.grown c z ks).ways.length:=by show c<(S.ways++[[]]).length;rw[List.length_append,g.wf.w];omega
 have hmw:S.made<(S.grown c z ks).ways.length:=by show S.made<(S.ways++[[]]).length;rw[List.length_append,g.wf.w,List.length_singleton];omega
 have ee:∀x,(S.make c z ks).eld x=if x=S.made then S.made else S.eld x:=λx=>eld_grown g.wf c z ks x
 have nmade:∀a s b,S.by a s=some b->a≠S.made:=λa s b e q=>by have:=(g.st _ _ _ e).1;omega
 refine⟨λx hx=>?_,λx hx ex y hy hny=>?_,λx y e he=>?_⟩
 ·refine(gap_keep_sub hcg hmg).trans ?_;rw[gg];by_cases q:x=S.made
  ·rw[if_pos q];exact List.Sublist.refl _
  ·rw[if_neg q];have hx:x<S.made+ 1:=hx;exact h.sub x (by omega)
 ·have hny:y∉((S.grown c z ks).keep c z S.made).gap x:=hny;rw[gap_keep hcg hmg,gg]at hny;by_cases h1:x=c/\y=z
  ·refine⟨S.made,c,S.made,by rw[h1.2];exact radd_new,?_,?_⟩
   ·rw[ee,if_neg (by omega),h1.1];exact ec
   ·rw[ee,if_pos rfl]
  ·by_cases h2:x=S.made/\y= -z
   ·refine⟨c,S.made,c,by rw[h2.2];exact .inr (.inr ⟨rfl,rfl,rfl⟩),?_,?_⟩
    ·rw[ee,if_pos rfl,h2.1]
    ·rw[ee,if_neg (by omega)];exact ec
   ·by_cases q:x=S.made
    ·rw[if_pos q]at hny;exact absurd ⟨hy,h1,h2⟩ hny
    ·rw[if_neg q]at hny;have hx:x<S.made+ 1:=hx;rw[ee,if_neg q]at ex;obtain⟨d,c',d',r,e1,e2⟩:=h.im x (by omega) ex y hy λk=>hny ⟨k,h1,h2⟩
     have hr:=g.rl _ _ _ r;exact⟨d,c',d',.inl r,by rw[ee,if_neg (by omega)];exact e1,by rw[ee,if_neg (by omega)];exact e2⟩
 ·have he:((S.grown c z ks).keep c z S.made).by x y=some e:=he;rw[by_keep hcw hmw,bg]at he;show y∉((S.grown c z ks).keep c z S.made).gap x;rw[gap_keep hcg hmg,gg];rintro ⟨q,q1,q2⟩;rw[if_neg q2,if_neg q1]at he;rw[if_neg (nmade _ _ _ he)]at q;exact h.by_ x y e he q
theorem GapI.fin (h:GapI S R ks)(g:Good S [] R)(nd:ks.Nodup){c:Nat}(hc:c<S.made)(ec:S.eld c=c):S.gap c=ks.filter λz=>(S.by c z).isNone:=by
 have sl:∀{l k:List Int},l.Sublist k->k.Nodup->l=k.filter λz=>decide (z∈l):=λ{l k} s=>by
  induction s with
  |slnil=>intro _;rfl
  |cons a s ih=>
   rename_i l k;intro hn;have h1:=List.nodup_cons.mp hn;rw[List.filter_cons_of_neg (by simpa using λq=>h1.1 (s.subset q))];exact ih h1.2
  |cons_cons a s ih=>
   rename_i l k;intro hn;have h1:=List.nodup_cons.mp hn;rw[List.filter_cons_of_pos (by simp)]
   congr 1
   conv=>lhs;rw[ih h1.2]
   refine List.filter_congr λz hz=>?_
   have:z≠a:=λe=>h1.1 (by rw[←e];exact hz)
   simp[this]
 rw[sl (h.sub c hc) nd];refine List.filter_congr λz hz=>?_
 cases e:S.by c z with
 |some d=>
  have:=h.by_ c z d e;simp[this]
 |none=>
  by_cases q:z∈S.gap c
  ·simp[q]
  ·obtain⟨d,i⟩:=h.im c hc ec z hz q;have:=g.by_iff.mpr i;rw[e]at this;cases this
end
end L2
namespace L2
open PySem PySem.Spec PyProof.Rows
section
variable {M:Model} {A:Around} {E:Value->Shared->Prop} {s:Shared}
structure Fly (B:Heap) (l:List Env) (x:Addr) (cls a0:Value) (h:Heap):Prop where
 stays:B.StaysIn h
 new:B.get? x=none
 fun_:h.FunFrames B l
 tr:∃fl,h.TracedAtW B x cls a0 fl
end
section
variable {prog:Program} {w:World} {A:Around} {R:Result->Shared->Prop} {s:Shared}
end
section
variable {X:Cx} {elt iter:Expr} {x:Str} {px pos:Pos} {scope:Scope} {cl:List (Str×Addr)} {fns:List Str} {ixs:List Nat} {wi:TI} {te:TE}
end
section
variable {X:Cx}
end
end L2
namespace L2
open PySem PySem.Spec PyProof.Rows
theorem turn_dK {P:Program}{w:World}{K:PySem.W.Frag}{tg:Expr}(d it:Addr)(o:Obj)(es:Array DictEntry)(ep:Nat)(kvs:List (Key×V))(ho:o.data=.dict es ep):Turn P w K tg (ItdK d o kvs) [it] it (λi h=>h.IsKeyIter it d i es.size ep) where
 mem:=by simp
 obj:=λi h st b hb=>by
  have e:b=it:=by simpa using hb
  subst e;obtain⟨o,e,c,d⟩:=st;exact⟨o,e,λv z=>by rw[d]at z;cases z⟩
 keep:=λi h h' st k=>st.at λo e=>k it (by simp) o e
 item:=by
  intro X hP hw hK hc i pins s σ H E I hf st hg;subst hP hw hK;obtain⟨hi,hd⟩:=hg;obtain⟨hgo,-,hsm,vs,rel,o2,es2,ep2,h1,h2,h3,h4,h5,h6⟩:=I.hok d _ hd;rw[hgo]at h1;obtain rfl:=Option.some.inj h1;rw[ho]at h3;injection h3 with e1 e2
  subst e1 e2;have hv:=pairs_rel h5 rel;have hel:=pairs_len h5;have hkl:kvs.length=vs.length:=KV.length rel;have hsz:es.size=kvs.length:=by rw[←Array.length_toList,hel,hkl]
  have hen:es[i]?=some (es[i]'(by omega)):=Array.getElem?_eq_getElem (by omega)
  generalize es[i]'(by omega)=en at hen;have hkv:kvs[i]?=some (kvs[i]'hi):=List.getElem?_eq_getElem hi
  generalize kvs[i]'hi=kv at hkv;obtain⟨u0,hu0,rk⟩:=hv.get (i:=i) (x:=kV kv.1) (by rw[List.getElem?_map,hkv];rfl);rw[List.getElem?_map,Array.getElem?_toList,hen]at hu0;obtain rfl:en.key=u0:=Option.some.inj hu0;obtain⟨f0,f1,f2,f3,f4,f5⟩:=hf it (by simp);refine Dk.item st ⟨_,hgo,h2,ho⟩ hen λh' st' sb=>?_
  have I1:Inv X pins σ H { s with heap:=h' }:=I.turned (t':=s.toks) (λb o hb e=>(sb.2 b hb).trans e) f0 f1 f3 f4 f5;obtain⟨oi,e,c,dd⟩:=id st';exact⟨_,rfl,go_of (s:={ s with heap:=h' }) e c dd (by decide) ⟨kV kv.1,H,I1,rk,⟨rfl,kv,hkv,rfl⟩,st',λb hb=>(hf b hb).1⟩⟩
 done:=by
  intro X hP hw hK hc i pins s σ H E I hf st hg;subst hP hw hK;obtain⟨hi,hd⟩:=hg;obtain⟨hgo,-,hsm,vs,rel,o2,es2,ep2,h1,h2,h3,h4,h5,h6⟩:=I.hok d _ hd;rw[hgo]at h1;obtain rfl:=Option.some.inj h1;rw[ho]at h3;injection h3 with e1 e2
  subst e1 e2;have hel:=pairs_len h5;have hkl:kvs.length=vs.length:=KV.length rel;have hsz:es.size=kvs.length:=by rw[←Array.length_toList,hel,hkl]
  obtain⟨f0,f1,f2,f3,f4,f5⟩:=hf it (by simp);exact Dk.fin (I.ok.hd hc) st ⟨_,hgo,h2,ho⟩ (Array.getElem?_eq_none (by omega)) λh' eb=>⟨rfl,I.turned (t':=s.toks) (λb o hb e=>eb b o hb e) f0 f1 f3 f4 f5⟩
 self:=λ_ _ _ _ _ st h=>wpAny_pyIter_keyiter st h
section
variable {X:Cx} {tg:Expr}
def iDK (tl:TE):TI:=λ σ H R=>tl σ H λx H1=>∃d kvs,x=.ref d/\H1 d=some (.dK kvs)/\∀o,R (ItdK d o kvs) (upd H1 d (.frz o (.dK kvs)))
theorem pi_dK {l:Expr}{tl:TE}(hl:PE X l tl):PI X tg l (iDK tl):=by
 intro pins s σ H R I h;refine thn (hl pins s σ H _ I h) λu s1 ⟨x,H1,I1,rx,d,kvs,ex,hd,q⟩=>?_
 subst ex;cases rx;obtain⟨-,hsm,vs,rel,o,es,ep,h1,h2,h3,h4,h5,h6⟩:=I1.hok d _ hd;refine Dk.iter hsm ⟨o,h1,h2,h3⟩ ?_;have I2:=(I1.freeze hd True.intro h1).kept (h':=s1.heap.push { cls:=.type "dict_keyiterator",data:=.fields #[.ref d,.int 0 0,.int es.size 0,.int ep 0] }) (t':=s1.toks) λb o e=>Heap.get?_push_of_some _ e
 have T:=turn_dK (P:=X.prog) (w:=X.w) (K:=X.K) (tg:=tg) d s1.heap.objs.size o es ep kvs h3;refine⟨_,_,_,_,_,rfl,I2,T,⟨_,Heap.get?_push_size _ rfl,rfl,rfl⟩,λb hb=>?_,q o⟩;rw[List.mem_singleton.mp hb];have hfr:=I1.hok.fresh (Nat.le_refl s1.heap.objs.size);exact I1.fpOk (Nat.le_refl _) (by rw[upd_ne (λz=>by rw[z,hd]at hfr;cases hfr)];exact hfr)
end
theorem for_dK {d:Addr}{o:Obj}{kvs:List (Key×V)}{g:TG}{tb:TS}{D:Ends}{σ:St}{H:Hp}(Pv:Nat->St->Hp->Prop)(h0:Pv 0 σ H)(hl:∀i σ H,i<=kvs.length->Pv i σ H->H d=some (.frz o (.dK kvs)))
 (hs:∀i kv σ H,kvs[i]?=some kv->Pv i σ H->g (kV kv.1) σ H λ σ2 H2=>tb { D with nx:=Pv (i+ 1),ct:=Pv (i+ 1),bk:=D.nx } σ2 H2) (hd:∀ σ H,Pv kvs.length σ H->D.nx σ H):
 ∃W:Nat->Nat->St->Hp->Prop,(∃m,W 0 m σ H)/\∀i m σ H,W i m σ H->
  ((ItdK d o kvs).stop i H/\D.nx σ H)\/((ItdK d o kvs).go i H/\∃N:St->Hp->Prop,(∀ σ' H',N σ' H'->∃m',m'<m/\W (i+ 1) m' σ' H')/\∀x H',(ItdK d o kvs).yld i H x H'->g x σ H' λ σ2 H2=>tb { D with nx:=N,ct:=N,bk:=D.nx } σ2 H2):=by
 refine⟨λi m σ H=>m=kvs.length - i/\i<=kvs.length/\Pv i σ H,⟨kvs.length,by simp,Nat.zero_le _,h0⟩,?_⟩;rintro i m σ H ⟨rfl,hi,p⟩;have q:=hl i σ H hi p;by_cases hlt:i<kvs.length
 ·refine .inr ⟨⟨hlt,q⟩,Pv (i+ 1),λ σ' H' p'=>⟨kvs.length - (i+ 1),by omega,rfl,hlt,p'⟩,λx H' y=>?_⟩;obtain⟨rfl,kv,h1,rfl⟩:=y;exact hs i kv σ _ h1 p
 ·have e:i=kvs.length:=by omega
  subst e;exact .inl ⟨⟨Nat.le_refl _,q⟩,hd σ H p⟩
section
variable {X:Cx} {o e f:Expr} {apos cpos:Pos} {td ty tx:TE}
end
end L2
namespace L2
open PySem PySem.Spec PyProof.Rows
namespace Di
section
variable {prog:Program} {w:World} {A:Around} {E:Value->Shared->Prop} {s:Shared} {d:Addr} {es:Array DictEntry} {ep:Nat}
theorem meets (d:Addr)(hd:(d==sysModules)=false):MeetsIn prog w (Builtin.«dict.items» ⟨[.ref d],[]⟩) (λ_ R s=>(∃es ep,RawD s.heap d es ep)/\R (.ok (.ret (.ref s.heap.objs.size))) { s with heap:=s.heap.push { cls:=.type "dict_items",data:=.fields #[.ref d] } }):=
 .of_wp λA R s ⟨⟨es,ep,hm⟩,h⟩=>by
  unfold Builtin.«dict.items»;refine wpAny_bind ?_;unfold Builtin.Dict.noArgs;refine wpAny_bind (wpAny_notOrdered_dict (Dk.typ hm) ?_);show wpAny _ _ (pure d) _ _ s
  refine wpAny_pure ?_;show wpAny _ _ (Builtin.Dict.showsAll d >>=_) _ _ s;unfold Builtin.Dict.showsAll
  rw[if_neg (by rw[hd];decide)];exact wpAny_bind (wpAny_pure (wpAny_bind (wpAny_newObj_type (wpAny_pure ⟨_,rfl,h⟩))))
theorem iter {v:Addr}{Q:Value->Shared->Prop}(hv:s.heap.IsItemsView v d)(hm:RawD s.heap d es ep)
 (hQ:Q (.ref s.heap.objs.size) { s with heap:=s.heap.push { cls:=.type "dict_itemiterator",data:=.fields #[.none,.bool false,.ref d,.int 0 0,.int es.size 0,.int ep 0,.none,.none] } }):wpAny (model prog w) A (pyIter (.ref v)) Q E s:=by
 obtain⟨ov,hov,hcv,hdv⟩:=id hv;obtain⟨o,ho,hc,hdat⟩:=id hm;refine wpAny_pyIter_slot hv.typeIs F.slot_dict_items_iter (wpAny_call_entry F.slot_dict_items_iter hv.typeIs F.entry_dict_items_iter ?_ (F.args_dict_items_iter_1 _));unfold Builtin.«dict_items.__iter__»;refine wpAny_bind (wpAny_pure (wpAny_bind ?_));unfold Builtin.Dict_items.dictOf;refine wpAny_bind (wpAny_field hov hdv (x:=.ref d) rfl (wpAny_pure (wpAny_bind ?_)));unfold Builtin.Dict_items.newIterator;refine wpAny_bind (wpAny_dictEntries ho hdat (wpAny_bind (wpAny_dictEpoch ho hdat ?_)));have own:Builtin.Dict_items.ownsTuple "dict_itemiterator"=true:=by decide
 simp only[own,if_true];refine wpAny_newObj_type (wpAny_pure ⟨_,rfl,"dict_itemiterator",_,⟨_,Heap.get?_push_size _ rfl,rfl⟩,F.slot_dict_itemiterator_next.lookup,?_⟩) (by simp only[sizeOk,Builtin.Dict_items.ownedTupleFields,List.size_toArray,List.length_append,List.length_cons,List.length_nil,sizeLine_eq];omega);simpa [rawInt,Builtin.Dict_items.ownedTupleFields] using hQ
theorem item {it:Addr}{i:Nat}{en:DictEntry}{ok ov:Value}{Q:Option Value->Shared->Prop}(hit:IsItemIter s.heap it d i es.size ep ok ov)(hm:RawD s.heap d es ep)(hx:es[i]?=some en)
 (hQ:∀g,IsItemIterOut g it d (i+ 1) es.size ep en.key en.val s.heap.objs.size->g.get? s.heap.objs.size=some { cls:=.type "tuple",data:=.seq #[en.key,en.val] }->
  (∀b o,b≠it->s.heap.get? b=some o->g.get? b=some o)->Q (some (.ref s.heap.objs.size)) { s with heap:=g }):wpAny (model prog w) A (pyNext (.ref it)) Q E s:=by
 obtain⟨hp,gn,dr,tk,os⟩:=s;obtain⟨od,hod,hcd,hdd⟩:=id hm;have hT:Shared.TypeIs ⟨hp,gn,dr,tk,os⟩ (.ref it) "dict_itemiterator":=⟨_,hit,rfl⟩;unfold pyNext;refine wpAny_bind (wpAny_attempt (wpAny_callSpecial?_slot (name:=Str.ofString "__next__") hT F.slot_dict_itemiterator_next (wpAny_call_entry F.slot_dict_itemiterator_next hT F.entry_dict_itemiterator_next ?_ (F.args_dict_itemiterator_next_1 _))));refine wpAny_bind (wpAny_pure (wpAny_bind (wpAny_bind ?_)))
 first|(refine wpAny_bind (wpAny_typeNameOfWhole_itemiter hT (wpAny_pure ?_));skip)|(refine wpAny_bind (wpAny_typeNameOf_itemiter hT (wpAny_pure ?_));skip)
 refine wpAny_bind (wpAny_fieldsOf hit rfl ?_);have own:Builtin.Dict_items.ownsTuple "dict_itemiterator"=true:=by decide
 simp only[own,if_true];show wpAny _ _ (if (Value.ref d==Value.none)=true then _ else _) _ _ _
 rw[if_neg (show ¬((Value.ref d==Value.none)=true) by intro z;cases z)];refine wpAny_bind (wpAny_pure (wpAny_bind (wpAny_dictEntries hod hdd ?_)));rw[if_neg (by simp)];refine wpAny_bind (wpAny_pure (wpAny_bind (wpAny_dictEpoch hod hdd ?_)));rw[if_neg (by simp)];refine wpAny_pure ?_;simp only[show ¬((i:Int)<0) by omega,if_false,Int.toNat_natCast,hx];refine wpAny_bind ?_
 first|(refine wpAny_bind (wpAny_typeNameOfWhole_itemiter hT (wpAny_pure ?_));skip)|(refine wpAny_bind (wpAny_typeNameOf_itemiter hT (wpAny_pure ?_));skip)
 refine wpAny_bind (wpAny_isOneOf_itemiter hT ?_);show wpAny _ _ (setField (.ref it) 3 (rawInt ((i:Int)+ 1)) >>=_) _ _ ⟨hp,gn,dr,tk,os⟩
 refine wpAny_bind (wpAny_setField_rec hit (by simp) λg1 e1 s1=>?_);replace s1:Heap.SameBut it hp g1:=s1
 replace e1:IsItemIter g1 it d (i+ 1) es.size ep ok ov:=by
  unfold IsItemIter;rw[show ((i+ 1:Nat):Int)=(i:Int)+ 1 by omega];simpa [rawInt] using e1
 have hT1:Shared.TypeIs ⟨g1,gn,dr,tk,os⟩ (.ref it) "dict_itemiterator":=⟨_,e1,rfl⟩;refine wpAny_bind (wpAny_holding (wpAny_bind (wpAny_isOneOf_itemiter hT1 (wpAny_bind (wpAny_isOneOf_itemiter hT1 ?_)))));show wpAny _ _ (Builtin.Dict_items.pairFromOwner (.ref it) 6 en.key en.val) _ _ ⟨g1,gn,dr,tk,os⟩;unfold Builtin.Dict_items.pairFromOwner;refine wpAny_bind (wpAny_newTuple ?_);have e2:IsItemIter (g1.push { cls:=.type "tuple",data:=.seq #[en.key,en.val] }) it d (i+ 1) es.size ep ok ov:=Heap.get?_push_of_some _ e1;generalize hg2:g1.push { cls:=.type "tuple",data:=.seq #[en.key,en.val] }=g2 at e2;have z1:g1.objs.size=hp.objs.size:=s1.1;have il:it<hp.objs.size:=Heap.lt_size hit;have t2:g2.get? hp.objs.size=some { cls:=.type "tuple",data:=.seq #[en.key,en.val] }:=by rw[←hg2,←z1];exact Heap.get?_push_size _ rfl
 have k2:∀b o,b≠it->hp.get? b=some o->g2.get? b=some o:=λb o hb e=>by rw[←hg2];exact Heap.get?_push_of_some _ (s1.extBut b o hb e)
 show wpAny _ _ (Builtin.Dict_items.ownedTupleIsFree (.ref it) >>=_) _ _ ⟨g2,gn,dr,tk,os⟩;rw[z1];clear hg2 e1 s1 hT1 z1 g1;refine wpAny_bind ?_;unfold Builtin.Dict_items.ownedTupleIsFree;refine wpAny_bind (wpAny_field e2 rfl (x:=.none) rfl (wpAny_pure ?_));simp only[if_true];refine wpAny_bind (wpAny_field e2 rfl (x:=ok) rfl (wpAny_bind (wpAny_field e2 rfl (x:=ov) rfl ?_)));refine wpAny_bind (wpAny_setField_rec e2 (by simp) λg3 e3 s3=>?_);replace s3:Heap.SameBut it g2 g3:=s3;replace e3:IsItemIter g3 it d (i+ 1) es.size ep en.key ov:=e3;refine wpAny_bind (wpAny_setField_rec e3 (by simp) λg4 e4 s4=>?_);replace s4:Heap.SameBut it g3 g4:=s4;replace e4:IsItemIter g4 it d (i+ 1) es.size ep en.key en.val:=e4;refine wpAny_bind (wpAny_setField_rec e4 (by simp) λg5 e5 s5=>?_);replace s5:Heap.SameBut it g4 g5:=s5;replace e5:IsItemIterOut g5 it d (i+ 1) es.size ep en.key en.val hp.objs.size:=e5;refine wpAny_bind (wpAny_setField_rec e5 (by simp) λg6 e6 s6=>?_);replace s6:Heap.SameBut it g5 g6:=s6;replace e6:IsItemIterOut g6 it d (i+ 1) es.size ep en.key en.val hp.objs.size:=e6;have k6:∀b o,b≠it->g2.get? b=some o->g6.get? b=some o:=λb o hb e=>s6.extBut b o hb (s5.extBut b o hb (s4.extBut b o hb (s3.extBut b o hb e)))
 exact wpAny_bind (wpAny_letGo (wpAny_pure (wpAny_pure ⟨_,rfl,wpAny_pure (hQ g6 e6 (k6 _ _ (Nat.ne_of_gt il) t2) λb o hb e=>k6 b o hb (k2 b o hb e))⟩)))
theorem fin {it:Addr}{i:Nat}{ok ov:Value}{Q:Option Value->Shared->Prop}(hh:A.handled=none)(hit:IsItemIter s.heap it d i es.size ep ok ov)(hm:RawD s.heap d es ep)(hx:es[i]?=none)
 (hQ:∀g,Heap.ExtBut it s.heap g->Q none { s with heap:=g }):wpAny (model prog w) A (pyNext (.ref it)) Q E s:=by
 obtain⟨od,hod,hcd,hdd⟩:=id hm;have hT:s.TypeIs (.ref it) "dict_itemiterator":=⟨_,hit,rfl⟩;unfold pyNext;refine wpAny_bind (wpAny_attempt (wpAny_callSpecial?_slot (name:=Str.ofString "__next__") hT F.slot_dict_itemiterator_next (wpAny_call_entry F.slot_dict_itemiterator_next hT F.entry_dict_itemiterator_next ?_ (F.args_dict_itemiterator_next_1 _))));refine wpAny_bind (wpAny_pure (wpAny_bind (wpAny_bind ?_)))
 first|(refine wpAny_bind (wpAny_typeNameOfWhole_itemiter hT (wpAny_pure ?_));skip)|(refine wpAny_bind (wpAny_typeNameOf_itemiter hT (wpAny_pure ?_));skip)
 refine wpAny_bind (wpAny_fieldsOf hit rfl ?_);have own:Builtin.Dict_items.ownsTuple "dict_itemiterator"=true:=by decide
 simp only[own,if_true];show wpAny _ _ (if (Value.ref d==Value.none)=true then _ else _) _ _ s
 rw[if_neg (show ¬((Value.ref d==Value.none)=true) by intro z;cases z)];refine wpAny_bind (wpAny_pure (wpAny_bind (wpAny_dictEntries hod hdd ?_)));rw[if_neg (by simp)];refine wpAny_bind (wpAny_pure (wpAny_bind (wpAny_dictEpoch hod hdd ?_)));rw[if_neg (by simp)];refine wpAny_pure ?_;simp only[show ¬((i:Int)<0) by omega,if_false,Int.toNat_natCast,hx];refine wpAny_bind ?_
 first|(refine wpAny_bind (wpAny_typeNameOfWhole_itemiter hT (wpAny_pure ?_));skip)|(refine wpAny_bind (wpAny_typeNameOf_itemiter hT (wpAny_pure ?_));skip)
 show wpAny _ _ (setField (.ref it) 2 .none >>=_) _ _ s;refine wpAny_bind (wpAny_setField hit rfl (by simp) ?_);show wpAny _ _ (newExc (.type "StopIteration") [] >>=_) _ _ _;refine wpAny_bind ?_;simp only[newExc,newTuple];refine wpAny_bind (wpAny_newObj_type ?_ (by size_fits));refine wpAny_bind (m:=firstArgMember _ _) (wpAny_of_eq (a:=Value.none) (by first|rfl|(simp only[firstArgMember];rfl)) ?_);refine wpAny_newObj_type ?_ (by size_fits);simp only[raiseNew];refine wpAny_bind (wpAny_handled ?_);rw[show A.in1.handled=none from hh];refine wpAny_bind (wpAny_pure (wpAny_throw ?_));refine wpAny_bind (wpAny_isInstance (T:="StopIteration") (b:=true) ⟨_,Heap.get?_push_size _ rfl,rfl⟩ isSubtype_stop ?_);exact wpAny_pure (hQ _ (((Heap.SameBut.update ..).extBut.push _).push _))
end
end Di
section
variable {X:Cx}
end
end L2
namespace L2
open PySem PySem.Spec PyProof.Rows
section
variable {κ:Type} [DecidableEq κ]
end
def DI (H:Hp)(d:Addr)(f:Int->Option V):Prop:=∃kvs:List (Key×V),H d=some (.dK kvs)/\(kvs.map (·.1)).Nodup/\(∀kv∈kvs,∃i:Int,kv.1=Sum.inl i)/\∀i:Int,valV kvs (Sum.inl i)=f i
abbrev Rel3:=Int->Int->Int->Bool
structure KAt (H:Hp) (k:Addr) (D:Int->Option Addr) (E:Int->Int->Option Addr) (S:Rel3):Prop where
 top:DI H k λc=>(D c).map V.ref
 row:∀c d,D c=some d->DI H d λs=>(E c s).map V.ref
 cel:∀c s e,E c s=some e->DI H e λo=>if S c s o=true then some (.bl true) else none
 ed:∀c s e,E c s=some e->∃d,D c=some d
 se:∀c s o,S c s o=true->∃e,E c s=some e
 nd:∀c d,D c=some d->d≠k
 ne:∀c s e,E c s=some e->e≠k
 dd:∀c c' d,D c=some d->D c'=some d->c=c'
 de:∀c c' s d,D c=some d->E c' s=some d->False
 ee:∀c s c' s' e,E c s=some e->E c' s'=some e->c=c'/\s=s'
def Kown (k:Addr)(D:Int->Option Addr)(E:Int->Int->Option Addr)(b:Addr):Prop:=b=k\/(∃c,D c=some b)\/∃c s,E c s=some b
section
variable {H H':Hp} {k:Addr} {D:Int->Option Addr} {E:Int->Int->Option Addr} {S:Rel3}
end
end L2
namespace L2
open PySem PySem.Spec PyProof.Rows
namespace Et
section
variable {prog:Program} {w:World} {A:Around} {E:Value->Shared->Prop} {s:Shared}
theorem item {it t:Addr}{i:Nat}{items:Array Value}{x:Value}{Q:Value->Shared->Prop}(hit:s.heap.IsTupleIter it t i)(ht:s.heap.IsTuple t items)(hx:items[i]?=some x)
 (hQ:∀g,g.IsTupleIter it t (i+ 1)->Heap.SameBut it s.heap g->Q x { s with heap:=g }):wpAny (model prog w) A (Builtin.SmallTypes.nextOf (.ref it)) Q E s:=by
 obtain⟨o,ho,hc,hd⟩:=id hit;obtain⟨ol,hol,_,nl,hdl⟩:=ht;unfold Builtin.SmallTypes.nextOf;refine wpAny_bind (wpAny_callSpecial?_slot (name:=Str.ofString "__next__") hit.typeIs F.slot_tuple_iterator_next (wpAny_call_entry F.slot_tuple_iterator_next hit.typeIs F.entry_tuple_iterator_next ?_ (F.args_tuple_iterator_next_1 _)));show wpAny _ _ (field (.ref it) 0 >>=_) _ _ s;refine wpAny_bind (wpAny_field ho hd (x:=.ref t) rfl ?_);show wpAny _ _ (if (Value.ref t==Value.none)=true then _ else _) _ _ s;rw[if_neg (show ¬((Value.ref t==Value.none)=true) by intro z;cases z)];show wpAny _ _ (field (.ref it) 1 >>=_) _ _ s;refine wpAny_bind (wpAny_field ho hd (x:=.int i 0) rfl ?_);show wpAny _ _ (seqItems? (.ref t) >>=_) _ _ s;refine wpAny_bind (wpAny_seqItems hol hdl ?_);simp only[Int.toNat_natCast,hx];exact wpAny_bind (wpAny_setField ho hd (by simp) (wpAny_pure ⟨x,rfl,wpAny_pure (hQ _ ⟨_,Heap.get?_update_self _ ho (Obj.isFreed_of_fields (Obj.data_mapFields hd _)),(Obj.cls_mapFields ..).trans hc,by rw[Obj.data_mapFields hd];simp[rawInt]⟩ (Heap.SameBut.update ..))⟩))
theorem fin {it t:Addr}{i:Nat}{items:Array Value}{Q:Value->Shared->Prop}(hh:A.handled=none)(hit:s.heap.IsTupleIter it t i)(ht:s.heap.IsTuple t items)(hx:items[i]?=none)
 (hE:∀g e,Heap.ExtBut it s.heap g->(∃o,g.get? e=some o/\o.cls=.type "StopIteration")->E (.ref e) { s with heap:=g }):wpAny (model prog w) A (Builtin.SmallTypes.nextOf (.ref it)) Q E s:=by
 obtain⟨o,ho,hc,hd⟩:=id hit;obtain⟨ol,hol,_,nl,hdl⟩:=ht;unfold Builtin.SmallTypes.nextOf;refine wpAny_bind (wpAny_callSpecial?_slot (name:=Str.ofString "__next__") hit.typeIs F.slot_tuple_iterator_next (wpAny_call_entry F.slot_tuple_iterator_next hit.typeIs F.entry_tuple_iterator_next ?_ (F.args_tuple_iterator_next_1 _)));show wpAny _ _ (field (.ref it) 0 >>=_) _ _ s;refine wpAny_bind (wpAny_field ho hd (x:=.ref t) rfl ?_);show wpAny _ _ (if (Value.ref t==Value.none)=true then _ else _) _ _ s;rw[if_neg (show ¬((Value.ref t==Value.none)=true) by intro z;cases z)];show wpAny _ _ (field (.ref it) 1 >>=_) _ _ s;refine wpAny_bind (wpAny_field ho hd (x:=.int i 0) rfl ?_);show wpAny _ _ (seqItems? (.ref t) >>=_) _ _ s;refine wpAny_bind (wpAny_seqItems hol hdl ?_);simp only[Int.toNat_natCast,hx];refine wpAny_bind (wpAny_rule (wpAny_bind (wpAny_setField ho hd (by simp) ?_)));show wpAny _ _ (newExc (.type "StopIteration") [] >>=_) _ _ _
 refine wpAny_bind ?_;simp only[newExc,newTuple];refine wpAny_bind (wpAny_newObj_type ?_ (by size_fits));refine wpAny_bind (m:=firstArgMember _ _) (wpAny_of_eq (a:=Value.none) (by first|rfl|(simp only[firstArgMember];rfl)) ?_);refine wpAny_newObj_type ?_ (by size_fits);simp only[raiseNew];refine wpAny_bind (wpAny_handled ?_);first|rw[show A.in1.handled=none from hh]|rw[hh]
 refine wpAny_bind (wpAny_pure (wpAny_throw ?_));exact hE _ _ (((Heap.SameBut.update ..).extBut.push _).push _) ⟨_,Heap.get?_push_size _ rfl,rfl⟩
end
theorem meets (l:Addr)(items:Array Value)(n:Nat)(dct:Option Addr)(sl:Array (Option Value)):
 Meets (Builtin.«enumerate.__new__» ⟨[.type "enumerate",.ref l],[]⟩) (λ_ R s=>s.heap.get? l=some { cls:=.type "tuple",dict:=dct,data:=.seq items n,slots:=sl }/\
  R (.ok (.ret (.ref (s.heap.push { cls:=.type "tuple_iterator",data:=.fields #[.ref l,.int 0 0] }).objs.size)))
    { s with heap:=(s.heap.push { cls:=.type "tuple_iterator",data:=.fields #[.ref l,.int 0 0] }).push { cls:=.type "enumerate",data:=.fields #[.none,.bool false,.ref s.heap.objs.size,rawInt 0,.none,.none] } }):=
 .of_wp λprog w A R s h=>by
  obtain⟨hp,g,d,tk,os⟩:=s;obtain⟨hl,h⟩:=h;have hsub:=sub_enumerate;have hL:Heap.IsTuple (Shared.heap ⟨hp,g,d,tk,os⟩) l items:=⟨_,hl,rfl,n,rfl⟩
  wp_walk using wpAny_loadPart' hl;refine wpAny_stack_any λst=>wpAny_pure ?_
  split
  ·rename_i c _ _ _ _ _;cases (c==Value.type "enumerate") <;> (wp_walk using wpAny_loadPart' hl,wpAny_pyIter_tuple hL;exact⟨_,rfl,h⟩)
  ·wp_walk using wpAny_loadPart' hl,wpAny_pyIter_tuple hL;exact⟨_,rfl,h⟩
theorem call {prog:Program}{w:World}{A:Around}{E:Value->Shared->Prop}{s:Shared}{l:Addr}{items:Array Value}{Q:Value->Shared->Prop}(hL:s.heap.IsTuple l items)
 (h:∀g,IsEnum g (s.heap.objs.size+ 1) s.heap.objs.size 0 .none->g.IsTupleIter s.heap.objs.size l 0->g.objs.size=s.heap.objs.size+ 2->(∀b o,s.heap.get? b=some o->g.get? b=some o)->Q (.ref (s.heap.objs.size+ 1)) { s with heap:=g }):
 wpAny (model prog w) A (call (.type "enumerate") [.ref l]) Q E s:=by
 obtain⟨⟨c,dct,dt,sl⟩,hl,hc,n,hd⟩:=hL;replace hc:c=.type "tuple":=hc;replace hd:dt=.seq items n:=hd;subst hc hd;refine callType_new F.called_enumerate (by decide) (F.typeCall_enumerate_1 _) (F.newCall_enumerate_1 _) (λobj=>F.args_object_init_2 obj _) F.entry_enumerate_new (meets l items n dct sl) ⟨hl,?_⟩;have hz:(s.heap.push { cls:=.type "tuple_iterator",data:=.fields #[.ref l,.int 0 0] }).objs.size=s.heap.objs.size+ 1:=Heap.size_push ..;show _/\_;rw[hz]
 have he:IsEnum ((s.heap.push { cls:=.type "tuple_iterator",data:=.fields #[.ref l,.int 0 0] }).push { cls:=.type "enumerate",data:=.fields #[.none,.bool false,.ref s.heap.objs.size,rawInt 0,.none,.none] }) (s.heap.objs.size+ 1) s.heap.objs.size 0 .none:=by
  have:=Heap.get?_push_size (s.heap.push { cls:=.type "tuple_iterator",data:=.fields #[.ref l,.int 0 0] }) (o:={ cls:=.type "enumerate",data:=.fields #[.none,.bool false,.ref s.heap.objs.size,rawInt 0,.none,.none] }) rfl;rw[hz]at this;exact this
 exact⟨⟨_,he,rfl⟩,h _ he ⟨_,Heap.get?_push_of_some _ (Heap.get?_push_size _ rfl),rfl,rfl⟩ (by rw[Heap.size_push,hz]) λb o x=>Heap.get?_push_of_some _ (Heap.get?_push_of_some _ x)⟩
end Et
section
variable {X:Cx}
end
end L2
namespace HT
open PySem PySem.Spec PyProof.Rows L2
section
variable {prog:Program} {w:World} {A:Around} {E:Value->Shared->Prop} {s:Shared}
end
end HT
namespace L2
open PySem PySem.Spec PyProof.Rows
section
variable {X:Cx}
end
end L2
namespace L2
open PySem PySem.Spec PyProof.Rows
section
variable {K:PySem.W.Frag} {mg:Str->Option Value} {h:Heap} {C f:Addr} {x q:Str} {st:Stmt} {ps:List Str} {oc kV doc pm cdv ct:Value} {od an:Option Addr} {osl:Array (Option Value)}
theorem Def.of (X:K.In h)(G:h.Ns mainGlobals mg)(a:PySem.W.nsIn K mainGlobals x=some (some (.ref f)))(l:K.lookup f=some ⟨oc,od,.func (PySem.W.fnOf x x (defArgs st) (defBody st) (defScope st) .none kV doc pm an cdv ct),osl⟩)(c:PySem.W.codeIn K cdv x=true)(k:PySem.W.keepIn K (.ref f)=true)
 (b:∀(kV doc pm:Value) (an:Option Addr) (cdv ct:Value) (us:List Value),us.length=ps.length->bindArgs (PySem.W.fnOf x x (defArgs st) (defBody st) (defScope st) .none kV doc pm an cdv ct) ⟨us,[]⟩=pure (ps.zip us)):Def K mg x st ps f (PySem.W.fnOf x x (defArgs st) (defBody st) (defScope st) .none kV doc pm an cdv ct):=
 have F:=fun_mk (st:=st) l c k
 ⟨F,PySem.W.mg_of X G a,F.binds (ps:=ps) b⟩
theorem MDef.of (a:PySem.W.findIn K (.ref C) x=some (some (.ref f)))(i:PySem.W.isFn K (.ref f)=true)(l:K.lookup f=some ⟨oc,od,.func (PySem.W.fnOf x q (defArgs st) (defBody st) (defScope st) .none kV doc pm an cdv ct),osl⟩)(c:PySem.W.codeIn K cdv q=true)(k:PySem.W.keepIn K (.ref f)=true)
 (b:∀(kV doc pm:Value) (an:Option Addr) (cdv ct:Value) (us:List Value),us.length=ps.length->bindArgs (PySem.W.fnOf x q (defArgs st) (defBody st) (defScope st) .none kV doc pm an cdv ct) ⟨us,[]⟩=pure (ps.zip us)):MDef K C x q st ps f (PySem.W.fnOf x q (defArgs st) (defBody st) (defScope st) .none kV doc pm an cdv ct):=
 have F:=fun_mk (st:=st) l c k
 ⟨F,⟨a,i,k⟩,F.binds (ps:=ps) b⟩
theorem Def.fd {fd:FuncData}(D:Def K mg x st ps f fd):∃(kV doc pm:Value) (an:Option Addr) (cdv ct:Value),fd=PySem.W.fnOf x x (defArgs st) (defBody st) (defScope st) .none kV doc pm an cdv ct:=by
 obtain⟨oc,od,kV,doc,pm,an,cdv,ct,osl,e,_⟩:=D.F.ex;exact⟨kV,doc,pm,an,cdv,ct,e⟩
end
end L2
namespace L2
def wk (b:Nat->Int->Option Nat):Nat->List Int->Option Nat
 |c,[]=>some c
 |c,z::w=>match b c z with
  |none=>none
  |some d=>wk b d w
section
variable {b:Nat->Int->Option Nat}
end
structure Later (S S':RS):Prop where
 el:∀c,c<S.made->S'.eld (S.eld c)=S'.eld c
 by_:∀c z d,S.by c z=some d->S'.by (S'.eld c) z=some (S'.eld d)
structure Gg where
 which:Nat
 word:List Int
 start:Nat
 front:Nat
 first:Nat
 rear:Nat
 last:Nat
def Gg.z1 (g:Gg):Int:=g.word.getD g.first 0
def Gg.z2 (g:Gg):Int:=-(g.word.getD g.last 0)
structure GI (S:RS) (g:Gg):Prop where
 fl:g.first<=g.last
 ll:g.last<g.word.length
 s:g.start<S.made
 f:g.front<S.made
 r:g.rear<S.made
 wf:wk S.by (S.eld g.start) (g.word.take g.first)=some (S.eld g.front)
 wr:wk S.by (S.eld g.rear) (g.word.drop (g.last+ 1))=some (S.eld g.start)
structure Adv (S:RS) (g g':Gg):Prop where
 wh:g'.which=g.which
 wo:g'.word=g.word
 st:g'.start=g.start
 gi:GI S g'
 ef:S.eld g'.front=g'.front
 er:S.eld g'.rear=g'.rear
 n1:g'.first<g'.last->S.by g'.front g'.z1=none
 n2:g'.first<g'.last->S.by g'.rear g'.z2=none
 k1:S.eld g.front=g.front->S.by g.front g.z1=none->g'.front=g.front/\g'.first=g.first
 k2:S.eld g.rear=g.rear->S.by g.rear g.z2=none->g'.rear=g.rear/\g'.last=g.last
def eN (m:Nat)(W:Rel3)(n:Int):Nat:=(List.range (m* 2001)).countP λc=>W ((c / 2001:Nat):Int) (((c % 2001:Nat):Int) - 1000) n
def offW (W:Rel3)(r s:Int):Rel3:=λr' s' n=>W r' s' n && !(decide (r'=r) && decide (s'=s))
end L2
namespace L2
structure CI (S:RS) (bs:List (Nat×List Int×Nat)) (gs:List (Option Gg)) (ag:List Nat) (W:Rel3) (Ex:Nat->Int->Prop) (x:Option Nat):Prop where
 len:gs.length=bs.length
 al:∀(n:Nat) (g:Gg),gs[n]?=some (some g)->bs[n]?=some (g.which,g.word,g.start)/\GI S g/\(n∈ag\/some n=x\/(g.first<g.last/\W g.front g.z1 n=true/\W g.rear g.z2 n=true))
 de:∀(n:Nat) (b:Nat×List Int×Nat),gs[n]?=some none->some n≠x->bs[n]?=some b->S.eld b.2.2≠b.2.2\/wk S.by b.2.2 b.2.1=some b.2.2
 ab:∀n∈ag,n<gs.length
 en:∀r s n,W r s n=true->∃r' n':Nat,r=r'/\n=n'/\r'<S.made/\n'<gs.length/\(-1000<=s/\s<=1000)/\(S.eld r'=r'/\S.by r' s=none\/Ex r' s)
 sl:∀n:Nat,∃p q:Int×Int,(∀r s,W r s n=true->(r,s)=p\/(r,s)=q)/\∀g,gs[n]?=some (some g)->p=((g.front:Int),g.z1)/\q=((g.rear:Int),g.z2)
 bd:∀b∈bs,∀z∈b.2.1,-1000<=z/\z<=1000
def noEx:Nat->Int->Prop:=λ_ _=>False
section
variable {S S':RS} {bs:List (Nat×List Int×Nat)} {gs:List (Option Gg)} {ag:List Nat} {W:Rel3} {Ex:Nat->Int->Prop} {x:Option Nat} {n:Nat}
def addW (W:Rel3)(r s n:Int):Rel3:=λr' s' n'=>W r' s' n' || (decide (r'=r) && decide (s'=s) && decide (n'=n))
end
end L2
namespace L2
structure WentI (S:RS):Prop where
 a:∀c,c<S.made->S.eld c≠c->c∈S.went
 b:∀c∈S.went,S.eld c≠c
 c:∀c∈S.went,c<S.made
section
variable {S S':RS} {pend:List Way} {w:Way} {R:Nat->Int->Nat->Prop} {ks:List Int}
inductive LayR:RS->List Way->RS->Prop where
 |nil (S:RS):LayR S [] S
 |take {S S':RS} {pend:List Way} {w:Way}:LayR (S.takeIn pend w).1 (S.takeIn pend w).2 S'->LayR S (pend++[w]) S'
end
section
variable {S S':RS} {R:Nat->Int->Nat->Prop} {bs:List (Nat×List Int×Nat)} {gs:List (Option Gg)} {ag:List Nat} {W:Rel3} {n c d:Nat} {z:Int}
end
def goesL (by_:Nat->Int->Option Nat):Nat->List Int->List Nat
 |_,[]=>[]
 |r,z::ws=>match by_ r z with
  |none=>[]
  |some b=>b::goesL by_ b ws
def rowRule (w:Nat)(p:List Nat)(k:Nat):Dt:=.t [.s [114,117,108,101],.i w,.t (p.map λc:Nat=>Dt.i (c:Int)),.i k]
structure RuleAt (ws:List (List Int)) (nr:Nat) (S:RS) (which:Nat) (word:List Int) (start m c d:Nat) (z:Int):Prop where
 w:ws[which]?=some word
 n:which<nr\/start=0
 s:start<S.made/\S.eld start=start
 hz:word[m]?=some z
 f:wk S.by start (word.take m)=some c
 r:wk S.by d (word.drop (m+ 1))=some start
 hc:c<S.made/\S.eld c=c
 hd:d<S.made/\S.eld d=d
 o:S.by c z≠some d
def ruled (S:RS)(which:Nat)(word:List Int)(start m d:Nat):RS:={ S with rows:=S.rows++[rowRule which ((start::goesL S.by start (word.take m))++(d::goesL S.by d (word.drop (m+ 1)))) m] }
inductive Tr (ws:List (List Int)) (nr:Nat):RS->RS->Prop where
 |refl (S:RS):Tr ws nr S S
 |step {S S1 S2:RS} {which:Nat} {word:List Int} {start m c d:Nat} {z:Int}:Tr ws nr S S1->RuleAt ws nr S1 which word start m c d z->LayR (ruled S1 which word start m d) [(c,z,d)] S2->Tr ws nr S S2
def Rnd (S:RS)(c:Nat)(word:List Int):Prop:=wk S.by c word=some c\/∃(i j f r:Nat) (y z:Int),i<j/\word[i]?=some y/\word[j]?=some z/\wk S.by c (word.take i)=some f/\S.by f y=none/\wk S.by r (word.drop (j+ 1))=some c/\S.by r (-z)=none
structure Clsd (rs ps:List (List Int)) (S:RS):Prop where
 r:∀w∈rs,∀c,c<S.made->S.eld c=c->Rnd S c w
 p:∀w∈ps,Rnd S 0 w
def UW (U:Nat->Int->Nat->Prop):Nat->List Int->Nat->Prop
 |p,[],q=>p=q
 |p,z::w,q=>∃r,U p z r/\UW U r w q
structure Mdl (ws:List (List Int)) (nr M:Nat) (φ:Nat->Nat) (U:Nat->Int->Nat->Prop):Prop where
 sy:∀p z q,U p z q->U q (-z) p
 fn:∀p z q q',U p z q->U p z q'->q=q'
 cl:∀(which:Nat) (word:List Int) (start m c d:Nat) (z:Int),ws[which]?=some word->which<nr\/start=0->start<M->word[m]?=some z->UW U (φ start) (word.take m) (φ c)->UW U (φ d) (word.drop (m+ 1)) (φ start)->U (φ c) z (φ d)
section
variable {S S':RS} {R:Nat->Int->Nat->Prop} {φ:Nat->Nat} {U:Nat->Int->Nat->Prop} {ks:List Int}
end
end L2
namespace L2
open PySem PySem.Spec PyProof.Rows
section
variable {X:Cx}
end
section
variable {prog:Program} {w:World} {K:Type} [DecidableEq K] {knd:HeapKind prog w K} {A:Around} {E:Value->Shared->Prop} {s:Shared} {d a:Addr} {k:K} {xs:List (K×Addr×Value)}
end
section
variable {X:Cx} {o e f:Expr} {apos cpos:Pos} {td ty tx:TE}
end
end L2
namespace L2
open PySem PySem.Spec PyProof.Rows
section
variable {H:Hp} {k:Addr} {D:Int->Option Addr} {E:Int->Int->Option Addr} {S:Rel3}
end
structure WBd (k:Addr) (D:Int->Option Addr) (E:Int->Int->Option Addr) (W:Rel3) (O:Addr->Prop):Prop where
 o:∀b,Kown k D E b->O b
 d:∀c x,D c=some x->0<=c/\c<100000
 e:∀c s x,E c s=some x-> -1000<=s/\s<=1000
 w:∀c s n,W c s n=true->0<=n/\n<100000
def WAt (H:Hp)(k:Addr)(W:Rel3)(O:Addr->Prop):Prop:=∃D E,KAt H k D E W/\WBd k D E W O
def WRoom (H:Hp)(k:Addr)(W:Rel3)(O:Addr->Prop)(c:Int)(d:Addr):Prop:=∃D E,KAt H k D E W/\WBd k D E W O/\D c=some d
def WCell (H:Hp)(k:Addr)(W:Rel3)(O:Addr->Prop)(c s:Int)(e:Addr):Prop:=∃D E,KAt H k D E W/\WBd k D E W O/\E c s=some e
def Or1 (O:Addr->Prop)(p:Addr):Addr->Prop:=λb=>O b\/b=p
section
variable {H H':Hp} {k:Addr} {W:Rel3} {O:Addr->Prop} {c s:Int} {d e p:Addr}
end
end L2
namespace L2
section
variable {S:RS} {R:Nat->Int->Nat->Prop}
end
end L2
namespace L2
open PySem PySem.Spec PyProof.Rows
theorem run_lam {CX:CXT}{P:Program}{w:World}{K:PySem.W.Frag}{mg:Str->Option Value}{base:Heap}{k:Nat}{f c:Addr}{name qual:Str}{params:Arguments}{body:Expr}{scope:Scope}{pm ctv:Value}{N ps:List Str}
 {A:Around} {outer:List Env} {s:Shared} {H:Hp} {args:Args} {us:List Value} {vs:List V} {Q:VK} {E:XK} {t:TE} (S:FnScope N ps scope) (hl:vs.length=ps.length) (hr:Room (k+ 1) A) (e0:Env0 P w K mg base A outer s H)
 (ho:s.heap.get? f=some (PySem.W.kla_obj name qual params body scope [] pm c ctv)) (hcd:s.heap.CodeRec (.ref c) qual) (hb:bindArgs (PySem.W.kla_fn name qual params body scope [] pm (.ref c) ctv) args=pure (ps.zip us)) (r:Vals vs us)
 (hp:PE (cxOf CX P w K mg base N qual scope f (.ref c) A outer s H E) body t) (hq:t (start N vs) H Q):codeAny (model P w) A (.call (.ref f) args) (CR CX outer P w H s Q E) s:=by
 have lim:s.heap.NoLimit:=e0.mod.nolimit.keeps λb o e=>(e0.bs b o e).1
 have hkind:∀y∈ps.zip us,scope.names.lookup y.1=some .local\/(scope.names.lookup y.1=some .cell/\((cellsFrom (s.heap.objs.size+ 1) scope.names []).lookup y.1).isSome=true):=λ⟨n,v⟩ hy=>by
  rcases S.par n (List.of_mem_zip hy).1 with q|q
  ·exact .inl q
  ·exact .inr ⟨q,PySem.W.cellsFrom_some _ _ _ (.inl q)⟩
 refine PySem.W.kla_callFunE hr.depth ho rfl S.co S.gen rfl hcd ?_;rw[hb];refine wpAny_pure (wpAny_newFunctionEnv_cells S.kind hkind λenv he s1 x=>?_);subst he;refine⟨lim.keeps x.toInCall.keep,PySem.W.kla_codeExpr ?_⟩;have I:Inv (cxOf CX P w K mg base N qual scope f (.ref c) A outer s H E) [] (start N vs) H s1:=inv_start S hr.hd e0 hl r x;refine wpAny_mono (hp [] s1 (start N vs) H Q I hq) (λu s' ⟨v,H',J,rv,q⟩=>?_) λe s' hs=>hs
 exact⟨v,H',J.os,J.bare,J.base,J.hok,rv,q⟩
def TabI (Pt:Addr)(pos:Pos)(qual:Str)(H:Hp):Prop:=
 H Pt=some (.tbl #[])\/∃(c:Addr) (oc:Obj) (vs:Array Value) (t:Tok),H Pt=some (.tbl #[rawInt pos.line,rawInt pos.col,.ref c])/\H c=some (.frz oc (.own c))/\oc.data=.fields vs/\vs[1]?=some (.str qual t)
theorem TabI.keep {Pt:Addr}{pos:Pos}{qual:Str}{H H':Hp}(h:TabI Pt pos qual H)(k:∀b u,H b=some u->(∃ps,u=.tbl ps)\/(∃o v,u=.frz o v)->H' b=some u):TabI Pt pos qual H':=by
 rcases h with h|⟨c,oc,vs,t,h1,h2,h3,h4⟩
 ·exact .inl (k _ _ h (.inl ⟨_,rfl⟩))
 ·exact .inr ⟨c,oc,vs,t,k _ _ h1 (.inl ⟨_,rfl⟩),k _ _ h2 (.inr ⟨_,_,rfl⟩),h3,h4⟩
def BltB (mg:Str->Option Value)(base:Heap):Prop:=∃(bm:Addr) (ob:Obj),mg "__builtins__"=some (.ref bm)/\base.get? bm=some ob/\(ob.cls=.type "module"/\ob.dict=some builtinsNs/\ob.data=.plain)/\bm≠builtinsNs
section
variable {X:Cx} {pins:List (Addr×Obj)} {σ:St} {H:Hp} {s:Shared}
theorem mk_lam {params:Arguments}{body:Expr}{scope:Scope}{pos:Pos}{c Pt:Addr}{Q:Value->Shared->Prop}{E:Value->Shared->Prop}(I:Inv X pins σ H s)(hcode:X.env.code=.ref c)(hC:PySem.W.codeHdIn X.K c Pt=true)
 (hcl:closureFor scope X.env=pure []) (hdef:defaultsOf params X.env=([],[])) (hT:TabI Pt pos (X.env.qual++"<lambda>") H)
 (hB:BltB X.mg X.base)
 (h:∀(f c':Addr) (oc:Obj) (vs:Array Value) (t:Tok) (pm ctv:Value) (H2:Hp) (s2:Shared),Inv X (pins++[(f,PySem.W.kla_obj "<lambda>" (X.env.qual++"<lambda>") params body scope [] pm c' ctv)]) σ H2 s2->H2 c'=some (.frz oc (.own c'))->oc.data=.fields vs->vs[1]?=some (.str (X.env.qual++"<lambda>") t)->
  TabI Pt pos (X.env.qual++"<lambda>") H2->(∀b u,b≠Pt->H b=some u->H2 b=some u)->Q (.ref f) s2):
 wpAny (model X.prog X.w) X.A (eval (.Lambda params body scope pos) X.env) Q E s:=by
 obtain⟨bm,ob,b1,b2,b3,b4⟩:=hB;refine PySem.W.kla_eval hdef ?_
 have hns:s.heap.Ns mainGlobals X.mg:=by
  obtain⟨o,es,ep,e,r⟩:=I.ok.mod.glob;exact⟨o,es,ep,I.bk _ _ e,r⟩
 have hCh:=PySem.W.codeHd_of_K I.kIn hC;have hob:s.heap.get? bm=some ob:=I.bk _ _ b2
 have hPH:∃ps,H Pt=some (.tbl ps):=by
  rcases hT with z|⟨c1,_,_,_,z,_⟩
  ·exact⟨_,z⟩
  ·exact⟨_,z⟩
 obtain⟨ps0,hP0⟩:=hPH
 have neP:∀{b:Addr} {o:Obj},s.heap.get? b=some o->o.cls≠.none->b≠Pt:=λ{b o} e hc z=>by
  have:=I.hok _ _ hP0;rw[z,show s.heap.get? Pt=some { cls:=.none,data:=.fields ps0 } from this]at e;cases e;exact hc rfl
 have hbP:bm≠Pt:=neP hob (by rw[b3.1];exact λz=>nomatch z)
 have hgP:mainGlobals≠Pt:=λz=>by
  obtain⟨o,es,ep,e,hd,_⟩:=hns;have:=I.hok _ _ hP0;rw[z,show s.heap.get? Pt=some { cls:=.none,data:=.fields ps0 } from this]at e;cases e;cases hd
 have hbG:bm≠mainGlobals:=λz=>by
  obtain⟨o,es,ep,e,hd,_⟩:=hns;rw[←z,hob]at e;cases e;rw[b3.2.2]at hd;cases hd
 have hB:s.heap.BuiltinsAt X.mg Pt:=⟨bm,ob,b1,b4,hbG,hbP,hob,b3.1,b3.2.1,b3.2.2⟩
 have fin:∀{f:Addr} {H2:Hp} {s2:Shared} {o:Obj},Inv X pins σ H2 s2->s.heap.objs.size<=f->s2.heap.get? f=some o->H2 f=none->(∀v,o.data≠.cell v)->Inv X (pins++[(f,o)]) σ H2 s2:=λ{f H2 s2 o} J hf e n hd=>J.pins_of λp hp=>by
  rcases List.mem_append.mp hp with hp|hp
  ·exact J.pin p (List.mem_append_right _ hp)
  ·rw[List.mem_singleton.mp hp];exact⟨e,n,Nat.ne_of_gt (Nat.lt_of_lt_of_le I.lt hf),I.nofs hf,hd⟩
 rcases hT with hP|⟨c1,oc,vs,t,hP,hc1,hvs,hv1⟩
 ·have ePt:s.heap.get? Pt=some (PySem.W.tabObj #[]):=I.hok _ _ hP;refine PySem.W.kla_makeFunction (mg:=X.mg) hcl I.ok.glob hns hcode hCh ePt trivial rfl hgP hB λc' ctv h' tk hx hge hlt hrec htb=>?_
  obtain⟨c2,oc,vs,t,e2,hoc,hvs,hv1⟩:=hrec;cases e2;have cne:∀b u,H b=some u->b≠c':=λb u e z=>absurd (I.hok b u e).lt (by rw[z];exact Nat.not_lt.mpr hge)
  have hcP:c'≠Pt:=(cne Pt _ hP).symm;have k1:∀b o,b≠Pt->s.heap.get? b=some o->(h'.push (PySem.W.kla_obj "<lambda>" (X.env.qual++"<lambda>") params body scope [] ((X.mg "__name__").getD .none) c' ctv)).get? b=some o:=λb o hb e=>Heap.get?_push_of_some _ (hx b o hb e)
  have eP2:(upd (upd H Pt (.tbl #[rawInt pos.line,rawInt pos.col,.ref c'])) c' (.frz oc (.own c'))) Pt=some (.tbl #[rawInt pos.line,rawInt pos.col,.ref c']):=by rw[upd_ne hcP.symm,upd_same]
  have old2:∀b u,b≠Pt->H b=some u->(upd (upd H Pt (.tbl #[rawInt pos.line,rawInt pos.col,.ref c'])) c' (.frz oc (.own c'))) b=some u:=λb u hb e=>by rw[upd_ne (cne b u e),upd_ne hb];exact e
  have J:Inv X pins σ (upd (upd H Pt (.tbl #[rawInt pos.line,rawInt pos.col,.ref c'])) c' (.frz oc (.own c'))) { s with heap:=h'.push (PySem.W.kla_obj "<lambda>" (X.env.qual++"<lambda>") params body scope [] ((X.mg "__name__").getD .none) c' ctv),toks:=tk }:=by
   refine I.un ⟨λb o e n _ _=>k1 b o (λz=>by rw[z,hP]at n;cases n) e,λb o e n _ _=>⟨o.slots,k1 b o (λz=>by rw[z,hP]at n;cases n) e⟩,λb o e n _=>?_,λb o e _=>?_,λb xs e=>old2 b _ (λz=>by rw[z,hP]at e;cases e) e,λb o u e=>old2 b _ (λz=>by rw[z,hP]at e;cases e) e,λb qs e=>?_⟩ λb u e=>?_
   ·rw[upd_ne (Nat.ne_of_lt (Nat.lt_of_lt_of_le (Heap.lt_size e) hge)),upd_ne (λz=>by rw[z,hP]at n;cases n)];exact n
   ·by_cases hb:b=Pt
    ·subst hb;exact⟨_,Heap.get?_push_of_some _ htb⟩
    ·exact⟨o,k1 b o hb e⟩
   ·by_cases hb:b=Pt
    ·subst hb;rw[hP]at e;cases e;exact⟨#[rawInt pos.line,rawInt pos.col,.ref c'],by rw[eP2];rfl⟩
    ·exact⟨#[],by rw[old2 b _ hb e];simp⟩
   ·by_cases hb:b=c'
    ·subst hb;rw[upd_same]at e;cases e;exact⟨Heap.get?_push_of_some _ hoc,oc,Heap.get?_push_of_some _ hoc⟩
    ·rw[upd_ne hb]at e;by_cases hb2:b=Pt
     ·subst hb2;rw[upd_same]at e;cases e;exact Heap.get?_push_of_some _ htb
     ·rw[upd_ne hb2]at e;refine(I.hok b u e).stay (λd v hd q=>k1 d v ?_ q) (λd q=>?_) λd xs q=>?_
      ·rcases hd with z|z
       ·rw[z];exact hb2
       ·intro z2;rw[z2,hP]at z;cases z
      ·exact old2 d _ (λz=>by rw[z,hP]at q;cases q) q
      ·exact old2 d _ (λz=>by rw[z,hP]at q;cases q) q
  have hsz:s.heap.objs.size<=h'.objs.size:=Nat.le_trans hge (Nat.le_of_lt hlt);refine h _ c' oc vs t _ ctv _ _ (fin J hsz (Heap.get?_push_size _ rfl) ?_ λv z=>nomatch z) upd_same hvs hv1 (.inr ⟨c',oc,vs,t,eP2,upd_same,hvs,hv1⟩) old2;rw[upd_ne (Nat.ne_of_gt hlt),upd_ne (λz=>absurd (I.hok _ _ hP).lt (by rw[←z];exact Nat.not_lt.mpr hsz))];exact I.hok.fresh hsz
 ·have ePt:s.heap.get? Pt=some (PySem.W.tabObj #[rawInt pos.line,rawInt pos.col,.ref c1]):=I.hok _ _ hP;refine PySem.W.kla_makeFunctionHit (mg:=X.mg) (cv:=.ref c1) hcl I.ok.glob hns hcode hCh ePt (by simp[TriplesOk,rawInt]) (by simp[codeAmong,rawInt]) hB λctv h' tk k hsz=>?_
  have J:Inv X pins σ H { s with heap:=h'.push { cls:=.type "function",data:=.func (PySem.W.kla_fn "<lambda>" (X.env.qual++"<lambda>") params body scope [] ((X.mg "__name__").getD .none) (.ref c1) ctv) },toks:=tk }:=I.kept λb u e=>Heap.get?_push_of_some _ (k b u e)
  exact h _ c1 oc vs t _ ctv H _ (fin J hsz (Heap.get?_push_size _ rfl) (I.hok.fresh hsz) λv z=>nomatch z) hc1 hvs hv1 (.inr ⟨c1,oc,vs,t,hP,hc1,hvs,hv1⟩) λb u _ e=>e
structure Fp (X:Cx) (pq:List (Addr×Obj)) (H:Hp) (b:Addr):Prop where
 none:H b=none
 loc:b≠X.env.locals
 fs:b∉X.fs
 new:X.s₀.heap.objs.size<=b
 cell:∀x c,X.env.cells.lookup x=some c->c≠b
 pin:∀p∈X.pn++pq,p.1≠b
theorem fp_new {pq:List (Addr×Obj)}{b:Addr}(I:Inv X pq σ H s)(h:s.heap.objs.size<=b):Fp X pq H b:=
 ⟨I.hok.fresh h,Nat.ne_of_gt (Nat.lt_of_lt_of_le I.lt h),I.nofs h,Nat.le_trans I.sz h,λx c e z=>by
  obtain⟨v,hv⟩:=I.cell x c e;exact absurd hv.lt (by rw[z];exact Nat.not_lt.mpr h),λp hp z=>absurd (Heap.lt_size (I.pin p hp).1) (by rw[z];exact Nat.not_lt.mpr h)⟩
theorem Inv.unpin {pq pr:List (Addr×Obj)}(I:Inv X (pq++pr) σ H s):Inv X pq σ H s:=I.pins_of λp hp=>I.pin p (List.mem_append_right _ (List.mem_append_left _ hp))
abbrev lsO (a:Array Value) (c:Nat):Obj:={ cls:=.type "list",dict:=none,data:=.seq a c,slots:=#[] }
theorem loop_minK {pq:List (Addr×Obj)}{it l bst q:Addr}{ys:List V}{kf:Nat->Int}{d:Value}{R:Result->Shared->Prop}(hh:X.A.in1.handled=none)(hq:SqL X.K H l ys)(hne:l≠it)(n1:bst≠it)(F1:Fp X pq H it)(F2:Fp X pq H bst)
 (turn:∀(i:Nat) (y:V) (v:Value) (pr:List (Addr×Obj)) (s':Shared),ys[i]?=some y->RelV y v->Inv X (pq++pr) σ H s'->wpAny (model X.prog X.w) X.A.in1 (call (.ref q) [v]) (λu s2=>∃t,u=.int (kf i) t/\Inv X (pq++pr) σ H s2) (λ_ _=>False) s')
 (hR:∀v s',(ys=[]/\v=d\/∃(j:Nat) (y:V),ys[j]?=some y/\RelV y v/\∀j',j'<ys.length->kf j<=kf j'/\(j'<j->kf j<kf j'))->Inv X pq σ H s'->R (.ok (.ret v)) s'):
 ∀(k i:Nat) (s:Shared) (old:Array Value) (c:Nat),ys.length - i=k->i<=ys.length->Inv X pq σ H s->s.heap.IsListIter it l i->s.heap.get? bst=some (lsO old c)->
 ((i=0/\old=#[])\/∃(j:Nat) (y:V) (vb:Value) (tb:Tok),j<i/\ys[j]?=some y/\RelV y vb/\old=#[vb,.int (kf j) tb]/\∀j',j'<i->kf j<=kf j'/\(j'<j->kf j<kf j'))->
 codeAny (model X.prog X.w) X.A (.builtin "min.loop" ⟨[.ref it,.ref q,.ref bst],[("default",d)]⟩) R s:=by
 have nm:(toString "min"++toString ".loop":String)="min.loop":=by decide
 have wr1:∀b:Addr,b≠it->b∉[it]:=λb hb z=>hb (List.mem_singleton.mp z)
 intro k
 induction k with
 |zero=>
  intro i s old c hk hi I hit hb hold;obtain⟨its,hv,pl,hz⟩:=I.list hq;have hvl:=hv.length;have W:=Walks.list (prog:=X.prog) (w:=X.w) (A:=X.A.in1) hh it l hne its.toArray;have ei:i=its.length:=by omega
  refine codeAny_builtin F.entry_min_loop ?_;rw[Around.under_plainId F.plain_min_loop _];show wpAny _ X.A.in1 (seqItems? (.ref bst) >>=_) _ _ s;refine wpAny_bind (wpAny_seqItems hb rfl ?_);show wpAny _ X.A.in1 (tryCatch (pyNext (.ref it)) _ >>=_) _ _ s;refine wpAny_bind (wpAny_tryCatch (W.done s _ _ ⟨by rw[List.size_toArray,←ei];exact hit,pl.isList⟩ λh' tk kp=>?_));have hb2:=kp bst _ (wr1 _ n1) hb;have I2:Inv X pq σ H { s with heap:=h',toks:=tk }:=I.turned (λb o hb e=>kp b o (wr1 _ hb) e) F1.none F1.loc (.inr F1.new) F1.cell F1.pin;rcases hold with ⟨e0,rfl⟩|⟨j,y,vb,tb,hj,hy,rb,rfl,hbest⟩
  ·have en:ys=[]:=List.eq_nil_of_length_eq_zero (by omega);show wpAny _ X.A.in1 (rule _ >>=_) _ _ _;refine wpAny_bind (wpAny_rule ?_);exact wpAny_pure (hR d _ (.inl ⟨en,rfl⟩) I2)
  ·show wpAny _ X.A.in1 (updateSeq bst (λ_=>#[]) >>=_) _ _ _;refine wpAny_bind (wpAny_updateSeq hb2 rfl (wpAny_bind (wpAny_letGo (wpAny_pure ?_))));exact hR _ _ (.inr ⟨j,y,hy,rb,λj' hj'=>hbest j' (by omega)⟩) (I2.turned (t':=tk) (λb o hb e=>(Heap.get?_update_other _ _ (Ne.symm hb)).trans e) F2.none F2.loc (.inr F2.new) F2.cell F2.pin)
 |succ k ih=>
  intro i s old c hk hi I hit hb hold;obtain⟨its,hv,pl,hz⟩:=I.list hq;have hvl:=hv.length;have hlt:i<its.length:=by omega
  have W:=Walks.list (prog:=X.prog) (w:=X.w) (A:=X.A.in1) hh it l hne its.toArray;refine codeAny_builtin F.entry_min_loop ?_;rw[Around.under_plainId F.plain_min_loop _];show wpAny _ X.A.in1 (seqItems? (.ref bst) >>=_) _ _ s;refine wpAny_bind (wpAny_seqItems hb rfl ?_);show wpAny _ X.A.in1 (tryCatch (pyNext (.ref it)) _ >>=_) _ _ s;refine wpAny_bind (wpAny_tryCatch (W.item i s _ _ (by rw[List.size_toArray];exact hlt) ⟨hit,pl.isList⟩ λv h' tk hP st2 kp=>?_));obtain⟨⟨oI,hoI,hoc,hod⟩,hl2⟩:=st2;have hb2:=kp bst _ (wr1 _ n1) hb;have I2:Inv X pq σ H { s with heap:=h',toks:=tk }:=I.turned (λb o hb e=>kp b o (wr1 _ hb) e) F1.none F1.loc (.inr F1.new) F1.cell F1.pin;have hyi:ys[i]?=some (ys[i]'(by omega)):=List.getElem?_eq_getElem (by omega)
  generalize ys[i]'(by omega)=y at hyi;obtain⟨u,hu,ru⟩:=hv.get (i:=i) (x:=y) hyi;have hP2:its[i]?=some v:=by simpa using hP
  rw[hu]at hP2;have euv:u=v:=Option.some.inj hP2;subst euv;have dI:∀z,oI.data≠.cell z:=λz e=>by rw[hod]at e;cases e
  have J2:Inv X (pq++[(it,oI),(bst,lsO old c)]) σ H { s with heap:=h',toks:=tk }:=I2.pins_of λp hp=>by
   rcases List.mem_append.mp hp with hp|hp
   ·exact I2.pin p (List.mem_append_right _ hp)
   ·rcases List.mem_cons.mp hp with rfl|hp
    ·exact⟨hoI,F1.none,F1.loc,F1.fs,dI⟩
    ·rw[List.mem_singleton.mp hp];exact⟨hb2,F2.none,F2.loc,F2.fs,λz e=>nomatch e⟩
  show wpAny _ X.A.in1 (tryCatch (holding [u] (call (.ref q) [u])) _ >>=_) _ _ _;refine wpAny_bind (wpAny_tryCatch (wpAny_holding (wpAny_mono (turn i y u _ _ hyi ru J2) (λx s'' he=>?_) λ_ _ hF=>hF.elim)));obtain⟨t2,rfl,J3⟩:=he;have pI:=(J3.pin (it,oI) (List.mem_append_right _ (List.mem_append_right _ (.head _)))).1;have pB:=(J3.pin (bst,lsO old c) (List.mem_append_right _ (List.mem_append_right _ (.tail _ (.head _))))).1;have I3:=J3.unpin;have hit3:s''.heap.IsListIter it l (i+ 1):=⟨oI,pI,hoc,hod⟩;have upI:∀(g:Array Value->Array Value),(s''.heap.update bst (Obj.mapSeq g)).IsListIter it l (i+ 1):=λg=>⟨oI,(Heap.get?_update_other _ _ n1).trans pI,hoc,hod⟩
  have upV:∀(g:Array Value->Array Value) (tk:Nat),Inv X pq σ H { s'' with heap:=s''.heap.update bst (Obj.mapSeq g),toks:=tk }:=λg tk=>I3.turned (λb o hb e=>(Heap.get?_update_other _ _ (Ne.symm hb)).trans e) F2.none F2.loc (.inr F2.new) F2.cell F2.pin
  rcases hold with ⟨e0,rfl⟩|⟨j,y0,vb,tb,hj,hy,rb,rfl,hbest⟩
  ·subst e0;show wpAny _ X.A.in1 (updateSeq bst (λ_=>#[u,.int (kf 0) t2]) >>=_) _ _ _;refine wpAny_bind (wpAny_updateSeq pB rfl ?_);rw[nm]
   exact wpAny_pure ⟨plainId_quiet F.plain_min_loop _,ih 1 _ _ _ (by omega) (by omega) (upV _ _) (upI _) (Heap.get?_update_self _ pB rfl) (.inr ⟨0,y,u,t2,by omega,hyi,ru,rfl,λj' hj'=>by
    have e:j'=0:=by omega
    subst e;exact⟨Int.le_refl _,λz=>absurd z (Nat.lt_irrefl _)⟩⟩)⟩
  ·show wpAny _ X.A.in1 (tryCatch (holding [u,.int (kf i) t2] (richCompare .Lt (.int (kf i) t2) (.int (kf j) tb) >>=_)) _ >>=_) _ _ _;refine wpAny_bind (wpAny_tryCatch (wpAny_holding (wpAny_bind (CmpOf.ints_lt (prog:=X.prog) (w:=X.w) (A:=X.A.in1) (P:=λi v=>∃t,v=.int (kf i) t) kf (λi v h=>h) i j _ _ _ _ _ ⟨t2,rfl⟩ ⟨tb,rfl⟩ ?_))));refine wpAny_bind (wpAny_holding (wpAny_truthy_bool ?_));refine wpAny_bind (wpAny_letGo (wpAny_pure ?_));by_cases hb':kf i<kf j
   ·simp only[hb',decide_true,if_true];refine wpAny_bind (wpAny_updateSeq pB rfl (wpAny_bind (wpAny_letGo ?_)));rw[nm];refine wpAny_pure ⟨plainId_quiet F.plain_min_loop _,ih (i+ 1) _ _ _ (by omega) (by omega) (upV _ _) (upI _) (Heap.get?_update_self _ pB rfl) (.inr ⟨i,y,u,t2,by omega,hyi,ru,rfl,λj' hj'=>?_⟩)⟩;by_cases e:j'=i
    ·subst e;exact⟨Int.le_refl _,λz=>absurd z (Nat.lt_irrefl _)⟩
    ·have h1:=(hbest j' (by omega)).1;exact⟨by omega,λ_=>by omega⟩
   ·simp only[hb',decide_false,Bool.false_eq_true,if_false];refine wpAny_bind (wpAny_letGo ?_);rw[nm];refine wpAny_pure ⟨plainId_quiet F.plain_min_loop _,ih (i+ 1) _ _ _ (by omega) (by omega) I3 hit3 pB (.inr ⟨j,y0,vb,tb,by omega,hy,rb,rfl,λj' hj'=>?_⟩)⟩;by_cases e:j'=i
    ·subst e;exact⟨by omega,λ_=>by omega⟩
    ·exact hbest j' (by omega)
theorem SqL.keepT {K:PySem.W.Frag}{H H2:Hp}{l Pt:Addr}{ys:List V}{ps:Array Value}(h:SqL K H l ys)(hP:H Pt=some (.tbl ps))(k:∀b u,b≠Pt->H b=some u->H2 b=some u):SqL K H2 l ys:=by
 rcases h with h|h
 ·rcases h with e|⟨o,e⟩
  ·exact .inl (.inl (k _ _ (λz=>by rw[z,hP]at e;cases e) e))
  ·exact .inl (.inr ⟨o,k _ _ (λz=>by rw[z,hP]at e;cases e) e⟩)
 ·exact .inr h
theorem chk_minK (a f d:Value):checkBuiltinCall "min" ⟨[a],[("key",f),("default",d)]⟩=pure ():=by kernel_rfl
def tMinK (K:PySem.W.Frag)(Pt:Addr)(lp:Pos)(qual:Str)(tb:TE)(ta:TA):TE:=λ σ H Q=>ta σ H λvs H1=>∃(l:Addr) (ys:List V) (kf:Nat->Int),vs=[.ref l]/\SqL K H1 l ys/\TabI Pt lp qual H1/\
 ∀H2,TabI Pt lp qual H2->(∀b u,b≠Pt->H1 b=some u->H2 b=some u)->(∀(i:Nat) (y:V),ys[i]?=some y->tb [some y] H2 λv H'=>v=.int (kf i)/\H'=H2)/\(ys=[]->Q .non H2)/\
  ∀(i:Nat) (y:V),ys[i]?=some y->(∀j,j<ys.length->kf i<=kf j/\(j<i->kf i<kf j))->Q y H2
theorem pe_minK {x:Str}{a body:Expr}{te tb:TE}{p pos kp1 kp2 kq lp:Pos}{j k:Nat}{params:Arguments}{scope:Scope}{c Pt:Addr}(hc:X.calm=true)(hg:Gl X "min")(hm:X.mg "min"=none)(he:PE X a te)
 (hcode:X.env.code=.ref c) (hC:PySem.W.codeHdIn X.K c Pt=true) (hcl:closureFor scope X.env=pure []) (hdef:defaultsOf params X.env=([],[]))
 (hB:BltB X.mg X.base) (hr:Room (k+ 2) X.A) (S:FnScope [x] [x] scope)
 (hbnd:∀(pm ctv:Value) (c':Addr) (u:Value),bindArgs (PySem.W.kla_fn "<lambda>" (X.env.qual++"<lambda>") params body scope [] pm (.ref c') ctv) ⟨[u],[]⟩=pure [(x,u)])
 (hbody:∀(A:Around) (outer:List Env) (s:Shared) (H:Hp) (f c':Addr),Room k (A.deeper (envOfC (X.env.qual++"<lambda>") scope s.heap.objs.size f (.ref c')))->PE (cxOf CX0 X.prog X.w X.K X.mg X.base [x] (X.env.qual++"<lambda>") scope f (.ref c') A outer s H E0) body tb)
 (hs:starEach [a] X.env=(false,eval a X.env)::starEach [] X.env:=by rfl)
 (hpl:((backTo pos (starEach [a] X.env)).any (·.1) || (backToKw pos (keywordEach [⟨some "key",.Lambda params body scope lp,kp1⟩,⟨some "default",.Constant .none j kq,kp2⟩] X.env)).any (·.1.isNone))=false:=by rfl):
 PE X (.Call (.Name "min" p) [a] [⟨some "key",.Lambda params body scope lp,kp1⟩,⟨some "default",.Constant .none j kq,kp2⟩] pos) (tMinK X.K Pt lp (X.env.qual++"<lambda>") tb (tCons te tNil)):=by
 intro pins s σ H Q I h;refine wpAny_Call_Name_kw (ld_blt I hg hm PyProof.Rows.boot_min ?_);refine PySem.W.callWith_of (P:=λ_=>True) hpl (λ_ _=>⟨.machine,.inr (.inl rfl),λ_ _ _ _ _ q=>wpAny_pure q⟩) (evalArgs_kw2 rfl (thn ((pa_cons he pa_nil hs) pos pins s σ H _ I h) λus s1 ⟨vs,H1,I1,r,q⟩=>?_) hs);obtain⟨l,ys,kf,rfl,hq,hT,q⟩:=q;obtain⟨u,rfl,ru⟩:=vals1 r;cases ru;refine kwAll_cons (mk_lam I1 hcode hC hcl hdef hT hB λf c' oc cvs ct pm ctv H2 s2 I2 hc2 hvs hv1 hT2 keep2=>?_);refine thn ((pk_cons pe_non pk_nil:PK X [⟨some "default",.Constant .none j kq,kp2⟩] _) pos _ s2 σ H2 (λzs H3=>zs=[.non]/\H3=H2) I2 ⟨rfl,rfl⟩) λws s3 ⟨zs,H3,I3,rz,e1,e2⟩=>⟨True.intro,?_⟩
 subst e1 e2;obtain⟨u2,rfl,ru2⟩:=vals1 rz;cases ru2;obtain⟨q1,q2,q3⟩:=q H3 hT2 keep2
 have hq3:SqL X.K H3 l ys:=by
  rcases hT with z|⟨_,_,_,_,z,_⟩
  ·exact hq.keepT z keep2
  ·exact hq.keepT z keep2
 show wpAny _ _ (call (.builtin "min") [.ref l] [("key",.ref f),("default",.none)]) _ _ s3;have nm:(toString "min"++toString ".loop":String)="min.loop":=by decide
 refine wpAny_call (codeAny_call_builtin F.plain_min F.entry_min (wpAny_of_eq (chk_minK _ _ _) ?_));show wpAny _ X.A.in1 (Builtin.Builtins.bindParams "min" ["key","default"] 0 ⟨[],[("key",.ref f),("default",.none)]⟩ >>=_) _ _ s3;refine wpAny_bind (wpAny_of_eq (show Builtin.Builtins.bindParams "min" ["key","default"] 0 ⟨[],[("key",.ref f),("default",.none)]⟩=pure [some (.ref f),some .none] from rfl) ?_);obtain⟨its,rv,pl,hz⟩:=I3.list hq3;refine wpAny_bind (wpAny_pure (wpAny_bind (wpAny_pyIter_list pl.isList ?_)));obtain⟨ol,hol,hoc,hod⟩:=id pl.isList;refine wpAny_bind (wpAny_newObj_type ?_);have hlt:=Heap.lt_size hol;have hsz:(s3.heap.push { cls:=.type "list_iterator",data:=.fields #[.ref l,.int 0 0] }).objs.size=s3.heap.objs.size+ 1:=Heap.size_push ..;have kp4:∀(b:Addr) (o:Obj),s3.heap.get? b=some o->((s3.heap.push { cls:=.type "list_iterator",data:=.fields #[.ref l,.int 0 0] }).push { cls:=.type "list",data:=.seq ([]:List Value).toArray }).get? b=some o:=λb o e=>Heap.get?_push_of_some _ (Heap.get?_push_of_some _ e)
 have I4:=I3.kept (t':=s3.toks) kp4;rw[nm];refine wpAny_pure ⟨plainId_quiet F.plain_min_loop _,loop_minK (X:=X) (σ:=σ) (H:=H3) (ys:=ys) (kf:=kf) (it:=s3.heap.objs.size) (l:=l) (I3.ok.hd hc) hq3 (Nat.ne_of_lt hlt) (by show (s3.heap.push { cls:=.type "list_iterator",data:=.fields #[.ref l,.int 0 0] }).objs.size≠s3.heap.objs.size;rw[hsz];omega) (fp_new I3 (Nat.le_refl _)) (fp_new I3 (by show _<=(s3.heap.push { cls:=.type "list_iterator",data:=.fields #[.ref l,.int 0 0] }).objs.size;rw[hsz];omega)) (λi y v pr s' hy rv' J=>?_) (λv s' hw J=>?_) _ 0 _ #[] 0 rfl (Nat.zero_le _) I4 ⟨_,Heap.get?_push_of_some _ (Heap.get?_push_size _ rfl),rfl,rfl⟩ (Heap.get?_push_size _ rfl) (.inl ⟨rfl,rfl⟩)⟩
 ·have hf:=(J.pin (f,_) (List.mem_append_right _ (List.mem_append_left _ (List.mem_append_right _ (.head _))))).1;have hcr:s'.heap.CodeRec (.ref c') (X.env.qual++"<lambda>"):=⟨c',oc,cvs,ct,rfl,(J.hok _ _ hc2).1,hvs,hv1⟩;refine wpAny_call (codeAny_mono (run_lam (CX:=CX0) (E:=E0) (k:=k) (vs:=[y]) (us:=[v]) S rfl hr.in1 J.env0.in1 hf hcr (hbnd pm ctv c' v) (.cons rv' .nil) (hbody _ _ _ _ f c' (hr.in1.deeper _)) (q1 i y hy)) λr s2 hcr2=>?_)
  cases r with
  |error e=>exact hcr2.elim
  |ok fl=>
   cases fl with
   |next=>exact False.elim hcr2
   |brk=>exact False.elim hcr2
   |cont=>exact False.elim hcr2
   |ret u=>
    obtain⟨v2,H4,J4,rv4,e1,e2⟩:=J.after hcr2;subst e1 e2;obtain⟨t,rfl⟩:=rv4;exact⟨t,rfl,J4⟩
 ·rcases hw with ⟨e1,rfl⟩|⟨i,y,hy,ry,hb⟩
  ·exact⟨.non,H3,J.unpin,rfl,q2 e1⟩
  ·exact⟨y,H3,J.unpin,ry,q3 i y hy hb⟩
end
end L2
namespace L2
open PySem PySem.Spec PyProof.Rows
theorem law_callT {P:Program}{w:World}{K:PySem.W.Frag}{mg mb:Str->Option Value}{CX:CXT}{k:Nat}{fa a Pt:Addr}{fd:FuncData}{x:Str}{sp:Sp}{s:Shared}{vs:List Value}{ns:List Int}
 (KX:K.In s.heap) (hns:s.heap.Ns mainGlobals mg) (hb:s.heap.Ns builtinsNs mb) (hbb:∀x:Str,x≠"__name__"->mb x=bootBuiltins x) (hlim:s.heap.NoLimit) (hg:s.gens=#[])
 (ha:s.heap.get? a=some { cls:=.type "list",data:=.seq vs.toArray }) (hi:IntsAre vs ns) (hl:ns.length<=sizeLine) (hr:Room k callerA)
 (Fn:∀base:Heap,K.In base->base.Ns mainGlobals mg->BltB mg base->FnOk P w K mg base CX k fa fd [x] sp) (hB:BltB mg s.heap) (hbind:∀(s:Shared) (u:Value),BindsTo s fd ⟨[u],[]⟩ [(x,u)])
 (hP:s.heap.get? Pt=some (PySem.W.tabObj #[])) (hKP:K.lookup Pt=none) (hct:isCodeTable s.heap Pt)
 (hsp:∀H:Hp,H Pt=some (.tbl #[])->SqL K H a (ns.map V.int)->sp [.ref a] H (λv _=>v=.bl true) λ_ _ _=>False)
 (hCX:∀H e s',CX [] H s (λ_ _ _=>False) e s'->False):
 codeAny (model P w) callerA (.call (.ref fa) ⟨[.ref a],[]⟩) (λr s'=>r=.ok (.ret (.bool true))/\OldK s.heap s'.heap/\s'.os=s.os/\AllBare s'.gens) s:=by
 have rv:=vals_ints hi;have haP:a≠Pt:=λz=>by rw[z,hP]at ha;cases ha
 have main:∀H:Hp,H Pt=some (.tbl #[])->(∀b u,H b=some u->K.lookup b=none/\(b=Pt\/b=a/\∃xs,u=.frz { cls:=.type "list",data:=.seq vs.toArray } (.lst xs)))->SqL K H a (ns.map V.int)->HOk P w H s.heap->
  codeAny (model P w) callerA (.call (.ref fa) ⟨[.ref a],[]⟩) (λr s'=>r=.ok (.ret (.bool true))/\OldK s.heap s'.heap/\s'.os=s.os/\AllBare s'.gens) s:=by
  intro H h1 h2 h3 h4
  have nodict:∀{b:Addr} {o:Obj} {es:Array DictEntry} {ep:Nat},s.heap.get? b=some o->o.data=.dict es ep->H b=none:=λ{b o es ep} e d=>by
   cases q:H b with
   |none=>rfl
   |some u=>
    rcases (h2 b u q).2 with rfl|⟨rfl,_⟩
    ·rw[hP]at e;cases e;cases d
    ·rw[ha]at e;cases e;cases d
  have nk:∀{b:Addr} {m:Str->Option Value},s.heap.Ns b m->(hidT s.heap H).Ns b m:=λ{b m} ⟨o,es,ep,e,d,r⟩=>⟨o,es,ep,hidT_get e (nodict e d),d,r⟩
  have kb:K.In (hidT s.heap H):=λb o e=>hidT_get (KX b o e) (by
   cases q:H b with
   |none=>rfl
   |some u=>rw[(h2 b u q).1]at e;cases e)
  have md:Mod K mg (hidT s.heap H):=⟨kb,nk hns,⟨mb,nk hb,hbb⟩,let ⟨mc,z1,z2⟩:=hlim;⟨mc,nk z1,z2⟩⟩;have e0:Env0 P w K mg (hidT s.heap H) callerA [] s H:=⟨rfl,md,λb o e=>of_hidT e,Nat.le_of_eq (hidT_size _ _),trivial,λb z=>absurd (show b∈([]:List Addr) from z) (by simp),h4,.of_eq hg⟩
  have bb:BltB mg (hidT s.heap H):=by
   obtain⟨bm,ob,b1,b2,b3,b4⟩:=hB;refine⟨bm,ob,b1,hidT_get b2 ?_,b3,b4⟩
   cases q:H bm with
   |none=>rfl
   |some u=>
    rcases (h2 bm u q).2 with rfl|⟨rfl,_⟩
    ·rw[hP]at b2;cases b2;exact absurd b3.1 (λz=>nomatch z)
    ·rw[ha]at b2;cases b2;have z:=b3.1;injection z with z;exact absurd z (by decide)
  refine codeAny_mono ((Fn _ kb (nk hns) bb).run callerA [] s H ⟨[.ref a],[]⟩ [.ref a] [.ref a] _ _ hr e0 (hbind s (.ref a)) (.cons rfl .nil) (hsp H h1 h3)) λr s' h=>?_
  cases r with
  |error e=>exact(hCX H e s' h).elim
  |ok fl=>
   cases fl with
   |next=>exact False.elim h
   |brk=>exact False.elim h
   |cont=>exact False.elim h
   |ret u=>
    obtain⟨v,H',os,bare,un,hok',r',q⟩:=h;have q':v=.bl true:=q;subst q';obtain rfl:u=Value.bool true:=r'
    have each:∀b o,s.heap.get? b=some o->asItWas s.heap s'.heap b o/\∃o',s'.heap.get? b=some o':=λb o e=>by
     cases q:H b with
     |none=>
      have z:=un.keep b o e q (by intro z;exact absurd (show b∈([]:List Addr) from z) (by simp)) (by simp);exact⟨.inl z,o,z⟩
     |some u=>
      rcases (h2 b u q).2 with rfl|⟨rfl,xs,rfl⟩
      ·rw[hP]at e;cases e;obtain⟨more,z⟩:=un.tbls _ _ h1;have z2:s'.heap.get? b=some { cls:=.none,data:=.fields (#[]++more) }:=hok' _ _ z;exact⟨.inr (.inl ⟨hct,rfl,#[],more,rfl,z2⟩),_,z2⟩
      ·obtain⟨z1,_⟩:=h4 _ _ q;obtain⟨z2,_⟩:=hok' _ _ (un.frzs _ _ _ q);rw[e]at z1;cases z1;exact⟨.inl z2,_,z2⟩
    exact⟨rfl,⟨λb o e=>(each b o e).1,λb o e=>(each b o e).2⟩,os,bare⟩
 cases hk:K.lookup a with
 |some o=>
  have e:=KX a o hk;rw[ha]at e;cases e;refine main (upd (λ_=>none) Pt (.tbl #[])) upd_same (λb u z=>?_) (.inr ⟨_,vs.toArray,_,hk,rfl,rfl,rfl,by rw[List.size_toArray,hi.length];exact hl,by simpa using rv⟩) λb u z=>?_
  ·by_cases hb:b=Pt
   ·subst hb;exact⟨hKP,.inl rfl⟩
   ·rw[upd_ne hb]at z;cases z
  ·by_cases hb:b=Pt
   ·subst hb;rw[upd_same]at z;cases z;exact hP
   ·rw[upd_ne hb]at z;cases z
 |none=>
  refine main (upd (upd (λ_=>none) Pt (.tbl #[])) a (.frz { cls:=.type "list",data:=.seq vs.toArray } (.lst (ns.map V.int)))) (by rw[upd_ne haP.symm,upd_same]) (λb u z=>?_) (.inl (.inr ⟨_,upd_same⟩)) λb u z=>?_
  ·by_cases hb:b=a
   ·subst hb;rw[upd_same]at z;cases z;exact⟨hk,.inr ⟨rfl,_,rfl⟩⟩
   ·rw[upd_ne hb]at z;by_cases hb:b=Pt
    ·subst hb;exact⟨hKP,.inl rfl⟩
    ·rw[upd_ne hb]at z;cases z
  ·by_cases hb:b=a
   ·subst hb;rw[upd_same]at z;cases z;exact⟨ha,by rw[List.length_map];exact hl,vs,_,rv,ha⟩
   ·rw[upd_ne hb]at z;by_cases hb:b=Pt
    ·subst hb;rw[upd_same]at z;cases z;exact hP
    ·rw[upd_ne hb]at z;cases z
theorem Fun.okT {P:Program}{w:World}{K:PySem.W.Frag}{mg:Str->Option Value}{base:Heap}{CX:CXT}{x qual:Str}{st:Stmt}{f c:Addr}{fd:FuncData}{N ps:List Str}{k:Nat}{sp:Sp}(F:Fun K x qual st f fd)(hc:fd.code=.ref c)(S:FnScope N ps (defScope st))(len:∀vs H Q E,sp vs H Q E->vs.length=ps.length)
 (hbody:∀(A:Around) (outer:List Env) (s:Shared) (H:Hp) (vs:List V) (Q:VK) (E:XK),Room k (A.deeper (envOfC qual (defScope st) s.heap.objs.size f (.ref c)))->sp vs H Q E->
  ∃t,PSs (cxOf CX P w K mg base N qual (defScope st) f (.ref c) A outer s H E).nox (defBody st) t/\t { nx:=λ_ H'=>Q .non H',rt:=Q } (start N vs) H):FnOk P w K mg base CX (k+ 1) f fd ps sp:=by
 obtain⟨oc,od,kV,doc,pm,an,cdv,ct,osl,rfl,lk,hcd⟩:=F.ex;have e:cdv=.ref c:=hc;subst e;refine fn_of lk hcd S len λA outer s H vs Q E hr hsp=>?_
 obtain⟨t,h1,h2⟩:=hbody A outer s H vs Q E hr hsp;exact⟨t,h1.nox,h2⟩
structure LamAt (K:PySem.W.Frag) (fd:FuncData) (c Pt:Addr):Prop where
 code:fd.code=.ref c
 hd:PySem.W.codeHdIn K c Pt=true
 no:K.lookup Pt=none
theorem walk_ofT {l:PySem.W.OpenLaw}{n k:Nat}{q:Program}{loose:List Str}{XP:(Str->Option Value)->Heap->Prop}{YP:World->Heap->Prop}{d:DefRec}{K:Params->PySem.W.Frag}{CX:World->CXT}{sp:World->Sp}{x:Str}{Pt:Addr}
 (hn:l.most=some n) (hn2:n<=sizeLine) (hdf:d.params.defaults=[]) (hr:Room k callerA) (hY:∀(w:World) (h:Heap),YP w h->(K w.params).In h/\h.get? Pt=some (PySem.W.tabObj #[]))
 (F:∀(w:World) (mg:Str->Option Value) (fa:Addr) (h:Heap),(K w.params).In h->h.Ns mainGlobals mg->mg d.name=some (.ref fa)->
  ∃fd:FuncData,(∃fd2 c,LamAt (K w.params) fd2 c Pt)/\(∀(s:Shared) (u:Value),BindsTo s fd ⟨[u],[]⟩ [(x,u)])/\∀base:Heap,(K w.params).In base->base.Ns mainGlobals mg->BltB mg base->FnOk l.prog w (K w.params) mg base (CX w) k fa fd [x] (sp w))
 (hsp:∀(w:World) (H:Hp) (a:Addr) (ns:List Int),ns.length<=n->H Pt=some (.tbl #[])->SqL (K w.params) H a (ns.map V.int)->sp w [.ref a] H (λv _=>v=.bl true) λ_ _ _=>False)
 (hCX:∀(w:World) (H:Hp) (s:Shared) (e:Value) (s':Shared),CX w [] H s (λ_ _ _=>False) e s'->False):
 PySem.W.WalkO q loose XP YP l.row.toRowW d [] (λf vs=>PySem.call f vs):=by
 refine Att.attach_call hn hdf λw s₀ s mg mb fa o pm cd doc a vs ns G Y ho hd hcd hmg hobj hints hlen hg=>?_
 obtain⟨KX,hP⟩:=hY w _ Y;obtain⟨fd,⟨fd2,c,hL⟩,hb,hF⟩:=F w mg fa _ KX G.T.g hmg;obtain⟨oc,ovs,_,_,_,_,_,_,_,g1,g2,g3,g4,_⟩:=PySem.W.codeHd_of_K KX hL.hd;have hB:BltB mg s.heap:=let ⟨bm,ob,a1,a2,a3,a4,a5,a6⟩:=G.T.bmain;⟨bm,ob,a1,a3,⟨a4,a5,a6⟩,a2⟩
 exact law_callT KX G.T.g G.T.b G.T.builtins G.T.nolimit hg hobj hints (Nat.le_trans hlen hn2) hr hF hB hb hP hL.no ⟨c,oc,ovs,g1,g2,g3,g4⟩ (λH hO hS=>hsp w H a ns hlen hO hS) λH e s'=>hCX w H s e s'
end L2
namespace L2
open PySem PySem.Spec PyProof.Rows
namespace Lr
theorem no_len:typeLookup (.type "list_reverseiterator") "__len__"=pure none:=by rw[typeLookup_type,builtinLookup_eq_fast];kernel_rfl
theorem lk_hint:typeLookup (.type "list_reverseiterator") "__length_hint__"=pure (some (.builtin "list_reverseiterator.__length_hint__")):=by rw[typeLookup_type,builtinLookup_eq_fast];kernel_rfl
section
variable {prog:Program} {w:World} {A:Around} {E:Value->Shared->Prop} {s:Shared} {it l:Addr} {items:Array Value}
theorem hint {i:Int}{Q:Bool->Shared->Prop}(hm:s.heap.IsRevIter it l i)(h:Q false s):wpAny (model prog w) A (Builtin.List.listLengthHint (.ref it)) Q E s:=by
 unfold Builtin.List.listLengthHint;refine wpAny_bind (wpAny_specialOf hm.typeIs no_len ?_)
 wp_delta
 refine wpAny_ite_split (λhab=>absurd hab (by decide)) (λ_=>?_);refine wpAny_ite_split (λhab=>absurd hab (by decide)) (λ_=>?_);refine wpAny_bind (wpAny_specialOf hm.typeIs lk_hint ?_);generalize hid:("list_reverseiterator.__length_hint__":String)=id0
 wp_delta
 rw[show splitId id0=some ("list_reverseiterator","__length_hint__") from by subst hid;decide +kernel];subst hid;refine wpAny_bind (wpAny_isInstance (T:="list_reverseiterator") (b:=true) hm.typeIs (by rw[isSubtype_type];kernel_rfl) ?_);refine wpAny_ite_split (λhab=>absurd hab (by decide)) (λ_=>?_);refine wpAny_ite_split (λ_=>?_) (λhab=>absurd (by decide +kernel) hab);refine wpAny_ite_split (λhab=>absurd hab (by decide +kernel)) (λ_=>?_);exact wpAny_pure h
theorem extend {R:Result->Shared->Prop}(hh:A.handled=none)(hit:s.heap.IsRevIter it l ((items.size:Int) - 1))(hl:s.heap.IsList l items)(hne:l≠it)(hlen:items.size<=sizeLine)(S:Addr)(hS1:S≠it)(hS2:S≠l)(res:Value)(c₀:Nat)(hS:s.heap.get? S=some { cls:=.type "list",data:=.seq #[] c₀ })
 (hR:∀g1 tk acc' c',(∀b o,b≠S->b≠it->s.heap.get? b=some o->g1.get? b=some o)->g1.get? S=some { cls:=.type "list",dict:=none,data:=.seq acc' c',slots:=#[] }->
  ItemsOf (λi v=>items[items.size - 1 - i]?=some v) acc' items.size->R (.ok (.ret res)) { s with heap:=g1,toks:=tk }):
 wpAny (model prog w) A.in1 (Builtin.List.listExtendWith (.ref S) (.ref it) res)
  (λfin s'=>match fin with|.done f=>R (.ok f) s'|.again c'=>c'.quiet=true/\codeAny (model prog w) A c' R s') (λe s'=>R (.error e) s') s:=by
 unfold Builtin.List.listExtendWith;refine wpAny_bind (wpAny_typeOf (T:="list_reverseiterator") hit.typeIs ?_);have h1:Builtin.List.listSameRef (.ref S) (.ref it)=false:=by simp[Builtin.List.listSameRef,hS1]
 have h2:(Value.type "list_reverseiterator"==Value.type "list")=false:=by decide
 have h3:(Value.type "list_reverseiterator"==Value.type "tuple")=false:=by decide
 simp only[h1,h2,h3,Bool.or_false,Bool.false_eq_true,if_false];refine wpAny_bind (wpAny_pyIter_revIter hit ?_);refine wpAny_bind (wpAny_holding (hint hit ?_));refine wpAny_ite_split (λhab=>absurd hab (by decide +kernel)) (λ_=>?_);have W:=(Walks.listRev (prog:=prog) (w:=w) (A:=A.in1) hh it l hne items).toS
 have hSf:S∉[it,l]:=λhm=>by
  rcases List.mem_cons.mp hm with e|hm
  ·exact hS1 e
  ·exact hS2 (List.mem_singleton.mp hm)
 refine wpAny_pure ⟨plainId_quiet F.plain_extend_loop _,?_⟩;refine codeAny_extend_loopS W hlen S hSf res items.size 0 _ #[] _ rfl (Nat.zero_le _) ⟨Nat.zero_le _,by simpa using hit,hl⟩ hS (ItemsOf.nil _) λs' acc' c' hmv hS' hacc=>?_
 rw[Moved.eq_with hmv];refine hR s'.heap s'.toks acc' c' (λb o hb hb2 e=>hmv.heap b o (λhmem=>?_) e) hS' hacc;rcases List.mem_cons.mp hmem with e'|hmem
 ·exact hb e'
 ·exact hb2 (List.mem_singleton.mp hmem)
theorem init {R:Result->Shared->Prop}(hh:A.handled=none)(hit:s.heap.IsRevIter it l ((items.size:Int) - 1))(hl:s.heap.IsList l items)(hne:l≠it)(hlen:items.size<=sizeLine)(S:Addr)(hS1:S≠it)(hS2:S≠l)(hS:s.heap.get? S=some { cls:=.type "list",data:=.seq #[] })
 (hR:∀g1 tk acc' c',(∀b o,b≠S->b≠it->s.heap.get? b=some o->g1.get? b=some o)->g1.get? S=some { cls:=.type "list",dict:=none,data:=.seq acc' c',slots:=#[] }->
  ItemsOf (λi v=>items[items.size - 1 - i]?=some v) acc' items.size->R (.ok (.ret .none)) { s with heap:=g1,toks:=tk }):
 wpAny (model prog w) A.in1 (Builtin.«list.__init__» ⟨[.ref S,.ref it],[]⟩)
  (λfin s'=>match fin with|.done f=>R (.ok f) s'|.again c'=>c'.quiet=true/\codeAny (model prog w) A c' R s') (λe s'=>R (.error e) s') s:=by
 show wpAny _ _ (do let old ←Builtin.List.listItems (.ref S);Builtin.List.listUpdate (.ref S) (λ_=>#[]);letGo old.toList.reverse;Builtin.List.listExtendWith (.ref S) (.ref it) .none) _ _ s;refine wpAny_bind ?_;unfold Builtin.List.listItems;refine wpAny_bind (wpAny_seqItems hS rfl (wpAny_pure ?_));show wpAny _ _ (updateSeq S (λ_=>#[]) >>=λ_=>letGo (#[]:Array Value).toList.reverse >>=λ_=>Builtin.List.listExtendWith (.ref S) (.ref it) .none) _ _ s;refine wpAny_bind (wpAny_updateSeq hS rfl ?_);have g2:=Heap.get?_update_self (Obj.mapSeq (λ_=>(#[]:Array Value))) hS rfl;have oth:∀b o,b≠S->s.heap.get? b=some o->(s.heap.update S (Obj.mapSeq (λ_=>(#[]:Array Value)))).get? b=some o:=λb o hb e=>(Heap.get?_update_other _ _ (Ne.symm hb)).trans e
 refine wpAny_bind (wpAny_letGo ?_);refine extend (s:={ s with heap:=s.heap.update S (Obj.mapSeq (λ_=>(#[]:Array Value))) }) hh (hit.at λo e=>oth _ o hS1.symm e) (hl.at λo e=>oth _ o hS2.symm e) hne hlen S hS1 hS2 .none _ g2 λg1 tk acc' c' hk hS' hacc=>?_
 exact hR g1 tk acc' c' (λb o hb hb2 e=>hk b o hb hb2 (oth b o hb e)) hS' hacc
theorem call {Q:Value->Shared->Prop}(hh:A.handled=none)(hit:s.heap.IsRevIter it l ((items.size:Int) - 1))(hl:s.heap.IsList l items)(hne:l≠it)(hlen:items.size<=sizeLine)
 (hQ:∀g1 tk acc' c',(∀b o,b≠it->s.heap.get? b=some o->g1.get? b=some o)->g1.get? s.heap.objs.size=some { cls:=.type "list",dict:=none,data:=.seq acc' c',slots:=#[] }->ItemsOf (λi v=>items[items.size - 1 - i]?=some v) acc' items.size->Q (.ref s.heap.objs.size) { s with heap:=g1,toks:=tk }):
 wpAny (model prog w) A (PySem.call (.type "list") [.ref it]) Q E s:=by
 refine callType_codes (Q₁:=λobj s₁=>obj=.ref s.heap.objs.size/\s₁={ s with heap:=s.heap.push { cls:=.type "list",data:=.seq #[] } }) F.called_list (F.typeCall_list_1 _) F.entry_list_init (code_list_new _ ⟨rfl,rfl⟩) λobj s₁ h₁=>?_
 obtain⟨rfl,rfl⟩:=h₁;have hS:(s.heap.push { cls:=.type "list",data:=.seq #[] }).get? s.heap.objs.size=some { cls:=.type "list",data:=.seq #[] }:=Heap.get?_push_size _ rfl;have lt1:it<s.heap.objs.size:=let ⟨o,ho,_⟩:=hit;Heap.lt_size ho
 have lt2:l<s.heap.objs.size:=let ⟨o,ho,_⟩:=hl;Heap.lt_size ho
 refine⟨⟨_,hS,rfl⟩,F.args_list_init_2 _ _,init (A:=A.in1) (s:={ s with heap:=s.heap.push { cls:=.type "list",data:=.seq #[] } }) hh (hit.at λo e=>Heap.get?_push_of_some _ e) (hl.at λo e=>Heap.get?_push_of_some _ e) hne hlen _ (Nat.ne_of_gt lt1) (Nat.ne_of_gt lt2) hS λg1 tk acc' c' hk hS' hacc=>?_⟩;exact⟨rfl,hQ g1 tk acc' c' (λb o hb e=>hk b o (Nat.ne_of_lt (Heap.lt_size e)) hb (Heap.get?_push_of_some _ e)) hS' hacc⟩
end
end Lr
section
variable {X:Cx} {a e:Expr} {te:TE} {ta:TA} {p p2 pos pos2:Pos}
def tListRev (K:PySem.W.Frag)(ta:TA):TE:=λ σ H Q=>ta σ H λvs H1=>∃(l:Addr) (ys:List V),vs=[.ref l]/\SqL K H1 l ys/\∀D,H1 D=none->Q (.ref D) (upd H1 D (.lst ys.reverse))
theorem vals_rev {ys:List V}{its:List Value}{acc:Array Value}(hv:Vals ys its)(h:ItemsOf (λi v=>its.toArray[its.toArray.size - 1 - i]?=some v) acc its.toArray.size):acc.toList=its.reverse:=by
 have hz:acc.size=its.length:=by simpa using h.1
 refine List.ext_getElem? λi=>?_
 by_cases hi:i<its.length
 ·have e:acc[i]?=some (acc[i]'(by omega)):=Array.getElem?_eq_getElem (by omega)
  have e2:=h.2 i _ e;rw[Array.getElem?_toList,e,List.getElem?_reverse hi];simpa using e2.symm
 ·rw[Array.getElem?_toList,Array.getElem?_eq_none (by omega),List.getElem?_eq_none (by rw[List.length_reverse];omega)]
theorem vals_reverse:∀{ys:List V} {its:List Value},Vals ys its->Vals ys.reverse its.reverse
 |_,_,.nil=>.nil
 |_,_,.cons r t=>by rw[List.reverse_cons,List.reverse_cons];exact(vals_reverse t).append (.cons r .nil)
theorem pe_listRev (hc:X.calm=true)(hgl:Gl X "list")(hml:X.mg "list"=none)(hg:Gl X "reversed")(hm:X.mg "reversed"=none)(ha:PA X [a] ta)(hs:starEach [a] X.env=[(false,eval a X.env)]:=by rfl)
 (hs2:starEach [.Call (.Name "reversed" p) [a] [] pos] X.env=[(false,eval (.Call (.Name "reversed" p) [a] [] pos) X.env)]:=by rfl):PE X (.Call (.Name "list" p2) [.Call (.Name "reversed" p) [a] [] pos] [] pos2) (tListRev X.K ta):=by
 intro pins s σ H Q I h;refine wpAny_Call_Name_kw (ld_blt I hgl hml boot_list ?_);refine PyProof.Rows.callWith_type1 ?_ hs2 rfl;rw[hs2];show wpAny _ _ (spliced ((false,eval (.Call (.Name "reversed" p) [a] [] pos) X.env)::backTo pos2 [])) _ _ s;refine Calls.spliced_cons ?_;refine Call_ (ld_blt I hg hm boot_reversed (PyProof.Rows.callWith_type1 (thn (ha pos pins s σ H _ I h) λus s1 ⟨vs,H1,I1,r1,q1⟩=>?_) hs rfl));obtain⟨l,ys,e,hq,q⟩:=q1;subst e;obtain⟨u,rfl,ru⟩:=vals1 r1;cases ru;obtain⟨its,rv,pl,hz⟩:=I1.list hq;have hl:=rv.length;have kp1:∀b o,s1.heap.get? b=some o->(s1.heap.push (revObj l ((its.toArray.size:Int) - 1))).get? b=some o:=λb o e=>Heap.get?_push_of_some _ e
 have hll:l<s1.heap.objs.size:=let ⟨o,ho,_⟩:=pl.isList;Heap.lt_size ho
 have F1:=fp_new I1 (Nat.le_refl s1.heap.objs.size);refine call_reversed_list pl.isList (Calls.spliced_nil ?_);have I2:Inv X pins σ H1 { s1 with heap:=s1.heap.push (revObj l ((its.toArray.size:Int) - 1)) }:=I1.kept (t':=s1.toks) kp1;refine Lr.call (s:={ s1 with heap:=s1.heap.push (revObj l ((its.toArray.size:Int) - 1)) }) (I.ok.hd hc) ⟨_,Heap.get?_push_size _ rfl,rfl,rfl⟩ (pl.isList.at λo e=>kp1 _ _ e) (Nat.ne_of_lt hll) (by rw[List.size_toArray];omega) λg1 tk acc c hk hS hacc=>?_
 have eacc:=vals_rev rv hacc;have I3:Inv X pins σ H1 { s1 with heap:=g1,toks:=tk }:=I2.turned (t':=tk) (λb o hb e=>hk b o hb e) F1.none F1.loc (.inr F1.new) F1.cell F1.pin;have hsz:(s1.heap.push (revObj l ((its.toArray.size:Int) - 1))).objs.size=s1.heap.objs.size+ 1:=Heap.size_push ..;generalize hD:(s1.heap.push (revObj l ((its.toArray.size:Int) - 1))).objs.size=D at hS hsz ⊢;have hDn:H1 D=none:=I1.hok.fresh (by omega);have F2:=fp_new I1 (b:=D) (by omega);have nD:∀{b:Addr},b∉[D]->b≠D:=λhb z=>hb (by simp[z])
 refine⟨.ref D,upd H1 D (.lst ys.reverse),Inv.step (s:={ s1 with heap:=g1,toks:=tk }) I3 (h':=g1) (t':=tk) (g':=s1.gens) (d':=s1.drawn) (ch:=[D]) (λb hb=>by rw[List.mem_singleton.mp hb];exact⟨.inr F2.new,F2.loc,F2.cell,F2.pin⟩) (λb o _ _ _ e _=>e) (λb o _ _ _ e _=>⟨o.slots,e⟩) (λb o hc _ n=>by rw[upd_ne (nD hc)];exact n) (λb o _ e=>⟨o,e⟩)
  (λb xs e=>by rw[upd_ne (ne_of_none e hDn)];exact e) (λb o u e=>by rw[upd_ne (ne_of_none e hDn)];exact e) (λb ps e=>⟨#[],by rw[upd_ne (ne_of_none e hDn),e];simp⟩) (λm hm=>hm) (λb u e=>?_) I3.bare,rfl,q D hDn⟩
 ·by_cases hb:b=D
  ·subst hb;rw[upd_same]at e;cases e;refine⟨by rw[List.length_reverse];exact hz,its.reverse,c,vals_reverse rv,?_⟩;rw[←eacc,Array.toArray_toList];exact hS
  ·rw[upd_ne hb]at e;exact(I3.hok b u e).stay (λd v _ q=>q) (λd q=>by rw[upd_ne (ne_of_none q hDn)];exact q) λd xs q=>by rw[upd_ne (ne_of_none q hDn)];exact q
def tWay (t1 t2:TE):TE:=λ σ H Q=>t1 σ H Q\/t2 σ H Q
theorem pe_way {t1 t2:TE}(h1:PE X e t1)(h2:PE X e t2):PE X e (tWay t1 t2):=λpins s σ H Q I h=>h.elim (h1 pins s σ H Q I) (h2 pins s σ H Q I)
def tMakeO (C:Addr):TE:=λ_ H Q=>∀x d,H x=none->H d=none->d≠x->Q (.ref x) (upd (upd H d (.own x)) x (.ins C d []))
theorem pe_makeO {x:Str}{C:Addr}(hmk:PySem.W.makesIn X.K C=true)(hi:PySem.W.findIn X.K (.ref C) "__init__"=some (some (.builtin "object.__init__")))(kp:PySem.W.keepIn X.K (.ref C)=true)(hg:Gl X x)(hm:X.mg x=some (.ref C))
 (hdb:(x==("__debug__":Str))=false:=by decide):PE X (.Call (.Name x p) [] [] pos) (tMakeO C):=by
 intro pins s σ H Q I h;refine wpAny_Call_Name_kw (ld_glob I hg hm ?_ hdb);refine PySem.W.callWith_K0 I.kIn kp (wpAny_call ?_);have I2:=Inv.made (C:=C) I;have hq:=h (s.heap.objs.size+ 1) s.heap.objs.size (I.hok.fresh (Nat.le_succ _)) (I.hok.fresh (Nat.le_refl _)) (Nat.ne_of_lt (Nat.lt_succ_self _));have Y:=PySem.W.makes_of (M:=model X.prog X.w) I.kIn hmk;refine make_map0 I.kIn hmk hi (λself=>PySem.W.Looks.of_pure (PySem.W.oi_bind self)) ?_
 have g1:((s.heap.push PySem.W.emptyDict).push (PySem.W.instObj C s.heap.objs.size)).get? (s.heap.objs.size+ 1)=some (PySem.W.instObj C s.heap.objs.size):=by
  have:=Heap.get?_push_size (s.heap.push PySem.W.emptyDict) (o:=PySem.W.instObj C s.heap.objs.size) rfl
  rwa [Heap.size_push]at this
 have t1:PySem.W.Looks (model X.prog X.w) ((s.heap.push PySem.W.emptyDict).push (PySem.W.instObj C s.heap.objs.size)) (typeOf (.ref (s.heap.objs.size+ 1))) (.ref C):=(PySem.W.Looks.ld g1).andThen .now;have t2:PySem.W.Looks (model X.prog X.w) ((s.heap.push PySem.W.emptyDict).push (PySem.W.instObj C s.heap.objs.size)) (isInstance (.ref (s.heap.objs.size+ 1)) (.type "object")) true:=t1.andThen (Y.top.keeps λb o e=>Heap.get?_push_of_some _ (Heap.get?_push_of_some _ e));refine codeAny_call_builtin PySem.W.oi_plain PySem.W.entry_oi (@PySem.W.check_slot (model X.prog X.w) _ _ _ "object.__init__" "object" "__init__" (.ref (s.heap.objs.size+ 1)) [] [] _ PySem.W.oi_kind PySem.W.oi_split t2 (PySem.W.oi_args (.ref (s.heap.objs.size+ 1))) ?_);rw[PySem.W.oi_run];exact wpAny_pure (And.intro rfl ⟨.ref (s.heap.objs.size+ 1),_,I2,rfl,hq⟩)
def rIsiO (K:PySem.W.Frag):List V->Hp->VK->Prop:=λxs H Q=>∃x D t b,xs=[x,.ref D]/\TyOf K H x t/\PySem.W.kitOne K t (.ref D)=some b/\Q (.bl b) H
theorem call_isiO:CallR X (.builtin "isinstance") (rIsiO X.K):=by
 intro pins s σ H xs us Q I r h;obtain⟨x,D,t,b,rfl,ty,e,q⟩:=h;obtain⟨u,w',rfl,rx,ry⟩:=vals2 r;cases ry;exact isinst_ok I rx ty e λtk=>⟨.bl b,H,I.tok tk,rfl,q⟩
end
end L2
namespace L2
open PySem PySem.Spec PyProof.Rows
theorem asc_print:∀c:Nat,c<95->Unicode.isPrintable (c+ 32)=true:=by decide +kernel
theorem asc_repr {l:List Nat}(h:∀c∈l,32<=c/\c<=126):(reprText (tx l)).length<=2+ 2* l.length:=by
 rw[←reprLen_eq,←Array.foldl_toList];refine fold_two (λc=>(Builtin.Str.reprChar (reprQuote (tx l)) c).length) l 2 λc hc=>?_
 obtain⟨h1,h2⟩:=h c hc;have hp:=asc_print (c - 32) (by omega);rw[Nat.sub_add_cancel h1]at hp;exact fig_repr hp (by omega) (by omega) (by omega)
section
variable {X:Cx} {pos:Pos}
theorem pe_fmtRA {e:Expr}{te:TE}(he:PE X e te):PE X (.FormattedValue e 114 none pos) (λ σ H Q=>te σ H λv H1=>∃l:List Nat,v=.str (tx l)/\(∀c∈l,32<=c/\c<=126)/\l.length<=100000/\∀r:List Nat,r.length<=200002->Q (.str (tx r)) H1):=by
 intro pins s σ H Q I h;refine wpAny_FormattedValue_repr (thn (he pins s σ H _ I h) λv s1 ⟨x,H1,I1,r,l,e1,hc,hl,q⟩=>?_);subst e1;obtain⟨t',rfl⟩:=r;have h1:=asc_repr hc;have h3:(reprText (tx l)).length<=200002:=by omega
 have hz:(reprText (tx l)).length<=sizeLine:=Nat.le_trans h3 (by decide);refine wpAny_pyReprObj_gives (typeIs_str _ _ _) F.slot_str_repr F.entry_str_repr (F.args_str_repr_1 _) (gives_str_repr (tx l) t') ?_ rfl hz;refine formatField_str (λt2 tk=>⟨.str (reprText (tx l)),H1,(I1.tok _).tok _,⟨_,rfl⟩,?_⟩) hz;rw[tx_of (reprText (tx l))]
 exact q _ (by
  have:(reprText (tx l)).cps.toList.length=(reprText (tx l)).length:=Array.length_toList;omega)
def rSlN:V->Option Int->Option Int->Hp->VK->Prop:=λx lo hi H Q=>∃l r,x=.str (tx l)/\l.length<=sizeLine/\lo=none/\hi=some (-1)/\Txt.slice (tx l) none (some (-1))=tx r/\Q (.str (tx r)) H
theorem sl_N:SlR X rSlN:=by
 intro pins s σ H x v vl vu lo hi sl Q I rx hs pl pu h;obtain⟨l,r,rfl,hz,rfl,rfl,e,q⟩:=h;obtain⟨t,rfl⟩:=rx;have hz':(tx l).length<=sizeLine:=by rw[tx_len];exact hz
 refine⟨"str",_,F.slot_str_getitem.lookup,typeIs_str _ _ _,?_⟩;obtain⟨os,hos,hcs,hds⟩:=id hs;cases pl;obtain⟨u,rfl⟩:∃u,vu=.int (-1:Int) u:=by cases pu with|int i u=>exact⟨u,rfl⟩
 refine wpAny_getItem_str_slice (l:=none) (u:=some ((-1:Int),u)) (st:=none) ⟨os,hos,hcs,hds⟩ rfl ?_;refine post_val_or_str ⟨Nat.le_trans (Txt.slice_le (tx l) none (some (-1:Int))) hz',λt' k=>?_⟩;refine⟨.str (tx r),H,I.tok _,⟨t',?_⟩,q⟩;rw[←e];rfl
theorem star_b {a b:Expr}{o:Operator}{p:Pos}{es:List Expr}{env:Env}:starEach (.BinOp a o b p::es) env=(false,eval (.BinOp a o b p) env)::starEach es env:=rfl
theorem star_s {a b:Expr}{p:Pos}{es:List Expr}{env:Env}:starEach (.Subscript a b p::es) env=(false,eval (.Subscript a b p) env)::starEach es env:=rfl
theorem star_k {a:Expr}{b:List Expr}{k:List Keyword}{p:Pos}{es:List Expr}{env:Env}:starEach (.Call a b k p::es) env=(false,eval (.Call a b k p) env)::starEach es env:=rfl
theorem star_e {c:Const}{j:Nat}{p:Pos}{es:List Expr}{env:Env}:starEach (.Constant c j p::es) env=(false,eval (.Constant c j p) env)::starEach es env:=rfl
end
end L2
namespace M11
def flip (k:Nat):Nat:=if k % 2=0 then k+ 1 else k - 1
def nx (T:List (List Int))(k i:Nat):Nat:=((T.getD i []).getD k 0).toNat
structure Tab (L:Nat) (T:List (List Int)):Prop where
 pos:1<=T.length
 top:T.length<=300
 let1:1<=L
 let2:L<=40
 row:∀(i:Nat) (r:List Int),T[i]?=some r->r.length=2* L
 val:∀i k,i<T.length->k<2* L->∃r:List Int,T[i]?=some r/\r[k]?=some ((nx T k i:Nat):Int)
 lt:∀i k,i<T.length->k<2* L->nx T k i<T.length
 back:∀i k,i<T.length->k<2* L->nx T (flip k) (nx T k i)=i
def pl (s:Int):Nat:=if 0<s then 2* s.natAbs - 2 else 2* s.natAbs - 1
def walk (T:List (List Int))(w:List Int)(i:Nat):Nat:=w.foldl (λi s=>nx T (pl s) i) i
def back (w:List Int):List Int:=w.reverse.map λz=>-z
structure Pm (p:Nat) (r:List Int):Prop where
 len:r.length=p
 nd:r.Nodup
 rg:∀z∈r,0<=z/\z<(p:Int)
def RowOk (L:Nat)(f:Nat->Int->Int)(come:List Int)(x:Int)(r:List Int)(m:Nat):Prop:=r.length=m/\∀k,k<m->∃j:Nat,r[k]?=some (j:Int)/\come[j]?=some (f k x)
def InvOf (p:Nat)(r t:List Int):Prop:=t.length=p/\∀k j:Nat,r[k]?=some (j:Int)->t[j]?=some (k:Int)
def InvTo (p:Nat)(r t:List Int)(n:Nat):Prop:=t.length=p/\∀k j:Nat,k<n->r[k]?=some (j:Int)->t[j]?=some (k:Int)
end M11
namespace M12
open M11
def Fc (W:Nat)(E:List Int)(N:Nat):Prop:=(∀z∈E,0<=z/\z<(N:Int))/\∀j:Nat,0<j->j<N->∃p:Nat,p<j* W/\E[p]?=some (j:Int)/\∀(q:Nat) (z:Int),q<p->E[q]?=some z->z<(j:Int)
theorem flat_at {W:Nat}(hW:0<W):∀{T:List (List Int)} {i k:Nat} {r:List Int},(∀(i:Nat) (r:List Int),T[i]?=some r->r.length=W)->T[i]?=some r->k<W->T.flatten[i* W+ k]?=r[k]?
 |[],i,k,r,_,hr,_=>by simp at hr
 |s::T,0,k,r,h,hr,hk=>by
  have e:s=r:=Option.some.inj hr;subst e;rw[List.flatten_cons,Nat.zero_mul,Nat.zero_add,List.getElem?_append_left (by rw[h 0 s rfl];exact hk)]
 |s::T,i+ 1,k,r,h,hr,hk=>by
  have hs:=h 0 s rfl;rw[List.flatten_cons,List.getElem?_append_right (by rw[hs,Nat.succ_mul];omega),hs];have e:(i+ 1)* W+ k - W=i* W+ k:=by rw[Nat.succ_mul];omega
  rw[e];exact flat_at hW (λi r hr=>h (i+ 1) r hr) hr hk
def st (k:Nat):Int:=if k % 2=0 then ((k / 2+ 1:Nat):Int) else -((k / 2+ 1:Nat):Int)
theorem pl_st (k:Nat):pl (st k)=k:=by
 unfold pl st;by_cases h:k % 2=0
 ·rw[if_pos h,if_pos (by omega)];omega
 ·rw[if_neg h,if_neg (by omega)];omega
theorem st_ok {k L:Nat}(h:k<2* L):st k≠0/\(st k).natAbs<=L:=by
 unfold st;split <;> omega
def lexL:List Nat->List Nat->Prop
 |a::u,b::v=>a<b\/(a=b/\lexL u v)
 |_,_=>False
def aheadN (u v:List Nat):Prop:=u.length<v.length\/(u.length=v.length/\lexL u v)
def Lw (L:Nat)(T:List (List Int))(ws:List (List Nat)):Prop:=ws.length=T.length/\ws[0]?=some []/\
 ∀(j p:Nat),0<j->j<T.length->T.flatten[p]?=some (j:Int)->(∀(q:Nat) (z:Int),q<p->T.flatten[q]?=some z->z<(j:Int))->∃u,ws[p / (2* L)]?=some u/\ws[j]?=some (u++[p % (2* L)])
section
variable {L:Nat} {T:List (List Int)} {ws:List (List Nat)} (hT:Tab L T) (hF:Fc (2* L) T.flatten T.length) (hw:Lw L T ws)
include hT hF hw
end
end M12
namespace K31
open PySem L2
def top (i:Nat):Stmt:=PySem.Challenge.pw_cosetyard_k31_the_first_gap.main.body.getD i (.Pass ⟨0,0,0,0⟩)
abbrev s_steps_of:Stmt:=top 9
abbrev s_place_of:Stmt:=top 11
abbrev s_order_by:Stmt:=top 16
abbrev s_first_of:Stmt:=top 17
abbrev s_all_gaps:Stmt:=top 20
abbrev s_own:Stmt:=top 21
abbrev s__law_cell_at:Stmt:=top 23
abbrev s__law_whole:Stmt:=top 24
abbrev s__law_step:Stmt:=top 25
abbrev s__law_gaps:Stmt:=top 26
abbrev s__law_due:Stmt:=top 27
abbrev s__law_right:Stmt:=top 28
abbrev s__law_refused:Stmt:=top 29
abbrev s__law_asked:Stmt:=top 30
abbrev s__law_deed:Stmt:=top 31
abbrev s_law:Stmt:=top 32
abbrev s_Order_gap:Stmt:=inClass (top 13) 0
abbrev s_ByLetters_gap:Stmt:=inClass (top 14) 0
abbrev s_Newest_gap:Stmt:=inClass (top 15) 0
abbrev s_Rooms___init__:Stmt:=inClass (top 19) 0
abbrev s_Rooms_make:Stmt:=inClass (top 19) 1
abbrev s_Rooms_lay:Stmt:=inClass (top 19) 2
abbrev s_Rooms_by:Stmt:=inClass (top 19) 3
abbrev s_Rooms_standing:Stmt:=inClass (top 19) 5
abbrev s_Rooms_paper:Stmt:=inClass (top 19) 6
abbrev s_Rooms_first_gap:Stmt:=inClass (top 19) 7
abbrev s_Rooms_keep:Stmt:=inClass (top 19) 8
abbrev s_Rooms_take_in:Stmt:=inClass (top 19) 9
abbrev s_Rooms_put_together:Stmt:=inClass (top 19) 10
abbrev s_Rooms_put_off:Stmt:=inClass (top 19) 11
set_option genInjectivity false in
structure Adr where
 f_steps_of:Addr
 d_steps_of:FuncData
 f_place_of:Addr
 d_place_of:FuncData
 f_order_by:Addr
 d_order_by:FuncData
 f_first_of:Addr
 d_first_of:FuncData
 f_all_gaps:Addr
 d_all_gaps:FuncData
 f_own:Addr
 d_own:FuncData
 f__law_cell_at:Addr
 d__law_cell_at:FuncData
 f__law_whole:Addr
 d__law_whole:FuncData
 f__law_step:Addr
 d__law_step:FuncData
 f__law_gaps:Addr
 d__law_gaps:FuncData
 f__law_due:Addr
 d__law_due:FuncData
 f__law_right:Addr
 d__law_right:FuncData
 f__law_refused:Addr
 d__law_refused:FuncData
 f__law_asked:Addr
 d__law_asked:FuncData
 f__law_deed:Addr
 d__law_deed:FuncData
 f_law:Addr
 d_law:FuncData
 f_Order_gap:Addr
 d_Order_gap:FuncData
 f_ByLetters_gap:Addr
 d_ByLetters_gap:FuncData
 f_Newest_gap:Addr
 d_Newest_gap:FuncData
 f_Rooms___init__:Addr
 d_Rooms___init__:FuncData
 f_Rooms_make:Addr
 d_Rooms_make:FuncData
 f_Rooms_lay:Addr
 d_Rooms_lay:FuncData
 f_Rooms_by:Addr
 d_Rooms_by:FuncData
 f_Rooms_standing:Addr
 d_Rooms_standing:FuncData
 f_Rooms_paper:Addr
 d_Rooms_paper:FuncData
 f_Rooms_first_gap:Addr
 d_Rooms_first_gap:FuncData
 f_Rooms_keep:Addr
 d_Rooms_keep:FuncData
 f_Rooms_take_in:Addr
 d_Rooms_take_in:FuncData
 f_Rooms_put_together:Addr
 d_Rooms_put_together:FuncData
 f_Rooms_put_off:Addr
 d_Rooms_put_off:FuncData
 c_YardError:Addr
 c_NoWord:Addr
 c_TooLong:Addr
 c_NoOrder:Addr
 c_TooMany:Addr
 c_TooGreat:Addr
 c_Order:Addr
 c_ByLetters:Addr
 c_Newest:Addr
 c_Rooms:Addr
 c_lc:Addr
 c_lt:Addr
set_option genInjectivity false in
structure Txt (K:PySem.W.Frag) (mg:Str->Option Value) (A:Adr):Prop where
 steps_of:Def K mg "steps_of" s_steps_of ["letters"] A.f_steps_of A.d_steps_of
 place_of:Def K mg "place_of" s_place_of ["step"] A.f_place_of A.d_place_of
 order_by:Def K mg "order_by" s_order_by ["name"] A.f_order_by A.d_order_by
 first_of:Def K mg "first_of" s_first_of ["rooms","some"] A.f_first_of A.d_first_of
 all_gaps:Def K mg "all_gaps" s_all_gaps ["letters"] A.f_all_gaps A.d_all_gaps
 own:Def K mg "own" s_own ["value"] A.f_own A.d_own
 _law_cell_at:Def K mg "_law_cell_at" s__law_cell_at ["_law_script","_law_k"] A.f__law_cell_at A.d__law_cell_at
 _law_whole:Def K mg "_law_whole" s__law_whole ["_law_found"] A.f__law_whole A.d__law_whole
 _law_step:Def K mg "_law_step" s__law_step ["_law_number","_law_letters"] A.f__law_step A.d__law_step
 _law_gaps:Def K mg "_law_gaps" s__law_gaps ["_law_rooms","_law_letters"] A.f__law_gaps A.d__law_gaps
 _law_due:Def K mg "_law_due" s__law_due ["_law_gaps_here","_law_way"] A.f__law_due A.d__law_due
 _law_right:Def K mg "_law_right" s__law_right ["_law_found","_law_due_here"] A.f__law_right A.d__law_right
 _law_refused:Def K mg "_law_refused" s__law_refused ["_law_name"] A.f__law_refused A.d__law_refused
 _law_asked:Def K mg "_law_asked" s__law_asked ["_law_kinds","_law_rooms","_law_letters","_law_turned"] A.f__law_asked A.d__law_asked
 _law_deed:Def K mg "_law_deed" s__law_deed ["_law_rooms","_law_letters","_law_cell","_law_at"] A.f__law_deed A.d__law_deed
 law:Def K mg "law" s_law ["_law_script"] A.f_law A.d_law
 Order_gap:MDef K A.c_Order "gap" "Order.gap" s_Order_gap ["self","rooms"] A.f_Order_gap A.d_Order_gap
 ByLetters_gap:MDef K A.c_ByLetters "gap" "ByLetters.gap" s_ByLetters_gap ["self","rooms"] A.f_ByLetters_gap A.d_ByLetters_gap
 Newest_gap:MDef K A.c_Newest "gap" "Newest.gap" s_Newest_gap ["self","rooms"] A.f_Newest_gap A.d_Newest_gap
 Rooms___init__:MDef K A.c_Rooms "__init__" "Rooms.__init__" s_Rooms___init__ ["self","letters"] A.f_Rooms___init__ A.d_Rooms___init__
 Rooms_make:MDef K A.c_Rooms "make" "Rooms.make" s_Rooms_make ["self","room","step"] A.f_Rooms_make A.d_Rooms_make
 Rooms_lay:MDef K A.c_Rooms "lay" "Rooms.lay" s_Rooms_lay ["self","room","step","other","row"] A.f_Rooms_lay A.d_Rooms_lay
 Rooms_by:MDef K A.c_Rooms "by" "Rooms.by" s_Rooms_by ["self","room","step"] A.f_Rooms_by A.d_Rooms_by
 Rooms_standing:MDef K A.c_Rooms "standing" "Rooms.standing" s_Rooms_standing ["self"] A.f_Rooms_standing A.d_Rooms_standing
 Rooms_paper:MDef K A.c_Rooms "paper" "Rooms.paper" s_Rooms_paper ["self"] A.f_Rooms_paper A.d_Rooms_paper
 Rooms_first_gap:MDef K A.c_Rooms "first_gap" "Rooms.first_gap" s_Rooms_first_gap ["self","room"] A.f_Rooms_first_gap A.d_Rooms_first_gap
 Rooms_keep:MDef K A.c_Rooms "keep" "Rooms.keep" s_Rooms_keep ["self","room","step","other"] A.f_Rooms_keep A.d_Rooms_keep
 Rooms_take_in:MDef K A.c_Rooms "take_in" "Rooms.take_in" s_Rooms_take_in ["self","way","pending"] A.f_Rooms_take_in A.d_Rooms_take_in
 Rooms_put_together:MDef K A.c_Rooms "put_together" "Rooms.put_together" s_Rooms_put_together ["self","room","step","one","other","pending"] A.f_Rooms_put_together A.d_Rooms_put_together
 Rooms_put_off:MDef K A.c_Rooms "put_off" "Rooms.put_off" s_Rooms_put_off ["self","room","pending"] A.f_Rooms_put_off A.d_Rooms_put_off
 z_min:mg "min"=none
 z_max:mg "max"=none
 z_range:mg "range"=none
 z_len:mg "len"=none
 z_tuple:mg "tuple"=none
 z_list:mg "list"=none
 z_isinstance:mg "isinstance"=none
 z_bool:mg "bool"=none
 z_int:mg "int"=none
 z_dict:mg "dict"=none
 z_ValueError:mg "ValueError"=none
 z_reversed:mg "reversed"=none
 z_enumerate:mg "enumerate"=none
 m_YardError:mg "YardError"=some (.ref A.c_YardError)
 m_NoWord:mg "NoWord"=some (.ref A.c_NoWord)
 m_TooLong:mg "TooLong"=some (.ref A.c_TooLong)
 m_NoOrder:mg "NoOrder"=some (.ref A.c_NoOrder)
 m_TooMany:mg "TooMany"=some (.ref A.c_TooMany)
 m_TooGreat:mg "TooGreat"=some (.ref A.c_TooGreat)
 m_Order:mg "Order"=some (.ref A.c_Order)
 m_ByLetters:mg "ByLetters"=some (.ref A.c_ByLetters)
 m_Newest:mg "Newest"=some (.ref A.c_Newest)
 m_Rooms:mg "Rooms"=some (.ref A.c_Rooms)
 pg_Rooms:PySem.W.plainGet K A.c_Rooms Str.empty=true
 hd_Rooms:PySem.W.hasDictIn K A.c_Rooms=true
 po_Rooms:PySem.W.plainOver K A.c_Rooms=true
 sa_Rooms:PySem.W.findIn K (.ref A.c_Rooms) "__setattr__"=some (some (.builtin "object.__setattr__"))
 mk_Rooms:PySem.W.makesIn K A.c_Rooms=true
 kc_Rooms:PySem.W.keepIn K (.ref A.c_Rooms)=true
 n_letters:PySem.W.findIn K (.ref A.c_Rooms) "letters"=some none
 n_made:PySem.W.findIn K (.ref A.c_Rooms) "made"=some none
 n_rows:PySem.W.findIn K (.ref A.c_Rooms) "rows"=some none
 n_ways:PySem.W.findIn K (.ref A.c_Rooms) "ways"=some none
 n_gaps:PySem.W.findIn K (.ref A.c_Rooms) "gaps"=some none
 n_elders:PySem.W.findIn K (.ref A.c_Rooms) "elders"=some none
 n_called:PySem.W.findIn K (.ref A.c_Rooms) "called"=some none
 n_went:PySem.W.findIn K (.ref A.c_Rooms) "went"=some none
 pg_Order:PySem.W.plainGet K A.c_Order Str.empty=true
 hd_Order:PySem.W.hasDictIn K A.c_Order=true
 po_Order:PySem.W.plainOver K A.c_Order=true
 sa_Order:PySem.W.findIn K (.ref A.c_Order) "__setattr__"=some (some (.builtin "object.__setattr__"))
 mk_Order:PySem.W.makesIn K A.c_Order=true
 kc_Order:PySem.W.keepIn K (.ref A.c_Order)=true
 io_Order:PySem.W.findIn K (.ref A.c_Order) "__init__"=some (some (.builtin "object.__init__"))
 oc_Order:PySem.W.findIn K (.ref A.c_Order) "__class__"=some (some (.builtin "object.__class__"))
 om_Order:PySem.W.mroIn K A.c_Order (.type "object")=some true
 pg_ByLetters:PySem.W.plainGet K A.c_ByLetters Str.empty=true
 hd_ByLetters:PySem.W.hasDictIn K A.c_ByLetters=true
 po_ByLetters:PySem.W.plainOver K A.c_ByLetters=true
 sa_ByLetters:PySem.W.findIn K (.ref A.c_ByLetters) "__setattr__"=some (some (.builtin "object.__setattr__"))
 mk_ByLetters:PySem.W.makesIn K A.c_ByLetters=true
 kc_ByLetters:PySem.W.keepIn K (.ref A.c_ByLetters)=true
 io_ByLetters:PySem.W.findIn K (.ref A.c_ByLetters) "__init__"=some (some (.builtin "object.__init__"))
 oc_ByLetters:PySem.W.findIn K (.ref A.c_ByLetters) "__class__"=some (some (.builtin "object.__class__"))
 om_ByLetters:PySem.W.mroIn K A.c_ByLetters (.type "object")=some true
 pg_Newest:PySem.W.plainGet K A.c_Newest Str.empty=true
 hd_Newest:PySem.W.hasDictIn K A.c_Newest=true
 po_Newest:PySem.W.plainOver K A.c_Newest=true
 sa_Newest:PySem.W.findIn K (.ref A.c_Newest) "__setattr__"=some (some (.builtin "object.__setattr__"))
 mk_Newest:PySem.W.makesIn K A.c_Newest=true
 kc_Newest:PySem.W.keepIn K (.ref A.c_Newest)=true
 io_Newest:PySem.W.findIn K (.ref A.c_Newest) "__init__"=some (some (.builtin "object.__init__"))
 oc_Newest:PySem.W.findIn K (.ref A.c_Newest) "__class__"=some (some (.builtin "object.__class__"))
 om_Newest:PySem.W.mroIn K A.c_Newest (.type "object")=some true
 x_NoOrder:PySem.W.excIn K A.c_NoOrder mroV "ValueError.__new__"=true
 e_T:PySem.W.exmOne K (.ref A.c_NoOrder) (.ref A.c_YardError)=some true
 i_T1:PySem.W.findIn K (.ref A.c_NoOrder) "__getattribute__"=some (some (.builtin "BaseException.__getattribute__"))
 i_T2:PySem.W.findIn K (.ref A.c_NoOrder) "__getattr__"=some none
 i_T3:PySem.W.isClsIn K A.c_NoOrder=true
 i_T4:PySem.W.findIn K (.ref A.c_NoOrder) "__class__"=some (some (.builtin "object.__class__"))
 i5:PySem.W.specialIn K (.builtin "object.__class__") "__get__"=some (some (.builtin "getset_descriptor.__get__"))
 i6:PySem.W.takesIn K (.builtin "object.__class__")=some true
 i_T7:PySem.W.mroIn K A.c_NoOrder (.type "object")=some true
 i_T8:PySem.W.subIn K (.ref A.c_NoOrder) (.type "BaseException")=some true
 k_N:PySem.W.kitOne K (.ref A.c_NoOrder) (.ref A.c_NoOrder)=some true
 k_V:PySem.W.kitOne K (.ref A.c_NoOrder) (.type "ValueError")=some true
 k_NoWord:PySem.W.kitOne K (.ref A.c_NoOrder) (.ref A.c_NoWord)=some false
 k_TooLong:PySem.W.kitOne K (.ref A.c_NoOrder) (.ref A.c_TooLong)=some false
 k_TooMany:PySem.W.kitOne K (.ref A.c_NoOrder) (.ref A.c_TooMany)=some false
 k_TooGreat:PySem.W.kitOne K (.ref A.c_NoOrder) (.ref A.c_TooGreat)=some false
 q_ByLetters_ByLetters:PySem.W.kitOne K (.ref A.c_ByLetters) (.ref A.c_ByLetters)=some true
 q_Newest_Newest:PySem.W.kitOne K (.ref A.c_Newest) (.ref A.c_Newest)=some true
 q_Order_Order:PySem.W.kitOne K (.ref A.c_Order) (.ref A.c_Order)=some true
 q_Order_ByLetters:PySem.W.kitOne K (.ref A.c_Order) (.ref A.c_ByLetters)=some false
 q_ByLetters_Order:PySem.W.kitOne K (.ref A.c_ByLetters) (.ref A.c_Order)=some true
 q_Newest_Order:PySem.W.kitOne K (.ref A.c_Newest) (.ref A.c_Order)=some true
 lam:LamAt K A.d_ByLetters_gap A.c_lc A.c_lt
theorem cl_Rooms {K:PySem.W.Frag}{mg:Str->Option Value}{A:Adr}(T:Txt K mg A):Cls K A.c_Rooms:=⟨T.pg_Rooms,T.hd_Rooms,T.po_Rooms,T.sa_Rooms⟩
theorem mk_Rooms {K:PySem.W.Frag}{mg:Str->Option Value}{A:Adr}(T:Txt K mg A):Mk K A.c_Rooms A.f_Rooms___init__:=⟨T.mk_Rooms,T.Rooms___init__.m.at_,T.Rooms___init__.m.fn,T.kc_Rooms⟩
theorem cl_Order {K:PySem.W.Frag}{mg:Str->Option Value}{A:Adr}(T:Txt K mg A):Cls K A.c_Order:=⟨T.pg_Order,T.hd_Order,T.po_Order,T.sa_Order⟩
theorem cl_ByLetters {K:PySem.W.Frag}{mg:Str->Option Value}{A:Adr}(T:Txt K mg A):Cls K A.c_ByLetters:=⟨T.pg_ByLetters,T.hd_ByLetters,T.po_ByLetters,T.sa_ByLetters⟩
theorem cl_Newest {K:PySem.W.Frag}{mg:Str->Option Value}{A:Adr}(T:Txt K mg A):Cls K A.c_Newest:=⟨T.pg_Newest,T.hd_Newest,T.po_Newest,T.sa_Newest⟩
theorem sc_steps_of:FnScope ["letters","steps","letter"] ["letters"] (defScope s_steps_of):=⟨rfl,rfl,rfl,by decide +kernel,rfl,by decide +kernel,by decide +kernel⟩
theorem sc_place_of:FnScope ["step"] ["step"] (defScope s_place_of):=⟨rfl,rfl,rfl,by decide +kernel,rfl,by decide +kernel,by decide +kernel⟩
theorem sc_order_by:FnScope ["name"] ["name"] (defScope s_order_by):=⟨rfl,rfl,rfl,by decide +kernel,rfl,by decide +kernel,by decide +kernel⟩
theorem sc_first_of:FnScope ["rooms","some","room","step"] ["rooms","some"] (defScope s_first_of):=⟨rfl,rfl,rfl,by decide +kernel,rfl,by decide +kernel,by decide +kernel⟩
theorem sc_all_gaps:FnScope ["letters"] ["letters"] (defScope s_all_gaps):=⟨rfl,rfl,rfl,by decide +kernel,rfl,by decide +kernel,by decide +kernel⟩
theorem sc_own:FnScope ["value"] ["value"] (defScope s_own):=⟨rfl,rfl,rfl,by decide +kernel,rfl,by decide +kernel,by decide +kernel⟩
theorem sc__law_cell_at:FnScope ["_law_script","_law_k"] ["_law_script","_law_k"] (defScope s__law_cell_at):=⟨rfl,rfl,rfl,by decide +kernel,rfl,by decide +kernel,by decide +kernel⟩
theorem sc__law_whole:FnScope ["_law_found"] ["_law_found"] (defScope s__law_whole):=⟨rfl,rfl,rfl,by decide +kernel,rfl,by decide +kernel,by decide +kernel⟩
theorem sc__law_step:FnScope ["_law_number","_law_letters"] ["_law_number","_law_letters"] (defScope s__law_step):=⟨rfl,rfl,rfl,by decide +kernel,rfl,by decide +kernel,by decide +kernel⟩
theorem sc__law_gaps:FnScope ["_law_rooms","_law_letters","_law_found","_law_room","_law_place","_law_step_here"] ["_law_rooms","_law_letters"] (defScope s__law_gaps):=⟨rfl,rfl,rfl,by decide +kernel,rfl,by decide +kernel,by decide +kernel⟩
theorem sc__law_due:FnScope ["_law_gaps_here","_law_way","_law_first","_law_room","_law_place","_law_step_here","_law_rank"] ["_law_gaps_here","_law_way"] (defScope s__law_due):=⟨rfl,rfl,rfl,by decide +kernel,rfl,by decide +kernel,by decide +kernel⟩
theorem sc__law_right:FnScope ["_law_found","_law_due_here"] ["_law_found","_law_due_here"] (defScope s__law_right):=⟨rfl,rfl,rfl,by decide +kernel,rfl,by decide +kernel,by decide +kernel⟩
theorem sc__law_refused:FnScope ["_law_name","_law_kept","e"] ["_law_name"] (defScope s__law_refused):=⟨rfl,rfl,rfl,by decide +kernel,rfl,by decide +kernel,by decide +kernel⟩
theorem sc__law_asked:FnScope ["_law_kinds","_law_rooms","_law_letters","_law_turned","_law_rows","_law_gaps_here","_law_names","_law_at","_law_way"] ["_law_kinds","_law_rooms","_law_letters","_law_turned"] (defScope s__law_asked):=⟨rfl,rfl,rfl,by decide +kernel,rfl,by decide +kernel,by decide +kernel⟩
theorem sc__law_deed:FnScope ["_law_rooms","_law_letters","_law_cell","_law_at","_law_standing","_law_room","_law_step_here"] ["_law_rooms","_law_letters","_law_cell","_law_at"] (defScope s__law_deed):=⟨rfl,rfl,rfl,by decide +kernel,rfl,by decide +kernel,by decide +kernel⟩
theorem sc_law:FnScope ["_law_script","_law_letters","_law_both","_law_kinds","_law_at","_law_cell","_law_which","_law_some","_law_way","_law_name","_law_wrong"] ["_law_script"] (defScope s_law):=⟨rfl,rfl,rfl,by decide +kernel,rfl,by decide +kernel,by decide +kernel⟩
theorem sc_Order_gap:FnScope ["self","rooms"] ["self","rooms"] (defScope s_Order_gap):=⟨rfl,rfl,rfl,by decide +kernel,rfl,by decide +kernel,by decide +kernel⟩
theorem sc_ByLetters_gap:FnScope ["self","rooms","gaps"] ["self","rooms"] (defScope s_ByLetters_gap):=⟨rfl,rfl,rfl,by decide +kernel,rfl,by decide +kernel,by decide +kernel⟩
theorem sc_Newest_gap:FnScope ["self","rooms"] ["self","rooms"] (defScope s_Newest_gap):=⟨rfl,rfl,rfl,by decide +kernel,rfl,by decide +kernel,by decide +kernel⟩
theorem sc_Rooms___init__:FnScope ["self","letters"] ["self","letters"] (defScope s_Rooms___init__):=⟨rfl,rfl,rfl,by decide +kernel,rfl,by decide +kernel,by decide +kernel⟩
theorem sc_Rooms_make:FnScope ["self","room","step","number"] ["self","room","step"] (defScope s_Rooms_make):=⟨rfl,rfl,rfl,by decide +kernel,rfl,by decide +kernel,by decide +kernel⟩
theorem sc_Rooms_lay:FnScope ["self","room","step","other","row","pending"] ["self","room","step","other","row"] (defScope s_Rooms_lay):=⟨rfl,rfl,rfl,by decide +kernel,rfl,by decide +kernel,by decide +kernel⟩
theorem sc_Rooms_by:FnScope ["self","room","step"] ["self","room","step"] (defScope s_Rooms_by):=⟨rfl,rfl,rfl,by decide +kernel,rfl,by decide +kernel,by decide +kernel⟩
theorem sc_Rooms_standing:FnScope ["self"] ["self"] (defScope s_Rooms_standing):=⟨rfl,rfl,rfl,by decide +kernel,rfl,by decide +kernel,by decide +kernel⟩
theorem sc_Rooms_paper:FnScope ["self"] ["self"] (defScope s_Rooms_paper):=⟨rfl,rfl,rfl,by decide +kernel,rfl,by decide +kernel,by decide +kernel⟩
theorem sc_Rooms_first_gap:FnScope ["self","room","step"] ["self","room"] (defScope s_Rooms_first_gap):=⟨rfl,rfl,rfl,by decide +kernel,rfl,by decide +kernel,by decide +kernel⟩
theorem sc_Rooms_keep:FnScope ["self","room","step","other"] ["self","room","step","other"] (defScope s_Rooms_keep):=⟨rfl,rfl,rfl,by decide +kernel,rfl,by decide +kernel,by decide +kernel⟩
theorem sc_Rooms_take_in:FnScope ["self","way","pending","room","step","other","led_to","come_from"] ["self","way","pending"] (defScope s_Rooms_take_in):=⟨rfl,rfl,rfl,by decide +kernel,rfl,by decide +kernel,by decide +kernel⟩
theorem sc_Rooms_put_together:FnScope ["self","room","step","one","other","pending","less","more","number"] ["self","room","step","one","other","pending"] (defScope s_Rooms_put_together):=⟨rfl,rfl,rfl,by decide +kernel,rfl,by decide +kernel,by decide +kernel⟩
theorem sc_Rooms_put_off:FnScope ["self","room","pending","ways","step","other"] ["self","room","pending"] (defScope s_Rooms_put_off):=⟨rfl,rfl,rfl,by decide +kernel,rfl,by decide +kernel,by decide +kernel⟩
section
variable {P:Program} {w:World} {K:PySem.W.Frag} {mg:Str->Option Value} {base:Heap} {A:Adr}
def spLaw (K:PySem.W.Frag)(Pt:Addr):Sp:=λvs H Q _=>∃(a:Addr) (ns:List Int),vs=[.ref a]/\SqL K H a (ns.map V.int)/\ns.length<=63/\H Pt=some (.tbl #[])/\∀H',Q (.bl true) H'
def stL (n:Nat):List Int:=(List.range n).map M12.st
theorem stL_len (n:Nat):(stL n).length=n:=by unfold stL;rw[List.length_map,List.length_range]
theorem stL_at {n i:Nat}(h:i<n):(stL n)[i]?=some (M12.st i):=by
 unfold stL;rw[List.getElem?_map,List.getElem?_range h];rfl
theorem stL_two (i:Nat):stL (2* i)++[1+ (i:Int)]++[-(1+ (i:Int))]=stL (2* (i+ 1)):=by
 have e:2* (i+ 1)=2* i+ 1+ 1:=by omega
 rw[e];unfold stL;rw[List.range_succ,List.range_succ,List.map_append,List.map_append];have e1:M12.st (2* i)=1+ (i:Int):=by unfold M12.st;rw[if_pos (by omega)];omega
 have e2:M12.st (2* i+ 1)= -(1+ (i:Int)):=by unfold M12.st;rw[if_neg (by omega)];omega
 show _=(List.range (2* i)).map M12.st++[M12.st (2* i)]++[M12.st (2* i+ 1)];rw[e1,e2]
theorem stL_nd (n:Nat):(stL n).Nodup:=by
 unfold stL;refine List.pairwise_map.mpr (List.Pairwise.imp ?_ List.nodup_range);intro a b hab z;have h1:=M12.pl_st a;rw[z,M12.pl_st]at h1;exact hab h1.symm
theorem ref_at {rs:List Addr}{i:Nat}{r:Addr}(h:rs[i]?=some r):atI (rs.map V.ref) (i:Int)=some (V.ref r):=atI_nat (by rw[List.getElem?_map,h];rfl)
def spStepsO:Sp:=λvs H Q _=>∃L:Nat,vs=[.int L]/\1<=L/\L<=200/\∀l H',Same H H'->H' l=some (.lst (intV ((List.range (2* L)).map M12.st)))->Q (.ref l) H'
def spGaps:Sp:=λvs H Q _=>∃L:Nat,vs=[.int L]/\1<=L/\L<=200/\∀d H',Same H H'->H d=none->H' d=some (.dK (gK (stL (2* L))))->Q (.ref d) H'
def spNew (C:Addr):Sp:=λvs H Q _=>∃(x dx:Addr) (L:Nat),vs=[.ref x,.int L]/\H x=some (.ins C dx [])/\1<=L/\L<=200/\∀a H',(∀b o,H b=some o->b≠x->H' b=some o)->RoomsAt C H' x (RS.new L (stL (2* L))) a->(∀b,a.own x b->b=x\/H b=none)->Q .non H'
def ButO (a:RA)(r:Addr)(H H':Hp):Prop:=∀b o,¬a.own r b->H b=some o->H' b=some o
def spKeep (C:Addr):Sp:=λvs H Q _=>∃(r:Addr) (S:RS) (a:RA) (c d:Nat) (z:Int),vs=[.ref r,.int c,.int z,.int d]/\RoomsAt C H r S a/\S.Wf/\c<S.made/\d<S.made/\(∀l∈S.ways,l.length<=100000)/\∀H',ButO a r H H'->RoomsAt C H' r (S.keep c z d) a->Q .non H'
def spMake (C:Addr):Sp:=λvs H Q _=>∃(r:Addr) (S:RS) (a:RA) (c:Nat) (z:Int),vs=[.ref r,.int c,.int z]/\RoomsAt C H r S a/\S.Wf/\1<=S.L/\S.L<=200/\c<S.made/\S.made<=100000/\S.rows.length<=1000000/\(∀l∈S.ways,l.length<=100000)/\∀a' H',ButO a r H H'->RoomsAt C H' r (S.make c z (stL (2* S.L))) a'->(∀b,a'.own r b->a.own r b\/H b=none)->Q (.int S.made) H'
def spRBy (C:Addr):Sp:=λvs H Q _=>∃(r:Addr) (S:RS) (a:RA) (c:Nat) (z:Int),vs=[.ref r,.int c,.int z]/\RoomsAt C H r S a/\c<S.ways.length/\Q (((S.by c z).map λn:Nat=>V.int (n:Int)).getD .non) H
def spStanding (C:Addr):Sp:=λvs H Q _=>∃(r:Addr) (S:RS) (a:RA),vs=[.ref r]/\RoomsAt C H r S a/\S.Wf/\S.made<=100000/\∀l,H l=none->Q (.ref l) (upd H l (.lst (intV (nI ((List.range S.made).filter λc=>decide (S.elders[c]?=some c))))))
def spOwn (k:Nat):Sp:=λvs H Q _=>∃(v:V) (d:Dt),vs=[v]/\DtAt H k v d/\NoL d/\∀v' H',Same H H'->DtAt H' k v' d->Q v' H'
def spPaper (k:Nat)(C:Addr):Sp:=λvs H Q _=>∃(r:Addr) (S:RS) (a:RA),vs=[.ref r]/\RoomsAt C H r S a/\S.rows.length<=1000000/\(∀p d,d∈S.rows->DtAt H 4 (.ref p) d->DtAt H k (.ref p) d)/\∀l ps H',Same H H'->H l=none->H' l=some (.lst (ps.map V.ref))->Each (λp d=>DtAt H' 4 (.ref p) d) ps S.rows->Q (.ref l) H'
theorem ok_own_vF (T:Txt K mg A):FnOk P w K mg base (CXw P w) 1 A.f_own A.d_own ["value"] (λ_ _ _ _=>False):=⟨λ_ _ _ _ h=>h.elim,λ_ _ _ _ _ _ _ _ _ _ _ _ _ h=>h.elim⟩
theorem ok_own_v0 (T:Txt K mg A):FnOk P w K mg base (CXw P w) 2 A.f_own A.d_own ["value"] (spOwn 0):=by
 have G_own:FnOk P w K mg base (CXw P w) 1 A.f_own A.d_own ["value"] (λ_ _ _ _=>False):=ok_own_vF T;refine T.own.F.okN sc_own (λvs H Q E h=>?_) (λcdv AA outer s H vs Q E hr h=>?_)
 ·obtain⟨v,d,rfl,_⟩:=h;rfl
 ·obtain⟨v,d,rfl,hv,hd,k⟩:=h
  refine⟨_,(pss_cons (ps_if (pt_val (pe_callB call_isi rfl T.z_isinstance PyProof.Rows.boot_isinstance (pa_cons (pv 0) (pa_cons (pe_bltn (v:=.ty "tuple") rfl T.z_tuple PyProof.Rows.boot_tuple rfl) pa_nil))))
   (pss_one (ps_ret (pe_callTy call_tuple_of rfl T.z_tuple PyProof.Rows.boot_tuple (pa_cons (pe_comp (fns:=[]) (ixs:=[]) (cl:=[]) rfl (pi_tup (pv 0)) (compScope0 (by decide +kernel) (by decide +kernel) rfl (by decide +kernel) rfl) (λC s H ex=>(pe_call (G_own) (hr.mono (by decide)) rfl T.own.m T.own.F.kp T.own.b .nil passF (pa_cons (pv 0) pa_nil)))) pa_nil))))
   pss_nil)
   (pss_cons (ps_if (pt_val (pe_callB call_isi rfl T.z_isinstance PyProof.Rows.boot_isinstance (pa_cons (pv 0) (pa_cons (pe_bltn (v:=.ty "list") rfl T.z_list PyProof.Rows.boot_list rfl) pa_nil))))
    (pss_one (ps_ret (pe_comp (fns:=[]) (ixs:=[]) (cl:=[]) rfl (pi_tup (pv 0)) (compScope0 (by decide +kernel) (by decide +kernel) rfl (by decide +kernel) rfl) (λC s H ex=>(pe_call (G_own) (hr.mono (by decide)) rfl T.own.m T.own.F.kp T.own.b .nil passF (pa_cons (pv 0) pa_nil))))))
    pss_nil)
   (pss_cons (ps_if (pt_val (pe_callB call_isi rfl T.z_isinstance PyProof.Rows.boot_isinstance (pa_cons (pv 0) (pa_cons (pe_bltn (v:=.ty "dict") rfl T.z_dict PyProof.Rows.boot_dict rfl) pa_nil))))
    (pss_one (ps_ret (pe_callTy (call_dict_pairs rfl) rfl T.z_dict PyProof.Rows.boot_dict (pa_cons (pe_comp (fns:=["value"]) (ixs:=[0]) (cl:=_) rfl (pi_tup (pv 0)) (compScope1 rfl rfl (by decide +kernel) rfl (by decide +kernel) rfl (by decide +kernel) (by decide +kernel) rfl rfl rfl rfl) (λC s H ex=>(pe_tup (pa_cons (pv 0) (pa_cons (pe_call (G_own) (hr.mono (by decide)) rfl T.own.m T.own.F.kp T.own.b .nil passF (pa_cons (pe_ix (ix_tupK (K:=K) rfl) (pv 1) (pv 0) (λ_ _=>rfl)) pa_nil)) pa_nil))))) pa_nil))))
    pss_nil)
   (pss_one (ps_ret (pv 0)))))),?_⟩
  try dsimp only[cx_noxK,cx_K]
  refine seq_let3 ?_;intro u_3 u_2 u_1
  have atom:(∃n,v=.int n)\/(∃l,v=.str (tx l))\/∃(a:Addr) (vs:List V) (ds:List Dt),v=.ref a/\d=.t ds/\False:=by
   cases hv with
   |i=>exact .inl ⟨_,rfl⟩
   |s=>exact .inr (.inl ⟨_,rfl⟩)
   |n=>cases hd
   |b=>cases hd
  rcases atom with ⟨n,rfl⟩|⟨l,rfl⟩|⟨a,vs,ds,rfl,rfl,hx⟩
  ·refine⟨_,rfl,_,_,_,_,rfl,.int n,kit_int_tuple K,_,rfl,iteF ?_⟩;refine⟨_,rfl,_,_,_,_,rfl,.int n,kit_int_list K,_,rfl,iteF ?_⟩;refine⟨_,rfl,_,_,_,_,rfl,.int n,kit_int_dict K,_,rfl,iteF ?_⟩;exact⟨_,rfl,k _ H (λ_ _ e=>e) hv⟩
  ·refine⟨_,rfl,_,_,_,_,rfl,.str (tx l),kit_str_tuple K,_,rfl,iteF ?_⟩;refine⟨_,rfl,_,_,_,_,rfl,.str (tx l),kit_str_list K,_,rfl,iteF ?_⟩;refine⟨_,rfl,_,_,_,_,rfl,.str (tx l),kit_str_dict K,_,rfl,iteF ?_⟩;exact⟨_,rfl,k _ H (λ_ _ e=>e) hv⟩
  ·exact hx.elim
theorem ok_own_v1 (T:Txt K mg A):FnOk P w K mg base (CXw P w) 3 A.f_own A.d_own ["value"] (spOwn 1):=by
 have G_own:FnOk P w K mg base (CXw P w) 2 A.f_own A.d_own ["value"] (spOwn 0):=ok_own_v0 T;refine T.own.F.okN sc_own (λvs H Q E h=>?_) (λcdv AA outer s H vs Q E hr h=>?_)
 ·obtain⟨v,d,rfl,_⟩:=h;rfl
 ·obtain⟨v,d,rfl,hv,hd,k⟩:=h
  refine⟨_,(pss_cons (ps_if (pt_val (pe_callB call_isi rfl T.z_isinstance PyProof.Rows.boot_isinstance (pa_cons (pv 0) (pa_cons (pe_bltn (v:=.ty "tuple") rfl T.z_tuple PyProof.Rows.boot_tuple rfl) pa_nil))))
   (pss_one (ps_ret (pe_callTy call_tuple_of rfl T.z_tuple PyProof.Rows.boot_tuple (pa_cons (pe_comp (fns:=[]) (ixs:=[]) (cl:=[]) rfl (pi_tup (pv 0)) (compScope0 (by decide +kernel) (by decide +kernel) rfl (by decide +kernel) rfl) (λC s H ex=>(pe_call (G_own) (hr.mono (by decide)) rfl T.own.m T.own.F.kp T.own.b .nil passF (pa_cons (pv 0) pa_nil)))) pa_nil))))
   pss_nil)
   (pss_cons (ps_if (pt_val (pe_callB call_isi rfl T.z_isinstance PyProof.Rows.boot_isinstance (pa_cons (pv 0) (pa_cons (pe_bltn (v:=.ty "list") rfl T.z_list PyProof.Rows.boot_list rfl) pa_nil))))
    (pss_one (ps_ret (pe_comp (fns:=[]) (ixs:=[]) (cl:=[]) rfl (pi_tup (pv 0)) (compScope0 (by decide +kernel) (by decide +kernel) rfl (by decide +kernel) rfl) (λC s H ex=>(pe_call (G_own) (hr.mono (by decide)) rfl T.own.m T.own.F.kp T.own.b .nil passF (pa_cons (pv 0) pa_nil))))))
    pss_nil)
   (pss_cons (ps_if (pt_val (pe_callB call_isi rfl T.z_isinstance PyProof.Rows.boot_isinstance (pa_cons (pv 0) (pa_cons (pe_bltn (v:=.ty "dict") rfl T.z_dict PyProof.Rows.boot_dict rfl) pa_nil))))
    (pss_one (ps_ret (pe_callTy (call_dict_pairs rfl) rfl T.z_dict PyProof.Rows.boot_dict (pa_cons (pe_comp (fns:=["value"]) (ixs:=[0]) (cl:=_) rfl (pi_tup (pv 0)) (compScope1 rfl rfl (by decide +kernel) rfl (by decide +kernel) rfl (by decide +kernel) (by decide +kernel) rfl rfl rfl rfl) (λC s H ex=>(pe_tup (pa_cons (pv 0) (pa_cons (pe_call (G_own) (hr.mono (by decide)) rfl T.own.m T.own.F.kp T.own.b .nil passF (pa_cons (pe_ix (ix_tupK (K:=K) rfl) (pv 1) (pv 0) (λ_ _=>rfl)) pa_nil)) pa_nil))))) pa_nil))))
    pss_nil)
   (pss_one (ps_ret (pv 0)))))),?_⟩
  try dsimp only[cx_noxK,cx_K]
  refine seq_let3 ?_;intro u_3 u_2 u_1
  have atom:(∃n,v=.int n)\/(∃l,v=.str (tx l))\/∃(a:Addr) (vs:List V) (ds:List Dt),v=.ref a/\d=.t ds/\(H a=some (.tup vs)/\vs.length=ds.length/\∀(j:Nat) (v:V) (x:Dt),vs[j]?=some v->ds[j]?=some x->DtAt H 0 v x):=by
   cases hv with
   |i=>exact .inl ⟨_,rfl⟩
   |s=>exact .inr (.inl ⟨_,rfl⟩)
   |n=>cases hd
   |b=>cases hd
   |t h1 h2 h3=>exact .inr (.inr ⟨_,_,_,rfl,rfl,h1,h2,h3⟩)
   |l=>cases hd
  rcases atom with ⟨n,rfl⟩|⟨l,rfl⟩|⟨a,vs,ds,rfl,rfl,hx⟩
  ·refine⟨_,rfl,_,_,_,_,rfl,.int n,kit_int_tuple K,_,rfl,iteF ?_⟩;refine⟨_,rfl,_,_,_,_,rfl,.int n,kit_int_list K,_,rfl,iteF ?_⟩;refine⟨_,rfl,_,_,_,_,rfl,.int n,kit_int_dict K,_,rfl,iteF ?_⟩;exact⟨_,rfl,k _ H (λ_ _ e=>e) hv⟩
  ·refine⟨_,rfl,_,_,_,_,rfl,.str (tx l),kit_str_tuple K,_,rfl,iteF ?_⟩;refine⟨_,rfl,_,_,_,_,rfl,.str (tx l),kit_str_list K,_,rfl,iteF ?_⟩;refine⟨_,rfl,_,_,_,_,rfl,.str (tx l),kit_str_dict K,_,rfl,iteF ?_⟩;exact⟨_,rfl,k _ H (λ_ _ e=>e) hv⟩
  ·obtain⟨h1,h2,h3⟩:=hx;obtain⟨hz,hds⟩:ds.length<=100000/\∀x∈ds,NoL x:=by cases hd with|t a b=>exact⟨a,b⟩
   refine⟨_,rfl,_,_,_,_,rfl,.tup h1,kit_self K "tuple",_,rfl,iteT ?_⟩;refine⟨_,rfl,a,rfl,⟨_,SqT.of h1⟩,?_⟩;refine comp_make (α:=Unit) vs.length (λi=>vs.getD i .non) (λH2 v i=>∃x,ds[i]?=some x/\NoL x/\DtAt H2 0 v x) (λH1 H2 v i s ⟨x,e,hn,q⟩=>⟨x,e,hn,q.same s⟩) ?_ (λi H2 s2 hi=>itt_go (SqT.of (s2 _ _ h1)) i hi) (λi x H2 H3 s2 hi y=>?_) (λH2 s2=>itt_stop (SqT.of (s2 _ _ h1))) (λi H2 Rr hi s2 kk=>?_) (λD H2 ys s2 hD hl hr=>?_)
   ·exact Nat.le_trans (by omega) (show 100000<=sizeLine by decide)
   ·obtain⟨e,hx⟩:=itt_yld (SqT.of (s2 _ _ h1)) i x H3 hi y;refine⟨e,?_⟩;rw[List.getD_eq_getElem?_getD,hx];rfl
   ·have hx:vs[i]?=some (vs.getD i .non):=by rw[List.getD_eq_getElem?_getD,List.getElem?_eq_getElem hi];rfl
    have hy:ds[i]?=some (ds[i]'(by omega)):=List.getElem?_eq_getElem (by omega)
    refine⟨_,rfl,_,_,rfl,(h3 i _ _ hx hy).same s2,hds _ (List.mem_of_getElem? hy),λv' H' s' q'=>kk v' H' s' ⟨_,hy,hds _ (List.mem_of_getElem? hy),q'⟩⟩
   ·refine⟨D,ys,rfl,.inl ⟨SqL.of upd_same,λl hl2=>?_⟩⟩;have sD:Same H2 (upd H2 D (.lst ys)):=Same.upd hD;have sl:Same (upd H2 D (.lst ys)) (upd (upd H2 D (.lst ys)) l (.tup ys)):=Same.upd hl2;refine k _ _ (s2.trans (sD.trans sl)) (.t upd_same (by omega) λj v x e1 e2=>?_);obtain⟨y,e3,-,q⟩:=hr j v e1;obtain rfl:y=x:=Option.some.inj (e3.symm.trans e2);exact q.same (sD.trans sl)
theorem ok_steps_of (T:Txt K mg A):FnOk P w K mg base (CXw P w) 1 A.f_steps_of A.d_steps_of ["letters"] spStepsO:=by
 refine T.steps_of.F.okN sc_steps_of (λvs H Q E h=>?_) (λcdv AA outer s H vs Q E hr h=>?_)
 ·obtain⟨L,rfl,_⟩:=h;rfl
 ·obtain⟨L,rfl,hL1,hL2,k⟩:=h
  refine⟨_,(pss_cons (ps_set (i:=1) sc_steps_of.nd rfl (Or.inl rfl) (pe_lst pa_nil))
   (pss_cons (ps_for PassesOwn.never rfl (pi_range2 rfl T.z_range (pa_cons pe_int (pa_cons (pe_op op_add (pv 0) pe_int) pa_nil))) (pg_name (i:=2) sc_steps_of.nd rfl (Or.inl rfl))
    (pss_cons (ps_expr (pe_bm PySem.F.plainAttrs_list PySem.F.slot_list_append PySem.F.type_list_append mt_append (pv 1) (pa_cons (pv 2) pa_nil)))
    (pss_one (ps_expr (pe_bm PySem.F.plainAttrs_list PySem.F.slot_list_append PySem.F.type_list_append mt_append (pv 1) (pa_cons (pe_un un_neg (pv 2)) pa_nil))))))
   (pss_one (ps_ret (pv 1))))),?_⟩
  try dsimp only[cx_noxK,cx_K]
  refine seq_let2 ?_;intro u_2 u_1;refine⟨Nat.zero_le _,λl hl=>?_⟩;have s0:Same H (upd H l (.lst [])):=Same.upd hl;have h0:upd H l (.lst []) l=some (.lst (intV (stL (2* 0)))):=upd_same;generalize upd H l (.lst [])=H0 at s0 h0 ⊢;refine⟨_,rfl,_,_,rfl,rfl,1,(L:Int)+ 1,rfl,⟨by omega,by omega,by omega,by omega⟩,?_⟩;refine for_range (lo:=1) (n:=((L:Int)+ 1 - 1).toNat) (λi σ H2=>∃v:Option V,σ=[some (.int L),some (.ref l),v]/\Same H H2/\H2 l=some (.lst (intV (stL (2* i))))) ⟨none,rfl,s0,h0⟩ ?_ ?_
  ·rintro i σ H2 hi ⟨v,rfl,s2,h2⟩;have hi':i<L:=by omega
   refine⟨_,rfl,.inl ⟨rfl,_,SqL.of h2⟩,_,rfl,l,_,_,rfl,rfl,h2,?_,?_⟩
   ·rw[ints_len,stL_len];exact Nat.lt_of_le_of_lt (show 2* i<=400 by omega) (by decide)
   refine⟨_,rfl,.inl ⟨rfl,_,SqL.of upd_same⟩,_,rfl,_,rfl,l,_,_,rfl,rfl,upd_same,?_,?_⟩
   ·rw[List.length_append,ints_len,stL_len];exact Nat.lt_of_le_of_lt (show 2* i+ 1<=400 by omega) (by decide)
   refine⟨_,rfl,λb o e=>?_,?_⟩
   ·rw[upd_ne (ne_of_none e hl),upd_ne (ne_of_none e hl)];exact s2 _ _ e
   ·rw[upd_same,←stL_two,ints_app,ints_app];rfl
  ·rintro σ H2 ⟨v,rfl,s2,h2⟩;rw[show ((L:Int)+ 1 - 1).toNat=L by omega]at h2;exact⟨_,rfl,k l H2 s2 h2⟩
theorem ok_all_gaps (T:Txt K mg A):FnOk P w K mg base (CXw P w) 2 A.f_all_gaps A.d_all_gaps ["letters"] spGaps:=by
 have G_steps_of:FnOk P w K mg base (CXw P w) 1 A.f_steps_of A.d_steps_of ["letters"] spStepsO:=ok_steps_of T;refine T.all_gaps.F.okN sc_all_gaps (λvs H Q E h=>?_) (λcdv AA outer s H vs Q E hr h=>?_)
 ·obtain⟨L,rfl,_⟩:=h;rfl
 ·obtain⟨L,rfl,hL1,hL2,k⟩:=h;refine⟨_,(pss_one (ps_ret (pe_callTy (call_dict_pairs rfl) rfl T.z_dict PyProof.Rows.boot_dict (pa_cons (pe_comp (fns:=[]) (ixs:=[]) (cl:=[]) rfl (pi_list (pe_call (G_steps_of) (hr.mono (by decide)) rfl T.steps_of.m T.steps_of.F.kp T.steps_of.b .nil passF (pa_cons (pv 0) pa_nil))) (compScope0 (by decide +kernel) (by decide +kernel) rfl (by decide +kernel) rfl) (λC s H ex=>(pe_tup (pa_cons (pv 0) (pa_cons pe_bl pa_nil))))) pa_nil)))),?_⟩
  try dsimp only[cx_noxK,cx_K]
  refine⟨_,rfl,L,rfl,hL1,hL2,λl H1 s1 h1=>⟨l,rfl,⟨_,SqL.of h1⟩,?_⟩⟩;have hn:(intV ((List.range (2* L)).map M12.st)).length=2* L:=by rw[ints_len,List.length_map,List.length_range]
  refine comp_make (α:=Unit) (2* L) (λi=>.int (M12.st i)) (λH2 v i=>∃p,v=.ref p/\H2 p=some (.tup [.int (M12.st i),.bl true])) (λH1 H2 v i s ⟨p,e,q⟩=>⟨p,e,s _ _ q⟩) ?_ (λi H2 s2 hi=>itl_go (SqL.of (s2 _ _ h1)) i (by omega)) (λi x H2 H3 s2 hi y=>?_) (λH2 s2=>?_) (λi H2 Rr hi s2 kk=>?_) (λD H2 ys s2 hD hl hr=>?_)
  ·exact Nat.le_trans (show 2* L<=400 by omega) (by decide)
  ·obtain⟨e,hx⟩:=itl_yld (SqL.of (s2 _ _ h1)) i x H3 (by omega) y;refine⟨e,?_⟩;rw[show (intV ((List.range (2* L)).map M12.st))[i]?=some (.int (M12.st i)) from ints_at (stL_at hi)]at hx;exact(Option.some.inj hx).symm
  ·have:=itl_stop (SqL.of (K:=K) (s2 _ _ h1));rw[hn]at this;exact this
  ·refine⟨_,rfl,(by show 2<=sizeLine;decide),λt ht=>kk _ _ (Same.upd ht) ⟨t,rfl,upd_same⟩⟩
  ·obtain⟨ps,rfl,hps⟩:=refs_of (P:=λi p=>H2 p=some (.tup [.int (M12.st i),.bl true])) ys 0 (λi v hv=>by rw[Nat.zero_add];exact hr i v hv);have sD:Same H2 (upd H2 D (.lst (ps.map V.ref))):=Same.upd hD;rw[List.length_map]at hl;refine⟨D,ps,gK (stL (2* L)),rfl,upd_same,by rw[gK_len,stL_len,hl],λi p kv e1 e2=>?_,λd hd=>?_⟩
   ·have hi:i<2* L:=by rw[←hl];exact(List.getElem?_eq_some_iff.mp e1).1
    have:=hps i p e1;rw[Nat.zero_add]at this;unfold gK at e2;rw[List.getElem?_map,stL_at hi]at e2;rw[←Option.some.inj e2];exact sD _ _ this
   ·have e:mergeK [] (gK (stL (2* L)))=gK (stL (2* L)):=by
     rw[merge_new _ _ ?_,List.nil_append];rw[List.nil_append];unfold gK;rw[List.map_map];exact List.pairwise_map.mpr (List.Pairwise.imp (λ{a b} hab z=>hab (Sum.inl.inj z)) (stL_nd _))
    rw[e];have sd:Same (upd H2 D (.lst (ps.map V.ref))) (upd (upd H2 D (.lst (ps.map V.ref))) d (.dK (gK (stL (2* L))))):=Same.upd hd;have sa:=s1.trans (s2.trans sD);exact k d _ (sa.trans sd) (sa.free hd) upd_same
theorem ok_Rooms_by (T:Txt K mg A):FnOk P w K mg base (CXw P w) 1 A.f_Rooms_by A.d_Rooms_by ["self","room","step"] (spRBy A.c_Rooms):=by
 refine T.Rooms_by.F.okN sc_Rooms_by (λvs H Q E h=>?_) (λcdv AA outer s H vs Q E hr h=>?_)
 ·obtain⟨r,S,a,c,z,rfl,_⟩:=h;rfl
 ·obtain⟨r,S,a,c,z,rfl,h,hc,k⟩:=h;have hu2:=hu_of hr;refine⟨_,(pss_one (ps_ret (pe_dget1 hu2 (pe_ix ix_list (pe_fld (pv 0) rfl) (pv 1) (λ_ _=>rfl)) (pv 2) ⟨rfl,rfl,rfl,rfl⟩))),?_⟩
  try dsimp only[cx_noxK,cx_K]
  have hl:S.ways[c]?=some (S.way c):=by unfold RS.way;rw[List.getD_eq_getElem?_getD,List.getElem?_eq_getElem hc];rfl
  obtain⟨p,hp,hd⟩:=h.rW.at hl;refine⟨_,rfl,r,_,a.dx,_,_,rfl,h.ins,cl_Rooms T,T.n_ways,lk_ways _ _ _,_,rfl,a.aW,_,_,_,rfl,rfl,SqL.of h.hW,ref_at hp,p,rfl,.inl ⟨_,.inl hd⟩,_,rfl,_,DGet.k (k:=Sum.inl z) hd,?_⟩;rw[wK_val];exact k
theorem way_at {S:RS}{c:Nat}(h:c<S.ways.length):S.ways[c]?=some (S.way c):=by unfold RS.way;rw[List.getD_eq_getElem?_getD,List.getElem?_eq_getElem h];rfl
theorem gap_at {S:RS}{c:Nat}(h:c<S.gaps.length):S.gaps[c]?=some (S.gap c):=by unfold RS.gap;rw[List.getD_eq_getElem?_getD,List.getElem?_eq_getElem h];rfl
theorem way_le {S:RS}{c n:Nat}(h:∀l∈S.ways,l.length<=n):(S.way c).length<=n:=by
 unfold RS.way;rw[List.getD_eq_getElem?_getD]
 cases e:S.ways[c]? with
 |none=>exact Nat.zero_le _
 |some l=>exact h l (List.mem_of_getElem? e)
theorem own_w {a:RA}{r p:Addr}{i:Nat}(h:a.ws[i]?=some p):a.own r p:=.inr (.inr (mem_ws (List.mem_of_getElem? h)))
theorem own_g {a:RA}{r p:Addr}{i:Nat}(h:a.gs[i]?=some p):a.own r p:=.inr (.inr (mem_gs (List.mem_of_getElem? h)))
theorem ButO.upd {a:RA}{r p:Addr}{H:Hp}{o:HO}(h:a.own r p):ButO a r H (upd H p o):=λb u hb e=>by rw[upd_ne (λz=>hb (by rw[z];exact h))];exact e
theorem ButO.trans {a:RA}{r:Addr}{H H1 H2:Hp}(h:ButO a r H H1)(h':ButO a r H1 H2):ButO a r H H2:=λb u hb e=>h' b u hb (h b u hb e)
theorem ok_Rooms_keep (T:Txt K mg A):FnOk P w K mg base (CXw P w) 1 A.f_Rooms_keep A.d_Rooms_keep ["self","room","step","other"] (spKeep A.c_Rooms):=by
 refine T.Rooms_keep.F.okN sc_Rooms_keep (λvs H Q E h=>?_) (λcdv AA outer s H vs Q E hr h=>?_)
 ·obtain⟨r,S,a,c,d,z,rfl,_⟩:=h;rfl
 ·obtain⟨r,S,a,c,d,z,rfl,h,hw,hc,hd,hz,k⟩:=h;have hu2:=hu_of hr
  refine⟨_,(pss_cons (ps_dput hu2 (pe_ix ix_list (pe_fld (pv 0) rfl) (pv 1) (λ_ _=>rfl)) (pv 2) (pv 3) rfl)
   (pss_cons (ps_dput hu2 (pe_ix ix_list (pe_fld (pv 0) rfl) (pv 3) (λ_ _=>rfl)) (pe_un un_neg (pv 2)) (pv 1) rfl)
   (pss_cons (ps_expr (pe_dpop2 (pe_ix ix_list (pe_fld (pv 0) rfl) (pv 1) (λ_ _=>rfl)) (pv 2) pe_non ⟨rfl,rfl,rfl,rfl⟩))
   (pss_one (ps_expr (pe_dpop2 (pe_ix ix_list (pe_fld (pv 0) rfl) (pv 3) (λ_ _=>rfl)) (pe_un un_neg (pv 2)) pe_non ⟨rfl,rfl,rfl,rfl⟩)))))),?_⟩
  try dsimp only[cx_noxK,cx_K]
  refine seq_let3 ?_;intro u_3 u_2 u_1;obtain⟨p,hp,hP⟩:=h.rW.at (way_at (S:=S) (c:=c) (by rw[hw.w];exact hc));have b1:(S.way c).length<=100000:=way_le hz;refine⟨_,rfl,_,rfl,r,_,a.dx,_,_,rfl,h.ins,cl_Rooms T,T.n_ways,lk_ways _ _ _,_,rfl,a.aW,_,_,_,rfl,rfl,SqL.of h.hW,ref_at hp,_,rfl,p,_,rfl,DPut.k (k:=Sum.inl z) hP (by rw[wK_len];exact Nat.lt_of_le_of_lt b1 (by decide)),?_⟩;rw[wK_put];have h1:RoomsAt A.c_Rooms _ r (S.putWay c z d) a:=h.setWay hp (putW (S.way c) z d);have u1:ButO a r H (upd H p (.dK (wK (putW (S.way c) z d)))):=ButO.upd (own_w hp);generalize upd H p (.dK (wK (putW (S.way c) z d)))=H1 at h1 u1 ⊢;have w1:(S.putWay c z d).ways.length=S.made:=by show (S.ways.set c _).length=_;rw[List.length_set,hw.w]
  obtain⟨q,hq,hQ⟩:=h1.rW.at (way_at (S:=S.putWay c z d) (c:=d) (by rw[w1];exact hd))
  have b2:((S.putWay c z d).way d).length<=100001:=way_le λl hl=>by
   rcases List.mem_or_eq_of_mem_set hl with hl|rfl
   ·exact Nat.le_succ_of_le (hz l hl)
   ·exact Nat.le_trans (putW_len _ _ _) (by omega)
  refine⟨_,rfl,_,rfl,r,_,a.dx,_,_,rfl,h1.ins,cl_Rooms T,T.n_ways,lk_ways _ _ _,_,rfl,a.aW,_,_,_,rfl,rfl,SqL.of h1.hW,ref_at hq,_,rfl,_,rfl,q,_,rfl,DPut.k (k:=Sum.inl (-z)) hQ (by rw[wK_len];exact Nat.lt_of_le_of_lt b2 (by decide)),?_⟩;rw[wK_put];have h2:RoomsAt A.c_Rooms _ r ((S.putWay c z d).putWay d (-z) c) a:=h1.setWay hq (putW ((S.putWay c z d).way d) (-z) c);have u2:ButO a r H1 (upd H1 q (.dK (wK (putW ((S.putWay c z d).way d) (-z) c)))):=ButO.upd (own_w hq);generalize upd H1 q (.dK (wK (putW ((S.putWay c z d).way d) (-z) c)))=H2 at h2 u2 ⊢;generalize e2:(S.putWay c z d).putWay d (-z) c=S2 at h2 ⊢;have g2:S2.gaps.length=S.made:=by rw[←e2];exact hw.g
  obtain⟨p3,hp3,hP3⟩:=h2.rG.at (gap_at (S:=S2) (c:=c) (by rw[g2];exact hc))
  have pop:∀{H:Hp} {S:RS} {c:Nat} {z:Int} {p:Addr},RoomsAt A.c_Rooms H r S a->a.gs[c]?=some p->H p=some (.dK (gK (S.gap c)))->∀{Q:V->Hp->Prop},(∀v H',ButO a r H H'->RoomsAt A.c_Rooms H' r (S.noGap c z) a->Q v H')->
   ∃(kvs:List (Key×V)) (k:Key),H p=some (.dK kvs)/\V.int z=kV k/\(∀v,valV kvs k=some v->Q v (upd H p (.dK (dropK kvs k))))/\(valV kvs k=none->Q .non H):=by
   intro H S c z p h hp hP Q hQ;refine⟨_,Sum.inl z,hP,rfl,?_⟩;rw[gK_val,gK_drop];by_cases hm:z∈S.gap c
   ·rw[if_pos hm];exact⟨λv _=>hQ _ _ (ButO.upd (own_g hp)) (h.setGap hp _),λz=>by cases z⟩
   ·rw[if_neg hm];refine⟨λv z=>(by cases z),λ_=>hQ _ _ (λ_ _ _ e=>e) ?_⟩;have e:(S.gap c).filter (λx=>decide (x≠z))=S.gap c:=List.filter_eq_self.mpr λx hx=>decide_eq_true λz=>hm (z ▸ hx)
    have hl:c<S.gaps.length:=by rw[←h.rG.1];exact(List.getElem?_eq_some_iff.mp hp).1
    have:S.noGap c z=S:=by
     unfold RS.noGap RS.setG;rw[e]
     have es:S.gaps.set c (S.gap c)=S.gaps:=List.ext_getElem? λi=>by
      by_cases hi:c=i
      ·subst hi;rw[List.getElem?_set_self hl,gap_at hl]
      ·rw[List.getElem?_set_ne hi]
     rw[es]
    rw[this];exact h
  refine⟨_,rfl,r,_,a.dx,_,_,rfl,h2.ins,cl_Rooms T,T.n_gaps,lk_gaps _ _ _,_,rfl,a.aG,_,_,_,rfl,rfl,SqL.of h2.hG,ref_at hp3,p3,rfl,.inl ⟨_,.inl hP3⟩,_,rfl,pop h2 hp3 hP3 λv H3 u3 h3=>?_⟩;generalize e3:S2.noGap c z=S3 at h3;have g3:S3.gaps.length=S.made:=by rw[←e3];show (S2.gaps.set c _).length=_;rw[List.length_set,g2]
  obtain⟨p4,hp4,hP4⟩:=h3.rG.at (gap_at (S:=S3) (c:=d) (by rw[g3];exact hd));refine⟨_,rfl,r,_,a.dx,_,_,rfl,h3.ins,cl_Rooms T,T.n_gaps,lk_gaps _ _ _,_,rfl,a.aG,_,_,_,rfl,rfl,SqL.of h3.hG,ref_at hp4,p4,rfl,.inl ⟨_,.inl hP4⟩,_,rfl,_,rfl,pop h3 hp4 hP4 λv H4 u4 h4=>?_⟩;refine k H4 (u1.trans (u2.trans (u3.trans u4))) ?_;rw[←e3,←e2]at h4;exact h4
theorem ok_Rooms___init__ (T:Txt K mg A):FnOk P w K mg base (CXw P w) 3 A.f_Rooms___init__ A.d_Rooms___init__ ["self","letters"] (spNew A.c_Rooms):=by
 have G_all_gaps:FnOk P w K mg base (CXw P w) 2 A.f_all_gaps A.d_all_gaps ["letters"] spGaps:=ok_all_gaps T;refine T.Rooms___init__.F.okN sc_Rooms___init__ (λvs H Q E h=>?_) (λcdv AA outer s H vs Q E hr h=>?_)
 ·obtain⟨x,dx,L,rfl,_⟩:=h;rfl
 ·obtain⟨x,dx,L,rfl,hx,hL1,hL2,k⟩:=h
  refine⟨_,(pss_cons (ps_fld (pv 0) (pv 1) rfl)
   (pss_cons (ps_fld (pv 0) pe_int rfl)
   (pss_cons (ps_fld (pv 0) (pe_lst pa_nil) rfl)
   (pss_cons (ps_fld (pv 0) (pe_lst (pa_cons pe_dnewK pa_nil)) rfl)
   (pss_cons (ps_fld (pv 0) (pe_lst (pa_cons (pe_call (G_all_gaps) (hr.mono (by decide)) rfl T.all_gaps.m T.all_gaps.F.kp T.all_gaps.b .nil passF (pa_cons (pv 1) pa_nil)) pa_nil)) rfl)
   (pss_cons (ps_fld (pv 0) (pe_lst (pa_cons pe_int pa_nil)) rfl)
   (pss_cons (ps_fld (pv 0) (pe_lst (pa_cons (pe_lst (pa_cons pe_int pa_nil)) pa_nil)) rfl)
   (pss_one (ps_fld (pv 0) (pe_lst pa_nil) rfl))))))))),?_⟩
  try dsimp only[cx_noxK,cx_K]
  refine seq_let7 ?_;intro u_7 u_6 u_5 u_4 u_3 u_2 u_1
  have st:∀{H0:Hp} {fs:List (Str×V)} {f:Str} {v:V},H0 x=some (.ins A.c_Rooms dx fs)->(∀b o,H b=some o->b≠x->H0 b=some o)->upd H0 x (.ins A.c_Rooms dx (putF f v fs)) x=some (.ins A.c_Rooms dx (putF f v fs))/\(∀b o,H b=some o->b≠x->upd H0 x (.ins A.c_Rooms dx (putF f v fs)) b=some o)/\∀b o,b≠x->H0 b=some o->upd H0 x (.ins A.c_Rooms dx (putF f v fs)) b=some o:=
   λ_ h=>⟨upd_same,λb o e n=>by rw[upd_ne n];exact h b o e n,λb o n e=>by rw[upd_ne n];exact e⟩
  refine⟨_,rfl,_,rfl,x,_,dx,_,rfl,hx,cl_Rooms T,T.n_letters,(by show 0<1000;decide),?_⟩;obtain⟨x1,o1,-⟩:=st (f:="letters") (v:=.int L) hx (λb o e _=>e);generalize upd H x (.ins A.c_Rooms dx (putF "letters" (.int L) []))=H1 at x1 o1 ⊢;have f1:(putF "letters" (.int L) ([]:List (Str×V))).length<=1:=putF_le (n:=0) (Nat.le_refl _);refine⟨_,rfl,x,_,dx,_,rfl,x1,cl_Rooms T,T.n_made,Nat.lt_of_le_of_lt f1 (by decide),?_⟩;obtain⟨x2,o2,-⟩:=st (f:="made") (v:=.int 1) x1 o1;have f2:=putF_le (f:="made") (v:=.int 1) f1;generalize e2:putF "made" (.int 1) (putF "letters" (.int L) [])=fs2 at x2 o2 f2 ⊢;generalize upd H1 x (.ins A.c_Rooms dx fs2)=H2 at x2 o2 ⊢;refine⟨Nat.zero_le _,λaR nR=>⟨_,rfl,x,_,dx,_,rfl,Same.upd nR _ _ x2,cl_Rooms T,T.n_rows,Nat.lt_of_le_of_lt f2 (by decide),?_⟩⟩;have hR3:upd H2 aR (.lst []) aR=some (.lst []):=upd_same;have nxR:aR≠x:=(ne_of_none x2 nR).symm;have s3:=Same.upd (o:=.lst []) nR
  have n0:∀{b:Addr} {H0:Hp},(∀c o,H c=some o->c≠x->H0 c=some o)->H0 b=none->b≠x->H b=none:=λ{b H0} h n nx=>by
   cases e:H b with
   |none=>rfl
   |some o=>rw[h b o e nx]at n;cases n
  have kR:=n0 o2 nR nxR;generalize upd H2 aR (.lst [])=H3 at hR3 s3 ⊢;obtain⟨x4,o4,k4⟩:=st (f:="rows") (v:=.ref aR) (s3 _ _ x2) (λb o e n=>s3 _ _ (o2 b o e n));have f4:=putF_le (f:="rows") (v:=.ref aR) f2;generalize e4:putF "rows" (.ref aR) fs2=fs4 at x4 o4 f4 k4 ⊢;have hR4:=k4 _ _ nxR hR3;generalize upd H3 x (.ins A.c_Rooms dx fs4)=H4 at x4 o4 hR4 ⊢;intro wd nwd;have nxwd:wd≠x:=(ne_of_none x4 nwd).symm;have kwd:=n0 o4 nwd nxwd;have s5:=Same.upd (o:=.dK []) nwd;have hwd5:upd H4 wd (.dK []) wd=some (.dK []):=upd_same;generalize upd H4 wd (.dK [])=H5 at s5 hwd5 ⊢;refine⟨(by show 1<=sizeLine;decide),λaW nW=>⟨_,rfl,x,_,dx,_,rfl,Same.upd nW _ _ (s5 _ _ x4),cl_Rooms T,T.n_ways,Nat.lt_of_le_of_lt f4 (by decide),?_⟩⟩;have nxW:aW≠x:=(ne_of_none (s5 _ _ x4) nW).symm;have kW:=n0 (λb o e n=>s5 _ _ (o4 b o e n)) nW nxW;have nWR:aW≠aR:=(ne_of_none (s5 _ _ hR4) nW).symm;have s6:=Same.upd (o:=.lst [.ref wd]) nW;have hW6:upd H5 aW (.lst [.ref wd]) aW=some (.lst [.ref wd]):=upd_same;generalize upd H5 aW (.lst [.ref wd])=H6 at s6 hW6 ⊢;obtain⟨x7,o7,k7⟩:=st (f:="ways") (v:=.ref aW) (s6 _ _ (s5 _ _ x4)) (λb o e n=>s6 _ _ (s5 _ _ (o4 b o e n)));have f7:=putF_le (f:="ways") (v:=.ref aW) f4;generalize e7:putF "ways" (.ref aW) fs4=fs7 at x7 o7 f7 k7 ⊢;have hR7:=k7 _ _ nxR (s6 _ _ (s5 _ _ hR4));have hW7:=k7 _ _ nxW hW6;have hwd7:=k7 _ _ nxwd (s6 _ _ hwd5);generalize upd H6 x (.ins A.c_Rooms dx fs7)=H7 at x7 o7 hR7 hW7 hwd7 ⊢;refine⟨_,rfl,L,rfl,hL1,hL2,λgd H8 s8 ngd hgd8=>?_⟩;have nxgd:gd≠x:=(ne_of_none x7 ngd).symm;have kgd:=n0 o7 ngd nxgd;have ngw:gd≠wd:=(ne_of_none hwd7 ngd).symm;refine⟨(by show 1<=sizeLine;decide),λaG nG=>⟨_,rfl,x,_,dx,_,rfl,Same.upd nG _ _ (s8 _ _ x7),cl_Rooms T,T.n_gaps,Nat.lt_of_le_of_lt f7 (by decide),?_⟩⟩;have nxG:aG≠x:=(ne_of_none (s8 _ _ x7) nG).symm;have kG:=n0 (λb o e n=>s8 _ _ (o7 b o e n)) nG nxG;have nGR:aG≠aR:=(ne_of_none (s8 _ _ hR7) nG).symm;have nGW:aG≠aW:=(ne_of_none (s8 _ _ hW7) nG).symm;have s9:=Same.upd (o:=.lst [.ref gd]) nG;have hG9:upd H8 aG (.lst [.ref gd]) aG=some (.lst [.ref gd]):=upd_same;generalize upd H8 aG (.lst [.ref gd])=H9 at s9 hG9 ⊢;obtain⟨x10,o10,k10⟩:=st (f:="gaps") (v:=.ref aG) (s9 _ _ (s8 _ _ x7)) (λb o e n=>s9 _ _ (s8 _ _ (o7 b o e n)));have f10:=putF_le (f:="gaps") (v:=.ref aG) f7;generalize e10:putF "gaps" (.ref aG) fs7=fs10 at x10 o10 f10 k10 ⊢;have hR10:=k10 _ _ nxR (s9 _ _ (s8 _ _ hR7));have hW10:=k10 _ _ nxW (s9 _ _ (s8 _ _ hW7));have hwd10:=k10 _ _ nxwd (s9 _ _ (s8 _ _ hwd7));have hG10:=k10 _ _ nxG hG9;have hgd10:=k10 _ _ nxgd (s9 _ _ hgd8);generalize upd H9 x (.ins A.c_Rooms dx fs10)=H10 at x10 o10 hR10 hW10 hwd10 hG10 hgd10 ⊢;refine⟨by decide,λaE nE=>⟨_,rfl,x,_,dx,_,rfl,Same.upd nE _ _ x10,cl_Rooms T,T.n_elders,Nat.lt_of_le_of_lt f10 (by decide),?_⟩⟩;have nxE:aE≠x:=(ne_of_none x10 nE).symm;have kE:=n0 o10 nE nxE;have nER:aE≠aR:=(ne_of_none hR10 nE).symm;have nEW:aE≠aW:=(ne_of_none hW10 nE).symm;have nEG:aE≠aG:=(ne_of_none hG10 nE).symm;have s11:=Same.upd (o:=.lst [.int 0]) nE;have hE11:upd H10 aE (.lst [.int 0]) aE=some (.lst [.int 0]):=upd_same;generalize upd H10 aE (.lst [.int 0])=H11 at s11 hE11 ⊢;obtain⟨x12,o12,k12⟩:=st (f:="elders") (v:=.ref aE) (s11 _ _ x10) (λb o e n=>s11 _ _ (o10 b o e n));have f12:=putF_le (f:="elders") (v:=.ref aE) f10;generalize e12:putF "elders" (.ref aE) fs10=fs12 at x12 o12 f12 k12 ⊢;have hR12:=k12 _ _ nxR (s11 _ _ hR10);have hW12:=k12 _ _ nxW (s11 _ _ hW10);have hwd12:=k12 _ _ nxwd (s11 _ _ hwd10);have hG12:=k12 _ _ nxG (s11 _ _ hG10);have hgd12:=k12 _ _ nxgd (s11 _ _ hgd10);have hE12:=k12 _ _ nxE hE11;generalize upd H11 x (.ins A.c_Rooms dx fs12)=H12 at x12 o12 hR12 hW12 hwd12 hG12 hgd12 hE12 ⊢;refine⟨by decide,λcl ncl=>⟨(by show 1<=sizeLine;decide),λaC nC=>⟨_,rfl,x,_,dx,_,rfl,Same.upd nC _ _ (Same.upd ncl _ _ x12),cl_Rooms T,T.n_called,Nat.lt_of_le_of_lt f12 (by decide),?_⟩⟩⟩;have nxcl:cl≠x:=(ne_of_none x12 ncl).symm;have kcl:=n0 o12 ncl nxcl;have ncR:cl≠aR:=(ne_of_none hR12 ncl).symm;have ncW:cl≠aW:=(ne_of_none hW12 ncl).symm;have ncG:cl≠aG:=(ne_of_none hG12 ncl).symm;have ncE:cl≠aE:=(ne_of_none hE12 ncl).symm;have s13:=Same.upd (o:=.lst [.int 0]) ncl;have hcl13:upd H12 cl (.lst [.int 0]) cl=some (.lst [.int 0]):=upd_same;generalize upd H12 cl (.lst [.int 0])=H13 at s13 hcl13 nC ⊢;have nxC:aC≠x:=(ne_of_none (s13 _ _ x12) nC).symm;have kC:=n0 (λb o e n=>s13 _ _ (o12 b o e n)) nC nxC;have nCR:aC≠aR:=(ne_of_none (s13 _ _ hR12) nC).symm;have nCW:aC≠aW:=(ne_of_none (s13 _ _ hW12) nC).symm;have nCG:aC≠aG:=(ne_of_none (s13 _ _ hG12) nC).symm;have nCE:aC≠aE:=(ne_of_none (s13 _ _ hE12) nC).symm;have nCc:aC≠cl:=(ne_of_none hcl13 nC).symm;have s14:=Same.upd (o:=.lst [.ref cl]) nC;have hC14:upd H13 aC (.lst [.ref cl]) aC=some (.lst [.ref cl]):=upd_same;generalize upd H13 aC (.lst [.ref cl])=H14 at s14 hC14 ⊢;obtain⟨x15,o15,k15⟩:=st (f:="called") (v:=.ref aC) (s14 _ _ (s13 _ _ x12)) (λb o e n=>s14 _ _ (s13 _ _ (o12 b o e n)));have f15:=putF_le (f:="called") (v:=.ref aC) f12;generalize e15:putF "called" (.ref aC) fs12=fs15 at x15 o15 f15 k15 ⊢;have hR15:=k15 _ _ nxR (s14 _ _ (s13 _ _ hR12));have hW15:=k15 _ _ nxW (s14 _ _ (s13 _ _ hW12));have hwd15:=k15 _ _ nxwd (s14 _ _ (s13 _ _ hwd12));have hG15:=k15 _ _ nxG (s14 _ _ (s13 _ _ hG12));have hgd15:=k15 _ _ nxgd (s14 _ _ (s13 _ _ hgd12));have hE15:=k15 _ _ nxE (s14 _ _ (s13 _ _ hE12));have hcl15:=k15 _ _ nxcl (s14 _ _ hcl13);have hC15:=k15 _ _ nxC hC14;generalize upd H14 x (.ins A.c_Rooms dx fs15)=H15 at x15 o15 hR15 hW15 hwd15 hG15 hgd15 hE15 hcl15 hC15 ⊢;refine⟨Nat.zero_le _,λaN nN=>⟨_,rfl,x,_,dx,_,rfl,Same.upd nN _ _ x15,cl_Rooms T,T.n_went,Nat.lt_of_le_of_lt f15 (by decide),?_⟩⟩;have nxN:aN≠x:=(ne_of_none x15 nN).symm;have kN:=n0 o15 nN nxN;have nNR:aN≠aR:=(ne_of_none hR15 nN).symm;have nNW:aN≠aW:=(ne_of_none hW15 nN).symm;have nNG:aN≠aG:=(ne_of_none hG15 nN).symm;have nNE:aN≠aE:=(ne_of_none hE15 nN).symm;have nNC:aN≠aC:=(ne_of_none hC15 nN).symm;have nNc:aN≠cl:=(ne_of_none hcl15 nN).symm;have s16:=Same.upd (o:=.lst []) nN;have hN16:upd H15 aN (.lst []) aN=some (.lst []):=upd_same;generalize upd H15 aN (.lst [])=H16 at s16 hN16 ⊢;obtain⟨x17,o17,k17⟩:=st (f:="went") (v:=.ref aN) (s16 _ _ x15) (λb o e n=>s16 _ _ (o15 b o e n))
  have ef:putF "went" (.ref aN) fs15=flds (L:Int) 1 ⟨dx,aR,aW,aG,aE,aC,aN,[],[wd],[gd],[cl]⟩:=by
   rw[←e15,←e12,←e10,←e7,←e4,←e2]
   kernel_rfl
  rw[ef]at x17 o17 k17 ⊢;refine k ⟨dx,aR,aW,aG,aE,aC,aN,[],[wd],[gd],[cl]⟩ _ o17 ⟨x17,k17 _ _ nxR (s16 _ _ hR15),k17 _ _ nxW (s16 _ _ hW15),k17 _ _ nxG (s16 _ _ hG15),k17 _ _ nxE (s16 _ _ hE15),k17 _ _ nxC (s16 _ _ hC15),k17 _ _ nxN hN16,⟨rfl,(λi p d h=>by simp at h)⟩,?_,?_,?_,(λd hd=>by cases hd),?_,?_⟩ ?_
  ·exact Each.snoc (ps:=[]) (xs:=[]) ⟨rfl,λi p d h=>by simp at h⟩ (k17 _ _ nxwd (s16 _ _ hwd15))
  ·exact Each.snoc (ps:=[]) (xs:=[]) ⟨rfl,λi p d h=>by simp at h⟩ (k17 _ _ nxgd (s16 _ _ hgd15))
  ·exact Each.snoc (ps:=[]) (xs:=[]) ⟨rfl,λi p d h=>by simp at h⟩ (k17 _ _ nxcl (s16 _ _ hcl15))
  ·show [aR,aW,aG,aE,aC,aN,cl].Nodup;simp only[List.nodup_cons,List.mem_cons,List.not_mem_nil,or_false,not_or,List.nodup_nil,and_true,not_false_eq_true];exact⟨⟨nWR.symm,nGR.symm,nER.symm,nCR.symm,nNR.symm,ncR.symm⟩,⟨nGW.symm,nEW.symm,nCW.symm,nNW.symm,ncW.symm⟩,⟨nEG.symm,nCG.symm,nNG.symm,ncG.symm⟩,⟨nCE.symm,nNE.symm,ncE.symm⟩,⟨nNC.symm,nCc⟩,nNc⟩
  ·show [wd,gd].Nodup;simp only[List.nodup_cons,List.mem_cons,List.not_mem_nil,or_false,List.nodup_nil,and_true,not_false_eq_true];exact ngw.symm
  ·intro b hb;rcases hb with rfl|hb|hb
   ·exact .inl rfl
   ·simp only[RA.lists,List.mem_cons,List.not_mem_nil,or_false]at hb;rcases hb with rfl|rfl|rfl|rfl|rfl|rfl|rfl <;> exact .inr (by assumption)
   ·simp only[RA.dicts,List.mem_append,List.mem_cons,List.not_mem_nil,or_false]at hb;rcases hb with rfl|rfl <;> exact .inr (by assumption)
theorem _root_.L2.RoomsAt.mkL {C:Addr}{H:Hp}{r:Addr}{S:RS}{a:RA}(h:RoomsAt C H r S a){p:Addr}(hp:H p=none):¬a.own r p:=λz=>by
 obtain⟨o,e⟩:=h.there z;rw[hp]at e;cases e
theorem ok_Rooms_make (T:Txt K mg A):FnOk P w K mg base (CXw P w) 3 A.f_Rooms_make A.d_Rooms_make ["self","room","step"] (spMake A.c_Rooms):=by
 have G_Rooms_keep:FnOk P w K mg base (CXw P w) 1 A.f_Rooms_keep A.d_Rooms_keep ["self","room","step","other"] (spKeep A.c_Rooms):=ok_Rooms_keep T;have G_all_gaps:FnOk P w K mg base (CXw P w) 2 A.f_all_gaps A.d_all_gaps ["letters"] spGaps:=ok_all_gaps T;refine T.Rooms_make.F.okN sc_Rooms_make (λvs H Q E h=>?_) (λcdv AA outer s H vs Q E hr h=>?_)
 ·obtain⟨r,S,a,c,z,rfl,_⟩:=h;rfl
 ·obtain⟨r,S,a,c,z,rfl,h,hw,hL1,hL2,hc,hm,hrl,hz,k⟩:=h
  refine⟨_,(pss_cons (ps_set (i:=3) sc_Rooms_make.nd rfl (Or.inl rfl) (pe_fld (pv 0) rfl))
   (pss_cons (ps_fld (pv 0) (pe_op op_add (pv 3) pe_int) rfl)
   (pss_cons (ps_expr (pe_bm PySem.F.plainAttrs_list PySem.F.slot_list_append PySem.F.type_list_append mt_append (pe_fld (pv 0) rfl) (pa_cons (pe_tup (pa_cons (pe_strX (l:=[110,101,119]) rfl) (pa_cons (pv 1) (pa_cons (pv 2) (pa_cons (pv 3) pa_nil))))) pa_nil)))
   (pss_cons (ps_expr (pe_bm PySem.F.plainAttrs_list PySem.F.slot_list_append PySem.F.type_list_append mt_append (pe_fld (pv 0) rfl) (pa_cons pe_dnewK pa_nil)))
   (pss_cons (ps_expr (pe_bm PySem.F.plainAttrs_list PySem.F.slot_list_append PySem.F.type_list_append mt_append (pe_fld (pv 0) rfl) (pa_cons (pe_call (G_all_gaps) (hr.mono (by decide)) rfl T.all_gaps.m T.all_gaps.F.kp T.all_gaps.b .nil passF (pa_cons (pe_fld (pv 0) rfl) pa_nil)) pa_nil)))
   (pss_cons (ps_expr (pe_bm PySem.F.plainAttrs_list PySem.F.slot_list_append PySem.F.type_list_append mt_append (pe_fld (pv 0) rfl) (pa_cons (pv 3) pa_nil)))
   (pss_cons (ps_expr (pe_bm PySem.F.plainAttrs_list PySem.F.slot_list_append PySem.F.type_list_append mt_append (pe_fld (pv 0) rfl) (pa_cons (pe_lst (pa_cons (pv 3) pa_nil)) pa_nil)))
   (pss_cons (ps_expr (pe_meth (pv 0) (cl_Rooms T) T.Rooms_keep.m (G_Rooms_keep) (hr.mono (by decide)) T.Rooms_keep.b .nil passF (pa_cons (pv 1) (pa_cons (pv 2) (pa_cons (pv 3) pa_nil)))))
   (pss_one (ps_ret (pv 3))))))))))),?_⟩
  try dsimp only[cx_noxK,cx_K]
  refine seq_let8 ?_;intro u_8 u_7 u_6 u_5 u_4 u_3 u_2 u_1;refine⟨_,rfl,r,_,a.dx,_,_,rfl,h.ins,cl_Rooms T,T.n_made,lk_made _ _ _,?_⟩;refine⟨_,rfl,_,_,rfl,rfl,_,rfl,r,_,a.dx,_,rfl,h.ins,cl_Rooms T,T.n_made,(by show 8<1000;decide),?_⟩;rw[putF_made,show (S.made:Int)+ 1=((S.made+ 1:Nat):Int) by omega];have h1:=h.setMade (S.made+ 1);have u1:ButO a r H (upd H r (.ins A.c_Rooms a.dx (flds S.L ((S.made+ 1:Nat):Int) a))):=ButO.upd (.inl rfl);generalize upd H r (.ins A.c_Rooms a.dx (flds S.L ((S.made+ 1:Nat):Int) a))=H1 at h1 u1 ⊢;have lR:(a.rs.map V.ref).length<sizeLine:=by rw[List.length_map,h.rR.1];exact Nat.lt_of_le_of_lt hrl (by decide)
  refine⟨_,rfl,r,_,a.dx,_,_,rfl,h1.ins,cl_Rooms T,T.n_rows,lk_rows _ _ _,.inl ⟨rfl,_,SqL.of h1.hR⟩,_,rfl,_,rfl,_,rfl,(by show 4<=sizeLine;decide),λt ht=>⟨a.aR,_,_,rfl,rfl,Same.upd ht _ _ h1.hR,lR,?_⟩⟩;have s2:=Same.upd (o:=.tup [.str (tx [110,101,119]),.int c,.int z,.int S.made]) ht;have ht2:upd H1 t (.tup [.str (tx [110,101,119]),.int c,.int z,.int S.made]) t=some (.tup [.str (tx [110,101,119]),.int c,.int z,.int S.made]):=upd_same;generalize upd H1 t (.tup [.str (tx [110,101,119]),.int c,.int z,.int S.made])=H2 at s2 ht2 ⊢
  have hd2:DtAt H2 4 (.ref t) (rowNew c z S.made):=by
   refine .t ht2 rfl λj v d e1 e2=>?_
   rcases j with _|_|_|_|j
   ·simp at e1 e2;subst e1 e2;exact .s
   ·simp at e1 e2;subst e1 e2;exact .i
   ·simp at e1 e2;subst e1 e2;exact .i
   ·simp at e1 e2;subst e1 e2;exact .i
   ·simp at e1
  have nl:NoL (rowNew c z S.made):=.t (by show 4<=100000;decide) λd hd=>by
   simp only[List.mem_cons,List.not_mem_nil,or_false]at hd;rcases hd with rfl|rfl|rfl|rfl
   ·exact .s
   ·exact .i
   ·exact .i
   ·exact .i
  have h3:=(h1.same s2).addRow hd2 nl;have u3:ButO a r H2 (upd H2 a.aR (.lst (a.rs.map V.ref++[.ref t]))):=ButO.upd (.inr (.inl mem_R));generalize upd H2 a.aR (.lst (a.rs.map V.ref++[.ref t]))=H3 at h3 u3 ⊢;generalize ea3:({ a with rs:=a.rs++[t] }:RA)=a3 at h3;have own3:∀b,a3.own r b->a.own r b:=λb hb=>by rw[←ea3]at hb;exact hb
  have own3':∀b,a.own r b->a3.own r b:=λb hb=>by rw[←ea3];exact hb
  have ewG:a3.dx=a.dx:=by rw[←ea3]
  have U3:ButO a r H H3:=u1.trans (λb o hb e=>u3 b o hb (s2 _ _ e));refine⟨_,rfl,r,_,a3.dx,_,_,rfl,h3.ins,cl_Rooms T,T.n_ways,lk_ways _ _ _,.inl ⟨rfl,_,SqL.of h3.hW⟩,?_⟩;intro wd nwd;have hdW:(a3.ws.map V.ref).length<sizeLine:=by rw[List.length_map,h3.rW.1];show S.ways.length<sizeLine;rw[hw.w];exact Nat.lt_of_le_of_lt hm (by decide)
  have s4:=Same.upd (o:=.dK []) nwd;have hwd4:upd H3 wd (.dK []) wd=some (.dK (wK [])):=upd_same;have nwd0:=h3.mkL nwd;refine⟨a3.aW,_,_,rfl,rfl,s4 _ _ h3.hW,hdW,?_⟩;generalize upd H3 wd (.dK [])=H4 at s4 hwd4 ⊢;have h5:=(h3.same s4).addWay hwd4 (λz=>nwd0 (.inr (.inr z)));have u5:ButO a3 r H4 (upd H4 a3.aW (.lst (a3.ws.map V.ref++[.ref wd]))):=ButO.upd (.inr (.inl mem_W));generalize upd H4 a3.aW (.lst (a3.ws.map V.ref++[.ref wd]))=H5 at h5 u5 ⊢;generalize ea5:({ a3 with ws:=a3.ws++[wd] }:RA)=a5 at h5
  have own5:∀b,a5.own r b->a3.own r b\/b=wd:=λb hb=>by
   rw[←ea5]at hb;rcases hb with hb|hb|hb
   ·exact .inl (.inl hb)
   ·exact .inl (.inr (.inl hb))
   ·simp only[RA.dicts,List.mem_append,List.mem_singleton]at hb;rcases hb with (hb|hb)|hb
    ·exact .inl (.inr (.inr (List.mem_append_left _ hb)))
    ·exact .inr hb
    ·exact .inl (.inr (.inr (List.mem_append_right _ hb)))
  have kwd:H wd=none\/a.own r wd:=by
   by_cases ho:a.own r wd
   ·exact .inr ho
   ·refine .inl ?_
    cases e:H wd with
    |none=>rfl
    |some o=>rw[U3 wd o ho e]at nwd;cases nwd
  have U5:ButO a r H H5:=U3.trans λb o hb e=>u5 b o (λz=>hb (own3 b z)) (s4 _ _ e)
  refine⟨_,rfl,r,_,a5.dx,_,_,rfl,h5.ins,cl_Rooms T,T.n_gaps,lk_gaps _ _ _,.inl ⟨rfl,_,SqL.of h5.hG⟩,_,rfl,r,_,a5.dx,_,_,rfl,h5.ins,cl_Rooms T,T.n_letters,lk_letters _ _ _,S.L,rfl,hL1,hL2,λgd H6 s6 ngd hgd6=>?_⟩;have hdG:(a5.gs.map V.ref).length<sizeLine:=by rw[List.length_map,h5.rG.1];show S.gaps.length<sizeLine;rw[hw.g];exact Nat.lt_of_le_of_lt hm (by decide)
  have h6:=h5.same s6;have ngd0:=h5.mkL ngd;refine⟨a5.aG,_,_,rfl,rfl,h6.hG,hdG,?_⟩;have h7:=h6.addGap hgd6 (λz=>ngd0 (.inr (.inr z)));have u7:ButO a5 r H6 (upd H6 a5.aG (.lst (a5.gs.map V.ref++[.ref gd]))):=ButO.upd (.inr (.inl mem_G));generalize upd H6 a5.aG (.lst (a5.gs.map V.ref++[.ref gd]))=H7 at h7 u7 ⊢;generalize ea7:({ a5 with gs:=a5.gs++[gd] }:RA)=a7 at h7
  have own7:∀b,a7.own r b->a5.own r b\/b=gd:=λb hb=>by
   rw[←ea7]at hb;rcases hb with hb|hb|hb
   ·exact .inl (.inl hb)
   ·exact .inl (.inr (.inl hb))
   ·simp only[RA.dicts,List.mem_append,List.mem_singleton]at hb;rcases hb with hb|hb|hb
    ·exact .inl (.inr (.inr (List.mem_append_left _ hb)))
    ·exact .inl (.inr (.inr (List.mem_append_right _ hb)))
    ·exact .inr hb
  have w5:H wd=none\/a.own r wd:=kwd
  have out5:∀b o,¬a.own r b->H b=some o->¬a5.own r b:=λb o hb e z=>by
   rcases own5 b z with z|rfl
   ·exact hb (own3 b z)
   ·rcases kwd with q|q
    ·rw[q]at e;cases e
    ·exact hb q
  have U7:ButO a r H H7:=λb o hb e=>u7 b o (out5 b o hb e) (s6 _ _ (U5 b o hb e))
  have kgd:H gd=none\/a.own r gd:=by
   by_cases ho:a.own r gd
   ·exact .inr ho
   ·refine .inl ?_
    cases e:H gd with
    |none=>rfl
    |some o=>rw[U5 gd o ho e]at ngd;cases ngd
  refine⟨_,rfl,r,_,a7.dx,_,_,rfl,h7.ins,cl_Rooms T,T.n_elders,lk_elders _ _ _,.inl ⟨rfl,_,SqL.of h7.hE⟩,_,rfl,a7.aE,_,_,rfl,rfl,h7.hE,?_,?_⟩
  ·rw[ints_len,nI_len];show S.elders.length<sizeLine;rw[hw.e];exact Nat.lt_of_le_of_lt hm (by decide)
  have eE:intV (nI S.elders)++[V.int (S.made:Int)]=intV (nI (S.elders++[S.made])):=by rw[nI_app,ints_app];rfl
  show _;have h8:=h7.setElders (S.elders++[S.made]);rw[←eE]at h8;have u8:ButO a7 r H7 (upd H7 a7.aE (.lst (intV (nI S.elders)++[V.int (S.made:Int)]))):=ButO.upd (.inr (.inl mem_E));generalize upd H7 a7.aE (.lst (intV (nI S.elders)++[V.int (S.made:Int)]))=H8 at h8 u8 ⊢
  have out7:∀b o,¬a.own r b->H b=some o->¬a7.own r b:=λb o hb e z=>by
   rcases own7 b z with z|rfl
   ·exact out5 b o hb e z
   ·rcases kgd with q|q
    ·rw[q]at e;cases e
    ·exact hb q
  have U8:ButO a r H H8:=λb o hb e=>u8 b o (out7 b o hb e) (U7 b o hb e)
  refine⟨_,rfl,r,_,a7.dx,_,_,rfl,h8.ins,cl_Rooms T,T.n_called,lk_called _ _ _,.inl ⟨rfl,_,SqL.of h8.hC⟩,_,rfl,(by show 1<=sizeLine;decide),λcl ncl=>⟨a7.aC,_,_,rfl,rfl,Same.upd ncl _ _ h8.hC,?_,?_⟩⟩
  ·rw[List.length_map,h8.rC.1];show S.called.length<sizeLine;rw[hw.c];exact Nat.lt_of_le_of_lt hm (by decide)
  have s9:=Same.upd (o:=.lst [.int (S.made:Int)]) ncl;have hcl9:upd H8 cl (.lst [.int (S.made:Int)]) cl=some (.lst (intV (nI [S.made]))):=upd_same;have ncl0:=h8.mkL ncl;generalize upd H8 cl (.lst [.int (S.made:Int)])=H9 at s9 hcl9 ⊢;have h10:=(h8.same s9).addCalled hcl9 (λz=>ncl0 (.inr (.inl z)));have u10:ButO a7 r H9 (upd H9 a7.aC (.lst (a7.cs.map V.ref++[.ref cl]))):=ButO.upd (.inr (.inl mem_C));generalize upd H9 a7.aC (.lst (a7.cs.map V.ref++[.ref cl]))=H10 at h10 u10 ⊢;generalize ea10:({ a7 with cs:=a7.cs++[cl] }:RA)=a10 at h10
  have own10:∀b,a10.own r b->a7.own r b\/b=cl:=λb hb=>by
   rw[←ea10]at hb;rcases hb with hb|hb|hb
   ·exact .inl (.inl hb)
   ·have hb':b∈a7.lists++[cl]:=hb;rcases List.mem_append.mp hb' with hb|hb
    ·exact .inl (.inr (.inl hb))
    ·exact .inr (List.mem_singleton.mp hb)
   ·exact .inl (.inr (.inr hb))
  have kcl:H cl=none\/a.own r cl:=by
   by_cases ho:a.own r cl
   ·exact .inr ho
   ·refine .inl ?_
    cases e:H cl with
    |none=>rfl
    |some o=>rw[U8 cl o ho e]at ncl;cases ncl
  have out10:∀b o,¬a.own r b->H b=some o->¬a10.own r b:=λb o hb e z=>by
   rcases own10 b z with z|rfl
   ·exact out7 b o hb e z
   ·rcases kcl with q|q
    ·rw[q]at e;cases e
    ·exact hb q
  have U10:ButO a r H H10:=λb o hb e=>u10 b o (out7 b o hb e) (s9 _ _ (U8 b o hb e))
  have hS:RoomsAt A.c_Rooms H10 r (S.grown c z (stL (2* S.L))) a10:=h10;refine⟨_,rfl,r,a10.dx,_,rfl,hS.ins,lk_none _ _ _ (by decide +kernel),_,rfl,_,rfl,_,rfl,r,S.grown c z (stL (2* S.L)),a10,c,S.made,z,rfl,hS,⟨?_,?_,?_,?_⟩,?_,?_,?_,λH11 u11 h11=>?_⟩
  ·show (S.ways++[[]]).length=S.made+ 1;rw[List.length_append,hw.w];rfl
  ·show (S.gaps++[_]).length=S.made+ 1;rw[List.length_append,hw.g];rfl
  ·show (S.elders++[_]).length=S.made+ 1;rw[List.length_append,hw.e];rfl
  ·show (S.called++[_]).length=S.made+ 1;rw[List.length_append,hw.c];rfl
  ·show c<S.made+ 1;omega
  ·show S.made<S.made+ 1;omega
  ·intro l hl;rcases List.mem_append.mp hl with hl|hl
   ·exact hz l hl
   ·rw[List.mem_singleton.mp hl];exact Nat.zero_le _
  ·refine⟨_,rfl,k a10 H11 (λb o hb e=>u11 b o (out10 b o hb e) (U10 b o hb e)) h11 λb hb=>?_⟩;rcases own10 b hb with hb|rfl
   ·rcases own7 b hb with hb|rfl
    ·rcases own5 b hb with hb|rfl
     ·exact .inl (own3 b hb)
     ·exact kwd.symm
    ·exact kgd.symm
   ·exact kcl.symm
theorem ok_Rooms_standing (T:Txt K mg A):FnOk P w K mg base (CXw P w) 1 A.f_Rooms_standing A.d_Rooms_standing ["self"] (spStanding A.c_Rooms):=by
 refine T.Rooms_standing.F.okN sc_Rooms_standing (λvs H Q E h=>?_) (λcdv AA outer s H vs Q E hr h=>?_)
 ·obtain⟨r,S,a,rfl,_⟩:=h;rfl
 ·obtain⟨r,S,a,rfl,h,hw,hm,k⟩:=h;refine⟨_,(pss_one (ps_ret (pe_compIf (fns:=["self"]) (ixs:=[0]) (cl:=_) rfl (pi_range1 rfl T.z_range (pa_cons (pe_fld (pv 0) rfl) pa_nil)) (compScope1 rfl rfl (by decide +kernel) rfl (by decide +kernel) rfl (by decide +kernel) (by decide +kernel) rfl rfl rfl rfl) (λC s H ex=>(pt_cmpR op_eq (pe_ix (ix_listK (K:=K) rfl) (pe_fldK (K:=K) rfl (pv 1) rfl) (pv 0) (λ_ _=>rfl)) (pv 0) (nomark _))) (λC s H ex=>(pv 0))))),?_⟩
  try dsimp only[cx_noxK,cx_K]
  refine⟨_,rfl,r,_,a.dx,_,_,rfl,h.ins,cl_Rooms T,T.n_made,lk_made _ _ _,(S.made:Int),rfl,by omega,by omega,?_⟩;rw[Int.toNat_natCast];refine⟨λi m ys H2=>m=S.made - i/\i<=S.made/\ys=intV (nI ((List.range i).filter λc=>decide (S.elders[c]?=some c)))/\H2=H,⟨S.made,by simp,Nat.zero_le _,rfl,rfl⟩,?_⟩;rintro i m ys H2 ⟨rfl,hi,rfl,rfl⟩
  have hlen:(intV (nI ((List.range i).filter λc=>decide (S.elders[c]?=some c)))).length<=i:=by
   rw[ints_len,nI_len];exact Nat.le_trans (List.length_filter_le _ _) (by rw[List.length_range];exact Nat.le_refl _)
  by_cases hlt:i<S.made
  ·refine .inr ⟨hlt,?_,λx H3 hyl=>?_⟩
   ·exact Nat.lt_of_le_of_lt (Nat.le_trans hlen (show i<=100000 by omega)) (by decide)
   obtain⟨rfl,rfl⟩:=hyl;have he:S.elders[i]?=some (S.elders[i]'(by rw[hw.e];exact hlt)):=List.getElem?_eq_getElem _
   generalize S.elders[i]'(by rw[hw.e];exact hlt)=e at he;refine⟨_,rfl,r,_,a.dx,_,_,rfl,h.ins,cl_Rooms T,T.n_elders,lk_elders _ _ _,_,rfl,a.aE,_,_,_,rfl,rfl,SqL.of h.hE,(by rw[Int.zero_add];exact atI_nat (ints_at (nI_get he))),?_⟩;refine⟨_,rfl,rfl,_,rfl,?_⟩;by_cases hei:e=i
   ·subst hei;rw[show decide (V.int (e:Int)=V.int (0+ (e:Int)))=true from decide_eq_true (by rw[Int.zero_add])];refine⟨_,rfl,S.made - (e+ 1),by omega,rfl,hlt,?_,rfl⟩;rw[List.range_succ,List.filter_append,List.filter_cons_of_pos (by rw[he];exact decide_eq_true rfl),List.filter_nil,nI_app,ints_app,Int.zero_add];rfl
   ·rw[show decide (V.int (e:Int)=V.int (0+ (i:Int)))=false from decide_eq_false (λz=>hei (by injection z with z;omega))];refine⟨S.made - (i+ 1),by omega,rfl,hlt,?_,rfl⟩;rw[List.range_succ,List.filter_append,List.filter_cons_of_neg (by rw[he];intro z;exact hei (Option.some.inj (of_decide_eq_true z))),List.filter_nil,List.append_nil]
  ·have e:i=S.made:=by omega
   subst e;exact .inl ⟨Nat.le_refl _,Nat.le_trans hlen (Nat.le_trans hm (by decide)),λD hD=>k D hD⟩
theorem ok_Rooms_paper (T:Txt K mg A):FnOk P w K mg base (CXw P w) 4 A.f_Rooms_paper A.d_Rooms_paper ["self"] (spPaper 1 A.c_Rooms):=by
 have G_own:FnOk P w K mg base (CXw P w) 3 A.f_own A.d_own ["value"] (spOwn 1):=ok_own_v1 T;refine T.Rooms_paper.F.okN sc_Rooms_paper (λvs H Q E h=>?_) (λcdv AA outer s H vs Q E hr h=>?_)
 ·obtain⟨r,S,a,rfl,_⟩:=h;rfl
 ·obtain⟨r,S,a,rfl,h,hrl,hfl,k⟩:=h;refine⟨_,(pss_one (ps_ret (pe_comp (fns:=[]) (ixs:=[]) (cl:=[]) rfl (pi_list (pe_fld (pv 0) rfl)) (compScope0 (by decide +kernel) (by decide +kernel) rfl (by decide +kernel) rfl) (λC s H ex=>(pe_call (G_own) (hr.mono (by decide)) rfl T.own.m T.own.F.kp T.own.b .nil passF (pa_cons (pv 0) pa_nil)))))),?_⟩
  try dsimp only[cx_noxK,cx_K]
  refine⟨_,rfl,r,_,a.dx,_,_,rfl,h.ins,cl_Rooms T,T.n_rows,lk_rows _ _ _,a.aR,rfl,⟨_,SqL.of h.hR⟩,?_⟩;have hl0:(a.rs.map V.ref).length=S.rows.length:=by rw[List.length_map,h.rR.1]
  have hri:∀i,i<S.rows.length->∃p d,a.rs[i]?=some p/\S.rows[i]?=some d/\d∈S.rows/\DtAt H 4 (.ref p) d:=λi hi=>by
   have hd:=List.getElem?_eq_getElem hi;obtain⟨p,hp,q⟩:=h.rR.at hd;exact⟨p,_,hp,hd,List.mem_of_getElem? hd,q⟩
  refine comp_make (α:=Unit) S.rows.length (λi=>(a.rs.map V.ref).getD i .non) (λH2 v i=>∃p d,v=.ref p/\S.rows[i]?=some d/\NoL d/\DtAt H2 4 (.ref p) d) (λH1 H2 v i s ⟨p,x,e,e2,hn,q⟩=>⟨p,x,e,e2,hn,q.same s⟩) ?_ (λi H2 s2 hi=>itl_go (SqL.of (s2 _ _ h.hR)) i (by omega)) (λi x H2 H3 s2 hi y=>?_) (λH2 s2=>?_) (λi H2 Rr hi s2 kk=>?_) (λD H2 ys s2 hD hl hr=>?_)
  ·exact Nat.le_trans hrl (by decide)
  ·obtain⟨e,hx⟩:=itl_yld (SqL.of (s2 _ _ h.hR)) i x H3 (by omega) y;refine⟨e,?_⟩;rw[List.getD_eq_getElem?_getD,hx];rfl
  ·have:=itl_stop (SqL.of (K:=K) (s2 _ _ h.hR));rw[hl0]at this;exact this
  ·obtain⟨p,d,hp,hd,hm,q⟩:=hri i hi;have hx:(a.rs.map V.ref).getD i .non=.ref p:=by rw[List.getD_eq_getElem?_getD,List.getElem?_map,hp];rfl
   have q1:=(hfl p d hm q).same s2;rw[hx];refine⟨_,rfl,.ref p,d,rfl,q1,h.flat d hm,λv' H' s' q'=>?_⟩
   have:∃p',v'=.ref p':=by
    have hd':∃ds,d=.t ds:=by
     cases q with
     |t=>exact⟨_,rfl⟩
     |l=>exact absurd (h.flat _ hm) (λz=>by cases z)
    obtain⟨ds,rfl⟩:=hd'
    cases q' with
    |t=>exact⟨_,rfl⟩
   obtain⟨p',rfl⟩:=this;exact kk _ H' s' ⟨p',d,rfl,hd,h.flat d hm,q'.le (by decide)⟩
  ·obtain⟨ps,rfl,hps⟩:=refs_of (P:=λi p=>∃d,S.rows[i]?=some d/\DtAt H2 4 (.ref p) d) ys 0 (λi v hv=>by
    obtain⟨p,d,e,e2,-,q⟩:=hr i v hv;rw[Nat.zero_add];exact⟨p,e,d,e2,q⟩)
   have sD:Same H2 (upd H2 D (.lst (ps.map V.ref))):=Same.upd hD;rw[List.length_map]at hl;refine k D ps _ (s2.trans sD) (s2.free hD) upd_same ⟨hl,λi p d e1 e2=>?_⟩;obtain⟨d',e3,q⟩:=hps i p e1;rw[Nat.zero_add]at e3;obtain rfl:d'=d:=Option.some.inj (e3.symm.trans e2);exact q.same sD
def PendAt (H:Hp)(p:Addr)(pend:List Way):Prop:=∃qs:List Addr,H p=some (.lst (qs.map V.ref))/\Each (λq (w:Way)=>H q=some (.tup [.int (w.1:Int),.int w.2.1,.int (w.2.2:Int)])) qs pend
def ButP (a:RA)(r p:Addr)(H H':Hp):Prop:=∀b o,¬a.own r b->b≠p->H b=some o->H' b=some o
theorem PendAt.keep {H H':Hp}{p:Addr}{pend:List Way}(h:PendAt H p pend)(k:∀o,H p=some o->H' p=some o)(kt:∀b xs,H b=some (.tup xs)->H' b=some (.tup xs)):PendAt H' p pend:=by
 obtain⟨qs,h1,h2⟩:=h;exact⟨qs,k _ h1,h2.imp λq w _ _ e=>kt _ _ e⟩
structure Small (S:RS):Prop where
 m:S.made<=100000
 w:∀l∈S.ways,l.length<=100000
 r:S.rows.length<=1000000
 n:S.went.length<=1000000
 c:∀l∈S.called,l.length<=1000000
def spPutOff (C:Addr):Sp:=λvs H Q _=>∃(r p:Addr) (S:RS) (a:RA) (c:Nat) (pend:List Way),vs=[.ref r,.int c,.ref p]/\RoomsAt C H r S a/\S.Wf/\c<S.made/\OffOk S c/\(∀l∈S.ways,l.length<=100000)/\PendAt H p pend/\¬a.own r p/\pend.length<=1000000/\∀a' H',ButP a r p H H'->RoomsAt C H' r (S.putOff c pend).1 a'->PendAt H' p (S.putOff c pend).2->(∀b,a'.own r b->a.own r b\/H b=none)->Q .non H'
def spPutTo (C:Addr):Sp:=λvs H Q _=>∃(r p:Addr) (S:RS) (a:RA) (c x y:Nat) (z:Int) (pend:List Way),vs=[.ref r,.int c,.int z,.int x,.int y,.ref p]/\RoomsAt C H r S a/\S.Wf/\x<S.made/\y<S.made/\x≠y/\OffOk S (max x y)/\(∀n∈S.cal (max x y),n<S.made)/\Small S/\PendAt H p pend/\¬a.own r p/\pend.length<=1000000/\∀a' H',ButP a r p H H'->RoomsAt C H' r (S.meet c z x y pend).1 a'->PendAt H' p (S.meet c z x y pend).2->(∀b,a'.own r b->a.own r b\/H b=none)->Q .non H'
structure TakeOk (S:RS):Prop where
 wf:S.Wf
 el:∀c,c<S.made->S.eld c<S.made
 bl:∀c z d,S.by c z=some d->d<S.made
 cl:∀c,∀n∈S.cal c,n<S.made
 off:∀c,c<S.made->OffOk S c
 sm:Small S
def spTakeIn (C:Addr):Sp:=λvs H Q _=>∃(r t p:Addr) (S:RS) (a:RA) (w:Way) (pend:List Way),vs=[.ref r,.ref t,.ref p]/\RoomsAt C H r S a/\H t=some (.tup [.int (w.1:Int),.int w.2.1,.int (w.2.2:Int)])/\TakeOk S/\w.1<S.made/\w.2.2<S.made/\PendAt H p pend/\¬a.own r p/\pend.length<=1000000/\∀a' H',ButP a r p H H'->RoomsAt C H' r (S.takeIn pend w).1 a'->PendAt H' p (S.takeIn pend w).2->(∀b,a'.own r b->a.own r b\/H b=none)->Q .non H'
def spLay (C:Addr):Sp:=λvs H Q _=>∃(r q:Addr) (S:RS) (a:RA) (c d:Nat) (z:Int) (row:Dt) (I:RS->List Way->Prop) (μ:RS->List Way->Nat),vs=[.ref r,.int c,.int z,.int d,.ref q]/\RoomsAt C H r S a/\S.rows.length<=1000000/\DtAt H 1 (.ref q) row/\NoL row/\
 I { S with rows:=S.rows++[row] } [(c,z,d)]/\(∀S pend w,I S (pend++[w])->TakeOk S/\w.1<S.made/\w.2.2<S.made/\pend.length<=1000000/\I (S.takeIn pend w).1 (S.takeIn pend w).2/\μ (S.takeIn pend w).1 (S.takeIn pend w).2 < μ S (pend++[w]))/\
 ∀S' a' H',ButO a r H H'->RoomsAt C H' r S' a'->I S' []->(∀b,a'.own r b->a.own r b\/H b=none)->Q .non H'
theorem ixN_nat {n i:Nat}(h:i<n):ixN n (i:Int)=some i:=by
 unfold ixN;rw[if_pos (by omega),if_pos (by omega),Int.toNat_natCast]
theorem getW_mem {l:List (Int×Nat)}(nd:(l.map (·.1)).Nodup){q:Int×Nat}(h:q∈l):getW l q.1=some q.2:=by
 induction l with
 |nil=>cases h
 |cons p l ih=>
  unfold getW;rw[List.map_cons,List.nodup_cons]at nd;by_cases e:p.1=q.1
  ·rw[List.find?_cons_of_pos (by exact decide_eq_true e)];rcases List.mem_cons.mp h with rfl|h
   ·rfl
   ·exact absurd (by rw[e];exact List.mem_map_of_mem h) nd.1
  ·rw[List.find?_cons_of_neg (by simpa using e)];rcases List.mem_cons.mp h with rfl|h
   ·exact absurd rfl e
   ·exact ih nd.2 h
theorem ok_Rooms_put_off (T:Txt K mg A):FnOk P w K mg base (CXw P w) 1 A.f_Rooms_put_off A.d_Rooms_put_off ["self","room","pending"] (spPutOff A.c_Rooms):=by
 refine T.Rooms_put_off.F.okN sc_Rooms_put_off (λvs H Q E h=>?_) (λcdv AA outer s H vs Q E hr h=>?_)
 ·obtain⟨r,p,S,a,c,pend,rfl,_⟩:=h;rfl
 ·obtain⟨r,p,S,a,c,pend,rfl,h,hw,hc,ok,sm,hP,np,hpl,k⟩:=h;have hu2:=hu_of hr
  refine⟨_,(pss_cons (ps_set (i:=3) sc_Rooms_put_off.nd rfl (Or.inl rfl) (pe_ix ix_list (pe_fld (pv 0) rfl) (pv 1) (λ_ _=>rfl)))
   (pss_cons (ps_asg pe_dnewK (pg_sub (pe_fld (pv 0) rfl) (pv 1) set_list))
   (pss_one (ps_for PassesOwn.never rfl (pi_list (pe_callTy (call_list_dK rfl) rfl T.z_list PyProof.Rows.boot_list (pa_cons (pv 3) pa_nil))) (pg_name (i:=4) sc_Rooms_put_off.nd rfl (Or.inl rfl))
    (pss_cons (ps_set (i:=5) sc_Rooms_put_off.nd rfl (Or.inl rfl) (pe_dget hu2 (pv 3) (pv 4) (λ_ _=>rfl)))
    (pss_cons (ps_cut (ps_if (pt_cmpR op_ne (pv 5) (pv 1) (nomark _))
     (pss_one (ps_expr (pe_dpop1 (pe_ix ix_list (pe_fld (pv 0) rfl) (pv 5) (λ_ _=>rfl)) (pe_un un_neg (pv 4)) ⟨rfl,rfl,rfl,rfl⟩)))
     pss_nil))
    (pss_one (ps_expr (pe_bm PySem.F.plainAttrs_list PySem.F.slot_list_append PySem.F.type_list_append mt_append (pv 2) (pa_cons (pe_tup (pa_cons (pv 1) (pa_cons (pv 4) (pa_cons (pv 5) pa_nil)))) pa_nil)))))))))),?_⟩
  try dsimp only[cx_noxK,cx_K]
  refine seq_let2 ?_;intro u_2 u_1;have hcw:c<S.ways.length:=by rw[hw.w];exact hc
  obtain⟨wd,hwd,hWD⟩:=h.rW.at (way_at hcw);have hl0:(S.way c).length<=100000:=way_le sm;refine⟨_,rfl,r,_,a.dx,_,_,rfl,h.ins,cl_Rooms T,T.n_ways,lk_ways _ _ _,_,rfl,a.aW,_,_,_,rfl,rfl,SqL.of h.hW,ref_at hwd,?_⟩;intro nd nnd;have s1:=Same.upd (o:=.dK []) nnd;have hnd1:upd H nd (.dK []) nd=some (.dK (wK [])):=upd_same;have nn:=h.mkL nnd;have nnp:nd≠p:=λz=>by obtain⟨qs,q1,_⟩:=hP;rw[←z,nnd]at q1;cases q1
  generalize upd H nd (.dK [])=H1 at s1 hnd1 ⊢;have h1:=h.same s1;have hi:c<a.ws.length:=by rw[h.rW.1];exact hcw
  refine⟨_,rfl,r,_,a.dx,_,_,rfl,h1.ins,cl_Rooms T,T.n_ways,lk_ways _ _ _,_,rfl,a.aW,_,_,c,rfl,rfl,h1.hW,ixN_nat (by rw[List.length_map];exact hi),?_⟩;have h2:=h1.newWay hi hnd1 (λz=>nn (.inr (.inr z)));have u2:∀b o,b≠a.aW->H1 b=some o->upd H1 a.aW (.lst ((a.ws.map V.ref).set c (.ref nd))) b=some o:=λb o nb e=>by rw[upd_ne nb];exact e
  generalize upd H1 a.aW (.lst ((a.ws.map V.ref).set c (.ref nd)))=H2 at h2 u2 ⊢;have npW:p≠a.aW:=λz=>np (.inr (.inl (by rw[z];exact mem_W)))
  have wdW:wd≠a.aW:=(h.ld mem_W (mem_ws (List.mem_of_getElem? hwd))).symm;have hwd2:H2 wd=some (.dK (wK (S.way c))):=u2 _ _ wdW (s1 _ _ hWD);generalize ea2:({ a with ws:=a.ws.set c nd }:RA)=a2 at h2;have h2':RoomsAt A.c_Rooms H2 r (offs c S pend []).1 a2:=h2
  have nwd2:¬a2.own r wd:=λz=>by
   rw[←ea2]at z;rcases z with z|z|z
   ·exact(h.rd (mem_ws (List.mem_of_getElem? hwd))) z.symm
   ·exact h.ld z (mem_ws (List.mem_of_getElem? hwd)) rfl
   ·have ndp:=List.nodup_append.mp h.ndD;have z':wd∈a.ws.set c nd++a.gs:=z;rcases List.mem_append.mp z' with z|z
    ·obtain⟨j,hj⟩:=List.getElem?_of_mem z;by_cases e:c=j
     ·subst e;rw[List.getElem?_set_self hi]at hj;have:nd=wd:=Option.some.inj hj;rw[this,hWD]at nnd;cases nnd
     ·rw[List.getElem?_set_ne e]at hj;exact e ((List.getElem?_inj hi ndp.1).mp (hwd.trans hj.symm))
    ·exact ndp.2.2 wd (List.mem_of_getElem? hwd) wd z rfl
  have own2:∀b,a2.own r b->a.own r b\/H b=none:=λb hb=>by
   rw[←ea2]at hb;rcases hb with hb|hb|hb
   ·exact .inl (.inl hb)
   ·exact .inl (.inr (.inl hb))
   ·have hb':b∈a.ws.set c nd++a.gs:=hb;rcases List.mem_append.mp hb' with hb|hb
    ·rcases List.mem_or_eq_of_mem_set hb with hb|rfl
     ·exact .inl (.inr (.inr (List.mem_append_left _ hb)))
     ·exact .inr nnd
    ·exact .inl (.inr (.inr (List.mem_append_right _ hb)))
  have np2:¬a2.own r p:=λz=>by
   rcases own2 p z with q|q
   ·exact np q
   ·obtain⟨qs,q1,_⟩:=hP;rw[q]at q1;cases q1
  have hP2:PendAt H2 p (offs c S pend []).2:=hP.keep (λo e=>u2 _ _ npW (s1 _ _ e)) (λb xs e=>u2 _ _ (h.tl e mem_W) (s1 _ _ e));have B2:ButP a r p H H2:=λb o nb _ e=>u2 _ _ (λz=>nb (.inr (.inl (by rw[z];exact mem_W)))) (s1 _ _ e)
  refine⟨_,rfl,wd,_,rfl,hwd2,λl nl=>?_⟩;have s3:=Same.upd (o:=.lst ((wK (S.way c)).map λkv=>kV kv.1)) nl;have hl3:upd H2 l (.lst ((wK (S.way c)).map λkv=>kV kv.1)) l=some (.lst ((wK (S.way c)).map λkv=>kV kv.1)):=upd_same;have nl2:=h2'.mkL nl;have nlp:l≠p:=λz=>by obtain⟨qs,q1,_⟩:=hP2;rw[←z,nl]at q1;cases q1
  have nlw:l≠wd:=λz=>by rw[z,hwd2]at nl;cases nl
  have nlH:H l=none\/a.own r l:=by
   by_cases ho:a.own r l
   ·exact .inr ho
   ·refine .inl ?_
    cases e:H l with
    |none=>rfl
    |some o=>rw[B2 l o ho nlp e]at nl;cases nl
  generalize upd H2 l (.lst ((wK (S.way c)).map λkv=>kV kv.1))=H3 at s3 hl3 ⊢;refine⟨l,rfl,⟨_,SqL.of hl3⟩,?_⟩;have hlen:((wK (S.way c)).map λkv=>kV kv.1).length=(S.way c).length:=by rw[List.length_map,wK_len]
  refine for_list (xs:=(wK (S.way c)).map λkv=>kV kv.1) (λi σ H4=>∃v4 v5,σ=[some (.ref r),some (.int (c:Int)),some (.ref p),some (.ref wd),v4,v5]/\RoomsAt A.c_Rooms H4 r (offs c S pend ((S.way c).take i)).1 a2/\PendAt H4 p (offs c S pend ((S.way c).take i)).2/\(∀b o,¬a2.own r b->b≠p->H3 b=some o->H4 b=some o)) ⟨none,none,rfl,h2'.same s3,hP2.keep (λo e=>s3 _ _ e) (λb xs e=>s3 _ _ e),λb o _ _ e=>e⟩ (λi σ H4 _ ⟨_,_,_,_,_,kk⟩=>SqL.of (kk _ _ nl2 nlp hl3)) ?_ ?_
  ·rintro i x σ H4 hx ⟨v4,v5,rfl,h4,hP4,kk⟩;have hi4:i<(S.way c).length:=by rw[←hlen];exact(List.getElem?_eq_some_iff.mp hx).1
   have hg:(S.way c)[i]?=some ((S.way c)[i]'hi4):=List.getElem?_eq_getElem hi4
   generalize (S.way c)[i]'hi4=w at hg
   have ex:x=.int w.1:=by
    unfold wK at hx;rw[List.getElem?_map,List.getElem?_map,hg]at hx;exact(Option.some.inj hx).symm
   subst ex;have hm:=List.mem_of_getElem? hg;have etk:(S.way c).take (i+ 1)=(S.way c).take i++[w]:=by rw[List.take_succ,hg];rfl
   have hwd4:H4 wd=some (.dK (wK (S.way c))):=kk _ _ nwd2 (λz=>by obtain⟨qs,q1,_⟩:=hP2;rw[←z,hwd2]at q1;cases q1) (s3 _ _ hwd2);have hv:valV (wK (S.way c)) (Sum.inl w.1)=some (.int (w.2:Int)):=by rw[wK_val,getW_mem ok.nd hm];rfl
   have hlt:=ok.lt w hm;have hol:=(offs_rest c S pend ((S.way c).take i)).1;refine⟨_,rfl,_,rfl,wd,_,rfl,(by have:=DGet.k (k:=Sum.inl w.1) hwd4;rw[hv]at this;exact this),?_⟩;refine⟨λ σ' H'=>σ'=[some (.ref r),some (.int (c:Int)),some (.ref p),some (.ref wd),some (.int w.1),some (.int (w.2:Int))]/\RoomsAt A.c_Rooms H' r (offs c S pend ((S.way c).take (i+ 1))).1 a2/\PendAt H' p (offs c S pend ((S.way c).take i)).2/\(∀b o,¬a2.own r b->b≠p->H3 b=some o->H' b=some o),?_,?_⟩
   ·refine⟨_,rfl,_,rfl,rfl,_,rfl,ite2 (λhne=>?_) (λhne=>?_)⟩
    ·have hne':w.2≠c:=λz=>by rw[z]at hne;simp at hne
     have hd2:w.2<(offs c S pend ((S.way c).take i)).1.ways.length:=by rw[hol,hw.w];exact hlt
     obtain⟨pd,hpd,hPD⟩:=h4.rW.at (way_at hd2)
     have hby:((offs c S pend ((S.way c).take i)).1.by w.2 (-w.1)).isSome=true:=by
      rw[offs_by hcw _ (λq hq=>by rw[hw.w];exact ok.lt q (List.mem_of_mem_take hq)),if_neg]
      ·exact ok.bk w hm hne'
      ·rintro (q|⟨q,hq,q1,q2⟩)
       ·exact hne' q
       ·obtain⟨j,hj⟩:=List.getElem?_of_mem hq
        have hji:j<i:=by
         have:=(List.getElem?_eq_some_iff.mp hj).1;rw[List.length_take]at this;omega
        rw[List.getElem?_take_of_lt hji]at hj;have e1:((S.way c).map (·.1))[j]?=some q.1:=by rw[List.getElem?_map,hj];rfl
        have e2:((S.way c).map (·.1))[i]?=some w.1:=by rw[List.getElem?_map,hg];rfl
        have e3:q.1=w.1:=by omega
        rw[e3]at e1;have:=(List.getElem?_inj (by rw[List.length_map];exact hi4) ok.nd).mp (e2.trans e1.symm);omega
     obtain⟨m,hm2⟩:=Option.isSome_iff_exists.mp hby;refine⟨_,rfl,r,_,a2.dx,_,_,rfl,h4.ins,cl_Rooms T,T.n_ways,lk_ways _ _ _,_,rfl,a2.aW,_,_,_,rfl,rfl,SqL.of h4.hW,ref_at hpd,pd,rfl,.inl ⟨_,.inl hPD⟩,_,rfl,_,rfl,_,Sum.inl (-w.1),.int (m:Int),hPD,rfl,?_,?_⟩
     ·rw[wK_val];show ((offs c S pend ((S.way c).take i)).1.by w.2 (-w.1)).map _=_;rw[hm2];rfl
     ·rw[wK_drop];refine⟨rfl,?_,hP4.keep (λo e=>?_) (λb xs e=>?_),λb o nb nbp e=>?_⟩
      ·rw[etk,offs_snoc];unfold offStep;simp only[hne',if_true,not_false_eq_true,ne_eq];exact h4.setWay hpd _
      ·rw[upd_ne (λz=>np2 (.inr (.inr (mem_ws (by rw[z];exact List.mem_of_getElem? hpd)))))];exact e
      ·rw[upd_ne (h4.td e (mem_ws (List.mem_of_getElem? hpd)))];exact e
      ·rw[upd_ne (λz=>nb (.inr (.inr (mem_ws (by rw[z];exact List.mem_of_getElem? hpd)))))];exact kk b o nb nbp e
    ·have hne':w.2=c:=by
      by_cases e:w.2=c
      ·exact e
      ·exact absurd (by simp;omega) hne
     refine⟨rfl,?_,hP4,kk⟩;rw[etk,offs_snoc];unfold offStep;simp only[hne',ne_eq,not_true_eq_false,if_false];exact h4
   rintro σ' H5 ⟨rfl,h5,hP5,kk5⟩;obtain⟨qs,hq1,hq2⟩:=hP5
   have hql:(qs.map V.ref).length<sizeLine:=by
    rw[List.length_map,hq2.1,offs_pend,List.length_append,List.length_map,List.length_take];exact Nat.lt_of_le_of_lt (show _<=1100000 by omega) (by decide)
   refine⟨_,rfl,.inl ⟨rfl,_,SqL.of hq1⟩,_,rfl,_,rfl,_,rfl,(by show 3<=sizeLine;decide),λt nt=>?_⟩;have s6:=Same.upd (o:=.tup [.int (c:Int),.int w.1,.int (w.2:Int)]) nt;have ht6:upd H5 t (.tup [.int (c:Int),.int w.1,.int (w.2:Int)]) t=some (.tup [.int (c:Int),.int w.1,.int (w.2:Int)]):=upd_same;generalize upd H5 t (.tup [.int (c:Int),.int w.1,.int (w.2:Int)])=H6 at s6 ht6 ⊢;refine⟨p,_,_,rfl,rfl,s6 _ _ hq1,hql,?_⟩;have kp:∀b o,b≠p->H6 b=some o->upd H6 p (.lst (qs.map V.ref++[.ref t])) b=some o:=λb o nb e=>by rw[upd_ne nb];exact e
   have ktp:∀b xs,H6 b=some (.tup xs)->upd H6 p (.lst (qs.map V.ref++[.ref t])) b=some (.tup xs):=λb xs e=>kp _ _ (ne_of e (s6 _ _ hq1) (by intro z;cases z)) e
   refine⟨_,_,rfl,(h5.same s6).keep (λb o hb e=>kp b o (λz=>np2 (z ▸ hb)) e) ktp,⟨qs++[t],?_,?_⟩,λb o nb nbp e=>kp b o nbp (s6 _ _ (kk5 b o nb nbp e))⟩
   ·rw[upd_same,List.map_append];rfl
   ·rw[etk,offs_snoc];exact(hq2.imp λq w' _ _ e=>ktp _ _ (s6 _ _ e)).snoc (ktp _ _ ht6)
  ·rintro σ H4 ⟨v4,v5,rfl,h4,hP4,kk⟩;rw[hlen,List.take_length]at h4 hP4;refine k a2 H4 (λb o nb nbp e=>?_) h4 hP4 own2;have e2:=B2 b o nb nbp e;exact kk b o (λz=>by rcases own2 b z with q|q;exact nb q;rw[q]at e;cases e) nbp (s3 _ _ e2)
theorem cal_at {S:RS}{c:Nat}(h:c<S.called.length):S.called[c]?=some (S.cal c):=by unfold RS.cal;rw[List.getD_eq_getElem?_getD,List.getElem?_eq_getElem h];rfl
theorem eld_at {S:RS}{c:Nat}(h:c<S.elders.length):S.elders[c]?=some (S.eld c):=by unfold RS.eld;rw[List.getD_eq_getElem?_getD,List.getElem?_eq_getElem h];rfl
theorem cal_le {S:RS}{c n:Nat}(h:∀l∈S.called,l.length<=n):(S.cal c).length<=n:=by
 unfold RS.cal;rw[List.getD_eq_getElem?_getD]
 cases e:S.called[c]? with
 |none=>exact Nat.zero_le _
 |some l=>exact h l (List.mem_of_getElem? e)
theorem fold_len (x:Nat):∀(l es:List Nat),(l.foldl (λes n=>es.set n x) es).length=es.length
 |[],_=>rfl
 |n::l,es=>by rw[List.foldl_cons,fold_len x l,List.length_set]
theorem ints_set (ns:List Int)(i:Nat)(z:Int):(intV ns).set i (.int z)=intV (ns.set i z):=by
 unfold intV;rw[List.map_set]
theorem ok_Rooms_put_together (T:Txt K mg A):FnOk P w K mg base (CXw P w) 2 A.f_Rooms_put_together A.d_Rooms_put_together ["self","room","step","one","other","pending"] (spPutTo A.c_Rooms):=by
 have G_Rooms_put_off:FnOk P w K mg base (CXw P w) 1 A.f_Rooms_put_off A.d_Rooms_put_off ["self","room","pending"] (spPutOff A.c_Rooms):=ok_Rooms_put_off T;refine T.Rooms_put_together.F.okN sc_Rooms_put_together (λvs H Q E h=>?_) (λcdv AA outer s H vs Q E hr h=>?_)
 ·obtain⟨r,p,S,a,c,x,y,z,pend,rfl,_⟩:=h;rfl
 ·obtain⟨r,p,S,a,c,x,y,z,pend,rfl,h,hw,hx,hy,hxy,ok,hcl,sm,hP,np,hpl,k⟩:=h
  refine⟨_,(pss_cons (ps_set (i:=6) sc_Rooms_put_together.nd rfl (Or.inl rfl) (pe_callB (call_min2 rfl) rfl T.z_min PyProof.Rows.boot_min (pa_cons (pv 3) (pa_cons (pv 4) pa_nil))))
   (pss_cons (ps_set (i:=7) sc_Rooms_put_together.nd rfl (Or.inl rfl) (pe_callB (call_max2 rfl) rfl T.z_max PyProof.Rows.boot_max (pa_cons (pv 3) (pa_cons (pv 4) pa_nil))))
   (pss_cons (ps_expr (pe_bm PySem.F.plainAttrs_list PySem.F.slot_list_append PySem.F.type_list_append mt_append (pe_fld (pv 0) rfl) (pa_cons (pe_tup (pa_cons (pe_strX (l:=[109,101,101,116]) rfl) (pa_cons (pv 1) (pa_cons (pv 2) (pa_cons (pv 6) (pa_cons (pv 7) pa_nil)))))) pa_nil)))
   (pss_cons (ps_expr (pe_bm PySem.F.plainAttrs_list PySem.F.slot_list_append PySem.F.type_list_append mt_append (pe_fld (pv 0) rfl) (pa_cons (pv 7) pa_nil)))
   (pss_cons (ps_for PassesOwn.never rfl (pi_list (pe_ix ix_list (pe_fld (pv 0) rfl) (pv 7) (λ_ _=>rfl))) (pg_name (i:=8) sc_Rooms_put_together.nd rfl (Or.inl rfl))
    (pss_one (ps_asg (pv 6) (pg_sub (pe_fld (pv 0) rfl) (pv 8) set_list))))
   (pss_cons (ps_expr (pe_bm PySem.F.plainAttrs_list PySem.F.slot_list_extend PySem.F.type_list_extend mt_extend (pe_ix ix_list (pe_fld (pv 0) rfl) (pv 6) (λ_ _=>rfl)) (pa_cons (pe_ix ix_list (pe_fld (pv 0) rfl) (pv 7) (λ_ _=>rfl)) pa_nil)))
   (pss_one (ps_expr (pe_meth (pv 0) (cl_Rooms T) T.Rooms_put_off.m (G_Rooms_put_off) (hr.mono (by decide)) T.Rooms_put_off.b .nil passF (pa_cons (pv 7) (pa_cons (pv 5) pa_nil))))))))))),?_⟩
  try dsimp only[cx_noxK,cx_K]
  refine seq_let6 ?_;intro u_6 u_5 u_4 u_3 u_2 u_1;have e1:(if (y:Int)<(x:Int) then (y:Int) else (x:Int))=((min x y:Nat):Int):=by split <;> omega
  have e2:(if (y:Int) > (x:Int) then (y:Int) else (x:Int))=((max x y:Nat):Int):=by split <;> omega
  have hlm:min x y<max x y:=by omega
  have hmx:max x y<S.made:=by omega
  generalize ev:min x y=u at e1 hlm;have ek:∀a' H',ButP a r p H H'->RoomsAt A.c_Rooms H' r ((S.joined c z u (max x y)).putOff (max x y) pend).1 a'->PendAt H' p ((S.joined c z u (max x y)).putOff (max x y) pend).2->(∀b,a'.own r b->a.own r b\/H b=none)->Q .non H':=λa' H' h1 h2 h3 h4=>k a' H' h1 (by unfold RS.meet;rw[ev];exact h2) (by unfold RS.meet;rw[ev];exact h3) h4
  clear k;generalize max x y=v at e2 hlm hmx ok hcl ek;refine⟨_,rfl,_,rfl,_,_,rfl,?_⟩;rw[e1];refine⟨_,rfl,_,rfl,_,_,rfl,?_⟩;rw[e2];have lR:(a.rs.map V.ref).length<sizeLine:=by rw[List.length_map,h.rR.1];exact Nat.lt_of_le_of_lt sm.r (by decide)
  refine⟨_,rfl,r,_,a.dx,_,_,rfl,h.ins,cl_Rooms T,T.n_rows,lk_rows _ _ _,.inl ⟨rfl,_,SqL.of h.hR⟩,_,rfl,_,rfl,_,rfl,_,rfl,(by show 5<=sizeLine;decide),λt nt=>⟨a.aR,_,_,rfl,rfl,Same.upd nt _ _ h.hR,lR,?_⟩⟩;have s1:=Same.upd (o:=.tup [.str (tx [109,101,101,116]),.int (c:Int),.int z,.int (u:Int),.int (v:Int)]) nt;have ht1:upd H t (.tup [.str (tx [109,101,101,116]),.int (c:Int),.int z,.int (u:Int),.int (v:Int)]) t=some (.tup [.str (tx [109,101,101,116]),.int (c:Int),.int z,.int (u:Int),.int (v:Int)]):=upd_same;generalize upd H t (.tup [.str (tx [109,101,101,116]),.int (c:Int),.int z,.int (u:Int),.int (v:Int)])=H1 at s1 ht1 ⊢
  have hd1:DtAt H1 4 (.ref t) (rowMeet c z u v):=by
   refine .t ht1 rfl λj w d e1 e2=>?_
   rcases j with _|_|_|_|_|j
   ·simp at e1 e2;subst e1 e2;exact .s
   ·simp at e1 e2;subst e1 e2;exact .i
   ·simp at e1 e2;subst e1 e2;exact .i
   ·simp at e1 e2;subst e1 e2;exact .i
   ·simp at e1 e2;subst e1 e2;exact .i
   ·simp at e1
  have nl:NoL (rowMeet c z u v):=.t (by show 5<=100000;decide) λd hd=>by
   simp only[List.mem_cons,List.not_mem_nil,or_false]at hd;rcases hd with rfl|rfl|rfl|rfl|rfl
   ·exact .s
   ·exact .i
   ·exact .i
   ·exact .i
   ·exact .i
  have h2:=(h.same s1).addRow hd1 nl;have B2:ButP a r p H (upd H1 a.aR (.lst (a.rs.map V.ref++[.ref t]))):=λb o nb _ e=>by rw[upd_ne (λz=>nb (.inr (.inl (by rw[z];exact mem_R))))];exact s1 _ _ e
  have npl:∀{b},b∈a.lists->p≠b:=λhb z=>np (.inr (.inl (by rw[z];exact hb)))
  have P2:PendAt (upd H1 a.aR (.lst (a.rs.map V.ref++[.ref t]))) p pend:=hP.keep (λo e=>by rw[upd_ne (npl mem_R)];exact s1 _ _ e) (λb xs e=>by rw[upd_ne (h.tl e mem_R)];exact s1 _ _ e);generalize upd H1 a.aR (.lst (a.rs.map V.ref++[.ref t]))=H2 at h2 B2 P2 ⊢;generalize ea2:({ a with rs:=a.rs++[t] }:RA)=a2 at h2;have eo:∀b,a2.own r b↔a.own r b:=λb=>by rw[←ea2];exact Iff.rfl
  have np2:¬a2.own r p:=λz=>np ((eo p).mp z)
  have npl2:∀{b},b∈a2.lists->p≠b:=λhb z=>np2 (.inr (.inl (by rw[z];exact hb)))
  have lN:(intV (nI S.went)).length<sizeLine:=by rw[ints_len,nI_len];exact Nat.lt_of_le_of_lt sm.n (by decide)
  refine⟨_,rfl,r,_,a2.dx,_,_,rfl,h2.ins,cl_Rooms T,T.n_went,lk_went _ _ _,.inl ⟨rfl,_,SqL.of h2.hN⟩,_,rfl,a2.aN,_,_,rfl,rfl,h2.hN,lN,?_⟩;have eN:intV (nI S.went)++[V.int (v:Int)]=intV (nI (S.went++[v])):=by rw[nI_app,ints_app];rfl
  have h3:=h2.setWent (S.went++[v]);rw[←eN]at h3;have B3:ButP a r p H (upd H2 a2.aN (.lst (intV (nI S.went)++[V.int (v:Int)]))):=λb o nb nbp e=>by rw[upd_ne (λz=>nb ((eo b).mp (.inr (.inl (by rw[z];exact mem_N)))))];exact B2 b o nb nbp e
  have P3:PendAt (upd H2 a2.aN (.lst (intV (nI S.went)++[V.int (v:Int)]))) p pend:=P2.keep (λo e=>by rw[upd_ne (npl2 mem_N)];exact e) (λb xs e=>by rw[upd_ne (h2.tl e mem_N)];exact e);show _;generalize upd H2 a2.aN (.lst (intV (nI S.went)++[V.int (v:Int)]))=H3 at h3 B3 P3 ⊢;obtain⟨pv,hpv,hPV⟩:=h3.rC.at (show S.called[v]?=some (S.cal v) from cal_at (by rw[hw.c];exact hmx));have mpv:=List.mem_of_getElem? hpv;refine⟨_,rfl,r,_,a2.dx,_,_,rfl,h3.ins,cl_Rooms T,T.n_called,lk_called _ _ _,_,rfl,a2.aC,_,_,_,rfl,rfl,SqL.of h3.hC,ref_at hpv,pv,rfl,⟨_,SqL.of hPV⟩,?_⟩;obtain⟨-,-,-,-,-,nc⟩:=nd7 h3.ndL;have npE:pv≠a2.aE:=(nc pv mpv).2.2.2.1;refine for_list (xs:=intV (nI (S.cal v))) (λi σ H4=>∃v8,σ=[some (.ref r),some (.int (c:Int)),some (.int z),some (.int (x:Int)),some (.int (y:Int)),some (.ref p),some (.int (u:Int)),some (.int (v:Int)),v8]/\RoomsAt A.c_Rooms H4 r { S with rows:=S.rows++[rowMeet c z u v],went:=S.went++[v],elders:=((S.cal v).take i).foldl (λes n=>es.set n u) S.elders } a2/\ButP a r p H H4/\PendAt H4 p pend) ⟨none,rfl,h3,B3,P3⟩ (λi σ H4 _ ⟨_,_,h4,_,_⟩=>SqL.of (h4.rC.2 v pv _ hpv (show S.called[v]?=some (S.cal v) from cal_at (by rw[hw.c];exact hmx)))) ?_ ?_
  ·rintro i w σ H4 hw4 ⟨v8,rfl,h4,B4,P4⟩;obtain⟨m,rfl,hm⟩:=ints_of_at hw4;unfold nI at hm;rw[List.getElem?_map]at hm
   cases hn:(S.cal v)[i]? with
   |none=>rw[hn]at hm;cases hm
   |some n=>
    rw[hn]at hm;obtain rfl:(n:Int)=m:=Option.some.inj hm;have hnl:=hcl n (List.mem_of_getElem? hn);have hel:(((S.cal v).take i).foldl (λes n=>es.set n u) S.elders).length=S.made:=by rw[fold_len,hw.e]
    refine⟨_,rfl,_,rfl,r,_,a2.dx,_,_,rfl,h4.ins,cl_Rooms T,T.n_elders,lk_elders _ _ _,_,rfl,a2.aE,_,_,n,rfl,rfl,h4.hE,ixN_nat (by rw[ints_len,nI_len,hel];exact hnl),?_⟩;rw[ints_set,nI_set];have h5:=h4.setElders ((((S.cal v).take i).foldl (λes n=>es.set n u) S.elders).set n u);refine⟨_,rfl,?_,λb o nb nbp e=>?_,P4.keep (λo e=>?_) (λb xs e=>?_)⟩
    ·have etk:(S.cal v).take (i+ 1)=(S.cal v).take i++[n]:=by rw[List.take_succ,hn];rfl
     rw[etk,List.foldl_append];exact h5
    ·rw[upd_ne (λz=>nb ((eo b).mp (.inr (.inl (by rw[z];exact mem_E)))))];exact B4 b o nb nbp e
    ·rw[upd_ne (npl2 mem_E)];exact e
    ·rw[upd_ne (h4.tl e mem_E)];exact e
  ·rintro σ H4 ⟨v8,rfl,h4,B4,P4⟩;rw[ints_len,nI_len,List.take_length]at h4;have hul:u<S.called.length:=by rw[hw.c];omega
   have hvl:v<S.called.length:=by rw[hw.c];exact hmx
   obtain⟨pu,hpu,hPU⟩:=h4.rC.at (show S.called[u]?=some (S.cal u) from cal_at hul);have hPV4:=h4.rC.2 v pv _ hpv (show S.called[v]?=some (S.cal v) from cal_at hvl);have b1:(S.cal u).length<=1000000:=cal_le sm.c;have b2:(S.cal v).length<=1000000:=cal_le sm.c;refine⟨_,rfl,r,_,a2.dx,_,_,rfl,h4.ins,cl_Rooms T,T.n_called,lk_called _ _ _,_,rfl,a2.aC,_,_,_,rfl,rfl,SqL.of h4.hC,ref_at hpu,.inl ⟨rfl,_,SqL.of hPU⟩,?_⟩;refine⟨_,rfl,r,_,a2.dx,_,_,rfl,h4.ins,cl_Rooms T,T.n_called,lk_called _ _ _,_,rfl,a2.aC,_,_,_,rfl,rfl,SqL.of h4.hC,ref_at hpv,pu,pv,_,_,rfl,rfl,hPU,hPV4,?_,?_⟩
   ·rw[ints_len,ints_len,nI_len,nI_len];exact Nat.le_trans (show _<=2000000 by omega) (by decide)
   have eC:intV (nI (S.cal u))++intV (nI (S.cal v))=intV (nI (S.cal u++S.cal v)):=by rw[nI_app,ints_app]
   rw[eC];have h5:=h4.setCalled hpu (S.cal u++S.cal v);have mpu:=mem_cs (List.mem_of_getElem? hpu);have B5:ButP a r p H (upd H4 pu (.lst (intV (nI (S.cal u++S.cal v))))):=λb o nb nbp e=>by rw[upd_ne (λz=>nb ((eo b).mp (.inr (.inl (by rw[z];exact mpu)))))];exact B4 b o nb nbp e
   have P5:PendAt (upd H4 pu (.lst (intV (nI (S.cal u++S.cal v))))) p pend:=P4.keep (λo e=>by rw[upd_ne (npl2 mpu)];exact e) (λb xs e=>by rw[upd_ne (h4.tl e mpu)];exact e);generalize upd H4 pu (.lst (intV (nI (S.cal u++S.cal v))))=H5 at h5 B5 P5 ⊢;have h5':RoomsAt A.c_Rooms H5 r (S.joined c z u v) a2:=h5;refine⟨_,rfl,r,a2.dx,_,rfl,h5'.ins,lk_none _ _ _ (by decide +kernel),_,rfl,_,rfl,r,p,S.joined c z u v,a2,v,pend,rfl,h5',⟨hw.w,hw.g,?_,?_⟩,hmx,⟨ok.nd,ok.lt,ok.bk⟩,sm.w,P5,np2,hpl,λa' H' b' r' p' o'=>ek a' H' (λb o nb nbp e=>b' b o (λz=>nb ((eo b).mp z)) nbp (B5 b o nb nbp e)) r' p' (λb hb=>?_)⟩
   ·show ((S.cal v).foldl (λes n=>es.set n u) S.elders).length=S.made;rw[fold_len];exact hw.e
   ·show (S.called.set u (S.cal u++S.cal v)).length=S.made;rw[List.length_set];exact hw.c
   ·rcases o' b hb with q|q
    ·exact .inl ((eo b).mp q)
    ·by_cases ho:a.own r b
     ·exact .inl ho
     ·refine .inr ?_
      cases e:H b with
      |none=>rfl
      |some o=>
       by_cases hbp:b=p
       ·obtain⟨qs,q1,_⟩:=P5;rw[hbp,q1]at q;cases q
       ·rw[B5 b o ho hbp e]at q;cases q
theorem ok_Rooms_take_in (T:Txt K mg A):FnOk P w K mg base (CXw P w) 3 A.f_Rooms_take_in A.d_Rooms_take_in ["self","way","pending"] (spTakeIn A.c_Rooms):=by
 have G_Rooms_put_together:FnOk P w K mg base (CXw P w) 2 A.f_Rooms_put_together A.d_Rooms_put_together ["self","room","step","one","other","pending"] (spPutTo A.c_Rooms):=ok_Rooms_put_together T;have G_Rooms_keep:FnOk P w K mg base (CXw P w) 1 A.f_Rooms_keep A.d_Rooms_keep ["self","room","step","other"] (spKeep A.c_Rooms):=ok_Rooms_keep T;refine T.Rooms_take_in.F.okN sc_Rooms_take_in (λvs H Q E h=>?_) (λcdv AA outer s H vs Q E hr h=>?_)
 ·obtain⟨r,t,p,S,a,w,pend,rfl,_⟩:=h;rfl
 ·obtain⟨r,t,p,S,a,w,pend,rfl,h,ht,ok,hw1,hw3,hP,np,hpl,k⟩:=h;have hu2:=hu_of hr
  refine⟨_,(pss_cons (ps_set (i:=3) sc_Rooms_take_in.nd rfl (Or.inl rfl) (pe_ix ix_list (pe_fld (pv 0) rfl) (pe_ix ix_tup (pv 1) pe_int (λ_ _=>rfl)) (λ_ _=>rfl)))
   (pss_cons (ps_set (i:=4) sc_Rooms_take_in.nd rfl (Or.inl rfl) (pe_ix ix_tup (pv 1) pe_int (λ_ _=>rfl)))
   (pss_cons (ps_set (i:=5) sc_Rooms_take_in.nd rfl (Or.inl rfl) (pe_ix ix_list (pe_fld (pv 0) rfl) (pe_ix ix_tup (pv 1) pe_int (λ_ _=>rfl)) (λ_ _=>rfl)))
   (pss_cons (ps_set (i:=6) sc_Rooms_take_in.nd rfl (Or.inl rfl) (pe_dget2 hu2 (pe_ix ix_list (pe_fld (pv 0) rfl) (pv 3) (λ_ _=>rfl)) (pv 4) (pv 5) ⟨rfl,rfl,rfl,rfl⟩))
   (pss_cons (ps_set (i:=7) sc_Rooms_take_in.nd rfl (Or.inl rfl) (pe_dget2 hu2 (pe_ix ix_list (pe_fld (pv 0) rfl) (pv 5) (λ_ _=>rfl)) (pe_un un_neg (pv 4)) (pv 3) ⟨rfl,rfl,rfl,rfl⟩))
   (pss_one (ps_cut (ps_if (pt_cmpR op_ne (pv 6) (pv 5) (nomark _))
    (pss_one (ps_expr (pe_meth (pv 0) (cl_Rooms T) T.Rooms_put_together.m (G_Rooms_put_together) (hr.mono (by decide)) T.Rooms_put_together.b .nil passF (pa_cons (pv 3) (pa_cons (pv 4) (pa_cons (pv 6) (pa_cons (pv 5) (pa_cons (pv 2) pa_nil))))))))
    (pss_one (ps_cut (ps_if (pt_cmpR op_ne (pv 7) (pv 3) (nomark _))
     (pss_one (ps_expr (pe_meth (pv 0) (cl_Rooms T) T.Rooms_put_together.m (G_Rooms_put_together) (hr.mono (by decide)) T.Rooms_put_together.b .nil passF (pa_cons (pv 5) (pa_cons (pe_un un_neg (pv 4)) (pa_cons (pv 7) (pa_cons (pv 3) (pa_cons (pv 2) pa_nil))))))))
     (pss_one (ps_expr (pe_meth (pv 0) (cl_Rooms T) T.Rooms_keep.m (G_Rooms_keep) (hr.mono (by decide)) T.Rooms_keep.b .nil passF (pa_cons (pv 3) (pa_cons (pv 4) (pa_cons (pv 5) pa_nil))))))))))))))))),?_⟩
  try dsimp only[cx_noxK,cx_K]
  refine seq_let5 ?_;intro u_5 u_4 u_3 u_2 u_1;have sq:SqT K H t [.int (w.1:Int),.int w.2.1,.int (w.2.2:Int)]:=SqT.of ht;have hel:∀{c:Nat},c<S.made->S.elders[c]?=some (S.eld c):=λ{c} hc=>eld_at (by rw[ok.wf.e];exact hc)
  have hc:=ok.el _ hw1;have hd:=ok.el _ hw3;refine⟨_,rfl,r,_,a.dx,_,_,rfl,h.ins,cl_Rooms T,T.n_elders,lk_elders _ _ _,_,rfl,t,_,_,_,rfl,rfl,sq,(rfl:atI _ (0:Int)=_),a.aE,_,_,_,rfl,rfl,SqL.of h.hE,atI_nat (ints_at (nI_get (hel hw1))),?_⟩;refine⟨_,rfl,t,_,_,_,rfl,rfl,sq,(rfl:atI _ (1:Int)=_),?_⟩;refine⟨_,rfl,r,_,a.dx,_,_,rfl,h.ins,cl_Rooms T,T.n_elders,lk_elders _ _ _,_,rfl,t,_,_,_,rfl,rfl,sq,(rfl:atI _ (2:Int)=_),a.aE,_,_,_,rfl,rfl,SqL.of h.hE,atI_nat (ints_at (nI_get (hel hw3))),?_⟩;have k':=k;clear k;unfold RS.takeIn at k';generalize S.eld w.1=c at hc k' ⊢;generalize S.eld w.2.2=d at hd k' ⊢;generalize w.2.1=z at k' ⊢;obtain⟨pc,hpc,hPC⟩:=h.rW.at (way_at (S:=S) (c:=c) (by rw[ok.wf.w];exact hc));obtain⟨pd,hpd,hPD⟩:=h.rW.at (way_at (S:=S) (c:=d) (by rw[ok.wf.w];exact hd));have gd:∀(o:Option Nat) (n:Nat),(o.map λr:Nat=>V.int (r:Int)).getD (.int (n:Int))=V.int ((o.getD n:Nat):Int):=λo n=>by cases o <;> rfl
  refine⟨_,rfl,r,_,a.dx,_,_,rfl,h.ins,cl_Rooms T,T.n_ways,lk_ways _ _ _,_,rfl,a.aW,_,_,_,rfl,rfl,SqL.of h.hW,ref_at hpc,pc,rfl,.inl ⟨_,.inl hPC⟩,_,rfl,_,rfl,_,DGet.k (k:=Sum.inl z) hPC,?_⟩;rw[wK_val,gd];show _;refine⟨_,rfl,r,_,a.dx,_,_,rfl,h.ins,cl_Rooms T,T.n_ways,lk_ways _ _ _,_,rfl,a.aW,_,_,_,rfl,rfl,SqL.of h.hW,ref_at hpd,pd,rfl,.inl ⟨_,.inl hPD⟩,_,rfl,_,rfl,_,rfl,_,DGet.k (k:=Sum.inl (-z)) hPD,?_⟩;rw[wK_val,gd];have e1:getW (S.way c) z=S.by c z:=rfl;have e2:getW (S.way d) (-z)=S.by d (-z):=rfl;rw[e1,e2]
  have hl:(S.by c z).getD d<S.made:=by
   cases e:S.by c z with
   |none=>exact hd
   |some m=>exact ok.bl _ _ _ e
  have hf:(S.by d (-z)).getD c<S.made:=by
   cases e:S.by d (-z) with
   |none=>exact hc
   |some m=>exact ok.bl _ _ _ e
  generalize (S.by c z).getD d=l at hl k' ⊢;generalize (S.by d (-z)).getD c=f at hf k' ⊢
  have ne:∀{m n:Nat},m≠n->(!decide (V.int (m:Int)=V.int (n:Int)))=true:=λ{m n} q=>by
   rw[decide_eq_false (λz=>q (by injection z with z;omega))];rfl
  refine⟨λ_ H'=>Q .non H',?_,λ_ _ q=>q⟩;by_cases h1:l≠d
  ·rw[if_pos h1]at k';refine⟨_,rfl,_,rfl,rfl,_,rfl,?_⟩;rw[ne h1];refine iteT ?_;exact⟨_,rfl,r,a.dx,_,rfl,h.ins,lk_none _ _ _ (by decide +kernel),_,rfl,_,rfl,_,rfl,_,rfl,_,rfl,r,p,S,a,c,l,d,z,pend,rfl,h,ok.wf,hl,hd,h1,ok.off _ (by omega),λn hn=>ok.cl _ n hn,ok.sm,hP,np,hpl,k'⟩
  ·have h1':l=d:=Decidable.not_not.mp h1;rw[if_neg h1]at k';refine⟨_,rfl,_,rfl,rfl,_,rfl,iteNS (by rw[h1']) ?_⟩;refine⟨λ_ H'=>Q .non H',?_,λ_ _ q=>q⟩;by_cases h2:f≠c
   ·rw[if_pos h2]at k';refine⟨_,rfl,_,rfl,rfl,_,rfl,?_⟩;rw[ne h2];refine iteT ?_;exact⟨_,rfl,r,a.dx,_,rfl,h.ins,lk_none _ _ _ (by decide +kernel),_,rfl,_,rfl,_,rfl,_,rfl,_,rfl,_,rfl,r,p,S,a,d,f,c,-z,pend,rfl,h,ok.wf,hf,hc,h2,ok.off _ (by omega),λn hn=>ok.cl _ n hn,ok.sm,hP,np,hpl,k'⟩
   ·have h2':f=c:=Decidable.not_not.mp h2;rw[if_neg h2]at k';refine⟨_,rfl,_,rfl,rfl,_,rfl,iteNS (by rw[h2']) ?_⟩;refine⟨_,rfl,r,a.dx,_,rfl,h.ins,lk_none _ _ _ (by decide +kernel),_,rfl,_,rfl,_,rfl,r,S,a,c,d,z,rfl,h,ok.wf,hc,hd,ok.sm.w,λH' b' r'=>k' a H' (λb o nb _ e=>b' b o nb e) r' (hP.keep (λo e=>b' _ _ np e) (λb xs e=>b' _ _ (h.notup e) e)) λb hb=>.inl hb⟩
theorem ok_Rooms_lay (T:Txt K mg A):FnOk P w K mg base (CXw P w) 4 A.f_Rooms_lay A.d_Rooms_lay ["self","room","step","other","row"] (spLay A.c_Rooms):=by
 have G_own:FnOk P w K mg base (CXw P w) 3 A.f_own A.d_own ["value"] (spOwn 1):=ok_own_v1 T;have G_Rooms_take_in:FnOk P w K mg base (CXw P w) 3 A.f_Rooms_take_in A.d_Rooms_take_in ["self","way","pending"] (spTakeIn A.c_Rooms):=ok_Rooms_take_in T;refine T.Rooms_lay.F.okN sc_Rooms_lay (λvs H Q E h=>?_) (λcdv AA outer s H vs Q E hr h=>?_)
 ·obtain⟨r,q,S,a,c,d,z,row,I,μ,rfl,_⟩:=h;rfl
 ·obtain⟨r,q,S,a,c,d,z,row,I,μ,rfl,h,hrl,hq,hrow,hI,step,k⟩:=h
  refine⟨_,(pss_cons (ps_expr (pe_bm PySem.F.plainAttrs_list PySem.F.slot_list_append PySem.F.type_list_append mt_append (pe_fld (pv 0) rfl) (pa_cons (pe_call (G_own) (hr.mono (by decide)) rfl T.own.m T.own.F.kp T.own.b .nil passF (pa_cons (pv 4) pa_nil)) pa_nil)))
   (pss_cons (ps_set (i:=5) sc_Rooms_lay.nd rfl (Or.inl rfl) (pe_lst (pa_cons (pe_tup (pa_cons (pv 1) (pa_cons (pv 2) (pa_cons (pv 3) pa_nil)))) pa_nil)))
   (pss_one (ps_cut (ps_while PassesOwn.never (pt_truth (pv 5) (λ_=>rfl))
    (pss_one (ps_expr (pe_meth (pv 0) (cl_Rooms T) T.Rooms_take_in.m (G_Rooms_take_in) (hr.mono (by decide)) T.Rooms_take_in.b .nil passF (pa_cons (pe_bm0 PySem.F.plainAttrs_list PySem.F.slot_list_pop PySem.F.type_list_pop mt_pop (pv 5)) (pa_cons (pv 5) pa_nil)))))))))),?_⟩
  try dsimp only[cx_noxK,cx_K]
  refine seq_let2 ?_;intro u_2 u_1;have lR:(a.rs.map V.ref).length<sizeLine:=by rw[List.length_map,h.rR.1];exact Nat.lt_of_le_of_lt hrl (by decide)
  obtain⟨ds,rfl⟩:∃ds,row=.t ds:=by
   cases hq with
   |t=>exact⟨_,rfl⟩
   |l=>cases hrow
  refine⟨_,rfl,r,_,a.dx,_,_,rfl,h.ins,cl_Rooms T,T.n_rows,lk_rows _ _ _,.inl ⟨rfl,_,SqL.of h.hR⟩,_,rfl,.ref q,.t ds,rfl,hq,hrow,λv' H1 s1 hv'=>?_⟩;obtain⟨q',rfl⟩:∃q',v'=.ref q':=by cases hv' with|t=>exact⟨_,rfl⟩
  refine⟨a.aR,_,_,rfl,rfl,s1 _ _ h.hR,lR,?_⟩;have h2:=(h.same s1).addRow (hv'.le (by decide)) hrow;have B2:ButO a r H (upd H1 a.aR (.lst (a.rs.map V.ref++[.ref q']))):=λb o nb e=>by rw[upd_ne (λz=>nb (.inr (.inl (by rw[z];exact mem_R))))];exact s1 _ _ e
  generalize upd H1 a.aR (.lst (a.rs.map V.ref++[.ref q']))=H2 at h2 B2 ⊢;generalize ea2:({ a with rs:=a.rs++[q'] }:RA)=a2 at h2;have eo:∀b,a2.own r b↔a.own r b:=λb=>by rw[←ea2];exact Iff.rfl
  refine⟨_,rfl,_,rfl,_,rfl,(by show 3<=sizeLine;decide),λt nt=>?_⟩;have s3:=Same.upd (o:=.tup [.int (c:Int),.int z,.int (d:Int)]) nt;have ht3:upd H2 t (.tup [.int (c:Int),.int z,.int (d:Int)]) t=some (.tup [.int (c:Int),.int z,.int (d:Int)]):=upd_same;generalize upd H2 t (.tup [.int (c:Int),.int z,.int (d:Int)])=H3 at s3 ht3 ⊢;refine⟨(by show 1<=sizeLine;decide),λp npn=>?_⟩;have s4:=Same.upd (o:=.lst [.ref t]) npn;have hp4:upd H3 p (.lst [.ref t]) p=some (.lst [.ref t]):=upd_same;have np0:¬a2.own r p:=(h2.same s3).mkL npn;generalize upd H3 p (.lst [.ref t])=H4 at s4 hp4 ⊢
  have npH:H p=none:=by
   cases e:H p with
   |none=>rfl
   |some o=>have:=s3 _ _ (B2 p o (λz=>np0 ((eo p).mpr z)) e);rw[npn]at this;cases this
  have B4:ButO a r H H4:=λb o nb e=>s4 _ _ (s3 _ _ (B2 b o nb e))
  have P4:PendAt H4 p [(c,z,d)]:=⟨[t],hp4,Each.snoc (ps:=[]) (xs:=[]) ⟨rfl,λi p d h=>by simp at h⟩ (s4 _ _ ht3)⟩;refine⟨λ_ H'=>Q .non H',?_,λ_ _ q=>q⟩;refine⟨λm σ H5=>∃S5 a5 pend,m=μ S5 pend/\σ=[some (.ref r),some (.int (c:Int)),some (.int z),some (.int (d:Int)),some (.ref q),some (.ref p)]/\RoomsAt A.c_Rooms H5 r S5 a5/\PendAt H5 p pend/\I S5 pend/\¬a5.own r p/\(∀b o,¬a.own r b->b≠p->H b=some o->H5 b=some o)/\∀b,a5.own r b->a.own r b\/H b=none,⟨_,_,a2,[(c,z,d)],rfl,rfl,(h2.same s3).same s4,P4,hI,np0,λb o nb _ e=>B4 b o nb e,λb hb=>.inl ((eo b).mp hb)⟩,?_⟩;rintro m σ H5 ⟨S5,a5,pend,rfl,rfl,h5,P5,I5,np5,B5,O5⟩;obtain⟨qs,hqs,hqe⟩:=id P5;refine⟨_,rfl,!(qs.map V.ref).isEmpty,.inl ⟨_,SqL.of hqs,rfl⟩,?_⟩;by_cases hne:pend=[]
  ·subst hne;have eq0:qs=[]:=List.eq_nil_of_length_eq_zero hqe.1;subst eq0;refine iteF ?_;exact k S5 a5 H5 (λb o nb e=>B5 b o nb (λz=>by rw[z,npH]at e;cases e) e) h5 I5 O5
  ·have hsp:=List.dropLast_concat_getLast hne;generalize pend.getLast hne=w at hsp;generalize pend.dropLast=pre at hsp;subst hsp;have hql:qs.length=pre.length+ 1:=by rw[hqe.1,List.length_append];rfl
   have hqn:qs≠[]:=λz=>by rw[z]at hql;cases hql
   have hqsp:=List.dropLast_concat_getLast hqn;generalize qs.getLast hqn=tq at hqsp;generalize qs.dropLast=qpre at hqsp;subst hqsp;have hpl:qpre.length=pre.length:=by rw[List.length_append]at hql;have:([tq]:List Addr).length=1:=rfl;omega
   obtain⟨ok,hw1,hw3,hb,hI2,hmu⟩:=step S5 pre w I5;have htq:H5 tq=some (.tup [.int (w.1:Int),.int w.2.1,.int (w.2.2:Int)]):=hqe.2 pre.length tq w (by rw[←hpl,List.getElem?_append_right (Nat.le_refl _),Nat.sub_self];rfl) (by rw[List.getElem?_append_right (Nat.le_refl _),Nat.sub_self];rfl);have ht:(!((qpre++[tq]).map V.ref).isEmpty)=true:=by simp
   rw[ht];refine iteT ?_;refine⟨λ σ' H'=>∃S6 a6 pend6,μ S6 pend6 < μ S5 (pre++[w])/\σ'=[some (.ref r),some (.int (c:Int)),some (.int z),some (.int (d:Int)),some (.ref q),some (.ref p)]/\RoomsAt A.c_Rooms H' r S6 a6/\PendAt H' p pend6/\I S6 pend6/\¬a6.own r p/\(∀b o,¬a.own r b->b≠p->H b=some o->H' b=some o)/\∀b,a6.own r b->a.own r b\/H b=none,λ σ' H' ⟨S6,a6,pend6,lt,e1,e2,e3,e4,e5,e6,e7⟩=>⟨_,lt,S6,a6,pend6,rfl,e1,e2,e3,e4,e5,e6,e7⟩,?_⟩;refine⟨_,rfl,r,a5.dx,_,rfl,h5.ins,lk_none _ _ _ (by decide +kernel),_,rfl,.inl ⟨rfl,_,SqL.of hqs⟩,p,_,.ref tq,rfl,rfl,hqs,?_,?_⟩
   ·rw[List.map_append,List.length_append];show ((qpre.map V.ref)++[V.ref tq])[(qpre.map V.ref).length+ 1 - 1]?=_
    rw[Nat.add_sub_cancel,List.getElem?_append_right (Nat.le_refl _),Nat.sub_self];rfl
   have edl:((qpre++[tq]).map V.ref).dropLast=qpre.map V.ref:=by rw[List.map_append];exact List.dropLast_concat
   rw[edl];have kp:∀b o,b≠p->H5 b=some o->upd H5 p (.lst (qpre.map V.ref)) b=some o:=λb o nb e=>by rw[upd_ne nb];exact e
   have kt:∀b xs,H5 b=some (.tup xs)->upd H5 p (.lst (qpre.map V.ref)) b=some (.tup xs):=λb xs e=>kp b _ (ne_of e hqs (by intro z;cases z)) e
   have h6:=h5.keep (λb o hb e=>kp b o (λz=>np5 (z ▸ hb)) e) kt;have P6:PendAt (upd H5 p (.lst (qpre.map V.ref))) p pre:=⟨qpre,upd_same,hpl,λi t' w' e1 e2=>kt _ _ (hqe.2 i t' w' (by rw[List.getElem?_append_left (List.getElem?_eq_some_iff.mp e1).1];exact e1) (by rw[List.getElem?_append_left (List.getElem?_eq_some_iff.mp e2).1];exact e2))⟩;generalize upd H5 p (.lst (qpre.map V.ref))=H6 at kp kt h6 P6 ⊢;refine⟨_,rfl,r,tq,p,S5,a5,w,pre,rfl,h6,kt _ _ htq,ok,hw1,hw3,P6,np5,hb,λa7 H7 b7 h7 P7 o7=>?_⟩;refine⟨_,a7,_,hmu,rfl,h7,P7,hI2,λz=>?_,λb o nb nbp e=>b7 b o (λz=>?_) nbp (kp b o nbp (B5 b o nb nbp e)),λb hb=>?_⟩
   ·rcases o7 p z with q1|q1
    ·exact np5 q1
    ·obtain⟨_,q2,_⟩:=P6;rw[q1]at q2;cases q2
   ·rcases O5 b z with q1|q1
    ·exact nb q1
    ·rw[q1]at e;cases e
   ·rcases o7 b hb with q1|q1
    ·exact O5 b q1
    ·by_cases ho:a.own r b
     ·exact .inl ho
     ·refine .inr ?_
      cases e:H b with
      |none=>rfl
      |some o=>
       by_cases hbp:b=p
       ·rw[hbp,npH]at e;cases e
       ·rw[kp b o hbp (B5 b o ho hbp e)]at q1;cases q1
def spAt (K:PySem.W.Frag):Sp:=λvs H Q _=>∃(a:Addr) (ns:List Int) (k:Nat),vs=[.ref a,.int k]/\SqL K H a (intV ns)/\k<=1000/\∀z,Q (.int z) H
def spWhole:Sp:=λvs H Q _=>∃i:Int,vs=[.int i]/\Q (.bl true) H
theorem ok__law_whole (T:Txt K mg A):FnOk P w K mg base (CXw P w) 1 A.f__law_whole A.d__law_whole ["_law_found"] spWhole:=by
 refine T._law_whole.F.okN sc__law_whole (λvs H Q E h=>?_) (λcdv AA outer s H vs Q E hr h=>?_)
 ·obtain⟨i,rfl,_⟩:=h;rfl
 ·obtain⟨i,rfl,k⟩:=h;refine⟨_,(pss_one (ps_ret (pe_and (pe_callB call_isi rfl T.z_isinstance PyProof.Rows.boot_isinstance (pa_cons (pv 0) (pa_cons (pe_bltn (v:=.ty "int") rfl T.z_int PyProof.Rows.boot_int rfl) pa_nil))) (pe_one (pe_not (pe_callB call_isi rfl T.z_isinstance PyProof.Rows.boot_isinstance (pa_cons (pv 0) (pa_cons (pe_bltn (v:=.ty "bool") rfl T.z_bool PyProof.Rows.boot_bool rfl) pa_nil)))))))),?_⟩
  try dsimp only[cx_noxK,cx_K]
  refine⟨_,rfl,_,_,_,_,rfl,.int i,kit_self _ _,true,rfl,iteT ?_⟩;exact⟨_,rfl,_,_,_,_,rfl,.int i,kit_int_bool _,false,rfl,k⟩
theorem ok__law_cell_at (T:Txt K mg A):FnOk P w K mg base (CXw P w) 1 A.f__law_cell_at A.d__law_cell_at ["_law_script","_law_k"] (spAt K):=by
 refine T._law_cell_at.F.okN sc__law_cell_at (λvs H Q E h=>?_) (λcdv AA outer s H vs Q E hr h=>?_)
 ·obtain⟨a,ns,n,rfl,_⟩:=h;rfl
 ·obtain⟨a,ns,n,rfl,ha,hn,k⟩:=h
  refine⟨_,(pss_cons (ps_if (pt_cmpR op_lt (pv 1) (pe_callB call_len_seq rfl T.z_len PySem.boot_len (pa_cons (pv 0) pa_nil)) (nomark _))
   (pss_one (ps_ret (pe_ix ix_list (pv 0) (pv 1) (λ_ _=>rfl))))
   pss_nil)
   (pss_one (ps_ret pe_int))),?_⟩
  try dsimp only[cx_noxK,cx_K]
  refine seq_let1 ?_;intro u_1;refine⟨_,rfl,_,rfl,a,_,rfl,.inl ha,_,_,rfl,rfl,_,rfl,?_⟩;refine ite2 (λh=>?_) (λh=>?_)
  ·have h':(n:Int)<((intV ns).length:Int):=of_decide_eq_true h;rw[ints_len]at h';have e0:ns[n]?=some ns[n]:=List.getElem?_eq_getElem (by omega)
   exact⟨_,rfl,_,rfl,a,_,_,_,rfl,rfl,ha,atI_nat (ints_at e0),k _⟩
  ·exact k _
def spStep:Sp:=λvs H Q _=>∃(z:Int) (L:Nat),vs=[.int z,.int L]/\1<=L/\L<=200/\∀s:Int,s≠0->s.natAbs<=L->Q (.int s) H
theorem ok__law_step (T:Txt K mg A):FnOk P w K mg base (CXw P w) 1 A.f__law_step A.d__law_step ["_law_number","_law_letters"] spStep:=by
 refine T._law_step.F.okN sc__law_step (λvs H Q E h=>?_) (λcdv AA outer s H vs Q E hr h=>?_)
 ·obtain⟨z,L,rfl,_⟩:=h;rfl
 ·obtain⟨z,L,rfl,hL1,hL2,k⟩:=h
  refine⟨_,(pss_cons (ps_if (pt_cmpR op_eq (pe_op op_mod (pv 0) pe_int) pe_int (nomark _))
   (pss_one (ps_ret (pe_un un_neg (pe_op op_add pe_int (pe_op op_mod (pe_op op_fdiv (pv 0) pe_int) (pv 1))))))
   pss_nil)
   (pss_one (ps_ret (pe_op op_add pe_int (pe_op op_mod (pe_op op_fdiv (pv 0) pe_int) (pv 1)))))),?_⟩
  try dsimp only[cx_noxK,cx_K]
  refine seq_let1 ?_;intro u_1;have hm:∀y:Int,0<=y % (L:Int)/\y % (L:Int)<L:=λy=>⟨Int.emod_nonneg _ (by omega),Int.emod_lt_of_pos _ (by omega)⟩
  have h1:=hm (z / 2);refine⟨_,rfl,_,_,rfl,rfl,(by show (0:Int)<2;decide),rfl,_,rfl,ite2 (λh=>?_) (λh=>?_)⟩
  ·refine⟨_,rfl,_,_,rfl,rfl,⟨by decide,by decide⟩,_,rfl,_,_,rfl,rfl,(by show (0:Int)<(L:Int);omega),_,_,rfl,rfl,_,rfl,k _ ?_ ?_⟩ <;> omega
  ·refine⟨_,rfl,_,_,rfl,rfl,⟨by decide,by decide⟩,_,rfl,_,_,rfl,rfl,(by show (0:Int)<(L:Int);omega),_,_,rfl,rfl,k _ ?_ ?_⟩ <;> omega
theorem pap_dt {H:Hp}{t:Addr}{ps:List Addr}{rows:List Dt}(ht:H t=some (.lst (ps.map V.ref)))(h:Each (λp d=>DtAt H 4 (.ref p) d) ps rows):DtAt H 8 (.ref t) (.l rows):=by
 refine .l ht (by rw[List.length_map];exact h.1) λj v d e1 e2=>?_
 rw[List.getElem?_map]at e1
 cases hp:ps[j]? with
 |none=>rw[hp]at e1;cases e1
 |some p=>
  rw[hp]at e1;rw[←Option.some.inj e1];exact(h.2 j p d hp e2).le (by decide)
def Flat (ds:List Dt):Prop:=∀x∈ds,(∃n,x=.i n)\/∃l,x=.s l
theorem flat_t {H:Hp}{p:Addr}{ds:List Dt}{j k:Nat}(hf:Flat ds)(h:DtAt H j (.ref p) (.t ds)):DtAt H (k+ 1) (.ref p) (.t ds):=by
 cases h with
 | @t _ _ vs _ h1 h2 h3=>
   refine .t h1 h2 λj v d e1 e2=>?_
   have q:=h3 j v d e1 e2;rcases hf d (List.mem_of_getElem? e2) with ⟨n,rfl⟩|⟨l,rfl⟩
   ·cases q;exact .i
   ·cases q;exact .s
theorem flat_new (c:Nat)(z:Int)(n:Nat):Flat [.s [110,101,119],.i c,.i z,.i n]:=λx hx=>by
 simp only[List.mem_cons,List.not_mem_nil,or_false]at hx;rcases hx with rfl|rfl|rfl|rfl
 ·exact .inr ⟨_,rfl⟩
 all_goals exact .inl ⟨_,rfl⟩
theorem flat_meet (c:Nat)(z:Int)(u v:Nat):Flat [.s [109,101,101,116],.i c,.i z,.i u,.i v]:=λx hx=>by
 simp only[List.mem_cons,List.not_mem_nil,or_false]at hx;rcases hx with rfl|rfl|rfl|rfl|rfl
 ·exact .inr ⟨_,rfl⟩
 all_goals exact .inl ⟨_,rfl⟩
def FlR (rows:List Dt):Prop:=∀x∈rows,∃ds,x=.t ds/\Flat ds
theorem FlR.snoc {rows:List Dt}(h:FlR rows){ds:List Dt}(hf:Flat ds):FlR (rows++[.t ds]):=λx hx=>by
 rcases List.mem_append.mp hx with q|q
 ·exact h x q
 ·exact⟨ds,List.mem_singleton.mp q,hf⟩
theorem flat_at (n:Int):Flat [.s [115,97,105,100],.i n]:=λx hx=>by
 simp only[List.mem_cons,List.not_mem_nil,or_false]at hx;rcases hx with rfl|rfl
 ·exact .inr ⟨_,rfl⟩
 ·exact .inl ⟨_,rfl⟩
theorem takeOk_of {S:RS}{pend:List Way}{R:Nat->Int->Nat->Prop}{ks:List Int}(g:Good S pend R)(hk:∀a z b,R a z b->z∈ks)(h1:S.made<=100000)(h2:ks.length<=100000)(h3:S.rows.length<=1000000)(h4:S.went.length<=1000000):TakeOk S:=by
 refine⟨g.wf,λc hc=>g.lt hc,λc z d e=>(g.st c z d e).2.1,λc n hn=>g.cb c n hn,λc _=>⟨g.kn c,λq hq=>(g.st c q.1 q.2 (getW_of (g.kn c) hq)).2.1,λq hq _=>?_⟩,⟨h1,λl hl=>?_,h3,h4,λl hl=>?_⟩⟩
 ·rw[g.sy c q.1 q.2 (getW_of (g.kn c) hq)];rfl
 ·obtain⟨c,hc⟩:=List.getElem?_of_mem hl;have:S.way c=l:=by unfold RS.way;rw[List.getD_eq_getElem?_getD,hc];rfl
  rw[←this];exact Nat.le_trans (g.wayLen hk c) h2
 ·obtain⟨c,hc⟩:=List.getElem?_of_mem hl;have:S.cal c=l:=by unfold RS.cal;rw[List.getD_eq_getElem?_getD,hc];rfl
  rw[←this];exact Nat.le_trans (g.calLen c) (by omega)
theorem stand_le (S:RS):S.stand<=S.made:=by
 unfold RS.stand;exact Nat.le_trans List.countP_le_length (by rw[List.length_range];exact Nat.le_refl _)
def LayI (R:Nat->Int->Nat->Prop)(m L B M:Nat)(ks:List Int)(S:RS)(pend:List Way):Prop:=Good S pend R/\S.made=m/\S.L=L/\S.rows.length+ S.stand<=B/\S.went.length+ S.stand<=B/\mu ks.length S pend<=M/\FlR S.rows
theorem layI_step {R:Nat->Int->Nat->Prop}{m L B M:Nat}{ks:List Int}(hk:∀a z b,R a z b->z∈ks)(h1:m<=100000)(h2:ks.length<=100000)(h3:B<=1000000)(h4:M<=1000000)(S:RS)(pend:List Way)(w:Way)(h:LayI R m L B M ks S (pend++[w])):
 TakeOk S/\w.1<S.made/\w.2.2<S.made/\pend.length<=1000000/\LayI R m L B M ks (S.takeIn pend w).1 (S.takeIn pend w).2/\mu ks.length (S.takeIn pend w).1 (S.takeIn pend w).2<mu ks.length S (pend++[w]):=by
 obtain⟨g,e1,e2,e3,e4,e5,e6⟩:=h;obtain⟨a1,a2,a3,a4,a5⟩:=g.take hk;have hw:=g.pl w (List.mem_append_right _ List.mem_cons_self);refine⟨takeOk_of g hk (by omega) h2 (by omega) (by omega),hw.1,hw.2,?_,⟨a1,by rw[a3,e1],by rw[a4,e2],?_,?_,by omega,?_⟩,a2⟩
 ·unfold mu at e5;rw[List.length_append]at e5;omega
 ·rcases a5 with ⟨q1,q2,q3⟩|⟨q1,c,z,x,y,_,_,_,_,_,q2,q3,_⟩
  ·rw[q1,q2];exact e3
  ·rw[q2,List.length_append];have:([rowMeet c z (min x y) (max x y)]:List Dt).length=1:=rfl;omega
 ·rcases a5 with ⟨q1,q2,q3⟩|⟨q1,c,z,x,y,_,_,_,_,_,q2,q3,_⟩
  ·rw[q1,q3];exact e4
  ·rw[q3,List.length_append];have:([max x y]:List Nat).length=1:=rfl;omega
 ·rcases a5 with ⟨q1,q2,q3⟩|⟨q1,c,z,x,y,_,_,_,_,_,q2,q3,_⟩
  ·rw[q2];exact e6
  ·rw[q2];exact e6.snoc (flat_meet _ _ _ _)
theorem stL_mem {L:Nat}{z:Int}:z∈stL (2* L)↔z≠0/\z.natAbs<=L:=by
 unfold stL;rw[List.mem_map];constructor
 ·rintro ⟨i,hi,rfl⟩;exact M12.st_ok (List.mem_range.mp hi)
 ·rintro ⟨h1,h2⟩;by_cases hp:0<z
  ·refine⟨2* (z.toNat - 1),List.mem_range.mpr (by omega),?_⟩;unfold M12.st;rw[if_pos (by omega)];omega
  ·refine⟨2* (z.natAbs - 1)+ 1,List.mem_range.mpr (by omega),?_⟩;unfold M12.st;rw[if_neg (by omega)];omega
theorem stand_make {S:RS}{c:Nat}{z:Int}{g:List Int}(hw:S.Wf):(S.make c z g).stand=S.stand+ 1:=by
 unfold RS.stand;show (List.range (S.made+ 1)).countP _=_;rw[List.range_succ,List.countP_append,List.countP_singleton]
 have e1:(S.make c z g).eld S.made=S.made:=by
  show (S.grown c z g).eld S.made=S.made;rw[eld_grown hw,if_pos rfl]
 rw[show decide ((S.make c z g).eld S.made=S.made)=true from decide_eq_true e1,if_pos rfl]
 congr 1
 refine List.countP_congr λa ha=>?_
 have:(S.make c z g).eld a=S.eld a:=by
  show (S.grown c z g).eld a=S.eld a;rw[eld_grown hw,if_neg (by have:=List.mem_range.mp ha;omega)]
 rw[this]
theorem new_ob {C:Addr}{H H1:Hp}{x dx:Addr}{S:RS}{a:RA}(nx:H x=none)(ndx:H dx=none)(k1:∀b o,upd (upd H dx (.own x)) x (.ins C dx []) b=some o->b≠x->H1 b=some o)(ho:∀b,a.own x b->b=x\/upd (upd H dx (.own x)) x (.ins C dx []) b=none):Same H H1/\∀b,a.own x b->H b=none:=by
 refine⟨λb o e=>k1 b o ?_ (ne_of_none e nx),λb hb=>?_⟩
 ·rw[upd_ne (ne_of_none e nx),upd_ne (ne_of_none e ndx)];exact e
 ·rcases ho b hb with rfl|q
  ·exact nx
  ·by_cases h1:b=x
   ·rw[h1];exact nx
   ·by_cases h2:b=dx
    ·rw[h2];exact ndx
    ·rw[upd_ne h1,upd_ne h2]at q;exact q
theorem own_kind {C:Addr}{H:Hp}{r:Addr}{S:RS}{a:RA}(h:RoomsAt C H r S a){d:Addr}{o:HO}(hd:H d=some o)(h1:∀p q ps,o≠.ins p q ps)(h2:∀xs,o≠.lst xs)(h3:∀xs,o≠.dK xs):¬a.own r d:=λhb=>by
 rcases hb with q|q|q
 ·have:=h.ins;rw[←q,hd]at this;exact h1 _ _ _ (Option.some.inj this)
 ·obtain⟨xs,e⟩:=h.isL q;rw[hd]at e;exact h2 _ (Option.some.inj e)
 ·obtain⟨xs,e⟩:=h.isD q;rw[hd]at e;exact h3 _ (Option.some.inj e)
structure RI (C:Addr) (H:Hp) (L M B:Nat) (r:Addr) (S:RS) (a:RA) (R:Nat->Int->Nat->Prop):Prop where
 rm:RoomsAt C H r S a
 g:Good S [] R
 ks:∀a z b,R a z b->z∈stL (2* L)
 l:S.L=L
 m:S.made<=M
 m1:1<=S.made
 rw_:S.rows.length+ S.stand<=B
 wn:S.went.length+ S.stand<=B
 fl:FlR S.rows
theorem RI.same {C:Addr}{H H':Hp}{L M B:Nat}{r:Addr}{S:RS}{a:RA}{R:Nat->Int->Nat->Prop}(h:RI C H L M B r S a R)(s:Same H H'):RI C H' L M B r S a R:=
 ⟨h.rm.same s,h.g,h.ks,h.l,h.m,h.m1,h.rw_,h.wn,h.fl⟩
theorem RI.up {C:Addr}{H:Hp}{L M B M' B':Nat}{r:Addr}{S:RS}{a:RA}{R:Nat->Int->Nat->Prop}(h:RI C H L M B r S a R)(h1:M<=M')(h2:B<=B'):RI C H L M' B' r S a R:=
 ⟨h.rm,h.g,h.ks,h.l,Nat.le_trans h.m h1,h.m1,Nat.le_trans h.rw_ h2,Nat.le_trans h.wn h2,h.fl⟩
theorem radd_ks {R:Nat->Int->Nat->Prop}{L c d:Nat}{z:Int}(hk:∀a z b,R a z b->z∈stL (2* L))(hz:z≠0/\z.natAbs<=L):∀a' z' e',RAdd R c z d a' z' e'->z'∈stL (2* L):=by
 rintro a' z' e' (h|⟨_,rfl,_⟩|⟨_,rfl,_⟩)
 ·exact hk _ _ _ h
 ·exact stL_mem.mpr hz
 ·exact stL_mem.mpr ⟨by omega,by omega⟩
def plc (z:Int):Int:=if z > 0 then 2* z - 2 else -2* z - 1
theorem plc_st (k:Nat):plc (M12.st k)=k:=by
 unfold plc M12.st;by_cases h:k % 2=0
 ·rw[if_pos h,if_pos (by omega)];omega
 ·rw[if_neg h,if_neg (by omega)];omega
theorem plc_inj {z z':Int}(h:plc z=plc z'):z=z':=by
 unfold plc at h;split at h <;> split at h <;> omega
def spPlace:Sp:=λvs H Q _=>∃z:Int,vs=[.int z]/\Q (.int (plc z)) H
def hdV (l:List Int):V:=(l.head?.map V.int).getD .non
def spFG (C:Addr):Sp:=λvs H Q _=>∃(r:Addr) (S:RS) (a:RA) (c:Nat),vs=[.ref r,.int c]/\RoomsAt C H r S a/\c<S.gaps.length/\Q (hdV (S.gap c)) H
theorem ok_place_of (T:Txt K mg A):FnOk P w K mg base (CXw P w) 1 A.f_place_of A.d_place_of ["step"] spPlace:=by
 refine T.place_of.F.okN sc_place_of (λvs H Q E h=>?_) (λcdv AA outer s H vs Q E hr h=>?_)
 ·obtain⟨z,rfl,_⟩:=h;rfl
 ·obtain⟨z,rfl,k⟩:=h
  refine⟨_,(pss_cons (ps_if (pt_cmpR op_gt (pv 0) pe_int (nomark _))
   (pss_one (ps_ret (pe_op op_sub (pe_op op_mul pe_int (pv 0)) pe_int)))
   pss_nil)
   (pss_one (ps_ret (pe_op op_sub (pe_op op_mul (pe_un un_neg pe_int) (pv 0)) pe_int)))),?_⟩
  try dsimp only[cx_noxK,cx_K]
  refine seq_let1 ?_;intro u_1;refine⟨_,rfl,_,_,rfl,rfl,_,rfl,?_⟩;unfold plc at k;refine ite2 (λh=>?_) (λh=>?_)
  ·rw[if_pos (of_decide_eq_true h)]at k;exact⟨_,rfl,_,_,rfl,rfl,.inl ⟨by decide,by decide⟩,_,_,rfl,rfl,k⟩
  ·rw[if_neg (λq=>h (decide_eq_true q))]at k;exact⟨_,rfl,_,rfl,_,_,rfl,rfl,.inl ⟨by decide,by decide⟩,_,_,rfl,rfl,k⟩
theorem ok_Rooms_first_gap (T:Txt K mg A):FnOk P w K mg base (CXw P w) 1 A.f_Rooms_first_gap A.d_Rooms_first_gap ["self","room"] (spFG A.c_Rooms):=by
 refine T.Rooms_first_gap.F.okN sc_Rooms_first_gap (λvs H Q E h=>?_) (λcdv AA outer s H vs Q E hr h=>?_)
 ·obtain⟨r,S,a,c,rfl,_⟩:=h;rfl
 ·obtain⟨r,S,a,c,rfl,h,hc,k⟩:=h
  refine⟨_,(pss_cons (ps_thaw (ps_for PassesOwn.never rfl (pi_dK (pe_ix ix_list (pe_fld (pv 0) rfl) (pv 1) (λ_ _=>rfl))) (pg_name (i:=2) sc_Rooms_first_gap.nd rfl (Or.inl rfl))
   (pss_one (ps_ret (pv 2)))))
   (pss_one (ps_ret pe_non))),?_⟩
  try dsimp only[cx_noxK,cx_K]
  refine seq_let1 ?_;intro u_1;have hg:=gap_at hc;obtain⟨p,hp,hd⟩:=h.rG.at hg;refine⟨p,.dK (gK (S.gap c)),hd,True.intro,?_⟩;refine⟨_,rfl,r,_,a.dx,_,_,rfl,h.ins,cl_Rooms T,T.n_gaps,lk_gaps _ _ _,_,rfl,a.aG,_,_,_,rfl,rfl,SqL.of h.hG,ref_at hp,p,gK (S.gap c),rfl,hd,λo=>?_⟩
  have back:upd (upd H p (.frz o (.dK (gK (S.gap c))))) p (.dK (gK (S.gap c)))=H:=by
   rw[upd_upd]
   funext b
   by_cases hb:b=p
   ·rw[hb,upd_same,hd]
   ·rw[upd_ne hb]
  refine for_dK (d:=p) (o:=o) (kvs:=gK (S.gap c)) (λi σ H2=>σ=[some (.ref r),some (.int c),none]/\H2=upd H p (.frz o (.dK (gK (S.gap c))))/\i=0) ⟨rfl,rfl,rfl⟩ (λi σ H2 _ q=>by rw[q.2.1];exact upd_same) ?_ ?_
  ·rintro i kv σ H2 hi ⟨rfl,rfl,rfl⟩
   have e:∃z,(S.gap c).head?=some z/\kV kv.1=.int z:=by
    unfold gK at hi;rw[List.getElem?_map]at hi
    cases q:(S.gap c)[0]? with
    |none=>rw[q]at hi;cases hi
    |some z=>
     rw[q]at hi;refine⟨z,by rw[List.head?_eq_getElem?];exact q,?_⟩;rw[←Option.some.inj hi];rfl
   obtain⟨z,e1,e2⟩:=e;rw[e2];refine⟨_,rfl,o,upd_same,?_⟩;rw[back];have:hdV (S.gap c)=.int z:=by unfold hdV;rw[e1];rfl
   rw[←this];exact k
  ·rintro σ H2 ⟨rfl,rfl,e⟩;refine⟨o,upd_same,?_⟩;rw[back];have:S.gap c=[]:=List.eq_nil_of_length_eq_zero (by unfold gK at e;rw[List.length_map]at e;exact e);have e2:hdV (S.gap c)=.non:=by rw[this];rfl
   show Q V.non H;rw[←e2];exact k
def lamPos:Pos:=⟨42,29,42,57⟩
def lamQ:Str:=(PyProof.Rows.envOfC "ByLetters.gap" (defScope s_ByLetters_gap) 0 0 .none).qual++"<lambda>"
def Kp (Pt:Addr)(H H':Hp):Prop:=∀b u,b≠Pt->H b=some u->H' b=some u
theorem Kp.refl {Pt:Addr}{H:Hp}:Kp Pt H H:=λ_ _ _ e=>e
theorem Kp.trans {Pt:Addr}{H H1 H2:Hp}(a:Kp Pt H H1)(b:Kp Pt H1 H2):Kp Pt H H2:=λx u n e=>b x u n (a x u n e)
theorem Kp.same {Pt:Addr}{H H1:Hp}(a:Same H H1):Kp Pt H H1:=λx u _ e=>a x u e
theorem _root_.L2.TabI.same {Pt:Addr}{pos:Pos}{q:Str}{H H':Hp}(h:TabI Pt pos q H)(s:Same H H'):TabI Pt pos q H':=h.keep λb u e _=>s b u e
def GapOf (S:RS)(L c:Nat)(z:Int):Prop:=c<S.made/\S.elders[c]?=some c/\z∈stL (2* L)/\S.by c z=none
def rk (w c:Nat)(z:Int):List Int:=if w=0 then [(c:Int),plc z] else if w=1 then [plc z,(c:Int)] else [-(c:Int),plc z]
def Least (w:Nat)(S:RS)(L c:Nat)(z:Int):Prop:=GapOf S L c z/\∀c' z',GapOf S L c' z'->HT.lexLt (rk w c' z') (rk w c z)=false
structure GL (S:RS) (L:Nat):Prop where
 wf:S.Wf
 m:S.made<=100000
 l2:L<=200
 gp:∀c,c<S.made->S.elders[c]?=some c->S.gap c=(stL (2* L)).filter λz=>(S.by c z).isNone
def spGap (C Pt D:Addr)(w:Nat):Sp:=λvs H Q _=>∃(o dx r:Addr) (S:RS) (a:RA) (L:Nat),vs=[.ref o,.ref r]/\H o=some (.ins D dx [])/\RoomsAt C H r S a/\GL S L/\TabI Pt lamPos lamQ H/\
 ((∀c z,¬GapOf S L c z)->∀H',Kp Pt H H'->TabI Pt lamPos lamQ H'->Q .non H')/\∀(c:Nat) (z:Int),Least w S L c z->∀t H',Kp Pt H H'->TabI Pt lamPos lamQ H'->H' t=some (.tup [.int (c:Int),.int z])->Q (.ref t) H'
def stdG (S:RS):List Nat:=(List.range S.made).filter λc=>decide (S.elders[c]?=some c)
theorem mem_stdG {S:RS}{c:Nat}:c∈stdG S↔c<S.made/\S.elders[c]?=some c:=by
 unfold stdG;rw[List.mem_filter,List.mem_range];simp
theorem stdG_pw (S:RS):(stdG S).Pairwise (·< ·):=List.Pairwise.filter _ List.pairwise_lt_range
theorem st_pw (n:Nat):(stL n).Pairwise λa b=>plc a<plc b:=by
 unfold stL;rw[List.pairwise_map];refine List.Pairwise.imp (λh=>?_) (List.pairwise_lt_range (n:=n));rw[plc_st,plc_st];omega
theorem head_least {l:List Int}(pw:l.Pairwise λa b=>plc a<plc b){z:Int}(h:l.head?=some z):z∈l/\∀y∈l,plc z<=plc y:=by
 cases l with
 |nil=>cases h
 |cons x l=>
  have e:x=z:=Option.some.inj h;subst e;refine⟨List.mem_cons_self,λy hy=>?_⟩;rcases List.mem_cons.mp hy with rfl|hy
  ·exact Int.le_refl _
  ·exact Int.le_of_lt ((List.pairwise_cons.mp pw).1 y hy)
theorem GL.head {S:RS}{L c:Nat}(g:GL S L)(hc:c<S.made)(ec:S.elders[c]?=some c):(∀z,(S.gap c).head?=some z->GapOf S L c z/\∀y,GapOf S L c y->plc z<=plc y)/\((S.gap c).head?=none->∀y,¬GapOf S L c y):=by
 have e:=g.gp c hc ec
 have mem:∀y,GapOf S L c y↔y∈S.gap c:=λy=>by
  rw[e,List.mem_filter];constructor
  ·rintro ⟨_,_,h1,h2⟩;exact⟨h1,by rw[h2];rfl⟩
  ·rintro ⟨h1,h2⟩;exact⟨hc,ec,h1,by simpa using h2⟩
 have pw:(S.gap c).Pairwise λa b=>plc a<plc b:=by rw[e];exact(st_pw _).filter _
 refine⟨λz hz=>?_,λhn y hy=>?_⟩
 ·obtain⟨h1,h2⟩:=head_least pw hz;exact⟨(mem z).mpr h1,λy hy=>h2 y ((mem y).mp hy)⟩
 ·have hy:=(mem y).mp hy
  cases q:S.gap c with
  |nil=>rw[q]at hy;cases hy
  |cons x l=>rw[q]at hn;cases hn
def firstG (S:RS)(cs:List Nat):Option (Nat×Int):=cs.findSome? λc=>(S.gap c).head?.map λz=>(c,z)
theorem firstG_none {S:RS}{cs:List Nat}(h:firstG S cs=none):∀c∈cs,(S.gap c).head?=none:=λc hc=>by
 unfold firstG at h;rw[List.findSome?_eq_none_iff]at h;have:=h c hc
 cases q:(S.gap c).head? with
 |none=>rfl
 |some z=>rw[q]at this;cases this
theorem firstG_some {S:RS}:∀{cs:List Nat} {c:Nat} {z:Int},firstG S cs=some (c,z)->∃i:Nat,cs[i]?=some c/\(S.gap c).head?=some z/\∀j b:Nat,j<i->cs[j]?=some b->(S.gap b).head?=none
 |[],_,_,h=>by cases h
 |x::cs,c,z,h=>by
  unfold firstG at h;rw[List.findSome?_cons]at h
  cases q:(S.gap x).head? with
  |some y=>
   rw[q]at h;have h:(x,y)=(c,z):=Option.some.inj h;injection h with h1 h2
   subst h1 h2;exact⟨0,rfl,q,λj b hj=>absurd hj (Nat.not_lt_zero _)⟩
  |none=>
   rw[q]at h;obtain⟨i,h1,h2,h3⟩:=firstG_some (cs:=cs) h;refine⟨i+ 1,h1,h2,λj b hj hb=>?_⟩
   cases j with
   |zero=>rw[←Option.some.inj hb];exact q
   |succ j=>exact h3 j b (by omega) hb
def spFirst (C:Addr):Sp:=λvs H Q _=>∃(r l:Addr) (S:RS) (a:RA) (cs:List Nat),vs=[.ref r,.ref l]/\RoomsAt C H r S a/\H l=some (.lst (intV (nI cs)))/\(∀c∈cs,c<S.gaps.length)/\(firstG S cs=none->Q .non H)/\∀(c:Nat) (z:Int),firstG S cs=some (c,z)->∀t,H t=none->Q (.ref t) (upd H t (.tup [.int (c:Int),.int z]))
theorem firstG_take {S:RS}{cs:List Nat}{i c:Nat}(hi:cs[i]?=some c)(hn:firstG S (cs.take i)=none):(∀z,(S.gap c).head?=some z->firstG S cs=some (c,z))/\((S.gap c).head?=none->firstG S (cs.take (i+ 1))=none):=by
 have e:cs.take (i+ 1)=cs.take i++[c]:=by rw[List.take_add_one,hi];rfl
 constructor
 ·intro z hz;have e2:cs=cs.take (i+ 1)++cs.drop (i+ 1):=(List.take_append_drop _ _).symm;unfold firstG at hn ⊢;rw[e2,e,List.append_assoc,List.findSome?_append,hn,Option.none_or,List.cons_append,List.findSome?_cons,hz];rfl
 ·intro hz;unfold firstG at hn ⊢;rw[e,List.findSome?_append,hn,Option.none_or,List.findSome?_cons,hz];rfl
theorem ok_first_of (T:Txt K mg A):FnOk P w K mg base (CXw P w) 2 A.f_first_of A.d_first_of ["rooms","some"] (spFirst A.c_Rooms):=by
 have G_Rooms_first_gap:FnOk P w K mg base (CXw P w) 1 A.f_Rooms_first_gap A.d_Rooms_first_gap ["self","room"] (spFG A.c_Rooms):=ok_Rooms_first_gap T;refine T.first_of.F.okN sc_first_of (λvs H Q E h=>?_) (λcdv AA outer s H vs Q E hr h=>?_)
 ·obtain⟨r,l,S,a,cs,rfl,_⟩:=h;rfl
 ·obtain⟨r,l,S,a,cs,rfl,h,hl,hc,kn,ks⟩:=h
  refine⟨_,(pss_cons (ps_for PassesOwn.never rfl (pi_list (pv 1)) (pg_name (i:=2) sc_first_of.nd rfl (Or.inl rfl))
   (pss_cons (ps_set (i:=3) sc_first_of.nd rfl (Or.inl rfl) (pe_meth (pv 0) (cl_Rooms T) T.Rooms_first_gap.m (G_Rooms_first_gap) (hr.mono (by decide)) T.Rooms_first_gap.b .nil passF (pa_cons (pv 2) pa_nil)))
   (pss_one (ps_if (pt_cmpR op_notN (pv 3) pe_non (nomark _))
    (pss_one (ps_ret (pe_tup (pa_cons (pv 2) (pa_cons (pv 3) pa_nil)))))
    pss_nil))))
   (pss_one (ps_ret pe_non))),?_⟩
  try dsimp only[cx_noxK,cx_K]
  refine seq_let1 ?_;intro u_1;refine⟨_,rfl,l,rfl,⟨_,SqL.of hl⟩,?_⟩;refine for_list (K:=K) (a:=l) (xs:=intV (nI cs)) (λi σ H2=>∃v v',σ=[some (.ref r),some (.ref l),v,v']/\H2=H/\firstG S (cs.take i)=none) ⟨none,none,rfl,rfl,rfl⟩ (λi σ H2 _ ⟨_,_,_,e,_⟩=>by rw[e];exact SqL.of hl) ?_ ?_
  ·rintro i x σ H2 hi ⟨v,v',rfl,rfl,hn⟩;obtain⟨z,rfl,hz⟩:=ints_of_at hi
   obtain⟨c,hci,rfl⟩:∃c:Nat,cs[i]?=some c/\z=(c:Int):=by
    unfold nI at hz;rw[List.getElem?_map]at hz
    cases q:cs[i]? with
    |none=>rw[q]at hz;cases hz
    |some c=>rw[q]at hz;exact⟨c,rfl,(Option.some.inj hz).symm⟩
   obtain⟨f1,f2⟩:=firstG_take hci hn;refine⟨_,rfl,r,a.dx,_,rfl,h.ins,rfl,_,rfl,r,S,a,c,rfl,h,hc c (List.mem_of_getElem? hci),?_⟩;refine⟨_,rfl,rfl,_,rfl,?_⟩
   cases hg:(S.gap c).head? with
   |none=>
    have e:hdV (S.gap c)=.non:=by unfold hdV;rw[hg];rfl
    rw[e];exact⟨some (.int c),some .non,rfl,rfl,f2 hg⟩
   |some y=>
    have e:hdV (S.gap c)=.int y:=by unfold hdV;rw[hg];rfl
    rw[e];exact⟨_,rfl,_,rfl,by show 2<=sizeLine;decide,λt ht=>ks c y (f1 y hg) t ht⟩
  ·rintro σ H2 ⟨v,v',rfl,rfl,hn⟩;rw[ints_len,nI_len,List.take_length]at hn;exact kn hn
theorem lex2 {a a' b b':Int}(h:a<a'\/a'=a/\b<=b'):HT.lexLt [a',b'] [a,b]=false:=by
 rw[HT.lexLt_cons,HT.lexLt_cons,HT.lexLt_nil_nil];rcases h with h|⟨rfl,h⟩
 ·rw[if_neg (by omega)];exact decide_eq_false (by omega)
 ·rw[if_pos rfl];split
  ·rfl
  ·exact decide_eq_false (by omega)
theorem lex2_eq {a a' b b':Int}(h1:HT.lexLt [a',b'] [a,b]=false)(h2:HT.lexLt [a,b] [a',b']=false):a'=a/\b'=b:=by
 rw[HT.lexLt_cons,HT.lexLt_cons,HT.lexLt_nil_nil]at h1 h2;by_cases e:a'=a
 ·refine⟨e,?_⟩;rw[if_pos e]at h1;rw[if_pos e.symm]at h2;by_cases e2:b'=b
  ·exact e2
  ·rw[if_neg e2]at h1;rw[if_neg (Ne.symm e2)]at h2;have:=of_decide_eq_false h1;have:=of_decide_eq_false h2;omega
 ·rw[if_neg e]at h1;rw[if_neg (Ne.symm e)]at h2;have:=of_decide_eq_false h1;have:=of_decide_eq_false h2;omega
theorem Least.uni {w:Nat}{S:RS}{L c c':Nat}{z z':Int}(h:Least w S L c z)(h':Least w S L c' z'):c'=c/\z'=z:=by
 have a:=h.2 _ _ h'.1;have b:=h'.2 _ _ h.1;unfold rk at a b;by_cases h0:w=0
 ·rw[if_pos h0,if_pos h0]at a b;obtain⟨e1,e2⟩:=lex2_eq a b;exact⟨by omega,plc_inj e2⟩
 ·rw[if_neg h0,if_neg h0]at a b;by_cases h1:w=1
  ·rw[if_pos h1,if_pos h1]at a b;obtain⟨e1,e2⟩:=lex2_eq a b;exact⟨by omega,plc_inj e1⟩
  ·rw[if_neg h1,if_neg h1]at a b;obtain⟨e1,e2⟩:=lex2_eq a b;exact⟨by omega,plc_inj e2⟩
theorem pw_at {α:Type}{R:α->α->Prop}{l:List α}(pw:l.Pairwise R){i j:Nat}{a b:α}(hij:i<j)(ha:l[i]?=some a)(hb:l[j]?=some b):R a b:=by
 obtain⟨hi,rfl⟩:=List.getElem?_eq_some_iff.mp ha;obtain⟨hj,rfl⟩:=List.getElem?_eq_some_iff.mp hb;exact List.pairwise_iff_getElem.mp pw i j hi hj hij
theorem none_gap {S:RS}{L:Nat}{cs:List Nat}(g:GL S L)(hm:∀c,c∈stdG S->c∈cs)(h:firstG S cs=none):∀c z,¬GapOf S L c z:=λc z hg=>(g.head hg.1 hg.2.1).2 (firstG_none h c (hm c (mem_stdG.mpr ⟨hg.1,hg.2.1⟩))) z hg
theorem first_least {S:RS}{L w c:Nat}{z:Int}{cs:List Nat}(R:Nat->Nat->Prop)(g:GL S L)(hm:∀c,c∈cs↔c∈stdG S)(pw:cs.Pairwise R)(hr:∀a b,R a b->∀y,HT.lexLt (rk w b y) (rk w a z)=false)(hs:∀y,plc z<=plc y->HT.lexLt (rk w c y) (rk w c z)=false)(h:firstG S cs=some (c,z)):Least w S L c z:=by
 obtain⟨i,h1,h2,h3⟩:=firstG_some h;have hc:=mem_stdG.mp ((hm c).mp (List.mem_of_getElem? h1));obtain⟨a1,a2⟩:=(g.head hc.1 hc.2).1 z h2;refine⟨a1,λc' z' hg=>?_⟩;obtain⟨j,hj⟩:=List.getElem?_of_mem ((hm c').mpr (mem_stdG.mpr ⟨hg.1,hg.2.1⟩));rcases Nat.lt_trichotomy i j with q|q|q
 ·exact hr c c' (pw_at pw q h1 hj) z'
 ·subst q;rw[h1]at hj;have e:=Option.some.inj hj;subst e;exact hs z' (a2 z' hg)
 ·exact absurd hg ((g.head hg.1 hg.2.1).2 (h3 j c' q hj) z')
theorem least0 {S:RS}{L c:Nat}{z:Int}(g:GL S L)(h:firstG S (stdG S)=some (c,z)):Least 0 S L c z:=
 first_least (·< ·) g (λ_=>Iff.rfl) (stdG_pw S) (λa b hab y=>lex2 (.inl (by omega))) (λy hy=>lex2 (.inr ⟨rfl,hy⟩)) h
theorem least2 {S:RS}{L c:Nat}{z:Int}(g:GL S L)(h:firstG S (stdG S).reverse=some (c,z)):Least 2 S L c z:=
 first_least (λa b=>b<a) g (λc=>List.mem_reverse) (List.pairwise_reverse.mpr (stdG_pw S)) (λa b hab y=>lex2 (.inl (by omega))) (λy hy=>lex2 (.inr ⟨rfl,hy⟩)) h
theorem ok_Order_gap (T:Txt K mg A):FnOk P w K mg base (CXw P w) 3 A.f_Order_gap A.d_Order_gap ["self","rooms"] (spGap A.c_Rooms A.c_lt A.c_Order 0):=by
 have G_first_of:FnOk P w K mg base (CXw P w) 2 A.f_first_of A.d_first_of ["rooms","some"] (spFirst A.c_Rooms):=ok_first_of T;have G_Rooms_standing:FnOk P w K mg base (CXw P w) 1 A.f_Rooms_standing A.d_Rooms_standing ["self"] (spStanding A.c_Rooms):=ok_Rooms_standing T;refine T.Order_gap.F.okN sc_Order_gap (λvs H Q E h=>?_) (λcdv AA outer s H vs Q E hr h=>?_)
 ·obtain⟨o,dx,r,S,a,L,rfl,_⟩:=h;rfl
 ·obtain⟨o,dx,r,S,a,L,rfl,ho,h,g,hT,kn,ks⟩:=h;refine⟨_,(pss_one (ps_ret (pe_call (G_first_of) (hr.mono (by decide)) rfl T.first_of.m T.first_of.F.kp T.first_of.b .nil passF (pa_cons (pv 1) (pa_cons (pe_meth0 (pv 1) (cl_Rooms T) T.Rooms_standing.m (G_Rooms_standing) (hr.mono (by decide)) T.Rooms_standing.b .nil passF) pa_nil))))),?_⟩
  try dsimp only[cx_noxK,cx_K]
  refine⟨_,rfl,_,rfl,r,a.dx,_,rfl,h.ins,rfl,r,S,a,rfl,h,g.wf,g.m,λl hl=>?_⟩;have s1:Same H (upd H l (.lst (intV (nI (stdG S))))):=Same.upd hl;refine⟨r,l,S,a,stdG S,rfl,h.same s1,upd_same,λc hc=>by rw[g.wf.g];exact(mem_stdG.mp hc).1,λhn=>kn (none_gap g (λ_ h=>h) hn) _ (.same s1) (hT.same s1),λc z hz t ht=>?_⟩;have s2:=Same.upd (o:=.tup [.int (c:Int),.int z]) ht;exact ks c z (least0 g hz) t _ (.same λb u e=>s2 b u (s1 b u e)) ((hT.same s1).same s2) upd_same
theorem ok_Newest_gap (T:Txt K mg A):FnOk P w K mg base (CXw P w) 3 A.f_Newest_gap A.d_Newest_gap ["self","rooms"] (spGap A.c_Rooms A.c_lt A.c_Newest 2):=by
 have G_first_of:FnOk P w K mg base (CXw P w) 2 A.f_first_of A.d_first_of ["rooms","some"] (spFirst A.c_Rooms):=ok_first_of T;have G_Rooms_standing:FnOk P w K mg base (CXw P w) 1 A.f_Rooms_standing A.d_Rooms_standing ["self"] (spStanding A.c_Rooms):=ok_Rooms_standing T;refine T.Newest_gap.F.okN sc_Newest_gap (λvs H Q E h=>?_) (λcdv AA outer s H vs Q E hr h=>?_)
 ·obtain⟨o,dx,r,S,a,L,rfl,_⟩:=h;rfl
 ·obtain⟨o,dx,r,S,a,L,rfl,ho,h,g,hT,kn,ks⟩:=h;refine⟨_,(pss_one (ps_ret (pe_call (G_first_of) (hr.mono (by decide)) rfl T.first_of.m T.first_of.F.kp T.first_of.b .nil passF (pa_cons (pv 1) (pa_cons (pe_listRev rfl rfl T.z_list rfl T.z_reversed (pa_cons (pe_meth0 (pv 1) (cl_Rooms T) T.Rooms_standing.m (G_Rooms_standing) (hr.mono (by decide)) T.Rooms_standing.b .nil passF) pa_nil)) pa_nil))))),?_⟩
  try dsimp only[cx_noxK,cx_K]
  refine⟨_,rfl,_,rfl,r,a.dx,_,rfl,h.ins,rfl,r,S,a,rfl,h,g.wf,g.m,λl hl=>?_⟩;have s1:Same H (upd H l (.lst (intV (nI (stdG S))))):=Same.upd hl;refine⟨l,_,rfl,SqL.of upd_same,λl2 hl2=>?_⟩;have s2:=Same.upd (o:=.lst (intV (nI (stdG S))).reverse) hl2;have s3:Same H (upd (upd H l (.lst (intV (nI (stdG S))))) l2 (.lst (intV (nI (stdG S))).reverse)):=λb u e=>s2 b u (s1 b u e)
  have er:(intV (nI (stdG S))).reverse=intV (nI (stdG S).reverse):=by unfold intV nI;rw[List.map_reverse,List.map_reverse]
  refine⟨r,l2,S,a,(stdG S).reverse,rfl,h.same s3,by rw[←er];exact upd_same,λc hc=>by rw[g.wf.g];exact(mem_stdG.mp (List.mem_reverse.mp hc)).1,λhn=>kn (none_gap g (λ_ h=>List.mem_reverse.mpr h) hn) _ (.same s3) (hT.same s3),λc z hz t ht=>?_⟩;have s4:=Same.upd (o:=.tup [.int (c:Int),.int z]) ht;exact ks c z (least2 g hz) t _ (.same λb u e=>s4 b u (s3 b u e)) ((hT.same s3).same s4) upd_same
def gps (S:RS)(cs:List Nat):List (Nat×Int):=cs.filterMap λc=>(S.gap c).head?.map λz=>(c,z)
theorem mem_gps {S:RS}{cs:List Nat}{c:Nat}{z:Int}:(c,z)∈gps S cs↔c∈cs/\(S.gap c).head?=some z:=by
 unfold gps;rw[List.mem_filterMap];constructor
 ·rintro ⟨b,hb,e⟩
  cases q:(S.gap b).head? with
  |none=>rw[q]at e;cases e
  |some y=>
   rw[q]at e;have e:(b,y)=(c,z):=Option.some.inj e;injection e with e1 e2
   subst e1 e2;exact⟨hb,q⟩
 ·rintro ⟨h1,h2⟩;exact⟨c,h1,by rw[h2];rfl⟩
theorem gps_pw {S:RS}{cs:List Nat}(h:cs.Pairwise (·< ·)):(gps S cs).Pairwise λp q=>p.1<q.1:=by
 unfold gps;refine List.pairwise_filterMap.mpr (h.imp λ{a b} hab p hp q hq=>?_)
 cases e1:(S.gap a).head? with
 |none=>rw[e1]at hp;cases hp
 |some y=>
  cases e2:(S.gap b).head? with
  |none=>rw[e2]at hq;cases hq
  |some x=>
   rw[e1]at hp;rw[e2]at hq;rw[←Option.some.inj hp,←Option.some.inj hq];exact hab
theorem gps_take {S:RS}{cs:List Nat}{i c:Nat}(hi:cs[i]?=some c):gps S (cs.take (i+ 1))=gps S (cs.take i)++((S.gap c).head?.map λz=>(c,z)).toList:=by
 unfold gps;rw[show cs.take (i+ 1)=cs.take i++[c] by rw[List.take_add_one,hi];rfl,List.filterMap_append,List.filterMap_cons,List.filterMap_nil];cases (S.gap c).head? <;> rfl
theorem least1 {S:RS}{L i c:Nat}{z:Int}(g:GL S L)(hi:(gps S (stdG S))[i]?=some (c,z))(hb:∀j c' z',(gps S (stdG S))[j]?=some (c',z')->plc z<=plc z'/\(j<i->plc z<plc z')):Least 1 S L c z:=by
 obtain⟨h1,h2⟩:=mem_gps.mp (List.mem_of_getElem? hi);have hc:=mem_stdG.mp h1;refine⟨((g.head hc.1 hc.2).1 z h2).1,λc' z' hg=>?_⟩;have hd:=g.head hg.1 hg.2.1
 cases q:(S.gap c').head? with
 |none=>exact absurd hg (hd.2 q z')
 |some y=>
  have hy:=(hd.1 y q).2 z' hg;obtain⟨j,hj⟩:=List.getElem?_of_mem (mem_gps.mpr ⟨mem_stdG.mpr ⟨hg.1,hg.2.1⟩,q⟩);obtain⟨b1,b2⟩:=hb j c' y hj;refine lex2 (a:=plc z) (b:=(c:Int)) (a':=plc z') (b':=(c':Int)) ?_;by_cases e:plc z<plc z'
  ·exact .inl e
  ·refine .inr ⟨by omega,?_⟩;rcases Nat.lt_trichotomy i j with k|k|k
   ·have:c<c':=pw_at (gps_pw (stdG_pw S)) k hi hj;omega
   ·subst k;rw[hi]at hj;have:c=c':=congrArg Prod.fst (Option.some.inj hj);omega
   ·have:=b2 k;omega
theorem no_gps {S:RS}{L:Nat}(g:GL S L)(h:gps S (stdG S)=[]):∀c z,¬GapOf S L c z:=λc z hg=>by
 have hd:=g.head hg.1 hg.2.1
 cases q:(S.gap c).head? with
 |none=>exact hd.2 q z hg
 |some y=>
  have:=mem_gps.mpr ⟨mem_stdG.mpr ⟨hg.1,hg.2.1⟩,q⟩;rw[h]at this;cases this
theorem ok_ByLetters_gap (T:Txt K mg A)(hbl:BltB mg base):FnOk P w K mg base (CXw P w) 6 A.f_ByLetters_gap A.d_ByLetters_gap ["self","rooms"] (spGap A.c_Rooms A.c_lt A.c_ByLetters 1):=by
 have G_Rooms_first_gap:FnOk P w K mg base (CXw P w) 1 A.f_Rooms_first_gap A.d_Rooms_first_gap ["self","room"] (spFG A.c_Rooms):=ok_Rooms_first_gap T;have G_Rooms_standing:FnOk P w K mg base (CXw P w) 1 A.f_Rooms_standing A.d_Rooms_standing ["self"] (spStanding A.c_Rooms):=ok_Rooms_standing T;have G_place_of:FnOk P w K mg base (CXw P w) 1 A.f_place_of A.d_place_of ["step"] spPlace:=ok_place_of T;refine T.ByLetters_gap.F.okT T.lam.code sc_ByLetters_gap (λvs H Q E h=>?_) (λAA outer s H vs Q E hr h=>?_)
 ·obtain⟨o,dx,r,S,a,L,rfl,_⟩:=h;rfl
 ·obtain⟨o,dx,r,S,a,L,rfl,ho,h,g,hT,kn,ks⟩:=h
  refine⟨_,(pss_cons (ps_setCompIf (iy:=2) sc_ByLetters_gap.nd rfl (Or.inl rfl) (fns:=["rooms"]) (ixs:=[1]) (cl:=_) rfl (pi_list (pe_meth0 (pv 1) (cl_Rooms T) T.Rooms_standing.m (G_Rooms_standing) (hr.mono (by decide)) T.Rooms_standing.b .nil passF)) (compScope1 rfl rfl (by decide +kernel) rfl (by decide +kernel) rfl (by decide +kernel) (by decide +kernel) rfl rfl rfl rfl) (λC s H ex=>(pt_cmpR op_notN (pe_meth (pv 1) (cl_Rooms T) T.Rooms_first_gap.m (G_Rooms_first_gap) (hr.mono (by decide)) T.Rooms_first_gap.b .nil passF (pa_cons (pv 0) pa_nil)) pe_non (nomark _))) (λC s H ex=>(pe_tup (pa_cons (pv 0) (pa_cons (pe_meth (pv 1) (cl_Rooms T) T.Rooms_first_gap.m (G_Rooms_first_gap) (hr.mono (by decide)) T.Rooms_first_gap.b .nil passF (pa_cons (pv 0) pa_nil)) pa_nil)))))
   (pss_one (ps_ret (pe_minK (x:="gap") (k:=2) rfl rfl T.z_min (pv 2) rfl T.lam.hd rfl rfl hbl (hr.mono (by decide)) ⟨rfl,rfl,rfl,by decide +kernel,rfl,by decide +kernel,by decide +kernel⟩ (λ_ _ _ _=>rfl) (λ_ _ _ _ _ _ hr2=>pe_call (G_place_of) (hr2.mono (by decide)) rfl T.place_of.m T.place_of.F.kp T.place_of.b .nil passF (pa_cons (pe_ix (ix_tupK (K:=K) rfl) (pv 0) pe_int (λ_ _=>rfl)) pa_nil)))))),?_⟩
  try dsimp only[cx_noxK,cx_K]
  refine seq_let1 ?_;intro u_1;refine⟨_,rfl,r,a.dx,_,rfl,h.ins,rfl,r,S,a,rfl,h,g.wf,g.m,λl hl=>?_⟩;have s1:Same H (upd H l (.lst (intV (nI (stdG S))))):=Same.upd hl;have hl1:upd H l (.lst (intV (nI (stdG S)))) l=some (.lst (intV (nI (stdG S)))):=upd_same;rw[show ((List.range S.made).filter λc=>decide (S.elders[c]?=some c))=stdG S from rfl];generalize upd H l (.lst (intV (nI (stdG S))))=H1 at s1 hl1;have h1:=h.same s1;have hT1:=hT.same s1;have hsl:(stdG S).length<=S.made:=Nat.le_trans (List.length_filter_le _ _) (by rw[List.length_range];exact Nat.le_refl _);have hgm:=g.m;have el:(intV (nI (stdG S))).length=(stdG S).length:=by rw[ints_len,nI_len]
  refine⟨l,rfl,⟨_,SqL.of hl1⟩,?_⟩;refine⟨λi m ys H2=>m=(stdG S).length - i/\i<=(stdG S).length/\Same H1 H2/\∃ts:List Addr,ys=ts.map V.ref/\ts.length<=i/\Each (λt (p:Nat×Int)=>H2 t=some (.tup [.int (p.1:Int),.int p.2])) ts (gps S ((stdG S).take i)),⟨(stdG S).length,by simp,Nat.zero_le _,λ_ _ e=>e,[],rfl,Nat.le_refl _,rfl,λi p x e=>by simp at e⟩,?_⟩;rintro i m ys H2 ⟨rfl,hi,s2,ts,rfl,htl,ht⟩;have hl2:=s2 _ _ hl1;have h2:=h1.same s2;by_cases hlt:i<(stdG S).length
  ·refine .inr ⟨itl_go (SqL.of hl2) i (by omega),by rw[List.length_map];exact Nat.lt_of_le_of_lt (Nat.le_trans htl (show i<=100000 by omega)) (by decide),λx H3 hyl=>?_⟩;obtain⟨rfl,hx⟩:=itl_yld (SqL.of hl2) i x H3 (by omega) hyl;obtain⟨z,rfl,hz⟩:=ints_of_at hx
   obtain⟨c,hci,rfl⟩:∃c:Nat,(stdG S)[i]?=some c/\z=(c:Int):=by
    unfold nI at hz;rw[List.getElem?_map]at hz
    cases q:(stdG S)[i]? with
    |none=>rw[q]at hz;cases hz
    |some c=>rw[q]at hz;exact⟨c,rfl,(Option.some.inj hz).symm⟩
   have hcl:c<S.gaps.length:=by rw[g.wf.g];exact(mem_stdG.mp (List.mem_of_getElem? hci)).1
   have et:=gps_take (S:=S) hci;refine⟨_,rfl,r,a.dx,_,rfl,h2.ins,rfl,_,rfl,r,S,a,c,rfl,h2,hcl,rfl,_,rfl,?_⟩
   cases hg:(S.gap c).head? with
   |none=>
    have e:hdV (S.gap c)=.non:=by unfold hdV;rw[hg];rfl
    rw[e];refine⟨(stdG S).length - (i+ 1),by omega,rfl,hlt,s2,ts,rfl,by omega,?_⟩;rw[et,hg];simpa using ht
   |some y=>
    have e:hdV (S.gap c)=.int y:=by unfold hdV;rw[hg];rfl
    rw[e];refine⟨_,rfl,_,rfl,r,a.dx,_,rfl,h2.ins,rfl,_,rfl,r,S,a,c,rfl,h2,hcl,by show 2<=sizeLine;decide,λt hnt=>?_⟩;have s3:=Same.upd (o:=.tup [.int (c:Int),hdV (S.gap c)]) hnt;refine⟨(stdG S).length - (i+ 1),by omega,rfl,hlt,λb u q=>s3 b u (s2 b u q),ts++[t],by rw[List.map_append];rfl,by rw[List.length_append,List.length_singleton];omega,?_⟩;rw[et,hg];refine(ht.imp λp x _ _ q=>s3 _ _ q).snoc ?_;show upd H3 t _ t=_;rw[upd_same,e]
  ·have e:i=(stdG S).length:=by omega
   subst e;rw[List.take_length]at ht;refine .inl ⟨by rw[←el];exact itl_stop (SqL.of hl2),by rw[List.length_map];exact Nat.le_trans htl (Nat.le_trans (show (stdG S).length<=100000 by omega) (by decide)),λD hD=>?_⟩;have s3:=Same.upd (o:=.lst (ts.map V.ref)) hD;have hD3:upd H2 D (.lst (ts.map V.ref)) D=some (.lst (ts.map V.ref)):=upd_same;generalize upd H2 D (.lst (ts.map V.ref))=H3 at s3 hD3;have s13:Same H H3:=λb u q=>s3 b u (s2 b u (s1 b u q))
   refine⟨_,rfl,D,ts.map V.ref,λj=>plc ((gps S (stdG S)).getD j (0,0)).2,rfl,SqL.of hD3,(hT1.same s2).same s3,λH4 hT4 k4=>⟨λj y hy=>?_,λe=>?_,λj y hy hb=>?_⟩⟩
   ·have hjl:j<(gps S (stdG S)).length:=by rw[←ht.1,←List.length_map (f:=V.ref)];exact(List.getElem?_eq_some_iff.mp hy).1
    obtain⟨t,htj,q⟩:=ht.at (List.getElem?_eq_getElem hjl);rw[List.getElem?_map,htj]at hy;have e:=Option.some.inj hy;subst e
    have q4:H4 t=_:=k4 t _ (λz=>by
     have q3:=s3 _ _ q;rcases (hT1.same s2).same s3 with w|⟨_,_,_,_,w,_⟩
     ·rw[z,w]at q3;cases q3
     ·rw[z,w]at q3;cases q3) (s3 _ _ q)
    refine⟨_,rfl,t,_,_,_,rfl,rfl,SqT.of q4,rfl,_,rfl,?_,rfl⟩;show V.int (plc _)=V.int (plc ((gps S (stdG S)).getD j (0,0)).2);rw[List.getD_eq_getElem?_getD,List.getElem?_eq_getElem hjl];rfl
   ·have:ts=[]:=List.map_eq_nil_iff.mp e;have e2:gps S (stdG S)=[]:=List.eq_nil_of_length_eq_zero (by rw[←ht.1,this];rfl);exact kn (no_gps g e2) H4 (λb u n q=>k4 b u n (s13 b u q)) hT4
   ·have hjl:j<(gps S (stdG S)).length:=by rw[←ht.1,←List.length_map (f:=V.ref)];exact(List.getElem?_eq_some_iff.mp hy).1
    have hgj:=List.getElem?_eq_getElem hjl;generalize (gps S (stdG S))[j]=p at hgj;obtain⟨t,htj,q⟩:=ht.at hgj;rw[List.getElem?_map,htj]at hy;have e:=Option.some.inj hy;subst e;have q3:=s3 _ _ q
    have q4:H4 t=_:=k4 t _ (λz=>by
     rcases (hT1.same s2).same s3 with w|⟨_,_,_,_,w,_⟩
     ·rw[z,w]at q3;cases q3
     ·rw[z,w]at q3;cases q3) q3
    have kv:∀{n:Nat} {x:Nat×Int},(gps S (stdG S))[n]?=some x->plc ((gps S (stdG S)).getD n (0,0)).2=plc x.2:=λ{n x} hx=>by rw[List.getD_eq_getElem?_getD,hx];rfl
    refine ks p.1 p.2 (least1 g hgj λn c' z' hn=>?_) t H4 (λb u n q=>k4 b u n (s13 b u q)) hT4 q4;have:=hb n (by rw[List.length_map,ht.1];exact(List.getElem?_eq_some_iff.mp hn).1);dsimp only at this;rw[kv hgj,kv hn]at this;exact this
def tRm:List Nat:=[114,111,111,109,115]
def tLt:List Nat:=[108,101,116,116,101,114,115]
def tNw:List Nat:=[110,101,119,101,115,116]
def New (C:Addr)(H:Hp)(Q:VK):Prop:=∀x d,H x=none->H d=none->d≠x->Q (.ref x) (upd (upd H d (.own x)) x (.ins C d []))
def spOrderBy (cN c0 c1 c2:Addr):Sp:=λvs H Q E=>∃t:List Nat,vs=[.str (tx t)]/\t.length<=100/\(∀c∈t,32<=c/\c<=126)/\(t=tRm->New c0 H Q)/\(t=tLt->New c1 H Q)/\(t=tNw->New c2 H Q)/\(t≠tRm->t≠tLt->t≠tNw->E (.ref cN) none H)
theorem str_dec {a b:List Nat}:(V.str (tx a)=V.str (tx b))↔a=b:=⟨λh=>tx_inj (V.str.inj h),λh=>by rw[h]⟩
theorem ok_order_by (T:Txt K mg A):FnOk P w K mg base (CXw P w) 1 A.f_order_by A.d_order_by ["name"] (spOrderBy A.c_NoOrder A.c_Order A.c_ByLetters A.c_Newest):=by
 refine T.order_by.F.okX sc_order_by (λvs H Q E h=>?_) (λcdv AA outer s H vs Q E hr h=>?_)
 ·obtain⟨t,rfl,_⟩:=h;rfl
 ·obtain⟨t,rfl,hl,ha,k0,k1,k2,kE⟩:=h
  refine⟨_,(pss_cons (ps_if (pt_cmpR op_eq (pv 0) (pe_strX (l:=[114,111,111,109,115]) rfl) (nomark _))
   (pss_one (ps_ret (pe_makeO T.mk_Order T.io_Order T.kc_Order rfl T.m_Order)))
   pss_nil)
   (pss_cons (ps_if (pt_cmpR op_eq (pv 0) (pe_strX (l:=[108,101,116,116,101,114,115]) rfl) (nomark _))
    (pss_one (ps_ret (pe_makeO T.mk_ByLetters T.io_ByLetters T.kc_ByLetters rfl T.m_ByLetters)))
    pss_nil)
   (pss_cons (ps_if (pt_cmpR op_eq (pv 0) (pe_strX (l:=[110,101,119,101,115,116]) rfl) (nomark _))
    (pss_one (ps_ret (pe_makeO T.mk_Newest T.io_Newest T.kc_Newest rfl T.m_Newest)))
    pss_nil)
   (pss_one (ps_raise (E:=E) rfl rfl T.m_NoOrder T.x_NoOrder (pe_joined (pj_cons (pe_strX (l:=[116,104,101,114,101,32,105,115,32,110,111,32,111,114,100,101,114,32]) rfl) (pj_cons (pe_fmtRA (pv 0)) pj_nil))) (λpins σ H s h' e vs I hm q=>leave_made I hm q)))))),?_⟩
  try dsimp only[cx_noxK,cx_K]
  refine seq_let3 ?_;intro u_3 u_2 u_1;refine⟨_,rfl,rfl,_,rfl,?_⟩;refine ite2 (λh=>?_) (λh0=>?_)
  ·exact k0 (str_dec.mp (of_decide_eq_true h))
  refine⟨_,rfl,rfl,_,rfl,?_⟩;refine ite2 (λh=>?_) (λh1=>?_)
  ·exact k1 (str_dec.mp (of_decide_eq_true h))
  refine⟨_,rfl,rfl,_,rfl,?_⟩;refine ite2 (λh=>?_) (λh2=>?_)
  ·exact k2 (str_dec.mp (of_decide_eq_true h))
  refine⟨_,rfl,by decide,_,rfl,t,rfl,ha,by omega,λr hr=>⟨r,rfl,?_,?_,kE (λz=>h0 (decide_eq_true (str_dec.mpr z))) (λz=>h1 (decide_eq_true (str_dec.mpr z))) (λz=>h2 (decide_eq_true (str_dec.mpr z)))⟩⟩
  ·have e:∀n:Nat,n<=100->n+ r.length<=1000000:=λn hn=>by omega
   exact e _ (by decide)
  ·rw[List.length_append];have e:∀n:Nat,n<=100->n+ r.length<=1000000:=λn hn=>by omega
   exact e _ (by decide)
theorem stp (j:Nat):∃v:Int,atI [V.int 1,V.int (-1)] ((0+ (j:Int)) % 2)=some (.int v)/\(1+ (0+ (j:Int)) / 2)* v=M12.st j:=by
 unfold M12.st;by_cases h:j % 2=0
 ·refine⟨1,?_,?_⟩
  ·rw[show (0+ (j:Int)) % 2=((0:Nat):Int) by omega];exact atI_nat rfl
  ·rw[if_pos h];omega
 ·refine⟨-1,?_,?_⟩
  ·rw[show (0+ (j:Int)) % 2=((1:Nat):Int) by omega];exact atI_nat rfl
  ·rw[if_neg h];omega
theorem stL_succ (n:Nat):stL (n+ 1)=stL n++[M12.st n]:=by unfold stL;rw[List.range_succ,List.map_append];rfl
def gu (S:RS)(c n:Nat):List (Nat×Int):=((stL n).filter λz=>(S.by c z).isNone).map λz=>(c,z)
theorem gu_len (S:RS)(c n:Nat):(gu S c n).length<=n:=by
 unfold gu;rw[List.length_map];exact Nat.le_trans (List.length_filter_le _ _) (by rw[stL_len];exact Nat.le_refl _)
theorem gu_some {S:RS}{c n d:Nat}(h:S.by c (M12.st n)=some d):gu S c (n+ 1)=gu S c n:=by
 unfold gu;rw[stL_succ,List.filter_append,List.filter_cons_of_neg (by rw[h];exact λz=>nomatch z),List.filter_nil,List.append_nil]
theorem gu_none {S:RS}{c n:Nat}(h:S.by c (M12.st n)=none):gu S c (n+ 1)=gu S c n++[(c,M12.st n)]:=by
 unfold gu;rw[stL_succ,List.filter_append,List.filter_cons_of_pos (by rw[h];rfl),List.filter_nil,List.map_append];rfl
def allGs (S:RS)(L:Nat)(cs:List Nat):List (Nat×Int):=cs.flatMap λc=>gu S c (2* L)
theorem allGs_len (S:RS)(L:Nat):∀cs:List Nat,(allGs S L cs).length<=cs.length* (2* L)
 |[]=>Nat.zero_le _
 |c::cs=>by
  have h1:=allGs_len S L cs;have h2:=gu_len S c (2* L);unfold allGs at h1 ⊢;rw[List.flatMap_cons,List.length_append,List.length_cons,show (cs.length+ 1)* (2* L)=cs.length* (2* L)+ 2* L from Nat.succ_mul _ _];omega
theorem allGs_take {S:RS}{L i c:Nat}{cs:List Nat}(h:cs[i]?=some c):allGs S L (cs.take (i+ 1))=allGs S L (cs.take i)++gu S c (2* L):=by
 unfold allGs;rw[show cs.take (i+ 1)=cs.take i++[c] by rw[List.take_add_one,h];rfl,List.flatMap_append,List.flatMap_cons,List.flatMap_nil,List.append_nil]
theorem mem_allGs {S:RS}{L c:Nat}{z:Int}:(c,z)∈allGs S L (stdG S)↔GapOf S L c z:=by
 unfold allGs gu GapOf;rw[List.mem_flatMap];constructor
 ·rintro ⟨b,hb,h⟩;obtain⟨y,hy,e⟩:=List.mem_map.mp h;injection e with e1 e2
  subst e1 e2;obtain⟨h1,h2⟩:=List.mem_filter.mp hy;exact⟨(mem_stdG.mp hb).1,(mem_stdG.mp hb).2,h1,by simpa using h2⟩
 ·rintro ⟨h1,h2,h3,h4⟩;exact⟨c,mem_stdG.mpr ⟨h1,h2⟩,List.mem_map.mpr ⟨z,List.mem_filter.mpr ⟨h3,by rw[h4];rfl⟩,rfl⟩⟩
structure FI (H:Hp) (l:Addr) (H':Hp) (ps:List (Nat×Int)):Prop where
 k:∀b u,b≠l->H b=some u->H' b=some u
 f:∃ts:List Addr,H' l=some (.lst (ts.map V.ref))/\Each (λt (p:Nat×Int)=>H' t=some (.tup [.int (p.1:Int),.int (plc p.2),.int p.2])) ts ps
theorem FI.new {H H':Hp}{l q:Addr}{o:HO}{ps:List (Nat×Int)}(h:FI H l H' ps)(hq:H' q=none):FI H l (upd H' q o) ps:=by
 obtain⟨ts,h1,h2⟩:=h.f;have s:=Same.upd (o:=o) hq;exact⟨λb u n e=>s b u (h.k b u n e),ts,s _ _ h1,h2.imp λp x _ _ e=>s _ _ e⟩
theorem FI.add {H H':Hp}{l t:Addr}{ps:List (Nat×Int)}{ts:List Addr}{c:Nat}{z:Int}(h:FI H l H' ps)(h1:H' l=some (.lst (ts.map V.ref)))(h2:Each (λt (p:Nat×Int)=>H' t=some (.tup [.int (p.1:Int),.int (plc p.2),.int p.2])) ts ps)(ht:H' t=none):
 FI H l (upd (upd H' t (.tup [.int (c:Int),.int (plc z),.int z])) l (.lst (ts.map V.ref++[.ref t]))) (ps++[(c,z)]):=by
 have s:=Same.upd (o:=.tup [.int (c:Int),.int (plc z),.int z]) ht;have nl:∀b xs,H' b=some (.tup xs)->b≠l:=λb xs e q=>by rw[q,h1]at e;cases e
 have tl:t≠l:=λq=>by rw[q,h1]at ht;cases ht
 refine⟨λb u n e=>by rw[upd_ne n];exact s b u (h.k b u n e),ts++[t],by rw[upd_same,List.map_append];rfl,(h2.imp λp x _ _ e=>?_).snoc ?_⟩
 ·rw[upd_ne (nl _ _ e)];exact s _ _ e
 ·rw[upd_ne tl,upd_same]
def spLGaps (C:Addr):Sp:=λvs H Q _=>∃(r:Addr) (S:RS) (a:RA) (L:Nat),vs=[.ref r,.int L]/\RoomsAt C H r S a/\S.Wf/\S.made<=1000/\L<=4/\∀l H',Same H H'->H l=none->(∃ts:List Addr,H' l=some (.lst (ts.map V.ref))/\Each (λt (p:Nat×Int)=>H' t=some (.tup [.int (p.1:Int),.int (plc p.2),.int p.2])) ts (allGs S L (stdG S)))->Q (.ref l) H'
theorem ok__law_gaps (T:Txt K mg A):FnOk P w K mg base (CXw P w) 2 A.f__law_gaps A.d__law_gaps ["_law_rooms","_law_letters"] (spLGaps A.c_Rooms):=by
 have G_Rooms_standing:FnOk P w K mg base (CXw P w) 1 A.f_Rooms_standing A.d_Rooms_standing ["self"] (spStanding A.c_Rooms):=ok_Rooms_standing T;have G_Rooms_by:FnOk P w K mg base (CXw P w) 1 A.f_Rooms_by A.d_Rooms_by ["self","room","step"] (spRBy A.c_Rooms):=ok_Rooms_by T;refine T._law_gaps.F.okN sc__law_gaps (λvs H Q E h=>?_) (λcdv AA outer s H vs Q E hr h=>?_)
 ·obtain⟨r,S,a,L,rfl,_⟩:=h;rfl
 ·obtain⟨r,S,a,L,rfl,h,hw,hm,hL,k⟩:=h
  refine⟨_,(pss_cons (ps_set (i:=2) sc__law_gaps.nd rfl (Or.inl rfl) (pe_lst pa_nil))
   (pss_cons (ps_for PassesOwn.never rfl (pi_list (pe_meth0 (pv 0) (cl_Rooms T) T.Rooms_standing.m (G_Rooms_standing) (hr.mono (by decide)) T.Rooms_standing.b .nil passF)) (pg_name (i:=3) sc__law_gaps.nd rfl (Or.inl rfl))
    (pss_one (ps_for PassesOwn.never rfl (pi_range1 rfl T.z_range (pa_cons (pe_op op_mul pe_int (pv 1)) pa_nil)) (pg_name (i:=4) sc__law_gaps.nd rfl (Or.inl rfl))
     (pss_cons (ps_set (i:=5) sc__law_gaps.nd rfl (Or.inl rfl) (pe_op op_mul (pe_op op_add pe_int (pe_op op_fdiv (pv 4) pe_int)) (pe_ix ix_list (pe_lst (pa_cons pe_int (pa_cons (pe_un un_neg pe_int) pa_nil))) (pe_op op_mod (pv 4) pe_int) (λ_ _=>rfl))))
     (pss_one (ps_cut (ps_if (pt_cmpR op_isN (pe_meth (pv 0) (cl_Rooms T) T.Rooms_by.m (G_Rooms_by) (hr.mono (by decide)) T.Rooms_by.b .nil passF (pa_cons (pv 3) (pa_cons (pv 5) pa_nil))) pe_non (nomark _))
      (pss_one (ps_expr (pe_bm PySem.F.plainAttrs_list PySem.F.slot_list_append PySem.F.type_list_append mt_append (pv 2) (pa_cons (pe_tup (pa_cons (pv 3) (pa_cons (pv 4) (pa_cons (pv 5) pa_nil)))) pa_nil))))
      pss_nil)))))))
   (pss_one (ps_ret (pv 2))))),?_⟩
  try dsimp only[cx_noxK,cx_K]
  refine seq_let2 ?_;intro u_2 u_1;refine⟨by show 0<=sizeLine;decide,λl hl=>?_⟩;have s0:=Same.upd (o:=.lst []) hl;have hl0:upd H l (.lst []) l=some (.lst []):=upd_same;generalize upd H l (.lst [])=H0 at s0 hl0;have h0:=h.same s0;have ln:¬a.own r l:=h.mkL hl;refine⟨_,rfl,r,a.dx,_,rfl,h0.ins,rfl,r,S,a,rfl,h0,hw,by omega,λcl hcl=>?_⟩;rw[show ((List.range S.made).filter λc=>decide (S.elders[c]?=some c))=stdG S from rfl];have s1:=Same.upd (o:=.lst (intV (nI (stdG S)))) hcl;have hcl1:upd H0 cl (.lst (intV (nI (stdG S)))) cl=some (.lst (intV (nI (stdG S)))):=upd_same;generalize upd H0 cl (.lst (intV (nI (stdG S))))=H1 at s1 hcl1;have hsl:(stdG S).length<=S.made:=Nat.le_trans (List.length_filter_le _ _) (by rw[List.length_range];exact Nat.le_refl _);have ncl:cl≠l:=λe=>by rw[e,hl0]at hcl;cases hcl
  have rmk:∀{H2:Hp} {ps:List (Nat×Int)},FI H1 l H2 ps->RoomsAt A.c_Rooms H2 r S a:=λ{H2 ps} f=>(h0.same s1).keep (λb o hb e=>f.k b o (λz=>ln (z ▸ hb)) e) λb xs e=>f.k b _ (λz=>by
   rw[z,s1 _ _ hl0]at e;cases e) e
  refine⟨cl,rfl,⟨_,SqL.of hcl1⟩,?_⟩;refine for_list (K:=K) (a:=cl) (xs:=intV (nI (stdG S))) (λi σ H2=>∃v3 v4 v5,σ=[some (.ref r),some (.int L),some (.ref l),v3,v4,v5]/\FI H1 l H2 (allGs S L ((stdG S).take i))) ⟨none,none,none,rfl,λb u _ e=>e,[],s1 _ _ hl0,rfl,λi p x e=>by simp at e⟩ (λi σ H2 _ ⟨_,_,_,_,f⟩=>SqL.of (f.k _ _ ncl hcl1)) ?_ ?_
  ·rintro i x σ H2 hi ⟨v3,v4,v5,rfl,f⟩;obtain⟨z,rfl,hz⟩:=ints_of_at hi
   obtain⟨c,hci,rfl⟩:∃c:Nat,(stdG S)[i]?=some c/\z=(c:Int):=by
    unfold nI at hz;rw[List.getElem?_map]at hz
    cases q:(stdG S)[i]? with
    |none=>rw[q]at hz;cases hz
    |some c=>rw[q]at hz;exact⟨c,rfl,(Option.some.inj hz).symm⟩
   have hcm:=(mem_stdG.mp (List.mem_of_getElem? hci)).1;have hil:=(List.getElem?_eq_some_iff.mp hci).1;refine⟨_,rfl,_,_,rfl,rfl,.inl ⟨by decide,by decide⟩,2* (L:Int),rfl,by omega,by omega,?_⟩;refine for_range (lo:=0) (n:=(2* (L:Int)).toNat) (λj σ H3=>∃v4 v5,σ=[some (.ref r),some (.int L),some (.ref l),some (.int c),v4,v5]/\FI H1 l H3 (allGs S L ((stdG S).take i)++gu S c j)) ⟨v4,v5,rfl,by rw[show gu S c 0=[] from rfl,List.append_nil];exact f⟩ ?_ ?_
   ·rintro j σ H3 hj ⟨v4,v5,rfl,f3⟩;obtain⟨v,hv,hst⟩:=stp j;refine⟨_,rfl,_,_,rfl,rfl,⟨by decide,by decide⟩,_,_,rfl,rfl,_,rfl,by show 2<=sizeLine;decide,λq hq=>?_⟩;refine⟨_,rfl,_,_,rfl,rfl,(by show (0:Int)<2;decide),q,_,_,_,rfl,rfl,SqL.of upd_same,hv,_,_,rfl,rfl,.inl ⟨by omega,by omega⟩,?_⟩;show gName 5 (V.int ((1+ (0+ (j:Int)) / 2)* v)) _ _ _;rw[hst];have f4:=f3.new (o:=.lst [V.int 1,V.int (-1)]) hq;have h4:=rmk f4;generalize upd H3 q (.lst [V.int 1,V.int (-1)])=H4 at f4 h4;refine⟨_,?_,λ_ _ h=>h⟩;refine⟨_,rfl,r,a.dx,_,rfl,h4.ins,rfl,_,rfl,_,rfl,r,S,a,c,M12.st j,rfl,h4,by rw[hw.w];exact hcm,rfl,_,rfl,?_⟩
    cases hb:S.by c (M12.st j) with
    |some d=>
     refine⟨some (.int (0+ (j:Int))),some (.int (M12.st j)),rfl,?_⟩;rw[gu_some hb];exact f4
    |none=>
     obtain⟨ts,t1,t2⟩:=f4.f;refine⟨_,rfl,.inl ⟨rfl,_,SqL.of t1⟩,_,rfl,_,rfl,_,rfl,by show 3<=sizeLine;decide,λt ht=>?_⟩;have tl:t≠l:=λe=>by rw[e,t1]at ht;cases ht
     refine⟨l,_,_,rfl,rfl,by rw[upd_ne tl.symm];exact t1,?_,?_⟩
     ·have e1:=t2.1;have e2:=allGs_len S L ((stdG S).take i);have e3:=gu_len S c j;rw[List.length_append]at e1;rw[List.length_take,Nat.min_eq_left (by omega)]at e2;have e4:i* (2* L)<=1000* 8:=Nat.mul_le_mul (by omega) (by omega);rw[List.length_map];exact Nat.lt_of_le_of_lt (show ts.length<=9000 by omega) (by decide)
     ·refine⟨some (.int (0+ (j:Int))),some (.int (M12.st j)),rfl,?_⟩;rw[gu_none hb,←List.append_assoc];have:=f4.add (c:=c) (z:=M12.st j) t1 t2 ht;rw[plc_st]at this;rw[Int.zero_add];exact this
   ·rintro σ H3 ⟨v4,v5,rfl,f3⟩;rw[show (2* (L:Int)).toNat=2* L by omega,←allGs_take hci]at f3;exact⟨some (.int c),v4,v5,rfl,f3⟩
  ·rintro σ H2 ⟨v3,v4,v5,rfl,f⟩;rw[ints_len,nI_len,List.take_length]at f;exact⟨_,rfl,k l H2 (λb u e=>f.k b u (ne_of_none e hl) (s1 b u (s0 b u e))) hl f.f⟩
def spDue:Sp:=λvs H Q _=>∃(l:Addr) (w:Nat) (ts:List Addr) (ps:List (Nat×Int)),vs=[.ref l,.int w]/\w<3/\H l=some (.lst (ts.map V.ref))/\Each (λt (p:Nat×Int)=>H t=some (.tup [.int (p.1:Int),.int (plc p.2),.int p.2])) ts ps/\
 (ps=[]->∀H',Same H H'->Q .non H')/\∀(c:Nat) (z:Int),(c,z)∈ps->(∀q∈ps,HT.lexLt (rk w q.1 q.2) (rk w c z)=false)->∀t H',Same H H'->H' t=some (.tup [.int (c:Int),.int z])->Q (.ref t) H'
theorem lex_trans {a a' b b':Int}{l:List Int}(h:HT.lexLt [a',b'] [a,b]=true)(h2:∃x y,l=[x,y])(h1:HT.lexLt l [a,b]=false):HT.lexLt l [a',b']=false:=by
 obtain⟨x,y,rfl⟩:=h2;rw[HT.lexLt_cons,HT.lexLt_cons,HT.lexLt_nil_nil]at h h1;refine lex2 ?_;by_cases e:a'=a
 ·rw[if_pos e]at h;by_cases e2:b'=b
  ·rw[if_pos e2]at h;cases h
  ·rw[if_neg e2]at h;have:=of_decide_eq_true h;by_cases e3:x=a
   ·rw[if_pos e3]at h1;by_cases e4:y=b
    ·exact .inr ⟨by omega,by omega⟩
    ·rw[if_neg e4]at h1;have:=of_decide_eq_false h1;exact .inr ⟨by omega,by omega⟩
   ·rw[if_neg e3]at h1;have:=of_decide_eq_false h1;exact .inl (by omega)
 ·rw[if_neg e]at h;have:=of_decide_eq_true h;by_cases e3:x=a
  ·exact .inl (by omega)
  ·rw[if_neg e3]at h1;have:=of_decide_eq_false h1;exact .inl (by omega)
theorem rk_two (w c:Nat)(z:Int):∃x y,rk w c z=[x,y]:=by
 unfold rk;split
 ·exact⟨_,_,rfl⟩
 ·split <;> exact⟨_,_,rfl⟩
theorem rk_irr (w c:Nat)(z:Int):HT.lexLt (rk w c z) (rk w c z)=false:=by
 obtain⟨x,y,e⟩:=rk_two w c z;rw[e];exact lex2 (.inr ⟨rfl,Int.le_refl _⟩)
def DueI (H:Hp)(l:Addr)(w:Nat)(ps:List (Nat×Int))(i:Nat)(σ:St)(H2:Hp):Prop:=∃vf v3 v4 v5 v6,σ=[some (.ref l),some (.int w),some vf,v3,v4,v5,v6]/\Same H H2/\((i=0/\vf=.non)\/∃(c:Nat) (z:Int) (f ra:Addr),vf=.ref f/\H2 f=some (.tup [.ref ra,.int (c:Int),.int z])/\H2 ra=some (.tup (intV (rk w c z)))/\(c,z)∈ps.take i/\∀q∈ps.take i,HT.lexLt (rk w q.1 q.2) (rk w c z)=false)
theorem ok__law_due (T:Txt K mg A):FnOk P w K mg base (CXw P w) 1 A.f__law_due A.d__law_due ["_law_gaps_here","_law_way"] spDue:=by
 refine T._law_due.F.okN sc__law_due (λvs H Q E h=>?_) (λcdv AA outer s H vs Q E hr h=>?_)
 ·obtain⟨l,w,ts,ps,rfl,_⟩:=h;rfl
 ·obtain⟨l,w,ts,ps,rfl,hw,hl,ht,kn,ks⟩:=h;have hu:=Nat.lt_of_succ_lt (hu_of hr)
  refine⟨_,(pss_cons (ps_set (i:=2) sc__law_due.nd rfl (Or.inl rfl) pe_non)
   (pss_cons (ps_for PassesOwn.never rfl (pi_list (pv 0)) (pg_tup rfl (pgs_cons (pg_name (i:=3) sc__law_due.nd rfl (Or.inl rfl)) (pgs_cons (pg_name (i:=4) sc__law_due.nd rfl (Or.inl rfl)) (pgs_cons (pg_name (i:=5) sc__law_due.nd rfl (Or.inl rfl)) pgs_nil))))
    (pss_cons (ps_set (i:=6) sc__law_due.nd rfl (Or.inl rfl) (pe_ix ix_list (pe_lst (pa_cons (pe_tup (pa_cons (pv 3) (pa_cons (pv 4) pa_nil))) (pa_cons (pe_tup (pa_cons (pv 4) (pa_cons (pv 3) pa_nil))) (pa_cons (pe_tup (pa_cons (pe_un un_neg (pv 3)) (pa_cons (pv 4) pa_nil))) pa_nil)))) (pv 1) (λ_ _=>rfl)))
    (pss_one (ps_cut (ps_if (PW.pt (pw_or (pt_cmpR op_isN (pv 2) pe_non (nomark _)) (pw_or1 (pt_cmpR (op_ltT hu) (pv 6) (pe_ix ix_tup (pv 2) pe_int (λ_ _=>rfl)) (nomark _)))))
     (pss_one (ps_set (i:=2) sc__law_due.nd rfl (Or.inl rfl) (pe_tup (pa_cons (pv 6) (pa_cons (pv 3) (pa_cons (pv 5) pa_nil))))))
     pss_nil)))))
   (pss_cons (ps_if (pt_cmpR op_isN (pv 2) pe_non (nomark _))
    (pss_one (ps_ret pe_non))
    pss_nil)
   (pss_one (ps_ret (pe_tup (pa_cons (pe_ix ix_tup (pv 2) pe_int (λ_ _=>rfl)) (pa_cons (pe_ix ix_tup (pv 2) pe_int (λ_ _=>rfl)) pa_nil)))))))),?_⟩
  try dsimp only[cx_noxK,cx_K]
  refine seq_let3 ?_;intro u_3 u_2 u_1;refine⟨_,rfl,l,rfl,⟨_,SqL.of hl⟩,?_⟩;refine for_list (K:=K) (a:=l) (xs:=ts.map V.ref) (DueI H l w ps) ⟨.non,none,none,none,none,rfl,λ_ _ e=>e,.inl ⟨rfl,rfl⟩⟩ (λi σ H2 _ ⟨_,_,_,_,_,_,s2,_⟩=>SqL.of (s2 _ _ hl)) ?_ ?_
  ·rintro i x σ H2 hi ⟨vf,v3,v4,v5,v6,rfl,s2,st⟩
   obtain⟨t,p,rfl,hp,ht2⟩:∃t p,x=V.ref t/\ps[i]?=some p/\H2 t=some (.tup [.int (p.1:Int),.int (plc p.2),.int p.2]):=by
    rw[List.getElem?_map]at hi
    cases q:ts[i]? with
    |none=>rw[q]at hi;cases hi
    |some t=>
     rw[q]at hi;have hil:i<ps.length:=by rw[←ht.1];exact(List.getElem?_eq_some_iff.mp q).1
     exact⟨t,_,(Option.some.inj hi).symm,List.getElem?_eq_getElem hil,s2 _ _ (ht.2 i t _ q (List.getElem?_eq_getElem hil))⟩
   obtain⟨c,z⟩:=p;have etk:ps.take (i+ 1)=ps.take i++[(c,z)]:=by rw[List.take_add_one,hp];rfl
   refine⟨t,_,rfl,SqT.of ht2,rfl,_,_,rfl,_,_,rfl,_,_,rfl,rfl,?_⟩;refine⟨_,rfl,_,rfl,by show 2<=sizeLine;decide,λt1 n1=>?_⟩;refine⟨_,rfl,_,rfl,by show 2<=sizeLine;decide,λt2 n2=>?_⟩;refine⟨_,rfl,_,rfl,_,rfl,by show 2<=sizeLine;decide,λt3 n3=>?_⟩;refine⟨by show 3<=sizeLine;decide,λq nq=>?_⟩;have a1:=Same.upd (o:=.tup [.int (c:Int),.int (plc z)]) n1;have a2:=Same.upd (o:=.tup [.int (plc z),.int (c:Int)]) n2;have a3:=Same.upd (o:=.tup [.int (-(c:Int)),.int (plc z)]) n3;have a4:=Same.upd (o:=.lst [.ref t1,.ref t2,.ref t3]) nq;have q1:=a4 _ _ (a3 _ _ (a2 _ _ (upd_same (H:=H2) (a:=t1) (o:=.tup [.int (c:Int),.int (plc z)]))));have q2:=a4 _ _ (a3 _ _ (upd_same (H:=upd H2 t1 _) (a:=t2) (o:=.tup [.int (plc z),.int (c:Int)])));have q3:=a4 _ _ (upd_same (H:=upd (upd H2 t1 _) t2 _) (a:=t3) (o:=.tup [.int (-(c:Int)),.int (plc z)]));have s5:Same H2 _:=λb u e=>a4 b u (a3 b u (a2 b u (a1 b u e)))
   have hq5:=upd_same (H:=upd (upd (upd H2 t1 (.tup [.int (c:Int),.int (plc z)])) t2 (.tup [.int (plc z),.int (c:Int)])) t3 (.tup [.int (-(c:Int)),.int (plc z)])) (a:=q) (o:=.lst [.ref t1,.ref t2,.ref t3]);generalize upd (upd (upd (upd H2 t1 _) t2 _) t3 _) q _=H5 at q1 q2 q3 s5 hq5
   obtain⟨rt,hrt,h5⟩:∃rt,atI [V.ref t1,V.ref t2,V.ref t3] (w:Int)=some (.ref rt)/\H5 rt=some (.tup (intV (rk w c z))):=by
    rcases (show w=0\/w=1\/w=2 by omega) with rfl|rfl|rfl
    ·exact⟨t1,atI_nat rfl,q1⟩
    ·exact⟨t2,atI_nat rfl,q2⟩
    ·exact⟨t3,atI_nat rfl,q3⟩
   refine⟨_,rfl,q,_,_,_,rfl,rfl,SqL.of hq5,hrt,?_⟩;have s05:Same H H5:=λb u e=>s5 b u (s2 b u e)
   refine⟨_,?_,λ_ _ h=>h⟩
   have put:(∀q∈ps.take i,HT.lexLt (rk w q.1 q.2) (rk w c z)=false)->∀f,H5 f=none->DueI H l w ps (i+ 1) [some (.ref l),some (.int (w:Int)),some (.ref f),some (.int (c:Int)),some (.int (plc z)),some (.int z),some (.ref rt)] (upd H5 f (.tup [.ref rt,.int (c:Int),.int z])):=λhb f hf=>by
    have s6:=Same.upd (o:=.tup [.ref rt,.int (c:Int),.int z]) hf;refine⟨.ref f,_,_,_,_,rfl,λb u e=>s6 b u (s05 b u e),.inr ⟨c,z,f,rt,rfl,upd_same,s6 _ _ h5,by rw[etk];exact List.mem_append_right _ (List.mem_singleton_self _),λq hq=>?_⟩⟩;rw[etk]at hq;rcases List.mem_append.mp hq with hq|hq
    ·exact hb q hq
    ·rw[List.mem_singleton.mp hq];exact rk_irr w c z
   refine⟨_,rfl,rfl,_,rfl,?_⟩;rcases st with ⟨rfl,rfl⟩|⟨c0,z0,f,ra,rfl,hf,hra,hm,hb⟩
   ·refine ite2 (λ_=>?_) (λh=>absurd (decide_eq_true rfl) h);exact⟨_,rfl,_,rfl,_,rfl,by show 3<=sizeLine;decide,λf hf=>put (λq hq=>by cases hq) f hf⟩
   ·refine ite2 (λh=>by have:=of_decide_eq_true h;cases this) (λ_=>?_);refine⟨_,rfl,_,rfl,f,_,_,_,rfl,rfl,SqT.of (s5 _ _ hf),rfl,rt,ra,rk w c z,rk w c0 z0,rfl,rfl,SqT.of h5,SqT.of (s5 _ _ hra),_,rfl,?_⟩;obtain⟨x0,y0,e0⟩:=rk_two w c0 z0;obtain⟨x1,y1,e1⟩:=rk_two w c z;refine ite2 (λh=>?_) (λh=>?_)
    ·refine⟨_,rfl,_,rfl,_,rfl,by show 3<=sizeLine;decide,λf hf=>put (λq hq=>?_) f hf⟩;have:=hb q hq;rw[e0]at this h;rw[e1]at h ⊢;exact lex_trans h (rk_two _ _ _) this
    ·refine⟨.ref f,_,_,_,_,rfl,s05,.inr ⟨c0,z0,f,ra,rfl,s5 _ _ hf,s5 _ _ hra,by rw[etk];exact List.mem_append_left _ hm,λq hq=>?_⟩⟩;rw[etk]at hq;rcases List.mem_append.mp hq with hq|hq
     ·exact hb q hq
     ·rw[List.mem_singleton.mp hq]
      cases e:HT.lexLt (rk w c z) (rk w c0 z0) with
      |false=>rfl
      |true=>exact absurd e h
  ·rintro σ H2 ⟨vf,v3,v4,v5,v6,rfl,s2,st⟩;rw[List.length_map,ht.1,List.take_length]at st;refine⟨_,rfl,rfl,_,rfl,?_⟩;rcases st with ⟨e,rfl⟩|⟨c0,z0,f,ra,rfl,hf,hra,hm,hb⟩
   ·refine ite2 (λ_=>?_) (λh=>absurd (decide_eq_true rfl) h);exact kn (List.eq_nil_of_length_eq_zero e) H2 s2
   ·refine ite2 (λh=>by have:=of_decide_eq_true h;cases this) (λ_=>?_);refine⟨_,rfl,f,_,_,_,rfl,rfl,SqT.of hf,rfl,_,rfl,f,_,_,_,rfl,rfl,SqT.of hf,rfl,by show 2<=sizeLine;decide,λt ht=>?_⟩;exact ks c0 z0 hm hb t _ (λb u e=>Same.upd ht b u (s2 b u e)) upd_same
def vTup (H:Hp)(v:V)(o:Option (Nat×Int)):Prop:=(o=none/\v=.non)\/∃(c:Nat) (z:Int) (t:Addr),o=some (c,z)/\v=.ref t/\H t=some (.tup [.int (c:Int),.int z])
def spRight:Sp:=λvs H Q _=>∃(u v:V) (o:Option (Nat×Int)),vs=[u,v]/\vTup H u o/\vTup H v o/\Q (.bl true) H
theorem ok__law_right (T:Txt K mg A):FnOk P w K mg base (CXw P w) 2 A.f__law_right A.d__law_right ["_law_found","_law_due_here"] spRight:=by
 have G__law_whole:FnOk P w K mg base (CXw P w) 1 A.f__law_whole A.d__law_whole ["_law_found"] spWhole:=ok__law_whole T;refine T._law_right.F.okN sc__law_right (λvs H Q E h=>?_) (λcdv AA outer s H vs Q E hr h=>?_)
 ·obtain⟨u,v,o,rfl,_⟩:=h;rfl
 ·obtain⟨u,v,o,rfl,hu0,hv0,k⟩:=h;have hu:=Nat.lt_of_succ_lt (hu_of hr)
  refine⟨_,(pss_cons (ps_cut (ps_if (PW.pt (pw_or (pt_cmpR op_isN (pv 1) pe_non (nomark _)) (pw_or1 (pt_cmpR op_isN (pv 0) pe_non (nomark _)))))
   (pss_one (ps_ret (pe_and (pe_cmpR op_isN (pv 0) pe_non (nomark _)) (pe_one (pe_cmpR op_isN (pv 1) pe_non (nomark _))))))
   pss_nil))
   (pss_cons (ps_cut (ps_if (PW.pt (pw_or (pt_not (pt_val (pe_callB call_isi rfl T.z_isinstance PyProof.Rows.boot_isinstance (pa_cons (pv 0) (pa_cons (pe_bltn (v:=.ty "tuple") rfl T.z_tuple PyProof.Rows.boot_tuple rfl) pa_nil))))) (pw_or1 (pt_cmpR op_ne (pe_callB call_len_seq rfl T.z_len PySem.boot_len (pa_cons (pv 0) pa_nil)) pe_int (nomark _)))))
    (pss_one (ps_ret pe_bl))
    pss_nil))
   (pss_one (ps_ret (pe_and (pe_call (G__law_whole) (hr.mono (by decide)) rfl T._law_whole.m T._law_whole.F.kp T._law_whole.b .nil passF (pa_cons (pe_ix ix_tup (pv 0) pe_int (λ_ _=>rfl)) pa_nil)) (pe_and (pe_call (G__law_whole) (hr.mono (by decide)) rfl T._law_whole.m T._law_whole.F.kp T._law_whole.b .nil passF (pa_cons (pe_ix ix_tup (pv 0) pe_int (λ_ _=>rfl)) pa_nil)) (pe_one (pe_cmpR (op_eqTI hu) (pv 0) (pv 1) (nomark _))))))))),?_⟩
  try dsimp only[cx_noxK,cx_K]
  refine seq_let2 ?_;intro u_2 u_1;refine⟨_,?_,λ_ _ h=>h⟩;rcases hu0 with ⟨rfl,rfl⟩|⟨c,z,t,rfl,rfl,ht⟩
  ·rcases hv0 with ⟨_,rfl⟩|⟨_,_,_,e,_⟩
   ·refine⟨_,rfl,rfl,_,rfl,?_⟩;refine ite2 (λ_=>?_) (λh=>absurd (decide_eq_true rfl) h);exact⟨_,rfl,rfl,true,rfl,iteT ⟨_,rfl,rfl,k⟩⟩
   ·cases e
  ·rcases hv0 with ⟨e,_⟩|⟨c',z',t',e,rfl,ht'⟩
   ·cases e
   ·injection e with e
    injection e with e1 e2
    subst e1 e2;refine⟨_,rfl,rfl,_,rfl,?_⟩;refine ite2 (λh=>by have:=of_decide_eq_true h;cases this) (λ_=>?_);refine⟨_,rfl,rfl,_,rfl,?_⟩;refine ite2 (λh=>by have:=of_decide_eq_true h;cases this) (λ_=>?_);refine⟨_,?_,λ_ _ h=>h⟩;refine⟨_,rfl,_,_,_,_,rfl,.tup ht,kit_self _ _,true,rfl,iteF ?_⟩;refine⟨_,rfl,t,_,rfl,.inr (SqT.of ht),rfl,_,rfl,?_⟩;refine iteNS rfl ?_;refine⟨_,rfl,t,_,_,_,rfl,rfl,SqT.of ht,rfl,c,rfl,true,rfl,iteT ?_⟩;refine⟨_,rfl,t,_,_,_,rfl,rfl,SqT.of ht,rfl,z,rfl,true,rfl,iteT ?_⟩;refine⟨_,rfl,_,rfl,t,t',[(c:Int),z],[(c:Int),z],rfl,rfl,SqT.of ht,SqT.of ht',?_⟩;rw[decide_eq_true rfl];exact k
def spRefused:Sp:=λvs H Q _=>∃t:List Nat,vs=[.str (tx t)]/\t.length<=100/\(∀c∈t,32<=c/\c<=126)/\t≠tRm/\t≠tLt/\t≠tNw/\∀H',Q (.bl true) H'
theorem ok__law_refused (T:Txt K mg A):FnOk P w K mg base (CXw P w) 2 A.f__law_refused A.d__law_refused ["_law_name"] spRefused:=by
 have G_order_by:FnOk P w K mg base (CXw P w) 1 A.f_order_by A.d_order_by ["name"] (spOrderBy A.c_NoOrder A.c_Order A.c_ByLetters A.c_Newest):=ok_order_by T;refine T._law_refused.F.okN sc__law_refused (λvs H Q E h=>?_) (λcdv AA outer s H vs Q E hr h=>?_)
 ·obtain⟨t,rfl,_⟩:=h;rfl
 ·obtain⟨t,rfl,hl,ha,n0,n1,n2,k⟩:=h
  refine⟨_,(pss_cons (ps_set (i:=1) sc__law_refused.nd rfl (Or.inl rfl) pe_non)
   (pss_cons (ps_cut (ps_try rfl rfl (psx_expr (pex_call (G_order_by) (hr.mono (by decide)) rfl T.order_by.m T.order_by.F.kp T.order_by.b (pa_cons (pv 0) pa_nil)))
    (ph_as (i:=2) sc__law_refused.nd rfl rfl rfl T.m_YardError (λ_=>(pss_one (ps_set (i:=1) sc__law_refused.nd rfl (Or.inl rfl) (pv 2))))
    ph_no)))
   (pss_cons (ps_cut (ps_if (PW.pt (pw_or (pt_not (pt_val (pe_callB call_isiE rfl T.z_isinstance PyProof.Rows.boot_isinstance (pa_cons (pv 1) (pa_cons (pe_glob (v:=.ref A.c_NoOrder) rfl T.m_NoOrder rfl) pa_nil))))) (pw_or1 (pt_not (pt_val (pe_callB call_isiE rfl T.z_isinstance PyProof.Rows.boot_isinstance (pa_cons (pv 1) (pa_cons (pe_bltn (v:=.ty "ValueError") rfl T.z_ValueError boot_VE rfl) pa_nil))))))))
    (pss_one (ps_ret pe_bl))
    pss_nil))
   (pss_cons (ps_cut (ps_if (PW.pt (pw_or (pt_val (pe_callB call_isiE rfl T.z_isinstance PyProof.Rows.boot_isinstance (pa_cons (pv 1) (pa_cons (pe_glob (v:=.ref A.c_NoWord) rfl T.m_NoWord rfl) pa_nil)))) (pw_or1 (pt_val (pe_callB call_isiE rfl T.z_isinstance PyProof.Rows.boot_isinstance (pa_cons (pv 1) (pa_cons (pe_glob (v:=.ref A.c_TooLong) rfl T.m_TooLong rfl) pa_nil)))))))
    (pss_one (ps_ret pe_bl))
    pss_nil))
   (pss_one (ps_ret (pe_and (pe_not (pe_callB call_isiE rfl T.z_isinstance PyProof.Rows.boot_isinstance (pa_cons (pv 1) (pa_cons (pe_glob (v:=.ref A.c_TooMany) rfl T.m_TooMany rfl) pa_nil)))) (pe_one (pe_not (pe_callB call_isiE rfl T.z_isinstance PyProof.Rows.boot_isinstance (pa_cons (pv 1) (pa_cons (pe_glob (v:=.ref A.c_TooGreat) rfl T.m_TooGreat rfl) pa_nil)))))))))))),?_⟩
  try dsimp only[cx_noxK,cx_K]
  refine seq_let4 ?_;intro u_4 u_3 u_2 u_1;refine⟨λ σ' H'=>∃x:Addr,σ'=[some (.str (tx t)),some (.ref x),none]/\H' x=some (ExO x A.c_NoOrder),?_,?_⟩
  ·refine⟨_,rfl,t,rfl,hl,ha,(λe=>absurd e n0),(λe=>absurd e n1),(λe=>absurd e n2),λ_ _ _=>⟨_,rfl,?_⟩⟩;exact⟨true,T.e_T,iteT λx hx=>⟨_,rfl,x,rfl,upd_same⟩⟩
  rintro σ' H1 ⟨x,rfl,hx⟩;have I9:ExcI K A.c_NoOrder:=⟨T.i_T1,T.i_T2,T.i_T3,T.i_T4,T.i5,T.i6,T.i_T7,T.i_T8⟩;refine⟨_,?_,λ_ _ h=>h⟩;refine⟨_,rfl,x,A.c_NoOrder,_,true,rfl,hx,I9,.inl ⟨_,rfl,T.k_N,hx⟩,true,rfl,iteF ?_⟩;refine⟨_,rfl,x,A.c_NoOrder,_,true,rfl,hx,I9,.inl ⟨_,rfl,T.k_V,hx⟩,true,rfl,iteF ?_⟩;refine⟨_,?_,λ_ _ h=>h⟩;refine⟨_,rfl,x,A.c_NoOrder,_,false,rfl,hx,I9,.inl ⟨_,rfl,T.k_NoWord,hx⟩,false,rfl,iteF ?_⟩;refine⟨_,rfl,x,A.c_NoOrder,_,false,rfl,hx,I9,.inl ⟨_,rfl,T.k_TooLong,hx⟩,false,rfl,iteF ?_⟩;refine⟨_,rfl,x,A.c_NoOrder,_,false,rfl,hx,I9,.inl ⟨_,rfl,T.k_TooMany,hx⟩,false,rfl,true,rfl,iteT ?_⟩;exact⟨_,rfl,x,A.c_NoOrder,_,false,rfl,hx,I9,.inl ⟨_,rfl,T.k_TooGreat,hx⟩,false,rfl,k _⟩
structure RG (C:Addr) (H:Hp) (L M B:Nat) (r:Addr) (S:RS) (a:RA) (R:Nat->Int->Nat->Prop):Prop where
 ri:RI C H L M B r S a R
 gi:GapI S R (stL (2* L))
theorem RG.same {C:Addr}{H H':Hp}{L M B:Nat}{r:Addr}{S:RS}{a:RA}{R:Nat->Int->Nat->Prop}(h:RG C H L M B r S a R)(s:Same H H'):RG C H' L M B r S a R:=⟨h.ri.same s,h.gi⟩
theorem RG.keep {C:Addr}{H H':Hp}{L M B:Nat}{r:Addr}{S:RS}{a:RA}{R:Nat->Int->Nat->Prop}(h:RG C H L M B r S a R)(k:∀b o,a.own r b->H b=some o->H' b=some o)(kt:∀b xs,H b=some (.tup xs)->H' b=some (.tup xs)):RG C H' L M B r S a R:=
 ⟨⟨h.ri.rm.keep k kt,h.ri.g,h.ri.ks,h.ri.l,h.ri.m,h.ri.m1,h.ri.rw_,h.ri.wn,h.ri.fl⟩,h.gi⟩
theorem RG.up {C:Addr}{H:Hp}{L M B M' B':Nat}{r:Addr}{S:RS}{a:RA}{R:Nat->Int->Nat->Prop}(h:RG C H L M B r S a R)(h1:M<=M')(h2:B<=B'):RG C H L M' B' r S a R:=⟨h.ri.up h1 h2,h.gi⟩
theorem eld_of {S:RS}{c:Nat}(h:S.elders[c]?=some c):S.eld c=c:=by unfold RS.eld;rw[List.getD_eq_getElem?_getD,h];rfl
theorem RG.gl {C:Addr}{H:Hp}{L M B:Nat}{r:Addr}{S:RS}{a:RA}{R:Nat->Int->Nat->Prop}(h:RG C H L M B r S a R)(hM:M<=1000)(hL:L<=4):GL S L:=
 ⟨h.ri.g.wf,by have:=h.ri.m;omega,by omega,λc hc ec=>h.gi.fin h.ri.g (stL_nd _) hc (eld_of ec)⟩
theorem lay_rg {C x:Addr}{H:Hp}{L M B:Nat}{S:RS}{a:RA}{R:Nat->Int->Nat->Prop}{t:Addr}{c b:Nat}{s:Int}(z:Int)(kg:RG C H L M B x S a R)(hM:M<=1000)(hB:B<=10000)(hL3:L<=4)(hc1:c<S.made)(hb1:b<S.made)(hs:s≠0/\s.natAbs<=L)(nt:H t=none)
 :∃(row:Dt) (I:RS->List Way->Prop) (μ:RS->List Way->Nat),RoomsAt C (upd H t (.tup [.str (tx [115,97,105,100]),.int z])) x S a/\S.rows.length<=1000000/\DtAt (upd H t (.tup [.str (tx [115,97,105,100]),.int z])) 1 (.ref t) row/\NoL row/\I { S with rows:=S.rows++[row] } [(c,s,b)]/\(∀S pend w,I S (pend++[w])->TakeOk S/\w.1<S.made/\w.2.2<S.made/\pend.length<=1000000/\I (S.takeIn pend w).1 (S.takeIn pend w).2/\μ (S.takeIn pend w).1 (S.takeIn pend w).2 < μ S (pend++[w]))/\
  ∀S' a' H',RoomsAt C H' x S' a'->I S' []->RG C H' L M (B+ 1) x S' a' (RAdd R c s b):=by
 have ki:=kg.ri;have s9:=Same.upd (o:=.tup [.str (tx [115,97,105,100]),.int z]) nt;have ht9:upd H t (.tup [.str (tx [115,97,105,100]),.int z]) t=some (.tup [.str (tx [115,97,105,100]),.int z]):=upd_same;have ki9:=ki.same s9;have hks:=radd_ks (c:=c) (d:=b) ki.ks hs;generalize upd H t (.tup [.str (tx [115,97,105,100]),.int z])=H9 at s9 ht9 ki9 ⊢;have hstl:(stL (2* L)).length<=8:=by rw[stL_len];omega
 have hsd:=stand_le S;have hrw:=ki.rw_;have hwn:=ki.wn;have hm:=ki.m;refine⟨.t [.s [115,97,105,100],.i z],λS' p'=>LayI (RAdd R c s b) S.made L (B+ 1) (mu (stL (2* L)).length S [(c,s,b)]) (stL (2* L)) S' p'/\GapI S' (RAdd R c s b) (stL (2* L)),mu (stL (2* L)).length,ki9.rm,by omega,?_,?_,⟨⟨ki.g.lay s hc1 hb1 _,rfl,ki.l,?_,?_,Nat.le_refl _,ki.fl.snoc (flat_at _)⟩,(kg.gi.more λa z b h=>.inl h).rows _⟩,λS' pend w hI=>?_,λS' a' H10 h10 i10=>?_⟩
 ·refine .t ht9 rfl λj v dd e1 e2=>?_
  rcases j with _|_|j
  ·simp at e1 e2;subst e1 e2;exact .s
  ·simp at e1 e2;subst e1 e2;exact .i
  ·simp at e1
 ·refine .t (by show 2<=100000;decide) λdd hdd=>?_
  simp only[List.mem_cons,List.not_mem_nil,or_false]at hdd;rcases hdd with rfl|rfl
  ·exact .s
  ·exact .i
 ·show (S.rows++[_]).length+ S.stand<=B+ 1;rw[List.length_append,List.length_singleton];omega
 ·show S.went.length+ S.stand<=B+ 1;omega
 ·have hmu:mu (stL (2* L)).length S [(c,s,b)]<=1000000:=by
   unfold mu;have:S.stand* ((stL (2* L)).length+ 1)<=1000* 9:=Nat.mul_le_mul (by omega) (by omega);have e1:([(c,s,b)]:List Way).length=1:=rfl;omega
  obtain⟨q1,q2,q3,q4,q5,q6⟩:=layI_step hks (by omega) (by omega) (by omega) hmu S' pend w hI.1;exact⟨q1,q2,q3,q4,⟨q5,hI.2.take hI.1.1⟩,q6⟩
 ·obtain⟨⟨g',m',l',r',w',_,f'⟩,gi'⟩:=i10;exact⟨⟨h10,g',hks,l',by omega,by have:=ki.m1;omega,by omega,by omega,f'⟩,gi'⟩
theorem make_rg {C x:Addr}{H:Hp}{L M B:Nat}{S:RS}{a:RA}{R:Nat->Int->Nat->Prop}{c:Nat}{s:Int}(kg:RG C H L M B x S a R)(hL3:L<=4)(hc1:c<S.made)(hc2:S.eld c=c)(hby:S.by c s=none)(hs:s≠0/\s.natAbs<=L)
 :(∀l∈S.ways,l.length<=100000)/\∀a' H',RoomsAt C H' x (S.make c s (stL (2* S.L))) a'->RG C H' L (M+ 1) (B+ 2) x (S.make c s (stL (2* S.L))) a' (RAdd R c s S.made):=by
 have ki:=kg.ri;have hm:=ki.m;have hrw:=ki.rw_;have hwn:=ki.wn;have hstl:(stL (2* L)).length<=8:=by rw[stL_len];omega
 refine⟨λq hq=>?_,λa' H16 h16=>⟨⟨h16,ki.g.make hc1 hc2 hby (stL (2* S.L)),radd_ks ki.ks hs,ki.l,by show S.made+ 1<=M+ 1;omega,by show 1<=S.made+ 1;omega,?_,?_,ki.fl.snoc (flat_new _ _ _)⟩,?_⟩⟩
 ·obtain⟨j,hj⟩:=List.getElem?_of_mem hq;have:S.way j=q:=by unfold RS.way;rw[List.getD_eq_getElem?_getD,hj];rfl
  rw[←this];exact Nat.le_trans (ki.g.wayLen ki.ks j) (by omega)
 ·rw[stand_make ki.g.wf];show (S.rows++[_]).length+ (S.stand+ 1)<=B+ 2;rw[List.length_append,List.length_singleton];omega
 ·rw[stand_make ki.g.wf];show S.went.length+ (S.stand+ 1)<=B+ 2;omega
 ·rw[ki.l]
  exact kg.gi.make ki.g hc1 hc2 hby
theorem std_ne {C:Addr}{H:Hp}{L M B:Nat}{r:Addr}{S:RS}{a:RA}{R:Nat->Int->Nat->Prop}(h:RG C H L M B r S a R):0<(stdG S).length:=by
 have h1:=h.ri.m1;have e:=(h.ri.g.el 0 (by omega)).1;have e2:=eld_at (S:=S) (c:=0) (by rw[h.ri.g.wf.e];omega);rw[show S.eld 0=0 by omega]at e2;exact List.length_pos_of_mem (mem_stdG.mpr ⟨by omega,e2⟩)
theorem std_at {S:RS}(h:0<(stdG S).length)(n:Int):∃c:Nat,c∈stdG S/\atI (intV (nI (stdG S))) (n % ((stdG S).length:Int))=some (.int (c:Int)):=by
 have h1:=Int.emod_nonneg n (show ((stdG S).length:Int)≠0 by omega);have h2:=Int.emod_lt_of_pos n (show (0:Int)<(stdG S).length by omega);obtain⟨k,hk⟩:∃k:Nat,n % ((stdG S).length:Int)=(k:Int):=⟨(n % ((stdG S).length:Int)).toNat,by omega⟩;have hkl:k<(stdG S).length:=by omega
 have e:=List.getElem?_eq_getElem hkl;exact⟨_,List.mem_of_getElem? e,by rw[hk];exact atI_nat (ints_at (nI_get e))⟩
def spDeed (C:Addr):Sp:=λvs H Q _=>∃(r:Addr) (S:RS) (a:RA) (R:Nat->Int->Nat->Prop) (L M B:Nat) (z i:Int),vs=[.ref r,.int L,.int z,.int i]/\RG C H L M B r S a R/\1<=L/\L<=4/\M<=500/\B<=5000/\
 ∀S' a' R' H',ButO a r H H'->RG C H' L (M+ 1) (B+ 2) r S' a' R'->(∀b,a'.own r b->a.own r b\/H b=none)->Q .non H'
theorem ok__law_deed (T:Txt K mg A):FnOk P w K mg base (CXw P w) 5 A.f__law_deed A.d__law_deed ["_law_rooms","_law_letters","_law_cell","_law_at"] (spDeed A.c_Rooms):=by
 have G_Rooms_standing:FnOk P w K mg base (CXw P w) 1 A.f_Rooms_standing A.d_Rooms_standing ["self"] (spStanding A.c_Rooms):=ok_Rooms_standing T;have G__law_step:FnOk P w K mg base (CXw P w) 1 A.f__law_step A.d__law_step ["_law_number","_law_letters"] spStep:=ok__law_step T;have G_Rooms_lay:FnOk P w K mg base (CXw P w) 4 A.f_Rooms_lay A.d_Rooms_lay ["self","room","step","other","row"] (spLay A.c_Rooms):=ok_Rooms_lay T;have G_Rooms_by:FnOk P w K mg base (CXw P w) 1 A.f_Rooms_by A.d_Rooms_by ["self","room","step"] (spRBy A.c_Rooms):=ok_Rooms_by T;have G_Rooms_make:FnOk P w K mg base (CXw P w) 3 A.f_Rooms_make A.d_Rooms_make ["self","room","step"] (spMake A.c_Rooms):=ok_Rooms_make T;refine T._law_deed.F.okN sc__law_deed (λvs H Q E h=>?_) (λcdv AA outer s H vs Q E hr h=>?_)
 ·obtain⟨r,S,a,R,L,M,B,z,i,rfl,_⟩:=h;rfl
 ·obtain⟨r,S,a,R,L,M,B,z,i,rfl,h,hL1,hL4,hM,hB,k⟩:=h
  refine⟨_,(pss_cons (ps_set (i:=4) sc__law_deed.nd rfl (Or.inl rfl) (pe_meth0 (pv 0) (cl_Rooms T) T.Rooms_standing.m (G_Rooms_standing) (hr.mono (by decide)) T.Rooms_standing.b .nil passF))
   (pss_cons (ps_set (i:=5) sc__law_deed.nd rfl (Or.inl rfl) (pe_ix ix_list (pv 4) (pe_op op_mod (pe_op op_mod (pe_op op_mul (pe_op op_fdiv (pv 2) pe_int) pe_int) pe_int) (pe_callB call_len_seq rfl T.z_len PySem.boot_len (pa_cons (pv 4) pa_nil))) (λ_ _=>rfl)))
   (pss_cons (ps_set (i:=6) sc__law_deed.nd rfl (Or.inl rfl) (pe_call (G__law_step) (hr.mono (by decide)) rfl T._law_step.m T._law_step.F.kp T._law_step.b .nil passF (pa_cons (pe_op op_mod (pe_op op_mul (pe_op op_add (pe_op op_fdiv (pv 2) pe_int) (pv 3)) pe_int) pe_int) (pa_cons (pv 1) pa_nil))))
   (pss_one (ps_cut (ps_if (pt_cmpR op_eq (pe_op op_mod (pv 2) pe_int) pe_int (nomark _))
    (pss_one (ps_expr (pe_meth (pv 0) (cl_Rooms T) T.Rooms_lay.m (G_Rooms_lay) (hr.mono (by decide)) T.Rooms_lay.b .nil passF (pa_cons (pv 5) (pa_cons (pv 6) (pa_cons (pe_ix ix_list (pv 4) (pe_op op_mod (pe_op op_mod (pe_op op_mul (pe_op op_fdiv (pv 2) pe_int) pe_int) pe_int) (pe_callB call_len_seq rfl T.z_len PySem.boot_len (pa_cons (pv 4) pa_nil))) (λ_ _=>rfl)) (pa_cons (pe_tup (pa_cons (pe_strX (l:=[115,97,105,100]) rfl) (pa_cons (pv 3) pa_nil))) pa_nil)))))))
    (pss_one (ps_cut (ps_if (pt_cmpR op_isN (pe_meth (pv 0) (cl_Rooms T) T.Rooms_by.m (G_Rooms_by) (hr.mono (by decide)) T.Rooms_by.b .nil passF (pa_cons (pv 5) (pa_cons (pv 6) pa_nil))) pe_non (nomark _))
     (pss_one (ps_expr (pe_meth (pv 0) (cl_Rooms T) T.Rooms_make.m (G_Rooms_make) (hr.mono (by decide)) T.Rooms_make.b .nil passF (pa_cons (pv 5) (pa_cons (pv 6) pa_nil)))))
     pss_nil))))))))),?_⟩
  try dsimp only[cx_noxK,cx_K]
  refine seq_let3 ?_;intro u_3 u_2 u_1;have hg:=h.gl (by omega) hL4;have hm:=h.ri.m;have hrw:=h.ri.rw_;refine⟨_,rfl,r,a.dx,_,rfl,h.ri.rm.ins,rfl,r,S,a,rfl,h.ri.rm,hg.wf,hg.m,λl hl=>?_⟩;rw[show ((List.range S.made).filter λc=>decide (S.elders[c]?=some c))=stdG S from rfl];have s1:=Same.upd (o:=.lst (intV (nI (stdG S)))) hl;have hl1:upd H l (.lst (intV (nI (stdG S)))) l=some (.lst (intV (nI (stdG S)))):=upd_same;generalize upd H l (.lst (intV (nI (stdG S))))=H1 at s1 hl1;have h1:=h.same s1;have hpos:=std_ne h;have el:((intV (nI (stdG S))).length:Int)=((stdG S).length:Int):=by rw[ints_len,nI_len]
  obtain⟨c,hc,hat⟩:=std_at hpos (z / 3* 48271 % 2147483647);refine⟨_,rfl,_,rfl,_,_,rfl,rfl,⟨by decide,by decide⟩,_,_,rfl,rfl,.inr ⟨by decide,by decide⟩,_,_,rfl,rfl,(by show (0:Int)<2147483647;decide),_,rfl,l,_,rfl,.inl (SqL.of hl1),_,_,rfl,rfl,(by rw[el];omega),l,_,_,_,rfl,rfl,SqL.of hl1,(by rw[el];exact hat),?_⟩;refine⟨_,rfl,_,_,rfl,rfl,⟨by decide,by decide⟩,_,rfl,_,_,rfl,rfl,_,_,rfl,rfl,.inr ⟨by decide,by decide⟩,_,_,rfl,rfl,(by show (0:Int)<2147483629;decide),_,rfl,_,L,rfl,hL1,by omega,λs hs1 hs2=>?_⟩;obtain⟨hcm,hce⟩:=mem_stdG.mp hc;refine⟨_,?_,λ_ _ h=>h⟩;refine⟨_,rfl,_,_,rfl,rfl,(by show (0:Int)<9;decide),rfl,_,rfl,?_⟩;refine ite2 (λ_=>?_) (λ_=>?_)
  ·obtain⟨d,hd,hat2⟩:=std_at hpos (z / 7* 40692 % 2147483399);obtain⟨hdm,hde⟩:=mem_stdG.mp hd;refine⟨_,rfl,r,a.dx,_,rfl,h1.ri.rm.ins,rfl,_,rfl,_,rfl,?_⟩;refine⟨_,rfl,_,rfl,_,_,rfl,rfl,⟨by decide,by decide⟩,_,_,rfl,rfl,.inr ⟨by decide,by decide⟩,_,_,rfl,rfl,(by show (0:Int)<2147483399;decide),_,rfl,l,_,rfl,.inl (SqL.of hl1),_,_,rfl,rfl,(by rw[el];omega),l,_,_,_,rfl,rfl,SqL.of hl1,(by rw[el];exact hat2),?_⟩;refine⟨_,rfl,by show 2<=sizeLine;decide,λt ht=>?_⟩;obtain⟨row,I,μ,p1,p2,p3,p4,p5,p6,p7⟩:=lay_rg i h1 (by omega) (by omega) hL4 hcm hdm ⟨hs1,hs2⟩ ht;have s2:=Same.upd (o:=.tup [.str (tx [115,97,105,100]),.int i]) ht;refine⟨r,t,S,a,c,d,s,row,I,μ,rfl,p1,p2,p3,p4,p5,p6,λS' a' H' b1 b2 b3 b4=>?_⟩;refine k S' a' _ H' (λb o hb e=>b1 b o hb (s2 b o (s1 b o e))) ((p7 S' a' H' b2 b3).up (by omega) (by omega)) λb hb=>(b4 b hb).imp id λe=>?_
   cases q:H b with
   |none=>rfl
   |some u=>rw[s2 b u (s1 b u q)]at e;cases e
  ·refine⟨_,?_,λ_ _ h=>h⟩;refine⟨_,rfl,r,a.dx,_,rfl,h1.ri.rm.ins,rfl,_,rfl,_,rfl,r,S,a,c,s,rfl,h1.ri.rm,by rw[hg.wf.w];exact hcm,rfl,_,rfl,?_⟩;have stay:∀H',Same H H'->Q .non H':=λH' s'=>k S a R H' (λb o _ e=>s' b o e) ((h.same s').up (by omega) (by omega)) λb hb=>.inl hb
   cases hb:S.by c s with
   |some e=>exact stay H1 s1
   |none=>
    obtain⟨m1,m2⟩:=make_rg h1 hL4 hcm (eld_of hce) hb ⟨hs1,hs2⟩;refine⟨_,rfl,r,a.dx,_,rfl,h1.ri.rm.ins,rfl,_,rfl,_,rfl,r,S,a,c,s,rfl,h1.ri.rm,hg.wf,by rw[h.ri.l];exact hL1,by rw[h.ri.l];omega,hcm,hg.m,by omega,m1,λa' H' b1 b2 b4=>?_⟩;refine k _ a' _ H' (λb o hb e=>b1 b o hb (s1 b o e)) (m2 a' H' b2) λb hb=>(b4 b hb).imp id λe=>?_
    cases q:H b with
    |none=>rfl
    |some u=>rw[s1 b u q]at e;cases e
theorem Kp.at {Pt:Addr}{pos:Pos}{q:Str}{H H':Hp}(k:Kp Pt H H')(t:TabI Pt pos q H){b:Addr}{u:HO}(e:H b=some u)(n:∀ps,u≠.tbl ps):H' b=some u:=k b u (λz=>by
 rcases t with w|⟨_,_,_,_,w,_⟩
 ·rw[z,w]at e;exact n _ (Option.some.inj e).symm
 ·rw[z,w]at e;exact n _ (Option.some.inj e).symm) e
theorem RG.kp {C Pt:Addr}{pos:Pos}{q:Str}{H H':Hp}{L M B:Nat}{r:Addr}{S:RS}{a:RA}{R:Nat->Int->Nat->Prop}(h:RG C H L M B r S a R)(t:TabI Pt pos q H)(k:Kp Pt H H'):RG C H' L M B r S a R:=by
 refine h.keep (λb o hb e=>?_) λb xs e=>k.at t e λps z=>nomatch z
 refine k b o (λz=>?_) e;rcases t with w|⟨_,_,_,_,w,_⟩
 ·exact own_kind h.ri.rm w (λ_ _ _ z=>nomatch z) (λ_ z=>nomatch z) (λ_ z=>nomatch z) (z ▸ hb)
 ·exact own_kind h.ri.rm w (λ_ _ _ z=>nomatch z) (λ_ z=>nomatch z) (λ_ z=>nomatch z) (z ▸ hb)
def Ans (S:RS)(L w:Nat)(H:Hp)(v:V):Prop:=(v=.non/\∀c z,¬GapOf S L c z)\/∃(c:Nat) (z:Int) (t:Addr),v=.ref t/\Least w S L c z/\H t=some (.tup [.int (c:Int),.int z])
theorem gap_ok {C Pt D o d r:Addr}{w L:Nat}{H:Hp}{S:RS}{a:RA}{Q:VK}{E:XK}(ho:H o=some (.ins D d []))(h:RoomsAt C H r S a)(g:GL S L)(hT:TabI Pt lamPos lamQ H)(k:∀v H',Kp Pt H H'->TabI Pt lamPos lamQ H'->Ans S L w H' v->Q v H'):spGap C Pt D w [.ref o,.ref r] H Q E:=
 ⟨o,d,r,S,a,L,rfl,ho,h,g,hT,λhn H' k1 k2=>k _ H' k1 k2 (.inl ⟨rfl,hn⟩),λc z hl t H' k1 k2 ht=>k _ H' k1 k2 (.inr ⟨c,z,t,rfl,hl,ht⟩)⟩
theorem due_ok {L w:Nat}{gl:Addr}{ts:List Addr}{H:Hp}{S:RS}{Q:VK}{E E':XK}{v:V}(hw:w<3)(hg:H gl=some (.lst (ts.map V.ref)))(ht:Each (λt (p:Nat×Int)=>H t=some (.tup [.int (p.1:Int),.int (plc p.2),.int p.2])) ts (allGs S L (stdG S)))(hv:Ans S L w H v)
 (k:∀H',Same H H'->Q (.bl true) H'):spDue [.ref gl,.int w] H (λv2 H'=>spRight [v,v2] H' Q E') E:=by
 refine⟨gl,w,ts,_,rfl,hw,hg,ht,λe H' s=>?_,λc z hm hb t H' s ht'=>?_⟩
 ·rcases hv with ⟨rfl,hn⟩|⟨c,z,t,rfl,hl,_⟩
  ·exact⟨.non,.non,none,rfl,.inl ⟨rfl,rfl⟩,.inl ⟨rfl,rfl⟩,k H' s⟩
  ·have:=mem_allGs.mpr hl.1;rw[e]at this;cases this
 ·have hl:Least w S L c z:=⟨mem_allGs.mp hm,λc' z' hg'=>hb _ (mem_allGs.mpr hg')⟩;rcases hv with ⟨rfl,hn⟩|⟨c',z',t',rfl,hl',h'⟩
  ·exact absurd hl.1 (hn c z)
  ·obtain⟨rfl,rfl⟩:=hl.uni hl';exact⟨.ref t',.ref t,some (_,_),rfl,.inr ⟨_,_,t',rfl,rfl,s _ _ h'⟩,.inr ⟨_,_,t,rfl,rfl,ht'⟩,k H' s⟩
def spAsked (C Pt c0 c1 c2:Addr):Sp:=λvs H Q _=>∃(kl o0 o1 o2 d0 d1 d2 r:Addr) (S:RS) (a:RA) (R:Nat->Int->Nat->Prop) (L M B:Nat) (tu:Int),vs=[.ref kl,.ref r,.int L,.int tu]/\H kl=some (.lst [.ref o0,.ref o1,.ref o2])/\H o0=some (.ins c0 d0 [])/\H o1=some (.ins c1 d1 [])/\H o2=some (.ins c2 d2 [])/\
 RG C H L M B r S a R/\1<=L/\L<=4/\M<=500/\B<=5000/\TabI Pt lamPos lamQ H/\∀H',Kp Pt H H'->TabI Pt lamPos lamQ H'->Q (.bl true) H'
theorem asc_names:(∀c∈tRm,32<=c/\c<=126)/\(∀c∈tLt,32<=c/\c<=126)/\(∀c∈tNw,32<=c/\c<=126):=by decide
theorem ok__law_asked (T:Txt K mg A)(hbl:BltB mg base):FnOk P w K mg base (CXw P w) 7 A.f__law_asked A.d__law_asked ["_law_kinds","_law_rooms","_law_letters","_law_turned"] (spAsked A.c_Rooms A.c_lt A.c_Order A.c_ByLetters A.c_Newest):=by
 have G_Rooms_paper:FnOk P w K mg base (CXw P w) 4 A.f_Rooms_paper A.d_Rooms_paper ["self"] (spPaper 1 A.c_Rooms):=ok_Rooms_paper T;have G__law_gaps:FnOk P w K mg base (CXw P w) 2 A.f__law_gaps A.d__law_gaps ["_law_rooms","_law_letters"] (spLGaps A.c_Rooms):=ok__law_gaps T;have G__law_right:FnOk P w K mg base (CXw P w) 2 A.f__law_right A.d__law_right ["_law_found","_law_due_here"] spRight:=ok__law_right T;have G_Order_gap:FnOk P w K mg base (CXw P w) 3 A.f_Order_gap A.d_Order_gap ["self","rooms"] (spGap A.c_Rooms A.c_lt A.c_Order 0):=ok_Order_gap T;have G_ByLetters_gap:FnOk P w K mg base (CXw P w) 6 A.f_ByLetters_gap A.d_ByLetters_gap ["self","rooms"] (spGap A.c_Rooms A.c_lt A.c_ByLetters 1):=ok_ByLetters_gap T hbl;have G_Newest_gap:FnOk P w K mg base (CXw P w) 3 A.f_Newest_gap A.d_Newest_gap ["self","rooms"] (spGap A.c_Rooms A.c_lt A.c_Newest 2):=ok_Newest_gap T;have G__law_due:FnOk P w K mg base (CXw P w) 1 A.f__law_due A.d__law_due ["_law_gaps_here","_law_way"] spDue:=ok__law_due T;have G_order_by:FnOk P w K mg base (CXw P w) 1 A.f_order_by A.d_order_by ["name"] (spOrderBy A.c_NoOrder A.c_Order A.c_ByLetters A.c_Newest):=ok_order_by T;refine T._law_asked.F.okN sc__law_asked (λvs H Q E h=>?_) (λcdv AA outer s H vs Q E hr h=>?_)
 ·obtain⟨kl,o0,o1,o2,d0,d1,d2,r,S,a,R,L,M,B,tu,rfl,_⟩:=h;rfl
 ·obtain⟨kl,o0,o1,o2,d0,d1,d2,r,S,a,R,L,M,B,tu,rfl,hkl,ho0,ho1,ho2,h,hL1,hL4,hM,hB,hT,k⟩:=h;have hu8:=Nat.lt_of_le_of_lt (Nat.add_le_add_left (by decide:8<=64) _) hr.units
  refine⟨_,(pss_cons (ps_set (i:=4) sc__law_asked.nd rfl (Or.inl rfl) (pe_meth0 (pv 1) (cl_Rooms T) T.Rooms_paper.m (G_Rooms_paper) (hr.mono (by decide)) T.Rooms_paper.b .nil passF))
   (pss_cons (ps_set (i:=5) sc__law_asked.nd rfl (Or.inl rfl) (pe_call (G__law_gaps) (hr.mono (by decide)) rfl T._law_gaps.m T._law_gaps.F.kp T._law_gaps.b .nil passF (pa_cons (pv 1) (pa_cons (pv 2) pa_nil))))
   (pss_cons (ps_set (i:=6) sc__law_asked.nd rfl (Or.inl rfl) (pe_lst (pa_cons (pe_strX (l:=[114,111,111,109,115]) rfl) (pa_cons (pe_strX (l:=[108,101,116,116,101,114,115]) rfl) (pa_cons (pe_strX (l:=[110,101,119,101,115,116]) rfl) pa_nil)))))
   (pss_cons (ps_for PassesOwn.never rfl (pi_range1 rfl T.z_range (pa_cons pe_int pa_nil)) (pg_name (i:=7) sc__law_asked.nd rfl (Or.inl rfl))
    (pss_cons (ps_set (i:=8) sc__law_asked.nd rfl (Or.inl rfl) (pe_op op_mod (pe_op op_add (pv 7) (pv 3)) pe_int))
    (pss_cons (ps_cut (ps_if (pt_not (pt_val (pe_call (G__law_right) (hr.mono (by decide)) rfl T._law_right.m T._law_right.F.kp T._law_right.b .nil passF (pa_cons (pe_way (pe_meth (pe_ix ix_list (pv 0) (pv 8) (λ_ _=>rfl)) (cl_Order T) T.Order_gap.m (G_Order_gap) (hr.mono (by decide)) T.Order_gap.b .nil passF (pa_cons (pv 1) pa_nil)) (pe_way (pe_meth (pe_ix ix_list (pv 0) (pv 8) (λ_ _=>rfl)) (cl_ByLetters T) T.ByLetters_gap.m (G_ByLetters_gap) (hr.mono (by decide)) T.ByLetters_gap.b .nil passF (pa_cons (pv 1) pa_nil)) (pe_meth (pe_ix ix_list (pv 0) (pv 8) (λ_ _=>rfl)) (cl_Newest T) T.Newest_gap.m (G_Newest_gap) (hr.mono (by decide)) T.Newest_gap.b .nil passF (pa_cons (pv 1) pa_nil)))) (pa_cons (pe_call (G__law_due) (hr.mono (by decide)) rfl T._law_due.m T._law_due.F.kp T._law_due.b .nil passF (pa_cons (pv 5) (pa_cons (pv 8) pa_nil))) pa_nil)))))
     (pss_one (ps_ret pe_bl))
     pss_nil))
    (pss_one (ps_if (pt_not (pt_val (pe_call (G__law_right) (hr.mono (by decide)) rfl T._law_right.m T._law_right.F.kp T._law_right.b .nil passF (pa_cons (pe_way (pe_meth (pe_call (G_order_by) (hr.mono (by decide)) rfl T.order_by.m T.order_by.F.kp T.order_by.b .nil passF (pa_cons (pe_ix ix_list (pv 6) (pv 8) (λ_ _=>rfl)) pa_nil)) (cl_Order T) T.Order_gap.m (G_Order_gap) (hr.mono (by decide)) T.Order_gap.b .nil passF (pa_cons (pv 1) pa_nil)) (pe_way (pe_meth (pe_call (G_order_by) (hr.mono (by decide)) rfl T.order_by.m T.order_by.F.kp T.order_by.b .nil passF (pa_cons (pe_ix ix_list (pv 6) (pv 8) (λ_ _=>rfl)) pa_nil)) (cl_ByLetters T) T.ByLetters_gap.m (G_ByLetters_gap) (hr.mono (by decide)) T.ByLetters_gap.b .nil passF (pa_cons (pv 1) pa_nil)) (pe_meth (pe_call (G_order_by) (hr.mono (by decide)) rfl T.order_by.m T.order_by.F.kp T.order_by.b .nil passF (pa_cons (pe_ix ix_list (pv 6) (pv 8) (λ_ _=>rfl)) pa_nil)) (cl_Newest T) T.Newest_gap.m (G_Newest_gap) (hr.mono (by decide)) T.Newest_gap.b .nil passF (pa_cons (pv 1) pa_nil)))) (pa_cons (pe_call (G__law_due) (hr.mono (by decide)) rfl T._law_due.m T._law_due.F.kp T._law_due.b .nil passF (pa_cons (pv 5) (pa_cons (pv 8) pa_nil))) pa_nil)))))
     (pss_one (ps_ret pe_bl))
     pss_nil)))))
   (pss_one (ps_ret (pe_cmpR (op_eqDt hu8) (pe_meth0 (pv 1) (cl_Rooms T) T.Rooms_paper.m (G_Rooms_paper) (hr.mono (by decide)) T.Rooms_paper.b .nil passF) (pv 4) (nomark _)))))))),?_⟩
  try dsimp only[cx_noxK,cx_K]
  refine seq_let4 ?_;intro u_4 u_3 u_2 u_1;have hgl:=h.gl (by omega) hL4;have hm:=h.ri.m;have hrw:=h.ri.rw_
  have fl1:∀{H2:Hp} (p:Addr) (d:Dt),d∈S.rows->DtAt H2 4 (.ref p) d->DtAt H2 1 (.ref p) d:=λ{H2} p d hd q=>by
   obtain⟨ds,rfl,hf⟩:=h.ri.fl d hd;exact flat_t hf q
  refine⟨_,rfl,r,a.dx,_,rfl,h.ri.rm.ins,rfl,r,S,a,rfl,h.ri.rm,by omega,fl1,λpl ps H1 s1 hpl hpl1 hpe1=>?_⟩;refine⟨_,rfl,_,rfl,r,S,a,L,rfl,(h.same s1).ri.rm,hgl.wf,by omega,hL4,λgl H2 s2 hgl0 ⟨ts,hgl2,hts2⟩=>?_⟩;refine⟨by show 3<=sizeLine;decide,λnl hnl=>?_⟩;have s3:=Same.upd (o:=.lst [.str (tx tRm),.str (tx tLt),.str (tx tNw)]) hnl;have hnl3:upd H2 nl (.lst [.str (tx tRm),.str (tx tLt),.str (tx tNw)]) nl=some (.lst [.str (tx tRm),.str (tx tLt),.str (tx tNw)]):=upd_same;show tSeq _ _ _ _ (upd H2 nl (.lst [.str (tx tRm),.str (tx tLt),.str (tx tNw)]));generalize upd H2 nl (.lst [.str (tx tRm),.str (tx tLt),.str (tx tNw)])=H3 at s3 hnl3;have s03:Same H H3:=λb u e=>s3 b u (s2 b u (s1 b u e))
  have h3:=h.same s03;have hT3:=hT.same s03;have hts3:=hts2.imp λp x _ _ e=>s3 _ _ e
  have ntb:∀{vs:List V} (qs:Array Value),HO.lst vs≠.tbl qs:=λ_ z=>nomatch z
  have nti:∀{C d:Addr} (qs:Array Value),HO.ins C d []≠.tbl qs:=λ_ z=>nomatch z
  have ntt:∀{vs:List V} (qs:Array Value),HO.tup vs≠.tbl qs:=λ_ z=>nomatch z
  refine⟨6,rfl,by decide,by decide,?_⟩;refine for_range (lo:=0) (n:=(6:Int).toNat) (λi σ H4=>∃v7 v8,σ=[some (.ref kl),some (.ref r),some (.int L),some (.int tu),some (.ref pl),some (.ref gl),some (.ref nl),v7,v8]/\Kp A.c_lt H3 H4/\TabI A.c_lt lamPos lamQ H4) ⟨none,none,rfl,.refl,hT3⟩ ?_ ?_
  ·rintro i σ H4 hi ⟨v7,v8,rfl,k4,T4⟩;refine⟨_,rfl,_,rfl,_,_,rfl,rfl,_,_,rfl,rfl,(by show (0:Int)<3;decide),?_⟩;have q1:=Int.emod_nonneg (0+ (i:Int)+ tu) (show (3:Int)≠0 by decide);have q2:=Int.emod_lt_of_pos (0+ (i:Int)+ tu) (show (0:Int)<3 by decide);obtain⟨w,hw,hw3⟩:∃w:Nat,(0+ (i:Int)+ tu) % 3=(w:Int)/\w<3:=⟨((0+ (i:Int)+ tu) % 3).toNat,by omega,by omega⟩;show gName 8 (V.int ((0+ (i:Int)+ tu) % 3)) _ _ _;rw[hw];have at4:∀{H5:Hp},Kp A.c_lt H3 H5->H5 gl=some (.lst (ts.map V.ref))/\Each (λt (p:Nat×Int)=>H5 t=some (.tup [.int (p.1:Int),.int (plc p.2),.int p.2])) ts (allGs S L (stdG S)):=λ{H5} k5=>⟨k5.at hT3 (s3 _ _ hgl2) ntb,hts3.imp λp x _ _ e=>k5.at hT3 e ntt⟩
   refine⟨λ σ' H5=>σ'=[some (.ref kl),some (.ref r),some (.int L),some (.int tu),some (.ref pl),some (.ref gl),some (.ref nl),some (.int (0+ (i:Int))),some (.int w)]/\Kp A.c_lt H3 H5/\TabI A.c_lt lamPos lamQ H5,?_,?_⟩
   ·rcases (show w=0\/w=1\/w=2 by omega) with rfl|rfl|rfl
    ·refine .inl ⟨_,rfl,_,rfl,kl,_,_,_,rfl,rfl,SqL.of (k4.at hT3 (s03 _ _ hkl) ntb),atI_nat rfl,o0,d0,_,rfl,k4.at hT3 (s03 _ _ ho0) nti,rfl,_,rfl,?_⟩;dsimp only[tNil];refine gap_ok (k4.at hT3 (s03 _ _ ho0) nti) (h3.kp hT3 k4).ri.rm hgl T4 λv H5 k5 T5 hv=>⟨_,rfl,_,rfl,?_⟩
     dsimp only[tNil];exact due_ok hw3 (at4 (k4.trans k5)).1 (at4 (k4.trans k5)).2 hv λH6 s6=>⟨true,rfl,iteF ⟨rfl,(k4.trans k5).trans (.same s6),T5.same s6⟩⟩
    ·refine .inr (.inl ⟨_,rfl,_,rfl,kl,_,_,_,rfl,rfl,SqL.of (k4.at hT3 (s03 _ _ hkl) ntb),atI_nat rfl,o1,d1,_,rfl,k4.at hT3 (s03 _ _ ho1) nti,rfl,_,rfl,?_⟩);dsimp only[tNil];refine gap_ok (k4.at hT3 (s03 _ _ ho1) nti) (h3.kp hT3 k4).ri.rm hgl T4 λv H5 k5 T5 hv=>⟨_,rfl,_,rfl,?_⟩
     dsimp only[tNil];exact due_ok hw3 (at4 (k4.trans k5)).1 (at4 (k4.trans k5)).2 hv λH6 s6=>⟨true,rfl,iteF ⟨rfl,(k4.trans k5).trans (.same s6),T5.same s6⟩⟩
    ·refine .inr (.inr ⟨_,rfl,_,rfl,kl,_,_,_,rfl,rfl,SqL.of (k4.at hT3 (s03 _ _ hkl) ntb),atI_nat rfl,o2,d2,_,rfl,k4.at hT3 (s03 _ _ ho2) nti,rfl,_,rfl,?_⟩);dsimp only[tNil];refine gap_ok (k4.at hT3 (s03 _ _ ho2) nti) (h3.kp hT3 k4).ri.rm hgl T4 λv H5 k5 T5 hv=>⟨_,rfl,_,rfl,?_⟩
     dsimp only[tNil];exact due_ok hw3 (at4 (k4.trans k5)).1 (at4 (k4.trans k5)).2 hv λH6 s6=>⟨true,rfl,iteF ⟨rfl,(k4.trans k5).trans (.same s6),T5.same s6⟩⟩
   ·rintro σ' H5 ⟨rfl,k5,T5⟩
    have two:∀{D x d:Addr} {Q':VK} {E':XK},H5 x=none->H5 d=none->d≠x->(∀v H7,Kp A.c_lt H3 H7->TabI A.c_lt lamPos lamQ H7->Ans S L w H7 v->Q' v H7)->spGap A.c_Rooms A.c_lt D w [.ref x,.ref r] (upd (upd H5 d (.own x)) x (.ins D d [])) Q' E':=λ{D x d Q' E'} nx nd ndx kq=>by
     have sA:=Same.upd (o:=.own x) nd;have sB:=Same.upd (H:=upd H5 d (.own x)) (a:=x) (o:=.ins D d []) (by rw[upd_ne (Ne.symm ndx)];exact nx);have s6:Same H5 (upd (upd H5 d (.own x)) x (.ins D d [])):=λb u e=>sB b u (sA b u e)
     exact gap_ok upd_same (((h3.kp hT3 k5).same s6).ri.rm) hgl (T5.same s6) λv H7 k7 T7 hv=>kq v H7 ((k5.trans (.same s6)).trans k7) T7 hv
    have hn5:=k5.at hT3 hnl3 ntb;obtain⟨asc0,asc1,asc2⟩:=asc_names;rcases (show w=0\/w=1\/w=2 by omega) with rfl|rfl|rfl
    ·refine .inl ⟨_,rfl,_,rfl,nl,_,_,_,rfl,rfl,SqL.of hn5,atI_nat rfl,tRm,rfl,by decide,asc0,(λ_ x d nx nd ndx=>?_),(λe=>absurd e (by decide)),(λe=>absurd e (by decide)),λe=>absurd rfl e⟩;refine⟨x,d,_,rfl,upd_same,rfl,_,rfl,?_⟩;dsimp only[tNil];refine two nx nd ndx λv H7 k7 T7 hv=>⟨_,rfl,_,rfl,?_⟩
     dsimp only[tNil];exact due_ok hw3 (at4 k7).1 (at4 k7).2 hv λH8 s8=>⟨true,rfl,iteF ⟨_,_,rfl,k7.trans (.same s8),T7.same s8⟩⟩
    ·refine .inr (.inl ⟨_,rfl,_,rfl,nl,_,_,_,rfl,rfl,SqL.of hn5,atI_nat rfl,tLt,rfl,by decide,asc1,(λe=>absurd e (by decide)),(λ_ x d nx nd ndx=>?_),(λe=>absurd e (by decide)),λ_ e=>absurd rfl e⟩);refine⟨x,d,_,rfl,upd_same,rfl,_,rfl,?_⟩;dsimp only[tNil];refine two nx nd ndx λv H7 k7 T7 hv=>⟨_,rfl,_,rfl,?_⟩
     dsimp only[tNil];exact due_ok hw3 (at4 k7).1 (at4 k7).2 hv λH8 s8=>⟨true,rfl,iteF ⟨_,_,rfl,k7.trans (.same s8),T7.same s8⟩⟩
    ·refine .inr (.inr ⟨_,rfl,_,rfl,nl,_,_,_,rfl,rfl,SqL.of hn5,atI_nat rfl,tNw,rfl,by decide,asc2,(λe=>absurd e (by decide)),(λe=>absurd e (by decide)),(λ_ x d nx nd ndx=>?_),λ_ _ e=>absurd rfl e⟩);refine⟨x,d,_,rfl,upd_same,rfl,_,rfl,?_⟩;dsimp only[tNil];refine two nx nd ndx λv H7 k7 T7 hv=>⟨_,rfl,_,rfl,?_⟩
     dsimp only[tNil];exact due_ok hw3 (at4 k7).1 (at4 k7).2 hv λH8 s8=>⟨true,rfl,iteF ⟨_,_,rfl,k7.trans (.same s8),T7.same s8⟩⟩
  ·rintro σ H4 ⟨v7,v8,rfl,k4,T4⟩;have h4:=h3.kp hT3 k4;refine⟨_,rfl,r,a.dx,_,rfl,h4.ri.rm.ins,rfl,r,S,a,rfl,h4.ri.rm,by omega,fl1,λpl2 ps2 H5 s5 hpl5 hp5 hpe5=>?_⟩;refine⟨_,rfl,.l S.rows,pl2,pl,rfl,rfl,pap_dt hp5 hpe5,pap_dt (s5 _ _ (k4.at hT3 (s3 _ _ (s2 _ _ hpl1)) ntb)) (hpe1.imp λp x _ hx e=>((e.same s2).same s3).keepT (λb xs q=>s5 _ _ (k4.at hT3 q ntt)) (h.ri.rm.flat x hx)),?_⟩;exact k H5 (λb u n e=>s5 b u (k4 b u n (s03 b u e))) (T4.same s5)
structure LW (C Pt:Addr) (H:Hp) (M B L0 L1:Nat) (r0 r1:Addr) (S0 S1:RS) (a0 a1:RA) (R0 R1:Nat->Int->Nat->Prop) (P:List (Addr×HO)):Prop where
 g0:RG C H L0 M B r0 S0 a0 R0
 g1:RG C H L1 M B r1 S1 a1 R1
 dj:∀b,a0.own r0 b->¬a1.own r1 b
 t:TabI Pt lamPos lamQ H
 pr:∀q∈P,H q.1=some q.2/\q.1≠Pt/\¬a0.own r0 q.1/\¬a1.own r1 q.1
section
variable {C Pt:Addr} {H H':Hp} {M B L0 L1:Nat} {r0 r1:Addr} {S0 S1:RS} {a0 a1:RA} {R0 R1:Nat->Int->Nat->Prop} {P:List (Addr×HO)}
theorem LW.swap (h:LW C Pt H M B L0 L1 r0 r1 S0 S1 a0 a1 R0 R1 P):LW C Pt H M B L1 L0 r1 r0 S1 S0 a1 a0 R1 R0 P:=
 ⟨h.g1,h.g0,λb h1 h0=>h.dj b h0 h1,h.t,λq hq=>⟨(h.pr q hq).1,(h.pr q hq).2.1,(h.pr q hq).2.2.2,(h.pr q hq).2.2.1⟩⟩
theorem LW.same (h:LW C Pt H M B L0 L1 r0 r1 S0 S1 a0 a1 R0 R1 P)(s:Same H H'):LW C Pt H' M B L0 L1 r0 r1 S0 S1 a0 a1 R0 R1 P:=
 ⟨h.g0.same s,h.g1.same s,h.dj,h.t.same s,λq hq=>⟨s _ _ (h.pr q hq).1,(h.pr q hq).2⟩⟩
theorem _root_.L2.TabI.there {Pt:Addr}{pos:Pos}{q:Str}{H:Hp}(t:TabI Pt pos q H):∃ps,H Pt=some (.tbl ps):=by
 rcases t with w|⟨_,_,_,_,w,_⟩
 ·exact⟨_,w⟩
 ·exact⟨_,w⟩
theorem LW.add (h:LW C Pt H M B L0 L1 r0 r1 S0 S1 a0 a1 R0 R1 P){q:Addr}(hq:H q=none)(o:HO):LW C Pt (upd H q o) M B L0 L1 r0 r1 S0 S1 a0 a1 R0 R1 ((q,o)::P):=by
 have k:=h.same (Same.upd (o:=o) hq);refine⟨k.g0,k.g1,k.dj,k.t,λx hx=>?_⟩;rcases List.mem_cons.mp hx with rfl|hx
 ·obtain⟨ps,e⟩:=h.t.there;exact⟨upd_same,(ne_of_none e hq).symm,h.g0.ri.rm.mkL hq,h.g1.ri.rm.mkL hq⟩
 ·exact k.pr x hx
theorem LW.kp (h:LW C Pt H M B L0 L1 r0 r1 S0 S1 a0 a1 R0 R1 P)(k:Kp Pt H H')(t:TabI Pt lamPos lamQ H'):LW C Pt H' M B L0 L1 r0 r1 S0 S1 a0 a1 R0 R1 P:=
 ⟨h.g0.kp h.t k,h.g1.kp h.t k,h.dj,t,λq hq=>⟨k _ _ (h.pr q hq).2.1 (h.pr q hq).1,(h.pr q hq).2⟩⟩
theorem LW.deed {M' B':Nat}{S':RS}{a':RA}{R':Nat->Int->Nat->Prop}(h:LW C Pt H M B L0 L1 r0 r1 S0 S1 a0 a1 R0 R1 P)(b:ButO a0 r0 H H')(g:RG C H' L0 M' B' r0 S' a' R')(gr:∀b,a'.own r0 b->a0.own r0 b\/H b=none)(hM:M<=M')(hB:B<=B'):LW C Pt H' M' B' L0 L1 r0 r1 S' S1 a' a1 R' R1 P:=by
 have kt:∀x xs,H x=some (.tup xs)->H' x=some (.tup xs):=λx xs e=>b x _ (h.g0.ri.rm.notup e) e
 have out:∀{x:Addr} {u:HO},H x=some u->¬a0.own r0 x->¬a'.own r0 x:=λ{x u} e n z=>(gr x z).elim n λq=>by rw[q]at e;cases e
 refine⟨g,(h.g1.keep (λx o hx e=>b x o (λz=>h.dj x z hx) e) kt).up hM hB,λx hx h1=>?_,h.t.keep λx u e k=>b x u ?_ e,λq hq=>?_⟩
 ·obtain⟨o,e⟩:=h.g1.ri.rm.there h1;exact out e (λz=>h.dj x z h1) hx
 ·rcases k with ⟨ps,rfl⟩|⟨o,v,rfl⟩
  ·exact own_kind h.g0.ri.rm e (λ_ _ _ z=>nomatch z) (λ_ z=>nomatch z) λ_ z=>nomatch z
  ·exact own_kind h.g0.ri.rm e (λ_ _ _ z=>nomatch z) (λ_ z=>nomatch z) λ_ z=>nomatch z
 ·obtain⟨e,n1,n2,n3⟩:=h.pr q hq;exact⟨b _ _ n2 e,n1,out e n2,n3⟩
end
theorem scr {K:PySem.W.Frag}{H:Hp}{a:Addr}{xs:List V}(h:SqL K H a xs):∃P:List (Addr×HO),(∀q∈P,H q.1=some q.2/\∀ps,q.2≠.tbl ps)/\∀H':Hp,(∀q∈P,H' q.1=some q.2)->SqL K H' a xs:=by
 rcases h with (e|⟨o,e⟩)|h
 ·exact⟨[(a,_)],λq hq=>by rw[List.mem_singleton.mp hq];exact⟨e,λ_ z=>nomatch z⟩,λH' k=>.inl (.inl (k (a,_) (List.mem_singleton_self _)))⟩
 ·exact⟨[(a,_)],λq hq=>by rw[List.mem_singleton.mp hq];exact⟨e,λ_ z=>nomatch z⟩,λH' k=>.inl (.inr ⟨o,k (a,_) (List.mem_singleton_self _)⟩)⟩
 ·exact⟨[],(λq hq=>by cases hq),λH' _=>.inr h⟩
theorem rg_new {C:Addr}{H:Hp}{L:Nat}{r:Addr}{a:RA}(h:RoomsAt C H r (RS.new L (stL (2* L))) a):RG C H L 1 1 r (RS.new L (stL (2* L))) a (λ_ _ _=>False):=
 ⟨⟨h,good_new _ _,λ_ _ _ h=>h.elim,rfl,Nat.le_refl _,Nat.le_refl _,Nat.le_refl _,Nat.le_refl _,λx hx=>by cases hx⟩,gap_new _ _⟩
theorem sq_same {K:PySem.W.Frag}{H H':Hp}{a:Addr}{xs:List V}(h:SqL K H a xs)(s:Same H H'):SqL K H' a xs:=by
 rcases h with (e|⟨o,e⟩)|h
 ·exact .inl (.inl (s _ _ e))
 ·exact .inl (.inr ⟨o,s _ _ e⟩)
 ·exact .inr h
def tOrd:List Nat:=[111,114,100,101,114]
def wrongs (nm:List Nat):List (List Nat):=[[],nm++[32],nm.drop 1,nm++[115],nm.map PyProof.Rows.up1,nm.dropLast,[32]++nm,tOrd,[nm.getD 0 0]]
theorem names_ok {nm:List Nat}(h:nm=tRm\/nm=tLt\/nm=tNw):1<=nm.length/\nm.length<=7/\(∀c∈nm,c<128)/\PySem.Txt.slice (tx nm) none (some (-1))=tx nm.dropLast/\atI nm 0=some (nm.getD 0 0):=by
 rcases h with rfl|rfl|rfl
 ·exact⟨by decide,by decide,by decide,by decide +kernel,by decide⟩
 ·exact⟨by decide,by decide,by decide,by decide +kernel,by decide⟩
 ·exact⟨by decide,by decide,by decide,by decide +kernel,by decide⟩
theorem wrong_ok {nm:List Nat}(h:nm=tRm\/nm=tLt\/nm=tNw):∀t∈wrongs nm,t.length<=100/\(∀c∈t,32<=c/\c<=126)/\t≠tRm/\t≠tLt/\t≠tNw:=by
 rcases h with rfl|rfl|rfl
 ·decide
 ·decide
 ·decide
theorem ok_law (T:Txt K mg A)(hbl:BltB mg base):FnOk P w K mg base (CXw P w) 8 A.f_law A.d_law ["_law_script"] (spLaw K A.c_lt):=by
 have G__law_refused:FnOk P w K mg base (CXw P w) 2 A.f__law_refused A.d__law_refused ["_law_name"] spRefused:=ok__law_refused T;have G_Rooms___init__:FnOk P w K mg base (CXw P w) 3 A.f_Rooms___init__ A.d_Rooms___init__ ["self","letters"] (spNew A.c_Rooms):=ok_Rooms___init__ T;have G__law_deed:FnOk P w K mg base (CXw P w) 5 A.f__law_deed A.d__law_deed ["_law_rooms","_law_letters","_law_cell","_law_at"] (spDeed A.c_Rooms):=ok__law_deed T;have G__law_asked:FnOk P w K mg base (CXw P w) 7 A.f__law_asked A.d__law_asked ["_law_kinds","_law_rooms","_law_letters","_law_turned"] (spAsked A.c_Rooms A.c_lt A.c_Order A.c_ByLetters A.c_Newest):=ok__law_asked T hbl;have G_order_by:FnOk P w K mg base (CXw P w) 1 A.f_order_by A.d_order_by ["name"] (spOrderBy A.c_NoOrder A.c_Order A.c_ByLetters A.c_Newest):=ok_order_by T;have G__law_cell_at:FnOk P w K mg base (CXw P w) 1 A.f__law_cell_at A.d__law_cell_at ["_law_script","_law_k"] (spAt K):=ok__law_cell_at T;refine T.law.F.okN sc_law (λvs H Q E h=>?_) (λcdv AA outer s H vs Q E hr h=>?_)
 ·obtain⟨sa,ns,rfl,_⟩:=h;rfl
 ·obtain⟨sa,ns,rfl,hS,hns,hPt,k⟩:=h
  refine⟨_,(pss_cons (ps_set (i:=1) sc_law.nd rfl (Or.inl rfl) (pe_lst (pa_cons (pe_op op_add pe_int (pe_op op_mod (pe_call (G__law_cell_at) (hr.mono (by decide)) rfl T._law_cell_at.m T._law_cell_at.F.kp T._law_cell_at.b .nil passF (pa_cons (pv 0) (pa_cons pe_int pa_nil))) pe_int)) (pa_cons (pe_op op_add pe_int (pe_op op_mod (pe_op op_fdiv (pe_call (G__law_cell_at) (hr.mono (by decide)) rfl T._law_cell_at.m T._law_cell_at.F.kp T._law_cell_at.b .nil passF (pa_cons (pv 0) (pa_cons pe_int pa_nil))) pe_int) pe_int)) pa_nil))))
   (pss_cons (ps_set (i:=2) sc_law.nd rfl (Or.inl rfl) (pe_lst (pa_cons (pe_make (mk_Rooms T) (G_Rooms___init__) (hr.mono (by decide)) rfl T.m_Rooms T.Rooms___init__.b .nil passF (pa_cons (pe_ix ix_list (pv 1) pe_int (λ_ _=>rfl)) pa_nil)) (pa_cons (pe_make (mk_Rooms T) (G_Rooms___init__) (hr.mono (by decide)) rfl T.m_Rooms T.Rooms___init__.b .nil passF (pa_cons (pe_ix ix_list (pv 1) pe_int (λ_ _=>rfl)) pa_nil)) pa_nil))))
   (pss_cons (ps_set (i:=3) sc_law.nd rfl (Or.inl rfl) (pe_lst (pa_cons (pe_makeO T.mk_Order T.io_Order T.kc_Order rfl T.m_Order) (pa_cons (pe_makeO T.mk_ByLetters T.io_ByLetters T.kc_ByLetters rfl T.m_ByLetters) (pa_cons (pe_makeO T.mk_Newest T.io_Newest T.kc_Newest rfl T.m_Newest) pa_nil)))))
   (pss_cons (ps_for PassesOwn.never rfl (pi_enumL rfl T.z_enumerate (pe_slice sl_list (pv 0) (po_some pe_int) (po_some pe_int))) (pg_tup rfl (pgs_cons (pg_name (i:=4) sc_law.nd rfl (Or.inl rfl)) (pgs_cons (pg_name (i:=5) sc_law.nd rfl (Or.inl rfl)) pgs_nil)))
    (pss_cons (ps_set (i:=6) sc_law.nd rfl (Or.inl rfl) (pe_op op_mod (pe_op op_fdiv (pv 5) pe_int) pe_int))
    (pss_cons (ps_cut (ps_expr (pe_call (G__law_deed) (hr.mono (by decide)) rfl T._law_deed.m T._law_deed.F.kp T._law_deed.b .nil passF (pa_cons (pe_ix ix_list (pv 2) (pv 6) (λ_ _=>rfl)) (pa_cons (pe_ix ix_list (pv 1) (pv 6) (λ_ _=>rfl)) (pa_cons (pv 5) (pa_cons (pv 4) pa_nil)))))))
    (pss_cons (ps_set (i:=7) sc_law.nd rfl (Or.inl rfl) (pe_op op_mod (pe_op op_mod (pv 5) pe_int) pe_int))
    (pss_one (ps_cut (ps_if (PW.pt (pw_and (pt_cmpR op_eq (pe_op op_mod (pv 5) pe_int) pe_int (nomark _)) (pw_and1 (pt_not (pt_val (pe_call (G__law_asked) (hr.mono (by decide)) rfl T._law_asked.m T._law_asked.F.kp T._law_asked.b .nil passF (pa_cons (pv 3) (pa_cons (pe_ix ix_list (pv 2) (pv 7) (λ_ _=>rfl)) (pa_cons (pe_ix ix_list (pv 1) (pv 7) (λ_ _=>rfl)) (pa_cons (pe_op op_mod (pe_op op_fdiv (pv 5) pe_int) pe_int) pa_nil))))))))))
     (pss_one (ps_ret pe_bl))
     pss_nil)))))))
   (pss_cons (ps_for PassesOwn.never rfl (pi_list (pe_lst (pa_cons pe_int (pa_cons pe_int pa_nil)))) (pg_name (i:=6) sc_law.nd rfl (Or.inl rfl))
    (pss_one (ps_if (pt_not (pt_val (pe_call (G__law_asked) (hr.mono (by decide)) rfl T._law_asked.m T._law_asked.F.kp T._law_asked.b .nil passF (pa_cons (pv 3) (pa_cons (pe_ix ix_list (pv 2) (pv 6) (λ_ _=>rfl)) (pa_cons (pe_ix ix_list (pv 1) (pv 6) (λ_ _=>rfl)) (pa_cons (pe_op op_mod (pe_op op_fdiv (pe_call (G__law_cell_at) (hr.mono (by decide)) rfl T._law_cell_at.m T._law_cell_at.F.kp T._law_cell_at.b .nil passF (pa_cons (pv 0) (pa_cons pe_int pa_nil))) pe_int) pe_int) pa_nil)))))))
     (pss_one (ps_ret pe_bl))
     pss_nil)))
   (pss_cons (ps_cut (ps_if (PW.pt (pw_or (pt_not (pt_val (pe_callB call_isiO rfl T.z_isinstance PyProof.Rows.boot_isinstance (pa_cons (pe_call (G_order_by) (hr.mono (by decide)) rfl T.order_by.m T.order_by.F.kp T.order_by.b .nil passF (pa_cons (pe_strX (l:=[108,101,116,116,101,114,115]) rfl) pa_nil)) (pa_cons (pe_glob (v:=.ref A.c_ByLetters) rfl T.m_ByLetters rfl) pa_nil))))) (pw_or1 (pt_not (pt_val (pe_callB call_isiO rfl T.z_isinstance PyProof.Rows.boot_isinstance (pa_cons (pe_call (G_order_by) (hr.mono (by decide)) rfl T.order_by.m T.order_by.F.kp T.order_by.b .nil passF (pa_cons (pe_strX (l:=[110,101,119,101,115,116]) rfl) pa_nil)) (pa_cons (pe_glob (v:=.ref A.c_Newest) rfl T.m_Newest rfl) pa_nil))))))))
    (pss_one (ps_ret pe_bl))
    pss_nil))
   (pss_cons (ps_cut (ps_if (PW.pt (pw_or (pt_not (pt_val (pe_callB call_isiO rfl T.z_isinstance PyProof.Rows.boot_isinstance (pa_cons (pe_call (G_order_by) (hr.mono (by decide)) rfl T.order_by.m T.order_by.F.kp T.order_by.b .nil passF (pa_cons (pe_strX (l:=[114,111,111,109,115]) rfl) pa_nil)) (pa_cons (pe_glob (v:=.ref A.c_Order) rfl T.m_Order rfl) pa_nil))))) (pw_or1 (pt_val (pe_callB call_isiO rfl T.z_isinstance PyProof.Rows.boot_isinstance (pa_cons (pe_call (G_order_by) (hr.mono (by decide)) rfl T.order_by.m T.order_by.F.kp T.order_by.b .nil passF (pa_cons (pe_strX (l:=[114,111,111,109,115]) rfl) pa_nil)) (pa_cons (pe_glob (v:=.ref A.c_ByLetters) rfl T.m_ByLetters rfl) pa_nil)))))))
    (pss_one (ps_ret pe_bl))
    pss_nil))
   (pss_cons (ps_for PassesOwn.never rfl (pi_range1 rfl T.z_range (pa_cons pe_int pa_nil)) (pg_name (i:=8) sc_law.nd rfl (Or.inl rfl))
    (pss_one (ps_if (pt_not (pt_val (pe_callB call_isiO rfl T.z_isinstance PyProof.Rows.boot_isinstance (pa_cons (pe_ix ix_list (pv 3) (pv 8) (λ_ _=>rfl)) (pa_cons (pe_glob (v:=.ref A.c_Order) rfl T.m_Order rfl) pa_nil)))))
     (pss_one (ps_ret pe_bl))
     pss_nil)))
   (pss_cons (ps_set (i:=9) sc_law.nd rfl (Or.inl rfl) (pe_ix ix_list (pe_lst (pa_cons (pe_strX (l:=[114,111,111,109,115]) rfl) (pa_cons (pe_strX (l:=[108,101,116,116,101,114,115]) rfl) (pa_cons (pe_strX (l:=[110,101,119,101,115,116]) rfl) pa_nil)))) (pe_op op_mod (pe_call (G__law_cell_at) (hr.mono (by decide)) rfl T._law_cell_at.m T._law_cell_at.F.kp T._law_cell_at.b .nil passF (pa_cons (pv 0) (pa_cons pe_int pa_nil))) pe_int) (λ_ _=>rfl)))
   (pss_cons (ps_set (i:=10) sc_law.nd rfl (Or.inl rfl) (pe_lst (pa_cons (pe_strX (l:=[]) rfl) (pa_cons (pe_op op_addX (pv 9) (pe_strX (l:=[32]) rfl)) (pa_cons (pe_slice sl_X (pv 9) (po_some pe_int) po_none) (pa_cons (pe_op op_addX (pv 9) (pe_strX (l:=[115]) rfl)) (pa_cons (pe_bm0 PySem.F.plainAttrs_str PySem.F.slot_str_upper PySem.F.type_str_upper mt_upX (pv 9)) (pa_cons (pe_slice sl_N (pv 9) po_none (po_some (pe_un un_neg pe_int))) (pa_cons (pe_op op_addX (pe_strX (l:=[32]) rfl) (pv 9)) (pa_cons (pe_strX (l:=[111,114,100,101,114]) rfl) (pa_cons (pe_ix ix_X (pv 9) pe_int (λ_ _=>rfl)) pa_nil star_s) star_e) star_b) star_s) star_k) star_b) star_s) star_b) star_e)))
   (pss_one (ps_ret (pe_call (G__law_refused) (hr.mono (by decide)) rfl T._law_refused.m T._law_refused.F.kp T._law_refused.b .nil passF (pa_cons (pe_ix ix_list (pv 10) (pe_op op_mod (pe_op op_fdiv (pe_call (G__law_cell_at) (hr.mono (by decide)) rfl T._law_cell_at.m T._law_cell_at.F.kp T._law_cell_at.b .nil passF (pa_cons (pv 0) (pa_cons pe_int pa_nil))) pe_int) pe_int) (λ_ _=>rfl)) pa_nil)))))))))))))),?_⟩
  try dsimp only[cx_noxK,cx_K]
  refine seq_let10 ?_;intro u_10 u_9 u_8 u_7 u_6 u_5 u_4 u_3 u_2 u_1;refine⟨_,rfl,sa,ns,0,rfl,hS,by omega,λz0=>?_⟩;refine⟨_,_,rfl,rfl,(by show (0:Int)<4;decide),_,_,rfl,rfl,_,rfl,sa,ns,0,rfl,hS,by omega,λz1=>?_⟩;refine⟨_,_,rfl,rfl,⟨by decide,by decide⟩,_,_,rfl,rfl,(by show (0:Int)<3;decide),_,_,rfl,rfl,by show 2<=sizeLine;decide,λll hll=>?_⟩;obtain⟨L0,e0,hL01,hL04⟩:∃L0:Nat,1+ z0 % 4=(L0:Int)/\1<=L0/\L0<=4:=⟨(1+ z0 % 4).toNat,by omega,by omega,by omega⟩;obtain⟨L1,e1,hL11,hL14⟩:∃L1:Nat,1+ z1 / 4 % 3=(L1:Int)/\1<=L1/\L1<=4:=⟨(1+ z1 / 4 % 3).toNat,by omega,by omega,by omega⟩;generalize hH1:upd H ll _=H1;have s1:Same H H1:=by rw[←hH1];exact Same.upd hll
  have hll1:H1 ll=some (.lst [.int (L0:Int),.int (L1:Int)]):=by
   rw[←hH1,upd_same];show some (HO.lst [V.int (1+ z0 % 4),V.int (1+ z1 / 4 % 3)])=_;rw[e0,e1]
  clear hH1;refine⟨_,rfl,ll,_,_,_,rfl,rfl,SqL.of hll1,atI_nat rfl,λr0 x0 n1 n2 n3=>⟨r0,x0,L0,rfl,upd_same,hL01,by omega,λa0 H2 k2 hR0 ho0=>⟨rfl,?_⟩⟩⟩;obtain⟨s2,own0⟩:=new_ob (C:=A.c_Rooms) (S:=RS.new L0 (stL (2* L0))) n1 n2 k2 ho0;clear k2 ho0;refine⟨_,rfl,ll,_,_,_,rfl,rfl,SqL.of (s2 _ _ hll1),atI_nat rfl,λr1 x1 n4 n5 n6=>⟨r1,x1,L1,rfl,upd_same,hL11,by omega,λa1 H3 k3 hR1 ho1=>⟨rfl,?_⟩⟩⟩;obtain⟨s3,own1⟩:=new_ob (C:=A.c_Rooms) (S:=RS.new L1 (stL (2* L1))) n4 n5 k3 ho1;clear k3 ho1;obtain⟨P0,hP0,kS⟩:=scr hS;have hTb:TabI A.c_lt lamPos lamQ H:=.inl hPt;have s13:Same H H3:=λb u e=>s3 b u (s2 b u (s1 b u e))
  have w3:LW A.c_Rooms A.c_lt H3 1 1 L0 L1 r0 r1 (RS.new L0 (stL (2* L0))) (RS.new L1 (stL (2* L1))) a0 a1 (λ_ _ _=>False) (λ_ _ _=>False) ((ll,.lst [.int (L0:Int),.int (L1:Int)])::P0):=by
   refine⟨(rg_new hR0).same s3,rg_new hR1,λb h0 h1=>?_,hTb.same s13,λq hq=>?_⟩
   ·obtain⟨o,e⟩:=hR0.there h0;rw[own1 b h1]at e;cases e
   ·have e1:H1 q.1=some q.2/\∀ps,q.2≠.tbl ps:=by
     rcases List.mem_cons.mp hq with rfl|hq
     ·exact⟨hll1,λ_ z=>nomatch z⟩
     ·exact⟨s1 _ _ (hP0 q hq).1,(hP0 q hq).2⟩
    refine⟨s3 _ _ (s2 _ _ e1.1),λz=>?_,λz=>?_,λz=>?_⟩
    ·have:=e1.1;rw[z,s1 _ _ hPt]at this;exact e1.2 _ (Option.some.inj this).symm
    ·rw[own0 _ z]at e1;cases e1.1
    ·have:=own1 _ z;rw[s2 _ _ e1.1]at this;cases this
  clear hR0 hR1 own0 own1 s1 s2 s3 s13 hll1 n1 n2 n3 n4 n5 n6;refine⟨by show 2<=sizeLine;decide,λbl hbl=>?_⟩;have w4:=w3.add hbl (.lst [.ref r0,.ref r1]);clear w3;show tSeq _ _ _ _ (upd H3 bl (.lst [.ref r0,.ref r1]));generalize upd H3 bl (.lst [.ref r0,.ref r1])=H4 at w4;intro o0 d0 n1 n2 n3;have w5:=(w4.add n2 (.own o0)).add (q:=o0) (by rw[upd_ne (Ne.symm n3)];exact n1) (.ins A.c_Order d0 []);clear w4;generalize upd (upd H4 d0 (.own o0)) o0 (.ins A.c_Order d0 [])=H5 at w5;intro o1 d1 n4 n5 n6;have w6:=(w5.add n5 (.own o1)).add (q:=o1) (by rw[upd_ne (Ne.symm n6)];exact n4) (.ins A.c_ByLetters d1 []);clear w5;generalize upd (upd H5 d1 (.own o1)) o1 (.ins A.c_ByLetters d1 [])=H6 at w6;intro o2 d2 n7 n8 n9;have w7:=(w6.add n8 (.own o2)).add (q:=o2) (by rw[upd_ne (Ne.symm n9)];exact n7) (.ins A.c_Newest d2 []);clear w6;generalize upd (upd H6 d2 (.own o2)) o2 (.ins A.c_Newest d2 [])=H7 at w7;refine⟨by show 3<=sizeLine;decide,λkl hkl=>?_⟩;have w8:=w7.add hkl (.lst [.ref o0,.ref o1,.ref o2]);clear w7;show tSeq _ _ _ _ (upd H7 kl (.lst [.ref o0,.ref o1,.ref o2]));generalize upd H7 kl (.lst [.ref o0,.ref o1,.ref o2])=H8 at w8;clear n1 n2 n3 n4 n5 n6 n7 n8 n9 hbl hkl hll hTb;generalize hPP:(kl,HO.lst [V.ref o0,V.ref o1,V.ref o2])::_=PP at w8
  have fx:∀{H':Hp} {M B:Nat} {S0 S1:RS} {a0 a1:RA} {R0 R1:Nat->Int->Nat->Prop} {P2:List (Addr×HO)},LW A.c_Rooms A.c_lt H' M B L0 L1 r0 r1 S0 S1 a0 a1 R0 R1 (P2++PP)->H' ll=some (.lst [.int (L0:Int),.int (L1:Int)])/\H' bl=some (.lst [.ref r0,.ref r1])/\H' kl=some (.lst [.ref o0,.ref o1,.ref o2])/\H' o0=some (.ins A.c_Order d0 [])/\H' o1=some (.ins A.c_ByLetters d1 [])/\H' o2=some (.ins A.c_Newest d2 [])/\SqL K H' sa (intV ns):=λh=>by
   have g:∀q∈PP,_:=λq hq=>(h.pr q (List.mem_append_right _ hq)).1
   rw[←hPP]at g;exact⟨g (ll,_) (by simp),g (bl,_) (by simp),g (kl,_) (by simp),g (o0,_) (by simp),g (o1,_) (by simp),g (o2,_) (by simp),kS _ λq hq=>g q (by simp[hq])⟩
  clear hPP kS hP0;have two:∀n:Int,∃w:Nat,n % 2=(w:Int)/\(w=0\/w=1):=λn=>⟨(n % 2).toNat,by omega,by omega⟩
  refine⟨_,rfl,1,rfl,63,rfl,sa,intV ns,rfl,(fx (P2:=[]) w8).2.2.2.2.2.2,λlp nlp=>?_⟩;rw[cut_ints];generalize hcs:(ns.drop (HT.sIx ns.length 0 (some 1))).take (HT.sIx ns.length ns.length (some 63) - HT.sIx ns.length 0 (some 1))=cs
  have hcl:cs.length<=63:=by
   rw[←hcs,List.length_take,List.length_drop];omega
  have w9:=w8.add nlp (.lst (intV cs));have hlp9:upd H8 lp (.lst (intV cs)) lp=some (.lst (intV cs)):=upd_same;generalize upd H8 lp (.lst (intV cs))=H9 at w9 hlp9 ⊢;clear w8 hcs nlp;refine⟨lp,rfl,⟨_,SqL.of hlp9⟩,?_⟩;refine for_enumL (K:=K) (a:=lp) (xs:=intV cs) (λn σ H5=>∃S0 S1 a0 a1 R0 R1 v4 v5 v6 v7,σ=[some (.ref sa),some (.ref ll),some (.ref bl),some (.ref kl),v4,v5,v6,v7,none,none,none]/\LW A.c_Rooms A.c_lt H5 (n+ 1) (2* n+ 1) L0 L1 r0 r1 S0 S1 a0 a1 R0 R1 ([(lp,.lst (intV cs))]++PP)) ⟨_,_,a0,a1,_,_,none,none,none,none,rfl,w9⟩ (λn σ H5 _ ⟨_,_,_,_,_,_,_,_,_,_,_,w⟩=>SqL.of (w.pr (lp,_) (by simp)).1) ?_ ?_
  ·rintro n xv σ H5 p5 hx np5 ⟨S0,S1,a0,a1,R0,R1,v4,v5,v6,v7,rfl,w⟩;obtain⟨z,rfl,hz⟩:=ints_of_at hx;have w:=w.same (Same.upd (o:=.tup [.int (n:Int),.int z]) np5);have hp5:upd H5 p5 (.tup [.int (n:Int),.int z]) p5=some (.tup [.int (n:Int),.int z]):=upd_same;generalize upd H5 p5 (.tup [.int (n:Int),.int z])=H6 at w hp5 ⊢;refine⟨p5,_,rfl,SqT.of hp5,rfl,_,_,rfl,_,_,rfl,rfl,?_⟩;have hn:n<63:=by have:=(List.getElem?_eq_some_iff.mp hz).1;omega
   refine⟨_,rfl,_,_,rfl,rfl,⟨by decide,by decide⟩,_,_,rfl,rfl,(by show (0:Int)<2;decide),?_⟩;obtain⟨wh,ewh,hwh⟩:=two (z / 2);show gName 6 (V.int (z / 2 % 2)) _ _ _;rw[ewh];obtain⟨f1,f2,f3,f4,f5,f6,f7⟩:=fx w;refine⟨λ σ' H7=>∃S0 S1 a0 a1 R0 R1,σ'=[some (.ref sa),some (.ref ll),some (.ref bl),some (.ref kl),some (.int (n:Int)),some (.int z),some (.int (wh:Int)),v7,none,none,none]/\LW A.c_Rooms A.c_lt H7 (n+ 2) (2* n+ 3) L0 L1 r0 r1 S0 S1 a0 a1 R0 R1 ([(lp,.lst (intV cs))]++PP),?_,?_⟩
   ·rcases hwh with rfl|rfl
    ·exact⟨_,rfl,_,rfl,bl,_,_,_,rfl,rfl,SqL.of f2,atI_nat rfl,_,rfl,_,rfl,ll,_,_,_,rfl,rfl,SqL.of f1,atI_nat rfl,_,rfl,_,rfl,r0,S0,a0,R0,L0,n+ 1,2* n+ 1,z,n,rfl,w.g0,hL01,hL04,by omega,by omega,λS' a' R' H' b1 b2 b3=>⟨S',S1,a',a1,R',R1,rfl,w.deed b1 b2 b3 (by omega) (by omega)⟩⟩
    ·exact⟨_,rfl,_,rfl,bl,_,_,_,rfl,rfl,SqL.of f2,atI_nat rfl,_,rfl,_,rfl,ll,_,_,_,rfl,rfl,SqL.of f1,atI_nat rfl,_,rfl,_,rfl,r1,S1,a1,R1,L1,n+ 1,2* n+ 1,z,n,rfl,w.g1,hL11,hL14,by omega,by omega,λS' a' R' H' b1 b2 b3=>⟨S0,S',a0,a',R0,R',rfl,(w.swap.deed b1 b2 b3 (by omega) (by omega)).swap⟩⟩
   ·rintro σ' H7 ⟨S0,S1,a0,a1,R0,R1,rfl,w⟩;refine⟨_,rfl,_,_,rfl,rfl,(by show (0:Int)<3;decide),_,_,rfl,rfl,(by show (0:Int)<2;decide),?_⟩;obtain⟨so,eso,hso⟩:=two (z % 3);show gName 7 (V.int (z % 3 % 2)) _ _ _;rw[eso];obtain⟨f1,f2,f3,f4,f5,f6,f7⟩:=fx w;refine⟨_,?_,λ_ _ h=>h⟩;refine⟨_,rfl,_,_,rfl,rfl,(by show (0:Int)<8;decide),rfl,_,rfl,?_⟩;refine ite2 (λ_=>?_) (λ_=>⟨S0,S1,a0,a1,R0,R1,_,_,_,_,rfl,w⟩);rcases hso with rfl|rfl
    ·exact⟨_,rfl,_,rfl,_,rfl,bl,_,_,_,rfl,rfl,SqL.of f2,atI_nat rfl,_,rfl,_,rfl,ll,_,_,_,rfl,rfl,SqL.of f1,atI_nat rfl,_,rfl,_,_,rfl,rfl,⟨by decide,by decide⟩,_,_,rfl,rfl,(by show (0:Int)<3;decide),kl,o0,o1,o2,d0,d1,d2,r0,S0,a0,R0,L0,n+ 2,2* n+ 3,_,rfl,f3,f4,f5,f6,w.g0,hL01,hL04,by omega,by omega,w.t,λH8 k8 t8=>⟨true,rfl,iteF ⟨S0,S1,a0,a1,R0,R1,_,_,_,_,rfl,w.kp k8 t8⟩⟩⟩
    ·exact⟨_,rfl,_,rfl,_,rfl,bl,_,_,_,rfl,rfl,SqL.of f2,atI_nat rfl,_,rfl,_,rfl,ll,_,_,_,rfl,rfl,SqL.of f1,atI_nat rfl,_,rfl,_,_,rfl,rfl,⟨by decide,by decide⟩,_,_,rfl,rfl,(by show (0:Int)<3;decide),kl,o0,o1,o2,d0,d1,d2,r1,S1,a1,R1,L1,n+ 2,2* n+ 3,_,rfl,f3,f4,f5,f6,w.g1,hL11,hL14,by omega,by omega,w.t,λH8 k8 t8=>⟨true,rfl,iteF ⟨S0,S1,a0,a1,R0,R1,_,_,_,_,rfl,w.kp k8 t8⟩⟩⟩
  ·rintro σ H5 ⟨S0,S1,a0,a1,R0,R1,v4,v5,v6,v7,rfl,w⟩;rw[ints_len]at w;refine⟨by show 2<=sizeLine;decide,λq nq=>?_⟩;have w:=w.add nq (.lst [.int 1,.int 0]);have hq6:upd H5 q (.lst [.int 1,.int 0]) q=some (.lst [.int 1,.int 0]):=upd_same;generalize upd H5 q (.lst [.int 1,.int 0])=H6 at w hq6 ⊢;refine⟨q,rfl,⟨_,SqL.of hq6⟩,?_⟩;refine for_list (K:=K) (a:=q) (xs:=[.int 1,.int 0]) (λi σ H7=>∃v6,σ=[some (.ref sa),some (.ref ll),some (.ref bl),some (.ref kl),v4,v5,v6,v7,none,none,none]/\LW A.c_Rooms A.c_lt H7 (cs.length+ 1) (2* cs.length+ 1) L0 L1 r0 r1 S0 S1 a0 a1 R0 R1 ([(q,.lst [.int 1,.int 0]),(lp,.lst (intV cs))]++PP)) ⟨v6,rfl,w⟩ (λi σ H7 _ ⟨_,_,w⟩=>SqL.of (w.pr (q,_) (by simp)).1) ?_ ?_
   ·rintro i x σ H7 hi ⟨v6,rfl,w⟩
    obtain⟨wh,rfl,hwh⟩:∃wh:Nat,x=.int (wh:Int)/\(wh=0\/wh=1):=by
     rcases i with _|_|i
     ·exact⟨1,(Option.some.inj hi).symm,.inr rfl⟩
     ·exact⟨0,(Option.some.inj hi).symm,.inl rfl⟩
     ·simp at hi
    obtain⟨f1,f2,f3,f4,f5,f6,f7⟩:=fx w;rcases hwh with rfl|rfl
    ·exact⟨_,rfl,_,rfl,_,rfl,bl,_,_,_,rfl,rfl,SqL.of f2,atI_nat rfl,_,rfl,_,rfl,ll,_,_,_,rfl,rfl,SqL.of f1,atI_nat rfl,_,rfl,sa,ns,0,rfl,f7,by omega,λzz=>⟨_,_,rfl,rfl,⟨by decide,by decide⟩,_,_,rfl,rfl,(by show (0:Int)<3;decide),kl,o0,o1,o2,d0,d1,d2,r0,S0,a0,R0,L0,_,_,_,rfl,f3,f4,f5,f6,w.g0,hL01,hL04,by omega,by omega,w.t,λH8 k8 t8=>⟨true,rfl,iteF ⟨_,rfl,w.kp k8 t8⟩⟩⟩⟩
    ·exact⟨_,rfl,_,rfl,_,rfl,bl,_,_,_,rfl,rfl,SqL.of f2,atI_nat rfl,_,rfl,_,rfl,ll,_,_,_,rfl,rfl,SqL.of f1,atI_nat rfl,_,rfl,sa,ns,0,rfl,f7,by omega,λzz=>⟨_,_,rfl,rfl,⟨by decide,by decide⟩,_,_,rfl,rfl,(by show (0:Int)<3;decide),kl,o0,o1,o2,d0,d1,d2,r1,S1,a1,R1,L1,_,_,_,rfl,f3,f4,f5,f6,w.g1,hL11,hL14,by omega,by omega,w.t,λH8 k8 t8=>⟨true,rfl,iteF ⟨_,rfl,w.kp k8 t8⟩⟩⟩⟩
   ·rintro σ H7 ⟨v6,rfl,w⟩;obtain⟨f1,f2,f3,f4,f5,f6,f7⟩:=fx w;clear w fx f1 f2;obtain⟨asc0,asc1,asc2⟩:=asc_names;have mk:∀{H:Hp} {C x d:Addr},H x=none->H d=none->d≠x->Same H (upd (upd H d (.own x)) x (.ins C d [])):=λ{H C x d} nx nd ndx b u e=>Same.upd (H:=upd H d (.own x)) (by rw[upd_ne (Ne.symm ndx)];exact nx) b u (Same.upd nd b u e)
    refine⟨_,?_,λ_ _ h=>h⟩;refine⟨tLt,rfl,by decide,asc1,(λe=>absurd e (by decide)),(λ_ x1 x2 n1 n2 n3=>?_),(λe=>absurd e (by decide)),λ_ e=>absurd rfl e⟩;have s1:=mk (C:=A.c_ByLetters) n1 n2 n3;refine⟨.ref x1,A.c_ByLetters,.ref A.c_ByLetters,true,rfl,.ins upd_same (cl_ByLetters T) T.oc_ByLetters T.i5 T.i6 T.om_ByLetters,T.q_ByLetters_ByLetters,true,rfl,iteF ?_⟩;refine⟨tNw,rfl,by decide,asc2,(λe=>absurd e (by decide)),(λe=>absurd e (by decide)),(λ_ x3 x4 n4 n5 n6=>?_),λ_ _ e=>absurd rfl e⟩;have s2:=mk (C:=A.c_Newest) n4 n5 n6;refine⟨.ref x3,A.c_Newest,.ref A.c_Newest,true,rfl,.ins upd_same (cl_Newest T) T.oc_Newest T.i5 T.i6 T.om_Newest,T.q_Newest_Newest,true,rfl,iteF ?_⟩;refine⟨_,?_,λ_ _ h=>h⟩;refine⟨tRm,rfl,by decide,asc0,(λ_ x5 x6 n7 n8 n9=>?_),(λe=>absurd e (by decide)),(λe=>absurd e (by decide)),λe=>absurd rfl e⟩;have s3:=mk (C:=A.c_Order) n7 n8 n9;refine⟨.ref x5,A.c_Order,.ref A.c_Order,true,rfl,.ins upd_same (cl_Order T) T.oc_Order T.i5 T.i6 T.om_Order,T.q_Order_Order,true,rfl,iteF ?_⟩;refine⟨tRm,rfl,by decide,asc0,(λ_ x7 x8 n10 n11 n12=>?_),(λe=>absurd e (by decide)),(λe=>absurd e (by decide)),λe=>absurd rfl e⟩;have s4:=mk (C:=A.c_Order) n10 n11 n12;refine⟨.ref x7,A.c_ByLetters,.ref A.c_Order,false,rfl,.ins upd_same (cl_Order T) T.oc_Order T.i5 T.i6 T.om_Order,T.q_Order_ByLetters,false,rfl,iteF ?_⟩;have s5:Same H7 _:=λb u e=>s4 b u (s3 b u (s2 b u (s1 b u e)))
    generalize upd (upd (upd (upd (upd (upd (upd (upd H7 _ _) _ _) _ _) _ _) _ _) _ _) _ _) _ _=H8 at s5;have g3:=s5 _ _ f3;have g4:=s5 _ _ f4;have g5:=s5 _ _ f5;have g6:=s5 _ _ f6;have g7:=sq_same f7 s5;clear s1 s2 s3 s4 s5 f3 f4 f5 f6 f7 n1 n2 n3 n4 n5 n6 n7 n8 n9 n10 n11 n12;refine⟨3,rfl,by decide,by decide,?_⟩;refine for_range (lo:=0) (n:=(3:Int).toNat) (λi σ H9=>∃v8,σ=[some (.ref sa),some (.ref ll),some (.ref bl),some (.ref kl),v4,v5,v6,v7,v8,none,none]/\H9=H8) ⟨none,rfl,rfl⟩ ?_ ?_
    ·rintro i σ H9 hi ⟨v8,rfl,rfl⟩;rcases (show i=0\/i=1\/i=2 by have:i<3:=hi;omega) with rfl|rfl|rfl
     ·exact⟨_,rfl,_,rfl,kl,_,_,_,rfl,rfl,SqL.of g3,(by rw[Int.zero_add];exact atI_nat rfl),.ref o0,A.c_Order,.ref A.c_Order,true,rfl,.ins g4 (cl_Order T) T.oc_Order T.i5 T.i6 T.om_Order,T.q_Order_Order,true,rfl,iteF ⟨_,rfl,rfl⟩⟩
     ·exact⟨_,rfl,_,rfl,kl,_,_,_,rfl,rfl,SqL.of g3,(by rw[Int.zero_add];exact atI_nat rfl),.ref o1,A.c_Order,.ref A.c_ByLetters,true,rfl,.ins g5 (cl_ByLetters T) T.oc_ByLetters T.i5 T.i6 T.om_ByLetters,T.q_ByLetters_Order,true,rfl,iteF ⟨_,rfl,rfl⟩⟩
     ·exact⟨_,rfl,_,rfl,kl,_,_,_,rfl,rfl,SqL.of g3,(by rw[Int.zero_add];exact atI_nat rfl),.ref o2,A.c_Order,.ref A.c_Newest,true,rfl,.ins g6 (cl_Newest T) T.oc_Newest T.i5 T.i6 T.om_Newest,T.q_Newest_Order,true,rfl,iteF ⟨_,rfl,rfl⟩⟩
    ·rintro σ H9 ⟨v8,rfl,rfl⟩;refine⟨by show 3<=sizeLine;decide,λq1 nq1=>?_⟩;have s1:=Same.upd (o:=.lst [.str (tx tRm),.str (tx tLt),.str (tx tNw)]) nq1;refine⟨_,rfl,sa,ns,1,rfl,sq_same g7 s1,by omega,λz2=>?_⟩
     obtain⟨nm,hat,hnm⟩:∃nm,atI [V.str (tx tRm),V.str (tx tLt),V.str (tx tNw)] (z2 % 3)=some (.str (tx nm))/\(nm=tRm\/nm=tLt\/nm=tNw):=by
      rcases (show z2 % 3=((0:Nat):Int)\/z2 % 3=((1:Nat):Int)\/z2 % 3=((2:Nat):Int) by omega) with e|e|e
      ·exact⟨tRm,by rw[e];exact atI_nat rfl,.inl rfl⟩
      ·exact⟨tLt,by rw[e];exact atI_nat rfl,.inr (.inl rfl)⟩
      ·exact⟨tNw,by rw[e];exact atI_nat rfl,.inr (.inr rfl)⟩
     obtain⟨l1,l7,lc,lsl,lat⟩:=names_ok hnm;have fit:∀{n:Nat},n<=8->n<=sizeLine:=λh=>Nat.le_trans h (by decide)
     refine⟨_,_,rfl,rfl,(by show (0:Int)<3;decide),q1,_,_,_,rfl,rfl,SqL.of upd_same,hat,?_⟩;have g8:=sq_same g7 s1;refine⟨_,rfl,_,_,rfl,rfl,fit (by show nm.length+ 1<=8;omega),?_⟩;refine⟨_,rfl,1,rfl,nm,rfl,fit (by omega),.inr ⟨rfl,1,rfl,l1,?_⟩⟩;refine⟨_,rfl,_,_,rfl,rfl,fit (by show nm.length+ 1<=8;omega),?_⟩;refine⟨_,rfl,rfl,nm,rfl,rfl,by omega,lc,?_⟩;refine⟨_,rfl,_,rfl,_,rfl,nm,nm.dropLast,rfl,fit (by omega),rfl,rfl,lsl,?_⟩;refine⟨_,rfl,_,_,rfl,rfl,fit (by show 1+ nm.length<=8;omega),?_⟩;refine⟨_,rfl,nm,0,nm.getD 0 0,rfl,rfl,fit (by omega),lat,?_⟩;refine⟨by show 9<=sizeLine;decide,λwl nwl=>?_⟩;have s2:=Same.upd (o:=.lst ((wrongs nm).map λt=>V.str (tx t))) nwl;refine⟨_,rfl,_,rfl,sa,ns,1,rfl,sq_same g8 s2,by omega,λz3=>?_⟩;have q1:=Int.emod_nonneg (z3 / 3) (show (9:Int)≠0 by decide);have q2:=Int.emod_lt_of_pos (z3 / 3) (show (0:Int)<9 by decide);obtain⟨j,ej,hj⟩:∃j:Nat,z3 / 3 % 9=(j:Int)/\j<(wrongs nm).length:=⟨(z3 / 3 % 9).toNat,by omega,by show _<9;omega⟩;have ew:=List.getElem?_eq_getElem hj;generalize (wrongs nm)[j]=t at ew;obtain⟨t1,t2,t3,t4,t5⟩:=wrong_ok hnm t (List.mem_of_getElem? ew);refine⟨_,_,rfl,rfl,⟨by decide,by decide⟩,_,_,rfl,rfl,(by show (0:Int)<9;decide),wl,_,_,_,rfl,rfl,SqL.of (xs:=(wrongs nm).map λt=>V.str (tx t)) upd_same,(by rw[ej];exact atI_nat (by rw[List.getElem?_map,ew];rfl)),t,rfl,t1,t2,t3,t4,t5,k⟩
end
theorem all_mk {l:PySem.W.OpenLaw}{w:World}{K:PySem.W.Frag}{mg:Str->Option Value}{fa:Addr}(hfa:mg "law"=some (.ref fa))
 {C_YardError C_NoWord C_TooLong C_NoOrder C_TooMany C_TooGreat C_Order C_ByLetters C_Newest C_Rooms:Addr}
 {C_lc C_lt:Addr}
 {f1 f2 f3 f4 f5 f6 f7 f8 f9 f10 f11 f12 f13 f14 f15 f16 f17 f18 f19 f20 f21 f22 f23 f24 f25 f26 f27 f28 f29 f30:Addr} {d1 d2 d3 d4 d5 d6 d7 d8 d9 d10 d11 d12 d13 d14 d15 d16 d17 d18 d19 d20 d21 d22 d23 d24 d25 d26 d27 d28 d29 d30:FuncData}
 (y_YardError:mg "YardError"=some (.ref C_YardError))
 (y_NoWord:mg "NoWord"=some (.ref C_NoWord))
 (y_TooLong:mg "TooLong"=some (.ref C_TooLong))
 (y_NoOrder:mg "NoOrder"=some (.ref C_NoOrder))
 (y_TooMany:mg "TooMany"=some (.ref C_TooMany))
 (y_TooGreat:mg "TooGreat"=some (.ref C_TooGreat))
 (y_Order:mg "Order"=some (.ref C_Order))
 (y_ByLetters:mg "ByLetters"=some (.ref C_ByLetters))
 (y_Newest:mg "Newest"=some (.ref C_Newest))
 (y_Rooms:mg "Rooms"=some (.ref C_Rooms))
 (D1:Def K mg "steps_of" s_steps_of ["letters"] f1 d1)
 (D2:Def K mg "place_of" s_place_of ["step"] f2 d2)
 (D3:Def K mg "order_by" s_order_by ["name"] f3 d3)
 (D4:Def K mg "first_of" s_first_of ["rooms","some"] f4 d4)
 (D5:Def K mg "all_gaps" s_all_gaps ["letters"] f5 d5)
 (D6:Def K mg "own" s_own ["value"] f6 d6)
 (D7:Def K mg "_law_cell_at" s__law_cell_at ["_law_script","_law_k"] f7 d7)
 (D8:Def K mg "_law_whole" s__law_whole ["_law_found"] f8 d8)
 (D9:Def K mg "_law_step" s__law_step ["_law_number","_law_letters"] f9 d9)
 (D10:Def K mg "_law_gaps" s__law_gaps ["_law_rooms","_law_letters"] f10 d10)
 (D11:Def K mg "_law_due" s__law_due ["_law_gaps_here","_law_way"] f11 d11)
 (D12:Def K mg "_law_right" s__law_right ["_law_found","_law_due_here"] f12 d12)
 (D13:Def K mg "_law_refused" s__law_refused ["_law_name"] f13 d13)
 (D14:Def K mg "_law_asked" s__law_asked ["_law_kinds","_law_rooms","_law_letters","_law_turned"] f14 d14)
 (D15:Def K mg "_law_deed" s__law_deed ["_law_rooms","_law_letters","_law_cell","_law_at"] f15 d15)
 (D16:Def K mg "law" s_law ["_law_script"] f16 d16)
 (D17:MDef K C_Order "gap" "Order.gap" s_Order_gap ["self","rooms"] f17 d17)
 (D18:MDef K C_ByLetters "gap" "ByLetters.gap" s_ByLetters_gap ["self","rooms"] f18 d18)
 (D19:MDef K C_Newest "gap" "Newest.gap" s_Newest_gap ["self","rooms"] f19 d19)
 (D20:MDef K C_Rooms "__init__" "Rooms.__init__" s_Rooms___init__ ["self","letters"] f20 d20)
 (D21:MDef K C_Rooms "make" "Rooms.make" s_Rooms_make ["self","room","step"] f21 d21)
 (D22:MDef K C_Rooms "lay" "Rooms.lay" s_Rooms_lay ["self","room","step","other","row"] f22 d22)
 (D23:MDef K C_Rooms "by" "Rooms.by" s_Rooms_by ["self","room","step"] f23 d23)
 (D24:MDef K C_Rooms "standing" "Rooms.standing" s_Rooms_standing ["self"] f24 d24)
 (D25:MDef K C_Rooms "paper" "Rooms.paper" s_Rooms_paper ["self"] f25 d25)
 (D26:MDef K C_Rooms "first_gap" "Rooms.first_gap" s_Rooms_first_gap ["self","room"] f26 d26)
 (D27:MDef K C_Rooms "keep" "Rooms.keep" s_Rooms_keep ["self","room","step","other"] f27 d27)
 (D28:MDef K C_Rooms "take_in" "Rooms.take_in" s_Rooms_take_in ["self","way","pending"] f28 d28)
 (D29:MDef K C_Rooms "put_together" "Rooms.put_together" s_Rooms_put_together ["self","room","step","one","other","pending"] f29 d29)
 (D30:MDef K C_Rooms "put_off" "Rooms.put_off" s_Rooms_put_off ["self","room","pending"] f30 d30)
 (z1:mg "min"=none)
 (z2:mg "max"=none)
 (z3:mg "range"=none)
 (z4:mg "len"=none)
 (z5:mg "tuple"=none)
 (z6:mg "list"=none)
 (z7:mg "isinstance"=none)
 (z8:mg "bool"=none)
 (z9:mg "int"=none)
 (z10:mg "dict"=none)
 (z11:mg "ValueError"=none)
 (z12:mg "reversed"=none)
 (z13:mg "enumerate"=none)
 (w_pg_Rooms:PySem.W.plainGet K C_Rooms Str.empty=true)
 (w_hd_Rooms:PySem.W.hasDictIn K C_Rooms=true)
 (w_po_Rooms:PySem.W.plainOver K C_Rooms=true)
 (w_sa_Rooms:PySem.W.findIn K (.ref C_Rooms) "__setattr__"=some (some (.builtin "object.__setattr__")))
 (w_mk_Rooms:PySem.W.makesIn K C_Rooms=true)
 (w_kc_Rooms:PySem.W.keepIn K (.ref C_Rooms)=true)
 (w_n_letters:PySem.W.findIn K (.ref C_Rooms) "letters"=some none)
 (w_n_made:PySem.W.findIn K (.ref C_Rooms) "made"=some none)
 (w_n_rows:PySem.W.findIn K (.ref C_Rooms) "rows"=some none)
 (w_n_ways:PySem.W.findIn K (.ref C_Rooms) "ways"=some none)
 (w_n_gaps:PySem.W.findIn K (.ref C_Rooms) "gaps"=some none)
 (w_n_elders:PySem.W.findIn K (.ref C_Rooms) "elders"=some none)
 (w_n_called:PySem.W.findIn K (.ref C_Rooms) "called"=some none)
 (w_n_went:PySem.W.findIn K (.ref C_Rooms) "went"=some none)
 (w_pg_Order:PySem.W.plainGet K C_Order Str.empty=true)
 (w_hd_Order:PySem.W.hasDictIn K C_Order=true)
 (w_po_Order:PySem.W.plainOver K C_Order=true)
 (w_sa_Order:PySem.W.findIn K (.ref C_Order) "__setattr__"=some (some (.builtin "object.__setattr__")))
 (w_mk_Order:PySem.W.makesIn K C_Order=true)
 (w_kc_Order:PySem.W.keepIn K (.ref C_Order)=true)
 (w_io_Order:PySem.W.findIn K (.ref C_Order) "__init__"=some (some (.builtin "object.__init__")))
 (w_oc_Order:PySem.W.findIn K (.ref C_Order) "__class__"=some (some (.builtin "object.__class__")))
 (w_om_Order:PySem.W.mroIn K C_Order (.type "object")=some true)
 (w_pg_ByLetters:PySem.W.plainGet K C_ByLetters Str.empty=true)
 (w_hd_ByLetters:PySem.W.hasDictIn K C_ByLetters=true)
 (w_po_ByLetters:PySem.W.plainOver K C_ByLetters=true)
 (w_sa_ByLetters:PySem.W.findIn K (.ref C_ByLetters) "__setattr__"=some (some (.builtin "object.__setattr__")))
 (w_mk_ByLetters:PySem.W.makesIn K C_ByLetters=true)
 (w_kc_ByLetters:PySem.W.keepIn K (.ref C_ByLetters)=true)
 (w_io_ByLetters:PySem.W.findIn K (.ref C_ByLetters) "__init__"=some (some (.builtin "object.__init__")))
 (w_oc_ByLetters:PySem.W.findIn K (.ref C_ByLetters) "__class__"=some (some (.builtin "object.__class__")))
 (w_om_ByLetters:PySem.W.mroIn K C_ByLetters (.type "object")=some true)
 (w_pg_Newest:PySem.W.plainGet K C_Newest Str.empty=true)
 (w_hd_Newest:PySem.W.hasDictIn K C_Newest=true)
 (w_po_Newest:PySem.W.plainOver K C_Newest=true)
 (w_sa_Newest:PySem.W.findIn K (.ref C_Newest) "__setattr__"=some (some (.builtin "object.__setattr__")))
 (w_mk_Newest:PySem.W.makesIn K C_Newest=true)
 (w_kc_Newest:PySem.W.keepIn K (.ref C_Newest)=true)
 (w_io_Newest:PySem.W.findIn K (.ref C_Newest) "__init__"=some (some (.builtin "object.__init__")))
 (w_oc_Newest:PySem.W.findIn K (.ref C_Newest) "__class__"=some (some (.builtin "object.__class__")))
 (w_om_Newest:PySem.W.mroIn K C_Newest (.type "object")=some true)
 (w_x_NoOrder:PySem.W.excIn K C_NoOrder mroV "ValueError.__new__"=true)
 (w_e_T:PySem.W.exmOne K (.ref C_NoOrder) (.ref C_YardError)=some true)
 (w_i_T1:PySem.W.findIn K (.ref C_NoOrder) "__getattribute__"=some (some (.builtin "BaseException.__getattribute__")))
 (w_i_T2:PySem.W.findIn K (.ref C_NoOrder) "__getattr__"=some none)
 (w_i_T3:PySem.W.isClsIn K C_NoOrder=true)
 (w_i_T4:PySem.W.findIn K (.ref C_NoOrder) "__class__"=some (some (.builtin "object.__class__")))
 (w_i5:PySem.W.specialIn K (.builtin "object.__class__") "__get__"=some (some (.builtin "getset_descriptor.__get__")))
 (w_i6:PySem.W.takesIn K (.builtin "object.__class__")=some true)
 (w_i_T7:PySem.W.mroIn K C_NoOrder (.type "object")=some true)
 (w_i_T8:PySem.W.subIn K (.ref C_NoOrder) (.type "BaseException")=some true)
 (w_k_N:PySem.W.kitOne K (.ref C_NoOrder) (.ref C_NoOrder)=some true)
 (w_k_V:PySem.W.kitOne K (.ref C_NoOrder) (.type "ValueError")=some true)
 (w_k_NoWord:PySem.W.kitOne K (.ref C_NoOrder) (.ref C_NoWord)=some false)
 (w_k_TooLong:PySem.W.kitOne K (.ref C_NoOrder) (.ref C_TooLong)=some false)
 (w_k_TooMany:PySem.W.kitOne K (.ref C_NoOrder) (.ref C_TooMany)=some false)
 (w_k_TooGreat:PySem.W.kitOne K (.ref C_NoOrder) (.ref C_TooGreat)=some false)
 (w_q_ByLetters_ByLetters:PySem.W.kitOne K (.ref C_ByLetters) (.ref C_ByLetters)=some true)
 (w_q_Newest_Newest:PySem.W.kitOne K (.ref C_Newest) (.ref C_Newest)=some true)
 (w_q_Order_Order:PySem.W.kitOne K (.ref C_Order) (.ref C_Order)=some true)
 (w_q_Order_ByLetters:PySem.W.kitOne K (.ref C_Order) (.ref C_ByLetters)=some false)
 (w_q_ByLetters_Order:PySem.W.kitOne K (.ref C_ByLetters) (.ref C_Order)=some true)
 (w_q_Newest_Order:PySem.W.kitOne K (.ref C_Newest) (.ref C_Order)=some true)
 (w_lam:LamAt K d18 C_lc C_lt)
 :∃fd:FuncData,(∃fd2 c,LamAt K fd2 c C_lt)/\(∀(s:Shared) (v:Value),BindsTo s fd ⟨[v],[]⟩ [("_law_script",v)])/\∀base:Heap,K.In base->base.Ns mainGlobals mg->BltB mg base->FnOk l.prog w K mg base (CXw l.prog w) 8 fa fd ["_law_script"] (spLaw K C_lt):=by
 have e:=hfa.symm.trans D16.m;cases e;have T:Txt K mg ⟨f1,d1,f2,d2,f3,d3,f4,d4,f5,d5,f6,d6,f7,d7,f8,d8,f9,d9,f10,d10,f11,d11,f12,d12,f13,d13,f14,d14,f15,d15,fa,d16,f17,d17,f18,d18,f19,d19,f20,d20,f21,d21,f22,d22,f23,d23,f24,d24,f25,d25,f26,d26,f27,d27,f28,d28,f29,d29,f30,d30,C_YardError,C_NoWord,C_TooLong,C_NoOrder,C_TooMany,C_TooGreat,C_Order,C_ByLetters,C_Newest,C_Rooms,C_lc,C_lt⟩:=⟨D1,D2,D3,D4,D5,D6,D7,D8,D9,D10,D11,D12,D13,D14,D15,D16,D17,D18,D19,D20,D21,D22,D23,D24,D25,D26,D27,D28,D29,D30,z1,z2,z3,z4,z5,z6,z7,z8,z9,z10,z11,z12,z13,y_YardError,y_NoWord,y_TooLong,y_NoOrder,y_TooMany,y_TooGreat,y_Order,y_ByLetters,y_Newest,y_Rooms,w_pg_Rooms,w_hd_Rooms,w_po_Rooms,w_sa_Rooms,w_mk_Rooms,w_kc_Rooms,w_n_letters,w_n_made,w_n_rows,w_n_ways,w_n_gaps,w_n_elders,w_n_called,w_n_went,w_pg_Order,w_hd_Order,w_po_Order,w_sa_Order,w_mk_Order,w_kc_Order,w_io_Order,w_oc_Order,w_om_Order,w_pg_ByLetters,w_hd_ByLetters,w_po_ByLetters,w_sa_ByLetters,w_mk_ByLetters,w_kc_ByLetters,w_io_ByLetters,w_oc_ByLetters,w_om_ByLetters,w_pg_Newest,w_hd_Newest,w_po_Newest,w_sa_Newest,w_mk_Newest,w_kc_Newest,w_io_Newest,w_oc_Newest,w_om_Newest,w_x_NoOrder,w_e_T,w_i_T1,w_i_T2,w_i_T3,w_i_T4,w_i5,w_i6,w_i_T7,w_i_T8,w_k_N,w_k_V,w_k_NoWord,w_k_TooLong,w_k_TooMany,w_k_TooGreat,w_q_ByLetters_ByLetters,w_q_Newest_Newest,w_q_Order_Order,w_q_Order_ByLetters,w_q_ByLetters_Order,w_q_Newest_Order,w_lam⟩;obtain⟨kV,doc,pm,an,cdv,ct,e⟩:=D16.fd;exact⟨_,⟨_,_,w_lam⟩,λs v=>by rw[e];exact .of_eq rfl,λbase _ _ hbl=>ok_law T hbl⟩
theorem walk {l:PySem.W.OpenLaw}{q:Program}{loose:List Str}{XP:(Str->Option Value)->Heap->Prop}{YP:World->Heap->Prop}{d:DefRec}{K:Params->PySem.W.Frag}{Pt:Addr}(hn:l.most=some 63)(hdf:d.params.defaults=[])
 (hY:∀(w:World) (h:Heap),YP w h->(K w.params).In h/\h.get? Pt=some (PySem.W.tabObj #[]))
 (F:∀(w:World) (mg:Str->Option Value) (fa:Addr) (h:Heap),(K w.params).In h->h.Ns mainGlobals mg->mg d.name=some (.ref fa)->
  ∃fd:FuncData,(∃fd2 c,LamAt (K w.params) fd2 c Pt)/\(∀(s:Shared) (u:Value),BindsTo s fd ⟨[u],[]⟩ [("_law_script",u)])/\∀base:Heap,(K w.params).In base->base.Ns mainGlobals mg->BltB mg base->FnOk l.prog w (K w.params) mg base (CXw l.prog w) 8 fa fd ["_law_script"] (spLaw (K w.params) Pt)):
 PySem.W.WalkO q loose XP YP l.row.toRowW d [] (λf vs=>PySem.call f vs):=
 L2.walk_ofT (n:=63) (k:=8) (x:="_law_script") (CX:=λw=>(CXw l.prog w)) (sp:=λw=>spLaw (K w.params) Pt) hn (by decide) hdf ⟨rfl,by decide,by decide⟩ hY F (λ_ _ a ns hl hP hS=>⟨a,ns,rfl,hS,hl,hP,λ_=>rfl⟩) λ_ _ _ _ _ z=>noCX z
end K31
open PySem PySem.W PyProof.Rows
namespace PySem.W.Fast
def tw16049658170796946839:=0
def tw3598942570020505889:=0
def tw9412408346253424821:=0
def tw7735389286329561052:=0
def tw17864596434953933501:=0
def tw3484386921024828865:=0
def tw1237386765644940677:=0
def tw13247770214215430778:=0
def tw1242551193432403932:=0
def tw12728765768350261434:=0
def tw17112322961497780213:=0
def tw16714108292406675609:=0
def tw7715647674879189313:=0
def tw10649181563267418500:=0
def tw14859594910078113804:=0
def tw5349686108910730880:=0
def tw15845993841804551582:=0
def tw16951132688737402811:=0
def tw16987311172313617868:=0
def tw16907719081026351745:=0
def tw3902897155806735347:=0
def tw16769539462124867286:=0
def tw5508882028892496654:=0
def tw4502088904113968877:=0
def tw14719581153157564876:=0
def tw16157633970976580503:=0
def tw1603031071298701061:=0
def tw1536518898767979387:=0
def tw13680569164660327160:=0
def tw4913383248708842534:=0
def tw14878110383919120655:=0
def tw868951484438123588:=0
def tw6065637972387979412:=0
def tw15819567014017539779:=0
def tw8666818184830298806:=0
def tw11451693970500037089:=0
def tw8430739860213299495:=0
def tw2620767937895931526:=0
def tw15317697432217568634:=0
def tw17827128802650005006:=0
def tw600952255299789303:=0
def tw11640053710373567058:=0
def tw6586551683876725528:=0
def tw8223470893809800819:=0
def tw2534845830072529989:=0
def tw11725547407388647798:=0
def tw14072625155554037253:=0
def tw6654499808246040917:=0
def tw9557791906746518510:=0
def tw10583992096738061933:=0
def tw12729920843277484:=0
def tw11330472527859470058:=0
def tw15343986395522712478:=0
def tw14183729014651789215:=0
def tw15287240992039499907:=0
def tw18111805110243812134:=0
def tw3790427194822768994:=0
def tw14170547344493097485:=0
def tw16128893422831651343:=0
def tw7735732844097016776:=0
def tw17270031406678658572:=0
def tw17102856878269435210:=0
def tw15976581560392649080:=0
def tw3801798628432925687:=0
def tw5215545065915963116:=0
def tw7628215665861435532:=0
def tw8154831716081578705:=0
def tw17913630464651784923:=0
def tw13818722993517871338:=0
def tw9230677241422181898:=0
def tw14356557418162963709:=0
def tw3032854761501602552:=0
def tw7831692344807271276:=0
def tw10332330146172528813:=0
def tw9776324936566226077:=0
def tw7449596879461336446:=0
def tw15840226718024293752:=0
def tw7559165214679861876:=0
def tw13769516279460506675:=0
def tw10212065213653719701:=0
end PySem.W.Fast
set_option maxRecDepth 100000 in
set_option maxHeartbeats 0 in
theorem PySem.Challenge.cw_cosetyard_k31_the_first_gap_holds : PySem.Challenge.rw_cosetyard_k31_the_first_gap.Holds := by
  w_on; o_law; k_head; (case hw => w_witness2)
  k_fill
  refine K31.walk (l := PySem.Challenge.rw_cosetyard_k31_the_first_gap) rfl rfl (fun w h Y => ⟨PySem.W.km_in_of Y, PySem.W.km_tabs_of Y _ (List.Mem.head _)⟩) ?F
  case F =>
    intro w mg fa h KX G hmg
    refine' K31.all_mk hmg ?y_YardError ?y_NoWord ?y_TooLong ?y_NoOrder ?y_TooMany ?y_TooGreat ?y_Order ?y_ByLetters ?y_Newest ?y_Rooms ?D1 ?D2 ?D3 ?D4 ?D5 ?D6 ?D7 ?D8 ?D9 ?D10 ?D11 ?D12 ?D13 ?D14 ?D15 ?D16 ?D17 ?D18 ?D19 ?D20 ?D21 ?D22 ?D23 ?D24 ?D25 ?D26 ?D27 ?D28 ?D29 ?D30 ?z1 ?z2 ?z3 ?z4 ?z5 ?z6 ?z7 ?z8 ?z9 ?z10 ?z11 ?z12 ?z13 ?w_pg_Rooms ?w_hd_Rooms ?w_po_Rooms ?w_sa_Rooms ?w_mk_Rooms ?w_kc_Rooms ?w_n_letters ?w_n_made ?w_n_rows ?w_n_ways ?w_n_gaps ?w_n_elders ?w_n_called ?w_n_went ?w_pg_Order ?w_hd_Order ?w_po_Order ?w_sa_Order ?w_mk_Order ?w_kc_Order ?w_io_Order ?w_oc_Order ?w_om_Order ?w_pg_ByLetters ?w_hd_ByLetters ?w_po_ByLetters ?w_sa_ByLetters ?w_mk_ByLetters ?w_kc_ByLetters ?w_io_ByLetters ?w_oc_ByLetters ?w_om_ByLetters ?w_pg_Newest ?w_hd_Newest ?w_po_Newest ?w_sa_Newest ?w_mk_Newest ?w_kc_Newest ?w_io_Newest ?w_oc_Newest ?w_om_Newest ?w_x_NoOrder ?w_e_T ?w_i_T1 ?w_i_T2 ?w_i_T3 ?w_i_T4 ?w_i5 ?w_i6 ?w_i_T7 ?w_i_T8 ?w_k_N ?w_k_V ?w_k_NoWord ?w_k_TooLong ?w_k_TooMany ?w_k_TooGreat ?w_q_ByLetters_ByLetters ?w_q_Newest_Newest ?w_q_Order_Order ?w_q_Order_ByLetters ?w_q_ByLetters_Order ?w_q_Newest_Order ?w_lam
    (case y_YardError => refine' PySem.W.mg_of KX G ?a; (case a => k_is))
    (case y_NoWord => refine' PySem.W.mg_of KX G ?a; (case a => k_is))
    (case y_TooLong => refine' PySem.W.mg_of KX G ?a; (case a => k_is))
    (case y_NoOrder => refine' PySem.W.mg_of KX G ?a; (case a => k_is))
    (case y_TooMany => refine' PySem.W.mg_of KX G ?a; (case a => k_is))
    (case y_TooGreat => refine' PySem.W.mg_of KX G ?a; (case a => k_is))
    (case y_Order => refine' PySem.W.mg_of KX G ?a; (case a => k_is))
    (case y_ByLetters => refine' PySem.W.mg_of KX G ?a; (case a => k_is))
    (case y_Newest => refine' PySem.W.mg_of KX G ?a; (case a => k_is))
    (case y_Rooms => refine' PySem.W.mg_of KX G ?a; (case a => k_is))
    (case D1 => refine' L2.Def.of KX G ?a ?l ?c ?k (fun _ _ _ _ _ _ _ hl => by obtain ⟨_, rfl⟩ := L2.args_is1 hl; rfl); (case a => k_is); (case l => k_is); (case c => k_is); (case k => k_is))
    (case D2 => refine' L2.Def.of KX G ?a ?l ?c ?k (fun _ _ _ _ _ _ _ hl => by obtain ⟨_, rfl⟩ := L2.args_is1 hl; rfl); (case a => k_is); (case l => k_is); (case c => k_is); (case k => k_is))
    (case D3 => refine' L2.Def.of KX G ?a ?l ?c ?k (fun _ _ _ _ _ _ _ hl => by obtain ⟨_, rfl⟩ := L2.args_is1 hl; rfl); (case a => k_is); (case l => k_is); (case c => k_is); (case k => k_is))
    (case D4 => refine' L2.Def.of KX G ?a ?l ?c ?k (fun _ _ _ _ _ _ _ hl => by obtain ⟨_, _, rfl⟩ := L2.args_is2 hl; rfl); (case a => k_is); (case l => k_is); (case c => k_is); (case k => k_is))
    (case D5 => refine' L2.Def.of KX G ?a ?l ?c ?k (fun _ _ _ _ _ _ _ hl => by obtain ⟨_, rfl⟩ := L2.args_is1 hl; rfl); (case a => k_is); (case l => k_is); (case c => k_is); (case k => k_is))
    (case D6 => refine' L2.Def.of KX G ?a ?l ?c ?k (fun _ _ _ _ _ _ _ hl => by obtain ⟨_, rfl⟩ := L2.args_is1 hl; rfl); (case a => k_is); (case l => k_is); (case c => k_is); (case k => k_is))
    (case D7 => refine' L2.Def.of KX G ?a ?l ?c ?k (fun _ _ _ _ _ _ _ hl => by obtain ⟨_, _, rfl⟩ := L2.args_is2 hl; rfl); (case a => k_is); (case l => k_is); (case c => k_is); (case k => k_is))
    (case D8 => refine' L2.Def.of KX G ?a ?l ?c ?k (fun _ _ _ _ _ _ _ hl => by obtain ⟨_, rfl⟩ := L2.args_is1 hl; rfl); (case a => k_is); (case l => k_is); (case c => k_is); (case k => k_is))
    (case D9 => refine' L2.Def.of KX G ?a ?l ?c ?k (fun _ _ _ _ _ _ _ hl => by obtain ⟨_, _, rfl⟩ := L2.args_is2 hl; rfl); (case a => k_is); (case l => k_is); (case c => k_is); (case k => k_is))
    (case D10 => refine' L2.Def.of KX G ?a ?l ?c ?k (fun _ _ _ _ _ _ _ hl => by obtain ⟨_, _, rfl⟩ := L2.args_is2 hl; rfl); (case a => k_is); (case l => k_is); (case c => k_is); (case k => k_is))
    (case D11 => refine' L2.Def.of KX G ?a ?l ?c ?k (fun _ _ _ _ _ _ _ hl => by obtain ⟨_, _, rfl⟩ := L2.args_is2 hl; rfl); (case a => k_is); (case l => k_is); (case c => k_is); (case k => k_is))
    (case D12 => refine' L2.Def.of KX G ?a ?l ?c ?k (fun _ _ _ _ _ _ _ hl => by obtain ⟨_, _, rfl⟩ := L2.args_is2 hl; rfl); (case a => k_is); (case l => k_is); (case c => k_is); (case k => k_is))
    (case D13 => refine' L2.Def.of KX G ?a ?l ?c ?k (fun _ _ _ _ _ _ _ hl => by obtain ⟨_, rfl⟩ := L2.args_is1 hl; rfl); (case a => k_is); (case l => k_is); (case c => k_is); (case k => k_is))
    (case D14 => refine' L2.Def.of KX G ?a ?l ?c ?k (fun _ _ _ _ _ _ _ hl => by obtain ⟨_, _, _, _, rfl⟩ := L2.args_is4 hl; rfl); (case a => k_is); (case l => k_is); (case c => k_is); (case k => k_is))
    (case D15 => refine' L2.Def.of KX G ?a ?l ?c ?k (fun _ _ _ _ _ _ _ hl => by obtain ⟨_, _, _, _, rfl⟩ := L2.args_is4 hl; rfl); (case a => k_is); (case l => k_is); (case c => k_is); (case k => k_is))
    (case D16 => refine' L2.Def.of KX G ?a ?l ?c ?k (fun _ _ _ _ _ _ _ hl => by obtain ⟨_, rfl⟩ := L2.args_is1 hl; rfl); (case a => k_is); (case l => k_is); (case c => k_is); (case k => k_is))
    (case D17 => refine' L2.MDef.of ?a ?i ?l ?c ?k (fun _ _ _ _ _ _ _ hl => by obtain ⟨_, _, rfl⟩ := L2.args_is2 hl; rfl); (case a => k_is); (case i => k_is); (case l => k_is); (case c => k_is); (case k => k_is))
    (case D18 => refine' L2.MDef.of ?a ?i ?l ?c ?k (fun _ _ _ _ _ _ _ hl => by obtain ⟨_, _, rfl⟩ := L2.args_is2 hl; rfl); (case a => k_is); (case i => k_is); (case l => k_is); (case c => k_is); (case k => k_is))
    (case D19 => refine' L2.MDef.of ?a ?i ?l ?c ?k (fun _ _ _ _ _ _ _ hl => by obtain ⟨_, _, rfl⟩ := L2.args_is2 hl; rfl); (case a => k_is); (case i => k_is); (case l => k_is); (case c => k_is); (case k => k_is))
    (case D20 => refine' L2.MDef.of ?a ?i ?l ?c ?k (fun _ _ _ _ _ _ _ hl => by obtain ⟨_, _, rfl⟩ := L2.args_is2 hl; rfl); (case a => k_is); (case i => k_is); (case l => k_is); (case c => k_is); (case k => k_is))
    (case D21 => refine' L2.MDef.of ?a ?i ?l ?c ?k (fun _ _ _ _ _ _ _ hl => by obtain ⟨_, _, _, rfl⟩ := L2.args_is3 hl; rfl); (case a => k_is); (case i => k_is); (case l => k_is); (case c => k_is); (case k => k_is))
    (case D22 => refine' L2.MDef.of ?a ?i ?l ?c ?k (fun _ _ _ _ _ _ _ hl => by obtain ⟨_, _, _, _, _, rfl⟩ := L2.args_is5 hl; rfl); (case a => k_is); (case i => k_is); (case l => k_is); (case c => k_is); (case k => k_is))
    (case D23 => refine' L2.MDef.of ?a ?i ?l ?c ?k (fun _ _ _ _ _ _ _ hl => by obtain ⟨_, _, _, rfl⟩ := L2.args_is3 hl; rfl); (case a => k_is); (case i => k_is); (case l => k_is); (case c => k_is); (case k => k_is))
    (case D24 => refine' L2.MDef.of ?a ?i ?l ?c ?k (fun _ _ _ _ _ _ _ hl => by obtain ⟨_, rfl⟩ := L2.args_is1 hl; rfl); (case a => k_is); (case i => k_is); (case l => k_is); (case c => k_is); (case k => k_is))
    (case D25 => refine' L2.MDef.of ?a ?i ?l ?c ?k (fun _ _ _ _ _ _ _ hl => by obtain ⟨_, rfl⟩ := L2.args_is1 hl; rfl); (case a => k_is); (case i => k_is); (case l => k_is); (case c => k_is); (case k => k_is))
    (case D26 => refine' L2.MDef.of ?a ?i ?l ?c ?k (fun _ _ _ _ _ _ _ hl => by obtain ⟨_, _, rfl⟩ := L2.args_is2 hl; rfl); (case a => k_is); (case i => k_is); (case l => k_is); (case c => k_is); (case k => k_is))
    (case D27 => refine' L2.MDef.of ?a ?i ?l ?c ?k (fun _ _ _ _ _ _ _ hl => by obtain ⟨_, _, _, _, rfl⟩ := L2.args_is4 hl; rfl); (case a => k_is); (case i => k_is); (case l => k_is); (case c => k_is); (case k => k_is))
    (case D28 => refine' L2.MDef.of ?a ?i ?l ?c ?k (fun _ _ _ _ _ _ _ hl => by obtain ⟨_, _, _, rfl⟩ := L2.args_is3 hl; rfl); (case a => k_is); (case i => k_is); (case l => k_is); (case c => k_is); (case k => k_is))
    (case D29 => refine' L2.MDef.of ?a ?i ?l ?c ?k (fun _ _ _ _ _ _ _ hl => by obtain ⟨_, _, _, _, _, _, rfl⟩ := L2.args_is6 hl; rfl); (case a => k_is); (case i => k_is); (case l => k_is); (case c => k_is); (case k => k_is))
    (case D30 => refine' L2.MDef.of ?a ?i ?l ?c ?k (fun _ _ _ _ _ _ _ hl => by obtain ⟨_, _, _, rfl⟩ := L2.args_is3 hl; rfl); (case a => k_is); (case i => k_is); (case l => k_is); (case c => k_is); (case k => k_is))
    (case z1 => refine' PySem.W.mg_none_of KX G ?a; (case a => k_is))
    (case z2 => refine' PySem.W.mg_none_of KX G ?a; (case a => k_is))
    (case z3 => refine' PySem.W.mg_none_of KX G ?a; (case a => k_is))
    (case z4 => refine' PySem.W.mg_none_of KX G ?a; (case a => k_is))
    (case z5 => refine' PySem.W.mg_none_of KX G ?a; (case a => k_is))
    (case z6 => refine' PySem.W.mg_none_of KX G ?a; (case a => k_is))
    (case z7 => refine' PySem.W.mg_none_of KX G ?a; (case a => k_is))
    (case z8 => refine' PySem.W.mg_none_of KX G ?a; (case a => k_is))
    (case z9 => refine' PySem.W.mg_none_of KX G ?a; (case a => k_is))
    (case z10 => refine' PySem.W.mg_none_of KX G ?a; (case a => k_is))
    (case z11 => refine' PySem.W.mg_none_of KX G ?a; (case a => k_is))
    (case z12 => refine' PySem.W.mg_none_of KX G ?a; (case a => k_is))
    (case z13 => refine' PySem.W.mg_none_of KX G ?a; (case a => k_is))
    (case w_pg_Rooms => first | k_is | kit_is | kts_exm | kernel_rfl)
    (case w_hd_Rooms => first | k_is | kit_is | kts_exm | kernel_rfl)
    (case w_po_Rooms => first | k_is | kit_is | kts_exm | kernel_rfl)
    (case w_sa_Rooms => first | k_is | kit_is | kts_exm | kernel_rfl)
    (case w_mk_Rooms => first | k_is | kit_is | kts_exm | kernel_rfl)
    (case w_kc_Rooms => first | k_is | kit_is | kts_exm | kernel_rfl)
    (case w_n_letters => first | k_is | kit_is | kts_exm | kernel_rfl)
    (case w_n_made => first | k_is | kit_is | kts_exm | kernel_rfl)
    (case w_n_rows => first | k_is | kit_is | kts_exm | kernel_rfl)
    (case w_n_ways => first | k_is | kit_is | kts_exm | kernel_rfl)
    (case w_n_gaps => first | k_is | kit_is | kts_exm | kernel_rfl)
    (case w_n_elders => first | k_is | kit_is | kts_exm | kernel_rfl)
    (case w_n_called => first | k_is | kit_is | kts_exm | kernel_rfl)
    (case w_n_went => first | k_is | kit_is | kts_exm | kernel_rfl)
    (case w_pg_Order => first | k_is | kit_is | kts_exm | kernel_rfl)
    (case w_hd_Order => first | k_is | kit_is | kts_exm | kernel_rfl)
    (case w_po_Order => first | k_is | kit_is | kts_exm | kernel_rfl)
    (case w_sa_Order => first | k_is | kit_is | kts_exm | kernel_rfl)
    (case w_mk_Order => first | k_is | kit_is | kts_exm | kernel_rfl)
    (case w_kc_Order => first | k_is | kit_is | kts_exm | kernel_rfl)
    (case w_io_Order => first | k_is | kit_is | kts_exm | kernel_rfl)
    (case w_oc_Order => first | k_is | kit_is | kts_exm | kernel_rfl)
    (case w_om_Order => first | k_is | kit_is | kts_exm | kernel_rfl)
    (case w_pg_ByLetters => first | k_is | kit_is | kts_exm | kernel_rfl)
    (case w_hd_ByLetters => first | k_is | kit_is | kts_exm | kernel_rfl)
    (case w_po_ByLetters => first | k_is | kit_is | kts_exm | kernel_rfl)
    (case w_sa_ByLetters => first | k_is | kit_is | kts_exm | kernel_rfl)
    (case w_mk_ByLetters => first | k_is | kit_is | kts_exm | kernel_rfl)
    (case w_kc_ByLetters => first | k_is | kit_is | kts_exm | kernel_rfl)
    (case w_io_ByLetters => first | k_is | kit_is | kts_exm | kernel_rfl)
    (case w_oc_ByLetters => first | k_is | kit_is | kts_exm | kernel_rfl)
    (case w_om_ByLetters => first | k_is | kit_is | kts_exm | kernel_rfl)
    (case w_pg_Newest => first | k_is | kit_is | kts_exm | kernel_rfl)
    (case w_hd_Newest => first | k_is | kit_is | kts_exm | kernel_rfl)
    (case w_po_Newest => first | k_is | kit_is | kts_exm | kernel_rfl)
    (case w_sa_Newest => first | k_is | kit_is | kts_exm | kernel_rfl)
    (case w_mk_Newest => first | k_is | kit_is | kts_exm | kernel_rfl)
    (case w_kc_Newest => first | k_is | kit_is | kts_exm | kernel_rfl)
    (case w_io_Newest => first | k_is | kit_is | kts_exm | kernel_rfl)
    (case w_oc_Newest => first | k_is | kit_is | kts_exm | kernel_rfl)
    (case w_om_Newest => first | k_is | kit_is | kts_exm | kernel_rfl)
    (case w_x_NoOrder => first | k_is | kit_is | kts_exm | kernel_rfl)
    (case w_e_T => first | k_is | kit_is | kts_exm | kernel_rfl)
    (case w_i_T1 => first | k_is | kit_is | kts_exm | kernel_rfl)
    (case w_i_T2 => first | k_is | kit_is | kts_exm | kernel_rfl)
    (case w_i_T3 => first | k_is | kit_is | kts_exm | kernel_rfl)
    (case w_i_T4 => first | k_is | kit_is | kts_exm | kernel_rfl)
    (case w_i5 => first | k_is | kit_is | kts_exm | kernel_rfl)
    (case w_i6 => first | k_is | kit_is | kts_exm | kernel_rfl)
    (case w_i_T7 => first | k_is | kit_is | kts_exm | kernel_rfl)
    (case w_i_T8 => first | k_is | kit_is | kts_exm | kernel_rfl)
    (case w_k_N => first | k_is | kit_is | kts_exm | kernel_rfl)
    (case w_k_V => first | k_is | kit_is | kts_exm | kernel_rfl)
    (case w_k_NoWord => first | k_is | kit_is | kts_exm | kernel_rfl)
    (case w_k_TooLong => first | k_is | kit_is | kts_exm | kernel_rfl)
    (case w_k_TooMany => first | k_is | kit_is | kts_exm | kernel_rfl)
    (case w_k_TooGreat => first | k_is | kit_is | kts_exm | kernel_rfl)
    (case w_q_ByLetters_ByLetters => first | k_is | kit_is | kts_exm | kernel_rfl)
    (case w_q_Newest_Newest => first | k_is | kit_is | kts_exm | kernel_rfl)
    (case w_q_Order_Order => first | k_is | kit_is | kts_exm | kernel_rfl)
    (case w_q_Order_ByLetters => first | k_is | kit_is | kts_exm | kernel_rfl)
    (case w_q_ByLetters_Order => first | k_is | kit_is | kts_exm | kernel_rfl)
    (case w_q_Newest_Order => first | k_is | kit_is | kts_exm | kernel_rfl)
    (case w_lam => refine' L2.LamAt.mk ?e ?h ?n; (case e => rfl); (case h => kernel_rfl); (case n => kernel_rfl))
