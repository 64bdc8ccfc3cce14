import PyProof.Rows.All
import Wide.All
import OpenK.AllK
import Wide.FinOn
import Lean
import PyProof.EqAt
import PyProof.EqKinds
import PyProof.TupleCall
import PyProof.FString
import OpenK.KOwn
import KE.KTryMore
import PyProof.NsDelKeeps
import PyProof.StrBlock2
import PyProof.AutoListH
import KE.KIntText
import PyProof.Rows.StrIntSpec
import KE.KRevIter
import PyProof.StrWalks
import PyProof.CompUse
import PyProof.NeKinds
import PyProof.Rows.Range3
import PyProof.Rows.EnumRows
import PyProof.ConsumeWalk
import PyProof.Rows.SeqGen
import PyProof.StrLawsRepr
import PyProof.ZipIter
import PyProof.Rows.FactsT2
import PyProof.EnumMake
import PyProof.DictWalks
import PyProof.DictTruth
import PyProof.ListRange
import PyProof.ListStr
import PyProof.TupleOfGen
import PyProof.TupleOfSeq
import PyProof.MinMaxWalk
import PyProof.WalkInts
import KE.KSortAsk
import PyProof.MeetsSeq3
import KE.KRevSl
import PyProof.Rows.SeqMore
import PyProof.ListMulRoad
import PyProof.Rows.SumAny
import PyProof.SeqI3
import PyProof.AttrMissSeq
import KE.KDictOf
import PyProof.Rows.StrCut
import PyProof.Rows.StrSplitCount
import PyProof.DictItems
import PySem.Challenge.RW_cosetyard_k23_one_end
-- CHANGE:your row's module here,as the last of these rows
set_option Elab.async false
set_option linter.all false
set_option maxRecDepth 100000
namespace L2
open PySem PySem.Spec PyProof.Rows
abbrev Key:=Sum Int Str
def keyIs:Key->Value->Bool
 |.inl k,v=>Value.isInt k v
 |.inr x,v=>Value.isStrOf x v
def keyH (w:World):Key->Int
 |.inl k=>hashInt k
 |.inr x=>hashStr w x
theorem keyIs_shape:∀{k:Key} {v:Value},keyIs k v=true->(∃i t,k=Sum.inl i/\v=Value.int i t)\/(∃x t,k=Sum.inr x/\v=Value.str x t)
 |.inl i,v,h=>by
  obtain⟨t,e⟩:=Value.isInt_shape (k:=i) (v:=v) h;exact .inl ⟨i,t,rfl,e⟩
 |.inr x,v,h=>by
  obtain⟨t,e⟩:=Value.isStrOf_shape (x:=x) (v:=v) h;exact .inr ⟨x,t,rfl,e⟩
theorem keyIs_int (i:Int)(t:Tok):keyIs (.inl i) (.int i t)=true:=by simp[keyIs,Value.isInt]
theorem keyIs_str (x:Str)(t:Tok):keyIs (.inr x) (.str x t)=true:=by simp[keyIs,Value.isStrOf]
theorem key_ll (a b:Int):decide ((Sum.inl a:Key)=Sum.inl b)=(a==b):=by
 by_cases e:a=b
 ·subst e;simp
 ·have h:¬(Sum.inl a:Key)=Sum.inl b:=λq=>e (Sum.inl.inj q)
  rw[decide_eq_false h];exact(beq_eq_false_iff_ne.mpr e).symm
theorem key_rr (a b:Str):decide ((Sum.inr a:Key)=Sum.inr b)=decide (a=b):=by
 by_cases e:a=b
 ·subst e;simp
 ·have h:¬(Sum.inr a:Key)=Sum.inr b:=λq=>e (Sum.inr.inj q)
  rw[decide_eq_false h,decide_eq_false e]
theorem key_lr (a:Int)(b:Str):decide ((Sum.inl a:Key)=Sum.inr b)=false:=decide_eq_false (λq=>nomatch q)
theorem key_rl (a:Str)(b:Int):decide ((Sum.inr a:Key)=Sum.inl b)=false:=decide_eq_false (λq=>nomatch q)
def mixKind (prog:Program)(w:World):PySem.KeyKind prog w Key where
 is:=keyIs
 hash:=keyH w
 inj:=λv a b ha hb=>by
  rcases keyIs_shape ha with ⟨i,t,rfl,rfl⟩|⟨x,t,rfl,rfl⟩
  ·rcases keyIs_shape hb with ⟨j,u,rfl,e⟩|⟨y,u,rfl,e⟩
   ·injection e with e1 _;rw[e1]
   ·exact nomatch e
  ·rcases keyIs_shape hb with ⟨j,u,rfl,e⟩|⟨y,u,rfl,e⟩
   ·exact nomatch e
   ·injection e with e1 _;rw[e1]
 byValue:=λk v h=>by
  rcases keyIs_shape h with ⟨i,t,rfl,rfl⟩|⟨x,t,rfl,rfl⟩ <;> rfl
 pyHash:=λhv h=>by
  rcases keyIs_shape hv with ⟨i,t,rfl,rfl⟩|⟨x,t,rfl,rfl⟩
  ·exact wpAny_pyHash_int h
  ·exact wpAny_pyHash_str h
 eqBool:=λhu hv h=>by
  rcases keyIs_shape hu with ⟨i,t,rfl,rfl⟩|⟨x,t,rfl,rfl⟩
  ·rcases keyIs_shape hv with ⟨j,u,rfl,rfl⟩|⟨y,u,rfl,rfl⟩
   ·rw[key_ll]at h;exact wpAny_eqBool_int h
   ·rw[key_lr]at h;exact SeqAt.EqAt.int_str i t y u _ _ _ _ h
  ·rcases keyIs_shape hv with ⟨j,u,rfl,rfl⟩|⟨y,u,rfl,rfl⟩
   ·rw[key_rl]at h;exact SeqAt.EqAt.str_int x t j u _ _ _ _ h
   ·rw[key_rr]at h;exact wpAny_eqBool_str h
 «strs»:=λk x t v h=>by
  rcases keyIs_shape h with ⟨i,u,rfl,e⟩|⟨y,u,rfl,e⟩
  ·exact nomatch e
  ·injection e with e1 _
   subst e1;cases v <;> rfl
theorem mixKind_int (prog:Program)(w:World)(i:Int)(t:Tok):(mixKind prog w).is (.inl i) (.int i t)=true:=keyIs_int i t
theorem mixKind_str (prog:Program)(w:World)(x:Str)(t:Tok):(mixKind prog w).is (.inr x) (.str x t)=true:=keyIs_str x t
end L2
namespace L2
open PySem PySem.Spec PyProof.Rows
inductive V where
 |non|bl (b:Bool)|int (i:Int)|str (x:Str)|byt (b:Array UInt8)|flt (b:UInt64)|ref (a:Addr)|ty (n:String)
 deriving DecidableEq
def RelV:V->Value->Prop
 |.non,u=>u=Value.none
 |.bl b,u=>u=Value.bool b
 |.int i,u=>∃t,u=Value.int i t
 |.str x,u=>∃t,u=Value.str x t
 |.byt b,u=>∃t,u=Value.bytes b t
 |.flt b,u=>∃t,u=Value.float b t
 |.ref a,u=>u=Value.ref a
 |.ty n,u=>u=Value.type n
abbrev Vals:List V->List Value->Prop:=Paired RelV
theorem Vals.length {xs:List V}{us:List Value}(r:Vals xs us):xs.length=us.length:=Paired.length r
theorem Vals.get:∀{xs:List V} {us:List Value} {i:Nat} {x:V},Vals xs us->xs[i]?=some x->∃u,us[i]?=some u/\RelV x u
 |_,_,_,_,.nil,e=>by simp at e
 |_,_,0,_,.cons r _,e=>by simp at e;subst e;exact⟨_,rfl,r⟩
 |_,_,i+ 1,x,.cons _ t,e=>by
  obtain⟨u,h1,h2⟩:=Vals.get (i:=i) (x:=x) t (by simpa using e);exact⟨u,by simpa using h1,h2⟩
theorem Vals.set {x:V}{u:Value}(r:RelV x u):∀{xs:List V} {us:List Value} (i:Nat),Vals xs us->Vals (xs.set i x) (us.set i u)
 |_,_,_,.nil=>.nil
 |_,_,0,.cons _ t=>.cons r t
 |_,_,i+ 1,.cons q t=>.cons q (Vals.set r i t)
theorem Vals.append:∀{xs ys:List V} {us ws:List Value},Vals xs us->Vals ys ws->Vals (xs++ys) (us++ws)
 |_,_,_,_,.nil,s=>s
 |_,_,_,_,.cons r t,s=>.cons r (Vals.append t s)
theorem Vals.take:∀{xs:List V} {us:List Value} (n:Nat),Vals xs us->Vals (xs.take n) (us.take n)
 |_,_,0,_=>.nil
 |_,_,_+ 1,.nil=>.nil
 |_,_,n+ 1,.cons r t=>.cons r (Vals.take n t)
theorem Vals.drop:∀{xs:List V} {us:List Value} (n:Nat),Vals xs us->Vals (xs.drop n) (us.drop n)
 |_,_,0,r=>r
 |_,_,_+ 1,.nil=>.nil
 |_,_,n+ 1,.cons _ t=>Vals.drop n t
theorem Vals.none_of:∀{xs:List V} {us:List Value} {i:Nat},Vals xs us->xs[i]?=none->us[i]?=none:=λ{xs us i} r e=>by
 have h1:=r.length;have h2:xs.length<=i:=List.getElem?_eq_none_iff.mp e;exact List.getElem?_eq_none_iff.mpr (by omega)
def RelO:Option V->Option Value->Prop
 |some v,some u=>RelV v u
 |none,none=>True
 |_,_=>False
def KV {κ:Type}:List (κ×V)->List (κ×Value)->Prop:=Paired λ(p:κ×V) (q:κ×Value)=>p.1=q.1/\RelV p.2 q.2
def kV:Key->V
 |.inl i=>.int i
 |.inr x=>.str x
inductive HO where
 /-- a list -/
 |lst (xs:List V)
 /-- a tuple (never changes) -/
 |tup (xs:List V)
 /-- a dict whose keys are ints and texts;one whose keys are tuples of ints and texts (the empty one is both) -/
 |dK (kvs:List (Key×V))|dT (kvs:List (List Key×V))
 /-- a set of ints:its members,its size -/
 |set (S:Int->Bool) (n:Nat)
 /-- an instance of the class at C,its dict at dx,its attributes -/
 |ins (C dx:Addr) (fs:List (Str×V))
 /-- the dict of the instance at x -/
 |own (x:Addr)
 /-- the dict of an exception -/
 |xd (fs:List (Str×V))
 /-- a bound method,f of x -/
 |met (f x:Addr)
 /-- a range object lo,lo+ 1,.. below hi -/
 |rng (lo hi:Int)
 /-- a thing that is known to the object (the script;a dict while a loop walks it):read,never written while it is so -/
 |frz (o:Obj) (u:HO)
 /-- a code object's table -/
 |tbl (ps:Array Value)
 /-- any other thing,by what is true of its one object (a def of one's own:SetO a S n:=HO.ext λh=>..) -/
 |ext (φ:Heap->Prop)
abbrev Hp:=Addr->Option HO
def upd (H:Hp)(a:Addr)(o:HO):Hp:=λb=>if b=a then some o else H b
theorem upd_same {H:Hp}{a:Addr}{o:HO}:upd H a o a=some o:=by unfold upd;rw[if_pos rfl]
theorem upd_ne {H:Hp}{a b:Addr}{o:HO}(h:b≠a):upd H a o b=H b:=by unfold upd;rw[if_neg h]
theorem ne_of {H:Hp}{a b:Addr}{o u:HO}(h:H a=some o)(h':H b=some u)(d:o≠u):a≠b:=by
 intro e;subst e;rw[h]at h';exact d (Option.some.inj h')
theorem ne_of_none {H:Hp}{a b:Addr}{o:HO}(h:H a=some o)(h':H b=none):a≠b:=by
 intro e;subst e;rw[h]at h';cases h'
section
variable (P:Program) (w:World)
def ObjOk (H:Hp)(h:Heap)(a:Addr):HO->Prop
 |.lst xs=>xs.length<=sizeLine/\∃(its:List Value) (n:Nat),Vals xs its/\h.get? a=some { cls:=.type "list",data:=.seq its.toArray n }
 |.tup xs=>xs.length<=sizeLine/\∃its:List Value,Vals xs its/\IsTup h a its.toArray
 |.dK kvs=>kvs.length<=sizeLine/\(a==sysModules)=false/\∃vs,KV kvs vs/\h.DictOf (mixKind P w) a vs
 |.dT kvs=>kvs.length<=sizeLine/\(a==sysModules)=false/\∃xs:List (List Key×Addr×Value),
  Paired (λ(p:List Key×V) (q:List Key×Addr×Value)=>p.1=q.1/\H q.2.1=some (.tup (p.1.map kV))/\RelV p.2 q.2.2) kvs xs/\
  ∃o es ep,h.get? a=some o/\o.ExactDict/\o.data=.dict es ep/\es.toList=xs.map (entryOfKey (tupleKind (mixKind P w)))/\(xs.map (·.1)).Nodup
 |.set S n=>h.SetOf (intKind P w) a S n
 |.ins C dx fs=>H dx=some (.own a)/\fs.length<=1000/\dx≠a/\h.get? a=some (PySem.W.instObj C dx)/\
  ∃mA,h.Ns1 dx mA/\(∀f,RelO (fs.lookup f) (mA f))/\PySem.Within mA (fs.map (·.1))
 |.own _=>∃o,h.get? a=some o
 |.xd fs=>∃mA,h.Ns1 a mA/\∀f,RelO (fs.lookup f) (mA f)
 |.rng lo hi=>∃t u v,h.get? a=some { cls:=.type "range",data:=.fields #[.int lo t,.int hi u,.int 1 v] }
 |.frz o u=>h.get? a=some o/\ObjOk H h a u
 |.tbl ps=>h.get? a=some { cls:=.none,data:=.fields ps }
 |.met f x=>h.get? a=some (PySem.W.methodObj (.ref f) (.ref x))
 |.ext φ=>φ h/\(∃o,h.get? a=some o)/\∀h1 h2:Heap,φ h1->(∀o,h1.get? a=some o->h2.get? a=some o)->φ h2
def HOk (H:Hp)(h:Heap):Prop:=∀a o,H a=some o->ObjOk P w H h a o
end
section
variable {P:Program} {w:World} {H H':Hp} {h h':Heap} {a:Addr} {o:HO}
theorem ObjOk.lt (x:ObjOk P w H h a o):a<h.objs.size:=by
 cases o with
 |lst xs=>obtain⟨_,_,_,_,e⟩:=x;exact Heap.lt_size e
 |tup xs=>obtain⟨_,_,_,p⟩:=x;exact p.lt
 |dK kvs=>obtain⟨_,_,_,_,o,_,_,e,_⟩:=x;exact Heap.lt_size e
 |dT kvs=>obtain⟨_,_,_,_,o,_,_,e,_⟩:=x;exact Heap.lt_size e
 |set S n=>obtain⟨o,_,_,_,e,_⟩:=x;exact Heap.lt_size e
 |ins C dx fs=>obtain⟨_,_,_,e,_⟩:=x;exact Heap.lt_size e
 |own y=>obtain⟨_,e⟩:=x;exact Heap.lt_size e
 |xd fs=>obtain⟨_,⟨_,_,_,e,_⟩,_⟩:=x;exact Heap.lt_size e
 |rng lo hi=>obtain⟨_,_,_,e⟩:=x;exact Heap.lt_size e
 |frz ob u=>obtain⟨e,_⟩:=x;exact Heap.lt_size e
 |tbl ps=>exact Heap.lt_size (show h.get? a=some _ from x)
 |met f y=>exact Heap.lt_size (show h.get? a=some _ from x)
 |ext φ=>obtain⟨_,⟨_,e⟩,_⟩:=x;exact Heap.lt_size e
theorem Paired.mapP {α β:Type}{F G:α->β->Prop}:∀{l₁:List α} {l₂:List β},Paired F l₁ l₂->(∀a b,F a b->G a b)->Paired G l₁ l₂
 |_,_,.nil,_=>.nil
 |_,_,.cons r t,f=>.cons (f _ _ r) (Paired.mapP t f)
theorem ObjOk.stay (x:ObjOk P w H h a o)(k:∀b u,(b=a\/H b=some (.own a))->h.get? b=some u->h'.get? b=some u)
 (ho:∀b,H b=some (.own a)->H' b=some (.own a)) (ht:∀b xs,H b=some (.tup xs)->H' b=some (.tup xs)):ObjOk P w H' h' a o:=by
 induction o with
 |lst xs=>obtain⟨z,its,n,r,e⟩:=x;exact⟨z,its,n,r,k _ _ (.inl rfl) e⟩
 |tup xs=>obtain⟨z,its,r,ob,e,c⟩:=x;exact⟨z,its,r,ob,k _ _ (.inl rfl) e,c⟩
 |dK kvs=>obtain⟨z,y,vs,r,ob,es,ep,e,c⟩:=x;exact⟨z,y,vs,r,ob,es,ep,k _ _ (.inl rfl) e,c⟩
 |dT kvs=>
  obtain⟨z,y,xs,r,ob,es,ep,e,c⟩:=x;exact⟨z,y,xs,Paired.mapP r λp q z=>⟨z.1,ht _ _ z.2.1,z.2.2⟩,ob,es,ep,k _ _ (.inl rfl) e,c⟩
 |set S n=>obtain⟨ob,es,ep,t,e,c⟩:=x;exact⟨ob,es,ep,t,k _ _ (.inl rfl) e,c⟩
 |ins C dx fs=>
  obtain⟨d,z,ne,e,mA,⟨od,es,ep,e2,c⟩,r⟩:=x;exact⟨ho _ d,z,ne,k _ _ (.inl rfl) e,mA,⟨od,es,ep,k _ _ (.inr d) e2,c⟩,r⟩
 |own y=>obtain⟨ob,e⟩:=x;exact⟨ob,k _ _ (.inl rfl) e⟩
 |xd fs=>obtain⟨mA,⟨od,es,ep,e,c⟩,r⟩:=x;exact⟨mA,⟨od,es,ep,k _ _ (.inl rfl) e,c⟩,r⟩
 |rng lo hi=>obtain⟨t,u,v,e⟩:=x;exact⟨t,u,v,k _ _ (.inl rfl) e⟩
 |frz ob u ih=>obtain⟨e,q⟩:=x;exact⟨k _ _ (.inl rfl) e,ih q⟩
 |tbl ps=>
  have e:h.get? a=some { cls:=.none,data:=.fields ps }:=x;show h'.get? a=some { cls:=.none,data:=.fields ps };exact k a _ (.inl rfl) e
 |met f y=>
  have e:h.get? a=some (PySem.W.methodObj (.ref f) (.ref y)):=x;show h'.get? a=some (PySem.W.methodObj (.ref f) (.ref y));exact k a _ (.inl rfl) e
 |ext φ=>obtain⟨p,⟨o,e⟩,st⟩:=x;exact⟨st _ _ p λo q=>k _ _ (.inl rfl) q,⟨o,k _ _ (.inl rfl) e⟩,st⟩
theorem HOk.lt (x:HOk P w H h)(e:H a=some o):a<h.objs.size:=(x a o e).lt
theorem HOk.fresh (x:HOk P w H h)(e:h.objs.size<=a):H a=none:=by
 cases q:H a with
 |none=>rfl
 |some u=>exact absurd (Nat.lt_of_lt_of_le (x.lt q) e) (Nat.lt_irrefl _)
theorem HOk.kept (x:HOk P w H h)(k:∀b u,h.get? b=some u->h'.get? b=some u):HOk P w H h':=λa o e=>
 (x a o e).stay (λb u _ q=>k b u q) (λ_ q=>q) λ_ _ q=>q
theorem HOk.laid (x:HOk P w H h)(k:∀b u,h.get? b=some u->h'.get? b=some u)(hp:h.objs.size<=a)(new:ObjOk P w (upd H a o) h' a o):HOk P w (upd H a o) h':=λb u e=>by
 have hn:=x.fresh hp;by_cases hb:b=a
 ·subst hb;rw[upd_same]at e;cases e;exact new
 ·rw[upd_ne hb]at e;exact(x b u e).stay (λc v _ q=>k c v q) (λc q=>by rw[upd_ne (ne_of_none q hn)];exact q) λc xs q=>by rw[upd_ne (ne_of_none q hn)];exact q
end
def Rd (H:Hp)(a:Addr)(u:HO):Prop:=H a=some u\/∃o,H a=some (.frz o u)
theorem Rd.of {H:Hp}{a:Addr}{u:HO}(h:H a=some u):Rd H a u:=.inl h
theorem Rd.ok {P:Program}{w:World}{H:Hp}{h:Heap}{a:Addr}{u:HO}(r:Rd H a u)(x:HOk P w H h):ObjOk P w H h a u:=by
 rcases r with r|⟨o,r⟩
 ·exact x a u r
 ·obtain⟨_,q⟩:=x a _ r;exact q
def Mut:Option HO->Prop
 |some (.lst _)=>True
 |some (.dK _)=>True
 |some (.dT _)=>True
 |some (.set _ _)=>True
 |some (.ins _ _ _)=>True
 |some (.ext _)=>True
 |_=>False
section
variable {P:Program} {w:World} {H:Hp} {h h':Heap} {x e:Addr} {o':HO}
theorem HOk.write (ok:HOk P w H h)(mu:Mut (H x))(he:e=x\/H e=some (.own x))(k:∀b u,b≠e->h.get? b=some u->h'.get? b=some u)(heo:∃u,h'.get? e=some u)
 (new:ObjOk P w (upd H x o') h' x o'):HOk P w (upd H x o') h':=λb u q=>by
 have nown:∀c y,H c=some (.own y)->c≠x:=λc y r z=>by subst z;rw[r]at mu;exact mu
 have ntup:∀c xs,H c=some (.tup xs)->c≠x:=λc xs r z=>by subst z;rw[r]at mu;exact mu
 by_cases hb:b=x
 ·subst hb;rw[upd_same]at q;cases q;exact new
 ·rw[upd_ne hb]at q;by_cases hbe:b=e
  ·have q':H b=some (.own x):=by
    rcases he with z|z
    ·exact absurd (hbe.trans z) hb
    ·rw[hbe];exact z
   rw[q]at q';cases q';obtain⟨v,hv⟩:=heo;exact⟨v,by rw[hbe];exact hv⟩
  ·refine(ok b u q).stay (λc v hc r=>k c v ?_ r) (λc r=>by rw[upd_ne (nown c b r)];exact r) λc xs r=>by rw[upd_ne (ntup c xs r)];exact r
   rcases hc with rfl|hc
   ·exact hbe
   ·rintro rfl;rcases he with z|z
    ·exact nown c b hc z
    ·rw[hc]at z;cases z;exact hb rfl
end
structure Un (fs ex:List Addr) (H H':Hp) (h h':Heap):Prop where
 keep:∀b o,h.get? b=some o->H b=none->b∉fs->b∉ex->h'.get? b=some o
 slot:∀b o,h.get? b=some o->H b=none->b∈fs->b∉ex->∃sl,h'.get? b=some { o with slots:=sl }
 free:∀b o,h.get? b=some o->H b=none->b∉ex->H' b=none
 there:∀b o,h.get? b=some o->b∉ex->∃o',h'.get? b=some o'
 tups:∀b xs,H b=some (.tup xs)->H' b=some (.tup xs)
 frzs:∀b o u,H b=some (.frz o u)->H' b=some (.frz o u)
 tbls:∀b ps,H b=some (.tbl ps)->∃more,H' b=some (.tbl (ps++more))
section
variable {fs fs' ex ex':List Addr} {H H1 H2:Hp} {h h1 h2 h':Heap} {a x e:Addr} {o:HO}
theorem Un.any (u:Un fs ex H H1 h h1){b:Addr}{ob:Obj}(q:h.get? b=some ob)(n:H b=none)(hx:b∉ex):∃sl,h1.get? b=some { ob with slots:=sl }:=by
 by_cases hb:b∈fs
 ·exact u.slot b ob q n hb hx
 ·exact⟨ob.slots,u.keep b ob q n hb hx⟩
theorem Un.trans (a:Un fs ex H H1 h h1)(b:Un fs ex H1 H2 h1 h2):Un fs ex H H2 h h2 where
 keep:=λc ob q n hc hx=>b.keep c ob (a.keep c ob q n hc hx) (a.free c ob q n hx) hc hx
 slot:=λc ob q n hc hx=>by
  obtain⟨sl,e1⟩:=a.slot c ob q n hc hx;obtain⟨sl',e2⟩:=b.slot c _ e1 (a.free c ob q n hx) hc hx;exact⟨sl',e2⟩
 free:=λc ob q n hx=>by
  obtain⟨o',e1⟩:=a.there c ob q hx;exact b.free c o' e1 (a.free c ob q n hx) hx
 there:=λc ob q hx=>by
  obtain⟨o',e1⟩:=a.there c ob q hx;exact b.there c o' e1 hx
 tups:=λc xs q=>b.tups c xs (a.tups c xs q)
 frzs:=λc ob xs q=>b.frzs c ob xs (a.frzs c ob xs q)
 tbls:=λc ps q=>by
  obtain⟨m1,e1⟩:=a.tbls c ps q;obtain⟨m2,e2⟩:=b.tbls c _ e1;exact⟨m1++m2,by rw[e2,Array.append_assoc]⟩
theorem Un.kept (k:∀b u,h.get? b=some u->h'.get? b=some u):Un fs ex H H h h':=
 ⟨λb ob q _ _ _=>k b ob q,λb ob q _ _ _=>⟨ob.slots,k b ob q⟩,λ_ _ _ n _=>n,λb ob q _=>⟨ob,k b ob q⟩,λ_ _ q=>q,λ_ _ _ q=>q,λ_ ps q=>⟨#[],by rw[q];simp⟩⟩
theorem Un.refl:Un fs ex H H h h:=Un.kept λ_ _ q=>q
theorem Un.laid (k:∀b u,h.get? b=some u->h'.get? b=some u)(hp:h.objs.size<=a)(hn:H a=none):Un fs ex H (upd H a o) h h' where
 keep:=λb u q _ _ _=>k b u q
 slot:=λb u q _ _ _=>⟨u.slots,k b u q⟩
 free:=λb u q n _=>by rw[upd_ne (Nat.ne_of_lt (Nat.lt_of_lt_of_le (Heap.lt_size q) hp))];exact n
 there:=λb u q _=>⟨u,k b u q⟩
 tups:=λb xs q=>by rw[upd_ne (ne_of_none q hn)];exact q
 frzs:=λb u xs q=>by rw[upd_ne (ne_of_none q hn)];exact q
 tbls:=λb ps q=>⟨#[],by rw[upd_ne (ne_of_none q hn),q];simp⟩
theorem Un.write (mu:Mut (H x))(he:e=x\/H e=some (.own x))(k:∀b u,b≠e->h.get? b=some u->h'.get? b=some u)(heo:∃u,h'.get? e=some u):Un fs ex H (upd H x o) h h':=by
 have hx:∀b,H b=none->b≠x:=λb n z=>by subst z;rw[n]at mu;exact mu
 have hb:∀b,H b=none->b≠e:=λb n z=>by
  subst z;rcases he with r|r
  ·exact hx b n r
  ·rw[n]at r;cases r
 have hm:∀b u,H b=some u->¬Mut (some u)->b≠x:=λb u q nm z=>by subst z;rw[q]at mu;exact nm mu
 refine⟨λb u q n _ _=>k b u (hb b n) q,λb u q n _ _=>⟨u.slots,k b u (hb b n) q⟩,λb u q n _=>by rw[upd_ne (hx b n)];exact n,λb u q _=>?_,
  λb xs q=>by rw[upd_ne (hm b _ q λz=>z)];exact q,λb u xs q=>by rw[upd_ne (hm b _ q λz=>z)];exact q,λb ps q=>⟨#[],by rw[upd_ne (hm b _ q λz=>z),q];simp⟩⟩
 by_cases hbe:b=e
 ·subst hbe;exact heo
 ·exact⟨u,k b u hbe q⟩
theorem Un.mono (u:Un fs ex H H1 h h1)(hs:∀b∈fs,b∈fs')(hx:∀b∈ex,b∈ex'):Un fs' ex' H H1 h h1:=
 ⟨λb ob q n hb he=>u.keep b ob q n (λz=>hb (hs b z)) λz=>he (hx b z),λ_ _ q n _ he=>u.any q n λz=>he (hx _ z),λb ob q n he=>u.free b ob q n λz=>he (hx b z),λb ob q he=>u.there b ob q λz=>he (hx b z),u.tups,u.frzs,u.tbls⟩
end
def trk (h:Heap)(H:Hp):List Addr:=(List.range h.objs.size).filter λa=>(H a).isSome
def hidT (h:Heap)(H:Hp):Heap:=PySem.W.hideAll h (trk h H)
theorem hidT_size (h:Heap)(H:Hp):(hidT h H).objs.size=h.objs.size:=PySem.W.hideAll_size _ _
theorem hidT_get {h:Heap}{H:Hp}{b:Addr}{o:Obj}(e:h.get? b=some o)(n:H b=none):(hidT h H).get? b=some o:=
 PySem.W.hideAll_get _ e λhm=>by
  have q:(H b).isSome=true:=(List.mem_filter.mp hm).2;rw[n]at q;simp at q
theorem of_hidT {h:Heap}{H:Hp}{b:Addr}{o:Obj}(e:(hidT h H).get? b=some o):h.get? b=some o/\H b=none:=by
 have e':h.get? b=some o:=PySem.W.of_hideAll (trk h H) e;refine⟨e',?_⟩
 cases q:H b with
 |none=>rfl
 |some x=>
  have hm:b∈trk h H:=List.mem_filter.mpr ⟨List.mem_range.mpr (Heap.lt_size e'),by simp[q]⟩;have z:(hidT h H).get? b=none:=PySem.W.hideAll_none (trk h H) hm;rw[z]at e;cases e
def allNews (g h:Heap)(L:Addr):List (Addr×Obj):=(List.range h.objs.size).filterMap λa=>if a=L\/(g.get? a).isSome=true then none else (h.get? a).map λo=>(a,o)
def rest (g h:Heap)(L d:Addr):List (Addr×Obj):=(allNews g h L).filter λp=>decide (p.1≠d)
end L2
namespace L2
open PySem PySem.Spec PyProof.Rows
structure Mod (K:PySem.W.Frag) (mg:Str->Option Value) (base:Heap):Prop where
 kin:K.In base
 glob:base.Ns mainGlobals mg
 blt:∃mb,base.Ns builtinsNs mb/\∀x:Str,x≠"__name__"->mb x=bootBuiltins x
 nolimit:base.NoLimit
structure Cx where
 prog:Program
 w:World
 K:PySem.W.Frag
 mg:Str->Option Value
 base:Heap
 A:Around
 N:List Str
 s₀:Shared
 H₀:Hp
 env:Env
 outer:List Env
 stack:List Env
 ex:List Addr
 fn:Str->Bool
 calm:Bool
 pn:List (Addr×Obj)
 xe:Value->Shared->Prop
def frs (l:List Env):List Addr:=l.filterMap (·.frame)
abbrev Cx.fs (X:Cx):List Addr:=frs X.outer
def Vis (sc:Scope)(x:Str):Prop:=sc.names.lookup x=some .local\/sc.names.lookup x=some .cell\/sc.names.lookup x=some .free
def Loc (sc:Scope)(x:Str):Prop:=sc.names.lookup x=some .local\/sc.names.lookup x=some .cell
def Look (env:Env)(h:Heap)(m:Str->Option Value)(x:Str)(u:Value):Prop:=
 (env.kindOf x=some .local/\m x=some u)\/((env.kindOf x=some .cell\/env.kindOf x=some .free)/\∃c,env.cells.lookup x=some c/\h.IsCell c (some u))
structure Cx.Ok (X:Cx):Prop where
 mod:Mod X.K X.mg X.base
 kind:X.env.scope.kind=.function
 glob:X.env.globals=mainGlobals
 blt:X.env.builtins=builtinsNs
 above:X.s₀.heap.objs.size<=X.env.locals
 inj:∀x y c,X.env.cells.lookup x=some c->X.env.cells.lookup y=some c->x=y
 has:∀x,(X.env.kindOf x=some .cell\/X.env.kindOf x=some .free)->∃c,X.env.cells.lookup x=some c
 cab:∀x c,X.fn x=true->X.env.cells.lookup x=some c->X.s₀.heap.objs.size<=c
 hd:X.calm=true->X.A.handled=none
 frames:X.A.frames=some X.stack
 stk:X.stack=X.outer\/(X.stack=X.env::X.outer/\X.env.frame=some X.env.locals)
 exf:∀b∈X.ex,b≠X.env.locals/\∀x c,X.env.cells.lookup x=some c->c≠b
 bs:∀b o,X.base.get? b=some o->X.s₀.heap.get? b=some o/\X.H₀ b=none
 bsz:X.base.objs.size<=X.s₀.heap.objs.size
 noex:∀b o,X.base.get? b=some o->b∉X.ex
 exfs:∀b∈X.ex,b∉X.fs
 funs:X.s₀.heap.FunFrames X.base X.outer
 frf:∀b∈X.fs,X.H₀ b=none
structure Inv (X:Cx) (pins:List (Addr×Obj)) (σ:List (Option V)) (H:Hp) (s:Shared):Prop where
 ok:X.Ok
 os:s.os=X.s₀.os
 bare:AllBare s.gens
 base:Un X.fs X.ex X.H₀ H X.s₀.heap s.heap
 loc:∃m,s.heap.Ns X.env.locals m/\∀(i:Nat) (x:Str) (v:V),X.N[i]?=some x->σ[i]?=some (some v)->Vis X.env.scope x->∃u,RelV v u/\Look X.env s.heap m x u
 cell:∀x c,X.env.cells.lookup x=some c->∃v,s.heap.IsCell c v
 free:H X.env.locals=none
 freeC:∀x c,X.env.cells.lookup x=some c->H c=none
 pin:∀p∈X.pn++pins,s.heap.get? p.1=some p.2/\H p.1=none/\p.1≠X.env.locals/\p.1∉X.fs/\∀v,p.2.data≠.cell v
 hok:HOk X.prog X.w H s.heap
 len:σ.length=X.N.length
section
variable {X:Cx} {pins:List (Addr×Obj)} {σ:List (Option V)} {H H':Hp} {s:Shared} {h':Heap}
theorem Cx.Ok.nofr (ok:X.Ok){b:Addr}{o:Obj}(e:X.base.get? b=some o):b∉X.fs:=λhb=>by
 have:=(ok.funs.mem hb).1;rw[e]at this;cases this
theorem Inv.bs (I:Inv X pins σ H s):∀b o,X.base.get? b=some o->s.heap.get? b=some o/\H b=none:=λb o e=>
 ⟨I.base.keep b o (I.ok.bs b o e).1 (I.ok.bs b o e).2 (I.ok.nofr e) (I.ok.noex b o e),I.base.free b o (I.ok.bs b o e).1 (I.ok.bs b o e).2 (I.ok.noex b o e)⟩
theorem Inv.bk (I:Inv X pins σ H s):∀b o,X.base.get? b=some o->s.heap.get? b=some o:=λb o e=>(I.bs b o e).1
theorem Inv.mod (I:Inv X pins σ H s):Mod X.K X.mg X.base:=I.ok.mod
theorem Inv.kIn (I:Inv X pins σ H s):X.K.In s.heap:=I.ok.mod.kin.keeps I.bk
theorem Inv.nolimit (I:Inv X pins σ H s):s.heap.NoLimit:=I.ok.mod.nolimit.keeps I.bk
theorem Inv.fr (I:Inv X pins σ H s):∃m,Fr X.base X.env.locals s.heap m:=
 let ⟨m,hn,_⟩:=I.loc
 ⟨m,hn,I.bk,Nat.le_trans I.ok.bsz I.ok.above⟩
theorem Inv.lt (I:Inv X pins σ H s):X.env.locals<s.heap.objs.size:=let ⟨_,hn,_⟩:=I.loc;hn.lt
theorem Inv.sz (I:Inv X pins σ H s):X.s₀.heap.objs.size<=s.heap.objs.size:=Nat.le_trans I.ok.above (Nat.le_of_lt I.lt)
theorem Inv.nofs (I:Inv X pins σ H s){a:Addr}(h:s.heap.objs.size<=a):a∉X.fs:=λhb=>by
 obtain⟨_,o,ho,_⟩:=I.ok.funs.mem hb;exact absurd (Nat.lt_of_lt_of_le (Heap.lt_size ho) (Nat.le_trans I.sz h)) (Nat.lt_irrefl _)
theorem Inv.cne (I:Inv X pins σ H s):∀x c,X.env.cells.lookup x=some c->c≠X.env.locals:=λx c e z=>by
 obtain⟨v,o,ho,hd⟩:=I.cell x c e;obtain⟨m,⟨o',es,ep,ho',hd',_⟩,_⟩:=I.loc;rw[z,ho']at ho;cases ho;rw[hd']at hd;cases hd
theorem Inv.funs (I:Inv X pins σ H s):s.heap.FunFrames X.base X.outer:=by
 have all:∀(l:List Env),(∀b∈frs l,b∈X.fs)->X.s₀.heap.FunFrames X.base l->s.heap.FunFrames X.base l:=by
  intro l
  induction l with
  |nil=>intro _ _;trivial
  |cons env r ih=>
   intro hs hl;obtain⟨hk,⟨L,o,hf,hn,ho,hd⟩,hr⟩:=hl;have hL:L∈X.fs:=hs L (by unfold frs;rw[List.filterMap_cons,hf];exact List.mem_cons_self);obtain⟨sl,e⟩:=I.base.slot L o ho (I.ok.frf L hL) hL λz=>I.ok.exfs L z hL
   exact⟨hk,⟨L,_,hf,hn,e,hd⟩,ih (λb hb=>hs b (by unfold frs;rw[List.filterMap_cons,hf];exact List.mem_cons_of_mem _ hb)) hr⟩
 exact all X.outer (λ_ hb=>hb) I.ok.funs
theorem Inv.stack (I:Inv X pins σ H s):s.heap.FunFrames X.base X.stack:=by
 rcases I.ok.stk with e|⟨e,hf⟩
 ·rw[e];exact I.funs
 ·rw[e];obtain⟨m,hn,_⟩:=I.loc;refine .cons (by rw[I.ok.kind];decide) hf hn ?_ I.funs;exact Heap.get?_none_of_le (Nat.le_trans I.ok.bsz I.ok.above)
theorem Inv.stkSub (I:Inv X pins σ H s):∀b∈frs X.stack,b∈X.env.locals::X.fs:=λb hb=>by
 rcases I.ok.stk with e|⟨e,hf⟩
 ·rw[e]at hb;exact List.mem_cons_of_mem _ hb
 ·rw[e]at hb;unfold frs at hb;rw[List.filterMap_cons,hf]at hb;exact hb
theorem Inv.stkFree (I:Inv X pins σ H s):∀b∈frs X.stack,H b=none:=λb hb=>by
 rcases List.mem_cons.mp (I.stkSub b hb) with e|hb
 ·rw[e];exact I.free
 ·obtain⟨_,o,ho,_⟩:=I.ok.funs.mem hb;exact I.base.free b o ho (I.ok.frf b hb) λz=>I.ok.exfs b z hb
theorem Inv.step {g':Array GenState}{t':Nat}{d':Drawn}{ch:List Addr}(I:Inv X pins σ H s)
 (hch:∀b∈ch,(b∈X.ex\/X.s₀.heap.objs.size<=b)/\b≠X.env.locals/\(∀x c,X.env.cells.lookup x=some c->c≠b)/\∀p∈X.pn++pins,p.1≠b)
 (keep:∀b o,b≠X.env.locals->b∉X.fs->b∉ch->s.heap.get? b=some o->H b=none->h'.get? b=some o)
 (slot:∀b o,b≠X.env.locals->b∈X.fs->b∉ch->s.heap.get? b=some o->H b=none->∃sl,h'.get? b=some { o with slots:=sl }) (free:∀b o,b∉ch->s.heap.get? b=some o->H b=none->H' b=none)
 (there:∀b o,b∉ch->s.heap.get? b=some o->∃o',h'.get? b=some o')
 (tups:∀b xs,H b=some (.tup xs)->H' b=some (.tup xs)) (frzs:∀b o u,H b=some (.frz o u)->H' b=some (.frz o u)) (tbls:∀b ps,H b=some (.tbl ps)->∃more,H' b=some (.tbl (ps++more)))
 (ns:∀m,s.heap.Ns X.env.locals m->h'.Ns X.env.locals m) (hok:HOk X.prog X.w H' h') (hg:AllBare g'):
 Inv X pins σ H' { s with heap:=h',gens:=g',drawn:=d',toks:=t' }:=by
 have neL:∀b o,X.s₀.heap.get? b=some o->b≠X.env.locals:=λb o e=>Nat.ne_of_lt (Nat.lt_of_lt_of_le (Heap.lt_size e) I.ok.above)
 have neC:∀b o,X.s₀.heap.get? b=some o->b∉X.ex->b∉ch:=λb o e hx hb=>by
  rcases (hch b hb).1 with z|z
  ·exact hx z
  ·exact absurd (Nat.lt_of_lt_of_le (Heap.lt_size e) z) (Nat.lt_irrefl _)
 have cellK:∀x c,X.env.cells.lookup x=some c->∀v,s.heap.IsCell c v->h'.IsCell c v:=λx c e v ⟨o,ho,hd⟩=>by
  have nch:c∉ch:=λz=>(hch c z).2.2.1 x c e rfl
  by_cases hc:c∈X.fs
  ·obtain⟨sl,q⟩:=slot c o (I.cne x c e) hc nch ho (I.freeC x c e);exact⟨_,q,hd⟩
  ·exact⟨o,keep c o (I.cne x c e) hc nch ho (I.freeC x c e),hd⟩
 refine⟨I.ok,I.os,hg,⟨λb o e n hb hx=>?_,λb o e n hb hx=>?_,λb o e n hx=>?_,λb o e hx=>?_,λb xs e=>tups b xs (I.base.tups b xs e),λb o xs e=>frzs b o xs (I.base.frzs b o xs e),λb ps e=>?_⟩,?_,λx c e=>?_,?_,λx c e=>?_,λp hp=>?_,hok,I.len⟩
 ·exact keep b o (neL b o e) hb (neC b o e hx) (I.base.keep b o e n hb hx) (I.base.free b o e n hx)
 ·obtain⟨sl,e1⟩:=I.base.slot b o e n hb hx;obtain⟨sl',e2⟩:=slot b _ (neL b o e) hb (neC b o e hx) e1 (I.base.free b o e n hx);exact⟨sl',e2⟩
 ·obtain⟨o',e1⟩:=I.base.there b o e hx;exact free b o' (neC b o e hx) e1 (I.base.free b o e n hx)
 ·obtain⟨o',e1⟩:=I.base.there b o e hx;exact there b o' (neC b o e hx) e1
 ·obtain⟨m1,e1⟩:=I.base.tbls b ps e;obtain⟨m2,e2⟩:=tbls b _ e1;exact⟨m1++m2,by rw[e2,Array.append_assoc]⟩
 ·obtain⟨m,hn,hl⟩:=I.loc;refine⟨m,ns m hn,λi x v e1 e2 e3=>?_⟩;obtain⟨u,r,l⟩:=hl i x v e1 e2 e3;refine⟨u,r,?_⟩;rcases l with l|⟨k,c,e,z⟩
  ·exact .inl l
  ·exact .inr ⟨k,c,e,cellK x c e _ z⟩
 ·obtain⟨v,z⟩:=I.cell x c e;exact⟨v,cellK x c e v z⟩
 ·obtain⟨m,⟨o,_,_,ho,_⟩,_⟩:=I.loc;exact free _ o (λz=>(hch _ z).2.1 rfl) ho I.free
 ·obtain⟨v,o,ho,hd⟩:=I.cell x c e;exact free c o (λz=>(hch c z).2.2.1 x c e rfl) ho (I.freeC x c e)
 ·obtain⟨e,n,ne,nf,d⟩:=I.pin p hp;have nch:p.1∉ch:=λz=>(hch p.1 z).2.2.2 p hp rfl
  exact⟨keep p.1 p.2 ne nf nch e n,free p.1 p.2 nch e n,ne,nf,d⟩
theorem Inv.un {t':Nat}(I:Inv X pins σ H s)(u:Un X.fs [] H H' s.heap h')(hok:HOk X.prog X.w H' h'):Inv X pins σ H' { s with heap:=h',toks:=t' }:=by
 obtain⟨m,⟨o,es,ep,ho,r⟩,_⟩:=id I.loc;obtain⟨sl,hL⟩:=u.any ho I.free (by simp)
 exact I.step (g':=s.gens) (d':=s.drawn) (ch:=[]) (λ_ z=>nomatch z) (λb o _ hb _ e n=>u.keep b o e n hb (by simp)) (λb o _ hb _ e n=>u.slot b o e n hb (by simp)) (λb o _ e n=>u.free b o e n (by simp)) (λb o _ e=>u.there b o e (by simp)) u.tups u.frzs u.tbls (λm' hm=>by
  obtain⟨o',es',ep',ho',r'⟩:=hm;rw[ho]at ho';cases ho';exact⟨_,es',ep',hL,r'⟩) hok I.bare
theorem Inv.call {g':Array GenState}{t':Nat}{d':Drawn}{ch:List Addr}(I:Inv X pins σ H s)(u:Un (frs X.stack) ch H H' s.heap h')(hok:HOk X.prog X.w H' h')(hg:AllBare g')
 (hch:∀b∈ch,(b∈X.ex\/X.s₀.heap.objs.size<=b)/\b≠X.env.locals/\(∀x c,X.env.cells.lookup x=some c->c≠b)/\∀p∈X.pn++pins,p.1≠b):
 Inv X pins σ H' { s with heap:=h',gens:=g',drawn:=d',toks:=t' }:=by
 obtain⟨m,⟨o,es,ep,ho,r⟩,_⟩:=id I.loc;obtain⟨sl,hL⟩:=u.any ho I.free λz=>(hch _ z).2.1 rfl
 exact I.step (ch:=ch) hch (λb o hL hb hc e n=>u.keep b o e n (λz=>(List.mem_cons.mp (I.stkSub b z)).elim hL hb) hc) (λb o _ _ hc e n=>u.any e n hc) (λb o hc e n=>u.free b o e n hc) (λb o hc e=>u.there b o e hc) u.tups u.frzs u.tbls (λm' hm=>by
  obtain⟨o',es',ep',ho',r'⟩:=hm;rw[ho]at ho';cases ho';exact⟨_,es',ep',hL,r'⟩) hok hg
theorem Inv.turned {t':Nat}{it:Addr}(I:Inv X pins σ H s)(k:∀b o,b≠it->s.heap.get? b=some o->h'.get? b=some o)(hn:H it=none)(hL:it≠X.env.locals)
 (h1:it∈X.ex\/X.s₀.heap.objs.size<=it) (h2:∀x c,X.env.cells.lookup x=some c->c≠it) (h3:∀p∈X.pn++pins,p.1≠it):Inv X pins σ H { s with heap:=h',toks:=t' }:=by
 have nit:∀b u,H b=some u->b≠it:=λb u e z=>by rw[z,hn]at e;cases e
 refine I.step (g':=s.gens) (d':=s.drawn) (ch:=[it]) (λb hb=>?_) (λb o _ _ hc e _=>k b o (λz=>hc (by simp[z])) e) (λb o _ _ hc e _=>⟨o.slots,k b o (λz=>hc (by simp[z])) e⟩) (λ_ _ _ _ n=>n)
  (λb o hc e=>⟨o,k b o (λz=>hc (by simp[z])) e⟩) (λ_ _ e=>e) (λ_ _ _ e=>e) (λb ps e=>⟨#[],by rw[e];simp⟩) (λm hm=>?_) (λb u e=>?_) I.bare
 ·have e:b=it:=by simpa using hb
  subst e;exact⟨h1,hL,h2,h3⟩
 ·obtain⟨o,es,ep,ho,r⟩:=hm;exact⟨o,es,ep,k _ o (Ne.symm hL) ho,r⟩
 ·refine(I.hok b u e).stay (λc v hc q=>k c v ?_ q) (λ_ q=>q) λ_ _ q=>q
  rcases hc with z|z
  ·rw[z];exact nit b u e
  ·exact nit c _ z
theorem Inv.tok (I:Inv X pins σ H s)(t:Nat):Inv X pins σ H { s with toks:=t }:=I.un (h':=s.heap) (t':=t) Un.refl I.hok
theorem Inv.kept {t':Nat}(I:Inv X pins σ H s)(k:∀b u,s.heap.get? b=some u->h'.get? b=some u):Inv X pins σ H { s with heap:=h',toks:=t' }:=I.un (Un.kept k) (I.hok.kept k)
theorem Inv.laid {a:Addr}{o:HO}{t':Nat}(I:Inv X pins σ H s)(k:∀b u,s.heap.get? b=some u->h'.get? b=some u)(hp:s.heap.objs.size<=a)(new:ObjOk X.prog X.w (upd H a o) h' a o):
 Inv X pins σ (upd H a o) { s with heap:=h',toks:=t' }:=I.un (Un.laid k hp (I.hok.fresh hp)) (I.hok.laid k hp new)
theorem Inv.write {x e:Addr}{o:HO}{t':Nat}(I:Inv X pins σ H s)(mu:Mut (H x))(he:e=x\/H e=some (.own x))(k:∀b u,b≠e->s.heap.get? b=some u->h'.get? b=some u)(heo:∃u,h'.get? e=some u)
 (new:ObjOk X.prog X.w (upd H x o) h' x o):Inv X pins σ (upd H x o) { s with heap:=h',toks:=t' }:=I.un (Un.write mu he k heo) (I.hok.write mu he k heo new)
theorem Inv.pins_of {pins':List (Addr×Obj)}(I:Inv X pins σ H s)(h:∀p∈pins',s.heap.get? p.1=some p.2/\H p.1=none/\p.1≠X.env.locals/\p.1∉X.fs/\∀v,p.2.data≠.cell v):Inv X pins' σ H s:=
 ⟨I.ok,I.os,I.bare,I.base,I.loc,I.cell,I.free,I.freeC,λp hp=>(List.mem_append.mp hp).elim (λz=>I.pin p (List.mem_append_left _ z)) (h p),I.hok,I.len⟩
theorem nodup_ix {N:List Str}(hN:N.Nodup){i j:Nat}{x:Str}(a:N[i]?=some x)(b:N[j]?=some x):i=j:=by
 obtain⟨h1,e1⟩:=List.getElem?_eq_some_iff.mp a;obtain⟨h2,e2⟩:=List.getElem?_eq_some_iff.mp b;exact(List.getElem_inj hN).mp (e1.trans e2.symm)
theorem store_ok2 {M:Model}{A:Around}{E:Value->Shared->Prop}{i:Nat}{x:Str}{v:V}{u:Value}{Q:Unit->Shared->Prop}(I:Inv X pins σ H s)(hN:X.N.Nodup)(hi:X.N[i]?=some x)(hx:Loc X.env.scope x)(r:RelV v u)
 (h:∀s',Inv X pins (σ.set i (some v)) H s'->(∃a,Heap.SameBut a s.heap s'.heap/\(a=X.env.locals\/X.env.cells.lookup x=some a))->Q () s') (hf:X.fn x=true\/X.env.scope.names.lookup x=some .local:=by first|exact .inl rfl|exact .inr rfl|assumption):wpAny M A (storeName X.env x u) Q E s:=by
 obtain⟨m,hn,hl⟩:=id I.loc;have hcls:(X.env.scope.kind==.class || (X.env.scope.kind==.module && X.env.locals !=X.env.globals))=false:=by rw[I.ok.kind];rfl
 have hiσ:i < σ.length:=by rw[I.len];exact(List.getElem?_eq_some_iff.mp hi).1
 have cne:=I.cne
 have tracked:∀{a:Addr} {h':Heap},(∃o,s.heap.get? a=some o/\H a=none)->Heap.SameBut a s.heap h'->HOk X.prog X.w H h':=λ{a h'} ha hs b ob e=>by
  obtain⟨_,_,hfree⟩:=ha;refine(I.hok b ob e).stay (λc w' hc q=>(hs.2 c ?_).trans q) (λ_ q=>q) λ_ _ q=>q
  rintro rfl;rcases hc with rfl|hc
  ·rw[hfree]at e;cases e
  ·rw[hfree]at hc;cases hc
 rcases hx with hk|hk
 ·refine wpAny_storeName_local hk hn (λh' hn' hs=>?_) hcls;obtain⟨oL,_,_,hoL,_⟩:=id hn;refine h _ ⟨I.ok,I.os,I.bare,⟨λb o e n hb hx=>?_,λb o e n hb hx=>?_,I.base.free,λb o e hx=>?_,I.base.tups,I.base.frzs,I.base.tbls⟩,⟨_,hn',λj y v' e1 e2 e3=>?_⟩,λy c e=>?_,I.free,I.freeC,λp hp=>?_,tracked ⟨oL,hoL,I.free⟩ hs,by simpa using I.len⟩ ⟨_,hs,.inl rfl⟩
  ·exact(hs.2 b (Nat.ne_of_lt (Nat.lt_of_lt_of_le (Heap.lt_size e) I.ok.above))).trans (I.base.keep b o e n hb hx)
  ·obtain⟨sl,e1⟩:=I.base.slot b o e n hb hx;exact⟨sl,(hs.2 b (Nat.ne_of_lt (Nat.lt_of_lt_of_le (Heap.lt_size e) I.ok.above))).trans e1⟩
  ·obtain⟨o',e1⟩:=I.base.there b o e hx;exact⟨o',(hs.2 b (Nat.ne_of_lt (Nat.lt_of_lt_of_le (Heap.lt_size e) I.ok.above))).trans e1⟩
  ·by_cases hj:j=i
   ·subst hj;rw[hi]at e1;cases e1;rw[List.getElem?_set_self hiσ]at e2;cases e2;exact⟨u,r,.inl ⟨hk,by simp⟩⟩
   ·rw[List.getElem?_set_ne (Ne.symm hj)]at e2;obtain⟨u',r',q⟩:=hl j y v' e1 e2 e3;refine⟨u',r',?_⟩;rcases q with ⟨k,e⟩|⟨k,c,e,z⟩
    ·refine .inl ⟨k,?_⟩;have:y≠x:=λe=>hj (nodup_ix hN e1 (e ▸ hi))
     simp[this,e]
    ·exact .inr ⟨k,c,e,z.sameBut hs (cne y c e)⟩
  ·obtain⟨w',z⟩:=I.cell y c e;exact⟨w',z.sameBut hs (cne y c e)⟩
  ·obtain⟨e,n,ne,nf,d⟩:=I.pin p hp;exact⟨(hs.2 p.1 ne).trans e,n,ne,nf,d⟩
 ·have hfn:X.fn x=true:=by
   rcases hf with z|z
   ·exact z
   ·rw[z]at hk;cases hk
  obtain⟨c,hc⟩:=I.ok.has x (.inl hk);obtain⟨w',z⟩:=I.cell x c hc;refine wpAny_storeName_cell I.ok.kind hk hc z (λh' hc' hs=>?_);obtain⟨oc,hoc,hocd⟩:=id z;refine h { s with heap:=h' } ⟨I.ok,I.os,I.bare,⟨λb o e n hb hx=>?_,λb o e n hb hx=>?_,I.base.free,λb o e hx=>?_,I.base.tups,I.base.frzs,I.base.tbls⟩,⟨m,hn.sameBut hs (Ne.symm (cne x c hc)),λj y v' e1 e2 e3=>?_⟩,λy c' e=>?_,I.free,I.freeC,λp hp=>?_,tracked ⟨oc,hoc,I.freeC x c hc⟩ hs,by simpa using I.len⟩ ⟨c,hs,.inr hc⟩
  ·exact(hs.2 b (Nat.ne_of_lt (Nat.lt_of_lt_of_le (Heap.lt_size e) (I.ok.cab x c hfn hc)))).trans (I.base.keep b o e n hb hx)
  ·obtain⟨sl,e1⟩:=I.base.slot b o e n hb hx;exact⟨sl,(hs.2 b (Nat.ne_of_lt (Nat.lt_of_lt_of_le (Heap.lt_size e) (I.ok.cab x c hfn hc)))).trans e1⟩
  ·obtain⟨o',e1⟩:=I.base.there b o e hx;exact⟨o',(hs.2 b (Nat.ne_of_lt (Nat.lt_of_lt_of_le (Heap.lt_size e) (I.ok.cab x c hfn hc)))).trans e1⟩
  ·by_cases hj:j=i
   ·subst hj;rw[hi]at e1;cases e1;rw[List.getElem?_set_self hiσ]at e2;cases e2;exact⟨u,r,.inr ⟨.inl hk,c,hc,hc'⟩⟩
   ·rw[List.getElem?_set_ne (Ne.symm hj)]at e2;obtain⟨u',r',q⟩:=hl j y v' e1 e2 e3;refine⟨u',r',?_⟩;rcases q with q|⟨k,c',e,z'⟩
    ·exact .inl q
    ·refine .inr ⟨k,c',e,z'.sameBut hs ?_⟩;rintro rfl;exact hj (nodup_ix hN e1 (I.ok.inj _ _ _ e hc ▸ hi))
  ·by_cases hcc:c'=c
   ·subst hcc;exact⟨_,hc'⟩
   ·obtain⟨w2,z2⟩:=I.cell y c' e;exact⟨w2,z2.sameBut hs hcc⟩
  ·obtain⟨e,n,ne,nf,d⟩:=I.pin p hp;refine⟨(hs.2 p.1 ?_).trans e,n,ne,nf,d⟩;intro q;rw[q,hoc]at e;have q':oc=p.2:=Option.some.inj e;exact d w' (by rw[←q'];exact hocd)
theorem store_ok {M:Model}{A:Around}{E:Value->Shared->Prop}{i:Nat}{x:Str}{v:V}{u:Value}{Q:Unit->Shared->Prop}(I:Inv X pins σ H s)(hN:X.N.Nodup)(hi:X.N[i]?=some x)(hx:Loc X.env.scope x)(r:RelV v u)
 (h:∀s',Inv X pins (σ.set i (some v)) H s'->Q () s') (hf:X.fn x=true\/X.env.scope.names.lookup x=some .local:=by first|exact .inl rfl|exact .inr rfl|assumption):wpAny M A (storeName X.env x u) Q E s:=
 store_ok2 I hN hi hx r (λs' I' _=>h s' I') hf
theorem Inv.call' {s':Shared}{ch:List Addr}(I:Inv X pins σ H s)(ho:s'.os=s.os)(u:Un (frs X.stack) ch H H' s.heap s'.heap)(hok:HOk X.prog X.w H' s'.heap)(hg:AllBare s'.gens)
 (hch:∀b∈ch,(b∈X.ex\/X.s₀.heap.objs.size<=b)/\b≠X.env.locals/\(∀x c,X.env.cells.lookup x=some c->c≠b)/\∀p∈X.pn++pins,p.1≠b):Inv X pins σ H' s':=by
 obtain⟨h',g',d',t',o'⟩:=s';have e:o'=s.os:=ho;subst e;exact I.call (g':=g') (t':=t') (d':=d') u hok hg hch
end
abbrev XK:=Value->Option Addr->Hp->Prop
abbrev St:=List (Option V)
abbrev VK:=V->Hp->Prop
abbrev TE:=St->Hp->VK->Prop
abbrev TT:=St->Hp->(Bool->Hp->Prop)->Prop
abbrev TA:=St->Hp->(List V->Hp->Prop)->Prop
structure Ends where
 nx:St->Hp->Prop
 rt:VK
 bk:St->Hp->Prop:=λ_ _=>False
 ct:St->Hp->Prop:=λ_ _=>False
abbrev TS:=Ends->St->Hp->Prop
def EP (X:Cx)(pins:List (Addr×Obj))(σ:St)(Q:VK)(u:Value)(s':Shared):Prop:=∃v H',Inv X pins σ H' s'/\RelV v u/\Q v H'
def TP (X:Cx)(pins:List (Addr×Obj))(σ:St)(Q:Bool->Hp->Prop)(b:Bool)(s':Shared):Prop:=∃H',Inv X pins σ H' s'/\Q b H'
def AP (X:Cx)(pins:List (Addr×Obj))(σ:St)(Q:List V->Hp->Prop)(us:List Value)(s':Shared):Prop:=∃vs H',Inv X pins σ H' s'/\Vals vs us/\Q vs H'
def SP (X:Cx)(pins:List (Addr×Obj))(D:Ends)(f:Flow)(s':Shared):Prop:=
 match f with
 |.next=>∃ σ' H',Inv X pins σ' H' s'/\D.nx σ' H'
 |.brk=>∃ σ' H',Inv X pins σ' H' s'/\D.bk σ' H'
 |.cont=>∃ σ' H',Inv X pins σ' H' s'/\D.ct σ' H'
 |.ret u=>∃v σ' H',Inv X pins σ' H' s'/\RelV v u/\D.rt v H'
def PE (X:Cx)(e:Expr)(t:TE):Prop:=
 ∀(pins:List (Addr×Obj)) (s:Shared) (σ:St) (H:Hp) (Q:VK),Inv X pins σ H s->t σ H Q->wpAny (model X.prog X.w) X.A (eval e X.env) (EP X pins σ Q) X.xe s
def PT (X:Cx)(e:Expr)(t:TT):Prop:=
 ∀(pins:List (Addr×Obj)) (s:Shared) (σ:St) (H:Hp) (Q:Bool->Hp->Prop),Inv X pins σ H s->t σ H Q->wpAny (model X.prog X.w) X.A (isTrue e X.env (eval e X.env)) (TP X pins σ Q) X.xe s
def PW (X:Cx)(e:Expr)(t:TT):Prop:=
 ∀(whole:Sem Value) (pins:List (Addr×Obj)) (s:Shared) (σ:St) (H:Hp) (Q:Bool->Hp->Prop),Inv X pins σ H s->t σ H Q->wpAny (model X.prog X.w) X.A (isTrue e X.env whole) (TP X pins σ Q) X.xe s
theorem PW.pt {X:Cx}{e:Expr}{t:TT}(h:PW X e t):PT X e t:=h _
def PA (X:Cx)(es:List Expr)(t:TA):Prop:=
 ∀(pos:Pos) (pins:List (Addr×Obj)) (s:Shared) (σ:St) (H:Hp) (Q:List V->Hp->Prop),Inv X pins σ H s->t σ H Q->wpAny (model X.prog X.w) X.A (spliced (backTo pos (starEach es X.env))) (AP X pins σ Q) X.xe s
def PS (X:Cx)(st:Stmt)(t:TS):Prop:=
 ∀(pins:List (Addr×Obj)) (s:Shared) (σ:St) (H:Hp) (D:Ends),Inv X pins σ H s->t D σ H->wpAny (model X.prog X.w) X.A (exec st X.env) (SP X pins D) X.xe s
def PSs (X:Cx)(st:List Stmt)(t:TS):Prop:=
 ∀(pins:List (Addr×Obj)) (s:Shared) (σ:St) (H:Hp) (D:Ends),Inv X pins σ H s->t D σ H->wpAny (model X.prog X.w) X.A (execs st X.env) (SP X pins D) X.xe s
theorem thn {α:Type}{t:Sem α}{Q Q':α->Shared->Prop}{M:Model}{A:Around}{E:Value->Shared->Prop}{s:Shared}(h:wpAny M A t Q E s)(hQ:∀a s,Q a s->Q' a s):wpAny M A t Q' E s:=wpAny_mono h hQ λ_ _ x=>x
end L2
namespace L2
open PySem PySem.Spec PyProof.Rows
section
variable {X:Cx}
def tVar (i:Nat):TE:=λ σ H Q=>∃v,σ[i]?=some (some v)/\Q v H
def tC (v:V):TE:=λ_ H Q=>Q v H
theorem pe_var {i:Nat}{x:Str}{pos:Pos}(hN:X.N[i]?=some x)(hv:Vis X.env.scope x)(hd:(x==("__debug__":Str))=false:=by decide)(hcd:(x==("__classdict__":Str))=false:=by decide):PE X (.Name x pos) (tVar i):=by
 intro pins s σ H Q I h;obtain⟨v,e,h⟩:=h;obtain⟨m,hn,hl⟩:=I.loc;obtain⟨u,r,l⟩:=hl i x v hN e hv;have fin:EP X pins σ Q u s:=⟨v,H,I,r,h⟩;rcases l with ⟨hk,hm⟩|⟨hk,c,hc,hcell⟩
 ·exact wpAny_Name (wpAny_loadName_local I.ok.kind hk hn hm fin) hd
 ·rcases hk with hk|hk
  ·exact wpAny_Name (wpAny_loadName_cell I.ok.kind hk hc hcell fin) hd
  ·exact wpAny_Name (wpAny_loadName_free I.ok.kind hk hc hcell fin hcd) hd
theorem pe_int {i j pos}:PE X (.Constant (.int i) j pos) (tC (.int i)):=λ_ _ _ H _ I h=>wpAny_Constant_int ⟨.int i,H,I.tok _,⟨_,rfl⟩,h⟩
theorem pe_bl {b j pos}:PE X (.Constant (.bool b) j pos) (tC (.bl b)):=λ_ _ _ H _ I h=>Constant_bool ⟨.bl b,H,I,rfl,h⟩
theorem pe_non {j pos}:PE X (.Constant .none j pos) (tC .non):=λ_ _ _ H _ I h=>Constant_none ⟨.non,H,I,rfl,h⟩
theorem pe_str {x j pos}:PE X (.Constant (.str x) j pos) (tC (.str x)):=λ_ _ _ H _ I h=>Calls.Constant_str ⟨.str x,H,I.tok _,⟨_,rfl⟩,h⟩
def Gl (X:Cx)(x:Str):Prop:=X.env.kindOf x=some .globalImplicit
theorem ld_glob {E:Value->Shared->Prop}{pins:List (Addr×Obj)}{s:Shared}{σ:St}{H:Hp}{x:Str}{u:Value}{pos:Pos}{Q:Value->Shared->Prop}(I:Inv X pins σ H s)(hg:Gl X x)(hm:X.mg x=some u)(h:Q u s)
 (hd:(x==("__debug__":Str))=false:=by decide):wpAny (model X.prog X.w) X.A (eval (.Name x pos) X.env) Q E s:=
 Calls.Name_function_global I.ok.kind hg (Calls.loadGlobal_global (by rw[I.ok.glob];exact I.mod.glob.keeps I.bk) hm h) hd
theorem ld_blt {E:Value->Shared->Prop}{pins:List (Addr×Obj)}{s:Shared}{σ:St}{H:Hp}{x:Str}{u:Value}{pos:Pos}{Q:Value->Shared->Prop}(I:Inv X pins σ H s)(hg:Gl X x)(hm:X.mg x=none)(hv:bootBuiltins x=some u)(h:Q u s)
 (hn:x≠"__name__":=by decide) (hd:(x==("__debug__":Str))=false:=by decide):wpAny (model X.prog X.w) X.A (eval (.Name x pos) X.env) Q E s:=by
 obtain⟨mb,h1,h2⟩:=I.mod.blt;exact Calls.Name_function_global I.ok.kind hg (Calls.loadGlobal_builtin (by rw[I.ok.glob];exact I.mod.glob.keeps I.bk) hm (by rw[I.ok.blt];exact h1.keeps I.bk) ((h2 x hn).trans hv) h) hd
theorem pe_bltn {x:Str}{v:V}{u:Value}{pos:Pos}(hg:Gl X x)(hm:X.mg x=none)(hv:bootBuiltins x=some u)(r:RelV v u)(hn:x≠"__name__":=by decide)(hd:(x==("__debug__":Str))=false:=by decide):PE X (.Name x pos) (tC v):=
 λ_ _ _ H _ I h=>ld_blt I hg hm hv ⟨v,H,I,r,h⟩ hn hd
variable {a b:Expr} {ta tb:TE} {pos:Pos}
def tB (t:TE):TT:=λ σ H Q=>t σ H λx H1=>∃c,x=.bl c/\Q c H1
theorem pt_val {e:Expr}{t:TE}(h:PE X e t)(he:∀whole,isTrue e X.env whole=(do let v ←whole;standAt e.pos;holding [v] (truthy v)):=by intro _;rfl):PT X e (tB t):=by
 intro pins s σ H Q I hw;refine isTrue_plain (thn (h pins s σ H _ I hw) λv s1 ⟨x,H1,I1,r1,q1⟩=>?_) (he _);obtain⟨d,rfl,q⟩:=q1;cases r1;exact wpAny_truthy_bool ⟨H1,I1,q⟩
variable {tA tB':TT} {rest:List Expr}
def tAnd (t u:TT):TT:=λ σ H Q=>t σ H λc H1=>if c=true then u σ H1 Q else Q false H1
def tOr (t u:TT):TT:=λ σ H Q=>t σ H λc H1=>if c=true then Q true H1 else u σ H1 Q
def tNot (t:TT):TT:=λ σ H Q=>t σ H λc H1=>Q (!c) H1
theorem pw_and1 (ha:PT X a tA):PW X (.BoolOp .And [a] pos) tA:=by
 intro wh pins s σ H Q I h;refine isTrue_and (thn (ha pins s σ H Q I h) λc s1 e=>?_)
 cases c with
 |true=>exact isTrue_and_nil e
 |false=>exact e
theorem pw_or1 (ha:PT X a tA):PW X (.BoolOp .Or [a] pos) tA:=by
 intro wh pins s σ H Q I h;refine isTrue_or (thn (ha pins s σ H Q I h) λc s1 e=>?_)
 cases c with
 |false=>exact isTrue_or_nil e
 |true=>exact e
theorem pw_and (ha:PT X a tA)(hb:PW X (.BoolOp .And (b::rest) pos) tB'):PW X (.BoolOp .And (a::b::rest) pos) (tAnd tA tB'):=by
 intro wh pins s σ H Q I h;refine isTrue_and (thn (ha pins s σ H _ I h) λc s1 ⟨H1,I1,q1⟩=>?_)
 cases c with
 |true=>exact hb wh pins s1 σ H1 Q I1 q1
 |false=>exact⟨H1,I1,q1⟩
theorem pw_or (ha:PT X a tA)(hb:PW X (.BoolOp .Or (b::rest) pos) tB'):PW X (.BoolOp .Or (a::b::rest) pos) (tOr tA tB'):=by
 intro wh pins s σ H Q I h;refine isTrue_or (thn (ha pins s σ H _ I h) λc s1 ⟨H1,I1,q1⟩=>?_)
 cases c with
 |true=>exact⟨H1,I1,q1⟩
 |false=>exact hb wh pins s1 σ H1 Q I1 q1
theorem pt_not (ha:PT X a tA):PT X (.UnaryOp .Not a pos) (tNot tA):=by
 intro pins s σ H Q I h;exact isTrue_not (ha pins s σ H (λc H1=>Q (!c) H1) I h)
def tAndV (ta tb:TE):TE:=λ σ H Q=>ta σ H λx H1=>∃c,x=.bl c/\if c=true then tb σ H1 Q else Q (.bl false) H1
def tNotV (ta:TE):TE:=λ σ H Q=>ta σ H λx H1=>∃c,x=.bl c/\Q (.bl (!c)) H1
theorem pe_one {op}{t:TE}(h:PE X a t):PE X (.BoolOp op [a] pos) t:=λpins s σ H Q I hw=>BoolOp_one (h pins s σ H Q I hw)
theorem pe_and (ha:PE X a ta)(hb:PE X (.BoolOp .And (b::rest) pos) tb):PE X (.BoolOp .And (a::b::rest) pos) (tAndV ta tb):=by
 intro pins s σ H Q I h;refine BoolOp_and (thn (ha pins s σ H _ I h) λv s1 ⟨x,H1,I1,r1,q1⟩=>?_);obtain⟨c,rfl,q1⟩:=q1;cases r1;refine wpAny_truthy_bool ?_
 cases c with
 |true=>exact hb pins s1 σ H1 Q I1 q1
 |false=>exact⟨.bl false,H1,I1,rfl,q1⟩
theorem pe_not (ha:PE X a ta):PE X (.UnaryOp .Not a pos) (tNotV ta):=by
 intro pins s σ H Q I h;refine UnaryOp_ (thn (ha pins s σ H _ I h) λv s1 ⟨x,H1,I1,r1,q1⟩=>?_);obtain⟨c,rfl,q1⟩:=q1;cases r1;exact not_of (wpAny_truthy_bool ⟨.bl (!c),H1,I1,rfl,q1⟩)
end
end L2
namespace L2
open PySem PySem.Spec PyProof.Rows
def SqL (K:PySem.W.Frag)(H:Hp)(a:Addr)(xs:List V):Prop:=
 Rd H a (.lst xs)\/
  ∃(o:Obj) (its:Array Value) (n:Nat),K.lookup a=some o/\o.cls=.type "list"/\o.dict=none/\o.data=.seq its n/\its.size<=sizeLine/\Vals xs its.toList
def SqT (K:PySem.W.Frag)(H:Hp)(a:Addr)(xs:List V):Prop:=
 Rd H a (.tup xs)\/
  ∃(o:Obj) (its:Array Value) (n:Nat),K.lookup a=some o/\o.cls=.type "tuple"/\o.data=.seq its n/\its.size<=sizeLine/\Vals xs its.toList
def absV:Value->Option V
 |.none=>some .non
 |.bool b=>some (.bl b)
 |.int i _=>some (.int i)
 |.str x _=>some (.str x)
 |.bytes b _=>some (.byt b)
 |.float b _=>some (.flt b)
 |.ref a=>some (.ref a)
 |.type n=>some (.ty n)
 |_=>none
theorem RelV.abs {x:V}{u:Value}(r:RelV x u):absV u=some x:=by
 cases x with
 |non=>cases r;rfl
 |bl _=>cases r;rfl
 |int _=>obtain⟨t,rfl⟩:=r;rfl
 |str _=>obtain⟨t,rfl⟩:=r;rfl
 |byt _=>obtain⟨t,rfl⟩:=r;rfl
 |flt _=>obtain⟨t,rfl⟩:=r;rfl
 |ref _=>cases r;rfl
 |ty _=>cases r;rfl
theorem RelV.inj {x y:V}{u:Value}(r:RelV x u)(q:RelV y u):x=y:=Option.some.inj (r.abs.symm.trans q.abs)
theorem Vals.inj:∀{xs ys:List V} {us:List Value},Vals xs us->Vals ys us->xs=ys
 |_,_,_,.nil,.nil=>rfl
 |_,_,_,.cons r t,.cons r' t'=>by rw[r.inj r',Vals.inj t t']
section
variable {X:Cx} {pins:List (Addr×Obj)} {σ:St} {H:Hp} {s:Shared} {a:Addr} {xs ys:List V}
theorem SqL.of {K:PySem.W.Frag}(h:H a=some (.lst xs)):SqL K H a xs:=.inl (.inl h)
theorem SqT.of {K:PySem.W.Frag}(h:H a=some (.tup xs)):SqT K H a xs:=.inl (.inl h)
theorem Inv.list (I:Inv X pins σ H s)(h:SqL X.K H a xs):∃its:List Value,Vals xs its/\PlainL s.heap a its.toArray/\xs.length<=sizeLine:=by
 rcases h with h|⟨o,its,n,hk,hc,hd,hs,hz,r⟩
 ·obtain⟨z,its,n,r,e⟩:=h.ok I.hok;exact⟨its,r,⟨_,n,e,rfl,rfl,rfl⟩,z⟩
 ·refine⟨its.toList,r,⟨o,n,I.kIn a o hk,hc,hd,by simpa using hs⟩,?_⟩;have e:=r.length;simp only[Array.length_toList]at e;omega
theorem Inv.tuple (I:Inv X pins σ H s)(h:SqT X.K H a xs):∃its:List Value,Vals xs its/\IsTup s.heap a its.toArray/\xs.length<=sizeLine:=by
 rcases h with h|⟨o,its,n,hk,hc,hs,hz,r⟩
 ·obtain⟨z,its,r,p⟩:=h.ok I.hok;exact⟨its,r,p,z⟩
 ·refine⟨its.toList,r,⟨o,I.kIn a o hk,hc,n,by simpa using hs⟩,?_⟩;have e:=r.length;simp only[Array.length_toList]at e;omega
theorem Inv.list_inj (I:Inv X pins σ H s)(h:SqL X.K H a xs)(h':SqL X.K H a ys):xs=ys:=by
 obtain⟨its,r,⟨o,n,e,_,_,d⟩,_⟩:=I.list h;obtain⟨its',r',⟨o',n',e',_,_,d'⟩,_⟩:=I.list h';rw[e]at e';cases e';rw[d]at d';injection d' with d1 _
 have:its=its':=by simpa using congrArg Array.toList d1
 subst this;exact r.inj r'
theorem Inv.tuple_inj (I:Inv X pins σ H s)(h:SqT X.K H a xs)(h':SqT X.K H a ys):xs=ys:=by
 obtain⟨its,r,⟨o,e,_,n,d⟩,_⟩:=I.tuple h;obtain⟨its',r',⟨o',e',_,n',d'⟩,_⟩:=I.tuple h';rw[e]at e';cases e';rw[d]at d';injection d' with d1 _
 have:its=its':=by simpa using congrArg Array.toList d1
 subst this;exact r.inj r'
end
abbrev Cx.wish (X:Cx) (E:Value->Shared->Prop):Cx:={ X with xe:=E }
abbrev Cx.nox (X:Cx):Cx:=X.wish λ_ _=>False
theorem Cx.Ok.wish {X:Cx}(ok:X.Ok)(E:Value->Shared->Prop):(X.wish E).Ok:=
 ⟨ok.mod,ok.kind,ok.glob,ok.blt,ok.above,ok.inj,ok.has,ok.cab,ok.hd,ok.frames,ok.stk,ok.exf,ok.bs,ok.bsz,ok.noex,ok.exfs,ok.funs,ok.frf⟩
theorem Cx.Ok.unwish {X:Cx}{E:Value->Shared->Prop}(ok:(X.wish E).Ok):X.Ok:=
 ⟨ok.mod,ok.kind,ok.glob,ok.blt,ok.above,ok.inj,ok.has,ok.cab,ok.hd,ok.frames,ok.stk,ok.exf,ok.bs,ok.bsz,ok.noex,ok.exfs,ok.funs,ok.frf⟩
section
variable {X:Cx} {pins:List (Addr×Obj)} {σ:St} {H:Hp} {s:Shared} {E:Value->Shared->Prop}
theorem Inv.wish (I:Inv X pins σ H s)(E:Value->Shared->Prop):Inv (X.wish E) pins σ H s:=⟨I.ok.wish E,I.os,I.bare,I.base,I.loc,I.cell,I.free,I.freeC,I.pin,I.hok,I.len⟩
theorem Inv.unwish (I:Inv (X.wish E) pins σ H s):Inv X pins σ H s:=⟨I.ok.unwish,I.os,I.bare,I.base,I.loc,I.cell,I.free,I.freeC,I.pin,I.hok,I.len⟩
theorem SP.unwish {D:Ends}{f:Flow}{s':Shared}(h:SP (X.wish E) pins D f s'):SP X pins D f s':=by
 cases f with
 |next=>obtain⟨σ',H',I,q⟩:=h;exact⟨σ',H',I.unwish,q⟩
 |brk=>obtain⟨σ',H',I,q⟩:=h;exact⟨σ',H',I.unwish,q⟩
 |cont=>obtain⟨σ',H',I,q⟩:=h;exact⟨σ',H',I.unwish,q⟩
 |ret u=>obtain⟨v,σ',H',I,r,q⟩:=h;exact⟨v,σ',H',I.unwish,r,q⟩
theorem PE.nox {e:Expr}{t:TE}(h:PE X.nox e t):PE X e t:=λpins s σ H Q I hw=>
 wpAny_mono (h pins s σ H Q (I.wish _) hw) (λ_ _ ⟨v,H',I',r,q⟩=>⟨v,H',I'.unwish,r,q⟩) λ_ _ z=>False.elim z
theorem PT.nox {e:Expr}{t:TT}(h:PT X.nox e t):PT X e t:=λpins s σ H Q I hw=>
 wpAny_mono (h pins s σ H Q (I.wish _) hw) (λ_ _ ⟨H',I',q⟩=>⟨H',I'.unwish,q⟩) λ_ _ z=>False.elim z
theorem PSs.nox {st:List Stmt}{t:TS}(h:PSs X.nox st t):PSs X st t:=λpins s σ H D I hw=>
 wpAny_mono (h pins s σ H D (I.wish _) hw) (λ_ _ q=>q.unwish) λ_ _ z=>False.elim z
end
section
variable {X:Cx} {st:Stmt} {rest:List Stmt} {t u:TS} {e:Expr} {te:TE} {pos:Pos}
def tNext:TS:=λD σ H=>D.nx σ H
def tSeq (t u:TS):TS:=λD σ H=>t { D with nx:=u D } σ H
theorem pss_nil:PSs X [] tNext:=λ_ _ σ H _ I h=>wpAny_execs_nil ⟨σ,H,I,h⟩
theorem pss_cons (h1:PS X st t)(h2:PSs X rest u):PSs X (st::rest) (tSeq t u):=by
 intro pins s σ H D I h;refine wpAny_execs_cons (thn (h1 pins s σ H { D with nx:=u D } I h) λf s1 q=>?_)
 cases f with
 |next=>
  obtain⟨σ',H',I',q⟩:=q;exact h2 pins s1 σ' H' D I' q
 |ret v=>exact q
 |brk=>exact q
 |cont=>exact q
theorem pss_one (h1:PS X st t):PSs X [st] t:=by
 intro pins s σ H D I h;refine wpAny_execs_cons (thn (h1 pins s σ H D I h) λf s1 q=>?_)
 cases f with
 |next=>exact wpAny_execs_nil q
 |ret v=>exact q
 |brk=>exact q
 |cont=>exact q
def tBreak:TS:=λD σ H=>D.bk σ H
def tCont:TS:=λD σ H=>D.ct σ H
theorem ps_break:PS X (.Break pos) tBreak:=λ_ _ σ H _ I h=>wpAny_Break ⟨σ,H,I,h⟩
theorem ps_continue:PS X (.Continue pos) tCont:=λ_ _ σ H _ I h=>wpAny_Continue ⟨σ,H,I,h⟩
theorem Inv.quiet {pins:List (Addr×Obj)}{σ:St}{H:Hp}{s:Shared}(I:Inv X pins σ H s):interactive X.env=false:=by simp[interactive,I.ok.kind]
def tDrop (te:TE):TS:=λD σ H=>te σ H λ_ H1=>D.nx σ H1
theorem ps_expr (he:PE X e te)(hs:swapsWith e none pos.line X.env=pure false:=by rfl):PS X (.Expr e pos) (tDrop te):=by
 intro pins s σ H D I h;exact wpAny_Expr_any (thn (he pins s σ H _ I h) λv s1 ⟨x,H1,I1,r1,q1⟩=>⟨σ,H1,I1,q1⟩) I.quiet hs
def tRet (te:TE):TS:=λD σ H=>te σ H D.rt
theorem ps_ret (he:PE X e te):PS X (.Return (some e) pos) (tRet te):=by
 intro pins s σ H D I h;exact wpAny_Return_some (thn (he pins s σ H _ I h) λv s1 ⟨x,H1,I1,r1,q1⟩=>⟨x,σ,H1,I1,r1,q1⟩)
def tRetN:TS:=λD _ H=>D.rt .non H
theorem ps_retN:PS X (.Return none pos) tRetN:=λ_ _ σ H _ I h=>wpAny_Return_none ⟨.non,σ,H,I,rfl,h⟩
def tIfS (c:TT)(t u:TS):TS:=λD σ H=>c σ H λb H1=>if b=true then t D σ H1 else u D σ H1
theorem ps_if {c:Expr}{a b:List Stmt}{tc:TT}(hc:PT X c tc)(ha:PSs X a t)(hb:PSs X b u):PS X (.If c a b pos) (tIfS tc t u):=by
 intro pins s σ H D I h;refine wpAny_If (thn (hc pins s σ H _ I h) λd s1 ⟨H1,I1,q1⟩=>?_)
 cases d with
 |true=>exact ha pins s1 σ H1 D I1 q1
 |false=>exact hb pins s1 σ H1 D I1 q1
end
abbrev TG:=V->St->Hp->(St->Hp->Prop)->Prop
abbrev TGs:=List V->St->Hp->(St->Hp->Prop)->Prop
def PG (X:Cx)(target:Expr)(t:TG):Prop:=
 ∀(pins:List (Addr×Obj)) (s:Shared) (σ:St) (H:Hp) (v:V) (u:Value) (Q:St->Hp->Prop),Inv X pins σ H s->RelV v u->t v σ H Q->
  wpAny (model X.prog X.w) X.A (assign target X.env u) (λ_ s'=>∃ σ' H',Inv X pins σ' H' s'/\Q σ' H') X.xe s
def PGs (X:Cx)(ts:List Expr)(t:TGs):Prop:=
 ∀(pins:List (Addr×Obj)) (s:Shared) (σ:St) (H:Hp) (vs:List V) (us:List Value) (Q:St->Hp->Prop),Inv X pins σ H s->Vals vs us->t vs σ H Q->
  wpAny (model X.prog X.w) X.A (assignInOrder ((assignEach ts X.env).map (·.2)) us) (λ_ s'=>∃ σ' H',Inv X pins σ' H' s'/\Q σ' H') X.xe s
abbrev TSet:=V->V->V->Hp->(Hp->Prop)->Prop
def PSet (X:Cx)(t:TSet):Prop:=
 ∀(pins:List (Addr×Obj)) (s:Shared) (σ:St) (H:Hp) (o i v:V) (ov iv u:Value) (Q:Hp->Prop),Inv X pins σ H s->RelV o ov->RelV i iv->RelV v u->t o i v H Q->
  wpAny (model X.prog X.w) X.A (setItem ov iv u) (λ_ s'=>∃H',Inv X pins σ H' s'/\Q H') X.xe s
section
variable {X:Cx} {pos:Pos}
def gName (i:Nat):TG:=λv σ H Q=>Q (σ.set i (some v)) H
theorem pg_name {i:Nat}{x:Str}(hN:X.N.Nodup)(hi:X.N[i]?=some x)(hx:Loc X.env.scope x)(hf:X.fn x=true\/X.env.scope.names.lookup x=some .local:=by first|exact .inl rfl|exact .inr rfl|assumption):PG X (.Name x pos) (gName i):=by
 intro pins s σ H v u Q I r h;exact wpAny_assign_Name (store_ok I hN hi hx r (λs' I'=>⟨_,H,I',h⟩) hf)
def gNil:TGs:=λvs σ H Q=>vs=[]/\Q σ H
def gCons (t:TG)(u:TGs):TGs:=λvs σ H Q=>∃v r,vs=v::r/\t v σ H λ σ' H'=>u r σ' H' Q
theorem pgs_nil:PGs X [] gNil:=by
 intro pins s σ H vs us Q I r h;obtain⟨e,h⟩:=h;subst e;cases r;exact assignInOrder_nil ⟨σ,H,I,h⟩
theorem pgs_cons {e:Expr}{es:List Expr}{t:TG}{u:TGs}(h1:PG X e t)(h2:PGs X es u)
 (hs:(assignEach (e::es) X.env).map (·.2)=assign e X.env::(assignEach es X.env).map (·.2):=by rfl):PGs X (e::es) (gCons t u):=by
 intro pins s σ H vs us Q I r h;obtain⟨v,vr,e1,h⟩:=h;subst e1
 cases r with
 |cons r rr=>
  rw[hs];refine assignInOrder_cons (thn (h1 pins s σ H _ _ _ I r h) λ_ s1 ⟨σ1,H1,I1,q1⟩=>?_);exact h2 pins s1 σ1 H1 _ _ Q I1 rr q1
def gTup (K:PySem.W.Frag)(n:Nat)(t:TGs):TG:=λv σ H Q=>∃a xs,v=.ref a/\SqT K H a xs/\xs.length=n/\t xs σ H Q
theorem pg_tup {es:List Expr}{k:Nat}{t:TGs}{n:Nat}(hc:X.calm=true)(h:PGs X es t)
 (hn:(assignEach es X.env).length=n:=by rfl) (hst:(assignEach es X.env).findIdx? (·.1)=none:=by rfl):PG X (.Tuple es k pos) (gTup X.K n t):=by
 intro pins s σ H v u Q I r hw;obtain⟨a,xs,e1,hq,hl,hw⟩:=hw;subst e1;cases r;obtain⟨its,rv,ht,hz⟩:=I.tuple hq;refine assign_Tuple_tuple (I.ok.hd hc) ht (by simp[hn,←hl,rv.length]) hst λh' hx=>?_
 have I1:Inv X pins σ H { s with heap:=h' }:=I.kept (t':=s.toks) λb o e=>hx b o (Nat.ne_of_lt (Heap.lt_size e)) e
 exact h pins _ σ H xs _ Q I1 (by simpa using rv) hw
def gSub (to ti:TE)(t:TSet):TG:=λv σ H Q=>to σ H λo H1=>ti σ H1 λi H2=>t o i v H2 λH3=>Q σ H3
theorem pg_sub {o i:Expr}{to ti:TE}{t:TSet}(ho:PE X o to)(hi:PE X i ti)(hs:PSet X t)
 (ha:∀v,assign (.Subscript o i pos) X.env v=(do
  let ov ←holding [v] (eval o X.env)
  let iv ←holding [v,ov] (eval i X.env)
  standAt pos
  holding [v,ov,iv] (setItem ov iv v)
  release [v,ov,iv] []):=by intro _;rfl):PG X (.Subscript o i pos) (gSub to ti t):=by
 intro pins s σ H v u Q I r h;rw[ha];refine wpAny_bind (wpAny_holding (thn (ho pins s σ H _ I h) λov s1 ⟨x,H1,I1,r1,q1⟩=>?_));refine wpAny_bind (wpAny_holding (thn (hi pins s1 σ H1 _ I1 q1) λiv s2 ⟨y,H2,I2,r2,q2⟩=>?_));refine wpAny_bind (wpAny_standAt (wpAny_bind (wpAny_holding (thn (hs pins s2 σ H2 x y v ov iv u _ I2 r1 r2 r q2) λ_ s3 ⟨H3,I3,q3⟩=>?_))));exact wpAny_release ⟨σ,H3,I3,q3⟩
def tAsg (te:TE)(g:TG):TS:=λD σ H=>te σ H λx H1=>g x σ H1 D.nx
theorem ps_asg {tg e:Expr}{te:TE}{g:TG}(he:PE X e te)(hg:PG X tg g)(hs:swapsWithSole [tg] e pos.line X.env=pure false:=by rfl)(hw:swappedStores [tg] e X.env=pure none:=by rfl)
 (h1:(assignEach [tg] X.env).map (·.2)=[assign tg X.env]:=by rfl):PS X (.Assign [tg] e pos) (tAsg te g):=by
 intro pins s σ H D I h;refine wpAny_Assign_stores (thn (he pins s σ H _ I h) λv s1 ⟨x,H1,I1,r1,q1⟩=>?_) hs hw;rw[h1];exact thn (hg pins s1 σ H1 x v _ I1 r1 q1) λ_ s2 q=>q
theorem ps_set {i:Nat}{x:Str}{e:Expr}{te:TE}{pos':Pos}(hN:X.N.Nodup)(hi:X.N[i]?=some x)(hx:Loc X.env.scope x)(he:PE X e te)(hs:swapsWith e (some (.Name x pos')) pos.line X.env=pure false:=by rfl)(hf:X.fn x=true\/X.env.scope.names.lookup x=some .local:=by first|exact .inl rfl|exact .inr rfl|assumption):
 PS X (.Assign [.Name x pos'] e pos) (tAsg te (gName i)):=by
 intro pins s σ H D I h;refine wpAny_Assign_Name (thn (he pins s σ H _ I h) λv s1 ⟨y,H1,I1,r1,q1⟩=>?_) hs;exact store_ok I1 hN hi hx r1 (λs2 I2=>⟨_,H1,I2,q1⟩) hf
end
section
variable {X:Cx} {pos:Pos}
def tWhile (c:TT)(tb:TS):TS:=λD σ H=>∃W:Nat->St->Hp->Prop,(∃m,W m σ H)/\∀m σ H,W m σ H->
 c σ H λb H1=>if b=true then ∃N:St->Hp->Prop,(∀ σ' H',N σ' H'->∃m',m'<m/\W m' σ' H')/\tb { D with nx:=N,ct:=N,bk:=D.nx } σ H1 else D.nx σ H1
theorem ps_while {c:Expr}{body:List Stmt}{tc:TT}{tb:TS}(hp:PassesOwn (model X.prog X.w) X.A X.env X.xe)(hc:PT X c tc)(hb:PSs X body tb):PS X (.While c body [] pos) (tWhile tc tb):=by
 intro pins s σ H D I h;obtain⟨W,⟨m0,w0⟩,turn⟩:=h;refine wpAny_While (codeAny_whileLoop (λn s'=>∃ σ' H',Inv X pins σ' H' s'/\W n σ' H') ?_ m0 ⟨σ,H,I,w0⟩);rintro n s1 ⟨σ1,H1,I1,w1⟩;refine wpAny_passesOwn hp (thn (hc pins s1 σ1 H1 _ I1 (turn n σ1 H1 w1)) λb s2 ⟨H2,I2,q2⟩=>?_)
 cases b with
 |true=>
  obtain⟨N,hN,q2⟩:=q2;rw[if_pos rfl];refine wpAny_passesOwn hp (thn (hb pins s2 σ1 H2 _ I2 q2) λf s3 q3=>?_)
  cases f with
  |next=>
   obtain⟨σ3,H3,I3,n3⟩:=q3;obtain⟨m',hm,w3⟩:=hN σ3 H3 n3;exact⟨m',hm,σ3,H3,I3,w3⟩
  |cont=>
   obtain⟨σ3,H3,I3,n3⟩:=q3;obtain⟨m',hm,w3⟩:=hN σ3 H3 n3;exact⟨m',hm,σ3,H3,I3,w3⟩
  |brk=>exact q3
  |ret v=>exact q3
 |false=>
  rw[if_neg Bool.false_ne_true];exact wpAny_execs_nil ⟨σ1,H2,I2,q2⟩
end
structure It where
 go:Nat->Hp->Prop
 yld:Nat->Hp->V->Hp->Prop
 stop:Nat->Hp->Prop
def FpOk (X:Cx)(pins:List (Addr×Obj))(H:Hp)(b:Addr):Prop:=
 H b=none/\b≠X.env.locals/\b∉X.fs/\(b∈X.ex\/X.s₀.heap.objs.size<=b)/\(∀x c,X.env.cells.lookup x=some c->c≠b)/\∀p∈X.pn++pins,p.1≠b
theorem Inv.fpOk {X:Cx}{pins:List (Addr×Obj)}{σ:St}{H H':Hp}{s:Shared}{b:Addr}(I:Inv X pins σ H s)(hb:s.heap.objs.size<=b)(hn:H' b=none):FpOk X pins H' b:=by
 refine⟨hn,Nat.ne_of_gt (Nat.lt_of_lt_of_le I.lt hb),I.nofs hb,.inr (Nat.le_trans I.sz hb),λx c e z=>?_,λp hp z=>?_⟩
 ·obtain⟨v,q⟩:=I.cell x c e;exact absurd (Nat.lt_of_lt_of_le q.lt (by rw[z];exact hb)) (Nat.lt_irrefl _)
 ·exact absurd (Nat.lt_of_lt_of_le (Heap.lt_size (I.pin p hp).1) (by rw[z];exact hb)) (Nat.lt_irrefl _)
structure Turn (P:Program) (w:World) (K:PySem.W.Frag) (tg:Expr) (J:It) (fp:List Addr) (it:Addr) (tn:Nat->Heap->Prop):Prop where
 mem:it∈fp
 obj:∀i h,tn i h->∀b∈fp,∃o,h.get? b=some o/\∀v,o.data≠.cell v
 keep:∀i h h',tn i h->(∀b∈fp,∀o,h.get? b=some o->h'.get? b=some o)->tn i h'
 item:∀(X:Cx),X.prog=P->X.w=w->X.K=K->X.calm=true->∀(i:Nat) (pins:List (Addr×Obj)) (s:Shared) (σ:St) (H:Hp) (E:Value->Shared->Prop),Inv X pins σ H s->(∀b∈fp,FpOk X pins H b)->tn i s.heap->J.go i H->
  wpAny (model P w) X.A (pyNext (.ref it)) (λr s1=>∃u,r=some u/\
   wpAny (model P w) X.A (letOwnedTupleGo tg (.ref it) u) (λ_ s2=>∃x H',Inv X pins σ H' s2/\RelV x u/\J.yld i H x H'/\tn (i+ 1) s2.heap/\∀b∈fp,H' b=none) E s1) E s
 done:∀(X:Cx),X.prog=P->X.w=w->X.K=K->X.calm=true->∀(i:Nat) (pins:List (Addr×Obj)) (s:Shared) (σ:St) (H:Hp) (E:Value->Shared->Prop),Inv X pins σ H s->(∀b∈fp,FpOk X pins H b)->tn i s.heap->J.stop i H->
  wpAny (model P w) X.A (pyNext (.ref it)) (λr s1=>r=none/\Inv X pins σ H s1) E s
 self:∀(A:Around) (i:Nat) (s:Shared) (Q:Value->Shared->Prop) (E:Value->Shared->Prop),tn i s.heap->Q (.ref it) s->wpAny (model P w) A (pyIter (.ref it)) Q E s
abbrev TI:=St->Hp->(It->Hp->Prop)->Prop
def PIE (X:Cx)(pins:List (Addr×Obj))(σ:St)(tg:Expr)(R:It->Hp->Prop)(itv:Value)(s2:Shared):Prop:=
 ∃(it:Addr) (fp:List Addr) (tn:Nat->Heap->Prop) (J:It) (H':Hp),itv=.ref it/\Inv X pins σ H' s2/\Turn X.prog X.w X.K tg J fp it tn/\tn 0 s2.heap/\(∀b∈fp,FpOk X pins H' b)/\R J H'
def PI (X:Cx)(tg iter:Expr)(wi:TI):Prop:=
 ∀(pins:List (Addr×Obj)) (s:Shared) (σ:St) (H:Hp) (R:It->Hp->Prop),Inv X pins σ H s->wi σ H R->
  wpAny (model X.prog X.w) X.A (eval iter X.env) (λv s1=>wpAny (model X.prog X.w) X.A (pyIter v) (PIE X pins σ tg R) X.xe s1) X.xe s
theorem go_of {M:Model}{A:Around}{E:Value->Shared->Prop}{s:Shared}{tg:Expr}{it:Addr}{u:Value}{o:Obj}{n:String}{vs:Array Value}{Q:Unit->Shared->Prop}(ho:s.heap.get? it=some o)(hc:o.cls=.type n)(hd:o.data=.fields vs)
 (hn:["enumerate","zip","dict_itemiterator","dict_reverseitemiterator","odict_iterator","itertools.zip_longest","itertools.pairwise"].contains n=false) (hQ:Q () s):wpAny M A (letOwnedTupleGo tg (.ref it) u) Q E s:=by
 unfold letOwnedTupleGo
 cases tg <;> first
  |exact wpAny_pure hQ
  |(cases u <;> first
   |exact wpAny_pure hQ
   |(refine wpAny_bind (wpAny_load ho ?_)
     rw[hc,hd];show wpAny M A (if (["enumerate","zip","dict_itemiterator","dict_reverseitemiterator","odict_iterator","itertools.zip_longest","itertools.pairwise"].contains n && vs[0]?==some (rawInt _))=true then _ else _) Q E s;rw[if_neg (by intro h;rw[hn,Bool.false_and]at h;cases h)];exact wpAny_pure hQ))
def Itl (K:PySem.W.Frag)(a:Addr):It:=
 ⟨λi H=>∃xs x,SqL K H a xs/\xs[i]?=some x,λi H x H'=>H'=H/\∀xs,SqL K H a xs->xs[i]?=some x,λi H=>∃xs,SqL K H a xs/\xs.length<=i⟩
def Itt (K:PySem.W.Frag)(a:Addr):It:=
 ⟨λi H=>∃xs x,SqT K H a xs/\xs[i]?=some x,λi H x H'=>H'=H/\∀xs,SqT K H a xs->xs[i]?=some x,λi H=>∃xs,SqT K H a xs/\xs.length<=i⟩
def Itr (lo:Int)(n:Nat):It:=⟨λi _=>i<n,λi H x H'=>H'=H/\x=.int (lo+ i),λi _=>n<=i⟩
theorem turn_list {P:Program}{w:World}{K:PySem.W.Frag}{tg:Expr}(a it:Addr):Turn P w K tg (Itl K a) [it] it (λi h=>h.IsListIter it a i) where
 mem:=by simp
 obj:=λi h st b hb=>by
  have e:b=it:=by simpa using hb
  subst e;obtain⟨o,e,c,d⟩:=st;exact⟨o,e,λv z=>by rw[d]at z;cases z⟩
 keep:=λi h h' st k=>st.at λo e=>k it (by simp) o e
 item:=by
  intro X hP hw hK hc i pins s σ H E I hf st hg;subst hP hw hK;obtain⟨xs,x,hq,hx⟩:=hg;obtain⟨its,rv,p,hz⟩:=I.list hq;obtain⟨u,hu,ru⟩:=rv.get hx;obtain⟨f0,f1,f2,f3,f4,f5⟩:=hf it (by simp);refine wpAny_pyNext_list_item st p.isList (x:=u) (by simpa using hu) λh' st' sb=>?_
  have I1:Inv X pins σ H { s with heap:=h' }:=I.turned (t':=s.toks) (λb o hb e=>(sb.2 b hb).trans e) f0 f1 f3 f4 f5;obtain⟨o,e,c,d⟩:=id st';exact⟨u,rfl,go_of (s:={ s with heap:=h' }) e c d (by decide) ⟨x,H,I1,ru,⟨rfl,λys hy=>by rw[I.list_inj hy hq];exact hx⟩,st',λb hb=>(hf b hb).1⟩⟩
 done:=by
  intro X hP hw hK hc i pins s σ H E I hf st hg;subst hP hw hK;obtain⟨xs,hq,hx⟩:=hg;obtain⟨its,rv,p,hz⟩:=I.list hq;obtain⟨f0,f1,f2,f3,f4,f5⟩:=hf it (by simp);have hl:=rv.length;exact wpAny_pyNext_list_end (I.ok.hd hc) st p.isList (by simp;omega) λh' eb=>⟨rfl,I.turned (t':=s.toks) (λb o hb e=>eb b o hb e) f0 f1 f3 f4 f5⟩
 self:=λ_ _ _ _ _ st h=>wpAny_pyIter_listiter st h
theorem turn_tuple {P:Program}{w:World}{K:PySem.W.Frag}{tg:Expr}(a it:Addr):Turn P w K tg (Itt K a) [it] it (λi h=>h.IsTupleIter it a i) where
 mem:=by simp
 obj:=λi h st b hb=>by
  have e:b=it:=by simpa using hb
  subst e;obtain⟨o,e,c,d⟩:=st;exact⟨o,e,λv z=>by rw[d]at z;cases z⟩
 keep:=λi h h' st k=>st.at λo e=>k it (by simp) o e
 item:=by
  intro X hP hw hK hc i pins s σ H E I hf st hg;subst hP hw hK;obtain⟨xs,x,hq,hx⟩:=hg;obtain⟨its,rv,p,hz⟩:=I.tuple hq;obtain⟨u,hu,ru⟩:=rv.get hx;obtain⟨f0,f1,f2,f3,f4,f5⟩:=hf it (by simp);refine wpAny_pyNext_tuple_item st (show s.heap.IsTuple a its.toArray from p) (x:=u) (by simpa using hu) λh' st' sb=>?_
  have I1:Inv X pins σ H { s with heap:=h' }:=I.turned (t':=s.toks) (λb o hb e=>(sb.2 b hb).trans e) f0 f1 f3 f4 f5;obtain⟨o,e,c,d⟩:=id st';exact⟨u,rfl,go_of (s:={ s with heap:=h' }) e c d (by decide) ⟨x,H,I1,ru,⟨rfl,λys hy=>by rw[I.tuple_inj hy hq];exact hx⟩,st',λb hb=>(hf b hb).1⟩⟩
 done:=by
  intro X hP hw hK hc i pins s σ H E I hf st hg;subst hP hw hK;obtain⟨xs,hq,hx⟩:=hg;obtain⟨its,rv,p,hz⟩:=I.tuple hq;obtain⟨f0,f1,f2,f3,f4,f5⟩:=hf it (by simp);have hl:=rv.length;exact wpAny_pyNext_tuple_end (I.ok.hd hc) st (show s.heap.IsTuple a its.toArray from p) (by simp;omega) λh' eb=>⟨rfl,I.turned (t':=s.toks) (λb o hb e=>eb b o hb e) f0 f1 f3 f4 f5⟩
 self:=λ_ _ _ _ _ st h=>wpAny_pyIter_tupleiter st h
theorem turn_range {P:Program}{w:World}{K:PySem.W.Frag}{tg:Expr}(it:Addr)(lo:Int)(n:Nat):Turn P w K tg (Itr lo n) [it] it (λi h=>IsRangeIter h it (lo+ (i:Nat)* 1) ((n:Int) - (i:Nat)) 1) where
 mem:=by simp
 obj:=λi h st b hb=>by
  have e:b=it:=by simpa using hb
  subst e
  exact⟨_,st,λv z=>by
   have z':Data.fields _=Data.cell v:=z;cases z'⟩
 keep:=λi h h' st k=>k it (by simp) _ st
 item:=by
  intro X hP hw hK hc i pins s σ H E I hf st hg;subst hP hw hK;obtain⟨f0,f1,f2,f3,f4,f5⟩:=hf it (by simp);have W:=Walks.range (prog:=X.prog) (w:=X.w) (I.ok.hd hc) it lo 1 n;refine W.item i s _ _ hg st λv h' tk hv st' kk=>?_
  obtain⟨t,rfl⟩:=hv;have I1:Inv X pins σ H { s with heap:=h',toks:=tk }:=I.turned (λb o hb e=>kk b o (by simpa using hb) e) f0 f1 f3 f4 f5;refine⟨_,rfl,go_of (s:={ s with heap:=h',toks:=tk }) (n:="range_iterator") st' rfl rfl (by decide) ⟨.int (lo+ i),H,I1,⟨t,?_⟩,⟨rfl,rfl⟩,st',λb hb=>(hf b hb).1⟩⟩;rw[Int.mul_one]
 done:=by
  intro X hP hw hK hc i pins s σ H E I hf st hg;subst hP hw hK;obtain⟨f0,f1,f2,f3,f4,f5⟩:=hf it (by simp);exact wpAny_pyNext_range_end (I.ok.hd hc) st (by have:n<=i:=hg;omega) λh' eb=>⟨rfl,I.turned (t':=s.toks) (λb o hb e=>eb b o hb e) f0 f1 f3 f4 f5⟩
 self:=λ_ _ _ _ _ st h=>wpAny_pyIter_rangeiter st h
end L2
namespace L2
open PySem PySem.Spec PyProof.Rows
section
variable {X:Cx} {tg:Expr}
def iList (K:PySem.W.Frag)(tl:TE):TI:=λ σ H R=>tl σ H λx H1=>∃a,x=.ref a/\(∃xs,SqL K H1 a xs)/\R (Itl K a) H1
def iTup (K:PySem.W.Frag)(tl:TE):TI:=λ σ H R=>tl σ H λx H1=>∃a,x=.ref a/\(∃xs,SqT K H1 a xs)/\R (Itt K a) H1
theorem pi_list {l:Expr}{tl:TE}(hl:PE X l tl):PI X tg l (iList X.K tl):=by
 intro pins s σ H R I h;refine thn (hl pins s σ H _ I h) λv s1 ⟨x,H1,I1,r1,q1⟩=>?_
 obtain⟨a,e,⟨xs,hq⟩,q⟩:=q1;subst e;cases r1;obtain⟨its,rv,p,hz⟩:=I1.list hq;refine wpAny_pyIter_list p.isList ?_;refine⟨s1.heap.objs.size,[s1.heap.objs.size],_,_,H1,rfl,I1.kept (t':=s1.toks) λb o e=>Heap.get?_push_of_some _ e,turn_list a _,⟨_,Heap.get?_push_size _ rfl,rfl,rfl⟩,λb hb=>?_,q⟩;have e:b=s1.heap.objs.size:=by simpa using hb
 subst e;exact I1.fpOk (Nat.le_refl _) (I1.hok.fresh (Nat.le_refl _))
theorem pi_tup {l:Expr}{tl:TE}(hl:PE X l tl):PI X tg l (iTup X.K tl):=by
 intro pins s σ H R I h;refine thn (hl pins s σ H _ I h) λv s1 ⟨x,H1,I1,r1,q1⟩=>?_
 obtain⟨a,e,⟨xs,hq⟩,q⟩:=q1;subst e;cases r1;obtain⟨its,rv,p,hz⟩:=I1.tuple hq;refine wpAny_pyIter_tuple (show s1.heap.IsTuple a its.toArray from p) ?_;refine⟨s1.heap.objs.size,[s1.heap.objs.size],_,_,H1,rfl,I1.kept (t':=s1.toks) λb o e=>Heap.get?_push_of_some _ e,turn_tuple a _,⟨_,Heap.get?_push_size _ rfl,rfl,rfl⟩,λb hb=>?_,q⟩;have e:b=s1.heap.objs.size:=by simpa using hb
 subst e;exact I1.fpOk (Nat.le_refl _) (I1.hok.fresh (Nat.le_refl _))
theorem range_it {pins:List (Addr×Obj)}{σ:St}{H:Hp}{s:Shared}{R:It->Hp->Prop}{E:Value->Shared->Prop}{lo hi:Int}{t u v:Tok}{tk:Nat}(I:Inv X pins σ H s)(h1: -(2 ^ 62)<=lo)(h2:lo<2 ^ 62)(h3: -(2 ^ 62)<=hi)(h4:hi<2 ^ 62)
 (q:R (Itr lo (hi - lo).toNat) H):wpAny (model X.prog X.w) X.A (pyIter (.ref s.heap.objs.size)) (PIE X pins σ tg R) E { s with heap:=s.heap.push { cls:=.type "range",data:=.fields #[.int lo t,.int hi u,.int 1 v] },toks:=tk }:=by
 refine wpAny_pyIter_range (IsRange.new ..) (small_one h1 h2 h3 h4) ?_;have I1:Inv X pins σ H { s with heap:=s.heap.push { cls:=.type "range",data:=.fields #[.int lo t,.int hi u,.int 1 v] },toks:=tk }:=I.kept λb o e=>Heap.get?_push_of_some _ e
 refine⟨(s.heap.push { cls:=.type "range",data:=.fields #[.int lo t,.int hi u,.int 1 v] }).objs.size,[(s.heap.push { cls:=.type "range",data:=.fields #[.int lo t,.int hi u,.int 1 v] }).objs.size],_,_,H,rfl,
  I1.kept (t':=tk) λb o e=>Heap.get?_push_of_some _ e,turn_range _ lo (hi - lo).toNat,?_,λb hb=>?_,q⟩
 ·have e1:lo+ ((0:Nat):Int)* 1=lo:=by simp
  have e2:(((hi - lo).toNat:Nat):Int) - ((0:Nat):Int)=Builtin.Range.rangeSize lo hi 1:=by rw[rangeSize_one];split <;> omega
  show IsRangeIter _ _ (lo+ ((0:Nat):Int)* 1) ((((hi - lo).toNat:Nat):Int) - ((0:Nat):Int)) 1;rw[e1,e2];exact Heap.get?_push_size _ rfl
 ·have e:b=(s.heap.push { cls:=.type "range",data:=.fields #[.int lo t,.int hi u,.int 1 v] }).objs.size:=by simpa using hb
  subst e;exact I1.fpOk (Nat.le_refl _) (I1.hok.fresh (Nat.le_refl _))
def iRng1 (ta:TA):TI:=λ σ H R=>ta σ H λvs H1=>∃j:Int,vs=[.int j]/\-(2 ^ 62)<=j/\j<2 ^ 62/\R (Itr 0 j.toNat) H1
def iRng2 (ta:TA):TI:=λ σ H R=>ta σ H λvs H1=>∃i j:Int,vs=[.int i,.int j]/\(-(2 ^ 62)<=i/\i<2 ^ 62/\-(2 ^ 62)<=j/\j<2 ^ 62)/\R (Itr i (j - i).toNat) H1
theorem pi_range1 {a:Expr}{ta:TA}{p pos:Pos}(hg:Gl X "range")(hm:X.mg "range"=none)(ha:PA X [a] ta)(hs:starEach [a] X.env=[(false,eval a X.env)]:=by rfl):PI X tg (.Call (.Name "range" p) [a] [] pos) (iRng1 ta):=by
 intro pins s σ H R I h;refine Call_ (ld_blt I hg hm boot_range (PyProof.Rows.callWith_type1 (thn (ha pos pins s σ H _ I h) λus s1 ⟨vs,H1,I1,r1,q1⟩=>?_) hs rfl));obtain⟨j,e,q1,q2,q⟩:=q1;subst e
 cases r1 with
 |cons r rr=>
  cases rr;obtain⟨t,rfl⟩:=r;exact call_range_1 (range_it I1 (by omega) (by omega) q1 q2 (by simpa using q))
theorem pi_range2 {a b:Expr}{ta:TA}{p pos:Pos}(hg:Gl X "range")(hm:X.mg "range"=none)(ha:PA X [a,b] ta)(hs:starEach [a,b] X.env=[(false,eval a X.env),(false,eval b X.env)]:=by rfl)(hs2:starEach [b] X.env=[(false,eval b X.env)]:=by rfl):
 PI X tg (.Call (.Name "range" p) [a,b] [] pos) (iRng2 ta):=by
 intro pins s σ H R I h;refine Call_ (ld_blt I hg hm boot_range (PyProof.Rows.callWith_type1 (thn (ha pos pins s σ H _ I h) λus s1 ⟨vs,H1,I1,r1,q1⟩=>?_) (by rw[hs,hs2]) (by rw[hs2];rfl)));obtain⟨i,j,e,⟨q1,q2,q3,q4⟩,q⟩:=q1;subst e
 cases r1 with
 |cons r rr=>
  cases rr with
  |cons r' rr=>
   cases rr;obtain⟨t,rfl⟩:=r;obtain⟨t',rfl⟩:=r';exact call_range_2 (range_it I1 q1 q2 q3 q4 q)
def tFor (wi:TI)(g:TG)(tb:TS):TS:=λD σ H=>wi σ H λJ H1=>∃W:Nat->Nat->St->Hp->Prop,(∃m,W 0 m σ H1)/\∀i m σ H,W i m σ H->
 (J.stop i H/\D.nx σ H)\/(J.go i H/\∃N:St->Hp->Prop,(∀ σ' H',N σ' H'->∃m',m'<m/\W (i+ 1) m' σ' H')/\∀x H',J.yld i H x H'->g x σ H' λ σ2 H2=>tb { D with nx:=N,ct:=N,bk:=D.nx } σ2 H2)
def pinsAt (fp:List Addr)(h:Heap):List (Addr×Obj):=fp.filterMap λb=>(h.get? b).map λo=>(b,o)
theorem mem_pinsAt {fp:List Addr}{h:Heap}{b:Addr}{o:Obj}(hb:b∈fp)(e:h.get? b=some o):(b,o)∈pinsAt fp h:=List.mem_filterMap.mpr ⟨b,hb,by rw[e];rfl⟩
theorem of_pinsAt {fp:List Addr}{h:Heap}{p:Addr×Obj}(hp:p∈pinsAt fp h):p.1∈fp/\h.get? p.1=some p.2:=by
 obtain⟨b,hb,e⟩:=List.mem_filterMap.mp hp
 cases q:h.get? b with
 |none=>rw[q]at e;cases e
 |some o=>
  rw[q]at e;have e':(b,o)=p:=Option.some.inj e;subst e';exact⟨hb,q⟩
theorem Inv.pinned {pins:List (Addr×Obj)}{σ:St}{H:Hp}{s:Shared}{fp:List Addr}(I:Inv X pins σ H s)(hf:∀b∈fp,FpOk X pins H b)(ho:∀b∈fp,∃o,s.heap.get? b=some o/\∀v,o.data≠.cell v):Inv X (pins++pinsAt fp s.heap) σ H s:=
 I.pins_of λp hp=>(List.mem_append.mp hp).elim (λz=>I.pin p (List.mem_append_right _ z)) λz=>by
  obtain⟨hb,e⟩:=of_pinsAt z;obtain⟨f0,f1,f2,_⟩:=hf p.1 hb;obtain⟨o,e',d⟩:=ho p.1 hb;rw[e]at e';cases e';exact⟨e,f0,f1,f2,d⟩
theorem Inv.unpinned {pins pl:List (Addr×Obj)}{σ:St}{H:Hp}{s:Shared}(I:Inv X (pins++pl) σ H s):Inv X pins σ H s:=I.pins_of λp hp=>I.pin p (List.mem_append_right _ (List.mem_append_left _ hp))
theorem ps_for {iter:Expr}{body:List Stmt}{wi:TI}{g:TG}{tb:TS}{pos:Pos}(hp:PassesOwn (model X.prog X.w) X.A X.env X.xe)(hc:X.calm=true)(hi:PI X tg iter wi)(hg:PG X tg g)(hb:PSs X body tb)
 (hs:∀x,foldedSetIterable iter X.env x=pure x:=by intro _;rfl):PS X (.For tg iter body [] pos) (tFor wi g tb):=by
 intro pins s σ H D I h;refine wpAny_For (thn (hi pins s σ H _ I h) λv s1 h1=>thn h1 λitv s2 h2=>?_) hs;obtain⟨it,fp,tn,J,H2,e,I2,T,st2,f2,W,⟨m0,w0⟩,turn⟩:=h2;subst e
 -- what stays true of the iterator's objects through the loop
 have stat:∀{H':Hp},(∀b∈fp,H' b=none)->∀b∈fp,FpOk X pins H' b:=λhn b hb=>⟨hn b hb,(f2 b hb).2⟩
 refine codeAny_forLoop_any (λn s'=>∃i σ' H',Inv X pins σ' H' s'/\tn i s'.heap/\(∀b∈fp,H' b=none)/\W i n σ' H') ?_ m0 ⟨0,σ,H2,I2,st2,λb hb=>(f2 b hb).1,w0⟩;rintro n s3 ⟨i,σ3,H3,I3,st3,fr3,w3⟩;rcases turn i n σ3 H3 w3 with ⟨stop,qn⟩|⟨go,N,hN,step⟩
 ·refine wpAny_passesOwn hp (thn (T.done X rfl rfl rfl hc i pins s3 σ3 H3 X.xe I3 (stat fr3) st3 stop) λr s4 ⟨hr,I4⟩=>?_);subst hr;exact wpAny_execs_nil ⟨σ3,H3,I4,qn⟩
 ·refine wpAny_passesOwn hp (thn (T.item X rfl rfl rfl hc i pins s3 σ3 H3 X.xe I3 (stat fr3) st3 go) λr s4 ⟨u,hr,h4⟩=>?_);subst hr;refine wpAny_passesOwn hp (thn h4 λ_ s5 ⟨x,H5,I5,r5,y5,st5,fr5⟩=>?_);have I5':=I5.pinned (stat fr5) (T.obj _ _ st5);refine wpAny_passesOwn hp (thn (hg _ s5 σ3 H5 x u _ I5' r5 (step x H5 y5)) λ_ s6 ⟨σ6,H6,I6,q6⟩=>?_);refine wpAny_passesOwn hp (thn (hb _ s6 σ6 H6 _ I6 q6) λf s7 q7=>?_)
  have again:∀{σ7:St} {H7:Hp},Inv X (pins++pinsAt fp s5.heap) σ7 H7 s7->N σ7 H7->∃m,m<n/\∃i σ' H',Inv X pins σ' H' s7/\tn i s7.heap/\(∀b∈fp,H' b=none)/\W i m σ' H':=λ{σ7 H7} I7 n7=>by
   obtain⟨m',hm,w7⟩:=hN σ7 H7 n7;refine⟨m',hm,i+ 1,σ7,H7,I7.unpinned,T.keep _ _ _ st5 λb hb o e=>(I7.pin (b,o) (List.mem_append_right _ (List.mem_append_right _ (mem_pinsAt hb e)))).1,λb hb=>?_,w7⟩;obtain⟨o,e,d⟩:=T.obj _ _ st5 b hb;exact(I7.pin (b,o) (List.mem_append_right _ (List.mem_append_right _ (mem_pinsAt hb e)))).2.1
  cases f with
  |next=>obtain⟨σ7,H7,I7,n7⟩:=q7;exact again I7 n7
  |cont=>obtain⟨σ7,H7,I7,n7⟩:=q7;exact again I7 n7
  |brk=>obtain⟨σ7,H7,I7,q7⟩:=q7;exact⟨σ7,H7,I7.unpinned,q7⟩
  |ret v=>obtain⟨x7,σ7,H7,I7,r7,q7⟩:=q7;exact⟨x7,σ7,H7,I7.unpinned,r7,q7⟩
end
theorem for_list {K:PySem.W.Frag}{a:Addr}{xs:List V}{g:TG}{tb:TS}{D:Ends}{σ:St}{H:Hp}(Pv:Nat->St->Hp->Prop)(h0:Pv 0 σ H)(hl:∀i σ H,i<=xs.length->Pv i σ H->SqL K H a xs)
 (hs:∀i x σ H,xs[i]?=some x->Pv i σ H->g x σ H λ σ2 H2=>tb { D with nx:=Pv (i+ 1),ct:=Pv (i+ 1),bk:=D.nx } σ2 H2) (hd:∀ σ H,Pv xs.length σ H->D.nx σ H):
 ∃W:Nat->Nat->St->Hp->Prop,(∃m,W 0 m σ H)/\∀i m σ H,W i m σ H->
  ((Itl K a).stop i H/\D.nx σ H)\/((Itl K a).go i H/\∃N:St->Hp->Prop,(∀ σ' H',N σ' H'->∃m',m'<m/\W (i+ 1) m' σ' H')/\∀x H',(Itl K a).yld i H x H'->g x σ H' λ σ2 H2=>tb { D with nx:=N,ct:=N,bk:=D.nx } σ2 H2):=by
 refine⟨λi m σ H=>m=xs.length - i/\i<=xs.length/\Pv i σ H,⟨xs.length,by simp,Nat.zero_le _,h0⟩,?_⟩;rintro i m σ H ⟨rfl,hi,p⟩;have q:=hl i σ H hi p;by_cases hlt:i<xs.length
 ·refine .inr ⟨⟨xs,xs[i],q,by simp[hlt]⟩,Pv (i+ 1),λ σ' H' p'=>⟨xs.length - (i+ 1),by omega,rfl,hlt,p'⟩,λx H' y=>?_⟩;obtain⟨e,y⟩:=y;subst e;exact hs i x σ _ (y xs q) p
 ·have e:i=xs.length:=by omega
  subst e;exact .inl ⟨⟨xs,q,Nat.le_refl _⟩,hd σ H p⟩
theorem for_tup {K:PySem.W.Frag}{a:Addr}{xs:List V}{g:TG}{tb:TS}{D:Ends}{σ:St}{H:Hp}(Pv:Nat->St->Hp->Prop)(h0:Pv 0 σ H)(hl:∀i σ H,i<=xs.length->Pv i σ H->SqT K H a xs)
 (hs:∀i x σ H,xs[i]?=some x->Pv i σ H->g x σ H λ σ2 H2=>tb { D with nx:=Pv (i+ 1),ct:=Pv (i+ 1),bk:=D.nx } σ2 H2) (hd:∀ σ H,Pv xs.length σ H->D.nx σ H):
 ∃W:Nat->Nat->St->Hp->Prop,(∃m,W 0 m σ H)/\∀i m σ H,W i m σ H->
  ((Itt K a).stop i H/\D.nx σ H)\/((Itt K a).go i H/\∃N:St->Hp->Prop,(∀ σ' H',N σ' H'->∃m',m'<m/\W (i+ 1) m' σ' H')/\∀x H',(Itt K a).yld i H x H'->g x σ H' λ σ2 H2=>tb { D with nx:=N,ct:=N,bk:=D.nx } σ2 H2):=by
 refine⟨λi m σ H=>m=xs.length - i/\i<=xs.length/\Pv i σ H,⟨xs.length,by simp,Nat.zero_le _,h0⟩,?_⟩;rintro i m σ H ⟨rfl,hi,p⟩;have q:=hl i σ H hi p;by_cases hlt:i<xs.length
 ·refine .inr ⟨⟨xs,xs[i],q,by simp[hlt]⟩,Pv (i+ 1),λ σ' H' p'=>⟨xs.length - (i+ 1),by omega,rfl,hlt,p'⟩,λx H' y=>?_⟩;obtain⟨e,y⟩:=y;subst e;exact hs i x σ _ (y xs q) p
 ·have e:i=xs.length:=by omega
  subst e;exact .inl ⟨⟨xs,q,Nat.le_refl _⟩,hd σ H p⟩
theorem for_range {lo:Int}{n:Nat}{g:TG}{tb:TS}{D:Ends}{σ:St}{H:Hp}(Pv:Nat->St->Hp->Prop)(h0:Pv 0 σ H)
 (hs:∀i σ H,i<n->Pv i σ H->g (.int (lo+ i)) σ H λ σ2 H2=>tb { D with nx:=Pv (i+ 1),ct:=Pv (i+ 1),bk:=D.nx } σ2 H2) (hd:∀ σ H,Pv n σ H->D.nx σ H):
 ∃W:Nat->Nat->St->Hp->Prop,(∃m,W 0 m σ H)/\∀i m σ H,W i m σ H->
  ((Itr lo n).stop i H/\D.nx σ H)\/((Itr lo n).go i H/\∃N:St->Hp->Prop,(∀ σ' H',N σ' H'->∃m',m'<m/\W (i+ 1) m' σ' H')/\∀x H',(Itr lo n).yld i H x H'->g x σ H' λ σ2 H2=>tb { D with nx:=N,ct:=N,bk:=D.nx } σ2 H2):=by
 refine⟨λi m σ H=>m=n - i/\i<=n/\Pv i σ H,⟨n,by simp,Nat.zero_le _,h0⟩,?_⟩;rintro i m σ H ⟨rfl,hi,p⟩;by_cases hlt:i<n
 ·refine .inr ⟨hlt,Pv (i+ 1),λ σ' H' p'=>⟨n - (i+ 1),by omega,rfl,hlt,p'⟩,λx H' y=>?_⟩;obtain⟨e,y⟩:=y;subst e y;exact hs i σ _ hlt p
 ·have e:i=n:=by omega
  subst e;exact .inl ⟨Nat.le_refl _,hd σ H p⟩
end L2
namespace L2
open PySem PySem.Spec PyProof.Rows
abbrev R2:=V->V->Hp->VK->Prop
def OpR (X:Cx)(f:Value->Value->Sem Value)(r:R2):Prop:=
 ∀(pins:List (Addr×Obj)) (s:Shared) (σ:St) (H:Hp) (x y:V) (v u:Value) (Q:VK),Inv X pins σ H s->RelV x v->RelV y u->r x y H Q->
  wpAny (model X.prog X.w) X.A (f v u) (EP X pins σ Q) X.xe s
def UnR (X:Cx)(f:Value->Sem Value)(r:V->Hp->VK->Prop):Prop:=
 ∀(pins:List (Addr×Obj)) (s:Shared) (σ:St) (H:Hp) (x:V) (v:Value) (Q:VK),Inv X pins σ H s->RelV x v->r x H Q->
  wpAny (model X.prog X.w) X.A (f v) (EP X pins σ Q) X.xe s
def CallR (X:Cx)(f:Value)(r:List V->Hp->VK->Prop):Prop:=
 ∀(pins:List (Addr×Obj)) (s:Shared) (σ:St) (H:Hp) (xs:List V) (us:List Value) (Q:VK),Inv X pins σ H s->Vals xs us->r xs H Q->
  wpAny (model X.prog X.w) X.A (call f us) (EP X pins σ Q) X.xe s
def TruR (X:Cx)(r:V->Hp->(Bool->Hp->Prop)->Prop):Prop:=
 ∀(pins:List (Addr×Obj)) (s:Shared) (σ:St) (H:Hp) (x:V) (v:Value) (Q:Bool->Hp->Prop),Inv X pins σ H s->RelV x v->r x H Q->
  wpAny (model X.prog X.w) X.A (truthy v) (TP X pins σ Q) X.xe s
def tOp (r:R2)(ta tb:TE):TE:=λ σ H Q=>ta σ H λx H1=>tb σ H1 λy H2=>r x y H2 Q
def tUn (r:V->Hp->VK->Prop)(ta:TE):TE:=λ σ H Q=>ta σ H λx H1=>r x H1 Q
def rI (C:Int->Int->Prop)(g:Int->Int->V):R2:=λx y H Q=>∃i j,x=.int i/\y=.int j/\C i j/\Q (g i j) H
def rI0 (g:Int->Int->V):R2:=λx y H Q=>∃i j,x=.int i/\y=.int j/\Q (g i j) H
def rU (g:Int->V):V->Hp->VK->Prop:=λx H Q=>∃i,x=.int i/\Q (g i) H
section
variable {X:Cx} {a b c:Expr} {ta tb tc:TE} {pos:Pos}
theorem binT (ha:PE X a ta)(hb:PE X b tb){pins:List (Addr×Obj)}{s:Shared}{σ:St}{H:Hp}{R:V->V->Hp->Prop}(I:Inv X pins σ H s)
 (h:ta σ H λx H1=>tb σ H1 λy H2=>R x y H2) {Q:Value->Shared->Prop} {f:Value->Value->Sem Value}
 (hf:∀v u s2 x y H2,Inv X pins σ H2 s2->RelV x v->RelV y u->R x y H2->wpAny (model X.prog X.w) X.A (f v u) Q X.xe s2):
 wpAny (model X.prog X.w) X.A (eval a X.env) (λv s₁=>wpAny (model X.prog X.w) X.A (eval b X.env) (λu s₂=>wpAny (model X.prog X.w) X.A (f v u) Q X.xe s₂) X.xe s₁) X.xe s:=by
 refine thn (ha pins s σ H _ I h) λv s1 ⟨x,H1,I1,r1,q1⟩=>?_
 refine thn (hb pins s1 σ H1 _ I1 q1) λu s2 ⟨y,H2,I2,r2,q2⟩=>?_
 exact hf v u s2 x y H2 I2 r1 r2 q2
theorem pe_op {op:Operator}{r:R2}(ho:OpR X (binaryOp op) r)(ha:PE X a ta)(hb:PE X b tb):PE X (.BinOp a op b pos) (tOp r ta tb):=by
 intro pins s σ H Q I h;exact wpAny_BinOp (binT ha hb I h λv u s2 x y H2 I2 rx ry q=>ho pins s2 σ H2 x y v u Q I2 rx ry q)
theorem pe_un {op:UnaryOp}{r:V->Hp->VK->Prop}(ho:UnR X (unaryOp op) r)(ha:PE X a ta):PE X (.UnaryOp op a pos) (tUn r ta):=by
 intro pins s σ H Q I h;exact UnaryOp_ (thn (ha pins s σ H _ I h) λv s1 ⟨x,H1,I1,r1,q1⟩=>ho pins s1 σ H1 x v Q I1 r1 q1)
theorem opI {f:Value->Value->Sem Value}{C:Int->Int->Prop}{g:Int->Int->Int}
 (rule:∀(i j:Int) (t u:Tok) (s:Shared) (Q:Value->Shared->Prop) (E:Value->Shared->Prop),C i j->Q (.int (g i j) s.toks) { s with toks:=s.toks+ 1 }->wpAny (model X.prog X.w) X.A (f (.int i t) (.int j u)) Q E s):
 OpR X f (rI C λi j=>.int (g i j)):=by
 intro pins s σ H x y v u Q I rx ry h;obtain⟨i,j,rfl,rfl,hc,q⟩:=h;obtain⟨t,rfl⟩:=rx;obtain⟨t',rfl⟩:=ry;exact rule i j t t' s _ _ hc ⟨.int (g i j),H,I.tok _,⟨_,rfl⟩,q⟩
theorem opI0 {f:Value->Value->Sem Value}{g:Int->Int->Int}
 (rule:∀(i j:Int) (t u:Tok) (s:Shared) (Q:Value->Shared->Prop) (E:Value->Shared->Prop),Q (.int (g i j) s.toks) { s with toks:=s.toks+ 1 }->wpAny (model X.prog X.w) X.A (f (.int i t) (.int j u)) Q E s):
 OpR X f (rI0 λi j=>.int (g i j)):=by
 intro pins s σ H x y v u Q I rx ry h;obtain⟨i,j,rfl,rfl,q⟩:=h;obtain⟨t,rfl⟩:=rx;obtain⟨t',rfl⟩:=ry;exact rule i j t t' s _ _ ⟨.int (g i j),H,I.tok _,⟨_,rfl⟩,q⟩
theorem opB0 {f:Value->Value->Sem Value}{g:Int->Int->Bool}
 (rule:∀(i j:Int) (t u:Tok) (s:Shared) (Q:Value->Shared->Prop) (E:Value->Shared->Prop),Q (.bool (g i j)) s->wpAny (model X.prog X.w) X.A (f (.int i t) (.int j u)) Q E s):
 OpR X f (rI0 λi j=>.bl (g i j)):=by
 intro pins s σ H x y v u Q I rx ry h;obtain⟨i,j,rfl,rfl,q⟩:=h;obtain⟨t,rfl⟩:=rx;obtain⟨t',rfl⟩:=ry;exact rule i j t t' s _ _ ⟨.bl (g i j),H,I,rfl,q⟩
def CDiv (i j:Int):Prop:=0<j/\j<1073741824
def CMul (i j:Int):Prop:=(-(2 ^ 64)<i/\i<2 ^ 64)\/(-(2 ^ 64)<j/\j<2 ^ 64)
theorem CMul.ok {i j:Int}(h:CMul i j):IntMulOk i j:=by
 rcases h with ⟨h1,h2⟩|⟨h1,h2⟩
 ·exact .of_left (intBits_le_64 h1 h2)
 ·exact .of_right (intBits_le_64 h1 h2)
theorem op_add:OpR X (binaryOp .Add) (rI0 λi j=>.int (i+ j)):=opI0 λ_ _ _ _ _ _ _ q=>add_int q
theorem op_sub:OpR X (binaryOp .Sub) (rI0 λi j=>.int (i - j)):=opI0 λ_ _ _ _ _ _ _ q=>sub_int q
theorem op_mul:OpR X (binaryOp .Mult) (rI CMul λi j=>.int (i* j)):=opI λ_ _ _ _ _ _ _ hc q=>mul_int q hc.ok
theorem op_fdiv:OpR X (binaryOp .FloorDiv) (rI CDiv λi j=>.int (i / j)):=opI λi j _ _ _ _ _ hc q=>by
 have h1:(0:Int)<j:=hc.1;have h2:j<1073741824:=hc.2;exact floordiv_int (by omega) (by rw[Int.fdiv_eq_ediv_of_nonneg i (by omega)];exact q) (.inl (PyProof.noPylong_small (by omega)))
theorem op_mod:OpR X (binaryOp .Mod) (rI (λ_ j=>0<j) λi j=>.int (i % j)):=opI λi j _ _ _ _ _ hc q=>by
 have h1:(0:Int)<j:=hc;exact mod_int' (by omega) (by rw[Int.fmod_eq_emod_of_nonneg i (by omega)];exact q)
theorem unI {f:Value->Sem Value}{g:Int->Int}
 (rule:∀(i:Int) (t:Tok) (s:Shared) (Q:Value->Shared->Prop) (E:Value->Shared->Prop),Q (.int (g i) s.toks) { s with toks:=s.toks+ 1 }->wpAny (model X.prog X.w) X.A (f (.int i t)) Q E s):
 UnR X f (rU λi=>.int (g i)):=by
 intro pins s σ H x v Q I rx h;obtain⟨i,rfl,q⟩:=h;obtain⟨t,rfl⟩:=rx;exact rule i t s _ _ ⟨.int (g i),H,I.tok _,⟨_,rfl⟩,q⟩
theorem un_neg:UnR X (unaryOp .USub) (rU λi=>.int (-i)):=unI λ_ _ _ _ _ q=>neg_int q
end
def scal:V->V->Bool
 |.non,.non=>true|.non,.int _=>true|.int _,.non=>true|.non,.bl _=>true|.bl _,.non=>true|.non,.str _=>true|.str _,.non=>true
 |.int _,.int _=>true|.bl _,.bl _=>true|.str _,.str _=>true|.byt _,.byt _=>true
 |.int _,.str _=>true|.str _,.int _=>true|.bl _,.str _=>true|.str _,.bl _=>true
 |_,_=>false
def rEq:R2:=λx y H Q=>scal x y=true/\Q (.bl (decide (x=y))) H
def rNe:R2:=λx y H Q=>scal x y=true/\Q (.bl (!decide (x=y))) H
theorem dec_int {i j:Int}:decide (V.int i=V.int j)=(i==j):=by
 rw[Bool.eq_iff_iff];simp
theorem dec_bl {i j:Bool}:decide (V.bl i=V.bl j)=(i==j):=by
 rw[Bool.eq_iff_iff];simp
theorem dec_str {i j:Str}:decide (V.str i=V.str j)=(i==j):=by
 rw[Bool.eq_iff_iff];simp
theorem dec_byt {i j:Array UInt8}:decide (V.byt i=V.byt j)=(i.toList==j.toList):=by
 rw[Bool.eq_iff_iff];cases i;cases j;simp
section
variable {X:Cx} {a b c:Expr} {ta tb tc:TE} {pos:Pos}
theorem fin_bl {pins:List (Addr×Obj)}{σ:St}{H:Hp}{s:Shared}{Q:VK}{k k':Bool}(I:Inv X pins σ H s)(q:Q (.bl k) H)(e:k=k'):EP X pins σ Q (.bool k') s:=by
 subst e;exact⟨.bl k,H,I,rfl,q⟩
theorem op_eq:OpR X (compareOp .Eq) rEq:=by
 intro pins s σ H x y v u Q I rx ry h;obtain⟨hs,q⟩:=h
 cases x with
 |non=>
  cases rx
  cases y with
  |non=>cases ry;exact PySem.EqNone.eq_none_none (fin_bl I q (by simp))
  |bl j=>cases ry;exact PySem.EqNone.eq_none_bool (fin_bl I q (by simp))
  |int j=>obtain⟨t',rfl⟩:=ry;exact PySem.EqNone.eq_none_int (fin_bl I q (by simp))
  |str j=>obtain⟨t',rfl⟩:=ry;exact PySem.EqNone.eq_none_str (fin_bl I q (by simp))
  |_=>exact absurd (show false=true from hs) Bool.false_ne_true
 |bl i=>
  cases rx
  cases y with
  |non=>cases ry;exact PySem.EqNone.eq_bool_none (fin_bl I q (by simp))
  |bl j=>cases ry;exact eq_bool (fin_bl I q dec_bl)
  |str j=>obtain⟨t',rfl⟩:=ry;exact PySem.EqMixed.eq_bool_str (fin_bl I q (by simp))
  |_=>exact absurd (show false=true from hs) Bool.false_ne_true
 |int i=>
  obtain⟨t,rfl⟩:=rx
  cases y with
  |non=>cases ry;exact PySem.EqNone.eq_int_none (fin_bl I q (by simp))
  |int j=>obtain⟨t',rfl⟩:=ry;exact eq_int (fin_bl I q dec_int)
  |str j=>obtain⟨t',rfl⟩:=ry;exact PySem.EqMixed.eq_int_str (fin_bl I q (by simp))
  |_=>exact absurd (show false=true from hs) Bool.false_ne_true
 |str i=>
  obtain⟨t,rfl⟩:=rx
  cases y with
  |non=>cases ry;exact PySem.EqNone.eq_str_none (fin_bl I q (by simp))
  |bl j=>cases ry;exact PySem.EqMixed.eq_str_bool (fin_bl I q (by simp))
  |int j=>obtain⟨t',rfl⟩:=ry;exact PySem.EqMixed.eq_str_int (fin_bl I q (by simp))
  |str j=>obtain⟨t',rfl⟩:=ry;exact eq_str (fin_bl I q dec_str)
  |_=>exact absurd (show false=true from hs) Bool.false_ne_true
 |byt i=>
  obtain⟨t,rfl⟩:=rx
  cases y with
  |byt j=>obtain⟨t',rfl⟩:=ry;exact PySem.W.eq_bytes (fin_bl I q dec_byt)
  |_=>exact absurd (show false=true from hs) Bool.false_ne_true
 |_=>cases y <;> exact absurd (show false=true from hs) Bool.false_ne_true
theorem op_ne:OpR X (compareOp .NotEq) rNe:=by
 intro pins s σ H x y v u Q I rx ry h;obtain⟨hs,q⟩:=h
 cases x with
 |non=>
  cases rx
  cases y with
  |non=>cases ry;exact PySem.EqNone.ne_none_none (fin_bl I q (by simp))
  |bl j=>cases ry;exact PySem.EqNone.ne_none_bool (fin_bl I q (by simp))
  |int j=>obtain⟨t',rfl⟩:=ry;exact PySem.EqNone.ne_none_int (fin_bl I q (by simp))
  |str j=>obtain⟨t',rfl⟩:=ry;exact PySem.EqNone.ne_none_str (fin_bl I q (by simp))
  |_=>exact absurd (show false=true from hs) Bool.false_ne_true
 |bl i=>
  cases rx
  cases y with
  |non=>cases ry;exact PySem.EqNone.ne_bool_none (fin_bl I q (by simp))
  |bl j=>cases ry;exact ne_bool (fin_bl I q (congrArg not dec_bl))
  |str j=>obtain⟨t',rfl⟩:=ry;exact PySem.EqMixed.ne_bool_str (fin_bl I q (by simp))
  |_=>exact absurd (show false=true from hs) Bool.false_ne_true
 |int i=>
  obtain⟨t,rfl⟩:=rx
  cases y with
  |non=>cases ry;exact PySem.EqNone.ne_int_none (fin_bl I q (by simp))
  |int j=>obtain⟨t',rfl⟩:=ry;exact ne_int (fin_bl I q (congrArg not dec_int))
  |str j=>obtain⟨t',rfl⟩:=ry;exact PySem.EqMixed.ne_int_str (fin_bl I q (by simp))
  |_=>exact absurd (show false=true from hs) Bool.false_ne_true
 |str i=>
  obtain⟨t,rfl⟩:=rx
  cases y with
  |non=>cases ry;exact PySem.EqNone.ne_str_none (fin_bl I q (by simp))
  |bl j=>cases ry;exact PySem.EqMixed.ne_str_bool (fin_bl I q (by simp))
  |int j=>obtain⟨t',rfl⟩:=ry;exact PySem.EqMixed.ne_str_int (fin_bl I q (by simp))
  |str j=>obtain⟨t',rfl⟩:=ry;exact ne_str (fin_bl I q (congrArg not dec_str))
  |_=>exact absurd (show false=true from hs) Bool.false_ne_true
 |byt i=>
  obtain⟨t,rfl⟩:=rx
  cases y with
  |byt j=>obtain⟨t',rfl⟩:=ry;exact PySem.W.ne_bytes (fin_bl I q (congrArg not dec_byt))
  |_=>exact absurd (show false=true from hs) Bool.false_ne_true
 |_=>cases y <;> exact absurd (show false=true from hs) Bool.false_ne_true
theorem op_lt:OpR X (compareOp .Lt) (rI0 λi j=>.bl (decide (i<j))):=opB0 λ_ _ _ _ _ _ _ q=>lt_int q
theorem op_gt:OpR X (compareOp .Gt) (rI0 λi j=>.bl (decide (j<i))):=opB0 λ_ _ _ _ _ _ _ q=>gt_int q
theorem op_isN:OpR X (compareOp .Is) (λx y H Q=>y=.non/\Q (.bl (decide (x=.non))) H):=by
 intro pins s σ H x y v u Q I rx ry h;obtain⟨rfl,q⟩:=h;cases ry;refine is_none_gen (fin_bl I q ?_)
 cases x <;> first
  |(cases rx;rfl)
  |(obtain⟨t,rfl⟩:=rx;rfl)
theorem op_notN:OpR X (compareOp .IsNot) (λx y H Q=>y=.non/\Q (.bl (!decide (x=.non))) H):=by
 intro pins s σ H x y v u Q I rx ry h;obtain⟨rfl,q⟩:=h;cases ry;refine isnot_none_gen (fin_bl I q ?_)
 cases x <;> first
  |(cases rx;rfl)
  |(obtain⟨t,rfl⟩:=rx;rfl)
theorem nomark (b:Expr){op:CmpOp}(h:op≠.In:=by decide)(h2:op≠.NotIn:=by decide):behindInMarks op b=false:=by
 have e1:(op==CmpOp.In)=false:=by cases op <;> first|rfl|exact absurd rfl h
 have e2:(op==CmpOp.NotIn)=false:=by cases op <;> first|rfl|exact absurd rfl h2
 cases b <;> simp[behindInMarks,e1,e2]
theorem pe_cmpR {op:CmpOp}{r:R2}(ho:OpR X (compareOp op) r)(ha:PE X a ta)(hb:PE X b tb)(hm:behindInMarks op b=false):PE X (.Compare a [op] [b] pos) (tOp r ta tb):=by
 intro pins s σ H Q I h;exact wpAny_Compare1 (binT ha hb I h λv u s2 x y H2 I2 rx ry q=>ho pins s2 σ H2 x y v u Q I2 rx ry q) hm
def tTest (t:TE):TT:=λ σ H Q=>t σ H λx H'=>∃k,x=.bl k/\Q k H'
theorem pt_cmpR {op:CmpOp}{r:R2}(ho:OpR X (compareOp op) r)(ha:PE X a ta)(hb:PE X b tb)(hm:behindInMarks op b=false):PT X (.Compare a [op] [b] pos) (tTest (tOp r ta tb)):=by
 intro pins s σ H Q I h
 refine wpAny_isTrue_Compare1 (thn (ha pins s σ H _ I h) λv s1 ⟨x,H1,I1,r1,q1⟩=>thn (hb pins s1 σ H1 _ I1 q1) λu s2 ⟨y,H2,I2,r2,q2⟩=>
  thn (ho pins s2 σ H2 x y v u _ I2 r1 r2 q2) λc s3 ⟨z,H3,I3,r3,k,e,q3⟩=>?_) hm
 subst e;cases r3;exact wpAny_truthy_bool ⟨H3,I3,q3⟩
def TruV (K:PySem.W.Frag)(x:V)(H:Hp)(k:Bool):Prop:=
 match x with
 |.non=>k=false
 |.bl b=>k=b
 |.int i=>k=(i !=0)
 |.str y=>y.length<=sizeLine/\k=((y.length:Int) !=0)
 |.byt y=>y.size<=sizeLine/\k=((y.size:Int) !=0)
 |.ref p=>(∃xs,SqL K H p xs/\k=!xs.isEmpty)\/(∃xs,SqT K H p xs/\k=!xs.isEmpty)\/∃kvs,H p=some (.dK kvs)/\k=!kvs.isEmpty
 |_=>False
theorem isEmpty_kv {κ:Type}{kvs:List (κ×V)}{vs:List (κ×Value)}(r:KV kvs vs):(!vs.isEmpty)=!kvs.isEmpty:=by
 cases r <;> rfl
theorem isEmpty_of {xs:List V}{its:List Value}(r:Vals xs its):(!its.toArray.isEmpty)=!xs.isEmpty:=by
 cases r <;> simp
theorem line63:(sizeLine:Nat)<2 ^ 63:=by rw[sizeLine_eq];decide
theorem tru_ok:TruR X (λx H Q=>∃k,TruV X.K x H k/\Q k H):=by
 intro pins s σ H x v Q I rx h;obtain⟨k,e,q⟩:=h;have hl:=line63;have hs:sizeLine=16777216:=sizeLine_eq
 cases x with
 |non=>
  cases rx;have e':k=false:=e;subst e';exact truthy_none ⟨H,I,q⟩
 |bl b=>
  cases rx;have e':k=b:=e;subst e';exact wpAny_truthy_bool ⟨H,I,q⟩
 |int i=>
  obtain⟨t,rfl⟩:=rx;have e':k=(i !=0):=e;subst e';exact PySem.P.truthy_int ⟨H,I,q⟩
 |str y=>
  obtain⟨t,rfl⟩:=rx;obtain⟨hy,e'⟩:y.length<=sizeLine/\k=((y.length:Int) !=0):=e;subst e';exact PySem.P.truthy_str (by omega) ⟨H,I.tok _,q⟩
 |byt y=>
  obtain⟨t,rfl⟩:=rx;obtain⟨hy,e'⟩:y.size<=sizeLine/\k=((y.size:Int) !=0):=e;subst e';exact PySem.W.truthy_bytes (by omega) ⟨H,I.tok _,q⟩
 |ref p=>
  cases rx;have e':(∃xs,SqL X.K H p xs/\k=!xs.isEmpty)\/(∃xs,SqT X.K H p xs/\k=!xs.isEmpty)\/∃kvs,H p=some (.dK kvs)/\k=!kvs.isEmpty:=e;rcases e' with ⟨xs,hx,e'⟩|⟨xs,hx,e'⟩|⟨kvs,hx,e'⟩
  ·subst e';obtain⟨its,r,pl,hz⟩:=I.list hx;have hlen:=r.length;exact wpAny_truthy_list pl.isList (by simp only[List.size_toArray];omega) ⟨H,I.tok _,by rw[isEmpty_of r];exact q⟩
  ·subst e';obtain⟨its,r,pl,hz⟩:=I.tuple hx;have hlen:=r.length;exact truthy_tuple pl (by simp only[List.size_toArray];omega) ⟨H,I.tok _,by rw[isEmpty_of r];exact q⟩
  ·subst e';obtain⟨hz,hS,vs,r,m⟩:kvs.length<=sizeLine/\(p==sysModules)=false/\∃vs,KV kvs vs/\s.heap.DictOf (mixKind X.prog X.w) p vs:=I.hok p _ hx;have hlen:kvs.length=vs.length:=Paired.length r;exact wpAny_truthy_dict hS m (by omega) ⟨H,I.tok _,by rw[isEmpty_kv r];exact q⟩
 |_=>exact(show False from e).elim
theorem pt_truth (ha:PE X a ta)(he:∀whole,isTrue a X.env whole=(do let v ←whole;standAt a.pos;holding [v] (truthy v))):
 PT X a (λ σ H Q=>ta σ H λx H'=>∃k,TruV X.K x H' k/\Q k H'):=by
 intro pins s σ H Q I h;exact isTrue_plain (thn (ha pins s σ H _ I h) λv s1 ⟨x,H1,I1,r1,q1⟩=>tru_ok pins s1 σ H1 x v Q I1 r1 q1) (he _)
theorem vals1 {x:V}{us:List Value}(r:Vals [x] us):∃u,us=[u]/\RelV x u:=by
 cases r with
 |cons r1 r2=>cases r2;exact⟨_,rfl,r1⟩
theorem vals2 {x y:V}{us:List Value}(r:Vals [x,y] us):∃u w',us=[u,w']/\RelV x u/\RelV y w':=by
 cases r with
 |cons r1 r2=>
  cases r2 with
  |cons r3 r4=>cases r4;exact⟨_,_,rfl,r1,r3⟩
theorem call_max2 (hc:X.calm=true):CallR X (.builtin "max") (λxs H Q=>∃i j,xs=[.int i,.int j]/\Q (.int (if j > i then j else i)) H):=by
 intro pins s σ H xs us Q I r h;obtain⟨i,j,rfl,q⟩:=h;obtain⟨u,w',rfl,⟨t,rfl⟩,⟨t',rfl⟩⟩:=vals2 r;refine max_two_ints (I.ok.hd hc) λh' tk k=>⟨_,H,I.kept k,?_,q⟩
 by_cases hj:j > i
 ·rw[if_pos hj,if_pos hj];exact⟨_,rfl⟩
 ·rw[if_neg hj,if_neg hj];exact⟨_,rfl⟩
theorem call_min2 (hc:X.calm=true):CallR X (.builtin "min") (λxs H Q=>∃i j,xs=[.int i,.int j]/\Q (.int (if j<i then j else i)) H):=by
 intro pins s σ H xs us Q I r h;obtain⟨i,j,rfl,q⟩:=h;obtain⟨u,w',rfl,⟨t,rfl⟩,⟨t',rfl⟩⟩:=vals2 r;refine min_two_ints (I.ok.hd hc) λh' tk k=>⟨_,H,I.kept k,?_,q⟩
 by_cases hj:j<i
 ·rw[if_pos hj,if_pos hj];exact⟨_,rfl⟩
 ·rw[if_neg hj,if_neg hj];exact⟨_,rfl⟩
end
end L2
namespace L2
open PySem PySem.Spec PyProof.Rows
structure ObjM (h:Heap) (x dx C:Addr) (mA:Str->Option Value):Prop where
 obj:h.get? x=some (PySem.W.instObj C dx)
 ns:h.Ns1 dx mA
 ne:dx≠x
theorem lookIn_ns {h:Heap}{dx:Addr}{mA:Str->Option Value}(n:h.Ns1 dx mA):∃od,h.get? dx=some od/\∀name,PySem.W.lookIn name od=some (mA name):=by
 obtain⟨o,es,ep,ho,hd,hk,_,hm⟩:=n;refine⟨o,ho,λname=>?_⟩;have e:=hm name;unfold nsFind findBy at e;rw[←Array.find?_toList]at e;unfold PySem.W.lookIn;rw[hd];dsimp only;split
 ·rename_i y q;rw[q]at e;exact congrArg some e
 ·rename_i q;rw[q]at e
  have a:es.toList.any (·.refKey)=false:=by
   rw[List.any_eq_false];intro y hy;obtain⟨z,t,hkey⟩:=hk y (Array.mem_toList_iff.mp hy);simp[DictEntry.refKey,hkey]
  have a':¬es.toList.any (·.refKey)=true:=by rw[a];exact Bool.false_ne_true
  rw[if_neg a'];exact congrArg some e
theorem ObjM.look {h:Heap}{x dx C:Addr}{mA:Str->Option Value}(I:ObjM h x dx C mA):∃od,PySem.W.InstAt h x (PySem.W.instObj C dx) C (some od)/\∀name,PySem.W.lookIn name od=some (mA name):=
 let ⟨od,ho,hl⟩:=lookIn_ns I.ns
 ⟨od,⟨I.obj,rfl,rfl,ho⟩,hl⟩
section
variable {prog:Program} {w:World} {A:Around} {E:Value->Shared->Prop} {s:Shared} {K:PySem.W.Frag} {x dx C f:Addr} {mA:Str->Option Value} {name:Str} {v:Value}
theorem get_map {expr:Bool}{Q:Value->Shared->Prop}(X:K.In s.heap)(I:ObjM s.heap x dx C mA)(hg:PySem.W.plainGet K C name=true)(hh:PySem.W.hasDictIn K C=true)
 (ha:PySem.W.findIn K (.ref C) name=some none) (hv:mA name=some v) (hv':PySem.W.handedIn v=true) (h:Q v { s with toks:=s.toks+ 1 }):
 wpAny (model prog w) A (getAttr (.ref x) name expr) Q E s:=by
 obtain⟨od,J,hl⟩:=I.look;exact PySem.W.get_value X J (PySem.W.plainGet_of hg).1 (PySem.W.findObj_own hh ha rfl (by rw[hl,hv])) hv' h
theorem get_meth {pl:Sem Bool}{Q:Value×List Value->Shared->Prop}(X:K.In s.heap)(I:ObjM s.heap x dx C mA)(hg:PySem.W.plainGet K C name=true)
 (hf:PySem.W.findIn K (.ref C) name=some (some (.ref f))) (ht:PySem.W.isFn K (.ref f)=true) (hv:mA name=none) (h:Q (.ref f,[.ref x]) s):
 wpAny (model prog w) A (getMethod (.ref x) name pl) Q E s:=by
 obtain⟨od,J,hl⟩:=I.look;exact PySem.W.method_fn X J (PySem.W.plainGet_of hg).1 (PySem.W.plainGet_of hg).2 hf (beq_iff_eq.mp ht) (by show (PySem.W.lookIn name od).map (·.isSome)=some false;rw[hl,hv];rfl) h
theorem set_map {ns:List Str}{Q:Unit->Shared->Prop}(X:K.In s.heap)(I:ObjM s.heap x dx C mA)
 (hs:PySem.W.findIn K (.ref C) "__setattr__"=some (some (.builtin "object.__setattr__"))) (hp:PySem.W.plainOver K C=true) (ht:PySem.W.takerIn K C name=some none) (hh:PySem.W.hasDictIn K C=true)
 (hw:PySem.Within mA ns) (hsz:ns.length<=sizeLine)
 (h:∀h',ObjM h' x dx C (λy=>if y=name then some v else mA y)->Heap.SameBut dx s.heap h'->Q () { s with heap:=h',toks:=s.toks+ 2 }):
 wpAny (model prog w) A (setAttr (.ref x) name v) Q E s:=by
 obtain⟨od,J,hl⟩:=I.look;refine PySem.W.set_plain X J hs (PySem.W.osa_open (s:={ s with toks:=s.toks+ 1 }) (r:=none) X J hp ht λb=>?_);obtain⟨cd,hc,hd'⟩:=PySem.W.any_some hh;have hx:s.heap.get? x=some ⟨.ref C,some dx,.plain,#[]⟩:=I.obj;refine wpAny_bind (wpAny_pure (wpAny_bind (wpAny_bind (wpAny_loadPart hx (wpAny_bind (PySem.W.Looks.here (s:={ s with toks:=s.toks+ 1 }) (PySem.W.looks_clsIn X hc) ?_))))));rw[hd'];refine wpAny_pure (a:=some dx) (wpAny_bind (wpAny_pure (wpAny_bind ?_)));refine wpAny_nsSet1 (s:={ s with toks:=s.toks+ 1 }) I.ns λh' hn2 hs2=>?_
 obtain⟨oD,esD,epD,hoD,hdD,hcD⟩:=hn2.count (PySem.Within.cons name v hw);refine wpAny_bind (wpAny_lookBehind hoD (by rw[hdD];exact pastItsLine_dict (Nat.le_trans hcD (by rw[List.length_cons];omega))) ?_);exact wpAny_pure (h _ ⟨(hs2.2 _ (Ne.symm I.ne)).trans I.obj,hn2,I.ne⟩ hs2)
theorem make_map {R:Result->Shared->Prop}{vs:List Value}{kw:List (Str×Value)}(X:K.In s.heap)(hm:PySem.W.makesIn K C=true)
 (hi:PySem.W.findIn K (.ref C) "__init__"=some (some (.ref f))) (hf:PySem.W.typeIn K (.ref f)=some (.type "function"))
 (h:codeAny (model prog w) (A.under (.builtin "type.__call__" ⟨.ref C::vs,kw⟩)) (.call (.ref f) ⟨.ref (s.heap.objs.size+ 1)::vs,kw⟩) (PySem.W.InitBack (s.heap.objs.size+ 1) R)
  { s with heap:=(s.heap.push PySem.W.emptyDict).push (PySem.W.instObj C s.heap.objs.size) }):
 codeAny (model prog w) A (.call (.ref C) ⟨vs,kw⟩) R s:=by
 obtain⟨hh,g,d,t,os⟩:=s;exact PySem.W.make_core (PySem.W.makes_of X hm) (PySem.W.looks_findIn X hi) (λself=>PySem.W.bind_fn X self hf) (.inl rfl) h
end
def putF (f:Str)(v:V):List (Str×V)->List (Str×V)
 |[]=>[(f,v)]
 |(g,x)::r=>if g=f then (g,v)::r else (g,x)::putF f v r
theorem lookup_putF (f g:Str)(v:V):∀fs:List (Str×V),(putF f v fs).lookup g=if g=f then some v else fs.lookup g
 |[]=>by
  show List.lookup g [(f,v)]=_;by_cases h:g=f
  ·have hb:(g==f)=true:=beq_iff_eq.mpr h;simp only[List.lookup,hb,if_pos h]
  ·have hb:(g==f)=false:=beq_eq_false_iff_ne.mpr h;simp only[List.lookup,hb,if_neg h]
 |(k,x)::r=>by
  have ih:=lookup_putF f g v r;rw[show putF f v ((k,x)::r)=(if k=f then (k,v)::r else (k,x)::putF f v r) from rfl];by_cases hk:k=f
  ·rw[if_pos hk];by_cases h:g=k
   ·have hb:(g==k)=true:=beq_iff_eq.mpr h;simp only[List.lookup,hb,if_pos (h.trans hk)]
   ·have hb:(g==k)=false:=beq_eq_false_iff_ne.mpr h;simp only[List.lookup,hb,if_neg (λe:g=f=>h (e.trans hk.symm))]
  ·rw[if_neg hk];by_cases h:g=k
   ·have hb:(g==k)=true:=beq_iff_eq.mpr h;simp only[List.lookup,hb,if_neg (λe:g=f=>hk (h.symm.trans e))]
   ·have hb:(g==k)=false:=beq_eq_false_iff_ne.mpr h;simp only[List.lookup,hb];exact ih
theorem keys_putF (f:Str)(v:V):∀fs:List (Str×V),f∈(putF f v fs).map (·.1)/\∀g,g∈fs.map (·.1)->g∈(putF f v fs).map (·.1)
 |[]=>⟨by simp[putF],λg h=>by simp at h⟩
 |(k,x)::r=>by
  obtain⟨i1,i2⟩:=keys_putF f v r;rw[show putF f v ((k,x)::r)=(if k=f then (k,v)::r else (k,x)::putF f v r) from rfl];by_cases hk:k=f
  ·rw[if_pos hk];subst hk;exact⟨by simp,λg h=>by simpa using h⟩
  ·rw[if_neg hk];refine⟨?_,λg h=>?_⟩
   ·rw[List.map_cons];exact List.mem_cons_of_mem _ i1
   ·rw[List.map_cons]at h ⊢;rcases List.mem_cons.mp h with e|e
    ·exact List.mem_cons.mpr (.inl e)
    ·exact List.mem_cons_of_mem _ (i2 g e)
theorem length_putF (f:Str)(v:V):∀fs:List (Str×V),(putF f v fs).length<=fs.length+ 1
 |[]=>by simp[putF]
 |(k,x)::r=>by
  have ih:=length_putF f v r;rw[show putF f v ((k,x)::r)=(if k=f then (k,v)::r else (k,x)::putF f v r) from rfl];by_cases hk:k=f
  ·rw[if_pos hk,List.length_cons,List.length_cons];omega
  ·rw[if_neg hk,List.length_cons,List.length_cons];omega
theorem RelO.some_of {v:V}{o:Option Value}(r:RelO (some v) o):∃u,o=some u/\RelV v u:=by
 cases o with
 |none=>exact(show False from r).elim
 |some u=>exact⟨u,rfl,r⟩
theorem RelO.none_of {o:Option Value}(r:RelO none o):o=none:=by
 cases o with
 |none=>rfl
 |some u=>exact(show False from r).elim
theorem handed_of {v:V}{u:Value}(r:RelV v u):PySem.W.handedIn u=true:=by
 cases v with
 |non=>cases (show u=Value.none from r);rfl
 |bl b=>cases (show u=Value.bool b from r);rfl
 |int i=>obtain⟨t,e⟩:=(show ∃t,u=Value.int i t from r);cases e;rfl
 |str x=>obtain⟨t,e⟩:=(show ∃t,u=Value.str x t from r);cases e;rfl
 |byt b=>obtain⟨t,e⟩:=(show ∃t,u=Value.bytes b t from r);cases e;rfl
 |flt b=>obtain⟨t,e⟩:=(show ∃t,u=Value.float b t from r);cases e;rfl
 |ref a=>cases (show u=Value.ref a from r);rfl
 |ty n=>cases (show u=Value.type n from r);rfl
section
variable {P:Program} {w:World} {H H':Hp} {h h':Heap} {a C dx:Addr} {fs fs':List (Str×V)}
theorem ins_get (hok:HOk P w H h)(e:H a=some (.ins C dx fs)):∃mA,ObjM h a dx C mA/\(∀f,RelO (fs.lookup f) (mA f))/\PySem.Within mA (fs.map (·.1))/\fs.length<=1000/\H dx=some (.own a):=by
 obtain⟨d,z,ne,ob,mA,n,r,q⟩:=(show ObjOk P w H h a (.ins C dx fs) from hok a _ e);exact⟨mA,⟨ob,n,ne⟩,r,q,z,d⟩
end
structure Cls (K:PySem.W.Frag) (C:Addr):Prop where
 pg:PySem.W.plainGet K C Str.empty=true
 hd:PySem.W.hasDictIn K C=true
 po:PySem.W.plainOver K C=true
 sa:PySem.W.findIn K (.ref C) "__setattr__"=some (some (.builtin "object.__setattr__"))
theorem Cls.get {K:PySem.W.Frag}{C:Addr}(c:Cls K C)(f:Str):PySem.W.plainGet K C f=true:=c.pg
def NoAttr (K:PySem.W.Frag)(C:Addr)(f:Str):Prop:=PySem.W.findIn K (.ref C) f=some none
theorem NoAttr.taker {K:PySem.W.Frag}{C:Addr}{f:Str}(n:NoAttr K C f):PySem.W.takerIn K C f=some none:=by
 unfold PySem.W.takerIn;rw[show PySem.W.findIn K (.ref C) f=some none from n];rfl
structure Con (K:PySem.W.Frag) (C:Addr) (f:Str) (v:V) (u:Value):Prop where
 at_:PySem.W.findIn K (.ref C) f=some (some u)
 rel:RelV v u
 get:PySem.W.specialIn K u "__get__"=some none
 cp:PySem.W.copiedNames.contains f=false
structure Meth (K:PySem.W.Frag) (C:Addr) (m:Str) (f:Addr):Prop where
 at_:PySem.W.findIn K (.ref C) m=some (some (.ref f))
 fn:PySem.W.isFn K (.ref f)=true
 kp:PySem.W.keepIn K (.ref f)=true
section
variable {X:Cx} {pins:List (Addr×Obj)} {σ:St} {H:Hp} {s:Shared} {a C dx:Addr} {fs:List (Str×V)} {f:Str} {v:V} {A:Around} {E:Value->Shared->Prop}
theorem getattr_ok {b:Bool}{Q:Value->Shared->Prop}(I:Inv X pins σ H s)(e:H a=some (.ins C dx fs))(c:Cls X.K C)(n:NoAttr X.K C f)(l:fs.lookup f=some v)
 (h:∀u s',Inv X pins σ H s'->RelV v u->Q u s'):wpAny (model X.prog X.w) A (getAttr (.ref a) f b) Q E s:=by
 obtain⟨mA,O,r,_,_,_⟩:=ins_get I.hok e;obtain⟨u,hu,ru⟩:=RelO.some_of (v:=v) (o:=mA f) (by rw[←l];exact r f);exact get_map I.kIn O (c.get f) c.hd n hu (handed_of ru) (h u _ (I.tok _) ru)
theorem getmeth_ok {m:Str}{g:Addr}{pl:Sem Bool}{Q:Value×List Value->Shared->Prop}(I:Inv X pins σ H s)(e:H a=some (.ins C dx fs))(c:Cls X.K C)(k:Meth X.K C m g)(l:fs.lookup m=none)
 (h:Q (.ref g,[.ref a]) s):wpAny (model X.prog X.w) A (getMethod (.ref a) m pl) Q E s:=by
 obtain⟨mA,O,r,_,_,_⟩:=ins_get I.hok e;have hn:mA m=none:=RelO.none_of (by rw[←l];exact r m);exact get_meth I.kIn O (c.get m) k.at_ k.fn hn h
theorem setattr_ok {y:V}{u:Value}{Q:Unit->Shared->Prop}(I:Inv X pins σ H s)(e:H a=some (.ins C dx fs))(c:Cls X.K C)(n:NoAttr X.K C f)(hl:fs.length<1000)(ry:RelV y u)
 (h:∀s',Inv X pins σ (upd H a (.ins C dx (putF f y fs))) s'->Q () s'):wpAny (model X.prog X.w) A (setAttr (.ref a) f u) Q E s:=by
 obtain⟨mA,O,r,wi,_,ho⟩:=ins_get I.hok e;have hz:(fs.map (·.1)).length<=sizeLine:=by rw[List.length_map,sizeLine_eq];omega
 refine set_map I.kIn O c.sa c.po n.taker c.hd wi hz λh' O' sb=>h _ ?_
 have hd:∃o,h'.get? dx=some o:=let ⟨o,_,_,e',_⟩:=O'.ns;⟨o,e'⟩
 refine I.write (x:=a) (e:=dx) (by rw[e];exact True.intro) (.inr ho) (λb q hb z=>(sb.2 b hb).trans z) hd ?_;refine⟨by rw[upd_ne O.ne];exact ho,?_,O.ne,O'.obj,_,O'.ns,λg=>?_,λg hg=>?_⟩
 ·have:=length_putF f y fs;omega
 ·show RelO ((putF f y fs).lookup g) (if g=f then some u else mA g);rw[lookup_putF];by_cases q:g=f
  ·rw[if_pos q,if_pos q];exact ry
  ·rw[if_neg q,if_neg q];exact r g
 ·by_cases q:g=f
  ·rw[q];exact(keys_putF f y fs).1
  ·refine(keys_putF f y fs).2 g (wi g λz=>hg ?_);show (if g=f then some u else mA g)=none;rw[if_neg q];exact z
theorem Inv.made (I:Inv X pins σ H s):Inv X pins σ (upd (upd H s.heap.objs.size (.own (s.heap.objs.size+ 1))) (s.heap.objs.size+ 1) (.ins C s.heap.objs.size []))
 { s with heap:=(s.heap.push PySem.W.emptyDict).push (PySem.W.instObj C s.heap.objs.size) }:=by
 have e1:(s.heap.push PySem.W.emptyDict).get? s.heap.objs.size=some PySem.W.emptyDict:=Heap.get?_push_size s.heap rfl
 have e2:((s.heap.push PySem.W.emptyDict).push (PySem.W.instObj C s.heap.objs.size)).get? (s.heap.objs.size+ 1)=some (PySem.W.instObj C s.heap.objs.size):=by
  have:=Heap.get?_push_size (s.heap.push PySem.W.emptyDict) (o:=PySem.W.instObj C s.heap.objs.size) rfl
  rwa [Heap.size_push]at this
 have e3:(s.heap.push PySem.W.emptyDict).Ns s.heap.objs.size (λ_=>none):=⟨PySem.W.emptyDict,#[],_,e1,rfl,(λe he=>absurd he (by simp)),λ_=>rfl⟩;have I1:=I.laid (a:=s.heap.objs.size) (o:=.own (s.heap.objs.size+ 1)) (h':=s.heap.push PySem.W.emptyDict) (t':=s.toks) (λb u q=>Heap.get?_push_of_some _ q) (Nat.le_refl _) ⟨_,e1⟩;refine I1.laid (a:=s.heap.objs.size+ 1) (o:=.ins C s.heap.objs.size []) (t':=s.toks) (λb u q=>Heap.get?_push_of_some _ q) (Nat.le_of_eq (Heap.size_push _ _)) ?_;have ne:s.heap.objs.size≠s.heap.objs.size+ 1:=Nat.ne_of_lt (Nat.lt_succ_self _);refine⟨by rw[upd_ne ne,upd_same],Nat.zero_le _,ne,e2,λ_=>none,(Heap.Ns1.of_empty e3).at λo q=>Heap.get?_push_of_some _ q,λ_=>True.intro,λy hy=>absurd rfl hy⟩
theorem attr_of {prog:Program}{w:World}{env:Env}{e:Expr}{f:Str}{pos:Pos}{s:Shared}{Q:Value->Shared->Prop}(hb:attributeBase e f env (eval e env)=eval e env)
 (h:wpAny (model prog w) A (eval e env) (λo s₁=>wpAny (model prog w) A (getAttr o f true) Q E s₁) E s):wpAny (model prog w) A (eval (.Attribute e f pos) env) Q E s:=
 Attribute_any_ h (by rw[arm_eval_Attribute,hb])
end
def tFld (K:PySem.W.Frag)(ta:TE)(f:Str):TE:=λ σ H Q=>ta σ H λx H1=>∃a C dx fs v,x=.ref a/\H1 a=some (.ins C dx fs)/\Cls K C/\NoAttr K C f/\fs.lookup f=some v/\Q v H1
def sFld (K:PySem.W.Frag)(ta tv:TE)(f:Str):TS:=λD σ H=>tv σ H λy H1=>ta σ H1 λx H2=>∃a C dx fs,x=.ref a/\H2 a=some (.ins C dx fs)/\Cls K C/\NoAttr K C f/\fs.length<1000/\
 D.nx σ (upd H2 a (.ins C dx (putF f y fs)))
section
variable {X:Cx} {o e value:Expr} {f:Str} {pos pos' tpos:Pos} {ta tv:TE}
theorem pe_fld (he:PE X e ta)(hb:attributeBase e f X.env (eval e X.env)=eval e X.env):PE X (.Attribute e f pos) (tFld X.K ta f):=by
 intro pins s σ H Q I h;refine attr_of hb (thn (he pins s σ H _ I h) λu s1 ⟨x,H1,I1,rx,a,C,dx,fs,v,ex,ea,c,n,l,q⟩=>?_);subst ex;obtain rfl:u=Value.ref a:=rx;exact getattr_ok I1 ea c n l λu' s2 I2 ru=>⟨v,H1,I2,ru,q⟩
theorem ps_fld (ha:PE X o ta)(hv:PE X value tv)(hs:swapsWith value (some (.Attribute o f pos')) pos.line X.env=pure false):PS X (.Assign [.Attribute o f pos'] value pos) (sFld X.K ta tv f):=by
 intro pins s σ H D I h;refine plainObj_wpAny_Assign_Attribute (thn (hv pins s σ H _ I h) λu s1 ⟨y,H1,I1,ry,q⟩=>thn (ha pins s1 σ H1 _ I1 q) λov s2 ⟨x,H2,I2,rx,a,C,dx,fs,ex,ea,c,n,l,q2⟩=>?_) hs;subst ex;obtain rfl:ov=Value.ref a:=rx;exact setattr_ok I2 ea c n l ry λs3 I3=>⟨σ,_,I3,q2⟩
end
section
variable {X:Cx} {pins:List (Addr×Obj)} {σ:St} {H:Hp} {s:Shared} {A:Around} {E:Value->Shared->Prop} {Q:Value->Shared->Prop} {c:Value} {b:Bool}
inductive TyOf (K:PySem.W.Frag) (H:Hp):V->Value->Prop where
 |non:TyOf K H .non (.type "NoneType")
 |bl (x:Bool):TyOf K H (.bl x) (.type "bool")
 |int (i:Int):TyOf K H (.int i) (.type "int")
 |str (x:Str):TyOf K H (.str x) (.type "str")
 |flt (x:UInt64):TyOf K H (.flt x) (.type "float")
 |lst {a:Addr} {xs:List V} (e:H a=some (.lst xs)):TyOf K H (.ref a) (.type "list")
 |frz {a:Addr} {o:Obj} {xs:List V} (e:H a=some (.frz o (.lst xs))):TyOf K H (.ref a) (.type "list")
 |tup {a:Addr} {xs:List V} (e:H a=some (.tup xs)):TyOf K H (.ref a) (.type "tuple")
 |dK {a:Addr} {kvs:List (Key×V)} (e:H a=some (.dK kvs)):TyOf K H (.ref a) (.type "dict")
 |dT {a:Addr} {kvs:List (List Key×V)} (e:H a=some (.dT kvs)):TyOf K H (.ref a) (.type "dict")
 |ins {a C dx:Addr} {fs:List (Str×V)} (e:H a=some (.ins C dx fs)) (cl:Cls K C) (ha:PySem.W.findIn K (.ref C) "__class__"=some (some (.builtin "object.__class__")))
  (hn:PySem.W.specialIn K (.builtin "object.__class__") "__get__"=some (some (.builtin "getset_descriptor.__get__"))) (htk:PySem.W.takesIn K (.builtin "object.__class__")=some true)
  (hm:PySem.W.mroIn K C (.type "object")=some true):TyOf K H (.ref a) (.ref C)
theorem isinst_ok {x:V}{u t:Value}(I:Inv X pins σ H s)(rx:RelV x u)(ty:TyOf X.K H x t)(e:PySem.W.kitOne X.K t c=some b)(h:∀tk,Q (.bool b) { s with toks:=tk }):
 wpAny (model X.prog X.w) A (call (.builtin "isinstance") [u,c]) Q E s:=by
 cases ty with
 |non=>cases (show u=Value.none from rx);exact PySem.W.kia_one PySem.W.kitx_none I.kIn True.intro e (λz=>nomatch z) h
 |bl y=>cases (show u=Value.bool y from rx);exact PySem.W.kia_one PySem.W.kitx_bool I.kIn True.intro e (λz=>nomatch z) h
 |int i=>obtain⟨t,q⟩:=(show ∃t,u=Value.int i t from rx);cases q;exact PySem.W.kia_one PySem.W.kitx_int I.kIn True.intro e (λz=>nomatch z) h
 |str y=>obtain⟨t,q⟩:=(show ∃t,u=Value.str y t from rx);cases q;exact PySem.W.kia_one PySem.W.kitx_str I.kIn True.intro e (λz=>nomatch z) h
 |flt y=>obtain⟨t,q⟩:=(show ∃t,u=Value.float y t from rx);cases q;exact PySem.W.kia_one PySem.W.kitx_float I.kIn True.intro e (λz=>nomatch z) h
 | @lst a xs ea=>
   cases (show u=Value.ref a from rx);obtain⟨_,_,n,_,h1⟩:=(show ObjOk X.prog X.w H s.heap a (.lst xs) from I.hok a _ ea);exact PySem.W.kia_one PySem.W.kitx_list I.kIn ⟨_,h1,rfl⟩ e (λz=>nomatch z) h
 | @frz a ob xs ea=>
   cases (show u=Value.ref a from rx);obtain⟨_,_,_,n,_,h1⟩:=(show ObjOk X.prog X.w H s.heap a (.frz ob (.lst xs)) from I.hok a _ ea);exact PySem.W.kia_one PySem.W.kitx_list I.kIn ⟨_,h1,rfl⟩ e (λz=>nomatch z) h
 | @tup a xs ea=>
   cases (show u=Value.ref a from rx);obtain⟨_,_,_,p⟩:=(show ObjOk X.prog X.w H s.heap a (.tup xs) from I.hok a _ ea);obtain⟨o,h1,h2,_⟩:=p;exact PySem.W.kia_one PySem.W.kitx_tuple I.kIn ⟨o,h1,h2⟩ e (λz=>nomatch z) h
 | @dK a kvs ea=>
   cases (show u=Value.ref a from rx);obtain⟨_,_,vs,_,p⟩:=(show ObjOk X.prog X.w H s.heap a (.dK kvs) from I.hok a _ ea);obtain⟨o,es,ep,h1,h2,_⟩:=p;exact PySem.W.kia_one PySem.W.kitx_dict I.kIn ⟨o,h1,h2.1⟩ e (λz=>nomatch z) h
 | @dT a kvs ea=>
   cases (show u=Value.ref a from rx);obtain⟨_,_,xs,_,o,es,ep,h1,h2,_⟩:=(show ObjOk X.prog X.w H s.heap a (.dT kvs) from I.hok a _ ea);exact PySem.W.kia_one PySem.W.kitx_dict I.kIn ⟨o,h1,h2.1⟩ e (λz=>nomatch z) h
 | @ins a C dx fs ea cl ha hn htk hm=>
   cases (show u=Value.ref a from rx);obtain⟨mA,O,_⟩:=ins_get I.hok ea;obtain⟨od,J,_⟩:=O.look;exact PySem.W.kia_one (PySem.W.kitx_own (cl.get _) cl.hd ha hn htk hm) I.kIn J e (λz=>nomatch z) h
end
end L2
namespace L2
open PySem PySem.Spec PyProof.Rows
structure Room (k:Nat) (A:Around):Prop where
 hd:A.handled=none
 dp:A.depth+ 3* k+ 5<recursionLimit
 un:A.units+ 16* k+ 200<cLine
theorem Room.mono {j k:Nat}{A:Around}(r:Room k A)(h:j<=k):Room j A:=⟨r.hd,by have:=r.dp;omega,by have:=r.un;omega⟩
theorem Room.deeper {k:Nat}{A:Around}(r:Room (k+ 1) A)(env:Env):Room k (A.deeper env):=
 ⟨r.hd,by have:=r.dp;show A.depth+ 1+ 3* k+ 5<_;omega,by have:=r.un;show A.units+ 3+ 16* k+ 200<_;omega⟩
theorem Room.in1 {k:Nat}{A:Around}(r:Room (k+ 1) A):Room k A.in1:=
 ⟨r.hd,by have:=r.dp;show A.depth+ 3* k+ 5<_;omega,by have:=r.un;show A.units+ 1+ 16* k+ 200<_;omega⟩
theorem make_depth {A:Around}{C:Addr}{us:List Value}{kw:List (Str×Value)}:(A.under (.builtin "type.__call__" ⟨.ref C::us,kw⟩)).depth=A.depth+ 1:=by
 first|rfl|simp[Around.under,Code.weight,Code.isCreation,Code.isGuard,Code.isCaller,Code.frames,Code.isFrame,guardIds]
theorem make_units {A:Around}{C:Addr}{us:List Value}{kw:List (Str×Value)}:(A.under (.builtin "type.__call__" ⟨.ref C::us,kw⟩)).units=A.units+ 1:=by
 first|rfl|simp[Around.under,Code.cUnits,Code.frames,Code.isFrame]
theorem Room.make {k:Nat}{A:Around}(r:Room (k+ 1) A)(C:Addr)(us:List Value)(kw:List (Str×Value)):Room k (A.under (.builtin "type.__call__" ⟨.ref C::us,kw⟩)):=
 ⟨r.hd,by have:=r.dp;rw[make_depth];omega,by have:=r.un;rw[make_units];omega⟩
theorem Room.depth {k:Nat}{A:Around}(r:Room k A):A.depth<recursionLimit:=by have:=r.dp;omega
theorem Room.units {k:Nat}{A:Around}(r:Room k A):A.units+ 64<cLine:=by have:=r.un;omega
def tNil:TA:=λ_ H Q=>Q [] H
def tCons (ta:TE)(tr:TA):TA:=λ σ H Q=>ta σ H λx H1=>tr σ H1 λxs H2=>Q (x::xs) H2
section
variable {X:Cx} {e:Expr} {es:List Expr} {te:TE} {t:TA} {pos:Pos}
theorem pa_nil:PA X [] tNil:=λ_ _ _ _ H Q I h=>Calls.spliced_nil ⟨[],H,I,.nil,h⟩
theorem pa_cons (ha:PE X e te)(hr:PA X es t)(hs:starEach (e::es) X.env=(false,eval e X.env)::starEach es X.env:=by rfl):PA X (e::es) (tCons te t):=by
 intro pos pins s σ H Q I h;rw[hs];show wpAny _ _ (spliced ((false,eval e X.env)::backTo pos (starEach es X.env))) _ _ s;refine Calls.spliced_cons (thn (ha pins s σ H _ I h) λu s1 ⟨x,H1,I1,r1,q1⟩=>?_);exact thn (hr pos pins s1 σ H1 _ I1 q1) λus s2 ⟨xs,H2,I2,r2,q2⟩=>⟨x::xs,H2,I2,.cons r1 r2,q2⟩
def tTup (t:TA):TE:=λ σ H Q=>t σ H λxs H1=>xs.length<=sizeLine/\∀p,H1 p=none->Q (.ref p) (upd H1 p (.tup xs))
def tLst (t:TA):TE:=λ σ H Q=>t σ H λxs H1=>xs.length<=sizeLine/\∀p,H1 p=none->Q (.ref p) (upd H1 p (.lst xs))
theorem pe_tup {x1}(h:PA X es t):PE X (.Tuple es x1 pos) (tTup t):=by
 intro pins s σ H Q I hq;refine wpAny_Tuple_spliced (thn (h pos pins s σ H _ I hq) λus s1 ⟨xs,H1,I1,r,z,q⟩=>⟨by rw[←r.length];exact z,?_⟩);have hf:H1 s1.heap.objs.size=none:=I1.hok.fresh (Nat.le_refl _);refine⟨.ref s1.heap.objs.size,upd H1 s1.heap.objs.size (.tup xs),I1.laid (t':=s1.toks) (λb u e=>Heap.get?_push_of_some _ e) (Nat.le_refl _) ?_,rfl,q _ hf⟩;exact⟨z,us,r,⟨_,Heap.get?_push_size _ rfl,rfl,_,rfl⟩⟩
theorem pe_lst (h:PA X es t):PE X (.List es pos) (tLst t):=by
 intro pins s σ H Q I hq;refine wpAny_List_spliced (thn (h pos pins s σ H _ I hq) λus s1 ⟨xs,H1,I1,r,z,q⟩=>⟨by rw[←r.length];exact z,?_⟩);have hf:H1 s1.heap.objs.size=none:=I1.hok.fresh (Nat.le_refl _);refine⟨.ref s1.heap.objs.size,upd H1 s1.heap.objs.size (.lst xs),I1.laid (t':=s1.toks) (λb u e=>Heap.get?_push_of_some _ e) (Nat.le_refl _) ?_,rfl,q _ hf⟩;exact⟨z,us,0,r,Heap.get?_push_size _ rfl⟩
end
abbrev Sp:=List V->Hp->VK->XK->Prop
abbrev CXT:=List Env->Hp->Shared->XK->Value->Shared->Prop
structure Env0 (P:Program) (w:World) (K:PySem.W.Frag) (mg:Str->Option Value) (base:Heap) (A:Around) (outer:List Env) (s:Shared) (H:Hp):Prop where
 frames:A.frames=some outer
 mod:Mod K mg base
 bs:∀b o,base.get? b=some o->s.heap.get? b=some o/\H b=none
 bsz:base.objs.size<=s.heap.objs.size
 funs:s.heap.FunFrames base outer
 frf:∀b∈frs outer,H b=none
 hok:HOk P w H s.heap
 bare:AllBare s.gens
def CE (outer:List Env)(P:Program)(w:World)(H:Hp)(s:Shared)(Q:VK)(u:Value)(s':Shared):Prop:=
 ∃v H',s'.os=s.os/\AllBare s'.gens/\Un (frs outer) [] H H' s.heap s'.heap/\HOk P w H' s'.heap/\RelV v u/\Q v H'
def CR (CX:CXT)(outer:List Env)(P:Program)(w:World)(H:Hp)(s:Shared)(Q:VK)(E:XK)(r:Result)(s':Shared):Prop:=
 match r with
 |.ok (.ret u)=>CE outer P w H s Q u s'
 |.ok _=>False
 |.error e=>CX outer H s E e s'
structure FnOk (P:Program) (w:World) (K:PySem.W.Frag) (mg:Str->Option Value) (base:Heap) (CX:CXT) (k:Nat) (f:Addr) (fd:FuncData) (ps:List Str) (sp:Sp):Prop where
 len:∀vs H Q E,sp vs H Q E->vs.length=ps.length
 run:∀(A:Around) (outer:List Env) (s:Shared) (H:Hp) (args:Args) (us:List Value) (vs:List V) (Q:VK) (E:XK),Room k A->Env0 P w K mg base A outer s H->BindsTo s fd args (ps.zip us)->Vals vs us->sp vs H Q E->
  codeAny (model P w) A (.call (.ref f) args) (CR CX outer P w H s Q E) s
theorem FnOk.mono {P:Program}{w:World}{K:PySem.W.Frag}{mg:Str->Option Value}{base:Heap}{CX:CXT}{j k:Nat}{f:Addr}{fd:FuncData}{ps:List Str}{sp:Sp}(F:FnOk P w K mg base CX j f fd ps sp)(h:j<=k):
 FnOk P w K mg base CX k f fd ps sp:=⟨F.len,λA outer s H args us vs Q E hr=>F.run A outer s H args us vs Q E (hr.mono h)⟩
theorem FnOk.imp {P:Program}{w:World}{K:PySem.W.Frag}{mg:Str->Option Value}{base:Heap}{CX:CXT}{k:Nat}{f:Addr}{fd:FuncData}{ps:List Str}{sp sp':Sp}(F:FnOk P w K mg base CX k f fd ps sp)
 (h:∀vs H Q E,sp' vs H Q E->sp vs H Q E):FnOk P w K mg base CX k f fd ps sp':=
 ⟨λvs H Q E q=>F.len vs H Q E (h _ _ _ _ q),λA outer s H args us vs Q E hr he hb hv hs=>F.run A outer s H args us vs Q E hr he hb hv (h _ _ _ _ hs)⟩
theorem Env0.make {P:Program}{w:World}{K:PySem.W.Frag}{mg:Str->Option Value}{base:Heap}{A:Around}{outer:List Env}{s:Shared}{H:Hp}(e:Env0 P w K mg base A outer s H)(C:Addr)(us:List Value)(kw:List (Str×Value)):
 Env0 P w K mg base (A.under (.builtin "type.__call__" ⟨.ref C::us,kw⟩)) outer s H:=⟨by first|exact e.frames|(simpa [Around.under,Code.envs,Code.isFrame,pushEnvs] using e.frames),e.mod,e.bs,e.bsz,e.funs,e.frf,e.hok,e.bare⟩
theorem Env0.in1 {P:Program}{w:World}{K:PySem.W.Frag}{mg:Str->Option Value}{base:Heap}{A:Around}{outer:List Env}{s:Shared}{H:Hp}(e:Env0 P w K mg base A outer s H):
 Env0 P w K mg base A.in1 outer s H:=⟨e.frames,e.mod,e.bs,e.bsz,e.funs,e.frf,e.hok,e.bare⟩
section
variable {X:Cx} {pins:List (Addr×Obj)} {σ:St} {H:Hp} {s s':Shared}
theorem Inv.env0 (I:Inv X pins σ H s):Env0 X.prog X.w X.K X.mg X.base X.A X.stack s H:=
 ⟨I.ok.frames,I.ok.mod,I.bs,Nat.le_trans I.ok.bsz I.sz,I.stack,I.stkFree,I.hok,I.bare⟩
theorem Inv.after {Q:VK}{u:Value}(I:Inv X pins σ H s)(h:CE X.stack X.prog X.w H s Q u s'):EP X pins σ Q u s':=by
 obtain⟨v,H',os,bare,un,hok,r,q⟩:=h;obtain⟨hh,g,d,t,os'⟩:=s';obtain rfl:os'=s.os:=os;exact⟨v,H',I.call (h':=hh) (g':=g) (d':=d) (t':=t) (ch:=[]) un hok bare (λb z=>absurd z (by simp)),r,q⟩
end
def tCall (sp:Sp)(dvs:List V)(E:XK)(t:TA):TE:=λ σ H Q=>t σ H λvs H1=>sp (vs++dvs) H1 Q E
def tMeth (C:Addr)(m:Str)(sp:Sp)(dvs:List V)(E:XK)(ta:TE)(t:TA):TE:=λ σ H Q=>ta σ H λx H1=>∃a dx fs,x=.ref a/\H1 a=some (.ins C dx fs)/\fs.lookup m=none/\
 t σ H1 λvs H2=>sp (x::(vs++dvs)) H2 Q E
def tMake (C:Addr)(sp:Sp)(dvs:List V)(E:XK)(t:TA):TE:=λ σ H Q=>t σ H λvs H1=>∀x dx,H1 x=none->H1 dx=none->dx≠x->
 sp (.ref x::(vs++dvs)) (upd (upd H1 dx (.own x)) x (.ins C dx [])) (λv H2=>v=.non/\Q (.ref x) H2) E
def Binds (K:PySem.W.Frag)(fd:FuncData)(ps:List Str)(ds:List Value):Prop:=
 ∀(s:Shared) (us:List Value),K.In s.heap->(us++ds).length=ps.length->BindsTo s fd ⟨us,[]⟩ (ps.zip (us++ds))
theorem Binds.all {K:PySem.W.Frag}{fd:FuncData}{ps:List Str}(h:∀us:List Value,us.length=ps.length->bindArgs fd ⟨us,[]⟩=pure (ps.zip us)):Binds K fd ps []:=λs us _ hl=>by
 rw[List.append_nil]at hl ⊢;exact .of_eq (h us hl)
def Passes (CX:CXT)(X:Cx)(E:XK):Prop:=∀(pins:List (Addr×Obj)) (σ:St) (H:Hp) (s:Shared) (e:Value) (s':Shared),Inv X pins σ H s->CX X.stack H s E e s'->X.xe e s'
section
variable {X:Cx} {CX:CXT} {k:Nat} {f C:Addr} {fd:FuncData} {ps:List Str} {sp:Sp} {dvs:List V} {ds:List Value} {E:XK} {x m:Str} {p pos apos:Pos} {e o:Expr} {es:List Expr} {ta:TE} {t:TA}
theorem run_fn {pins:List (Addr×Obj)}{σ:St}{H:Hp}{s:Shared}{Q:VK}{us:List Value}{vs:List V}(F:FnOk X.prog X.w X.K X.mg X.base CX k f fd ps sp)(hr:Room k X.A)(hb:Binds X.K fd ps ds)(hd:Vals dvs ds)(hx:Passes CX X E)
 (I:Inv X pins σ H s) (r:Vals vs us) (h:sp (vs++dvs) H Q E):wpAny (model X.prog X.w) X.A (call (.ref f) us) (EP X pins σ Q) X.xe s:=by
 have r2:Vals (vs++dvs) (us++ds):=r.append hd;have hl:(us++ds).length=ps.length:=by rw[←r2.length];exact F.len _ _ _ _ h
 refine wpAny_call (codeAny_mono (F.run X.A X.stack s H ⟨us,[]⟩ (us++ds) (vs++dvs) Q E hr I.env0 (hb s us I.kIn hl) r2 h) λr s' hq=>?_)
 cases r with
 |error e=>exact hx pins σ H s e s' I hq
 |ok fl=>
  cases fl with
  |ret u=>exact I.after hq
  |next=>exact False.elim hq
  |brk=>exact False.elim hq
  |cont=>exact False.elim hq
theorem pe_call (F:FnOk X.prog X.w X.K X.mg X.base CX k f fd ps sp)(hr:Room k X.A)(hg:Gl X x)(hm:X.mg x=some (.ref f))(hk:PySem.W.keepIn X.K (.ref f)=true)(hb:Binds X.K fd ps ds)(hd:Vals dvs ds)(hx:Passes CX X E)
 (ha:PA X (e::es) t) (hdb:(x==("__debug__":Str))=false:=by decide) (he:starEach (e::es) X.env=(false,eval e X.env)::starEach es X.env:=by rfl) (hpl:(backTo pos (starEach es X.env)).any (·.1)=false:=by rfl):
 PE X (.Call (.Name x p) (e::es) [] pos) (tCall sp dvs E t):=by
 intro pins s σ H Q I h;refine wpAny_Call_Name_kw (ld_glob I hg hm ?_ hdb);refine PySem.W.callWith_K (h₀:=X.base) I.ok.mod.kin hk (thn (ha pos pins s σ H _ I h) λus s1 ⟨vs,H1,I1,r,q⟩=>⟨I1.kIn,?_⟩) he hpl;exact run_fn F hr hb hd hx I1 r q
theorem pe_meth {pl:Sem Bool}(he:PE X o ta)(c:Cls X.K C)(hm:Meth X.K C m f)(F:FnOk X.prog X.w X.K X.mg X.base CX k f fd ps sp)(hr:Room k X.A)(hb:Binds X.K fd ps ds)(hd:Vals dvs ds)(hx:Passes CX X E)(ha:PA X (e::es) t)
 (hst:starEach (e::es) X.env=(false,eval e X.env)::starEach es X.env:=by rfl) (hpl:(backTo pos (starEach es X.env)).any (·.1)=false:=by rfl)
 (ht:eval (.Call (.Attribute o m apos) (e::es) [] pos) X.env=(do
  let ov ←eval o X.env
  standAt apos.atName
  let (f,first) ←holding [ov] (getMethod ov m pl)
  callWith pos f first (backTo pos (starEach (e::es) X.env)) (backToKw pos (keywordEach [] X.env))):=by rfl):
 PE X (.Call (.Attribute o m apos) (e::es) [] pos) (tMeth C m sp dvs E ta t):=by
 intro pins s σ H Q I h;refine PySem.W.methodCall_KW (pl:=pl) (thn (he pins s σ H _ I h) λu s1 ⟨x,H1,I1,rx,a,dx,fs,ex,ea,l,q⟩=>?_) ht;subst ex;obtain rfl:u=Value.ref a:=rx;refine getmeth_ok I1 ea c hm l ?_;refine PySem.W.callWith_K (first:=[.ref a]) (h₀:=X.base) I.ok.mod.kin hm.kp (thn (ha pos pins s1 σ H1 _ I1 q) λus s2 ⟨vs,H2,I2,r,q2⟩=>⟨I2.kIn,?_⟩) hst hpl;exact run_fn (us:=.ref a::us) (vs:=.ref a::vs) F hr hb hd hx I2 (.cons rfl r) q2
theorem pe_meth0 {pl:Sem Bool}(he:PE X o ta)(c:Cls X.K C)(hm:Meth X.K C m f)(F:FnOk X.prog X.w X.K X.mg X.base CX k f fd ps sp)(hr:Room k X.A)(hb:Binds X.K fd ps ds)(hd:Vals dvs ds)(hx:Passes CX X E)
 (ht:eval (.Call (.Attribute o m apos) [] [] pos) X.env=(do
  let ov ←eval o X.env
  standAt apos.atName
  let (f,first) ←holding [ov] (getMethod ov m pl)
  callWith pos f first (backTo pos (starEach [] X.env)) (backToKw pos (keywordEach [] X.env))):=by rfl):
 PE X (.Call (.Attribute o m apos) [] [] pos) (tMeth C m sp dvs E ta tNil):=by
 intro pins s σ H Q I h;refine PySem.W.methodCall_KW (pl:=pl) (thn (he pins s σ H _ I h) λu s1 ⟨x,H1,I1,rx,a,dx,fs,ex,ea,l,q⟩=>?_) ht;subst ex;obtain rfl:u=Value.ref a:=rx;refine getmeth_ok I1 ea c hm l ?_;exact PySem.W.callWith_K0 (first:=[.ref a]) I1.kIn hm.kp (run_fn (us:=[.ref a]) (vs:=[.ref a]) F hr hb hd hx I1 (.cons rfl .nil) q)
structure Mk (K:PySem.W.Frag) (C f:Addr):Prop where
 makes:PySem.W.makesIn K C=true
 init:PySem.W.findIn K (.ref C) "__init__"=some (some (.ref f))
 fn:PySem.W.isFn K (.ref f)=true
 kp:PySem.W.keepIn K (.ref C)=true
theorem run_make {pins:List (Addr×Obj)}{σ:St}{H:Hp}{s:Shared}{Q:VK}{us:List Value}{vs:List V}(M:Mk X.K C f)(F:FnOk X.prog X.w X.K X.mg X.base CX k f fd ps sp)(hr:Room (k+ 1) X.A)(hb:Binds X.K fd ps ds)(hd:Vals dvs ds)
 (hx:Passes CX X E) (I:Inv X pins σ H s) (r:Vals vs us)
 (h:∀x dx,H x=none->H dx=none->dx≠x->sp (.ref x::(vs++dvs)) (upd (upd H dx (.own x)) x (.ins C dx [])) (λv H2=>v=.non/\Q (.ref x) H2) E):
 wpAny (model X.prog X.w) X.A (call (.ref C) us) (EP X pins σ Q) X.xe s:=by
 have hq:=h (s.heap.objs.size+ 1) s.heap.objs.size (I.hok.fresh (Nat.le_succ _)) (I.hok.fresh (Nat.le_refl _)) (Nat.ne_of_lt (Nat.lt_succ_self _));have I2:=Inv.made (C:=C) I;have r2:Vals (V.ref (s.heap.objs.size+ 1)::(vs++dvs)) (Value.ref (s.heap.objs.size+ 1)::(us++ds)):=.cons rfl (r.append hd)
 have hl:(Value.ref (s.heap.objs.size+ 1)::us++ds).length=ps.length:=by
  have e:=r2.length;rw[F.len _ _ _ _ hq]at e;exact e.symm
 refine wpAny_call (make_map (f:=f) I.kIn M.makes M.init (beq_iff_eq.mp M.fn) (codeAny_mono (F.run _ X.stack _ _ ⟨Value.ref (s.heap.objs.size+ 1)::us,[]⟩ (Value.ref (s.heap.objs.size+ 1)::(us++ds)) _ _ E (hr.make C us [])
  (I2.env0.make C us []) (hb _ (Value.ref (s.heap.objs.size+ 1)::us) I2.kIn hl) r2 hq) λr s' hq'=>?_))
 cases r with
 |error e=>exact hx pins σ _ _ e s' I2 hq'
 |ok fl=>
  cases fl with
  |ret u=>
   obtain⟨v,H',I3,rv,ev,q3⟩:=I2.after hq';subst ev;exact⟨rv,⟨V.ref (s.heap.objs.size+ 1),H',I3,rfl,q3⟩⟩
  |next=>exact False.elim hq'
  |brk=>exact False.elim hq'
  |cont=>exact False.elim hq'
theorem pe_make (M:Mk X.K C f)(F:FnOk X.prog X.w X.K X.mg X.base CX k f fd ps sp)(hr:Room (k+ 1) X.A)(hg:Gl X x)(hm:X.mg x=some (.ref C))(hb:Binds X.K fd ps ds)(hd:Vals dvs ds)(hx:Passes CX X E)
 (ha:PA X (e::es) t) (hdb:(x==("__debug__":Str))=false:=by decide) (he:starEach (e::es) X.env=(false,eval e X.env)::starEach es X.env:=by rfl) (hpl:(backTo pos (starEach es X.env)).any (·.1)=false:=by rfl):
 PE X (.Call (.Name x p) (e::es) [] pos) (tMake C sp dvs E t):=by
 intro pins s σ H Q I h;refine wpAny_Call_Name_kw (ld_glob I hg hm ?_ hdb);refine PySem.W.callWith_K (h₀:=X.base) I.ok.mod.kin M.kp (thn (ha pos pins s σ H _ I h) λus s1 ⟨vs,H1,I1,r,q⟩=>⟨I1.kIn,?_⟩) he hpl;exact run_make M F hr hb hd hx I1 r q
end
def PK (X:Cx)(kws:List Keyword)(t:TA):Prop:=
 ∀(pos:Pos) (pins:List (Addr×Obj)) (s:Shared) (σ:St) (H:Hp) (Q:List V->Hp->Prop),Inv X pins σ H s->t σ H Q->wpAny (model X.prog X.w) X.A (evalAll ((backToKw pos (keywordEach kws X.env)).map (·.2))) (AP X pins σ Q) X.xe s
section
variable {X:Cx} {CX:CXT} {k:Nat} {f C:Addr} {fd:FuncData} {ps ks:List Str} {sp:Sp} {E:XK} {x m:Str} {p pos apos kpos:Pos} {e o:Expr} {es:List Expr} {kws:List Keyword} {te ta:TE} {t tk:TA} {nm:Option Str}
theorem pk_nil:PK X [] tNil:=λ_ _ _ _ H Q I h=>wpAny_evalAll_nil ⟨[],H,I,.nil,h⟩
theorem pk_cons (ha:PE X e te)(hr:PK X kws t):PK X (⟨nm,e,kpos⟩::kws) (tCons te t):=by
 intro pos pins s σ H Q I h;show wpAny _ _ (evalAll ((do let v ←eval e X.env;standAt pos;pure v)::(backToKw pos (keywordEach kws X.env)).map (·.2))) _ _ s;refine wpAny_evalAll_cons (wpAny_bind (thn (ha pins s σ H _ I h) λu s1 ⟨x,H1,I1,r1,q1⟩=>wpAny_bind (wpAny_standAt (wpAny_pure ?_))));exact thn (hr pos pins s1 σ H1 _ I1 q1) λus s2 ⟨xs,H2,I2,r2,q2⟩=>⟨x::xs,H2,I2,.cons r1 r2,q2⟩
structure KBinds (K:PySem.W.Frag) (fd:FuncData) (ps ks:List Str) (g:List Value->List Value->List Value) (gV:List V->List V->List V):Prop where
 to:∀(s:Shared) (us ws:List Value),K.In s.heap->(g us ws).length=ps.length->BindsTo s fd ⟨us,ks.zip ws⟩ (ps.zip (g us ws))
 rel:∀{vs:List V} {us:List Value} {zs:List V} {ws:List Value},Vals vs us->Vals zs ws->Vals (gV vs zs) (g us ws)
variable {g:List Value->List Value->List Value} {gV:List V->List V->List V}
end
structure FnScope (N P:List Str) (sc:Scope):Prop where
 kind:sc.kind=.function
 co:sc.isCoroutine=false
 gen:sc.isGenerator=false
 nd:N.Nodup
 pre:N.take P.length=P
 par:∀x∈P,sc.names.lookup x=some .local\/sc.names.lookup x=some .cell
 nofree:∀y∈sc.names,y.2≠.free
theorem bindL_out {kindOf:Str->Option NameKind}{x:Str}:∀{binds:List (Str×Value)} {m:Str->Option Value},(∀v,(x,v)∉binds)->bindL kindOf binds m x=m x
 |[],_,_=>rfl
 |(n,v)::r,m,h=>by
  unfold bindL;rw[bindL_out λw hw=>h w (List.mem_cons_of_mem _ hw)];split
  ·have:x≠n:=by rintro rfl;exact h v List.mem_cons_self
   simp[this]
  ·rfl
theorem bindC_out {kindOf:Str->Option NameKind}{x:Str}:∀{binds:List (Str×Value)} {m:Str->Option Value},(∀v,(x,v)∉binds)->bindC kindOf binds m x=m x
 |[],_,_=>rfl
 |(n,v)::r,m,h=>by
  unfold bindC;rw[bindC_out λw hw=>h w (List.mem_cons_of_mem _ hw)];split
  ·rfl
  ·have:x≠n:=by rintro rfl;exact h v List.mem_cons_self
   simp[this]
theorem bindL_get {kindOf:Str->Option NameKind}{x:Str}{v:Value}:∀{P:List Str} {vs:List Value} {i:Nat} {m:Str->Option Value},P.Nodup->P[i]?=some x->vs[i]?=some v->kindOf x=some .local->
 bindL kindOf (P.zip vs) m x=some v
 |[],_,_,_,_,h,_,_=>by simp at h
 |_::_,[],_,_,_,_,h,_=>by simp at h
 |p::P,w::vs,0,m,nd,h1,h2,hk=>by
  simp at h1 h2;subst h1;subst h2;show bindL kindOf ((p,w)::P.zip vs) m p=_;unfold bindL;rw[bindL_out λv hv=>(List.nodup_cons.mp nd).1 (List.of_mem_zip hv).1,if_pos hk];simp
 |p::P,w::vs,i+ 1,m,nd,h1,h2,hk=>by
  show bindL kindOf ((p,w)::P.zip vs) m x=_;unfold bindL;exact bindL_get (i:=i) (List.nodup_cons.mp nd).2 (by simpa using h1) (by simpa using h2) hk
theorem bindC_get {kindOf:Str->Option NameKind}{x:Str}{v:Value}:∀{P:List Str} {vs:List Value} {i:Nat} {m:Str->Option Value},P.Nodup->P[i]?=some x->vs[i]?=some v->kindOf x≠some .local->
 bindC kindOf (P.zip vs) m x=some v
 |[],_,_,_,_,h,_,_=>by simp at h
 |_::_,[],_,_,_,_,h,_=>by simp at h
 |p::P,w::vs,0,m,nd,h1,h2,hk=>by
  simp at h1 h2;subst h1;subst h2;show bindC kindOf ((p,w)::P.zip vs) m p=_;unfold bindC;rw[bindC_out λv hv=>(List.nodup_cons.mp nd).1 (List.of_mem_zip hv).1,if_neg hk];simp
 |p::P,w::vs,i+ 1,m,nd,h1,h2,hk=>by
  show bindC kindOf ((p,w)::P.zip vs) m x=_;unfold bindC;exact bindC_get (i:=i) (List.nodup_cons.mp nd).2 (by simpa using h1) (by simpa using h2) hk
def start (N:List Str)(vs:List V):St:=vs.map some++List.replicate (N.length - vs.length) none
def cxOf (CX:CXT)(P:Program)(w:World)(K:PySem.W.Frag)(mg:Str->Option Value)(base:Heap)(N:List Str)(qual:Str)(scope:Scope)(f:Addr)(cd:Value)(A:Around)(outer:List Env)(s:Shared)(H:Hp)(E:XK):Cx where
 prog:=P
 w:=w
 K:=K
 mg:=mg
 base:=base
 A:=A.deeper (envOfC qual scope s.heap.objs.size f cd)
 N:=N
 s₀:=s
 H₀:=H
 env:=envOfC qual scope s.heap.objs.size f cd
 outer:=outer
 stack:=envOfC qual scope s.heap.objs.size f cd::outer
 ex:=[]
 calm:=true
 fn:=λ_=>true
 pn:=[]
 xe:=λe s'=>wpAny (model P w) (A.deeper (envOfC qual scope s.heap.objs.size f cd)) (leaving (envOfC qual scope s.heap.objs.size f cd) e) (λ_ s''=>CX outer H s E e s'') (λe' s''=>CX outer H s E e' s'') s'
theorem cell_has {sc:Scope}{n:Nat}{x:Str}(h:sc.names.lookup x=some .cell):∃c,(cellsFrom n sc.names []).lookup x=some c:=by
 have q:=PySem.W.cellsFrom_some sc.names n [] (.inl h);exact Option.isSome_iff_exists.mp q
theorem inv_start {CX:CXT}{P:Program}{w:World}{K:PySem.W.Frag}{mg:Str->Option Value}{base:Heap}{N ps:List Str}{qual:Str}{scope:Scope}{f:Addr}{cd:Value}{A:Around}{outer:List Env}{s s1:Shared}{H:Hp}{E:XK}{us:List Value}{vs:List V}
 (S:FnScope N ps scope) (hd:A.handled=none) (e0:Env0 P w K mg base A outer s H) (hl:vs.length=ps.length) (r:Vals vs us)
 (x:InCallC s s.heap.objs.size (bindL (envOfC qual scope s.heap.objs.size f cd).kindOf (ps.zip us) λ_=>none) (cellsFrom (s.heap.objs.size+ 1) scope.names []) (bindC (envOfC qual scope s.heap.objs.size f cd).kindOf (ps.zip us) λ_=>none) s1):
 Inv (cxOf CX P w K mg base N qual scope f cd A outer s H E) [] (start N vs) H s1:=by
 have hpl:ps.length<=N.length:=by have:=congrArg List.length S.pre;rw[List.length_take]at this;omega
 obtain⟨h1,tk,rfl,hk⟩:=x.done;have noA:∀b:Addr,b∉(cxOf CX P w K mg base N qual scope f cd A outer s H E).ex:=λb z=>absurd (show b∈([]:List Addr) from z) (by simp)
 refine⟨⟨e0.mod,S.kind,rfl,rfl,Nat.le_refl _,λy z c h1 h2=>?_,λy hy=>?_,λy c _ h=>?_,λ_=>hd,Around.frames_deeper e0.frames,.inr ⟨rfl,rfl⟩,λb z=>absurd z (noA b),e0.bs,e0.bsz,λb _ _=>noA b,λb z=>absurd z (noA b),e0.funs,e0.frf⟩,
  rfl,e0.bare,Un.kept hk,⟨_,x.toInCall.ns,λi y v h1 h2 h3=>?_⟩,λy c h=>⟨_,x.cell y c h⟩,e0.hok.fresh (Nat.le_refl _),λy c h=>?_,λp hp=>absurd (show p∈([]:List (Addr×Obj)) from hp) (by simp),e0.hok.kept hk,?_⟩
 ·exact name_of_addr x.apart (PySem.mem_of_lookup h1) (PySem.mem_of_lookup h2)
 ·have hy:scope.names.lookup y=some .cell\/scope.names.lookup y=some .free:=hy;rcases hy with hy|hy
  ·exact cell_has hy
  ·exact absurd rfl (S.nofree _ (PySem.mem_of_lookup hy))
 ·exact Nat.le_of_lt (x.above y c (PySem.mem_of_lookup h))
 ·have hi:i<vs.length:=by
   unfold start at h2;by_cases hi:i<vs.length
   ·exact hi
   ·rw[List.getElem?_append_right (by simpa using hi)]at h2;rw[List.getElem?_replicate]at h2;split at h2 <;> cases h2
  have ha:vs[i]?=some v:=by
   unfold start at h2;rw[List.getElem?_append_left (by simpa using hi),List.getElem?_map]at h2
   cases e:vs[i]? with
   |none=>rw[e]at h2;cases h2
   |some a=>rw[e]at h2;cases h2;rfl
  obtain⟨u,hu,rv⟩:=r.get ha
  have hp:ps[i]?=some y:=by
   rw[←S.pre,List.getElem?_take_of_lt (by omega)];exact h1
  have ndP:ps.Nodup:=by rw[←S.pre];exact S.nd.sublist (List.take_sublist _ _)
  refine⟨u,rv,?_⟩;rcases S.par y (List.mem_of_getElem? hp) with k|k
  ·exact .inl ⟨k,bindL_get ndP hp hu k⟩
  ·obtain⟨c,e⟩:=cell_has (n:=s.heap.objs.size+ 1) k;refine .inr ⟨.inl k,c,e,?_⟩;have q:=x.cell y c e;rw[bindC_get ndP hp hu (by show scope.names.lookup y≠_;rw[k];decide)]at q;exact q
 ·exact e0.hok.fresh (Nat.le_of_lt (x.above y c (PySem.mem_of_lookup h)))
 ·unfold start;show _=N.length;rw[List.length_append,List.length_map,List.length_replicate];omega
theorem fn_of {CX:CXT}{P:Program}{w:World}{K:PySem.W.Frag}{mg:Str->Option Value}{base:Heap}{k:Nat}{f:Addr}{name qual:Str}{params:Arguments}{body:List Stmt}{scope:Scope}{dV kV doc pm cdv ct oc:Value}{an od:Option Addr}
 {osl:Array (Option Value)} {N ps:List Str} {sp:Sp} (lk:K.lookup f=some ⟨oc,od,.func (PySem.W.fnOf name qual params body scope dV kV doc pm an cdv ct),osl⟩) (hcd:PySem.W.codeIn K cdv qual=true) (S:FnScope N ps scope)
 (len:∀vs H Q E,sp vs H Q E->vs.length=ps.length)
 (hbody:∀(A:Around) (outer:List Env) (s:Shared) (H:Hp) (vs:List V) (Q:VK) (E:XK),Room k (A.deeper (envOfC qual scope s.heap.objs.size f cdv))->sp vs H Q E->
  ∃t,PSs (cxOf CX P w K mg base N qual scope f cdv A outer s H E) body t/\t { nx:=λ_ H'=>Q .non H',rt:=Q } (start N vs) H):
 FnOk P w K mg base CX (k+ 1) f (PySem.W.fnOf name qual params body scope dV kV doc pm an cdv ct) ps sp:=by
 refine⟨len,λA outer s H args us vs Q E hr e0 hb r hsp=>?_⟩;have hl:=len _ _ _ _ hsp;have KX:K.In s.heap:=e0.mod.kin.keeps λb o e=>(e0.bs b o e).1
 have lim:s.heap.NoLimit:=e0.mod.nolimit.keeps λb o e=>(e0.bs b o e).1
 have hkind:∀y∈ps.zip us,scope.names.lookup y.1=some .local\/(scope.names.lookup y.1=some .cell/\((cellsFrom (s.heap.objs.size+ 1) scope.names []).lookup y.1).isSome=true):=λ⟨n,v⟩ hy=>by
  rcases S.par n (List.of_mem_zip hy).1 with q|q
  ·exact .inl q
  ·exact .inr ⟨q,PySem.W.cellsFrom_some _ _ _ (.inl q)⟩
 refine codeAny_call_function hr.depth (KX _ _ lk) rfl S.co S.gen rfl (PySem.W.codeRec_of KX hcd) (hb _ _ _ _ ?_);refine wpAny_newFunctionEnv_cells S.kind hkind λenv he s1 x=>?_
 subst he;refine⟨lim.keeps x.toInCall.keep,codeAny_func ?_⟩;obtain⟨t,ht,hq⟩:=hbody A outer s H vs Q E (hr.deeper _) hsp;have I:Inv (cxOf CX P w K mg base N qual scope f cdv A outer s H E) [] (start N vs) H s1:=inv_start S hr.hd e0 hl r x;refine wpAny_mono (ht [] s1 (start N vs) H _ I hq) (λfl s' hs=>?_) λe s' hs=>hs
 have fin:∀{σ':St} {H':Hp} {v:V} {u:Value},Inv (cxOf CX P w K mg base N qual scope f cdv A outer s H E) [] σ' H' s'->RelV v u->Q v H'->CE outer P w H s Q u s':=
  λ{σ' H' v u} J rv q=>⟨v,H',J.os,J.bare,J.base,J.hok,rv,q⟩
 cases fl with
 |ret u=>
  obtain⟨v,σ',H',J,rv,q⟩:=hs;exact fin J rv q
 |next=>
  obtain⟨σ',H',J,q⟩:=hs;exact fin (v:=V.non) (u:=Value.none) J rfl q
 |brk=>
  obtain⟨_,_,_,q⟩:=hs;exact False.elim q
 |cont=>
  obtain⟨_,_,_,q⟩:=hs;exact False.elim q
end L2
namespace L2
open PySem PySem.Spec PyProof.Rows
section
variable {X:Cx} {x:Str} {p pos:Pos} {e:Expr} {es:List Expr} {t:TA} {id T:String} {r:List V->Hp->VK->Prop}
def tCB (r:List V->Hp->VK->Prop)(t:TA):TE:=λ σ H Q=>t σ H λvs H1=>r vs H1 Q
theorem pe_callB (hc:CallR X (.builtin id) r)(hg:Gl X x)(hm:X.mg x=none)(hv:bootBuiltins x=some (.builtin id))(ha:PA X (e::es) t)(hn:x≠"__name__":=by decide)(hdb:(x==("__debug__":Str))=false:=by decide)
 (he:starEach (e::es) X.env=(false,eval e X.env)::starEach es X.env:=by rfl) (hpl:(backTo pos (starEach es X.env)).any (·.1)=false:=by rfl):PE X (.Call (.Name x p) (e::es) [] pos) (tCB r t):=by
 intro pins s σ H Q I h;refine wpAny_Call_Name_kw (ld_blt I hg hm hv ?_ hn hdb);exact PyProof.Rows.callWith_builtin1 (thn (ha pos pins s σ H _ I h) λus s1 ⟨vs,H1,I1,r1,q1⟩=>hc pins s1 σ H1 vs us Q I1 r1 q1) he hpl
theorem pe_callTy (hc:CallR X (.type T) r)(hg:Gl X x)(hm:X.mg x=none)(hv:bootBuiltins x=some (.type T))(ha:PA X (e::es) t)(hn:x≠"__name__":=by decide)(hdb:(x==("__debug__":Str))=false:=by decide)
 (he:starEach (e::es) X.env=(false,eval e X.env)::starEach es X.env:=by rfl) (hpl:(backTo pos (starEach es X.env)).any (·.1)=false:=by rfl):PE X (.Call (.Name x p) (e::es) [] pos) (tCB r t):=by
 intro pins s σ H Q I h;refine wpAny_Call_Name_kw (ld_blt I hg hm hv ?_ hn hdb);exact PyProof.Rows.callWith_type1 (thn (ha pos pins s σ H _ I h) λus s1 ⟨vs,H1,I1,r1,q1⟩=>hc pins s1 σ H1 vs us Q I1 r1 q1) he hpl
end
end L2
namespace HT
open PySem PyProof.Rows
section
open PySem.SeqAt
open PySem.AutoSeq1 (wpAny_loadPart')
open PySem.MeetsSeq PySem.MeetsSeq2 PySem.MeetsSeq3
end
section
variable {prog:Program} {w:World} {A:Around} {E:Value->Shared->Prop} {s:Shared}
theorem cat_tup {t b:Addr}{vs ws:List Value}{Q:Value->Shared->Prop}(ht:IsTup s.heap t vs.toArray)(hb:IsTup s.heap b ws.toArray)(hv:vs≠[])
 (h1:ws=[]->Q (.ref t) s) (h2:ws≠[]->Q (.ref s.heap.objs.size) { s with heap:=s.heap.push { cls:=.type "tuple",data:=.seq (vs++ws).toArray } })
 (hsz:vs.length+ ws.length<=sizeLine):wpAny (model prog w) A (binaryOp .Add (.ref t) (.ref b)) Q E s:=by
 obtain⟨⟨cls,dd,data,sl⟩,ho,hc,n,hd⟩:=id ht;obtain⟨⟨cls2,dd2,data2,sl2⟩,ho2,hc2,n2,hd2⟩:=id hb;simp only at hc hd hc2 hd2;subst hc hd hc2 hd2;have e:vs.toArray++ws.toArray=(vs++ws).toArray:=by simp
 by_cases hw:ws=[]
 ·exact concat_meets ⟨_,ho,rfl⟩ ⟨_,ho2,rfl⟩ noFill_tuple_add seq_tuple_add PySem.F.slot_tuple_add PySem.F.entry_tuple_add (PySem.F.args_tuple_add_2 _ _)
   (tuple_addW1 t b vs.toArray ws.toArray n n2 dd dd2 sl sl2 (by simpa using hv) (by simp[hw])) ⟨ho,ho2,h1 hw⟩
 ·refine concat_meets ⟨_,ho,rfl⟩ ⟨_,ho2,rfl⟩ noFill_tuple_add seq_tuple_add PySem.F.slot_tuple_add PySem.F.entry_tuple_add (PySem.F.args_tuple_add_2 _ _)
   (tuple_addW2 t b vs.toArray ws.toArray n n2 dd dd2 sl sl2 (by simpa using hv) (by simpa using hw) (by rw[List.size_toArray,List.size_toArray];exact hsz)) ⟨ho,ho2,?_⟩
  rw[e];exact h2 hw
def sIx (n d:Nat):Option Int->Nat
 |none=>d
 |some v=>if v<0 then (v+ (n:Int)).toNat else min v.toNat n
theorem sIx_nat (n d k:Nat):sIx n d (some (k:Int))=min k n:=by
 show (if (k:Int)<0 then ((k:Int)+ (n:Int)).toNat else min (k:Int).toNat n)=min k n;rw[if_neg (by omega),Int.toNat_natCast]
theorem sIx_le (n d:Nat)(hd:d<=n)(o:Option Int):sIx n d o<=n:=by
 cases o with
 |none=>exact hd
 |some v=>
  show (if v<0 then (v+ (n:Int)).toNat else min v.toNat n)<=n;by_cases hv:v<0
  ·rw[if_pos hv];omega
  ·rw[if_neg hv];exact Nat.min_le_right _ _
theorem clip_eq (v:Int)(n d:Nat):(if v<0 then max (v+ (n:Int)) 0 else min v (n:Int))=((sIx n d (some v):Nat):Int):=by
 show (if v<0 then max (v+ (n:Int)) 0 else min v (n:Int))=(((if v<0 then (v+ (n:Int)).toNat else min v.toNat n):Nat):Int);by_cases hv:v<0
 ·simp only[if_pos hv];omega
 ·simp only[if_neg hv];omega
theorem adjust_gen (lo hi:Option Int)(n:Nat):Builtin.Slice.sliceAdjust lo hi 1 (n:Int)=(((sIx n 0 lo:Nat):Int),((sIx n n hi:Nat):Int)):=by
 have h1:¬((1:Int)<0):=by omega
 unfold Builtin.Slice.sliceAdjust;simp only[h1,if_false];refine Prod.ext ?_ ?_
 ·cases lo with
  |none=>rfl
  |some v=>exact clip_eq v n 0
 ·cases hi with
  |none=>rfl
  |some v=>exact clip_eq v n n
theorem places_gen (i j:Nat):Builtin.Slice.slicePlaces (i:Int) (j:Int) 1=j - i:=by
 unfold Builtin.Slice.slicePlaces;have h1:(1:Int) > 0:=by omega
 simp only[h1,if_true,Int.ediv_one];split <;> omega
theorem slicePart_ {v:Value}{o:Option Int}{Q:Option Int->Shared->Prop}(p:IsPart v o)(h:Q o s):wpAny (model prog w) A (Builtin.Slice.slicePartIndex v) Q E s:=by
 cases p with
 |none=>exact slicePart_none h
 |int i t=>exact slicePart_int h
theorem sliceApplied_gen {sl:Addr}{vl vu:Value}{lo hi:Option Int}{n:Nat}{Q:Int×Int×Nat->Shared->Prop}(hs:s.heap.IsSliceOf sl vl vu .none)(pl:IsPart vl lo)(pu:IsPart vu hi)
 (h:Q (((sIx n 0 lo:Nat):Int),1,sIx n n hi - sIx n 0 lo) s):wpAny (model prog w) A (Builtin.Slice.sliceApplied (.ref sl) (pure (n:Int))) Q E s:=by
 obtain⟨os,hos,hcs,hds⟩:=id hs;unfold Builtin.Slice.sliceApplied Builtin.Slice.sliceFields;refine wpAny_bind (wpAny_bind (wpAny_field hos hds (x:=vl) rfl (wpAny_bind (wpAny_field hos hds (x:=vu) rfl (wpAny_bind (wpAny_field hos hds (x:=.none) rfl (wpAny_pure ?_)))))));refine wpAny_bind (slicePart_none ?_);show wpAny _ _ (if ((1:Int)==0)=true then _ else _) _ _ s;rw[if_neg (by decide)];refine wpAny_bind (slicePart_ pl (wpAny_bind (slicePart_ pu (wpAny_bind (wpAny_pure ?_)))));show wpAny _ _ (match Builtin.Slice.sliceAdjust lo hi 1 (n:Int) with|(lo,hi)=>pure (lo,(1:Int),Builtin.Slice.slicePlaces lo hi 1)) _ _ s;rw[adjust_gen lo hi n];show wpAny _ _ (pure (((sIx n 0 lo:Nat):Int),(1:Int),Builtin.Slice.slicePlaces ((sIx n 0 lo:Nat):Int) ((sIx n n hi:Nat):Int) 1)) _ _ s;rw[places_gen];exact wpAny_pure h
theorem pick_gen (xs:Array Value)(i k:Nat):((List.range k).filterMap λ(m:Nat)=>xs[((i:Int)+ (m:Int)* 1).toNat]?).toArray=((xs.toList.drop i).take k).toArray:=by
 have e:(λ(m:Nat)=>xs[((i:Int)+ (m:Int)* 1).toNat]?)=λm=>xs[i+ m]?:=by
  funext m
  have:((i:Int)+ (m:Int)* 1).toNat=i+ m:=by omega
  rw[this]
 rw[e];have:=pick_run xs i k;rw[List.filterMap_map]at this;have e2:((λx=>xs[x]?) ∘ λx=>i+ x)=λm=>xs[i+ m]?:=rfl
 rw[e2]at this;rw[this]
theorem getItem_tuple_cut {t sl:Addr}{items:Array Value}{vl vu:Value}{lo hi:Option Int}{Q:Value->Shared->Prop}(ht:IsTup s.heap t items)(hs:s.heap.IsSliceOf sl vl vu .none)(pl:IsPart vl lo)(pu:IsPart vu hi)
 (hw:¬(sIx items.size 0 lo=0/\sIx items.size items.size hi=items.size))
 (h:Q (.ref s.heap.objs.size) { s with heap:=s.heap.push { cls:=.type "tuple",data:=.seq ((items.toList.drop (sIx items.size 0 lo)).take (sIx items.size items.size hi - sIx items.size 0 lo)).toArray } })
 (hsz:items.size<=sizeLine):wpAny (model prog w) A (getItem (.ref t) (.ref sl)) Q E s:=by
 have htake:sizeOk (.seq ((items.toList.drop (sIx items.size 0 lo)).take (sIx items.size items.size hi - sIx items.size 0 lo)).toArray):=by
  show ((items.toList.drop (sIx items.size 0 lo)).take (sIx items.size items.size hi - sIx items.size 0 lo)).toArray.size<=sizeLine;rw[List.size_toArray,List.length_take,List.length_drop,Array.length_toList];omega
 have hj:sIx items.size items.size hi<=items.size:=sIx_le _ _ (Nat.le_refl _) hi;obtain⟨os,hos,hcs,hds⟩:=id hs;have hTs:s.TypeIs (.ref sl) "slice":=⟨os,hos,hcs⟩;unfold getItem
 try with_reducible refine wpAny_holding ?_
 first|refine wpAny_bind (wpAny_pure ?_)|skip
 refine wpAny_bind (wpAny_sequenceKey ht.typeIs (by decide) ?_)
 refine wpAny_bind (wpAny_callSpecial?_slot (name:=Str.ofString "__getitem__") ht.typeIs PyProof.Rows.slot_tuple_getitem
  (wpAny_call_entry PyProof.Rows.slot_tuple_getitem ht.typeIs entry_tuple_getitem ?_ (args_tuple_getitem _ _)))
 show wpAny _ _ (Builtin.Tuple.tupleItemsOf (.ref t) >>=_) _ _ s;refine wpAny_bind (tupleItemsOf_ ht ?_);refine wpAny_bind (wpAny_typeOf hTs ?_);rw[if_pos (by decide)];refine wpAny_bind (sliceApplied_gen hs pl pu ?_)
 have hno:¬((((sIx items.size 0 lo:Nat):Int)==0 && (1:Int)==1 && (sIx items.size items.size hi - sIx items.size 0 lo)==items.size)=true):=by
  intro q;rw[Bool.and_eq_true,Bool.and_eq_true]at q;have q1:((sIx items.size 0 lo:Nat):Int)=0:=eq_of_beq q.1.1;have q2:sIx items.size items.size hi - sIx items.size 0 lo=items.size:=eq_of_beq q.2;exact hw ⟨by omega,by omega⟩
 show wpAny _ _ (if (((sIx items.size 0 lo:Nat):Int)==0 && (1:Int)==1 && (sIx items.size items.size hi - sIx items.size 0 lo)==items.size)=true then _ else _) _ _ s;rw[if_neg hno,pick_gen]
 first
  |exact wpAny_bind (m:=Builtin.Tuple.tupleExact _) (wpAny_newObj_type (wpAny_pure ⟨_,rfl,wpAny_pure h⟩) htake)
  |exact wpAny_bind (m:=Builtin.Tuple.tupleExact _) (wpAny_newObj_type (wpAny_bind (wpAny_pure (wpAny_pure ⟨_,rfl,wpAny_pure h⟩))) htake)
  |exact wpAny_bind (wpAny_bind (m:=Builtin.Tuple.tupleExact _) (wpAny_newObj_type (wpAny_pure (wpAny_pure ⟨_,rfl,wpAny_pure h⟩)) htake))
  |exact wpAny_bind (wpAny_bind (m:=Builtin.Tuple.tupleExact _) (wpAny_newObj_type (wpAny_pure ⟨_,rfl,wpAny_pure h⟩) htake))
end
end HT
namespace L2
open PySem PySem.Spec PyProof.Rows
abbrev TO:=St->Hp->(Option Int->Hp->Prop)->Prop
def PO (X:Cx)(e:Option Expr)(t:TO):Prop:=
 ∀(pins:List (Addr×Obj)) (s:Shared) (σ:St) (H:Hp) (Q:Option Int->Hp->Prop),Inv X pins σ H s->t σ H Q->
  wpAny (model X.prog X.w) X.A (evalPart e X.env) (λu s'=>∃o H',Inv X pins σ H' s'/\IsPart u o/\Q o H') X.xe s
def tNoPart:TO:=λ_ H Q=>Q none H
def tPart (t:TE):TO:=λ σ H Q=>t σ H λx H1=>∃i,x=.int i/\Q (some i) H1
section
variable {X:Cx} {e:Expr} {te:TE} {lo hi:Option Expr} {tl th:TO} {pos p2:Pos}
theorem po_none:PO X none tNoPart:=by
 intro pins s σ H Q I h;rw[evalPart_none];exact wpAny_pure ⟨none,H,I,.none,h⟩
theorem po_some (h:PE X e te):PO X (some e) (tPart te):=by
 intro pins s σ H Q I hw;rw[evalPart_some];refine thn (h pins s σ H _ I hw) λu s1 ⟨x,H1,I1,r1,q1⟩=>?_
 obtain⟨i,rfl,q⟩:=q1;obtain⟨t,rfl⟩:=r1;exact⟨some i,H1,I1,.int i t,q⟩
def SlR (X:Cx)(r:V->Option Int->Option Int->Hp->VK->Prop):Prop:=
 ∀(pins:List (Addr×Obj)) (s:Shared) (σ:St) (H:Hp) (x:V) (v vl vu:Value) (lo hi:Option Int) (sl:Addr) (Q:VK),Inv X pins σ H s->RelV x v->s.heap.IsSliceOf sl vl vu .none->IsPart vl lo->IsPart vu hi->r x lo hi H Q->
  ∃T id,typeLookup (.type T) "__getitem__"=pure (some (.builtin id))/\s.TypeIs v T/\wpAny (model X.prog X.w) X.A (getItem v (.ref sl)) (EP X pins σ Q) X.xe s
def tSl (r:V->Option Int->Option Int->Hp->VK->Prop)(te:TE)(tl th:TO):TE:=λ σ H Q=>te σ H λx H1=>tl σ H1 λl H2=>th σ H2 λu H3=>r x l u H3 Q
theorem pe_slice {r:V->Option Int->Option Int->Hp->VK->Prop}(hr:SlR X r)(he:PE X e te)(hl:PO X lo tl)(hu:PO X hi th):PE X (.Subscript e (.Slice lo hi none p2) pos) (tSl r te tl th):=by
 intro pins s σ H Q I h;refine Subscript_ (thn (he pins s σ H _ I h) λv s1 ⟨x,H1,I1,r1,q1⟩=>?_);refine wpAny_Slice (thn (hl pins s1 σ H1 _ I1 q1) λvl s2 ⟨l,H2,I2,pl,q2⟩=>thn (hu pins s2 σ H2 _ I2 q2) λvu s3 ⟨u,H3,I3,pu,q3⟩=>?_);rw[evalPart_none];refine wpAny_pure ?_;have I4:Inv X pins σ H3 { s3 with heap:=s3.heap.push { cls:=.type "slice",data:=.fields #[vl,vu,.none] } }:=I3.kept (t':=s3.toks) λb ob q=>Heap.get?_push_of_some _ q
 obtain⟨T,id,hT,ht,hg⟩:=hr pins { s3 with heap:=s3.heap.push { cls:=.type "slice",data:=.fields #[vl,vu,.none] } } σ H3 x v vl vu l u s3.heap.objs.size Q I4 r1 (Heap.IsSliceOf.new ..) pl pu q3;show wpAny (model X.prog X.w) X.A (subscriptTail e (.Slice lo hi none p2) v (.ref s3.heap.objs.size)) (EP X pins σ Q) X.xe { s3 with heap:=s3.heap.push { cls:=.type "slice",data:=.fields #[vl,vu,.none] } };exact tail_any (ops:=[.ref s3.heap.objs.size,v]) ht hT hg (by with_unfolding_all rfl)
def cutV (xs:List V)(lo hi:Option Int):List V:=(xs.drop (HT.sIx xs.length 0 lo)).take (HT.sIx xs.length xs.length hi - HT.sIx xs.length 0 lo)
theorem cutV_length (xs:List V)(lo hi:Option Int):(cutV xs lo hi).length<=xs.length:=by
 unfold cutV;rw[List.length_take,List.length_drop];omega
def rSlT (K:PySem.W.Frag):V->Option Int->Option Int->Hp->VK->Prop:=λx lo hi H Q=>∃a xs,x=.ref a/\SqT K H a xs/\
 ¬(HT.sIx xs.length 0 lo=0/\HT.sIx xs.length xs.length hi=xs.length)/\∀p,H p=none->Q (.ref p) (upd H p (.tup (cutV xs lo hi)))
theorem sl_tup:SlR X (rSlT X.K):=by
 intro pins s σ H x v vl vu lo hi sl Q I rx hs pl pu h;obtain⟨a,xs,rfl,hx,hw,q⟩:=h;cases rx;obtain⟨its,r,ht,hz⟩:=I.tuple hx;have hlen:its.toArray.size=xs.length:=by rw[List.size_toArray];exact r.length.symm
 refine⟨"tuple",_,PyProof.Rows.slot_tuple_getitem.lookup,ht.typeIs,?_⟩;refine HT.getItem_tuple_cut ht hs pl pu (by rw[hlen];exact hw) ?_ (by rw[hlen];exact hz);rw[hlen];refine⟨.ref s.heap.objs.size,_,I.laid (t':=s.toks) (o:=.tup (cutV xs lo hi)) (λb ob q=>Heap.get?_push_of_some _ q) (Nat.le_refl _) ?_,rfl,q _ (I.hok.fresh (Nat.le_refl _))⟩;exact⟨Nat.le_trans (cutV_length xs lo hi) hz,_,(r.drop (HT.sIx xs.length 0 lo)).take (HT.sIx xs.length xs.length hi - HT.sIx xs.length 0 lo),IsTup.new _ _⟩
def rCatT (K:PySem.W.Frag):R2:=λx y H Q=>∃a b xs ys,x=.ref a/\y=.ref b/\SqT K H a xs/\SqT K H b ys/\xs≠[]/\xs.length+ ys.length<=sizeLine/\
 (ys=[]->Q (.ref a) H)/\(ys≠[]->∀p,H p=none->Q (.ref p) (upd H p (.tup (xs++ys))))
theorem Vals.nil_iff {xs:List V}{us:List Value}(r:Vals xs us):us=[]↔xs=[]:=by
 cases r with
 |nil=>simp
 |cons _ _=>simp
theorem op_catT:OpR X (binaryOp .Add) (rCatT X.K):=by
 intro pins s σ H x y v u Q I rx ry h;obtain⟨a,b,xs,ys,rfl,rfl,ha,hb,hx,hz,q1,q2⟩:=h;cases rx;cases ry;obtain⟨its,r1,p1,_⟩:=I.tuple ha;obtain⟨its2,r2,p2,_⟩:=I.tuple hb;refine HT.cat_tup p1 p2 (λz=>hx (r1.nil_iff.mp z)) (λz=>⟨.ref a,H,I,rfl,q1 (r2.nil_iff.mp z)⟩) (λz=>?_) (by rw[←r1.length,←r2.length];exact hz);refine⟨.ref s.heap.objs.size,_,I.laid (t':=s.toks) (o:=.tup (xs++ys)) (λb ob q=>Heap.get?_push_of_some _ q) (Nat.le_refl _) ?_,rfl,q2 (λw=>z (r2.nil_iff.mpr w)) _ (I.hok.fresh (Nat.le_refl _))⟩;exact⟨by rw[List.length_append];exact hz,_,r1.append r2,IsTup.new _ _⟩
end
end L2
namespace L2
open PySem PySem.Spec PyProof.Rows
def ixN (n:Nat)(i:Int):Option Nat:=if 0<=i then (if i<n then some i.toNat else none) else if -(n:Int)<=i then some (i+ n).toNat else none
def atI {α:Type}(xs:List α)(i:Int):Option α:=(ixN xs.length i).bind λj=>xs[j]?
theorem ixN_seq {n:Nat}{i:Int}{j:Nat}(h:ixN n i=some j):seqIndex? i n=some j/\j<n/\-(n:Int)<=i/\i<n:=by
 unfold ixN at h;by_cases h0:0<=i
 ·rw[if_pos h0]at h;by_cases h1:i<n
  ·rw[if_pos h1]at h;have e:i.toNat=j:=Option.some.inj h;exact⟨by rw[seqIndex_of h0 h1,e],by omega,by omega,h1⟩
  ·rw[if_neg h1]at h;cases h
 ·rw[if_neg h0]at h;by_cases h1: -(n:Int)<=i
  ·rw[if_pos h1]at h;have e:(i+ n).toNat=j:=Option.some.inj h;exact⟨by rw[seqIndex_neg (by omega) h1,e],by omega,h1,by omega⟩
  ·rw[if_neg h1]at h;cases h
theorem atI_get {α:Type}{xs:List α}{i:Int}{v:α}(h:atI xs i=some v):∃j,seqIndex? i xs.length=some j/\xs[j]?=some v/\j<xs.length/\-(xs.length:Int)<=i/\i<xs.length:=by
 unfold atI at h
 cases e:ixN xs.length i with
 |none=>rw[e]at h;cases h
 |some j=>
  rw[e]at h;obtain⟨h1,h2,h3,h4⟩:=ixN_seq e;exact⟨j,h1,h,h2,h3,h4⟩
theorem atI_nat {α:Type}{xs:List α}{j:Nat}{v:α}(h:xs[j]?=some v):atI xs (j:Int)=some v:=by
 have hj:j<xs.length:=(List.getElem?_eq_some_iff.mp h).1
 have e:ixN xs.length (j:Int)=some j:=by
  unfold ixN;rw[if_pos (by omega),if_pos (by omega)];simp
 unfold atI;rw[e];exact h
def PlainIx (b:Expr):Prop:=∀o i,subscripted b false o i=operate [o,i] (getItem o i)
def IxR (X:Cx)(r:R2):Prop:=
 ∀(value slice:Expr) (pins:List (Addr×Obj)) (s:Shared) (σ:St) (H:Hp) (x y:V) (v u:Value) (Q:VK),Inv X pins σ H s->RelV x v->RelV y u->r x y H Q->
  subscripted slice false v u=operate [v,u] (getItem v u)->wpAny (model X.prog X.w) X.A (subscriptTail value slice v u) (EP X pins σ Q) X.xe s
def MtR (X:Cx)(id:String)(r:V->List V->Hp->VK->Prop):Prop:=
 ∀(pins:List (Addr×Obj)) (s:Shared) (σ:St) (H:Hp) (x:V) (xs:List V) (v:Value) (us:List Value) (Q:VK),Inv X pins σ H s->RelV x v->Vals xs us->r x xs H Q->
  wpAny (model X.prog X.w) X.A (call (.builtin id) (v::us)) (EP X pins σ Q) X.xe s
section
variable {X:Cx} {a b:Expr} {ta tb:TE} {pos:Pos}
theorem pe_ix {r:R2}(hr:IxR X r)(ha:PE X a ta)(hb:PE X b tb)(hs:PlainIx b):PE X (.Subscript a b pos) (tOp r ta tb):=by
 intro pins s σ H Q I h;exact Subscript_ (binT ha hb I h λv u s2 x y H2 I2 rx ry q=>hr a b pins s2 σ H2 x y v u Q I2 rx ry q (hs _ _))
def rIxL (K:PySem.W.Frag):R2:=λx y H Q=>∃p xs i v,x=.ref p/\y=.int i/\SqL K H p xs/\atI xs i=some v/\Q v H
def rIxT (K:PySem.W.Frag):R2:=λx y H Q=>∃p xs i v,x=.ref p/\y=.int i/\SqT K H p xs/\atI xs i=some v/\Q v H
theorem ix_list:IxR X (rIxL X.K):=by
 intro value slice pins s σ H x y v u Q I rx ry h hs;obtain⟨p,xs,i,z,rfl,rfl,hq,he,q⟩:=h;cases rx;obtain⟨t,rfl⟩:=ry;obtain⟨its,r,pl,hz⟩:=I.list hq;obtain⟨j,h1,h2,h3,h4,h5⟩:=atI_get he;obtain⟨w,ew,rw'⟩:=r.get h2;have hl:=r.length;have hn:=line63;have fin:EP X pins σ Q w s:=⟨z,H,I,rw',q⟩;by_cases h0:0<=i
 ·have hj:i.toNat=j:=by
   rw[seqIndex_of h0 h5]at h1;exact Option.some.inj h1
  exact item_listR pl.isList h0 (by omega) (by rw[hj];simpa using ew) fin hs
 ·have hj:(i+ (its.toArray.size:Int)).toNat=j:=by
   rw[seqIndex_neg (by omega) h4]at h1;rw[List.size_toArray,←hl];exact Option.some.inj h1
  exact subscriptTail_builtinR (x:=w) pl.isList.typeIs slot_list_getitem.lookup
   (wpAny_getItem_list_neg (Q:=λr s'=>r=w/\EP X pins σ Q r s') pl.isList (by omega) (by rw[List.size_toArray] <;> omega) (by omega) (by rw[hj];simpa using ew) ⟨rfl,fin⟩) hs
theorem ix_tup:IxR X (rIxT X.K):=by
 intro value slice pins s σ H x y v u Q I rx ry h hs;obtain⟨p,xs,i,z,rfl,rfl,hq,he,q⟩:=h;cases rx;obtain⟨t,rfl⟩:=ry;obtain⟨its,r,pl,hz⟩:=I.tuple hq;obtain⟨j,h1,h2,h3,h4,h5⟩:=atI_get he;obtain⟨w,ew,rw'⟩:=r.get h2;have hl:=r.length;have hn:=line63;have fin:EP X pins σ Q w s:=⟨z,H,I,rw',q⟩
 exact subscriptTail_builtinR (x:=w) pl.typeIs slot_tuple_getitem.lookup
  (getItem_tuple (j:=j) (Q:=λr s'=>r=w/\EP X pins σ Q r s') pl (by omega) (by omega) (by rw[List.size_toArray,←hl];exact h1) (by simpa using ew) ⟨rfl,fin⟩) hs
theorem mapSeq_set (its:List Value)(n j:Nat)(u:Value):Obj.mapSeq (·.setIfInBounds j u) { cls:=.type "list",data:=.seq its.toArray n }={ cls:=.type "list",data:=.seq (its.set j u).toArray n }:=by
 simp[Obj.mapSeq]
theorem Inv.lst {pins:List (Addr×Obj)}{σ:St}{H:Hp}{s:Shared}{p:Addr}{xs:List V}(I:Inv X pins σ H s)(h:H p=some (.lst xs)):
 ∃(its:List Value) (n:Nat),Vals xs its/\s.heap.get? p=some { cls:=.type "list",data:=.seq its.toArray n }/\xs.length<=sizeLine:=by
 obtain⟨z,its,n,r,e⟩:=I.hok p _ h;exact⟨its,n,r,e,z⟩
theorem Inv.lstUpd {pins:List (Addr×Obj)}{σ:St}{H:Hp}{s:Shared}{p:Addr}{xs ys:List V}{its its':List Value}{n n':Nat}{f:Obj->Obj}(I:Inv X pins σ H s)(h:H p=some (.lst xs))
 (ho:s.heap.get? p=some { cls:=.type "list",data:=.seq its.toArray n }) (hf:f { cls:=.type "list",data:=.seq its.toArray n }={ cls:=.type "list",data:=.seq its'.toArray n' }) (r:Vals ys its') (hz:ys.length<=sizeLine) (t:Nat):
 Inv X pins σ (upd H p (.lst ys)) { s with heap:=s.heap.update p f,toks:=t }:=by
 have e:(s.heap.update p f).get? p=some { cls:=.type "list",data:=.seq its'.toArray n' }:=by
  rw[Heap.get?_update_self f ho (by rw[hf] <;> rfl),hf]
 refine I.write (x:=p) (e:=p) (by rw[h];trivial) (.inl rfl) (λb u hb q=>(Heap.get?_update_other _ _ (Ne.symm hb)).trans q) ⟨_,e⟩ ?_;exact⟨hz,its',n',r,e⟩
def rSetL:V->V->V->Hp->(Hp->Prop)->Prop:=λo i v H Q=>∃p xs k j,o=.ref p/\i=.int k/\H p=some (.lst xs)/\ixN xs.length k=some j/\Q (upd H p (.lst (xs.set j v)))
theorem set_list:PSet X rSetL:=by
 intro pins s σ H o i v ov iv u Q I ro ri rv h;obtain⟨p,xs,k,j,rfl,rfl,hp,hj,q⟩:=h;cases ro;obtain⟨t,rfl⟩:=ri;obtain⟨its,n,r,ho,hz⟩:=I.lst hp;obtain⟨h1,h2,h3,h4⟩:=ixN_seq hj;have hl:=r.length;have hn:=line63
 have I':Inv X pins σ (upd H p (.lst (xs.set j v))) { s with heap:=s.heap.update p (Obj.mapSeq (·.setIfInBounds j u)) }:=
  I.lstUpd hp ho (mapSeq_set its n j u) (r.set rv j) (by rw[List.length_set];exact hz) s.toks
 by_cases h0:0<=k
 ·have hk:k.toNat=j:=by
   rw[seqIndex_of h0 h4]at h1;exact Option.some.inj h1
  exact PySem.W.ki_setAt ho h0 (by omega) (by rw[List.size_toArray,←hl];exact h4) (by rw[hk];exact⟨_,I',q⟩)
 ·have hk:(k+ (its.toArray.size:Int)).toNat=j:=by
   rw[seqIndex_neg (by omega) h3]at h1;rw[List.size_toArray,←hl];exact Option.some.inj h1
  exact PySem.W.ki_setBack ho (by omega) (by rw[List.size_toArray,←hl];exact h3) (by omega) (by rw[hk];exact⟨_,I',q⟩)
theorem slice_bounds (lo hi:Option Int)(n:Nat):(sliceBounds lo hi none n).1=((HT.sIx n 0 lo:Nat):Int)/\(sliceBounds lo hi none n).2.1=((HT.sIx n n hi:Nat):Int)/\(sliceBounds lo hi none n).2.2=1:=by
 refine⟨?_,?_,rfl⟩
 ·cases lo with
  |none=>simp[sliceBounds,HT.sIx]
  |some i=>
   simp only[sliceBounds,HT.sIx,Option.getD_none,show (1:Int) > 0 by decide,if_true];by_cases h:i<0
   ·simp only[h,if_true] <;> omega
   ·simp only[h,if_false] <;> omega
 ·cases hi with
  |none=>simp[sliceBounds,HT.sIx]
  |some i=>
   simp only[sliceBounds,HT.sIx,Option.getD_none,show (1:Int) > 0 by decide,if_true];by_cases h:i<0
   ·simp only[h,if_true] <;> omega
   ·simp only[h,if_false] <;> omega
theorem slicePick_cut (its:List Value)(lo hi:Option Int):slicePick its.toArray lo hi none=((its.drop (HT.sIx its.length 0 lo)).take (HT.sIx its.length its.length hi - HT.sIx its.length 0 lo)).toArray:=by
 obtain⟨h1,h2,h3⟩:=slice_bounds lo hi its.toArray.size;unfold slicePick;rw[h1,h2,h3];simp only[sliceRange_one,pick_run,List.size_toArray] <;> rfl
def rSlL (K:PySem.W.Frag):V->Option Int->Option Int->Hp->VK->Prop:=λx lo hi H Q=>∃a xs,x=.ref a/\SqL K H a xs/\∀p,H p=none->Q (.ref p) (upd H p (.lst (cutV xs lo hi)))
theorem sl_list:SlR X (rSlL X.K):=by
 intro pins s σ H x v vl vu lo hi sl Q I rx hs pl pu h;obtain⟨a,xs,rfl,hx,q⟩:=h;cases rx;obtain⟨its,r,ht,hz⟩:=I.list hx;have hlen:=r.length;refine⟨"list",_,slot_list_getitem.lookup,ht.isList.typeIs,?_⟩;refine wpAny_getItem_list_slice ht.isList hs pl pu .none (by simp) ?_ (by rw[List.size_toArray] <;> omega);rw[slicePick_cut,←hlen];refine⟨.ref s.heap.objs.size,_,I.laid (t':=s.toks) (o:=.lst (cutV xs lo hi)) (λb ob q=>Heap.get?_push_of_some _ q) (Nat.le_refl _) ?_,rfl,q _ (I.hok.fresh (Nat.le_refl _))⟩;exact⟨Nat.le_trans (cutV_length xs lo hi) hz,_,0,(r.drop (HT.sIx xs.length 0 lo)).take (HT.sIx xs.length xs.length hi - HT.sIx xs.length 0 lo),Heap.get?_push_size _ rfl⟩
theorem call_len_seq:CallR X (.builtin "len") (λxs H Q=>∃p ys,xs=[.ref p]/\(SqL X.K H p ys\/SqT X.K H p ys)/\Q (.int ys.length) H):=by
 intro pins s σ H xs us Q I r h;obtain⟨p,ys,rfl,hq,q⟩:=h;obtain⟨u,rfl,rx⟩:=vals1 r;cases rx;have hn:=line63;rcases hq with hq|hq
 ·obtain⟨its,r',pl,hz⟩:=I.list hq;have hlen:=r'.length;exact Calls.call_len_list pl.isList (by simp only[List.size_toArray] <;> omega) ⟨.int ys.length,H,I.tok _,⟨s.toks+ 1,by rw[List.size_toArray,hlen]⟩,q⟩
 ·obtain⟨its,r',pl,hz⟩:=I.tuple hq;have hlen:=r'.length;exact len_tuple pl (by simp only[List.size_toArray] <;> omega) ⟨.int ys.length,H,I.tok _,⟨s.toks+ 1,by rw[List.size_toArray,hlen]⟩,q⟩
theorem call_list_of:CallR X (.type "list") (λxs H Q=>∃p ys,xs=[.ref p]/\(SqL X.K H p ys\/SqT X.K H p ys)/\∀l,H l=none->Q (.ref l) (upd H l (.lst ys))):=by
 intro pins s σ H xs us Q I r h;obtain⟨p,ys,rfl,hq,q⟩:=h;obtain⟨u,rfl,rx⟩:=vals1 r;cases rx
 have fin:∀(its:List Value),Vals ys its->ys.length<=sizeLine->∀(h':Heap) (c':Nat),(∀b o',s.heap.get? b=some o'->h'.get? b=some o')->
  h'.get? s.heap.objs.size=some { cls:=.type "list",dict:=none,data:=.seq its.toArray c',slots:=#[] }->EP X pins σ Q (.ref s.heap.objs.size) { s with heap:=h' }:=λits r' hz h' c' kp e=>
  ⟨.ref s.heap.objs.size,_,I.laid (t':=s.toks) kp (Nat.le_refl _) (show ObjOk X.prog X.w _ h' _ (.lst ys) from ⟨hz,its,c',r',e⟩),rfl,q _ (I.hok.fresh (Nat.le_refl _))⟩
 rcases hq with hq|hq
 ·obtain⟨its,r',pl,hz⟩:=I.list hq;have hlen:=r'.length;obtain⟨o,ho,hc,n,hd⟩:=pl.isList;exact call_list_seq p (.inl rfl) ho hc hd (λh' c' kp e=>fin its r' hz h' c' kp e) (by simp only[List.size_toArray] <;> omega)
 ·obtain⟨its,r',pl,hz⟩:=I.tuple hq;have hlen:=r'.length;obtain⟨o,ho,hc,n,hd⟩:=pl;exact call_list_seq p (.inr rfl) ho hc hd (λh' c' kp e=>fin its r' hz h' c' kp e) (by simp only[List.size_toArray] <;> omega)
theorem call_tuple_of:CallR X (.type "tuple") (λxs H Q=>∃p ys,xs=[.ref p]/\((SqL X.K H p ys/\∀l,H l=none->Q (.ref l) (upd H l (.tup ys)))\/(SqT X.K H p ys/\Q (.ref p) H))):=by
 intro pins s σ H xs us Q I r h;obtain⟨p,ys,rfl,h⟩:=h;obtain⟨u,rfl,rx⟩:=vals1 r;cases rx;rcases h with ⟨hq,q⟩|⟨hq,q⟩
 ·obtain⟨its,r',pl,hz⟩:=I.list hq;have hlen:=r'.length;refine call_tuple_list pl.isList (λh' kp=>?_) (by simp only[List.size_toArray] <;> omega);have I1:Inv X pins σ H { s with heap:=h' }:=I.kept (t':=s.toks) kp
  have I2:Inv X pins σ (upd H h'.objs.size (.tup ys)) { s with heap:=h'.push { cls:=.type "tuple",data:=.seq its.toArray } }:=
   I1.laid (t':=s.toks) (λb o e=>Heap.get?_push_of_some _ e) (Nat.le_refl _) (show ObjOk X.prog X.w _ _ _ (.tup ys) from ⟨hz,its,r',IsTup.new _ _⟩)
  exact⟨.ref h'.objs.size,_,I2,rfl,q _ (I1.hok.fresh (Nat.le_refl _))⟩
 ·obtain⟨its,r',pl,hz⟩:=I.tuple hq;exact call_tuple_same pl ⟨.ref p,H,I,rfl,q⟩
def tyV (K:PySem.W.Frag)(T:String)(x:V)(H:Hp):Prop:=match x with
 |.str _=>T="str"
 |.int _=>T="int"
 |.ref p=>(T="list"/\∃xs,SqL K H p xs)\/(T="tuple"/\∃o,K.lookup p=some o/\o.cls=.type "tuple"/\o.dict=none)\/
  (T="dict"/\((∃kvs,H p=some (.dK kvs))\/∃kvs,H p=some (.dT kvs)))\/(T="set"/\∃S n,H p=some (.set S n))
 |_=>False
theorem tyV_is {pins:List (Addr×Obj)}{σ:St}{H:Hp}{s:Shared}{T:String}{x:V}{v:Value}(I:Inv X pins σ H s)(r:RelV x v)(ty:tyV X.K T x H):
 s.TypeIs v T/\∀a,v=.ref a->∃ob,s.heap.get? a=some ob/\ob.dict=none:=by
 cases x with
 |str z=>
  obtain⟨t,rfl⟩:=r;cases (show T="str" from ty);exact⟨typeIs_str s z t,λ_ e=>nomatch e⟩
 |int i=>
  obtain⟨t,rfl⟩:=r;cases (show T="int" from ty);exact⟨typeIs_int s i t,λ_ e=>nomatch e⟩
 |ref p=>
  cases r;rcases ty with ⟨rfl,xs,hq⟩|⟨rfl,o,hk,hc,hd⟩|⟨rfl,hk⟩|⟨rfl,S,n,hk⟩
  ·obtain⟨its,_,pl,_⟩:=I.list hq;refine⟨pl.isList.typeIs,λa e=>?_⟩;cases e;obtain⟨o,n,e,c,hd,_⟩:=pl;exact⟨o,e,hd⟩
  ·refine⟨⟨o,I.kIn p o hk,hc⟩,λa e=>?_⟩;cases e;exact⟨o,I.kIn _ o hk,hd⟩
  ·have z:∃o,s.heap.get? p=some o/\o.ExactDict:=by
    rcases hk with ⟨kvs,hk⟩|⟨kvs,hk⟩
    ·obtain⟨_,_,_,_,o,_,_,e,ex,_⟩:=I.hok p _ hk;exact⟨o,e,ex⟩
    ·obtain⟨_,_,_,_,o,_,_,e,ex,_⟩:=I.hok p _ hk;exact⟨o,e,ex⟩
   obtain⟨o,e,ex⟩:=z;refine⟨⟨o,e,ex.1⟩,λa e2=>?_⟩;cases e2;exact⟨o,e,ex.2.1⟩
  ·obtain⟨o,_,_,_,e,ex,_⟩:=I.hok p _ hk;refine⟨⟨o,e,ex.1⟩,λa e2=>?_⟩;cases e2;exact⟨o,e,ex.2.1⟩
 |_=>exact False.elim ty
def tBM0 (K:PySem.W.Frag)(T:String)(r:V->List V->Hp->VK->Prop)(to:TE):TE:=λ σ H Q=>to σ H λx H1=>tyV K T x H1/\r x [] H1 Q
def tBM (K:PySem.W.Frag)(T:String)(r:V->List V->Hp->VK->Prop)(to:TE)(t:TA):TE:=λ σ H Q=>to σ H λx H1=>tyV K T x H1/\t σ H1 λxs H2=>r x xs H2 Q
variable {o e:Expr} {es:List Expr} {to:TE} {t:TA} {name:Str} {apos cpos:Pos} {T id:String} {r:V->List V->Hp->VK->Prop}
theorem pe_bm0 (pa:PlainAttrs T)(slot:Slot T name id)(hty:typeOf (.builtin id)=pure (.type "method_descriptor"))(hm:MtR X id r)(ho:PE X o to)
 (hbase:attributeBase o name X.env (eval o X.env)=eval o X.env:=by rfl) (hline:(apos.endLine==cpos.line)=true:=by rfl):PE X (.Call (.Attribute o name apos) [] [] cpos) (tBM0 X.K T r to):=by
 intro pins s σ H Q I h;refine wpAny_Call_method0_late hbase hline (thn (ho pins s σ H _ I h) λv s1 ⟨x,H1,I1,r1,ty,q1⟩=>?_);obtain⟨h1,h2⟩:=tyV_is I1 r1 ty;exact⟨T,id,pa,slot,hty,h1,h2,Calls.callWith_builtin rfl (PySem.evalArgs_none (hm pins s1 σ H1 x [] v [] Q I1 r1 .nil q1))⟩
theorem pe_bm (pa:PlainAttrs T)(slot:Slot T name id)(hty:typeOf (.builtin id)=pure (.type "method_descriptor"))(hm:MtR X id r)(ho:PE X o to)(ha:PA X (e::es) t)
 (hbase:attributeBase o name X.env (eval o X.env)=eval o X.env:=by rfl)
 (hfew:((backTo cpos (starEach (e::es) X.env)).all (λx=>!x.1) && (backToKw cpos (keywordEach [] X.env)).all (λx=>x.1.isSome)
  && decide ((e::es).length+ ([]:List Keyword).length+ (if ([]:List Keyword).isEmpty then 0 else 1)<30))=true:=by rfl)
 (hline:(apos.endLine==cpos.line)=true:=by rfl) (hs:starEach (e::es) X.env=(false,eval e X.env)::starEach es X.env:=by rfl) (hplain:(backTo cpos (starEach es X.env)).any (·.1)=false:=by rfl):
 PE X (.Call (.Attribute o name apos) (e::es) [] cpos) (tBM X.K T r to t):=by
 intro pins s σ H Q I h;refine wpAny_Call_method_late hbase hfew hline rfl (thn (ho pins s σ H _ I h) λv s1 ⟨x,H1,I1,r1,ty,q1⟩=>?_);obtain⟨h1,h2⟩:=tyV_is I1 r1 ty;refine⟨T,id,pa,slot,hty,h1,h2,?_⟩;have hA:=ha cpos pins s1 σ H1 _ I1 q1;rw[hs]at hA ⊢;refine Calls.callWith_builtin (by show (false || (backTo cpos (starEach es X.env)).any (·.1))=false;rw[hplain] <;> rfl) (Calls.evalArgs_plain ?_);exact thn hA λus s2 ⟨vs,H2,I2,r2,q2⟩=>hm pins s2 σ H2 x vs v us Q I2 r1 r2 q2
/- xs.append(e),list.index on a module's tuple .. are MtR facts of 06m -/
end
end L2
namespace L2
open PySem PySem.Spec PyProof.Rows
def MtM (X:Cx)(id:String)(r:V->List V->Hp->VK->Prop):Prop:=
 ∀(pins:List (Addr×Obj)) (s:Shared) (σ:St) (H:Hp) (x:V) (xs:List V) (v:Value) (us:List Value) (Q:VK),Inv X pins σ H s->RelV x v->Vals xs us->r x xs H Q->
  wpAny (model X.prog X.w) X.A (call (.builtin id) (v::us)) (EP X pins σ Q) X.xe s
theorem Vals.one:∀{x:V} {us:List Value},Vals [x] us->∃u,us=[u]/\RelV x u
 |_,_,.cons r .nil=>⟨_,rfl,r⟩
theorem Vals.two:∀{x y:V} {us:List Value},Vals [x,y] us->∃u v,us=[u,v]/\RelV x u/\RelV y v
 |_,_,_,.cons r (.cons q .nil)=>⟨_,_,rfl,r,q⟩
theorem Vals.zero:∀{us:List Value},Vals [] us->us=[]
 |_,.nil=>rfl
theorem Vals.dropLast {xs:List V}{us:List Value}(h:Vals xs us):Vals xs.dropLast us.dropLast:=by
 induction h with
 |nil=>exact .nil
 |cons r t ih=>
  cases t with
  |nil=>exact .nil
  |cons q t'=>exact .cons r ih
theorem Vals.eraseIdx:∀{xs:List V} {us:List Value} (i:Nat),Vals xs us->Vals (xs.eraseIdx i) (us.eraseIdx i)
 |_,_,_,.nil=>.nil
 |_,_,0,.cons _ t=>t
 |_,_,i+ 1,.cons r t=>.cons r (Vals.eraseIdx i t)
theorem Vals.reverse {xs:List V}{us:List Value}(h:Vals xs us):Vals xs.reverse us.reverse:=by
 induction h with
 |nil=>exact .nil
 |cons r t ih=>rw[List.reverse_cons,List.reverse_cons];exact Vals.append ih (.cons r .nil)
theorem erase_last {α:Type}(l:List α):l.eraseIdx (l.length - 1)=l.dropLast:=by
 induction l with
 |nil=>rfl
 |cons a r ih=>
  cases r with
  |nil=>rfl
  |cons b r=>
   have e:(a::b::r).length - 1=((b::r).length - 1)+ 1:=by
    have h1:(a::b::r).length=r.length+ 2:=rfl;have h2:(b::r).length=r.length+ 1:=rfl;omega
   rw[e,List.eraseIdx_cons_succ,ih]
   all_goals rfl
section
variable {X:Cx} {pins:List (Addr×Obj)} {σ:St} {H:Hp} {s:Shared} {l b:Addr} {xs ys zs:List V}
theorem Inv.lset {its its':List Value}{n:Nat}{f:Array Value->Array Value}{t':Nat}(I:Inv X pins σ H s)(hH:H l=some (.lst xs))
 (e:s.heap.get? l=some { cls:=.type "list",data:=.seq its.toArray n }) (hf:f its.toArray=its'.toArray) (hv:Vals ys its') (hz:ys.length<=sizeLine):
 Inv X pins σ (upd H l (.lst ys)) { s with heap:=s.heap.update l (Obj.mapSeq f),toks:=t' }:=by
 have q:=PySem.IsL.update e f;rw[hf]at q;refine I.write (x:=l) (e:=l) (by rw[hH];exact trivial) (.inl rfl) (λb' u hb hu=>(Heap.get?_update_other s.heap (Obj.mapSeq f) (Ne.symm hb)).trans hu) ⟨_,q⟩ ?_;exact⟨hz,its',_,hv,q⟩
theorem Inv.lnew {its:List Value}{t':Nat}(I:Inv X pins σ H s)(hv:Vals ys its)(hz:ys.length<=sizeLine):
 Inv X pins σ (upd H s.heap.objs.size (.lst ys)) { s with heap:=s.heap.push { cls:=.type "list",data:=.seq its.toArray },toks:=t' }:=
 I.laid (λ_ _ q=>Heap.get?_push_of_some _ q) (Nat.le_refl _) ⟨hz,its,0,hv,Heap.get?_push_size _ rfl⟩
theorem Inv.fresh (I:Inv X pins σ H s):H s.heap.objs.size=none:=I.hok.fresh (Nat.le_refl _)
theorem Inv.lstM (I:Inv X pins σ H s)(hH:H l=some (.lst xs)):xs.length<=sizeLine/\∃(its:List Value) (n:Nat),Vals xs its/\xs.length=its.length/\s.heap.get? l=some { cls:=.type "list",data:=.seq its.toArray n }:=by
 obtain⟨z,its,n,r,e⟩:=I.hok l _ hH;exact⟨z,its,n,r,r.length,e⟩
theorem notLongL {n:Nat}(h:n<=sizeLine):Builtin.List.listTooLong n=false:=by
 unfold Builtin.List.listTooLong;exact decide_eq_false (by omega)
end
section
variable {X:Cx}
def rAppend:V->List V->Hp->VK->Prop:=λx vs H Q=>∃l xs y,x=.ref l/\vs=[y]/\H l=some (.lst xs)/\xs.length<sizeLine/\Q .non (upd H l (.lst (xs++[y])))
theorem mt_append:MtM X "list.append" rAppend:=by
 intro pins s σ H x vs v us Q I rx rv h;obtain⟨l,xs,y,rfl,rfl,hH,hz,q⟩:=h;cases rx;obtain⟨u,rfl,ru⟩:=rv.one;obtain⟨z,its,n,r,hl,e⟩:=I.lstM hH;refine call_meets F.slot_list_append ⟨_,e,rfl⟩ F.entry_list_append (F.args_list_append_2 _ _) (PySem.list_append l its.toArray n u (by rw[List.size_toArray];omega)) ⟨e,?_⟩;refine⟨.non,_,I.lset (its':=its++[u]) hH e (by simp) (r.append (.cons ru .nil)) ?_,rfl,q⟩;rw[List.length_append,List.length_singleton];omega
def rExtend:V->List V->Hp->VK->Prop:=λx vs H Q=>∃l b xs zs,x=.ref l/\vs=[.ref b]/\H l=some (.lst xs)/\H b=some (.lst zs)/\xs.length+ zs.length<=sizeLine/\Q .non (upd H l (.lst (xs++zs)))
theorem mt_extend:MtM X "list.extend" rExtend:=by
 intro pins s σ H x vs v us Q I rx rv h;obtain⟨l,b,xs,zs,rfl,rfl,hH,hB,hz,q⟩:=h;cases rx;obtain⟨u,rfl,ru⟩:=rv.one;cases ru;obtain⟨z,its,n,r,hl,e⟩:=I.lstM hH;obtain⟨z2,its2,n2,r2,hl2,e2⟩:=I.lstM hB;have hsz:its.toArray.size+ its2.toArray.size<=sizeLine:=by rw[List.size_toArray,List.size_toArray];omega
 have hlong:¬(!its.toArray.isEmpty && Builtin.List.listTooLong (its.toArray.size+ its2.toArray.size))=true:=by
  rw[notLongL hsz,Bool.and_false];exact Bool.false_ne_true
 refine call_meets F.slot_list_extend ⟨_,e,rfl⟩ F.entry_list_extend (F.args_list_extend_2 _ _)
  (AutoSeq1.list_extend_list_list_0 l its.toArray n b its2.toArray n2 hlong (by rw[List.size_toArray];omega) (by omega)) ⟨e,e2,?_⟩
 refine⟨.non,_,I.lset (its':=its++its2) hH e (by simp) (r.append r2) ?_,rfl,q⟩;rw[List.length_append];omega
def rPop:V->List V->Hp->VK->Prop:=λx vs H Q=>∃l xs y,x=.ref l/\vs=[]/\H l=some (.lst xs)/\xs[xs.length - 1]?=some y/\Q y (upd H l (.lst xs.dropLast))
theorem mt_pop:MtM X "list.pop" rPop:=by
 intro pins s σ H x vs v us Q I rx rv h;obtain⟨l,xs,y,rfl,rfl,hH,hy,q⟩:=h;cases rx;have hus:=rv.zero;subst hus;obtain⟨z,its,n,r,hl,e⟩:=I.lstM hH;obtain⟨u,hu,ru⟩:=r.get hy
 have hy':its.toArray[its.toArray.size - 1]?=some u:=by
  show its.toArray[its.length - 1]?=some u
  rw[←Array.getElem?_toList,←hl];exact hu
 refine call_meets F.slot_list_pop ⟨_,e,rfl⟩ F.entry_list_pop (F.args_list_pop_1 _) (MeetsSeq.list_pop_last l its.toArray n u hy' (by rw[List.size_toArray];omega)) ⟨e,?_⟩;refine⟨y,_,I.lset (its':=its.dropLast) hH e ?_ r.dropLast ?_,ru,q⟩
 ·show its.toArray.eraseIdxIfInBounds (its.toArray.size - 1)=its.dropLast.toArray;rw[List.size_toArray,List.eraseIdxIfInBounds_toArray,erase_last]
 ·rw[List.length_dropLast];omega
def rCat:R2:=λx y H Q=>∃l b xs zs,x=.ref l/\y=.ref b/\H l=some (.lst xs)/\H b=some (.lst zs)/\xs.length+ zs.length<=sizeLine/\∀p,H p=none->Q (.ref p) (upd H p (.lst (xs++zs)))
theorem op_cat:OpR X (binaryOp .Add) rCat:=by
 intro pins s σ H x y v u Q I rx ry h;obtain⟨l,b,xs,zs,rfl,rfl,hH,hB,hz,q⟩:=h;cases rx;cases ry;obtain⟨z,its,n,r,hl,e⟩:=I.lstM hH;obtain⟨z2,its2,n2,r2,hl2,e2⟩:=I.lstM hB;refine PySem.P.add_list e e2 ?_ (by rw[List.size_toArray,List.size_toArray];omega);have ea:its.toArray++its2.toArray=(its++its2).toArray:=by simp
 rw[ea];exact⟨.ref _,_,I.lnew (t':=s.toks) (r.append r2) (by rw[List.length_append];omega),rfl,q _ I.fresh⟩
end
section
variable {prog:Program} {w:World} {A:Around} {E:Value->Shared->Prop} {s:Shared}
end
section
variable {X:Cx}
end
end L2
namespace Att
open PySem PySem.W PySem.Calls PyProof.Rows
theorem ints_of_wellAll {P:Params}{h:Heap}:∀(ns:List Int) (vs:List Value),WellAll P h vs (ns.map WData.int)->IntsAre vs ns:=by
 intro ns
 induction ns with
 |nil=>
  intro vs w;rw[List.map_nil]at w;cases w;exact .nil
 |cons n ns ih=>
  intro vs w;rw[List.map_cons]at w
  cases w with
  |cons a b=>
   cases a;exact .cons _ _ (ih _ b)
theorem script_of {l:OpenLaw}{n:Nat}(hn:l.most=some n){P:Params}{h:Heap}{args:List WData}{vals:List Value}
 (hpre:l.row.toRowW.claim.pre args=true) (hwl:WellAll P h vals args):
 ∃a vs ns,vals=[Value.ref a]/\args=[WData.list (ns.map WData.int)]/\h.get? a=some { cls:=.type "list",data:=.seq vs.toArray }/\IntsAre vs ns/\ns.length<=n:=by
 have hsh:WShape.hasAll [] args [.list .int]=true:=(pre_splitW hpre).1;have hc:l.pre.holds [] { args:=args }=true:=(pre_splitW hpre).2;obtain⟨d,r,rfl,h1,h2⟩:=hasAllW_cons hsh;obtain rfl:=hasAllW_nil h2;obtain⟨xs,rfl,h3⟩:=hasW_list h1;obtain⟨ns,rfl⟩:=items_int h3
 have hlen:ns.length<=n:=by
  unfold OpenLaw.pre at hc
  have h4:(WTm.not (.lt (.lit (.int (n:Int))) (.len (.arg 0)))).holds [] { args:=[.list (ns.map .int)] }=true:=by
   have h4:=(holds_andW hc).1;rw[hn]at h4;exact h4
  have h5:=condW_of h4 (w_not (w_lt w_lit (w_len_list (w_arg rfl))));rw[List.length_map]at h5;refine Nat.le_of_not_lt λq=>?_
  have q':(n:Int)<((ns.length:Nat):Int):=by omega
  first
   |(rw[decide_eq_true q']at h5;exact absurd h5 (by decide))
   |(simp at h5;omega)
 cases hwl with
 |cons w1 w2=>
  cases w2
  cases w1 with
  |list ho hall=>exact⟨_,_,ns,rfl,rfl,ho,ints_of_wellAll ns _ hall,hlen⟩
theorem post_true (l:OpenLaw)(args:List WData):l.row.toRowW.claim.post args (.bool true) args=true:=
 postW_of (r:=l.row.toRowW) (X:=(true==true))
  (show WShape.has [] (.bool true) .bool=true by first|rfl|decide|simp[WShape.has,WShape.arms,WShape.armsAll])
  (show (WTm.eq .res (.lit (.bool true))).value [] { args:=args,res:=some (.bool true),after:=args }=some (.bool (true==true)) from w_eq_bool (w_res rfl) w_lit) rfl
theorem attach_call {l:OpenLaw}{n:Nat}{q:Program}{loose:List Str}{XP:(Str->Option Value)->Heap->Prop}{YP:World->Heap->Prop}{d:DefRec}
 (hn:l.most=some n) (hdf:d.params.defaults=[])
 (call:∀(w:World) (s₀ s₁:Shared) (mg mb:Str->Option Value) (fa:Addr) (o:Obj) (pm cd doc:Value) (a:Addr) (vs:List Value) (ns:List Int),
  Ground q loose [] XP w s₀ mg mb s₁.heap->YP w s₁.heap->
  s₁.heap.get? fa=some o->o.data=.func (docDef d.name d.params d.body d.scope pm cd doc)->s₁.heap.CodeRec cd d.name->mg d.name=some (.ref fa)->
  s₁.heap.get? a=some { cls:=.type "list",data:=.seq vs.toArray }->IntsAre vs ns->ns.length<=n->s₁.gens=#[]->
  codeAny (model l.prog w) callerA (.call (.ref fa) ⟨[.ref a],[]⟩) (λr s'=>r=.ok (.ret (.bool true))/\OldK s₁.heap s'.heap/\s'.os=s₁.os/\AllBare s'.gens) s₁):
 WalkO q loose XP YP l.row.toRowW d [] (λf vs=>PySem.call f vs):=by
 intro w s₀ s₁ mg mb G Y fa o pm cd doc dV kV ho hd hcd hD hmg hg args vals as hpre hlay hrd hwl hlo;obtain rfl:dV=.none:=Dflts.none hD hdf;obtain rfl:kV=.none:=Dflts.noKw hD;obtain⟨a,vs,ns,rfl,rfl,hobj,hints,hlen⟩:=script_of hn hpre hwl;refine enter_call (codeAny_mono (call w s₀ s₁ mg mb fa o pm cd doc a vs ns G Y ho (fd_plain hd) hcd hmg hobj hints hlen hg) λr s' hq=>?_);obtain⟨rfl,h2,h3,h4⟩:=hq;exact⟨.inl ⟨.bool true,.bool true,[],rfl,λ_=>rfl,.bool true,post_true l _,λ_=>⟨List.Pairwise.nil,λ_ hm=>(nomatch hm)⟩⟩,h2,h3,h4⟩
section
variable {prog:Program} {w:World} {A:Around} {E:Value->Shared->Prop} {s:Shared} {K:Frag}
end
end Att
namespace L2
open PySem PySem.Spec PyProof.Rows
theorem vals_ints:∀{vs:List Value} {ns:List Int},IntsAre vs ns->Vals (ns.map V.int) vs
 |_,_,.nil=>.nil
 |_,_,.cons n t h=>.cons ⟨t,rfl⟩ (vals_ints h)
def Only (H:Hp):Prop:=∀b,H b=none\/∃o xs,H b=some (.frz o (.lst xs))
theorem law_call {P:Program}{w:World}{K:PySem.W.Frag}{mg mb:Str->Option Value}{CX:CXT}{k:Nat}{fa a:Addr}{fd:FuncData}{x:Str}{sp:Sp}{s₁:Shared}{vs:List Value}{ns:List Int}
 (KX:K.In s₁.heap) (hns:s₁.heap.Ns mainGlobals mg) (hb:s₁.heap.Ns builtinsNs mb) (hbb:∀x:Str,x≠"__name__"->mb x=bootBuiltins x) (hlim:s₁.heap.NoLimit) (hg:s₁.gens=#[])
 (ha:s₁.heap.get? a=some { cls:=.type "list",data:=.seq vs.toArray }) (hi:IntsAre vs ns) (hl:ns.length<=sizeLine) (hr:Room k callerA)
 (F:∀base:Heap,K.In base->base.Ns mainGlobals mg->FnOk P w K mg base CX k fa fd [x] sp) (hbind:∀(s:Shared) (u:Value),BindsTo s fd ⟨[u],[]⟩ [(x,u)])
 (hsp:∀H:Hp,Only H->SqL K H a (ns.map V.int)->sp [.ref a] H (λv _=>v=.bl true) λ_ _ _=>False)
 (hCX:∀H e s',CX [] H s₁ (λ_ _ _=>False) e s'->False):
 codeAny (model P w) callerA (.call (.ref fa) ⟨[.ref a],[]⟩) (λr s'=>r=.ok (.ret (.bool true))/\OldK s₁.heap s'.heap/\s'.os=s₁.os/\AllBare s'.gens) s₁:=by
 have rv:=vals_ints hi;have lenV:=hi.length
 -- from an abstract heap in which nothing but the script may be tracked
 have core:∀H:Hp,Only H->SqL K H a (ns.map V.int)->HOk P w H s₁.heap->(∀b,H b≠none->b=a)->(H a≠none->K.lookup a=none)->
  codeAny (model P w) callerA (.call (.ref fa) ⟨[.ref a],[]⟩) (λr s'=>r=.ok (.ret (.bool true))/\OldK s₁.heap s'.heap/\s'.os=s₁.os/\AllBare s'.gens) s₁:=by
  intro H hO hS hok hA hK;have base_of:∀{b:Addr} {o:Obj},s₁.heap.get? b=some o->H b=none->(hidT s₁.heap H).get? b=some o:=λe n=>hidT_get e n
  have noA:∀{b:Addr} {o:Obj} {es:Array DictEntry} {ep:Nat},s₁.heap.get? b=some o->o.data=.dict es ep->H b=none:=λ{b o es ep} e d=>by
   cases q:H b with
   |none=>rfl
   |some u=>
    have e':b=a:=hA b (by rw[q];simp);subst e';rw[ha]at e;cases e;have d':Data.seq vs.toArray _=Data.dict es ep:=d;cases d'
  have nsK:∀{b:Addr} {m:Str->Option Value},s₁.heap.Ns b m->(hidT s₁.heap H).Ns b m:=λ{b m} ⟨o,es,ep,e,d,r⟩=>⟨o,es,ep,base_of e (noA e d),d,r⟩
  have hKb:K.In (hidT s₁.heap H):=λb o e=>base_of (KX b o e) (by
   cases q:H b with
   |none=>rfl
   |some u=>
    have e':b=a:=hA b (by rw[q];simp);subst e';rw[hK (by rw[q];simp)]at e;cases e)
  have hM:Mod K mg (hidT s₁.heap H):=⟨hKb,nsK hns,⟨mb,nsK hb,hbb⟩,let ⟨mc,h1,h2⟩:=hlim;⟨mc,nsK h1,h2⟩⟩;have e0:Env0 P w K mg (hidT s₁.heap H) callerA [] s₁ H:=⟨rfl,hM,λb o e=>of_hidT e,Nat.le_of_eq (hidT_size _ _),trivial,λb hb=>absurd (show b∈([]:List Addr) from hb) (by simp),hok,.of_eq hg⟩;refine codeAny_mono ((F _ hKb (nsK hns)).run callerA [] s₁ H ⟨[.ref a],[]⟩ [.ref a] [.ref a] _ _ hr e0 (hbind s₁ (.ref a)) (.cons rfl .nil) (hsp H hO hS)) λr s' h=>?_
  cases r with
  |error e=>exact(hCX H e s' h).elim
  |ok fl=>
   cases fl with
   |next=>exact False.elim h
   |brk=>exact False.elim h
   |cont=>exact False.elim h
   |ret u=>
    obtain⟨v,H',os,bare,un,hok',r',q⟩:=h;have q':v=.bl true:=q;subst q';obtain rfl:u=Value.bool true:=r';refine⟨rfl,OldK.of_keep λb o e=>?_,os,bare⟩
    cases q:H b with
    |none=>exact un.keep b o e q (by intro z;exact absurd (show b∈([]:List Addr) from z) (by simp)) (by simp)
    |some u=>
     rcases hO b with z|⟨ob,xs,z⟩
     ·rw[q]at z;cases z
     ·have z2:=un.frzs b ob _ z;obtain⟨e1,_⟩:=hok b _ z;obtain⟨e2,_⟩:=hok' b _ z2;rw[e]at e1;cases e1;exact e2
 cases hk:K.lookup a with
 |some o=>
  -- the script is one of the module's own objects
  have e:=KX a o hk;rw[ha]at e;cases e;refine core (λ_=>none) (λ_=>.inl rfl) (.inr ⟨_,vs.toArray,_,hk,rfl,rfl,rfl,by rw[List.size_toArray,lenV];exact hl,by simpa using rv⟩) (λb u z=>by have z':(none:Option HO)=some u:=z;cases z') (λb z=>absurd rfl z) λz=>absurd rfl z
 |none=>
  refine core (λb=>if b=a then some (.frz { cls:=.type "list",data:=.seq vs.toArray } (.lst (ns.map V.int))) else none) (λb=>?_) (.inl (.inr ⟨{ cls:=.type "list",data:=.seq vs.toArray },if_pos rfl⟩)) (λb u z=>?_) (λb z=>?_) λ_=>hk
  ·by_cases hb:b=a
   ·exact .inr ⟨_,_,if_pos hb⟩
   ·exact .inl (if_neg hb)
  ·by_cases hb:b=a
   ·have z':=(if_pos hb).symm.trans z;cases z';subst hb;exact⟨ha,by rw[List.length_map];exact hl,vs,_,rv,ha⟩
   ·have z':=(if_neg hb).symm.trans z;cases z'
  ·by_cases hb:b=a
   ·exact hb
   ·exact absurd (if_neg hb) z
end L2
namespace L2
open PySem PySem.Spec PyProof.Rows
theorem walk_of {l:PySem.W.OpenLaw}{n k:Nat}{q:Program}{loose:List Str}{XP:(Str->Option Value)->Heap->Prop}{YP:World->Heap->Prop}{d:DefRec}{K:Params->PySem.W.Frag}{CX:World->CXT}{sp:World->Sp}{x:Str}
 (hn:l.most=some n) (hn2:n<=sizeLine) (hdf:d.params.defaults=[]) (hr:Room k callerA)
 (hY:∀(w:World) (h:Heap),YP w h->(K w.params).In h)
 (F:∀(w:World) (mg:Str->Option Value) (fa:Addr) (h:Heap),(K w.params).In h->h.Ns mainGlobals mg->mg d.name=some (.ref fa)->
  ∃fd:FuncData,(∀(s:Shared) (u:Value),BindsTo s fd ⟨[u],[]⟩ [(x,u)])/\
   ∀base:Heap,(K w.params).In base->base.Ns mainGlobals mg->FnOk l.prog w (K w.params) mg base (CX w) k fa fd [x] (sp w))
 (hsp:∀(w:World) (H:Hp) (a:Addr) (ns:List Int),ns.length<=n->Only H->SqL (K w.params) H a (ns.map V.int)->sp w [.ref a] H (λv _=>v=.bl true) λ_ _ _=>False)
 (hCX:∀(w:World) (H:Hp) (s:Shared) (e:Value) (s':Shared),CX w [] H s (λ_ _ _=>False) e s'->False):
 PySem.W.WalkO q loose XP YP l.row.toRowW d [] (λf vs=>PySem.call f vs):=by
 refine Att.attach_call hn hdf λw s₀ s₁ mg mb fa o pm cd doc a vs ns G Y ho hd hcd hmg hobj hints hlen hg=>?_
 have KX:=hY w _ Y;obtain⟨fd,hb,hF⟩:=F w mg fa _ KX G.T.g hmg;exact law_call KX G.T.g G.T.b G.T.builtins G.T.nolimit hg hobj hints (Nat.le_trans hlen hn2) hr hF hb (λH hO hS=>hsp w H a ns hlen hO hS) λH e s'=>hCX w H s₁ e s'
end L2
namespace L2
open PySem PySem.Spec PyProof.Rows
def inClass (s:Stmt)(j:Nat):Stmt:=match s with
 |.ClassDef _ _ _ body _ _ _ _ _ _ _=>body.getD j (.Pass ⟨0,0,0,0⟩)
 |_=>.Pass ⟨0,0,0,0⟩
def defArgs (s:Stmt):Arguments:=match s with
 |.FunctionDef _ a _ _ _ _ _ _ _ _=>a
 |_=>{ posonlyargs:=[],args:=[],vararg:=none,kwonlyargs:=[],kw_defaults:=[],kwarg:=none,defaults:=[] }
def defBody (s:Stmt):List Stmt:=match s with
 |.FunctionDef _ _ b _ _ _ _ _ _ _=>b
 |_=>[]
def defScope (s:Stmt):Scope:=match s with
 |.FunctionDef _ _ _ _ _ _ sc _ _ _=>sc
 |_=>{ kind:=.function,names:=[],isGenerator:=false,isCoroutine:=false }
abbrev CX0:CXT:=λ_ _ _ _ _ _=>False
abbrev E0:XK:=λ_ _ _=>False
theorem pass0 {X:Cx}:Passes CX0 X E0:=λ_ _ _ _ _ _ _ h=>h.elim
structure Fun (K:PySem.W.Frag) (x qual:Str) (st:Stmt) (f:Addr) (fd:FuncData):Prop where
 ex:∃(oc:Value) (od:Option Addr) (kV doc pm:Value) (an:Option Addr) (cdv ct:Value) (osl:Array (Option Value)),
  fd=PySem.W.fnOf x qual (defArgs st) (defBody st) (defScope st) .none kV doc pm an cdv ct/\K.lookup f=some ⟨oc,od,.func fd,osl⟩/\PySem.W.codeIn K cdv qual=true
 kp:PySem.W.keepIn K (.ref f)=true
section
variable {P:Program} {w:World} {K:PySem.W.Frag} {mg:Str->Option Value} {base:Heap}
theorem Fun.ok {x qual:Str}{st:Stmt}{f:Addr}{fd:FuncData}{N ps:List Str}{k:Nat}{sp:Sp}(F:Fun K x qual st f fd)(S:FnScope N ps (defScope st))(len:∀vs H Q E,sp vs H Q E->vs.length=ps.length)
 (hbody:∀(cdv:Value) (A:Around) (outer:List Env) (s:Shared) (H:Hp) (vs:List V) (Q:VK) (E:XK),Room k (A.deeper (envOfC qual (defScope st) s.heap.objs.size f cdv))->sp vs H Q E->
  ∃t,PSs (cxOf CX0 P w K mg base N qual (defScope st) f cdv A outer s H E).nox (defBody st) t/\t { nx:=λ_ H'=>Q .non H',rt:=Q } (start N vs) H):FnOk P w K mg base CX0 (k+ 1) f fd ps sp:=by
 obtain⟨oc,od,kV,doc,pm,an,cdv,ct,osl,rfl,lk,hcd⟩:=F.ex;refine fn_of lk hcd S len λA outer s H vs Q E hr hsp=>?_
 obtain⟨t,h,q⟩:=hbody cdv A outer s H vs Q E hr hsp;exact⟨t,h.nox,q⟩
theorem Fun.binds {x qual:Str}{st:Stmt}{f:Addr}{fd:FuncData}{ps:List Str}(F:Fun K x qual st f fd)
 (h:∀(kV doc pm:Value) (an:Option Addr) (cdv ct:Value) (us:List Value),us.length=ps.length->bindArgs (PySem.W.fnOf x qual (defArgs st) (defBody st) (defScope st) .none kV doc pm an cdv ct) ⟨us,[]⟩=pure (ps.zip us)):Binds K fd ps []:=by
 obtain⟨oc,od,kV,doc,pm,an,cdv,ct,osl,rfl,lk,hcd⟩:=F.ex;exact .all (h kV doc pm an cdv ct)
theorem fun_mk {x qual:Str}{st:Stmt}{f:Addr}{oc:Value}{od an:Option Addr}{osl:Array (Option Value)}{kV doc pm cdv ct:Value}(l:K.lookup f=some ⟨oc,od,.func (PySem.W.fnOf x qual (defArgs st) (defBody st) (defScope st) .none kV doc pm an cdv ct),osl⟩)
 (c:PySem.W.codeIn K cdv qual=true) (k:PySem.W.keepIn K (.ref f)=true):Fun K x qual st f (PySem.W.fnOf x qual (defArgs st) (defBody st) (defScope st) .none kV doc pm an cdv ct):=⟨⟨oc,od,kV,doc,pm,an,cdv,ct,osl,rfl,l,c⟩,k⟩
end
theorem hu_of {A:Around}{k:Nat}(hr:Room k A):A.units+ 1<cLine:=Nat.lt_of_le_of_lt (Nat.add_le_add_left (by decide:1<=64) _) hr.units
section
variable {X:Cx}
theorem pv (i:Nat){x:Str}{pos:Pos}(hN:X.N[i]?=some x:=by rfl)(hv:Vis X.env.scope x:=by first|exact Or.inl rfl|exact Or.inr (Or.inl rfl)|exact Or.inr (Or.inr rfl))(hd:(x==("__debug__":Str))=false:=by decide)
 (hcd:(x==("__classdict__":Str))=false:=by decide):PE X (.Name x pos) (tVar i):=pe_var hN hv hd hcd
end
theorem iteF {A B:Prop}(h:B):if false=true then A else B:=by
 rw[if_neg Bool.false_ne_true];exact h
theorem iteT {A B:Prop}(h:A):if true=true then A else B:=by
 rw[if_pos rfl];exact h
theorem ite2 {c A B:Prop} [Decidable c](h1:c->A)(h2:¬c->B):if c then A else B:=by
 by_cases h:c
 ·rw[if_pos h];exact h1 h
 ·rw[if_neg h];exact h2 h
theorem iteNS {c A B:Prop} [Decidable c](hc:c)(h:B):if (!decide c)=true then A else B:=by
 rw[decide_eq_true hc];exact iteF h
def Same (H H':Hp):Prop:=∀b o,H b=some o->H' b=some o
theorem Same.refl (H:Hp):Same H H:=λ_ _ h=>h
theorem Same.trans {H H1 H2:Hp}(a:Same H H1)(b:Same H1 H2):Same H H2:=λc o h=>b c o (a c o h)
theorem Same.free {H H':Hp}(e:Same H H'){l:Addr}(h:H' l=Option.none):H l=Option.none:=by
 cases q:H l with
 |none=>rfl
 |some o=>
  rw[e l o q]at h;cases h
theorem Same.seq {K:PySem.W.Frag}{H H':Hp}{a:Addr}{xs:List V}(e:Same H H')(h:SqL K H a xs):SqL K H' a xs:=by
 rcases h with (h|⟨o,h⟩)|h
 ·exact .inl (.inl (e _ _ h))
 ·exact .inl (.inr ⟨o,e _ _ h⟩)
 ·exact .inr h
end L2
set_option maxHeartbeats 4000000
namespace L2
open PySem PySem.Spec PyProof.Rows
section
variable {prog:Program} {w:World} {A:Around} {R:Result->Shared->Prop} {s:Shared}
theorem compLoop_go {elt target iter:Expr}{scope:Scope}{pos:Pos}{it acc:Value}{env:Env}(I:Nat->Shared->Prop)
 (turn:∀n s,I n s->wpAny (model prog w) A (pyNext it) (λr s₁=>match r with
  |none=>R (.ok .next) s₁
  |some v=>wpAny (model prog w) A (letOwnedTupleGo target it v) (λ_ s₀=>wpAny (model prog w) A (assign target env v) (λ_ s₂=>wpAny (model prog w) A (eval elt env) (λx s₃=>
   wpAny (model prog w) A (call (.builtin "list.append") [acc,x]) (λ_ s₄=>∃m,m<n/\I m s₄) (λ_ _=>False) s₃) (λ_ _=>False) s₂) (λ_ _=>False) s₀) (λ_ _=>False) s₁) (λ_ _=>False) s)
 (n:Nat) (h:I n s):codeAny (model prog w) A (.compLoop (.ListComp elt [⟨target,iter,[],0⟩] scope pos) 0 it acc env) R s:=by
 refine codeAny_loop rfl I (λn s hI=>?_) n h;show wpAny _ _ ((compTurn (.ListComp elt [⟨target,iter,[],0⟩] scope pos) 0 it acc env).onRaise (λx=>do noteFrame x env;theTreesLotGoes x)) _ _ s;refine wpAny_noted ?_;rw[compTurn_list1];refine wpAny_bind (wpAny_standAt (wpAny_bind (wpAny_mono (turn n s hI) (λr s₁ h₁=>?_) λ_ _ h'=>h'.elim)))
 cases r with
 |none=>exact wpAny_pure h₁
 |some v=>
  refine wpAny_bind (wpAny_mono h₁ (λ_ s₀ h₀=>?_) λ_ _ h'=>h'.elim)
  exact wpAny_bind (wpAny_mono h₀ (λ_ s₂ h₂=>wpAny_bind (wpAny_bind (wpAny_mono h₂ (λx s₃ h₃=>wpAny_bind (wpAny_mono h₃
   (λ_ s₄ h₄=>wpAny_pure (wpAny_pure ⟨rfl,h₄⟩)) λ_ _ h'=>h'.elim)) λ_ _ h'=>h'.elim))) λ_ _ h'=>h'.elim)
end
def cxComp (X:Cx)(Nc:List Str)(scope:Scope)(cl:List (Str×Addr))(C:Addr)(s:Shared)(H:Hp)(ex:List Addr):Cx where
 prog:=X.prog
 w:=X.w
 K:=X.K
 mg:=X.mg
 base:=X.base
 A:=X.A
 N:=Nc
 s₀:=s
 H₀:=H
 env:=compEnvC scope cl C X.env
 outer:=X.stack
 stack:=X.stack
 ex:=ex
 fn:=λ_=>false
 calm:=X.calm
 pn:=[]
 xe:=λ_ _=>False
def CompGo (te:TE)(fv:St)(Q:VK)(J:It)(H1:Hp):Prop:=∃W:Nat->Nat->List V->Hp->Prop,(∃m,W 0 m [] H1)/\∀i m ys H2,W i m ys H2->
 (J.stop i H2/\ys.length<=sizeLine/\∀D,H2 D=none->Q (.ref D) (upd H2 D (.lst ys)))\/
 (J.go i H2/\ys.length<sizeLine/\∀x H3,J.yld i H2 x H3->te (some x::fv) H3 λy H4=>∃m',m'<m/\W (i+ 1) m' (ys++[y]) H4)
def tComp (wi:TI)(fv:St->St)(te:TE):TE:=λ σ H Q=>wi σ H (CompGo te (fv σ) Q)
structure CompScope (X:Cx) (x:Str) (fns:List Str) (ixs:List Nat) (scope:Scope) (cl:List (Str×Addr)):Prop where
 clos:closureFor scope X.env=pure cl
 sub:∀y c,cl.lookup y=some c->X.env.cells.lookup y=some c
 cell:∀y∈scope.names,y.2≠.cell
 kind:scope.kind=.function
 names:∀y∈scope.names,y.2=.local->scope.names.lookup y.1=some .local
 own:scope.names.lookup x=some .local
 has:∀y,((relabel scope X.env).names.lookup y=some .cell\/(relabel scope X.env).names.lookup y=some .free)->∃c,cl.lookup y=some c
 nd:(x::fns).Nodup
 len:ixs.length=fns.length
 at_:∀(j:Nat) (y:Str),fns[j]?=some y->∃i:Nat,ixs[j]?=some i/\X.N[i]?=some y/\(X.env.kindOf y=some .cell\/X.env.kindOf y=some .free)/\∃c,cl.lookup y=some c/\((relabel scope X.env).names.lookup y=some .cell\/(relabel scope X.env).names.lookup y=some .free)
def fvOf (ixs:List Nat):St->St:=λ σ=>ixs.map λi=>(σ[i]?).join
section
variable {X:Cx} {elt iter:Expr} {x:Str} {px pos:Pos} {scope:Scope} {cl:List (Str×Addr)} {fns:List Str} {ixs:List Nat} {wi:TI} {te:TE}
theorem relabel_own (hx:scope.names.lookup x=some .local):(relabel scope X.env).names.lookup x=some .local:=lookup_relabel_local hx
theorem pe_comp (hc:X.calm=true)(hi:PI X (.Name x px) iter wi)(S:CompScope X x fns ixs scope cl)
 (he:∀(C:Addr) (s:Shared) (H:Hp) (ex:List Addr),PE (cxComp X (x::fns) scope cl C s H ex) elt te)
 (hs:∀x,foldedSetIterable iter X.env x=pure x:=by intro _;rfl):
 PE X (.ListComp elt [⟨.Name x px,iter,[],0⟩] scope pos) (tComp wi (fvOf ixs) te):=by
 intro pins s σ H Q I h;rw[eval_ListComp];refine wpAny_comprehension_free (use:=none) rfl hs S.clos S.kind S.names (thn (hi pins s σ H _ I h) λv s1 h1=>thn h1 λitv s2 h2=>?_);obtain⟨it,fp,tn,J,H2,e,I2,T,st2,f2,W,⟨m0,w0⟩,turn⟩:=h2;subst e
 have hfpLt:∀b∈fp,b<s2.heap.objs.size:=λb hb=>by
  obtain⟨o,ho,_⟩:=T.obj _ _ st2 b hb;exact Heap.lt_size ho
 refine wpAny_newObj_type (wpAny_newFunctionEnv S.cell (by intro y hy;simp at hy) (λh₁ hns₁ hsb₁=>?_) S.kind);dsimp only at hns₁ hsb₁ ⊢;generalize hH3:s2.heap.push { cls:=.type "list",dict:=none,data:=.seq ([]:List Value).toArray }=hp3 at hns₁ hsb₁ ⊢;generalize hD:s2.heap.objs.size=D at hfpLt ⊢;have hC:hp3.objs.size=D+ 1:=by rw[←hH3,Heap.size_push,hD]
 generalize hCe:hp3.objs.size=C at hC hns₁ hsb₁ ⊢;have hDltC:D<C:=by omega
 have hDC:D≠C:=Nat.ne_of_lt hDltC;have k23:∀b u,s2.heap.get? b=some u->hp3.get? b=some u:=λb u q=>by rw[←hH3];exact Heap.get?_push_of_some _ q
 have ltD:∀{b u},s2.heap.get? b=some u->b<D:=λq=>by rw[←hD];exact Heap.lt_size q
 have k34:∀b u,hp3.get? b=some u->h₁.get? b=some u:=λb u q=>
  hsb₁.extBut b u (Nat.ne_of_lt (Nat.lt_of_lt_of_le (Heap.lt_size q) (Nat.le_of_eq hCe))) (Heap.get?_push_of_some _ q)
 have hDo:hp3.get? D=some { cls:=.type "list",dict:=none,data:=.seq ([]:List Value).toArray }:=by rw[←hH3,←hD];exact Heap.get?_push_size _ rfl
 have I3:Inv X pins σ H2 { s2 with heap:=hp3 }:=I2.kept (t':=s2.toks) k23;have hnD:H2 D=none:=I2.hok.fresh (by omega);have hnC:H2 C=none:=I2.hok.fresh (by omega)
 have nstk:∀b∈D::fp,b∉frs X.stack:=λb hb z=>by
  rcases List.mem_cons.mp (I2.stkSub b z) with e|z
  ·rcases List.mem_cons.mp hb with e2|hb
   ·exact absurd I2.lt (by rw[←e,e2,←hD];exact Nat.lt_irrefl _)
   ·exact(f2 b hb).2.1 e
  ·rcases List.mem_cons.mp hb with e2|hb
   ·exact I2.nofs (by rw[e2,←hD];exact Nat.le_refl _) z
   ·exact(f2 b hb).2.2.1 z
 have cne:∀y c,cl.lookup y=some c->∀b∈D::fp,c≠b:=λy c q b hb z=>by
  obtain⟨v,hv⟩:=I2.cell y c (S.sub y c q);rcases List.mem_cons.mp hb with e2|hb
  ·exact absurd hv.lt (by rw[z,e2,←hD];exact Nat.lt_irrefl _)
  ·exact(f2 b hb).2.2.2.2.1 y c (S.sub y c q) z
 -- the block's context
 let Xc:Cx:=cxComp X (x::fns) scope cl C { s2 with heap:=hp3 } H2 (D::fp)
 have ok:Xc.Ok:={
  mod:=I2.ok.mod
  kind:=S.kind
  glob:=I2.ok.glob
  blt:=I2.ok.blt
  above:=by show hp3.objs.size<=C;omega
  inj:=λy z c q1 q2=>I2.ok.inj y z c (S.sub _ _ q1) (S.sub _ _ q2)
  has:=S.has
  cab:=λy c q=>nomatch q
  hd:=I2.ok.hd
  frames:=I2.ok.frames
  stk:=.inl rfl
  exf:=λb hb=>⟨by
   rcases List.mem_cons.mp hb with e2|hb
   ·rw[e2];exact hDC
   ·exact Nat.ne_of_lt (Nat.lt_trans (hfpLt b hb) hDltC),λy c q=>cne y c q b hb⟩
  bs:=I3.bs
  bsz:=Nat.le_trans I3.ok.bsz I3.sz
  noex:=λb o q hb=>by
   rcases List.mem_cons.mp hb with e2|hb
   ·exact absurd (ltD (I2.bs b o q).1) (by rw[e2];exact Nat.lt_irrefl _)
   ·rcases (f2 b hb).2.2.2.1 with z|z
    ·exact I2.ok.noex b o q z
    ·exact absurd (Heap.lt_size (I2.ok.bs b o q).1) (Nat.not_lt.mpr z)
  exfs:=nstk
  funs:=I3.stack
  frf:=I3.stkFree }
 have start:∀(v0:Option V),v0=none->Inv Xc [(D,{ cls:=.type "list",dict:=none,data:=.seq ([]:List Value).toArray })] (v0::fvOf ixs σ) H2 { s2 with heap:=h₁,toks:=s2.toks+ ([]:List (Str×Value)).length }:=λv0 hv0=>{
  ok:=ok
  os:=rfl
  bare:=I2.bare
  base:=Un.kept k34
  loc:=⟨_,hns₁,λi y v e1 e2 e3=>by
   cases i with
   |zero=>rw[hv0]at e2;cases e2
   |succ j=>
    have e1':fns[j]?=some y:=e1
    have e2':(fvOf ixs σ)[j]?=some (some v):=e2
    obtain⟨i,hi1,hi2,hk,c,hc1,hc2⟩:=S.at_ j y e1';unfold fvOf at e2';rw[List.getElem?_map,hi1]at e2'
    have e3':σ[i]?=some (some v):=by
     have z:(σ[i]?).join=some v:=Option.some.inj e2'
     cases q:σ[i]? with
     |none=>rw[q]at z;cases z
     |some o=>rw[q]at z;rw[show o=some v from z]
    obtain⟨m,_,hl⟩:=I2.loc;obtain⟨u,r,l⟩:=hl i y v hi2 e3' (hk.elim (λz=>.inr (.inl z)) λz=>.inr (.inr z));refine⟨u,r,.inr ⟨hc2,c,hc1,?_⟩⟩;rcases l with ⟨z,_⟩|⟨_,c',hc',hcell⟩
    ·rcases hk with hk|hk <;> (rw[hk]at z;cases z)
    ·have:c'=c:=Option.some.inj (hc'.symm.trans (S.sub _ _ hc1));subst this;obtain⟨o,ho,hd⟩:=hcell;exact⟨o,k34 _ _ (k23 _ _ ho),hd⟩⟩
  cell:=λy c q=>by
   obtain⟨v,o,ho,hd⟩:=I2.cell y c (S.sub y c q);exact⟨v,o,k34 _ _ (k23 _ _ ho),hd⟩
  free:=hnC
  freeC:=λy c q=>I2.freeC y c (S.sub y c q)
  pin:=λp hp=>by
   have hp':p=(D,{ cls:=.type "list",dict:=none,data:=.seq ([]:List Value).toArray }):=by simpa [Xc,cxComp] using hp
   subst hp';exact⟨k34 _ _ hDo,hnD,hDC,nstk D (List.mem_cons_self ..),λv z=>nomatch z⟩
  hok:=(I2.hok.kept k23).kept k34
  len:=by show (v0::fvOf ixs σ).length=(x::fns).length;simp[fvOf,S.len] }
 -- what stays true of the iterator's objects
 have fpc:∀{H':Hp} {pins':List (Addr×Obj)},(∀b∈fp,H' b=none)->(∀p∈pins',p.1=D)->∀b∈fp,FpOk Xc pins' H' b:=λ{H' pins'} hn hp b hb=>
  ⟨hn b hb,Nat.ne_of_lt (Nat.lt_trans (hfpLt b hb) hDltC),nstk b (List.mem_cons_of_mem _ hb),.inl (List.mem_cons_of_mem _ hb),λy c q=>cne y c q b (List.mem_cons_of_mem _ hb),λp q=>by
   have q':p∈pins':=by simpa [Xc,cxComp] using q
   rw[hp p q'];exact Nat.ne_of_gt (hfpLt b hb)⟩
 have loop:codeAny (model X.prog X.w) X.A (.compLoop (.ListComp elt [⟨.Name x px,iter,[],0⟩] scope pos) 0 (.ref it) (.ref D) (compEnvC scope cl C X.env))
  (compPost (model X.prog X.w) X.A X.xe none (EP X pins σ Q) (.ref D) C) { s2 with heap:=h₁,toks:=s2.toks+ ([]:List (Str×Value)).length }:=by
  refine compLoop_go (λn s'=>∃(i:Nat) (ys:List V) (its:List Value) (nn:Nat) (v0:Option V) (H':Hp),Inv Xc [(D,{ cls:=.type "list",dict:=none,data:=.seq its.toArray nn })] (v0::fvOf ixs σ) H' s'/\tn i s'.heap/\(∀b∈fp,H' b=none)/\Vals ys its/\W i n ys H') ?_ m0
   ⟨0,[],[],0,none,H2,start none rfl,T.keep _ _ _ st2 λb _ o q=>k34 _ _ (k23 _ _ q),λb hb=>(f2 b hb).1,.nil,w0⟩
  rintro n s3 ⟨i,ys,its,nn,v0,H3,J3,tn3,fr3,vv,w3⟩
  have pinD:∀p∈([(D,({ cls:=.type "list",dict:=none,data:=.seq its.toArray nn }:Obj))]:List (Addr×Obj)),p.1=D:=λp hp=>by
   have:p=(D,{ cls:=.type "list",dict:=none,data:=.seq its.toArray nn }):=by simpa using hp
   rw[this]
  rcases turn i n ys H3 w3 with ⟨stop,hlen,q⟩|⟨go,hlen,step⟩
  ·-- the end
   refine thn (T.done Xc rfl rfl rfl hc i _ s3 _ H3 _ J3 (fpc fr3 pinD) tn3 stop) λr s4 ⟨hr,J4⟩=>?_
   subst hr;obtain⟨m,hn,_⟩:=J4.loc;refine⟨m,hn,λh'' hsb=>?_⟩;obtain⟨gD,nD,_,_,_⟩:=J4.pin (D,{ cls:=.type "list",dict:=none,data:=.seq its.toArray nn }) (by simp[Xc,cxComp]);have B:=J4.base;have kC:∀b u,b≠C->s4.heap.get? b=some u->h''.get? b=some u:=λb u hb q=>(hsb.2 b hb).trans q
   have ne:∀{b o},s2.heap.get? b=some o->b≠C/\b≠D:=λq=>⟨Nat.ne_of_lt (Nat.lt_trans (ltD q) hDltC),Nat.ne_of_lt (ltD q)⟩
   have nex:∀{b o},s2.heap.get? b=some o->b∉fp->b∉D::fp:=λq hx z=>(List.mem_cons.mp z).elim (ne q).2 hx
   have uu:Un (frs X.stack) fp H2 (upd H3 D (.lst ys)) s2.heap h'':={
    keep:=λb o q n hb hx=>kC b o (ne q).1 (B.keep b o (k23 b o q) n hb (nex q hx))
    slot:=λb o q n hb hx=>by
     obtain⟨sl,e⟩:=B.slot b o (k23 b o q) n hb (nex q hx);exact⟨sl,kC b _ (ne q).1 e⟩
    free:=λb o q n hx=>by rw[upd_ne (ne q).2];exact B.free b o (k23 b o q) n (nex q hx)
    there:=λb o q hx=>by
     obtain⟨o',e⟩:=B.there b o (k23 b o q) (nex q hx);exact⟨o',kC b _ (ne q).1 e⟩
    tups:=λb xs q=>by rw[upd_ne (ne_of_none q hnD)];exact B.tups b xs q
    frzs:=λb o xs q=>by rw[upd_ne (ne_of_none q hnD)];exact B.frzs b o xs q
    tbls:=λb ps q=>by
     obtain⟨more,e⟩:=B.tbls b ps q;exact⟨more,by rw[upd_ne (ne_of_none q hnD)];exact e⟩ }
   have hok:HOk X.prog X.w (upd H3 D (.lst ys)) h'':=λb u e=>by
    by_cases hb:b=D
    ·subst hb;rw[upd_same]at e;cases e;exact⟨hlen,its,nn,vv,kC _ _ hDC gD⟩
    ·rw[upd_ne hb]at e;refine(J4.hok b u e).stay (λc v hc q=>kC c v ?_ q) (λc q=>by rw[upd_ne (ne_of_none q nD)];exact q) λc xs q=>by rw[upd_ne (ne_of_none q nD)];exact q
     have fC:H3 C=none:=J4.free;rcases hc with rfl|hc
     ·exact ne_of_none e fC
     ·exact ne_of_none hc fC
   exact⟨.ref D,_,I2.call' (s':={ s4 with heap:=h'' }) J4.os uu hok J4.bare (λb hb=>⟨(f2 b hb).2.2.2.1,(f2 b hb).2.1,(f2 b hb).2.2.2.2.1,(f2 b hb).2.2.2.2.2⟩),rfl,q D nD⟩
  ·-- a turn
   refine thn (T.item Xc rfl rfl rfl hc i _ s3 _ H3 _ J3 (fpc fr3 pinD) tn3 go) λr s4 ⟨u,hr,h4⟩=>?_
   subst hr;refine thn h4 λ_ s5 ⟨xv,H5,J5,r5,y5,tn5,fr5⟩=>?_
   have J5':=J5.pinned (fpc fr5 pinD) (T.obj _ _ tn5);have hg:PG Xc (.Name x px) (gName 0):=pg_name (X:=Xc) (i:=0) S.nd rfl (.inl (relabel_own S.own)) (.inr (relabel_own S.own));refine thn (hg _ s5 _ H5 xv u (λ σ' H'=>σ'=some xv::fvOf ixs σ/\H'=H5) J5' r5 ⟨rfl,rfl⟩) λ_ s6 ⟨σ6,H6,J6,e6,e6'⟩=>?_
   subst e6 e6';refine thn (he C { s2 with heap:=hp3 } H2 (D::fp) _ s6 _ H6 _ J6 (step xv H6 y5)) λyv s7 ⟨y,H7,J7,r7,m',hm',w7⟩=>?_
   obtain⟨gD,nD,_,_,_⟩:=J7.pin (D,{ cls:=.type "list",dict:=none,data:=.seq its.toArray nn }) (by simp[Xc,cxComp]);have tn7:tn (i+ 1) s7.heap:=T.keep _ _ _ tn5 λb hb o e=>(J7.pin (b,o) (List.mem_append_right _ (List.mem_append_right _ (mem_pinsAt hb e)))).1
   have fr7:∀b∈fp,H7 b=none:=λb hb=>by
    obtain⟨o,e,d⟩:=T.obj _ _ tn5 b hb;exact(J7.pin (b,o) (List.mem_append_right _ (List.mem_append_right _ (mem_pinsAt hb e)))).2.1
   have J7':Inv Xc [] (some xv::fvOf ixs σ) H7 s7:=J7.pins_of λp hp=>nomatch hp
   refine wpAny_list_append_plain (hsz:=by rw[List.size_toArray,←vv.length];omega) ⟨nn,gD⟩ λh8 pl8 sb8=>?_
   obtain⟨n8,g8⟩:=pl8
   have J8:Inv Xc [] (some xv::fvOf ixs σ) H7 { s7 with heap:=h8 }:=J7'.turned (t':=s7.toks) (it:=D) (λb o hb e=>(sb8.2 b hb).trans e) nD (hDC) (.inl (List.mem_cons_self ..))
    (λy c q=>cne y c q D (List.mem_cons_self ..)) (λp hp=>by simp[Xc,cxComp]at hp)
   refine⟨m',hm',i+ 1,ys++[y],its++[yv],n8,some xv,H7,J8.pins_of λp hp=>?_,?_,fr7,vv.append (.cons r7 .nil),w7⟩
   ·have:p=(D,{ cls:=.type "list",dict:=none,data:=.seq (its++[yv]).toArray n8 }):=by simpa using hp
    subst this;refine⟨?_,nD,hDC,nstk D (List.mem_cons_self ..),λv z=>nomatch z⟩;have:its.toArray.push yv=(its++[yv]).toArray:=by simp
    rw[this]at g8;exact g8
   ·exact T.keep _ _ _ tn7 λb hb o e=>(sb8.2 b (Nat.ne_of_lt (hfpLt b hb))).trans e
 exact codeAny_compStart_list loop (T.self _ 0 _ _ _ (T.keep _ _ _ st2 λb _ o q=>k34 _ _ (k23 _ _ q)) loop)
end
theorem compScope0 {X:Cx}{x:Str}{scope:Scope}(hf:∀y∈scope.names,y.2≠.free)(hc:∀y∈scope.names,y.2≠.cell)(hk:scope.kind=.function)
 (hn:∀y∈scope.names,y.2=.local->scope.names.lookup y.1=some .local) (hx:scope.names.lookup x=some .local):CompScope X x [] [] scope [] where
 clos:=closureFor_none hf
 sub:=λy c h=>nomatch h
 cell:=hc
 kind:=hk
 names:=hn
 own:=hx
 has:=λy h=>by
  have e:(relabel scope X.env).names=scope.names:=by
   unfold relabel;refine map_eq_self λz hz=>?_
   obtain⟨n,k⟩:=z;have:(k==NameKind.free)=false:=by simpa using hf _ hz
   simp[this]
  rw[e]at h;rcases h with h|h
  ·exact absurd rfl (hc _ (PySem.mem_of_lookup h))
  ·exact absurd rfl (hf _ (PySem.mem_of_lookup h))
 nd:=by simp
 len:=rfl
 at_:=λj y h=>by simp at h
theorem itt_go {K:PySem.W.Frag}{H:Hp}{a:Addr}{xs:List V}(h:SqT K H a xs):∀i,i<xs.length->(Itt K a).go i H:=λi hi=>⟨xs,xs[i],h,List.getElem?_eq_getElem hi⟩
theorem itt_yld {K:PySem.W.Frag}{H:Hp}{a:Addr}{xs:List V}(h:SqT K H a xs):∀i x H3,i<xs.length->(Itt K a).yld i H x H3->H3=H/\xs[i]?=some x:=λi x H3 _ y=>⟨y.1,y.2 xs h⟩
theorem itt_stop {K:PySem.W.Frag}{H:Hp}{a:Addr}{xs:List V}(h:SqT K H a xs):(Itt K a).stop xs.length H:=⟨xs,h,Nat.le_refl _⟩
theorem itl_go {K:PySem.W.Frag}{H:Hp}{a:Addr}{xs:List V}(h:SqL K H a xs):∀i,i<xs.length->(Itl K a).go i H:=λi hi=>⟨xs,xs[i],h,List.getElem?_eq_getElem hi⟩
theorem itl_yld {K:PySem.W.Frag}{H:Hp}{a:Addr}{xs:List V}(h:SqL K H a xs):∀i x H3,i<xs.length->(Itl K a).yld i H x H3->H3=H/\xs[i]?=some x:=λi x H3 _ y=>⟨y.1,y.2 xs h⟩
theorem itl_stop {K:PySem.W.Frag}{H:Hp}{a:Addr}{xs:List V}(h:SqL K H a xs):(Itl K a).stop xs.length H:=⟨xs,h,Nat.le_refl _⟩
def tCut (t:TS):TS:=λD σ H=>∃G:St->Hp->Prop,t { D with nx:=G } σ H/\∀ σ' H',G σ' H'->D.nx σ' H'
theorem ps_cut {X:Cx}{st:Stmt}{t:TS}(h:PS X st t):PS X st (tCut t):=by
 intro pins s σ H D I ⟨G,h1,h2⟩;refine thn (h pins s σ H { D with nx:=G } I h1) λf s' q=>?_
 cases f with
 |next=>obtain⟨σ',H',I',g⟩:=q;exact⟨σ',H',I',h2 σ' H' g⟩
 |_=>exact q
theorem relabel_mem {scope:Scope}{env:Env}{y:Str}{k:NameKind}(h:(relabel scope env).names.lookup y=some k)(hk:k=.cell\/k=.free)(hc:∀z∈scope.names,z.2≠.cell):(y,NameKind.free)∈scope.names:=by
 have hm:=PySem.mem_of_lookup h;unfold relabel at hm;obtain⟨⟨n,k'⟩,hz,e⟩:=List.mem_map.mp hm;dsimp only at e;by_cases hf:(k'==NameKind.free && env.scope.kind==.function && env.kindOf n==some .cell)=true
 ·rw[if_pos hf]at e;have e1:n=y:=congrArg Prod.fst e;rw[Bool.and_eq_true,Bool.and_eq_true]at hf;have e2:k'=.free:=eq_of_beq hf.1.1;rw[←e1,←e2];exact hz
 ·rw[if_neg hf]at e;have e1:n=y:=congrArg Prod.fst e;have e2:k'=k:=congrArg Prod.snd e;subst e1 e2;rcases hk with rfl|rfl
  ·exact absurd rfl (hc _ hz)
  ·exact hz
theorem lookup_relabel_free {env:Env}(hf:env.scope.kind=.function){y:Str}(hy:env.kindOf y=some .cell):∀{names:List (Str×NameKind)},names.lookup y=some .free->
 (names.map λ(n,k)=>if (k==NameKind.free && env.scope.kind==.function && env.kindOf n==some .cell) then (n,NameKind.cell) else (n,k)).lookup y=some .cell
 |[],h=>by simp at h
 |(n,k)::r,h=>by
  have ih:=@lookup_relabel_free env hf y hy r;show List.lookup y ((if (k==NameKind.free && env.scope.kind==.function && env.kindOf n==some .cell)=true then (n,NameKind.cell) else (n,k))::_)=_
  cases hx:y==n with
  |true=>
   simp only[List.lookup_cons,hx]at h;have e:y=n:=eq_of_beq hx;subst e;cases h;have hc:(NameKind.free==NameKind.free && env.scope.kind==.function && env.kindOf y==some .cell)=true:=by rw[hf,hy];rfl
   rw[if_pos hc];simp only[List.lookup_cons,hx]
  |false=>
   simp only[List.lookup_cons,hx]at h;by_cases hc:(k==NameKind.free && env.scope.kind==.function && env.kindOf n==some .cell)=true
   ·rw[if_pos hc];simp only[List.lookup_cons,hx];exact ih h
   ·rw[if_neg hc];simp only[List.lookup_cons,hx];exact ih h
theorem compScope1 {X:Cx}{x y:Str}{scope:Scope}{c:Addr}{i:Nat}(hclos:closureFor scope X.env=pure [(y,c)])(hy:X.env.cells.lookup y=some c)(hc:∀z∈scope.names,z.2≠.cell)(hk:scope.kind=.function)
 (hn:∀z∈scope.names,z.2=.local->scope.names.lookup z.1=some .local) (hx:scope.names.lookup x=some .local) (hfree:∀z∈scope.names,z.2=.free->z.1=y) (hxy:x≠y) (hi:X.N[i]?=some y)
 (hky:X.env.kindOf y=some .cell) (hkf:X.env.scope.kind=.function) (hys:scope.names.lookup y=some .free):CompScope X x [y] [i] scope [(y,c)] where
 clos:=hclos
 sub:=λz d h=>by
  by_cases e:z=y
  ·subst e;have:c=d:=by simpa [List.lookup_cons] using h
   rw[←this];exact hy
  ·have hb:(z==y)=false:=beq_eq_false_iff_ne.mpr e;simp[List.lookup_cons,hb]at h
 cell:=hc
 kind:=hk
 names:=hn
 own:=hx
 has:=λz h=>by
  have e:z=y:=by
   rcases h with h|h
   ·exact hfree _ (relabel_mem h (.inl rfl) hc) rfl
   ·exact hfree _ (relabel_mem h (.inr rfl) hc) rfl
  subst e;exact⟨c,by simp[List.lookup_cons]⟩
 nd:=by simp[hxy]
 len:=rfl
 at_:=λj z h=>by
  cases j with
  |zero=>
   have e:y=z:=by simpa using h
   subst e;exact⟨i,rfl,hi,.inl hky,c,by simp[List.lookup_cons],.inl (lookup_relabel_free hkf hky hys)⟩
  |succ j=>simp at h
end L2
namespace L2
open PySem PySem.Spec PyProof.Rows
namespace Rv
theorem slot_init:Slot "reversed" "__init__" "object.__init__":=
 .of (owner:="object") (n:="__init__") (by rw[typeLookup_type,builtinLookup_eq_fast];kernel_rfl) (by decide +kernel) (by decide +kernel) (by decide +kernel)
  (by first|exact .inl (by decide +kernel)|exact .inr (by decide +kernel)) (by rw[isSubtype_type];kernel_rfl)
theorem called:TypeCalled "reversed" "reversed.__new__" "object.__init__":=
 ⟨by decide +kernel,by decide +kernel,⟨_,_,PySem.F.mro_reversed⟩,PySem.F.made_reversed,by decide +kernel,by rw[isSubtype_type];kernel_rfl,slot_init⟩
def IsRv (h:Heap)(it t:Addr)(i:Int):Prop:=∃o,h.get? it=some o/\o.cls=.type "reversed"/\o.data=.fields #[.ref t,rawInt i]
theorem IsRv.typeIs {s:Shared}{it t:Addr}{i:Int}(x:IsRv s.heap it t i):s.TypeIs (.ref it) "reversed":=let ⟨o,ho,hc,_⟩:=x;⟨o,ho,hc⟩
theorem IsRv.at {h h':Heap}{it t:Addr}{i:Int}(x:IsRv h it t i)(e:∀o,h.get? it=some o->h'.get? it=some o):IsRv h' it t i:=let ⟨o,ho,r⟩:=x;⟨o,e _ ho,r⟩
section
variable {prog:Program} {w:World} {A:Around} {E:Value->Shared->Prop} {s:Shared}
end
end Rv
section
variable {X:Cx} {tg:Expr}
end
end L2
namespace L2
open PySem PySem.Spec PyProof.Rows
def intV (ns:List Int):List V:=ns.map V.int
theorem ints_at {ns:List Int}{i:Nat}{z:Int}(h:ns[i]?=some z):(intV ns)[i]?=some (V.int z):=by
 unfold intV;rw[List.getElem?_map,h];rfl
theorem ints_len (ns:List Int):(intV ns).length=ns.length:=List.length_map ..
theorem ints_of_at {ns:List Int}{i:Nat}{v:V}(h:(intV ns)[i]?=some v):∃z,v=V.int z/\ns[i]?=some z:=by
 unfold intV at h;rw[List.getElem?_map]at h
 cases e:ns[i]? with
 |none=>rw[e]at h;cases h
 |some z=>rw[e]at h;exact⟨z,(Option.some.inj h).symm,rfl⟩
theorem ints_app (a b:List Int):intV (a++b)=intV a++intV b:=List.map_append ..
section
variable {X:Cx}
theorem eqItems {A:Around}{s:Shared}{ns ms:List Int}{its its2:List Value}(r1:Vals (intV ns) its)(r2:Vals (intV ms) its2)(j:Nat)(h1:j<its.toArray.size)(h2:j<its2.toArray.size):
 SeqAt.EqAt A s its.toArray[j] its2.toArray[j] (decide (ns[j]?=ms[j]?)):=by
 have l1:=r1.length;have l2:=r2.length;rw[ints_len]at l1 l2;have g1:j<its.length:=by simpa using h1
 have g2:j<its2.length:=by simpa using h2
 have e1:ns[j]?=some ns[j]:=List.getElem?_eq_getElem (by omega)
 have e2:ms[j]?=some ms[j]:=List.getElem?_eq_getElem (by omega)
 obtain⟨u,hu,t,rfl⟩:=r1.get (ints_at e1);obtain⟨v,hv,t',rfl⟩:=r2.get (ints_at e2)
 have f1:its.toArray[j]=Value.int ns[j] t:=by
  rw[List.getElem_toArray];exact Option.some.inj ((List.getElem?_eq_getElem g1).symm.trans hu)
 have f2:its2.toArray[j]=Value.int ms[j] t':=by
  rw[List.getElem_toArray];exact Option.some.inj ((List.getElem?_eq_getElem g2).symm.trans hv)
 rw[f1,f2,e1,e2];have:=SeqAt.EqAt.int_int (A:=A) (s:=s) ns[j] t ms[j] t'
 have e:decide (some ns[j]=some ms[j])=(ns[j]==ms[j]):=by
  rw[Bool.eq_iff_iff,decide_eq_true_iff,beq_iff_eq];exact⟨Option.some.inj,congrArg some⟩
 rw[e];exact this
def rIsi (K:PySem.W.Frag):List V->Hp->VK->Prop:=λxs H Q=>∃x T t b,xs=[x,.ty T]/\TyOf K H x t/\PySem.W.kitOne K t (.type T)=some b/\Q (.bl b) H
theorem call_isi:CallR X (.builtin "isinstance") (rIsi X.K):=by
 intro pins s σ H xs us Q I r h;obtain⟨x,T,t,b,rfl,ty,e,q⟩:=h;obtain⟨u,w',rfl,rx,ry⟩:=vals2 r;cases ry;exact isinst_ok I rx ty e λtk=>⟨.bl b,H,I.tok tk,rfl,q⟩
theorem kit_self (K:PySem.W.Frag)(T:String):PySem.W.kitOne K (.type T) (.type T)=some true:=by
 unfold PySem.W.kitOne;rw[if_pos (beq_self_eq_true _)]
theorem kit_int_bool (K:PySem.W.Frag):PySem.W.kitOne K (.type "int") (.type "bool")=some false:=by
 first|rfl|kernel_rfl|decide +kernel
end
end L2
namespace L2
open PySem PySem.Spec PyProof.Rows
theorem Same.upd {H:Hp}{a:Addr}{o:HO}(h:H a=Option.none):Same H (upd H a o):=λb u e=>by
 rw[upd_ne (ne_of_none e h)];exact e
section
variable {X:Cx}
def rCatTT:R2:=λx y H Q=>∃a b xs ys,x=.ref a/\y=.ref b/\H a=some (.tup xs)/\H b=some (.tup ys)/\xs.length+ ys.length<=sizeLine/\
 ∀p H',Same H H'->H' p=some (.tup (xs++ys))->Q (.ref p) H'
theorem cat_tup0 {prog:Program}{w:World}{A:Around}{E:Value->Shared->Prop}{s:Shared}{t b:Addr}{ws:List Value}{Q:Value->Shared->Prop}(ht:IsTup s.heap t ([]:List Value).toArray)(hb:IsTup s.heap b ws.toArray)
 (h:Q (.ref b) s):wpAny (model prog w) A (binaryOp .Add (.ref t) (.ref b)) Q E s:=by
 obtain⟨⟨cls,dd,data,sl⟩,ho,hc,n,hd⟩:=id ht;obtain⟨⟨cls2,dd2,data2,sl2⟩,ho2,hc2,n2,hd2⟩:=id hb;simp only at hc hd hc2 hd2;subst hc hd hc2 hd2
 exact concat_meets ⟨_,ho,rfl⟩ ⟨_,ho2,rfl⟩ noFill_tuple_add seq_tuple_add PySem.F.slot_tuple_add PySem.F.entry_tuple_add (PySem.F.args_tuple_add_2 _ _)
  (tuple_addW0 t b ([]:List Value).toArray ws.toArray n n2 dd dd2 sl sl2 rfl) ⟨ho,ho2,h⟩
theorem op_catTT:OpR X (binaryOp .Add) rCatTT:=by
 intro pins s σ H x y v u Q I rx ry h;obtain⟨a,b,xs,ys,rfl,rfl,ha,hb,hz,q⟩:=h;by_cases hx:xs=[]
 ·subst hx;cases rx;cases ry;obtain⟨its,r1,p1,_⟩:=I.tuple (SqT.of ha);obtain⟨its2,r2,p2,_⟩:=I.tuple (SqT.of hb);have e:its=[]:=r1.nil_iff.mpr rfl;subst e;exact cat_tup0 p1 p2 ⟨.ref b,H,I,rfl,q b H (Same.refl H) hb⟩
 ·refine op_catT pins s σ H (.ref a) (.ref b) v u Q I rx ry ⟨a,b,xs,ys,rfl,rfl,SqT.of ha,SqT.of hb,hx,hz,λe=>?_,λ_ p hp=>q p _ (Same.upd hp) upd_same⟩;subst e;exact q a H (Same.refl H) (by rw[List.append_nil];exact ha)
def rSlTT:V->Option Int->Option Int->Hp->VK->Prop:=λx lo hi H Q=>∃a xs,x=.ref a/\H a=some (.tup xs)/\∀p H',Same H H'->H' p=some (.tup (cutV xs lo hi))->Q (.ref p) H'
end
end L2
namespace HT
open PySem PyProof.Rows
section
variable {prog:Program} {w:World} {A:Around} {E:Value->Shared->Prop} {s:Shared}
theorem getItem_tuple_whole {t sl:Addr}{items:Array Value}{vl vu:Value}{lo hi:Option Int}{Q:Value->Shared->Prop}(ht:IsTup s.heap t items)(hs:s.heap.IsSliceOf sl vl vu .none)(pl:IsPart vl lo)(pu:IsPart vu hi)
 (hw:sIx items.size 0 lo=0/\sIx items.size items.size hi=items.size) (h:Q (.ref t) s):wpAny (model prog w) A (getItem (.ref t) (.ref sl)) Q E s:=by
 obtain⟨os,hos,hcs,hds⟩:=id hs;have hTs:s.TypeIs (.ref sl) "slice":=⟨os,hos,hcs⟩;unfold getItem
 try with_reducible refine wpAny_holding ?_
 first|refine wpAny_bind (wpAny_pure ?_)|skip
 refine wpAny_bind (wpAny_sequenceKey ht.typeIs (by decide) ?_)
 refine wpAny_bind (wpAny_callSpecial?_slot (name:=Str.ofString "__getitem__") ht.typeIs PyProof.Rows.slot_tuple_getitem
  (wpAny_call_entry PyProof.Rows.slot_tuple_getitem ht.typeIs entry_tuple_getitem ?_ (args_tuple_getitem _ _)))
 show wpAny _ _ (Builtin.Tuple.tupleItemsOf (.ref t) >>=_) _ _ s;refine wpAny_bind (tupleItemsOf_ ht ?_);refine wpAny_bind (wpAny_typeOf hTs ?_);rw[if_pos (by decide)];refine wpAny_bind (sliceApplied_gen hs pl pu ?_);rw[hw.1,hw.2];have hyes:((((0:Nat):Int)==0 && (1:Int)==1 && (items.size - 0)==items.size)=true):=by simp
 show wpAny _ _ (if (((0:Nat):Int)==0 && (1:Int)==1 && (items.size - 0)==items.size)=true then _ else _) _ _ s;rw[if_pos hyes];obtain⟨ot,hot,hct,_⟩:=id ht;refine wpAny_bind (m:=Builtin.Tuple.tupleIsExact _) ?_;unfold Builtin.Tuple.tupleIsExact;refine wpAny_bind (wpAny_typeOf ht.typeIs (wpAny_pure ?_));show wpAny _ _ (if (Value.type "tuple"==Value.type "tuple")=true then _ else _) _ _ s;rw[if_pos (by decide)];exact wpAny_bind (wpAny_rule (wpAny_pure ⟨_,rfl,wpAny_pure h⟩))
end
end HT
namespace L2
open PySem PySem.Spec PyProof.Rows
section
variable {X:Cx} {e:Expr} {te:TE} {lo hi:Option Expr} {st:Expr} {tl th ts:TO} {pos p2:Pos}
theorem sl_tupTT:SlR X rSlTT:=by
 intro pins s σ H x v vl vu lo hi sl Q I rx hs pl pu h;obtain⟨a,xs,rfl,hx,q⟩:=h;by_cases hw:HT.sIx xs.length 0 lo=0/\HT.sIx xs.length xs.length hi=xs.length
 ·cases rx;obtain⟨its,r,ht,hz⟩:=I.tuple (SqT.of hx);have hlen:its.toArray.size=xs.length:=by rw[List.size_toArray];exact r.length.symm
  refine⟨"tuple",_,PyProof.Rows.slot_tuple_getitem.lookup,ht.typeIs,?_⟩;refine HT.getItem_tuple_whole ht hs pl pu (by rw[hlen];exact hw) ⟨.ref a,H,I,rfl,q a H (Same.refl H) ?_⟩;unfold cutV;rw[hw.1,hw.2,List.drop_zero,Nat.sub_zero,List.take_length];exact hx
 ·exact sl_tup pins s σ H (.ref a) v vl vu lo hi sl Q I rx hs pl pu ⟨a,xs,rfl,SqT.of hx,hw,λp hp=>q p _ (Same.upd hp) upd_same⟩
def SlR3 (X:Cx)(r:V->Option Int->Option Int->Option Int->Hp->VK->Prop):Prop:=
 ∀(pins:List (Addr×Obj)) (s:Shared) (σ:St) (H:Hp) (x:V) (v vl vu vs:Value) (lo hi st:Option Int) (sl:Addr) (Q:VK),Inv X pins σ H s->RelV x v->s.heap.IsSliceOf sl vl vu vs->IsPart vl lo->IsPart vu hi->IsPart vs st->r x lo hi st H Q->
  ∃T id,typeLookup (.type T) "__getitem__"=pure (some (.builtin id))/\s.TypeIs v T/\wpAny (model X.prog X.w) X.A (getItem v (.ref sl)) (EP X pins σ Q) X.xe s
def tSl3 (r:V->Option Int->Option Int->Option Int->Hp->VK->Prop)(te:TE)(tl th ts:TO):TE:=λ σ H Q=>te σ H λx H1=>tl σ H1 λl H2=>th σ H2 λu H3=>ts σ H3 λk H4=>r x l u k H4 Q
theorem pe_slice3 {r:V->Option Int->Option Int->Option Int->Hp->VK->Prop}(hr:SlR3 X r)(he:PE X e te)(hl:PO X lo tl)(hu:PO X hi th)(hst:PO X (some st) ts):PE X (.Subscript e (.Slice lo hi (some st) p2) pos) (tSl3 r te tl th ts):=by
 intro pins s σ H Q I h;refine Subscript_ (thn (he pins s σ H _ I h) λv s1 ⟨x,H1,I1,r1,q1⟩=>?_);refine wpAny_Slice (thn (hl pins s1 σ H1 _ I1 q1) λvl s2 ⟨l,H2,I2,pl,q2⟩=>thn (hu pins s2 σ H2 _ I2 q2) λvu s3 ⟨u,H3,I3,pu,q3⟩=>thn (hst pins s3 σ H3 _ I3 q3) λvs s4 ⟨k,H4,I4,pk,q4⟩=>?_);have I5:Inv X pins σ H4 { s4 with heap:=s4.heap.push { cls:=.type "slice",data:=.fields #[vl,vu,vs] } }:=I4.kept (t':=s4.toks) λb ob q=>Heap.get?_push_of_some _ q
 obtain⟨T,id,hT,ht,hg⟩:=hr pins { s4 with heap:=s4.heap.push { cls:=.type "slice",data:=.fields #[vl,vu,vs] } } σ H4 x v vl vu vs l u k s4.heap.objs.size Q I5 r1 (Heap.IsSliceOf.new ..) pl pu pk q4;show wpAny (model X.prog X.w) X.A (subscriptTail e (.Slice lo hi (some st) p2) v (.ref s4.heap.objs.size)) (EP X pins σ Q) X.xe { s4 with heap:=s4.heap.push { cls:=.type "slice",data:=.fields #[vl,vu,vs] } };exact tail_any (ops:=[v,.ref s4.heap.objs.size]) ht hT hg (by with_unfolding_all rfl)
def rRevL (K:PySem.W.Frag):V->Option Int->Option Int->Option Int->Hp->VK->Prop:=λx lo hi st H Q=>∃a xs,x=.ref a/\SqL K H a xs/\lo=none/\hi=none/\st=some (-1)/\∀p,H p=none->Q (.ref p) (upd H p (.lst xs.reverse))
theorem sl_revL:SlR3 X (rRevL X.K):=by
 intro pins s σ H x v vl vu vs lo hi st sl Q I rx hs pl pu pk h;obtain⟨a,xs,rfl,hx,rfl,rfl,rfl,q⟩:=h;cases rx;obtain⟨its,r,ht,hz⟩:=I.list hx;have hl:=r.length;refine⟨"list",_,slot_list_getitem.lookup,ht.isList.typeIs,?_⟩;refine wpAny_getItem_list_slice ht.isList hs pl pu pk (by decide) ?_ (by rw[List.size_toArray];omega);rw[PySem.W.krv_pick];refine⟨.ref s.heap.objs.size,_,I.laid (t':=s.toks) (o:=.lst xs.reverse) (λb ob q=>Heap.get?_push_of_some _ q) (Nat.le_refl _) ?_,rfl,q _ (I.hok.fresh (Nat.le_refl _))⟩;exact⟨by rw[List.length_reverse];exact hz,its.reverse,_,r.reverse,Heap.get?_push_size _ rfl⟩
end
end L2
namespace L2
open PySem PySem.Spec PyProof.Rows
def tx (l:List Nat):Str:=⟨l.toArray⟩
section
variable {X:Cx} {pos:Pos}
theorem pe_strX {x:Str}{l:List Nat}{j}(h:x=tx l):PE X (.Constant (.str x) j pos) (tC (.str (tx l))):=by
 rw[←h];exact pe_str
end
end L2
namespace L2
open PySem PySem.Spec PyProof.Rows
structure Def (K:PySem.W.Frag) (mg:Str->Option Value) (x:Str) (st:Stmt) (ps:List Str) (f:Addr) (fd:FuncData):Prop where
 F:Fun K x x st f fd
 m:mg x=some (.ref f)
 b:Binds K fd ps []
section
variable {X:Cx}
end
theorem cut_ints (ns:List Int)(lo hi:Option Int):cutV (intV ns) lo hi=intV ((ns.drop (HT.sIx ns.length 0 lo)).take (HT.sIx ns.length ns.length hi - HT.sIx ns.length 0 lo)):=by
 unfold cutV intV;rw[List.length_map,List.map_take,List.map_drop]
end L2
namespace L2
open PySem PySem.Spec PyProof.Rows
section
variable {κ:Type} [DecidableEq κ]
def valV (kvs:List (κ×V))(k:κ):Option V:=(kvs.find? λkv=>decide (kv.1=k)).map (·.2)
def putK (kvs:List (κ×V))(k:κ)(v:V):List (κ×V):=
 if (kvs.any λkv=>decide (kv.1=k))=true then kvs.map (λkv=>if kv.1=k then (kv.1,v) else kv) else kvs++[(k,v)]
def dropK (kvs:List (κ×V))(k:κ):List (κ×V):=kvs.filter λkv=>decide (kv.1≠k)
theorem valV_pos {p:κ×V}{r:List (κ×V)}{k:κ}(e:p.1=k):valV (p::r) k=some p.2:=by simp[valV,List.find?_cons,e]
theorem valV_neg {p:κ×V}{r:List (κ×V)}{k:κ}(e:¬p.1=k):valV (p::r) k=valV r k:=by simp[valV,List.find?_cons,e]
theorem valV_any (k:κ):∀kvs:List (κ×V),(kvs.any λkv=>decide (kv.1=k))=(valV kvs k).isSome
 |[]=>rfl
 |p::r=>by
  rw[List.any_cons];by_cases e:p.1=k
  ·simp only[valV_pos e,decide_eq_true e,Bool.true_or,Option.isSome_some]
  ·rw[valV_neg e,decide_eq_false e,Bool.false_or];exact valV_any k r
theorem valV_map (k j:κ)(y:V):∀kvs:List (κ×V),valV (kvs.map λkv=>if kv.1=k then (kv.1,y) else kv) j=(valV kvs j).map λx=>if j=k then y else x
 |[]=>rfl
 |p::r=>by
  have ih:=valV_map k j y r;rw[List.map_cons];by_cases h:p.1=k
  ·rw[if_pos h];by_cases e:p.1=j
   ·rw[valV_pos (p:=(p.1,y)) e,valV_pos e,Option.map_some,if_pos (e.symm.trans h)]
   ·rw[valV_neg (p:=(p.1,y)) e,valV_neg e,ih]
  ·rw[if_neg h];by_cases e:p.1=j
   ·rw[valV_pos (p:=p) e,valV_pos e,Option.map_some,if_neg (λz=>h (e.trans z))]
   ·rw[valV_neg (p:=p) e,valV_neg e,ih]
theorem valV_snoc (k j:κ)(y:V):∀kvs:List (κ×V),valV kvs k=none->valV (kvs++[(k,y)]) j=if j=k then some y else valV kvs j
 |[],_=>by
  by_cases e:k=j
  ·rw[if_pos e.symm];exact valV_pos (p:=(k,y)) e
  ·rw[if_neg (λz=>e z.symm)];exact valV_neg (p:=(k,y)) e
 |p::r,hn=>by
  rw[List.cons_append];have hk:¬p.1=k:=λz=>by rw[valV_pos z]at hn;cases hn
  rw[valV_neg hk]at hn;have ih:=valV_snoc k j y r hn;by_cases e:p.1=j
  ·rw[valV_pos e,valV_pos e,if_neg (λz=>hk (e.trans z))]
  ·rw[valV_neg e,valV_neg e,ih]
theorem valV_put (kvs:List (κ×V))(k j:κ)(y:V):valV (putK kvs k y) j=if j=k then some y else valV kvs j:=by
 unfold putK;by_cases a:(kvs.any λkv=>decide (kv.1=k))=true
 ·rw[if_pos a,valV_map];rw[valV_any]at a;by_cases e:j=k
  ·obtain⟨x,hx⟩:=Option.isSome_iff_exists.mp a;rw[if_pos e,e,hx,Option.map_some,if_pos rfl]
  ·rw[if_neg e]
   cases valV kvs j with
   |none=>rfl
   |some x=>rw[Option.map_some,if_neg e]
 ·rw[if_neg a];refine valV_snoc k j y kvs ?_;rw[valV_any]at a
  cases q:valV kvs k with
  |none=>rfl
  |some x=>rw[q]at a;exact(a rfl).elim
theorem length_putK (kvs:List (κ×V))(k:κ)(v:V):(putK kvs k v).length<=kvs.length+ 1:=by
 unfold putK;split
 ·rw[List.length_map];omega
 ·rw[List.length_append,List.length_cons,List.length_nil];omega
theorem putK_new {kvs:List (κ×V)}{k:κ}(v:V)(h:valV kvs k=none):putK kvs k v=kvs++[(k,v)]:=by
 unfold putK;rw[valV_any,h];exact if_neg (by decide)
theorem RelO.isSome_eq {o:Option V}{u:Option Value}(r:RelO o u):o.isSome=u.isSome:=by
 cases o with
 |none=>cases u with
  |none=>rfl
  |some _=>exact(show False from r).elim
 |some _=>cases u with
  |none=>exact(show False from r).elim
  |some _=>rfl
theorem RelO.getD {o:Option V}{u:Option Value}{d:V}{d':Value}(r:RelO o u)(rd:RelV d d'):RelV (o.getD d) (u.getD d'):=by
 cases o with
 |none=>cases u with
  |none=>exact rd
  |some _=>exact(show False from r).elim
 |some _=>cases u with
  |none=>exact(show False from r).elim
  |some _=>exact r
theorem KV.val {kvs:List (κ×V)}{vs:List (κ×Value)}(r:KV kvs vs)(k:κ):RelO (valV kvs k) (valueAt vs k):=by
 unfold KV at r
 induction r with
 |nil=>exact True.intro
 | @cons p q ps qs h t ih=>
   obtain⟨h1,h2⟩:=h;by_cases e:p.1=k
   ·have e':q.1=k:=h1.symm.trans e;have b:valueAt (q::qs) k=some q.2:=by simp[valueAt,List.find?_cons,e']
    rw[valV_pos e,b];exact h2
   ·have e':¬q.1=k:=λz=>e (h1.trans z)
    have b:valueAt (q::qs) k=valueAt qs k:=by simp[valueAt,List.find?_cons,e']
    rw[valV_neg e,b];exact ih
theorem KV.any {kvs:List (κ×V)}{vs:List (κ×Value)}(r:KV kvs vs)(k:κ):(kvs.any λkv=>decide (kv.1=k))=vs.any λkv=>decide (kv.1=k):=by
 unfold KV at r
 induction r with
 |nil=>rfl
 |cons h t ih=>rw[List.any_cons,List.any_cons,ih,h.1]
theorem KV.repl {kvs:List (κ×V)}{vs:List (κ×Value)}(r:KV kvs vs)(k:κ){y:V}{u:Value}(ry:RelV y u):
 KV (kvs.map λkv=>if kv.1=k then (kv.1,y) else kv) (vs.map λkv=>if kv.1=k then (kv.1,u) else kv):=by
 unfold KV at r ⊢
 induction r with
 |nil=>exact .nil
 | @cons p q ps qs h t ih=>
   rw[List.map_cons,List.map_cons];refine .cons ?_ ih;obtain⟨h1,h2⟩:=h;by_cases e:p.1=k
   ·rw[if_pos e,if_pos (h1.symm.trans e)];exact⟨h1,ry⟩
   ·rw[if_neg e,if_neg (λz=>e (h1.trans z))];exact⟨h1,h2⟩
theorem KV.put {kvs:List (κ×V)}{vs:List (κ×Value)}(r:KV kvs vs)(k:κ){y:V}{u:Value}(ry:RelV y u):KV (putK kvs k y) (stored vs k u):=by
 unfold putK stored;rw[r.any k];by_cases e:(vs.any λkv=>decide (kv.1=k))=true
 ·rw[if_pos e,if_pos e];exact r.repl k ry
 ·rw[if_neg e,if_neg e];exact Paired.snoc r ⟨rfl,ry⟩
theorem KV.drop {kvs:List (κ×V)}{vs:List (κ×Value)}(r:KV kvs vs)(k:κ):KV (dropK kvs k) (without vs k):=by
 unfold KV at r ⊢;unfold dropK without
 induction r with
 |nil=>exact .nil
 | @cons p q ps qs h t ih=>
   obtain⟨h1,h2⟩:=h;rw[List.filter_cons,List.filter_cons];by_cases e:p.1=k
   ·have a:¬decide (p.1≠k)=true:=by simp[e]
    have b:¬decide (q.1≠k)=true:=by simp[h1.symm.trans e]
    rw[if_neg a,if_neg b];exact ih
   ·have e':¬q.1=k:=λz=>e (h1.trans z)
    have a:decide (p.1≠k)=true:=by simp[e]
    have b:decide (q.1≠k)=true:=by simp[e']
    rw[if_pos a,if_pos b];exact .cons ⟨h1,h2⟩ ih
theorem KV.keys {kvs:List (κ×V)}{vs:List (κ×Value)}(r:KV kvs vs):kvs.map (·.1)=vs.map (·.1):=by
 unfold KV at r
 induction r with
 |nil=>rfl
 |cons h t ih=>rw[List.map_cons,List.map_cons,ih,h.1]
theorem KV.length {kvs:List (κ×V)}{vs:List (κ×Value)}(r:KV kvs vs):kvs.length=vs.length:=Paired.length r
theorem dropK_le (kvs:List (κ×V))(k:κ):(dropK kvs k).length<=kvs.length:=List.length_filter_le _ _
end
theorem kV_is {P:Program}{w:World}{k:Key}{u:Value}(r:RelV (kV k) u):(mixKind P w).is k u=true:=by
 cases k with
 |inl i=>obtain⟨t,e⟩:=(show ∃t,u=Value.int i t from r);subst e;exact mixKind_int P w i t
 |inr x=>obtain⟨t,e⟩:=(show ∃t,u=Value.str x t from r);subst e;exact mixKind_str P w x t
theorem items_are {P:Program}{w:World}:∀{ks:List Key} {us:List Value},Vals (ks.map kV) us->ItemsAre (mixKind P w) ks us
 |[],_,r=>by rw[List.map_nil]at r;cases r;exact .nil
 |k::ks,_,r=>by
  rw[List.map_cons]at r
  cases r with
  |cons h t=>exact .cons (kV_is h) (items_are t)
abbrev KT (H:Hp):List (List Key×V)->List (List Key×Addr×Value)->Prop:=Paired λp q=>p.1=q.1/\H q.2.1=some (.tup (p.1.map kV))/\RelV p.2 q.2.2
theorem KT.val {H:Hp}{kvs:List (List Key×V)}{xs:List (List Key×Addr×Value)}(r:KT H kvs xs)(k:List Key):RelO (valV kvs k) ((atKey xs k).map (·.2)):=by
 induction r with
 |nil=>exact True.intro
 | @cons p q ps qs h t ih=>
   obtain⟨h1,_,h2⟩:=h;by_cases e:p.1=k
   ·have e':q.1=k:=h1.symm.trans e;have b:atKey (q::qs) k=some q.2:=by simp[atKey,List.find?_cons,e']
    rw[valV_pos e,b];exact h2
   ·have e':¬q.1=k:=λz=>e (h1.trans z)
    have b:atKey (q::qs) k=atKey qs k:=by simp[atKey,List.find?_cons,e']
    rw[valV_neg e,b];exact ih
theorem KT.repl {H:Hp}{kvs:List (List Key×V)}{xs:List (List Key×Addr×Value)}(r:KT H kvs xs)(k:List Key){y:V}{u:Value}(ry:RelV y u):
 KT H (kvs.map λkv=>if kv.1=k then (kv.1,y) else kv) (xs.map (putAt k u)):=by
 induction r with
 |nil=>exact .nil
 | @cons p q ps qs h t ih=>
   rw[List.map_cons,List.map_cons];refine .cons ?_ ih;obtain⟨h1,h2,h3⟩:=h;unfold putAt;by_cases e:p.1=k
   ·rw[if_pos e,if_pos (h1.symm.trans e)];exact⟨h1,h2,ry⟩
   ·rw[if_neg e,if_neg (λz=>e (h1.trans z))];exact⟨h1,h2,h3⟩
theorem KT.put {H:Hp}{kvs:List (List Key×V)}{xs:List (List Key×Addr×Value)}(r:KT H kvs xs)(k:List Key){b:Addr}{y:V}{u:Value}(hb:H b=some (.tup (k.map kV)))(ry:RelV y u):
 KT H (putK kvs k y) (storedH xs k b u):=by
 have e:(kvs.any λkv=>decide (kv.1=k))=(atKey xs k).isSome:=by
  rw[valV_any,(r.val k).isSome_eq,Option.isSome_map]
 unfold putK storedH;rw[e];by_cases q:(atKey xs k).isSome=true
 ·rw[if_pos q,if_pos q];exact r.repl k ry
 ·rw[if_neg q,if_neg q];exact Paired.snoc r ⟨rfl,hb,ry⟩
theorem KT.keeps {H H':Hp}{kvs:List (List Key×V)}{xs:List (List Key×Addr×Value)}(r:KT H kvs xs)(ht:∀b ys,H b=some (.tup ys)->H' b=some (.tup ys)):KT H' kvs xs:=
 Paired.mapP r λ_ _ z=>⟨z.1,ht _ _ z.2.1,z.2.2⟩
section
variable {P:Program} {w:World} {H:Hp} {h:Heap} {a:Addr}
theorem rd_of {u:HO}(ok:HOk P w H h)(e:Rd H a u):ObjOk P w H h a u:=e.ok ok
theorem dk_rd {kvs:List (Key×V)}(ok:HOk P w H h)(e:Rd H a (.dK kvs)):kvs.length<=sizeLine/\(a==sysModules)=false/\∃vs,KV kvs vs/\h.DictOf (mixKind P w) a vs:=
 show ObjOk P w H h a (.dK kvs) from rd_of ok e
theorem dk_of {kvs:List (Key×V)}(ok:HOk P w H h)(e:H a=some (.dK kvs)):kvs.length<=sizeLine/\(a==sysModules)=false/\∃vs,KV kvs vs/\h.DictOf (mixKind P w) a vs:=dk_rd ok (.inl e)
theorem key_of {ks:List Key}(ok:HOk P w H h)(e:H a=some (.tup (ks.map kV))):(tupleKind (mixKind P w)).is h ks a:=by
 obtain⟨_,its,r,o,h1,h2,n,h3⟩:=(show ObjOk P w H h a (.tup (ks.map kV)) from ok a _ e);exact⟨o,its.toArray,n,h1,h2,h3,by simpa using items_are r⟩
theorem dt_rd {kvs:List (List Key×V)}(ok:HOk P w H h)(e:Rd H a (.dT kvs)):kvs.length<=sizeLine/\(a==sysModules)=false/\
 ∃xs,KT H kvs xs/\h.DictOfH (tupleKind (mixKind P w)) a xs:=by
 obtain⟨z,y,xs,r,o,es,ep,h1,h2,h3,h4,h5⟩:=(show ObjOk P w H h a (.dT kvs) from rd_of ok e);refine⟨z,y,xs,r,o,es,ep,h1,h2,h3,h4,λx hx=>?_,h5⟩
 have all:∀{l:List (List Key×V)} {m:List (List Key×Addr×Value)},KT H l m->∀x∈m,(tupleKind (mixKind P w)).is h x.1 x.2.1:=by
  intro l m q
  induction q with
  |nil=>intro x hx;exact nomatch hx
  | @cons p q ps qs hq t ih=>
    intro x hx;rcases List.mem_cons.mp hx with e|hx
    ·subst e;exact key_of ok (by rw[←hq.1];exact hq.2.1)
    ·exact ih x hx
 exact all r x hx
theorem dt_of {kvs:List (List Key×V)}(ok:HOk P w H h)(e:H a=some (.dT kvs)):kvs.length<=sizeLine/\(a==sysModules)=false/\
 ∃xs,KT H kvs xs/\h.DictOfH (tupleKind (mixKind P w)) a xs:=dt_rd ok (.inl e)
end
def DGet (H:Hp)(a:Addr)(y:V)(r:Option V):Prop:=
 (∃kvs k,Rd H a (.dK kvs)/\y=kV k/\r=valV kvs k)\/∃kvs k b,Rd H a (.dT kvs)/\y=.ref b/\H b=some (.tup (k.map kV))/\r=valV kvs k
def DPut (H:Hp)(a:Addr)(y v:V)(H':Hp):Prop:=
 (∃kvs k,H a=some (.dK kvs)/\y=kV k/\kvs.length<sizeLine/\H'=upd H a (.dK (putK kvs k v)))\/
 ∃kvs k b,H a=some (.dT kvs)/\y=.ref b/\H b=some (.tup (k.map kV))/\kvs.length<sizeLine/\H'=upd H a (.dT (putK kvs k v))
theorem DGet.k {H:Hp}{a:Addr}{kvs:List (Key×V)}{k:Key}(e:H a=some (.dK kvs)):DGet H a (kV k) (valV kvs k):=.inl ⟨kvs,k,.inl e,rfl,rfl⟩
theorem DGet.t {H:Hp}{a b:Addr}{kvs:List (List Key×V)}{k:List Key}(e:H a=some (.dT kvs))(eb:H b=some (.tup (k.map kV))):DGet H a (.ref b) (valV kvs k):=.inr ⟨kvs,k,b,.inl e,rfl,eb,rfl⟩
theorem DPut.k {H:Hp}{a:Addr}{kvs:List (Key×V)}{k:Key}{v:V}(e:H a=some (.dK kvs))(hl:kvs.length<sizeLine):DPut H a (kV k) v (upd H a (.dK (putK kvs k v))):=.inl ⟨kvs,k,e,rfl,hl,rfl⟩
theorem DPut.t {H:Hp}{a b:Addr}{kvs:List (List Key×V)}{k:List Key}{v:V}(e:H a=some (.dT kvs))(eb:H b=some (.tup (k.map kV)))(hl:kvs.length<sizeLine):
 DPut H a (.ref b) v (upd H a (.dT (putK kvs k v))):=.inr ⟨kvs,k,b,e,rfl,eb,hl,rfl⟩
section
variable {X:Cx} {pins:List (Addr×Obj)} {σ:St} {H:Hp} {s:Shared} {a:Addr} {y v:V} {u r:Value} {o:Option V} {A:Around} {E:Value->Shared->Prop}
theorem Inv.big (I:Inv X pins σ H s):sysModules<s.heap.objs.size:=by
 have h:mainGlobals<s.heap.objs.size:=(I.mod.glob.keeps I.bk).lt;exact Nat.lt_trans (by decide) h
theorem d_getItem {Q:Value->Shared->Prop}(hu:A.units+ 1<cLine)(I:Inv X pins σ H s)(g:DGet H a y (some v))(ry:RelV y u)(h:∀w' s',Inv X pins σ H s'->RelV v w'->Q w' s'):
 wpAny (model X.prog X.w) A (getItem (.ref a) u) Q E s:=by
 rcases g with ⟨kvs,k,e,ey,l⟩|⟨kvs,k,b,e,ey,eb,l⟩
 ·subst ey;obtain⟨z,hd,vs,rel,dd⟩:=dk_rd I.hok e;obtain⟨w',hw,rw'⟩:=RelO.some_of (v:=v) (o:=valueAt vs k) (by rw[l];exact rel.val k);exact wpAny_getItem_of (kV_is ry) dd.mapOf hw (h w' _ (I.tok _) rw')
 ·subst ey;cases (show u=Value.ref b from ry);obtain⟨z,hd,xs,rel,dd⟩:=dt_rd I.hok e;obtain⟨w',hw,rw'⟩:=RelO.some_of (v:=v) (o:=(atKey xs k).map (·.2)) (by rw[l];exact rel.val k);obtain⟨p,hp,hp2⟩:=Option.map_eq_some_iff.mp hw;refine wpAny_getItem_heap (tupleKind_room_in1 hu) (key_of I.hok eb) dd hp ?_;rw[hp2];exact h w' _ (I.tok _) rw'
theorem d_write {h':Heap}{t':Nat}{ob:HO}(I:Inv X pins σ H s)(mu:Mut (H a))(hs:Heap.SameBut a s.heap h')(he:∃q,h'.get? a=some q)(new:ObjOk X.prog X.w (upd H a ob) h' a ob):
 Inv X pins σ (upd H a ob) { s with heap:=h',toks:=t' }:=
 I.write (x:=a) (e:=a) mu (.inl rfl) (λb q hb z=>(hs.2 b hb).trans z) he new
theorem dk_new {P:Program}{w:World}{H':Hp}{h':Heap}{kvs:List (Key×V)}{vs:List (Key×Value)}(z:kvs.length<=sizeLine)(hd:(a==sysModules)=false)(rel:KV kvs vs)(dd:h'.DictOf (mixKind P w) a vs):
 ObjOk P w H' h' a (.dK kvs):=⟨z,hd,vs,rel,dd⟩
theorem d_setItem {H':Hp}{Q:Unit->Shared->Prop}(hu:A.units+ 1<cLine)(I:Inv X pins σ H s)(g:DPut H a y v H')(ry:RelV y u)(rv:RelV v r)(h:∀s',Inv X pins σ H' s'->Q () s'):
 wpAny (model X.prog X.w) A (setItem (.ref a) u r) Q E s:=by
 rcases g with ⟨kvs,k,e,ey,l,eH⟩|⟨kvs,k,b,e,ey,eb,l,eH⟩
 ·subst ey eH;obtain⟨z,hd,vs,rel,dd⟩:=dk_of I.hok e;have hz:vs.length<=sizeLine:=by rw[←rel.length];exact z
  have hl:(putK kvs k v).length<=sizeLine:=by have:=length_putK kvs k v;omega
  refine wpAny_setItem_pairs (hsz:=hz) (kV_is ry) dd λh' dd' hs=>h _ ?_
  have he:∃q,h'.get? a=some q:=let ⟨q,_,_,hq,_⟩:=dd';⟨q,hq⟩
  exact d_write I (by rw[e];exact True.intro) hs he (dk_new hl hd (rel.put k rv) dd')
 ·subst ey eH;cases (show u=Value.ref b from ry);obtain⟨z,hd,xs,rel,dd⟩:=dt_of I.hok e;have hz:xs.length<=sizeLine:=by rw[←Paired.length rel];exact z
  have hl:(putK kvs k v).length<=sizeLine:=by have:=length_putK kvs k v;omega
  refine wpAny_setItem_heap (hsz:=hz) (tupleKind_room_in1 hu) (key_of I.hok eb) dd λh' dd' hs=>h _ ?_
  obtain⟨q,es,ep,hq,h2,h3,h4,_,h5⟩:=dd';refine d_write I (by rw[e];exact True.intro) hs ⟨q,hq⟩ ⟨hl,hd,_,(rel.put k eb rv).keeps λc ys ec=>?_,q,es,ep,hq,h2,h3,h4,h5⟩;rw[upd_ne (ne_of ec e (λz=>nomatch z))];exact ec
end
section
variable {X:Cx} {pins:List (Addr×Obj)} {σ:St} {H:Hp} {s:Shared} {a:Addr} {kvs:List (Key×V)} {k:Key} {u:Value} {A:Around} {E:Value->Shared->Prop}
theorem d_pop {v:V}{more:List Value}{Q:Value->Shared->Prop}(I:Inv X pins σ H s)(e:H a=some (.dK kvs))(ry:RelV (kV k) u)(l:valV kvs k=some v)(hm:more=[]\/∃x,more=[x])
 (h:∀w' s',Inv X pins σ (upd H a (.dK (dropK kvs k))) s'->RelV v w'->Q w' s'):wpAny (model X.prog X.w) A (call (.builtin "dict.pop") (.ref a::u::more)) Q E s:=by
 obtain⟨z,hd,vs,rel,dd⟩:=dk_of I.hok e;obtain⟨w',hw,rw'⟩:=RelO.some_of (v:=v) (o:=valueAt vs k) (by rw[←l];exact rel.val k)
 have hp:(keyPart u).isSome=true:=by
  cases k with
  |inl i=>obtain⟨t,q⟩:=(show ∃t,u=Value.int i t from ry);subst q;rfl
  |inr x=>obtain⟨t,q⟩:=(show ∃t,u=Value.str x t from ry);subst q;rfl
 have ha:argsOk "dict.pop" ⟨.ref a::u::more,[]⟩:=by
  rcases hm with q|⟨x,q⟩
  ·subst q;exact PySem.F.args_dict_pop_2 _ _
  ·subst q;exact PySem.F.args_dict_pop_3 _ _ _
 refine call_meetsIn PySem.F.slot_dict_pop dd.typeIs PySem.F.entry_dict_pop ha (meets_dict_pop_there (mixKind X.prog X.w) a (kV_is ry) more hm hp)
  ⟨vs,w',dd,by rw[←rel.length];exact z,hw,λh' dd' hs=>h w' _ ?_ rw'⟩
 have he:∃q,h'.get? a=some q:=let ⟨q,_,_,hq,_⟩:=dd';⟨q,hq⟩
 exact d_write I (by rw[e];exact True.intro) hs he (dk_new (Nat.le_trans (dropK_le kvs k) z) hd (rel.drop k) dd')
theorem d_popD {r:Value}{Q:Value->Shared->Prop}(I:Inv X pins σ H s)(e:H a=some (.dK kvs))(ry:RelV (kV k) u)(l:valV kvs k=none)(h:∀s',Inv X pins σ H s'->Q r s'):
 wpAny (model X.prog X.w) A (call (.builtin "dict.pop") [.ref a,u,r]) Q E s:=by
 obtain⟨z,hd,vs,rel,dd⟩:=dk_of I.hok e;have hn:valueAt vs k=none:=RelO.none_of (by rw[←l];exact rel.val k)
 have hp:(keyPart u).isSome=true:=by
  cases k with
  |inl i=>obtain⟨t,q⟩:=(show ∃t,u=Value.int i t from ry);subst q;rfl
  |inr x=>obtain⟨t,q⟩:=(show ∃t,u=Value.str x t from ry);subst q;rfl
 exact call_meetsIn PySem.F.slot_dict_pop dd.typeIs PySem.F.entry_dict_pop (PySem.F.args_dict_pop_3 _ _ _) (meets_dict_pop_default (mixKind X.prog X.w) a (kV_is ry) hd hp r) ⟨vs,dd,hn,h _ (I.tok _)⟩
end
def NoSl (i:Expr):Prop:=∀ov iv,subscripted i false ov iv=operate [ov,iv] (getItem ov iv)
theorem subD_of {prog:Program}{w:World}{A:Around}{E:Value->Shared->Prop}{s:Shared}{env:Env}{value slice:Expr}{pos:Pos}{T id:String}{Q:Value->Shared->Prop}
 (hl:typeLookup (.type T) "__getitem__"=pure (some (.builtin id))) (hs:NoSl slice)
 (h:wpAny (model prog w) A (eval value env) (λo s₁=>wpAny (model prog w) A (eval slice env) (λi s₂=>s₂.TypeIs o T/\wpAny (model prog w) A (getItem o i) Q E s₂) E s₁) E s):
 wpAny (model prog w) A (eval (.Subscript value slice pos) env) Q E s:=by
 refine Subscript_ (wpAny_mono h (λo s₁ h₁=>wpAny_mono h₁ (λi s₂ h₂=>?_) λ_ _ x=>x) λ_ _ x=>x);obtain⟨hT,h₂⟩:=h₂;unfold subscriptTail;refine wpAny_bind ?_;rw[getitemInPython_of_ne hT.not_modules];refine wpAny_bind (wpAny_specialOf hT hl ?_)
 have fin:wpAny (model prog w) A (subscripted slice false o i) (λr s₃=>wpAny (model prog w) A (letTemporaryGo value o r >>=λ_=>pure r) Q E s₃) E s₂:=by
  rw[hs o i];exact wpAny_operating (wpAny_mono h₂ (λr s₃ h₃=>wpAny_bind (wpAny_letTemporaryGo (wpAny_pure h₃))) λ_ _ x=>x)
 first
  |exact wpAny_pure (wpAny_bind fin)
  |exact wpAny_bind (wpAny_pure (wpAny_bind fin))
  |exact wpAny_bind fin
theorem dict_typeIs {X:Cx}{pins:List (Addr×Obj)}{σ:St}{H:Hp}{s:Shared}{a:Addr}{y:V}{o:Option V}(I:Inv X pins σ H s)(g:DGet H a y o):s.TypeIs (.ref a) "dict":=by
 rcases g with ⟨kvs,k,e,_,_⟩|⟨kvs,k,b,e,_,_,_⟩
 ·obtain⟨_,_,vs,_,dd⟩:=dk_rd I.hok e;exact dd.typeIs
 ·obtain⟨_,_,xs,_,dd⟩:=dt_rd I.hok e;exact dd.typeIs
def tDGet (td ty:TE):TE:=λ σ H Q=>td σ H λx H1=>ty σ H1 λy H2=>∃a v,x=.ref a/\DGet H2 a y (some v)/\Q v H2
def sDPut (td ty tv:TE):TS:=λD σ H=>tv σ H λv H1=>td σ H1 λx H2=>ty σ H2 λy H3=>∃a H4,x=.ref a/\DPut H3 a y v H4/\D.nx σ H4
section
variable {X:Cx} {o i e value:Expr} {pos pos' tpos:Pos} {td ty tv:TE}
theorem pe_dget (hu:X.A.units+ 1<cLine)(ho:PE X o td)(hi:PE X i ty)(hs:NoSl i):PE X (.Subscript o i pos) (tDGet td ty):=by
 intro pins s σ H Q I h;refine subD_of PySem.F.slot_dict_getitem.lookup hs (thn (ho pins s σ H _ I h) λu s1 ⟨x,H1,I1,rx,q1⟩=>thn (hi pins s1 σ H1 _ I1 q1) λiv s2 ⟨y,H2,I2,ry,a,v,ex,g,q2⟩=>?_);subst ex;obtain rfl:u=Value.ref a:=rx;exact⟨dict_typeIs I2 g,d_getItem hu I2 g ry λw' s3 I3 rw'=>⟨v,H2,I3,rw',q2⟩⟩
theorem ps_dput (hu:X.A.units+ 1<cLine)(ho:PE X o td)(hi:PE X i ty)(hv:PE X value tv)(hs:swapsWith value (some (.Subscript o i pos')) pos.line X.env=pure false):
 PS X (.Assign [.Subscript o i pos'] value pos) (sDPut td ty tv):=by
 intro pins s σ H D I h;refine wpAny_Assign_Subscript (thn (hv pins s σ H _ I h) λr s1 ⟨v,H1,I1,rv,q1⟩=>thn (ho pins s1 σ H1 _ I1 q1) λu s2 ⟨x,H2,I2,rx,q2⟩=>thn (hi pins s2 σ H2 _ I2 q2) λiv s3 ⟨y,H3,I3,ry,a,H4,ex,g,q3⟩=>?_) hs;subst ex;obtain rfl:u=Value.ref a:=rx;exact d_setItem hu I3 g ry rv λs4 I4=>⟨σ,H4,I4,q3⟩
end
theorem dk_empty {P:Program}{w:World}{H:Hp}(h:Heap)(hb:sysModules<h.objs.size):ObjOk P w H (h.push { cls:=.type "dict",data:=.dict #[] }) h.objs.size (.dK []):=
 ⟨Nat.zero_le _,beq_eq_false_iff_ne.mpr (Ne.symm (Nat.ne_of_lt hb)),[],.nil,Heap.DictOf.new h⟩
theorem dt_empty {P:Program}{w:World}{H:Hp}(h:Heap)(hb:sysModules<h.objs.size):ObjOk P w H (h.push { cls:=.type "dict",data:=.dict #[] }) h.objs.size (.dT []):=
 ⟨Nat.zero_le _,beq_eq_false_iff_ne.mpr (Ne.symm (Nat.ne_of_lt hb)),[],.nil,_,#[],0,Heap.get?_push_size _ rfl,⟨rfl,rfl,rfl⟩,rfl,rfl,List.nodup_nil⟩
def tDNewK:TE:=λ_ H Q=>∀p,H p=none->Q (.ref p) (upd H p (.dK []))
def tDNewT:TE:=λ_ H Q=>∀p,H p=none->Q (.ref p) (upd H p (.dT []))
section
variable {X:Cx} {pos:Pos}
theorem pe_dnewK:PE X (.Dict [] [] pos) tDNewK:=λpins s σ H Q I h=>
 wpAny_Dict_empty ⟨.ref s.heap.objs.size,_,I.laid (a:=s.heap.objs.size) (o:=.dK []) (t':=s.toks) (λ_ _ q=>Heap.get?_push_of_some _ q) (Nat.le_refl _) (dk_empty s.heap I.big),rfl,h _ (I.hok.fresh (Nat.le_refl _))⟩
theorem pe_dnewT:PE X (.Dict [] [] pos) tDNewT:=λpins s σ H Q I h=>
 wpAny_Dict_empty ⟨.ref s.heap.objs.size,_,I.laid (a:=s.heap.objs.size) (o:=.dT []) (t':=s.toks) (λ_ _ q=>Heap.get?_push_of_some _ q) (Nat.le_refl _) (dt_empty s.heap I.big),rfl,h _ (I.hok.fresh (Nat.le_refl _))⟩
end
def mergeK (kvs more:List (Key×V)):List (Key×V):=more.foldl (λacc kv=>putK acc kv.1 kv.2) kvs
theorem KV.merge:∀{more:List (Key×V)} {rs:List (Key×Value)} {kvs:List (Key×V)} {vs:List (Key×Value)},KV more rs->KV kvs vs->KV (mergeK kvs more) (merged vs rs):=by
 intro more rs kvs vs r;unfold KV at r
 induction r generalizing kvs vs with
 |nil=>intro q;exact q
 | @cons p q ps qs h t ih=>
   intro r0
   have e:KV (putK kvs p.1 p.2) (stored vs q.1 q.2):=by
    have:=r0.put p.1 h.2;rw[←h.1];exact this
   exact ih e
theorem length_mergeK:∀(more kvs:List (Key×V)),(mergeK kvs more).length<=kvs.length+ more.length
 |[],kvs=>by show kvs.length<=kvs.length+ 0;omega
 |p::r,kvs=>by
  have h1:=length_mergeK r (putK kvs p.1 p.2);have h2:=length_putK kvs p.1 p.2;show (mergeK (putK kvs p.1 p.2) r).length<=_;rw[List.length_cons];omega
structure M1 (X:Cx) (o:Expr) (m:Str) (apos:Pos) (e:Expr) (cpos:Pos):Prop where
 base:attributeBase o m X.env (eval o X.env)=eval o X.env
 few:((backTo cpos (starEach [e] X.env)).all (λx=>!x.1) && (backToKw cpos (keywordEach [] X.env)).all (λx=>x.1.isSome)
  && decide (([e]:List Expr).length+ ([]:List Keyword).length+ (if ([]:List Keyword).isEmpty then 0 else 1)<30))=true
 line:(apos.endLine==cpos.line)=true
 trees:backTo cpos (starEach [e] X.env)=[(false,eval e X.env)]
structure M2 (X:Cx) (o:Expr) (m:Str) (apos:Pos) (e f:Expr) (cpos:Pos):Prop where
 base:attributeBase o m X.env (eval o X.env)=eval o X.env
 few:((backTo cpos (starEach [e,f] X.env)).all (λx=>!x.1) && (backToKw cpos (keywordEach [] X.env)).all (λx=>x.1.isSome)
  && decide (([e,f]:List Expr).length+ ([]:List Keyword).length+ (if ([]:List Keyword).isEmpty then 0 else 1)<30))=true
 line:(apos.endLine==cpos.line)=true
 trees:backTo cpos (starEach [e,f] X.env)=[(false,eval e X.env),(false,eval f X.env)]
def IsD (H:Hp)(a:Addr):Prop:=(∃kvs,Rd H a (.dK kvs))\/∃kvs,Rd H a (.dT kvs)
theorem isD_at {X:Cx}{pins:List (Addr×Obj)}{σ:St}{H:Hp}{s:Shared}{a:Addr}(I:Inv X pins σ H s)(d:IsD H a):
 s.TypeIs (.ref a) "dict"/\(∀b,Value.ref a=.ref b->∃ob,s.heap.get? b=some ob/\ob.dict=none)/\(a==sysModules)=false:=by
 rcases d with ⟨kvs,e⟩|⟨kvs,e⟩
 ·obtain⟨_,hd,vs,_,dd⟩:=dk_rd I.hok e;refine⟨dd.typeIs,λb q=>?_,hd⟩;cases q;obtain⟨ob,_,_,h1,h2,_⟩:=dd;exact⟨ob,h1,h2.2.1⟩
 ·obtain⟨_,hd,xs,_,dd⟩:=dt_rd I.hok e;refine⟨dd.typeIs,λb q=>?_,hd⟩;cases q;obtain⟨ob,_,_,h1,h2,_⟩:=dd;exact⟨ob,h1,h2.2.1⟩
section
variable {X:Cx} {pins:List (Addr×Obj)} {σ:St} {H:Hp} {s:Shared} {a:Addr} {y d:V} {u r:Value} {o:Option V} {A:Around} {E:Value->Shared->Prop}
theorem d_get1 {Q:Value->Shared->Prop}(hu:A.units+ 1<cLine)(I:Inv X pins σ H s)(g:DGet H a y o)(ry:RelV y u)(h:∀w' s',Inv X pins σ H s'->RelV (o.getD .non) w'->Q w' s'):
 wpAny (model X.prog X.w) A (call (.builtin "dict.get") [.ref a,u]) Q E s:=by
 rcases g with ⟨kvs,k,e,ey,l⟩|⟨kvs,k,b,e,ey,eb,l⟩
 ·subst ey;obtain⟨z,hd,vs,rel,dd⟩:=dk_rd I.hok e;refine call_meetsIn PySem.F.slot_dict_get dd.typeIs PySem.F.entry_dict_get (PySem.F.args_dict_get_2 _ _) (meets_dict_get (mixKind X.prog X.w) a (kV_is ry) hd) ⟨_,dd.mapOf,h _ _ (I.tok _) ?_⟩;rw[l];exact(rel.val k).getD rfl
 ·subst ey;cases (show u=Value.ref b from ry);obtain⟨z,hd,xs,rel,dd⟩:=dt_rd I.hok e;refine call_meetsIn PySem.F.slot_dict_get dd.typeIs PySem.F.entry_dict_get (PySem.F.args_dict_get_2 _ _) (meetsH_dict_get (tupleKind (mixKind X.prog X.w)) a b hd) ⟨tupleKind_room_in1 hu,k,xs,key_of I.hok eb,dd,h _ _ (I.tok _) ?_⟩;rw[l];exact(rel.val k).getD rfl
theorem d_get2 {Q:Value->Shared->Prop}(hu:A.units+ 1<cLine)(I:Inv X pins σ H s)(g:DGet H a y o)(ry:RelV y u)(rd:RelV d r)(h:∀w' s',Inv X pins σ H s'->RelV (o.getD d) w'->Q w' s'):
 wpAny (model X.prog X.w) A (call (.builtin "dict.get") [.ref a,u,r]) Q E s:=by
 rcases g with ⟨kvs,k,e,ey,l⟩|⟨kvs,k,b,e,ey,eb,l⟩
 ·subst ey;obtain⟨z,hd,vs,rel,dd⟩:=dk_rd I.hok e;refine call_meetsIn PySem.F.slot_dict_get dd.typeIs PySem.F.entry_dict_get (PySem.F.args_dict_get_3 _ _ _) (meets_dict_get_default (mixKind X.prog X.w) a (kV_is ry) hd r) ⟨_,dd.mapOf,h _ _ (I.tok _) ?_⟩;rw[l];exact(rel.val k).getD rd
 ·subst ey;cases (show u=Value.ref b from ry);obtain⟨z,hd,xs,rel,dd⟩:=dt_rd I.hok e;refine call_meetsIn PySem.F.slot_dict_get dd.typeIs PySem.F.entry_dict_get (PySem.F.args_dict_get_3 _ _ _) (meetsH_dict_get_default (tupleKind (mixKind X.prog X.w)) a b hd r) ⟨tupleKind_room_in1 hu,k,xs,key_of I.hok eb,dd,h _ _ (I.tok _) ?_⟩;rw[l];exact(rel.val k).getD rd
end
def tDGet1 (td ty:TE):TE:=λ σ H Q=>td σ H λx H1=>∃a,x=.ref a/\IsD H1 a/\ty σ H1 λy H2=>∃o,DGet H2 a y o/\Q (o.getD .non) H2
def tDGet2 (td ty tx:TE):TE:=λ σ H Q=>td σ H λx H1=>∃a,x=.ref a/\IsD H1 a/\ty σ H1 λy H2=>tx σ H2 λz H3=>∃o,DGet H3 a y o/\Q (o.getD z) H3
def tDPop1 (td ty:TE):TE:=λ σ H Q=>td σ H λx H1=>∃a,x=.ref a/\IsD H1 a/\ty σ H1 λy H2=>∃kvs k v,H2 a=some (.dK kvs)/\y=kV k/\valV kvs k=some v/\Q v (upd H2 a (.dK (dropK kvs k)))
def tDPop2 (td ty tx:TE):TE:=λ σ H Q=>td σ H λx H1=>∃a,x=.ref a/\IsD H1 a/\ty σ H1 λy H2=>tx σ H2 λz H3=>∃kvs k,H3 a=some (.dK kvs)/\y=kV k/\
 (∀v,valV kvs k=some v->Q v (upd H3 a (.dK (dropK kvs k))))/\(valV kvs k=none->Q z H3)
section
variable {X:Cx} {o e f:Expr} {apos cpos:Pos} {td ty tx:TE}
theorem pe_dget1 (hu:X.A.units+ 1<cLine)(ho:PE X o td)(he:PE X e ty)(m:M1 X o "get" apos e cpos):PE X (.Call (.Attribute o "get" apos) [e] [] cpos) (tDGet1 td ty):=by
 intro pins s σ H Q I h;refine wpAny_Call_method m.base m.few m.line PySem.F.plainAttrs_dict PySem.F.slot_dict_get PySem.F.type_dict_get (thn (ho pins s σ H _ I h) λu s1 ⟨x,H1,I1,rx,a,ex,d,q1⟩=>?_);subst ex;obtain rfl:u=Value.ref a:=rx;obtain⟨t1,t2,_⟩:=isD_at I1 d;refine⟨t1,t2,?_⟩;rw[m.trees];refine Calls.callWith_builtin rfl (Calls.evalArgs_plain (Calls.spliced_cons (thn (he pins s1 σ H1 _ I1 q1) λiv s2 ⟨y,H2,I2,ry,ov,g,q2⟩=>Calls.spliced_nil ?_)));exact d_get1 hu I2 g ry λw' s3 I3 rw'=>⟨_,H2,I3,rw',q2⟩
theorem pe_dget2 (hu:X.A.units+ 1<cLine)(ho:PE X o td)(he:PE X e ty)(hf:PE X f tx)(m:M2 X o "get" apos e f cpos):PE X (.Call (.Attribute o "get" apos) [e,f] [] cpos) (tDGet2 td ty tx):=by
 intro pins s σ H Q I h;refine wpAny_Call_method m.base m.few m.line PySem.F.plainAttrs_dict PySem.F.slot_dict_get PySem.F.type_dict_get (thn (ho pins s σ H _ I h) λu s1 ⟨x,H1,I1,rx,a,ex,d,q1⟩=>?_);subst ex;obtain rfl:u=Value.ref a:=rx;obtain⟨t1,t2,_⟩:=isD_at I1 d;refine⟨t1,t2,?_⟩;rw[m.trees]
 refine Calls.callWith_builtin rfl (Calls.evalArgs_plain (Calls.spliced_cons (thn (he pins s1 σ H1 _ I1 q1) λiv s2 ⟨y,H2,I2,ry,q2⟩=>
  Calls.spliced_cons (thn (hf pins s2 σ H2 _ I2 q2) λfv s3 ⟨z,H3,I3,rz,ov,g,q3⟩=>Calls.spliced_nil ?_))))
 exact d_get2 hu I3 g ry rz λw' s4 I4 rw'=>⟨_,H3,I4,rw',q3⟩
theorem pe_dpop1 (ho:PE X o td)(he:PE X e ty)(m:M1 X o "pop" apos e cpos):PE X (.Call (.Attribute o "pop" apos) [e] [] cpos) (tDPop1 td ty):=by
 intro pins s σ H Q I h;refine wpAny_Call_method m.base m.few m.line PySem.F.plainAttrs_dict PySem.F.slot_dict_pop PySem.F.type_dict_pop (thn (ho pins s σ H _ I h) λu s1 ⟨x,H1,I1,rx,a,ex,d,q1⟩=>?_);subst ex;obtain rfl:u=Value.ref a:=rx;obtain⟨t1,t2,_⟩:=isD_at I1 d;refine⟨t1,t2,?_⟩;rw[m.trees];refine Calls.callWith_builtin rfl (Calls.evalArgs_plain (Calls.spliced_cons (thn (he pins s1 σ H1 _ I1 q1) λiv s2 ⟨y,H2,I2,ry,kvs,k,v,ea,ey,l,q2⟩=>Calls.spliced_nil ?_)));subst ey;exact d_pop I2 ea ry l (.inl rfl) λw' s3 I3 rw'=>⟨v,_,I3,rw',q2⟩
theorem pe_dpop2 (ho:PE X o td)(he:PE X e ty)(hf:PE X f tx)(m:M2 X o "pop" apos e f cpos):PE X (.Call (.Attribute o "pop" apos) [e,f] [] cpos) (tDPop2 td ty tx):=by
 intro pins s σ H Q I h;refine wpAny_Call_method m.base m.few m.line PySem.F.plainAttrs_dict PySem.F.slot_dict_pop PySem.F.type_dict_pop (thn (ho pins s σ H _ I h) λu s1 ⟨x,H1,I1,rx,a,ex,d,q1⟩=>?_);subst ex;obtain rfl:u=Value.ref a:=rx;obtain⟨t1,t2,_⟩:=isD_at I1 d;refine⟨t1,t2,?_⟩;rw[m.trees]
 refine Calls.callWith_builtin rfl (Calls.evalArgs_plain (Calls.spliced_cons (thn (he pins s1 σ H1 _ I1 q1) λiv s2 ⟨y,H2,I2,ry,q2⟩=>
  Calls.spliced_cons (thn (hf pins s2 σ H2 _ I2 q2) λfv s3 ⟨z,H3,I3,rz,kvs,k,ea,ey,q3,q4⟩=>Calls.spliced_nil ?_))))
 subst ey
 cases l:valV kvs k with
 |some v=>exact d_pop I3 ea ry l (.inr ⟨fv,rfl⟩) λw' s4 I4 rw'=>⟨v,_,I4,rw',q3 v l⟩
 |none=>exact d_popD I3 ea ry l λs4 I4=>⟨z,H3,I4,rz,q4 l⟩
end
section
variable {X:Cx} {pins:List (Addr×Obj)} {σ:St} {H:Hp} {s:Shared} {a:Addr} {kvs:List (Key×V)} {A:Around} {E:Value->Shared->Prop}
end
section
variable {X:Cx} {pins:List (Addr×Obj)} {σ:St} {H:Hp} {s:Shared} {a:Addr} {y:V} {u:Value} {A:Around} {E:Value->Shared->Prop}
end
end L2
namespace L2
open PySem PySem.Spec PyProof.Rows
section
variable {X:Cx} {pos:Pos}
end
end L2
namespace L2
open PySem PySem.Spec PyProof.Rows
section
variable {X:Cx} {pins:List (Addr×Obj)} {σ:St} {H:Hp} {s:Shared} {h':Heap}
theorem Inv.turnLaid {fp:List Addr}{a:Addr}{o:HO}{t':Nat}(I:Inv X pins σ H s)(k:∀b u,b∉fp->s.heap.get? b=some u->h'.get? b=some u)(hf:∀b∈fp,FpOk X pins H b)
 (hp:s.heap.objs.size<=a) (new:ObjOk X.prog X.w (upd H a o) h' a o):Inv X pins σ (upd H a o) { s with heap:=h',toks:=t' }:=by
 have hn:=I.hok.fresh hp;have nf:∀b u,H b=some u->b∉fp:=λb u e z=>by rw[(hf b z).1]at e;cases e
 refine I.step (g':=s.gens) (d':=s.drawn) (ch:=fp) (λb hb=>⟨(hf b hb).2.2.2.1,(hf b hb).2.1,(hf b hb).2.2.2.2.1,(hf b hb).2.2.2.2.2⟩) (λb o _ _ hc e _=>k b o hc e) (λb o _ _ hc e _=>⟨o.slots,k b o hc e⟩)
  (λb o _ e n=>by rw[upd_ne (Nat.ne_of_lt (Nat.lt_of_lt_of_le (Heap.lt_size e) hp))];exact n) (λb o hc e=>⟨o,k b o hc e⟩) (λb xs e=>by rw[upd_ne (ne_of_none e hn)];exact e)
  (λb o u e=>by rw[upd_ne (ne_of_none e hn)];exact e) (λb ps e=>⟨#[],by rw[upd_ne (ne_of_none e hn),e];simp⟩) (λm hm=>?_) (λb u e=>?_) I.bare
 ·obtain⟨o,es,ep,ho,r⟩:=hm;exact⟨o,es,ep,k _ o (λz=>(hf _ z).2.1 rfl) ho,r⟩
 ·by_cases hb:b=a
  ·subst hb;rw[upd_same]at e;cases e;exact new
  ·rw[upd_ne hb]at e;refine(I.hok b u e).stay (λc v hc q=>k c v ?_ q) (λc q=>by rw[upd_ne (ne_of_none q hn)];exact q) λc xs q=>by rw[upd_ne (ne_of_none q hn)];exact q
   rcases hc with z|z
   ·rw[z];exact nf b u e
   ·exact nf c _ z
theorem Inv.turnedL {fp:List Addr}{t':Nat}(I:Inv X pins σ H s)(k:∀b u,b∉fp->s.heap.get? b=some u->h'.get? b=some u)(hf:∀b∈fp,FpOk X pins H b):Inv X pins σ H { s with heap:=h',toks:=t' }:=by
 have nf:∀b u,H b=some u->b∉fp:=λb u e z=>by rw[(hf b z).1]at e;cases e
 refine I.step (g':=s.gens) (d':=s.drawn) (ch:=fp) (λb hb=>⟨(hf b hb).2.2.2.1,(hf b hb).2.1,(hf b hb).2.2.2.2.1,(hf b hb).2.2.2.2.2⟩) (λb o _ _ hc e _=>k b o hc e) (λb o _ _ hc e _=>⟨o.slots,k b o hc e⟩)
  (λb o _ e n=>n) (λb o hc e=>⟨o,k b o hc e⟩) (λb xs e=>e) (λb o u e=>e) (λb ps e=>⟨#[],by rw[e];simp⟩) (λm hm=>?_) (λb u e=>?_) I.bare
 ·obtain⟨o,es,ep,ho,r⟩:=hm;exact⟨o,es,ep,k _ o (λz=>(hf _ z).2.1 rfl) ho,r⟩
 ·refine(I.hok b u e).stay (λc v hc q=>k c v ?_ q) (λc q=>q) λc xs q=>q
  rcases hc with z|z
  ·rw[z];exact nf b u e
  ·exact nf c _ z
end
namespace En
section
variable {prog:Program} {w:World} {A:Around} {E:Value->Shared->Prop} {s:Shared}
theorem next_pair {e it:Addr}{fp:List Addr}{n i:Nat}{j:Int}{P:Nat->Value->Prop}{St:Nat->Heap->Prop}{old:Value}{Q:Option Value->Shared->Prop}(D:Draws prog w A.in1 it fp n P St)
 (he:IsEnum s.heap e it j old) (hst:St i s.heap) (hlt:i<n) (hne:e≠it) (hef:e∉fp)
 (hQ:∀x h' tk,P i x->IsEnumOut h' e it (j+ 1) x s.heap.objs.size->St (i+ 1) h'->h'.get? s.heap.objs.size=some { cls:=.type "tuple",data:=.seq #[.int j tk,x] }->
  (∀b o,b≠e->b≠it->s.heap.get? b=some o->h'.get? b=some o)->Q (some (.ref s.heap.objs.size)) { s with heap:=h',toks:=tk+ 1 }):
 wpAny (model prog w) A (pyNext (.ref e)) Q E s:=by
 have hT:s.TypeIs (.ref e) "enumerate":=⟨_,he,rfl⟩;unfold pyNext;refine wpAny_bind (wpAny_attempt (wpAny_callSpecial?_slot (name:=Str.ofString "__next__") hT F.slot_enumerate_next (wpAny_call_entry F.slot_enumerate_next hT F.entry_enumerate_next ?_ (F.args_enumerate_next_1 _))));obtain⟨hp,g,d,tk₀,os⟩:=s;show wpAny _ _ (field (.ref e) 2 >>=_) _ _ _;refine wpAny_bind (wpAny_field he rfl (x:=.ref it) rfl (wpAny_bind (D.item i _ _ _ hlt hst λx h₁ tk hPx hit₁ hs₁=>?_)));replace hs₁:Heap.SameBut it hp h₁:=hs₁;have he₁:IsEnum h₁ e it j old:=(hs₁.2 e hne).trans he;show wpAny _ _ (field (.ref e) 3 >>=_) _ _ ⟨h₁,g,d,tk,os⟩;refine wpAny_bind (wpAny_field he₁ rfl (x:=rawInt j) rfl ?_);show wpAny _ _ (field (.ref e) 4 >>=_) _ _ ⟨h₁,g,d,tk,os⟩;refine wpAny_bind (wpAny_field he₁ rfl (x:=.none) rfl ?_);show wpAny _ _ (mkInt j >>=_) _ _ ⟨h₁,g,d,tk,os⟩;refine wpAny_bind (wpAny_mkInt ?_);show wpAny _ _ (setField (.ref e) 3 (rawInt (j+ 1)) >>=_) _ _ ⟨h₁,g,d,tk+ 1,os⟩;refine wpAny_bind (wpAny_setField_rec he₁ (by simp) λh₂ he₂ hs₂=>?_);replace hs₂:Heap.SameBut e h₁ h₂:=hs₂;replace he₂:IsEnum h₂ e it (j+ 1) old:=he₂;show wpAny _ _ (setField (.ref e) 4 .none >>=_) _ _ ⟨h₂,g,d,tk+ 1,os⟩;refine wpAny_bind (wpAny_setField_rec he₂ (by simp) λh₃ he₃ hs₃=>?_);replace hs₃:Heap.SameBut e h₂ h₃:=hs₃;replace he₃:IsEnum h₃ e it (j+ 1) old:=he₃;show wpAny _ _ (newTuple [.int j tk,x] >>=_) _ _ ⟨h₃,g,d,tk+ 1,os⟩;refine wpAny_bind (wpAny_newTuple ?_);have he₄:IsEnum (h₃.push { cls:=.type "tuple",data:=.seq #[.int j tk,x] }) e it (j+ 1) old:=Heap.get?_push_of_some _ he₃;generalize hh₄:h₃.push { cls:=.type "tuple",data:=.seq #[.int j tk,x] }=h₄ at he₄;have hsz:h₃.objs.size=hp.objs.size:=by rw[hs₃.1,hs₂.1,hs₁.1]
 have hel:e<hp.objs.size:=Heap.lt_size he;have ht₄:h₄.get? hp.objs.size=some { cls:=.type "tuple",data:=.seq #[.int j tk,x] }:=by rw[←hh₄,←hsz];exact Heap.get?_push_size _ rfl
 have hk₄:∀b o,b≠e->b≠it->hp.get? b=some o->h₄.get? b=some o:=λb o hbe hbi hb=>by
  rw[←hh₄];exact Heap.get?_push_of_some _ (hs₃.extBut b o hbe (hs₂.extBut b o hbe (hs₁.extBut b o hbi hb)))
 have hit₄:St (i+ 1) h₄:=D.frame _ _ _ hit₁ λb hb o y=>by
  have hbe:b≠e:=λq=>hef (q ▸ hb)
  rw[←hh₄];exact Heap.get?_push_of_some _ (hs₃.extBut b o hbe (hs₂.extBut b o hbe y))
 show wpAny _ _ (Builtin.SmallTypes.ownedTupleIsFree (.ref e) >>=_) _ _ ⟨h₄,g,d,tk+ 1,os⟩;rw[hsz];clear hh₄ he₃ hs₃ he₂ hs₂ he₁ hs₁ hit₁ hsz h₃ h₂ h₁;refine wpAny_bind ?_;unfold Builtin.SmallTypes.ownedTupleIsFree;refine wpAny_bind (wpAny_field he₄ rfl (x:=.none) rfl (wpAny_pure ?_));simp only[if_true];refine wpAny_bind (wpAny_rule (wpAny_bind (wpAny_field he₄ rfl (x:=old) rfl (wpAny_bind (wpAny_setField_rec he₄ (by simp) λh₅ he₅ hs₅=>?_)))));replace hs₅:Heap.SameBut e h₄ h₅:=hs₅;replace he₅:IsEnum h₅ e it (j+ 1) x:=he₅;show wpAny _ _ (Builtin.SmallTypes.ownedTupleHandOut (.ref e) (.ref hp.objs.size) >>=_) _ _ ⟨h₅,g,d,tk+ 1,os⟩;refine wpAny_bind ?_;unfold Builtin.SmallTypes.ownedTupleHandOut;refine wpAny_bind (wpAny_setField_rec he₅ (by simp) λh₆ he₆ hs₆=>?_);replace hs₆:Heap.SameBut e h₅ h₆:=hs₆;replace he₆:IsEnumOut h₆ e it (j+ 1) x hp.objs.size:=he₆;refine wpAny_setField_rec he₆ (by simp) λh₇ he₇ hs₇=>?_
 replace hs₇:Heap.SameBut e h₆ h₇:=hs₇;replace he₇:IsEnumOut h₇ e it (j+ 1) x hp.objs.size:=he₇;refine wpAny_bind (wpAny_letGo (wpAny_pure ⟨_,rfl,wpAny_pure (hQ x h₇ tk hPx he₇ ?_ ?_ ?_)⟩))
 ·exact D.frame _ _ _ hit₄ λb hb o y=>by
   have hbe:b≠e:=λq=>hef (q ▸ hb)
   exact hs₇.extBut b o hbe (hs₆.extBut b o hbe (hs₅.extBut b o hbe y))
 ·exact hs₇.extBut _ _ (Nat.ne_of_gt hel) (hs₆.extBut _ _ (Nat.ne_of_gt hel) (hs₅.extBut _ _ (Nat.ne_of_gt hel) ht₄))
 ·exact λb o hbe hbi hb=>hs₇.extBut b o hbe (hs₆.extBut b o hbe (hs₅.extBut b o hbe (hk₄ b o hbe hbi hb)))
theorem init_kw {T newId:String}{self a:Value}{kw:List (Str×Value)}(hl:typeLookup (.type T) "__init__"=pure (some (.builtin "object.__init__")))(hm:Bind.madeBy (.type T)=pure (some newId))(hne:(some newId !=some "object.__new__")=true):
 Meets (Builtin.«object.__init__» ⟨[self,a],kw⟩) (λ_ R s=>s.TypeIs self T/\R (.ok (.ret .none)) s):=by
 refine Meets.of_wp λprog w A R s hs=>?_
 obtain⟨hT,hq⟩:=hs
 repeat (any_goals (first|assumption|wp_step))
 exact⟨_,rfl,hq⟩
theorem ct_kw (a b:Value):checkTypeCall "enumerate" ⟨[a],[("start",b)]⟩=pure ():=by kernel_rfl
theorem cn_kw (a b:Value):checkBuiltinCall "enumerate.__new__" ⟨[.type "enumerate",a],[("start",b)]⟩=pure ():=by kernel_rfl
theorem ok_kw (a b c:Value):argsOk "object.__init__" ⟨[a,b],[("start",c)]⟩:=by
 unfold argsOk;rw[signature?_of (id:="object.__init__") (n:=['_','_','t','i','n','i','_','_']) (o:=['t','c','e','j','b','o']) (by kernel_rfl) F.owner_object]
 kernel_rfl
end
end En
end L2
namespace L2
open PySem PySem.Spec PyProof.Rows
section
variable {X:Cx}
end
end L2
namespace L2
open PySem PySem.Spec PyProof.Rows
section
variable {X:Cx}
def tCutT (t:TT):TT:=λ σ H Q=>∃G:Bool->Hp->Prop,t σ H G/\∀c H',G c H'->Q c H'
theorem pt_cut {e:Expr}{t:TT}(h:PT X e t):PT X e (tCutT t):=by
 intro pins s σ H Q I ⟨G,h1,h2⟩;refine thn (h pins s σ H G I h1) λb s' ⟨H',I',g⟩=>?_
 exact⟨H',I',h2 b H' g⟩
end
end L2
namespace L2
open PySem PySem.Spec PyProof.Rows
def CXw (P:Program)(w:World):CXT:=λouter H s E e s'=>∃(x C:Addr) (B:Heap) (H':Hp) (a0:Value),e=.ref x/\s'.os=s.os/\AllBare s'.gens/\Heap.FlyingW B outer x (.ref C) a0 s'.heap/\
 Un (frs outer) [] H H' s.heap s'.heap/\HOk P w H' B/\(∀b o,s.heap.get? b=some o->H b=none->b∉frs outer->B.get? b=some o)/\(∀b o,s.heap.get? b=some o->b∉frs outer->∃o',B.get? b=some o')/\E (.ref C) none H'
section
variable {P:Program} {w:World} {K:PySem.W.Frag} {mg:Str->Option Value} {base:Heap} {N:List Str} {qual:Str} {scope:Scope} {f:Addr} {cd:Value} {A:Around} {outer:List Env} {s:Shared} {H:Hp} {E:XK}
 {pins:List (Addr×Obj)} {σ:St} {H1:Hp} {s1:Shared}
end
end L2
namespace L2
open PySem PySem.Spec PyProof.Rows
section
variable {X:Cx} {pos:Pos}
end
section
variable {P:Program} {w:World} {K:PySem.W.Frag} {mg:Str->Option Value} {base:Heap}
end
end L2
namespace L2
open PySem PySem.Spec PyProof.Rows
theorem ObjOk.get {P:Program}{w:World}{H:Hp}{h:Heap}{a:Addr}{o:HO}(x:ObjOk P w H h a o):∃u,h.get? a=some u:=by
 cases o with
 |lst xs=>obtain⟨_,_,_,_,e⟩:=x;exact⟨_,e⟩
 |tup xs=>obtain⟨_,_,_,ob,e,_⟩:=x;exact⟨_,e⟩
 |dK kvs=>obtain⟨_,_,_,_,o,_,_,e,_⟩:=x;exact⟨_,e⟩
 |dT kvs=>obtain⟨_,_,_,_,o,_,_,e,_⟩:=x;exact⟨_,e⟩
 |set S n=>obtain⟨o,_,_,_,e,_⟩:=x;exact⟨_,e⟩
 |ins C dx fs=>obtain⟨_,_,_,e,_⟩:=x;exact⟨_,e⟩
 |own y=>exact x
 |xd fs=>obtain⟨_,⟨_,_,_,e,_⟩,_⟩:=x;exact⟨_,e⟩
 |rng lo hi=>obtain⟨_,_,_,e⟩:=x;exact⟨_,e⟩
 |frz ob u=>obtain⟨e,_⟩:=x;exact⟨_,e⟩
 |tbl ps=>exact⟨_,show h.get? a=some _ from x⟩
 |met f y=>exact⟨_,show h.get? a=some _ from x⟩
 |ext φ=>obtain⟨_,e,_⟩:=x;exact e
def ExAt (x C:Addr)(h:Heap):Prop:=∃ob vs,h.get? x=some ob/\ob.cls=.ref C/\ob.data=.fields vs
theorem ExAt.stay {x C:Addr}{h1 h2:Heap}(p:ExAt x C h1)(k:∀o,h1.get? x=some o->h2.get? x=some o):ExAt x C h2:=by
 obtain⟨ob,vs,e,r⟩:=p;exact⟨ob,vs,k _ e,r⟩
def Thr (X:Cx)(pins:List (Addr×Obj))(σ:St)(H':Hp)(x C:Addr)(s:Shared):Prop:=
 ∃(B:Heap) (H1:Hp) (s1:Shared) (a0:Value),Inv X pins σ H1 s1/\s.os=s1.os/\AllBare s.gens/\Heap.FlyingW B X.stack x (.ref C) a0 s.heap/\Un (frs X.stack) [] H1 H' s1.heap s.heap/\HOk X.prog X.w H' B/\
  (∀b o,s1.heap.get? b=some o->H1 b=none->b∉frs X.stack->B.get? b=some o)/\(∀b o,s1.heap.get? b=some o->b∉frs X.stack->∃o',B.get? b=some o')
section
variable {X:Cx} {pins:List (Addr×Obj)} {σ:St} {H':Hp} {x C:Addr} {s:Shared}
theorem Thr.of {E:XK}{H:Hp}{s1:Shared}{e:Value}(I:Inv X pins σ H s1)(cx:CXw X.prog X.w X.stack H s1 E e s):∃x C H',e=.ref x/\Thr X pins σ H' x C s/\E (.ref C) none H':=by
 obtain⟨x,C,B,H',a0,rfl,os,bare,fl,un,hokB,kb,tb,q⟩:=cx;exact⟨x,C,H',rfl,⟨B,H,s1,a0,I,os,bare,fl,un,hokB,kb,tb⟩,q⟩
theorem Inv.noRec {H:Hp}{s1:Shared}(I:Inv X pins σ H s1){b:Addr}(hb:b∈frs X.stack):∃o,s1.heap.get? b=some o/\∀vs,o.data≠.fields vs:=by
 obtain⟨_,o,e,n⟩:=I.stack.mem hb;exact⟨o,e,n⟩
theorem Thr.look {Q:Unit->Shared->Prop}{E:Value->Shared->Prop}{A:Around}(t:Thr X pins σ H' x C s)(hst:X.stack=X.env::X.outer)(hf:X.env.frame=some X.env.locals)(hA:A.frames=some X.stack)
 (h:∀h',Thr X pins σ H' x C { s with heap:=h' }->Q () { s with heap:=h' }):
 wpAny (model X.prog X.w) A (noteFrame (.ref x) X.env) (λ_ s2=>wpAny (model X.prog X.w) A (setFlight (.ref x) none) Q E s2) E s:=by
 obtain⟨B,H1,s1,a0,I,os,bare,fl,un,hok,kb,tb⟩:=t;have fl':=fl;rw[hst]at fl';refine wpAny_looks_onW (base:=B) (hA.trans (by rw[hst])) hf fl' λh2 hh u1=>?_
 refine wpAny_landsW hh λh3 fl3 u2=>h h3 ?_
 have u:=u1.trans u2
 have fr:∀b o,s1.heap.get? b=some o->b∈frs X.stack->∃sl,h3.get? b=some { o with slots:=sl }:=λb o e hb=>by
  obtain⟨o2,e2,nr⟩:=I.noRec hb;rw[e]at e2;cases e2;obtain⟨sl,e4⟩:=un.slot b o e (I.stkFree b hb) hb (by simp);obtain⟨sl2,e5⟩:=u b _ e4 nr;exact⟨sl2,e5⟩
 refine⟨B,H1,s1,a0,I,os,bare,by rw[hst];exact fl3,⟨λb o e1 e2 e3 _=>fl3.1 b o (kb b o e1 e2 e3),λb o e1 _ e3 _=>fr b o e1 e3,un.free,λb o e1 _=>?_,un.tups,un.frzs,un.tbls⟩,hok,kb,tb⟩;by_cases hb:b∈frs X.stack
 ·obtain⟨sl,e5⟩:=fr b o e1 hb;exact⟨_,e5⟩
 ·obtain⟨o',e4⟩:=tb b o e1 hb;exact⟨o',fl3.1 b o' e4⟩
theorem Thr.again {Q:Unit->Shared->Prop}{E:Value->Shared->Prop}{A:Around}(t:Thr X pins σ H' x C s)(h:∀h',Thr X pins σ H' x C { s with heap:=h' }->Q () { s with heap:=h' }):
 wpAny (model X.prog X.w) A (setFlight (.ref x) none) Q E s:=by
 obtain⟨B,H1,s1,a0,I,os,bare,fl,un,hok,kb,tb⟩:=t;refine lands_againW fl λh3 fl3 u=>h h3 ?_
 have fr:∀b o,s1.heap.get? b=some o->b∈frs X.stack->∃sl,h3.get? b=some { o with slots:=sl }:=λb o e hb=>by
  obtain⟨o2,e2,nr⟩:=I.noRec hb;rw[e]at e2;cases e2;obtain⟨sl,e4⟩:=un.slot b o e (I.stkFree b hb) hb (by simp);obtain⟨sl2,e5⟩:=u b _ e4 nr;exact⟨sl2,e5⟩
 refine⟨B,H1,s1,a0,I,os,bare,fl3,⟨λb o e1 e2 e3 _=>fl3.1 b o (kb b o e1 e2 e3),λb o e1 _ e3 _=>fr b o e1 e3,un.free,λb o e1 _=>?_,un.tups,un.frzs,un.tbls⟩,hok,kb,tb⟩;by_cases hb:b∈frs X.stack
 ·obtain⟨sl,e5⟩:=fr b o e1 hb;exact⟨_,e5⟩
 ·obtain⟨o',e4⟩:=tb b o e1 hb;exact⟨o',fl3.1 b o' e4⟩
theorem Thr.none (t:Thr X pins σ H' x C s):H' x=none:=by
 obtain⟨B,H1,s1,a0,I,os,bare,fl,un,hok,kb,tb⟩:=t
 cases e:H' x with
 |none=>rfl
 |some u=>
  obtain⟨o,e1⟩:=(hok x u e).get;rw[fl.2.1]at e1;cases e1
theorem Thr.at (t:Thr X pins σ H' x C s):ExAt x C s.heap:=by
 obtain⟨B,H1,s1,a0,I,os,bare,fl,un,hok,kb,tb⟩:=t;obtain⟨oe,vs,he,hc,hd,_⟩:=fl.first;exact⟨oe,vs,he,hc,hd⟩
end
abbrev XR:=Addr->St->Hp->Prop
def XP (X:Cx)(pins:List (Addr×Obj))(R:XR)(e:Value)(s:Shared):Prop:=∃x C σ H,e=.ref x/\Thr X pins σ H x C s/\R C σ H
section
variable {X:Cx} {k:Nat} {f:Addr} {fd:FuncData} {ps:List Str} {sp:Sp} {x:Str} {p pos:Pos} {e:Expr} {es:List Expr} {t:TA}
end
abbrev TH:=Ends->Addr->St->Hp->Prop
section
variable {X:Cx} {y n:Str} {Y:Addr} {np pos:Pos} {b₀:Stmt} {suite:List Stmt} {rest:List ExceptHandler} {tb:TS} {tr:TH} {i:Nat}
end
end L2
namespace L2
open PySem PySem.Spec PyProof.Rows PySem.Calls PySem.W Builtin Builtin.ObjectAttr Builtin.Getset_descriptor
structure ExcI (K:PySem.W.Frag) (C:Addr):Prop where
 ga:findIn K (.ref C) "__getattribute__"=some (some (.builtin "BaseException.__getattribute__"))
 gt:findIn K (.ref C) "__getattr__"=some none
 cl:isClsIn K C=true
 at_:findIn K (.ref C) "__class__"=some (some (.builtin "object.__class__"))
 gs:specialIn K (.builtin "object.__class__") "__get__"=some (some (.builtin "getset_descriptor.__get__"))
 tk:takesIn K (.builtin "object.__class__")=some true
 mo:mroIn K C (.type "object")=some true
 be:subIn K (.ref C) (.type "BaseException")=some true
section
variable {prog:Program} {w:World} {A:Around} {E:Value->Shared->Prop} {s:Shared} {K:PySem.W.Frag} {x C:Addr}
end
section
variable {X:Cx}
end
end L2
namespace L2
open PySem PySem.Spec PyProof.Rows
section
variable {P:Program} {w:World} {K:PySem.W.Frag} {mg:Str->Option Value} {base:Heap}
end
end L2
namespace L2
open PySem PySem.Spec PyProof.Rows
section
variable {X:Cx}
theorem mul_one:∀n:Nat,n<=64->∀c∈[40,41],Txt.mul (tx [c]) (n:Int)=tx (List.replicate n c):=by decide +kernel
end
end L2
namespace L2
open PySem PySem.Spec PyProof.Rows
section
variable {prog:Program} {w:World} {A:Around} {R:Result->Shared->Prop} {s:Shared}
theorem compLoopIf_go {elt target iter c:Expr}{scope:Scope}{pos:Pos}{it acc:Value}{env:Env}(I:Nat->Shared->Prop)
 (turn:∀n s,I n s->wpAny (model prog w) A (pyNext it) (λr s₁=>match r with
  |none=>R (.ok .next) s₁
  |some v=>wpAny (model prog w) A (letOwnedTupleGo target it v) (λ_ s₀=>wpAny (model prog w) A (assign target env v) (λ_ s₂=>wpAny (model prog w) A (isTrue c env (eval c env)) (λb s₅=>
   match b with
   |true=>wpAny (model prog w) A (eval elt env) (λx s₃=>wpAny (model prog w) A (call (.builtin "list.append") [acc,x]) (λ_ s₄=>∃m,m<n/\I m s₄) (λ_ _=>False) s₃) (λ_ _=>False) s₅
   |false=>∃m,m<n/\I m s₅) (λ_ _=>False) s₂) (λ_ _=>False) s₀) (λ_ _=>False) s₁) (λ_ _=>False) s)
 (n:Nat) (h:I n s):codeAny (model prog w) A (.compLoop (.ListComp elt [⟨target,iter,[c],0⟩] scope pos) 0 it acc env) R s:=by
 refine codeAny_loop rfl I (λn s hI=>?_) n h;show wpAny _ _ ((compTurn (.ListComp elt [⟨target,iter,[c],0⟩] scope pos) 0 it acc env).onRaise (λx=>do noteFrame x env;theTreesLotGoes x)) _ _ s;refine wpAny_noted ?_;rw[compTurn_list];refine wpAny_bind (wpAny_standAt (wpAny_bind (wpAny_mono (turn n s hI) (λr s₁ h₁=>?_) λ_ _ h'=>h'.elim)))
 cases r with
 |none=>exact wpAny_pure h₁
 |some v=>
  refine wpAny_bind (wpAny_mono h₁ (λ_ s₀ h₀=>?_) λ_ _ h'=>h'.elim);refine wpAny_bind (wpAny_mono h₀ (λ_ s₂ h₂=>wpAny_bind (wpAny_tests_one (wpAny_mono h₂ (λok s₃ h₃=>?_) λ_ _ h'=>h'.elim))) λ_ _ h'=>h'.elim)
  cases ok with
  |false=>exact wpAny_pure ⟨rfl,h₃⟩
  |true=>
   exact wpAny_bind (wpAny_bind (wpAny_mono h₃ (λx s₄ h₄=>wpAny_bind (wpAny_mono h₄ (λ_ s₅ h₅=>wpAny_pure (wpAny_pure ⟨rfl,h₅⟩)) λ_ _ h'=>h'.elim)) λ_ _ h'=>h'.elim))
end
def CompGoIf (tt:TT)(te:TE)(fv:St)(Q:VK)(J:It)(H1:Hp):Prop:=∃W:Nat->Nat->List V->Hp->Prop,(∃m,W 0 m [] H1)/\∀i m ys H2,W i m ys H2->
 (J.stop i H2/\ys.length<=sizeLine/\∀D,H2 D=none->Q (.ref D) (upd H2 D (.lst ys)))\/
 (J.go i H2/\ys.length<sizeLine/\∀x H3,J.yld i H2 x H3->tt (some x::fv) H3 λb H4=>match b with
  |true=>te (some x::fv) H4 λy H5=>∃m',m'<m/\W (i+ 1) m' (ys++[y]) H5
  |false=>∃m',m'<m/\W (i+ 1) m' ys H4)
def tCompIf (wi:TI)(fv:St->St)(tt:TT)(te:TE):TE:=λ σ H Q=>wi σ H (CompGoIf tt te (fv σ) Q)
section
variable {X:Cx} {elt iter cnd:Expr} {x:Str} {px pos:Pos} {scope:Scope} {cl:List (Str×Addr)} {fns:List Str} {ixs:List Nat} {wi:TI} {tt:TT} {te:TE}
theorem pe_compIf (hc:X.calm=true)(hi:PI X (.Name x px) iter wi)(S:CompScope X x fns ixs scope cl)
 (ht:∀(C:Addr) (s:Shared) (H:Hp) (ex:List Addr),PT (cxComp X (x::fns) scope cl C s H ex) cnd tt) (he:∀(C:Addr) (s:Shared) (H:Hp) (ex:List Addr),PE (cxComp X (x::fns) scope cl C s H ex) elt te)
 (hs:∀x,foldedSetIterable iter X.env x=pure x:=by intro _;rfl):
 PE X (.ListComp elt [⟨.Name x px,iter,[cnd],0⟩] scope pos) (tCompIf wi (fvOf ixs) tt te):=by
 intro pins s σ H Q I h;rw[eval_ListComp];refine wpAny_comprehension_free (use:=none) rfl hs S.clos S.kind S.names (thn (hi pins s σ H _ I h) λv s1 h1=>thn h1 λitv s2 h2=>?_);obtain⟨it,fp,tn,J,H2,e,I2,T,st2,f2,W,⟨m0,w0⟩,turn⟩:=h2;subst e
 have hfpLt:∀b∈fp,b<s2.heap.objs.size:=λb hb=>by
  obtain⟨o,ho,_⟩:=T.obj _ _ st2 b hb;exact Heap.lt_size ho
 refine wpAny_newObj_type (wpAny_newFunctionEnv S.cell (by intro y hy;simp at hy) (λh₁ hns₁ hsb₁=>?_) S.kind);dsimp only at hns₁ hsb₁ ⊢;generalize hH3:s2.heap.push { cls:=.type "list",dict:=none,data:=.seq ([]:List Value).toArray }=hp3 at hns₁ hsb₁ ⊢;generalize hD:s2.heap.objs.size=D at hfpLt ⊢;have hC:hp3.objs.size=D+ 1:=by rw[←hH3,Heap.size_push,hD]
 generalize hCe:hp3.objs.size=C at hC hns₁ hsb₁ ⊢;have hDltC:D<C:=by omega
 have hDC:D≠C:=Nat.ne_of_lt hDltC;have k23:∀b u,s2.heap.get? b=some u->hp3.get? b=some u:=λb u q=>by rw[←hH3];exact Heap.get?_push_of_some _ q
 have ltD:∀{b u},s2.heap.get? b=some u->b<D:=λq=>by rw[←hD];exact Heap.lt_size q
 have k34:∀b u,hp3.get? b=some u->h₁.get? b=some u:=λb u q=>
  hsb₁.extBut b u (Nat.ne_of_lt (Nat.lt_of_lt_of_le (Heap.lt_size q) (Nat.le_of_eq hCe))) (Heap.get?_push_of_some _ q)
 have hDo:hp3.get? D=some { cls:=.type "list",dict:=none,data:=.seq ([]:List Value).toArray }:=by rw[←hH3,←hD];exact Heap.get?_push_size _ rfl
 have I3:Inv X pins σ H2 { s2 with heap:=hp3 }:=I2.kept (t':=s2.toks) k23;have hnD:H2 D=none:=I2.hok.fresh (by omega);have hnC:H2 C=none:=I2.hok.fresh (by omega)
 have nstk:∀b∈D::fp,b∉frs X.stack:=λb hb z=>by
  rcases List.mem_cons.mp (I2.stkSub b z) with e|z
  ·rcases List.mem_cons.mp hb with e2|hb
   ·exact absurd I2.lt (by rw[←e,e2,←hD];exact Nat.lt_irrefl _)
   ·exact(f2 b hb).2.1 e
  ·rcases List.mem_cons.mp hb with e2|hb
   ·exact I2.nofs (by rw[e2,←hD];exact Nat.le_refl _) z
   ·exact(f2 b hb).2.2.1 z
 have cne:∀y c,cl.lookup y=some c->∀b∈D::fp,c≠b:=λy c q b hb z=>by
  obtain⟨v,hv⟩:=I2.cell y c (S.sub y c q);rcases List.mem_cons.mp hb with e2|hb
  ·exact absurd hv.lt (by rw[z,e2,←hD];exact Nat.lt_irrefl _)
  ·exact(f2 b hb).2.2.2.2.1 y c (S.sub y c q) z
 -- the block's context
 let Xc:Cx:=cxComp X (x::fns) scope cl C { s2 with heap:=hp3 } H2 (D::fp)
 have ok:Xc.Ok:={
  mod:=I2.ok.mod
  kind:=S.kind
  glob:=I2.ok.glob
  blt:=I2.ok.blt
  above:=by show hp3.objs.size<=C;omega
  inj:=λy z c q1 q2=>I2.ok.inj y z c (S.sub _ _ q1) (S.sub _ _ q2)
  has:=S.has
  cab:=λy c q=>nomatch q
  hd:=I2.ok.hd
  frames:=I2.ok.frames
  stk:=.inl rfl
  exf:=λb hb=>⟨by
   rcases List.mem_cons.mp hb with e2|hb
   ·rw[e2];exact hDC
   ·exact Nat.ne_of_lt (Nat.lt_trans (hfpLt b hb) hDltC),λy c q=>cne y c q b hb⟩
  bs:=I3.bs
  bsz:=Nat.le_trans I3.ok.bsz I3.sz
  noex:=λb o q hb=>by
   rcases List.mem_cons.mp hb with e2|hb
   ·exact absurd (ltD (I2.bs b o q).1) (by rw[e2];exact Nat.lt_irrefl _)
   ·rcases (f2 b hb).2.2.2.1 with z|z
    ·exact I2.ok.noex b o q z
    ·exact absurd (Heap.lt_size (I2.ok.bs b o q).1) (Nat.not_lt.mpr z)
  exfs:=nstk
  funs:=I3.stack
  frf:=I3.stkFree }
 have start:∀(v0:Option V),v0=none->Inv Xc [(D,{ cls:=.type "list",dict:=none,data:=.seq ([]:List Value).toArray })] (v0::fvOf ixs σ) H2 { s2 with heap:=h₁,toks:=s2.toks+ ([]:List (Str×Value)).length }:=λv0 hv0=>{
  ok:=ok
  os:=rfl
  bare:=I2.bare
  base:=Un.kept k34
  loc:=⟨_,hns₁,λi y v e1 e2 e3=>by
   cases i with
   |zero=>rw[hv0]at e2;cases e2
   |succ j=>
    have e1':fns[j]?=some y:=e1
    have e2':(fvOf ixs σ)[j]?=some (some v):=e2
    obtain⟨i,hi1,hi2,hk,c,hc1,hc2⟩:=S.at_ j y e1';unfold fvOf at e2';rw[List.getElem?_map,hi1]at e2'
    have e3':σ[i]?=some (some v):=by
     have z:(σ[i]?).join=some v:=Option.some.inj e2'
     cases q:σ[i]? with
     |none=>rw[q]at z;cases z
     |some o=>rw[q]at z;rw[show o=some v from z]
    obtain⟨m,_,hl⟩:=I2.loc;obtain⟨u,r,l⟩:=hl i y v hi2 e3' (hk.elim (λz=>.inr (.inl z)) λz=>.inr (.inr z));refine⟨u,r,.inr ⟨hc2,c,hc1,?_⟩⟩;rcases l with ⟨z,_⟩|⟨_,c',hc',hcell⟩
    ·rcases hk with hk|hk <;> (rw[hk]at z;cases z)
    ·have:c'=c:=Option.some.inj (hc'.symm.trans (S.sub _ _ hc1));subst this;obtain⟨o,ho,hd⟩:=hcell;exact⟨o,k34 _ _ (k23 _ _ ho),hd⟩⟩
  cell:=λy c q=>by
   obtain⟨v,o,ho,hd⟩:=I2.cell y c (S.sub y c q);exact⟨v,o,k34 _ _ (k23 _ _ ho),hd⟩
  free:=hnC
  freeC:=λy c q=>I2.freeC y c (S.sub y c q)
  pin:=λp hp=>by
   have hp':p=(D,{ cls:=.type "list",dict:=none,data:=.seq ([]:List Value).toArray }):=by simpa [Xc,cxComp] using hp
   subst hp';exact⟨k34 _ _ hDo,hnD,hDC,nstk D (List.mem_cons_self ..),λv z=>nomatch z⟩
  hok:=(I2.hok.kept k23).kept k34
  len:=by show (v0::fvOf ixs σ).length=(x::fns).length;simp[fvOf,S.len] }
 -- what stays true of the iterator's objects
 have fpc:∀{H':Hp} {pins':List (Addr×Obj)},(∀b∈fp,H' b=none)->(∀p∈pins',p.1=D)->∀b∈fp,FpOk Xc pins' H' b:=λ{H' pins'} hn hp b hb=>
  ⟨hn b hb,Nat.ne_of_lt (Nat.lt_trans (hfpLt b hb) hDltC),nstk b (List.mem_cons_of_mem _ hb),.inl (List.mem_cons_of_mem _ hb),λy c q=>cne y c q b (List.mem_cons_of_mem _ hb),λp q=>by
   have q':p∈pins':=by simpa [Xc,cxComp] using q
   rw[hp p q'];exact Nat.ne_of_gt (hfpLt b hb)⟩
 have loop:codeAny (model X.prog X.w) X.A (.compLoop (.ListComp elt [⟨.Name x px,iter,[cnd],0⟩] scope pos) 0 (.ref it) (.ref D) (compEnvC scope cl C X.env))
  (compPost (model X.prog X.w) X.A X.xe none (EP X pins σ Q) (.ref D) C) { s2 with heap:=h₁,toks:=s2.toks+ ([]:List (Str×Value)).length }:=by
  refine compLoopIf_go (λn s'=>∃(i:Nat) (ys:List V) (its:List Value) (nn:Nat) (v0:Option V) (H':Hp),Inv Xc [(D,{ cls:=.type "list",dict:=none,data:=.seq its.toArray nn })] (v0::fvOf ixs σ) H' s'/\tn i s'.heap/\(∀b∈fp,H' b=none)/\Vals ys its/\W i n ys H') ?_ m0
   ⟨0,[],[],0,none,H2,start none rfl,T.keep _ _ _ st2 λb _ o q=>k34 _ _ (k23 _ _ q),λb hb=>(f2 b hb).1,.nil,w0⟩
  rintro n s3 ⟨i,ys,its,nn,v0,H3,J3,tn3,fr3,vv,w3⟩
  have pinD:∀p∈([(D,({ cls:=.type "list",dict:=none,data:=.seq its.toArray nn }:Obj))]:List (Addr×Obj)),p.1=D:=λp hp=>by
   have:p=(D,{ cls:=.type "list",dict:=none,data:=.seq its.toArray nn }):=by simpa using hp
   rw[this]
  rcases turn i n ys H3 w3 with ⟨stop,hlen,q⟩|⟨go,hlen,step⟩
  ·-- the end
   refine thn (T.done Xc rfl rfl rfl hc i _ s3 _ H3 _ J3 (fpc fr3 pinD) tn3 stop) λr s4 ⟨hr,J4⟩=>?_
   subst hr;obtain⟨m,hn,_⟩:=J4.loc;refine⟨m,hn,λh'' hsb=>?_⟩;obtain⟨gD,nD,_,_,_⟩:=J4.pin (D,{ cls:=.type "list",dict:=none,data:=.seq its.toArray nn }) (by simp[Xc,cxComp]);have B:=J4.base;have kC:∀b u,b≠C->s4.heap.get? b=some u->h''.get? b=some u:=λb u hb q=>(hsb.2 b hb).trans q
   have ne:∀{b o},s2.heap.get? b=some o->b≠C/\b≠D:=λq=>⟨Nat.ne_of_lt (Nat.lt_trans (ltD q) hDltC),Nat.ne_of_lt (ltD q)⟩
   have nex:∀{b o},s2.heap.get? b=some o->b∉fp->b∉D::fp:=λq hx z=>(List.mem_cons.mp z).elim (ne q).2 hx
   have uu:Un (frs X.stack) fp H2 (upd H3 D (.lst ys)) s2.heap h'':={
    keep:=λb o q n hb hx=>kC b o (ne q).1 (B.keep b o (k23 b o q) n hb (nex q hx))
    slot:=λb o q n hb hx=>by
     obtain⟨sl,e⟩:=B.slot b o (k23 b o q) n hb (nex q hx);exact⟨sl,kC b _ (ne q).1 e⟩
    free:=λb o q n hx=>by rw[upd_ne (ne q).2];exact B.free b o (k23 b o q) n (nex q hx)
    there:=λb o q hx=>by
     obtain⟨o',e⟩:=B.there b o (k23 b o q) (nex q hx);exact⟨o',kC b _ (ne q).1 e⟩
    tups:=λb xs q=>by rw[upd_ne (ne_of_none q hnD)];exact B.tups b xs q
    frzs:=λb o xs q=>by rw[upd_ne (ne_of_none q hnD)];exact B.frzs b o xs q
    tbls:=λb ps q=>by
     obtain⟨more,e⟩:=B.tbls b ps q;exact⟨more,by rw[upd_ne (ne_of_none q hnD)];exact e⟩ }
   have hok:HOk X.prog X.w (upd H3 D (.lst ys)) h'':=λb u e=>by
    by_cases hb:b=D
    ·subst hb;rw[upd_same]at e;cases e;exact⟨hlen,its,nn,vv,kC _ _ hDC gD⟩
    ·rw[upd_ne hb]at e;refine(J4.hok b u e).stay (λc v hc q=>kC c v ?_ q) (λc q=>by rw[upd_ne (ne_of_none q nD)];exact q) λc xs q=>by rw[upd_ne (ne_of_none q nD)];exact q
     have fC:H3 C=none:=J4.free;rcases hc with rfl|hc
     ·exact ne_of_none e fC
     ·exact ne_of_none hc fC
   exact⟨.ref D,_,I2.call' (s':={ s4 with heap:=h'' }) J4.os uu hok J4.bare (λb hb=>⟨(f2 b hb).2.2.2.1,(f2 b hb).2.1,(f2 b hb).2.2.2.2.1,(f2 b hb).2.2.2.2.2⟩),rfl,q D nD⟩
  ·-- a turn
   refine thn (T.item Xc rfl rfl rfl hc i _ s3 _ H3 _ J3 (fpc fr3 pinD) tn3 go) λr s4 ⟨u,hr,h4⟩=>?_
   subst hr;refine thn h4 λ_ s5 ⟨xv,H5,J5,r5,y5,tn5,fr5⟩=>?_
   have J5':=J5.pinned (fpc fr5 pinD) (T.obj _ _ tn5);have hg:PG Xc (.Name x px) (gName 0):=pg_name (X:=Xc) (i:=0) S.nd rfl (.inl (relabel_own S.own)) (.inr (relabel_own S.own));refine thn (hg _ s5 _ H5 xv u (λ σ' H'=>σ'=some xv::fvOf ixs σ/\H'=H5) J5' r5 ⟨rfl,rfl⟩) λ_ s6 ⟨σ6,H6,J6,e6,e6'⟩=>?_
   subst e6 e6';refine thn (ht C { s2 with heap:=hp3 } H2 (D::fp) _ s6 _ H6 _ J6 (step xv H6 y5)) λbt s6b ⟨H6b,J6b,q6⟩=>?_
   cases bt with
   |true=>
    refine thn (he C { s2 with heap:=hp3 } H2 (D::fp) _ s6b _ H6b _ J6b q6) λyv s7 ⟨y,H7,J7,r7,m',hm',w7⟩=>?_
    obtain⟨gD,nD,_,_,_⟩:=J7.pin (D,{ cls:=.type "list",dict:=none,data:=.seq its.toArray nn }) (by simp[Xc,cxComp]);have tn7:tn (i+ 1) s7.heap:=T.keep _ _ _ tn5 λb hb o e=>(J7.pin (b,o) (List.mem_append_right _ (List.mem_append_right _ (mem_pinsAt hb e)))).1
    have fr7:∀b∈fp,H7 b=none:=λb hb=>by
     obtain⟨o,e,d⟩:=T.obj _ _ tn5 b hb;exact(J7.pin (b,o) (List.mem_append_right _ (List.mem_append_right _ (mem_pinsAt hb e)))).2.1
    have J7':Inv Xc [] (some xv::fvOf ixs σ) H7 s7:=J7.pins_of λp hp=>nomatch hp
    refine wpAny_list_append_plain (hsz:=by rw[List.size_toArray,←vv.length];omega) ⟨nn,gD⟩ λh8 pl8 sb8=>?_
    obtain⟨n8,g8⟩:=pl8
    have J8:Inv Xc [] (some xv::fvOf ixs σ) H7 { s7 with heap:=h8 }:=J7'.turned (t':=s7.toks) (it:=D) (λb o hb e=>(sb8.2 b hb).trans e) nD (hDC) (.inl (List.mem_cons_self ..))
     (λy c q=>cne y c q D (List.mem_cons_self ..)) (λp hp=>by simp[Xc,cxComp]at hp)
    refine⟨m',hm',i+ 1,ys++[y],its++[yv],n8,some xv,H7,J8.pins_of λp hp=>?_,?_,fr7,vv.append (.cons r7 .nil),w7⟩
    ·have:p=(D,{ cls:=.type "list",dict:=none,data:=.seq (its++[yv]).toArray n8 }):=by simpa using hp
     subst this;refine⟨?_,nD,hDC,nstk D (List.mem_cons_self ..),λv z=>nomatch z⟩;have:its.toArray.push yv=(its++[yv]).toArray:=by simp
     rw[this]at g8;exact g8
    ·exact T.keep _ _ _ tn7 λb hb o e=>(sb8.2 b (Nat.ne_of_lt (hfpLt b hb))).trans e
   |false=>
    obtain⟨m',hm',w7⟩:=q6;obtain⟨gD,nD,_,_,_⟩:=J6b.pin (D,{ cls:=.type "list",dict:=none,data:=.seq its.toArray nn }) (by simp[Xc,cxComp]);have tn7:tn (i+ 1) s6b.heap:=T.keep _ _ _ tn5 λb hb o e=>(J6b.pin (b,o) (List.mem_append_right _ (List.mem_append_right _ (mem_pinsAt hb e)))).1
    have fr7:∀b∈fp,H6b b=none:=λb hb=>by
     obtain⟨o,e,d⟩:=T.obj _ _ tn5 b hb;exact(J6b.pin (b,o) (List.mem_append_right _ (List.mem_append_right _ (mem_pinsAt hb e)))).2.1
    refine⟨m',hm',i+ 1,ys,its,nn,some xv,H6b,J6b.pins_of λp hp=>?_,tn7,fr7,vv,w7⟩;have:p=(D,{ cls:=.type "list",dict:=none,data:=.seq its.toArray nn }):=by simpa using hp
    subst this;exact⟨gD,nD,hDC,nstk D (List.mem_cons_self ..),λv z=>nomatch z⟩
 exact codeAny_compStart_list loop (T.self _ 0 _ _ _ (T.keep _ _ _ st2 λb _ o q=>k34 _ _ (k23 _ _ q)) loop)
end
end L2
set_option maxRecDepth 10000
set_option maxHeartbeats 400000
namespace L2
open PySem PySem.Spec PyProof.Rows
section
variable {X:Cx}
end
end L2
set_option maxRecDepth 100000
set_option maxHeartbeats 4000000
namespace L2
open PySem PySem.Spec PyProof.Rows
section
variable {X:Cx}
end
end L2
namespace L2
open PySem PySem.Spec PyProof.Rows
section
variable {X:Cx} {tg:Expr}
end
end L2
namespace L2
open PySem PySem.Spec PyProof.Rows
section
variable {X:Cx} {elt iter cnd:Expr} {x:Str} {px pos:Pos} {scope:Scope} {cl:List (Str×Addr)} {fns:List Str} {ixs:List Nat} {wi:TI} {tt:TT} {te:TE}
theorem ps_setComp {iy:Nat}{y:Str}{py spos:Pos}(hN:X.N.Nodup)(hiy:X.N[iy]?=some y)(hy:Loc X.env.scope y)(hc:X.calm=true)(hi:PI X (.Name x px) iter wi)(S:CompScope X x fns ixs scope cl)
 (he:∀(C:Addr) (s:Shared) (H:Hp) (ex:List Addr),PE (cxComp X (x::fns) scope cl C s H ex) elt te)
 (hs:∀x,foldedSetIterable iter X.env x=pure x:=by intro _;rfl) (hsw:swapsWith (.ListComp elt [⟨.Name x px,iter,[],0⟩] scope pos) (some (.Name y py)) spos.line X.env=pure true:=by rfl)
 (hfy:X.fn y=true\/X.env.scope.names.lookup y=some .local:=by first|exact .inl rfl|exact .inr rfl|assumption):
 PS X (.Assign [.Name y py] (.ListComp elt [⟨.Name x px,iter,[],0⟩] scope pos) spos) (tAsg (tComp wi (fvOf ixs) te) (gName iy)):=by
 intro pins s σ H DD I h;rw[exec_Assign_Name_used _ _ _ _ hsw];refine wpAny_bind (wpAny_standAt (wpAny_bind ?_));show wpAny _ X.A (do let _ ←comprehension (.ListComp elt [⟨.Name x px,iter,[],0⟩] scope pos) scope X.env _ (newList []) false (eval iter X.env) (some (assign (.Name y py) X.env))) _ _ s;refine wpAny_bind (wpAny_mono (wpAny_comprehension_free (use:=some (assign (.Name y py) X.env)) (Q:=λ_ s'=>SP X pins DD .next s') rfl hs S.clos S.kind S.names (thn (hi pins s σ H _ I h) λv s1 h1=>thn h1 λitv s2 h2=>?_)) (λ_ s' hq=>wpAny_pure (wpAny_pure hq)) λ_ _ e=>e);obtain⟨it,fp,tn,J,H2,e,I2,T,st2,f2,W,⟨m0,w0⟩,turn⟩:=h2;subst e
 have hfpLt:∀b∈fp,b<s2.heap.objs.size:=λb hb=>by
  obtain⟨o,ho,_⟩:=T.obj _ _ st2 b hb;exact Heap.lt_size ho
 refine wpAny_newObj_type (wpAny_newFunctionEnv S.cell (by intro y hy;simp at hy) (λh₁ hns₁ hsb₁=>?_) S.kind);dsimp only at hns₁ hsb₁ ⊢;generalize hH3:s2.heap.push { cls:=.type "list",dict:=none,data:=.seq ([]:List Value).toArray }=hp3 at hns₁ hsb₁ ⊢;generalize hD:s2.heap.objs.size=D at hfpLt ⊢;have hC:hp3.objs.size=D+ 1:=by rw[←hH3,Heap.size_push,hD]
 generalize hCe:hp3.objs.size=C at hC hns₁ hsb₁ ⊢;have hDltC:D<C:=by omega
 have hDC:D≠C:=Nat.ne_of_lt hDltC;have k23:∀b u,s2.heap.get? b=some u->hp3.get? b=some u:=λb u q=>by rw[←hH3];exact Heap.get?_push_of_some _ q
 have ltD:∀{b u},s2.heap.get? b=some u->b<D:=λq=>by rw[←hD];exact Heap.lt_size q
 have k34:∀b u,hp3.get? b=some u->h₁.get? b=some u:=λb u q=>
  hsb₁.extBut b u (Nat.ne_of_lt (Nat.lt_of_lt_of_le (Heap.lt_size q) (Nat.le_of_eq hCe))) (Heap.get?_push_of_some _ q)
 have hDo:hp3.get? D=some { cls:=.type "list",dict:=none,data:=.seq ([]:List Value).toArray }:=by rw[←hH3,←hD];exact Heap.get?_push_size _ rfl
 have I3:Inv X pins σ H2 { s2 with heap:=hp3 }:=I2.kept (t':=s2.toks) k23;have hnD:H2 D=none:=I2.hok.fresh (by omega);have hnC:H2 C=none:=I2.hok.fresh (by omega)
 have nstk:∀b∈D::fp,b∉frs X.stack:=λb hb z=>by
  rcases List.mem_cons.mp (I2.stkSub b z) with e|z
  ·rcases List.mem_cons.mp hb with e2|hb
   ·exact absurd I2.lt (by rw[←e,e2,←hD];exact Nat.lt_irrefl _)
   ·exact(f2 b hb).2.1 e
  ·rcases List.mem_cons.mp hb with e2|hb
   ·exact I2.nofs (by rw[e2,←hD];exact Nat.le_refl _) z
   ·exact(f2 b hb).2.2.1 z
 have cne:∀y c,cl.lookup y=some c->∀b∈D::fp,c≠b:=λy c q b hb z=>by
  obtain⟨v,hv⟩:=I2.cell y c (S.sub y c q);rcases List.mem_cons.mp hb with e2|hb
  ·exact absurd hv.lt (by rw[z,e2,←hD];exact Nat.lt_irrefl _)
  ·exact(f2 b hb).2.2.2.2.1 y c (S.sub y c q) z
 -- the block's context
 let Xc:Cx:=cxComp X (x::fns) scope cl C { s2 with heap:=hp3 } H2 (D::fp)
 have ok:Xc.Ok:={
  mod:=I2.ok.mod
  kind:=S.kind
  glob:=I2.ok.glob
  blt:=I2.ok.blt
  above:=by show hp3.objs.size<=C;omega
  inj:=λy z c q1 q2=>I2.ok.inj y z c (S.sub _ _ q1) (S.sub _ _ q2)
  has:=S.has
  cab:=λy c q=>nomatch q
  hd:=I2.ok.hd
  frames:=I2.ok.frames
  stk:=.inl rfl
  exf:=λb hb=>⟨by
   rcases List.mem_cons.mp hb with e2|hb
   ·rw[e2];exact hDC
   ·exact Nat.ne_of_lt (Nat.lt_trans (hfpLt b hb) hDltC),λy c q=>cne y c q b hb⟩
  bs:=I3.bs
  bsz:=Nat.le_trans I3.ok.bsz I3.sz
  noex:=λb o q hb=>by
   rcases List.mem_cons.mp hb with e2|hb
   ·exact absurd (ltD (I2.bs b o q).1) (by rw[e2];exact Nat.lt_irrefl _)
   ·rcases (f2 b hb).2.2.2.1 with z|z
    ·exact I2.ok.noex b o q z
    ·exact absurd (Heap.lt_size (I2.ok.bs b o q).1) (Nat.not_lt.mpr z)
  exfs:=nstk
  funs:=I3.stack
  frf:=I3.stkFree }
 have start:∀(v0:Option V),v0=none->Inv Xc [(D,{ cls:=.type "list",dict:=none,data:=.seq ([]:List Value).toArray })] (v0::fvOf ixs σ) H2 { s2 with heap:=h₁,toks:=s2.toks+ ([]:List (Str×Value)).length }:=λv0 hv0=>{
  ok:=ok
  os:=rfl
  bare:=I2.bare
  base:=Un.kept k34
  loc:=⟨_,hns₁,λi y v e1 e2 e3=>by
   cases i with
   |zero=>rw[hv0]at e2;cases e2
   |succ j=>
    have e1':fns[j]?=some y:=e1
    have e2':(fvOf ixs σ)[j]?=some (some v):=e2
    obtain⟨i,hi1,hi2,hk,c,hc1,hc2⟩:=S.at_ j y e1';unfold fvOf at e2';rw[List.getElem?_map,hi1]at e2'
    have e3':σ[i]?=some (some v):=by
     have z:(σ[i]?).join=some v:=Option.some.inj e2'
     cases q:σ[i]? with
     |none=>rw[q]at z;cases z
     |some o=>rw[q]at z;rw[show o=some v from z]
    obtain⟨m,_,hl⟩:=I2.loc;obtain⟨u,r,l⟩:=hl i y v hi2 e3' (hk.elim (λz=>.inr (.inl z)) λz=>.inr (.inr z));refine⟨u,r,.inr ⟨hc2,c,hc1,?_⟩⟩;rcases l with ⟨z,_⟩|⟨_,c',hc',hcell⟩
    ·rcases hk with hk|hk <;> (rw[hk]at z;cases z)
    ·have:c'=c:=Option.some.inj (hc'.symm.trans (S.sub _ _ hc1));subst this;obtain⟨o,ho,hd⟩:=hcell;exact⟨o,k34 _ _ (k23 _ _ ho),hd⟩⟩
  cell:=λy c q=>by
   obtain⟨v,o,ho,hd⟩:=I2.cell y c (S.sub y c q);exact⟨v,o,k34 _ _ (k23 _ _ ho),hd⟩
  free:=hnC
  freeC:=λy c q=>I2.freeC y c (S.sub y c q)
  pin:=λp hp=>by
   have hp':p=(D,{ cls:=.type "list",dict:=none,data:=.seq ([]:List Value).toArray }):=by simpa [Xc,cxComp] using hp
   subst hp';exact⟨k34 _ _ hDo,hnD,hDC,nstk D (List.mem_cons_self ..),λv z=>nomatch z⟩
  hok:=(I2.hok.kept k23).kept k34
  len:=by show (v0::fvOf ixs σ).length=(x::fns).length;simp[fvOf,S.len] }
 -- what stays true of the iterator's objects
 have fpc:∀{H':Hp} {pins':List (Addr×Obj)},(∀b∈fp,H' b=none)->(∀p∈pins',p.1=D)->∀b∈fp,FpOk Xc pins' H' b:=λ{H' pins'} hn hp b hb=>
  ⟨hn b hb,Nat.ne_of_lt (Nat.lt_trans (hfpLt b hb) hDltC),nstk b (List.mem_cons_of_mem _ hb),.inl (List.mem_cons_of_mem _ hb),λy c q=>cne y c q b (List.mem_cons_of_mem _ hb),λp q=>by
   have q':p∈pins':=by simpa [Xc,cxComp] using q
   rw[hp p q'];exact Nat.ne_of_gt (hfpLt b hb)⟩
 have loop:codeAny (model X.prog X.w) X.A (.compLoop (.ListComp elt [⟨.Name x px,iter,[],0⟩] scope pos) 0 (.ref it) (.ref D) (compEnvC scope cl C X.env))
  (compPost (model X.prog X.w) X.A X.xe (some (assign (.Name y py) X.env)) (λ_ s'=>SP X pins DD .next s') (.ref D) C) { s2 with heap:=h₁,toks:=s2.toks+ ([]:List (Str×Value)).length }:=by
  refine compLoop_go (λn s'=>∃(i:Nat) (ys:List V) (its:List Value) (nn:Nat) (v0:Option V) (H':Hp),Inv Xc [(D,{ cls:=.type "list",dict:=none,data:=.seq its.toArray nn })] (v0::fvOf ixs σ) H' s'/\tn i s'.heap/\(∀b∈fp,H' b=none)/\Vals ys its/\W i n ys H') ?_ m0
   ⟨0,[],[],0,none,H2,start none rfl,T.keep _ _ _ st2 λb _ o q=>k34 _ _ (k23 _ _ q),λb hb=>(f2 b hb).1,.nil,w0⟩
  rintro n s3 ⟨i,ys,its,nn,v0,H3,J3,tn3,fr3,vv,w3⟩
  have pinD:∀p∈([(D,({ cls:=.type "list",dict:=none,data:=.seq its.toArray nn }:Obj))]:List (Addr×Obj)),p.1=D:=λp hp=>by
   have:p=(D,{ cls:=.type "list",dict:=none,data:=.seq its.toArray nn }):=by simpa using hp
   rw[this]
  rcases turn i n ys H3 w3 with ⟨stop,hlen,q⟩|⟨go,hlen,step⟩
  ·-- the end
   refine thn (T.done Xc rfl rfl rfl hc i _ s3 _ H3 _ J3 (fpc fr3 pinD) tn3 stop) λr s4 ⟨hr,J4⟩=>?_
   subst hr;obtain⟨m,hn,_⟩:=J4.loc;generalize hh4:s4.heap=h'';have hsb:Heap.SameBut C s4.heap h'':=by rw[←hh4];exact⟨rfl,λ_ _=>rfl⟩
   obtain⟨gD,nD,_,_,_⟩:=J4.pin (D,{ cls:=.type "list",dict:=none,data:=.seq its.toArray nn }) (by simp[Xc,cxComp]);have B:=J4.base;have kC:∀b u,b≠C->s4.heap.get? b=some u->h''.get? b=some u:=λb u hb q=>(hsb.2 b hb).trans q
   have ne:∀{b o},s2.heap.get? b=some o->b≠C/\b≠D:=λq=>⟨Nat.ne_of_lt (Nat.lt_trans (ltD q) hDltC),Nat.ne_of_lt (ltD q)⟩
   have nex:∀{b o},s2.heap.get? b=some o->b∉fp->b∉D::fp:=λq hx z=>(List.mem_cons.mp z).elim (ne q).2 hx
   have uu:Un (frs X.stack) fp H2 (upd H3 D (.lst ys)) s2.heap h'':={
    keep:=λb o q n hb hx=>kC b o (ne q).1 (B.keep b o (k23 b o q) n hb (nex q hx))
    slot:=λb o q n hb hx=>by
     obtain⟨sl,e⟩:=B.slot b o (k23 b o q) n hb (nex q hx);exact⟨sl,kC b _ (ne q).1 e⟩
    free:=λb o q n hx=>by rw[upd_ne (ne q).2];exact B.free b o (k23 b o q) n (nex q hx)
    there:=λb o q hx=>by
     obtain⟨o',e⟩:=B.there b o (k23 b o q) (nex q hx);exact⟨o',kC b _ (ne q).1 e⟩
    tups:=λb xs q=>by rw[upd_ne (ne_of_none q hnD)];exact B.tups b xs q
    frzs:=λb o xs q=>by rw[upd_ne (ne_of_none q hnD)];exact B.frzs b o xs q
    tbls:=λb ps q=>by
     obtain⟨more,e⟩:=B.tbls b ps q;exact⟨more,by rw[upd_ne (ne_of_none q hnD)];exact e⟩ }
   have hok:HOk X.prog X.w (upd H3 D (.lst ys)) h'':=λb u e=>by
    by_cases hb:b=D
    ·subst hb;rw[upd_same]at e;cases e;exact⟨hlen,its,nn,vv,kC _ _ hDC gD⟩
    ·rw[upd_ne hb]at e;refine(J4.hok b u e).stay (λc v hc q=>kC c v ?_ q) (λc q=>by rw[upd_ne (ne_of_none q nD)];exact q) λc xs q=>by rw[upd_ne (ne_of_none q nD)];exact q
     have fC:H3 C=none:=J4.free;rcases hc with rfl|hc
     ·exact ne_of_none e fC
     ·exact ne_of_none hc fC
   have I5:Inv X pins σ (upd H3 D (.lst ys)) s4:=I2.call' (s':=s4) J4.os (by rw[hh4];exact uu) (by rw[hh4];exact hok) J4.bare (λb hb=>⟨(f2 b hb).2.2.2.1,(f2 b hb).2.1,(f2 b hb).2.2.2.2.1,(f2 b hb).2.2.2.2.2⟩);show wpAny _ X.A (assign (.Name y py) X.env (.ref D)) _ _ _
   have cL:X.env.locals≠C:=λz=>by
    have h1:=I2.lt;rw[hD,z]at h1;exact absurd (Nat.lt_trans h1 hDltC) (Nat.lt_irrefl _)
   have cC:∀z c,X.env.cells.lookup z=some c->c≠C:=λz c hz e=>by
    obtain⟨v,hv⟩:=I2.cell z c hz;have h1:=hv.lt;rw[hD,e]at h1;exact absurd (Nat.lt_trans h1 hDltC) (Nat.lt_irrefl _)
   have hCn:upd H3 D (.lst ys) C=none:=by
    rw[upd_ne (Ne.symm hDC)];exact J4.free
   refine wpAny_assign_Name (store_ok2 I5 hN hiy hy (v:=.ref D) rfl (λs5 I6 hsame=>?_) hfy);obtain⟨a5,sb5,ha5⟩:=hsame
   have neC:C≠a5:=by
    rcases ha5 with e|e
    ·rw[e];exact Ne.symm cL
    ·exact Ne.symm (cC y a5 e)
   refine⟨m,hn.sameBut sb5 neC,λh6 sb6=>?_⟩
   refine⟨_,_,I6.turned (t':=s5.toks) (it:=C) (λb o hb e=>(sb6.2 b hb).trans e) hCn (Ne.symm cL) (.inr (by
    have:=I2.sz;rw[hD]at this;exact Nat.le_trans this (Nat.le_of_lt hDltC))) cC (λp hp z=>?_),q D nD⟩
   have hlt:=Heap.lt_size (I2.pin p hp).1;rw[hD,z]at hlt;exact absurd (Nat.lt_trans hlt hDltC) (Nat.lt_irrefl _)
  ·-- a turn
   refine thn (T.item Xc rfl rfl rfl hc i _ s3 _ H3 _ J3 (fpc fr3 pinD) tn3 go) λr s4 ⟨u,hr,h4⟩=>?_
   subst hr;refine thn h4 λ_ s5 ⟨xv,H5,J5,r5,y5,tn5,fr5⟩=>?_
   have J5':=J5.pinned (fpc fr5 pinD) (T.obj _ _ tn5);have hg:PG Xc (.Name x px) (gName 0):=pg_name (X:=Xc) (i:=0) S.nd rfl (.inl (relabel_own S.own)) (.inr (relabel_own S.own));refine thn (hg _ s5 _ H5 xv u (λ σ' H'=>σ'=some xv::fvOf ixs σ/\H'=H5) J5' r5 ⟨rfl,rfl⟩) λ_ s6 ⟨σ6,H6,J6,e6,e6'⟩=>?_
   subst e6 e6';refine thn (he C { s2 with heap:=hp3 } H2 (D::fp) _ s6 _ H6 _ J6 (step xv H6 y5)) λyv s7 ⟨y,H7,J7,r7,m',hm',w7⟩=>?_
   obtain⟨gD,nD,_,_,_⟩:=J7.pin (D,{ cls:=.type "list",dict:=none,data:=.seq its.toArray nn }) (by simp[Xc,cxComp]);have tn7:tn (i+ 1) s7.heap:=T.keep _ _ _ tn5 λb hb o e=>(J7.pin (b,o) (List.mem_append_right _ (List.mem_append_right _ (mem_pinsAt hb e)))).1
   have fr7:∀b∈fp,H7 b=none:=λb hb=>by
    obtain⟨o,e,d⟩:=T.obj _ _ tn5 b hb;exact(J7.pin (b,o) (List.mem_append_right _ (List.mem_append_right _ (mem_pinsAt hb e)))).2.1
   have J7':Inv Xc [] (some xv::fvOf ixs σ) H7 s7:=J7.pins_of λp hp=>nomatch hp
   refine wpAny_list_append_plain (hsz:=by rw[List.size_toArray,←vv.length];omega) ⟨nn,gD⟩ λh8 pl8 sb8=>?_
   obtain⟨n8,g8⟩:=pl8
   have J8:Inv Xc [] (some xv::fvOf ixs σ) H7 { s7 with heap:=h8 }:=J7'.turned (t':=s7.toks) (it:=D) (λb o hb e=>(sb8.2 b hb).trans e) nD (hDC) (.inl (List.mem_cons_self ..))
    (λy c q=>cne y c q D (List.mem_cons_self ..)) (λp hp=>by simp[Xc,cxComp]at hp)
   refine⟨m',hm',i+ 1,ys++[y],its++[yv],n8,some xv,H7,J8.pins_of λp hp=>?_,?_,fr7,vv.append (.cons r7 .nil),w7⟩
   ·have:p=(D,{ cls:=.type "list",dict:=none,data:=.seq (its++[yv]).toArray n8 }):=by simpa using hp
    subst this;refine⟨?_,nD,hDC,nstk D (List.mem_cons_self ..),λv z=>nomatch z⟩;have:its.toArray.push yv=(its++[yv]).toArray:=by simp
    rw[this]at g8;exact g8
   ·exact T.keep _ _ _ tn7 λb hb o e=>(sb8.2 b (Nat.ne_of_lt (hfpLt b hb))).trans e
 exact codeAny_compStart_list loop (T.self _ 0 _ _ _ (T.keep _ _ _ st2 λb _ o q=>k34 _ _ (k23 _ _ q)) loop)
end
end L2
namespace L2
open PySem PySem.Spec PyProof.Rows
section
variable {X:Cx}
end
end L2
namespace L2
open PySem PySem.Spec PyProof.Rows
def rng (lo:Int)(n:Nat):List Int:=(List.range n).map λi:Nat=>lo+ (i:Int)
section
variable {X:Cx} {a b:Expr} {ta:TA} {p p2 pos pos2:Pos}
end
end L2
namespace L2
open PySem PySem.Spec PyProof.Rows
def RowsAt (H:Hp)(rs:List Addr)(rows:List (List Int)):Prop:=rs.length=rows.length/\∀(i:Nat) (r:Addr) (ns:List Int),rs[i]?=some r->rows[i]?=some ns->H r=some (.lst (intV ns))
def TabAt (H:Hp)(a:Addr)(rows:List (List Int)):Prop:=∃rs:List Addr,H a=some (.lst (rs.map V.ref))/\RowsAt H rs rows
theorem RowsAt.same {H H':Hp}{rs:List Addr}{rows:List (List Int)}(h:RowsAt H rs rows)(s:Same H H'):RowsAt H' rs rows:=⟨h.1,λi r ns h1 h2=>s _ _ (h.2 i r ns h1 h2)⟩
theorem TabAt.same {H H':Hp}{a:Addr}{rows:List (List Int)}(h:TabAt H a rows)(s:Same H H'):TabAt H' a rows:=by
 obtain⟨rs,h1,h2⟩:=h;exact⟨rs,s _ _ h1,h2.same s⟩
theorem vals_refs {rs:List Addr}:∀{us:List Value},Vals (rs.map V.ref) us->us=rs.map Value.ref:=by
 induction rs with
 |nil=>intro us r;cases r;rfl
 |cons c rs ih=>
  intro us r
  cases r with
  |cons r0 r1=>cases r0;rw[ih r1];rfl
theorem all_eqG {α:Type} [DecidableEq α]{ns ms:List α}(h:ns.length=ms.length):(List.range ns.length).all (λj=>decide (ns[j]?=ms[j]?))=decide (ns=ms):=by
 rw[Bool.eq_iff_iff,List.all_eq_true,decide_eq_true_iff];constructor
 ·intro h1;refine List.ext_getElem? λi=>?_
  by_cases hi:i<ns.length
  ·exact of_decide_eq_true (h1 i (List.mem_range.mpr hi))
  ·rw[List.getElem?_eq_none (by omega),List.getElem?_eq_none (by omega)]
 ·rintro rfl j _;exact decide_eq_true rfl
section
variable {X:Cx} {pins:List (Addr×Obj)} {σ:St} {H:Hp} {s:Shared} {A:Around}
end
section
variable {X:Cx}
def rNeLI:R2:=λx y H Q=>∃a b ns ms,x=.ref a/\y=.ref b/\H a=some (.lst (intV ns))/\H b=some (.lst (intV ms))/\Q (.bl (!decide (ns=ms))) H
theorem op_neLI (hu:X.A.units<cLine):OpR X (compareOp .NotEq) rNeLI:=by
 intro pins s σ H x y v u Q I rx ry h;obtain⟨a,b,ns,ms,rfl,rfl,ha,hb,q⟩:=h;cases rx;cases ry;obtain⟨its,r1,p1,_⟩:=I.list (SqL.of ha);obtain⟨its2,r2,p2,_⟩:=I.list (SqL.of hb);have l1:=r1.length;have l2:=r2.length;rw[ints_len]at l1 l2;by_cases hl:ns.length=ms.length
 ·refine SeqAt.RcNeAt.lists (e:=λj=>decide (ns[j]?=ms[j]?)) p1.isList p2.isList (by rw[List.size_toArray,List.size_toArray];omega) hu (λj h1 h2=>eqItems r1 r2 j h1 h2) X.prog X.w X.xe _ ⟨.bl (!decide (ns=ms)),H,I,?_,q⟩;show _=Value.bool (!decide (ns=ms));rw[List.size_toArray,←l1,all_eqG hl]
 ·have e:decide (ns=ms)=false:=decide_eq_false (λz=>hl (by rw[z]));rw[e]at q;refine SeqAt.RcNeAt.lists_lengths p1.isList p2.isList ?_ hu X.prog X.w X.xe _ ⟨.bl true,H,I,rfl,q⟩;rw[List.size_toArray,List.size_toArray];simp;omega
theorem ix_listK {K:PySem.W.Frag}(h:X.K=K):IxR X (rIxL K):=by subst h;exact ix_list
theorem ix_tupK {K:PySem.W.Frag}(h:X.K=K):IxR X (rIxT K):=by subst h;exact ix_tup
theorem compScope2 {x y z:Str}{scope:Scope}{c d:Addr}{i j:Nat}(hclos:closureFor scope X.env=pure [(y,c),(z,d)])(hy:X.env.cells.lookup y=some c)(hz:X.env.cells.lookup z=some d)(hc:∀q∈scope.names,q.2≠.cell)(hk:scope.kind=.function)
 (hn:∀q∈scope.names,q.2=.local->scope.names.lookup q.1=some .local) (hx:scope.names.lookup x=some .local) (hfree:∀q∈scope.names,q.2=.free->q.1=y\/q.1=z) (hxy:x≠y/\x≠z/\y≠z) (hi:X.N[i]?=some y) (hj:X.N[j]?=some z)
 (hky:X.env.kindOf y=some .cell) (hkz:X.env.kindOf z=some .cell) (hkf:X.env.scope.kind=.function) (hys:scope.names.lookup y=some .free) (hzs:scope.names.lookup z=some .free):CompScope X x [y,z] [i,j] scope [(y,c),(z,d)] where
 clos:=hclos
 sub:=λw e h=>by
  by_cases e1:w=y
  ·subst e1;have:c=e:=by simpa [List.lookup_cons] using h
   rw[←this];exact hy
  ·have hb:(w==y)=false:=beq_eq_false_iff_ne.mpr e1;by_cases e2:w=z
   ·subst e2;have:d=e:=by simpa [List.lookup_cons,hb] using h
    rw[←this];exact hz
   ·have hb2:(w==z)=false:=beq_eq_false_iff_ne.mpr e2;simp[List.lookup_cons,hb,hb2]at h
 cell:=hc
 kind:=hk
 names:=hn
 own:=hx
 has:=λw h=>by
  have e:w=y\/w=z:=by
   rcases h with h|h
   ·exact hfree _ (relabel_mem h (.inl rfl) hc) rfl
   ·exact hfree _ (relabel_mem h (.inr rfl) hc) rfl
  rcases e with rfl|rfl
  ·exact⟨c,by simp[List.lookup_cons]⟩
  ·have hb:(w==y)=false:=beq_eq_false_iff_ne.mpr (λq=>hxy.2.2 q.symm);exact⟨d,by simp[List.lookup_cons,hb]⟩
 nd:=by simp[hxy.1,hxy.2.1,hxy.2.2]
 len:=rfl
 at_:=λk w h=>by
  match k,h with
  |0,h=>
   have e:y=w:=by simpa using h
   subst e;exact⟨i,rfl,hi,.inl hky,c,by simp[List.lookup_cons],.inl (lookup_relabel_free hkf hky hys)⟩
  |1,h=>
   have e:z=w:=by simpa using h
   subst e;have hb:(z==y)=false:=beq_eq_false_iff_ne.mpr (λq=>hxy.2.2 q.symm);exact⟨j,rfl,hj,.inl hkz,d,by simp[List.lookup_cons,hb],.inl (lookup_relabel_free hkf hkz hzs)⟩
  |k+ 2,h=>simp at h
end
end L2
namespace L2
open PySem PySem.Spec PyProof.Rows
def TupsAt (H:Hp)(ps:List Addr)(ws:List (List Int)):Prop:=ps.length=ws.length/\∀(i:Nat) (p:Addr) (w:List Int),ps[i]?=some p->ws[i]?=some w->H p=some (.tup (intV w))
def WordsAt (H:Hp)(a:Addr)(ws:List (List Int)):Prop:=∃ps:List Addr,H a=some (.lst (ps.map V.ref))/\TupsAt H ps ws
theorem TupsAt.keep {H H':Hp}{ps:List Addr}{ws:List (List Int)}(h:TupsAt H ps ws)(s:∀p xs,H p=some (.tup xs)->H' p=some (.tup xs)):TupsAt H' ps ws:=⟨h.1,λi p w h1 h2=>s _ _ (h.2 i p w h1 h2)⟩
theorem TupsAt.same {H H':Hp}{ps:List Addr}{ws:List (List Int)}(h:TupsAt H ps ws)(s:Same H H'):TupsAt H' ps ws:=h.keep λp xs e=>s _ _ e
theorem WordsAt.same {H H':Hp}{a:Addr}{ws:List (List Int)}(h:WordsAt H a ws)(s:Same H H'):WordsAt H' a ws:=by
 obtain⟨ps,h1,h2⟩:=h;exact⟨ps,s _ _ h1,h2.same s⟩
theorem TupsAt.snoc {H:Hp}{ps:List Addr}{ws:List (List Int)}{p:Addr}{w:List Int}(h:TupsAt H ps ws)(hp:H p=some (.tup (intV w))):TupsAt H (ps++[p]) (ws++[w]):=by
 refine⟨by rw[List.length_append,List.length_append,h.1];rfl,λi q u h1 h2=>?_⟩;by_cases hi:i<ps.length
 ·rw[List.getElem?_append_left hi]at h1;rw[List.getElem?_append_left (by rw[←h.1];exact hi)]at h2;exact h.2 i q u h1 h2
 ·rw[List.getElem?_append_right (by omega)]at h1;rw[List.getElem?_append_right (by rw[←h.1];omega)]at h2;rw[List.mem_singleton.mp (List.mem_of_getElem? h1),List.mem_singleton.mp (List.mem_of_getElem? h2)];exact hp
section
variable {X:Cx} {pins:List (Addr×Obj)} {σ:St} {H:Hp} {s:Shared} {A:Around}
end
section
variable {X:Cx}
end
end L2
namespace L2
open PySem PySem.Spec PyProof.Rows
theorem vals_intsAre:∀{ns:List Int} {us:List Value},Vals (intV ns) us->IntsAre us ns
 |[],_,h=>by cases h;exact .nil
 |n::ns,_,h=>by
  cases h with
  |cons h0 h1=>
   obtain⟨t,rfl⟩:=h0;exact .cons n t (vals_intsAre h1)
theorem any_mem (ns:List Int)(k:Int):(ns.any λx=>x==k)=decide (k∈ns):=by
 rw[Bool.eq_iff_iff,List.any_eq_true,decide_eq_true_iff];constructor
 ·rintro ⟨x,hx,e⟩;rw[←eq_of_beq e];exact hx
 ·intro h;exact⟨k,h,beq_self_eq_true k⟩
section
variable {X:Cx}
def rNotInLI:R2:=λx y H Q=>∃k a ns,x=.int k/\y=.ref a/\H a=some (.lst (intV ns))/\Q (.bl (!decide (k∈ns))) H
theorem op_NOTIN_l:OpR X (compareOp .NotIn) rNotInLI:=by
 intro pins s σ H x y v u Q I rx ry h;obtain⟨k,a,ns,rfl,rfl,ha,q⟩:=h;obtain⟨t,rfl⟩:=rx;cases ry;obtain⟨its,r,p,_⟩:=I.list (SqL.of ha);refine notin_list_ints p.isList (vals_intsAre r) ?_;rw[any_mem];exact⟨.bl _,H,I,rfl,q⟩
def isInt (k:Int):Value->Bool
 |.int z _=>z==k
 |_=>false
end
end L2
namespace L2
open PySem PySem.Spec PyProof.Rows
section
variable {X:Cx} {tg:Expr}
end
end L2
namespace L2
open PySem PySem.Spec PyProof.Rows
def Itel (K:PySem.W.Frag)(a:Addr):It:=
 ⟨λi H=>∃xs x,SqL K H a xs/\xs[i]?=some x,λi H x H'=>∃p v,H p=none/\(∀ys,SqL K H a ys->ys[i]?=some v)/\x=.ref p/\H'=upd H p (.tup [.int (i:Int),v]),λi H=>∃xs,SqL K H a xs/\xs.length=i⟩
theorem ne_cls {h:Heap}{a b:Addr}{o u:Obj}(ha:h.get? a=some o)(hb:h.get? b=some u)(hc:o.cls≠u.cls):a≠b:=λz=>by
 subst z;rw[ha]at hb;exact hc (by rw[Option.some.inj hb])
theorem turn_enumL {P:Program}{w:World}{K:PySem.W.Frag}{elts:List Expr}{x1:Nat}{tp:Pos}(e it a:Addr)(hei:e≠it):
 Turn P w K (.Tuple elts x1 tp) (Itel K a) [e,it] e (λi h=>(∃old,IsEnum h e it (i:Int) old)/\h.IsListIter it a i) where
 mem:=by simp
 obj:=λi h st b hb=>by
  obtain⟨⟨old,he⟩,o,ho,hc,hd⟩:=st;rcases List.mem_cons.mp hb with rfl|hb
  ·exact⟨_,he,λv z=>by cases z⟩
  ·rw[List.mem_singleton.mp hb];exact⟨o,ho,λv z=>by rw[hd]at z;cases z⟩
 keep:=λi h h' st k=>by
  obtain⟨⟨old,he⟩,hl⟩:=st;exact⟨⟨old,k e (by simp) _ he⟩,hl.at λo e=>k it (by simp) o e⟩
 item:=by
  intro X hP hw hK hc i pins s σ H E I hf st hg;subst hP hw hK;obtain⟨⟨old,he⟩,hst⟩:=st;obtain⟨xs,x,hq,hx⟩:=hg;obtain⟨its,rv,p,hz⟩:=I.list hq;obtain⟨u,hu,ru⟩:=rv.get hx;have hit:=p.isList;obtain⟨o1,ho1,hc1,hd1⟩:=id hit;obtain⟨o2,ho2,hc2,hd2⟩:=id hst;have hai:a≠it:=ne_cls ho1 ho2 (by rw[hc1,hc2];decide);have hea:e≠a:=ne_cls he ho1 (by rw[hc1];show Value.type "enumerate"≠Value.type "list";decide);have D:=Draws.list (prog:=X.prog) (w:=X.w) (A:=X.A.in1) (I.ok.hd hc) it a hai its.toArray;have hel:e<s.heap.objs.size:=Heap.lt_size he;have hil:i<its.length:=(List.getElem?_eq_some_iff.mp hu).1;refine En.next_pair D he ⟨hst,hit⟩ (by simpa using hil) hei (by simp[hei,hea]) λy h' tk hPx ho hs' hT hk=>?_
  have ey:u=y:=by
   have h2:its[i]?=some y:=by simpa using hPx
   exact Option.some.inj (hu.symm.trans h2)
  subst ey;refine⟨_,rfl,?_⟩;refine wpAny_letOwnedTupleGo_enum ho λh'' he' hs''=>?_
  have hT2:h''.get? s.heap.objs.size=some { cls:=.type "tuple",data:=.seq #[.int (i:Int) tk,u] }:=(hs''.2 _ (Nat.ne_of_gt hel)).trans hT
  have hkk:∀b ob,b∉[e,it]->s.heap.get? b=some ob->h''.get? b=some ob:=λb ob hb q=>by
   have h1:b≠e:=λz=>hb (by simp[z])
   have h2:b≠it:=λz=>hb (by simp[z])
   exact(hs''.2 b h1).trans (hk b ob h1 h2 q)
  have hfr:=I.hok.fresh (Nat.le_refl s.heap.objs.size);refine⟨.ref s.heap.objs.size,_,I.turnLaid (fp:=[e,it]) (a:=s.heap.objs.size) (o:=.tup [.int (i:Int),x]) (h':=h'') (t':=tk+ 1) hkk hf (Nat.le_refl _) ?_,rfl,⟨_,x,hfr,λys hy=>by rw[I.list_inj hy hq];exact hx,rfl,rfl⟩,⟨⟨u,?_⟩,?_⟩,λb hb=>?_⟩
  ·exact⟨by show 2<=sizeLine;decide,[.int (i:Int) tk,u],.cons ⟨_,rfl⟩ (.cons ru .nil),_,hT2,rfl,_,rfl⟩
  ·rw[show ((i+ 1:Nat):Int)=(i:Int)+ 1 by omega];exact he'
  ·exact(D.frame _ _ _ hs' λb hb o q=>(hs''.2 b (by
    rcases List.mem_cons.mp hb with z|hb
    ·rw[z];exact Ne.symm hei
    ·rw[List.mem_singleton.mp hb];exact Ne.symm hea)).trans q).1
  ·rw[upd_ne]
   ·exact(hf b hb).1
   ·intro z;subst z;rcases List.mem_cons.mp hb with z|hb
    ·exact absurd hel (by rw[←z];exact Nat.lt_irrefl _)
    ·exact absurd (Heap.lt_size ho2) (by rw[←List.mem_singleton.mp hb];exact Nat.lt_irrefl _)
 done:=by
  intro X hP hw hK hc i pins s σ H E I hf st hg;subst hP hw hK;obtain⟨⟨old,he⟩,hst⟩:=st;obtain⟨xs,hq,hx⟩:=hg;obtain⟨its,rv,p,hz⟩:=I.list hq;have hit:=p.isList;obtain⟨o1,ho1,hc1,hd1⟩:=id hit;obtain⟨o2,ho2,hc2,hd2⟩:=id hst;have hai:a≠it:=ne_cls ho1 ho2 (by rw[hc1,hc2];decide);have D:=Draws.list (prog:=X.prog) (w:=X.w) (A:=X.A.in1) (I.ok.hd hc) it a hai its.toArray;have hsz:its.toArray.size=i:=by rw[List.size_toArray,←rv.length];exact hx
  refine wpAny_pyNext_enum_endD D he (by rw[hsz];exact⟨hst,hit⟩) λh' eb=>⟨rfl,I.turnedL (fp:=[e,it]) (t':=s.toks) (λb o hb q=>eb b o (λz=>hb (by simp[z])) q) hf⟩
 self:=λA i s Q E st h=>by
  obtain⟨⟨old,he⟩,_⟩:=st;have hT:s.TypeIs (.ref e) "enumerate":=⟨_,he,rfl⟩;refine wpAny_pyIter_slot hT F.slot_enumerate_iter (wpAny_call_entry F.slot_enumerate_iter hT F.entry_enumerate_iter ?_ (F.args_enumerate_iter_1 _));show wpAny _ _ (ret (.ref e)) _ _ s;exact wpAny_pure ⟨_,rfl,"enumerate",_,hT,F.slot_enumerate_next.lookup,h⟩
section
variable {X:Cx}
def iEnumL (K:PySem.W.Frag)(ta:TA):TI:=λ σ H R=>ta σ H λvs H1=>∃a,vs=[.ref a]/\(∃xs,SqL K H1 a xs)/\R (Itel K a) H1
theorem pi_enumL {a:Expr}{te:TE}{elts:List Expr}{x1:Nat}{tp p pos:Pos}(hg:Gl X "enumerate")(hm:X.mg "enumerate"=none)(he:PE X a te)(hs:starEach [a] X.env=[(false,eval a X.env)]:=by rfl):
 PI X (.Tuple elts x1 tp) (.Call (.Name "enumerate" p) [a] [] pos) (iEnumL X.K (tCons te tNil)):=by
 intro pins s σ H R I h;refine Call_ (ld_blt I hg hm boot_enumerate (PyProof.Rows.callWith_type1 (thn ((pa_cons he pa_nil hs) pos pins s σ H _ I h) λus s1 ⟨vs,H1,I1,r1,q1⟩=>?_) hs rfl));obtain⟨l,rfl,⟨xs,hq⟩,q⟩:=q1;obtain⟨u,rfl,ru⟩:=vals1 r1;cases ru;obtain⟨its,rv,pl,hz⟩:=I1.list hq;refine call_enumerate_list pl.isList λh' he' hit hsz hk=>?_
 have I3:Inv X pins σ H1 { s1 with heap:=h' }:=I1.kept (t':=s1.toks) hk;have T:=turn_enumL (P:=X.prog) (w:=X.w) (K:=X.K) (elts:=elts) (x1:=x1) (tp:=tp) (s1.heap.objs.size+ 1) s1.heap.objs.size l (Nat.succ_ne_self _);refine T.self _ 0 { s1 with heap:=h' } _ _ ⟨⟨_,he'⟩,hit⟩ ⟨_,_,_,_,H1,rfl,I3,T,⟨⟨_,he'⟩,hit⟩,λb hb=>?_,q⟩;rcases List.mem_cons.mp hb with e|hb
 ·subst e;exact I1.fpOk (Nat.le_succ _) (I1.hok.fresh (Nat.le_succ _))
 ·rw[List.mem_singleton.mp hb];exact I1.fpOk (Nat.le_refl _) (I1.hok.fresh (Nat.le_refl _))
end
theorem for_enumL {K:PySem.W.Frag}{a:Addr}{xs:List V}{g:TG}{tb:TS}{D:Ends}{σ:St}{H:Hp}(Pv:Nat->St->Hp->Prop)(h0:Pv 0 σ H)(hl:∀i σ H,i<=xs.length->Pv i σ H->SqL K H a xs)
 (hs:∀i v σ H p,xs[i]?=some v->H p=none->Pv i σ H->g (.ref p) σ (upd H p (.tup [.int (i:Int),v])) λ σ2 H2=>tb { D with nx:=Pv (i+ 1),ct:=Pv (i+ 1),bk:=D.nx } σ2 H2) (hd:∀ σ H,Pv xs.length σ H->D.nx σ H):
 ∃W:Nat->Nat->St->Hp->Prop,(∃m,W 0 m σ H)/\∀i m σ H,W i m σ H->
  ((Itel K a).stop i H/\D.nx σ H)\/((Itel K a).go i H/\∃N:St->Hp->Prop,(∀ σ' H',N σ' H'->∃m',m'<m/\W (i+ 1) m' σ' H')/\∀x H',(Itel K a).yld i H x H'->g x σ H' λ σ2 H2=>tb { D with nx:=N,ct:=N,bk:=D.nx } σ2 H2):=by
 refine⟨λi m σ H=>m=xs.length - i/\i<=xs.length/\Pv i σ H,⟨xs.length,by simp,Nat.zero_le _,h0⟩,?_⟩;rintro i m σ H ⟨rfl,hi,p⟩;have q:=hl i σ H hi p;by_cases hlt:i<xs.length
 ·refine .inr ⟨⟨xs,_,q,List.getElem?_eq_getElem hlt⟩,Pv (i+ 1),λ σ' H' p'=>⟨xs.length - (i+ 1),by omega,rfl,hlt,p'⟩,λx H' y=>?_⟩;obtain⟨r,v,hr,hv,rfl,rfl⟩:=y;exact hs i v σ H r (hv xs q) hr p
 ·have e:i=xs.length:=by omega
  subst e;exact .inl ⟨⟨xs,q,rfl⟩,hd σ H p⟩
end L2
namespace L2
open PySem PySem.Spec PyProof.Rows
section
variable {X:Cx}
end
end L2
namespace L2
open PySem PySem.Spec PyProof.Rows
section
variable {X:Cx}
end
end L2
namespace L2
open PySem PySem.Spec PyProof.Rows
namespace En
section
variable {prog:Program} {w:World} {A:Around} {E:Value->Shared->Prop} {s:Shared}
end
end En
end L2
namespace L2
open PySem PySem.Spec PyProof.Rows
namespace En
open AutoSeq1 (wpAny_loadPart')
section
variable {prog:Program} {w:World} {A:Around} {E:Value->Shared->Prop} {s:Shared}
end
end En
section
variable {X:Cx}
end
end L2
namespace L2
open PySem PySem.Spec PyProof.Rows
namespace En
open AutoSeq1 (wpAny_loadPart')
theorem new_startL (l:Addr)(items:Array Value)(n:Nat)(dct:Option Addr)(sl:Array (Option Value))(k:Int)(u:Tok)(hk:0<=k)(hk2:k<1000):
 Meets (Builtin.«enumerate.__new__» ⟨[.type "enumerate",.ref l],[("start",.int k u)]⟩) (λ_ R s=>s.heap.get? l=some { cls:=.type "list",dict:=dct,data:=.seq items n,slots:=sl }/\
  R (.ok (.ret (.ref (s.heap.push { cls:=.type "list_iterator",data:=.fields #[.ref l,.int 0 0] }).objs.size)))
    { s with heap:=(s.heap.push { cls:=.type "list_iterator",data:=.fields #[.ref l,.int 0 0] }).push { cls:=.type "enumerate",data:=.fields #[.none,.bool false,.ref s.heap.objs.size,rawInt k,.none,.none] } }):=
 .of_wp λprog w A R s h=>by
  obtain⟨hp,g,d,tk,os⟩:=s;obtain⟨hl,h⟩:=h;have hsub:=sub_enumerate;have f1:=AutoSeq1.idx_int;have hL:Heap.IsList (Shared.heap ⟨hp,g,d,tk,os⟩) l items:=⟨_,hl,rfl,n,rfl⟩
  have hfit:(!Builtin.SmallTypes.fitsIndex k)=false:=by
   unfold Builtin.SmallTypes.fitsIndex;simp;omega
  wp_walk using wpAny_loadPart' hl
  refine wpAny_stack_any λst=>wpAny_pure ?_
  split
  ·rename_i c _ _ _ _ _;cases (c==Value.type "enumerate")
   ·wp_walk using wpAny_loadPart' hl,wpAny_pyIter_list hL
    exact⟨_,rfl,h⟩
   ·wp_walk using wpAny_loadPart' hl,wpAny_pyIter_list hL
    exact⟨_,rfl,h⟩
  ·wp_walk using wpAny_loadPart' hl,wpAny_pyIter_list hL
   exact⟨_,rfl,h⟩
section
variable {prog:Program} {w:World} {A:Around} {E:Value->Shared->Prop} {s:Shared}
theorem call_startL {l:Addr}{items:Array Value}{k:Int}{u:Tok}{Q:Value->Shared->Prop}(hL:s.heap.IsList l items)(hk:0<=k)(hk2:k<1000)
 (h:∀h',IsEnum h' (s.heap.objs.size+ 1) s.heap.objs.size k .none->h'.IsListIter s.heap.objs.size l 0->(∀b o,s.heap.get? b=some o->h'.get? b=some o)->Q (.ref (s.heap.objs.size+ 1)) { s with heap:=h' }):
 wpAny (model prog w) A (call (.type "enumerate") [.ref l] [("start",.int k u)]) Q E s:=by
 obtain⟨⟨c0,dct,dt,sl⟩,hl,hc0,n,hd⟩:=hL;replace hc0:c0=.type "list":=hc0;replace hd:dt=.seq items n:=hd;subst hc0 hd;have ft:=F.called_enumerate;obtain⟨c,tl,hmro⟩:=ft.mro;have hmade:=ft.made;have hsub:=ft.sub;have hct:=ct_kw (.ref l) (.int k u);have hcn:=cn_kw (.ref l) (.int k u);refine wpAny_call (codeAny_of_tree ?_);show wpAny _ _ (callAny (.type "enumerate") _) _ _ _;refine wpAny_pure ⟨Code.quiet_builtin _ (by decide +kernel),codeAny_builtin F.entry_type_call ?_⟩;rw[Around.under_plain (weight_type_call_type "enumerate" [.ref l] [("start",.int k u)]) (units_type_call_type "enumerate" [.ref l] [("start",.int k u)])];have h1:=ft.notType;have h2:=ft.canCreate
 repeat (any_goals (first|assumption|wp_step))
 refine codeAny_mono (codeAny_call_builtin ft.plain F.entry_enumerate_new (wpAny_of_eq hcn (new_startL l items n dct sl k u hk hk2 prog w A.in1 (wants (λobj s₁=>s₁.TypeIs obj "enumerate"/\Q obj s₁) E) s ⟨hl,?_⟩))) λr s₁ hr=>?_
 ·have hz:(s.heap.push { cls:=.type "list_iterator",data:=.fields #[.ref l,.int 0 0] }).objs.size=s.heap.objs.size+ 1:=Heap.size_push ..;show _/\_;rw[hz]
  have he:IsEnum ((s.heap.push { cls:=.type "list_iterator",data:=.fields #[.ref l,.int 0 0] }).push { cls:=.type "enumerate",data:=.fields #[.none,.bool false,.ref s.heap.objs.size,rawInt k,.none,.none] }) (s.heap.objs.size+ 1) s.heap.objs.size k .none:=by
   have q:=Heap.get?_push_size (s.heap.push { cls:=.type "list_iterator",data:=.fields #[.ref l,.int 0 0] }) (o:={ cls:=.type "enumerate",data:=.fields #[.none,.bool false,.ref s.heap.objs.size,rawInt k,.none,.none] }) rfl;rw[hz]at q;exact q
  exact⟨⟨_,he,rfl⟩,h _ he ⟨_,Heap.get?_push_of_some _ (Heap.get?_push_size _ rfl),rfl,rfl⟩ λb o y=>Heap.get?_push_of_some _ (Heap.get?_push_of_some _ y)⟩
 cases r with
 |error e=>exact hr
 |ok fl=>
  cases fl with
  |ret obj=>
   obtain⟨hT,hq⟩:=hr;have hli:=ft.init.lookup;have hbi:=ft.init.bind obj;have hok:=ok_kw obj (.ref l) (.int k u);have hsi:(λ(_:Around) (R:Result->Shared->Prop) (s:Shared)=>s.TypeIs obj "enumerate"/\R (.ok (.ret .none)) s) A.in1 (wants (λr s₂=>r=.none/\Q obj s₂) E) s₁:=⟨hT,rfl,hq⟩;have gi:=init_kw (T:="enumerate") (self:=obj) (a:=.ref l) (kw:=[("start",.int k u)]) ft.init.lookup ft.made (by decide)
   repeat (any_goals (first|assumption|wp_step))
   refine codeAny_mono (codeAny_call_builtin ft.init.plain F.entry_object_init (ft.init.check _ _ _ _ _ _ _ _ hT hok (gi prog w A.in1 _ s₁ hsi))) λr₂ s₂ hr₂=>?_
   cases r₂ with
   |error e=>exact hr₂
   |ok fl₂=>
    cases fl₂ with
    |ret r=>
     obtain⟨rfl,hq⟩:=hr₂
     repeat (any_goals (first|assumption|wp_step))
    |_=>exact hr₂.elim
  |_=>exact hr.elim
end
end En
def Itels (K:PySem.W.Frag)(a:Addr)(n:Int):It:=
 ⟨λi H=>∃xs x,SqL K H a xs/\xs[i]?=some x,λi H x H'=>∃p v,H p=none/\(∀ys,SqL K H a ys->ys[i]?=some v)/\x=.ref p/\H'=upd H p (.tup [.int (n+ (i:Int)),v]),λi H=>∃xs,SqL K H a xs/\xs.length=i⟩
theorem turn_enumLS {P:Program}{w:World}{K:PySem.W.Frag}{elts:List Expr}{x1:Nat}{tp:Pos}(e it a:Addr)(n:Int)(hei:e≠it):
 Turn P w K (.Tuple elts x1 tp) (Itels K a n) [e,it] e (λi h=>(∃old,IsEnum h e it (n+ (i:Int)) old)/\h.IsListIter it a i) where
 mem:=by simp
 obj:=λi h st b hb=>by
  obtain⟨⟨old,he⟩,o,ho,hc,hd⟩:=st;rcases List.mem_cons.mp hb with rfl|hb
  ·exact⟨_,he,λv z=>by cases z⟩
  ·rw[List.mem_singleton.mp hb];exact⟨o,ho,λv z=>by rw[hd]at z;cases z⟩
 keep:=λi h h' st k=>by
  obtain⟨⟨old,he⟩,hl⟩:=st;exact⟨⟨old,k e (by simp) _ he⟩,hl.at λo e=>k it (by simp) o e⟩
 item:=by
  intro X hP hw hK hc i pins s σ H E I hf st hg;subst hP hw hK;obtain⟨⟨old,he⟩,hst⟩:=st;obtain⟨xs,x,hq,hx⟩:=hg;obtain⟨its,rv,p,hz⟩:=I.list hq;obtain⟨u,hu,ru⟩:=rv.get hx;have hit:=p.isList;obtain⟨o1,ho1,hc1,hd1⟩:=id hit;obtain⟨o2,ho2,hc2,hd2⟩:=id hst;have hai:a≠it:=ne_cls ho1 ho2 (by rw[hc1,hc2];decide);have hea:e≠a:=ne_cls he ho1 (by rw[hc1];show Value.type "enumerate"≠Value.type "list";decide);have D:=Draws.list (prog:=X.prog) (w:=X.w) (A:=X.A.in1) (I.ok.hd hc) it a hai its.toArray;have hel:e<s.heap.objs.size:=Heap.lt_size he;have hil:i<its.length:=(List.getElem?_eq_some_iff.mp hu).1;refine En.next_pair D he ⟨hst,hit⟩ (by simpa using hil) hei (by simp[hei,hea]) λy h' tk hPx ho hs' hT hk=>?_
  have ey:u=y:=by
   have h2:its[i]?=some y:=by simpa using hPx
   exact Option.some.inj (hu.symm.trans h2)
  subst ey;refine⟨_,rfl,?_⟩;refine wpAny_letOwnedTupleGo_enum ho λh'' he' hs''=>?_
  have hT2:h''.get? s.heap.objs.size=some { cls:=.type "tuple",data:=.seq #[.int (n+ (i:Int)) tk,u] }:=(hs''.2 _ (Nat.ne_of_gt hel)).trans hT
  have hkk:∀b ob,b∉[e,it]->s.heap.get? b=some ob->h''.get? b=some ob:=λb ob hb q=>by
   have h1:b≠e:=λz=>hb (by simp[z])
   have h2:b≠it:=λz=>hb (by simp[z])
   exact(hs''.2 b h1).trans (hk b ob h1 h2 q)
  have hfr:=I.hok.fresh (Nat.le_refl s.heap.objs.size);refine⟨.ref s.heap.objs.size,_,I.turnLaid (fp:=[e,it]) (a:=s.heap.objs.size) (o:=.tup [.int (n+ (i:Int)),x]) (h':=h'') (t':=tk+ 1) hkk hf (Nat.le_refl _) ?_,rfl,⟨_,x,hfr,λys hy=>by rw[I.list_inj hy hq];exact hx,rfl,rfl⟩,⟨⟨u,?_⟩,?_⟩,λb hb=>?_⟩
  ·exact⟨by show 2<=sizeLine;decide,[.int (n+ (i:Int)) tk,u],.cons ⟨_,rfl⟩ (.cons ru .nil),_,hT2,rfl,_,rfl⟩
  ·rw[show n+ ((i+ 1:Nat):Int)=n+ (i:Int)+ 1 by omega];exact he'
  ·exact(D.frame _ _ _ hs' λb hb o q=>(hs''.2 b (by
    rcases List.mem_cons.mp hb with z|hb
    ·rw[z];exact Ne.symm hei
    ·rw[List.mem_singleton.mp hb];exact Ne.symm hea)).trans q).1
  ·rw[upd_ne]
   ·exact(hf b hb).1
   ·intro z;subst z;rcases List.mem_cons.mp hb with z|hb
    ·exact absurd hel (by rw[←z];exact Nat.lt_irrefl _)
    ·exact absurd (Heap.lt_size ho2) (by rw[←List.mem_singleton.mp hb];exact Nat.lt_irrefl _)
 done:=by
  intro X hP hw hK hc i pins s σ H E I hf st hg;subst hP hw hK;obtain⟨⟨old,he⟩,hst⟩:=st;obtain⟨xs,hq,hx⟩:=hg;obtain⟨its,rv,p,hz⟩:=I.list hq;have hit:=p.isList;obtain⟨o1,ho1,hc1,hd1⟩:=id hit;obtain⟨o2,ho2,hc2,hd2⟩:=id hst;have hai:a≠it:=ne_cls ho1 ho2 (by rw[hc1,hc2];decide);have D:=Draws.list (prog:=X.prog) (w:=X.w) (A:=X.A.in1) (I.ok.hd hc) it a hai its.toArray;have hsz:its.toArray.size=i:=by rw[List.size_toArray,←rv.length];exact hx
  refine wpAny_pyNext_enum_endD D he (by rw[hsz];exact⟨hst,hit⟩) λh' eb=>⟨rfl,I.turnedL (fp:=[e,it]) (t':=s.toks) (λb o hb q=>eb b o (λz=>hb (by simp[z])) q) hf⟩
 self:=λA i s Q E st h=>by
  obtain⟨⟨old,he⟩,_⟩:=st;have hT:s.TypeIs (.ref e) "enumerate":=⟨_,he,rfl⟩;refine wpAny_pyIter_slot hT F.slot_enumerate_iter (wpAny_call_entry F.slot_enumerate_iter hT F.entry_enumerate_iter ?_ (F.args_enumerate_iter_1 _));show wpAny _ _ (ret (.ref e)) _ _ s;exact wpAny_pure ⟨_,rfl,"enumerate",_,hT,F.slot_enumerate_next.lookup,h⟩
section
variable {X:Cx}
end
theorem for_enumLS {K:PySem.W.Frag}{a:Addr}{xs:List V}{n:Int}{g:TG}{tb:TS}{D:Ends}{σ:St}{H:Hp}(Pv:Nat->St->Hp->Prop)(h0:Pv 0 σ H)(hl:∀i σ H,i<=xs.length->Pv i σ H->SqL K H a xs)
 (hs:∀i v σ H p,xs[i]?=some v->H p=none->Pv i σ H->g (.ref p) σ (upd H p (.tup [.int (n+ (i:Int)),v])) λ σ2 H2=>tb { D with nx:=Pv (i+ 1),ct:=Pv (i+ 1),bk:=D.nx } σ2 H2) (hd:∀ σ H,Pv xs.length σ H->D.nx σ H):
 ∃W:Nat->Nat->St->Hp->Prop,(∃m,W 0 m σ H)/\∀i m σ H,W i m σ H->
  ((Itels K a n).stop i H/\D.nx σ H)\/((Itels K a n).go i H/\∃N:St->Hp->Prop,(∀ σ' H',N σ' H'->∃m',m'<m/\W (i+ 1) m' σ' H')/\∀x H',(Itels K a n).yld i H x H'->g x σ H' λ σ2 H2=>tb { D with nx:=N,ct:=N,bk:=D.nx } σ2 H2):=by
 refine⟨λi m σ H=>m=xs.length - i/\i<=xs.length/\Pv i σ H,⟨xs.length,by simp,Nat.zero_le _,h0⟩,?_⟩;rintro i m σ H ⟨rfl,hi,p⟩;have q:=hl i σ H hi p;by_cases hlt:i<xs.length
 ·refine .inr ⟨⟨xs,_,q,List.getElem?_eq_getElem hlt⟩,Pv (i+ 1),λ σ' H' p'=>⟨xs.length - (i+ 1),by omega,rfl,hlt,p'⟩,λx H' y=>?_⟩;obtain⟨r,v,hr,hv,rfl,rfl⟩:=y;exact hs i v σ H r (hv xs q) hr p
 ·have e:i=xs.length:=by omega
  subst e;exact .inl ⟨⟨xs,q,rfl⟩,hd σ H p⟩
end L2
namespace L2
open PySem PySem.Spec PyProof.Rows
section
variable {X:Cx}
end
section
variable {X:Cx} {tg:Expr}
end
section
variable {X:Cx} {pins:List (Addr×Obj)} {σ:St} {H:Hp} {s:Shared} {A:Around}
theorem all_true (n:Nat)(f:Nat->Bool)(h:∀j,f j=true):(List.range n).all f=true:=List.all_eq_true.mpr λj _=>h j
end
section
variable {X:Cx}
end
end L2
namespace L2
open PySem PySem.Spec PyProof.Rows
def RawD (h:Heap)(d:Addr)(es:Array DictEntry)(ep:Nat):Prop:=∃o,h.get? d=some o/\o.ExactDict/\o.data=.dict es ep
namespace Dk
section
variable {prog:Program} {w:World} {A:Around} {E:Value->Shared->Prop} {s:Shared} {d:Addr} {es:Array DictEntry} {ep:Nat}
theorem typ (hm:RawD s.heap d es ep):s.TypeIs (.ref d) "dict":=let ⟨o,ho,hc,_⟩:=hm;⟨o,ho,hc.1⟩
theorem iter {Q:Value->Shared->Prop}(hd:(d==sysModules)=false)(hm:RawD s.heap d es ep)
 (hQ:Q (.ref s.heap.objs.size) { s with heap:=s.heap.push { cls:=.type "dict_keyiterator",data:=.fields #[.ref d,.int 0 0,.int es.size 0,.int ep 0] } }):wpAny (model prog w) A (pyIter (.ref d)) Q E s:=by
 have hT:=typ hm;obtain⟨o,ho,hc,hdat⟩:=hm;refine wpAny_pyIter_slot hT F.slot_dict_iter (wpAny_call_entry F.slot_dict_iter hT F.entry_dict_iter ?_ (F.args_dict_iter_1 _));unfold Builtin.«dict.__iter__»;refine wpAny_bind ?_;unfold Builtin.Dict.dictSlotNone;refine wpAny_bind (wpAny_notOrdered_dict hT ?_);show wpAny _ _ (pure (Value.ref d)) _ _ s;refine wpAny_pure ?_;show wpAny _ _ (Builtin.Dict.showsAll d >>=_) _ _ s;unfold Builtin.Dict.showsAll;rw[if_neg (by rw[hd];exact Bool.false_ne_true)];refine wpAny_bind (wpAny_pure (wpAny_bind (wpAny_dictEntries ho hdat (wpAny_bind (wpAny_dictEpoch ho hdat ?_)))));exact wpAny_bind (wpAny_newObj_type (wpAny_pure ⟨_,rfl,"dict_keyiterator",_,⟨_,Heap.get?_push_size _ rfl,rfl⟩,F.slot_dict_keyiterator_next.lookup,by simpa [rawInt] using hQ⟩))
theorem item {it:Addr}{i:Nat}{en:DictEntry}{Q:Option Value->Shared->Prop}(hit:s.heap.IsKeyIter it d i es.size ep)(hm:RawD s.heap d es ep)(hx:es[i]?=some en)
 (hQ:∀g1,g1.IsKeyIter it d (i+ 1) es.size ep->Heap.SameBut it s.heap g1->Q (some en.key) { s with heap:=g1 }):wpAny (model prog w) A (pyNext (.ref it)) Q E s:=by
 obtain⟨o,ho,hc,hd⟩:=id hit;obtain⟨od,hod,hcd,hdd⟩:=id hm;unfold pyNext;refine wpAny_bind (wpAny_attempt (wpAny_callSpecial?_slot (name:=Str.ofString "__next__") hit.typeIs F.slot_dict_keyiterator_next (wpAny_call_entry F.slot_dict_keyiterator_next hit.typeIs F.entry_dict_keyiterator_next ?_ (F.args_dict_keyiterator_next_1 _))));refine wpAny_bind (wpAny_pure (wpAny_bind (wpAny_bind ?_)))
 first|refine wpAny_bind (wpAny_typeNameOfWhole_keyiter hit.typeIs (wpAny_pure ?_))|refine wpAny_bind (wpAny_typeNameOf_keyiter hit.typeIs (wpAny_pure ?_))
 refine wpAny_bind (wpAny_fieldsOf ho hd ?_);have own:Builtin.Dict_items.ownsTuple "dict_keyiterator"=false:=by decide
 simp only[own,Bool.false_eq_true,if_false];show wpAny _ _ (if (Value.ref d==Value.none)=true then _ else _) _ _ s;rw[if_neg (show ¬((Value.ref d==Value.none)=true) from Bool.false_ne_true)];refine wpAny_bind (wpAny_pure (wpAny_bind (wpAny_dictEntries hod hdd ?_)));rw[if_neg (by simp)];refine wpAny_bind (wpAny_pure (wpAny_bind (wpAny_dictEpoch hod hdd ?_)));rw[if_neg (by simp)];refine wpAny_pure ?_;simp only[show ¬((i:Int)<0) from by omega,if_false,Int.toNat_natCast,hx];refine wpAny_bind ?_
 first|refine wpAny_bind (wpAny_typeNameOfWhole_keyiter hit.typeIs (wpAny_pure ?_))|refine wpAny_bind (wpAny_typeNameOf_keyiter hit.typeIs (wpAny_pure ?_))
 refine wpAny_bind (wpAny_isOneOf_keyiter hit.typeIs ?_);show wpAny _ _ (setField (.ref it) 1 (rawInt ((i:Int)+ 1)) >>=_) _ _ s;refine wpAny_bind (wpAny_setField ho hd (by simp) ?_)
 have j1:(s.heap.update it (Obj.mapFields (·.setIfInBounds 1 (rawInt ((i:Int)+ 1))))).IsKeyIter it d (i+ 1) es.size ep:=
  ⟨_,Heap.get?_update_self _ ho (Obj.isFreed_of_fields (Obj.data_mapFields hd _)),(Obj.cls_mapFields ..).trans hc,by rw[Obj.data_mapFields hd];simp[rawInt]⟩
 refine wpAny_bind (wpAny_holding ?_);refine wpAny_bind (wpAny_isOneOf_keyiter (s:={ s with heap:=s.heap.update it (Obj.mapFields (·.setIfInBounds 1 (rawInt ((i:Int)+ 1)))) }) j1.typeIs ?_);show wpAny _ _ (pure en.key) _ _ _;exact wpAny_pure (wpAny_pure ⟨_,rfl,wpAny_pure (hQ _ j1 (Heap.SameBut.update ..))⟩)
theorem fin {it:Addr}{i:Nat}{Q:Option Value->Shared->Prop}(hh:A.handled=none)(hit:s.heap.IsKeyIter it d i es.size ep)(hm:RawD s.heap d es ep)(hx:es[i]?=none)
 (hQ:∀g1,Heap.ExtBut it s.heap g1->Q none { s with heap:=g1 }):wpAny (model prog w) A (pyNext (.ref it)) Q E s:=by
 obtain⟨o,ho,hc,hd⟩:=id hit;obtain⟨od,hod,hcd,hdd⟩:=id hm;unfold pyNext;refine wpAny_bind (wpAny_attempt (wpAny_callSpecial?_slot (name:=Str.ofString "__next__") hit.typeIs F.slot_dict_keyiterator_next (wpAny_call_entry F.slot_dict_keyiterator_next hit.typeIs F.entry_dict_keyiterator_next ?_ (F.args_dict_keyiterator_next_1 _))));refine wpAny_bind (wpAny_pure (wpAny_bind (wpAny_bind ?_)))
 first|refine wpAny_bind (wpAny_typeNameOfWhole_keyiter hit.typeIs (wpAny_pure ?_))|refine wpAny_bind (wpAny_typeNameOf_keyiter hit.typeIs (wpAny_pure ?_))
 refine wpAny_bind (wpAny_fieldsOf ho hd ?_);have own:Builtin.Dict_items.ownsTuple "dict_keyiterator"=false:=by decide
 simp only[own,Bool.false_eq_true,if_false];show wpAny _ _ (if (Value.ref d==Value.none)=true then _ else _) _ _ s;rw[if_neg (show ¬((Value.ref d==Value.none)=true) from Bool.false_ne_true)];refine wpAny_bind (wpAny_pure (wpAny_bind (wpAny_dictEntries hod hdd ?_)));rw[if_neg (by simp)];refine wpAny_bind (wpAny_pure (wpAny_bind (wpAny_dictEpoch hod hdd ?_)));rw[if_neg (by simp)];refine wpAny_pure ?_;simp only[show ¬((i:Int)<0) from by omega,if_false,Int.toNat_natCast,hx];refine wpAny_bind ?_
 first|refine wpAny_bind (wpAny_typeNameOfWhole_keyiter hit.typeIs (wpAny_pure ?_))|refine wpAny_bind (wpAny_typeNameOf_keyiter hit.typeIs (wpAny_pure ?_))
 show wpAny _ _ (setField (.ref it) 0 .none >>=_) _ _ s;refine wpAny_bind (wpAny_setField ho hd (by simp) ?_);show wpAny _ _ (newExc (.type "StopIteration") [] >>=_) _ _ _;refine wpAny_bind ?_;simp only[newExc,newTuple];refine wpAny_bind (wpAny_newObj_type ?_ (by size_fits));refine wpAny_bind (m:=firstArgMember _ _) (wpAny_of_eq (a:=Value.none) (by first|rfl|(simp only[firstArgMember];rfl)) ?_);refine wpAny_newObj_type ?_ (by size_fits);simp only[raiseNew];refine wpAny_bind (wpAny_handled ?_);rw[show A.in1.handled=none from hh];refine wpAny_bind (wpAny_pure (wpAny_throw ?_));refine wpAny_bind (wpAny_isInstance (T:="StopIteration") (b:=true) ⟨_,Heap.get?_push_size _ rfl,rfl⟩ isSubtype_stop ?_);exact wpAny_pure (hQ _ (((Heap.SameBut.update ..).extBut.push _).push _))
theorem RawD.at {h h':Heap}(x:RawD h d es ep)(e:∀o,h.get? d=some o->h'.get? d=some o):RawD h' d es ep:=let ⟨o,ho,r⟩:=x;⟨o,e _ ho,r⟩
theorem walks (hh:A.handled=none)(I:Addr)(hne:d≠I):Walks prog w A I [I,d] [I] es.size (λi v=>∃en,es[i]?=some en/\v=en.key) (λi h=>h.IsKeyIter I d i es.size ep/\RawD h d es ep) where
 sub:=λb hb=>by simp at hb;simp[hb]
 frame:=λ_ _ _ st hk=>⟨st.1.at λo e=>hk I (by simp) o e,RawD.at st.2 λo e=>hk d (by simp) o e⟩
 item:=λi s Q E hi st hQ=>by
  refine item (en:=es[i]) st.1 st.2 (by simp[hi]) λg1 j1 b1=>?_
  exact hQ _ g1 s.toks ⟨_,by simp[hi],rfl⟩ ⟨j1,RawD.at st.2 λo e=>b1.extBut _ _ hne e⟩ λb o hb e=>b1.extBut b o (λh=>hb (by simp[h])) e
 done:=λs Q E st hQ=>fin hh st.1 st.2 (by simp) λg1 b1=>hQ g1 s.toks λb o hb e=>b1 b o (λh=>hb (by simp[h])) e
 self:=λ_ _ _ _ st hQ=>wpAny_pyIter_keyiter st.1 hQ
theorem hint {Q:Bool->Shared->Prop}(hm:RawD s.heap d es ep)(h:Q false s):wpAny (model prog w) A (Builtin.List.listLengthHint (.ref d)) Q E s:=by
 unfold Builtin.List.listLengthHint;refine wpAny_bind (wpAny_specialOf (typ hm) F.slot_dict_len.lookup ?_);generalize hid:("dict.__len__":String)=id0
 wp_delta
 rw[show splitId id0=some ("dict","__len__") from by subst hid;decide +kernel];subst hid;refine wpAny_bind (wpAny_isInstance (T:="dict") (b:=true) (typ hm) (by rw[isSubtype_type];kernel_rfl) ?_);refine wpAny_ite_split (λhab=>absurd hab (by decide)) (λ_=>?_);refine wpAny_ite_split (λ_=>?_) (λhab=>absurd (by decide +kernel) hab);exact wpAny_bind (wpAny_typeOf (T:="dict") (typ hm) (wpAny_pure h))
theorem extend {R:Result->Shared->Prop}(hh:A.handled=none)(hd:(d==sysModules)=false)(hm:RawD s.heap d es ep)(hlen:es.size<=sizeLine)(S:Addr)(res:Value)(c₀:Nat)(hS:s.heap.get? S=some { cls:=.type "list",data:=.seq #[] c₀ })
 (hR:∀g1 tk acc' c',(∀b o,b≠S->s.heap.get? b=some o->g1.get? b=some o)->g1.get? S=some { cls:=.type "list",dict:=none,data:=.seq acc' c',slots:=#[] }->
  ItemsOf (λi v=>∃en,es[i]?=some en/\v=en.key) acc' es.size->R (.ok (.ret res)) { s with heap:=g1,toks:=tk }):
 wpAny (model prog w) A.in1 (Builtin.List.listExtendWith (.ref S) (.ref d) res)
  (λfin s'=>match fin with|.done f=>R (.ok f) s'|.again c'=>c'.quiet=true/\codeAny (model prog w) A c' R s') (λe s'=>R (.error e) s') s:=by
 have hSd:S≠d:=λe=>by
  obtain⟨o,ho,hc,hdat⟩:=hm;rw[←e,hS]at ho;rw[←Option.some.inj ho]at hdat;cases hdat
 have hdl:d<s.heap.objs.size:=by obtain⟨o,ho,_⟩:=hm;exact Heap.lt_size ho
 have hSI:S≠s.heap.objs.size:=Nat.ne_of_lt (Heap.lt_size hS);have hdI:d≠s.heap.objs.size:=Nat.ne_of_lt hdl;unfold Builtin.List.listExtendWith;refine wpAny_bind (wpAny_typeOf (T:="dict") (typ hm) ?_);have h1:Builtin.List.listSameRef (.ref S) (.ref d)=false:=by simp[Builtin.List.listSameRef,hSd]
 have h2:(Value.type "dict"==Value.type "list")=false:=by decide
 have h3:(Value.type "dict"==Value.type "tuple")=false:=by decide
 simp only[h1,h2,h3,Bool.or_false,Bool.false_eq_true,if_false];refine wpAny_bind (iter hd hm ?_);have hm1:RawD (s.heap.push { cls:=.type "dict_keyiterator",data:=.fields #[.ref d,.int 0 0,.int es.size 0,.int ep 0] }) d es ep:=RawD.at hm λo e=>Heap.get?_push_of_some _ e
 refine wpAny_bind (wpAny_holding (hint (s:={ s with heap:=s.heap.push { cls:=.type "dict_keyiterator",data:=.fields #[.ref d,.int 0 0,.int es.size 0,.int ep 0] } }) hm1 ?_));have hS1:=Heap.get?_push_of_some { cls:=.type "dict_keyiterator",data:=.fields #[.ref d,.int 0 0,.int es.size 0,.int ep 0] } hS;have hI1:(s.heap.push { cls:=.type "dict_keyiterator",data:=.fields #[.ref d,.int 0 0,.int es.size 0,.int ep 0] }).IsKeyIter s.heap.objs.size d 0 es.size ep:=⟨_,Heap.get?_push_size _ rfl,rfl,rfl⟩;have kp:∀b o,s.heap.get? b=some o->(s.heap.push { cls:=.type "dict_keyiterator",data:=.fields #[.ref d,.int 0 0,.int es.size 0,.int ep 0] }).get? b=some o:=λb o e=>Heap.get?_push_of_some _ e
 generalize s.heap.push { cls:=.type "dict_keyiterator",data:=.fields #[.ref d,.int 0 0,.int es.size 0,.int ep 0] }=h1' at hS1 hI1 kp hm1 ⊢;refine wpAny_ite_split (λ_=>?_) (λhab=>absurd (by decide +kernel) hab);refine wpAny_bind (wpAny_rule ?_);refine wpAny_bind ?_;show wpAny _ _ (updateSeq S (·.push .none) >>=λ_=>updateSeq S (·.pop)) _ _ _;refine wpAny_bind (wpAny_updateSeq hS1 rfl ?_);have hS2:=Heap.get?_update_self (Obj.mapSeq (·.push Value.none)) hS1 rfl;refine wpAny_updateSeq (hz:=by seq_fits) hS2 rfl ?_;have hS3:=Heap.get?_update_self (Obj.mapSeq (·.pop)) hS2 rfl;have oth:∀b o,b≠S->h1'.get? b=some o->((h1'.update S (Obj.mapSeq (·.push Value.none))).update S (Obj.mapSeq (·.pop))).get? b=some o:=λb o hb e=>(Heap.get?_update_other _ _ (Ne.symm hb)).trans ((Heap.get?_update_other _ _ (Ne.symm hb)).trans e)
 have W:=(walks (prog:=prog) (w:=w) (A:=A.in1) (d:=d) (es:=es) (ep:=ep) hh s.heap.objs.size hdI).toS
 have hSf:S∉[s.heap.objs.size,d]:=λhmem=>by
  rcases List.mem_cons.mp hmem with e|hmem
  ·exact hSI e
  ·exact hSd (List.mem_singleton.mp hmem)
 refine wpAny_pure ⟨plainId_quiet F.plain_extend_loop _,?_⟩;refine codeAny_extend_loopS W hlen S hSf res es.size 0 _ #[] _ rfl (Nat.zero_le _) ⟨hI1.at λo e=>oth _ o (Ne.symm hSI) e,RawD.at hm1 λo e=>oth _ o (Ne.symm hSd) e⟩ hS3 (ItemsOf.nil _) λs' acc' c' hmv hS' hacc=>?_
 rw[Moved.eq_with hmv];refine hR s'.heap s'.toks acc' c' (λb o hb e=>hmv.heap b o (λhmem=>?_) (oth b o hb (kp b o e))) hS' hacc;rcases List.mem_cons.mp hmem with e'|hmem
 ·exact hb e'
 ·exact absurd (Heap.lt_size e) (by rw[List.mem_singleton.mp hmem];exact Nat.lt_irrefl _)
theorem init {R:Result->Shared->Prop}(hh:A.handled=none)(hd:(d==sysModules)=false)(hm:RawD s.heap d es ep)(hlen:es.size<=sizeLine)(S:Addr)(hS:s.heap.get? S=some { cls:=.type "list",data:=.seq #[] })
 (hR:∀g1 tk acc' c',(∀b o,b≠S->s.heap.get? b=some o->g1.get? b=some o)->g1.get? S=some { cls:=.type "list",dict:=none,data:=.seq acc' c',slots:=#[] }->
  ItemsOf (λi v=>∃en,es[i]?=some en/\v=en.key) acc' es.size->R (.ok (.ret .none)) { s with heap:=g1,toks:=tk }):
 wpAny (model prog w) A.in1 (Builtin.«list.__init__» ⟨[.ref S,.ref d],[]⟩)
  (λfin s'=>match fin with|.done f=>R (.ok f) s'|.again c'=>c'.quiet=true/\codeAny (model prog w) A c' R s') (λe s'=>R (.error e) s') s:=by
 have hSd:d≠S:=λe=>by
  obtain⟨o,ho,hc,hdat⟩:=hm;rw[e,hS]at ho;rw[←Option.some.inj ho]at hdat;cases hdat
 show wpAny _ _ (do let old ←Builtin.List.listItems (.ref S);Builtin.List.listUpdate (.ref S) (λ_=>#[]);letGo old.toList.reverse;Builtin.List.listExtendWith (.ref S) (.ref d) .none) _ _ s;refine wpAny_bind ?_;unfold Builtin.List.listItems;refine wpAny_bind (wpAny_seqItems hS rfl (wpAny_pure ?_));show wpAny _ _ (updateSeq S (λ_=>#[]) >>=λ_=>letGo (#[]:Array Value).toList.reverse >>=λ_=>Builtin.List.listExtendWith (.ref S) (.ref d) .none) _ _ s;refine wpAny_bind (wpAny_updateSeq hS rfl ?_);have hS2:=Heap.get?_update_self (Obj.mapSeq (λ_=>(#[]:Array Value))) hS rfl;have oth:∀b o,b≠S->s.heap.get? b=some o->(s.heap.update S (Obj.mapSeq (λ_=>(#[]:Array Value)))).get? b=some o:=λb o hb e=>(Heap.get?_update_other _ _ (Ne.symm hb)).trans e
 refine wpAny_bind (wpAny_letGo ?_);refine extend (s:={ s with heap:=s.heap.update S (Obj.mapSeq (λ_=>(#[]:Array Value))) }) hh hd (RawD.at hm λo e=>oth _ o hSd e) hlen S .none _ hS2 λg1 tk acc' c' hk hS' hacc=>?_
 exact hR g1 tk acc' c' (λb o hb e=>hk b o hb (oth b o hb e)) hS' hacc
theorem call_list {Q:Value->Shared->Prop}(hh:A.handled=none)(hd:(d==sysModules)=false)(hm:RawD s.heap d es ep)(hlen:es.size<=sizeLine)
 (hQ:∀g1 tk acc' c',(∀b o,s.heap.get? b=some o->g1.get? b=some o)->g1.get? s.heap.objs.size=some { cls:=.type "list",dict:=none,data:=.seq acc' c',slots:=#[] }->ItemsOf (λi v=>∃en,es[i]?=some en/\v=en.key) acc' es.size->Q (.ref s.heap.objs.size) { s with heap:=g1,toks:=tk }):
 wpAny (model prog w) A (call (.type "list") [.ref d]) Q E s:=by
 refine callType_codes (Q₁:=λobj s₁=>obj=.ref s.heap.objs.size/\s₁={ s with heap:=s.heap.push { cls:=.type "list",data:=.seq #[] } }) F.called_list (F.typeCall_list_1 _) F.entry_list_init (code_list_new _ ⟨rfl,rfl⟩) λobj s₁ h₁=>?_
 obtain⟨rfl,rfl⟩:=h₁;have hS:(s.heap.push { cls:=.type "list",data:=.seq #[] }).get? s.heap.objs.size=some { cls:=.type "list",data:=.seq #[] }:=Heap.get?_push_size _ rfl;refine⟨⟨_,hS,rfl⟩,F.args_list_init_2 _ _,init (A:=A.in1) (s:={ s with heap:=s.heap.push { cls:=.type "list",data:=.seq #[] } }) hh hd (RawD.at hm λo e=>Heap.get?_push_of_some _ e) hlen _ hS λg1 tk acc' c' hk hS' hacc=>?_⟩;exact⟨rfl,hQ g1 tk acc' c' (λb o e=>hk b o (Nat.ne_of_lt (Heap.lt_size e)) (Heap.get?_push_of_some _ e)) hS' hacc⟩
end
end Dk
section
variable {X:Cx}
end
end L2
namespace L2
open PySem PySem.Spec PyProof.Rows
open Sem (wp)
open AutoSeq1 (wpAny_loadPart')
section
variable {prog:Program} {w:World} {A:Around} {E:Value->Shared->Prop} {s:Shared}
end
section
variable {X:Cx} {a b:Expr} {ta:TA} {p p2 pos pos2:Pos}
end
section
variable {X:Cx}
end
end L2
namespace L2
open PySem PySem.Spec PyProof.Rows
structure MDef (K:PySem.W.Frag) (C:Addr) (x q:Str) (st:Stmt) (ps:List Str) (f:Addr) (fd:FuncData):Prop where
 F:Fun K x q st f fd
 m:Meth K C x f
 b:Binds K fd ps []
section
variable {X:Cx}
end
section
variable {X:Cx} {o e:Expr} {es:List Expr} {to:TE} {t:TA} {name:Str} {apos cpos:Pos} {T id:String} {r:V->List V->Hp->VK->Prop}
end
end L2
namespace L2
open PySem PySem.Spec PyProof.Rows
section
variable {prog:Program} {w:World} {A:Around} {E:Value->Shared->Prop}
end
section
variable {X:Cx}
end
end L2
namespace L2
open PySem PySem.Spec PyProof.Rows
open PySem.W (KasT kas_rev kas_asc kas_desc kas_tail3 kas_descPart kas_count kas_place kas_bin kas_sort kas_ask kas_ask_eq kas_runs kas_st kas_range kas_item kas_item_eq)
namespace Srt
def Gd {α:Type}(P:Nat->Nat->Prop)(f:Nat->Nat->Bool):KasT α->(α->Prop)->Prop
 |.ret a,Q=>Q a
 |.ask i j k,Q=>P i j/\Gd P f (k (f i j)) Q
theorem Gd.bind {α β:Type}{P:Nat->Nat->Prop}{f:Nat->Nat->Bool}{g:α->KasT β}{Q:β->Prop}:∀{t:KasT α},Gd P f t (λa=>Gd P f (g a) Q)->Gd P f (t.bind g) Q
 |.ret _,h=>h
 |.ask i j k,h=>⟨h.1,Gd.bind (t:=k (f i j)) h.2⟩
theorem Gd.wp {α:Type}{P:Nat->Nat->Prop}{f:Nat->Nat->Bool}{cmp:Nat->Nat->(Bool->Shared->Prop)->Shared->Prop}{s:Shared}(hc:∀i j C,P i j->C (f i j) s->cmp i j C s){Q:α->Prop}{G:α->Shared->Prop}(hQ:∀a,Q a->G a s):∀{t:KasT α},Gd P f t Q->t.kasWp cmp G s
 |.ret _,h=>hQ _ h
 |.ask i j k,h=>hc i j _ h.1 (Gd.wp hc hQ (t:=k (f i j)) h.2)
section
variable {n:Nat} {key:Nat->Int}
structure Pr (n:Nat) (p:Array Nat):Prop where
 sz:p.size=n
 lt:∀i,i<n->p.getD i 0<n
 inj:∀i j,i<n->j<n->p.getD i 0=p.getD j 0->i=j
def Up (key:Nat->Int)(p:Array Nat)(m:Nat):Prop:=∀i j,i<j->j<m->key (p.getD i 0)<key (p.getD j 0)
def Dn (key:Nat->Int)(p:Array Nat)(m:Nat):Prop:=∀i j,i<j->j<m->key (p.getD j 0)<key (p.getD i 0)
def Ok (n:Nat)(key:Nat->Int)(i j:Nat):Prop:=i<n/\j<n/\key i≠key j
def Inj (n:Nat)(key:Nat->Int):Prop:=∀i j,i<n->j<n->key i=key j->i=j
abbrev ask (key:Nat->Int) (i j:Nat):Bool:=decide (key i<key j)
theorem Pr.ok {p:Array Nat}(h:Pr n p)(hk:Inj n key){i j:Nat}(hi:i<n)(hj:j<n)(hij:i≠j):Ok n key (p.getD i 0) (p.getD j 0):=
 ⟨h.lt i hi,h.lt j hj,λe=>hij (h.inj i j hi hj (hk _ _ (h.lt i hi) (h.lt j hj) e))⟩
theorem Up.more {p:Array Nat}{m:Nat}(h:Up key p m)(hm:1<=m)(hl:key (p.getD (m - 1) 0)<key (p.getD m 0)):Up key p (m+ 1):=λi j hij hj=>by
 by_cases e:j=m
 ·subst e;by_cases e2:i=j - 1
  ·rw[e2];exact hl
  ·exact Int.lt_trans (h i (j - 1) (by omega) (by omega)) hl
 ·exact h i j hij (by omega)
theorem Dn.more {p:Array Nat}{m:Nat}(h:Dn key p m)(hm:1<=m)(hl:key (p.getD m 0)<key (p.getD (m - 1) 0)):Dn key p (m+ 1):=λi j hij hj=>by
 by_cases e:j=m
 ·subst e;by_cases e2:i=j - 1
  ·rw[e2];exact hl
  ·exact Int.lt_trans hl (h i (j - 1) (by omega) (by omega))
 ·exact h i j hij (by omega)
end
end Srt
end L2
namespace L2
open PySem PySem.Spec PyProof.Rows
open AutoSeq1 (wpAny_loadPart')
open PySem.W (KasT kas_sort kas_ask kas_ask_eq kas_runs kas_st kas_range kas_item kas_item_eq)
namespace Srt
section
variable {prog:Program} {w:World} {A:Around} {E:Value->Shared->Prop} {s:Shared}
end
end Srt
end L2
namespace L2
open PySem PySem.Spec PyProof.Rows
section
variable {X:Cx}
end
end L2
namespace L2
open PySem PySem.Spec PyProof.Rows
theorem miss_keys:typeLookup (.type "list") "keys"=pure none:=by rw[typeLookup_type,builtinLookup_eq_fast];kernel_rfl
theorem try_keys {prog:Program}{w:World}{A:Around}{E:Value->Shared->Prop}{s:Shared}{a:Addr}{xs:Array Value}{k:Nat}{Q:Option Value->Shared->Prop}
 (hx:s.heap.get? a=some { cls:=.type "list",data:=.seq xs k }) (hA:A.handled=none)
 (h:∀h' tk,(∀b o,s.heap.get? b=some o->h'.get? b=some o)->Q none { s with heap:=h',toks:=tk }):
 wpAny (model prog w) A (getAttr? (.ref a) "keys") Q E s:=by
 obtain⟨hp,g,d,tk,os⟩:=s;have hT:∀tk',(⟨hp,g,d,tk',os⟩:Shared).TypeIs (.ref a) "list":=λ_=>⟨_,hx,rfl⟩
 have f1:=sub_AttributeError;have f3:=F.slot_list_getattribute.lookup;have f4:=F.slot_list_getattribute.bind (.ref a);have f5:=am_list_getattr_none;unfold getAttr? getAttrBy? getAttrBy
 repeat (any_goals (first|assumption|exact hT _|((with_reducible show wpAny _ _ (call (Value.builtin "list.__getattribute__") _ _) _ _ _);refine call_meets F.slot_list_getattribute (hT _) am_entry_list_getattribute (F.args_list_getattribute_2 _ _) (meets_getattribute_miss_list a xs k #[] "keys" _ miss_keys (by decide +kernel) (by decide +kernel)) ⟨hx,hA,λh' tk' e hx'=>?_⟩)|wp_step))
 obtain⟨t',u',he⟩:=hx'.there;show wpAny _ _ (getattributeRaised _ _ _ _ _ _ _) _ _ _;unfold getattributeRaised
 repeat (any_goals (first|assumption|wp_step))
 exact h _ _ hx'.keeps
theorem entry_upd_loop:entryFor table "dict.update.loop"=some Builtin.«dict.update.loop»:=entryFor_of_fast (by kernel_rfl)
theorem plain_upd_loop:plainId "dict.update.loop"=true:=by decide +kernel
section
variable {prog:Program} {w:World} {K:Type} [DecidableEq K] {knd:KeyKind prog w K} {A:Around} {E:Value->Shared->Prop}
theorem loop_pairs {R:Result->Shared->Prop}{it l d:Addr}{its:List Value}{rs:List (K×Value)}(hh:A.in1.handled=none)(hne:l≠it)(ndi:d≠it)(ndl:d≠l)(hlen:its.length=rs.length)(hsz:rs.length<=sizeLine):
 ∀(k i:Nat) (s:Shared),its.length - i=k->i<=its.length->s.heap.IsListIter it l i->s.heap.IsList l its.toArray->s.heap.DictOf knd d (merged [] (rs.take i))->
 (∀(j:Nat) (u:Value) (kv:K×Value),its[j]?=some u->rs[j]?=some kv->∃p key,u=.ref p/\p≠d/\p≠it/\knd.is kv.1 key=true/\IsTup s.heap p #[key,kv.2])->
 (∀h' tk,h'.DictOf knd d (merged [] rs)->(∀b o,b≠d->b≠it->s.heap.get? b=some o->h'.get? b=some o)->R (.ok (.ret .none)) { s with heap:=h',toks:=tk })->
 codeAny (model prog w) A (.builtin "dict.update.loop" ⟨[.ref d,.ref it,rawInt (i:Int),.none],[]⟩) R s:=by
 have W:=Walks.list (prog:=prog) (w:=w) (A:=A.in1) hh it l hne its.toArray;have wr1:∀b:Addr,b≠it->b∉[it]:=λb hb z=>hb (List.mem_singleton.mp z)
 intro k
 induction k with
 |zero=>
  intro i s hk hi hit hl hd hp hR;have ei:i=its.length:=by omega
  refine codeAny_builtin entry_upd_loop ?_;rw[Around.under_plainId plain_upd_loop _];show wpAny _ A.in1 (pyNext (.ref it) >>=_) _ _ s;refine wpAny_bind (W.done s _ _ ⟨by rw[List.size_toArray,←ei];exact hit,hl⟩ λh' tk kp=>?_);show wpAny _ A.in1 (Builtin.Dict.addKeywords d [] >>=_) _ _ _;refine wpAny_bind (wpAny_pure (wpAny_pure ?_));rw[List.take_of_length_le (by omega)]at hd;obtain⟨od,x1,x2,h1,h2⟩:=id hd;refine hR h' tk ⟨od,x1,x2,kp _ _ (wr1 _ ndi) h1,h2⟩ λb o _ hb e=>kp b o (wr1 _ hb) e
 |succ k ih=>
  intro i s hk hi hit hl hd hp hR;have hlt:i<its.length:=by omega
  refine codeAny_builtin entry_upd_loop ?_;rw[Around.under_plainId plain_upd_loop _];show wpAny _ A.in1 (pyNext (.ref it) >>=_) _ _ s;refine wpAny_bind (W.item i s _ _ (by rw[List.size_toArray];exact hlt) ⟨hit,hl⟩ λv h' tk hP st2 kp=>?_);obtain⟨hit2,hl2⟩:=st2;have hP2:its[i]?=some v:=by simpa using hP
  have hkv:rs[i]?=some (rs[i]'(by omega)):=List.getElem?_eq_getElem (by omega)
  generalize rs[i]'(by omega)=kv at hkv;obtain⟨p,key,rfl,pd,pi,hkey,o,ho,hc,n,hdat⟩:=hp i v kv hP2 hkv;have ho2:=kp _ _ (wr1 _ pi) ho;have etk:rs.take (i+ 1)=rs.take i++[kv]:=by rw[List.take_succ,hkv];rfl
  have hd2:h'.DictOf knd d (merged [] (rs.take i)):=by
   obtain⟨od,x1,x2,h1,h2⟩:=id hd;exact⟨od,x1,x2,kp _ _ (wr1 _ ndi) h1,h2⟩
  have hml:=merged_length_le ([]:List (K×Value)) (rs.take i)
  have hml2:(merged [] (rs.take i)).length<=sizeLine:=by
   rw[List.length_take,List.length_nil]at hml;omega
  show wpAny _ A.in1 (holding [Value.ref p] _ >>=_) _ _ _;refine wpAny_bind (wpAny_holding ?_);refine wpAny_bind (wpAny_tryCatch ?_);show wpAny _ A.in1 (typeOf (Value.ref p) >>=_) _ _ _;refine wpAny_bind (wpAny_typeOf (T:="tuple") ⟨o,ho2,hc⟩ ?_);rw[if_pos (by decide)];refine wpAny_bind (wpAny_seqItems ho2 hdat ?_);refine wpAny_pure ?_;show wpAny _ A.in1 (holding [key,kv.2] (dictSet d key kv.2)) _ _ _;refine wpAny_holding (wpAny_dictSet_pairs hkey hd2 (λg hd3 sb=>?_) hml2);have kg:∀b o,b≠d->h'.get? b=some o->g.get? b=some o:=λb o hb e=>(sb.2 b hb).trans e
  refine wpAny_pure ⟨plainId_quiet plain_upd_loop _,?_⟩;have hcast:rawInt ((i:Int)+ 1)=rawInt (((i+ 1:Nat)):Int):=rfl;rw[hcast];refine ih (i+ 1) _ (by omega) (by omega) (hit2.at λo e=>kg _ _ (Ne.symm ndi) e) (hl2.at λo e=>kg _ _ (Ne.symm ndl) e) ?_ ?_ ?_
  ·rw[etk,merged,List.foldl_append];exact hd3
  ·intro j u kv2 h1 h2;obtain⟨p,key,rfl,a1,a2,a3,o,b1,b2⟩:=hp j u kv2 h1 h2;exact⟨p,key,rfl,a1,a2,a3,o,kg _ _ a1 (kp _ _ (wr1 _ a2) b1),b2⟩
  ·intro h2 tk2 hd4 kp2;exact hR h2 tk2 hd4 λb o hb hi e=>kp2 b o hb hi (kg _ _ hb (kp _ _ (wr1 _ hi) e))
theorem call_dict_list {s:Shared}{Q:Value->Shared->Prop}{l:Addr}{its:List Value}{c:Nat}{rs:List (K×Value)}(hh:A.handled=none)(hlen:its.length=rs.length)(hsz:rs.length<=sizeLine)
 (hl:s.heap.get? l=some { cls:=.type "list",data:=.seq its.toArray c })
 (hp:∀(j:Nat) (u:Value) (kv:K×Value),its[j]?=some u->rs[j]?=some kv->∃p key,u=.ref p/\knd.is kv.1 key=true/\IsTup s.heap p #[key,kv.2])
 (hQ:∀h' tk,h'.DictOf knd s.heap.objs.size (merged [] rs)->(∀b o,s.heap.get? b=some o->h'.get? b=some o)->Q (.ref s.heap.objs.size) { s with heap:=h',toks:=tk }):
 wpAny (model prog w) A (call (.type "dict") [.ref l]) Q E s:=by
 refine callType_codes (Q₁:=λobj s₁=>obj=.ref s.heap.objs.size/\s₁={ s with heap:=s.heap.push { cls:=.type "dict",data:=.dict #[] } }) F.kt_called_dict (F.kt_typeCall_dict_1 _) F.entry_dict_init (kt_code_dict_new _ ⟨rfl,rfl⟩) ?_;rintro obj s₁ ⟨rfl,rfl⟩;have hnew:(s.heap.push { cls:=.type "dict",data:=.dict #[] }).DictOf knd s.heap.objs.size []:=Heap.DictOf.new s.heap;have hl2:(s.heap.push { cls:=.type "dict",data:=.dict #[] }).get? l=some { cls:=.type "list",data:=.seq its.toArray c }:=Heap.get?_push_of_some _ hl;have hll:=Heap.lt_size hl;refine⟨hnew.typeIs,F.args_dict_init_2 _ _,?_⟩;unfold Builtin.«dict.__init__»;refine wpAny_bind ?_;unfold Builtin.Dict.selfAndRest;refine wpAny_bind (wpAny_notOrdered_dict hnew.typeIs ?_);show wpAny _ _ (pure (s.heap.objs.size,[Value.ref l])) _ _ _;refine wpAny_pure ?_;show wpAny _ _ (Builtin.Dict.updateFrom "dict.__init__" s.heap.objs.size (.ref l) [] .none) _ _ _;unfold Builtin.Dict.updateFrom;refine wpAny_bind (wpAny_typeOf (T:="list") ⟨_,hl2,rfl⟩ ?_);rw[if_pos (by decide)];refine wpAny_bind (try_keys hl2 hh λg tk kp=>?_);rw[if_pos (by decide)];refine wpAny_bind (wpAny_rule ?_);have hl3:=kp _ _ hl2;refine wpAny_bind (wpAny_pyIter_list (items:=its.toArray) ⟨_,hl3,rfl,c,rfl⟩ ?_)
 have hd0:s.heap.objs.size<g.objs.size:=by
  obtain⟨od,_,_,h1,_⟩:=id hnew;exact Heap.lt_size (kp _ _ h1)
 have hlg:=Heap.lt_size hl3;have k2:∀b o,s.heap.get? b=some o->(g.push { cls:=.type "list_iterator",data:=.fields #[.ref l,.int 0 0] }).get? b=some o:=λb o e=>Heap.get?_push_of_some _ (kp _ _ (Heap.get?_push_of_some _ e))
 refine wpAny_pure ⟨plainId_quiet plain_upd_loop _,loop_pairs (knd:=knd) (A:=A.in1) (rs:=rs) (its:=its) (l:=l) (it:=g.objs.size) hh (Nat.ne_of_lt hlg) (Nat.ne_of_lt hd0) (Nat.ne_of_gt hll) hlen hsz its.length 0 _ rfl (Nat.zero_le _) ?_ ⟨_,Heap.get?_push_of_some _ hl3,rfl,c,rfl⟩ ?_ ?_ ?_⟩
 ·exact⟨_,Heap.get?_push_size _ rfl,rfl,rfl⟩
 ·obtain⟨od,x1,x2,h1,h2⟩:=id hnew;exact⟨od,x1,x2,Heap.get?_push_of_some _ (kp _ _ h1),h2⟩
 ·intro j u kv h1 h2;obtain⟨p,key,rfl,a3,o,b1,b2⟩:=hp j u kv h1 h2;have hpl:=Heap.lt_size b1;exact⟨p,key,rfl,Nat.ne_of_lt hpl,Nat.ne_of_lt (Nat.lt_trans hpl hd0),a3,o,k2 _ _ b1,b2⟩
 ·intro h' tk2 hd4 kp2;refine⟨rfl,hQ h' tk2 hd4 λb o e=>?_⟩;have hb:=Heap.lt_size e;exact kp2 b o (Nat.ne_of_lt hb) (Nat.ne_of_lt (Nat.lt_trans hb hd0)) (k2 _ _ e)
end
section
variable {X:Cx}
def rDictP:List V->Hp->VK->Prop:=λxs H Q=>∃(l:Addr) (ps:List Addr) (kvs:List (Key×V)),xs=[.ref l]/\H l=some (.lst (ps.map V.ref))/\ps.length=kvs.length/\
 (∀(i:Nat) (p:Addr) (kv:Key×V),ps[i]?=some p->kvs[i]?=some kv->H p=some (.tup [kV kv.1,kv.2]))/\∀d,H d=none->Q (.ref d) (upd H d (.dK (mergeK [] kvs)))
theorem pairs_of {P:Program}{w:World}{H:Hp}{h:Heap}(ok:HOk P w H h):∀(ps:List Addr) (kvs:List (Key×V)),ps.length=kvs.length->(∀(i:Nat) (p:Addr) (kv:Key×V),ps[i]?=some p->kvs[i]?=some kv->H p=some (.tup [kV kv.1,kv.2]))->
 ∃rs:List (Key×Value),KV kvs rs/\∀(j:Nat) (p:Addr) (kv:Key×Value),ps[j]?=some p->rs[j]?=some kv->∃key,(mixKind P w).is kv.1 key=true/\IsTup h p #[key,kv.2]
 |[],[],_,_=>⟨[],.nil,λj p kv h1=>by simp at h1⟩
 |p::ps,kv::kvs,hl,hp=>by
  obtain⟨rs,r1,r2⟩:=pairs_of ok ps kvs (by simpa using hl) λi q kv h1 h2=>hp (i+ 1) q kv (by simpa using h1) (by simpa using h2)
  obtain⟨-,its,rv,ht⟩:=ok p _ (hp 0 p kv rfl rfl);obtain⟨u,v,rfl,ru,rv2⟩:=vals2 rv;refine⟨(kv.1,v)::rs,.cons ⟨rfl,rv2⟩ r1,λj q kv2 h1 h2=>?_⟩
  cases j with
  |zero=>
   obtain rfl:p=q:=by simpa using h1
   obtain rfl:(kv.1,v)=kv2:=by simpa using h2
   exact⟨u,kV_is ru,ht⟩
  |succ j=>exact r2 j q kv2 (by simpa using h1) (by simpa using h2)
theorem call_dict_pairs (hc:X.calm=true):CallR X (.type "dict") rDictP:=by
 intro pins s σ H xs us Q I r h;obtain⟨l,ps,kvs,rfl,hl,hlen,hp,q⟩:=h;obtain⟨u,rfl,rx⟩:=vals1 r;cases rx;obtain⟨hz,its,c,rv,hg⟩:=I.hok l _ hl;obtain rfl:=vals_refs rv;obtain⟨rs,r1,r2⟩:=pairs_of I.hok ps kvs hlen hp;have hkl:kvs.length=rs.length:=r1.length;rw[List.length_map]at hz;refine call_dict_list (knd:=mixKind X.prog X.w) (rs:=rs) (I.ok.hd hc) (by rw[List.length_map];omega) (by omega) hg (λj u kv h1 h2=>?_) λg tk dd kp=>?_
 ·rw[List.getElem?_map]at h1
  cases hy:ps[j]? with
  |none=>rw[hy]at h1;cases h1
  |some p=>
   rw[hy]at h1;obtain⟨key,k1,k2⟩:=r2 j p kv hy h2;exact⟨p,key,(Option.some.inj h1).symm,k1,k2⟩
 ·have hm:KV (mergeK [] kvs) (merged [] rs):=KV.merge r1 .nil;have hml:=length_mergeK kvs [];rw[List.length_nil]at hml;exact⟨.ref s.heap.objs.size,_,I.laid (t':=tk) kp (Nat.le_refl _) (dk_new (by omega) (beq_eq_false_iff_ne.mpr (Ne.symm (Nat.ne_of_lt I.big))) hm dd),rfl,q _ (I.hok.fresh (Nat.le_refl _))⟩
end
end L2
namespace L2
open PySem PySem.Spec PyProof.Rows
section
variable {X:Cx} {pins:List (Addr×Obj)} {σ:St} {H:Hp} {s:Shared} {d:Addr} {u:HO} {o:Obj}
theorem Inv.freeze (I:Inv X pins σ H s)(e:H d=some u)(mu:Mut (some u))(ho:s.heap.get? d=some o):Inv X pins σ (upd H d (.frz o u)) s:=by
 have mu':Mut (H d):=by rw[e];exact mu
 have nown:∀c y,H c=some (.own y)->c≠d:=λc y r z=>by subst z;rw[r]at mu';exact mu'
 have ntup:∀c xs,H c=some (.tup xs)->c≠d:=λc xs r z=>by subst z;rw[r]at mu';exact mu'
 have new:ObjOk X.prog X.w (upd H d (.frz o u)) s.heap d u:=(I.hok d u e).stay (λc v _ r=>r) (λc r=>by rw[upd_ne (nown _ _ r)];exact r) λc xs r=>by rw[upd_ne (ntup _ _ r)];exact r
 exact d_write (t':=s.toks) I mu' (Heap.SameBut.refl _ _) ⟨o,ho⟩ ⟨ho,new⟩
theorem Inv.thaw (I:Inv X pins σ H s)(e:H d=some (.frz o u))(mu:Mut (some u))(h0:∀o u,X.H₀ d≠some (.frz o u)):Inv X pins σ (upd H d u) s:=by
 have nn:∀b,H b=none->b≠d:=λb n z=>by rw[z,e]at n;cases n
 have nown:∀c y,H c=some (.own y)->c≠d:=λc y r z=>by rw[z,e]at r;cases r
 have ntup:∀c xs,H c=some (.tup xs)->c≠d:=λc xs r z=>by rw[z,e]at r;cases r
 refine⟨I.ok,I.os,I.bare,⟨I.base.keep,I.base.slot,λb ob q n hx=>?_,I.base.there,λb xs q=>?_,λb ob v q=>?_,λb ps q=>?_⟩,I.loc,I.cell,?_,λx c q=>?_,λp hp=>?_,λb v q=>?_,I.len⟩
 ·have h1:=I.base.free b ob q n hx;rw[upd_ne (nn b h1)];exact h1
 ·have h1:=I.base.tups b xs q;rw[upd_ne (ntup _ _ h1)];exact h1
 ·have h1:=I.base.frzs b ob v q;rw[upd_ne (λz=>h0 ob v (by rw[←z];exact q))];exact h1
 ·obtain⟨m,h1⟩:=I.base.tbls b ps q;refine⟨m,?_⟩;rw[upd_ne (λz=>by rw[z,e]at h1;cases h1)];exact h1
 ·rw[upd_ne (nn _ I.free)];exact I.free
 ·have h1:=I.freeC x c q;rw[upd_ne (nn _ h1)];exact h1
 ·obtain⟨a,b,c⟩:=I.pin p hp;refine⟨a,?_,c⟩;rw[upd_ne (nn _ b)];exact b
 ·have st:∀b v,ObjOk X.prog X.w H s.heap b v->ObjOk X.prog X.w (upd H d u) s.heap b v:=λb v q=>q.stay (λc v _ r=>r) (λc r=>by rw[upd_ne (nown _ _ r)];exact r) λc xs r=>by rw[upd_ne (ntup _ _ r)];exact r
  by_cases hb:b=d
  ·subst hb;rw[upd_same]at q;obtain rfl:=Option.some.inj q;exact st _ _ (I.hok _ _ e).2
  ·rw[upd_ne hb]at q;exact st _ _ (I.hok b v q)
theorem Inv.unfrozen (I:Inv X pins σ H s)(e:H d=some u)(mu:Mut (some u)):∀o u,X.H₀ d≠some (.frz o u):=λo v q=>by
 rw[I.base.frzs d o v q]at e;cases e;exact mu
def tThaw (t:TS):TS:=λD σ H=>∃(d:Addr) (u:HO),H d=some u/\Mut (some u)/\
 t { nx:=λ σ' H'=>∃o,H' d=some (.frz o u)/\D.nx σ' (upd H' d u),rt:=λv H'=>∃o,H' d=some (.frz o u)/\D.rt v (upd H' d u),
     bk:=λ σ' H'=>∃o,H' d=some (.frz o u)/\D.bk σ' (upd H' d u),ct:=λ σ' H'=>∃o,H' d=some (.frz o u)/\D.ct σ' (upd H' d u) } σ H
theorem ps_thaw {st:Stmt}{t:TS}(h:PS X st t):PS X st (tThaw t):=by
 intro pins s σ H D I q;obtain⟨d,u,e,mu,q⟩:=q;have h0:=I.unfrozen e mu;refine thn (h pins s σ H _ I q) λf s' p=>?_
 cases f with
 |next=>obtain⟨σ',H',I',o,e',q'⟩:=p;exact⟨σ',_,I'.thaw e' mu h0,q'⟩
 |brk=>obtain⟨σ',H',I',o,e',q'⟩:=p;exact⟨σ',_,I'.thaw e' mu h0,q'⟩
 |cont=>obtain⟨σ',H',I',o,e',q'⟩:=p;exact⟨σ',_,I'.thaw e' mu h0,q'⟩
 |ret v=>obtain⟨v',σ',H',I',r,o,e',q'⟩:=p;exact⟨v',σ',_,I'.thaw e' mu h0,r,q'⟩
end
section
variable {X:Cx} {tg:Expr}
theorem mix_rel {P:Program}{w:World}{k:Key}{v:Value}(h:(mixKind P w).is k v=true):RelV (kV k) v:=by
 cases k with
 |inl i=>
  have h':Value.isInt i v=true:=h
  cases v with
  |int j t=>simp[Value.isInt]at h';subst h';exact⟨_,rfl⟩
  |_=>simp[Value.isInt]at h'
 |inr x=>
  have h':Value.isStrOf x v=true:=h
  cases v with
  |str j t=>simp[Value.isStrOf]at h';subst h';exact⟨_,rfl⟩
  |_=>simp[Value.isStrOf]at h'
end
end L2
namespace L2
open PySem PySem.Spec PyProof.Rows
inductive Dt where
 |i (n:Int)|s (l:List Nat)|n|b (k:Bool)|t (xs:List Dt)|l (xs:List Dt)
inductive DtAt (H:Hp):Nat->V->Dt->Prop where
 |i {k:Nat} {n:Int}:DtAt H k (.int n) (.i n)
 |s {k:Nat} {l:List Nat}:DtAt H k (.str (tx l)) (.s l)
 |n {k:Nat}:DtAt H k .non .n
 |b {k:Nat} {c:Bool}:DtAt H k (.bl c) (.b c)
 |t {k:Nat} {a:Addr} {vs:List V} {ds:List Dt}:H a=some (.tup vs)->vs.length=ds.length->(∀(j:Nat) (v:V) (d:Dt),vs[j]?=some v->ds[j]?=some d->DtAt H k v d)->DtAt H (k+ 1) (.ref a) (.t ds)
 |l {k:Nat} {a:Addr} {vs:List V} {ds:List Dt}:H a=some (.lst vs)->vs.length=ds.length->(∀(j:Nat) (v:V) (d:Dt),vs[j]?=some v->ds[j]?=some d->DtAt H k v d)->DtAt H (k+ 1) (.ref a) (.l ds)
theorem DtAt.keep {H H':Hp}(ht:∀a xs,H a=some (.tup xs)->H' a=some (.tup xs))(hl:∀a xs,H a=some (.lst xs)->H' a=some (.lst xs)){k:Nat}{v:V}{d:Dt}(h:DtAt H k v d):DtAt H' k v d:=by
 induction h with
 |i=>exact .i
 |s=>exact .s
 |n=>exact .n
 |b=>exact .b
 |t a b c ih=>exact .t (ht _ _ a) b ih
 |l a b c ih=>exact .l (hl _ _ a) b ih
theorem DtAt.same {H H':Hp}(s:Same H H'){k:Nat}{v:V}{d:Dt}(h:DtAt H k v d):DtAt H' k v d:=h.keep (λ_ _ e=>s _ _ e) (λ_ _ e=>s _ _ e)
theorem DtAt.up {H:Hp}{k:Nat}{v:V}{d:Dt}(h:DtAt H k v d):DtAt H (k+ 1) v d:=by
 induction h with
 |i=>exact .i
 |s=>exact .s
 |n=>exact .n
 |b=>exact .b
 |t a b c ih=>exact .t a b ih
 |l a b c ih=>exact .l a b ih
theorem DtAt.le {H:Hp}{k m:Nat}{v:V}{d:Dt}(h:DtAt H k v d)(hm:k<=m):DtAt H m v d:=by
 obtain⟨j,rfl⟩:=Nat.exists_eq_add_of_le hm;clear hm
 induction j with
 |zero=>exact h
 |succ j ih=>exact ih.up
section
variable {X:Cx} {pins:List (Addr×Obj)} {σ:St} {H:Hp} {s:Shared}
theorem beq_same (x:Str):(x==x)=true:=by simp
theorem eq_int_self {A:Around}(n:Int)(t t':Tok):SeqAt.EqAt A s (.int n t) (.int n t') true:=by
 have:=SeqAt.EqAt.int_int (A:=A) (s:=s) n t n t';rw[beq_self_eq_true]at this;exact this
theorem eq_str_self {A:Around}(x:Str)(t t':Tok):SeqAt.EqAt A s (.str x t) (.str x t') true:=by
 have:=SeqAt.EqAt.str_str (A:=A) (s:=s) x t x t';rw[beq_same]at this;exact this
theorem eq_dt (I:Inv X pins σ H s):∀(k:Nat) (A:Around) (v v':V) (u u':Value) (d:Dt),A.units+ k<cLine->DtAt H k v d->DtAt H k v' d->RelV v u->RelV v' u'->SeqAt.EqAt A s u u' true:=by
 intro k
 induction k with
 |zero=>
  intro A v v' u u' d hu h h' r r'
  cases h with
  | @i n=>cases h' with|i=>?_
          obtain⟨t,rfl⟩:=r;obtain⟨t',rfl⟩:=r';exact eq_int_self _ _ _
  | @s l=>cases h' with|s=>?_
          obtain⟨t,rfl⟩:=r;obtain⟨t',rfl⟩:=r';exact eq_str_self _ _ _
  |n=>cases h' with|n=>?_
      cases r;cases r';exact SeqAt.EqAt.same _
  | @b c=>cases h' with|b=>?_
          cases r;cases r';exact SeqAt.EqAt.same _
 |succ k ih=>
  intro A v v' u u' d hu h h' r r'
  cases h with
  | @i _ n=>cases h' with|i=>?_
            obtain⟨t,rfl⟩:=r;obtain⟨t',rfl⟩:=r';exact eq_int_self _ _ _
  | @s _ l=>cases h' with|s=>?_
            obtain⟨t,rfl⟩:=r;obtain⟨t',rfl⟩:=r';exact eq_str_self _ _ _
  |n=>cases h' with|n=>?_
      cases r;cases r';exact SeqAt.EqAt.same _
  | @b _ c=>cases h' with|b=>?_
            cases r;cases r';exact SeqAt.EqAt.same _
  | @t _ a vs ds h1 h2 h3=>
    cases h' with
    | @t _ b vs' _ g1 g2 g3=>
      cases r;cases r';by_cases e:a=b
      ·subst e;exact SeqAt.EqAt.same _
      ·refine SeqAt.EqAt.of_refs e ?_;obtain⟨its,r1,p1,_⟩:=I.tuple (SqT.of h1);obtain⟨its2,r2,p2,_⟩:=I.tuple (SqT.of g1);have l1:=r1.length;have l2:=r2.length;have:=SeqAt.RcAt.tuples (A:=A) (e:=λ_=>true) (show s.heap.IsTuple a its.toArray from p1) (show s.heap.IsTuple b its2.toArray from p2) (by omega) (λj q1 q2=>?_)
       ·rw[List.size_toArray,List.size_toArray,←l1,←l2,h2,g2,all_true _ _ λ_=>rfl]at this;simpa using this
       ·have k1:j<its.length:=by simpa using q1
        have k2:j<its2.length:=by simpa using q2
        have d1:vs[j]?=some (vs[j]'(by omega)):=List.getElem?_eq_getElem (by omega)
        have d2:vs'[j]?=some (vs'[j]'(by omega)):=List.getElem?_eq_getElem (by omega)
        have d3:ds[j]?=some (ds[j]'(by omega)):=List.getElem?_eq_getElem (by omega)
        obtain⟨w1,e1,z1⟩:=r1.get d1;obtain⟨w2,e2,z2⟩:=r2.get d2;have f1:its.toArray[j]=w1:=by rw[List.getElem_toArray];exact Option.some.inj ((List.getElem?_eq_getElem k1).symm.trans e1)
        have f2:its2.toArray[j]=w2:=by rw[List.getElem_toArray];exact Option.some.inj ((List.getElem?_eq_getElem k2).symm.trans e2)
        rw[f1,f2];exact ih _ _ _ _ _ _ (show A.units+ 1+ k<cLine by omega) (h3 j _ _ d1 d3) (g3 j _ _ d2 d3) z1 z2
  | @l _ a vs ds h1 h2 h3=>
    cases h' with
    | @l _ b vs' _ g1 g2 g3=>
      cases r;cases r';by_cases e:a=b
      ·subst e;exact SeqAt.EqAt.same _
      ·refine SeqAt.EqAt.of_refs e ?_;obtain⟨its,r1,p1,_⟩:=I.list (SqL.of h1);obtain⟨its2,r2,p2,_⟩:=I.list (SqL.of g1);have l1:=r1.length;have l2:=r2.length;have:=SeqAt.RcAt.lists (A:=A) (e:=λ_=>true) p1.isList p2.isList (by simp;omega) (by omega) (λj q1 q2=>?_)
       ·rw[all_true _ _ λ_=>rfl]at this;exact this
       ·have k1:j<its.length:=by simpa using q1
        have k2:j<its2.length:=by simpa using q2
        have d1:vs[j]?=some (vs[j]'(by omega)):=List.getElem?_eq_getElem (by omega)
        have d2:vs'[j]?=some (vs'[j]'(by omega)):=List.getElem?_eq_getElem (by omega)
        have d3:ds[j]?=some (ds[j]'(by omega)):=List.getElem?_eq_getElem (by omega)
        obtain⟨w1,e1,z1⟩:=r1.get d1;obtain⟨w2,e2,z2⟩:=r2.get d2;have f1:its.toArray[j]=w1:=by rw[List.getElem_toArray];exact Option.some.inj ((List.getElem?_eq_getElem k1).symm.trans e1)
        have f2:its2.toArray[j]=w2:=by rw[List.getElem_toArray];exact Option.some.inj ((List.getElem?_eq_getElem k2).symm.trans e2)
        rw[f1,f2];exact ih _ _ _ _ _ _ (show A.units+ 1+ k<cLine by omega) (h3 j _ _ d1 d3) (g3 j _ _ d2 d3) z1 z2
end
section
variable {X:Cx}
theorem dt_items {pins:List (Addr×Obj)}{σ:St}{H:Hp}{s:Shared}(I:Inv X pins σ H s){k:Nat}{A:Around}(hu:A.units+ k<cLine){vs vs':List V}{its its2:List Value}{ds:List Dt}(r1:Vals vs its)(r2:Vals vs' its2)(h2:vs.length=ds.length)(g2:vs'.length=ds.length)
 (h3:∀(j:Nat) (v:V) (d:Dt),vs[j]?=some v->ds[j]?=some d->DtAt H k v d) (g3:∀(j:Nat) (v:V) (d:Dt),vs'[j]?=some v->ds[j]?=some d->DtAt H k v d) (j:Nat) (q1:j<its.toArray.size) (q2:j<its2.toArray.size):SeqAt.EqAt A s its.toArray[j] its2.toArray[j] true:=by
 have l1:=r1.length;have l2:=r2.length;have k1:j<its.length:=by simpa using q1
 have k2:j<its2.length:=by simpa using q2
 have d1:vs[j]?=some (vs[j]'(by omega)):=List.getElem?_eq_getElem (by omega)
 have d2:vs'[j]?=some (vs'[j]'(by omega)):=List.getElem?_eq_getElem (by omega)
 have d3:ds[j]?=some (ds[j]'(by omega)):=List.getElem?_eq_getElem (by omega)
 obtain⟨w1,e1,z1⟩:=r1.get d1;obtain⟨w2,e2,z2⟩:=r2.get d2;have f1:its.toArray[j]=w1:=by rw[List.getElem_toArray];exact Option.some.inj ((List.getElem?_eq_getElem k1).symm.trans e1)
 have f2:its2.toArray[j]=w2:=by rw[List.getElem_toArray];exact Option.some.inj ((List.getElem?_eq_getElem k2).symm.trans e2)
 rw[f1,f2];exact eq_dt I k _ _ _ _ _ _ hu (h3 j _ _ d1 d3) (g3 j _ _ d2 d3) z1 z2
def rEqDt:R2:=λx y H Q=>∃d a b,x=.ref a/\y=.ref b/\DtAt H 8 x d/\DtAt H 8 y d/\Q (.bl true) H
theorem op_eqDt (hu:X.A.units+ 8<cLine):OpR X (compareOp .Eq) rEqDt:=by
 intro pins s σ H x y v u Q I rx ry h;obtain⟨d,a,b,rfl,rfl,h,h',q⟩:=h;cases rx;cases ry
 cases h with
 |t h1 h2 h3=>
  cases h' with
  |t g1 g2 g3=>
   obtain⟨its,r1,p1,_⟩:=I.tuple (SqT.of h1);obtain⟨its2,r2,p2,_⟩:=I.tuple (SqT.of g1);have l1:=r1.length;have l2:=r2.length;refine SeqAt.eq_tupleAt (e:=λ_=>true) (show s.heap.IsTuple a _ from p1) (show s.heap.IsTuple b _ from p2) (by omega) (λj q1 q2=>dt_items I (k:=7) (by show X.A.units+ 1+ 7<cLine;omega) r1 r2 h2 g2 h3 g3 j q1 q2) ⟨.bl true,H,I,?_,q⟩;show _=Value.bool true;rw[List.size_toArray,List.size_toArray,←l1,←l2,h2,g2,all_true _ _ λ_=>rfl];simp
 |l h1 h2 h3=>
  cases h' with
  |l g1 g2 g3=>
   obtain⟨its,r1,p1,_⟩:=I.list (SqL.of h1);obtain⟨its2,r2,p2,_⟩:=I.list (SqL.of g1);have l1:=r1.length;have l2:=r2.length;refine SeqAt.eq_listAt (e:=λ_=>true) p1.isList p2.isList (by simp;omega) (by omega) (λj q1 q2=>dt_items I (k:=7) (by show X.A.units+ 1+ 7<cLine;omega) r1 r2 h2 g2 h3 g3 j q1 q2) ⟨.bl true,H,I,?_,q⟩;show _=Value.bool true;rw[all_true _ _ λ_=>rfl]
end
end L2
namespace L2
open PySem PySem.Spec PyProof.Rows
def nI (l:List Nat):List Int:=l.map λn:Nat=>(n:Int)
theorem nI_len (l:List Nat):(nI l).length=l.length:=List.length_map ..
theorem nI_get {l:List Nat}{i n:Nat}(h:l[i]?=some n):(nI l)[i]?=some (n:Int):=by unfold nI;rw[List.getElem?_map,h];rfl
theorem nI_app (a b:List Nat):nI (a++b)=nI a++nI b:=List.map_append ..
theorem nI_set (l:List Nat)(i n:Nat):(nI l).set i (n:Int)=nI (l.set i n):=by unfold nI;rw[List.map_set]
structure RS where
 L:Nat
 made:Nat
 rows:List Dt
 ways:List (List (Int×Nat))
 gaps:List (List Int)
 elders:List Nat
 called:List (List Nat)
 went:List Nat
def wK (l:List (Int×Nat)):List (Key×V):=l.map λp=>(Sum.inl p.1,V.int p.2)
def gK (l:List Int):List (Key×V):=l.map λs=>(Sum.inl s,V.bl true)
def getW (l:List (Int×Nat))(s:Int):Option Nat:=(l.find? λp=>decide (p.1=s)).map (·.2)
def putW (l:List (Int×Nat))(s:Int)(r:Nat):List (Int×Nat):=if (l.any λp=>decide (p.1=s))=true then l.map λp=>if p.1=s then (p.1,r) else p else l++[(s,r)]
theorem wK_len (l:List (Int×Nat)):(wK l).length=l.length:=List.length_map ..
theorem gK_len (l:List Int):(gK l).length=l.length:=List.length_map ..
theorem key_eq (a b:Int):decide ((Sum.inl a:Key)=Sum.inl b)=decide (a=b):=by
 rw[Bool.eq_iff_iff,decide_eq_true_iff,decide_eq_true_iff];exact⟨Sum.inl.inj,congrArg Sum.inl⟩
theorem wK_val (s:Int):∀l:List (Int×Nat),valV (wK l) (Sum.inl s)=(getW l s).map λr:Nat=>V.int (r:Int)
 |[]=>rfl
 |p::l=>by
  have ih:=wK_val s l;by_cases h:p.1=s
  ·have e:valV (wK (p::l)) (Sum.inl s)=some (V.int p.2):=valV_pos (p:=(Sum.inl p.1,V.int p.2)) (by rw[h]);have e2:getW (p::l) s=some p.2:=by unfold getW;rw[List.find?_cons_of_pos (by exact decide_eq_true h)];rfl
   rw[e,e2];rfl
  ·have e:valV (wK (p::l)) (Sum.inl s)=valV (wK l) (Sum.inl s):=valV_neg (p:=(Sum.inl p.1,V.int p.2)) (λz=>h (Sum.inl.inj z));have e2:getW (p::l) s=getW l s:=by unfold getW;rw[List.find?_cons_of_neg (by simpa using h)]
   rw[e,e2,ih]
theorem wK_put (l:List (Int×Nat))(s:Int)(r:Nat):putK (wK l) (Sum.inl s) (.int r)=wK (putW l s r):=by
 unfold putK putW
 have ha:((wK l).any λkv=>decide (kv.1=Sum.inl s))=l.any λp=>decide (p.1=s):=by
  unfold wK;rw[List.any_map]
  congr 1
  funext p
  exact key_eq _ _
 rw[ha];split
 ·unfold wK;rw[List.map_map,List.map_map];refine List.map_congr_left λp _=>?_
  show (if (Sum.inl p.1:Key)=Sum.inl s then _ else _)=_;by_cases h:p.1=s
  ·simp only[Function.comp,h,if_true]
  ·have:¬(Sum.inl p.1:Key)=Sum.inl s:=λz=>h (Sum.inl.inj z)
   simp only[Function.comp,h,this,if_false]
 ·unfold wK;rw[List.map_append];rfl
theorem getW_put (l:List (Int×Nat))(s t:Int)(r:Nat):getW (putW l s r) t=if t=s then some r else getW l t:=by
 have h1:=wK_val t (putW l s r);rw[←wK_put,valV_put,wK_val]at h1
 have inj:∀a b:Option Nat,(a.map λr:Nat=>V.int (r:Int))=(b.map λr:Nat=>V.int (r:Int))->a=b:=λa b h=>by
  cases a <;> cases b <;> simp at h ⊢
  omega
 apply inj;rw[←h1];by_cases e:t=s
 ·rw[if_pos e,if_pos (by rw[e])];rfl
 ·rw[if_neg e,if_neg (λz=>e (Sum.inl.inj z))]
theorem putW_len (l:List (Int×Nat))(s:Int)(r:Nat):(putW l s r).length<=l.length+ 1:=by
 unfold putW;split
 ·rw[List.length_map];omega
 ·rw[List.length_append];exact Nat.le_refl _
theorem gK_drop (l:List Int)(s:Int):dropK (gK l) (Sum.inl s)=gK (l.filter λx=>decide (x≠s)):=by
 unfold dropK gK;rw[List.filter_map]
 congr 1
 refine List.filter_congr λx _=>?_
 show decide ((Sum.inl x:Key)≠Sum.inl s)=decide (x≠s);rw[Bool.eq_iff_iff,decide_eq_true_iff,decide_eq_true_iff];exact⟨λh z=>h (congrArg Sum.inl z),λh z=>h (Sum.inl.inj z)⟩
theorem gK_val (s:Int):∀l:List Int,valV (gK l) (Sum.inl s)=if s∈l then some (V.bl true) else none
 |[]=>rfl
 |x::l=>by
  by_cases h:x=s
  ·rw[if_pos (by rw[h];exact List.mem_cons_self)];exact valV_pos (p:=(Sum.inl x,V.bl true)) (by rw[h])
  ·have e:valV (gK (x::l)) (Sum.inl s)=valV (gK l) (Sum.inl s):=valV_neg (p:=(Sum.inl x,V.bl true)) (λz=>h (Sum.inl.inj z));rw[e,gK_val s l];have:(s∈x::l)↔s∈l:=⟨λz=>(List.mem_cons.mp z).elim (λq=>absurd q.symm h) id,List.mem_cons_of_mem _⟩;simp only[this]
theorem merge_new:∀(more acc:List (Key×V)),((acc++more).map (·.1)).Nodup->mergeK acc more=acc++more
 |[],acc,_=>(List.append_nil _).symm
 |p::more,acc,h=>by
  have hn:valV acc p.1=none:=by
   unfold valV;rw[List.find?_eq_none.mpr ?_];rfl;intro q hq;rw[decide_eq_true_iff];intro e;rw[List.map_append,List.nodup_append]at h;exact h.2.2 q.1 (List.mem_map_of_mem hq) p.1 (List.mem_map_of_mem List.mem_cons_self) e
  show mergeK (putK acc p.1 p.2) more=_;rw[putK_new _ hn,merge_new more (acc++[(p.1,p.2)]) (by rw[List.append_assoc];exact h),List.append_assoc];rfl
structure RA where
 dx:Addr
 aR:Addr
 aW:Addr
 aG:Addr
 aE:Addr
 aC:Addr
 aN:Addr
 rs:List Addr
 ws:List Addr
 gs:List Addr
 cs:List Addr
def flds (L made:Int)(a:RA):List (Str×V):=[("letters",.int L),("made",.int made),("rows",.ref a.aR),("ways",.ref a.aW),("gaps",.ref a.aG),("elders",.ref a.aE),("called",.ref a.aC),("went",.ref a.aN)]
theorem putF_made (L m n:Int)(a:RA):putF "made" (.int n) (flds L m a)=flds L n a:=by
 have h:¬(("letters":Str)="made"):=by decide +kernel
 unfold flds;simp only[putF,if_neg h,if_true]
theorem lk_letters (L m:Int)(a:RA):(flds L m a).lookup ("letters":Str)=some (.int L):=by kernel_rfl
theorem lk_made (L m:Int)(a:RA):(flds L m a).lookup ("made":Str)=some (.int m):=by kernel_rfl
theorem lk_rows (L m:Int)(a:RA):(flds L m a).lookup ("rows":Str)=some (.ref a.aR):=by kernel_rfl
theorem lk_ways (L m:Int)(a:RA):(flds L m a).lookup ("ways":Str)=some (.ref a.aW):=by kernel_rfl
theorem lk_gaps (L m:Int)(a:RA):(flds L m a).lookup ("gaps":Str)=some (.ref a.aG):=by kernel_rfl
theorem lk_elders (L m:Int)(a:RA):(flds L m a).lookup ("elders":Str)=some (.ref a.aE):=by kernel_rfl
theorem lk_called (L m:Int)(a:RA):(flds L m a).lookup ("called":Str)=some (.ref a.aC):=by kernel_rfl
theorem lk_went (L m:Int)(a:RA):(flds L m a).lookup ("went":Str)=some (.ref a.aN):=by kernel_rfl
theorem lk_none (L m:Int)(a:RA){x:Str}(h:x∉(["letters","made","rows","ways","gaps","elders","called","went"]:List Str)):(flds L m a).lookup x=none:=by
 simp only[List.mem_cons,List.not_mem_nil,or_false,not_or]at h;obtain⟨h1,h2,h3,h4,h5,h6,h7,h8⟩:=h;unfold flds;simp only[List.lookup,beq_eq_false_iff_ne.mpr h1,beq_eq_false_iff_ne.mpr h2,beq_eq_false_iff_ne.mpr h3,beq_eq_false_iff_ne.mpr h4,beq_eq_false_iff_ne.mpr h5,beq_eq_false_iff_ne.mpr h6,beq_eq_false_iff_ne.mpr h7,beq_eq_false_iff_ne.mpr h8]
theorem putF_new {f:Str}{v:V}:∀{fs:List (Str×V)},fs.lookup f=none->putF f v fs=fs++[(f,v)]
 |[],_=>rfl
 |(g,x)::r,h=>by
  by_cases e:g=f
  ·have hb:(f==g)=true:=beq_iff_eq.mpr e.symm;simp[List.lookup,hb]at h
  ·have hb:(f==g)=false:=beq_eq_false_iff_ne.mpr (Ne.symm e);simp only[List.lookup,hb]at h;show (if g=f then _ else _)=_;rw[if_neg e,putF_new h];rfl
inductive NoL:Dt->Prop where
 |i {n:Int}:NoL (.i n)
 |s {l:List Nat}:NoL (.s l)
 |t {ds:List Dt}:ds.length<=100000->(∀d∈ds,NoL d)->NoL (.t ds)
theorem DtAt.keepT {H H':Hp}(ht:∀a xs,H a=some (.tup xs)->H' a=some (.tup xs)){k:Nat}{v:V}{d:Dt}(h:DtAt H k v d)(hn:NoL d):DtAt H' k v d:=by
 induction h with
 |i=>exact .i
 |s=>exact .s
 |n=>exact .n
 |b=>exact .b
 |t a b c ih=>
  cases hn with
  |t _ hh=>exact .t (ht _ _ a) b λj v d h1 h2=>ih j v d h1 h2 (hh d (List.mem_of_getElem? h2))
 |l a b c ih=>cases hn
def Each {α:Type}(R:Addr->α->Prop)(ps:List Addr)(xs:List α):Prop:=ps.length=xs.length/\∀(i:Nat) (p:Addr) (x:α),ps[i]?=some p->xs[i]?=some x->R p x
theorem Each.imp {α:Type}{R R':Addr->α->Prop}{ps:List Addr}{xs:List α}(h:Each R ps xs)(f:∀p x,p∈ps->x∈xs->R p x->R' p x):Each R' ps xs:=
 ⟨h.1,λi p x h1 h2=>f p x (List.mem_of_getElem? h1) (List.mem_of_getElem? h2) (h.2 i p x h1 h2)⟩
theorem Each.snoc {α:Type}{R:Addr->α->Prop}{ps:List Addr}{xs:List α}{p:Addr}{x:α}(h:Each R ps xs)(hp:R p x):Each R (ps++[p]) (xs++[x]):=by
 refine⟨by rw[List.length_append,List.length_append,h.1];rfl,λi q y h1 h2=>?_⟩;by_cases hi:i<ps.length
 ·rw[List.getElem?_append_left hi]at h1;rw[List.getElem?_append_left (by rw[←h.1];exact hi)]at h2;exact h.2 i q y h1 h2
 ·rw[List.getElem?_append_right (by omega)]at h1;rw[List.getElem?_append_right (by rw[←h.1];omega)]at h2;rw[List.mem_singleton.mp (List.mem_of_getElem? h1),List.mem_singleton.mp (List.mem_of_getElem? h2)];exact hp
theorem Each.at {α:Type}{R:Addr->α->Prop}{ps:List Addr}{xs:List α}(h:Each R ps xs){i:Nat}{x:α}(hx:xs[i]?=some x):∃p,ps[i]?=some p/\R p x:=by
 have hi:i<ps.length:=by rw[h.1];exact(List.getElem?_eq_some_iff.mp hx).1
 exact⟨_,List.getElem?_eq_getElem hi,h.2 i _ x (List.getElem?_eq_getElem hi) hx⟩
theorem Each.mem {α:Type}{R:Addr->α->Prop}{ps:List Addr}{xs:List α}(h:Each R ps xs){p:Addr}(hp:p∈ps):∃x,x∈xs/\R p x:=by
 obtain⟨i,hi⟩:=List.getElem?_of_mem hp;have hl:i<xs.length:=by rw[←h.1];exact(List.getElem?_eq_some_iff.mp hi).1
 exact⟨_,List.mem_of_getElem? (List.getElem?_eq_getElem hl),h.2 i p _ hi (List.getElem?_eq_getElem hl)⟩
theorem Each.set {α:Type}{R R':Addr->α->Prop}{ps:List Addr}{xs:List α}{i:Nat}{p:Addr}{x:α}(h:Each R ps xs)(hp:ps[i]?=some p)(hx:R' p x)(hn:ps.Nodup)(f:∀q y,q∈ps->q≠p->R q y->R' q y):Each R' ps (xs.set i x):=by
 refine⟨by rw[List.length_set];exact h.1,λj q y h1 h2=>?_⟩;by_cases e:i=j
 ·subst e;rw[hp]at h1;obtain rfl:=Option.some.inj h1;have hi:i<xs.length:=by rw[←h.1];exact(List.getElem?_eq_some_iff.mp hp).1
  rw[List.getElem?_set_self hi]at h2;obtain rfl:=Option.some.inj h2;exact hx
 ·rw[List.getElem?_set_ne e]at h2;refine f q y (List.mem_of_getElem? h1) (λz=>?_) (h.2 j q y h1 h2);subst z;exact e ((List.getElem?_inj (List.getElem?_eq_some_iff.mp hp).1 hn).mp (hp.trans h1.symm))
def RA.lists (a:RA):List Addr:=a.aR::a.aW::a.aG::a.aE::a.aC::a.aN::a.cs
def RA.dicts (a:RA):List Addr:=a.ws++a.gs
def RA.own (a:RA)(r b:Addr):Prop:=b=r\/b∈a.lists\/b∈a.dicts
structure RoomsAt (C:Addr) (H:Hp) (r:Addr) (S:RS) (a:RA):Prop where
 ins:H r=some (.ins C a.dx (flds S.L S.made a))
 hR:H a.aR=some (.lst (a.rs.map V.ref))
 hW:H a.aW=some (.lst (a.ws.map V.ref))
 hG:H a.aG=some (.lst (a.gs.map V.ref))
 hE:H a.aE=some (.lst (intV (nI S.elders)))
 hC:H a.aC=some (.lst (a.cs.map V.ref))
 hN:H a.aN=some (.lst (intV (nI S.went)))
 rR:Each (λp d=>DtAt H 4 (.ref p) d) a.rs S.rows
 rW:Each (λp l=>H p=some (.dK (wK l))) a.ws S.ways
 rG:Each (λp l=>H p=some (.dK (gK l))) a.gs S.gaps
 rC:Each (λp l=>H p=some (.lst (intV (nI l)))) a.cs S.called
 flat:∀d∈S.rows,NoL d
 ndL:a.lists.Nodup
 ndD:a.dicts.Nodup
section
variable {C:Addr} {H H':Hp} {r:Addr} {S:RS} {a:RA}
theorem RoomsAt.keep (h:RoomsAt C H r S a)(k:∀b o,a.own r b->H b=some o->H' b=some o)(kt:∀b xs,H b=some (.tup xs)->H' b=some (.tup xs)):RoomsAt C H' r S a:=by
 have kl:∀b o,b∈a.lists->H b=some o->H' b=some o:=λb o hb=>k b o (.inr (.inl hb))
 have kd:∀b o,b∈a.dicts->H b=some o->H' b=some o:=λb o hb=>k b o (.inr (.inr hb))
 exact⟨k _ _ (.inl rfl) h.ins,kl _ _ (by simp[RA.lists]) h.hR,kl _ _ (by simp[RA.lists]) h.hW,kl _ _ (by simp[RA.lists]) h.hG,kl _ _ (by simp[RA.lists]) h.hE,kl _ _ (by simp[RA.lists]) h.hC,kl _ _ (by simp[RA.lists]) h.hN,
  h.rR.imp λp x _ hx e=>e.keepT kt (h.flat x hx),h.rW.imp λp x hp _ e=>kd _ _ (List.mem_append_left _ hp) e,h.rG.imp λp x hp _ e=>kd _ _ (List.mem_append_right _ hp) e,
  h.rC.imp λp x hp _ e=>kl _ _ (by simp[RA.lists,hp]) e,h.flat,h.ndL,h.ndD⟩
theorem RoomsAt.same (h:RoomsAt C H r S a)(s:Same H H'):RoomsAt C H' r S a:=h.keep (λ_ _ _ e=>s _ _ e) (λ_ _ e=>s _ _ e)
theorem RoomsAt.there (h:RoomsAt C H r S a){b:Addr}(hb:a.own r b):∃o,H b=some o:=by
 rcases hb with rfl|hb|hb
 ·exact⟨_,h.ins⟩
 ·unfold RA.lists at hb;simp only[List.mem_cons]at hb;rcases hb with rfl|rfl|rfl|rfl|rfl|rfl|hb
  ·exact⟨_,h.hR⟩
  ·exact⟨_,h.hW⟩
  ·exact⟨_,h.hG⟩
  ·exact⟨_,h.hE⟩
  ·exact⟨_,h.hC⟩
  ·exact⟨_,h.hN⟩
  ·obtain⟨x,_,e⟩:=h.rC.mem hb;exact⟨_,e⟩
 ·rcases List.mem_append.mp hb with hb|hb
  ·obtain⟨x,_,e⟩:=h.rW.mem hb;exact⟨_,e⟩
  ·obtain⟨x,_,e⟩:=h.rG.mem hb;exact⟨_,e⟩
theorem RoomsAt.notup (h:RoomsAt C H r S a){b:Addr}{xs:List V}(e:H b=some (.tup xs)):¬a.own r b:=λhb=>by
 rcases hb with rfl|hb|hb
 ·rw[h.ins]at e;cases e
 ·unfold RA.lists at hb;simp only[List.mem_cons]at hb;rcases hb with rfl|rfl|rfl|rfl|rfl|rfl|hb
  ·rw[h.hR]at e;cases e
  ·rw[h.hW]at e;cases e
  ·rw[h.hG]at e;cases e
  ·rw[h.hE]at e;cases e
  ·rw[h.hC]at e;cases e
  ·rw[h.hN]at e;cases e
  ·obtain⟨x,_,e'⟩:=h.rC.mem hb;rw[e']at e;cases e
 ·rcases List.mem_append.mp hb with hb|hb
  ·obtain⟨x,_,e'⟩:=h.rW.mem hb;rw[e']at e;cases e
  ·obtain⟨x,_,e'⟩:=h.rG.mem hb;rw[e']at e;cases e
end
end L2
namespace L2
open PySem PySem.Spec PyProof.Rows
section
variable {C:Addr} {H H':Hp} {r:Addr} {S:RS} {a:RA}
theorem mem_R:a.aR∈a.lists:=by simp[RA.lists]
theorem mem_W:a.aW∈a.lists:=by simp[RA.lists]
theorem mem_G:a.aG∈a.lists:=by simp[RA.lists]
theorem mem_E:a.aE∈a.lists:=by simp[RA.lists]
theorem mem_C:a.aC∈a.lists:=by simp[RA.lists]
theorem mem_N:a.aN∈a.lists:=by simp[RA.lists]
theorem mem_cs {p:Addr}(h:p∈a.cs):p∈a.lists:=by simp[RA.lists,h]
theorem mem_ws {p:Addr}(h:p∈a.ws):p∈a.dicts:=List.mem_append_left _ h
theorem mem_gs {p:Addr}(h:p∈a.gs):p∈a.dicts:=List.mem_append_right _ h
theorem RoomsAt.isL (h:RoomsAt C H r S a){b:Addr}(hb:b∈a.lists):∃xs,H b=some (.lst xs):=by
 unfold RA.lists at hb;simp only[List.mem_cons]at hb;rcases hb with rfl|rfl|rfl|rfl|rfl|rfl|hb
 ·exact⟨_,h.hR⟩
 ·exact⟨_,h.hW⟩
 ·exact⟨_,h.hG⟩
 ·exact⟨_,h.hE⟩
 ·exact⟨_,h.hC⟩
 ·exact⟨_,h.hN⟩
 ·obtain⟨x,_,e⟩:=h.rC.mem hb;exact⟨_,e⟩
theorem RoomsAt.isD (h:RoomsAt C H r S a){b:Addr}(hb:b∈a.dicts):∃kvs,H b=some (.dK kvs):=by
 rcases List.mem_append.mp hb with hb|hb
 ·obtain⟨x,_,e⟩:=h.rW.mem hb;exact⟨_,e⟩
 ·obtain⟨x,_,e⟩:=h.rG.mem hb;exact⟨_,e⟩
theorem RoomsAt.rl (h:RoomsAt C H r S a){b:Addr}(hb:b∈a.lists):r≠b:=by obtain⟨xs,e⟩:=h.isL hb;exact ne_of h.ins e (by intro z;cases z)
theorem RoomsAt.rd (h:RoomsAt C H r S a){b:Addr}(hb:b∈a.dicts):r≠b:=by obtain⟨xs,e⟩:=h.isD hb;exact ne_of h.ins e (by intro z;cases z)
theorem RoomsAt.ld (h:RoomsAt C H r S a){b c:Addr}(hb:b∈a.lists)(hc:c∈a.dicts):b≠c:=by
 obtain⟨xs,e⟩:=h.isL hb;obtain⟨ys,e'⟩:=h.isD hc;exact ne_of e e' (by intro z;cases z)
theorem RoomsAt.tl (h:RoomsAt C H r S a){b c:Addr}{xs:List V}(hb:H b=some (.tup xs))(hc:c∈a.lists):b≠c:=λz=>h.notup hb (.inr (.inl (by rw[z];exact hc)))
theorem RoomsAt.td (h:RoomsAt C H r S a){b c:Addr}{xs:List V}(hb:H b=some (.tup xs))(hc:c∈a.dicts):b≠c:=λz=>h.notup hb (.inr (.inr (by rw[z];exact hc)))
theorem RoomsAt.tr (h:RoomsAt C H r S a){b:Addr}{xs:List V}(hb:H b=some (.tup xs)):b≠r:=λz=>h.notup hb (.inl z)
theorem RoomsAt.setMade (h:RoomsAt C H r S a)(n:Nat):RoomsAt C (upd H r (.ins C a.dx (flds S.L n a))) r { S with made:=n } a:=by
 have kl:∀b o,b∈a.lists->H b=some o->upd H r (.ins C a.dx (flds S.L n a)) b=some o:=λb o hb e=>by rw[upd_ne (h.rl hb).symm];exact e
 have kd:∀b o,b∈a.dicts->H b=some o->upd H r (.ins C a.dx (flds S.L n a)) b=some o:=λb o hb e=>by rw[upd_ne (h.rd hb).symm];exact e
 exact⟨upd_same,kl _ _ mem_R h.hR,kl _ _ mem_W h.hW,kl _ _ mem_G h.hG,kl _ _ mem_E h.hE,kl _ _ mem_C h.hC,kl _ _ mem_N h.hN,h.rR.imp λp x _ hx e=>e.keepT (λb xs eb=>by rw[upd_ne (h.tr eb)];exact eb) (h.flat x hx),
  h.rW.imp λp x hp _ e=>kd _ _ (mem_ws hp) e,h.rG.imp λp x hp _ e=>kd _ _ (mem_gs hp) e,h.rC.imp λp x hp _ e=>kl _ _ (mem_cs hp) e,h.flat,h.ndL,h.ndD⟩
theorem RoomsAt.listUpd (h:RoomsAt C H r S a){q:Addr}{o:HO}(hq:q∈a.lists):upd H q o r=some (.ins C a.dx (flds S.L S.made a))/\(∀b x,b∈a.lists->b≠q->H b=some x->upd H q o b=some x)/\(∀b x,b∈a.dicts->H b=some x->upd H q o b=some x)/\∀b xs,H b=some (.tup xs)->upd H q o b=some (.tup xs):=
 ⟨by rw[upd_ne (h.rl hq)];exact h.ins,λb x _ n e=>by rw[upd_ne n];exact e,λb x hb e=>by rw[upd_ne (h.ld hq hb).symm];exact e,λb xs e=>by rw[upd_ne (h.tl e hq)];exact e⟩
theorem nd7 (nd:a.lists.Nodup):(a.aR≠a.aW/\a.aR≠a.aG/\a.aR≠a.aE/\a.aR≠a.aC/\a.aR≠a.aN)/\(a.aW≠a.aG/\a.aW≠a.aE/\a.aW≠a.aC/\a.aW≠a.aN)/\(a.aG≠a.aE/\a.aG≠a.aC/\a.aG≠a.aN)/\(a.aE≠a.aC/\a.aE≠a.aN)/\a.aC≠a.aN/\∀p∈a.cs,p≠a.aR/\p≠a.aW/\p≠a.aG/\p≠a.aE/\p≠a.aC/\p≠a.aN:=by
 unfold RA.lists at nd;simp only[List.nodup_cons,List.mem_cons,not_or]at nd;obtain⟨⟨h1,h2,h3,h4,h5,h6⟩,⟨g2,g3,g4,g5,g6⟩,⟨f3,f4,f5,f6⟩,⟨e4,e5,e6⟩,⟨d5,d6⟩,c6,-⟩:=nd;exact⟨⟨h1,h2,h3,h4,h5⟩,⟨g2,g3,g4,g5⟩,⟨f3,f4,f5⟩,⟨e4,e5⟩,d5,λp hp=>⟨λz=>h6 (z ▸ hp),λz=>g6 (z ▸ hp),λz=>f6 (z ▸ hp),λz=>e6 (z ▸ hp),λz=>d6 (z ▸ hp),λz=>c6 (z ▸ hp)⟩⟩
theorem RoomsAt.addRow (h:RoomsAt C H r S a){p:Addr}{d:Dt}(hp:DtAt H 4 (.ref p) d)(hd:NoL d):RoomsAt C (upd H a.aR (.lst (a.rs.map V.ref++[.ref p]))) r { S with rows:=S.rows++[d] } { a with rs:=a.rs++[p] }:=by
 obtain⟨h0,kl,kd,kt⟩:=h.listUpd (o:=.lst (a.rs.map V.ref++[.ref p])) (mem_R (a:=a));obtain⟨⟨n1,n2,n3,n4,n5⟩,-,-,-,-,nc⟩:=nd7 h.ndL
 refine⟨h0,?_,kl _ _ mem_W n1.symm h.hW,kl _ _ mem_G n2.symm h.hG,kl _ _ mem_E n3.symm h.hE,kl _ _ mem_C n4.symm h.hC,kl _ _ mem_N n5.symm h.hN,(h.rR.imp λq x _ hx e=>e.keepT kt (h.flat x hx)).snoc (hp.keepT kt hd),
  h.rW.imp λq x hq _ e=>kd _ _ (mem_ws hq) e,h.rG.imp λq x hq _ e=>kd _ _ (mem_gs hq) e,h.rC.imp λq x hq _ e=>kl _ _ (mem_cs hq) (nc q hq).1 e,λx hx=>?_,h.ndL,h.ndD⟩
 ·show upd H a.aR _ a.aR=some (.lst ((a.rs++[p]).map V.ref));rw[upd_same,List.map_append];rfl
 ·rcases List.mem_append.mp hx with hx|hx
  ·exact h.flat x hx
  ·rw[List.mem_singleton.mp hx];exact hd
theorem RoomsAt.addWay (h:RoomsAt C H r S a){p:Addr}{l:List (Int×Nat)}(hp:H p=some (.dK (wK l)))(hn:p∉a.dicts):RoomsAt C (upd H a.aW (.lst (a.ws.map V.ref++[.ref p]))) r { S with ways:=S.ways++[l] } { a with ws:=a.ws++[p] }:=by
 obtain⟨h0,kl,kd,kt⟩:=h.listUpd (o:=.lst (a.ws.map V.ref++[.ref p])) (mem_W (a:=a));obtain⟨⟨n1,-⟩,⟨n2,n3,n4,n5⟩,-,-,-,nc⟩:=nd7 h.ndL;have hpw:upd H a.aW (.lst (a.ws.map V.ref++[.ref p])) p=some (.dK (wK l)):=by rw[upd_ne (ne_of hp h.hW (by intro z;cases z))];exact hp
 refine⟨h0,kl _ _ mem_R n1 h.hR,?_,kl _ _ mem_G n2.symm h.hG,kl _ _ mem_E n3.symm h.hE,kl _ _ mem_C n4.symm h.hC,kl _ _ mem_N n5.symm h.hN,h.rR.imp λq x _ hx e=>e.keepT kt (h.flat x hx),
  (h.rW.imp λq x hq _ e=>kd _ _ (mem_ws hq) e).snoc hpw,h.rG.imp λq x hq _ e=>kd _ _ (mem_gs hq) e,h.rC.imp λq x hq _ e=>kl _ _ (mem_cs hq) (nc q hq).2.1 e,h.flat,h.ndL,?_⟩
 ·show upd H a.aW _ a.aW=some (.lst ((a.ws++[p]).map V.ref));rw[upd_same,List.map_append];rfl
 ·show (a.ws++[p]++a.gs).Nodup;rw[List.append_assoc];exact(List.perm_middle.nodup_iff).mpr (List.nodup_cons.mpr ⟨hn,h.ndD⟩)
theorem RoomsAt.addGap (h:RoomsAt C H r S a){p:Addr}{l:List Int}(hp:H p=some (.dK (gK l)))(hn:p∉a.dicts):RoomsAt C (upd H a.aG (.lst (a.gs.map V.ref++[.ref p]))) r { S with gaps:=S.gaps++[l] } { a with gs:=a.gs++[p] }:=by
 obtain⟨h0,kl,kd,kt⟩:=h.listUpd (o:=.lst (a.gs.map V.ref++[.ref p])) (mem_G (a:=a));obtain⟨⟨-,n1,-⟩,⟨n2,-⟩,⟨n3,n4,n5⟩,-,-,nc⟩:=nd7 h.ndL;have hpw:upd H a.aG (.lst (a.gs.map V.ref++[.ref p])) p=some (.dK (gK l)):=by rw[upd_ne (ne_of hp h.hG (by intro z;cases z))];exact hp
 refine⟨h0,kl _ _ mem_R n1 h.hR,kl _ _ mem_W n2 h.hW,?_,kl _ _ mem_E n3.symm h.hE,kl _ _ mem_C n4.symm h.hC,kl _ _ mem_N n5.symm h.hN,h.rR.imp λq x _ hx e=>e.keepT kt (h.flat x hx),
  h.rW.imp λq x hq _ e=>kd _ _ (mem_ws hq) e,(h.rG.imp λq x hq _ e=>kd _ _ (mem_gs hq) e).snoc hpw,h.rC.imp λq x hq _ e=>kl _ _ (mem_cs hq) (nc q hq).2.2.1 e,h.flat,h.ndL,?_⟩
 ·show upd H a.aG _ a.aG=some (.lst ((a.gs++[p]).map V.ref));rw[upd_same,List.map_append];rfl
 ·show (a.ws++(a.gs++[p])).Nodup;rw[←List.append_assoc];refine List.nodup_append.mpr ⟨h.ndD,by simp,λx hx y hy z=>?_⟩;rw[List.mem_singleton.mp hy]at z;exact hn (z ▸ hx)
theorem RoomsAt.setElders (h:RoomsAt C H r S a)(es:List Nat):RoomsAt C (upd H a.aE (.lst (intV (nI es)))) r { S with elders:=es } a:=by
 obtain⟨h0,kl,kd,kt⟩:=h.listUpd (o:=.lst (intV (nI es))) (mem_E (a:=a));obtain⟨⟨-,-,n1,-⟩,⟨-,n2,-⟩,⟨n3,-⟩,⟨n4,n5⟩,-,nc⟩:=nd7 h.ndL
 exact⟨h0,kl _ _ mem_R n1 h.hR,kl _ _ mem_W n2 h.hW,kl _ _ mem_G n3 h.hG,upd_same,kl _ _ mem_C n4.symm h.hC,kl _ _ mem_N n5.symm h.hN,h.rR.imp λq x _ hx e=>e.keepT kt (h.flat x hx),
  h.rW.imp λq x hq _ e=>kd _ _ (mem_ws hq) e,h.rG.imp λq x hq _ e=>kd _ _ (mem_gs hq) e,h.rC.imp λq x hq _ e=>kl _ _ (mem_cs hq) (nc q hq).2.2.2.1 e,h.flat,h.ndL,h.ndD⟩
theorem RoomsAt.setWent (h:RoomsAt C H r S a)(es:List Nat):RoomsAt C (upd H a.aN (.lst (intV (nI es)))) r { S with went:=es } a:=by
 obtain⟨h0,kl,kd,kt⟩:=h.listUpd (o:=.lst (intV (nI es))) (mem_N (a:=a));obtain⟨⟨-,-,-,-,n1⟩,⟨-,-,-,n2⟩,⟨-,-,n3⟩,⟨-,n4⟩,n5,nc⟩:=nd7 h.ndL
 exact⟨h0,kl _ _ mem_R n1 h.hR,kl _ _ mem_W n2 h.hW,kl _ _ mem_G n3 h.hG,kl _ _ mem_E n4 h.hE,kl _ _ mem_C n5 h.hC,upd_same,h.rR.imp λq x _ hx e=>e.keepT kt (h.flat x hx),
  h.rW.imp λq x hq _ e=>kd _ _ (mem_ws hq) e,h.rG.imp λq x hq _ e=>kd _ _ (mem_gs hq) e,h.rC.imp λq x hq _ e=>kl _ _ (mem_cs hq) (nc q hq).2.2.2.2.2 e,h.flat,h.ndL,h.ndD⟩
theorem RoomsAt.addCalled (h:RoomsAt C H r S a){p:Addr}{l:List Nat}(hp:H p=some (.lst (intV (nI l))))(hn:p∉a.lists):RoomsAt C (upd H a.aC (.lst (a.cs.map V.ref++[.ref p]))) r { S with called:=S.called++[l] } { a with cs:=a.cs++[p] }:=by
 obtain⟨h0,kl,kd,kt⟩:=h.listUpd (o:=.lst (a.cs.map V.ref++[.ref p])) (mem_C (a:=a));obtain⟨⟨-,-,-,n1,-⟩,⟨-,-,n2,-⟩,⟨-,n3,-⟩,⟨n4,-⟩,n5,nc⟩:=nd7 h.ndL;have npc:p≠a.aC:=λz=>hn (by rw[z];exact mem_C)
 have hpw:upd H a.aC (.lst (a.cs.map V.ref++[.ref p])) p=some (.lst (intV (nI l))):=by rw[upd_ne npc];exact hp
 refine⟨h0,kl _ _ mem_R n1 h.hR,kl _ _ mem_W n2 h.hW,kl _ _ mem_G n3 h.hG,kl _ _ mem_E n4 h.hE,?_,kl _ _ mem_N n5.symm h.hN,h.rR.imp λq x _ hx e=>e.keepT kt (h.flat x hx),
  h.rW.imp λq x hq _ e=>kd _ _ (mem_ws hq) e,h.rG.imp λq x hq _ e=>kd _ _ (mem_gs hq) e,(h.rC.imp λq x hq _ e=>kl _ _ (mem_cs hq) (nc q hq).2.2.2.2.1 e).snoc hpw,h.flat,?_,h.ndD⟩
 ·show upd H a.aC _ a.aC=some (.lst ((a.cs++[p]).map V.ref));rw[upd_same,List.map_append];rfl
 ·show (a.lists++[p]).Nodup;refine List.nodup_append.mpr ⟨h.ndL,by simp,λx hx y hy z=>?_⟩;rw[List.mem_singleton.mp hy]at z;exact hn (z ▸ hx)
theorem RoomsAt.setCalled (h:RoomsAt C H r S a){i:Nat}{p:Addr}(hp:a.cs[i]?=some p)(l:List Nat):RoomsAt C (upd H p (.lst (intV (nI l)))) r { S with called:=S.called.set i l } a:=by
 have hm:=List.mem_of_getElem? hp;obtain⟨h0,kl,kd,kt⟩:=h.listUpd (o:=.lst (intV (nI l))) (mem_cs hm);obtain⟨-,-,-,-,-,nc⟩:=nd7 h.ndL;obtain⟨n1,n2,n3,n4,n5,n6⟩:=nc p hm
 have ncs:a.cs.Nodup:=by
  have:=h.ndL;unfold RA.lists at this;simp only[List.nodup_cons]at this;exact this.2.2.2.2.2.2
 exact⟨h0,kl _ _ mem_R n1.symm h.hR,kl _ _ mem_W n2.symm h.hW,kl _ _ mem_G n3.symm h.hG,kl _ _ mem_E n4.symm h.hE,kl _ _ mem_C n5.symm h.hC,kl _ _ mem_N n6.symm h.hN,h.rR.imp λq x _ hx e=>e.keepT kt (h.flat x hx),
  h.rW.imp λq x hq _ e=>kd _ _ (mem_ws hq) e,h.rG.imp λq x hq _ e=>kd _ _ (mem_gs hq) e,h.rC.set hp upd_same ncs λq y hq n e=>kl _ _ (mem_cs hq) n e,h.flat,h.ndL,h.ndD⟩
theorem RoomsAt.dictUpd (h:RoomsAt C H r S a){q:Addr}{o:HO}(hq:q∈a.dicts):upd H q o r=some (.ins C a.dx (flds S.L S.made a))/\(∀b x,b∈a.dicts->b≠q->H b=some x->upd H q o b=some x)/\(∀b x,b∈a.lists->H b=some x->upd H q o b=some x)/\∀b xs,H b=some (.tup xs)->upd H q o b=some (.tup xs):=
 ⟨by rw[upd_ne (h.rd hq)];exact h.ins,λb x _ n e=>by rw[upd_ne n];exact e,λb x hb e=>by rw[upd_ne (h.ld hb hq)];exact e,λb xs e=>by rw[upd_ne (h.td e hq)];exact e⟩
theorem RoomsAt.setWay (h:RoomsAt C H r S a){i:Nat}{p:Addr}(hp:a.ws[i]?=some p)(l:List (Int×Nat)):RoomsAt C (upd H p (.dK (wK l))) r { S with ways:=S.ways.set i l } a:=by
 have hm:=List.mem_of_getElem? hp;obtain⟨h0,kd,kl,kt⟩:=h.dictUpd (o:=.dK (wK l)) (mem_ws hm);have nd:=List.nodup_append.mp h.ndD
 exact⟨h0,kl _ _ mem_R h.hR,kl _ _ mem_W h.hW,kl _ _ mem_G h.hG,kl _ _ mem_E h.hE,kl _ _ mem_C h.hC,kl _ _ mem_N h.hN,h.rR.imp λq x _ hx e=>e.keepT kt (h.flat x hx),
  h.rW.set hp upd_same nd.1 λq y hq n e=>kd _ _ (mem_ws hq) n e,h.rG.imp λq x hq _ e=>kd _ _ (mem_gs hq) (λz=>nd.2.2 p hm q hq z.symm) e,h.rC.imp λq x hq _ e=>kl _ _ (mem_cs hq) e,h.flat,h.ndL,h.ndD⟩
theorem RoomsAt.setGap (h:RoomsAt C H r S a){i:Nat}{p:Addr}(hp:a.gs[i]?=some p)(l:List Int):RoomsAt C (upd H p (.dK (gK l))) r { S with gaps:=S.gaps.set i l } a:=by
 have hm:=List.mem_of_getElem? hp;obtain⟨h0,kd,kl,kt⟩:=h.dictUpd (o:=.dK (gK l)) (mem_gs hm);have nd:=List.nodup_append.mp h.ndD
 exact⟨h0,kl _ _ mem_R h.hR,kl _ _ mem_W h.hW,kl _ _ mem_G h.hG,kl _ _ mem_E h.hE,kl _ _ mem_C h.hC,kl _ _ mem_N h.hN,h.rR.imp λq x _ hx e=>e.keepT kt (h.flat x hx),
  h.rW.imp λq x hq _ e=>kd _ _ (mem_ws hq) (λz=>nd.2.2 q hq p hm z) e,h.rG.set hp upd_same nd.2.1 λq y hq n e=>kd _ _ (mem_gs hq) n e,h.rC.imp λq x hq _ e=>kl _ _ (mem_cs hq) e,h.flat,h.ndL,h.ndD⟩
end
def RS.setW (S:RS)(i:Nat)(l:List (Int×Nat)):RS:={ S with ways:=S.ways.set i l }
def RS.setG (S:RS)(i:Nat)(l:List Int):RS:={ S with gaps:=S.gaps.set i l }
def RS.way (S:RS)(c:Nat):List (Int×Nat):=S.ways.getD c []
def RS.gap (S:RS)(c:Nat):List Int:=S.gaps.getD c []
def RS.by (S:RS)(c:Nat)(z:Int):Option Nat:=getW (S.way c) z
def RS.putWay (S:RS)(c:Nat)(z:Int)(d:Nat):RS:=S.setW c (putW (S.way c) z d)
def RS.noGap (S:RS)(c:Nat)(z:Int):RS:=S.setG c ((S.gap c).filter λx=>decide (x≠z))
def RS.keep (S:RS)(c:Nat)(z:Int)(d:Nat):RS:=(((S.putWay c z d).putWay d (-z) c).noGap c z).noGap d (-z)
def rowNew (c:Nat)(z:Int)(n:Nat):Dt:=.t [.s [110,101,119],.i c,.i z,.i n]
def RS.grown (S:RS)(c:Nat)(z:Int)(gaps:List Int):RS:={ S with made:=S.made+ 1,rows:=S.rows++[rowNew c z S.made],ways:=S.ways++[[]],gaps:=S.gaps++[gaps],elders:=S.elders++[S.made],called:=S.called++[[S.made]] }
def RS.make (S:RS)(c:Nat)(z:Int)(gaps:List Int):RS:=(S.grown c z gaps).keep c z S.made
def RS.new (L:Nat)(gaps:List Int):RS:=⟨L,1,[],[[]],[gaps],[0],[[0]],[]⟩
structure RS.Wf (S:RS):Prop where
 w:S.ways.length=S.made
 g:S.gaps.length=S.made
 e:S.elders.length=S.made
 c:S.called.length=S.made
end L2
namespace L2
open PySem PySem.Spec PyProof.Rows
section
variable {X:Cx} {e:Expr} {f:Str} {ta:TE} {pos:Pos}
theorem pe_fldK {K:PySem.W.Frag}(hK:X.K=K)(he:PE X e ta)(hb:attributeBase e f X.env (eval e X.env)=eval e X.env):PE X (.Attribute e f pos) (tFld K ta f):=by
 subst hK;exact pe_fld he hb
end
theorem comp_make {α:Type}{J:It}{H:Hp}{fv:St}{te:TE}{Q:VK}(n:Nat)(xs:Nat->V)(R:Hp->V->Nat->Prop)(hR:∀H1 H2 v i,Same H1 H2->R H1 v i->R H2 v i)(hfit:n<=sizeLine)
 (hgo:∀(i:Nat) H2,Same H H2->i<n->J.go i H2) (hy:∀(i:Nat) (x:V) (H2 H3:Hp),Same H H2->i<n->J.yld i H2 x H3->H3=H2/\x=xs i) (hst:∀H2,Same H H2->J.stop n H2)
 (he:∀(i:Nat) (H2:Hp) (Rr:VK),i<n->Same H H2->(∀v H3,Same H2 H3->R H3 v i->Rr v H3)->te (some (xs i)::fv) H2 Rr)
 (hQ:∀D H2 ys,Same H H2->H2 D=none->ys.length=n->(∀(i:Nat) (v:V),ys[i]?=some v->R H2 v i)->Q (.ref D) (upd H2 D (.lst ys))):CompGo te fv Q J H:=by
 refine⟨λi m ys H2=>m=n - i/\i<=n/\ys.length=i/\Same H H2/\∀(j:Nat) (v:V),ys[j]?=some v->R H2 v j,⟨n,by simp,Nat.zero_le _,rfl,λ_ _ e=>e,λj v h=>by simp at h⟩,?_⟩;rintro i m ys H2 ⟨rfl,hi,hl,s2,hr⟩;by_cases hlt:i<n
 ·refine .inr ⟨hgo i H2 s2 hlt,by omega,λx H3 hyl=>?_⟩;obtain⟨rfl,rfl⟩:=hy i x H2 H3 s2 hlt hyl;refine he i _ _ hlt s2 λv H4 s4 hv=>⟨n - (i+ 1),by omega,rfl,hlt,by rw[List.length_append,hl];rfl,s2.trans s4,λj w hw=>?_⟩
  by_cases hj:j<ys.length
  ·rw[List.getElem?_append_left hj]at hw;exact hR _ _ _ _ s4 (hr j w hw)
  ·rw[List.getElem?_append_right (by omega)]at hw
   have ej:j - ys.length=0:=by
    have:=(List.getElem?_eq_some_iff.mp hw).1;rw[List.length_singleton]at this;omega
   rw[ej]at hw;have:j=i:=by omega
   subst this;rw[←Option.some.inj hw];exact hv
 ·have e:i=n:=by omega
  subst e;exact .inl ⟨hst H2 s2,by omega,λD hD=>hQ D H2 ys s2 hD hl hr⟩
end L2
namespace L2
open PySem PySem.Spec PyProof.Rows
theorem refs_of {P:Nat->Addr->Prop}:∀(ys:List V) (k:Nat),(∀(i:Nat) (v:V),ys[i]?=some v->∃p,v=.ref p/\P (k+ i) p)->∃ps:List Addr,ys=ps.map V.ref/\∀(i:Nat) (p:Addr),ps[i]?=some p->P (k+ i) p
 |[],_,_=>⟨[],rfl,λi p h=>by simp at h⟩
 |v::ys,k,h=>by
  obtain⟨p,rfl,hp⟩:=h 0 v rfl
  obtain⟨ps,rfl,hps⟩:=refs_of (P:=P) ys (k+ 1) λi w hw=>by
   obtain⟨q,e,hq⟩:=h (i+ 1) w (by simpa using hw);exact⟨q,e,by rw[show k+ 1+ i=k+ (i+ 1) by omega];exact hq⟩
  refine⟨p::ps,rfl,λi q hq=>?_⟩
  cases i with
  |zero=>obtain rfl:p=q:=by simpa using hq
         exact hp
  |succ i=>
   have:=hps i q (by simpa using hq);rw[show k+ 1+ i=k+ (i+ 1) by omega]at this;exact this
theorem putF_le {f:Str}{v:V}{n:Nat}:∀{fs:List (Str×V)},fs.length<=n->(putF f v fs).length<=n+ 1
 |[],h=>by show 1<=n+ 1;omega
 |(g,x)::r,h=>by
  show (if g=f then (g,v)::r else (g,x)::putF f v r).length<=n+ 1;rw[List.length_cons]at h;split
  ·rw[List.length_cons];omega
  ·have:=putF_le (f:=f) (v:=v) (n:=n - 1) (fs:=r) (by omega);rw[List.length_cons];omega
theorem kit_int_tuple (K:PySem.W.Frag):PySem.W.kitOne K (.type "int") (.type "tuple")=some false:=by first|rfl|kernel_rfl
theorem kit_int_list (K:PySem.W.Frag):PySem.W.kitOne K (.type "int") (.type "list")=some false:=by first|rfl|kernel_rfl
theorem kit_int_dict (K:PySem.W.Frag):PySem.W.kitOne K (.type "int") (.type "dict")=some false:=by first|rfl|kernel_rfl
theorem kit_str_tuple (K:PySem.W.Frag):PySem.W.kitOne K (.type "str") (.type "tuple")=some false:=by first|rfl|kernel_rfl
theorem kit_str_list (K:PySem.W.Frag):PySem.W.kitOne K (.type "str") (.type "list")=some false:=by first|rfl|kernel_rfl
theorem kit_str_dict (K:PySem.W.Frag):PySem.W.kitOne K (.type "str") (.type "dict")=some false:=by first|rfl|kernel_rfl
end L2
namespace L2
open PySem PySem.Spec PyProof.Rows
theorem pairs_rel {P:Program}{w:World}:∀{es:List DictEntry} {vs:List (Key×Value)} {kvs:List (Key×V)},Pairs (mixKind P w) es vs->KV kvs vs->Vals (kvs.map λkv=>kV kv.1) (es.map (·.key))
 |[],_,_,.nil,r=>by cases r;exact .nil
 |e::es,_,_,.cons h1 h2 h3,r=>by
  cases r with
  |cons a b=>
   rw[List.map_cons,List.map_cons];refine .cons ?_ (pairs_rel h3 b);rw[a.1];exact mix_rel h1
theorem pairs_len {P:Program}{w:World}:∀{es:List DictEntry} {vs:List (Key×Value)},Pairs (mixKind P w) es vs->es.length=vs.length
 |_,_,.nil=>rfl
 |_,_,.cons _ _ h=>by rw[List.length_cons,List.length_cons,pairs_len h]
section
variable {X:Cx}
def rListK:List V->Hp->VK->Prop:=λxs H Q=>∃(d:Addr) (kvs:List (Key×V)),xs=[.ref d]/\H d=some (.dK kvs)/\∀l,H l=none->Q (.ref l) (upd H l (.lst (kvs.map λkv=>kV kv.1)))
theorem call_list_dK (hc:X.calm=true):CallR X (.type "list") rListK:=by
 intro pins s σ H xs us Q I r h;obtain⟨d,kvs,rfl,hd,q⟩:=h;obtain⟨u,rfl,rx⟩:=vals1 r;cases rx;obtain⟨hz,hsm,vs,rel,o,es,ep,ho,hcx,hdat,hk,hp,hn⟩:=dk_of I.hok hd;have hlen:kvs.length=vs.length:=rel.length;have hel:=pairs_len hp;have hsz:es.size=kvs.length:=by rw[←Array.length_toList,hel,hlen]
 refine Dk.call_list (I.ok.hd hc) hsm ⟨o,ho,hcx,hdat⟩ (by omega) λg1 tk acc' c' hk' hS' hacc=>?_
 have ea:acc'.toList=es.toList.map (·.key):=by
  refine List.ext_getElem? λi=>?_
  rw[Array.getElem?_toList,List.getElem?_map,Array.getElem?_toList]
  cases hv:acc'[i]? with
  |none=>
   have hi:es.size<=i:=by
    have h1:acc'.size<=i:=Array.getElem?_eq_none_iff.mp hv;rw[hacc.1]at h1;exact h1
   rw[Array.getElem?_eq_none hi];rfl
  |some v=>
   obtain⟨en,e1,rfl⟩:=hacc.2 i v hv;rw[e1];rfl
 have eb:acc'=(es.toList.map (·.key)).toArray:=by rw[←ea]
 rw[eb]at hS';have hv:=pairs_rel hp rel;exact⟨.ref s.heap.objs.size,_,I.laid (t':=tk) hk' (Nat.le_refl _) (show ObjOk X.prog X.w _ g1 _ (.lst (kvs.map λkv=>kV kv.1)) from ⟨by rw[List.length_map];exact hz,_,c',hv,hS'⟩),rfl,q _ (I.hok.fresh (Nat.le_refl _))⟩
end
end L2
namespace L2
open PySem PySem.Spec PyProof.Rows
section
variable {C:Addr} {H H':Hp} {r:Addr} {S:RS} {a:RA}
theorem RoomsAt.newWay (h:RoomsAt C H r S a){i:Nat}(hi:i<a.ws.length){q:Addr}{l:List (Int×Nat)}(hq:H q=some (.dK (wK l)))(hn:q∉a.dicts):RoomsAt C (upd H a.aW (.lst ((a.ws.map V.ref).set i (.ref q)))) r { S with ways:=S.ways.set i l } { a with ws:=a.ws.set i q }:=by
 obtain⟨h0,kl,kd,kt⟩:=h.listUpd (o:=.lst ((a.ws.map V.ref).set i (.ref q))) (mem_W (a:=a));obtain⟨⟨n1,-⟩,⟨n2,n3,n4,n5⟩,-,-,-,nc⟩:=nd7 h.ndL;have hqw:upd H a.aW (.lst ((a.ws.map V.ref).set i (.ref q))) q=some (.dK (wK l)):=by rw[upd_ne (ne_of hq h.hW (by intro z;cases z))];exact hq
 have nd:=List.nodup_append.mp h.ndD
 refine⟨h0,kl _ _ mem_R n1 h.hR,?_,kl _ _ mem_G n2.symm h.hG,kl _ _ mem_E n3.symm h.hE,kl _ _ mem_C n4.symm h.hC,kl _ _ mem_N n5.symm h.hN,h.rR.imp λq x _ hx e=>e.keepT kt (h.flat x hx),
  ?_,h.rG.imp λq x hq _ e=>kd _ _ (mem_gs hq) e,h.rC.imp λq x hq _ e=>kl _ _ (mem_cs hq) (nc q hq).2.1 e,h.flat,h.ndL,?_⟩
 ·show upd H a.aW _ a.aW=some (.lst ((a.ws.set i q).map V.ref));rw[upd_same,List.map_set]
 ·refine⟨by show (a.ws.set i q).length=(S.ways.set i l).length;rw[List.length_set,List.length_set];exact h.rW.1,λj p x e1 e2=>?_⟩;have e1':(a.ws.set i q)[j]?=some p:=e1
  have e2':(S.ways.set i l)[j]?=some x:=e2
  by_cases z:i=j
  ·subst z;rw[List.getElem?_set_self hi]at e1';rw[List.getElem?_set_self (by rw[←h.rW.1];exact hi)]at e2';obtain rfl:=Option.some.inj e1';obtain rfl:=Option.some.inj e2';exact hqw
  ·rw[List.getElem?_set_ne z]at e1' e2';exact kd _ _ (mem_ws (List.mem_of_getElem? e1')) (h.rW.2 j p x e1' e2')
 ·show (a.ws.set i q++a.gs).Nodup;have qw:q∉a.ws:=λz=>hn (List.mem_append_left _ z)
  have qg:q∉a.gs:=λz=>hn (List.mem_append_right _ z)
  refine List.nodup_append.mpr ⟨?_,nd.2.1,λx hx y hy z=>?_⟩
  ·have:∀(l:List Addr) (i:Nat),l.Nodup->q∉l->(l.set i q).Nodup:=by
    intro l
    induction l with
    |nil=>intro i _ _;simp
    |cons x l ih=>
     intro i h1 h2;obtain⟨h3,h4⟩:=List.nodup_cons.mp h1;have h5:q≠x:=λz=>h2 (by rw[z];exact List.mem_cons_self)
     have h6:q∉l:=λz=>h2 (List.mem_cons_of_mem _ z)
     cases i with
     |zero=>exact List.nodup_cons.mpr ⟨h6,h4⟩
     |succ i=>
      refine List.nodup_cons.mpr ⟨λz=>?_,ih i h4 h6⟩;rcases List.mem_or_eq_of_mem_set z with z|z
      ·exact h3 z
      ·exact h5 z.symm
   exact this a.ws i nd.1 qw
  ·rcases List.mem_or_eq_of_mem_set hx with hx|hx
   ·exact nd.2.2 x hx y hy z
   ·rw[←hx,z]at qg;exact qg hy
end
theorem wK_drop (l:List (Int×Nat))(s:Int):dropK (wK l) (Sum.inl s)=wK (l.filter λp=>decide (p.1≠s)):=by
 unfold dropK wK;rw[List.filter_map]
 congr 1
 refine List.filter_congr λx _=>?_
 show decide ((Sum.inl x.1:Key)≠Sum.inl s)=decide (x.1≠s);rw[Bool.eq_iff_iff,decide_eq_true_iff,decide_eq_true_iff];exact⟨λh z=>h (congrArg Sum.inl z),λh z=>h (Sum.inl.inj z)⟩
theorem getW_drop (l:List (Int×Nat))(s t:Int):getW (l.filter λp=>decide (p.1≠s)) t=if t=s then none else getW l t:=by
 induction l with
 |nil=>unfold getW;split <;> rfl
 |cons p l ih=>
  have hc:∀(q:Int×Nat) (m:List (Int×Nat)),getW (q::m) t=if q.1=t then some q.2 else getW m t:=λq m=>by
   unfold getW;by_cases h:q.1=t
   ·rw[List.find?_cons_of_pos (by exact decide_eq_true h),if_pos h];rfl
   ·rw[List.find?_cons_of_neg (by simpa using h),if_neg h]
  by_cases h:p.1=s
  ·rw[List.filter_cons_of_neg (by simpa using h),ih,hc];by_cases e:t=s
   ·rw[if_pos e,if_pos e]
   ·rw[if_neg e,if_neg e,if_neg (λz=>e (z.symm.trans h))]
  ·rw[List.filter_cons_of_pos (by simpa using h),hc,hc,ih];by_cases e:p.1=t
   ·rw[if_pos e,if_pos e,if_neg (λz=>h (e.trans z))]
   ·rw[if_neg e,if_neg e]
abbrev Way:=Nat×Int×Nat
def RS.eld (S:RS)(c:Nat):Nat:=S.elders.getD c 0
def RS.cal (S:RS)(c:Nat):List Nat:=S.called.getD c []
def rowMeet (c:Nat)(z:Int)(x y:Nat):Dt:=.t [.s [109,101,101,116],.i c,.i z,.i x,.i y]
def RS.joined (S:RS)(c:Nat)(z:Int)(x y:Nat):RS:=
 { S with rows:=S.rows++[rowMeet c z x y],went:=S.went++[y],elders:=(S.cal y).foldl (λes n=>es.set n x) S.elders,called:=S.called.set x (S.cal x++S.cal y) }
def RS.dropWay (S:RS)(c:Nat)(z:Int):RS:=S.setW c ((S.way c).filter λp=>decide (p.1≠z))
def offStep (c:Nat)(st:RS×List Way)(p:Int×Nat):RS×List Way:=(if p.2≠c then st.1.dropWay p.2 (-p.1) else st.1,st.2++[(c,p.1,p.2)])
def RS.putOff (S:RS)(c:Nat)(pend:List Way):RS×List Way:=(S.way c).foldl (offStep c) (S.setW c [],pend)
def RS.meet (S:RS)(c:Nat)(z:Int)(x y:Nat)(pend:List Way):RS×List Way:=(S.joined c z (min x y) (max x y)).putOff (max x y) pend
def RS.takeIn (S:RS)(pend:List Way)(w:Way):RS×List Way:=
 if (S.by (S.eld w.1) w.2.1).getD (S.eld w.2.2)≠S.eld w.2.2 then S.meet (S.eld w.1) w.2.1 ((S.by (S.eld w.1) w.2.1).getD (S.eld w.2.2)) (S.eld w.2.2) pend
 else if (S.by (S.eld w.2.2) (-w.2.1)).getD (S.eld w.1)≠S.eld w.1 then S.meet (S.eld w.2.2) (-w.2.1) ((S.by (S.eld w.2.2) (-w.2.1)).getD (S.eld w.1)) (S.eld w.1) pend
 else (S.keep (S.eld w.1) w.2.1 (S.eld w.2.2),pend)
structure OffOk (S:RS) (c:Nat):Prop where
 nd:((S.way c).map (·.1)).Nodup
 lt:∀q∈S.way c,q.2<S.made
 bk:∀q∈S.way c,q.2≠c->(S.by q.2 (-q.1)).isSome=true
theorem way_setW {S:RS}{c c':Nat}{l:List (Int×Nat)}(hc:c<S.ways.length):(S.setW c l).way c'=if c'=c then l else S.way c':=by
 unfold RS.setW RS.way;show (S.ways.set c l).getD c' []=_;rw[List.getD_eq_getElem?_getD,List.getD_eq_getElem?_getD];by_cases h:c=c'
 ·subst h;rw[List.getElem?_set_self hc,if_pos rfl];rfl
 ·rw[List.getElem?_set_ne h,if_neg (Ne.symm h)]
theorem by_putWay {S:RS}{c c' d:Nat}{z z':Int}(hc:c<S.ways.length):(S.putWay c z d).by c' z'=if c'=c/\z'=z then some d else S.by c' z':=by
 unfold RS.putWay RS.by;rw[way_setW hc];by_cases h:c'=c
 ·subst h;rw[if_pos rfl,getW_put];by_cases hz:z'=z
  ·rw[if_pos hz,if_pos ⟨rfl,hz⟩]
  ·rw[if_neg hz,if_neg (λq=>hz q.2)]
 ·rw[if_neg h,if_neg (λq=>h q.1)]
theorem by_dropWay {S:RS}{c c':Nat}{z z':Int}(hc:c<S.ways.length):(S.dropWay c z).by c' z'=if c'=c/\z'=z then none else S.by c' z':=by
 unfold RS.dropWay RS.by;rw[way_setW hc];by_cases h:c'=c
 ·subst h;rw[if_pos rfl,getW_drop];by_cases hz:z'=z
  ·rw[if_pos hz,if_pos ⟨rfl,hz⟩]
  ·rw[if_neg hz,if_neg (λq=>hz q.2)]
 ·rw[if_neg h,if_neg (λq=>h q.1)]
theorem by_setW {S:RS}{c c':Nat}{l:List (Int×Nat)}{z:Int}(hc:c<S.ways.length):(S.setW c l).by c' z=if c'=c then getW l z else S.by c' z:=by
 unfold RS.by;rw[way_setW hc];split <;> rfl
def offs (c:Nat)(S:RS)(pend:List Way)(ps:List (Int×Nat)):RS×List Way:=ps.foldl (offStep c) (S.setW c [],pend)
theorem offs_snoc (c:Nat)(S:RS)(pend:List Way)(ps:List (Int×Nat))(p:Int×Nat):offs c S pend (ps++[p])=offStep c (offs c S pend ps) p:=by unfold offs;rw[List.foldl_append];rfl
theorem snoc_ind {α:Type}{P:List α->Prop}(h0:P [])(h1:∀l x,P l->P (l++[x])):∀l,P l:=λl=>by
 have:∀n (l:List α),l.length=n->P l:=by
  intro n
  induction n with
  |zero=>intro l e;rw[List.eq_nil_of_length_eq_zero e];exact h0
  |succ n ih=>
   intro l e;have hne:l≠[]:=λz=>by rw[z]at e;cases e
   rw[←List.dropLast_concat_getLast hne];exact h1 _ _ (ih _ (by rw[List.length_dropLast];omega))
 exact this _ l rfl
theorem offs_pend (c:Nat)(S:RS)(pend:List Way):∀ps:List (Int×Nat),(offs c S pend ps).2=pend++ps.map λp=>(c,p.1,p.2):=by
 refine snoc_ind (by simp[offs]) λps p ih=>?_
 rw[offs_snoc];show (offs c S pend ps).2++_=_;rw[ih,List.map_append,List.append_assoc];rfl
theorem offs_rest (c:Nat)(S:RS)(pend:List Way):∀ps:List (Int×Nat),(offs c S pend ps).1.ways.length=S.ways.length/\(offs c S pend ps).1={ S with ways:=(offs c S pend ps).1.ways }:=by
 refine snoc_ind ⟨by simp[offs,RS.setW],rfl⟩ λps p ih=>?_
 rw[offs_snoc];unfold offStep;by_cases h:p.2≠c
 ·simp only[h,if_true,not_false_eq_true,ne_eq];refine⟨?_,?_⟩
  ·show (List.set _ _ _).length=_;rw[List.length_set];exact ih.1
  ·unfold RS.dropWay RS.setW;rw[ih.2]
 ·simp only[h,if_false];exact ih
theorem offs_by {c:Nat}{S:RS}{pend:List Way}(hc:c<S.ways.length):∀ps:List (Int×Nat),(∀q∈ps,q.2<S.ways.length)->∀d z,(offs c S pend ps).1.by d z=if d=c\/∃q∈ps,q.2=d/\z= -q.1 then none else S.by d z:=by
 refine snoc_ind (λ_ d z=>?_) λps p ih hl d z=>?_
 ·show (S.setW c []).by d z=_;rw[by_setW hc];by_cases h:d=c
  ·rw[if_pos h,if_pos (.inl h)];rfl
  ·rw[if_neg h,if_neg (by rintro (q|⟨q,hq,_⟩);exact h q;cases hq)]
 ·have ih':=ih (λq hq=>hl q (List.mem_append_left _ hq)) d z;have hp:=hl p (List.mem_append_right _ List.mem_cons_self);rw[offs_snoc];unfold offStep;by_cases h:p.2≠c
  ·simp only[h,if_true,not_false_eq_true,ne_eq];rw[by_dropWay (by rw[(offs_rest c S pend ps).1];exact hp),ih'];by_cases e:d=p.2/\z= -p.1
   ·rw[if_pos e,if_pos (.inr ⟨p,List.mem_append_right _ List.mem_cons_self,e.1.symm,e.2⟩)]
   ·rw[if_neg e];by_cases e2:d=c\/∃q∈ps,q.2=d/\z= -q.1
    ·rw[if_pos e2,if_pos (e2.imp id λ⟨q,hq,r⟩=>⟨q,List.mem_append_left _ hq,r⟩)]
    ·rw[if_neg e2,if_neg];rintro (q|⟨q,hq,r⟩)
     ·exact e2 (.inl q)
     ·rcases List.mem_append.mp hq with hq|hq
      ·exact e2 (.inr ⟨q,hq,r⟩)
      ·rw[List.mem_singleton.mp hq]at r;exact e ⟨r.1.symm,r.2⟩
  ·simp only[h,if_false];rw[ih'];have h':p.2=c:=Decidable.not_not.mp h;by_cases e2:d=c\/∃q∈ps,q.2=d/\z= -q.1
   ·rw[if_pos e2,if_pos (e2.imp id λ⟨q,hq,r⟩=>⟨q,List.mem_append_left _ hq,r⟩)]
   ·rw[if_neg e2,if_neg];rintro (q|⟨q,hq,r⟩)
    ·exact e2 (.inl q)
    ·rcases List.mem_append.mp hq with hq|hq
     ·exact e2 (.inr ⟨q,hq,r⟩)
     ·rw[List.mem_singleton.mp hq]at r;exact e2 (.inl (r.1.symm.trans h'))
end L2
namespace L2
open PySem PySem.Spec PyProof.Rows
inductive Cg (R:Nat->Int->Nat->Prop):Nat->Nat->Prop where
 |refl (a:Nat):Cg R a a
 |symm {a b:Nat}:Cg R a b->Cg R b a
 |trans {a b c:Nat}:Cg R a b->Cg R b c->Cg R a c
 |step {a a' b b':Nat} {z:Int}:R a z b->R a' z b'->Cg R a a'->Cg R b b'
theorem Cg.mono {R R':Nat->Int->Nat->Prop}(h:∀a z b,R a z b->R' a z b){a b:Nat}(c:Cg R a b):Cg R' a b:=by
 induction c with
 |refl=>exact .refl _
 |symm _ ih=>exact .symm ih
 |trans _ _ i1 i2=>exact .trans i1 i2
 |step r1 r2 _ ih=>exact .step (h _ _ _ r1) (h _ _ _ r2) ih
def Im (S:RS)(R:Nat->Int->Nat->Prop)(c:Nat)(z:Int)(d:Nat):Prop:=∃c' d',R c' z d'/\S.eld c'=c/\S.eld d'=d
def Cov (S:RS)(pend:List Way)(c:Nat)(z:Int)(d:Nat):Prop:=S.by c z=some d\/∃w∈pend,(S.eld w.1=c/\w.2.1=z/\S.eld w.2.2=d)\/(S.eld w.1=d/\w.2.1= -z/\S.eld w.2.2=c)
structure Good (S:RS) (pend:List Way) (R:Nat->Int->Nat->Prop):Prop where
 wf:S.Wf
 el:∀c,c<S.made->S.eld c<=c/\S.eld (S.eld c)=S.eld c
 ca:∀e,e<S.made->S.eld e=e->∀c,c∈S.cal e↔c<S.made/\S.eld c=e
 cb:∀e c,c∈S.cal e->c<S.made
 cn:∀e,(S.cal e).Nodup
 kn:∀c,((S.way c).map (·.1)).Nodup
 st:∀c z d,S.by c z=some d->c<S.made/\d<S.made/\S.eld c=c/\S.eld d=d
 sy:∀c z d,S.by c z=some d->S.by d (-z)=some c
 pl:∀w∈pend,w.1<S.made/\w.2.2<S.made
 rl:∀c z d,R c z d->c<S.made/\d<S.made/\R d (-z) c
 cv:∀c z d,R c z d->Cov S pend (S.eld c) z (S.eld d)
 so:∀c z d,S.by c z=some d->Im S R c z d
 sp:∀w∈pend,Im S R (S.eld w.1) w.2.1 (S.eld w.2.2)
 cg:∀c,c<S.made->Cg R c (S.eld c)
section
variable {S:RS} {pend:List Way} {R:Nat->Int->Nat->Prop}
theorem Good.lt (h:Good S pend R){c:Nat}(hc:c<S.made):S.eld c<S.made:=Nat.lt_of_le_of_lt (h.el c hc).1 hc
theorem Im.back (h:Good S pend R){c d:Nat}{z:Int}(i:Im S R c z d):Im S R d (-z) c:=by
 obtain⟨c',d',r,e1,e2⟩:=i;exact⟨d',c',(h.rl _ _ _ r).2.2,e2,e1⟩
theorem Good.must (h:Good S pend R){c x y:Nat}{z:Int}(i:Im S R c z x)(j:Im S R c z y):Cg R x y:=by
 obtain⟨c1,x1,r1,e1,e2⟩:=i;obtain⟨c2,y2,r2,f1,f2⟩:=j;obtain⟨l1,l2,_⟩:=h.rl _ _ _ r1;obtain⟨m1,m2,_⟩:=h.rl _ _ _ r2;have a1:=h.cg _ l1;have a2:=h.cg _ l2;have b1:=h.cg _ m1;have b2:=h.cg _ m2;rw[e1]at a1;rw[e2]at a2;rw[f1]at b1;rw[f2]at b2;exact a2.symm.trans ((Cg.step r1 r2 (a1.trans b1.symm)).trans b2)
theorem Good.keep (h:Good S pend R){c d:Nat}{z:Int}(hc:c<S.made)(hd:d<S.made)(ec:S.eld c=c)(ed:S.eld d=d)(i:Im S R c z d)(h1:S.by c z=none\/S.by c z=some d)(h2:S.by d (-z)=none\/S.by d (-z)=some c){pend':List Way}(hp:∀w∈pend',w∈pend)
 (hcv:∀w∈pend,w∉pend'->S.eld w.1=c/\w.2.1=z/\S.eld w.2.2=d):Good (S.keep c z d) pend' R:=by
 have hcw:c<S.ways.length:=by rw[h.wf.w];exact hc
 have hdw:d<S.ways.length:=by rw[h.wf.w];exact hd
 have hby:∀a s,(S.keep c z d).by a s=if a=d/\s= -z then some c else if a=c/\s=z then some d else S.by a s:=λa s=>by
  show ((S.putWay c z d).putWay d (-z) c).by a s=_;rw[by_putWay (by show d<(S.ways.set c _).length;rw[List.length_set];exact hdw),by_putWay hcw]
 have old:∀a s b,S.by a s=some b->(S.keep c z d).by a s=some b:=λa s b e=>by
  rw[hby];by_cases q1:a=d/\s= -z
  ·rw[if_pos q1];obtain⟨rfl,rfl⟩:=q1;rcases h2 with q|q <;> rw[q]at e <;> cases e
   rfl
  ·rw[if_neg q1];by_cases q2:a=c/\s=z
   ·rw[if_pos q2];obtain⟨rfl,rfl⟩:=q2;rcases h1 with q|q <;> rw[q]at e <;> cases e
    rfl
   ·rw[if_neg q2];exact e
 have el:∀a,(S.keep c z d).eld a=S.eld a:=λa=>rfl
 have new:∀a s b,(S.keep c z d).by a s=some b->(a=d/\s= -z/\b=c)\/(a=c/\s=z/\b=d)\/S.by a s=some b:=λa s b e=>by
  rw[hby]at e;by_cases q1:a=d/\s= -z
  ·rw[if_pos q1]at e;exact .inl ⟨q1.1,q1.2,(Option.some.inj e).symm⟩
  ·rw[if_neg q1]at e;by_cases q2:a=c/\s=z
   ·rw[if_pos q2]at e;exact .inr (.inl ⟨q2.1,q2.2,(Option.some.inj e).symm⟩)
   ·rw[if_neg q2]at e;exact .inr (.inr e)
 have put1:(S.keep c z d).by d (-z)=some c:=by rw[hby,if_pos ⟨rfl,rfl⟩]
 have put2:(S.keep c z d).by c z=some d:=by
  rw[hby];by_cases q1:c=d/\z= -z
  ·rw[if_pos q1,q1.1]
  ·rw[if_neg q1,if_pos ⟨rfl,rfl⟩]
 have knp:∀(l:List (Int×Nat)) (s:Int) (r:Nat),(l.map (·.1)).Nodup->((putW l s r).map (·.1)).Nodup:=λl s r hl=>by
  unfold putW;split
  ·rw[List.map_map]
   have:((λx:Int×Nat=>x.1) ∘ λp:Int×Nat=>if p.1=s then (p.1,r) else p)=λx=>x.1:=by
    funext p
    show (if p.1=s then (p.1,r) else p).1=p.1;split <;> rfl
   rw[this];exact hl
  ·rename_i q;rw[List.map_append];refine List.nodup_append.mpr ⟨hl,by simp,λa ha b hb e=>q ?_⟩;obtain⟨p,hp,rfl⟩:=List.mem_map.mp ha;have:b=s:=by simpa using hb
   exact List.any_eq_true.mpr ⟨p,hp,decide_eq_true (e.trans this)⟩
 refine⟨⟨?_,?_,h.wf.e,h.wf.c⟩,h.el,h.ca,h.cb,h.cn,λa=>?_,λa s b e=>?_,λa s b e=>?_,λw hw=>h.pl w (hp w hw),h.rl,λa s b r=>?_,λa s b e=>?_,λw hw=>h.sp w (hp w hw),h.cg⟩
 ·show ((List.set _ _ _).set _ _).length=S.made;rw[List.length_set,List.length_set];exact h.wf.w
 ·show ((List.set _ _ _).set _ _).length=S.made;rw[List.length_set,List.length_set];exact h.wf.g
 ·show ((((S.putWay c z d).putWay d (-z) c).way a).map (·.1)).Nodup;unfold RS.putWay;rw[way_setW (by show d<(S.ways.set c _).length;rw[List.length_set];exact hdw)]
  have k1:∀a,(((S.setW c (putW (S.way c) z d)).way a).map (·.1)).Nodup:=λa=>by
   rw[way_setW hcw];split
   ·exact knp _ _ _ (h.kn c)
   ·exact h.kn a
  split
  ·exact knp _ _ _ (k1 d)
  ·exact k1 a
 ·rcases new a s b e with ⟨rfl,rfl,rfl⟩|⟨rfl,rfl,rfl⟩|e
  ·exact⟨hd,hc,ed,ec⟩
  ·exact⟨hc,hd,ec,ed⟩
  ·exact h.st a s b e
 ·rcases new a s b e with ⟨rfl,rfl,rfl⟩|⟨rfl,rfl,rfl⟩|e
  ·rw[Int.neg_neg];exact put2
  ·exact put1
  ·exact old _ _ _ (h.sy _ _ _ e)
 ·rcases h.cv a s b r with q|⟨w,hw,q⟩
  ·exact .inl (old _ _ _ q)
  ·by_cases hm:w∈pend'
   ·exact .inr ⟨w,hm,q⟩
   ·obtain⟨f1,f2,f3⟩:=hcv w hw hm;refine .inl ?_;show (S.keep c z d).by (S.eld a) s=some (S.eld b);rcases q with ⟨q1,q2,q3⟩|⟨q1,q2,q3⟩
    ·rw[←q1,←q2,←q3,f1,f2,f3];exact put2
    ·have es:s= -z:=by rw[←f2,q2,Int.neg_neg]
     rw[←q1,←q3,f1,f3,es];exact put1
 ·rcases new a s b e with ⟨rfl,rfl,rfl⟩|⟨rfl,rfl,rfl⟩|e
  ·exact Im.back h i
  ·exact i
  ·exact h.so a s b e
end
theorem fold_set (x:Nat):∀(l es:List Nat) (a:Nat),(∀n∈l,n<es.length)->(l.foldl (λes n=>es.set n x) es).getD a 0=if a∈l then x else es.getD a 0
 |[],es,a,_=>by simp
 |n::l,es,a,h=>by
  rw[List.foldl_cons,fold_set x l (es.set n x) a (λm hm=>by rw[List.length_set];exact h m (List.mem_cons_of_mem _ hm))];by_cases h1:a∈l
  ·rw[if_pos h1,if_pos (List.mem_cons_of_mem _ h1)]
  ·rw[if_neg h1];by_cases h2:a=n
   ·subst h2;rw[if_pos List.mem_cons_self,List.getD_eq_getElem?_getD,List.getElem?_set_self (h a List.mem_cons_self)];rfl
   ·rw[if_neg (λz=>(List.mem_cons.mp z).elim h2 h1),List.getD_eq_getElem?_getD,List.getElem?_set_ne (Ne.symm h2),←List.getD_eq_getElem?_getD]
theorem fold_setL (x:Nat):∀(l es:List Nat),(l.foldl (λes n=>es.set n x) es).length=es.length
 |[],_=>rfl
 |n::l,es=>by rw[List.foldl_cons,fold_setL x l,List.length_set]
theorem getW_some {l:List (Int×Nat)}{s:Int}{r:Nat}(h:getW l s=some r):(s,r)∈l:=by
 unfold getW at h;obtain⟨q,hq,rfl⟩:=Option.map_eq_some_iff.mp h;have h1:=List.find?_some hq;have h2:=List.mem_of_find?_eq_some hq;have:q.1=s:=of_decide_eq_true h1;rw[←this];exact h2
theorem getW_of {l:List (Int×Nat)}(nd:(l.map (·.1)).Nodup){q:Int×Nat}(h:q∈l):getW l q.1=some q.2:=by
 induction l with
 |nil=>cases h
 |cons p l ih=>
  unfold getW;rw[List.map_cons,List.nodup_cons]at nd;by_cases e:p.1=q.1
  ·rw[List.find?_cons_of_pos (by exact decide_eq_true e)];rcases List.mem_cons.mp h with rfl|h
   ·rfl
   ·exact absurd (by rw[e];exact List.mem_map_of_mem h) nd.1
  ·rw[List.find?_cons_of_neg (by simpa using e)];rcases List.mem_cons.mp h with rfl|h
   ·exact absurd rfl e
   ·exact ih nd.2 h
theorem nodup_lenN:∀(n:Nat) (l:List Nat),l.Nodup->(∀x∈l,x<n)->l.length<=n
 |0,[],_,_=>Nat.le_refl _
 |0,a::l,_,h=>absurd (h a (List.mem_cons_self ..)) (by omega)
 |n+ 1,l,hn,h=>by
  by_cases hm:n∈l
  ·have:=nodup_lenN n (l.erase n) (hn.erase n) (λx hx=>by
    have h1:=(hn.mem_erase_iff).mp hx;have h2:=h x h1.2;have h3:=h1.1;omega)
   rw[List.length_erase_of_mem hm]at this;omega
  ·have:=nodup_lenN n l hn (λx hx=>by
    have h2:=h x hx;have h3:x≠n:=λz=>hm (by rw[←z];exact hx)
    omega)
   omega
theorem nodup_sub:∀(k l:List Int),l.Nodup->(∀x∈l,x∈k)->l.length<=k.length
 |[],[],_,_=>Nat.le_refl _
 |[],a::l,_,h=>by have:=h a List.mem_cons_self;cases this
 |y::k,l,hn,h=>by
  by_cases hm:y∈l
  ·have:=nodup_sub k (l.erase y) (hn.erase y) (λx hx=>by
    have h1:=(hn.mem_erase_iff).mp hx;rcases List.mem_cons.mp (h x h1.2) with e|e
    ·exact absurd e h1.1
    ·exact e)
   rw[List.length_erase_of_mem hm]at this;have:1<=l.length:=List.length_pos_of_mem hm;rw[List.length_cons];omega
  ·have:=nodup_sub k l hn (λx hx=>by
    rcases List.mem_cons.mp (h x hx) with e|e
    ·exact absurd (e ▸ hx) hm
    ·exact e)
   rw[List.length_cons];omega
theorem offs_kn {c:Nat}{S:RS}{pend:List Way}(hc:c<S.ways.length)(kn:∀a,((S.way a).map (·.1)).Nodup):∀ps:List (Int×Nat),(∀q∈ps,q.2<S.ways.length)->∀a,(((offs c S pend ps).1.way a).map (·.1)).Nodup:=by
 refine snoc_ind (λ_ a=>?_) λps p ih hl a=>?_
 ·show (((S.setW c []).way a).map (·.1)).Nodup;rw[way_setW hc];split
  ·exact List.nodup_nil
  ·exact kn a
 ·have ih':=ih (λq hq=>hl q (List.mem_append_left _ hq));rw[offs_snoc];unfold offStep;by_cases h:p.2≠c
  ·simp only[h,if_true,not_false_eq_true,ne_eq];unfold RS.dropWay;rw[way_setW (by rw[(offs_rest c S pend ps).1];exact hl p (List.mem_append_right _ List.mem_cons_self))];split
   ·exact List.Nodup.sublist (List.Sublist.map _ List.filter_sublist) (ih' p.2)
   ·exact ih' a
  ·simp only[h,if_false];exact ih' a
section
variable {S:RS} {pend:List Way} {R:Nat->Int->Nat->Prop}
theorem Cov.back (h:Good S pend R){S':RS}{pend':List Way}(sy:∀c z d,S'.by c z=some d->S'.by d (-z)=some c){c d:Nat}{z:Int}(i:Cov S' pend' c z d):Cov S' pend' d (-z) c:=by
 rcases i with q|⟨w,hw,q⟩
 ·exact .inl (sy _ _ _ q)
 ·refine .inr ⟨w,hw,?_⟩;rcases q with ⟨q1,q2,q3⟩|⟨q1,q2,q3⟩
  ·exact .inr ⟨q1,by rw[q2,Int.neg_neg],q3⟩
  ·exact .inl ⟨q1,q2,q3⟩
theorem Good.meet (h:Good S pend R){c x y:Nat}{z:Int}(hx:S.by c z=some x)(hy:y<S.made)(ey:S.eld y=y)(hxy:x≠y)(iy:Im S R c z y){pend':List Way}(hp:∀w∈pend',w∈pend)
 (hcv:∀w∈pend,w∉pend'->(S.eld w.1=c/\w.2.1=z/\S.eld w.2.2=y)\/(S.eld w.1=y/\w.2.1= -z/\S.eld w.2.2=c)):
 Good (S.meet c z x y pend').1 (S.meet c z x y pend').2 R/\(∀a,(S.meet c z x y pend').1.eld a=if S.eld a=max x y then min x y else S.eld a)/\(S.meet c z x y pend').2=pend'++(S.way (max x y)).map (λp=>(max x y,p.1,p.2)):=by
 obtain⟨hc,hxm,ec,ex⟩:=h.st _ _ _ hx;have hcgxy:Cg R x y:=h.must (h.so _ _ _ hx) iy;have hu:min x y<S.made:=by omega
 have hv:max x y<S.made:=by omega
 have huv:min x y<max x y:=by omega
 have eu:S.eld (min x y)=min x y:=by rcases Nat.lt_or_ge x y with q|q;rw[Nat.min_eq_left (by omega)];exact ex;rw[Nat.min_eq_right (by omega)];exact ey
 have ev:S.eld (max x y)=max x y:=by rcases Nat.lt_or_ge x y with q|q;rw[Nat.max_eq_right (by omega)];exact ey;rw[Nat.max_eq_left (by omega)];exact ex
 have xuv:x=min x y\/x=max x y:=by omega
 have yuv:y=min x y\/y=max x y:=by omega
 have hcguv:Cg R (max x y) (min x y):=by
  rcases Nat.lt_or_ge x y with q|q
  ·rw[Nat.max_eq_right (by omega),Nat.min_eq_left (by omega)];exact hcgxy.symm
  ·rw[Nat.max_eq_left (by omega),Nat.min_eq_right (by omega)];exact hcgxy
 unfold RS.meet;generalize max x y=v at hv huv ev xuv yuv hcguv ⊢;generalize min x y=u at hu huv eu xuv yuv hcguv ⊢;have hvw:v<S.ways.length:=by rw[h.wf.w];exact hv
 have hqs:∀q∈S.way v,q.2<S.ways.length:=λq hq=>by
  rw[h.wf.w];exact(h.st v q.1 q.2 (getW_of (h.kn v) hq)).2.1
 have hP:((S.joined c z u v).putOff v pend')=offs v (S.joined c z u v) pend' (S.way v):=rfl;rw[hP];have rest:=offs_rest v (S.joined c z u v) pend' (S.way v);have byJ:∀a s,(S.joined c z u v).by a s=S.by a s:=λa s=>rfl
 have hby:∀a s,(offs v (S.joined c z u v) pend' (S.way v)).1.by a s=if a=v\/S.by a s=some v then none else S.by a s:=λa s=>by
  rw[offs_by (S:=S.joined c z u v) hvw _ hqs,byJ]
  have:(a=v\/∃q∈S.way v,q.2=a/\s= -q.1)↔(a=v\/S.by a s=some v):=by
   refine or_congr Iff.rfl ⟨?_,λe=>?_⟩
   ·rintro ⟨q,hq,rfl,rfl⟩;exact h.sy _ _ _ (getW_of (h.kn v) hq)
   ·have:=getW_some (h.sy _ _ _ e);exact⟨_,this,rfl,(Int.neg_neg s).symm⟩
  simp only[this]
 have hpe:(offs v (S.joined c z u v) pend' (S.way v)).2=pend'++(S.way v).map λp=>(v,p.1,p.2):=offs_pend _ _ _ _
 have hkn:=offs_kn (S:=S.joined c z u v) (pend:=pend') hvw h.kn (S.way v) hqs
 have heq:∀a,(offs v (S.joined c z u v) pend' (S.way v)).1.eld a=if S.eld a=v then u else S.eld a:=λa=>by
  rw[rest.2];show ((S.cal v).foldl (λes n=>es.set n u) S.elders).getD a 0=_;rw[fold_set u _ _ _ (λn hn=>by rw[h.wf.e];exact h.cb v n hn)];by_cases ha:a<S.made
  ·have:=h.ca v hv ev a;by_cases e:S.eld a=v
   ·rw[if_pos (this.mpr ⟨ha,e⟩),if_pos e]
   ·rw[if_neg (λq=>e (this.mp q).2),if_neg e];rfl
  ·have e0:S.eld a=0:=by unfold RS.eld;rw[List.getD_eq_getElem?_getD,List.getElem?_eq_none (by rw[h.wf.e];omega)];rfl
   rw[if_neg (λq=>ha (h.cb v a q)),if_neg (by rw[e0];omega)];rfl
 have hcal:∀e,(offs v (S.joined c z u v) pend' (S.way v)).1.cal e=if e=u then S.cal u++S.cal v else S.cal e:=λe=>by
  rw[rest.2];show (S.called.set u (S.cal u++S.cal v)).getD e []=_;rw[List.getD_eq_getElem?_getD];by_cases q:e=u
  ·subst q;rw[List.getElem?_set_self (by rw[h.wf.c];exact hu),if_pos rfl];rfl
  ·rw[List.getElem?_set_ne (Ne.symm q),if_neg q];unfold RS.cal;rw[List.getD_eq_getElem?_getD]
 have hmade:(offs v (S.joined c z u v) pend' (S.way v)).1.made=S.made:=by rw[rest.2];rfl
 have hwf:(offs v (S.joined c z u v) pend' (S.way v)).1.Wf:=by
  refine⟨by rw[rest.1,hmade];exact h.wf.w,?_,?_,?_⟩
  ·rw[rest.2];exact h.wf.g
  ·rw[rest.2];show ((S.cal v).foldl (λes n=>es.set n u) S.elders).length=S.made;rw[fold_setL];exact h.wf.e
  ·rw[rest.2];show (S.called.set u (S.cal u++S.cal v)).length=S.made;rw[List.length_set];exact h.wf.c
 generalize (offs v (S.joined c z u v) pend' (S.way v)).2=P2 at hpe ⊢;generalize (offs v (S.joined c z u v) pend' (S.way v)).1=S2 at rest hby hkn heq hcal hmade hwf ⊢;clear rest;refine⟨?_,heq,hpe⟩
 have bo:∀a s b,S2.by a s=some b↔S.by a s=some b/\a≠v/\b≠v:=λa s b=>by
  rw[hby];by_cases q:a=v\/S.by a s=some v
  ·rw[if_pos q];refine⟨(λz=>by cases z),λ⟨e,n1,n2⟩=>?_⟩;rcases q with q|q
   ·exact absurd q n1
   ·rw[q]at e;exact absurd (Option.some.inj e).symm n2
  ·rw[if_neg q];refine⟨λe=>⟨e,λz=>q (.inl z),λz=>q (.inr (by rw[e,z]))⟩,λe=>e.1⟩
 have nv2:∀a,S2.eld (S.eld a)=S2.eld a:=λa=>by
  rw[heq,heq];by_cases ha:a<S.made
  ·rw[(h.el a ha).2]
  ·have e0:∀a,¬a<S.made->S.eld a=0:=λa ha=>by unfold RS.eld;rw[List.getD_eq_getElem?_getD,List.getElem?_eq_none (by rw[h.wf.e];omega)];rfl
   rw[e0 a ha];have:S.eld 0=0:=by have:=(h.el 0 (by omega)).1;omega
   rw[this]
 have eqv:∀{a b},S.eld a=S.eld b->S2.eld a=S2.eld b:=λ{a b} e=>by rw[heq,heq,e]
 have sy2:∀a s b,S2.by a s=some b->S2.by b (-s)=some a:=λa s b e=>by
  rw[bo]at e ⊢;exact⟨h.sy _ _ _ e.1,e.2.2,e.2.1⟩
 have std:∀{a},S.eld a=a->S2.eld a=if a=v then u else a:=λ{a} e=>by rw[heq,e]
 have kept:∀p s q,S.by p s=some q->Cov S2 P2 (S2.eld p) s (S2.eld q):=λp s q e=>by
  obtain⟨lp,lq,ep,eq⟩:=h.st _ _ _ e;by_cases h1:p=v
  ·refine .inr ⟨(v,s,q),?_,.inl ⟨by rw[h1],rfl,rfl⟩⟩;rw[hpe];rw[h1]at e;exact List.mem_append_right _ (List.mem_map.mpr ⟨(s,q),getW_some e,rfl⟩)
  ·by_cases h2:q=v
   ·refine .inr ⟨(v,-s,p),?_,.inr ⟨by rw[h2],rfl,rfl⟩⟩;rw[hpe];have e':=h.sy _ _ _ e;rw[h2]at e';exact List.mem_append_right _ (List.mem_map.mpr ⟨(-s,p),getW_some e',rfl⟩)
   ·refine .inl ?_;rw[std ep,std eq,if_neg h1,if_neg h2];exact(bo _ _ _).mpr ⟨e,h1,h2⟩
 have eu2:S2.eld u=u:=by rw[std eu,if_neg (by omega)]
 have ev2:S2.eld v=u:=by rw[std ev,if_pos rfl]
 have exy:S2.eld x=S2.eld y:=by
  have q1:S2.eld x=u:=by rcases xuv with q|q <;> rw[q] <;> assumption
  have q2:S2.eld y=u:=by rcases yuv with q|q <;> rw[q] <;> assumption
  rw[q1,q2]
 have imq:∀{a b s},Im S R (S.eld a) s (S.eld b)->Im S2 R (S2.eld a) s (S2.eld b):=λ{a b s} ⟨a',b',r,e1,e2⟩=>⟨a',b',r,eqv e1,eqv e2⟩
 refine⟨hwf,λa ha=>?_,λe he ee a=>?_,λe a ha=>?_,λe=>?_,hkn,λa s b e=>?_,sy2,λw hw=>?_,λa s b r=>?_,λa s b r=>?_,λa s b e=>?_,λw hw=>?_,λa ha=>?_⟩
 ·rw[hmade]at ha;obtain⟨l1,l2⟩:=h.el a ha;rw[heq];by_cases q:S.eld a=v
  ·rw[if_pos q];exact⟨by omega,eu2⟩
  ·rw[if_neg q];exact⟨l1,by rw[heq,l2,if_neg q]⟩
 ·rw[hmade]at he ⊢;rw[hcal];have nev:e≠v:=λz=>by rw[z,ev2]at ee;omega
  by_cases q:e=u
  ·subst q;rw[if_pos rfl,List.mem_append,h.ca _ hu eu,h.ca v hv ev,heq];constructor
   ·rintro (⟨q1,q2⟩|⟨q1,q2⟩)
    ·exact⟨q1,by rw[if_neg (by omega)];exact q2⟩
    ·exact⟨q1,by rw[if_pos q2]⟩
   ·rintro ⟨q1,q2⟩;by_cases q3:S.eld a=v
    ·exact .inr ⟨q1,q3⟩
    ·rw[if_neg q3]at q2;exact .inl ⟨q1,q2⟩
  ·rw[if_neg q]
   have e0:S.eld e=e:=by
    rw[heq]at ee;by_cases q3:S.eld e=v
    ·rw[if_pos q3]at ee;exact absurd ee.symm q
    ·rw[if_neg q3]at ee;exact ee
   rw[h.ca e he e0,heq];constructor
   ·rintro ⟨q1,q2⟩;exact⟨q1,by rw[if_neg (by rw[q2];exact nev)];exact q2⟩
   ·rintro ⟨q1,q2⟩;by_cases q3:S.eld a=v
    ·rw[if_pos q3]at q2;exact absurd q2.symm q
    ·rw[if_neg q3]at q2;exact⟨q1,q2⟩
 ·rw[hmade];rw[hcal]at ha;split at ha
  ·rcases List.mem_append.mp ha with ha|ha
   ·exact h.cb _ _ ha
   ·exact h.cb _ _ ha
  ·exact h.cb _ _ ha
 ·rw[hcal];split
  ·refine List.nodup_append.mpr ⟨h.cn _,h.cn _,λa ha b hb e=>?_⟩;have q1:=((h.ca _ hu eu a).mp ha).2;have q2:=((h.ca v hv ev b).mp hb).2;rw[e,q2]at q1;omega
  ·exact h.cn _
 ·rw[bo]at e;obtain⟨l1,l2,l3,l4⟩:=h.st _ _ _ e.1;exact⟨by rw[hmade];exact l1,by rw[hmade];exact l2,by rw[std l3,if_neg e.2.1],by rw[std l4,if_neg e.2.2]⟩
 ·rw[hmade];rw[hpe]at hw;rcases List.mem_append.mp hw with hw|hw
  ·exact h.pl w (hp w hw)
  ·obtain⟨q,hq,rfl⟩:=List.mem_map.mp hw;exact⟨hv,(h.st v q.1 q.2 (getW_of (h.kn v) hq)).2.1⟩
 ·rw[hmade];exact h.rl a s b r
 ·rcases h.cv a s b r with q|⟨w,hw,q⟩
  ·have:=kept _ _ _ q;rw[nv2,nv2]at this;exact this
  ·by_cases hm:w∈pend'
   ·refine .inr ⟨w,by rw[hpe];exact List.mem_append_left _ hm,?_⟩;rcases q with ⟨q1,q2,q3⟩|⟨q1,q2,q3⟩
    ·exact .inl ⟨eqv q1,q2,eqv q3⟩
    ·exact .inr ⟨eqv q1,q2,eqv q3⟩
   ·have base:Cov S2 P2 (S2.eld c) z (S2.eld y):=by rw[←exy];exact kept _ _ _ hx
    have one:∀{p q:Nat},S.eld p=c->S.eld q=y->S2.eld p=S2.eld c/\S2.eld q=S2.eld y:=λ{p q} e1 e2=>⟨by rw[←nv2 p,e1],by rw[←nv2 q,e2]⟩
    rcases hcv w hw hm with ⟨f1,f2,f3⟩|⟨f1,f2,f3⟩
    ·rcases q with ⟨q1,q2,q3⟩|⟨q1,q2,q3⟩
     ·obtain⟨g1,g2⟩:=one (q1.symm.trans f1) (q3.symm.trans f3);rw[g1,g2,←q2,f2];exact base
     ·obtain⟨g1,g2⟩:=one (q1.symm.trans f1) (q3.symm.trans f3);have es:s= -z:=by rw[←f2,q2,Int.neg_neg]
      rw[g1,g2,es];exact Cov.back h sy2 base
    ·rcases q with ⟨q1,q2,q3⟩|⟨q1,q2,q3⟩
     ·obtain⟨g1,g2⟩:=one (q3.symm.trans f3) (q1.symm.trans f1);have es:s= -z:=by rw[←q2,f2]
      rw[g1,g2,es];exact Cov.back h sy2 base
     ·obtain⟨g1,g2⟩:=one (q3.symm.trans f3) (q1.symm.trans f1);have es:s=z:=by have:=q2.symm.trans f2;omega
      rw[g1,g2,es];exact base
 ·rw[bo]at e;obtain⟨l1,l2,l3,l4⟩:=h.st _ _ _ e.1;have:=h.so _ _ _ e.1;rw[←l3,←l4]at this;have q:=imq this;rw[std l3,std l4,if_neg e.2.1,if_neg e.2.2]at q;exact q
 ·rw[hpe]at hw;rcases List.mem_append.mp hw with hw|hw
  ·exact imq (h.sp w (hp w hw))
  ·obtain⟨q,hq,rfl⟩:=List.mem_map.mp hw;have e:=getW_of (h.kn v) hq;obtain⟨l1,l2,l3,l4⟩:=h.st v q.1 q.2 e;have:=h.so _ _ _ e;rw[←l3,←l4]at this;exact imq this
 ·rw[hmade]at ha;rw[heq];split
  ·rename_i q;have:=h.cg a ha;rw[q]at this;exact this.trans hcguv
  ·exact h.cg a ha
end
def RS.stand (S:RS):Nat:=(List.range S.made).countP λc=>decide (S.eld c=c)
theorem count_less {p p':Nat->Bool}{v:Nat}(h:∀a,p' a=(p a && decide (a≠v)))(hv:p v=true):∀n,(List.range n).countP p'+ (if v<n then 1 else 0)=(List.range n).countP p
 |0=>rfl
 |n+ 1=>by
  have ih:=count_less h hv n;rw[List.range_succ,List.countP_append,List.countP_append,←ih];rw[List.countP_singleton,List.countP_singleton,h n];by_cases e:n=v
  ·subst e;rw[hv,if_neg (Nat.lt_irrefl n),if_pos (Nat.lt_succ_self n)];simp
  ·have:decide (n≠v)=true:=decide_eq_true e;rw[this,Bool.and_true];have hh:(v<n+ 1)=(v<n):=propext ⟨λ_=>by omega,λ_=>by omega⟩;simp only[hh];omega
def mu (k:Nat)(S:RS)(pend:List Way):Nat:=S.stand* (k+ 1)+ pend.length
section
variable {S:RS} {pend:List Way} {R:Nat->Int->Nat->Prop} {w:Way} {ks:List Int}
theorem Good.wayLen (h:Good S pend R)(hk:∀c z d,R c z d->z∈ks)(c:Nat):(S.way c).length<=ks.length:=by
 have:=nodup_sub ks ((S.way c).map (·.1)) (h.kn c) (λx hx=>by
  obtain⟨q,hq,rfl⟩:=List.mem_map.mp hx;obtain⟨a,b,r,_⟩:=h.so c q.1 q.2 (getW_of (h.kn c) hq);exact hk _ _ _ r)
 rw[List.length_map]at this;exact this
theorem Good.calLen (h:Good S pend R)(c:Nat):(S.cal c).length<=S.made:=nodup_lenN _ _ (h.cn c) λx hx=>h.cb c x hx
theorem Good.take (h:Good S (pend++[w]) R)(hk:∀c z d,R c z d->z∈ks):Good (S.takeIn pend w).1 (S.takeIn pend w).2 R/\mu ks.length (S.takeIn pend w).1 (S.takeIn pend w).2<mu ks.length S (pend++[w])/\(S.takeIn pend w).1.made=S.made/\(S.takeIn pend w).1.L=S.L/\
 ((S.takeIn pend w).1.stand=S.stand/\(S.takeIn pend w).1.rows=S.rows/\(S.takeIn pend w).1.went=S.went\/(S.takeIn pend w).1.stand+ 1=S.stand/\∃c z x y,S.by c z=some x/\Im S R c z y/\y<S.made/\S.eld y=y/\x≠y/\(S.takeIn pend w).1.rows=S.rows++[rowMeet c z (min x y) (max x y)]/\(S.takeIn pend w).1.went=S.went++[max x y]/\∀a,(S.takeIn pend w).1.eld a=if S.eld a=max x y then min x y else S.eld a):=by
 have hw:=h.pl w (List.mem_append_right _ List.mem_cons_self);have iw:=h.sp w (List.mem_append_right _ List.mem_cons_self);have hc:=h.lt hw.1;have hd:=h.lt hw.2;have ec:=(h.el _ hw.1).2;have ed:=(h.el _ hw.2).2;have hp:∀x∈pend,x∈pend++[w]:=λx hx=>List.mem_append_left _ hx
 have last:∀x∈pend++[w],x∉pend->x=w:=λx hx nx=>by
  rcases List.mem_append.mp hx with q|q
  ·exact absurd q nx
  ·exact List.mem_singleton.mp q
 have met:∀{c x y:Nat} {z:Int},S.by c z=some x->y<S.made->S.eld y=y->x≠y->Im S R c z y->((S.eld w.1=c/\w.2.1=z/\S.eld w.2.2=y)\/(S.eld w.1=y/\w.2.1= -z/\S.eld w.2.2=c))->
  Good (S.meet c z x y pend).1 (S.meet c z x y pend).2 R/\mu ks.length (S.meet c z x y pend).1 (S.meet c z x y pend).2<mu ks.length S (pend++[w])/\(S.meet c z x y pend).1.made=S.made/\(S.meet c z x y pend).1.L=S.L/\(S.meet c z x y pend).1.stand+ 1=S.stand/\(S.meet c z x y pend).1.rows=S.rows++[rowMeet c z (min x y) (max x y)]/\(S.meet c z x y pend).1.went=S.went++[max x y]/\∀a,(S.meet c z x y pend).1.eld a=if S.eld a=max x y then min x y else S.eld a:=by
  intro c x y z hx hy ey hxy iy hcv;obtain⟨g,g1,g2⟩:=h.meet hx hy ey hxy iy hp (λx hx nx=>by rw[last x hx nx];exact hcv);obtain⟨hc,hxm,ec,ex⟩:=h.st _ _ _ hx;have rest:=(offs_rest (max x y) (S.joined c z (min x y) (max x y)) pend ((S.joined c z (min x y) (max x y)).way (max x y))).2
  have hm:(S.meet c z x y pend).1.made=S.made:=by
   show (offs (max x y) (S.joined c z (min x y) (max x y)) pend ((S.joined c z (min x y) (max x y)).way (max x y))).1.made=_;rw[rest];rfl
  have hL:(S.meet c z x y pend).1.L=S.L:=by
   show (offs (max x y) (S.joined c z (min x y) (max x y)) pend ((S.joined c z (min x y) (max x y)).way (max x y))).1.L=_;rw[rest];rfl
  have hr:(S.meet c z x y pend).1.rows=S.rows++[rowMeet c z (min x y) (max x y)]:=by
   show (offs (max x y) (S.joined c z (min x y) (max x y)) pend ((S.joined c z (min x y) (max x y)).way (max x y))).1.rows=_;rw[rest];rfl
  have hn:(S.meet c z x y pend).1.went=S.went++[max x y]:=by
   show (offs (max x y) (S.joined c z (min x y) (max x y)) pend ((S.joined c z (min x y) (max x y)).way (max x y))).1.went=_;rw[rest];rfl
  have huv:min x y<max x y:=by omega
  have ev:S.eld (max x y)=max x y:=by rcases Nat.lt_or_ge x y with q|q;rw[Nat.max_eq_right (by omega)];exact ey;rw[Nat.max_eq_left (by omega)];exact ex
  have hs:(S.meet c z x y pend).1.stand+ 1=S.stand:=by
   unfold RS.stand;rw[hm]
   have:=count_less (p:=λc=>decide (S.eld c=c)) (p':=λa=>decide ((S.meet c z x y pend).1.eld a=a)) (v:=max x y) (λa=>by
    rw[g1,Bool.eq_iff_iff,Bool.and_eq_true,decide_eq_true_iff,decide_eq_true_iff,decide_eq_true_iff];by_cases q:S.eld a=max x y
    ·rw[if_pos q];constructor
     ·intro e;have e2:S.eld (min x y)=min x y:=by rcases Nat.lt_or_ge x y with q|q;rw[Nat.min_eq_left (by omega)];exact ex;rw[Nat.min_eq_right (by omega)];exact ey
      rw[e]at e2;rw[e2]at q;omega
     ·rintro ⟨e1,e2⟩;exact absurd (e1.symm.trans q) e2
    ·rw[if_neg q];exact⟨λe=>⟨e,λe2=>q (by rw[e2];exact ev)⟩,λe=>e.1⟩) (decide_eq_true ev) S.made
   rw[if_pos (by omega)]at this;exact this
  have hl:=h.wayLen hk (max x y);refine⟨g,?_,hm,hL,hs,hr,hn,g1⟩;unfold mu;rw[g2,←hs,List.length_append,List.length_append,List.length_map,Nat.add_mul,Nat.one_mul];have:([w]:List Way).length=1:=rfl;omega
 unfold RS.takeIn;by_cases h1:(S.by (S.eld w.1) w.2.1).getD (S.eld w.2.2)≠S.eld w.2.2
 ·rw[if_pos h1]
  cases e:S.by (S.eld w.1) w.2.1 with
  |none=>rw[e]at h1;exact absurd rfl h1
  |some x=>
   rw[e]at h1;obtain⟨a1,a2,a3,a4,a5,a6,a7,a8⟩:=met e hd ed h1 iw (.inl ⟨rfl,rfl,rfl⟩);exact⟨a1,a2,a3,a4,.inr ⟨a5,_,_,x,_,e,iw,hd,ed,h1,a6,a7,a8⟩⟩
 ·rw[if_neg h1];by_cases h2:(S.by (S.eld w.2.2) (-w.2.1)).getD (S.eld w.1)≠S.eld w.1
  ·rw[if_pos h2]
   cases e:S.by (S.eld w.2.2) (-w.2.1) with
   |none=>rw[e]at h2;exact absurd rfl h2
   |some x=>
    rw[e]at h2;have ib:=Im.back h iw;obtain⟨a1,a2,a3,a4,a5,a6,a7,a8⟩:=met e hc ec h2 ib (.inr ⟨rfl,(Int.neg_neg _).symm,rfl⟩);exact⟨a1,a2,a3,a4,.inr ⟨a5,_,_,x,_,e,ib,hc,ec,h2,a6,a7,a8⟩⟩
  ·rw[if_neg h2]
   have k1:S.by (S.eld w.1) w.2.1=none\/S.by (S.eld w.1) w.2.1=some (S.eld w.2.2):=by
    cases e:S.by (S.eld w.1) w.2.1 with
    |none=>exact .inl rfl
    |some x=>rw[e]at h1;exact .inr (congrArg some (Decidable.not_not.mp h1))
   have k2:S.by (S.eld w.2.2) (-w.2.1)=none\/S.by (S.eld w.2.2) (-w.2.1)=some (S.eld w.1):=by
    cases e:S.by (S.eld w.2.2) (-w.2.1) with
    |none=>exact .inl rfl
    |some x=>rw[e]at h2;exact .inr (congrArg some (Decidable.not_not.mp h2))
   refine⟨h.keep hc hd ec ed iw k1 k2 hp (λx hx nx=>by rw[last x hx nx];exact⟨rfl,rfl,rfl⟩),?_,rfl,rfl,.inl ⟨rfl,rfl,rfl⟩⟩;unfold mu;show S.stand* _+ pend.length<S.stand* _+ (pend++[w]).length;rw[List.length_append];have:([w]:List Way).length=1:=rfl;omega
theorem Good.fin (h:Good S [] R){a b:Nat}(ha:a<S.made)(hb:b<S.made):S.eld a=S.eld b↔Cg R a b:=by
 have det:∀{a a' b b':Nat} {z:Int},R a z b->R a' z b'->S.eld a=S.eld a'->S.eld b=S.eld b':=λ{a a' b b' z} r1 r2 e=>by
  rcases h.cv _ _ _ r1 with q1|⟨w,hw,_⟩
  ·rcases h.cv _ _ _ r2 with q2|⟨w,hw,_⟩
   ·rw[e,q2]at q1;exact(Option.some.inj q1).symm
   ·cases hw
  ·cases hw
 constructor
 ·intro e;have h1:=h.cg a ha;have h2:=h.cg b hb;rw[e]at h1;exact h1.trans h2.symm
 ·intro c;clear ha hb
  induction c with
  |refl=>rfl
  |symm _ ih=>exact ih.symm
  |trans _ _ i1 i2=>exact i1.trans i2
  |step r1 r2 _ ih=>exact det r1 r2 ih
theorem Good.by_iff (h:Good S [] R){c d:Nat}{z:Int}:S.by c z=some d↔Im S R c z d:=by
 constructor
 ·exact h.so c z d
 ·rintro ⟨c',d',r,rfl,rfl⟩;rcases h.cv _ _ _ r with q|⟨w,hw,_⟩
  ·exact q
  ·cases hw
end
end L2
namespace L2
open PySem PySem.Spec PyProof.Rows
section
variable {X:Cx}
end
def RAdd (R:Nat->Int->Nat->Prop)(c:Nat)(z:Int)(d:Nat):Nat->Int->Nat->Prop:=λa s b=>R a s b\/(a=c/\s=z/\b=d)\/(a=d/\s= -z/\b=c)
theorem radd_sub {R:Nat->Int->Nat->Prop}{c d:Nat}{z:Int}:∀a s b,R a s b->RAdd R c z d a s b:=λ_ _ _ r=>.inl r
theorem radd_new {R:Nat->Int->Nat->Prop}{c d:Nat}{z:Int}:RAdd R c z d c z d:=.inr (.inl ⟨rfl,rfl,rfl⟩)
theorem good_new (L:Nat)(g:List Int):Good (RS.new L g) [] (λ_ _ _=>False) where
 wf:=⟨rfl,rfl,rfl,rfl⟩
 el:=λc hc=>by
  have:c=0:=by have:c<1:=hc;omega
  subst this;exact⟨Nat.le_refl _,rfl⟩
 ca:=λe he _ c=>by
  have:e=0:=by have:e<1:=he;omega
  subst this;show c∈[0]↔c<1/\(RS.new L g).eld c=0;rw[List.mem_singleton];constructor
  ·rintro rfl;exact⟨by decide,rfl⟩
  ·rintro ⟨h,_⟩;omega
 cb:=λe c hc=>by
  have:(RS.new L g).cal e=[0]\/(RS.new L g).cal e=[]:=by
   rcases e with _|e
   ·exact .inl rfl
   ·exact .inr rfl
  show c<1;rcases this with q|q <;> rw[q]at hc
  ·rw[List.mem_singleton.mp hc];decide
  ·cases hc
 cn:=λe=>by
  rcases e with _|e
  ·show [0].Nodup;simp
  ·exact List.nodup_nil
 kn:=λc=>by
  rcases c with _|c <;> exact List.nodup_nil
 st:=λc z d h=>by
  have:(RS.new L g).by c z=none:=by rcases c with _|c <;> rfl
  rw[this]at h;cases h
 sy:=λc z d h=>by
  have:(RS.new L g).by c z=none:=by rcases c with _|c <;> rfl
  rw[this]at h;cases h
 pl:=λw hw=>by cases hw
 rl:=λ_ _ _ h=>h.elim
 cv:=λ_ _ _ h=>h.elim
 so:=λc z d h=>by
  have:(RS.new L g).by c z=none:=by rcases c with _|c <;> rfl
  rw[this]at h;cases h
 sp:=λw hw=>by cases hw
 cg:=λc hc=>by
  have:c=0:=by have:c<1:=hc;omega
  subst this;exact .refl _
section
variable {S:RS} {R:Nat->Int->Nat->Prop}
theorem Good.lay (h:Good S [] R){c d:Nat}(z:Int)(hc:c<S.made)(hd:d<S.made)(rows:List Dt):Good { S with rows:=rows } [(c,z,d)] (RAdd R c z d) where
 wf:=⟨h.wf.w,h.wf.g,h.wf.e,h.wf.c⟩
 el:=h.el
 ca:=h.ca
 cb:=h.cb
 cn:=h.cn
 kn:=h.kn
 st:=h.st
 sy:=h.sy
 pl:=λw hw=>by rw[List.mem_singleton.mp hw];exact⟨hc,hd⟩
 rl:=by
  rintro a s b (r|⟨rfl,rfl,rfl⟩|⟨rfl,rfl,rfl⟩)
  ·obtain⟨q1,q2,q3⟩:=h.rl _ _ _ r;exact⟨q1,q2,.inl q3⟩
  ·exact⟨hc,hd,.inr (.inr ⟨rfl,rfl,rfl⟩)⟩
  ·exact⟨hd,hc,.inr (.inl ⟨rfl,Int.neg_neg _,rfl⟩)⟩
 cv:=by
  rintro a s b (r|⟨rfl,rfl,rfl⟩|⟨rfl,rfl,rfl⟩)
  ·rcases h.cv _ _ _ r with q|⟨w,hw,_⟩
   ·exact .inl q
   ·cases hw
  ·exact .inr ⟨_,List.mem_cons_self,.inl ⟨rfl,rfl,rfl⟩⟩
  ·exact .inr ⟨_,List.mem_cons_self,.inr ⟨rfl,(Int.neg_neg _).symm,rfl⟩⟩
 so:=λa s b e=>by
  obtain⟨c',d',r,e1,e2⟩:=h.so a s b e;exact⟨c',d',.inl r,e1,e2⟩
 sp:=λw hw=>by
  rw[List.mem_singleton.mp hw];exact⟨c,d,radd_new,rfl,rfl⟩
 cg:=λa ha=>(h.cg a ha).mono radd_sub
theorem eld_grown (hw:S.Wf)(c:Nat)(z:Int)(g:List Int)(a:Nat):(S.grown c z g).eld a=if a=S.made then S.made else S.eld a:=by
 unfold RS.eld;show (S.elders++[S.made]).getD a 0=_;rw[List.getD_eq_getElem?_getD];by_cases e:a=S.made
 ·rw[if_pos e,e,List.getElem?_append_right (by rw[hw.e];exact Nat.le_refl _),hw.e,Nat.sub_self];rfl
 ·rw[if_neg e,List.getD_eq_getElem?_getD];by_cases q:a<S.made
  ·rw[List.getElem?_append_left (by rw[hw.e];exact q)]
  ·rw[List.getElem?_eq_none (by rw[List.length_append,hw.e];show S.made+ 1<=a;omega),List.getElem?_eq_none (by rw[hw.e];omega)]
theorem cal_grown (hw:S.Wf)(c:Nat)(z:Int)(g:List Int)(a:Nat):(S.grown c z g).cal a=if a=S.made then [S.made] else S.cal a:=by
 unfold RS.cal;show (S.called++[[S.made]]).getD a []=_;rw[List.getD_eq_getElem?_getD];by_cases e:a=S.made
 ·rw[if_pos e,e,List.getElem?_append_right (by rw[hw.c];exact Nat.le_refl _),hw.c,Nat.sub_self];rfl
 ·rw[if_neg e,List.getD_eq_getElem?_getD];by_cases q:a<S.made
  ·rw[List.getElem?_append_left (by rw[hw.c];exact q)]
  ·rw[List.getElem?_eq_none (by rw[List.length_append,hw.c];show S.made+ 1<=a;omega),List.getElem?_eq_none (by rw[hw.c];omega)]
theorem way_grown (hw:S.Wf)(c:Nat)(z:Int)(g:List Int)(a:Nat):(S.grown c z g).way a=S.way a:=by
 unfold RS.way;show (S.ways++[[]]).getD a []=_;rw[List.getD_eq_getElem?_getD,List.getD_eq_getElem?_getD];by_cases q:a<S.ways.length
 ·rw[List.getElem?_append_left q]
 ·rw[List.getElem?_append_right (by omega),List.getElem?_eq_none (l:=S.ways) (by omega)];by_cases h2:a - S.ways.length=0
  ·rw[h2];rfl
  ·rw[List.getElem?_eq_none (by simp;omega)]
theorem Good.make (h:Good S [] R){c:Nat}{z:Int}(hc:c<S.made)(ec:S.eld c=c)(hn:S.by c z=none)(g:List Int):Good (S.make c z g) [] (RAdd R c z S.made):=by
 have hw:=h.wf;have elo:∀a,a<S.made->(S.grown c z g).eld a=S.eld a:=λa ha=>by rw[eld_grown hw,if_neg (by omega)]
 have eln:(S.grown c z g).eld S.made=S.made:=by rw[eld_grown hw,if_pos rfl]
 have byg:∀a s,(S.grown c z g).by a s=S.by a s:=λa s=>by unfold RS.by;rw[way_grown hw]
 have G:Good (S.grown c z g) [(c,z,S.made)] (RAdd R c z S.made):=by
  refine⟨⟨?_,?_,?_,?_⟩,λa ha=>?_,λe he ee a=>?_,λe a ha=>?_,λe=>?_,λa=>?_,λa s b e=>?_,λa s b e=>?_,λw hw=>?_,?_,?_,λa s b e=>?_,λw hw=>?_,λa ha=>?_⟩
  ·show (S.ways++[[]]).length=S.made+ 1;rw[List.length_append,hw.w];rfl
  ·show (S.gaps++[_]).length=S.made+ 1;rw[List.length_append,hw.g];rfl
  ·show (S.elders++[_]).length=S.made+ 1;rw[List.length_append,hw.e];rfl
  ·show (S.called++[_]).length=S.made+ 1;rw[List.length_append,hw.c];rfl
  ·have ha':a<S.made+ 1:=ha;by_cases e:a=S.made
   ·rw[e,eln];exact⟨Nat.le_refl _,eln⟩
   ·have hl:a<S.made:=by omega
    rw[elo a hl];obtain⟨q1,q2⟩:=h.el a hl;exact⟨q1,by rw[elo _ (by omega)];exact q2⟩
  ·have he':e<S.made+ 1:=he;show _↔a<S.made+ 1/\_;rw[cal_grown hw,eld_grown hw];by_cases q:e=S.made
   ·subst q;rw[if_pos rfl,List.mem_singleton];constructor
    ·rintro rfl;exact⟨by omega,by rw[if_pos rfl]⟩
    ·rintro ⟨q1,q2⟩;by_cases q3:a=S.made
     ·exact q3
     ·rw[if_neg q3]at q2;have:=(h.el a (by omega)).1;omega
   ·have hl:e<S.made:=by omega
    rw[elo e hl]at ee;rw[if_neg q,h.ca e hl ee a];constructor
    ·rintro ⟨q1,q2⟩;exact⟨by omega,by rw[if_neg (by omega)];exact q2⟩
    ·rintro ⟨q1,q2⟩;by_cases q3:a=S.made
     ·rw[if_pos q3]at q2;exact absurd q2.symm q
     ·rw[if_neg q3]at q2;exact⟨by omega,q2⟩
  ·show a<S.made+ 1;rw[cal_grown hw]at ha;split at ha
   ·rw[List.mem_singleton.mp ha];omega
   ·exact Nat.lt_succ_of_lt (h.cb e a ha)
  ·rw[cal_grown hw];split
   ·simp
   ·exact h.cn e
  ·rw[way_grown hw];exact h.kn a
  ·rw[byg]at e;obtain⟨q1,q2,q3,q4⟩:=h.st a s b e;exact⟨Nat.lt_succ_of_lt q1,Nat.lt_succ_of_lt q2,by rw[elo a q1];exact q3,by rw[elo b q2];exact q4⟩
  ·rw[byg]at e ⊢;exact h.sy a s b e
  ·rw[List.mem_singleton.mp hw];exact⟨Nat.lt_succ_of_lt hc,Nat.lt_succ_self _⟩
  ·rintro a s b (r|⟨rfl,rfl,rfl⟩|⟨rfl,rfl,rfl⟩)
   ·obtain⟨q1,q2,q3⟩:=h.rl _ _ _ r;exact⟨Nat.lt_succ_of_lt q1,Nat.lt_succ_of_lt q2,.inl q3⟩
   ·exact⟨Nat.lt_succ_of_lt hc,Nat.lt_succ_self _,.inr (.inr ⟨rfl,rfl,rfl⟩)⟩
   ·exact⟨Nat.lt_succ_self _,Nat.lt_succ_of_lt hc,.inr (.inl ⟨rfl,Int.neg_neg _,rfl⟩)⟩
  ·rintro a s b (r|⟨rfl,rfl,rfl⟩|⟨rfl,rfl,rfl⟩)
   ·obtain⟨q1,q2,_⟩:=h.rl _ _ _ r;rcases h.cv _ _ _ r with q|⟨w,hw,_⟩
    ·exact .inl (by rw[elo a q1,elo b q2,byg];exact q)
    ·cases hw
   ·exact .inr ⟨_,List.mem_cons_self,.inl ⟨rfl,rfl,rfl⟩⟩
   ·exact .inr ⟨_,List.mem_cons_self,.inr ⟨rfl,(Int.neg_neg _).symm,rfl⟩⟩
  ·rw[byg]at e;obtain⟨c',d',r,e1,e2⟩:=h.so a s b e;obtain⟨q1,q2,_⟩:=h.rl _ _ _ r;exact⟨c',d',.inl r,by rw[elo c' q1];exact e1,by rw[elo d' q2];exact e2⟩
  ·rw[List.mem_singleton.mp hw];exact⟨c,S.made,radd_new,rfl,rfl⟩
  ·have ha':a<S.made+ 1:=ha;by_cases e:a=S.made
   ·rw[e,eln];exact .refl _
   ·rw[elo a (by omega)];exact(h.cg a (by omega)).mono radd_sub
 have e1:(S.grown c z g).eld c=c:=by rw[elo c hc];exact ec
 have i:=G.sp _ List.mem_cons_self;rw[show (c,z,S.made).1=c from rfl,show (c,z,S.made).2.2=S.made from rfl,e1,eln]at i;refine G.keep (Nat.lt_succ_of_lt hc) (Nat.lt_succ_self _) e1 eln i (.inl (by rw[byg];exact hn)) (.inl ?_) (λw hw=>by cases hw) (λw hw _=>by rw[List.mem_singleton.mp hw];exact⟨e1,rfl,eln⟩);rw[byg]
 cases e:S.by S.made (-z) with
 |none=>rfl
 |some b=>have:=(h.st _ _ _ e).1;omega
end
end L2
namespace L2
open PySem PySem.Spec PyProof.Rows
def RowR (n:Nat)(s:Int):Nat->Int->Nat->Prop:=λa z b=>(z=s/\b=a+ 1/\b<n)\/(z= -s/\a=b+ 1/\a<n)
section
variable {n one other:Nat} {s:Int}
variable (hs:s=1\/s= -1) (h1:one<n) (h2:other<n) {S:RS} (g:Good S [] (RAdd (RowR n s) one s other)) (hm:S.made=n)
include hs h1 h2 g hm
end
end L2
namespace L2
open PySem PySem.Spec PyProof.Rows
section
variable {X:Cx}
end
end L2
namespace L2
open PySem PySem.Spec PyProof.Rows
section
variable {X:Cx}
end
end L2
namespace L2
theorem seq_let1 {a1 z:TS}{D:Ends}{σ:St}{H:Hp}(h:let u1:TS:=z;tSeq a1 u1 D σ H):(tSeq a1 z) D σ H:=h
theorem seq_let2 {a1 a2 z:TS}{D:Ends}{σ:St}{H:Hp}(h:let u2:TS:=z;let u1:TS:=tSeq a2 u2;tSeq a1 u1 D σ H):(tSeq a1 (tSeq a2 z)) D σ H:=h
theorem seq_let3 {a1 a2 a3 z:TS}{D:Ends}{σ:St}{H:Hp}(h:let u3:TS:=z;let u2:TS:=tSeq a3 u3;let u1:TS:=tSeq a2 u2;tSeq a1 u1 D σ H):(tSeq a1 (tSeq a2 (tSeq a3 z))) D σ H:=h
theorem seq_let4 {a1 a2 a3 a4 z:TS}{D:Ends}{σ:St}{H:Hp}(h:let u4:TS:=z;let u3:TS:=tSeq a4 u4;let u2:TS:=tSeq a3 u3;let u1:TS:=tSeq a2 u2;tSeq a1 u1 D σ H):(tSeq a1 (tSeq a2 (tSeq a3 (tSeq a4 z)))) D σ H:=h
theorem seq_let5 {a1 a2 a3 a4 a5 z:TS}{D:Ends}{σ:St}{H:Hp}(h:let u5:TS:=z;let u4:TS:=tSeq a5 u5;let u3:TS:=tSeq a4 u4;let u2:TS:=tSeq a3 u3;let u1:TS:=tSeq a2 u2;tSeq a1 u1 D σ H):(tSeq a1 (tSeq a2 (tSeq a3 (tSeq a4 (tSeq a5 z))))) D σ H:=h
theorem seq_let6 {a1 a2 a3 a4 a5 a6 z:TS}{D:Ends}{σ:St}{H:Hp}(h:let u6:TS:=z;let u5:TS:=tSeq a6 u6;let u4:TS:=tSeq a5 u5;let u3:TS:=tSeq a4 u4;let u2:TS:=tSeq a3 u3;let u1:TS:=tSeq a2 u2;tSeq a1 u1 D σ H):(tSeq a1 (tSeq a2 (tSeq a3 (tSeq a4 (tSeq a5 (tSeq a6 z)))))) D σ H:=h
theorem seq_let7 {a1 a2 a3 a4 a5 a6 a7 z:TS}{D:Ends}{σ:St}{H:Hp}(h:let u7:TS:=z;let u6:TS:=tSeq a7 u7;let u5:TS:=tSeq a6 u6;let u4:TS:=tSeq a5 u5;let u3:TS:=tSeq a4 u4;let u2:TS:=tSeq a3 u3;let u1:TS:=tSeq a2 u2;tSeq a1 u1 D σ H):(tSeq a1 (tSeq a2 (tSeq a3 (tSeq a4 (tSeq a5 (tSeq a6 (tSeq a7 z))))))) D σ H:=h
theorem seq_let8 {a1 a2 a3 a4 a5 a6 a7 a8 z:TS}{D:Ends}{σ:St}{H:Hp}(h:let u8:TS:=z;let u7:TS:=tSeq a8 u8;let u6:TS:=tSeq a7 u7;let u5:TS:=tSeq a6 u6;let u4:TS:=tSeq a5 u5;let u3:TS:=tSeq a4 u4;let u2:TS:=tSeq a3 u3;let u1:TS:=tSeq a2 u2;tSeq a1 u1 D σ H):(tSeq a1 (tSeq a2 (tSeq a3 (tSeq a4 (tSeq a5 (tSeq a6 (tSeq a7 (tSeq a8 z)))))))) D σ H:=h
theorem seq_let11 {a1 a2 a3 a4 a5 a6 a7 a8 a9 a10 a11 z:TS}{D:Ends}{σ:St}{H:Hp}(h:let u11:TS:=z;let u10:TS:=tSeq a11 u11;let u9:TS:=tSeq a10 u10;let u8:TS:=tSeq a9 u9;let u7:TS:=tSeq a8 u8;let u6:TS:=tSeq a7 u7;let u5:TS:=tSeq a6 u6;let u4:TS:=tSeq a5 u5;let u3:TS:=tSeq a4 u4;let u2:TS:=tSeq a3 u3;let u1:TS:=tSeq a2 u2;tSeq a1 u1 D σ H):(tSeq a1 (tSeq a2 (tSeq a3 (tSeq a4 (tSeq a5 (tSeq a6 (tSeq a7 (tSeq a8 (tSeq a9 (tSeq a10 (tSeq a11 z))))))))))) D σ H:=h
theorem args_is1 {α:Type}:∀{us:List α},us.length=1->∃x0,us=[x0]
 |[x0],_=>⟨x0,rfl⟩
theorem args_is2 {α:Type}:∀{us:List α},us.length=2->∃x0 x1,us=[x0,x1]
 |[x0,x1],_=>⟨x0,x1,rfl⟩
theorem args_is3 {α:Type}:∀{us:List α},us.length=3->∃x0 x1 x2,us=[x0,x1,x2]
 |[x0,x1,x2],_=>⟨x0,x1,x2,rfl⟩
theorem args_is4 {α:Type}:∀{us:List α},us.length=4->∃x0 x1 x2 x3,us=[x0,x1,x2,x3]
 |[x0,x1,x2,x3],_=>⟨x0,x1,x2,x3,rfl⟩
theorem args_is5 {α:Type}:∀{us:List α},us.length=5->∃x0 x1 x2 x3 x4,us=[x0,x1,x2,x3,x4]
 |[x0,x1,x2,x3,x4],_=>⟨x0,x1,x2,x3,x4,rfl⟩
theorem args_is6 {α:Type}:∀{us:List α},us.length=6->∃x0 x1 x2 x3 x4 x5,us=[x0,x1,x2,x3,x4,x5]
 |[x0,x1,x2,x3,x4,x5],_=>⟨x0,x1,x2,x3,x4,x5,rfl⟩
section
open PySem PySem.Spec PyProof.Rows
variable {C:CXT} {P:Program} {w:World} {K:PySem.W.Frag} {mg:Str->Option Value} {base:Heap} {N:List Str} {q:Str} {sc:Scope} {f:Addr} {cd:Value} {A:Around} {outer:List Env} {s:Shared} {H:Hp} {E:XK}
theorem cx_noxK:(cxOf C P w K mg base N q sc f cd A outer s H E).nox.K=K:=rfl
theorem cx_K:(cxOf C P w K mg base N q sc f cd A outer s H E).K=K:=rfl
end
end L2
namespace L2
open PySem PySem.Spec PyProof.Rows PySem.Builtin PySem.Builtin.Str
section
variable {X:Cx}
end
end L2
namespace L2
structure GapI (S:RS) (R:Nat->Int->Nat->Prop) (ks:List Int):Prop where
 sub:∀c,c<S.made->(S.gap c).Sublist ks
 im:∀c,c<S.made->S.eld c=c->∀z∈ks,z∉S.gap c->∃d,Im S R c z d
 by_:∀c z d,S.by c z=some d->z∉S.gap c
section
variable {S:RS} {pend:List Way} {R:Nat->Int->Nat->Prop} {ks:List Int}
theorem gap_noGap {c x:Nat}{z:Int}(hc:c<S.gaps.length):(S.noGap c z).gap x=if x=c then (S.gap c).filter (λy=>decide (y≠z)) else S.gap x:=by
 unfold RS.noGap RS.setG RS.gap;show (S.gaps.set c _).getD x []=_;rw[List.getD_eq_getElem?_getD];by_cases h:x=c
 ·subst h;rw[if_pos rfl,List.getElem?_set_self hc];rfl
 ·rw[if_neg h,List.getElem?_set_ne (λe=>h e.symm),List.getD_eq_getElem?_getD]
theorem noGap_len {c:Nat}{z:Int}:(S.noGap c z).gaps.length=S.gaps.length:=by
 unfold RS.noGap RS.setG;exact List.length_set ..
theorem gap_keep {c d x:Nat}{z y:Int}(hc:c<S.gaps.length)(hd:d<S.gaps.length):y∈(S.keep c z d).gap x↔y∈S.gap x/\¬(x=c/\y=z)/\¬(x=d/\y= -z):=by
 unfold RS.keep;have h1:∀x,((S.putWay c z d).putWay d (-z) c).gap x=S.gap x:=λx=>rfl
 have l1:((S.putWay c z d).putWay d (-z) c).gaps.length=S.gaps.length:=rfl;rw[gap_noGap (by rw[noGap_len];exact hd),gap_noGap (by exact hc),gap_noGap (by exact hc),h1,h1,h1];by_cases e1:x=d
 ·subst e1;rw[if_pos rfl];by_cases e2:x=c
  ·subst e2;rw[if_pos rfl,List.mem_filter,List.mem_filter];simp;constructor
   ·rintro ⟨⟨a,b⟩,e⟩;exact⟨a,b,e⟩
   ·rintro ⟨a,b,e⟩;exact⟨⟨a,b⟩,e⟩
  ·rw[if_neg e2,List.mem_filter];simp[e2]
 ·rw[if_neg e1];by_cases e2:x=c
  ·subst e2;rw[if_pos rfl,List.mem_filter];simp[e1]
  ·rw[if_neg e2];simp[e1,e2]
theorem gap_keep_sub {c d x:Nat}{z:Int}(hc:c<S.gaps.length)(hd:d<S.gaps.length):((S.keep c z d).gap x).Sublist (S.gap x):=by
 unfold RS.keep;have h1:∀x,((S.putWay c z d).putWay d (-z) c).gap x=S.gap x:=λx=>rfl
 rw[gap_noGap (by rw[noGap_len];exact hd),gap_noGap (by exact hc),gap_noGap (by exact hc),h1,h1,h1];by_cases e1:x=d
 ·subst e1;rw[if_pos rfl];by_cases e2:x=c
  ·subst e2;rw[if_pos rfl];exact List.Sublist.trans List.filter_sublist List.filter_sublist
  ·rw[if_neg e2];exact List.filter_sublist
 ·rw[if_neg e1];by_cases e2:x=c
  ·subst e2;rw[if_pos rfl];exact List.filter_sublist
  ·rw[if_neg e2];exact List.Sublist.refl _
theorem by_keep {c d x:Nat}{z y:Int}(hc:c<S.ways.length)(hd:d<S.ways.length):(S.keep c z d).by x y=if x=d/\y= -z then some c else if x=c/\y=z then some d else S.by x y:=by
 unfold RS.keep;show (((S.putWay c z d).putWay d (-z) c)).by x y=_;rw[by_putWay (by unfold RS.putWay RS.setW;rw[List.length_set];exact hd),by_putWay hc]
theorem GapI.keep (h:GapI S R ks)(g:Good S pend R){c d:Nat}{z:Int}(hc:c<S.made)(hd:d<S.made)(i:Im S R c z d):GapI (S.keep c z d) R ks:=by
 have gc:c<S.gaps.length:=by rw[g.wf.g];exact hc
 have gd:d<S.gaps.length:=by rw[g.wf.g];exact hd
 refine⟨λx hx=>(gap_keep_sub gc gd).trans (h.sub x hx),λx hx ex y hy hn=>?_,λx y e he=>?_⟩
 ·rw[gap_keep gc gd]at hn;by_cases h1:x=c/\y=z
  ·rw[h1.1,h1.2];exact⟨d,i⟩
  ·by_cases h2:x=d/\y= -z
   ·rw[h2.1,h2.2];exact⟨c,i.back g⟩
   ·exact h.im x hx ex y hy λq=>hn ⟨q,h1,h2⟩
 ·rw[by_keep (by rw[g.wf.w];exact hc) (by rw[g.wf.w];exact hd)]at he;rw[gap_keep gc gd];rintro ⟨q,q1,q2⟩;rw[if_neg q2,if_neg q1]at he;exact h.by_ x y e he q
theorem meet_gap {c x y:Nat}{z:Int}:(S.meet c z x y pend).1.gaps=S.gaps:=by
 have:=(offs_rest (max x y) (S.joined c z (min x y) (max x y)) pend ((S.joined c z (min x y) (max x y)).way (max x y))).2;have:=congrArg RS.gaps this;exact this
theorem GapI.meet (h:GapI S R ks)(g:Good S pend R){c x y:Nat}{z:Int}(hx:S.by c z=some x)(hy:y<S.made)(ey:S.eld y=y)(hxy:x≠y){pend':List Way}
 (made:(S.meet c z x y pend').1.made=S.made) (eld:∀a,(S.meet c z x y pend').1.eld a=if S.eld a=max x y then min x y else S.eld a):GapI (S.meet c z x y pend').1 R ks:=by
 have hg:∀a,(S.meet c z x y pend').1.gap a=S.gap a:=λa=>by unfold RS.gap;rw[meet_gap]
 obtain⟨_,hxm,_,ex⟩:=g.st _ _ _ hx;have hmx:max x y<S.made:=by rcases Nat.le_total x y with q|q <;> omega
 have hmm:min x y<max x y:=by rcases Nat.lt_or_gt_of_ne hxy with q|q <;> omega
 have stay:∀a,a<S.made->(S.meet c z x y pend').1.eld a=a->S.eld a=a/\a≠max x y:=λa ha e=>by
  rw[eld]at e;have hle:=(g.el a ha).1;by_cases q:S.eld a=max x y
  ·rw[if_pos q]at e;omega
  ·rw[if_neg q]at e;exact⟨e,λz=>q (by rw[e,z])⟩
 refine⟨λa ha=>by rw[hg];exact h.sub a (by rw[←made];exact ha),λa ha ea s hs hn=>?_,λa s b hb=>?_⟩
 ·rw[hg]at hn;obtain⟨e1,e2⟩:=stay a (by rw[←made];exact ha) ea;obtain⟨b,c',d',r,q1,q2⟩:=h.im a (by rw[←made];exact ha) e1 s hs hn;exact⟨_,c',d',r,by rw[eld,if_neg (by rw[q1];exact e2)];exact q1,rfl⟩
 ·rw[hg]
  have hlt:∀q∈(S.joined c z (min x y) (max x y)).way (max x y),q.2<(S.joined c z (min x y) (max x y)).ways.length:=λq hq=>by
   show q.2<S.ways.length;rw[g.wf.w];exact(g.st _ _ _ (getW_of (g.kn (max x y)) hq)).2.1
  have hb':(offs (max x y) (S.joined c z (min x y) (max x y)) pend' ((S.joined c z (min x y) (max x y)).way (max x y))).1.by a s=some b:=hb;rw[offs_by (by show max x y<S.ways.length;rw[g.wf.w];exact hmx) _ hlt]at hb';split at hb'
  ·cases hb'
  ·exact h.by_ a s b hb'
theorem meet_made {c x y:Nat}{z:Int}:(S.meet c z x y pend).1.made=S.made:=by
 have:=(offs_rest (max x y) (S.joined c z (min x y) (max x y)) pend ((S.joined c z (min x y) (max x y)).way (max x y))).2;have:=congrArg RS.made this;exact this
theorem GapI.take {w:Way}(hG:GapI S R ks)(h:Good S (pend++[w]) R):GapI (S.takeIn pend w).1 R ks:=by
 have hw:=h.pl w (List.mem_append_right _ List.mem_cons_self);have iw:=h.sp w (List.mem_append_right _ List.mem_cons_self);have hc:=h.lt hw.1;have hd:=h.lt hw.2;have ec:=(h.el _ hw.1).2;have ed:=(h.el _ hw.2).2;have hp:∀x∈pend,x∈pend++[w]:=λx hx=>List.mem_append_left _ hx
 have last:∀x∈pend++[w],x∉pend->x=w:=λx hx nx=>by
  rcases List.mem_append.mp hx with q|q
  ·exact absurd q nx
  ·exact List.mem_singleton.mp q
 unfold RS.takeIn;by_cases h1:(S.by (S.eld w.1) w.2.1).getD (S.eld w.2.2)≠S.eld w.2.2
 ·rw[if_pos h1]
  cases e:S.by (S.eld w.1) w.2.1 with
  |none=>rw[e]at h1;exact absurd rfl h1
  |some x=>
   rw[e]at h1;have h1:x≠S.eld w.2.2:=h1;obtain⟨_,e1,_⟩:=h.meet e hd ed h1 iw hp (λx hx nx=>by rw[last x hx nx];exact .inl ⟨rfl,rfl,rfl⟩);exact hG.meet h e hd ed h1 meet_made e1
 ·rw[if_neg h1];by_cases h2:(S.by (S.eld w.2.2) (-w.2.1)).getD (S.eld w.1)≠S.eld w.1
  ·rw[if_pos h2]
   cases e:S.by (S.eld w.2.2) (-w.2.1) with
   |none=>rw[e]at h2;exact absurd rfl h2
   |some x=>
    rw[e]at h2;have h2:x≠S.eld w.1:=h2;obtain⟨_,e1,_⟩:=h.meet e hc ec h2 (iw.back h) hp (λx hx nx=>by rw[last x hx nx];exact .inr ⟨rfl,(Int.neg_neg _).symm,rfl⟩);exact hG.meet h e hc ec h2 meet_made e1
  ·rw[if_neg h2];exact hG.keep h hc hd iw
theorem GapI.more {R':Nat->Int->Nat->Prop}(h:GapI S R ks)(hr:∀a z b,R a z b->R' a z b):GapI S R' ks:=⟨h.sub,λc hc ec z hz hn=>by
 obtain⟨d,c',d',r,e1,e2⟩:=h.im c hc ec z hz hn;exact⟨d,c',d',hr _ _ _ r,e1,e2⟩,h.by_⟩
theorem GapI.rows (h:GapI S R ks)(rows:List Dt):GapI { S with rows:=rows } R ks:=⟨h.sub,h.im,h.by_⟩
theorem GapI.make (h:GapI S R ks)(g:Good S [] R){c:Nat}{z:Int}(hc:c<S.made)(ec:S.eld c=c)(hn:S.by c z=none):GapI (S.make c z ks) (RAdd R c z S.made) ks:=by
 have gg:∀x,(S.grown c z ks).gap x=if x=S.made then ks else S.gap x:=λx=>by
  unfold RS.gap;show (S.gaps++[ks]).getD x []=_;rw[List.getD_eq_getElem?_getD,List.getD_eq_getElem?_getD];by_cases hx:x=S.made
  ·subst hx;rw[if_pos rfl,List.getElem?_append_right (by rw[g.wf.g];exact Nat.le_refl _),g.wf.g,Nat.sub_self];rfl
  ·rw[if_neg hx];by_cases hl:x<S.gaps.length
   ·rw[List.getElem?_append_left hl]
   ·have:=g.wf.g;rw[List.getElem?_append_right (by omega),List.getElem?_eq_none (by rw[List.length_singleton];omega),List.getElem?_eq_none (by omega)]
 have bg:∀x y,(S.grown c z ks).by x y=S.by x y:=λx y=>by unfold RS.by;rw[way_grown g.wf]
 have hcg:c<(S.grown c z ks).gaps.length:=by show c<(S.gaps++[ks]).length;rw[List.length_append,g.wf.g];omega
 have hmg:S.made<(S.grown c z ks).gaps.length:=by show S.made<(S.gaps++[ks]).length;rw[List.length_append,g.wf.g,List.length_singleton];omega
 have hcw:c<(S.grown c z ks).ways.length:=by show c<(S.ways++[[]]).length;rw[List.length_append,g.wf.w];omega
 have hmw:S.made<(S.grown c z ks).ways.length:=by show S.made<(S.ways++[[]]).length;rw[List.length_append,g.wf.w,List.length_singleton];omega
 have ee:∀x,(S.make c z ks).eld x=if x=S.made then S.made else S.eld x:=λx=>eld_grown g.wf c z ks x
 have nmade:∀a s b,S.by a s=some b->a≠S.made:=λa s b e q=>by have:=(g.st _ _ _ e).1;omega
 refine⟨λx hx=>?_,λx hx ex y hy hny=>?_,λx y e he=>?_⟩
 ·refine(gap_keep_sub hcg hmg).trans ?_;rw[gg];by_cases q:x=S.made
  ·rw[if_pos q];exact List.Sublist.refl _
  ·rw[if_neg q];have hx:x<S.made+ 1:=hx;exact h.sub x (by omega)
 ·have hny:y∉((S.grown c z ks).keep c z S.made).gap x:=hny;rw[gap_keep hcg hmg,gg]at hny;by_cases h1:x=c/\y=z
  ·refine⟨S.made,c,S.made,by rw[h1.2];exact radd_new,?_,?_⟩
   ·rw[ee,if_neg (by omega),h1.1];exact ec
   ·rw[ee,if_pos rfl]
  ·by_cases h2:x=S.made/\y= -z
   ·refine⟨c,S.made,c,by rw[h2.2];exact .inr (.inr ⟨rfl,rfl,rfl⟩),?_,?_⟩
    ·rw[ee,if_pos rfl,h2.1]
    ·rw[ee,if_neg (by omega)];exact ec
   ·by_cases q:x=S.made
    ·rw[if_pos q]at hny;exact absurd ⟨hy,h1,h2⟩ hny
    ·rw[if_neg q]at hny;have hx:x<S.made+ 1:=hx;rw[ee,if_neg q]at ex;obtain⟨d,c',d',r,e1,e2⟩:=h.im x (by omega) ex y hy λk=>hny ⟨k,h1,h2⟩
     have hr:=g.rl _ _ _ r;exact⟨d,c',d',.inl r,by rw[ee,if_neg (by omega)];exact e1,by rw[ee,if_neg (by omega)];exact e2⟩
 ·have he:((S.grown c z ks).keep c z S.made).by x y=some e:=he;rw[by_keep hcw hmw,bg]at he;show y∉((S.grown c z ks).keep c z S.made).gap x;rw[gap_keep hcg hmg,gg];rintro ⟨q,q1,q2⟩;rw[if_neg q2,if_neg q1]at he;rw[if_neg (nmade _ _ _ he)]at q;exact h.by_ x y e he q
theorem GapI.fin (h:GapI S R ks)(g:Good S [] R)(nd:ks.Nodup){c:Nat}(hc:c<S.made)(ec:S.eld c=c):S.gap c=ks.filter λz=>(S.by c z).isNone:=by
 have sl:∀{l k:List Int},l.Sublist k->k.Nodup->l=k.filter λz=>decide (z∈l):=λ{l k} s=>by
  induction s with
  |slnil=>intro _;rfl
  |cons a s ih=>
   rename_i l k;intro hn;have h1:=List.nodup_cons.mp hn;rw[List.filter_cons_of_neg (by simpa using λq=>h1.1 (s.subset q))];exact ih h1.2
  |cons_cons a s ih=>
   rename_i l k;intro hn;have h1:=List.nodup_cons.mp hn;rw[List.filter_cons_of_pos (by simp)]
   congr 1
   conv=>lhs;rw[ih h1.2]
   refine List.filter_congr λz hz=>?_
   have:z≠a:=λe=>h1.1 (by rw[←e];exact hz)
   simp[this]
 rw[sl (h.sub c hc) nd];refine List.filter_congr λz hz=>?_
 cases e:S.by c z with
 |some d=>
  have:=h.by_ c z d e;simp[this]
 |none=>
  by_cases q:z∈S.gap c
  ·simp[q]
  ·obtain⟨d,i⟩:=h.im c hc ec z hz q;have:=g.by_iff.mpr i;rw[e]at this;cases this
end
end L2
namespace L2
open PySem PySem.Spec PyProof.Rows
section
variable {M:Model} {A:Around} {E:Value->Shared->Prop} {s:Shared}
structure Fly (B:Heap) (l:List Env) (x:Addr) (cls a0:Value) (h:Heap):Prop where
 stays:B.StaysIn h
 new:B.get? x=none
 fun_:h.FunFrames B l
 tr:∃fl,h.TracedAtW B x cls a0 fl
end
section
variable {prog:Program} {w:World} {A:Around} {R:Result->Shared->Prop} {s:Shared}
end
section
variable {X:Cx} {elt iter:Expr} {x:Str} {px pos:Pos} {scope:Scope} {cl:List (Str×Addr)} {fns:List Str} {ixs:List Nat} {wi:TI} {te:TE}
end
section
variable {X:Cx}
end
end L2
namespace L2
open PySem PySem.Spec PyProof.Rows
section
variable {X:Cx} {tg:Expr}
end
def tDSet (td ty tx:TE):TE:=λ σ H Q=>td σ H λx H1=>∃a,x=.ref a/\IsD H1 a/\ty σ H1 λy H2=>tx σ H2 λz H3=>∃kvs k,H3 a=some (.dK kvs)/\y=kV k/\kvs.length<sizeLine/\
 (∀v,valV kvs k=some v->Q v H3)/\(valV kvs k=none->Q z (upd H3 a (.dK (putK kvs k z))))
section
variable {X:Cx} {o e f:Expr} {apos cpos:Pos} {td ty tx:TE}
theorem pe_dsetdefault2 (ho:PE X o td)(he:PE X e ty)(hf:PE X f tx)(m:M2 X o "setdefault" apos e f cpos):PE X (.Call (.Attribute o "setdefault" apos) [e,f] [] cpos) (tDSet td ty tx):=by
 intro pins s σ H Q I h;refine wpAny_Call_method m.base m.few m.line PySem.F.plainAttrs_dict PySem.F.slot_dict_setdefault PySem.F.type_dict_setdefault (thn (ho pins s σ H _ I h) λu s1 ⟨x,H1,I1,rx,a,ex,d,q1⟩=>?_);subst ex;obtain rfl:u=Value.ref a:=rx;obtain⟨t1,t2,_⟩:=isD_at I1 d;refine⟨t1,t2,?_⟩;rw[m.trees]
 refine Calls.callWith_builtin rfl (Calls.evalArgs_plain (Calls.spliced_cons (thn (he pins s1 σ H1 _ I1 q1) λiv s2 ⟨y,H2,I2,ry,q2⟩=>
  Calls.spliced_cons (thn (hf pins s2 σ H2 _ I2 q2) λfv s3 ⟨z,H3,I3,rz,kvs,k,ea,ey,hlt,q3,q4⟩=>Calls.spliced_nil ?_))))
 subst ey;obtain⟨hz,hd,vs,rel,dd⟩:=dk_of I3.hok ea;have hval:=rel.val k;have hvl:vs.length<=sizeLine:=by rw[←rel.length];exact hz
 refine call_meetsIn PySem.F.slot_dict_setdefault dd.typeIs PySem.F.entry_dict_setdefault (PySem.F.args_dict_setdefault_3 _ _ _) (kt_meets_setdefault (mixKind X.prog X.w) a (kV_is ry) hd fv) ⟨vs,dd,hvl,λv hv=>?_,λhn g1 dd' sb=>?_⟩
 ·rw[hv]at hval
  cases l:valV kvs k with
  |none=>rw[l]at hval;exact hval.elim
  |some y0=>
   rw[l]at hval;exact⟨y0,H3,I3.tok _,hval,q3 y0 l⟩
 ·rw[hn]at hval
  cases l:valV kvs k with
  |some y0=>rw[l]at hval;exact hval.elim
  |none=>
   have hl:(putK kvs k z).length<=sizeLine:=by have:=length_putK kvs k z;omega
   have he:∃q,g1.get? a=some q:=let ⟨q,_,_,hq,_⟩:=dd';⟨q,hq⟩
   exact⟨z,_,d_write I3 (by rw[ea];exact True.intro) sb he (dk_new hl hd (rel.put k rz) dd'),rz,q4 l⟩
end
end L2
namespace L2
open PySem PySem.Spec PyProof.Rows
namespace Di
section
variable {prog:Program} {w:World} {A:Around} {E:Value->Shared->Prop} {s:Shared} {d:Addr} {es:Array DictEntry} {ep:Nat}
theorem meets (d:Addr)(hd:(d==sysModules)=false):MeetsIn prog w (Builtin.«dict.items» ⟨[.ref d],[]⟩) (λ_ R s=>(∃es ep,RawD s.heap d es ep)/\R (.ok (.ret (.ref s.heap.objs.size))) { s with heap:=s.heap.push { cls:=.type "dict_items",data:=.fields #[.ref d] } }):=
 .of_wp λA R s ⟨⟨es,ep,hm⟩,h⟩=>by
  unfold Builtin.«dict.items»;refine wpAny_bind ?_;unfold Builtin.Dict.noArgs;refine wpAny_bind (wpAny_notOrdered_dict (Dk.typ hm) ?_);show wpAny _ _ (pure d) _ _ s
  refine wpAny_pure ?_;show wpAny _ _ (Builtin.Dict.showsAll d >>=_) _ _ s;unfold Builtin.Dict.showsAll
  rw[if_neg (by rw[hd];decide)];exact wpAny_bind (wpAny_pure (wpAny_bind (wpAny_newObj_type (wpAny_pure ⟨_,rfl,h⟩))))
theorem iter {v:Addr}{Q:Value->Shared->Prop}(hv:s.heap.IsItemsView v d)(hm:RawD s.heap d es ep)
 (hQ:Q (.ref s.heap.objs.size) { s with heap:=s.heap.push { cls:=.type "dict_itemiterator",data:=.fields #[.none,.bool false,.ref d,.int 0 0,.int es.size 0,.int ep 0,.none,.none] } }):wpAny (model prog w) A (pyIter (.ref v)) Q E s:=by
 obtain⟨ov,hov,hcv,hdv⟩:=id hv;obtain⟨o,ho,hc,hdat⟩:=id hm;refine wpAny_pyIter_slot hv.typeIs F.slot_dict_items_iter (wpAny_call_entry F.slot_dict_items_iter hv.typeIs F.entry_dict_items_iter ?_ (F.args_dict_items_iter_1 _));unfold Builtin.«dict_items.__iter__»;refine wpAny_bind (wpAny_pure (wpAny_bind ?_));unfold Builtin.Dict_items.dictOf;refine wpAny_bind (wpAny_field hov hdv (x:=.ref d) rfl (wpAny_pure (wpAny_bind ?_)));unfold Builtin.Dict_items.newIterator;refine wpAny_bind (wpAny_dictEntries ho hdat (wpAny_bind (wpAny_dictEpoch ho hdat ?_)));have own:Builtin.Dict_items.ownsTuple "dict_itemiterator"=true:=by decide
 simp only[own,if_true];refine wpAny_newObj_type (wpAny_pure ⟨_,rfl,"dict_itemiterator",_,⟨_,Heap.get?_push_size _ rfl,rfl⟩,F.slot_dict_itemiterator_next.lookup,?_⟩) (by simp only[sizeOk,Builtin.Dict_items.ownedTupleFields,List.size_toArray,List.length_append,List.length_cons,List.length_nil,sizeLine_eq];omega);simpa [rawInt,Builtin.Dict_items.ownedTupleFields] using hQ
theorem item {it:Addr}{i:Nat}{en:DictEntry}{ok ov:Value}{Q:Option Value->Shared->Prop}(hit:IsItemIter s.heap it d i es.size ep ok ov)(hm:RawD s.heap d es ep)(hx:es[i]?=some en)
 (hQ:∀g,IsItemIterOut g it d (i+ 1) es.size ep en.key en.val s.heap.objs.size->g.get? s.heap.objs.size=some { cls:=.type "tuple",data:=.seq #[en.key,en.val] }->
  (∀b o,b≠it->s.heap.get? b=some o->g.get? b=some o)->Q (some (.ref s.heap.objs.size)) { s with heap:=g }):wpAny (model prog w) A (pyNext (.ref it)) Q E s:=by
 obtain⟨hp,gn,dr,tk,os⟩:=s;obtain⟨od,hod,hcd,hdd⟩:=id hm;have hT:Shared.TypeIs ⟨hp,gn,dr,tk,os⟩ (.ref it) "dict_itemiterator":=⟨_,hit,rfl⟩;unfold pyNext;refine wpAny_bind (wpAny_attempt (wpAny_callSpecial?_slot (name:=Str.ofString "__next__") hT F.slot_dict_itemiterator_next (wpAny_call_entry F.slot_dict_itemiterator_next hT F.entry_dict_itemiterator_next ?_ (F.args_dict_itemiterator_next_1 _))));refine wpAny_bind (wpAny_pure (wpAny_bind (wpAny_bind ?_)))
 first|(refine wpAny_bind (wpAny_typeNameOfWhole_itemiter hT (wpAny_pure ?_));skip)|(refine wpAny_bind (wpAny_typeNameOf_itemiter hT (wpAny_pure ?_));skip)
 refine wpAny_bind (wpAny_fieldsOf hit rfl ?_);have own:Builtin.Dict_items.ownsTuple "dict_itemiterator"=true:=by decide
 simp only[own,if_true];show wpAny _ _ (if (Value.ref d==Value.none)=true then _ else _) _ _ _
 rw[if_neg (show ¬((Value.ref d==Value.none)=true) by intro z;cases z)];refine wpAny_bind (wpAny_pure (wpAny_bind (wpAny_dictEntries hod hdd ?_)));rw[if_neg (by simp)];refine wpAny_bind (wpAny_pure (wpAny_bind (wpAny_dictEpoch hod hdd ?_)));rw[if_neg (by simp)];refine wpAny_pure ?_;simp only[show ¬((i:Int)<0) by omega,if_false,Int.toNat_natCast,hx];refine wpAny_bind ?_
 first|(refine wpAny_bind (wpAny_typeNameOfWhole_itemiter hT (wpAny_pure ?_));skip)|(refine wpAny_bind (wpAny_typeNameOf_itemiter hT (wpAny_pure ?_));skip)
 refine wpAny_bind (wpAny_isOneOf_itemiter hT ?_);show wpAny _ _ (setField (.ref it) 3 (rawInt ((i:Int)+ 1)) >>=_) _ _ ⟨hp,gn,dr,tk,os⟩
 refine wpAny_bind (wpAny_setField_rec hit (by simp) λg1 e1 s1=>?_);replace s1:Heap.SameBut it hp g1:=s1
 replace e1:IsItemIter g1 it d (i+ 1) es.size ep ok ov:=by
  unfold IsItemIter;rw[show ((i+ 1:Nat):Int)=(i:Int)+ 1 by omega];simpa [rawInt] using e1
 have hT1:Shared.TypeIs ⟨g1,gn,dr,tk,os⟩ (.ref it) "dict_itemiterator":=⟨_,e1,rfl⟩;refine wpAny_bind (wpAny_holding (wpAny_bind (wpAny_isOneOf_itemiter hT1 (wpAny_bind (wpAny_isOneOf_itemiter hT1 ?_)))));show wpAny _ _ (Builtin.Dict_items.pairFromOwner (.ref it) 6 en.key en.val) _ _ ⟨g1,gn,dr,tk,os⟩;unfold Builtin.Dict_items.pairFromOwner;refine wpAny_bind (wpAny_newTuple ?_);have e2:IsItemIter (g1.push { cls:=.type "tuple",data:=.seq #[en.key,en.val] }) it d (i+ 1) es.size ep ok ov:=Heap.get?_push_of_some _ e1;generalize hg2:g1.push { cls:=.type "tuple",data:=.seq #[en.key,en.val] }=g2 at e2;have z1:g1.objs.size=hp.objs.size:=s1.1;have il:it<hp.objs.size:=Heap.lt_size hit;have t2:g2.get? hp.objs.size=some { cls:=.type "tuple",data:=.seq #[en.key,en.val] }:=by rw[←hg2,←z1];exact Heap.get?_push_size _ rfl
 have k2:∀b o,b≠it->hp.get? b=some o->g2.get? b=some o:=λb o hb e=>by rw[←hg2];exact Heap.get?_push_of_some _ (s1.extBut b o hb e)
 show wpAny _ _ (Builtin.Dict_items.ownedTupleIsFree (.ref it) >>=_) _ _ ⟨g2,gn,dr,tk,os⟩;rw[z1];clear hg2 e1 s1 hT1 z1 g1;refine wpAny_bind ?_;unfold Builtin.Dict_items.ownedTupleIsFree;refine wpAny_bind (wpAny_field e2 rfl (x:=.none) rfl (wpAny_pure ?_));simp only[if_true];refine wpAny_bind (wpAny_field e2 rfl (x:=ok) rfl (wpAny_bind (wpAny_field e2 rfl (x:=ov) rfl ?_)));refine wpAny_bind (wpAny_setField_rec e2 (by simp) λg3 e3 s3=>?_);replace s3:Heap.SameBut it g2 g3:=s3;replace e3:IsItemIter g3 it d (i+ 1) es.size ep en.key ov:=e3;refine wpAny_bind (wpAny_setField_rec e3 (by simp) λg4 e4 s4=>?_);replace s4:Heap.SameBut it g3 g4:=s4;replace e4:IsItemIter g4 it d (i+ 1) es.size ep en.key en.val:=e4;refine wpAny_bind (wpAny_setField_rec e4 (by simp) λg5 e5 s5=>?_);replace s5:Heap.SameBut it g4 g5:=s5;replace e5:IsItemIterOut g5 it d (i+ 1) es.size ep en.key en.val hp.objs.size:=e5;refine wpAny_bind (wpAny_setField_rec e5 (by simp) λg6 e6 s6=>?_);replace s6:Heap.SameBut it g5 g6:=s6;replace e6:IsItemIterOut g6 it d (i+ 1) es.size ep en.key en.val hp.objs.size:=e6;have k6:∀b o,b≠it->g2.get? b=some o->g6.get? b=some o:=λb o hb e=>s6.extBut b o hb (s5.extBut b o hb (s4.extBut b o hb (s3.extBut b o hb e)))
 exact wpAny_bind (wpAny_letGo (wpAny_pure (wpAny_pure ⟨_,rfl,wpAny_pure (hQ g6 e6 (k6 _ _ (Nat.ne_of_gt il) t2) λb o hb e=>k6 b o hb (k2 b o hb e))⟩)))
theorem fin {it:Addr}{i:Nat}{ok ov:Value}{Q:Option Value->Shared->Prop}(hh:A.handled=none)(hit:IsItemIter s.heap it d i es.size ep ok ov)(hm:RawD s.heap d es ep)(hx:es[i]?=none)
 (hQ:∀g,Heap.ExtBut it s.heap g->Q none { s with heap:=g }):wpAny (model prog w) A (pyNext (.ref it)) Q E s:=by
 obtain⟨od,hod,hcd,hdd⟩:=id hm;have hT:s.TypeIs (.ref it) "dict_itemiterator":=⟨_,hit,rfl⟩;unfold pyNext;refine wpAny_bind (wpAny_attempt (wpAny_callSpecial?_slot (name:=Str.ofString "__next__") hT F.slot_dict_itemiterator_next (wpAny_call_entry F.slot_dict_itemiterator_next hT F.entry_dict_itemiterator_next ?_ (F.args_dict_itemiterator_next_1 _))));refine wpAny_bind (wpAny_pure (wpAny_bind (wpAny_bind ?_)))
 first|(refine wpAny_bind (wpAny_typeNameOfWhole_itemiter hT (wpAny_pure ?_));skip)|(refine wpAny_bind (wpAny_typeNameOf_itemiter hT (wpAny_pure ?_));skip)
 refine wpAny_bind (wpAny_fieldsOf hit rfl ?_);have own:Builtin.Dict_items.ownsTuple "dict_itemiterator"=true:=by decide
 simp only[own,if_true];show wpAny _ _ (if (Value.ref d==Value.none)=true then _ else _) _ _ s
 rw[if_neg (show ¬((Value.ref d==Value.none)=true) by intro z;cases z)];refine wpAny_bind (wpAny_pure (wpAny_bind (wpAny_dictEntries hod hdd ?_)));rw[if_neg (by simp)];refine wpAny_bind (wpAny_pure (wpAny_bind (wpAny_dictEpoch hod hdd ?_)));rw[if_neg (by simp)];refine wpAny_pure ?_;simp only[show ¬((i:Int)<0) by omega,if_false,Int.toNat_natCast,hx];refine wpAny_bind ?_
 first|(refine wpAny_bind (wpAny_typeNameOfWhole_itemiter hT (wpAny_pure ?_));skip)|(refine wpAny_bind (wpAny_typeNameOf_itemiter hT (wpAny_pure ?_));skip)
 show wpAny _ _ (setField (.ref it) 2 .none >>=_) _ _ s;refine wpAny_bind (wpAny_setField hit rfl (by simp) ?_);show wpAny _ _ (newExc (.type "StopIteration") [] >>=_) _ _ _;refine wpAny_bind ?_;simp only[newExc,newTuple];refine wpAny_bind (wpAny_newObj_type ?_ (by size_fits));refine wpAny_bind (m:=firstArgMember _ _) (wpAny_of_eq (a:=Value.none) (by first|rfl|(simp only[firstArgMember];rfl)) ?_);refine wpAny_newObj_type ?_ (by size_fits);simp only[raiseNew];refine wpAny_bind (wpAny_handled ?_);rw[show A.in1.handled=none from hh];refine wpAny_bind (wpAny_pure (wpAny_throw ?_));refine wpAny_bind (wpAny_isInstance (T:="StopIteration") (b:=true) ⟨_,Heap.get?_push_size _ rfl,rfl⟩ isSubtype_stop ?_);exact wpAny_pure (hQ _ (((Heap.SameBut.update ..).extBut.push _).push _))
end
end Di
theorem paired_at {α β:Type}{R:α->β->Prop}:∀{xs:List α} {ys:List β},Paired R xs ys->∀{i:Nat} {x:α} {y:β},xs[i]?=some x->ys[i]?=some y->R x y
 |[],_,h,i,x,y,h1,_=>by simp at h1
 |k::kvs,_,h,i,x,y,h1,h2=>by
  cases h with
  |cons h0 ht=>
   cases i with
   |zero=>rw[←Option.some.inj h1,←Option.some.inj h2];exact h0
   |succ i=>exact paired_at ht h1 h2
def ItdI (d:Addr)(o:Obj)(kvs:List (List Key×V)):It:=
 ⟨λi H=>i<kvs.length/\H d=some (.frz o (.dT kvs)),λi H x H'=>∃p kp kv,kvs[i]?=some kv/\H p=none/\H kp=some (.tup (kv.1.map kV))/\x=.ref p/\H'=upd H p (.tup [.ref kp,kv.2]),λi H=>kvs.length<=i/\H d=some (.frz o (.dT kvs))⟩
theorem turn_dI {P:Program}{w:World}{K:PySem.W.Frag}{elts:List Expr}{x1:Nat}{tp:Pos}(d it:Addr)(o:Obj)(es:Array DictEntry)(ep:Nat)(kvs:List (List Key×V))(ho:o.data=.dict es ep):
 Turn P w K (.Tuple elts x1 tp) (ItdI d o kvs) [it] it (λi h=>∃ok ov,IsItemIter h it d i es.size ep ok ov) where
 mem:=by simp
 obj:=λi h st b hb=>by
  have e:b=it:=by simpa using hb
  subst e;obtain⟨ok,ov,e⟩:=st;exact⟨_,e,λv z=>by cases z⟩
 keep:=λi h h' ⟨ok,ov,e⟩ k=>⟨ok,ov,k it (by simp) _ e⟩
 item:=by
  intro X hP hw hK hc i pins s σ H E I hf st hg;subst hP hw hK;obtain⟨ok,ov,hit⟩:=st;obtain⟨hi,hd⟩:=hg;obtain⟨hgo,-,hsm,ys,kt,o2,es2,ep2,h1,h2,h3,h4,h5⟩:=I.hok d _ hd;rw[hgo]at h1;obtain rfl:=Option.some.inj h1;rw[ho]at h3;injection h3 with e1 e2
  subst e1 e2;have hyl:kvs.length=ys.length:=Paired.length kt;have hy:ys[i]?=some (ys[i]'(by omega)):=List.getElem?_eq_getElem (by omega)
  generalize ys[i]'(by omega)=y at hy;have hen:es[i]?=some (entryOfKey (tupleKind (mixKind X.prog X.w)) y):=by rw[entry_at h4,hy];rfl
  have hkv:kvs[i]?=some (kvs[i]'hi):=List.getElem?_eq_getElem hi
  generalize kvs[i]'hi=kv at hkv;have hk:kv.1=y.1/\H y.2.1=some (.tup (kv.1.map kV))/\RelV kv.2 y.2.2:=paired_at kt hkv hy;have il:it<s.heap.objs.size:=Heap.lt_size hit;refine Di.item hit ⟨_,hgo,h2,ho⟩ hen λg ho' hT hkk=>⟨_,rfl,wpAny_letOwnedTupleGo_items ho' λg2 he' sb=>?_⟩
  have hT2:g2.get? s.heap.objs.size=some { cls:=.type "tuple",data:=.seq #[.ref y.2.1,y.2.2] }:=(sb.2 _ (Nat.ne_of_gt il)).trans hT
  have hk2:∀b ob,b∉[it]->s.heap.get? b=some ob->g2.get? b=some ob:=λb ob hb q=>by
   have h1:b≠it:=λz=>hb (by simp[z])
   exact(sb.2 b h1).trans (hkk b ob h1 q)
  have hfr:=I.hok.fresh (Nat.le_refl s.heap.objs.size);refine⟨.ref s.heap.objs.size,_,I.turnLaid (fp:=[it]) (a:=s.heap.objs.size) (o:=.tup [.ref y.2.1,kv.2]) (h':=g2) (t':=s.toks) hk2 hf (Nat.le_refl _) ?_,rfl,⟨_,y.2.1,kv,hkv,hfr,hk.2.1,rfl,rfl⟩,⟨_,_,he'⟩,λb hb=>?_⟩
  ·exact⟨by show 2<=sizeLine;decide,[.ref y.2.1,y.2.2],.cons rfl (.cons hk.2.2 .nil),_,hT2,rfl,_,rfl⟩
  ·rw[List.mem_singleton.mp hb,upd_ne (Nat.ne_of_lt il)];exact(hf it (by simp)).1
 done:=by
  intro X hP hw hK hc i pins s σ H E I hf st hg;subst hP hw hK;obtain⟨ok,ov,hit⟩:=st;obtain⟨hi,hd⟩:=hg;obtain⟨hgo,-,hsm,ys,kt,o2,es2,ep2,h1,h2,h3,h4,h5⟩:=I.hok d _ hd;rw[hgo]at h1;obtain rfl:=Option.some.inj h1;rw[ho]at h3;injection h3 with e1 e2
  subst e1 e2;have hyl:kvs.length=ys.length:=Paired.length kt;have hsz:es.size=ys.length:=size_of_entries h4;exact Di.fin (I.ok.hd hc) hit ⟨_,hgo,h2,ho⟩ (Array.getElem?_eq_none (by omega)) λg eb=>⟨rfl,I.turnedL (fp:=[it]) (t':=s.toks) (λb ob hb q=>eb b ob (λz=>hb (by simp[z])) q) hf⟩
 self:=λA i s Q E ⟨ok,ov,hit⟩ h=>PySem.W.kcp_self hit h
section
variable {X:Cx}
def iDI (tl:TE):TI:=λ σ H R=>tl σ H λx H1=>∃d kvs,x=.ref d/\H1 d=some (.dT kvs)/\∀o,R (ItdI d o kvs) (upd H1 d (.frz o (.dT kvs)))
theorem pi_dI {l:Expr}{tl:TE}{elts:List Expr}{x1:Nat}{tp apos cpos:Pos}(hl:PE X l tl)(hbase:attributeBase l "items" X.env (eval l X.env)=eval l X.env:=by rfl)(hline:(apos.endLine==cpos.line)=true:=by rfl):
 PI X (.Tuple elts x1 tp) (.Call (.Attribute l "items" apos) [] [] cpos) (iDI tl):=by
 intro pins s σ H R I h;refine wpAny_Call_method0_late hbase hline (thn (hl pins s σ H _ I h) λu s1 ⟨x,H1,I1,rx,d,kvs,ex,hd,q⟩=>?_);subst ex;cases rx;obtain⟨-,hsm,ys,kt,o,es,ep,h1,h2,h3,h4,h5⟩:=I1.hok d _ hd;have hraw:RawD s1.heap d es ep:=⟨o,h1,h2,h3⟩;have isd:IsD H1 d:=.inr ⟨kvs,.inl hd⟩;obtain⟨t1,t2,_⟩:=isD_at I1 isd;refine⟨"dict","dict.items",PySem.F.plainAttrs_dict,PySem.F.slot_dict_items,PySem.F.type_dict_items,t1,t2,Calls.callWith_builtin rfl (PySem.evalArgs_none ?_)⟩;refine call_meetsIn PySem.F.slot_dict_items t1 PySem.F.entry_dict_items (PySem.F.args_dict_items_1 _) (Di.meets d hsm) ⟨⟨es,ep,hraw⟩,?_⟩;have hv:(s1.heap.push { cls:=.type "dict_items",data:=.fields #[.ref d] }).IsItemsView s1.heap.objs.size d:=⟨_,Heap.get?_push_size _ rfl,rfl,rfl⟩;have hraw2:RawD (s1.heap.push { cls:=.type "dict_items",data:=.fields #[.ref d] }) d es ep:=⟨o,Heap.get?_push_of_some _ h1,h2,h3⟩;refine Di.iter (s:={ s1 with heap:=s1.heap.push { cls:=.type "dict_items",data:=.fields #[.ref d] } }) hv hraw2 ?_;have I2:=(I1.freeze hd True.intro h1).kept (h':=(s1.heap.push { cls:=.type "dict_items",data:=.fields #[.ref d] }).push { cls:=.type "dict_itemiterator",data:=.fields #[.none,.bool false,.ref d,.int 0 0,.int es.size 0,.int ep 0,.none,.none] }) (t':=s1.toks) λb o e=>Heap.get?_push_of_some _ (Heap.get?_push_of_some _ e)
 have hge:s1.heap.objs.size<=(s1.heap.push { cls:=.type "dict_items",data:=.fields #[.ref d] }).objs.size:=by rw[Heap.size_push];omega
 have T:=turn_dI (P:=X.prog) (w:=X.w) (K:=X.K) (elts:=elts) (x1:=x1) (tp:=tp) d (s1.heap.push { cls:=.type "dict_items",data:=.fields #[.ref d] }).objs.size o es ep kvs h3;refine⟨_,_,_,_,_,rfl,I2,T,⟨_,_,Heap.get?_push_size _ rfl⟩,λb hb=>?_,q o⟩;rw[List.mem_singleton.mp hb];have hfr:=I1.hok.fresh hge;exact I1.fpOk hge (by rw[upd_ne (λz=>by rw[z,hd]at hfr;cases hfr)];exact hfr)
end
theorem for_dI {d:Addr}{o:Obj}{kvs:List (List Key×V)}{g:TG}{tb:TS}{D:Ends}{σ:St}{H:Hp}(Pv:Nat->St->Hp->Prop)(h0:Pv 0 σ H)(hl:∀i σ H,i<=kvs.length->Pv i σ H->H d=some (.frz o (.dT kvs)))
 (hs:∀i kv σ H p kp,kvs[i]?=some kv->H p=none->H kp=some (.tup (kv.1.map kV))->Pv i σ H->g (.ref p) σ (upd H p (.tup [.ref kp,kv.2])) λ σ2 H2=>tb { D with nx:=Pv (i+ 1),ct:=Pv (i+ 1),bk:=D.nx } σ2 H2) (hd:∀ σ H,Pv kvs.length σ H->D.nx σ H):
 ∃W:Nat->Nat->St->Hp->Prop,(∃m,W 0 m σ H)/\∀i m σ H,W i m σ H->
  ((ItdI d o kvs).stop i H/\D.nx σ H)\/((ItdI d o kvs).go i H/\∃N:St->Hp->Prop,(∀ σ' H',N σ' H'->∃m',m'<m/\W (i+ 1) m' σ' H')/\∀x H',(ItdI d o kvs).yld i H x H'->g x σ H' λ σ2 H2=>tb { D with nx:=N,ct:=N,bk:=D.nx } σ2 H2):=by
 refine⟨λi m σ H=>m=kvs.length - i/\i<=kvs.length/\Pv i σ H,⟨kvs.length,by simp,Nat.zero_le _,h0⟩,?_⟩;rintro i m σ H ⟨rfl,hi,p⟩;have q:=hl i σ H hi p;by_cases hlt:i<kvs.length
 ·refine .inr ⟨⟨hlt,q⟩,Pv (i+ 1),λ σ' H' p'=>⟨kvs.length - (i+ 1),by omega,rfl,hlt,p'⟩,λx H' y=>?_⟩;obtain⟨p2,kp,kv,h1,h2,h3,rfl,rfl⟩:=y;exact hs i kv σ _ p2 kp h1 h2 h3 p
 ·have e:i=kvs.length:=by omega
  subst e;exact .inl ⟨⟨Nat.le_refl _,q⟩,hd σ H p⟩
end L2
namespace L2
open PySem PySem.Spec PyProof.Rows
theorem nd_range:∀(n:Nat) (l:List Int) (lo:Int),l.Nodup->(∀x∈l,lo<=x/\x<lo+ n)->l.length<=n
 |0,[],_,_,_=>Nat.le_refl _
 |0,x::l,lo,_,h=>by have:=h x (List.mem_cons_self ..);omega
 |n+ 1,l,lo,hn,h=>by
  by_cases hm:lo+ n∈l
  ·have h1:=nd_range n (l.erase (lo+ n)) lo (hn.erase _) λx hx=>by
    have h2:=(hn.mem_erase_iff.mp hx);have h3:=h x h2.2;have h4:x≠lo+ n:=h2.1;omega
   rw[List.length_erase_of_mem hm]at h1;omega
  ·have h1:=nd_range n l lo hn λx hx=>by
    have h3:=h x hx;have h4:x≠lo+ n:=λz=>hm (by rw[←z];exact hx)
    omega
   omega
section
variable {κ:Type} [DecidableEq κ]
theorem valV_drop (kvs:List (κ×V))(k j:κ):valV (dropK kvs k) j=if j=k then none else valV kvs j:=by
 unfold dropK
 induction kvs with
 |nil=>rw[List.filter_nil];split <;> rfl
 |cons p r ih=>
  by_cases hp:p.1=k
  ·rw[List.filter_cons_of_neg (by simp[hp]),ih];by_cases hj:j=k
   ·rw[if_pos hj,if_pos hj]
   ·rw[if_neg hj,if_neg hj,valV_neg (λz=>hj (z.symm.trans hp))]
  ·rw[List.filter_cons_of_pos (by simp[hp])];by_cases hj:p.1=j
   ·rw[valV_pos hj,if_neg (λz=>hp (hj.trans z)),valV_pos hj]
   ·rw[valV_neg hj,ih];by_cases hk:j=k
    ·rw[if_pos hk,if_pos hk]
    ·rw[if_neg hk,if_neg hk,valV_neg hj]
theorem put_keys (kvs:List (κ×V))(k:κ)(v:V):(putK kvs k v).map (·.1)=if k∈kvs.map (·.1) then kvs.map (·.1) else kvs.map (·.1)++[k]:=by
 unfold putK;by_cases h:(kvs.any λkv=>decide (kv.1=k))=true
 ·have hm:k∈kvs.map (·.1):=by
   obtain⟨kv,h1,h2⟩:=List.any_eq_true.mp h;exact List.mem_map.mpr ⟨kv,h1,of_decide_eq_true h2⟩
  rw[if_pos h,if_pos hm,List.map_map];refine List.map_congr_left λkv _=>?_
  show (if kv.1=k then (kv.1,v) else kv).1=kv.1;split <;> rfl
 ·have hm:k∉kvs.map (·.1):=λz=>by
   obtain⟨kv,h1,h2⟩:=List.mem_map.mp z;exact h (List.any_eq_true.mpr ⟨kv,h1,decide_eq_true h2⟩)
  rw[if_neg h,if_neg hm,List.map_append];rfl
theorem put_nd {kvs:List (κ×V)}(k:κ)(v:V)(h:(kvs.map (·.1)).Nodup):((putK kvs k v).map (·.1)).Nodup:=by
 rw[put_keys];split
 ·exact h
 ·rename_i hk;refine List.nodup_append.mpr ⟨h,by simp,λx hx y hy z=>?_⟩;rw[List.mem_singleton.mp hy]at z;exact hk (by rw[←z];exact hx)
theorem drop_nd {kvs:List (κ×V)}(k:κ)(h:(kvs.map (·.1)).Nodup):((dropK kvs k).map (·.1)).Nodup:=by
 unfold dropK;exact List.Nodup.sublist ((List.filter_sublist).map _) h
theorem valV_mem {kvs:List (κ×V)}(h:(kvs.map (·.1)).Nodup){kv:κ×V}(hm:kv∈kvs):valV kvs kv.1=some kv.2:=by
 induction kvs with
 |nil=>cases hm
 |cons p r ih=>
  rw[List.map_cons,List.nodup_cons]at h;rcases List.mem_cons.mp hm with e|hm
  ·rw[e];exact valV_pos rfl
  ·rw[valV_neg (λz=>h.1 (by rw[z];exact List.mem_map_of_mem hm))];exact ih h.2 hm
theorem mem_valV {kvs:List (κ×V)}{k:κ}{v:V}(h:valV kvs k=some v):(k,v)∈kvs:=by
 unfold valV at h
 cases e:kvs.find? λkv=>decide (kv.1=k) with
 |none=>rw[e]at h;cases h
 |some kv=>
  rw[e]at h;have h1:=List.find?_some e;have h2:=List.mem_of_find?_eq_some e;have h3:kv.1=k:=of_decide_eq_true h1;have h4:kv.2=v:=Option.some.inj h;rw[←h3,←h4];exact h2
end
def DI (H:Hp)(d:Addr)(f:Int->Option V):Prop:=∃kvs:List (Key×V),H d=some (.dK kvs)/\(kvs.map (·.1)).Nodup/\(∀kv∈kvs,∃i:Int,kv.1=Sum.inl i)/\∀i:Int,valV kvs (Sum.inl i)=f i
theorem DI.at {H H':Hp}{d:Addr}{f:Int->Option V}(h:DI H d f)(k:∀o,H d=some o->H' d=some o):DI H' d f:=by
 obtain⟨kvs,h1,h2⟩:=h;exact⟨kvs,k _ h1,h2⟩
theorem DI.congr {H:Hp}{d:Addr}{f g:Int->Option V}(h:DI H d f)(e:∀i,f i=g i):DI H d g:=by
 obtain⟨kvs,h1,h2,h3,h4⟩:=h;exact⟨kvs,h1,h2,h3,λi=>(h4 i).trans (e i)⟩
theorem di_put {H:Hp}{d:Addr}{kvs:List (Key×V)}{f:Int->Option V}(h2:(kvs.map (·.1)).Nodup)(h3:∀kv∈kvs,∃i:Int,kv.1=Sum.inl i)(h4:∀i:Int,valV kvs (Sum.inl i)=f i)(i:Int)(v:V):DI (upd H d (.dK (putK kvs (Sum.inl i) v))) d (λj=>if j=i then some v else f j):=by
 refine⟨_,upd_same,put_nd _ _ h2,λkv hkv=>?_,λj=>?_⟩
 ·have:kv.1∈(putK kvs (Sum.inl i) v).map (·.1):=List.mem_map_of_mem hkv;rw[put_keys]at this;split at this
  ·obtain⟨q,hq,e⟩:=List.mem_map.mp this;rw[←e];exact h3 q hq
  ·rcases List.mem_append.mp this with z|z
   ·obtain⟨q,hq,e⟩:=List.mem_map.mp z;rw[←e];exact h3 q hq
   ·exact⟨i,List.mem_singleton.mp z⟩
 ·rw[valV_put];dsimp only;by_cases e:j=i
  ·rw[if_pos e,if_pos (by rw[e])]
  ·rw[if_neg e,if_neg (λz=>e (Sum.inl.inj z)),h4]
theorem di_drop {H:Hp}{d:Addr}{kvs:List (Key×V)}{f:Int->Option V}(h2:(kvs.map (·.1)).Nodup)(h3:∀kv∈kvs,∃i:Int,kv.1=Sum.inl i)(h4:∀i:Int,valV kvs (Sum.inl i)=f i)(i:Int):DI (upd H d (.dK (dropK kvs (Sum.inl i)))) d (λj=>if j=i then none else f j):=by
 refine⟨_,upd_same,drop_nd _ h2,λkv hkv=>h3 kv ((List.mem_filter.mp hkv).1),λj=>?_⟩;rw[valV_drop];dsimp only;by_cases e:j=i
 ·rw[if_pos e,if_pos (by rw[e])]
 ·rw[if_neg e,if_neg (λz=>e (Sum.inl.inj z)),h4]
theorem di_len {kvs:List (Key×V)}{f:Int->Option V}(h2:(kvs.map (·.1)).Nodup)(h3:∀kv∈kvs,∃i:Int,kv.1=Sum.inl i)(h4:∀i:Int,valV kvs (Sum.inl i)=f i){n:Nat}{lo:Int}(hb:∀i v,f i=some v->lo<=i/\i<lo+ n):kvs.length<=n:=by
 have h:=nd_range n (kvs.map λkv=>match kv.1 with|Sum.inl i=>i|Sum.inr _=>0) lo ?_ λx hx=>?_
 ·rw[List.length_map]at h;exact h
 ·have e:kvs.map (·.1)=(kvs.map λkv=>match kv.1 with|Sum.inl i=>i|Sum.inr _=>(0:Int)).map Sum.inl:=by
   rw[List.map_map];refine List.map_congr_left λkv hkv=>?_
   obtain⟨i,hi⟩:=h3 kv hkv;show kv.1=Sum.inl (match kv.1 with|Sum.inl i=>i|Sum.inr _=>(0:Int));rw[hi]
  rw[e]at h2;exact List.Pairwise.imp (λ{a b} q z=>q (congrArg Sum.inl z)) (List.pairwise_map.mp h2)
 ·obtain⟨kv,hkv,rfl⟩:=List.mem_map.mp hx;obtain⟨i,hi⟩:=h3 kv hkv;have h5:=valV_mem h2 hkv;rw[hi,h4]at h5;show lo<=(match kv.1 with|Sum.inl i=>i|Sum.inr _=>(0:Int))/\(match kv.1 with|Sum.inl i=>i|Sum.inr _=>(0:Int))<lo+ n;rw[hi];exact hb i _ h5
abbrev Rel3:=Int->Int->Int->Bool
structure KAt (H:Hp) (k:Addr) (D:Int->Option Addr) (E:Int->Int->Option Addr) (S:Rel3):Prop where
 top:DI H k λc=>(D c).map V.ref
 row:∀c d,D c=some d->DI H d λs=>(E c s).map V.ref
 cel:∀c s e,E c s=some e->DI H e λo=>if S c s o=true then some (.bl true) else none
 ed:∀c s e,E c s=some e->∃d,D c=some d
 se:∀c s o,S c s o=true->∃e,E c s=some e
 nd:∀c d,D c=some d->d≠k
 ne:∀c s e,E c s=some e->e≠k
 dd:∀c c' d,D c=some d->D c'=some d->c=c'
 de:∀c c' s d,D c=some d->E c' s=some d->False
 ee:∀c s c' s' e,E c s=some e->E c' s'=some e->c=c'/\s=s'
def Kown (k:Addr)(D:Int->Option Addr)(E:Int->Int->Option Addr)(b:Addr):Prop:=b=k\/(∃c,D c=some b)\/∃c s,E c s=some b
section
variable {H H':Hp} {k:Addr} {D:Int->Option Addr} {E:Int->Int->Option Addr} {S:Rel3}
theorem KAt.keep (h:KAt H k D E S)(f:∀b o,Kown k D E b->H b=some o->H' b=some o):KAt H' k D E S:=
 ⟨h.top.at λo e=>f _ _ (.inl rfl) e,λc d e=>(h.row c d e).at λo q=>f _ _ (.inr (.inl ⟨c,e⟩)) q,λc s e q=>(h.cel c s e q).at λo r=>f _ _ (.inr (.inr ⟨c,s,q⟩)) r,h.ed,h.se,h.nd,h.ne,h.dd,h.de,h.ee⟩
theorem KAt.same (h:KAt H k D E S)(s:Same H H'):KAt H' k D E S:=h.keep λb o _ e=>s b o e
theorem KAt.there (h:KAt H k D E S){b:Addr}(hb:Kown k D E b):∃kvs,H b=some (.dK kvs):=by
 rcases hb with rfl|⟨c,e⟩|⟨c,s,e⟩
 ·obtain⟨kvs,q,_⟩:=h.top;exact⟨kvs,q⟩
 ·obtain⟨kvs,q,_⟩:=h.row c b e;exact⟨kvs,q⟩
 ·obtain⟨kvs,q,_⟩:=h.cel c s b e;exact⟨kvs,q⟩
theorem KAt.congr (h:KAt H k D E S){D':Int->Option Addr}{E':Int->Int->Option Addr}{S':Rel3}(e1:∀c,D c=D' c)(e2:∀c s,E c s=E' c s)(e3:∀c s o,S c s o=S' c s o):KAt H k D' E' S':=by
 obtain rfl:D=D':=funext e1;obtain rfl:E=E':=funext λc=>funext (e2 c)
 obtain rfl:S=S':=funext λc=>funext λs=>funext (e3 c s)
 exact h
theorem KAt.topL (h:KAt H k D E S):∃kvs:List (Key×V),H k=some (.dK kvs)/\(kvs.map (·.1)).Nodup/\(∀kv∈kvs,∃i:Int,kv.1=Sum.inl i)/\∀i:Int,valV kvs (Sum.inl i)=(D i).map V.ref:=h.top
theorem KAt.rowL (h:KAt H k D E S){c:Int}{d:Addr}(hd:D c=some d):∃kvs:List (Key×V),H d=some (.dK kvs)/\(kvs.map (·.1)).Nodup/\(∀kv∈kvs,∃i:Int,kv.1=Sum.inl i)/\∀i:Int,valV kvs (Sum.inl i)=(E c i).map V.ref:=h.row c d hd
theorem KAt.celL (h:KAt H k D E S){c s:Int}{e:Addr}(he:E c s=some e):∃kvs:List (Key×V),H e=some (.dK kvs)/\(kvs.map (·.1)).Nodup/\(∀kv∈kvs,∃i:Int,kv.1=Sum.inl i)/\∀i:Int,valV kvs (Sum.inl i)=if S c s i=true then some (.bl true) else none:=h.cel c s e he
theorem KAt.addCell (h:KAt H k D E S){c s:Int}{d e:Addr}(hd:D c=some d)(he:E c s=none){kvs:List (Key×V)}(hk:H d=some (.dK kvs))(hn:H e=some (.dK []))(nw:¬Kown k D E e):
 KAt (upd H d (.dK (putK kvs (Sum.inl s) (.ref e)))) k D (λc' s'=>if c'=c/\s'=s then some e else E c' s') S:=by
 have ned:e≠d:=λz=>nw (.inr (.inl ⟨c,by rw[z];exact hd⟩))
 obtain⟨kvs',q1,q2,q3,q4⟩:=h.row c d hd;rw[hk]at q1;obtain rfl:kvs=kvs':=by injection q1 with q1;injection q1
 refine⟨h.top.at λo q=>?_,λc' d' hd'=>?_,λc' s' e' he'=>?_,λc' s' e' he'=>?_,λc' s' o ho=>?_,h.nd,λc' s' e' he'=>?_,h.dd,λc' c2 s' d' hd' he'=>?_,λc' s' c2 s2 e' h1 h2=>?_⟩
 ·rw[upd_ne (h.nd c d hd).symm];exact q
 ·by_cases ec:c'=c
  ·subst ec;have:d'=d:=by rw[hd]at hd';exact(Option.some.inj hd').symm
   subst this;refine(di_put q2 q3 q4 s (.ref e)).congr λs'=>?_
   by_cases es:s'=s
   ·rw[if_pos es,if_pos ⟨rfl,es⟩];rfl
   ·rw[if_neg es,if_neg (λz=>es z.2)]
  ·have nd':d'≠d:=λz=>ec (h.dd _ _ _ hd' (by rw[z];exact hd))
   refine((h.row c' d' hd').at λo q=>by rw[upd_ne nd'];exact q).congr λs'=>?_
   rw[if_neg (λz=>ec z.1)]
 ·by_cases ec:c'=c/\s'=s
  ·rw[if_pos ec]at he';obtain rfl:=Option.some.inj he';obtain⟨rfl,rfl⟩:=ec;refine⟨[],by rw[upd_ne ned];exact hn,by simp,(λkv hkv=>by cases hkv),λo=>?_⟩
   cases q:S c' s' o with
   |true=>obtain⟨e',z⟩:=h.se _ _ _ q;rw[he]at z;cases z
   |false=>dsimp only;rw[q];rfl
  ·rw[if_neg ec]at he';exact(h.cel c' s' e' he').at λo q=>by rw[upd_ne (λz=>h.de c c' s' d hd (by rw[←z];exact he'))];exact q
 ·by_cases ec:c'=c/\s'=s
  ·exact⟨d,by rw[ec.1];exact hd⟩
  ·rw[if_neg ec]at he';exact h.ed _ _ _ he'
 ·by_cases ec:c'=c/\s'=s
  ·exact⟨e,if_pos ec⟩
  ·obtain⟨e',z⟩:=h.se _ _ _ ho;exact⟨e',by rw[if_neg ec];exact z⟩
 ·by_cases ec:c'=c/\s'=s
  ·rw[if_pos ec]at he';obtain rfl:=Option.some.inj he';exact λz=>nw (.inl z)
  ·rw[if_neg ec]at he';exact h.ne _ _ _ he'
 ·by_cases ec:c2=c/\s'=s
  ·rw[if_pos ec]at he';obtain rfl:=Option.some.inj he';exact nw (.inr (.inl ⟨c',hd'⟩))
  ·rw[if_neg ec]at he';exact h.de _ _ _ _ hd' he'
 ·by_cases e1:c'=c/\s'=s
  ·rw[if_pos e1]at h1;obtain rfl:=Option.some.inj h1;by_cases e2:c2=c/\s2=s
   ·exact⟨e1.1.trans e2.1.symm,e1.2.trans e2.2.symm⟩
   ·rw[if_neg e2]at h2;exact(nw (.inr (.inr ⟨c2,s2,h2⟩))).elim
  ·rw[if_neg e1]at h1;by_cases e2:c2=c/\s2=s
   ·rw[if_pos e2]at h2;obtain rfl:=Option.some.inj h2;exact(nw (.inr (.inr ⟨c',s',h1⟩))).elim
   ·rw[if_neg e2]at h2;exact h.ee _ _ _ _ _ h1 h2
theorem KAt.setCell (h:KAt H k D E S){c s:Int}{e:Addr}(he:E c s=some e){u:HO}{g:Int->Bool}(hg:DI (upd H e u) e λo=>if g o=true then some (.bl true) else none):
 KAt (upd H e u) k D E (λc' s' o=>if c'=c/\s'=s then g o else S c' s' o):=by
 refine⟨h.top.at λo q=>?_,λc' d' hd'=>(h.row c' d' hd').at λo q=>?_,λc' s' e' he'=>?_,h.ed,λc' s' o ho=>?_,h.nd,h.ne,h.dd,h.de,h.ee⟩
 ·rw[upd_ne (h.ne _ _ _ he).symm];exact q
 ·rw[upd_ne (λz=>h.de _ _ _ _ hd' (by rw[z];exact he))];exact q
 ·by_cases ec:c'=c/\s'=s
  ·obtain⟨rfl,rfl⟩:=ec;rw[he]at he';obtain rfl:=Option.some.inj he';refine hg.congr λo=>?_
   simp
  ·refine((h.cel c' s' e' he').at λo q=>?_).congr λo=>by rw[if_neg ec]
   rw[upd_ne (λz=>ec (h.ee _ _ _ _ _ he' (by rw[z];exact he)))];exact q
 ·by_cases ec:c'=c/\s'=s
  ·exact⟨e,by rw[ec.1,ec.2];exact he⟩
  ·rw[if_neg ec]at ho;exact h.se _ _ _ ho
theorem KAt.addMem (h:KAt H k D E S){c s:Int}{e:Addr}(he:E c s=some e){kvs:List (Key×V)}(hk:H e=some (.dK kvs))(o:Int):
 KAt (upd H e (.dK (putK kvs (Sum.inl o) (.bl true)))) k D E (λc' s' o'=>S c' s' o' || (decide (c'=c) && decide (s'=s) && decide (o'=o))):=by
 obtain⟨kvs',q1,q2,q3,q4⟩:=h.cel c s e he;rw[hk]at q1;obtain rfl:kvs=kvs':=by injection q1 with q1;injection q1
 refine(h.setCell (g:=λo'=>S c s o' || decide (o'=o)) he ((di_put q2 q3 q4 o (.bl true)).congr λo'=>?_)).congr (λ_=>rfl) (λ_ _=>rfl) λc' s' o'=>?_
 ·by_cases e1:o'=o
  ·rw[if_pos e1];simp[e1]
  ·rw[if_neg e1];simp[e1]
 ·by_cases ec:c'=c/\s'=s
  ·obtain⟨rfl,rfl⟩:=ec;simp
  ·rw[if_neg ec]
   have:(decide (c'=c) && decide (s'=s))=false:=by
    rw[Bool.and_eq_false_iff,decide_eq_false_iff_not,decide_eq_false_iff_not];by_cases e1:c'=c
    ·exact .inr λz=>ec ⟨e1,z⟩
    ·exact .inl e1
   rw[this];simp
theorem KAt.addRoom (h:KAt H k D E S){n:Int}{d:Addr}(hd:D n=none){kvs:List (Key×V)}(hk:H k=some (.dK kvs))(hn:H d=some (.dK []))(nw:¬Kown k D E d):
 KAt (upd H k (.dK (putK kvs (Sum.inl n) (.ref d)))) k (λc=>if c=n then some d else D c) E S:=by
 obtain⟨kvs',q1,q2,q3,q4⟩:=h.top;rw[hk]at q1;obtain rfl:kvs=kvs':=by injection q1 with q1;injection q1
 have ndk:d≠k:=λz=>nw (.inl z)
 have en:∀s,E n s=none:=λs=>by
  cases q:E n s with
  |none=>rfl
  |some e=>obtain⟨d',z⟩:=h.ed _ _ _ q;rw[hd]at z;cases z
 refine⟨(di_put q2 q3 q4 n (.ref d)).congr λc=>?_,λc d' hd'=>?_,λc s e he=>(h.cel c s e he).at λo q=>?_,λc s e he=>?_,h.se,λc d' hd'=>?_,h.ne,λc c' d' h1 h2=>?_,λc c' s d' h1 h2=>?_,h.ee⟩
 ·by_cases e:c=n
  ·rw[if_pos e,if_pos e];rfl
  ·rw[if_neg e,if_neg e]
 ·by_cases e:c=n
  ·rw[if_pos e]at hd';obtain rfl:=Option.some.inj hd';subst e;refine⟨[],by rw[upd_ne ndk];exact hn,by simp,(λkv hkv=>by cases hkv),λs=>?_⟩;dsimp only;rw[en s];rfl
  ·rw[if_neg e]at hd';exact(h.row c d' hd').at λo q=>by rw[upd_ne (h.nd _ _ hd')];exact q
 ·rw[upd_ne (h.ne _ _ _ he)];exact q
 ·obtain⟨d',z⟩:=h.ed _ _ _ he;by_cases e:c=n
  ·exact⟨d,if_pos e⟩
  ·exact⟨d',by rw[if_neg e];exact z⟩
 ·by_cases e:c=n
  ·rw[if_pos e]at hd';obtain rfl:=Option.some.inj hd';exact ndk
  ·rw[if_neg e]at hd';exact h.nd _ _ hd'
 ·by_cases e1:c=n
  ·rw[if_pos e1]at h1;obtain rfl:=Option.some.inj h1;by_cases e2:c'=n
   ·rw[e1,e2]
   ·rw[if_neg e2]at h2;exact(nw (.inr (.inl ⟨_,h2⟩))).elim
  ·rw[if_neg e1]at h1;by_cases e2:c'=n
   ·rw[if_pos e2]at h2;obtain rfl:=Option.some.inj h2;exact(nw (.inr (.inl ⟨_,h1⟩))).elim
   ·rw[if_neg e2]at h2;exact h.dd _ _ _ h1 h2
 ·by_cases e1:c=n
  ·rw[if_pos e1]at h1;obtain rfl:=Option.some.inj h1;exact nw (.inr (.inr ⟨_,_,h2⟩))
  ·rw[if_neg e1]at h1;exact h.de _ _ _ _ h1 h2
end
end L2
namespace L2
open PySem PySem.Spec PyProof.Rows
namespace Et
section
variable {prog:Program} {w:World} {A:Around} {E:Value->Shared->Prop} {s:Shared}
theorem item {it t:Addr}{i:Nat}{items:Array Value}{x:Value}{Q:Value->Shared->Prop}(hit:s.heap.IsTupleIter it t i)(ht:s.heap.IsTuple t items)(hx:items[i]?=some x)
 (hQ:∀g,g.IsTupleIter it t (i+ 1)->Heap.SameBut it s.heap g->Q x { s with heap:=g }):wpAny (model prog w) A (Builtin.SmallTypes.nextOf (.ref it)) Q E s:=by
 obtain⟨o,ho,hc,hd⟩:=id hit;obtain⟨ol,hol,_,nl,hdl⟩:=ht;unfold Builtin.SmallTypes.nextOf;refine wpAny_bind (wpAny_callSpecial?_slot (name:=Str.ofString "__next__") hit.typeIs F.slot_tuple_iterator_next (wpAny_call_entry F.slot_tuple_iterator_next hit.typeIs F.entry_tuple_iterator_next ?_ (F.args_tuple_iterator_next_1 _)));show wpAny _ _ (field (.ref it) 0 >>=_) _ _ s;refine wpAny_bind (wpAny_field ho hd (x:=.ref t) rfl ?_);show wpAny _ _ (if (Value.ref t==Value.none)=true then _ else _) _ _ s;rw[if_neg (show ¬((Value.ref t==Value.none)=true) by intro z;cases z)];show wpAny _ _ (field (.ref it) 1 >>=_) _ _ s;refine wpAny_bind (wpAny_field ho hd (x:=.int i 0) rfl ?_);show wpAny _ _ (seqItems? (.ref t) >>=_) _ _ s;refine wpAny_bind (wpAny_seqItems hol hdl ?_);simp only[Int.toNat_natCast,hx];exact wpAny_bind (wpAny_setField ho hd (by simp) (wpAny_pure ⟨x,rfl,wpAny_pure (hQ _ ⟨_,Heap.get?_update_self _ ho (Obj.isFreed_of_fields (Obj.data_mapFields hd _)),(Obj.cls_mapFields ..).trans hc,by rw[Obj.data_mapFields hd];simp[rawInt]⟩ (Heap.SameBut.update ..))⟩))
theorem fin {it t:Addr}{i:Nat}{items:Array Value}{Q:Value->Shared->Prop}(hh:A.handled=none)(hit:s.heap.IsTupleIter it t i)(ht:s.heap.IsTuple t items)(hx:items[i]?=none)
 (hE:∀g e,Heap.ExtBut it s.heap g->(∃o,g.get? e=some o/\o.cls=.type "StopIteration")->E (.ref e) { s with heap:=g }):wpAny (model prog w) A (Builtin.SmallTypes.nextOf (.ref it)) Q E s:=by
 obtain⟨o,ho,hc,hd⟩:=id hit;obtain⟨ol,hol,_,nl,hdl⟩:=ht;unfold Builtin.SmallTypes.nextOf;refine wpAny_bind (wpAny_callSpecial?_slot (name:=Str.ofString "__next__") hit.typeIs F.slot_tuple_iterator_next (wpAny_call_entry F.slot_tuple_iterator_next hit.typeIs F.entry_tuple_iterator_next ?_ (F.args_tuple_iterator_next_1 _)));show wpAny _ _ (field (.ref it) 0 >>=_) _ _ s;refine wpAny_bind (wpAny_field ho hd (x:=.ref t) rfl ?_);show wpAny _ _ (if (Value.ref t==Value.none)=true then _ else _) _ _ s;rw[if_neg (show ¬((Value.ref t==Value.none)=true) by intro z;cases z)];show wpAny _ _ (field (.ref it) 1 >>=_) _ _ s;refine wpAny_bind (wpAny_field ho hd (x:=.int i 0) rfl ?_);show wpAny _ _ (seqItems? (.ref t) >>=_) _ _ s;refine wpAny_bind (wpAny_seqItems hol hdl ?_);simp only[Int.toNat_natCast,hx];refine wpAny_bind (wpAny_rule (wpAny_bind (wpAny_setField ho hd (by simp) ?_)));show wpAny _ _ (newExc (.type "StopIteration") [] >>=_) _ _ _
 refine wpAny_bind ?_;simp only[newExc,newTuple];refine wpAny_bind (wpAny_newObj_type ?_ (by size_fits));refine wpAny_bind (m:=firstArgMember _ _) (wpAny_of_eq (a:=Value.none) (by first|rfl|(simp only[firstArgMember];rfl)) ?_);refine wpAny_newObj_type ?_ (by size_fits);simp only[raiseNew];refine wpAny_bind (wpAny_handled ?_);first|rw[show A.in1.handled=none from hh]|rw[hh]
 refine wpAny_bind (wpAny_pure (wpAny_throw ?_));exact hE _ _ (((Heap.SameBut.update ..).extBut.push _).push _) ⟨_,Heap.get?_push_size _ rfl,rfl⟩
theorem draws (hh:A.handled=none)(it l:Addr)(hne:l≠it)(items:Array Value):Draws prog w A it [it,l] items.size (λi v=>items[i]?=some v) (λi h=>h.IsTupleIter it l i/\h.IsTuple l items) where
 live:=λ_ _ st=>let ⟨o,ho,_⟩:=st.1;⟨o,ho⟩
 frame:=λ_ _ _ st hk=>⟨st.1.at λo e=>hk it (by simp) o e,by obtain⟨o,ho,r⟩:=st.2;exact⟨o,hk l (by simp) o ho,r⟩⟩
 item:=λi s Q E hi st hQ=>by
  refine item st.1 st.2 (x:=items[i]) (by simp[hi]) λg hg sb=>?_
  exact hQ _ g s.toks (by simp[hi]) ⟨hg,st.2.extBut sb.extBut hne⟩ sb
 done:=λs Q E st hE=>fin hh st.1 st.2 (by simp) hE
end
theorem meets (l:Addr)(items:Array Value)(n:Nat)(dct:Option Addr)(sl:Array (Option Value)):
 Meets (Builtin.«enumerate.__new__» ⟨[.type "enumerate",.ref l],[]⟩) (λ_ R s=>s.heap.get? l=some { cls:=.type "tuple",dict:=dct,data:=.seq items n,slots:=sl }/\
  R (.ok (.ret (.ref (s.heap.push { cls:=.type "tuple_iterator",data:=.fields #[.ref l,.int 0 0] }).objs.size)))
    { s with heap:=(s.heap.push { cls:=.type "tuple_iterator",data:=.fields #[.ref l,.int 0 0] }).push { cls:=.type "enumerate",data:=.fields #[.none,.bool false,.ref s.heap.objs.size,rawInt 0,.none,.none] } }):=
 .of_wp λprog w A R s h=>by
  obtain⟨hp,g,d,tk,os⟩:=s;obtain⟨hl,h⟩:=h;have hsub:=sub_enumerate;have hL:Heap.IsTuple (Shared.heap ⟨hp,g,d,tk,os⟩) l items:=⟨_,hl,rfl,n,rfl⟩
  wp_walk using wpAny_loadPart' hl;refine wpAny_stack_any λst=>wpAny_pure ?_
  split
  ·rename_i c _ _ _ _ _;cases (c==Value.type "enumerate") <;> (wp_walk using wpAny_loadPart' hl,wpAny_pyIter_tuple hL;exact⟨_,rfl,h⟩)
  ·wp_walk using wpAny_loadPart' hl,wpAny_pyIter_tuple hL;exact⟨_,rfl,h⟩
theorem call {prog:Program}{w:World}{A:Around}{E:Value->Shared->Prop}{s:Shared}{l:Addr}{items:Array Value}{Q:Value->Shared->Prop}(hL:s.heap.IsTuple l items)
 (h:∀g,IsEnum g (s.heap.objs.size+ 1) s.heap.objs.size 0 .none->g.IsTupleIter s.heap.objs.size l 0->g.objs.size=s.heap.objs.size+ 2->(∀b o,s.heap.get? b=some o->g.get? b=some o)->Q (.ref (s.heap.objs.size+ 1)) { s with heap:=g }):
 wpAny (model prog w) A (call (.type "enumerate") [.ref l]) Q E s:=by
 obtain⟨⟨c,dct,dt,sl⟩,hl,hc,n,hd⟩:=hL;replace hc:c=.type "tuple":=hc;replace hd:dt=.seq items n:=hd;subst hc hd;refine callType_new F.called_enumerate (by decide) (F.typeCall_enumerate_1 _) (F.newCall_enumerate_1 _) (λobj=>F.args_object_init_2 obj _) F.entry_enumerate_new (meets l items n dct sl) ⟨hl,?_⟩;have hz:(s.heap.push { cls:=.type "tuple_iterator",data:=.fields #[.ref l,.int 0 0] }).objs.size=s.heap.objs.size+ 1:=Heap.size_push ..;show _/\_;rw[hz]
 have he:IsEnum ((s.heap.push { cls:=.type "tuple_iterator",data:=.fields #[.ref l,.int 0 0] }).push { cls:=.type "enumerate",data:=.fields #[.none,.bool false,.ref s.heap.objs.size,rawInt 0,.none,.none] }) (s.heap.objs.size+ 1) s.heap.objs.size 0 .none:=by
  have:=Heap.get?_push_size (s.heap.push { cls:=.type "tuple_iterator",data:=.fields #[.ref l,.int 0 0] }) (o:={ cls:=.type "enumerate",data:=.fields #[.none,.bool false,.ref s.heap.objs.size,rawInt 0,.none,.none] }) rfl;rw[hz]at this;exact this
 exact⟨⟨_,he,rfl⟩,h _ he ⟨_,Heap.get?_push_of_some _ (Heap.get?_push_size _ rfl),rfl,rfl⟩ (by rw[Heap.size_push,hz]) λb o x=>Heap.get?_push_of_some _ (Heap.get?_push_of_some _ x)⟩
end Et
section
variable {X:Cx}
end
end L2
namespace HT
open PySem PySem.Spec PyProof.Rows L2
section
variable {prog:Program} {w:World} {A:Around} {E:Value->Shared->Prop} {s:Shared}
end
end HT
namespace L2
open PySem PySem.Spec PyProof.Rows
section
variable {X:Cx}
end
end L2
namespace L2
open PySem PySem.Spec PyProof.Rows
section
variable {K:PySem.W.Frag} {mg:Str->Option Value} {h:Heap} {C f:Addr} {x q:Str} {st:Stmt} {ps:List Str} {oc kV doc pm cdv ct:Value} {od an:Option Addr} {osl:Array (Option Value)}
theorem Def.of (X:K.In h)(G:h.Ns mainGlobals mg)(a:PySem.W.nsIn K mainGlobals x=some (some (.ref f)))(l:K.lookup f=some ⟨oc,od,.func (PySem.W.fnOf x x (defArgs st) (defBody st) (defScope st) .none kV doc pm an cdv ct),osl⟩)(c:PySem.W.codeIn K cdv x=true)(k:PySem.W.keepIn K (.ref f)=true)
 (b:∀(kV doc pm:Value) (an:Option Addr) (cdv ct:Value) (us:List Value),us.length=ps.length->bindArgs (PySem.W.fnOf x x (defArgs st) (defBody st) (defScope st) .none kV doc pm an cdv ct) ⟨us,[]⟩=pure (ps.zip us)):Def K mg x st ps f (PySem.W.fnOf x x (defArgs st) (defBody st) (defScope st) .none kV doc pm an cdv ct):=
 have F:=fun_mk (st:=st) l c k
 ⟨F,PySem.W.mg_of X G a,F.binds (ps:=ps) b⟩
theorem MDef.of (a:PySem.W.findIn K (.ref C) x=some (some (.ref f)))(i:PySem.W.isFn K (.ref f)=true)(l:K.lookup f=some ⟨oc,od,.func (PySem.W.fnOf x q (defArgs st) (defBody st) (defScope st) .none kV doc pm an cdv ct),osl⟩)(c:PySem.W.codeIn K cdv q=true)(k:PySem.W.keepIn K (.ref f)=true)
 (b:∀(kV doc pm:Value) (an:Option Addr) (cdv ct:Value) (us:List Value),us.length=ps.length->bindArgs (PySem.W.fnOf x q (defArgs st) (defBody st) (defScope st) .none kV doc pm an cdv ct) ⟨us,[]⟩=pure (ps.zip us)):MDef K C x q st ps f (PySem.W.fnOf x q (defArgs st) (defBody st) (defScope st) .none kV doc pm an cdv ct):=
 have F:=fun_mk (st:=st) l c k
 ⟨F,⟨a,i,k⟩,F.binds (ps:=ps) b⟩
theorem Def.fd {fd:FuncData}(D:Def K mg x st ps f fd):∃(kV doc pm:Value) (an:Option Addr) (cdv ct:Value),fd=PySem.W.fnOf x x (defArgs st) (defBody st) (defScope st) .none kV doc pm an cdv ct:=by
 obtain⟨oc,od,kV,doc,pm,an,cdv,ct,osl,e,_⟩:=D.F.ex;exact⟨kV,doc,pm,an,cdv,ct,e⟩
end
end L2
namespace L2
def wk (b:Nat->Int->Option Nat):Nat->List Int->Option Nat
 |c,[]=>some c
 |c,z::w=>match b c z with
  |none=>none
  |some d=>wk b d w
section
variable {b:Nat->Int->Option Nat}
theorem wk_cons {c d:Nat}{z:Int}{w:List Int}(h:b c z=some d):wk b c (z::w)=wk b d w:=by
 show (match b c z with|none=>none|some d=>wk b d w)=_;rw[h]
theorem wk_inv {c e:Nat}{z:Int}{w:List Int}(h:wk b c (z::w)=some e):∃d,b c z=some d/\wk b d w=some e:=by
 cases q:b c z with
 |none=>
  have h':(match b c z with|none=>none|some d=>wk b d w)=some e:=h;rw[q]at h';cases h'
 |some d=>rw[wk_cons q]at h;exact⟨d,rfl,h⟩
theorem wk_app:∀{u v:List Int} {c d:Nat},wk b c u=some d->wk b c (u++v)=wk b d v
 |[],v,c,d,h=>by rw[Option.some.inj h];rfl
 |z::u,v,c,d,h=>by
  obtain⟨e,h1,h2⟩:=wk_inv h;rw[List.cons_append,wk_cons h1];exact wk_app h2
theorem wk_split:∀{u v:List Int} {c e:Nat},wk b c (u++v)=some e->∃d,wk b c u=some d/\wk b d v=some e
 |[],v,c,e,h=>⟨c,rfl,h⟩
 |z::u,v,c,e,h=>by
  obtain⟨d,h1,h2⟩:=wk_inv h;obtain⟨f,h3,h4⟩:=wk_split h2;exact⟨f,by rw[wk_cons h1];exact h3,h4⟩
theorem wk_one {c d:Nat}{z:Int}(h:b c z=some d):wk b c [z]=some d:=by rw[wk_cons h];rfl
theorem take_snoc {w:List Int}{i:Nat}{z:Int}(h:w[i]?=some z):w.take (i+ 1)=w.take i++[z]:=by rw[List.take_succ,h];rfl
theorem drop_cons {w:List Int}{i:Nat}{z:Int}(h:w[i]?=some z):w.drop i=z::w.drop (i+ 1):=by
 have hi:=(List.getElem?_eq_some_iff.mp h).1;rw[List.drop_eq_getElem_cons hi,(List.getElem?_eq_some_iff.mp h).2]
end
structure Later (S S':RS):Prop where
 el:∀c,c<S.made->S'.eld (S.eld c)=S'.eld c
 by_:∀c z d,S.by c z=some d->S'.by (S'.eld c) z=some (S'.eld d)
theorem Later.of {S S':RS}{R R':Nat->Int->Nat->Prop}(h:Good S [] R)(h':Good S' [] R')(hr:∀a z b,R a z b->R' a z b)(hm:S.made<=S'.made):Later S S':=by
 have el:∀c,c<S.made->S'.eld (S.eld c)=S'.eld c:=λc hc=>(h'.fin (Nat.lt_of_lt_of_le (h.lt hc) hm) (Nat.lt_of_lt_of_le hc hm)).mpr ((h.cg c hc).mono hr).symm
 refine⟨el,λc z d e=>?_⟩;obtain⟨c',d',r,e1,e2⟩:=h.so _ _ _ e;obtain⟨l1,l2,_⟩:=h.rl _ _ _ r;rw[←e1,←e2,el c' l1,el d' l2];exact h'.by_iff.mpr ⟨c',d',hr _ _ _ r,rfl,rfl⟩
theorem Later.wk {S S':RS}(h:Later S S'):∀{w:List Int} {c d:Nat},wk S.by c w=some d->wk S'.by (S'.eld c) w=some (S'.eld d)
 |[],c,d,e=>by rw[Option.some.inj e];rfl
 |z::w,c,d,e=>by
  obtain⟨f,h1,h2⟩:=wk_inv e;rw[wk_cons (h.by_ _ _ _ h1)];exact Later.wk h h2
structure Gg where
 which:Nat
 word:List Int
 start:Nat
 front:Nat
 first:Nat
 rear:Nat
 last:Nat
def Gg.z1 (g:Gg):Int:=g.word.getD g.first 0
def Gg.z2 (g:Gg):Int:=-(g.word.getD g.last 0)
structure GI (S:RS) (g:Gg):Prop where
 fl:g.first<=g.last
 ll:g.last<g.word.length
 s:g.start<S.made
 f:g.front<S.made
 r:g.rear<S.made
 wf:wk S.by (S.eld g.start) (g.word.take g.first)=some (S.eld g.front)
 wr:wk S.by (S.eld g.rear) (g.word.drop (g.last+ 1))=some (S.eld g.start)
theorem GI.later {S S':RS}{g:Gg}(h:GI S g)(l:Later S S')(hm:S.made<=S'.made):GI S' g:=by
 have h1:=l.wk h.wf;have h2:=l.wk h.wr;rw[l.el _ h.s,l.el _ h.f]at h1;rw[l.el _ h.r,l.el _ h.s]at h2;exact⟨h.fl,h.ll,Nat.lt_of_lt_of_le h.s hm,Nat.lt_of_lt_of_le h.f hm,Nat.lt_of_lt_of_le h.r hm,h1,h2⟩
theorem Gg.at1 {g:Gg}(h:g.first<g.word.length):g.word[g.first]?=some g.z1:=by
 unfold Gg.z1;rw[List.getD_eq_getElem?_getD,List.getElem?_eq_getElem h];rfl
theorem Gg.at2 {g:Gg}(h:g.last<g.word.length):g.word[g.last]?=some (-g.z2):=by
 unfold Gg.z2;rw[List.getD_eq_getElem?_getD,List.getElem?_eq_getElem h,Int.neg_neg];rfl
structure Adv (S:RS) (g g':Gg):Prop where
 wh:g'.which=g.which
 wo:g'.word=g.word
 st:g'.start=g.start
 gi:GI S g'
 ef:S.eld g'.front=g'.front
 er:S.eld g'.rear=g'.rear
 n1:g'.first<g'.last->S.by g'.front g'.z1=none
 n2:g'.first<g'.last->S.by g'.rear g'.z2=none
 k1:S.eld g.front=g.front->S.by g.front g.z1=none->g'.front=g.front/\g'.first=g.first
 k2:S.eld g.rear=g.rear->S.by g.rear g.z2=none->g'.rear=g.rear/\g'.last=g.last
theorem GI.whole {S:RS}{g:Gg}(h:GI S g)(e:g.first=g.last)(es:S.eld g.start=g.start)(ef:S.eld g.front=g.front)(er:S.eld g.rear=g.rear)(hb:S.by g.front g.z1=some g.rear):wk S.by g.start g.word=some g.start:=by
 have h1:=h.wf;have h2:=h.wr;rw[es,ef]at h1;rw[es,er,←e]at h2;have hz:=Gg.at1 (g:=g) (by rw[e];exact h.ll);have:g.word=g.word.take g.first++(g.z1::g.word.drop (g.first+ 1)):=by rw[←drop_cons hz,List.take_append_drop]
 rw[this,wk_app h1,wk_cons hb];exact h2
def eN (m:Nat)(W:Rel3)(n:Int):Nat:=(List.range (m* 2001)).countP λc=>W ((c / 2001:Nat):Int) (((c % 2001:Nat):Int) - 1000) n
def tot (m G:Nat)(W:Rel3):Nat:=((List.range G).map λn:Nat=>eN m W n).sum
def offW (W:Rel3)(r s:Int):Rel3:=λr' s' n=>W r' s' n && !(decide (r'=r) && decide (s'=s))
theorem enc_lt {m r:Nat}{s:Int}(hr:r<m)(hs: -1000<=s/\s<=1000):r* 2001+ (s+ 1000).toNat<m* 2001:=by
 have:(r+ 1)* 2001<=m* 2001:=Nat.mul_le_mul_right _ hr;omega
theorem enc_at {c r:Nat}{s:Int}(hs: -1000<=s/\s<=1000):(((c / 2001:Nat):Int)=(r:Int)/\((c % 2001:Nat):Int) - 1000=s)↔c=r* 2001+ (s+ 1000).toNat:=by
 constructor
 ·rintro ⟨h1,h2⟩;have:=Nat.div_add_mod c 2001;omega
 ·intro h;subst h
  have e1:(r* 2001+ (s+ 1000).toNat) / 2001=r:=by
   rw[Nat.mul_comm,Nat.mul_add_div (by decide),Nat.div_eq_of_lt (by omega)];omega
  have e2:(r* 2001+ (s+ 1000).toNat) % 2001=(s+ 1000).toNat:=by
   rw[Nat.mul_comm,Nat.mul_add_mod,Nat.mod_eq_of_lt (by omega)]
  rw[e1,e2];omega
theorem eN_off {m r:Nat}{s:Int}{W:Rel3}(n:Int)(hr:r<m)(hs: -1000<=s/\s<=1000):eN m (offW W r s) n+ (if W r s n=true then 1 else 0)=eN m W n:=by
 have hv:=enc_lt hr hs
 have dec:∀c:Nat,(decide (((c / 2001:Nat):Int)=(r:Int)) && decide (((c % 2001:Nat):Int) - 1000=s))=decide (c=r* 2001+ (s+ 1000).toNat):=λc=>by
  rw[←Bool.decide_and,decide_eq_decide];exact enc_at hs
 have at_:=(enc_at (c:=r* 2001+ (s+ 1000).toNat) (r:=r) hs).mpr rfl;unfold eN offW;by_cases hw:W r s n=true
 ·rw[if_pos hw]
  have:=count_less (p:=λc:Nat=>W ((c / 2001:Nat):Int) (((c % 2001:Nat):Int) - 1000) n) (p':=λc:Nat=>W ((c / 2001:Nat):Int) (((c % 2001:Nat):Int) - 1000) n && !(decide (((c / 2001:Nat):Int)=(r:Int)) && decide (((c % 2001:Nat):Int) - 1000=s))) (v:=r* 2001+ (s+ 1000).toNat) (λc=>by
   rw[dec c,←decide_not]) (by rw[at_.1,at_.2];exact hw) (m* 2001)
  rw[if_pos hv]at this;exact this
 ·rw[if_neg hw,Nat.add_zero];refine List.countP_congr λc _=>?_
  rw[Bool.and_eq_true];refine⟨λh=>h.1,λh=>⟨h,?_⟩⟩;rw[dec c]
  cases e:decide (c=r* 2001+ (s+ 1000).toNat) with
  |false=>rfl
  |true=>
   rw[of_decide_eq_true e,at_.1,at_.2]at h;exact absurd h hw
theorem sum_split:∀(l:List Nat) (f g h:Nat->Nat),(∀n∈l,f n+ g n=h n)->(l.map f).sum+ (l.map g).sum=(l.map h).sum
 |[],_,_,_,_=>rfl
 |a::l,f,g,h,e=>by
  have ih:=sum_split l f g h λn hn=>e n (List.mem_cons_of_mem _ hn)
  have:=e a (List.mem_cons_self ..);simp only[List.map_cons,List.sum_cons];omega
theorem sum_ind (p:Nat->Bool):∀l:List Nat,(l.map λn=>if p n=true then 1 else 0).sum=l.countP p
 |[]=>rfl
 |a::l=>by
  rw[List.map_cons,List.sum_cons,sum_ind p l,List.countP_cons];omega
theorem tot_off {m G r:Nat}{s:Int}{W:Rel3}(hr:r<m)(hs: -1000<=s/\s<=1000):tot m G (offW W r s)+ (List.range G).countP (λn:Nat=>W r s n)=tot m G W:=by
 unfold tot;rw[←sum_ind (λn:Nat=>W r s n)];exact sum_split _ _ _ _ λn _=>eN_off n hr hs
theorem two_len:∀{l:List Nat} {a b:Nat},l.Nodup->(∀x∈l,x=a\/x=b)->l.length<=2
 |[],_,_,_,_=>by decide
 |[_],_,_,_,_=>Nat.le_succ 1
 |[_,_],_,_,_,_=>Nat.le_refl 2
 |x::y::z::r,a,b,hn,h=>by
  have hx:=h x (by simp);have hy:=h y (by simp);have hz:=h z (by simp);simp only[List.nodup_cons,List.mem_cons,not_or]at hn;omega
theorem eN_two {m:Nat}{W:Rel3}{n:Int}{p q:Int×Int}(h:∀r s,W r s n=true->(r,s)=p\/(r,s)=q):eN m W n<=2:=by
 unfold eN;rw[List.countP_eq_length_filter];refine two_len (a:=(p.1* 2001+ (p.2+ 1000)).toNat) (b:=(q.1* 2001+ (q.2+ 1000)).toNat) (List.nodup_range.filter _) λc hc=>?_
 have hd:=Nat.div_add_mod c 2001;rcases h _ _ (List.mem_filter.mp hc).2 with e|e
 ·left;rw[←e];dsimp only;omega
 ·right;rw[←e];dsimp only;omega
theorem sum_le:∀(l:List Nat) (f:Nat->Nat) (k:Nat),(∀n∈l,f n<=k)->(l.map f).sum<=l.length* k
 |[],_,_,_=>by simp
 |a::l,f,k,h=>by
  have ih:=sum_le l f k λn hn=>h n (List.mem_cons_of_mem _ hn)
  have:=h a (List.mem_cons_self ..);rw[List.map_cons,List.sum_cons,List.length_cons,Nat.add_mul];omega
theorem tot_two {m G:Nat}{W:Rel3}(h:∀n:Nat,∃p q:Int×Int,∀r s,W r s n=true->(r,s)=p\/(r,s)=q):tot m G W<=2* G:=by
 have:=sum_le (List.range G) (λn:Nat=>eN m W n) 2 λn _=>by
  obtain⟨p,q,e⟩:=h n;exact eN_two e
 rw[List.length_range]at this;unfold tot;omega
end L2
namespace L2
structure CI (S:RS) (bs:List (Nat×List Int×Nat)) (gs:List (Option Gg)) (ag:List Nat) (W:Rel3) (Ex:Nat->Int->Prop) (x:Option Nat):Prop where
 len:gs.length=bs.length
 al:∀(n:Nat) (g:Gg),gs[n]?=some (some g)->bs[n]?=some (g.which,g.word,g.start)/\GI S g/\(n∈ag\/some n=x\/(g.first<g.last/\W g.front g.z1 n=true/\W g.rear g.z2 n=true))
 de:∀(n:Nat) (b:Nat×List Int×Nat),gs[n]?=some none->some n≠x->bs[n]?=some b->S.eld b.2.2≠b.2.2\/wk S.by b.2.2 b.2.1=some b.2.2
 ab:∀n∈ag,n<gs.length
 en:∀r s n,W r s n=true->∃r' n':Nat,r=r'/\n=n'/\r'<S.made/\n'<gs.length/\(-1000<=s/\s<=1000)/\(S.eld r'=r'/\S.by r' s=none\/Ex r' s)
 sl:∀n:Nat,∃p q:Int×Int,(∀r s,W r s n=true->(r,s)=p\/(r,s)=q)/\∀g,gs[n]?=some (some g)->p=((g.front:Int),g.z1)/\q=((g.rear:Int),g.z2)
 bd:∀b∈bs,∀z∈b.2.1,-1000<=z/\z<=1000
def noEx:Nat->Int->Prop:=λ_ _=>False
section
variable {S S':RS} {bs:List (Nat×List Int×Nat)} {gs:List (Option Gg)} {ag:List Nat} {W:Rel3} {Ex:Nat->Int->Prop} {x:Option Nat} {n:Nat}
theorem CI.pop (h:CI S bs gs (ag++[n]) W Ex none):CI S bs gs ag W Ex (some n):=by
 refine⟨h.len,λk g e=>?_,λk b e _=>h.de k b e (λz=>by cases z),λk hk=>h.ab k (List.mem_append_left _ hk),h.en,h.sl,h.bd⟩;obtain⟨h1,h2,h3⟩:=h.al k g e;refine⟨h1,h2,?_⟩;rcases h3 with h3|h3|h3
 ·rcases List.mem_append.mp h3 with q|q
  ·exact .inl q
  ·exact .inr (.inl (by rw[List.mem_singleton.mp q]))
 ·cases h3
 ·exact .inr (.inr h3)
theorem CI.done (h:CI S bs gs ag W Ex (some n))(e:gs[n]?=some none)(k:∀b,bs[n]?=some b->S.eld b.2.2≠b.2.2\/wk S.by b.2.2 b.2.1=some b.2.2):CI S bs gs ag W Ex none:=by
 refine⟨h.len,λm g e'=>?_,λm b e' _ eb=>?_,h.ab,h.en,h.sl,h.bd⟩
 ·obtain⟨h1,h2,h3⟩:=h.al m g e';refine⟨h1,h2,?_⟩;rcases h3 with h3|h3|h3
  ·exact .inl h3
  ·rw[Option.some.inj h3,e]at e';cases Option.some.inj e'
  ·exact .inr (.inr h3)
 ·by_cases q:m=n
  ·rw[q]at eb;exact k b eb
  ·exact h.de m b e' (λz=>q (Option.some.inj z)) eb
theorem set_at {α:Type}{l:List α}{i j:Nat}{a b:α}(h:(l.set i a)[j]?=some b):(j=i/\b=a)\/(j≠i/\l[j]?=some b):=by
 by_cases e:i=j
 ·subst e;have hi:=(List.getElem?_eq_some_iff.mp h).1;rw[List.length_set]at hi;rw[List.getElem?_set_self hi]at h;exact .inl ⟨rfl,(Option.some.inj h).symm⟩
 ·rw[List.getElem?_set_ne e]at h;exact .inr ⟨λz=>e z.symm,h⟩
theorem CI.kill (h:CI S bs gs ag W Ex (some n)):CI S bs (gs.set n none) ag W Ex (some n):=by
 refine⟨by rw[List.length_set];exact h.len,λm g e=>?_,λm b e q eb=>?_,λk hk=>by rw[List.length_set];exact h.ab k hk,λr s k e=>?_,λm=>?_,h.bd⟩
 ·rcases set_at e with ⟨_,z⟩|⟨z,e⟩
  ·cases z
  ·exact h.al m g e
 ·rcases set_at e with ⟨z,_⟩|⟨z,e⟩
  ·exact absurd (by rw[z]) q
  ·exact h.de m b e q eb
 ·rw[List.length_set];exact h.en r s k e
 ·obtain⟨p,q,h1,h2⟩:=h.sl m;refine⟨p,q,h1,λg e=>?_⟩;rcases set_at e with ⟨_,z⟩|⟨_,e⟩
  ·cases z
  ·exact h2 g e
def addW (W:Rel3)(r s n:Int):Rel3:=λr' s' n'=>W r' s' n' || (decide (r'=r) && decide (s'=s) && decide (n'=n))
theorem addW_iff {W:Rel3}{r s n r' s' n':Int}:addW W r s n r' s' n'=true↔W r' s' n'=true\/(r'=r/\s'=s/\n'=n):=by
 unfold addW;simp only[Bool.or_eq_true,Bool.and_eq_true,decide_eq_true_eq,and_assoc]
theorem offW_iff {W:Rel3}{r s r' s' n':Int}:offW W r s r' s' n'=true↔W r' s' n'=true/\¬(r'=r/\s'=s):=by
 unfold offW;simp only[Bool.and_eq_true,Bool.not_eq_true',Bool.and_eq_false_iff,decide_eq_false_iff_not];refine⟨λ⟨a,b⟩=>⟨a,λz=>b.elim (λq=>q z.1) (λq=>q z.2)⟩,λ⟨a,b⟩=>⟨a,?_⟩⟩;by_cases e:r'=r
 ·exact .inr λz=>b ⟨e,z⟩
 ·exact .inl e
theorem CI.waits (h:CI S bs gs ag W noEx (some n)){g g':Gg}(e:gs[n]?=some (some g))(a:Adv S g g')(hlt:g'.first<g'.last):CI S bs (gs.set n (some g')) ag (addW (addW W g'.front g'.z1 n) g'.rear g'.z2 n) noEx none:=by
 obtain⟨hb,hg,_⟩:=h.al n g e;have hn:=(List.getElem?_eq_some_iff.mp e).1;have gi:=a.gi;have bw:∀z∈g'.word,-1000<=z/\z<=1000:=λz hz=>h.bd _ (List.mem_of_getElem? hb) z (by rw[←a.wo];exact hz)
 have b1:=bw _ (List.mem_of_getElem? (Gg.at1 (g:=g') (by have:=gi.ll;omega)));have b2:=bw _ (List.mem_of_getElem? (Gg.at2 (g:=g') gi.ll));refine⟨by rw[List.length_set];exact h.len,λm u q=>?_,λm b q _ eb=>?_,λk hk=>by rw[List.length_set];exact h.ab k hk,λr s k q=>?_,λm=>?_,h.bd⟩
 ·rcases set_at q with ⟨rfl,z⟩|⟨z,q⟩
  ·cases z;refine⟨by rw[hb,a.wh,a.wo,a.st],gi,.inr (.inr ⟨hlt,addW_iff.mpr (.inl (addW_iff.mpr (.inr ⟨rfl,rfl,rfl⟩))),addW_iff.mpr (.inr ⟨rfl,rfl,rfl⟩)⟩)⟩
  ·obtain⟨h1,h2,h3⟩:=h.al m u q;refine⟨h1,h2,?_⟩;rcases h3 with h3|h3|⟨h3,h4,h5⟩
   ·exact .inl h3
   ·exact absurd (Option.some.inj h3) z
   ·exact .inr (.inr ⟨h3,addW_iff.mpr (.inl (addW_iff.mpr (.inl h4))),addW_iff.mpr (.inl (addW_iff.mpr (.inl h5)))⟩)
 ·rcases set_at q with ⟨_,z⟩|⟨z,q⟩
  ·cases z
  ·exact h.de m b q (λy=>z (Option.some.inj y)) eb
 ·rw[List.length_set];rcases addW_iff.mp q with q|⟨rfl,rfl,rfl⟩
  ·rcases addW_iff.mp q with q|⟨rfl,rfl,rfl⟩
   ·exact h.en r s k q
   ·exact⟨_,n,rfl,rfl,gi.f,hn,b1,.inl ⟨a.ef,a.n1 hlt⟩⟩
  ·exact⟨_,n,rfl,rfl,gi.r,hn,by omega,.inl ⟨a.er,a.n2 hlt⟩⟩
 ·obtain⟨p,q,h1,h2⟩:=h.sl m;by_cases em:m=n
  ·subst em;obtain⟨ep,eq⟩:=h2 g e;refine⟨((g'.front:Int),g'.z1),((g'.rear:Int),g'.z2),λr s w=>?_,λu e'=>?_⟩
   ·rcases addW_iff.mp w with w|⟨rfl,rfl,_⟩
    ·rcases addW_iff.mp w with w|⟨rfl,rfl,_⟩
     ·obtain⟨r',n',er,_,_,_,_,hh⟩:=h.en r s m w;rcases hh with ⟨hs,hno⟩|hh
      ·rcases h1 r s w with z|z
       ·rw[ep]at z;injection z with z1 z2
        have:r'=g.front:=by omega
        subst this;obtain⟨k1,k2⟩:=a.k1 hs (by rw[←z2];exact hno)
        left
        rw[Prod.mk.injEq];refine⟨by rw[k1];exact er,?_⟩;rw[z2];unfold Gg.z1;rw[a.wo,k2]
       ·rw[eq]at z;injection z with z1 z2
        have:r'=g.rear:=by omega
        subst this;obtain⟨k1,k2⟩:=a.k2 hs (by rw[←z2];exact hno)
        right
        rw[Prod.mk.injEq];refine⟨by rw[k1];exact er,?_⟩;rw[z2];unfold Gg.z2;rw[a.wo,k2]
      ·exact hh.elim
     ·exact .inl rfl
    ·exact .inr rfl
   ·rcases set_at e' with ⟨_,z⟩|⟨z,_⟩
    ·cases z;exact⟨rfl,rfl⟩
    ·exact absurd rfl z
  ·refine⟨p,q,λr s w=>?_,λu e'=>?_⟩
   ·rcases addW_iff.mp w with w|⟨_,_,z⟩
    ·rcases addW_iff.mp w with w|⟨_,_,z⟩
     ·exact h1 r s w
     ·omega
    ·omega
   ·rcases set_at e' with ⟨z,_⟩|⟨_,e'⟩
    ·exact absurd z em
    ·exact h2 u e'
theorem CI.wake (h:CI S bs gs ag W Ex x){r s:Int}{ns:List Nat}(hn:∀k:Nat,k∈ns↔W r s k=true):CI S bs gs (ag++ns) (offW W r s) Ex x:=by
 refine⟨h.len,λm g e=>?_,h.de,λk hk=>?_,λr' s' k q=>h.en _ _ _ (offW_iff.mp q).1,λm=>?_,h.bd⟩
 ·obtain⟨h1,h2,h3⟩:=h.al m g e;refine⟨h1,h2,?_⟩;rcases h3 with h3|h3|⟨h3,h4,h5⟩
  ·exact .inl (List.mem_append_left _ h3)
  ·exact .inr (.inl h3)
  ·by_cases e1:(g.front:Int)=r/\g.z1=s
   ·exact .inl (List.mem_append_right _ ((hn m).mpr (by rw[←e1.1,←e1.2];exact h4)))
   ·by_cases e2:(g.rear:Int)=r/\g.z2=s
    ·exact .inl (List.mem_append_right _ ((hn m).mpr (by rw[←e2.1,←e2.2];exact h5)))
    ·exact .inr (.inr ⟨h3,offW_iff.mpr ⟨h4,e1⟩,offW_iff.mpr ⟨h5,e2⟩⟩)
 ·rcases List.mem_append.mp hk with q|q
  ·exact h.ab k q
  ·obtain⟨_,n',_,en,_,hl,_⟩:=h.en _ _ _ ((hn k).mp q);omega
 ·obtain⟨p,q,h1,h2⟩:=h.sl m;exact⟨p,q,λr' s' w=>h1 _ _ (offW_iff.mp w).1,h2⟩
theorem CI.ex {Ex':Nat->Int->Prop}(h:CI S bs gs ag W Ex x)(k:∀(r:Nat) s n,W r s n=true->r<S.made->Ex r s->(S.eld r=r/\S.by r s=none)\/Ex' r s):CI S bs gs ag W Ex' x:=by
 refine⟨h.len,h.al,h.de,h.ab,λr s n q=>?_,h.sl,h.bd⟩;obtain⟨r',n',rfl,rfl,a,b,c,d⟩:=h.en r s n q;exact⟨r',n',rfl,rfl,a,b,c,d.elim .inl (k r' s n' q a)⟩
end
end L2
namespace L2
structure WentI (S:RS):Prop where
 a:∀c,c<S.made->S.eld c≠c->c∈S.went
 b:∀c∈S.went,S.eld c≠c
 c:∀c∈S.went,c<S.made
section
variable {S S':RS} {pend:List Way} {w:Way} {R:Nat->Int->Nat->Prop} {ks:List Int}
theorem meet_went {c x y:Nat}{z:Int}:(S.meet c z x y pend).1.went=S.went++[max x y]:=by
 have:=(offs_rest (max x y) (S.joined c z (min x y) (max x y)) pend ((S.joined c z (min x y) (max x y)).way (max x y))).2;have:=congrArg RS.went this;exact this
theorem take_elders (h:(S.takeIn pend w).1.went=S.went):(S.takeIn pend w).1.elders=S.elders:=by
 have no:∀{c x y:Nat} {z:Int},(S.meet c z x y pend).1.went=S.went->False:=λ{c x y z} e=>by
  rw[meet_went]at e;have:=congrArg List.length e;rw[List.length_append]at this;simp at this
 unfold RS.takeIn at h ⊢;split
 ·rename_i q;rw[if_pos q]at h;exact(no h).elim
 ·rename_i q;rw[if_neg q]at h;split
  ·rename_i q2;rw[if_pos q2]at h;exact(no h).elim
  ·rfl
theorem WentI.take (hi:WentI S)(h:Good S (pend++[w]) R)(hk:∀c z d,R c z d->z∈ks):WentI (S.takeIn pend w).1/\∃l,(S.takeIn pend w).1.went=S.went++l:=by
 obtain⟨_,_,hm,_,q⟩:=h.take hk;rcases q with ⟨_,_,e⟩|⟨_,c,z,x,y,hx,_,hy,ey,hxy,_,e,el⟩
 ·have ee:=take_elders e;have el:∀a,(S.takeIn pend w).1.eld a=S.eld a:=λa=>by unfold RS.eld;rw[ee]
  refine⟨⟨λc hc=>?_,λc hc=>?_,λc hc=>by rw[hm];rw[e]at hc;exact hi.c c hc⟩,[],by rw[e,List.append_nil]⟩
  ·rw[hm]at hc;rw[el,e];exact hi.a c hc
  ·rw[e]at hc;rw[el];exact hi.b c hc
 ·obtain⟨_,hxm,_,ex⟩:=h.st _ _ _ hx;have hmm:min x y<max x y:=by rcases Nat.lt_or_gt_of_ne hxy with q|q <;> omega
  refine⟨⟨λa ha=>?_,λa ha=>?_,λa ha=>?_⟩,[max x y],e⟩
  ·rw[hm]at ha;rw[el,e];intro hne;by_cases q:S.eld a=a
   ·by_cases q2:S.eld a=max x y
    ·exact List.mem_append_right _ (by rw[←q2,q];exact List.mem_singleton.mpr rfl)
    ·rw[if_neg q2]at hne;exact absurd q hne
   ·exact List.mem_append_left _ (hi.a a ha q)
  ·rw[el];rw[e]at ha;rcases List.mem_append.mp ha with q|q
   ·have hne:=hi.b a q;by_cases q2:S.eld a=max x y
    ·rw[if_pos q2];intro z;have:a=min x y:=z.symm;rcases Nat.le_total x y with q3|q3
     ·rw[Nat.min_eq_left q3]at this;rw[this]at hne;exact hne ex
     ·rw[Nat.min_eq_right q3]at this;rw[this]at hne;exact hne ey
    ·rw[if_neg q2];exact hne
   ·have ea:a=max x y:=List.mem_singleton.mp q
    have:S.eld a=max x y:=by
     rw[ea];rcases Nat.le_total x y with q3|q3
     ·rw[Nat.max_eq_right q3];exact ey
     ·rw[Nat.max_eq_left q3];exact ex
    rw[if_pos this];omega
  ·rw[hm];rw[e]at ha;rcases List.mem_append.mp ha with q|q
   ·exact hi.c a q
   ·rw[List.mem_singleton.mp q];rcases Nat.le_total x y with q3|q3 <;> omega
inductive LayR:RS->List Way->RS->Prop where
 |nil (S:RS):LayR S [] S
 |take {S S':RS} {pend:List Way} {w:Way}:LayR (S.takeIn pend w).1 (S.takeIn pend w).2 S'->LayR S (pend++[w]) S'
theorem LayR.all (l:LayR S pend S'):Good S pend R->(∀c z d,R c z d->z∈ks)->WentI S->Good S' [] R/\WentI S'/\S'.made=S.made/\S'.L=S.L/\∃l,S'.went=S.went++l:=by
 induction l with
 |nil S=>exact λg _ w=>⟨g,w,rfl,rfl,[],(List.append_nil _).symm⟩
 |take _ ih=>
  intro g hk w;obtain⟨g1,_,m1,l1,_⟩:=g.take hk;obtain⟨w1,l2,e2⟩:=w.take g hk;obtain⟨a,b,c,d,l3,e3⟩:=ih g1 hk w1;exact⟨a,b,c.trans m1,d.trans l1,l2++l3,by rw[e3,e2,List.append_assoc]⟩
end
section
variable {S S':RS} {R:Nat->Int->Nat->Prop} {bs:List (Nat×List Int×Nat)} {gs:List (Option Gg)} {ag:List Nat} {W:Rel3} {n c d:Nat} {z:Int}
theorem CI.lay (h:CI S bs gs ag W noEx (some n))(e:gs[n]?=some none)(g:Good S [] R)(g':Good S' [] (RAdd R c z d))(hm:S'.made=S.made)(wi:WentI S)(wi':WentI S'){l:List Nat}(hl:S'.went=S.went++l)(hc:c<S.made)(ec:S.eld c=c)(hd:d<S.made)(ed:S.eld d=d)
 (k:∀b,bs[n]?=some b->S'.eld b.2.2≠b.2.2\/wk S'.by b.2.2 b.2.1=some b.2.2):CI S' bs gs ag W (λr s=>(r=c/\s=z)\/(r=d/\s= -z)\/∃m∈l,r=m\/r=S'.eld m) none:=by
 have lt:=Later.of g g' radd_sub (Nat.le_of_eq hm.symm)
 have newly:∀e,e<S.made->S.eld e=e->S'.eld e≠e->e∈l:=λe h1 h2 h3=>by
  have:=wi'.a e (by rw[hm];exact h1) h3;rw[hl]at this;rcases List.mem_append.mp this with q|q
  ·exact absurd h2 (wi.b e q)
  ·exact q
 have h0:CI S' bs gs ag W (λr s=>(r=c/\s=z)\/(r=d/\s= -z)\/∃m∈l,r=m\/r=S'.eld m) (some n):=by
  refine⟨h.len,λm u q=>?_,λm b q1 q2 q3=>?_,h.ab,λr s m q=>?_,h.sl,h.bd⟩
  ·obtain⟨h1,h2,h3⟩:=h.al m u q;exact⟨h1,h2.later lt (Nat.le_of_eq hm.symm),h3⟩
  ·by_cases e1:S'.eld b.2.2=b.2.2
   ·right
    rcases h.de m b q1 q2 q3 with q|q
    ·by_cases hb:b.2.2<S.made
     ·have h1:=(g.el _ hb).1;have h2:=(g'.el _ (by rw[hm];exact g.lt hb)).1;rw[lt.el _ hb,e1]at h2;exact absurd (Nat.le_antisymm h1 h2) q
     ·exfalso
      have hs:S.elders.length=S.made:=g.wf.e;have hs':S'.elders.length=S'.made:=g'.wf.e;have e0:S.eld b.2.2=0:=by unfold RS.eld;rw[List.getD_eq_getElem?_getD,List.getElem?_eq_none (by omega)];rfl
      have e0':S'.eld b.2.2=0:=by unfold RS.eld;rw[List.getD_eq_getElem?_getD,List.getElem?_eq_none (by omega)];rfl
      exact q (by rw[e0,←e0',e1])
    ·have:=lt.wk q;rw[e1]at this;exact this
   ·exact .inl e1
  ·obtain⟨r',n',e1,e2,hr,hn,hs,q⟩:=h.en r s m q;refine⟨r',n',e1,e2,by rw[hm];exact hr,hn,hs,?_⟩;rcases q with ⟨q1,q2⟩|q
   ·by_cases h1:S'.eld r'=r'
    ·cases h2:S'.by r' s with
     |none=>exact .inl ⟨h1,rfl⟩
     |some o=>
      right
      obtain⟨c',d',rr,f1,f2⟩:=g'.so _ _ _ h2
      have stand:∀e,e<S.made->S.eld e=e->S'.eld e=r'->e=r'\/∃m∈l,r'=m\/r'=S'.eld m:=λe a1 a2 a3=>by
       by_cases a4:e=r'
       ·exact .inl a4
       ·exact .inr ⟨e,newly e a1 a2 (by rw[a3];exact λz=>a4 z.symm),.inr a3.symm⟩
      rcases rr with rr|⟨rfl,rfl,rfl⟩|⟨rfl,rfl,rfl⟩
      ·obtain⟨l1,l2,_⟩:=g.rl _ _ _ rr;rcases stand (S.eld c') (g.lt l1) (g.el _ l1).2 (by rw[lt.el _ l1];exact f1) with a|a
       ·exfalso
        have:=g.by_iff.mpr ⟨c',d',rr,a,rfl⟩;rw[q2]at this;cases this
       ·exact .inr (.inr a)
      ·rcases stand c' hc ec f1 with a|a
       ·exact .inl ⟨a.symm,rfl⟩
       ·exact .inr (.inr a)
      ·rcases stand c' hd ed f1 with a|a
       ·exact .inr (.inl ⟨a.symm,rfl⟩)
       ·exact .inr (.inr a)
    ·exact .inr (.inr (.inr ⟨r',newly r' hr q1 h1,.inl rfl⟩))
   ·exact q.elim
 exact h0.done e k
end
def goesL (by_:Nat->Int->Option Nat):Nat->List Int->List Nat
 |_,[]=>[]
 |r,z::ws=>match by_ r z with
  |none=>[]
  |some b=>b::goesL by_ b ws
theorem goes_none {by_:Nat->Int->Option Nat}{r:Nat}{z:Int}{ws:List Int}(h:by_ r z=none):goesL by_ r (z::ws)=[]:=by
 show (match by_ r z with|none=>[]|some b=>b::goesL by_ b ws)=[];rw[h]
theorem goes_some {by_:Nat->Int->Option Nat}{r b:Nat}{z:Int}{ws:List Int}(h:by_ r z=some b):goesL by_ r (z::ws)=b::goesL by_ b ws:=by
 show (match by_ r z with|none=>[]|some b=>b::goesL by_ b ws)=_;rw[h]
def rowRule (w:Nat)(p:List Nat)(k:Nat):Dt:=.t [.s [114,117,108,101],.i w,.t (p.map λc:Nat=>Dt.i (c:Int)),.i k]
structure RuleAt (ws:List (List Int)) (nr:Nat) (S:RS) (which:Nat) (word:List Int) (start m c d:Nat) (z:Int):Prop where
 w:ws[which]?=some word
 n:which<nr\/start=0
 s:start<S.made/\S.eld start=start
 hz:word[m]?=some z
 f:wk S.by start (word.take m)=some c
 r:wk S.by d (word.drop (m+ 1))=some start
 hc:c<S.made/\S.eld c=c
 hd:d<S.made/\S.eld d=d
 o:S.by c z≠some d
def ruled (S:RS)(which:Nat)(word:List Int)(start m d:Nat):RS:={ S with rows:=S.rows++[rowRule which ((start::goesL S.by start (word.take m))++(d::goesL S.by d (word.drop (m+ 1)))) m] }
inductive Tr (ws:List (List Int)) (nr:Nat):RS->RS->Prop where
 |refl (S:RS):Tr ws nr S S
 |step {S S1 S2:RS} {which:Nat} {word:List Int} {start m c d:Nat} {z:Int}:Tr ws nr S S1->RuleAt ws nr S1 which word start m c d z->LayR (ruled S1 which word start m d) [(c,z,d)] S2->Tr ws nr S S2
def Rnd (S:RS)(c:Nat)(word:List Int):Prop:=wk S.by c word=some c\/∃(i j f r:Nat) (y z:Int),i<j/\word[i]?=some y/\word[j]?=some z/\wk S.by c (word.take i)=some f/\S.by f y=none/\wk S.by r (word.drop (j+ 1))=some c/\S.by r (-z)=none
structure Clsd (rs ps:List (List Int)) (S:RS):Prop where
 r:∀w∈rs,∀c,c<S.made->S.eld c=c->Rnd S c w
 p:∀w∈ps,Rnd S 0 w
def UW (U:Nat->Int->Nat->Prop):Nat->List Int->Nat->Prop
 |p,[],q=>p=q
 |p,z::w,q=>∃r,U p z r/\UW U r w q
structure Mdl (ws:List (List Int)) (nr M:Nat) (φ:Nat->Nat) (U:Nat->Int->Nat->Prop):Prop where
 sy:∀p z q,U p z q->U q (-z) p
 fn:∀p z q q',U p z q->U p z q'->q=q'
 cl:∀(which:Nat) (word:List Int) (start m c d:Nat) (z:Int),ws[which]?=some word->which<nr\/start=0->start<M->word[m]?=some z->UW U (φ start) (word.take m) (φ c)->UW U (φ d) (word.drop (m+ 1)) (φ start)->U (φ c) z (φ d)
section
variable {S S':RS} {R:Nat->Int->Nat->Prop} {φ:Nat->Nat} {U:Nat->Int->Nat->Prop} {ks:List Int}
theorem cg_phi (fn:∀p z q q',U p z q->U p z q'->q=q')(hR:∀a z b,R a z b->U (φ a) z (φ b)){a b:Nat}(h:Cg R a b):φ a=φ b:=by
 induction h with
 |refl=>rfl
 |symm _ ih=>exact ih.symm
 |trans _ _ i1 i2=>exact i1.trans i2
 |step r1 r2 _ ih=>exact fn _ _ _ _ (hR _ _ _ r1) (by rw[ih];exact hR _ _ _ r2)
theorem by_phi (g:Good S [] R)(fn:∀p z q q',U p z q->U p z q'->q=q')(hR:∀a z b,R a z b->U (φ a) z (φ b)){c d:Nat}{z:Int}(h:S.by c z=some d):U (φ c) z (φ d):=by
 obtain⟨c',d',r,e1,e2⟩:=g.so _ _ _ h;obtain⟨l1,l2,_⟩:=g.rl _ _ _ r;have h1:=cg_phi fn hR (g.cg _ l1);have h2:=cg_phi fn hR (g.cg _ l2);rw[e1]at h1;rw[e2]at h2;rw[←h1,←h2];exact hR _ _ _ r
theorem wk_phi (h:∀c z d,S.by c z=some d->U (φ c) z (φ d)):∀{w:List Int} {c d:Nat},wk S.by c w=some d->UW U (φ c) w (φ d)
 |[],c,d,e=>by rw[Option.some.inj e];rfl
 |z::w,c,d,e=>by
  obtain⟨f,h1,h2⟩:=wk_inv e;exact⟨_,h _ _ _ h1,wk_phi h h2⟩
theorem Tr.sound {ws:List (List Int)}{nr M:Nat}(t:Tr ws nr S S')(md:Mdl ws nr M φ U)(hw:∀w∈ws,∀z∈w,z∈ks/\-z∈ks):Good S [] R->WentI S->S.made<=M->(∀a z b,R a z b->z∈ks)->(∀a z b,R a z b->U (φ a) z (φ b))->
 ∃R',Good S' [] R'/\WentI S'/\S'.made=S.made/\S'.L=S.L/\(∀a z b,R a z b->R' a z b)/\(∀a z b,R' a z b->z∈ks)/\∀a z b,R' a z b->U (φ a) z (φ b):=by
 induction t with
 |refl=>exact λg w _ k h=>⟨R,g,w,rfl,rfl,λ_ _ _ r=>r,k,h⟩
 |step _ ra la ih=>
  rename_i S1 S2 which word start m c d z _;intro g wi hM k h;obtain⟨R1,g1,w1,m1,l1,s1,k1,h1⟩:=ih g wi hM k h;have b1:=λc z d=>by_phi (c:=c) (d:=d) (z:=z) g1 md.fn h1
  have u:=md.cl which word start m c d z ra.w ra.n (by have:=ra.s.1;omega) ra.hz (wk_phi b1 ra.f) (wk_phi b1 ra.r);have hz:=hw word (List.mem_of_getElem? ra.w) z (List.mem_of_getElem? ra.hz)
  have hks:∀a y b,RAdd R1 c z d a y b->y∈ks:=by
   rintro a y b (r|⟨_,e,_⟩|⟨_,e,_⟩)
   ·exact k1 _ _ _ r
   ·rw[e];exact hz.1
   ·rw[e];exact hz.2
  obtain⟨g2,w2,m2,l2,_⟩:=la.all (g1.lay z ra.hc.1 ra.hd.1 _) hks ⟨w1.a,w1.b,w1.c⟩;refine⟨_,g2,w2,m2.trans m1,l2.trans l1,λa y b r=>.inl (s1 _ _ _ r),hks,?_⟩;rintro a y b (r|⟨rfl,rfl,rfl⟩|⟨rfl,rfl,rfl⟩)
  ·exact h1 _ _ _ r
  ·exact u
  ·exact md.sy _ _ _ u
end
end L2
namespace L2
open PySem PySem.Spec PyProof.Rows
section
variable {X:Cx}
def iEnumLE (K:PySem.W.Frag)(ta:TA)(ts:TE):TI:=λ σ H R=>ta σ H λvs H1=>ts σ H1 λz H2=>∃a n,vs=[.ref a]/\z=.int n/\0<=n/\n<1000/\(∃xs,SqL K H2 a xs)/\R (Itels K a n) H2
def oneZ (Q:V->Hp->Prop):List V->Hp->Prop
 |[z],H=>Q z H
 |_,_=>False
theorem oneZ_at {Q:V->Hp->Prop}:∀{zs:List V} {H:Hp},oneZ Q zs H->∃z,zs=[z]/\Q z H
 |[z],_,h=>⟨z,rfl,h⟩
 |[],_,h=>h.elim
 |_::_::_,_,h=>h.elim
theorem pi_enumLE {a b:Expr}{te tb:TE}{elts:List Expr}{x1:Nat}{tp p pos kp:Pos}(hg:Gl X "enumerate")(hm:X.mg "enumerate"=none)(he:PE X a te)(hb:PE X b tb)
 (hs:starEach [a] X.env=(false,eval a X.env)::starEach [] X.env:=by rfl)
 (hpl:((backTo pos (starEach [a] X.env)).any (·.1) || (backToKw pos (keywordEach [⟨some "start",b,kp⟩] X.env)).any (·.1.isNone))=false:=by rfl):
 PI X (.Tuple elts x1 tp) (.Call (.Name "enumerate" p) [a] [⟨some "start",b,kp⟩] pos) (iEnumLE X.K (tCons te tNil) tb):=by
 intro pins s σ H R I h;refine wpAny_Call_Name_kw (ld_blt I hg hm boot_enumerate ?_);refine PySem.W.callWith_of (P:=λ_=>True) hpl (λ_ _=>⟨.machine,.inr (.inl rfl),λ_ _ _ _ _ q=>wpAny_pure q⟩) (evalArgs_kw2 rfl (thn ((pa_cons he pa_nil hs) pos pins s σ H _ I h) λus s1 ⟨vs,H1,I1,r,q⟩=>?_) hs);refine thn ((pk_cons hb pk_nil:PK X [⟨some "start",b,kp⟩] _) pos pins s1 σ H1 (oneZ λz H2=>∃a n,vs=[.ref a]/\z=.int n/\0<=n/\n<1000/\(∃xs,SqL X.K H2 a xs)/\R (Itels X.K a n) H2) I1 q) λws s2 ⟨zs,H2,I2,rz,qz⟩=>⟨True.intro,?_⟩
 obtain⟨z,rfl,l,n,e2,rfl,hn1,hn2,hq,qf⟩:=oneZ_at qz;subst e2;obtain⟨xs,hq⟩:=hq;obtain⟨u,rfl,ru⟩:=vals1 r;cases ru;obtain⟨u2,rfl,t2,rfl⟩:=vals1 rz;obtain⟨its,rv,pl,hz⟩:=I2.list hq;show wpAny _ _ (call (.type "enumerate") [.ref l] [("start",.int n t2)]) _ _ s2;refine En.call_startL pl.isList hn1 hn2 λh' he' hit hk=>?_
 have I3:Inv X pins σ H2 { s2 with heap:=h' }:=I2.kept (t':=s2.toks) hk;have hst:(∃old,IsEnum h' (s2.heap.objs.size+ 1) s2.heap.objs.size (n+ ((0:Nat):Int)) old)/\h'.IsListIter s2.heap.objs.size l 0:=⟨⟨_,by rw[show n+ ((0:Nat):Int)=n by omega];exact he'⟩,hit⟩;have T:=turn_enumLS (P:=X.prog) (w:=X.w) (K:=X.K) (elts:=elts) (x1:=x1) (tp:=tp) (s2.heap.objs.size+ 1) s2.heap.objs.size l n (Nat.succ_ne_self _);refine T.self _ 0 { s2 with heap:=h' } _ _ hst ⟨_,_,_,_,H2,rfl,I3,T,hst,λb hb=>?_,qf⟩;rcases List.mem_cons.mp hb with e|hb
 ·subst e;exact I2.fpOk (Nat.le_succ _) (I2.hok.fresh (Nat.le_succ _))
 ·rw[List.mem_singleton.mp hb];exact I2.fpOk (Nat.le_refl _) (I2.hok.fresh (Nat.le_refl _))
end
section
variable {prog:Program} {w:World} {K:Type} [DecidableEq K] {knd:HeapKind prog w K} {A:Around} {E:Value->Shared->Prop} {s:Shared} {d a:Addr} {k:K} {xs:List (K×Addr×Value)}
theorem setdef_heap {dflt:Value}{Q:Value->Shared->Prop}(hu:knd.room A)(hkey:knd.is s.heap k a)(hm:s.heap.DictOfH knd d xs)
 (h1:∀v,(atKey xs k).map (·.2)=some v->Q v { s with toks:=s.toks+ knd.draws k })
 (h2:atKey xs k=none->∀h',h'.DictOfH knd d (storedH xs k a dflt)->Heap.SameBut d s.heap h'->Q dflt { s with heap:=h',toks:=s.toks+ knd.draws k })
 (hsz:xs.length<=sizeLine):wpAny (model prog w) A (dictSetDefault d (.ref a) dflt) Q E s:=by
 obtain⟨ob,en,ec,g1,g2,g3,g4,g5,g6⟩:=hm;unfold dictSetDefault
 first|(with_reducible refine wpAny_holding ?_)|skip
 refine wpAny_bind (knd.pyHash hu hkey (wpAny_bind (wpAny_dictFind_heap (s:={ s with toks:=s.toks+ knd.draws k }) hu hkey g1 g3 g4 g5 g6 (λno=>?_) (λj p hj=>?_))))
 ·have nk:k∉xs.map (·.1):=not_mem_keys_of_get no;have na:=atKey_none_of_get no;refine wpAny_bind (wpAny_rule (wpAny_bind (wpAny_updateDictKeys (hz:=by have e:=size_of_entries g4;omega) (s:={ s with toks:=s.toks+ knd.draws k }) g1 g3 (wpAny_pure (h2 na _ ?_ (Heap.SameBut.update ..))))));refine⟨_,_,ec+ 1,Heap.get?_update_self _ g1 (Obj.isFreed_of_dict (Obj.data_mapDictKeys g3 _)),g2.mapDictKeys _,Obj.data_mapDictKeys g3 _,?_,?_,?_⟩
  ·rw[storedH_new na];simp[g4,entryOfKey]
  ·rw[storedH_new na];intro y hy;rcases List.mem_append.mp hy with q|q
   ·exact knd.keeps (g5 y q) g1 g3 (Heap.SameBut.update ..)
   ·rw[List.mem_singleton.mp q];exact knd.keeps hkey g1 g3 (Heap.SameBut.update ..)
  ·rw[storedH_new na,List.map_append,List.nodup_append];exact⟨g6,by simp,λy hy z hz e=>nk (by have hz':z=k:=List.mem_singleton.mp hz;rw[←hz',←e];exact hy)⟩
 ·have ha:=atKey_of_get g6 hj;refine wpAny_bind (wpAny_dictEntries (s:={ s with toks:=s.toks+ knd.draws k }) g1 g3 ?_)
  have he:en[j]?=some (entryOfKey knd (k,p)):=by
   rw[entry_at g4 j,hj];rfl
  rw[he];exact wpAny_bind (wpAny_rule (wpAny_pure (h1 _ (by rw[ha];rfl))))
theorem meets_setdefH (knd:HeapKind prog w K)(d a:Addr)(hd:(d==sysModules)=false)(dflt:Value):MeetsIn prog w (Builtin.«dict.setdefault» ⟨[.ref d,.ref a,dflt],[]⟩) (λA R s=>knd.room A.in1/\∃k xs,knd.is s.heap k a/\s.heap.DictOfH knd d xs/\xs.length<=sizeLine/\
 (∀v,(atKey xs k).map (·.2)=some v->R (.ok (.ret v)) { s with toks:=s.toks+ knd.draws k })/\(atKey xs k=none->∀h',h'.DictOfH knd d (storedH xs k a dflt)->Heap.SameBut d s.heap h'->R (.ok (.ret dflt)) { s with heap:=h',toks:=s.toks+ knd.draws k })):=
 .of_wp λA R s ⟨hu,k,xs,hkey,hm,hz,h1,h2⟩=>by
  unfold Builtin.«dict.setdefault» Builtin.Dict.keyAndDefault;refine wpAny_bind (wpAny_bind (wpAny_notOrdered_dict hm.typeIs ?_));show wpAny _ _ (pure (d,Value.ref a,some dflt)) _ _ s;refine wpAny_pure ?_;show wpAny _ _ (if (d==sysModules)=true then _ else (dictSetDefault d (.ref a) dflt >>=_)) _ _ s;rw[hd];exact wpAny_bind (setdef_heap hu hkey hm (λv hv=>wpAny_pure ⟨v,rfl,h1 v hv⟩) (λhn h' m' s'=>wpAny_pure ⟨dflt,rfl,h2 hn h' m' s'⟩) hz)
end
def tDSetT (td ty tx:TE):TE:=λ σ H Q=>td σ H λx H1=>∃a,x=.ref a/\IsD H1 a/\ty σ H1 λy H2=>tx σ H2 λz H3=>∃(kvs:List (List Key×V)) (k:List Key) (b:Addr),H3 a=some (.dT kvs)/\y=.ref b/\H3 b=some (.tup (k.map kV))/\kvs.length<sizeLine/\
 (∀v,valV kvs k=some v->Q v H3)/\(valV kvs k=none->Q z (upd H3 a (.dT (putK kvs k z))))
section
variable {X:Cx} {o e f:Expr} {apos cpos:Pos} {td ty tx:TE}
theorem pe_dsetT (hu:X.A.units+ 1<cLine)(ho:PE X o td)(he:PE X e ty)(hf:PE X f tx)(m:M2 X o "setdefault" apos e f cpos):PE X (.Call (.Attribute o "setdefault" apos) [e,f] [] cpos) (tDSetT td ty tx):=by
 intro pins s σ H Q I h;refine wpAny_Call_method m.base m.few m.line PySem.F.plainAttrs_dict PySem.F.slot_dict_setdefault PySem.F.type_dict_setdefault (thn (ho pins s σ H _ I h) λu s1 ⟨x,H1,I1,rx,a,ex,d,q1⟩=>?_);subst ex;obtain rfl:u=Value.ref a:=rx;obtain⟨t1,t2,_⟩:=isD_at I1 d;refine⟨t1,t2,?_⟩;rw[m.trees]
 refine Calls.callWith_builtin rfl (Calls.evalArgs_plain (Calls.spliced_cons (thn (he pins s1 σ H1 _ I1 q1) λiv s2 ⟨y,H2,I2,ry,q2⟩=>
  Calls.spliced_cons (thn (hf pins s2 σ H2 _ I2 q2) λfv s3 ⟨z,H3,I3,rz,kvs,k,b,ea,ey,eb,hlt,q3,q4⟩=>Calls.spliced_nil ?_))))
 subst ey;cases (show iv=Value.ref b from ry);obtain⟨hz,hd,xs,rel,dd⟩:=dt_of I3.hok ea;have hval:=rel.val k;have hvl:xs.length<=sizeLine:=by rw[←Paired.length rel];exact hz
 refine call_meetsIn PySem.F.slot_dict_setdefault dd.typeIs PySem.F.entry_dict_setdefault (PySem.F.args_dict_setdefault_3 _ _ _) (meets_setdefH _ a b hd fv) ⟨tupleKind_room_in1 hu,k,xs,key_of I3.hok eb,dd,hvl,λv hv=>?_,λhn g1 dd' sb=>?_⟩
 ·rw[hv]at hval
  cases l:valV kvs k with
  |none=>rw[l]at hval;exact hval.elim
  |some y0=>
   rw[l]at hval;exact⟨y0,H3,I3.tok _,hval,q3 y0 l⟩
 ·rw[hn]at hval
  cases l:valV kvs k with
  |some y0=>rw[l]at hval;exact hval.elim
  |none=>
   have hl:(putK kvs k z).length<=sizeLine:=by have:=length_putK kvs k z;omega
   obtain⟨q,es,ep,hq,h2,h3,h4,_,h5⟩:=dd';refine⟨z,upd H3 a (.dT (putK kvs k z)),d_write I3 (by rw[ea];exact True.intro) sb ⟨q,hq⟩ ⟨hl,hd,_,(rel.put k eb rz).keeps λc ys ec=>?_,q,es,ep,hq,h2,h3,h4,h5⟩,rz,q4 l⟩;rw[upd_ne (ne_of ec ea (λz=>nomatch z))];exact ec
end
end L2
namespace L2
open PySem PySem.Spec PyProof.Rows
section
variable {H:Hp} {k:Addr} {D:Int->Option Addr} {E:Int->Int->Option Addr} {S:Rel3}
theorem KAt.dropCell (h:KAt H k D E S){c s:Int}{d:Addr}(hd:D c=some d){kvs:List (Key×V)}(hk:H d=some (.dK kvs)):
 KAt (upd H d (.dK (dropK kvs (Sum.inl s)))) k D (λc' s'=>if c'=c/\s'=s then none else E c' s') (offW S c s):=by
 obtain⟨kvs',q1,q2,q3,q4⟩:=h.row c d hd;rw[hk]at q1;obtain rfl:kvs=kvs':=by injection q1 with q1;injection q1
 have un:∀{c' s':Int} {z:Addr},(if c'=c/\s'=s then none else E c' s')=some z->¬(c'=c/\s'=s)/\E c' s'=some z:=λ{c' s' z} q=>by
  by_cases e:c'=c/\s'=s
  ·rw[if_pos e]at q;cases q
  ·rw[if_neg e]at q;exact⟨e,q⟩
 refine⟨h.top.at λo q=>?_,λc' d' hd'=>?_,λc' s' e' he'=>?_,λc' s' e' he'=>h.ed _ _ _ (un he').2,λc' s' o ho=>?_,h.nd,λc' s' e' he'=>h.ne _ _ _ (un he').2,h.dd,λc' c2 s' d' hd' he'=>h.de _ _ _ _ hd' (un he').2,λc' s' c2 s2 e' h1 h2=>h.ee _ _ _ _ _ (un h1).2 (un h2).2⟩
 ·rw[upd_ne (h.nd c d hd).symm];exact q
 ·by_cases ec:c'=c
  ·subst ec;obtain rfl:d'=d:=by rw[hd]at hd';exact(Option.some.inj hd').symm
   refine(di_drop q2 q3 q4 s).congr λs'=>?_
   by_cases es:s'=s
   ·rw[if_pos es,if_pos ⟨rfl,es⟩];rfl
   ·rw[if_neg es,if_neg (λz=>es z.2)]
  ·refine((h.row c' d' hd').at λo q=>by rw[upd_ne λz=>ec (h.dd _ _ _ hd' (by rw[z];exact hd))];exact q).congr λs'=>?_
   rw[if_neg (λz=>ec z.1)]
 ·obtain⟨ne,he⟩:=un he';refine((h.cel c' s' e' he).at λo q=>by rw[upd_ne (λz=>h.de c c' s' d hd (by rw[←z];exact he))];exact q).congr λo=>?_
  have:offW S c s c' s' o=S c' s' o:=by
   rw[Bool.eq_iff_iff,offW_iff];exact⟨λz=>z.1,λz=>⟨z,ne⟩⟩
  rw[this]
 ·obtain⟨a,b⟩:=offW_iff.mp ho;obtain⟨e,he⟩:=h.se _ _ _ a;exact⟨e,by rw[if_neg b];exact he⟩
end
structure WBd (k:Addr) (D:Int->Option Addr) (E:Int->Int->Option Addr) (W:Rel3) (O:Addr->Prop):Prop where
 o:∀b,Kown k D E b->O b
 d:∀c x,D c=some x->0<=c/\c<100000
 e:∀c s x,E c s=some x-> -1000<=s/\s<=1000
 w:∀c s n,W c s n=true->0<=n/\n<100000
def WAt (H:Hp)(k:Addr)(W:Rel3)(O:Addr->Prop):Prop:=∃D E,KAt H k D E W/\WBd k D E W O
def WRoom (H:Hp)(k:Addr)(W:Rel3)(O:Addr->Prop)(c:Int)(d:Addr):Prop:=∃D E,KAt H k D E W/\WBd k D E W O/\D c=some d
def WCell (H:Hp)(k:Addr)(W:Rel3)(O:Addr->Prop)(c s:Int)(e:Addr):Prop:=∃D E,KAt H k D E W/\WBd k D E W O/\E c s=some e
def Or1 (O:Addr->Prop)(p:Addr):Addr->Prop:=λb=>O b\/b=p
section
variable {H H':Hp} {k:Addr} {W:Rel3} {O:Addr->Prop} {c s:Int} {d e p:Addr}
theorem WAt.keep (h:WAt H k W O)(f:∀b o,O b->H b=some o->H' b=some o):WAt H' k W O:=by
 obtain⟨D,E,h1,h2⟩:=h;exact⟨D,E,h1.keep λb o hb q=>f b o (h2.o b hb) q,h2⟩
theorem WAt.more (h:WAt H k W O){O':Addr->Prop}(f:∀b,O b->O' b):WAt H k W O':=by
 obtain⟨D,E,h1,h2⟩:=h;exact⟨D,E,h1,λb hb=>f b (h2.o b hb),h2.d,h2.e,h2.w⟩
theorem WAt.isD (h:WAt H k W O):IsD H k:=by
 obtain⟨D,E,h1,_⟩:=h;obtain⟨kv,q,_⟩:=h1.top;exact .inl ⟨kv,.inl q⟩
theorem WAt.room (h:WAt H k W O)(np:H p=none)(hc:0<=c/\c<100000):∃kvs,upd H p (.dK []) k=some (.dK kvs)/\kvs.length<sizeLine/\(∀v,valV kvs (Sum.inl c)=some v->∃d,v=.ref d/\WRoom (upd H p (.dK [])) k W O c d)/\
 (valV kvs (Sum.inl c)=none->WRoom (upd (upd H p (.dK [])) k (.dK (putK kvs (Sum.inl c) (.ref p)))) k W (Or1 O p) c p):=by
 obtain⟨D,E,h1,h2⟩:=h;have s1:=Same.upd (o:=.dK []) np;have k1:=h1.same s1;obtain⟨kvs,q1,q2,q3,q4⟩:=k1.topL;have nw:¬Kown k D E p:=λz=>by obtain⟨kv,q⟩:=h1.there z;rw[np]at q;cases q
 refine⟨kvs,q1,?_,λv hv=>?_,λhv=>?_⟩
 ·refine Nat.lt_of_le_of_lt (di_len (n:=100000) (lo:=0) q2 q3 q4 λi v hv=>?_) (by decide)
  cases e:D i with
  |none=>rw[e]at hv;cases hv
  |some x=>have:=h2.d i x e;omega
 ·rw[q4]at hv;obtain⟨d,hd,rfl⟩:=Option.map_eq_some_iff.mp hv;exact⟨d,rfl,D,E,k1,h2,hd⟩
 ·rw[q4]at hv;have hd:D c=none:=Option.map_eq_none_iff.mp hv;refine⟨_,E,k1.addRoom hd q1 upd_same nw,⟨λb hb=>?_,λc' x q=>?_,h2.e,h2.w⟩,if_pos rfl⟩
  ·rcases hb with z|⟨c',z⟩|z
   ·exact .inl (h2.o b (.inl z))
   ·dsimp only at z;by_cases e:c'=c
    ·rw[if_pos e]at z;exact .inr (Option.some.inj z).symm
    ·rw[if_neg e]at z;exact .inl (h2.o b (.inr (.inl ⟨c',z⟩)))
   ·exact .inl (h2.o b (.inr (.inr z)))
  ·by_cases e:c'=c
   ·rw[e];exact hc
   ·rw[if_neg e]at q;exact h2.d c' x q
theorem WRoom.at (h:WRoom H k W O c d):WAt H k W O:=by obtain⟨D,E,h1,h2,_⟩:=h;exact⟨D,E,h1,h2⟩
theorem WRoom.isD (h:WRoom H k W O c d):IsD H d:=by
 obtain⟨D,E,h1,h2,h3⟩:=h;obtain⟨kv,q,_⟩:=h1.row c d h3;exact .inl ⟨kv,.inl q⟩
theorem WRoom.own (h:WRoom H k W O c d):O d:=by
 obtain⟨D,E,h1,h2,h3⟩:=h;exact h2.o d (.inr (.inl ⟨c,h3⟩))
theorem WRoom.same (h:WRoom H k W O c d)(s:Same H H'):WRoom H' k W O c d:=by
 obtain⟨D,E,h1,h2,h3⟩:=h;exact⟨D,E,h1.same s,h2,h3⟩
theorem WRoom.cell (h:WRoom H k W O c d)(np:H p=none)(hs: -1000<=s/\s<=1000):∃kvs,upd H p (.dK []) d=some (.dK kvs)/\kvs.length<sizeLine/\(∀v,valV kvs (Sum.inl s)=some v->∃e,v=.ref e/\WCell (upd H p (.dK [])) k W O c s e)/\
 (valV kvs (Sum.inl s)=none->WCell (upd (upd H p (.dK [])) d (.dK (putK kvs (Sum.inl s) (.ref p)))) k W (Or1 O p) c s p):=by
 obtain⟨D,E,h1,h2,hd⟩:=h;have s1:=Same.upd (o:=.dK []) np;have k1:=h1.same s1;obtain⟨kvs,q1,q2,q3,q4⟩:=k1.rowL hd;have nw:¬Kown k D E p:=λz=>by obtain⟨kv,q⟩:=h1.there z;rw[np]at q;cases q
 refine⟨kvs,q1,?_,λv hv=>?_,λhv=>?_⟩
 ·refine Nat.lt_of_le_of_lt (di_len (n:=2001) (lo:=-1000) q2 q3 q4 λi v hv=>?_) (by decide)
  cases e:E c i with
  |none=>rw[e]at hv;cases hv
  |some x=>have:=h2.e c i x e;omega
 ·rw[q4]at hv;obtain⟨e,he,rfl⟩:=Option.map_eq_some_iff.mp hv;exact⟨e,rfl,D,E,k1,h2,he⟩
 ·rw[q4]at hv;have he:E c s=none:=Option.map_eq_none_iff.mp hv;refine⟨D,_,k1.addCell hd he q1 upd_same nw,⟨λb hb=>?_,h2.d,λc' s' x q=>?_,h2.w⟩,if_pos ⟨rfl,rfl⟩⟩
  ·rcases hb with z|z|⟨c',s',z⟩
   ·exact .inl (h2.o b (.inl z))
   ·exact .inl (h2.o b (.inr (.inl z)))
   ·dsimp only at z;by_cases e:c'=c/\s'=s
    ·rw[if_pos e]at z;exact .inr (Option.some.inj z).symm
    ·rw[if_neg e]at z;exact .inl (h2.o b (.inr (.inr ⟨c',s',z⟩)))
  ·by_cases e:c'=c/\s'=s
   ·rw[e.2];exact hs
   ·rw[if_neg e]at q;exact h2.e c' s' x q
theorem WCell.own (h:WCell H k W O c s e):O e:=by
 obtain⟨D,E,h1,h2,h3⟩:=h;exact h2.o e (.inr (.inr ⟨c,s,h3⟩))
theorem WCell.put (h:WCell H k W O c s e){n:Int}(hn:0<=n/\n<100000):∃kvs,H e=some (.dK kvs)/\kvs.length<sizeLine/\WAt (upd H e (.dK (putK kvs (Sum.inl n) (.bl true)))) k (addW W c s n) O:=by
 obtain⟨D,E,h1,h2,he⟩:=h;obtain⟨kvs,q1,q2,q3,q4⟩:=h1.celL he;refine⟨kvs,q1,?_,D,E,h1.addMem he q1 n,h2.o,h2.d,h2.e,λc' s' n' q=>?_⟩
 ·refine Nat.lt_of_le_of_lt (di_len (n:=100000) (lo:=0) q2 q3 q4 λi v hv=>?_) (by decide);by_cases w:W c s i=true
  ·have:=h2.w _ _ _ w;omega
  ·rw[if_neg w]at hv;cases hv
 ·rcases addW_iff.mp q with q|⟨_,_,q⟩
  ·exact h2.w _ _ _ q
  ·rw[q];exact hn
theorem WAt.get (h:WAt H k W O):∃o,DGet H k (.int c) o/\((o=none/\∀s n,W c s n=false)\/∃d,o=some (.ref d)/\WRoom H k W O c d):=by
 obtain⟨D,E,h1,h2⟩:=h;obtain⟨kvs,q1,q2,q3,q4⟩:=h1.topL;have g:=DGet.k (k:=Sum.inl c) q1;rw[q4]at g;refine⟨_,g,?_⟩
 cases e:D c with
 |none=>
  refine .inl ⟨rfl,λs n=>?_⟩
  cases w:W c s n with
  |false=>rfl
  |true=>
   obtain⟨x,hx⟩:=h1.se _ _ _ w;obtain⟨y,hy⟩:=h1.ed _ _ _ hx;rw[e]at hy;cases hy
 |some d=>exact .inr ⟨d,rfl,D,E,h1,h2,e⟩
theorem keys_nat:∀{kvs:List (Key×V)},(kvs.map (·.1)).Nodup->(∀kv∈kvs,∃n:Nat,kv.1=Sum.inl (n:Int))->∃ns:List Nat,kvs.map (λkv=>kV kv.1)=intV (nI ns)/\ns.Nodup/\∀n:Nat,n∈ns↔Sum.inl (n:Int)∈kvs.map (·.1)
 |[],_,_=>⟨[],rfl,List.nodup_nil,λn=>⟨(λz=>by cases z),(λz=>by cases z)⟩⟩
 |kv::r,hn,h=>by
  rw[List.map_cons,List.nodup_cons]at hn;obtain⟨ns,e1,e2,e3⟩:=keys_nat hn.2 λx hx=>h x (List.mem_cons_of_mem _ hx)
  obtain⟨m,hm⟩:=h kv (List.mem_cons_self ..);refine⟨m::ns,?_,List.nodup_cons.mpr ⟨λz=>hn.1 (by rw[hm];exact(e3 m).mp z),e2⟩,λn=>?_⟩
  ·rw[List.map_cons,e1,hm];rfl
  ·rw[List.mem_cons,e3 n,List.map_cons,List.mem_cons,hm];refine or_congr ⟨λz=>by rw[z],λz=>by have:=Sum.inl.inj z;omega⟩ Iff.rfl
theorem val_key {kvs:List (Key×V)}{i:Int}{v:V}(h:valV kvs (Sum.inl i)=some v):Sum.inl i∈kvs.map (·.1):=List.mem_map.mpr ⟨_,mem_valV h,rfl⟩
theorem WRoom.pop (h:WRoom H k W O c d)(s:Int):∃kvs,H d=some (.dK kvs)/\(valV kvs (Sum.inl s)=none->∀n,W c s n=false)/\
 ∀v,valV kvs (Sum.inl s)=some v->∃(e:Addr) (kv2:List (Key×V)) (ns:List Nat),v=.ref e/\e≠d/\H e=some (.dK kv2)/\kv2.map (λkv=>kV kv.1)=intV (nI ns)/\ns.Nodup/\(∀n:Nat,n∈ns↔W c s n=true)/\WAt (upd H d (.dK (dropK kvs (Sum.inl s)))) k (offW W c s) O:=by
 obtain⟨D,E,h1,h2,hd⟩:=h;obtain⟨kvs,q1,q2,q3,q4⟩:=h1.rowL hd;refine⟨kvs,q1,λhv n=>?_,λv hv=>?_⟩
 ·rw[q4]at hv
  cases w:W c s n with
  |false=>rfl
  |true=>
   obtain⟨x,hx⟩:=h1.se _ _ _ w;rw[hx]at hv;cases hv
 ·rw[q4]at hv;obtain⟨e,he,rfl⟩:=Option.map_eq_some_iff.mp hv;obtain⟨kv2,p1,p2,p3,p4⟩:=h1.celL he
  have hin:∀i:Int,Sum.inl i∈kv2.map (·.1)↔W c s i=true:=λi=>by
   constructor
   ·intro z;obtain⟨kv,hkv,e⟩:=List.mem_map.mp z;have:=valV_mem p2 hkv;rw[e,p4]at this;by_cases w:W c s i=true
    ·exact w
    ·rw[if_neg w]at this;cases this
   ·intro w;exact val_key (v:=.bl true) (by rw[p4,if_pos w])
  obtain⟨ns,e1,e2,e3⟩:=keys_nat p2 λkv hkv=>by
   obtain⟨i,hi⟩:=p3 kv hkv;have:=h2.w _ _ _ ((hin i).mp (by rw[←hi];exact List.mem_map_of_mem hkv));exact⟨i.toNat,by rw[hi];congr 1;omega⟩
  refine⟨e,kv2,ns,rfl,λz=>h1.de _ _ _ _ hd (by rw[←z];exact he),p1,e1,e2,λn=>(e3 n).trans (hin n),_,_,h1.dropCell hd q1,⟨λb hb=>h2.o b ?_,h2.d,λc' s' x q=>?_,λc' s' n q=>h2.w _ _ _ (offW_iff.mp q).1⟩⟩
  ·rcases hb with z|z|⟨c',s',z⟩
   ·exact .inl z
   ·exact .inr (.inl z)
   ·dsimp only at z;by_cases e:c'=c/\s'=s
    ·rw[if_pos e]at z;cases z
    ·rw[if_neg e]at z;exact .inr (.inr ⟨c',s',z⟩)
  ·by_cases e:c'=c/\s'=s
   ·rw[if_pos e]at q;cases q
   ·rw[if_neg e]at q;exact h2.e _ _ _ q
theorem len_count {P:Nat->Bool}{G:Nat}:∀{ns:List Nat},ns.Nodup->(∀n∈ns,n<G/\P n=true)->ns.length<=(List.range G).countP P:=by
 intro ns
 induction ns generalizing P with
 |nil=>exact λ_ _=>Nat.zero_le _
 |cons m r ih=>
  intro hn h;rw[List.nodup_cons]at hn;obtain⟨hm,hp⟩:=h m (List.mem_cons_self ..);have:=count_less (p:=P) (p':=λa=>P a && decide (a≠m)) (v:=m) (λa=>rfl) hp G;rw[if_pos hm]at this
  have:=ih (P:=λa=>P a && decide (a≠m)) hn.2 λn hr=>⟨(h n (List.mem_cons_of_mem _ hr)).1,by
   rw[(h n (List.mem_cons_of_mem _ hr)).2,decide_eq_true (show n≠m from λz=>hn.1 (by rw[←z];exact hr))];rfl⟩
  rw[List.length_cons];omega
theorem offW_no {W:Rel3}{c s:Int}(h:∀n,W c s n=false):offW W c s=W:=by
 funext c' s' n
 rw[Bool.eq_iff_iff,offW_iff];refine⟨λz=>z.1,λz=>⟨z,λq=>?_⟩⟩;rw[q.1,q.2,h]at z;cases z
end
end L2
namespace L2
section
variable {S:RS} {R:Nat->Int->Nat->Prop}
theorem wk_inj (g:Good S [] R):∀{w:List Int} {c d e:Nat},wk S.by c w=some e->wk S.by d w=some e->c=d
 |[],c,d,e,h1,h2=>by rw[Option.some.inj h1,Option.some.inj h2]
 |z::w,c,d,e,h1,h2=>by
  obtain⟨c1,a1,b1⟩:=wk_inv h1;obtain⟨d1,a2,b2⟩:=wk_inv h2;have:=wk_inj g b1 b2;subst this;have q1:=g.sy _ _ _ a1;have q2:=g.sy _ _ _ a2;rw[q1]at q2;exact Option.some.inj q2
theorem rnd_fill (g:Good S [] R){p c d m:Nat}{word:List Int}{z:Int}(h:Rnd S p word)(hz:word[m]?=some z)(h1:wk S.by p (word.take m)=some c)(h2:wk S.by d (word.drop (m+ 1))=some p):S.by c z=some d:=by
 have hm:=(List.getElem?_eq_some_iff.mp hz).1;rcases h with h|⟨i,j,f,r,y,z',hij,hi,hj,w1,n1,w2,n2⟩
 ·have:word=word.take m++(z::word.drop (m+ 1)):=by rw[←drop_cons hz,List.take_append_drop]
  rw[this,wk_app h1]at h;obtain⟨e,h3,h4⟩:=wk_inv h;rw[h3,wk_inj g h4 h2]
 ·exfalso
  have a:m<=i:=by
   rcases Nat.lt_or_ge i m with q|q
   ·exfalso
    have e:word.take m=word.take i++(y::(word.take m).drop (i+ 1)):=by
     have hi':(word.take m)[i]?=some y:=by rw[List.getElem?_take,if_pos q];exact hi
     rw[←drop_cons hi'];have:word.take i=(word.take m).take i:=by rw[List.take_take,Nat.min_eq_left (by omega)]
     rw[this,List.take_append_drop]
    rw[e,wk_app w1]at h1;obtain⟨x,q1,_⟩:=wk_inv h1;rw[n1]at q1;cases q1
   ·exact q
  have b:j<=m:=by
   rcases Nat.lt_or_ge m j with q|q
   ·exfalso
    have hj':(word.drop (m+ 1))[j - (m+ 1)]?=some z':=by rw[List.getElem?_drop,show m+ 1+ (j - (m+ 1))=j by omega];exact hj
    have e:word.drop (m+ 1)=(word.drop (m+ 1)).take (j - (m+ 1))++(z'::word.drop (j+ 1)):=by
     have:word.drop (j+ 1)=(word.drop (m+ 1)).drop (j - (m+ 1)+ 1):=by rw[List.drop_drop];congr 1;omega
     rw[this,←drop_cons hj',List.take_append_drop]
    rw[e]at h2;obtain⟨x,_,q2⟩:=wk_split h2;obtain⟨x',q3,q4⟩:=wk_inv q2;have:=wk_inj g q4 w2;subst this;rw[g.sy _ _ _ q3]at n2;cases n2
   ·exact q
  omega
theorem uw_wk {b:Nat->Int->Option Nat}:∀{w:List Int} {p q:Nat},UW (λp z q=>b p z=some q) p w q->wk b p w=some q
 |[],p,q,h=>by rw[show p=q from h];rfl
 |z::w,p,q,h=>by
  obtain⟨r,h1,h2⟩:=h;rw[wk_cons h1];exact uw_wk h2
theorem mdl_of (g:Good S [] R){rs ps rs' ps':List (List Int)}(c:Clsd rs ps S)(h0:0<S.made)(hr:∀w∈rs',w∈rs)(hp:∀w∈ps',w∈ps):Mdl (rs'++ps') rs'.length S.made S.eld (λp z q=>S.by p z=some q):=by
 refine⟨λp z q h=>g.sy _ _ _ h,λp z q q' h1 h2=>by rw[h1]at h2;exact Option.some.inj h2,λwhich word start m c' d z hw hn hs hz u1 u2=>?_⟩;refine rnd_fill g (p:=S.eld start) ?_ hz (uw_wk u1) (uw_wk u2);by_cases hlt:which<rs'.length
 ·rw[List.getElem?_append_left hlt]at hw;exact c.r word (hr _ (List.mem_of_getElem? hw)) _ (g.lt hs) (g.el _ hs).2
 ·rw[List.getElem?_append_right (by omega)]at hw;have e0:start=0:=hn.resolve_left hlt;have:S.eld start=0:=by rw[e0];have:=(g.el 0 h0).1;omega
  rw[this];exact c.p word (hp _ (List.mem_of_getElem? hw))
end
theorem one_end {F1 F2:RS}{R1 R2:Nat->Int->Nat->Prop}(g1:Good F1 [] R1)(g2:Good F2 [] R2)(em:F1.made=F2.made)(h12:∀a z b,R1 a z b->F2.by (F2.eld a) z=some (F2.eld b))(h21:∀a z b,R2 a z b->F1.by (F1.eld a) z=some (F1.eld b)):(∀c,c<F1.made->F1.eld c=F2.eld c)/\∀c z,F1.by c z=F2.by c z:=by
 have fn:∀(F:RS) p z (q q':Nat),F.by p z=some q->F.by p z=some q'->q=q':=λF p z q q' h1 h2=>by rw[h1]at h2;exact Option.some.inj h2
 have half:∀{F G:RS} {P Q:Nat->Int->Nat->Prop},Good F [] P->Good G [] Q->F.made=G.made->(∀a z b,P a z b->G.by (G.eld a) z=some (G.eld b))->∀c,c<F.made->G.eld c<=F.eld c:=λ{F G P Q} gF gG e h c hc=>by
  have h1:=cg_phi (φ:=G.eld) (U:=λp z q=>G.by p z=some q) (fn G) h (gF.cg c hc);have h2:=(gG.el (F.eld c) (by rw[←e];exact gF.lt hc)).1;rw[←h1]at h2;exact h2
 have el:∀c,c<F1.made->F1.eld c=F2.eld c:=λc hc=>Nat.le_antisymm (half g2 g1 em.symm h21 c (by omega)) (half g1 g2 em h12 c hc)
 refine⟨el,λc z=>?_⟩
 have dir:∀{F G:RS} {P Q:Nat->Int->Nat->Prop},Good F [] P->Good G [] Q->(∀c,c<F.made->F.eld c=G.eld c)->(∀a z b,P a z b->G.by (G.eld a) z=some (G.eld b))->∀c z d,F.by c z=some d->G.by c z=some d:=λ{F G P Q} gF gG e h c z d q=>by
  obtain⟨l1,l2,e1,e2⟩:=gF.st _ _ _ q;have:=by_phi (φ:=G.eld) (U:=λp z q=>G.by p z=some q) gF (fn G) h q;rw[←e c l1,←e d l2,e1,e2]at this;exact this
 have d12:=dir g1 g2 el h12;have d21:=dir g2 g1 (λc hc=>(el c (by omega)).symm) h21
 cases q1:F1.by c z with
 |some d=>exact(d12 c z d q1).symm
 |none=>
  cases q2:F2.by c z with
  |none=>rfl
  |some d=>have:=d21 c z d q2;rw[q1]at this;cases this
theorem lay_free {S S':RS}{c d:Nat}{z:Int}(h:LayR S [(c,z,d)] S')(ec:S.eld c=c)(ed:S.eld d=d)(h1:S.by c z=none)(h2:S.by d (-z)=none):S'=S.keep c z d:=by
 generalize hp:[(c,z,d)]=pend at h
 cases h with
 |nil=>cases hp
 |take l=>
  rename_i pend w
  have e1:pend=[]/\w=(c,z,d):=by
   cases pend with
   |nil=>exact⟨rfl,by simpa using hp.symm⟩
   |cons x r=>simp at hp
  obtain⟨rfl,rfl⟩:=e1
  have:S.takeIn [] (c,z,d)=(S.keep c z d,[]):=by
   unfold RS.takeIn;dsimp only;rw[ec,ed,h1,h2];simp
  rw[this]at l;generalize hq:(S.keep c z d,([]:List Way)).2=q at l
  cases l with
  |nil=>rfl
  |take l=>simp at hq
end L2
namespace M11
def flip (k:Nat):Nat:=if k % 2=0 then k+ 1 else k - 1
def nx (T:List (List Int))(k i:Nat):Nat:=((T.getD i []).getD k 0).toNat
structure Tab (L:Nat) (T:List (List Int)):Prop where
 pos:1<=T.length
 top:T.length<=300
 let1:1<=L
 let2:L<=40
 row:∀(i:Nat) (r:List Int),T[i]?=some r->r.length=2* L
 val:∀i k,i<T.length->k<2* L->∃r:List Int,T[i]?=some r/\r[k]?=some ((nx T k i:Nat):Int)
 lt:∀i k,i<T.length->k<2* L->nx T k i<T.length
 back:∀i k,i<T.length->k<2* L->nx T (flip k) (nx T k i)=i
def pl (s:Int):Nat:=if 0<s then 2* s.natAbs - 2 else 2* s.natAbs - 1
def walk (T:List (List Int))(w:List Int)(i:Nat):Nat:=w.foldl (λi s=>nx T (pl s) i) i
def back (w:List Int):List Int:=w.reverse.map λz=>-z
structure Pm (p:Nat) (r:List Int):Prop where
 len:r.length=p
 nd:r.Nodup
 rg:∀z∈r,0<=z/\z<(p:Int)
theorem Pm.at {p:Nat}{r:List Int}(h:Pm p r){i:Nat}(hi:i<p):∃j:Nat,r[i]?=some (j:Int)/\j<p:=by
 have hl:i<r.length:=by rw[h.len];exact hi
 have:=h.rg r[i] (List.getElem_mem hl);exact⟨r[i].toNat,by rw[List.getElem?_eq_getElem hl,show ((r[i].toNat:Nat):Int)=r[i] by omega],by omega⟩
def RowOk (L:Nat)(f:Nat->Int->Int)(come:List Int)(x:Int)(r:List Int)(m:Nat):Prop:=r.length=m/\∀k,k<m->∃j:Nat,r[k]?=some (j:Int)/\come[j]?=some (f k x)
theorem RowOk.more {L:Nat}{f:Nat->Int->Int}{come c2:List Int}{x:Int}{r:List Int}{m:Nat}(h:RowOk L f come x r m):RowOk L f (come++c2) x r m:=⟨h.1,λk hk=>by
 obtain⟨j,h1,h2⟩:=h.2 k hk;refine⟨j,h1,?_⟩;rw[List.getElem?_append_left (List.getElem?_eq_some_iff.mp h2).1];exact h2⟩
theorem RowOk.snoc {L:Nat}{f:Nat->Int->Int}{come:List Int}{x:Int}{r:List Int}{m j:Nat}(h:RowOk L f come x r m)(hj:come[j]?=some (f m x)):RowOk L f come x (r++[(j:Int)]) (m+ 1):=by
 refine⟨by rw[List.length_append,h.1];rfl,λk hk=>?_⟩;by_cases e:k=m
 ·subst e;refine⟨j,?_,hj⟩;rw[List.getElem?_append_right (by rw[h.1];exact Nat.le_refl _),h.1,Nat.sub_self];rfl
 ·obtain⟨i,h1,h2⟩:=h.2 k (by omega);exact⟨i,by rw[List.getElem?_append_left (by rw[h.1];omega)];exact h1,h2⟩
def InvOf (p:Nat)(r t:List Int):Prop:=t.length=p/\∀k j:Nat,r[k]?=some (j:Int)->t[j]?=some (k:Int)
def InvTo (p:Nat)(r t:List Int)(n:Nat):Prop:=t.length=p/\∀k j:Nat,k<n->r[k]?=some (j:Int)->t[j]?=some (k:Int)
theorem InvTo.step {p n j:Nat}{r t:List Int}(h:InvTo p r t n)(hr:Pm p r)(hj:r[n]?=some (j:Int))(hjp:j<p):InvTo p r (t.set j (n:Int)) (n+ 1):=by
 refine⟨by rw[List.length_set];exact h.1,λk i hk hi=>?_⟩;by_cases e:k=n
 ·subst e;rw[hj]at hi;have:j=i:=by have:=Option.some.inj hi;omega
  subst this;exact List.getElem?_set_self (by rw[h.1];exact hjp)
 ·have hne:j≠i:=λz=>by
   subst z;exact e ((List.getElem?_inj (List.getElem?_eq_some_iff.mp hi).1 hr.nd).mp (hi.trans hj.symm))
  rw[List.getElem?_set_ne hne];exact h.2 k i (by omega) hi
theorem InvTo.all {p:Nat}{r t:List Int}(h:InvTo p r t p)(hr:Pm p r):InvOf p r t:=⟨h.1,λk j hk=>h.2 k j (by
 have:=(List.getElem?_eq_some_iff.mp hk).1;rw[hr.len]at this;exact this) hk⟩
end M11
namespace M12
open M11
def Fc (W:Nat)(E:List Int)(N:Nat):Prop:=(∀z∈E,0<=z/\z<(N:Int))/\∀j:Nat,0<j->j<N->∃p:Nat,p<j* W/\E[p]?=some (j:Int)/\∀(q:Nat) (z:Int),q<p->E[q]?=some z->z<(j:Int)
theorem Fc.old {W N i:Nat}{E:List Int}(h:Fc W E N)(hi:i<N):Fc W (E++[(i:Int)]) N:=by
 refine⟨λz hz=>?_,λj h0 h1=>?_⟩
 ·rcases List.mem_append.mp hz with hz|hz
  ·exact h.1 z hz
  ·rw[List.mem_singleton.mp hz];omega
 ·obtain⟨p,a1,a2,a3⟩:=h.2 j h0 h1;have hp:=(List.getElem?_eq_some_iff.mp a2).1;refine⟨p,a1,by rw[List.getElem?_append_left hp];exact a2,λq z hq hz=>a3 q z hq ?_⟩;rw[List.getElem?_append_left (by omega)]at hz;exact hz
theorem Fc.new {W N:Nat}{E:List Int}(h:Fc W E N)(hN:0<N)(hE:E.length<N* W):Fc W (E++[(N:Int)]) (N+ 1):=by
 refine⟨λz hz=>?_,λj h0 h1=>?_⟩
 ·rcases List.mem_append.mp hz with hz|hz
  ·have:=h.1 z hz;omega
  ·rw[List.mem_singleton.mp hz];omega
 ·by_cases e:j=N
  ·subst e;refine⟨E.length,hE,by rw[List.getElem?_append_right (Nat.le_refl _),Nat.sub_self];rfl,λq z hq hz=>?_⟩;rw[List.getElem?_append_left hq]at hz;exact(h.1 z (List.mem_of_getElem? hz)).2
  ·obtain⟨p,a1,a2,a3⟩:=h.2 j h0 (by omega);have hp:=(List.getElem?_eq_some_iff.mp a2).1;refine⟨p,a1,by rw[List.getElem?_append_left hp];exact a2,λq z hq hz=>a3 q z hq ?_⟩;rw[List.getElem?_append_left (by omega)]at hz;exact hz
theorem Fc.zero (W:Nat):Fc W [] 1:=⟨(λz hz=>by cases hz),(λj h0 h1=>by omega)⟩
def st (k:Nat):Int:=if k % 2=0 then ((k / 2+ 1:Nat):Int) else -((k / 2+ 1:Nat):Int)
theorem pl_st (k:Nat):pl (st k)=k:=by
 unfold pl st;by_cases h:k % 2=0
 ·rw[if_pos h,if_pos (by omega)];omega
 ·rw[if_neg h,if_neg (by omega)];omega
theorem st_ok {k L:Nat}(h:k<2* L):st k≠0/\(st k).natAbs<=L:=by
 unfold st;split <;> omega
def lexL:List Nat->List Nat->Prop
 |a::u,b::v=>a<b\/(a=b/\lexL u v)
 |_,_=>False
def aheadN (u v:List Nat):Prop:=u.length<v.length\/(u.length=v.length/\lexL u v)
theorem lex_snoc:∀{u v:List Nat} {a b:Nat},u.length=v.length->lexL u v->lexL (u++[a]) (v++[b])
 |x::u,y::v,a,b,hl,h=>by
  rcases h with h|⟨e,h⟩
  ·exact .inl h
  ·exact .inr ⟨e,lex_snoc (by simpa using hl) h⟩
theorem lex_last:∀{u:List Nat} {a b:Nat},a<b->lexL (u++[a]) (u++[b])
 |[],a,b,h=>.inl h
 |x::u,a,b,h=>.inr ⟨rfl,lex_last h⟩
theorem ahead_snoc {u v:List Nat}{a b:Nat}(h:aheadN u v):aheadN (u++[a]) (v++[b]):=by
 rcases h with h|⟨e,h⟩
 ·exact .inl (by simp only[List.length_append,List.length_cons,List.length_nil];omega)
 ·exact .inr ⟨by simp only[List.length_append,List.length_cons,List.length_nil];omega,lex_snoc e h⟩
theorem ahead_last {u:List Nat}{a b:Nat}(h:a<b):aheadN (u++[a]) (u++[b]):=.inr ⟨by simp,lex_last h⟩
def Lw (L:Nat)(T:List (List Int))(ws:List (List Nat)):Prop:=ws.length=T.length/\ws[0]?=some []/\
 ∀(j p:Nat),0<j->j<T.length->T.flatten[p]?=some (j:Int)->(∀(q:Nat) (z:Int),q<p->T.flatten[q]?=some z->z<(j:Int))->∃u,ws[p / (2* L)]?=some u/\ws[j]?=some (u++[p % (2* L)])
section
variable {L:Nat} {T:List (List Int)} {ws:List (List Nat)} (hT:Tab L T) (hF:Fc (2* L) T.flatten T.length) (hw:Lw L T ws)
include hT hF hw
theorem mono:∀(i' i:Nat),i<i'->i'<T.length->∀u v,ws[i]?=some u->ws[i']?=some v->aheadN u v:=by
 have hL:=hT.let1;intro i'
 induction i' using Nat.strongRecOn with
 |_ i' ih=>
  intro i hlt hi' u v hu hv;obtain⟨p',a1,a2,a3⟩:=hF.2 i' (by omega) hi';obtain⟨v0,b1,b2⟩:=hw.2.2 i' p' (by omega) hi' a2 a3;have ev:v=v0++[p' % (2* L)]:=Option.some.inj (hv.symm.trans b2);by_cases h0:i=0
  ·subst h0;have eu:u=[]:=Option.some.inj (hu.symm.trans hw.2.1);rw[eu,ev];exact .inl (by simp)
  ·obtain⟨p,c1,c2,c3⟩:=hF.2 i (by omega) (by omega);obtain⟨u0,d1,d2⟩:=hw.2.2 i p (by omega) (by omega) c2 c3;have eu:u=u0++[p % (2* L)]:=Option.some.inj (hu.symm.trans d2)
   have hpp:p<p':=by
    refine Classical.byContradiction λhn=>?_
    by_cases e:p=p'
    ·rw[e,a2]at c2;have:=Option.some.inj c2;omega
    ·have:=c3 p' _ (by omega) a2;omega
   have hrow:p' / (2* L)<i':=by
    rw[Nat.div_lt_iff_lt_mul (by omega)];exact a1
   rw[eu,ev];by_cases er:p / (2* L)=p' / (2* L)
   ·rw[er]at d1;have e0:u0=v0:=Option.some.inj (d1.symm.trans b1);rw[e0];refine ahead_last ?_;have h1:=Nat.div_add_mod p (2* L);have h2:=Nat.div_add_mod p' (2* L);rw[er]at h1;omega
   ·have hlt2:p / (2* L)<p' / (2* L):=by
     have:=Nat.div_le_div_right (c:=2* L) (Nat.le_of_lt hpp);omega
    exact ahead_snoc (ih _ hrow _ hlt2 (by omega) _ _ d1 b1)
end
end M12
namespace K23
open PySem L2
def top (i:Nat):Stmt:=PySem.Challenge.pw_cosetyard_k23_one_end.main.body.getD i (.Pass ⟨0,0,0,0⟩)
abbrev s_close:Stmt:=top 2
abbrev s_walked:Stmt:=top 3
abbrev s_first_places:Stmt:=top 4
abbrev s_steps_of:Stmt:=top 8
abbrev s_all_gaps:Stmt:=top 11
abbrev s_own:Stmt:=top 12
abbrev s__law_cell_at:Stmt:=top 14
abbrev s__law_whole:Stmt:=top 15
abbrev s__law_step:Stmt:=top 16
abbrev s__law_word:Stmt:=top 17
abbrev s__law_alike:Stmt:=top 18
abbrev s_law:Stmt:=top 19
abbrev s_Going___init__:Stmt:=inClass (top 5) 0
abbrev s_Going_advance:Stmt:=inClass (top 5) 1
abbrev s_Going_row:Stmt:=inClass (top 5) 2
abbrev s_Closing___init__:Stmt:=inClass (top 6) 0
abbrev s_Closing_begin_rules:Stmt:=inClass (top 6) 1
abbrev s_Closing_begin:Stmt:=inClass (top 6) 2
abbrev s_Closing_settle:Stmt:=inClass (top 6) 3
abbrev s_Closing_go_on:Stmt:=inClass (top 6) 5
abbrev s_Closing_wait:Stmt:=inClass (top 6) 6
abbrev s_Closing_lay:Stmt:=inClass (top 6) 7
abbrev s_Closing_wake:Stmt:=inClass (top 6) 8
abbrev s_Closing_hear:Stmt:=inClass (top 6) 9
abbrev s_Closing_wake_all:Stmt:=inClass (top 6) 10
abbrev s_Rooms___init__:Stmt:=inClass (top 10) 0
abbrev s_Rooms_make:Stmt:=inClass (top 10) 1
abbrev s_Rooms_lay:Stmt:=inClass (top 10) 2
abbrev s_Rooms_by:Stmt:=inClass (top 10) 3
abbrev s_Rooms_elder:Stmt:=inClass (top 10) 4
abbrev s_Rooms_standing:Stmt:=inClass (top 10) 5
abbrev s_Rooms_keep:Stmt:=inClass (top 10) 8
abbrev s_Rooms_take_in:Stmt:=inClass (top 10) 9
abbrev s_Rooms_put_together:Stmt:=inClass (top 10) 10
abbrev s_Rooms_put_off:Stmt:=inClass (top 10) 11
structure Adr where
 f_close:Addr
 d_close:FuncData
 f_walked:Addr
 d_walked:FuncData
 f_first_places:Addr
 d_first_places:FuncData
 f_steps_of:Addr
 d_steps_of:FuncData
 f_all_gaps:Addr
 d_all_gaps:FuncData
 f_own:Addr
 d_own:FuncData
 f__law_cell_at:Addr
 d__law_cell_at:FuncData
 f__law_whole:Addr
 d__law_whole:FuncData
 f__law_step:Addr
 d__law_step:FuncData
 f__law_word:Addr
 d__law_word:FuncData
 f__law_alike:Addr
 d__law_alike:FuncData
 f_law:Addr
 d_law:FuncData
 f_Going___init__:Addr
 d_Going___init__:FuncData
 f_Going_advance:Addr
 d_Going_advance:FuncData
 f_Going_row:Addr
 d_Going_row:FuncData
 f_Closing___init__:Addr
 d_Closing___init__:FuncData
 f_Closing_begin_rules:Addr
 d_Closing_begin_rules:FuncData
 f_Closing_begin:Addr
 d_Closing_begin:FuncData
 f_Closing_settle:Addr
 d_Closing_settle:FuncData
 f_Closing_go_on:Addr
 d_Closing_go_on:FuncData
 f_Closing_wait:Addr
 d_Closing_wait:FuncData
 f_Closing_lay:Addr
 d_Closing_lay:FuncData
 f_Closing_wake:Addr
 d_Closing_wake:FuncData
 f_Closing_hear:Addr
 d_Closing_hear:FuncData
 f_Closing_wake_all:Addr
 d_Closing_wake_all:FuncData
 f_Rooms___init__:Addr
 d_Rooms___init__:FuncData
 f_Rooms_make:Addr
 d_Rooms_make:FuncData
 f_Rooms_lay:Addr
 d_Rooms_lay:FuncData
 f_Rooms_by:Addr
 d_Rooms_by:FuncData
 f_Rooms_elder:Addr
 d_Rooms_elder:FuncData
 f_Rooms_standing:Addr
 d_Rooms_standing:FuncData
 f_Rooms_keep:Addr
 d_Rooms_keep:FuncData
 f_Rooms_take_in:Addr
 d_Rooms_take_in:FuncData
 f_Rooms_put_together:Addr
 d_Rooms_put_together:FuncData
 f_Rooms_put_off:Addr
 d_Rooms_put_off:FuncData
 c_Rooms:Addr
 c_Going:Addr
 c_Closing:Addr
structure Txt (K:PySem.W.Frag) (mg:Str->Option Value) (A:Adr):Prop where
 close:Def K mg "close" s_close ["rooms","rules","part"] A.f_close A.d_close
 walked:Def K mg "walked" s_walked ["rooms","room","word"] A.f_walked A.d_walked
 first_places:Def K mg "first_places" s_first_places ["rules"] A.f_first_places A.d_first_places
 steps_of:Def K mg "steps_of" s_steps_of ["letters"] A.f_steps_of A.d_steps_of
 all_gaps:Def K mg "all_gaps" s_all_gaps ["letters"] A.f_all_gaps A.d_all_gaps
 own:Def K mg "own" s_own ["value"] A.f_own A.d_own
 _law_cell_at:Def K mg "_law_cell_at" s__law_cell_at ["_law_script","_law_k"] A.f__law_cell_at A.d__law_cell_at
 _law_whole:Def K mg "_law_whole" s__law_whole ["_law_found"] A.f__law_whole A.d__law_whole
 _law_step:Def K mg "_law_step" s__law_step ["_law_number","_law_letters"] A.f__law_step A.d__law_step
 _law_word:Def K mg "_law_word" s__law_word ["_law_number","_law_letters"] A.f__law_word A.d__law_word
 _law_alike:Def K mg "_law_alike" s__law_alike ["_law_one","_law_other","_law_letters"] A.f__law_alike A.d__law_alike
 law:Def K mg "law" s_law ["_law_script"] A.f_law A.d_law
 Going___init__:MDef K A.c_Going "__init__" "Going.__init__" s_Going___init__ ["self","which","word","start"] A.f_Going___init__ A.d_Going___init__
 Going_advance:MDef K A.c_Going "advance" "Going.advance" s_Going_advance ["self","rooms"] A.f_Going_advance A.d_Going_advance
 Going_row:MDef K A.c_Going "row" "Going.row" s_Going_row ["self","rooms"] A.f_Going_row A.d_Going_row
 Closing___init__:MDef K A.c_Closing "__init__" "Closing.__init__" s_Closing___init__ ["self","rooms","rules","part"] A.f_Closing___init__ A.d_Closing___init__
 Closing_begin_rules:MDef K A.c_Closing "begin_rules" "Closing.begin_rules" s_Closing_begin_rules ["self","room"] A.f_Closing_begin_rules A.d_Closing_begin_rules
 Closing_begin:MDef K A.c_Closing "begin" "Closing.begin" s_Closing_begin ["self","which","word","room"] A.f_Closing_begin A.d_Closing_begin
 Closing_settle:MDef K A.c_Closing "settle" "Closing.settle" s_Closing_settle ["self"] A.f_Closing_settle A.d_Closing_settle
 Closing_go_on:MDef K A.c_Closing "go_on" "Closing.go_on" s_Closing_go_on ["self","number"] A.f_Closing_go_on A.d_Closing_go_on
 Closing_wait:MDef K A.c_Closing "wait" "Closing.wait" s_Closing_wait ["self","number","room","step"] A.f_Closing_wait A.d_Closing_wait
 Closing_lay:MDef K A.c_Closing "lay" "Closing.lay" s_Closing_lay ["self","going"] A.f_Closing_lay A.d_Closing_lay
 Closing_wake:MDef K A.c_Closing "wake" "Closing.wake" s_Closing_wake ["self","room","step"] A.f_Closing_wake A.d_Closing_wake
 Closing_hear:MDef K A.c_Closing "hear" "Closing.hear" s_Closing_hear ["self"] A.f_Closing_hear A.d_Closing_hear
 Closing_wake_all:MDef K A.c_Closing "wake_all" "Closing.wake_all" s_Closing_wake_all ["self","room"] A.f_Closing_wake_all A.d_Closing_wake_all
 Rooms___init__:MDef K A.c_Rooms "__init__" "Rooms.__init__" s_Rooms___init__ ["self","letters"] A.f_Rooms___init__ A.d_Rooms___init__
 Rooms_make:MDef K A.c_Rooms "make" "Rooms.make" s_Rooms_make ["self","room","step"] A.f_Rooms_make A.d_Rooms_make
 Rooms_lay:MDef K A.c_Rooms "lay" "Rooms.lay" s_Rooms_lay ["self","room","step","other","row"] A.f_Rooms_lay A.d_Rooms_lay
 Rooms_by:MDef K A.c_Rooms "by" "Rooms.by" s_Rooms_by ["self","room","step"] A.f_Rooms_by A.d_Rooms_by
 Rooms_elder:MDef K A.c_Rooms "elder" "Rooms.elder" s_Rooms_elder ["self","room"] A.f_Rooms_elder A.d_Rooms_elder
 Rooms_standing:MDef K A.c_Rooms "standing" "Rooms.standing" s_Rooms_standing ["self"] A.f_Rooms_standing A.d_Rooms_standing
 Rooms_keep:MDef K A.c_Rooms "keep" "Rooms.keep" s_Rooms_keep ["self","room","step","other"] A.f_Rooms_keep A.d_Rooms_keep
 Rooms_take_in:MDef K A.c_Rooms "take_in" "Rooms.take_in" s_Rooms_take_in ["self","way","pending"] A.f_Rooms_take_in A.d_Rooms_take_in
 Rooms_put_together:MDef K A.c_Rooms "put_together" "Rooms.put_together" s_Rooms_put_together ["self","room","step","one","other","pending"] A.f_Rooms_put_together A.d_Rooms_put_together
 Rooms_put_off:MDef K A.c_Rooms "put_off" "Rooms.put_off" s_Rooms_put_off ["self","room","pending"] A.f_Rooms_put_off A.d_Rooms_put_off
 z_enumerate:mg "enumerate"=none
 z_min:mg "min"=none
 z_max:mg "max"=none
 z_range:mg "range"=none
 z_len:mg "len"=none
 z_tuple:mg "tuple"=none
 z_list:mg "list"=none
 z_isinstance:mg "isinstance"=none
 z_bool:mg "bool"=none
 z_int:mg "int"=none
 z_dict:mg "dict"=none
 z_str:mg "str"=none
 m_Rooms:mg "Rooms"=some (.ref A.c_Rooms)
 m_Going:mg "Going"=some (.ref A.c_Going)
 m_Closing:mg "Closing"=some (.ref A.c_Closing)
 pg_Rooms:PySem.W.plainGet K A.c_Rooms Str.empty=true
 hd_Rooms:PySem.W.hasDictIn K A.c_Rooms=true
 po_Rooms:PySem.W.plainOver K A.c_Rooms=true
 sa_Rooms:PySem.W.findIn K (.ref A.c_Rooms) "__setattr__"=some (some (.builtin "object.__setattr__"))
 mk_Rooms:PySem.W.makesIn K A.c_Rooms=true
 kc_Rooms:PySem.W.keepIn K (.ref A.c_Rooms)=true
 n_letters:PySem.W.findIn K (.ref A.c_Rooms) "letters"=some none
 n_made:PySem.W.findIn K (.ref A.c_Rooms) "made"=some none
 n_rows:PySem.W.findIn K (.ref A.c_Rooms) "rows"=some none
 n_ways:PySem.W.findIn K (.ref A.c_Rooms) "ways"=some none
 n_gaps:PySem.W.findIn K (.ref A.c_Rooms) "gaps"=some none
 n_elders:PySem.W.findIn K (.ref A.c_Rooms) "elders"=some none
 n_called:PySem.W.findIn K (.ref A.c_Rooms) "called"=some none
 n_went:PySem.W.findIn K (.ref A.c_Rooms) "went"=some none
 pg_Going:PySem.W.plainGet K A.c_Going Str.empty=true
 hd_Going:PySem.W.hasDictIn K A.c_Going=true
 po_Going:PySem.W.plainOver K A.c_Going=true
 sa_Going:PySem.W.findIn K (.ref A.c_Going) "__setattr__"=some (some (.builtin "object.__setattr__"))
 mk_Going:PySem.W.makesIn K A.c_Going=true
 kc_Going:PySem.W.keepIn K (.ref A.c_Going)=true
 nG_which:PySem.W.findIn K (.ref A.c_Going) "which"=some none
 nG_word:PySem.W.findIn K (.ref A.c_Going) "word"=some none
 nG_start:PySem.W.findIn K (.ref A.c_Going) "start"=some none
 nG_front:PySem.W.findIn K (.ref A.c_Going) "front"=some none
 nG_first:PySem.W.findIn K (.ref A.c_Going) "first"=some none
 nG_rear:PySem.W.findIn K (.ref A.c_Going) "rear"=some none
 nG_last:PySem.W.findIn K (.ref A.c_Going) "last"=some none
 pg_Closing:PySem.W.plainGet K A.c_Closing Str.empty=true
 hd_Closing:PySem.W.hasDictIn K A.c_Closing=true
 po_Closing:PySem.W.plainOver K A.c_Closing=true
 sa_Closing:PySem.W.findIn K (.ref A.c_Closing) "__setattr__"=some (some (.builtin "object.__setattr__"))
 mk_Closing:PySem.W.makesIn K A.c_Closing=true
 kc_Closing:PySem.W.keepIn K (.ref A.c_Closing)=true
 nC_rooms:PySem.W.findIn K (.ref A.c_Closing) "rooms"=some none
 nC_rules:PySem.W.findIn K (.ref A.c_Closing) "rules"=some none
 nC_goings:PySem.W.findIn K (.ref A.c_Closing) "goings"=some none
 nC_agenda:PySem.W.findIn K (.ref A.c_Closing) "agenda"=some none
 nC_waiting:PySem.W.findIn K (.ref A.c_Closing) "waiting"=some none
 nC_heard:PySem.W.findIn K (.ref A.c_Closing) "heard"=some none
theorem cl_Rooms {K:PySem.W.Frag}{mg:Str->Option Value}{A:Adr}(T:Txt K mg A):Cls K A.c_Rooms:=⟨T.pg_Rooms,T.hd_Rooms,T.po_Rooms,T.sa_Rooms⟩
theorem mk_Rooms {K:PySem.W.Frag}{mg:Str->Option Value}{A:Adr}(T:Txt K mg A):Mk K A.c_Rooms A.f_Rooms___init__:=⟨T.mk_Rooms,T.Rooms___init__.m.at_,T.Rooms___init__.m.fn,T.kc_Rooms⟩
theorem cl_Going {K:PySem.W.Frag}{mg:Str->Option Value}{A:Adr}(T:Txt K mg A):Cls K A.c_Going:=⟨T.pg_Going,T.hd_Going,T.po_Going,T.sa_Going⟩
theorem mk_Going {K:PySem.W.Frag}{mg:Str->Option Value}{A:Adr}(T:Txt K mg A):Mk K A.c_Going A.f_Going___init__:=⟨T.mk_Going,T.Going___init__.m.at_,T.Going___init__.m.fn,T.kc_Going⟩
theorem cl_Closing {K:PySem.W.Frag}{mg:Str->Option Value}{A:Adr}(T:Txt K mg A):Cls K A.c_Closing:=⟨T.pg_Closing,T.hd_Closing,T.po_Closing,T.sa_Closing⟩
theorem mk_Closing {K:PySem.W.Frag}{mg:Str->Option Value}{A:Adr}(T:Txt K mg A):Mk K A.c_Closing A.f_Closing___init__:=⟨T.mk_Closing,T.Closing___init__.m.at_,T.Closing___init__.m.fn,T.kc_Closing⟩
theorem sc_close:FnScope ["rooms","rules","part"] ["rooms","rules","part"] (defScope s_close):=⟨rfl,rfl,rfl,by decide +kernel,rfl,by decide +kernel,by decide +kernel⟩
theorem sc_walked:FnScope ["rooms","room","word","path","step"] ["rooms","room","word"] (defScope s_walked):=⟨rfl,rfl,rfl,by decide +kernel,rfl,by decide +kernel,by decide +kernel⟩
theorem sc_first_places:FnScope ["rules","places","which","rule"] ["rules"] (defScope s_first_places):=⟨rfl,rfl,rfl,by decide +kernel,rfl,by decide +kernel,by decide +kernel⟩
theorem sc_steps_of:FnScope ["letters","steps","letter"] ["letters"] (defScope s_steps_of):=⟨rfl,rfl,rfl,by decide +kernel,rfl,by decide +kernel,by decide +kernel⟩
theorem sc_all_gaps:FnScope ["letters"] ["letters"] (defScope s_all_gaps):=⟨rfl,rfl,rfl,by decide +kernel,rfl,by decide +kernel,by decide +kernel⟩
theorem sc_own:FnScope ["value"] ["value"] (defScope s_own):=⟨rfl,rfl,rfl,by decide +kernel,rfl,by decide +kernel,by decide +kernel⟩
theorem sc__law_cell_at:FnScope ["_law_script","_law_k"] ["_law_script","_law_k"] (defScope s__law_cell_at):=⟨rfl,rfl,rfl,by decide +kernel,rfl,by decide +kernel,by decide +kernel⟩
theorem sc__law_whole:FnScope ["_law_found"] ["_law_found"] (defScope s__law_whole):=⟨rfl,rfl,rfl,by decide +kernel,rfl,by decide +kernel,by decide +kernel⟩
theorem sc__law_step:FnScope ["_law_number","_law_letters"] ["_law_number","_law_letters"] (defScope s__law_step):=⟨rfl,rfl,rfl,by decide +kernel,rfl,by decide +kernel,by decide +kernel⟩
theorem sc__law_word:FnScope ["_law_number","_law_letters","_law_word_here","_law_k"] ["_law_number","_law_letters"] (defScope s__law_word):=⟨rfl,rfl,rfl,by decide +kernel,rfl,by decide +kernel,by decide +kernel⟩
theorem sc__law_alike:FnScope ["_law_one","_law_other","_law_letters","_law_standing","_law_room","_law_letter","_law_step_here","_law_found"] ["_law_one","_law_other","_law_letters"] (defScope s__law_alike):=⟨rfl,rfl,rfl,by decide +kernel,rfl,by decide +kernel,by decide +kernel⟩
theorem sc_law:FnScope ["_law_script","_law_letters","_law_many","_law_rules","_law_part","_law_one","_law_other","_law_at","_law_number","_law_room","_law_step_here","_law_there","_law_handed"] ["_law_script"] (defScope s_law):=⟨rfl,rfl,rfl,by decide +kernel,rfl,by decide +kernel,by decide +kernel⟩
theorem sc_Going___init__:FnScope ["self","which","word","start"] ["self","which","word","start"] (defScope s_Going___init__):=⟨rfl,rfl,rfl,by decide +kernel,rfl,by decide +kernel,by decide +kernel⟩
theorem sc_Going_advance:FnScope ["self","rooms","room"] ["self","rooms"] (defScope s_Going_advance):=⟨rfl,rfl,rfl,by decide +kernel,rfl,by decide +kernel,by decide +kernel⟩
theorem sc_Going_row:FnScope ["self","rooms","ahead","behind"] ["self","rooms"] (defScope s_Going_row):=⟨rfl,rfl,rfl,by decide +kernel,rfl,by decide +kernel,by decide +kernel⟩
theorem sc_Closing___init__:FnScope ["self","rooms","rules","part","room","which","word"] ["self","rooms","rules","part"] (defScope s_Closing___init__):=⟨rfl,rfl,rfl,by decide +kernel,rfl,by decide +kernel,by decide +kernel⟩
theorem sc_Closing_begin_rules:FnScope ["self","room","rule","which"] ["self","room"] (defScope s_Closing_begin_rules):=⟨rfl,rfl,rfl,by decide +kernel,rfl,by decide +kernel,by decide +kernel⟩
theorem sc_Closing_begin:FnScope ["self","which","word","room"] ["self","which","word","room"] (defScope s_Closing_begin):=⟨rfl,rfl,rfl,by decide +kernel,rfl,by decide +kernel,by decide +kernel⟩
theorem sc_Closing_settle:FnScope ["self"] ["self"] (defScope s_Closing_settle):=⟨rfl,rfl,rfl,by decide +kernel,rfl,by decide +kernel,by decide +kernel⟩
theorem sc_Closing_go_on:FnScope ["self","number","going"] ["self","number"] (defScope s_Closing_go_on):=⟨rfl,rfl,rfl,by decide +kernel,rfl,by decide +kernel,by decide +kernel⟩
theorem sc_Closing_wait:FnScope ["self","number","room","step","steps","numbers"] ["self","number","room","step"] (defScope s_Closing_wait):=⟨rfl,rfl,rfl,by decide +kernel,rfl,by decide +kernel,by decide +kernel⟩
theorem sc_Closing_lay:FnScope ["self","going","step"] ["self","going"] (defScope s_Closing_lay):=⟨rfl,rfl,rfl,by decide +kernel,rfl,by decide +kernel,by decide +kernel⟩
theorem sc_Closing_wake:FnScope ["self","room","step"] ["self","room","step"] (defScope s_Closing_wake):=⟨rfl,rfl,rfl,by decide +kernel,rfl,by decide +kernel,by decide +kernel⟩
theorem sc_Closing_hear:FnScope ["self"] ["self"] (defScope s_Closing_hear):=⟨rfl,rfl,rfl,by decide +kernel,rfl,by decide +kernel,by decide +kernel⟩
theorem sc_Closing_wake_all:FnScope ["self","room","step","elder"] ["self","room"] (defScope s_Closing_wake_all):=⟨rfl,rfl,rfl,by decide +kernel,rfl,by decide +kernel,by decide +kernel⟩
theorem sc_Rooms___init__:FnScope ["self","letters"] ["self","letters"] (defScope s_Rooms___init__):=⟨rfl,rfl,rfl,by decide +kernel,rfl,by decide +kernel,by decide +kernel⟩
theorem sc_Rooms_make:FnScope ["self","room","step","number"] ["self","room","step"] (defScope s_Rooms_make):=⟨rfl,rfl,rfl,by decide +kernel,rfl,by decide +kernel,by decide +kernel⟩
theorem sc_Rooms_lay:FnScope ["self","room","step","other","row","pending"] ["self","room","step","other","row"] (defScope s_Rooms_lay):=⟨rfl,rfl,rfl,by decide +kernel,rfl,by decide +kernel,by decide +kernel⟩
theorem sc_Rooms_by:FnScope ["self","room","step"] ["self","room","step"] (defScope s_Rooms_by):=⟨rfl,rfl,rfl,by decide +kernel,rfl,by decide +kernel,by decide +kernel⟩
theorem sc_Rooms_elder:FnScope ["self","room"] ["self","room"] (defScope s_Rooms_elder):=⟨rfl,rfl,rfl,by decide +kernel,rfl,by decide +kernel,by decide +kernel⟩
theorem sc_Rooms_standing:FnScope ["self"] ["self"] (defScope s_Rooms_standing):=⟨rfl,rfl,rfl,by decide +kernel,rfl,by decide +kernel,by decide +kernel⟩
theorem sc_Rooms_keep:FnScope ["self","room","step","other"] ["self","room","step","other"] (defScope s_Rooms_keep):=⟨rfl,rfl,rfl,by decide +kernel,rfl,by decide +kernel,by decide +kernel⟩
theorem sc_Rooms_take_in:FnScope ["self","way","pending","room","step","other","led_to","come_from"] ["self","way","pending"] (defScope s_Rooms_take_in):=⟨rfl,rfl,rfl,by decide +kernel,rfl,by decide +kernel,by decide +kernel⟩
theorem sc_Rooms_put_together:FnScope ["self","room","step","one","other","pending","less","more","number"] ["self","room","step","one","other","pending"] (defScope s_Rooms_put_together):=⟨rfl,rfl,rfl,by decide +kernel,rfl,by decide +kernel,by decide +kernel⟩
theorem sc_Rooms_put_off:FnScope ["self","room","pending","ways","step","other"] ["self","room","pending"] (defScope s_Rooms_put_off):=⟨rfl,rfl,rfl,by decide +kernel,rfl,by decide +kernel,by decide +kernel⟩
section
variable {P:Program} {w:World} {K:PySem.W.Frag} {mg:Str->Option Value} {base:Heap} {A:Adr}
def spLaw (K:PySem.W.Frag):Sp:=λvs H Q _=>∃(a:Addr) (ns:List Int),vs=[.ref a]/\SqL K H a (ns.map V.int)/\ns.length<=63/\∀H',Q (.bl true) H'
def stL (n:Nat):List Int:=(List.range n).map M12.st
theorem stL_len (n:Nat):(stL n).length=n:=by unfold stL;rw[List.length_map,List.length_range]
theorem stL_at {n i:Nat}(h:i<n):(stL n)[i]?=some (M12.st i):=by
 unfold stL;rw[List.getElem?_map,List.getElem?_range h];rfl
theorem stL_two (i:Nat):stL (2* i)++[1+ (i:Int)]++[-(1+ (i:Int))]=stL (2* (i+ 1)):=by
 have e:2* (i+ 1)=2* i+ 1+ 1:=by omega
 rw[e];unfold stL;rw[List.range_succ,List.range_succ,List.map_append,List.map_append];have e1:M12.st (2* i)=1+ (i:Int):=by unfold M12.st;rw[if_pos (by omega)];omega
 have e2:M12.st (2* i+ 1)= -(1+ (i:Int)):=by unfold M12.st;rw[if_neg (by omega)];omega
 show _=(List.range (2* i)).map M12.st++[M12.st (2* i)]++[M12.st (2* i+ 1)];rw[e1,e2]
theorem stL_nd (n:Nat):(stL n).Nodup:=by
 unfold stL;refine List.pairwise_map.mpr (List.Pairwise.imp ?_ List.nodup_range);intro a b hab z;have h1:=M12.pl_st a;rw[z,M12.pl_st]at h1;exact hab h1.symm
theorem ref_at {rs:List Addr}{i:Nat}{r:Addr}(h:rs[i]?=some r):atI (rs.map V.ref) (i:Int)=some (V.ref r):=atI_nat (by rw[List.getElem?_map,h];rfl)
def spStepsO:Sp:=λvs H Q _=>∃L:Nat,vs=[.int L]/\1<=L/\L<=200/\∀l H',Same H H'->H' l=some (.lst (intV ((List.range (2* L)).map M12.st)))->Q (.ref l) H'
def spGaps:Sp:=λvs H Q _=>∃L:Nat,vs=[.int L]/\1<=L/\L<=200/\∀d H',Same H H'->H d=none->H' d=some (.dK (gK (stL (2* L))))->Q (.ref d) H'
def spNew (C:Addr):Sp:=λvs H Q _=>∃(x dx:Addr) (L:Nat),vs=[.ref x,.int L]/\H x=some (.ins C dx [])/\1<=L/\L<=200/\∀a H',(∀b o,H b=some o->b≠x->H' b=some o)->RoomsAt C H' x (RS.new L (stL (2* L))) a->(∀b,a.own x b->b=x\/H b=none)->Q .non H'
def ButO (a:RA)(r:Addr)(H H':Hp):Prop:=∀b o,¬a.own r b->H b=some o->H' b=some o
def spKeep (C:Addr):Sp:=λvs H Q _=>∃(r:Addr) (S:RS) (a:RA) (c d:Nat) (z:Int),vs=[.ref r,.int c,.int z,.int d]/\RoomsAt C H r S a/\S.Wf/\c<S.made/\d<S.made/\(∀l∈S.ways,l.length<=100000)/\∀H',ButO a r H H'->RoomsAt C H' r (S.keep c z d) a->Q .non H'
def spMake (C:Addr):Sp:=λvs H Q _=>∃(r:Addr) (S:RS) (a:RA) (c:Nat) (z:Int),vs=[.ref r,.int c,.int z]/\RoomsAt C H r S a/\S.Wf/\1<=S.L/\S.L<=200/\c<S.made/\S.made<=100000/\S.rows.length<=1000000/\(∀l∈S.ways,l.length<=100000)/\∀a' H',ButO a r H H'->RoomsAt C H' r (S.make c z (stL (2* S.L))) a'->(∀b,a'.own r b->a.own r b\/H b=none)->Q (.int S.made) H'
def spRBy (C:Addr):Sp:=λvs H Q _=>∃(r:Addr) (S:RS) (a:RA) (c:Nat) (z:Int),vs=[.ref r,.int c,.int z]/\RoomsAt C H r S a/\c<S.ways.length/\Q (((S.by c z).map λn:Nat=>V.int (n:Int)).getD .non) H
def spElder (C:Addr):Sp:=λvs H Q _=>∃(r:Addr) (S:RS) (a:RA) (c e:Nat),vs=[.ref r,.int c]/\RoomsAt C H r S a/\S.elders[c]?=some e/\Q (.int e) H
def spStanding (C:Addr):Sp:=λvs H Q _=>∃(r:Addr) (S:RS) (a:RA),vs=[.ref r]/\RoomsAt C H r S a/\S.Wf/\S.made<=100000/\∀l,H l=none->Q (.ref l) (upd H l (.lst (intV (nI ((List.range S.made).filter λc=>decide (S.elders[c]?=some c))))))
def spOwn (k:Nat):Sp:=λvs H Q _=>∃(v:V) (d:Dt),vs=[v]/\DtAt H k v d/\NoL d/\∀v' H',Same H H'->DtAt H' k v' d->Q v' H'
theorem ok_own_vF (T:Txt K mg A):FnOk P w K mg base CX0 1 A.f_own A.d_own ["value"] (λ_ _ _ _=>False):=⟨λ_ _ _ _ h=>h.elim,λ_ _ _ _ _ _ _ _ _ _ _ _ _ h=>h.elim⟩
theorem ok_own_v0 (T:Txt K mg A):FnOk P w K mg base CX0 2 A.f_own A.d_own ["value"] (spOwn 0):=by
 have G_own:FnOk P w K mg base CX0 1 A.f_own A.d_own ["value"] (λ_ _ _ _=>False):=ok_own_vF T;refine T.own.F.ok sc_own (λvs H Q E h=>?_) (λcdv AA outer s H vs Q E hr h=>?_)
 ·obtain⟨v,d,rfl,_⟩:=h;rfl
 ·obtain⟨v,d,rfl,hv,hd,k⟩:=h
  refine⟨_,(pss_cons (ps_if (pt_val (pe_callB call_isi rfl T.z_isinstance PyProof.Rows.boot_isinstance (pa_cons (pv 0) (pa_cons (pe_bltn (v:=.ty "tuple") rfl T.z_tuple PyProof.Rows.boot_tuple rfl) pa_nil))))
   (pss_one (ps_ret (pe_callTy call_tuple_of rfl T.z_tuple PyProof.Rows.boot_tuple (pa_cons (pe_comp (fns:=[]) (ixs:=[]) (cl:=[]) rfl (pi_tup (pv 0)) (compScope0 (by decide +kernel) (by decide +kernel) rfl (by decide +kernel) rfl) (λC s H ex=>(pe_call (G_own) (hr.mono (by decide)) rfl T.own.m T.own.F.kp T.own.b .nil pass0 (pa_cons (pv 0) pa_nil)))) pa_nil))))
   pss_nil)
   (pss_cons (ps_if (pt_val (pe_callB call_isi rfl T.z_isinstance PyProof.Rows.boot_isinstance (pa_cons (pv 0) (pa_cons (pe_bltn (v:=.ty "list") rfl T.z_list PyProof.Rows.boot_list rfl) pa_nil))))
    (pss_one (ps_ret (pe_comp (fns:=[]) (ixs:=[]) (cl:=[]) rfl (pi_tup (pv 0)) (compScope0 (by decide +kernel) (by decide +kernel) rfl (by decide +kernel) rfl) (λC s H ex=>(pe_call (G_own) (hr.mono (by decide)) rfl T.own.m T.own.F.kp T.own.b .nil pass0 (pa_cons (pv 0) pa_nil))))))
    pss_nil)
   (pss_cons (ps_if (pt_val (pe_callB call_isi rfl T.z_isinstance PyProof.Rows.boot_isinstance (pa_cons (pv 0) (pa_cons (pe_bltn (v:=.ty "dict") rfl T.z_dict PyProof.Rows.boot_dict rfl) pa_nil))))
    (pss_one (ps_ret (pe_callTy (call_dict_pairs rfl) rfl T.z_dict PyProof.Rows.boot_dict (pa_cons (pe_comp (fns:=["value"]) (ixs:=[0]) (cl:=_) rfl (pi_tup (pv 0)) (compScope1 rfl rfl (by decide +kernel) rfl (by decide +kernel) rfl (by decide +kernel) (by decide +kernel) rfl rfl rfl rfl) (λC s H ex=>(pe_tup (pa_cons (pv 0) (pa_cons (pe_call (G_own) (hr.mono (by decide)) rfl T.own.m T.own.F.kp T.own.b .nil pass0 (pa_cons (pe_ix (ix_tupK (K:=K) rfl) (pv 1) (pv 0) (λ_ _=>rfl)) pa_nil)) pa_nil))))) pa_nil))))
    pss_nil)
   (pss_one (ps_ret (pv 0)))))),?_⟩
  try dsimp only[cx_noxK,cx_K]
  refine seq_let3 ?_;intro u_3 u_2 u_1
  have atom:(∃n,v=.int n)\/(∃l,v=.str (tx l))\/∃(a:Addr) (vs:List V) (ds:List Dt),v=.ref a/\d=.t ds/\False:=by
   cases hv with
   |i=>exact .inl ⟨_,rfl⟩
   |s=>exact .inr (.inl ⟨_,rfl⟩)
   |n=>cases hd
   |b=>cases hd
  rcases atom with ⟨n,rfl⟩|⟨l,rfl⟩|⟨a,vs,ds,rfl,rfl,hx⟩
  ·refine⟨_,rfl,_,_,_,_,rfl,.int n,kit_int_tuple K,_,rfl,iteF ?_⟩;refine⟨_,rfl,_,_,_,_,rfl,.int n,kit_int_list K,_,rfl,iteF ?_⟩;refine⟨_,rfl,_,_,_,_,rfl,.int n,kit_int_dict K,_,rfl,iteF ?_⟩;exact⟨_,rfl,k _ H (λ_ _ e=>e) hv⟩
  ·refine⟨_,rfl,_,_,_,_,rfl,.str (tx l),kit_str_tuple K,_,rfl,iteF ?_⟩;refine⟨_,rfl,_,_,_,_,rfl,.str (tx l),kit_str_list K,_,rfl,iteF ?_⟩;refine⟨_,rfl,_,_,_,_,rfl,.str (tx l),kit_str_dict K,_,rfl,iteF ?_⟩;exact⟨_,rfl,k _ H (λ_ _ e=>e) hv⟩
  ·exact hx.elim
theorem ok_own_v1 (T:Txt K mg A):FnOk P w K mg base CX0 3 A.f_own A.d_own ["value"] (spOwn 1):=by
 have G_own:FnOk P w K mg base CX0 2 A.f_own A.d_own ["value"] (spOwn 0):=ok_own_v0 T;refine T.own.F.ok sc_own (λvs H Q E h=>?_) (λcdv AA outer s H vs Q E hr h=>?_)
 ·obtain⟨v,d,rfl,_⟩:=h;rfl
 ·obtain⟨v,d,rfl,hv,hd,k⟩:=h
  refine⟨_,(pss_cons (ps_if (pt_val (pe_callB call_isi rfl T.z_isinstance PyProof.Rows.boot_isinstance (pa_cons (pv 0) (pa_cons (pe_bltn (v:=.ty "tuple") rfl T.z_tuple PyProof.Rows.boot_tuple rfl) pa_nil))))
   (pss_one (ps_ret (pe_callTy call_tuple_of rfl T.z_tuple PyProof.Rows.boot_tuple (pa_cons (pe_comp (fns:=[]) (ixs:=[]) (cl:=[]) rfl (pi_tup (pv 0)) (compScope0 (by decide +kernel) (by decide +kernel) rfl (by decide +kernel) rfl) (λC s H ex=>(pe_call (G_own) (hr.mono (by decide)) rfl T.own.m T.own.F.kp T.own.b .nil pass0 (pa_cons (pv 0) pa_nil)))) pa_nil))))
   pss_nil)
   (pss_cons (ps_if (pt_val (pe_callB call_isi rfl T.z_isinstance PyProof.Rows.boot_isinstance (pa_cons (pv 0) (pa_cons (pe_bltn (v:=.ty "list") rfl T.z_list PyProof.Rows.boot_list rfl) pa_nil))))
    (pss_one (ps_ret (pe_comp (fns:=[]) (ixs:=[]) (cl:=[]) rfl (pi_tup (pv 0)) (compScope0 (by decide +kernel) (by decide +kernel) rfl (by decide +kernel) rfl) (λC s H ex=>(pe_call (G_own) (hr.mono (by decide)) rfl T.own.m T.own.F.kp T.own.b .nil pass0 (pa_cons (pv 0) pa_nil))))))
    pss_nil)
   (pss_cons (ps_if (pt_val (pe_callB call_isi rfl T.z_isinstance PyProof.Rows.boot_isinstance (pa_cons (pv 0) (pa_cons (pe_bltn (v:=.ty "dict") rfl T.z_dict PyProof.Rows.boot_dict rfl) pa_nil))))
    (pss_one (ps_ret (pe_callTy (call_dict_pairs rfl) rfl T.z_dict PyProof.Rows.boot_dict (pa_cons (pe_comp (fns:=["value"]) (ixs:=[0]) (cl:=_) rfl (pi_tup (pv 0)) (compScope1 rfl rfl (by decide +kernel) rfl (by decide +kernel) rfl (by decide +kernel) (by decide +kernel) rfl rfl rfl rfl) (λC s H ex=>(pe_tup (pa_cons (pv 0) (pa_cons (pe_call (G_own) (hr.mono (by decide)) rfl T.own.m T.own.F.kp T.own.b .nil pass0 (pa_cons (pe_ix (ix_tupK (K:=K) rfl) (pv 1) (pv 0) (λ_ _=>rfl)) pa_nil)) pa_nil))))) pa_nil))))
    pss_nil)
   (pss_one (ps_ret (pv 0)))))),?_⟩
  try dsimp only[cx_noxK,cx_K]
  refine seq_let3 ?_;intro u_3 u_2 u_1
  have atom:(∃n,v=.int n)\/(∃l,v=.str (tx l))\/∃(a:Addr) (vs:List V) (ds:List Dt),v=.ref a/\d=.t ds/\(H a=some (.tup vs)/\vs.length=ds.length/\∀(j:Nat) (v:V) (x:Dt),vs[j]?=some v->ds[j]?=some x->DtAt H 0 v x):=by
   cases hv with
   |i=>exact .inl ⟨_,rfl⟩
   |s=>exact .inr (.inl ⟨_,rfl⟩)
   |n=>cases hd
   |b=>cases hd
   |t h1 h2 h3=>exact .inr (.inr ⟨_,_,_,rfl,rfl,h1,h2,h3⟩)
   |l=>cases hd
  rcases atom with ⟨n,rfl⟩|⟨l,rfl⟩|⟨a,vs,ds,rfl,rfl,hx⟩
  ·refine⟨_,rfl,_,_,_,_,rfl,.int n,kit_int_tuple K,_,rfl,iteF ?_⟩;refine⟨_,rfl,_,_,_,_,rfl,.int n,kit_int_list K,_,rfl,iteF ?_⟩;refine⟨_,rfl,_,_,_,_,rfl,.int n,kit_int_dict K,_,rfl,iteF ?_⟩;exact⟨_,rfl,k _ H (λ_ _ e=>e) hv⟩
  ·refine⟨_,rfl,_,_,_,_,rfl,.str (tx l),kit_str_tuple K,_,rfl,iteF ?_⟩;refine⟨_,rfl,_,_,_,_,rfl,.str (tx l),kit_str_list K,_,rfl,iteF ?_⟩;refine⟨_,rfl,_,_,_,_,rfl,.str (tx l),kit_str_dict K,_,rfl,iteF ?_⟩;exact⟨_,rfl,k _ H (λ_ _ e=>e) hv⟩
  ·obtain⟨h1,h2,h3⟩:=hx;obtain⟨hz,hds⟩:ds.length<=100000/\∀x∈ds,NoL x:=by cases hd with|t a b=>exact⟨a,b⟩
   refine⟨_,rfl,_,_,_,_,rfl,.tup h1,kit_self K "tuple",_,rfl,iteT ?_⟩;refine⟨_,rfl,a,rfl,⟨_,SqT.of h1⟩,?_⟩;refine comp_make (α:=Unit) vs.length (λi=>vs.getD i .non) (λH2 v i=>∃x,ds[i]?=some x/\NoL x/\DtAt H2 0 v x) (λH1 H2 v i s ⟨x,e,hn,q⟩=>⟨x,e,hn,q.same s⟩) ?_ (λi H2 s2 hi=>itt_go (SqT.of (s2 _ _ h1)) i hi) (λi x H2 H3 s2 hi y=>?_) (λH2 s2=>itt_stop (SqT.of (s2 _ _ h1))) (λi H2 Rr hi s2 kk=>?_) (λD H2 ys s2 hD hl hr=>?_)
   ·exact Nat.le_trans (by omega) (show 100000<=sizeLine by decide)
   ·obtain⟨e,hx⟩:=itt_yld (SqT.of (s2 _ _ h1)) i x H3 hi y;refine⟨e,?_⟩;rw[List.getD_eq_getElem?_getD,hx];rfl
   ·have hx:vs[i]?=some (vs.getD i .non):=by rw[List.getD_eq_getElem?_getD,List.getElem?_eq_getElem hi];rfl
    have hy:ds[i]?=some (ds[i]'(by omega)):=List.getElem?_eq_getElem (by omega)
    refine⟨_,rfl,_,_,rfl,(h3 i _ _ hx hy).same s2,hds _ (List.mem_of_getElem? hy),λv' H' s' q'=>kk v' H' s' ⟨_,hy,hds _ (List.mem_of_getElem? hy),q'⟩⟩
   ·refine⟨D,ys,rfl,.inl ⟨SqL.of upd_same,λl hl2=>?_⟩⟩;have sD:Same H2 (upd H2 D (.lst ys)):=Same.upd hD;have sl:Same (upd H2 D (.lst ys)) (upd (upd H2 D (.lst ys)) l (.tup ys)):=Same.upd hl2;refine k _ _ (s2.trans (sD.trans sl)) (.t upd_same (by omega) λj v x e1 e2=>?_);obtain⟨y,e3,-,q⟩:=hr j v e1;obtain rfl:y=x:=Option.some.inj (e3.symm.trans e2);exact q.same (sD.trans sl)
theorem ok_own_v2 (T:Txt K mg A):FnOk P w K mg base CX0 4 A.f_own A.d_own ["value"] (spOwn 2):=by
 have G_own:FnOk P w K mg base CX0 3 A.f_own A.d_own ["value"] (spOwn 1):=ok_own_v1 T;refine T.own.F.ok sc_own (λvs H Q E h=>?_) (λcdv AA outer s H vs Q E hr h=>?_)
 ·obtain⟨v,d,rfl,_⟩:=h;rfl
 ·obtain⟨v,d,rfl,hv,hd,k⟩:=h
  refine⟨_,(pss_cons (ps_if (pt_val (pe_callB call_isi rfl T.z_isinstance PyProof.Rows.boot_isinstance (pa_cons (pv 0) (pa_cons (pe_bltn (v:=.ty "tuple") rfl T.z_tuple PyProof.Rows.boot_tuple rfl) pa_nil))))
   (pss_one (ps_ret (pe_callTy call_tuple_of rfl T.z_tuple PyProof.Rows.boot_tuple (pa_cons (pe_comp (fns:=[]) (ixs:=[]) (cl:=[]) rfl (pi_tup (pv 0)) (compScope0 (by decide +kernel) (by decide +kernel) rfl (by decide +kernel) rfl) (λC s H ex=>(pe_call (G_own) (hr.mono (by decide)) rfl T.own.m T.own.F.kp T.own.b .nil pass0 (pa_cons (pv 0) pa_nil)))) pa_nil))))
   pss_nil)
   (pss_cons (ps_if (pt_val (pe_callB call_isi rfl T.z_isinstance PyProof.Rows.boot_isinstance (pa_cons (pv 0) (pa_cons (pe_bltn (v:=.ty "list") rfl T.z_list PyProof.Rows.boot_list rfl) pa_nil))))
    (pss_one (ps_ret (pe_comp (fns:=[]) (ixs:=[]) (cl:=[]) rfl (pi_tup (pv 0)) (compScope0 (by decide +kernel) (by decide +kernel) rfl (by decide +kernel) rfl) (λC s H ex=>(pe_call (G_own) (hr.mono (by decide)) rfl T.own.m T.own.F.kp T.own.b .nil pass0 (pa_cons (pv 0) pa_nil))))))
    pss_nil)
   (pss_cons (ps_if (pt_val (pe_callB call_isi rfl T.z_isinstance PyProof.Rows.boot_isinstance (pa_cons (pv 0) (pa_cons (pe_bltn (v:=.ty "dict") rfl T.z_dict PyProof.Rows.boot_dict rfl) pa_nil))))
    (pss_one (ps_ret (pe_callTy (call_dict_pairs rfl) rfl T.z_dict PyProof.Rows.boot_dict (pa_cons (pe_comp (fns:=["value"]) (ixs:=[0]) (cl:=_) rfl (pi_tup (pv 0)) (compScope1 rfl rfl (by decide +kernel) rfl (by decide +kernel) rfl (by decide +kernel) (by decide +kernel) rfl rfl rfl rfl) (λC s H ex=>(pe_tup (pa_cons (pv 0) (pa_cons (pe_call (G_own) (hr.mono (by decide)) rfl T.own.m T.own.F.kp T.own.b .nil pass0 (pa_cons (pe_ix (ix_tupK (K:=K) rfl) (pv 1) (pv 0) (λ_ _=>rfl)) pa_nil)) pa_nil))))) pa_nil))))
    pss_nil)
   (pss_one (ps_ret (pv 0)))))),?_⟩
  try dsimp only[cx_noxK,cx_K]
  refine seq_let3 ?_;intro u_3 u_2 u_1
  have atom:(∃n,v=.int n)\/(∃l,v=.str (tx l))\/∃(a:Addr) (vs:List V) (ds:List Dt),v=.ref a/\d=.t ds/\(H a=some (.tup vs)/\vs.length=ds.length/\∀(j:Nat) (v:V) (x:Dt),vs[j]?=some v->ds[j]?=some x->DtAt H 1 v x):=by
   cases hv with
   |i=>exact .inl ⟨_,rfl⟩
   |s=>exact .inr (.inl ⟨_,rfl⟩)
   |n=>cases hd
   |b=>cases hd
   |t h1 h2 h3=>exact .inr (.inr ⟨_,_,_,rfl,rfl,h1,h2,h3⟩)
   |l=>cases hd
  rcases atom with ⟨n,rfl⟩|⟨l,rfl⟩|⟨a,vs,ds,rfl,rfl,hx⟩
  ·refine⟨_,rfl,_,_,_,_,rfl,.int n,kit_int_tuple K,_,rfl,iteF ?_⟩;refine⟨_,rfl,_,_,_,_,rfl,.int n,kit_int_list K,_,rfl,iteF ?_⟩;refine⟨_,rfl,_,_,_,_,rfl,.int n,kit_int_dict K,_,rfl,iteF ?_⟩;exact⟨_,rfl,k _ H (λ_ _ e=>e) hv⟩
  ·refine⟨_,rfl,_,_,_,_,rfl,.str (tx l),kit_str_tuple K,_,rfl,iteF ?_⟩;refine⟨_,rfl,_,_,_,_,rfl,.str (tx l),kit_str_list K,_,rfl,iteF ?_⟩;refine⟨_,rfl,_,_,_,_,rfl,.str (tx l),kit_str_dict K,_,rfl,iteF ?_⟩;exact⟨_,rfl,k _ H (λ_ _ e=>e) hv⟩
  ·obtain⟨h1,h2,h3⟩:=hx;obtain⟨hz,hds⟩:ds.length<=100000/\∀x∈ds,NoL x:=by cases hd with|t a b=>exact⟨a,b⟩
   refine⟨_,rfl,_,_,_,_,rfl,.tup h1,kit_self K "tuple",_,rfl,iteT ?_⟩;refine⟨_,rfl,a,rfl,⟨_,SqT.of h1⟩,?_⟩;refine comp_make (α:=Unit) vs.length (λi=>vs.getD i .non) (λH2 v i=>∃x,ds[i]?=some x/\NoL x/\DtAt H2 1 v x) (λH1 H2 v i s ⟨x,e,hn,q⟩=>⟨x,e,hn,q.same s⟩) ?_ (λi H2 s2 hi=>itt_go (SqT.of (s2 _ _ h1)) i hi) (λi x H2 H3 s2 hi y=>?_) (λH2 s2=>itt_stop (SqT.of (s2 _ _ h1))) (λi H2 Rr hi s2 kk=>?_) (λD H2 ys s2 hD hl hr=>?_)
   ·exact Nat.le_trans (by omega) (show 100000<=sizeLine by decide)
   ·obtain⟨e,hx⟩:=itt_yld (SqT.of (s2 _ _ h1)) i x H3 hi y;refine⟨e,?_⟩;rw[List.getD_eq_getElem?_getD,hx];rfl
   ·have hx:vs[i]?=some (vs.getD i .non):=by rw[List.getD_eq_getElem?_getD,List.getElem?_eq_getElem hi];rfl
    have hy:ds[i]?=some (ds[i]'(by omega)):=List.getElem?_eq_getElem (by omega)
    refine⟨_,rfl,_,_,rfl,(h3 i _ _ hx hy).same s2,hds _ (List.mem_of_getElem? hy),λv' H' s' q'=>kk v' H' s' ⟨_,hy,hds _ (List.mem_of_getElem? hy),q'⟩⟩
   ·refine⟨D,ys,rfl,.inl ⟨SqL.of upd_same,λl hl2=>?_⟩⟩;have sD:Same H2 (upd H2 D (.lst ys)):=Same.upd hD;have sl:Same (upd H2 D (.lst ys)) (upd (upd H2 D (.lst ys)) l (.tup ys)):=Same.upd hl2;refine k _ _ (s2.trans (sD.trans sl)) (.t upd_same (by omega) λj v x e1 e2=>?_);obtain⟨y,e3,-,q⟩:=hr j v e1;obtain rfl:y=x:=Option.some.inj (e3.symm.trans e2);exact q.same (sD.trans sl)
theorem ok_steps_of (T:Txt K mg A):FnOk P w K mg base CX0 1 A.f_steps_of A.d_steps_of ["letters"] spStepsO:=by
 refine T.steps_of.F.ok sc_steps_of (λvs H Q E h=>?_) (λcdv AA outer s H vs Q E hr h=>?_)
 ·obtain⟨L,rfl,_⟩:=h;rfl
 ·obtain⟨L,rfl,hL1,hL2,k⟩:=h
  refine⟨_,(pss_cons (ps_set (i:=1) sc_steps_of.nd rfl (Or.inl rfl) (pe_lst pa_nil))
   (pss_cons (ps_for PassesOwn.never rfl (pi_range2 rfl T.z_range (pa_cons pe_int (pa_cons (pe_op op_add (pv 0) pe_int) pa_nil))) (pg_name (i:=2) sc_steps_of.nd rfl (Or.inl rfl))
    (pss_cons (ps_expr (pe_bm PySem.F.plainAttrs_list PySem.F.slot_list_append PySem.F.type_list_append mt_append (pv 1) (pa_cons (pv 2) pa_nil)))
    (pss_one (ps_expr (pe_bm PySem.F.plainAttrs_list PySem.F.slot_list_append PySem.F.type_list_append mt_append (pv 1) (pa_cons (pe_un un_neg (pv 2)) pa_nil))))))
   (pss_one (ps_ret (pv 1))))),?_⟩
  try dsimp only[cx_noxK,cx_K]
  refine seq_let2 ?_;intro u_2 u_1;refine⟨Nat.zero_le _,λl hl=>?_⟩;have s0:Same H (upd H l (.lst [])):=Same.upd hl;have h0:upd H l (.lst []) l=some (.lst (intV (stL (2* 0)))):=upd_same;generalize upd H l (.lst [])=H0 at s0 h0 ⊢;refine⟨_,rfl,_,_,rfl,rfl,1,(L:Int)+ 1,rfl,⟨by omega,by omega,by omega,by omega⟩,?_⟩;refine for_range (lo:=1) (n:=((L:Int)+ 1 - 1).toNat) (λi σ H2=>∃v:Option V,σ=[some (.int L),some (.ref l),v]/\Same H H2/\H2 l=some (.lst (intV (stL (2* i))))) ⟨none,rfl,s0,h0⟩ ?_ ?_
  ·rintro i σ H2 hi ⟨v,rfl,s2,h2⟩;have hi':i<L:=by omega
   refine⟨_,rfl,.inl ⟨rfl,_,SqL.of h2⟩,_,rfl,l,_,_,rfl,rfl,h2,?_,?_⟩
   ·rw[ints_len,stL_len];exact Nat.lt_of_le_of_lt (show 2* i<=400 by omega) (by decide)
   refine⟨_,rfl,.inl ⟨rfl,_,SqL.of upd_same⟩,_,rfl,_,rfl,l,_,_,rfl,rfl,upd_same,?_,?_⟩
   ·rw[List.length_append,ints_len,stL_len];exact Nat.lt_of_le_of_lt (show 2* i+ 1<=400 by omega) (by decide)
   refine⟨_,rfl,λb o e=>?_,?_⟩
   ·rw[upd_ne (ne_of_none e hl),upd_ne (ne_of_none e hl)];exact s2 _ _ e
   ·rw[upd_same,←stL_two,ints_app,ints_app];rfl
  ·rintro σ H2 ⟨v,rfl,s2,h2⟩;rw[show ((L:Int)+ 1 - 1).toNat=L by omega]at h2;exact⟨_,rfl,k l H2 s2 h2⟩
theorem ok_all_gaps (T:Txt K mg A):FnOk P w K mg base CX0 2 A.f_all_gaps A.d_all_gaps ["letters"] spGaps:=by
 have G_steps_of:FnOk P w K mg base CX0 1 A.f_steps_of A.d_steps_of ["letters"] spStepsO:=ok_steps_of T;refine T.all_gaps.F.ok sc_all_gaps (λvs H Q E h=>?_) (λcdv AA outer s H vs Q E hr h=>?_)
 ·obtain⟨L,rfl,_⟩:=h;rfl
 ·obtain⟨L,rfl,hL1,hL2,k⟩:=h;refine⟨_,(pss_one (ps_ret (pe_callTy (call_dict_pairs rfl) rfl T.z_dict PyProof.Rows.boot_dict (pa_cons (pe_comp (fns:=[]) (ixs:=[]) (cl:=[]) rfl (pi_list (pe_call (G_steps_of) (hr.mono (by decide)) rfl T.steps_of.m T.steps_of.F.kp T.steps_of.b .nil pass0 (pa_cons (pv 0) pa_nil))) (compScope0 (by decide +kernel) (by decide +kernel) rfl (by decide +kernel) rfl) (λC s H ex=>(pe_tup (pa_cons (pv 0) (pa_cons pe_bl pa_nil))))) pa_nil)))),?_⟩
  try dsimp only[cx_noxK,cx_K]
  refine⟨_,rfl,L,rfl,hL1,hL2,λl H1 s1 h1=>⟨l,rfl,⟨_,SqL.of h1⟩,?_⟩⟩;have hn:(intV ((List.range (2* L)).map M12.st)).length=2* L:=by rw[ints_len,List.length_map,List.length_range]
  refine comp_make (α:=Unit) (2* L) (λi=>.int (M12.st i)) (λH2 v i=>∃p,v=.ref p/\H2 p=some (.tup [.int (M12.st i),.bl true])) (λH1 H2 v i s ⟨p,e,q⟩=>⟨p,e,s _ _ q⟩) ?_ (λi H2 s2 hi=>itl_go (SqL.of (s2 _ _ h1)) i (by omega)) (λi x H2 H3 s2 hi y=>?_) (λH2 s2=>?_) (λi H2 Rr hi s2 kk=>?_) (λD H2 ys s2 hD hl hr=>?_)
  ·exact Nat.le_trans (show 2* L<=400 by omega) (by decide)
  ·obtain⟨e,hx⟩:=itl_yld (SqL.of (s2 _ _ h1)) i x H3 (by omega) y;refine⟨e,?_⟩;rw[show (intV ((List.range (2* L)).map M12.st))[i]?=some (.int (M12.st i)) from ints_at (stL_at hi)]at hx;exact(Option.some.inj hx).symm
  ·have:=itl_stop (SqL.of (K:=K) (s2 _ _ h1));rw[hn]at this;exact this
  ·refine⟨_,rfl,(by show 2<=sizeLine;decide),λt ht=>kk _ _ (Same.upd ht) ⟨t,rfl,upd_same⟩⟩
  ·obtain⟨ps,rfl,hps⟩:=refs_of (P:=λi p=>H2 p=some (.tup [.int (M12.st i),.bl true])) ys 0 (λi v hv=>by rw[Nat.zero_add];exact hr i v hv);have sD:Same H2 (upd H2 D (.lst (ps.map V.ref))):=Same.upd hD;rw[List.length_map]at hl;refine⟨D,ps,gK (stL (2* L)),rfl,upd_same,by rw[gK_len,stL_len,hl],λi p kv e1 e2=>?_,λd hd=>?_⟩
   ·have hi:i<2* L:=by rw[←hl];exact(List.getElem?_eq_some_iff.mp e1).1
    have:=hps i p e1;rw[Nat.zero_add]at this;unfold gK at e2;rw[List.getElem?_map,stL_at hi]at e2;rw[←Option.some.inj e2];exact sD _ _ this
   ·have e:mergeK [] (gK (stL (2* L)))=gK (stL (2* L)):=by
     rw[merge_new _ _ ?_,List.nil_append];rw[List.nil_append];unfold gK;rw[List.map_map];exact List.pairwise_map.mpr (List.Pairwise.imp (λ{a b} hab z=>hab (Sum.inl.inj z)) (stL_nd _))
    rw[e];have sd:Same (upd H2 D (.lst (ps.map V.ref))) (upd (upd H2 D (.lst (ps.map V.ref))) d (.dK (gK (stL (2* L))))):=Same.upd hd;have sa:=s1.trans (s2.trans sD);exact k d _ (sa.trans sd) (sa.free hd) upd_same
theorem ok_Rooms_by (T:Txt K mg A):FnOk P w K mg base CX0 1 A.f_Rooms_by A.d_Rooms_by ["self","room","step"] (spRBy A.c_Rooms):=by
 refine T.Rooms_by.F.ok sc_Rooms_by (λvs H Q E h=>?_) (λcdv AA outer s H vs Q E hr h=>?_)
 ·obtain⟨r,S,a,c,z,rfl,_⟩:=h;rfl
 ·obtain⟨r,S,a,c,z,rfl,h,hc,k⟩:=h;have hu2:=hu_of hr;refine⟨_,(pss_one (ps_ret (pe_dget1 hu2 (pe_ix ix_list (pe_fld (pv 0) rfl) (pv 1) (λ_ _=>rfl)) (pv 2) ⟨rfl,rfl,rfl,rfl⟩))),?_⟩
  try dsimp only[cx_noxK,cx_K]
  have hl:S.ways[c]?=some (S.way c):=by unfold RS.way;rw[List.getD_eq_getElem?_getD,List.getElem?_eq_getElem hc];rfl
  obtain⟨p,hp,hd⟩:=h.rW.at hl;refine⟨_,rfl,r,_,a.dx,_,_,rfl,h.ins,cl_Rooms T,T.n_ways,lk_ways _ _ _,_,rfl,a.aW,_,_,_,rfl,rfl,SqL.of h.hW,ref_at hp,p,rfl,.inl ⟨_,.inl hd⟩,_,rfl,_,DGet.k (k:=Sum.inl z) hd,?_⟩;rw[wK_val];exact k
theorem ok_Rooms_elder (T:Txt K mg A):FnOk P w K mg base CX0 1 A.f_Rooms_elder A.d_Rooms_elder ["self","room"] (spElder A.c_Rooms):=by
 refine T.Rooms_elder.F.ok sc_Rooms_elder (λvs H Q E h=>?_) (λcdv AA outer s H vs Q E hr h=>?_)
 ·obtain⟨r,S,a,c,e,rfl,_⟩:=h;rfl
 ·obtain⟨r,S,a,c,e,rfl,h,he,k⟩:=h;refine⟨_,(pss_one (ps_ret (pe_ix ix_list (pe_fld (pv 0) rfl) (pv 1) (λ_ _=>rfl)))),?_⟩
  try dsimp only[cx_noxK,cx_K]
  exact⟨_,rfl,r,_,a.dx,_,_,rfl,h.ins,cl_Rooms T,T.n_elders,lk_elders _ _ _,_,rfl,a.aE,_,_,_,rfl,rfl,SqL.of h.hE,atI_nat (ints_at (nI_get he)),k⟩
theorem way_at {S:RS}{c:Nat}(h:c<S.ways.length):S.ways[c]?=some (S.way c):=by unfold RS.way;rw[List.getD_eq_getElem?_getD,List.getElem?_eq_getElem h];rfl
theorem gap_at {S:RS}{c:Nat}(h:c<S.gaps.length):S.gaps[c]?=some (S.gap c):=by unfold RS.gap;rw[List.getD_eq_getElem?_getD,List.getElem?_eq_getElem h];rfl
theorem way_le {S:RS}{c n:Nat}(h:∀l∈S.ways,l.length<=n):(S.way c).length<=n:=by
 unfold RS.way;rw[List.getD_eq_getElem?_getD]
 cases e:S.ways[c]? with
 |none=>exact Nat.zero_le _
 |some l=>exact h l (List.mem_of_getElem? e)
theorem own_w {a:RA}{r p:Addr}{i:Nat}(h:a.ws[i]?=some p):a.own r p:=.inr (.inr (mem_ws (List.mem_of_getElem? h)))
theorem own_g {a:RA}{r p:Addr}{i:Nat}(h:a.gs[i]?=some p):a.own r p:=.inr (.inr (mem_gs (List.mem_of_getElem? h)))
theorem ButO.upd {a:RA}{r p:Addr}{H:Hp}{o:HO}(h:a.own r p):ButO a r H (upd H p o):=λb u hb e=>by rw[upd_ne (λz=>hb (by rw[z];exact h))];exact e
theorem ButO.trans {a:RA}{r:Addr}{H H1 H2:Hp}(h:ButO a r H H1)(h':ButO a r H1 H2):ButO a r H H2:=λb u hb e=>h' b u hb (h b u hb e)
theorem ok_Rooms_keep (T:Txt K mg A):FnOk P w K mg base CX0 1 A.f_Rooms_keep A.d_Rooms_keep ["self","room","step","other"] (spKeep A.c_Rooms):=by
 refine T.Rooms_keep.F.ok sc_Rooms_keep (λvs H Q E h=>?_) (λcdv AA outer s H vs Q E hr h=>?_)
 ·obtain⟨r,S,a,c,d,z,rfl,_⟩:=h;rfl
 ·obtain⟨r,S,a,c,d,z,rfl,h,hw,hc,hd,hz,k⟩:=h;have hu2:=hu_of hr
  refine⟨_,(pss_cons (ps_dput hu2 (pe_ix ix_list (pe_fld (pv 0) rfl) (pv 1) (λ_ _=>rfl)) (pv 2) (pv 3) rfl)
   (pss_cons (ps_dput hu2 (pe_ix ix_list (pe_fld (pv 0) rfl) (pv 3) (λ_ _=>rfl)) (pe_un un_neg (pv 2)) (pv 1) rfl)
   (pss_cons (ps_expr (pe_dpop2 (pe_ix ix_list (pe_fld (pv 0) rfl) (pv 1) (λ_ _=>rfl)) (pv 2) pe_non ⟨rfl,rfl,rfl,rfl⟩))
   (pss_one (ps_expr (pe_dpop2 (pe_ix ix_list (pe_fld (pv 0) rfl) (pv 3) (λ_ _=>rfl)) (pe_un un_neg (pv 2)) pe_non ⟨rfl,rfl,rfl,rfl⟩)))))),?_⟩
  try dsimp only[cx_noxK,cx_K]
  refine seq_let3 ?_;intro u_3 u_2 u_1;obtain⟨p,hp,hP⟩:=h.rW.at (way_at (S:=S) (c:=c) (by rw[hw.w];exact hc));have b1:(S.way c).length<=100000:=way_le hz;refine⟨_,rfl,_,rfl,r,_,a.dx,_,_,rfl,h.ins,cl_Rooms T,T.n_ways,lk_ways _ _ _,_,rfl,a.aW,_,_,_,rfl,rfl,SqL.of h.hW,ref_at hp,_,rfl,p,_,rfl,DPut.k (k:=Sum.inl z) hP (by rw[wK_len];exact Nat.lt_of_le_of_lt b1 (by decide)),?_⟩;rw[wK_put];have h1:RoomsAt A.c_Rooms _ r (S.putWay c z d) a:=h.setWay hp (putW (S.way c) z d);have u1:ButO a r H (upd H p (.dK (wK (putW (S.way c) z d)))):=ButO.upd (own_w hp);generalize upd H p (.dK (wK (putW (S.way c) z d)))=H1 at h1 u1 ⊢;have w1:(S.putWay c z d).ways.length=S.made:=by show (S.ways.set c _).length=_;rw[List.length_set,hw.w]
  obtain⟨q,hq,hQ⟩:=h1.rW.at (way_at (S:=S.putWay c z d) (c:=d) (by rw[w1];exact hd))
  have b2:((S.putWay c z d).way d).length<=100001:=way_le λl hl=>by
   rcases List.mem_or_eq_of_mem_set hl with hl|rfl
   ·exact Nat.le_succ_of_le (hz l hl)
   ·exact Nat.le_trans (putW_len _ _ _) (by omega)
  refine⟨_,rfl,_,rfl,r,_,a.dx,_,_,rfl,h1.ins,cl_Rooms T,T.n_ways,lk_ways _ _ _,_,rfl,a.aW,_,_,_,rfl,rfl,SqL.of h1.hW,ref_at hq,_,rfl,_,rfl,q,_,rfl,DPut.k (k:=Sum.inl (-z)) hQ (by rw[wK_len];exact Nat.lt_of_le_of_lt b2 (by decide)),?_⟩;rw[wK_put];have h2:RoomsAt A.c_Rooms _ r ((S.putWay c z d).putWay d (-z) c) a:=h1.setWay hq (putW ((S.putWay c z d).way d) (-z) c);have u2:ButO a r H1 (upd H1 q (.dK (wK (putW ((S.putWay c z d).way d) (-z) c)))):=ButO.upd (own_w hq);generalize upd H1 q (.dK (wK (putW ((S.putWay c z d).way d) (-z) c)))=H2 at h2 u2 ⊢;generalize e2:(S.putWay c z d).putWay d (-z) c=S2 at h2 ⊢;have g2:S2.gaps.length=S.made:=by rw[←e2];exact hw.g
  obtain⟨p3,hp3,hP3⟩:=h2.rG.at (gap_at (S:=S2) (c:=c) (by rw[g2];exact hc))
  have pop:∀{H:Hp} {S:RS} {c:Nat} {z:Int} {p:Addr},RoomsAt A.c_Rooms H r S a->a.gs[c]?=some p->H p=some (.dK (gK (S.gap c)))->∀{Q:V->Hp->Prop},(∀v H',ButO a r H H'->RoomsAt A.c_Rooms H' r (S.noGap c z) a->Q v H')->
   ∃(kvs:List (Key×V)) (k:Key),H p=some (.dK kvs)/\V.int z=kV k/\(∀v,valV kvs k=some v->Q v (upd H p (.dK (dropK kvs k))))/\(valV kvs k=none->Q .non H):=by
   intro H S c z p h hp hP Q hQ;refine⟨_,Sum.inl z,hP,rfl,?_⟩;rw[gK_val,gK_drop];by_cases hm:z∈S.gap c
   ·rw[if_pos hm];exact⟨λv _=>hQ _ _ (ButO.upd (own_g hp)) (h.setGap hp _),λz=>by cases z⟩
   ·rw[if_neg hm];refine⟨λv z=>(by cases z),λ_=>hQ _ _ (λ_ _ _ e=>e) ?_⟩;have e:(S.gap c).filter (λx=>decide (x≠z))=S.gap c:=List.filter_eq_self.mpr λx hx=>decide_eq_true λz=>hm (z ▸ hx)
    have hl:c<S.gaps.length:=by rw[←h.rG.1];exact(List.getElem?_eq_some_iff.mp hp).1
    have:S.noGap c z=S:=by
     unfold RS.noGap RS.setG;rw[e]
     have es:S.gaps.set c (S.gap c)=S.gaps:=List.ext_getElem? λi=>by
      by_cases hi:c=i
      ·subst hi;rw[List.getElem?_set_self hl,gap_at hl]
      ·rw[List.getElem?_set_ne hi]
     rw[es]
    rw[this];exact h
  refine⟨_,rfl,r,_,a.dx,_,_,rfl,h2.ins,cl_Rooms T,T.n_gaps,lk_gaps _ _ _,_,rfl,a.aG,_,_,_,rfl,rfl,SqL.of h2.hG,ref_at hp3,p3,rfl,.inl ⟨_,.inl hP3⟩,_,rfl,pop h2 hp3 hP3 λv H3 u3 h3=>?_⟩;generalize e3:S2.noGap c z=S3 at h3;have g3:S3.gaps.length=S.made:=by rw[←e3];show (S2.gaps.set c _).length=_;rw[List.length_set,g2]
  obtain⟨p4,hp4,hP4⟩:=h3.rG.at (gap_at (S:=S3) (c:=d) (by rw[g3];exact hd));refine⟨_,rfl,r,_,a.dx,_,_,rfl,h3.ins,cl_Rooms T,T.n_gaps,lk_gaps _ _ _,_,rfl,a.aG,_,_,_,rfl,rfl,SqL.of h3.hG,ref_at hp4,p4,rfl,.inl ⟨_,.inl hP4⟩,_,rfl,_,rfl,pop h3 hp4 hP4 λv H4 u4 h4=>?_⟩;refine k H4 (u1.trans (u2.trans (u3.trans u4))) ?_;rw[←e3,←e2]at h4;exact h4
theorem ok_Rooms___init__ (T:Txt K mg A):FnOk P w K mg base CX0 3 A.f_Rooms___init__ A.d_Rooms___init__ ["self","letters"] (spNew A.c_Rooms):=by
 have G_all_gaps:FnOk P w K mg base CX0 2 A.f_all_gaps A.d_all_gaps ["letters"] spGaps:=ok_all_gaps T;refine T.Rooms___init__.F.ok sc_Rooms___init__ (λvs H Q E h=>?_) (λcdv AA outer s H vs Q E hr h=>?_)
 ·obtain⟨x,dx,L,rfl,_⟩:=h;rfl
 ·obtain⟨x,dx,L,rfl,hx,hL1,hL2,k⟩:=h
  refine⟨_,(pss_cons (ps_fld (pv 0) (pv 1) rfl)
   (pss_cons (ps_fld (pv 0) pe_int rfl)
   (pss_cons (ps_fld (pv 0) (pe_lst pa_nil) rfl)
   (pss_cons (ps_fld (pv 0) (pe_lst (pa_cons pe_dnewK pa_nil)) rfl)
   (pss_cons (ps_fld (pv 0) (pe_lst (pa_cons (pe_call (G_all_gaps) (hr.mono (by decide)) rfl T.all_gaps.m T.all_gaps.F.kp T.all_gaps.b .nil pass0 (pa_cons (pv 1) pa_nil)) pa_nil)) rfl)
   (pss_cons (ps_fld (pv 0) (pe_lst (pa_cons pe_int pa_nil)) rfl)
   (pss_cons (ps_fld (pv 0) (pe_lst (pa_cons (pe_lst (pa_cons pe_int pa_nil)) pa_nil)) rfl)
   (pss_one (ps_fld (pv 0) (pe_lst pa_nil) rfl))))))))),?_⟩
  try dsimp only[cx_noxK,cx_K]
  refine seq_let7 ?_;intro u_7 u_6 u_5 u_4 u_3 u_2 u_1
  have st:∀{H0:Hp} {fs:List (Str×V)} {f:Str} {v:V},H0 x=some (.ins A.c_Rooms dx fs)->(∀b o,H b=some o->b≠x->H0 b=some o)->upd H0 x (.ins A.c_Rooms dx (putF f v fs)) x=some (.ins A.c_Rooms dx (putF f v fs))/\(∀b o,H b=some o->b≠x->upd H0 x (.ins A.c_Rooms dx (putF f v fs)) b=some o)/\∀b o,b≠x->H0 b=some o->upd H0 x (.ins A.c_Rooms dx (putF f v fs)) b=some o:=
   λ_ h=>⟨upd_same,λb o e n=>by rw[upd_ne n];exact h b o e n,λb o n e=>by rw[upd_ne n];exact e⟩
  refine⟨_,rfl,_,rfl,x,_,dx,_,rfl,hx,cl_Rooms T,T.n_letters,(by show 0<1000;decide),?_⟩;obtain⟨x1,o1,-⟩:=st (f:="letters") (v:=.int L) hx (λb o e _=>e);generalize upd H x (.ins A.c_Rooms dx (putF "letters" (.int L) []))=H1 at x1 o1 ⊢;have f1:(putF "letters" (.int L) ([]:List (Str×V))).length<=1:=putF_le (n:=0) (Nat.le_refl _);refine⟨_,rfl,x,_,dx,_,rfl,x1,cl_Rooms T,T.n_made,Nat.lt_of_le_of_lt f1 (by decide),?_⟩;obtain⟨x2,o2,-⟩:=st (f:="made") (v:=.int 1) x1 o1;have f2:=putF_le (f:="made") (v:=.int 1) f1;generalize e2:putF "made" (.int 1) (putF "letters" (.int L) [])=fs2 at x2 o2 f2 ⊢;generalize upd H1 x (.ins A.c_Rooms dx fs2)=H2 at x2 o2 ⊢;refine⟨Nat.zero_le _,λaR nR=>⟨_,rfl,x,_,dx,_,rfl,Same.upd nR _ _ x2,cl_Rooms T,T.n_rows,Nat.lt_of_le_of_lt f2 (by decide),?_⟩⟩;have hR3:upd H2 aR (.lst []) aR=some (.lst []):=upd_same;have nxR:aR≠x:=(ne_of_none x2 nR).symm;have s3:=Same.upd (o:=.lst []) nR
  have n0:∀{b:Addr} {H0:Hp},(∀c o,H c=some o->c≠x->H0 c=some o)->H0 b=none->b≠x->H b=none:=λ{b H0} h n nx=>by
   cases e:H b with
   |none=>rfl
   |some o=>rw[h b o e nx]at n;cases n
  have kR:=n0 o2 nR nxR;generalize upd H2 aR (.lst [])=H3 at hR3 s3 ⊢;obtain⟨x4,o4,k4⟩:=st (f:="rows") (v:=.ref aR) (s3 _ _ x2) (λb o e n=>s3 _ _ (o2 b o e n));have f4:=putF_le (f:="rows") (v:=.ref aR) f2;generalize e4:putF "rows" (.ref aR) fs2=fs4 at x4 o4 f4 k4 ⊢;have hR4:=k4 _ _ nxR hR3;generalize upd H3 x (.ins A.c_Rooms dx fs4)=H4 at x4 o4 hR4 ⊢;intro wd nwd;have nxwd:wd≠x:=(ne_of_none x4 nwd).symm;have kwd:=n0 o4 nwd nxwd;have s5:=Same.upd (o:=.dK []) nwd;have hwd5:upd H4 wd (.dK []) wd=some (.dK []):=upd_same;generalize upd H4 wd (.dK [])=H5 at s5 hwd5 ⊢;refine⟨(by show 1<=sizeLine;decide),λaW nW=>⟨_,rfl,x,_,dx,_,rfl,Same.upd nW _ _ (s5 _ _ x4),cl_Rooms T,T.n_ways,Nat.lt_of_le_of_lt f4 (by decide),?_⟩⟩;have nxW:aW≠x:=(ne_of_none (s5 _ _ x4) nW).symm;have kW:=n0 (λb o e n=>s5 _ _ (o4 b o e n)) nW nxW;have nWR:aW≠aR:=(ne_of_none (s5 _ _ hR4) nW).symm;have s6:=Same.upd (o:=.lst [.ref wd]) nW;have hW6:upd H5 aW (.lst [.ref wd]) aW=some (.lst [.ref wd]):=upd_same;generalize upd H5 aW (.lst [.ref wd])=H6 at s6 hW6 ⊢;obtain⟨x7,o7,k7⟩:=st (f:="ways") (v:=.ref aW) (s6 _ _ (s5 _ _ x4)) (λb o e n=>s6 _ _ (s5 _ _ (o4 b o e n)));have f7:=putF_le (f:="ways") (v:=.ref aW) f4;generalize e7:putF "ways" (.ref aW) fs4=fs7 at x7 o7 f7 k7 ⊢;have hR7:=k7 _ _ nxR (s6 _ _ (s5 _ _ hR4));have hW7:=k7 _ _ nxW hW6;have hwd7:=k7 _ _ nxwd (s6 _ _ hwd5);generalize upd H6 x (.ins A.c_Rooms dx fs7)=H7 at x7 o7 hR7 hW7 hwd7 ⊢;refine⟨_,rfl,L,rfl,hL1,hL2,λgd H8 s8 ngd hgd8=>?_⟩;have nxgd:gd≠x:=(ne_of_none x7 ngd).symm;have kgd:=n0 o7 ngd nxgd;have ngw:gd≠wd:=(ne_of_none hwd7 ngd).symm;refine⟨(by show 1<=sizeLine;decide),λaG nG=>⟨_,rfl,x,_,dx,_,rfl,Same.upd nG _ _ (s8 _ _ x7),cl_Rooms T,T.n_gaps,Nat.lt_of_le_of_lt f7 (by decide),?_⟩⟩;have nxG:aG≠x:=(ne_of_none (s8 _ _ x7) nG).symm;have kG:=n0 (λb o e n=>s8 _ _ (o7 b o e n)) nG nxG;have nGR:aG≠aR:=(ne_of_none (s8 _ _ hR7) nG).symm;have nGW:aG≠aW:=(ne_of_none (s8 _ _ hW7) nG).symm;have s9:=Same.upd (o:=.lst [.ref gd]) nG;have hG9:upd H8 aG (.lst [.ref gd]) aG=some (.lst [.ref gd]):=upd_same;generalize upd H8 aG (.lst [.ref gd])=H9 at s9 hG9 ⊢;obtain⟨x10,o10,k10⟩:=st (f:="gaps") (v:=.ref aG) (s9 _ _ (s8 _ _ x7)) (λb o e n=>s9 _ _ (s8 _ _ (o7 b o e n)));have f10:=putF_le (f:="gaps") (v:=.ref aG) f7;generalize e10:putF "gaps" (.ref aG) fs7=fs10 at x10 o10 f10 k10 ⊢;have hR10:=k10 _ _ nxR (s9 _ _ (s8 _ _ hR7));have hW10:=k10 _ _ nxW (s9 _ _ (s8 _ _ hW7));have hwd10:=k10 _ _ nxwd (s9 _ _ (s8 _ _ hwd7));have hG10:=k10 _ _ nxG hG9;have hgd10:=k10 _ _ nxgd (s9 _ _ hgd8);generalize upd H9 x (.ins A.c_Rooms dx fs10)=H10 at x10 o10 hR10 hW10 hwd10 hG10 hgd10 ⊢;refine⟨by decide,λaE nE=>⟨_,rfl,x,_,dx,_,rfl,Same.upd nE _ _ x10,cl_Rooms T,T.n_elders,Nat.lt_of_le_of_lt f10 (by decide),?_⟩⟩;have nxE:aE≠x:=(ne_of_none x10 nE).symm;have kE:=n0 o10 nE nxE;have nER:aE≠aR:=(ne_of_none hR10 nE).symm;have nEW:aE≠aW:=(ne_of_none hW10 nE).symm;have nEG:aE≠aG:=(ne_of_none hG10 nE).symm;have s11:=Same.upd (o:=.lst [.int 0]) nE;have hE11:upd H10 aE (.lst [.int 0]) aE=some (.lst [.int 0]):=upd_same;generalize upd H10 aE (.lst [.int 0])=H11 at s11 hE11 ⊢;obtain⟨x12,o12,k12⟩:=st (f:="elders") (v:=.ref aE) (s11 _ _ x10) (λb o e n=>s11 _ _ (o10 b o e n));have f12:=putF_le (f:="elders") (v:=.ref aE) f10;generalize e12:putF "elders" (.ref aE) fs10=fs12 at x12 o12 f12 k12 ⊢;have hR12:=k12 _ _ nxR (s11 _ _ hR10);have hW12:=k12 _ _ nxW (s11 _ _ hW10);have hwd12:=k12 _ _ nxwd (s11 _ _ hwd10);have hG12:=k12 _ _ nxG (s11 _ _ hG10);have hgd12:=k12 _ _ nxgd (s11 _ _ hgd10);have hE12:=k12 _ _ nxE hE11;generalize upd H11 x (.ins A.c_Rooms dx fs12)=H12 at x12 o12 hR12 hW12 hwd12 hG12 hgd12 hE12 ⊢;refine⟨by decide,λcl ncl=>⟨(by show 1<=sizeLine;decide),λaC nC=>⟨_,rfl,x,_,dx,_,rfl,Same.upd nC _ _ (Same.upd ncl _ _ x12),cl_Rooms T,T.n_called,Nat.lt_of_le_of_lt f12 (by decide),?_⟩⟩⟩;have nxcl:cl≠x:=(ne_of_none x12 ncl).symm;have kcl:=n0 o12 ncl nxcl;have ncR:cl≠aR:=(ne_of_none hR12 ncl).symm;have ncW:cl≠aW:=(ne_of_none hW12 ncl).symm;have ncG:cl≠aG:=(ne_of_none hG12 ncl).symm;have ncE:cl≠aE:=(ne_of_none hE12 ncl).symm;have s13:=Same.upd (o:=.lst [.int 0]) ncl;have hcl13:upd H12 cl (.lst [.int 0]) cl=some (.lst [.int 0]):=upd_same;generalize upd H12 cl (.lst [.int 0])=H13 at s13 hcl13 nC ⊢;have nxC:aC≠x:=(ne_of_none (s13 _ _ x12) nC).symm;have kC:=n0 (λb o e n=>s13 _ _ (o12 b o e n)) nC nxC;have nCR:aC≠aR:=(ne_of_none (s13 _ _ hR12) nC).symm;have nCW:aC≠aW:=(ne_of_none (s13 _ _ hW12) nC).symm;have nCG:aC≠aG:=(ne_of_none (s13 _ _ hG12) nC).symm;have nCE:aC≠aE:=(ne_of_none (s13 _ _ hE12) nC).symm;have nCc:aC≠cl:=(ne_of_none hcl13 nC).symm;have s14:=Same.upd (o:=.lst [.ref cl]) nC;have hC14:upd H13 aC (.lst [.ref cl]) aC=some (.lst [.ref cl]):=upd_same;generalize upd H13 aC (.lst [.ref cl])=H14 at s14 hC14 ⊢;obtain⟨x15,o15,k15⟩:=st (f:="called") (v:=.ref aC) (s14 _ _ (s13 _ _ x12)) (λb o e n=>s14 _ _ (s13 _ _ (o12 b o e n)));have f15:=putF_le (f:="called") (v:=.ref aC) f12;generalize e15:putF "called" (.ref aC) fs12=fs15 at x15 o15 f15 k15 ⊢;have hR15:=k15 _ _ nxR (s14 _ _ (s13 _ _ hR12));have hW15:=k15 _ _ nxW (s14 _ _ (s13 _ _ hW12));have hwd15:=k15 _ _ nxwd (s14 _ _ (s13 _ _ hwd12));have hG15:=k15 _ _ nxG (s14 _ _ (s13 _ _ hG12));have hgd15:=k15 _ _ nxgd (s14 _ _ (s13 _ _ hgd12));have hE15:=k15 _ _ nxE (s14 _ _ (s13 _ _ hE12));have hcl15:=k15 _ _ nxcl (s14 _ _ hcl13);have hC15:=k15 _ _ nxC hC14;generalize upd H14 x (.ins A.c_Rooms dx fs15)=H15 at x15 o15 hR15 hW15 hwd15 hG15 hgd15 hE15 hcl15 hC15 ⊢;refine⟨Nat.zero_le _,λaN nN=>⟨_,rfl,x,_,dx,_,rfl,Same.upd nN _ _ x15,cl_Rooms T,T.n_went,Nat.lt_of_le_of_lt f15 (by decide),?_⟩⟩;have nxN:aN≠x:=(ne_of_none x15 nN).symm;have kN:=n0 o15 nN nxN;have nNR:aN≠aR:=(ne_of_none hR15 nN).symm;have nNW:aN≠aW:=(ne_of_none hW15 nN).symm;have nNG:aN≠aG:=(ne_of_none hG15 nN).symm;have nNE:aN≠aE:=(ne_of_none hE15 nN).symm;have nNC:aN≠aC:=(ne_of_none hC15 nN).symm;have nNc:aN≠cl:=(ne_of_none hcl15 nN).symm;have s16:=Same.upd (o:=.lst []) nN;have hN16:upd H15 aN (.lst []) aN=some (.lst []):=upd_same;generalize upd H15 aN (.lst [])=H16 at s16 hN16 ⊢;obtain⟨x17,o17,k17⟩:=st (f:="went") (v:=.ref aN) (s16 _ _ x15) (λb o e n=>s16 _ _ (o15 b o e n))
  have ef:putF "went" (.ref aN) fs15=flds (L:Int) 1 ⟨dx,aR,aW,aG,aE,aC,aN,[],[wd],[gd],[cl]⟩:=by
   rw[←e15,←e12,←e10,←e7,←e4,←e2]
   kernel_rfl
  rw[ef]at x17 o17 k17 ⊢;refine k ⟨dx,aR,aW,aG,aE,aC,aN,[],[wd],[gd],[cl]⟩ _ o17 ⟨x17,k17 _ _ nxR (s16 _ _ hR15),k17 _ _ nxW (s16 _ _ hW15),k17 _ _ nxG (s16 _ _ hG15),k17 _ _ nxE (s16 _ _ hE15),k17 _ _ nxC (s16 _ _ hC15),k17 _ _ nxN hN16,⟨rfl,(λi p d h=>by simp at h)⟩,?_,?_,?_,(λd hd=>by cases hd),?_,?_⟩ ?_
  ·exact Each.snoc (ps:=[]) (xs:=[]) ⟨rfl,λi p d h=>by simp at h⟩ (k17 _ _ nxwd (s16 _ _ hwd15))
  ·exact Each.snoc (ps:=[]) (xs:=[]) ⟨rfl,λi p d h=>by simp at h⟩ (k17 _ _ nxgd (s16 _ _ hgd15))
  ·exact Each.snoc (ps:=[]) (xs:=[]) ⟨rfl,λi p d h=>by simp at h⟩ (k17 _ _ nxcl (s16 _ _ hcl15))
  ·show [aR,aW,aG,aE,aC,aN,cl].Nodup;simp only[List.nodup_cons,List.mem_cons,List.not_mem_nil,or_false,not_or,List.nodup_nil,and_true,not_false_eq_true];exact⟨⟨nWR.symm,nGR.symm,nER.symm,nCR.symm,nNR.symm,ncR.symm⟩,⟨nGW.symm,nEW.symm,nCW.symm,nNW.symm,ncW.symm⟩,⟨nEG.symm,nCG.symm,nNG.symm,ncG.symm⟩,⟨nCE.symm,nNE.symm,ncE.symm⟩,⟨nNC.symm,nCc⟩,nNc⟩
  ·show [wd,gd].Nodup;simp only[List.nodup_cons,List.mem_cons,List.not_mem_nil,or_false,List.nodup_nil,and_true,not_false_eq_true];exact ngw.symm
  ·intro b hb;rcases hb with rfl|hb|hb
   ·exact .inl rfl
   ·simp only[RA.lists,List.mem_cons,List.not_mem_nil,or_false]at hb;rcases hb with rfl|rfl|rfl|rfl|rfl|rfl|rfl <;> exact .inr (by assumption)
   ·simp only[RA.dicts,List.mem_append,List.mem_cons,List.not_mem_nil,or_false]at hb;rcases hb with rfl|rfl <;> exact .inr (by assumption)
theorem _root_.L2.RoomsAt.mkL {C:Addr}{H:Hp}{r:Addr}{S:RS}{a:RA}(h:RoomsAt C H r S a){p:Addr}(hp:H p=none):¬a.own r p:=λz=>by
 obtain⟨o,e⟩:=h.there z;rw[hp]at e;cases e
theorem ok_Rooms_make (T:Txt K mg A):FnOk P w K mg base CX0 3 A.f_Rooms_make A.d_Rooms_make ["self","room","step"] (spMake A.c_Rooms):=by
 have G_Rooms_keep:FnOk P w K mg base CX0 1 A.f_Rooms_keep A.d_Rooms_keep ["self","room","step","other"] (spKeep A.c_Rooms):=ok_Rooms_keep T;have G_all_gaps:FnOk P w K mg base CX0 2 A.f_all_gaps A.d_all_gaps ["letters"] spGaps:=ok_all_gaps T;refine T.Rooms_make.F.ok sc_Rooms_make (λvs H Q E h=>?_) (λcdv AA outer s H vs Q E hr h=>?_)
 ·obtain⟨r,S,a,c,z,rfl,_⟩:=h;rfl
 ·obtain⟨r,S,a,c,z,rfl,h,hw,hL1,hL2,hc,hm,hrl,hz,k⟩:=h
  refine⟨_,(pss_cons (ps_set (i:=3) sc_Rooms_make.nd rfl (Or.inl rfl) (pe_fld (pv 0) rfl))
   (pss_cons (ps_fld (pv 0) (pe_op op_add (pv 3) pe_int) rfl)
   (pss_cons (ps_expr (pe_bm PySem.F.plainAttrs_list PySem.F.slot_list_append PySem.F.type_list_append mt_append (pe_fld (pv 0) rfl) (pa_cons (pe_tup (pa_cons (pe_strX (l:=[110,101,119]) rfl) (pa_cons (pv 1) (pa_cons (pv 2) (pa_cons (pv 3) pa_nil))))) pa_nil)))
   (pss_cons (ps_expr (pe_bm PySem.F.plainAttrs_list PySem.F.slot_list_append PySem.F.type_list_append mt_append (pe_fld (pv 0) rfl) (pa_cons pe_dnewK pa_nil)))
   (pss_cons (ps_expr (pe_bm PySem.F.plainAttrs_list PySem.F.slot_list_append PySem.F.type_list_append mt_append (pe_fld (pv 0) rfl) (pa_cons (pe_call (G_all_gaps) (hr.mono (by decide)) rfl T.all_gaps.m T.all_gaps.F.kp T.all_gaps.b .nil pass0 (pa_cons (pe_fld (pv 0) rfl) pa_nil)) pa_nil)))
   (pss_cons (ps_expr (pe_bm PySem.F.plainAttrs_list PySem.F.slot_list_append PySem.F.type_list_append mt_append (pe_fld (pv 0) rfl) (pa_cons (pv 3) pa_nil)))
   (pss_cons (ps_expr (pe_bm PySem.F.plainAttrs_list PySem.F.slot_list_append PySem.F.type_list_append mt_append (pe_fld (pv 0) rfl) (pa_cons (pe_lst (pa_cons (pv 3) pa_nil)) pa_nil)))
   (pss_cons (ps_expr (pe_meth (pv 0) (cl_Rooms T) T.Rooms_keep.m (G_Rooms_keep) (hr.mono (by decide)) T.Rooms_keep.b .nil pass0 (pa_cons (pv 1) (pa_cons (pv 2) (pa_cons (pv 3) pa_nil)))))
   (pss_one (ps_ret (pv 3))))))))))),?_⟩
  try dsimp only[cx_noxK,cx_K]
  refine seq_let8 ?_;intro u_8 u_7 u_6 u_5 u_4 u_3 u_2 u_1;refine⟨_,rfl,r,_,a.dx,_,_,rfl,h.ins,cl_Rooms T,T.n_made,lk_made _ _ _,?_⟩;refine⟨_,rfl,_,_,rfl,rfl,_,rfl,r,_,a.dx,_,rfl,h.ins,cl_Rooms T,T.n_made,(by show 8<1000;decide),?_⟩;rw[putF_made,show (S.made:Int)+ 1=((S.made+ 1:Nat):Int) by omega];have h1:=h.setMade (S.made+ 1);have u1:ButO a r H (upd H r (.ins A.c_Rooms a.dx (flds S.L ((S.made+ 1:Nat):Int) a))):=ButO.upd (.inl rfl);generalize upd H r (.ins A.c_Rooms a.dx (flds S.L ((S.made+ 1:Nat):Int) a))=H1 at h1 u1 ⊢;have lR:(a.rs.map V.ref).length<sizeLine:=by rw[List.length_map,h.rR.1];exact Nat.lt_of_le_of_lt hrl (by decide)
  refine⟨_,rfl,r,_,a.dx,_,_,rfl,h1.ins,cl_Rooms T,T.n_rows,lk_rows _ _ _,.inl ⟨rfl,_,SqL.of h1.hR⟩,_,rfl,_,rfl,_,rfl,(by show 4<=sizeLine;decide),λt ht=>⟨a.aR,_,_,rfl,rfl,Same.upd ht _ _ h1.hR,lR,?_⟩⟩;have s2:=Same.upd (o:=.tup [.str (tx [110,101,119]),.int c,.int z,.int S.made]) ht;have ht2:upd H1 t (.tup [.str (tx [110,101,119]),.int c,.int z,.int S.made]) t=some (.tup [.str (tx [110,101,119]),.int c,.int z,.int S.made]):=upd_same;generalize upd H1 t (.tup [.str (tx [110,101,119]),.int c,.int z,.int S.made])=H2 at s2 ht2 ⊢
  have hd2:DtAt H2 4 (.ref t) (rowNew c z S.made):=by
   refine .t ht2 rfl λj v d e1 e2=>?_
   rcases j with _|_|_|_|j
   ·simp at e1 e2;subst e1 e2;exact .s
   ·simp at e1 e2;subst e1 e2;exact .i
   ·simp at e1 e2;subst e1 e2;exact .i
   ·simp at e1 e2;subst e1 e2;exact .i
   ·simp at e1
  have nl:NoL (rowNew c z S.made):=.t (by show 4<=100000;decide) λd hd=>by
   simp only[List.mem_cons,List.not_mem_nil,or_false]at hd;rcases hd with rfl|rfl|rfl|rfl
   ·exact .s
   ·exact .i
   ·exact .i
   ·exact .i
  have h3:=(h1.same s2).addRow hd2 nl;have u3:ButO a r H2 (upd H2 a.aR (.lst (a.rs.map V.ref++[.ref t]))):=ButO.upd (.inr (.inl mem_R));generalize upd H2 a.aR (.lst (a.rs.map V.ref++[.ref t]))=H3 at h3 u3 ⊢;generalize ea3:({ a with rs:=a.rs++[t] }:RA)=a3 at h3;have own3:∀b,a3.own r b->a.own r b:=λb hb=>by rw[←ea3]at hb;exact hb
  have own3':∀b,a.own r b->a3.own r b:=λb hb=>by rw[←ea3];exact hb
  have ewG:a3.dx=a.dx:=by rw[←ea3]
  have U3:ButO a r H H3:=u1.trans (λb o hb e=>u3 b o hb (s2 _ _ e));refine⟨_,rfl,r,_,a3.dx,_,_,rfl,h3.ins,cl_Rooms T,T.n_ways,lk_ways _ _ _,.inl ⟨rfl,_,SqL.of h3.hW⟩,?_⟩;intro wd nwd;have hdW:(a3.ws.map V.ref).length<sizeLine:=by rw[List.length_map,h3.rW.1];show S.ways.length<sizeLine;rw[hw.w];exact Nat.lt_of_le_of_lt hm (by decide)
  have s4:=Same.upd (o:=.dK []) nwd;have hwd4:upd H3 wd (.dK []) wd=some (.dK (wK [])):=upd_same;have nwd0:=h3.mkL nwd;refine⟨a3.aW,_,_,rfl,rfl,s4 _ _ h3.hW,hdW,?_⟩;generalize upd H3 wd (.dK [])=H4 at s4 hwd4 ⊢;have h5:=(h3.same s4).addWay hwd4 (λz=>nwd0 (.inr (.inr z)));have u5:ButO a3 r H4 (upd H4 a3.aW (.lst (a3.ws.map V.ref++[.ref wd]))):=ButO.upd (.inr (.inl mem_W));generalize upd H4 a3.aW (.lst (a3.ws.map V.ref++[.ref wd]))=H5 at h5 u5 ⊢;generalize ea5:({ a3 with ws:=a3.ws++[wd] }:RA)=a5 at h5
  have own5:∀b,a5.own r b->a3.own r b\/b=wd:=λb hb=>by
   rw[←ea5]at hb;rcases hb with hb|hb|hb
   ·exact .inl (.inl hb)
   ·exact .inl (.inr (.inl hb))
   ·simp only[RA.dicts,List.mem_append,List.mem_singleton]at hb;rcases hb with (hb|hb)|hb
    ·exact .inl (.inr (.inr (List.mem_append_left _ hb)))
    ·exact .inr hb
    ·exact .inl (.inr (.inr (List.mem_append_right _ hb)))
  have kwd:H wd=none\/a.own r wd:=by
   by_cases ho:a.own r wd
   ·exact .inr ho
   ·refine .inl ?_
    cases e:H wd with
    |none=>rfl
    |some o=>rw[U3 wd o ho e]at nwd;cases nwd
  have U5:ButO a r H H5:=U3.trans λb o hb e=>u5 b o (λz=>hb (own3 b z)) (s4 _ _ e)
  refine⟨_,rfl,r,_,a5.dx,_,_,rfl,h5.ins,cl_Rooms T,T.n_gaps,lk_gaps _ _ _,.inl ⟨rfl,_,SqL.of h5.hG⟩,_,rfl,r,_,a5.dx,_,_,rfl,h5.ins,cl_Rooms T,T.n_letters,lk_letters _ _ _,S.L,rfl,hL1,hL2,λgd H6 s6 ngd hgd6=>?_⟩;have hdG:(a5.gs.map V.ref).length<sizeLine:=by rw[List.length_map,h5.rG.1];show S.gaps.length<sizeLine;rw[hw.g];exact Nat.lt_of_le_of_lt hm (by decide)
  have h6:=h5.same s6;have ngd0:=h5.mkL ngd;refine⟨a5.aG,_,_,rfl,rfl,h6.hG,hdG,?_⟩;have h7:=h6.addGap hgd6 (λz=>ngd0 (.inr (.inr z)));have u7:ButO a5 r H6 (upd H6 a5.aG (.lst (a5.gs.map V.ref++[.ref gd]))):=ButO.upd (.inr (.inl mem_G));generalize upd H6 a5.aG (.lst (a5.gs.map V.ref++[.ref gd]))=H7 at h7 u7 ⊢;generalize ea7:({ a5 with gs:=a5.gs++[gd] }:RA)=a7 at h7
  have own7:∀b,a7.own r b->a5.own r b\/b=gd:=λb hb=>by
   rw[←ea7]at hb;rcases hb with hb|hb|hb
   ·exact .inl (.inl hb)
   ·exact .inl (.inr (.inl hb))
   ·simp only[RA.dicts,List.mem_append,List.mem_singleton]at hb;rcases hb with hb|hb|hb
    ·exact .inl (.inr (.inr (List.mem_append_left _ hb)))
    ·exact .inl (.inr (.inr (List.mem_append_right _ hb)))
    ·exact .inr hb
  have w5:H wd=none\/a.own r wd:=kwd
  have out5:∀b o,¬a.own r b->H b=some o->¬a5.own r b:=λb o hb e z=>by
   rcases own5 b z with z|rfl
   ·exact hb (own3 b z)
   ·rcases kwd with q|q
    ·rw[q]at e;cases e
    ·exact hb q
  have U7:ButO a r H H7:=λb o hb e=>u7 b o (out5 b o hb e) (s6 _ _ (U5 b o hb e))
  have kgd:H gd=none\/a.own r gd:=by
   by_cases ho:a.own r gd
   ·exact .inr ho
   ·refine .inl ?_
    cases e:H gd with
    |none=>rfl
    |some o=>rw[U5 gd o ho e]at ngd;cases ngd
  refine⟨_,rfl,r,_,a7.dx,_,_,rfl,h7.ins,cl_Rooms T,T.n_elders,lk_elders _ _ _,.inl ⟨rfl,_,SqL.of h7.hE⟩,_,rfl,a7.aE,_,_,rfl,rfl,h7.hE,?_,?_⟩
  ·rw[ints_len,nI_len];show S.elders.length<sizeLine;rw[hw.e];exact Nat.lt_of_le_of_lt hm (by decide)
  have eE:intV (nI S.elders)++[V.int (S.made:Int)]=intV (nI (S.elders++[S.made])):=by rw[nI_app,ints_app];rfl
  show _;have h8:=h7.setElders (S.elders++[S.made]);rw[←eE]at h8;have u8:ButO a7 r H7 (upd H7 a7.aE (.lst (intV (nI S.elders)++[V.int (S.made:Int)]))):=ButO.upd (.inr (.inl mem_E));generalize upd H7 a7.aE (.lst (intV (nI S.elders)++[V.int (S.made:Int)]))=H8 at h8 u8 ⊢
  have out7:∀b o,¬a.own r b->H b=some o->¬a7.own r b:=λb o hb e z=>by
   rcases own7 b z with z|rfl
   ·exact out5 b o hb e z
   ·rcases kgd with q|q
    ·rw[q]at e;cases e
    ·exact hb q
  have U8:ButO a r H H8:=λb o hb e=>u8 b o (out7 b o hb e) (U7 b o hb e)
  refine⟨_,rfl,r,_,a7.dx,_,_,rfl,h8.ins,cl_Rooms T,T.n_called,lk_called _ _ _,.inl ⟨rfl,_,SqL.of h8.hC⟩,_,rfl,(by show 1<=sizeLine;decide),λcl ncl=>⟨a7.aC,_,_,rfl,rfl,Same.upd ncl _ _ h8.hC,?_,?_⟩⟩
  ·rw[List.length_map,h8.rC.1];show S.called.length<sizeLine;rw[hw.c];exact Nat.lt_of_le_of_lt hm (by decide)
  have s9:=Same.upd (o:=.lst [.int (S.made:Int)]) ncl;have hcl9:upd H8 cl (.lst [.int (S.made:Int)]) cl=some (.lst (intV (nI [S.made]))):=upd_same;have ncl0:=h8.mkL ncl;generalize upd H8 cl (.lst [.int (S.made:Int)])=H9 at s9 hcl9 ⊢;have h10:=(h8.same s9).addCalled hcl9 (λz=>ncl0 (.inr (.inl z)));have u10:ButO a7 r H9 (upd H9 a7.aC (.lst (a7.cs.map V.ref++[.ref cl]))):=ButO.upd (.inr (.inl mem_C));generalize upd H9 a7.aC (.lst (a7.cs.map V.ref++[.ref cl]))=H10 at h10 u10 ⊢;generalize ea10:({ a7 with cs:=a7.cs++[cl] }:RA)=a10 at h10
  have own10:∀b,a10.own r b->a7.own r b\/b=cl:=λb hb=>by
   rw[←ea10]at hb;rcases hb with hb|hb|hb
   ·exact .inl (.inl hb)
   ·have hb':b∈a7.lists++[cl]:=hb;rcases List.mem_append.mp hb' with hb|hb
    ·exact .inl (.inr (.inl hb))
    ·exact .inr (List.mem_singleton.mp hb)
   ·exact .inl (.inr (.inr hb))
  have kcl:H cl=none\/a.own r cl:=by
   by_cases ho:a.own r cl
   ·exact .inr ho
   ·refine .inl ?_
    cases e:H cl with
    |none=>rfl
    |some o=>rw[U8 cl o ho e]at ncl;cases ncl
  have out10:∀b o,¬a.own r b->H b=some o->¬a10.own r b:=λb o hb e z=>by
   rcases own10 b z with z|rfl
   ·exact out7 b o hb e z
   ·rcases kcl with q|q
    ·rw[q]at e;cases e
    ·exact hb q
  have U10:ButO a r H H10:=λb o hb e=>u10 b o (out7 b o hb e) (s9 _ _ (U8 b o hb e))
  have hS:RoomsAt A.c_Rooms H10 r (S.grown c z (stL (2* S.L))) a10:=h10;refine⟨_,rfl,r,a10.dx,_,rfl,hS.ins,lk_none _ _ _ (by decide +kernel),_,rfl,_,rfl,_,rfl,r,S.grown c z (stL (2* S.L)),a10,c,S.made,z,rfl,hS,⟨?_,?_,?_,?_⟩,?_,?_,?_,λH11 u11 h11=>?_⟩
  ·show (S.ways++[[]]).length=S.made+ 1;rw[List.length_append,hw.w];rfl
  ·show (S.gaps++[_]).length=S.made+ 1;rw[List.length_append,hw.g];rfl
  ·show (S.elders++[_]).length=S.made+ 1;rw[List.length_append,hw.e];rfl
  ·show (S.called++[_]).length=S.made+ 1;rw[List.length_append,hw.c];rfl
  ·show c<S.made+ 1;omega
  ·show S.made<S.made+ 1;omega
  ·intro l hl;rcases List.mem_append.mp hl with hl|hl
   ·exact hz l hl
   ·rw[List.mem_singleton.mp hl];exact Nat.zero_le _
  ·refine⟨_,rfl,k a10 H11 (λb o hb e=>u11 b o (out10 b o hb e) (U10 b o hb e)) h11 λb hb=>?_⟩;rcases own10 b hb with hb|rfl
   ·rcases own7 b hb with hb|rfl
    ·rcases own5 b hb with hb|rfl
     ·exact .inl (own3 b hb)
     ·exact kwd.symm
    ·exact kgd.symm
   ·exact kcl.symm
theorem ok_Rooms_standing (T:Txt K mg A):FnOk P w K mg base CX0 1 A.f_Rooms_standing A.d_Rooms_standing ["self"] (spStanding A.c_Rooms):=by
 refine T.Rooms_standing.F.ok sc_Rooms_standing (λvs H Q E h=>?_) (λcdv AA outer s H vs Q E hr h=>?_)
 ·obtain⟨r,S,a,rfl,_⟩:=h;rfl
 ·obtain⟨r,S,a,rfl,h,hw,hm,k⟩:=h;refine⟨_,(pss_one (ps_ret (pe_compIf (fns:=["self"]) (ixs:=[0]) (cl:=_) rfl (pi_range1 rfl T.z_range (pa_cons (pe_fld (pv 0) rfl) pa_nil)) (compScope1 rfl rfl (by decide +kernel) rfl (by decide +kernel) rfl (by decide +kernel) (by decide +kernel) rfl rfl rfl rfl) (λC s H ex=>(pt_cmpR op_eq (pe_ix (ix_listK (K:=K) rfl) (pe_fldK (K:=K) rfl (pv 1) rfl) (pv 0) (λ_ _=>rfl)) (pv 0) (nomark _))) (λC s H ex=>(pv 0))))),?_⟩
  try dsimp only[cx_noxK,cx_K]
  refine⟨_,rfl,r,_,a.dx,_,_,rfl,h.ins,cl_Rooms T,T.n_made,lk_made _ _ _,(S.made:Int),rfl,by omega,by omega,?_⟩;rw[Int.toNat_natCast];refine⟨λi m ys H2=>m=S.made - i/\i<=S.made/\ys=intV (nI ((List.range i).filter λc=>decide (S.elders[c]?=some c)))/\H2=H,⟨S.made,by simp,Nat.zero_le _,rfl,rfl⟩,?_⟩;rintro i m ys H2 ⟨rfl,hi,rfl,rfl⟩
  have hlen:(intV (nI ((List.range i).filter λc=>decide (S.elders[c]?=some c)))).length<=i:=by
   rw[ints_len,nI_len];exact Nat.le_trans (List.length_filter_le _ _) (by rw[List.length_range];exact Nat.le_refl _)
  by_cases hlt:i<S.made
  ·refine .inr ⟨hlt,?_,λx H3 hyl=>?_⟩
   ·exact Nat.lt_of_le_of_lt (Nat.le_trans hlen (show i<=100000 by omega)) (by decide)
   obtain⟨rfl,rfl⟩:=hyl;have he:S.elders[i]?=some (S.elders[i]'(by rw[hw.e];exact hlt)):=List.getElem?_eq_getElem _
   generalize S.elders[i]'(by rw[hw.e];exact hlt)=e at he;refine⟨_,rfl,r,_,a.dx,_,_,rfl,h.ins,cl_Rooms T,T.n_elders,lk_elders _ _ _,_,rfl,a.aE,_,_,_,rfl,rfl,SqL.of h.hE,(by rw[Int.zero_add];exact atI_nat (ints_at (nI_get he))),?_⟩;refine⟨_,rfl,rfl,_,rfl,?_⟩;by_cases hei:e=i
   ·subst hei;rw[show decide (V.int (e:Int)=V.int (0+ (e:Int)))=true from decide_eq_true (by rw[Int.zero_add])];refine⟨_,rfl,S.made - (e+ 1),by omega,rfl,hlt,?_,rfl⟩;rw[List.range_succ,List.filter_append,List.filter_cons_of_pos (by rw[he];exact decide_eq_true rfl),List.filter_nil,nI_app,ints_app,Int.zero_add];rfl
   ·rw[show decide (V.int (e:Int)=V.int (0+ (i:Int)))=false from decide_eq_false (λz=>hei (by injection z with z;omega))];refine⟨S.made - (i+ 1),by omega,rfl,hlt,?_,rfl⟩;rw[List.range_succ,List.filter_append,List.filter_cons_of_neg (by rw[he];intro z;exact hei (Option.some.inj (of_decide_eq_true z))),List.filter_nil,List.append_nil]
  ·have e:i=S.made:=by omega
   subst e;exact .inl ⟨Nat.le_refl _,Nat.le_trans hlen (Nat.le_trans hm (by decide)),λD hD=>k D hD⟩
def PendAt (H:Hp)(p:Addr)(pend:List Way):Prop:=∃qs:List Addr,H p=some (.lst (qs.map V.ref))/\Each (λq (w:Way)=>H q=some (.tup [.int (w.1:Int),.int w.2.1,.int (w.2.2:Int)])) qs pend
def ButP (a:RA)(r p:Addr)(H H':Hp):Prop:=∀b o,¬a.own r b->b≠p->H b=some o->H' b=some o
theorem PendAt.keep {H H':Hp}{p:Addr}{pend:List Way}(h:PendAt H p pend)(k:∀o,H p=some o->H' p=some o)(kt:∀b xs,H b=some (.tup xs)->H' b=some (.tup xs)):PendAt H' p pend:=by
 obtain⟨qs,h1,h2⟩:=h;exact⟨qs,k _ h1,h2.imp λq w _ _ e=>kt _ _ e⟩
structure Small (S:RS):Prop where
 m:S.made<=100000
 w:∀l∈S.ways,l.length<=100000
 r:S.rows.length<=1000000
 n:S.went.length<=1000000
 c:∀l∈S.called,l.length<=1000000
def spPutOff (C:Addr):Sp:=λvs H Q _=>∃(r p:Addr) (S:RS) (a:RA) (c:Nat) (pend:List Way),vs=[.ref r,.int c,.ref p]/\RoomsAt C H r S a/\S.Wf/\c<S.made/\OffOk S c/\(∀l∈S.ways,l.length<=100000)/\PendAt H p pend/\¬a.own r p/\pend.length<=1000000/\∀a' H',ButP a r p H H'->RoomsAt C H' r (S.putOff c pend).1 a'->PendAt H' p (S.putOff c pend).2->(∀b,a'.own r b->a.own r b\/H b=none)->Q .non H'
def spPutTo (C:Addr):Sp:=λvs H Q _=>∃(r p:Addr) (S:RS) (a:RA) (c x y:Nat) (z:Int) (pend:List Way),vs=[.ref r,.int c,.int z,.int x,.int y,.ref p]/\RoomsAt C H r S a/\S.Wf/\x<S.made/\y<S.made/\x≠y/\OffOk S (max x y)/\(∀n∈S.cal (max x y),n<S.made)/\Small S/\PendAt H p pend/\¬a.own r p/\pend.length<=1000000/\∀a' H',ButP a r p H H'->RoomsAt C H' r (S.meet c z x y pend).1 a'->PendAt H' p (S.meet c z x y pend).2->(∀b,a'.own r b->a.own r b\/H b=none)->Q .non H'
structure TakeOk (S:RS):Prop where
 wf:S.Wf
 el:∀c,c<S.made->S.eld c<S.made
 bl:∀c z d,S.by c z=some d->d<S.made
 cl:∀c,∀n∈S.cal c,n<S.made
 off:∀c,c<S.made->OffOk S c
 sm:Small S
def spTakeIn (C:Addr):Sp:=λvs H Q _=>∃(r t p:Addr) (S:RS) (a:RA) (w:Way) (pend:List Way),vs=[.ref r,.ref t,.ref p]/\RoomsAt C H r S a/\H t=some (.tup [.int (w.1:Int),.int w.2.1,.int (w.2.2:Int)])/\TakeOk S/\w.1<S.made/\w.2.2<S.made/\PendAt H p pend/\¬a.own r p/\pend.length<=1000000/\∀a' H',ButP a r p H H'->RoomsAt C H' r (S.takeIn pend w).1 a'->PendAt H' p (S.takeIn pend w).2->(∀b,a'.own r b->a.own r b\/H b=none)->Q .non H'
def spLay (C:Addr):Sp:=λvs H Q _=>∃(r q:Addr) (S:RS) (a:RA) (c d:Nat) (z:Int) (row:Dt) (I:RS->List Way->Prop) (μ:RS->List Way->Nat),vs=[.ref r,.int c,.int z,.int d,.ref q]/\RoomsAt C H r S a/\S.rows.length<=1000000/\DtAt H 2 (.ref q) row/\NoL row/\
 I { S with rows:=S.rows++[row] } [(c,z,d)]/\(∀S pend w,I S (pend++[w])->TakeOk S/\w.1<S.made/\w.2.2<S.made/\pend.length<=1000000/\I (S.takeIn pend w).1 (S.takeIn pend w).2/\μ (S.takeIn pend w).1 (S.takeIn pend w).2 < μ S (pend++[w]))/\
 ∀S' a' H',ButO a r H H'->RoomsAt C H' r S' a'->I S' []->(∀b,a'.own r b->a.own r b\/H b=none)->Q .non H'
theorem ixN_nat {n i:Nat}(h:i<n):ixN n (i:Int)=some i:=by
 unfold ixN;rw[if_pos (by omega),if_pos (by omega),Int.toNat_natCast]
theorem getW_mem {l:List (Int×Nat)}(nd:(l.map (·.1)).Nodup){q:Int×Nat}(h:q∈l):getW l q.1=some q.2:=by
 induction l with
 |nil=>cases h
 |cons p l ih=>
  unfold getW;rw[List.map_cons,List.nodup_cons]at nd;by_cases e:p.1=q.1
  ·rw[List.find?_cons_of_pos (by exact decide_eq_true e)];rcases List.mem_cons.mp h with rfl|h
   ·rfl
   ·exact absurd (by rw[e];exact List.mem_map_of_mem h) nd.1
  ·rw[List.find?_cons_of_neg (by simpa using e)];rcases List.mem_cons.mp h with rfl|h
   ·exact absurd rfl e
   ·exact ih nd.2 h
theorem ok_Rooms_put_off (T:Txt K mg A):FnOk P w K mg base CX0 1 A.f_Rooms_put_off A.d_Rooms_put_off ["self","room","pending"] (spPutOff A.c_Rooms):=by
 refine T.Rooms_put_off.F.ok sc_Rooms_put_off (λvs H Q E h=>?_) (λcdv AA outer s H vs Q E hr h=>?_)
 ·obtain⟨r,p,S,a,c,pend,rfl,_⟩:=h;rfl
 ·obtain⟨r,p,S,a,c,pend,rfl,h,hw,hc,ok,sm,hP,np,hpl,k⟩:=h;have hu2:=hu_of hr
  refine⟨_,(pss_cons (ps_set (i:=3) sc_Rooms_put_off.nd rfl (Or.inl rfl) (pe_ix ix_list (pe_fld (pv 0) rfl) (pv 1) (λ_ _=>rfl)))
   (pss_cons (ps_asg pe_dnewK (pg_sub (pe_fld (pv 0) rfl) (pv 1) set_list))
   (pss_one (ps_for PassesOwn.never rfl (pi_list (pe_callTy (call_list_dK rfl) rfl T.z_list PyProof.Rows.boot_list (pa_cons (pv 3) pa_nil))) (pg_name (i:=4) sc_Rooms_put_off.nd rfl (Or.inl rfl))
    (pss_cons (ps_set (i:=5) sc_Rooms_put_off.nd rfl (Or.inl rfl) (pe_dget hu2 (pv 3) (pv 4) (λ_ _=>rfl)))
    (pss_cons (ps_cut (ps_if (pt_cmpR op_ne (pv 5) (pv 1) (nomark _))
     (pss_one (ps_expr (pe_dpop1 (pe_ix ix_list (pe_fld (pv 0) rfl) (pv 5) (λ_ _=>rfl)) (pe_un un_neg (pv 4)) ⟨rfl,rfl,rfl,rfl⟩)))
     pss_nil))
    (pss_one (ps_expr (pe_bm PySem.F.plainAttrs_list PySem.F.slot_list_append PySem.F.type_list_append mt_append (pv 2) (pa_cons (pe_tup (pa_cons (pv 1) (pa_cons (pv 4) (pa_cons (pv 5) pa_nil)))) pa_nil)))))))))),?_⟩
  try dsimp only[cx_noxK,cx_K]
  refine seq_let2 ?_;intro u_2 u_1;have hcw:c<S.ways.length:=by rw[hw.w];exact hc
  obtain⟨wd,hwd,hWD⟩:=h.rW.at (way_at hcw);have hl0:(S.way c).length<=100000:=way_le sm;refine⟨_,rfl,r,_,a.dx,_,_,rfl,h.ins,cl_Rooms T,T.n_ways,lk_ways _ _ _,_,rfl,a.aW,_,_,_,rfl,rfl,SqL.of h.hW,ref_at hwd,?_⟩;intro nd nnd;have s1:=Same.upd (o:=.dK []) nnd;have hnd1:upd H nd (.dK []) nd=some (.dK (wK [])):=upd_same;have nn:=h.mkL nnd;have nnp:nd≠p:=λz=>by obtain⟨qs,q1,_⟩:=hP;rw[←z,nnd]at q1;cases q1
  generalize upd H nd (.dK [])=H1 at s1 hnd1 ⊢;have h1:=h.same s1;have hi:c<a.ws.length:=by rw[h.rW.1];exact hcw
  refine⟨_,rfl,r,_,a.dx,_,_,rfl,h1.ins,cl_Rooms T,T.n_ways,lk_ways _ _ _,_,rfl,a.aW,_,_,c,rfl,rfl,h1.hW,ixN_nat (by rw[List.length_map];exact hi),?_⟩;have h2:=h1.newWay hi hnd1 (λz=>nn (.inr (.inr z)));have u2:∀b o,b≠a.aW->H1 b=some o->upd H1 a.aW (.lst ((a.ws.map V.ref).set c (.ref nd))) b=some o:=λb o nb e=>by rw[upd_ne nb];exact e
  generalize upd H1 a.aW (.lst ((a.ws.map V.ref).set c (.ref nd)))=H2 at h2 u2 ⊢;have npW:p≠a.aW:=λz=>np (.inr (.inl (by rw[z];exact mem_W)))
  have wdW:wd≠a.aW:=(h.ld mem_W (mem_ws (List.mem_of_getElem? hwd))).symm;have hwd2:H2 wd=some (.dK (wK (S.way c))):=u2 _ _ wdW (s1 _ _ hWD);generalize ea2:({ a with ws:=a.ws.set c nd }:RA)=a2 at h2;have h2':RoomsAt A.c_Rooms H2 r (offs c S pend []).1 a2:=h2
  have nwd2:¬a2.own r wd:=λz=>by
   rw[←ea2]at z;rcases z with z|z|z
   ·exact(h.rd (mem_ws (List.mem_of_getElem? hwd))) z.symm
   ·exact h.ld z (mem_ws (List.mem_of_getElem? hwd)) rfl
   ·have ndp:=List.nodup_append.mp h.ndD;have z':wd∈a.ws.set c nd++a.gs:=z;rcases List.mem_append.mp z' with z|z
    ·obtain⟨j,hj⟩:=List.getElem?_of_mem z;by_cases e:c=j
     ·subst e;rw[List.getElem?_set_self hi]at hj;have:nd=wd:=Option.some.inj hj;rw[this,hWD]at nnd;cases nnd
     ·rw[List.getElem?_set_ne e]at hj;exact e ((List.getElem?_inj hi ndp.1).mp (hwd.trans hj.symm))
    ·exact ndp.2.2 wd (List.mem_of_getElem? hwd) wd z rfl
  have own2:∀b,a2.own r b->a.own r b\/H b=none:=λb hb=>by
   rw[←ea2]at hb;rcases hb with hb|hb|hb
   ·exact .inl (.inl hb)
   ·exact .inl (.inr (.inl hb))
   ·have hb':b∈a.ws.set c nd++a.gs:=hb;rcases List.mem_append.mp hb' with hb|hb
    ·rcases List.mem_or_eq_of_mem_set hb with hb|rfl
     ·exact .inl (.inr (.inr (List.mem_append_left _ hb)))
     ·exact .inr nnd
    ·exact .inl (.inr (.inr (List.mem_append_right _ hb)))
  have np2:¬a2.own r p:=λz=>by
   rcases own2 p z with q|q
   ·exact np q
   ·obtain⟨qs,q1,_⟩:=hP;rw[q]at q1;cases q1
  have hP2:PendAt H2 p (offs c S pend []).2:=hP.keep (λo e=>u2 _ _ npW (s1 _ _ e)) (λb xs e=>u2 _ _ (h.tl e mem_W) (s1 _ _ e));have B2:ButP a r p H H2:=λb o nb _ e=>u2 _ _ (λz=>nb (.inr (.inl (by rw[z];exact mem_W)))) (s1 _ _ e)
  refine⟨_,rfl,wd,_,rfl,hwd2,λl nl=>?_⟩;have s3:=Same.upd (o:=.lst ((wK (S.way c)).map λkv=>kV kv.1)) nl;have hl3:upd H2 l (.lst ((wK (S.way c)).map λkv=>kV kv.1)) l=some (.lst ((wK (S.way c)).map λkv=>kV kv.1)):=upd_same;have nl2:=h2'.mkL nl;have nlp:l≠p:=λz=>by obtain⟨qs,q1,_⟩:=hP2;rw[←z,nl]at q1;cases q1
  have nlw:l≠wd:=λz=>by rw[z,hwd2]at nl;cases nl
  have nlH:H l=none\/a.own r l:=by
   by_cases ho:a.own r l
   ·exact .inr ho
   ·refine .inl ?_
    cases e:H l with
    |none=>rfl
    |some o=>rw[B2 l o ho nlp e]at nl;cases nl
  generalize upd H2 l (.lst ((wK (S.way c)).map λkv=>kV kv.1))=H3 at s3 hl3 ⊢;refine⟨l,rfl,⟨_,SqL.of hl3⟩,?_⟩;have hlen:((wK (S.way c)).map λkv=>kV kv.1).length=(S.way c).length:=by rw[List.length_map,wK_len]
  refine for_list (xs:=(wK (S.way c)).map λkv=>kV kv.1) (λi σ H4=>∃v4 v5,σ=[some (.ref r),some (.int (c:Int)),some (.ref p),some (.ref wd),v4,v5]/\RoomsAt A.c_Rooms H4 r (offs c S pend ((S.way c).take i)).1 a2/\PendAt H4 p (offs c S pend ((S.way c).take i)).2/\(∀b o,¬a2.own r b->b≠p->H3 b=some o->H4 b=some o)) ⟨none,none,rfl,h2'.same s3,hP2.keep (λo e=>s3 _ _ e) (λb xs e=>s3 _ _ e),λb o _ _ e=>e⟩ (λi σ H4 _ ⟨_,_,_,_,_,kk⟩=>SqL.of (kk _ _ nl2 nlp hl3)) ?_ ?_
  ·rintro i x σ H4 hx ⟨v4,v5,rfl,h4,hP4,kk⟩;have hi4:i<(S.way c).length:=by rw[←hlen];exact(List.getElem?_eq_some_iff.mp hx).1
   have hg:(S.way c)[i]?=some ((S.way c)[i]'hi4):=List.getElem?_eq_getElem hi4
   generalize (S.way c)[i]'hi4=w at hg
   have ex:x=.int w.1:=by
    unfold wK at hx;rw[List.getElem?_map,List.getElem?_map,hg]at hx;exact(Option.some.inj hx).symm
   subst ex;have hm:=List.mem_of_getElem? hg;have etk:(S.way c).take (i+ 1)=(S.way c).take i++[w]:=by rw[List.take_succ,hg];rfl
   have hwd4:H4 wd=some (.dK (wK (S.way c))):=kk _ _ nwd2 (λz=>by obtain⟨qs,q1,_⟩:=hP2;rw[←z,hwd2]at q1;cases q1) (s3 _ _ hwd2);have hv:valV (wK (S.way c)) (Sum.inl w.1)=some (.int (w.2:Int)):=by rw[wK_val,getW_mem ok.nd hm];rfl
   have hlt:=ok.lt w hm;have hol:=(offs_rest c S pend ((S.way c).take i)).1;refine⟨_,rfl,_,rfl,wd,_,rfl,(by have:=DGet.k (k:=Sum.inl w.1) hwd4;rw[hv]at this;exact this),?_⟩;refine⟨λ σ' H'=>σ'=[some (.ref r),some (.int (c:Int)),some (.ref p),some (.ref wd),some (.int w.1),some (.int (w.2:Int))]/\RoomsAt A.c_Rooms H' r (offs c S pend ((S.way c).take (i+ 1))).1 a2/\PendAt H' p (offs c S pend ((S.way c).take i)).2/\(∀b o,¬a2.own r b->b≠p->H3 b=some o->H' b=some o),?_,?_⟩
   ·refine⟨_,rfl,_,rfl,rfl,_,rfl,ite2 (λhne=>?_) (λhne=>?_)⟩
    ·have hne':w.2≠c:=λz=>by rw[z]at hne;simp at hne
     have hd2:w.2<(offs c S pend ((S.way c).take i)).1.ways.length:=by rw[hol,hw.w];exact hlt
     obtain⟨pd,hpd,hPD⟩:=h4.rW.at (way_at hd2)
     have hby:((offs c S pend ((S.way c).take i)).1.by w.2 (-w.1)).isSome=true:=by
      rw[offs_by hcw _ (λq hq=>by rw[hw.w];exact ok.lt q (List.mem_of_mem_take hq)),if_neg]
      ·exact ok.bk w hm hne'
      ·rintro (q|⟨q,hq,q1,q2⟩)
       ·exact hne' q
       ·obtain⟨j,hj⟩:=List.getElem?_of_mem hq
        have hji:j<i:=by
         have:=(List.getElem?_eq_some_iff.mp hj).1;rw[List.length_take]at this;omega
        rw[List.getElem?_take_of_lt hji]at hj;have e1:((S.way c).map (·.1))[j]?=some q.1:=by rw[List.getElem?_map,hj];rfl
        have e2:((S.way c).map (·.1))[i]?=some w.1:=by rw[List.getElem?_map,hg];rfl
        have e3:q.1=w.1:=by omega
        rw[e3]at e1;have:=(List.getElem?_inj (by rw[List.length_map];exact hi4) ok.nd).mp (e2.trans e1.symm);omega
     obtain⟨m,hm2⟩:=Option.isSome_iff_exists.mp hby;refine⟨_,rfl,r,_,a2.dx,_,_,rfl,h4.ins,cl_Rooms T,T.n_ways,lk_ways _ _ _,_,rfl,a2.aW,_,_,_,rfl,rfl,SqL.of h4.hW,ref_at hpd,pd,rfl,.inl ⟨_,.inl hPD⟩,_,rfl,_,rfl,_,Sum.inl (-w.1),.int (m:Int),hPD,rfl,?_,?_⟩
     ·rw[wK_val];show ((offs c S pend ((S.way c).take i)).1.by w.2 (-w.1)).map _=_;rw[hm2];rfl
     ·rw[wK_drop];refine⟨rfl,?_,hP4.keep (λo e=>?_) (λb xs e=>?_),λb o nb nbp e=>?_⟩
      ·rw[etk,offs_snoc];unfold offStep;simp only[hne',if_true,not_false_eq_true,ne_eq];exact h4.setWay hpd _
      ·rw[upd_ne (λz=>np2 (.inr (.inr (mem_ws (by rw[z];exact List.mem_of_getElem? hpd)))))];exact e
      ·rw[upd_ne (h4.td e (mem_ws (List.mem_of_getElem? hpd)))];exact e
      ·rw[upd_ne (λz=>nb (.inr (.inr (mem_ws (by rw[z];exact List.mem_of_getElem? hpd)))))];exact kk b o nb nbp e
    ·have hne':w.2=c:=by
      by_cases e:w.2=c
      ·exact e
      ·exact absurd (by simp;omega) hne
     refine⟨rfl,?_,hP4,kk⟩;rw[etk,offs_snoc];unfold offStep;simp only[hne',ne_eq,not_true_eq_false,if_false];exact h4
   rintro σ' H5 ⟨rfl,h5,hP5,kk5⟩;obtain⟨qs,hq1,hq2⟩:=hP5
   have hql:(qs.map V.ref).length<sizeLine:=by
    rw[List.length_map,hq2.1,offs_pend,List.length_append,List.length_map,List.length_take];exact Nat.lt_of_le_of_lt (show _<=1100000 by omega) (by decide)
   refine⟨_,rfl,.inl ⟨rfl,_,SqL.of hq1⟩,_,rfl,_,rfl,_,rfl,(by show 3<=sizeLine;decide),λt nt=>?_⟩;have s6:=Same.upd (o:=.tup [.int (c:Int),.int w.1,.int (w.2:Int)]) nt;have ht6:upd H5 t (.tup [.int (c:Int),.int w.1,.int (w.2:Int)]) t=some (.tup [.int (c:Int),.int w.1,.int (w.2:Int)]):=upd_same;generalize upd H5 t (.tup [.int (c:Int),.int w.1,.int (w.2:Int)])=H6 at s6 ht6 ⊢;refine⟨p,_,_,rfl,rfl,s6 _ _ hq1,hql,?_⟩;have kp:∀b o,b≠p->H6 b=some o->upd H6 p (.lst (qs.map V.ref++[.ref t])) b=some o:=λb o nb e=>by rw[upd_ne nb];exact e
   have ktp:∀b xs,H6 b=some (.tup xs)->upd H6 p (.lst (qs.map V.ref++[.ref t])) b=some (.tup xs):=λb xs e=>kp _ _ (ne_of e (s6 _ _ hq1) (by intro z;cases z)) e
   refine⟨_,_,rfl,(h5.same s6).keep (λb o hb e=>kp b o (λz=>np2 (z ▸ hb)) e) ktp,⟨qs++[t],?_,?_⟩,λb o nb nbp e=>kp b o nbp (s6 _ _ (kk5 b o nb nbp e))⟩
   ·rw[upd_same,List.map_append];rfl
   ·rw[etk,offs_snoc];exact(hq2.imp λq w' _ _ e=>ktp _ _ (s6 _ _ e)).snoc (ktp _ _ ht6)
  ·rintro σ H4 ⟨v4,v5,rfl,h4,hP4,kk⟩;rw[hlen,List.take_length]at h4 hP4;refine k a2 H4 (λb o nb nbp e=>?_) h4 hP4 own2;have e2:=B2 b o nb nbp e;exact kk b o (λz=>by rcases own2 b z with q|q;exact nb q;rw[q]at e;cases e) nbp (s3 _ _ e2)
theorem cal_at {S:RS}{c:Nat}(h:c<S.called.length):S.called[c]?=some (S.cal c):=by unfold RS.cal;rw[List.getD_eq_getElem?_getD,List.getElem?_eq_getElem h];rfl
theorem eld_at {S:RS}{c:Nat}(h:c<S.elders.length):S.elders[c]?=some (S.eld c):=by unfold RS.eld;rw[List.getD_eq_getElem?_getD,List.getElem?_eq_getElem h];rfl
theorem cal_le {S:RS}{c n:Nat}(h:∀l∈S.called,l.length<=n):(S.cal c).length<=n:=by
 unfold RS.cal;rw[List.getD_eq_getElem?_getD]
 cases e:S.called[c]? with
 |none=>exact Nat.zero_le _
 |some l=>exact h l (List.mem_of_getElem? e)
theorem fold_len (x:Nat):∀(l es:List Nat),(l.foldl (λes n=>es.set n x) es).length=es.length
 |[],_=>rfl
 |n::l,es=>by rw[List.foldl_cons,fold_len x l,List.length_set]
theorem ints_set (ns:List Int)(i:Nat)(z:Int):(intV ns).set i (.int z)=intV (ns.set i z):=by
 unfold intV;rw[List.map_set]
theorem ok_Rooms_put_together (T:Txt K mg A):FnOk P w K mg base CX0 2 A.f_Rooms_put_together A.d_Rooms_put_together ["self","room","step","one","other","pending"] (spPutTo A.c_Rooms):=by
 have G_Rooms_put_off:FnOk P w K mg base CX0 1 A.f_Rooms_put_off A.d_Rooms_put_off ["self","room","pending"] (spPutOff A.c_Rooms):=ok_Rooms_put_off T;refine T.Rooms_put_together.F.ok sc_Rooms_put_together (λvs H Q E h=>?_) (λcdv AA outer s H vs Q E hr h=>?_)
 ·obtain⟨r,p,S,a,c,x,y,z,pend,rfl,_⟩:=h;rfl
 ·obtain⟨r,p,S,a,c,x,y,z,pend,rfl,h,hw,hx,hy,hxy,ok,hcl,sm,hP,np,hpl,k⟩:=h
  refine⟨_,(pss_cons (ps_set (i:=6) sc_Rooms_put_together.nd rfl (Or.inl rfl) (pe_callB (call_min2 rfl) rfl T.z_min PyProof.Rows.boot_min (pa_cons (pv 3) (pa_cons (pv 4) pa_nil))))
   (pss_cons (ps_set (i:=7) sc_Rooms_put_together.nd rfl (Or.inl rfl) (pe_callB (call_max2 rfl) rfl T.z_max PyProof.Rows.boot_max (pa_cons (pv 3) (pa_cons (pv 4) pa_nil))))
   (pss_cons (ps_expr (pe_bm PySem.F.plainAttrs_list PySem.F.slot_list_append PySem.F.type_list_append mt_append (pe_fld (pv 0) rfl) (pa_cons (pe_tup (pa_cons (pe_strX (l:=[109,101,101,116]) rfl) (pa_cons (pv 1) (pa_cons (pv 2) (pa_cons (pv 6) (pa_cons (pv 7) pa_nil)))))) pa_nil)))
   (pss_cons (ps_expr (pe_bm PySem.F.plainAttrs_list PySem.F.slot_list_append PySem.F.type_list_append mt_append (pe_fld (pv 0) rfl) (pa_cons (pv 7) pa_nil)))
   (pss_cons (ps_for PassesOwn.never rfl (pi_list (pe_ix ix_list (pe_fld (pv 0) rfl) (pv 7) (λ_ _=>rfl))) (pg_name (i:=8) sc_Rooms_put_together.nd rfl (Or.inl rfl))
    (pss_one (ps_asg (pv 6) (pg_sub (pe_fld (pv 0) rfl) (pv 8) set_list))))
   (pss_cons (ps_expr (pe_bm PySem.F.plainAttrs_list PySem.F.slot_list_extend PySem.F.type_list_extend mt_extend (pe_ix ix_list (pe_fld (pv 0) rfl) (pv 6) (λ_ _=>rfl)) (pa_cons (pe_ix ix_list (pe_fld (pv 0) rfl) (pv 7) (λ_ _=>rfl)) pa_nil)))
   (pss_one (ps_expr (pe_meth (pv 0) (cl_Rooms T) T.Rooms_put_off.m (G_Rooms_put_off) (hr.mono (by decide)) T.Rooms_put_off.b .nil pass0 (pa_cons (pv 7) (pa_cons (pv 5) pa_nil))))))))))),?_⟩
  try dsimp only[cx_noxK,cx_K]
  refine seq_let6 ?_;intro u_6 u_5 u_4 u_3 u_2 u_1;have e1:(if (y:Int)<(x:Int) then (y:Int) else (x:Int))=((min x y:Nat):Int):=by split <;> omega
  have e2:(if (y:Int) > (x:Int) then (y:Int) else (x:Int))=((max x y:Nat):Int):=by split <;> omega
  have hlm:min x y<max x y:=by omega
  have hmx:max x y<S.made:=by omega
  generalize ev:min x y=u at e1 hlm;have ek:∀a' H',ButP a r p H H'->RoomsAt A.c_Rooms H' r ((S.joined c z u (max x y)).putOff (max x y) pend).1 a'->PendAt H' p ((S.joined c z u (max x y)).putOff (max x y) pend).2->(∀b,a'.own r b->a.own r b\/H b=none)->Q .non H':=λa' H' h1 h2 h3 h4=>k a' H' h1 (by unfold RS.meet;rw[ev];exact h2) (by unfold RS.meet;rw[ev];exact h3) h4
  clear k;generalize max x y=v at e2 hlm hmx ok hcl ek;refine⟨_,rfl,_,rfl,_,_,rfl,?_⟩;rw[e1];refine⟨_,rfl,_,rfl,_,_,rfl,?_⟩;rw[e2];have lR:(a.rs.map V.ref).length<sizeLine:=by rw[List.length_map,h.rR.1];exact Nat.lt_of_le_of_lt sm.r (by decide)
  refine⟨_,rfl,r,_,a.dx,_,_,rfl,h.ins,cl_Rooms T,T.n_rows,lk_rows _ _ _,.inl ⟨rfl,_,SqL.of h.hR⟩,_,rfl,_,rfl,_,rfl,_,rfl,(by show 5<=sizeLine;decide),λt nt=>⟨a.aR,_,_,rfl,rfl,Same.upd nt _ _ h.hR,lR,?_⟩⟩;have s1:=Same.upd (o:=.tup [.str (tx [109,101,101,116]),.int (c:Int),.int z,.int (u:Int),.int (v:Int)]) nt;have ht1:upd H t (.tup [.str (tx [109,101,101,116]),.int (c:Int),.int z,.int (u:Int),.int (v:Int)]) t=some (.tup [.str (tx [109,101,101,116]),.int (c:Int),.int z,.int (u:Int),.int (v:Int)]):=upd_same;generalize upd H t (.tup [.str (tx [109,101,101,116]),.int (c:Int),.int z,.int (u:Int),.int (v:Int)])=H1 at s1 ht1 ⊢
  have hd1:DtAt H1 4 (.ref t) (rowMeet c z u v):=by
   refine .t ht1 rfl λj w d e1 e2=>?_
   rcases j with _|_|_|_|_|j
   ·simp at e1 e2;subst e1 e2;exact .s
   ·simp at e1 e2;subst e1 e2;exact .i
   ·simp at e1 e2;subst e1 e2;exact .i
   ·simp at e1 e2;subst e1 e2;exact .i
   ·simp at e1 e2;subst e1 e2;exact .i
   ·simp at e1
  have nl:NoL (rowMeet c z u v):=.t (by show 5<=100000;decide) λd hd=>by
   simp only[List.mem_cons,List.not_mem_nil,or_false]at hd;rcases hd with rfl|rfl|rfl|rfl|rfl
   ·exact .s
   ·exact .i
   ·exact .i
   ·exact .i
   ·exact .i
  have h2:=(h.same s1).addRow hd1 nl;have B2:ButP a r p H (upd H1 a.aR (.lst (a.rs.map V.ref++[.ref t]))):=λb o nb _ e=>by rw[upd_ne (λz=>nb (.inr (.inl (by rw[z];exact mem_R))))];exact s1 _ _ e
  have npl:∀{b},b∈a.lists->p≠b:=λhb z=>np (.inr (.inl (by rw[z];exact hb)))
  have P2:PendAt (upd H1 a.aR (.lst (a.rs.map V.ref++[.ref t]))) p pend:=hP.keep (λo e=>by rw[upd_ne (npl mem_R)];exact s1 _ _ e) (λb xs e=>by rw[upd_ne (h.tl e mem_R)];exact s1 _ _ e);generalize upd H1 a.aR (.lst (a.rs.map V.ref++[.ref t]))=H2 at h2 B2 P2 ⊢;generalize ea2:({ a with rs:=a.rs++[t] }:RA)=a2 at h2;have eo:∀b,a2.own r b↔a.own r b:=λb=>by rw[←ea2];exact Iff.rfl
  have np2:¬a2.own r p:=λz=>np ((eo p).mp z)
  have npl2:∀{b},b∈a2.lists->p≠b:=λhb z=>np2 (.inr (.inl (by rw[z];exact hb)))
  have lN:(intV (nI S.went)).length<sizeLine:=by rw[ints_len,nI_len];exact Nat.lt_of_le_of_lt sm.n (by decide)
  refine⟨_,rfl,r,_,a2.dx,_,_,rfl,h2.ins,cl_Rooms T,T.n_went,lk_went _ _ _,.inl ⟨rfl,_,SqL.of h2.hN⟩,_,rfl,a2.aN,_,_,rfl,rfl,h2.hN,lN,?_⟩;have eN:intV (nI S.went)++[V.int (v:Int)]=intV (nI (S.went++[v])):=by rw[nI_app,ints_app];rfl
  have h3:=h2.setWent (S.went++[v]);rw[←eN]at h3;have B3:ButP a r p H (upd H2 a2.aN (.lst (intV (nI S.went)++[V.int (v:Int)]))):=λb o nb nbp e=>by rw[upd_ne (λz=>nb ((eo b).mp (.inr (.inl (by rw[z];exact mem_N)))))];exact B2 b o nb nbp e
  have P3:PendAt (upd H2 a2.aN (.lst (intV (nI S.went)++[V.int (v:Int)]))) p pend:=P2.keep (λo e=>by rw[upd_ne (npl2 mem_N)];exact e) (λb xs e=>by rw[upd_ne (h2.tl e mem_N)];exact e);show _;generalize upd H2 a2.aN (.lst (intV (nI S.went)++[V.int (v:Int)]))=H3 at h3 B3 P3 ⊢;obtain⟨pv,hpv,hPV⟩:=h3.rC.at (show S.called[v]?=some (S.cal v) from cal_at (by rw[hw.c];exact hmx));have mpv:=List.mem_of_getElem? hpv;refine⟨_,rfl,r,_,a2.dx,_,_,rfl,h3.ins,cl_Rooms T,T.n_called,lk_called _ _ _,_,rfl,a2.aC,_,_,_,rfl,rfl,SqL.of h3.hC,ref_at hpv,pv,rfl,⟨_,SqL.of hPV⟩,?_⟩;obtain⟨-,-,-,-,-,nc⟩:=nd7 h3.ndL;have npE:pv≠a2.aE:=(nc pv mpv).2.2.2.1;refine for_list (xs:=intV (nI (S.cal v))) (λi σ H4=>∃v8,σ=[some (.ref r),some (.int (c:Int)),some (.int z),some (.int (x:Int)),some (.int (y:Int)),some (.ref p),some (.int (u:Int)),some (.int (v:Int)),v8]/\RoomsAt A.c_Rooms H4 r { S with rows:=S.rows++[rowMeet c z u v],went:=S.went++[v],elders:=((S.cal v).take i).foldl (λes n=>es.set n u) S.elders } a2/\ButP a r p H H4/\PendAt H4 p pend) ⟨none,rfl,h3,B3,P3⟩ (λi σ H4 _ ⟨_,_,h4,_,_⟩=>SqL.of (h4.rC.2 v pv _ hpv (show S.called[v]?=some (S.cal v) from cal_at (by rw[hw.c];exact hmx)))) ?_ ?_
  ·rintro i w σ H4 hw4 ⟨v8,rfl,h4,B4,P4⟩;obtain⟨m,rfl,hm⟩:=ints_of_at hw4;unfold nI at hm;rw[List.getElem?_map]at hm
   cases hn:(S.cal v)[i]? with
   |none=>rw[hn]at hm;cases hm
   |some n=>
    rw[hn]at hm;obtain rfl:(n:Int)=m:=Option.some.inj hm;have hnl:=hcl n (List.mem_of_getElem? hn);have hel:(((S.cal v).take i).foldl (λes n=>es.set n u) S.elders).length=S.made:=by rw[fold_len,hw.e]
    refine⟨_,rfl,_,rfl,r,_,a2.dx,_,_,rfl,h4.ins,cl_Rooms T,T.n_elders,lk_elders _ _ _,_,rfl,a2.aE,_,_,n,rfl,rfl,h4.hE,ixN_nat (by rw[ints_len,nI_len,hel];exact hnl),?_⟩;rw[ints_set,nI_set];have h5:=h4.setElders ((((S.cal v).take i).foldl (λes n=>es.set n u) S.elders).set n u);refine⟨_,rfl,?_,λb o nb nbp e=>?_,P4.keep (λo e=>?_) (λb xs e=>?_)⟩
    ·have etk:(S.cal v).take (i+ 1)=(S.cal v).take i++[n]:=by rw[List.take_succ,hn];rfl
     rw[etk,List.foldl_append];exact h5
    ·rw[upd_ne (λz=>nb ((eo b).mp (.inr (.inl (by rw[z];exact mem_E)))))];exact B4 b o nb nbp e
    ·rw[upd_ne (npl2 mem_E)];exact e
    ·rw[upd_ne (h4.tl e mem_E)];exact e
  ·rintro σ H4 ⟨v8,rfl,h4,B4,P4⟩;rw[ints_len,nI_len,List.take_length]at h4;have hul:u<S.called.length:=by rw[hw.c];omega
   have hvl:v<S.called.length:=by rw[hw.c];exact hmx
   obtain⟨pu,hpu,hPU⟩:=h4.rC.at (show S.called[u]?=some (S.cal u) from cal_at hul);have hPV4:=h4.rC.2 v pv _ hpv (show S.called[v]?=some (S.cal v) from cal_at hvl);have b1:(S.cal u).length<=1000000:=cal_le sm.c;have b2:(S.cal v).length<=1000000:=cal_le sm.c;refine⟨_,rfl,r,_,a2.dx,_,_,rfl,h4.ins,cl_Rooms T,T.n_called,lk_called _ _ _,_,rfl,a2.aC,_,_,_,rfl,rfl,SqL.of h4.hC,ref_at hpu,.inl ⟨rfl,_,SqL.of hPU⟩,?_⟩;refine⟨_,rfl,r,_,a2.dx,_,_,rfl,h4.ins,cl_Rooms T,T.n_called,lk_called _ _ _,_,rfl,a2.aC,_,_,_,rfl,rfl,SqL.of h4.hC,ref_at hpv,pu,pv,_,_,rfl,rfl,hPU,hPV4,?_,?_⟩
   ·rw[ints_len,ints_len,nI_len,nI_len];exact Nat.le_trans (show _<=2000000 by omega) (by decide)
   have eC:intV (nI (S.cal u))++intV (nI (S.cal v))=intV (nI (S.cal u++S.cal v)):=by rw[nI_app,ints_app]
   rw[eC];have h5:=h4.setCalled hpu (S.cal u++S.cal v);have mpu:=mem_cs (List.mem_of_getElem? hpu);have B5:ButP a r p H (upd H4 pu (.lst (intV (nI (S.cal u++S.cal v))))):=λb o nb nbp e=>by rw[upd_ne (λz=>nb ((eo b).mp (.inr (.inl (by rw[z];exact mpu)))))];exact B4 b o nb nbp e
   have P5:PendAt (upd H4 pu (.lst (intV (nI (S.cal u++S.cal v))))) p pend:=P4.keep (λo e=>by rw[upd_ne (npl2 mpu)];exact e) (λb xs e=>by rw[upd_ne (h4.tl e mpu)];exact e);generalize upd H4 pu (.lst (intV (nI (S.cal u++S.cal v))))=H5 at h5 B5 P5 ⊢;have h5':RoomsAt A.c_Rooms H5 r (S.joined c z u v) a2:=h5;refine⟨_,rfl,r,a2.dx,_,rfl,h5'.ins,lk_none _ _ _ (by decide +kernel),_,rfl,_,rfl,r,p,S.joined c z u v,a2,v,pend,rfl,h5',⟨hw.w,hw.g,?_,?_⟩,hmx,⟨ok.nd,ok.lt,ok.bk⟩,sm.w,P5,np2,hpl,λa' H' b' r' p' o'=>ek a' H' (λb o nb nbp e=>b' b o (λz=>nb ((eo b).mp z)) nbp (B5 b o nb nbp e)) r' p' (λb hb=>?_)⟩
   ·show ((S.cal v).foldl (λes n=>es.set n u) S.elders).length=S.made;rw[fold_len];exact hw.e
   ·show (S.called.set u (S.cal u++S.cal v)).length=S.made;rw[List.length_set];exact hw.c
   ·rcases o' b hb with q|q
    ·exact .inl ((eo b).mp q)
    ·by_cases ho:a.own r b
     ·exact .inl ho
     ·refine .inr ?_
      cases e:H b with
      |none=>rfl
      |some o=>
       by_cases hbp:b=p
       ·obtain⟨qs,q1,_⟩:=P5;rw[hbp,q1]at q;cases q
       ·rw[B5 b o ho hbp e]at q;cases q
theorem ok_Rooms_take_in (T:Txt K mg A):FnOk P w K mg base CX0 3 A.f_Rooms_take_in A.d_Rooms_take_in ["self","way","pending"] (spTakeIn A.c_Rooms):=by
 have G_Rooms_put_together:FnOk P w K mg base CX0 2 A.f_Rooms_put_together A.d_Rooms_put_together ["self","room","step","one","other","pending"] (spPutTo A.c_Rooms):=ok_Rooms_put_together T;have G_Rooms_keep:FnOk P w K mg base CX0 1 A.f_Rooms_keep A.d_Rooms_keep ["self","room","step","other"] (spKeep A.c_Rooms):=ok_Rooms_keep T;refine T.Rooms_take_in.F.ok sc_Rooms_take_in (λvs H Q E h=>?_) (λcdv AA outer s H vs Q E hr h=>?_)
 ·obtain⟨r,t,p,S,a,w,pend,rfl,_⟩:=h;rfl
 ·obtain⟨r,t,p,S,a,w,pend,rfl,h,ht,ok,hw1,hw3,hP,np,hpl,k⟩:=h;have hu2:=hu_of hr
  refine⟨_,(pss_cons (ps_set (i:=3) sc_Rooms_take_in.nd rfl (Or.inl rfl) (pe_ix ix_list (pe_fld (pv 0) rfl) (pe_ix ix_tup (pv 1) pe_int (λ_ _=>rfl)) (λ_ _=>rfl)))
   (pss_cons (ps_set (i:=4) sc_Rooms_take_in.nd rfl (Or.inl rfl) (pe_ix ix_tup (pv 1) pe_int (λ_ _=>rfl)))
   (pss_cons (ps_set (i:=5) sc_Rooms_take_in.nd rfl (Or.inl rfl) (pe_ix ix_list (pe_fld (pv 0) rfl) (pe_ix ix_tup (pv 1) pe_int (λ_ _=>rfl)) (λ_ _=>rfl)))
   (pss_cons (ps_set (i:=6) sc_Rooms_take_in.nd rfl (Or.inl rfl) (pe_dget2 hu2 (pe_ix ix_list (pe_fld (pv 0) rfl) (pv 3) (λ_ _=>rfl)) (pv 4) (pv 5) ⟨rfl,rfl,rfl,rfl⟩))
   (pss_cons (ps_set (i:=7) sc_Rooms_take_in.nd rfl (Or.inl rfl) (pe_dget2 hu2 (pe_ix ix_list (pe_fld (pv 0) rfl) (pv 5) (λ_ _=>rfl)) (pe_un un_neg (pv 4)) (pv 3) ⟨rfl,rfl,rfl,rfl⟩))
   (pss_one (ps_cut (ps_if (pt_cmpR op_ne (pv 6) (pv 5) (nomark _))
    (pss_one (ps_expr (pe_meth (pv 0) (cl_Rooms T) T.Rooms_put_together.m (G_Rooms_put_together) (hr.mono (by decide)) T.Rooms_put_together.b .nil pass0 (pa_cons (pv 3) (pa_cons (pv 4) (pa_cons (pv 6) (pa_cons (pv 5) (pa_cons (pv 2) pa_nil))))))))
    (pss_one (ps_cut (ps_if (pt_cmpR op_ne (pv 7) (pv 3) (nomark _))
     (pss_one (ps_expr (pe_meth (pv 0) (cl_Rooms T) T.Rooms_put_together.m (G_Rooms_put_together) (hr.mono (by decide)) T.Rooms_put_together.b .nil pass0 (pa_cons (pv 5) (pa_cons (pe_un un_neg (pv 4)) (pa_cons (pv 7) (pa_cons (pv 3) (pa_cons (pv 2) pa_nil))))))))
     (pss_one (ps_expr (pe_meth (pv 0) (cl_Rooms T) T.Rooms_keep.m (G_Rooms_keep) (hr.mono (by decide)) T.Rooms_keep.b .nil pass0 (pa_cons (pv 3) (pa_cons (pv 4) (pa_cons (pv 5) pa_nil))))))))))))))))),?_⟩
  try dsimp only[cx_noxK,cx_K]
  refine seq_let5 ?_;intro u_5 u_4 u_3 u_2 u_1;have sq:SqT K H t [.int (w.1:Int),.int w.2.1,.int (w.2.2:Int)]:=SqT.of ht;have hel:∀{c:Nat},c<S.made->S.elders[c]?=some (S.eld c):=λ{c} hc=>eld_at (by rw[ok.wf.e];exact hc)
  have hc:=ok.el _ hw1;have hd:=ok.el _ hw3;refine⟨_,rfl,r,_,a.dx,_,_,rfl,h.ins,cl_Rooms T,T.n_elders,lk_elders _ _ _,_,rfl,t,_,_,_,rfl,rfl,sq,(rfl:atI _ (0:Int)=_),a.aE,_,_,_,rfl,rfl,SqL.of h.hE,atI_nat (ints_at (nI_get (hel hw1))),?_⟩;refine⟨_,rfl,t,_,_,_,rfl,rfl,sq,(rfl:atI _ (1:Int)=_),?_⟩;refine⟨_,rfl,r,_,a.dx,_,_,rfl,h.ins,cl_Rooms T,T.n_elders,lk_elders _ _ _,_,rfl,t,_,_,_,rfl,rfl,sq,(rfl:atI _ (2:Int)=_),a.aE,_,_,_,rfl,rfl,SqL.of h.hE,atI_nat (ints_at (nI_get (hel hw3))),?_⟩;have k':=k;clear k;unfold RS.takeIn at k';generalize S.eld w.1=c at hc k' ⊢;generalize S.eld w.2.2=d at hd k' ⊢;generalize w.2.1=z at k' ⊢;obtain⟨pc,hpc,hPC⟩:=h.rW.at (way_at (S:=S) (c:=c) (by rw[ok.wf.w];exact hc));obtain⟨pd,hpd,hPD⟩:=h.rW.at (way_at (S:=S) (c:=d) (by rw[ok.wf.w];exact hd));have gd:∀(o:Option Nat) (n:Nat),(o.map λr:Nat=>V.int (r:Int)).getD (.int (n:Int))=V.int ((o.getD n:Nat):Int):=λo n=>by cases o <;> rfl
  refine⟨_,rfl,r,_,a.dx,_,_,rfl,h.ins,cl_Rooms T,T.n_ways,lk_ways _ _ _,_,rfl,a.aW,_,_,_,rfl,rfl,SqL.of h.hW,ref_at hpc,pc,rfl,.inl ⟨_,.inl hPC⟩,_,rfl,_,rfl,_,DGet.k (k:=Sum.inl z) hPC,?_⟩;rw[wK_val,gd];show _;refine⟨_,rfl,r,_,a.dx,_,_,rfl,h.ins,cl_Rooms T,T.n_ways,lk_ways _ _ _,_,rfl,a.aW,_,_,_,rfl,rfl,SqL.of h.hW,ref_at hpd,pd,rfl,.inl ⟨_,.inl hPD⟩,_,rfl,_,rfl,_,rfl,_,DGet.k (k:=Sum.inl (-z)) hPD,?_⟩;rw[wK_val,gd];have e1:getW (S.way c) z=S.by c z:=rfl;have e2:getW (S.way d) (-z)=S.by d (-z):=rfl;rw[e1,e2]
  have hl:(S.by c z).getD d<S.made:=by
   cases e:S.by c z with
   |none=>exact hd
   |some m=>exact ok.bl _ _ _ e
  have hf:(S.by d (-z)).getD c<S.made:=by
   cases e:S.by d (-z) with
   |none=>exact hc
   |some m=>exact ok.bl _ _ _ e
  generalize (S.by c z).getD d=l at hl k' ⊢;generalize (S.by d (-z)).getD c=f at hf k' ⊢
  have ne:∀{m n:Nat},m≠n->(!decide (V.int (m:Int)=V.int (n:Int)))=true:=λ{m n} q=>by
   rw[decide_eq_false (λz=>q (by injection z with z;omega))];rfl
  refine⟨λ_ H'=>Q .non H',?_,λ_ _ q=>q⟩;by_cases h1:l≠d
  ·rw[if_pos h1]at k';refine⟨_,rfl,_,rfl,rfl,_,rfl,?_⟩;rw[ne h1];refine iteT ?_;exact⟨_,rfl,r,a.dx,_,rfl,h.ins,lk_none _ _ _ (by decide +kernel),_,rfl,_,rfl,_,rfl,_,rfl,_,rfl,r,p,S,a,c,l,d,z,pend,rfl,h,ok.wf,hl,hd,h1,ok.off _ (by omega),λn hn=>ok.cl _ n hn,ok.sm,hP,np,hpl,k'⟩
  ·have h1':l=d:=Decidable.not_not.mp h1;rw[if_neg h1]at k';refine⟨_,rfl,_,rfl,rfl,_,rfl,iteNS (by rw[h1']) ?_⟩;refine⟨λ_ H'=>Q .non H',?_,λ_ _ q=>q⟩;by_cases h2:f≠c
   ·rw[if_pos h2]at k';refine⟨_,rfl,_,rfl,rfl,_,rfl,?_⟩;rw[ne h2];refine iteT ?_;exact⟨_,rfl,r,a.dx,_,rfl,h.ins,lk_none _ _ _ (by decide +kernel),_,rfl,_,rfl,_,rfl,_,rfl,_,rfl,_,rfl,r,p,S,a,d,f,c,-z,pend,rfl,h,ok.wf,hf,hc,h2,ok.off _ (by omega),λn hn=>ok.cl _ n hn,ok.sm,hP,np,hpl,k'⟩
   ·have h2':f=c:=Decidable.not_not.mp h2;rw[if_neg h2]at k';refine⟨_,rfl,_,rfl,rfl,_,rfl,iteNS (by rw[h2']) ?_⟩;refine⟨_,rfl,r,a.dx,_,rfl,h.ins,lk_none _ _ _ (by decide +kernel),_,rfl,_,rfl,_,rfl,r,S,a,c,d,z,rfl,h,ok.wf,hc,hd,ok.sm.w,λH' b' r'=>k' a H' (λb o nb _ e=>b' b o nb e) r' (hP.keep (λo e=>b' _ _ np e) (λb xs e=>b' _ _ (h.notup e) e)) λb hb=>.inl hb⟩
theorem ok_Rooms_lay (T:Txt K mg A):FnOk P w K mg base CX0 5 A.f_Rooms_lay A.d_Rooms_lay ["self","room","step","other","row"] (spLay A.c_Rooms):=by
 have G_own:FnOk P w K mg base CX0 4 A.f_own A.d_own ["value"] (spOwn 2):=ok_own_v2 T;have G_Rooms_take_in:FnOk P w K mg base CX0 3 A.f_Rooms_take_in A.d_Rooms_take_in ["self","way","pending"] (spTakeIn A.c_Rooms):=ok_Rooms_take_in T;refine T.Rooms_lay.F.ok sc_Rooms_lay (λvs H Q E h=>?_) (λcdv AA outer s H vs Q E hr h=>?_)
 ·obtain⟨r,q,S,a,c,d,z,row,I,μ,rfl,_⟩:=h;rfl
 ·obtain⟨r,q,S,a,c,d,z,row,I,μ,rfl,h,hrl,hq,hrow,hI,step,k⟩:=h
  refine⟨_,(pss_cons (ps_expr (pe_bm PySem.F.plainAttrs_list PySem.F.slot_list_append PySem.F.type_list_append mt_append (pe_fld (pv 0) rfl) (pa_cons (pe_call (G_own) (hr.mono (by decide)) rfl T.own.m T.own.F.kp T.own.b .nil pass0 (pa_cons (pv 4) pa_nil)) pa_nil)))
   (pss_cons (ps_set (i:=5) sc_Rooms_lay.nd rfl (Or.inl rfl) (pe_lst (pa_cons (pe_tup (pa_cons (pv 1) (pa_cons (pv 2) (pa_cons (pv 3) pa_nil)))) pa_nil)))
   (pss_one (ps_cut (ps_while PassesOwn.never (pt_truth (pv 5) (λ_=>rfl))
    (pss_one (ps_expr (pe_meth (pv 0) (cl_Rooms T) T.Rooms_take_in.m (G_Rooms_take_in) (hr.mono (by decide)) T.Rooms_take_in.b .nil pass0 (pa_cons (pe_bm0 PySem.F.plainAttrs_list PySem.F.slot_list_pop PySem.F.type_list_pop mt_pop (pv 5)) (pa_cons (pv 5) pa_nil)))))))))),?_⟩
  try dsimp only[cx_noxK,cx_K]
  refine seq_let2 ?_;intro u_2 u_1;have lR:(a.rs.map V.ref).length<sizeLine:=by rw[List.length_map,h.rR.1];exact Nat.lt_of_le_of_lt hrl (by decide)
  obtain⟨ds,rfl⟩:∃ds,row=.t ds:=by
   cases hq with
   |t=>exact⟨_,rfl⟩
   |l=>cases hrow
  refine⟨_,rfl,r,_,a.dx,_,_,rfl,h.ins,cl_Rooms T,T.n_rows,lk_rows _ _ _,.inl ⟨rfl,_,SqL.of h.hR⟩,_,rfl,.ref q,.t ds,rfl,hq,hrow,λv' H1 s1 hv'=>?_⟩;obtain⟨q',rfl⟩:∃q',v'=.ref q':=by cases hv' with|t=>exact⟨_,rfl⟩
  refine⟨a.aR,_,_,rfl,rfl,s1 _ _ h.hR,lR,?_⟩;have h2:=(h.same s1).addRow (hv'.le (by decide)) hrow;have B2:ButO a r H (upd H1 a.aR (.lst (a.rs.map V.ref++[.ref q']))):=λb o nb e=>by rw[upd_ne (λz=>nb (.inr (.inl (by rw[z];exact mem_R))))];exact s1 _ _ e
  generalize upd H1 a.aR (.lst (a.rs.map V.ref++[.ref q']))=H2 at h2 B2 ⊢;generalize ea2:({ a with rs:=a.rs++[q'] }:RA)=a2 at h2;have eo:∀b,a2.own r b↔a.own r b:=λb=>by rw[←ea2];exact Iff.rfl
  refine⟨_,rfl,_,rfl,_,rfl,(by show 3<=sizeLine;decide),λt nt=>?_⟩;have s3:=Same.upd (o:=.tup [.int (c:Int),.int z,.int (d:Int)]) nt;have ht3:upd H2 t (.tup [.int (c:Int),.int z,.int (d:Int)]) t=some (.tup [.int (c:Int),.int z,.int (d:Int)]):=upd_same;generalize upd H2 t (.tup [.int (c:Int),.int z,.int (d:Int)])=H3 at s3 ht3 ⊢;refine⟨(by show 1<=sizeLine;decide),λp npn=>?_⟩;have s4:=Same.upd (o:=.lst [.ref t]) npn;have hp4:upd H3 p (.lst [.ref t]) p=some (.lst [.ref t]):=upd_same;have np0:¬a2.own r p:=(h2.same s3).mkL npn;generalize upd H3 p (.lst [.ref t])=H4 at s4 hp4 ⊢
  have npH:H p=none:=by
   cases e:H p with
   |none=>rfl
   |some o=>have:=s3 _ _ (B2 p o (λz=>np0 ((eo p).mpr z)) e);rw[npn]at this;cases this
  have B4:ButO a r H H4:=λb o nb e=>s4 _ _ (s3 _ _ (B2 b o nb e))
  have P4:PendAt H4 p [(c,z,d)]:=⟨[t],hp4,Each.snoc (ps:=[]) (xs:=[]) ⟨rfl,λi p d h=>by simp at h⟩ (s4 _ _ ht3)⟩;refine⟨λ_ H'=>Q .non H',?_,λ_ _ q=>q⟩;refine⟨λm σ H5=>∃S5 a5 pend,m=μ S5 pend/\σ=[some (.ref r),some (.int (c:Int)),some (.int z),some (.int (d:Int)),some (.ref q),some (.ref p)]/\RoomsAt A.c_Rooms H5 r S5 a5/\PendAt H5 p pend/\I S5 pend/\¬a5.own r p/\(∀b o,¬a.own r b->b≠p->H b=some o->H5 b=some o)/\∀b,a5.own r b->a.own r b\/H b=none,⟨_,_,a2,[(c,z,d)],rfl,rfl,(h2.same s3).same s4,P4,hI,np0,λb o nb _ e=>B4 b o nb e,λb hb=>.inl ((eo b).mp hb)⟩,?_⟩;rintro m σ H5 ⟨S5,a5,pend,rfl,rfl,h5,P5,I5,np5,B5,O5⟩;obtain⟨qs,hqs,hqe⟩:=id P5;refine⟨_,rfl,!(qs.map V.ref).isEmpty,.inl ⟨_,SqL.of hqs,rfl⟩,?_⟩;by_cases hne:pend=[]
  ·subst hne;have eq0:qs=[]:=List.eq_nil_of_length_eq_zero hqe.1;subst eq0;refine iteF ?_;exact k S5 a5 H5 (λb o nb e=>B5 b o nb (λz=>by rw[z,npH]at e;cases e) e) h5 I5 O5
  ·have hsp:=List.dropLast_concat_getLast hne;generalize pend.getLast hne=w at hsp;generalize pend.dropLast=pre at hsp;subst hsp;have hql:qs.length=pre.length+ 1:=by rw[hqe.1,List.length_append];rfl
   have hqn:qs≠[]:=λz=>by rw[z]at hql;cases hql
   have hqsp:=List.dropLast_concat_getLast hqn;generalize qs.getLast hqn=tq at hqsp;generalize qs.dropLast=qpre at hqsp;subst hqsp;have hpl:qpre.length=pre.length:=by rw[List.length_append]at hql;have:([tq]:List Addr).length=1:=rfl;omega
   obtain⟨ok,hw1,hw3,hb,hI2,hmu⟩:=step S5 pre w I5;have htq:H5 tq=some (.tup [.int (w.1:Int),.int w.2.1,.int (w.2.2:Int)]):=hqe.2 pre.length tq w (by rw[←hpl,List.getElem?_append_right (Nat.le_refl _),Nat.sub_self];rfl) (by rw[List.getElem?_append_right (Nat.le_refl _),Nat.sub_self];rfl);have ht:(!((qpre++[tq]).map V.ref).isEmpty)=true:=by simp
   rw[ht];refine iteT ?_;refine⟨λ σ' H'=>∃S6 a6 pend6,μ S6 pend6 < μ S5 (pre++[w])/\σ'=[some (.ref r),some (.int (c:Int)),some (.int z),some (.int (d:Int)),some (.ref q),some (.ref p)]/\RoomsAt A.c_Rooms H' r S6 a6/\PendAt H' p pend6/\I S6 pend6/\¬a6.own r p/\(∀b o,¬a.own r b->b≠p->H b=some o->H' b=some o)/\∀b,a6.own r b->a.own r b\/H b=none,λ σ' H' ⟨S6,a6,pend6,lt,e1,e2,e3,e4,e5,e6,e7⟩=>⟨_,lt,S6,a6,pend6,rfl,e1,e2,e3,e4,e5,e6,e7⟩,?_⟩;refine⟨_,rfl,r,a5.dx,_,rfl,h5.ins,lk_none _ _ _ (by decide +kernel),_,rfl,.inl ⟨rfl,_,SqL.of hqs⟩,p,_,.ref tq,rfl,rfl,hqs,?_,?_⟩
   ·rw[List.map_append,List.length_append];show ((qpre.map V.ref)++[V.ref tq])[(qpre.map V.ref).length+ 1 - 1]?=_
    rw[Nat.add_sub_cancel,List.getElem?_append_right (Nat.le_refl _),Nat.sub_self];rfl
   have edl:((qpre++[tq]).map V.ref).dropLast=qpre.map V.ref:=by rw[List.map_append];exact List.dropLast_concat
   rw[edl];have kp:∀b o,b≠p->H5 b=some o->upd H5 p (.lst (qpre.map V.ref)) b=some o:=λb o nb e=>by rw[upd_ne nb];exact e
   have kt:∀b xs,H5 b=some (.tup xs)->upd H5 p (.lst (qpre.map V.ref)) b=some (.tup xs):=λb xs e=>kp b _ (ne_of e hqs (by intro z;cases z)) e
   have h6:=h5.keep (λb o hb e=>kp b o (λz=>np5 (z ▸ hb)) e) kt;have P6:PendAt (upd H5 p (.lst (qpre.map V.ref))) p pre:=⟨qpre,upd_same,hpl,λi t' w' e1 e2=>kt _ _ (hqe.2 i t' w' (by rw[List.getElem?_append_left (List.getElem?_eq_some_iff.mp e1).1];exact e1) (by rw[List.getElem?_append_left (List.getElem?_eq_some_iff.mp e2).1];exact e2))⟩;generalize upd H5 p (.lst (qpre.map V.ref))=H6 at kp kt h6 P6 ⊢;refine⟨_,rfl,r,tq,p,S5,a5,w,pre,rfl,h6,kt _ _ htq,ok,hw1,hw3,P6,np5,hb,λa7 H7 b7 h7 P7 o7=>?_⟩;refine⟨_,a7,_,hmu,rfl,h7,P7,hI2,λz=>?_,λb o nb nbp e=>b7 b o (λz=>?_) nbp (kp b o nbp (B5 b o nb nbp e)),λb hb=>?_⟩
   ·rcases o7 p z with q1|q1
    ·exact np5 q1
    ·obtain⟨_,q2,_⟩:=P6;rw[q1]at q2;cases q2
   ·rcases O5 b z with q1|q1
    ·exact nb q1
    ·rw[q1]at e;cases e
   ·rcases o7 b hb with q1|q1
    ·exact O5 b q1
    ·by_cases ho:a.own r b
     ·exact .inl ho
     ·refine .inr ?_
      cases e:H b with
      |none=>rfl
      |some o=>
       by_cases hbp:b=p
       ·rw[hbp,npH]at e;cases e
       ·rw[kp b o hbp (B5 b o ho hbp e)]at q1;cases q1
theorem drop_at {α:Type}{ws:List α}{i:Nat}{z:α}(h:ws[i]?=some z):ws.drop i=z::ws.drop (i+ 1):=by
 have hi:=(List.getElem?_eq_some_iff.mp h).1;rw[List.drop_eq_getElem_cons hi,(List.getElem?_eq_some_iff.mp h).2]
def spWalked (C:Addr):Sp:=λvs H Q _=>∃(r:Addr) (S:RS) (a:RA) (c:Nat) (t:Addr) (ws:List Int),vs=[.ref r,.int c,.ref t]/\RoomsAt C H r S a/\S.Wf/\c<S.made/\(∀c z d,S.by c z=some d->d<S.made)/\H t=some (.tup (intV ws))/\ws.length<=1000/\∀l H',Same H H'->H' l=some (.lst (intV (nI (c::goesL S.by c ws))))->Q (.ref l) H'
theorem ok_walked (T:Txt K mg A):FnOk P w K mg base CX0 2 A.f_walked A.d_walked ["rooms","room","word"] (spWalked A.c_Rooms):=by
 have G_Rooms_by:FnOk P w K mg base CX0 1 A.f_Rooms_by A.d_Rooms_by ["self","room","step"] (spRBy A.c_Rooms):=ok_Rooms_by T;refine T.walked.F.ok sc_walked (λvs H Q E h=>?_) (λcdv AA outer s H vs Q E hr h=>?_)
 ·obtain⟨r,S,a,c,t,ws,rfl,_⟩:=h;rfl
 ·obtain⟨r,S,a,c,t,ws,rfl,h,hw,hc,hbl,ht,hwl,k⟩:=h
  refine⟨_,(pss_cons (ps_set (i:=3) sc_walked.nd rfl (Or.inl rfl) (pe_lst (pa_cons (pv 1) pa_nil)))
   (pss_cons (ps_for PassesOwn.never rfl (pi_tup (pv 2)) (pg_name (i:=4) sc_walked.nd rfl (Or.inl rfl))
    (pss_cons (ps_set (i:=1) sc_walked.nd rfl (Or.inl rfl) (pe_meth (pv 0) (cl_Rooms T) T.Rooms_by.m (G_Rooms_by) (hr.mono (by decide)) T.Rooms_by.b .nil pass0 (pa_cons (pv 1) (pa_cons (pv 4) pa_nil))))
    (pss_cons (ps_if (pt_cmpR op_isN (pv 1) pe_non (nomark _))
     (pss_one ps_break)
     pss_nil)
    (pss_one (ps_expr (pe_bm PySem.F.plainAttrs_list PySem.F.slot_list_append PySem.F.type_list_append mt_append (pv 3) (pa_cons (pv 1) pa_nil)))))))
   (pss_one (ps_ret (pv 3))))),?_⟩
  try dsimp only[cx_noxK,cx_K]
  refine seq_let2 ?_;intro u_2 u_1;refine⟨_,rfl,(by show 1<=sizeLine;decide),λl nl=>?_⟩;have s1:=Same.upd (o:=.lst [.int (c:Int)]) nl;have hl1:upd H l (.lst [.int (c:Int)]) l=some (.lst (intV (nI [c]))):=upd_same;have nlo:¬a.own r l:=h.mkL nl;generalize upd H l (.lst [.int (c:Int)])=H1 at s1 hl1 ⊢;have ht1:=s1 _ _ ht;have ntl:t≠l:=ne_of_none ht nl;refine⟨_,rfl,t,rfl,⟨_,SqT.of ht1⟩,?_⟩
  have fin:∀{H2:Hp} {pre:List Nat},(∀b o,b≠l->H1 b=some o->H2 b=some o)->H2 l=some (.lst (intV (nI (c::pre))))->goesL S.by c ws=pre->Q (.ref l) H2:=λ{H2 pre} kk hl2 e=>by
   subst e;exact k l H2 (λb o e=>kk b o (ne_of_none e nl) (s1 _ _ e)) hl2
  refine for_tup (xs:=intV ws) (λi σ H2=>∃cur:Nat,∃pre v4,σ=[some (.ref r),some (.int (cur:Int)),some (.ref t),some (.ref l),v4]/\cur<S.made/\pre.length=i/\goesL S.by c ws=pre++goesL S.by cur (ws.drop i)/\(∀b o,b≠l->H1 b=some o->H2 b=some o)/\H2 l=some (.lst (intV (nI (c::pre))))) ⟨c,[],none,rfl,hc,rfl,rfl,λ_ _ _ e=>e,hl1⟩ (λi σ H2 _ ⟨_,_,_,_,_,_,_,kk,_⟩=>SqT.of (kk _ _ ntl ht1)) ?_ ?_
  ·rintro i x σ H2 hx ⟨cur,pre,v4,rfl,hcur,hpl,hg,kk,hl2⟩;obtain⟨z,rfl,hz⟩:=ints_of_at hx;have hi:i<ws.length:=(List.getElem?_eq_some_iff.mp hz).1;have h2:RoomsAt A.c_Rooms H2 r S a:=(h.same s1).keep (λb o hb e=>kk b o (λq=>nlo (q ▸ hb)) e) (λb xs e=>kk b _ (ne_of e hl1 (by intro q;cases q)) e);rw[drop_at hz]at hg;refine⟨_,rfl,r,a.dx,_,rfl,h2.ins,lk_none _ _ _ (by decide +kernel),_,rfl,_,rfl,r,S,a,cur,z,rfl,h2,by rw[hw.w];exact hcur,?_⟩
   cases eb:S.by cur z with
   |none=>
    refine⟨_,rfl,rfl,_,rfl,iteT ?_⟩;rw[goes_none eb,List.append_nil]at hg;exact⟨_,rfl,fin kk hl2 hg⟩
   |some b=>
    rw[show (Option.map (λn:Nat=>V.int (n:Int)) (some b)).getD V.non=V.int (b:Int) from rfl];refine⟨_,rfl,rfl,_,rfl,iteF ?_⟩;rw[goes_some eb]at hg;refine⟨_,rfl,.inl ⟨rfl,_,SqL.of hl2⟩,_,rfl,l,_,_,rfl,rfl,hl2,?_,?_⟩
    ·rw[ints_len,nI_len,List.length_cons,hpl];exact Nat.lt_of_le_of_lt (show i+ 1<=1001 by omega) (by decide)
    refine⟨b,pre++[b],_,rfl,hbl _ _ _ eb,by rw[List.length_append,hpl];rfl,by rw[hg,List.append_assoc];rfl,λx o n e=>by rw[upd_ne n];exact kk x o n e,?_⟩;rw[upd_same,←List.cons_append,nI_app,ints_app];rfl
  ·rintro σ H2 ⟨cur,pre,v4,rfl,hcur,hpl,hg,kk,hl2⟩;rw[ints_len,List.drop_length]at hg;exact⟨_,rfl,fin kk hl2 (by rw[hg];exact List.append_nil _)⟩
def gfl (g:Gg)(wa:Addr):List (Str×V):=[("which",.int g.which),("word",.ref wa),("start",.int g.start),("front",.int g.front),("first",.int g.first),("rear",.int g.rear),("last",.int g.last)]
theorem gl_which (g:Gg)(wa:Addr):(gfl g wa).lookup ("which":Str)=some (.int g.which):=by kernel_rfl
theorem gl_word (g:Gg)(wa:Addr):(gfl g wa).lookup ("word":Str)=some (.ref wa):=by kernel_rfl
theorem gl_start (g:Gg)(wa:Addr):(gfl g wa).lookup ("start":Str)=some (.int g.start):=by kernel_rfl
theorem gl_front (g:Gg)(wa:Addr):(gfl g wa).lookup ("front":Str)=some (.int g.front):=by kernel_rfl
theorem gl_first (g:Gg)(wa:Addr):(gfl g wa).lookup ("first":Str)=some (.int g.first):=by kernel_rfl
theorem gl_rear (g:Gg)(wa:Addr):(gfl g wa).lookup ("rear":Str)=some (.int g.rear):=by kernel_rfl
theorem gl_last (g:Gg)(wa:Addr):(gfl g wa).lookup ("last":Str)=some (.int g.last):=by kernel_rfl
theorem gl_no {g:Gg}{wa:Addr}{x:Str}(h:x∉(["which","word","start","front","first","rear","last"]:List Str)):(gfl g wa).lookup x=none:=by
 simp only[List.mem_cons,List.not_mem_nil,or_false,not_or]at h;obtain⟨h1,h2,h3,h4,h5,h6,h7⟩:=h;unfold gfl;simp only[List.lookup,beq_eq_false_iff_ne.mpr h1,beq_eq_false_iff_ne.mpr h2,beq_eq_false_iff_ne.mpr h3,beq_eq_false_iff_ne.mpr h4,beq_eq_false_iff_ne.mpr h5,beq_eq_false_iff_ne.mpr h6,beq_eq_false_iff_ne.mpr h7]
theorem gp_front (g:Gg)(wa:Addr)(n:Nat):putF "front" (.int n) (gfl g wa)=gfl { g with front:=n } wa:=by kernel_rfl
theorem gp_first (g:Gg)(wa:Addr)(n:Nat):putF "first" (.int n) (gfl g wa)=gfl { g with first:=n } wa:=by kernel_rfl
theorem gp_rear (g:Gg)(wa:Addr)(n:Nat):putF "rear" (.int n) (gfl g wa)=gfl { g with rear:=n } wa:=by kernel_rfl
theorem gp_last (g:Gg)(wa:Addr)(n:Nat):putF "last" (.int n) (gfl g wa)=gfl { g with last:=n } wa:=by kernel_rfl
structure GoAt (CG:Addr) (H:Hp) (p dx wa:Addr) (g:Gg):Prop where
 ins:H p=some (.ins CG dx (gfl g wa))
 wo:H wa=some (.tup (intV g.word))
theorem GoAt.same {CG:Addr}{H H':Hp}{p dx wa:Addr}{g:Gg}(h:GoAt CG H p dx wa g)(s:Same H H'):GoAt CG H' p dx wa g:=⟨s _ _ h.ins,s _ _ h.wo⟩
theorem GoAt.set {CG:Addr}{H:Hp}{p dx wa:Addr}{g g':Gg}(h:GoAt CG H p dx wa g)(e:g'.word=g.word):GoAt CG (upd H p (.ins CG dx (gfl g' wa))) p dx wa g':=⟨upd_same,by rw[upd_ne (ne_of h.wo h.ins (by intro z;cases z)),e];exact h.wo⟩
def fpK (fp:List (List Int×Nat)):List (List Key×V):=fp.map λp=>(p.1.map Sum.inl,V.int p.2)
structure Plcs (rs:List (List Int)) (fp:List (List Int×Nat)):Prop where
 a:∀p∈fp,rs[p.2]?=some p.1
 b:∀w∈rs,∃n,(w,n)∈fp
 n:(fp.map (·.1)).Nodup
theorem fp_val {fp:List (List Int×Nat)}(w:List Int):valV (fpK fp) (w.map Sum.inl)=((fp.find? λp=>decide (p.1=w)).map λp=>V.int p.2):=by
 induction fp with
 |nil=>rfl
 |cons p l ih=>
  by_cases h:p.1=w
  ·rw[List.find?_cons_of_pos (by exact decide_eq_true h)];exact valV_pos (p:=(p.1.map Sum.inl,V.int p.2)) (by rw[h])
  ·rw[List.find?_cons_of_neg (by simpa using h)];refine(valV_neg (p:=(p.1.map Sum.inl,V.int p.2)) (λz=>h ?_)).trans ih
   have inj:∀{a b:List Int},a.map (Sum.inl:Int->Key)=b.map Sum.inl->a=b:=λ{a b} e=>by
    induction a generalizing b with
    |nil=>cases b with|nil=>rfl|cons=>cases e
    |cons x a ih=>cases b with
     |nil=>cases e
     |cons y b=>rw[List.map_cons,List.map_cons]at e;injection e with e1 e2;rw[Sum.inl.inj e1,ih e2]
   exact inj z
def spPlaces:Sp:=λvs H Q _=>∃(l:Addr) (rs:List (List Int)),vs=[.ref l]/\WordsAt H l rs/\rs.length<=1000/\∀d fp H',Same H H'->H d=none->H' d=some (.dT (fpK fp))->Plcs rs fp->Q (.ref d) H'
theorem ok_first_places (T:Txt K mg A):FnOk P w K mg base CX0 1 A.f_first_places A.d_first_places ["rules"] spPlaces:=by
 refine T.first_places.F.ok sc_first_places (λvs H Q E h=>?_) (λcdv AA outer s H vs Q E hr h=>?_)
 ·obtain⟨l,rs,rfl,_⟩:=h;rfl
 ·obtain⟨l,rs,rfl,hW,hl,k⟩:=h;have hu2:=hu_of hr
  refine⟨_,(pss_cons (ps_set (i:=1) sc_first_places.nd rfl (Or.inl rfl) pe_dnewT)
   (pss_cons (ps_for PassesOwn.never rfl (pi_enumL rfl T.z_enumerate (pv 0)) (pg_tup rfl (pgs_cons (pg_name (i:=2) sc_first_places.nd rfl (Or.inl rfl)) (pgs_cons (pg_name (i:=3) sc_first_places.nd rfl (Or.inl rfl)) pgs_nil)))
    (pss_one (ps_expr (pe_dsetT hu2 (pv 1) (pv 3) (pv 2) ⟨rfl,rfl,rfl,rfl⟩))))
   (pss_one (ps_ret (pv 1))))),?_⟩
  try dsimp only[cx_noxK,cx_K]
  refine seq_let2 ?_;intro u_2 u_1;obtain⟨ps,hps,hpt⟩:=id hW;refine λd nd=>?_
  have s1:=Same.upd (o:=.dT []) nd;have q1:upd H d (.dT []) d=some (.dT (fpK [])):=upd_same;generalize upd H d (.dT [])=H1 at s1 q1 ⊢;have ndl:l≠d:=ne_of_none hps nd;refine⟨_,rfl,l,rfl,⟨_,SqL.of (s1 _ _ hps)⟩,?_⟩
  refine for_enumL (K:=K) (a:=l) (xs:=ps.map V.ref) (λi σ H2=>∃fp v2 v3,σ=[some (.ref l),some (.ref d),v2,v3]/\Same H H2/\H2 d=some (.dT (fpK fp))/\(∀p∈fp,rs[p.2]?=some p.1/\p.2<i)/\(∀(j:Nat) (w:List Int),j<i->rs[j]?=some w->∃n,(w,n)∈fp)/\(fp.map (·.1)).Nodup/\fp.length<=i)
   ⟨[],none,none,rfl,s1,q1,(λp hp=>by cases hp),λj w hj=>absurd hj (by omega),List.nodup_nil,Nat.le_refl _⟩ (λi σ H2 _ ⟨_,_,_,_,s2,_⟩=>SqL.of (s2 _ _ hps)) ?_ ?_
  ·rintro i v σ H2 t hi nt ⟨fp,v2,v3,rfl,s2,hd,ha,hb,hn,hlen⟩
   have hil:i<ps.length:=by
    have:=(List.getElem?_eq_some_iff.mp hi).1;rw[List.length_map]at this;exact this
   have hir:i<rs.length:=by rw[←hpt.1];exact hil
   have g1:ps[i]?=some (ps[i]'hil):=List.getElem?_eq_getElem hil
   have g2:rs[i]?=some (rs[i]'hir):=List.getElem?_eq_getElem hir
   rw[List.getElem?_map,g1]at hi;obtain rfl:V.ref (ps[i]'hil)=v:=Option.some.inj hi;generalize ps[i]'hil=q at g1;generalize rs[i]'hir=w at g2;have s3:=Same.upd (o:=.tup [.int (i:Int),.ref q]) nt;refine⟨t,_,rfl,SqT.of upd_same,rfl,_,_,rfl,_,_,rfl,rfl,?_⟩;generalize upd H2 t (.tup [.int (i:Int),.ref q])=H3 at s3 ⊢;have hd3:=s3 _ _ hd;have hq:H3 q=some (.tup ((w.map (Sum.inl:Int->Key)).map kV)):=by rw[List.map_map];exact(s2.trans s3) _ _ (hpt.2 i q w g1 g2)
   refine⟨_,rfl,d,rfl,.inr ⟨_,.inl hd3⟩,_,rfl,_,rfl,fpK fp,w.map Sum.inl,q,hd3,rfl,hq,?_,λv hv=>?_,λhv=>?_⟩
   ·unfold fpK;rw[List.length_map];exact Nat.lt_of_le_of_lt (show fp.length<=1000 by omega) (by decide)
   ·rw[fp_val]at hv;obtain⟨p,hp,rfl⟩:=Option.map_eq_some_iff.mp hv;have e:p.1=w:=by have h9:=List.find?_some hp;simpa using h9
    have hm:=List.mem_of_find?_eq_some hp;refine⟨fp,_,_,rfl,s2.trans s3,hd3,λp hp=>⟨(ha p hp).1,by have:=(ha p hp).2;omega⟩,λj u hj eu=>?_,hn,by omega⟩;by_cases hji:j<i
    ·exact hb j u hji eu
    ·rw[show j=i by omega,g2]at eu;rw[←Option.some.inj eu,←e];exact⟨p.2,hm⟩
   ·rw[fp_val]at hv
    have hno:∀p∈fp,p.1≠w:=λp hp e=>by
     have:=List.find?_eq_none.mp (Option.map_eq_none_iff.mp hv) p hp;exact this (decide_eq_true e)
    have ep:putK (fpK fp) (w.map Sum.inl) (V.int (i:Int))=fpK (fp++[(w,i)]):=by
     rw[putK_new _ (by rw[fp_val];exact hv)];unfold fpK;rw[List.map_append];rfl
    rw[ep];have nd2:H d=none:=nd;refine⟨fp++[(w,i)],_,_,rfl,λb o e=>by rw[upd_ne (ne_of_none e nd2)];exact(s2.trans s3) _ _ e,upd_same,λp hp=>?_,λj u hj eu=>?_,?_,by rw[List.length_append];show _+ 1<=_;omega⟩
    ·rcases List.mem_append.mp hp with z|z
     ·exact⟨(ha p z).1,by have:=(ha p z).2;omega⟩
     ·rw[List.mem_singleton.mp z];exact⟨g2,by show i<i+ 1;omega⟩
    ·by_cases hji:j<i
     ·obtain⟨n,hn⟩:=hb j u hji eu;exact⟨n,List.mem_append_left _ hn⟩
     ·rw[show j=i by omega,g2]at eu;rw[←Option.some.inj eu];exact⟨i,List.mem_append_right _ (List.mem_singleton.mpr rfl)⟩
    ·rw[List.map_append,List.nodup_append];refine⟨hn,by simp,λx hx y hy e=>?_⟩;have hy:y=w:=List.mem_singleton.mp hy;obtain⟨p,hp,rfl⟩:=List.mem_map.mp hx;exact hno p hp (e.trans hy)
  ·rintro σ H2 ⟨fp,v2,v3,rfl,s2,hd,ha,hb,hn,hlen⟩;refine⟨_,rfl,k d fp H2 s2 nd hd ⟨λp hp=>(ha p hp).1,λw hw=>?_,hn⟩⟩;obtain⟨j,hj⟩:=List.getElem?_of_mem hw;exact hb j w (by rw[List.length_map,hpt.1];exact(List.getElem?_eq_some_iff.mp hj).1) hj
def gg0 (which:Nat)(word:List Int)(start:Nat):Gg:=⟨which,word,start,start,0,start,word.length - 1⟩
def spGNew (CG:Addr):Sp:=λvs H Q _=>∃(x dx wa:Addr) (which start:Nat) (word:List Int),vs=[.ref x,.int which,.ref wa,.int start]/\H x=some (.ins CG dx [])/\H wa=some (.tup (intV word))/\1<=word.length/\word.length<=1000/\∀H',(∀b o,H b=some o->b≠x->H' b=some o)->GoAt CG H' x dx wa (gg0 which word start)->Q .non H'
def gx1 (which start:Nat)(wa:Addr)(l:Int):List (Str×V):=[("which",.int which)]
def gx2 (which start:Nat)(wa:Addr)(l:Int):List (Str×V):=[("which",.int which),("word",.ref wa)]
def gx3 (which start:Nat)(wa:Addr)(l:Int):List (Str×V):=[("which",.int which),("word",.ref wa),("start",.int start)]
def gx4 (which start:Nat)(wa:Addr)(l:Int):List (Str×V):=[("which",.int which),("word",.ref wa),("start",.int start),("front",.int start)]
def gx5 (which start:Nat)(wa:Addr)(l:Int):List (Str×V):=[("which",.int which),("word",.ref wa),("start",.int start),("front",.int start),("first",.int 0)]
def gx6 (which start:Nat)(wa:Addr)(l:Int):List (Str×V):=[("which",.int which),("word",.ref wa),("start",.int start),("front",.int start),("first",.int 0),("rear",.int start)]
def gx7 (which start:Nat)(wa:Addr)(l:Int):List (Str×V):=[("which",.int which),("word",.ref wa),("start",.int start),("front",.int start),("first",.int 0),("rear",.int start),("last",.int l)]
theorem gy2 (which start:Nat)(wa:Addr)(l:Int):putF "word" (.ref wa) (gx1 which start wa l)=gx2 which start wa l:=putF_new (by kernel_rfl)
theorem gy3 (which start:Nat)(wa:Addr)(l:Int):putF "start" (.int start) (gx2 which start wa l)=gx3 which start wa l:=putF_new (by kernel_rfl)
theorem gy4 (which start:Nat)(wa:Addr)(l:Int):putF "front" (.int start) (gx3 which start wa l)=gx4 which start wa l:=putF_new (by kernel_rfl)
theorem gy5 (which start:Nat)(wa:Addr)(l:Int):putF "first" (.int 0) (gx4 which start wa l)=gx5 which start wa l:=putF_new (by kernel_rfl)
theorem gy6 (which start:Nat)(wa:Addr)(l:Int):putF "rear" (.int start) (gx5 which start wa l)=gx6 which start wa l:=putF_new (by kernel_rfl)
theorem gy7 (which start:Nat)(wa:Addr)(l:Int):putF "last" (.int l) (gx6 which start wa l)=gx7 which start wa l:=putF_new (by kernel_rfl)
theorem ok_Going___init__ (T:Txt K mg A):FnOk P w K mg base CX0 1 A.f_Going___init__ A.d_Going___init__ ["self","which","word","start"] (spGNew A.c_Going):=by
 refine T.Going___init__.F.ok sc_Going___init__ (λvs H Q E h=>?_) (λcdv AA outer s H vs Q E hr h=>?_)
 ·obtain⟨x,dx,wa,which,start,word,rfl,_⟩:=h;rfl
 ·obtain⟨x,dx,wa,which,start,word,rfl,hx,hwa,hl1,hl2,k⟩:=h
  refine⟨_,(pss_cons (ps_fld (pv 0) (pv 1) rfl)
   (pss_cons (ps_fld (pv 0) (pv 2) rfl)
   (pss_cons (ps_fld (pv 0) (pv 3) rfl)
   (pss_cons (ps_fld (pv 0) (pv 3) rfl)
   (pss_cons (ps_fld (pv 0) pe_int rfl)
   (pss_cons (ps_fld (pv 0) (pv 3) rfl)
   (pss_one (ps_fld (pv 0) (pe_op op_sub (pe_callB call_len_seq rfl T.z_len PySem.boot_len (pa_cons (pv 2) pa_nil)) pe_int) rfl)))))))),?_⟩
  try dsimp only[cx_noxK,cx_K]
  refine seq_let6 ?_;intro u_6 u_5 u_4 u_3 u_2 u_1;have st:∀{H0:Hp} {fs gs:List (Str×V)},H0 x=some (.ins A.c_Going dx fs)->(∀b o,H b=some o->b≠x->H0 b=some o)->upd H0 x (.ins A.c_Going dx gs) x=some (.ins A.c_Going dx gs)/\∀b o,H b=some o->b≠x->upd H0 x (.ins A.c_Going dx gs) b=some o:=λ_ h=>⟨upd_same,λb o e n=>by rw[upd_ne n];exact h b o e n⟩
  have nxw:wa≠x:=ne_of hwa hx (by intro z;cases z);have o0:∀b o,H b=some o->b≠x->H b=some o:=λb o e _=>e
  refine⟨_,rfl,_,rfl,x,_,dx,_,rfl,hx,cl_Going T,T.nG_which,(by show 0<1000;decide),?_⟩;rw[show putF "which" (.int which) []=gx1 which start wa (((word.length - 1:Nat):Int)) from rfl];obtain⟨x1,o1⟩:=st (gs:=gx1 which start wa (((word.length - 1:Nat):Int))) hx o0;generalize upd H x (.ins A.c_Going dx (gx1 which start wa (((word.length - 1:Nat):Int))))=H1 at x1 o1 ⊢;refine⟨_,rfl,_,rfl,x,_,dx,_,rfl,x1,cl_Going T,T.nG_word,(by show 1<1000;decide),?_⟩;rw[gy2];obtain⟨x2,o2⟩:=st (gs:=gx2 which start wa (((word.length - 1:Nat):Int))) x1 o1;generalize upd H1 x (.ins A.c_Going dx (gx2 which start wa (((word.length - 1:Nat):Int))))=H2 at x2 o2 ⊢;refine⟨_,rfl,_,rfl,x,_,dx,_,rfl,x2,cl_Going T,T.nG_start,(by show 2<1000;decide),?_⟩;rw[gy3];obtain⟨x3,o3⟩:=st (gs:=gx3 which start wa (((word.length - 1:Nat):Int))) x2 o2;generalize upd H2 x (.ins A.c_Going dx (gx3 which start wa (((word.length - 1:Nat):Int))))=H3 at x3 o3 ⊢;refine⟨_,rfl,_,rfl,x,_,dx,_,rfl,x3,cl_Going T,T.nG_front,(by show 3<1000;decide),?_⟩;rw[gy4];obtain⟨x4,o4⟩:=st (gs:=gx4 which start wa (((word.length - 1:Nat):Int))) x3 o3;generalize upd H3 x (.ins A.c_Going dx (gx4 which start wa (((word.length - 1:Nat):Int))))=H4 at x4 o4 ⊢;refine⟨_,rfl,x,_,dx,_,rfl,x4,cl_Going T,T.nG_first,(by show 4<1000;decide),?_⟩;rw[gy5];obtain⟨x5,o5⟩:=st (gs:=gx5 which start wa (((word.length - 1:Nat):Int))) x4 o4;generalize upd H4 x (.ins A.c_Going dx (gx5 which start wa (((word.length - 1:Nat):Int))))=H5 at x5 o5 ⊢;refine⟨_,rfl,_,rfl,x,_,dx,_,rfl,x5,cl_Going T,T.nG_rear,(by show 5<1000;decide),?_⟩;rw[gy6];obtain⟨x6,o6⟩:=st (gs:=gx6 which start wa (((word.length - 1:Nat):Int))) x5 o5;generalize upd H5 x (.ins A.c_Going dx (gx6 which start wa (((word.length - 1:Nat):Int))))=H6 at x6 o6 ⊢;refine⟨_,rfl,wa,_,rfl,.inr (SqT.of (o6 _ _ hwa nxw)),_,_,rfl,rfl,_,rfl,x,_,dx,_,rfl,x6,cl_Going T,T.nG_last,(by show 6<1000;decide),?_⟩;rw[show (λ(i j:Int)=>V.int (i - j)) ((intV word).length:Int) 1=V.int (((word.length - 1:Nat):Int)) by show V.int (((intV word).length:Int) - 1)=_;rw[ints_len];congr 1;omega];rw[gy7];obtain⟨x7,o7⟩:=st (gs:=gx7 which start wa (((word.length - 1:Nat):Int))) x6 o6;generalize upd H6 x (.ins A.c_Going dx (gx7 which start wa (((word.length - 1:Nat):Int))))=H7 at x7 o7 ⊢;exact k H7 o7 ⟨x7,o7 _ _ hwa nxw⟩
structure AdI (S:RS) (g g':Gg):Prop where
 wh:g'.which=g.which
 wo:g'.word=g.word
 st:g'.start=g.start
 gi:GI S g'
 ef:S.eld g'.front=g'.front
 er:S.eld g'.rear=g'.rear
 k1:S.eld g.front=g.front->S.by g.front g.z1=none->g'.front=g.front/\g'.first=g.first
 k2:S.eld g.rear=g.rear->S.by g.rear g.z2=none->g'.rear=g.rear/\g'.last=g.last
theorem AdI.fwd {S:RS}{R:Nat->Int->Nat->Prop}{g g1:Gg}(h:AdI S g g1)(gd:Good S [] R)(hlt:g1.first<g1.last){c:Nat}(hc:S.by g1.front g1.z1=some c):AdI S g { g1 with front:=c,first:=g1.first+ 1 }:=by
 obtain⟨_,hcm,_,ec⟩:=gd.st _ _ _ hc;have ll:=h.gi.ll;have hz:=Gg.at1 (g:=g1) (by omega);refine⟨h.wh,h.wo,h.st,⟨hlt,ll,h.gi.s,hcm,h.gi.r,?_,h.gi.wr⟩,ec,h.er,λe1 e2=>?_,h.k2⟩
 ·have:=h.gi.wf;rw[h.ef]at this;show wk S.by _ (g1.word.take (g1.first+ 1))=some (S.eld c);rw[take_snoc hz,wk_app this,wk_one hc,ec]
 ·obtain⟨q1,q2⟩:=h.k1 e1 e2;unfold Gg.z1 at hc e2;rw[q1,q2,h.wo,e2]at hc;cases hc
theorem AdI.bwd {S:RS}{R:Nat->Int->Nat->Prop}{g g1:Gg}(h:AdI S g g1)(gd:Good S [] R)(hlt:g1.first<g1.last){c:Nat}(hc:S.by g1.rear g1.z2=some c):AdI S g { g1 with rear:=c,last:=g1.last - 1 }:=by
 obtain⟨_,hcm,_,ec⟩:=gd.st _ _ _ hc;have ll:=h.gi.ll;have hz:=Gg.at2 (g:=g1) ll;refine⟨h.wh,h.wo,h.st,⟨by show g1.first<=g1.last - 1;omega,by show g1.last - 1<g1.word.length;omega,h.gi.s,h.gi.f,hcm,h.gi.wf,?_⟩,h.ef,ec,h.k1,λe1 e2=>?_⟩
 ·have:=h.gi.wr;rw[h.er]at this;show wk S.by (S.eld c) (g1.word.drop (g1.last - 1+ 1))=some (S.eld g1.start);rw[show g1.last - 1+ 1=g1.last by omega,drop_cons hz,ec,wk_cons (gd.sy _ _ _ hc)];exact this
 ·obtain⟨q1,q2⟩:=h.k2 e1 e2;unfold Gg.z2 at hc e2;rw[q1,q2,h.wo,e2]at hc;cases hc
def spAdv (CR CG:Addr):Sp:=λvs H Q _=>∃(p dx wa r:Addr) (g:Gg) (S:RS) (a:RA) (R:Nat->Int->Nat->Prop),vs=[.ref p,.ref r]/\GoAt CG H p dx wa g/\RoomsAt CR H r S a/\Good S [] R/\GI S g/\¬a.own r p/\g.word.length<=1000/\∀g' H',(∀b o,b≠p->H b=some o->H' b=some o)->GoAt CG H' p dx wa g'->Adv S g g'->Q .non H'
theorem ok_Going_advance (T:Txt K mg A):FnOk P w K mg base CX0 2 A.f_Going_advance A.d_Going_advance ["self","rooms"] (spAdv A.c_Rooms A.c_Going):=by
 have G_Rooms_elder:FnOk P w K mg base CX0 1 A.f_Rooms_elder A.d_Rooms_elder ["self","room"] (spElder A.c_Rooms):=ok_Rooms_elder T;have G_Rooms_by:FnOk P w K mg base CX0 1 A.f_Rooms_by A.d_Rooms_by ["self","room","step"] (spRBy A.c_Rooms):=ok_Rooms_by T;refine T.Going_advance.F.ok sc_Going_advance (λvs H Q E h=>?_) (λcdv AA outer s H vs Q E hr h=>?_)
 ·obtain⟨p,dx,wa,r,g,S,a,R,rfl,_⟩:=h;rfl
 ·obtain⟨p,dx,wa,r,g,S,a,R,rfl,hp,hR,gd,gi,npo,hwl,k⟩:=h
  refine⟨_,(pss_cons (ps_fld (pv 0) (pe_meth (pv 1) (cl_Rooms T) T.Rooms_elder.m (G_Rooms_elder) (hr.mono (by decide)) T.Rooms_elder.b .nil pass0 (pa_cons (pe_fld (pv 0) rfl) pa_nil)) rfl)
   (pss_cons (ps_fld (pv 0) (pe_meth (pv 1) (cl_Rooms T) T.Rooms_elder.m (G_Rooms_elder) (hr.mono (by decide)) T.Rooms_elder.b .nil pass0 (pa_cons (pe_fld (pv 0) rfl) pa_nil)) rfl)
   (pss_cons (ps_cut (ps_while PassesOwn.never (pt_cmpR op_lt (pe_fld (pv 0) rfl) (pe_fld (pv 0) rfl) (nomark _))
    (pss_cons (ps_set (i:=2) sc_Going_advance.nd rfl (Or.inl rfl) (pe_meth (pv 1) (cl_Rooms T) T.Rooms_by.m (G_Rooms_by) (hr.mono (by decide)) T.Rooms_by.b .nil pass0 (pa_cons (pe_fld (pv 0) rfl) (pa_cons (pe_ix ix_tup (pe_fld (pv 0) rfl) (pe_fld (pv 0) rfl) (λ_ _=>rfl)) pa_nil))))
    (pss_cons (ps_if (pt_cmpR op_isN (pv 2) pe_non (nomark _))
     (pss_one ps_break)
     pss_nil)
    (pss_cons (ps_fld (pv 0) (pv 2) rfl)
    (pss_one (ps_fld (pv 0) (pe_op op_add (pe_fld (pv 0) rfl) pe_int) rfl)))))))
   (pss_one (ps_cut (ps_while PassesOwn.never (pt_cmpR op_lt (pe_fld (pv 0) rfl) (pe_fld (pv 0) rfl) (nomark _))
    (pss_cons (ps_set (i:=2) sc_Going_advance.nd rfl (Or.inl rfl) (pe_meth (pv 1) (cl_Rooms T) T.Rooms_by.m (G_Rooms_by) (hr.mono (by decide)) T.Rooms_by.b .nil pass0 (pa_cons (pe_fld (pv 0) rfl) (pa_cons (pe_un un_neg (pe_ix ix_tup (pe_fld (pv 0) rfl) (pe_fld (pv 0) rfl) (λ_ _=>rfl))) pa_nil))))
    (pss_cons (ps_if (pt_cmpR op_isN (pv 2) pe_non (nomark _))
     (pss_one ps_break)
     pss_nil)
    (pss_cons (ps_fld (pv 0) (pv 2) rfl)
    (pss_one (ps_fld (pv 0) (pe_op op_sub (pe_fld (pv 0) rfl) pe_int) rfl))))))))))),?_⟩
  try dsimp only[cx_noxK,cx_K]
  refine seq_let3 ?_;intro u_3 u_2 u_1;have eo:∀{c:Nat},c<S.made->S.elders[c]?=some (S.eld c):=λ{c} hc=>eld_at (by rw[gd.wf.e];exact hc)
  have kp:∀{H2:Hp},(∀b o,b≠p->H b=some o->H2 b=some o)->RoomsAt A.c_Rooms H2 r S a:=λ{H2} f=>hR.keep (λb o hb e=>f b o (λz=>npo (z ▸ hb)) e) (λb xs e=>f b _ (ne_of e hp.ins (by intro z;cases z)) e)
  have up:∀{H2:Hp} {o2:HO},(∀b o,b≠p->H b=some o->H2 b=some o)->∀b o,b≠p->H b=some o->upd H2 p o2 b=some o:=λf b o n e=>by rw[upd_ne n];exact f b o n e
  refine⟨_,rfl,r,a.dx,_,rfl,hR.ins,lk_none _ _ _ (by decide +kernel),_,rfl,p,_,dx,_,_,rfl,hp.ins,cl_Going T,T.nG_front,gl_front _ _,r,S,a,g.front,S.eld g.front,rfl,hR,eo gi.f,_,rfl,p,_,dx,_,rfl,hp.ins,cl_Going T,T.nG_front,(by show 7<1000;decide),?_⟩;rw[gp_front];have p1:=hp.set (g':={ g with front:=S.eld g.front }) rfl;have f1:=up (o2:=.ins A.c_Going dx (gfl { g with front:=S.eld g.front } wa)) (λb o _ e=>e);generalize upd H p (.ins A.c_Going dx (gfl { g with front:=S.eld g.front } wa))=H1 at p1 f1 ⊢;have R1:=kp f1;refine⟨_,rfl,r,a.dx,_,rfl,R1.ins,lk_none _ _ _ (by decide +kernel),_,rfl,p,_,dx,_,_,rfl,p1.ins,cl_Going T,T.nG_rear,gl_rear _ _,r,S,a,g.rear,S.eld g.rear,rfl,R1,eo gi.r,_,rfl,p,_,dx,_,rfl,p1.ins,cl_Going T,T.nG_rear,(by show 7<1000;decide),?_⟩;rw[gp_rear];have p2:=p1.set (g':={ g with front:=S.eld g.front,rear:=S.eld g.rear }) rfl;have f2:=up (o2:=.ins A.c_Going dx (gfl { g with front:=S.eld g.front,rear:=S.eld g.rear } wa)) f1;generalize upd H1 p (.ins A.c_Going dx (gfl { g with front:=S.eld g.front,rear:=S.eld g.rear } wa))=H2 at p2 f2 ⊢;have e1:=(gd.el _ gi.f).2;have e2:=(gd.el _ gi.r).2;have ad0:AdI S g { g with front:=S.eld g.front,rear:=S.eld g.rear }:=⟨rfl,rfl,rfl,⟨gi.fl,gi.ll,gi.s,gd.lt gi.f,gd.lt gi.r,by show wk _ _ _=some (S.eld (S.eld g.front));rw[e1];exact gi.wf,by show wk _ (S.eld (S.eld g.rear)) _=_;rw[e2];exact gi.wr⟩,e1,e2,λe _=>⟨e,rfl⟩,λe _=>⟨e,rfl⟩⟩;refine⟨λ σ' H'=>∃g1 v2,σ'=[some (.ref p),some (.ref r),v2]/\(∀b o,b≠p->H b=some o->H' b=some o)/\GoAt A.c_Going H' p dx wa g1/\AdI S g g1/\(g1.first<g1.last->S.by g1.front g1.z1=none),?_,?_⟩
  ·refine⟨λm σ H'=>∃g1 v2,m=g1.last - g1.first/\σ=[some (.ref p),some (.ref r),v2]/\(∀b o,b≠p->H b=some o->H' b=some o)/\GoAt A.c_Going H' p dx wa g1/\AdI S g g1,⟨_,_,none,rfl,rfl,f2,p2,ad0⟩,?_⟩;rintro m σ H' ⟨g1,v2,rfl,rfl,f',p',ad⟩;have R':=kp f';have ll:=ad.gi.ll;have fl:=ad.gi.fl;have lw:g1.word.length<=1000:=by rw[ad.wo];exact hwl
   refine⟨_,rfl,p,_,dx,_,_,rfl,p'.ins,cl_Going T,T.nG_first,gl_first _ _,_,rfl,p,_,dx,_,_,rfl,p'.ins,cl_Going T,T.nG_last,gl_last _ _,_,_,rfl,rfl,_,rfl,?_⟩;refine ite2 (λq=>?_) (λq=>?_)
   ·have q:(g1.first:Int)<(g1.last:Int):=of_decide_eq_true q;refine⟨_,λ_ _ z=>z,?_⟩;have hz:=Gg.at1 (g:=g1) (by omega);refine⟨_,rfl,r,a.dx,_,rfl,R'.ins,lk_none _ _ _ (by decide +kernel),_,rfl,p,_,dx,_,_,rfl,p'.ins,cl_Going T,T.nG_front,gl_front _ _,_,rfl,p,_,dx,_,_,rfl,p'.ins,cl_Going T,T.nG_word,gl_word _ _,_,rfl,p,_,dx,_,_,rfl,p'.ins,cl_Going T,T.nG_first,gl_first _ _,wa,_,_,.int g1.z1,rfl,rfl,SqT.of p'.wo,atI_nat (ints_at hz),r,S,a,g1.front,g1.z1,rfl,R',by rw[gd.wf.w];exact ad.gi.f,?_⟩
    cases eb:S.by g1.front g1.z1 with
    |none=>exact⟨_,rfl,rfl,_,rfl,iteT ⟨g1,_,rfl,f',p',ad,λ_=>eb⟩⟩
    |some c=>
     rw[show (Option.map (λn:Nat=>V.int (n:Int)) (some c)).getD V.non=V.int (c:Int) from rfl];refine⟨_,rfl,rfl,_,rfl,iteF ?_⟩;refine⟨_,rfl,_,rfl,p,_,dx,_,rfl,p'.ins,cl_Going T,T.nG_front,(by show 7<1000;decide),?_⟩;rw[gp_front];have p3:=p'.set (g':={ g1 with front:=c }) rfl;have f3:=up (o2:=.ins A.c_Going dx (gfl { g1 with front:=c } wa)) f';generalize upd H' p (.ins A.c_Going dx (gfl { g1 with front:=c } wa))=H3 at p3 f3 ⊢;refine⟨_,rfl,p,_,dx,_,_,rfl,p3.ins,cl_Going T,T.nG_first,gl_first _ _,_,_,rfl,rfl,_,rfl,p,_,dx,_,rfl,p3.ins,cl_Going T,T.nG_first,(by show 7<1000;decide),?_⟩;rw[show (λ(i j:Int)=>V.int (i+ j)) (({ g1 with front:=c }:Gg).first:Int) 1=V.int ((g1.first+ 1:Nat):Int) from rfl,gp_first];exact⟨_,by show g1.last - (g1.first+ 1)<_;omega,_,_,rfl,rfl,up f3,p3.set rfl,ad.fwd gd (by omega) eb⟩
   ·exact⟨g1,v2,rfl,f',p',ad,λz=>absurd (decide_eq_true (show (g1.first:Int)<(g1.last:Int) by omega)) q⟩
  rintro σ' H' ⟨g0,v0,rfl,f0,p0,ad0,n0⟩;refine⟨λ σ' H'=>∃g1 v2,σ'=[some (.ref p),some (.ref r),v2]/\(∀b o,b≠p->H b=some o->H' b=some o)/\GoAt A.c_Going H' p dx wa g1/\AdI S g g1/\(g1.first<g1.last->S.by g1.front g1.z1=none)/\(g1.first<g1.last->S.by g1.rear g1.z2=none),?_,?_⟩
  ·refine⟨λm σ H'=>∃g1 v2,m=g1.last - g1.first/\σ=[some (.ref p),some (.ref r),v2]/\(∀b o,b≠p->H b=some o->H' b=some o)/\GoAt A.c_Going H' p dx wa g1/\AdI S g g1/\(g1.first<g1.last->S.by g1.front g1.z1=none),⟨_,_,v0,rfl,rfl,f0,p0,ad0,n0⟩,?_⟩;rintro m σ H' ⟨g1,v2,rfl,rfl,f',p',ad,n1⟩;have R':=kp f';have ll:=ad.gi.ll;have fl:=ad.gi.fl;have lw:g1.word.length<=1000:=by rw[ad.wo];exact hwl
   refine⟨_,rfl,p,_,dx,_,_,rfl,p'.ins,cl_Going T,T.nG_first,gl_first _ _,_,rfl,p,_,dx,_,_,rfl,p'.ins,cl_Going T,T.nG_last,gl_last _ _,_,_,rfl,rfl,_,rfl,?_⟩;refine ite2 (λq=>?_) (λq=>?_)
   ·have q:(g1.first:Int)<(g1.last:Int):=of_decide_eq_true q;refine⟨_,λ_ _ z=>z,?_⟩;have hz:=Gg.at2 (g:=g1) ll;refine⟨_,rfl,r,a.dx,_,rfl,R'.ins,lk_none _ _ _ (by decide +kernel),_,rfl,p,_,dx,_,_,rfl,p'.ins,cl_Going T,T.nG_rear,gl_rear _ _,_,rfl,p,_,dx,_,_,rfl,p'.ins,cl_Going T,T.nG_word,gl_word _ _,_,rfl,p,_,dx,_,_,rfl,p'.ins,cl_Going T,T.nG_last,gl_last _ _,wa,_,_,.int (-g1.z2),rfl,rfl,SqT.of p'.wo,atI_nat (ints_at hz),_,rfl,r,S,a,g1.rear,g1.z2,(by show [V.ref r,V.int (g1.rear:Int),V.int (- -g1.z2)]=_;rw[Int.neg_neg]),R',by rw[gd.wf.w];exact ad.gi.r,?_⟩
    cases eb:S.by g1.rear g1.z2 with
    |none=>exact⟨_,rfl,rfl,_,rfl,iteT ⟨g1,_,rfl,f',p',ad,n1,λ_=>eb⟩⟩
    |some c=>
     rw[show (Option.map (λn:Nat=>V.int (n:Int)) (some c)).getD V.non=V.int (c:Int) from rfl];refine⟨_,rfl,rfl,_,rfl,iteF ?_⟩;refine⟨_,rfl,_,rfl,p,_,dx,_,rfl,p'.ins,cl_Going T,T.nG_rear,(by show 7<1000;decide),?_⟩;rw[gp_rear];have p3:=p'.set (g':={ g1 with rear:=c }) rfl;have f3:=up (o2:=.ins A.c_Going dx (gfl { g1 with rear:=c } wa)) f';generalize upd H' p (.ins A.c_Going dx (gfl { g1 with rear:=c } wa))=H3 at p3 f3 ⊢;refine⟨_,rfl,p,_,dx,_,_,rfl,p3.ins,cl_Going T,T.nG_last,gl_last _ _,_,_,rfl,rfl,_,rfl,p,_,dx,_,rfl,p3.ins,cl_Going T,T.nG_last,(by show 7<1000;decide),?_⟩;rw[show (λ(i j:Int)=>V.int (i - j)) (({ g1 with rear:=c }:Gg).last:Int) 1=V.int ((g1.last - 1:Nat):Int) by show V.int ((g1.last:Int) - 1)=_;congr 1;omega,gp_last];exact⟨_,by show (g1.last - 1) - g1.first<_;omega,_,_,rfl,rfl,up f3,p3.set rfl,ad.bwd gd (by omega) eb,λz=>n1 (by have z:g1.first<g1.last - 1:=z;omega)⟩
   ·exact⟨g1,v2,rfl,f',p',ad,n1,λz=>absurd (decide_eq_true (show (g1.first:Int)<(g1.last:Int) by omega)) q⟩
  rintro σ' H' ⟨g1,v2,rfl,f',p',ad,n1,n2⟩;exact k g1 H' f' p' ⟨ad.wh,ad.wo,ad.st,ad.gi,ad.ef,ad.er,n1,n2,ad.k1,ad.k2⟩
theorem cutTo (ns:List Int)(j:Nat):cutV (intV ns) none (some (j:Int))=intV (ns.take j):=by
 rw[cut_ints,HT.sIx_nat];show intV ((List.drop 0 ns).take (min j ns.length - 0))=_;rw[List.drop_zero,Nat.sub_zero];by_cases h:j<=ns.length
 ·rw[Nat.min_eq_left h]
 ·rw[Nat.min_eq_right (by omega),List.take_length,List.take_of_length_le (by omega)]
theorem cutFrom (ns:List Int)(j:Nat)(h:j<=ns.length):cutV (intV ns) (some (j:Int)) none=intV (ns.drop j):=by
 rw[cut_ints,HT.sIx_nat,Nat.min_eq_left h];show intV ((ns.drop j).take (ns.length - j))=_;rw[List.take_of_length_le (by rw[List.length_drop];exact Nat.le_refl _)]
theorem goes_le {by_:Nat->Int->Option Nat}:∀{ws:List Int} {r:Nat},(goesL by_ r ws).length<=ws.length
 |[],_=>Nat.le_refl _
 |z::ws,r=>by
  cases q:by_ r z with
  |none=>rw[goes_none q];exact Nat.zero_le _
  |some d=>rw[goes_some q,List.length_cons,List.length_cons];exact Nat.succ_le_succ goes_le
def spGRow (CR CG:Addr):Sp:=λvs H Q _=>∃(p dx wa r:Addr) (g:Gg) (S:RS) (a:RA) (R:Nat->Int->Nat->Prop),vs=[.ref p,.ref r]/\GoAt CG H p dx wa g/\RoomsAt CR H r S a/\Good S [] R/\g.start<S.made/\g.rear<S.made/\g.last<g.word.length/\g.word.length<=1000/\∀q H',Same H H'->DtAt H' 2 (.ref q) (rowRule g.which ((g.start::goesL S.by g.start (g.word.take g.first))++(g.rear::goesL S.by g.rear (g.word.drop (g.last+ 1)))) g.first)->Q (.ref q) H'
theorem ok_Going_row (T:Txt K mg A):FnOk P w K mg base CX0 3 A.f_Going_row A.d_Going_row ["self","rooms"] (spGRow A.c_Rooms A.c_Going):=by
 have G_walked:FnOk P w K mg base CX0 2 A.f_walked A.d_walked ["rooms","room","word"] (spWalked A.c_Rooms):=ok_walked T;refine T.Going_row.F.ok sc_Going_row (λvs H Q E h=>?_) (λcdv AA outer s H vs Q E hr h=>?_)
 ·obtain⟨p,dx,wa,r,g,S,a,R,rfl,_⟩:=h;rfl
 ·obtain⟨p,dx,wa,r,g,S,a,R,rfl,hp,hR,gd,hs,hr9,hll,hwl,k⟩:=h
  refine⟨_,(pss_cons (ps_set (i:=2) sc_Going_row.nd rfl (Or.inl rfl) (pe_call (G_walked) (hr.mono (by decide)) rfl T.walked.m T.walked.F.kp T.walked.b .nil pass0 (pa_cons (pv 1) (pa_cons (pe_fld (pv 0) rfl) (pa_cons (pe_slice sl_tupTT (pe_fld (pv 0) rfl) po_none (po_some (pe_fld (pv 0) rfl))) pa_nil)))))
   (pss_cons (ps_set (i:=3) sc_Going_row.nd rfl (Or.inl rfl) (pe_call (G_walked) (hr.mono (by decide)) rfl T.walked.m T.walked.F.kp T.walked.b .nil pass0 (pa_cons (pv 1) (pa_cons (pe_fld (pv 0) rfl) (pa_cons (pe_slice sl_tupTT (pe_fld (pv 0) rfl) (po_some (pe_op op_add (pe_fld (pv 0) rfl) pe_int)) po_none) pa_nil)))))
   (pss_one (ps_ret (pe_tup (pa_cons (pe_strX (l:=[114,117,108,101]) rfl) (pa_cons (pe_fld (pv 0) rfl) (pa_cons (pe_callTy call_tuple_of rfl T.z_tuple PyProof.Rows.boot_tuple (pa_cons (pe_op op_cat (pv 2) (pv 3)) pa_nil)) (pa_cons (pe_fld (pv 0) rfl) pa_nil))))))))),?_⟩
  try dsimp only[cx_noxK,cx_K]
  refine seq_let2 ?_;intro u_2 u_1;have hbl:∀c z d,S.by c z=some d->d<S.made:=λc z d e=>(gd.st c z d e).2.1
  refine⟨_,rfl,_,rfl,p,_,dx,_,_,rfl,hp.ins,cl_Going T,T.nG_start,gl_start _ _,_,rfl,p,_,dx,_,_,rfl,hp.ins,cl_Going T,T.nG_word,gl_word _ _,_,rfl,p,_,dx,_,_,rfl,hp.ins,cl_Going T,T.nG_first,gl_first _ _,_,rfl,wa,_,rfl,hp.wo,λt1 H1 s1 e1=>?_⟩;rw[cutTo]at e1;refine⟨r,S,a,g.start,t1,g.word.take g.first,rfl,hR.same s1,gd.wf,hs,hbl,e1,by rw[List.length_take];omega,λl1 H2 s2 h2=>?_⟩;have s02:=s1.trans s2;have p2:=hp.same s02;refine⟨_,rfl,_,rfl,p,_,dx,_,_,rfl,p2.ins,cl_Going T,T.nG_rear,gl_rear _ _,_,rfl,p,_,dx,_,_,rfl,p2.ins,cl_Going T,T.nG_word,gl_word _ _,_,rfl,p,_,dx,_,_,rfl,p2.ins,cl_Going T,T.nG_last,gl_last _ _,_,_,rfl,rfl,_,rfl,wa,_,rfl,p2.wo,λt2 H3 s3 e3=>?_⟩;rw[show (g.last:Int)+ 1=((g.last+ 1:Nat):Int) by omega,cutFrom _ _ (by omega)]at e3;have s03:=s02.trans s3;refine⟨r,S,a,g.rear,t2,g.word.drop (g.last+ 1),rfl,hR.same s03,gd.wf,hr9,hbl,e3,by rw[List.length_drop];omega,λl2 H4 s4 h4=>?_⟩;have s04:=s03.trans s4;have p4:=hp.same s04;have lx:=goes_le (by_:=S.by) (ws:=g.word.take g.first) (r:=g.start);have ly:=goes_le (by_:=S.by) (ws:=g.word.drop (g.last+ 1)) (r:=g.rear);rw[List.length_take]at lx;rw[List.length_drop]at ly;refine⟨_,rfl,p,_,dx,_,_,rfl,p4.ins,cl_Going T,T.nG_which,gl_which _ _,_,rfl,_,rfl,l1,l2,_,_,rfl,rfl,(s3.trans s4) _ _ h2,h4,?_,λl3 n3=>?_⟩
  ·rw[ints_len,ints_len,nI_len,nI_len,List.length_cons,List.length_cons];exact Nat.le_trans (show _<=100000 by omega) (by decide)
  refine⟨l3,_,rfl,.inl ⟨SqL.of upd_same,λt3 n4=>?_⟩⟩;rw[←ints_app,←nI_app]at n4 ⊢;have s5:=Same.upd (o:=.lst (intV (nI ((g.start::goesL S.by g.start (g.word.take g.first))++(g.rear::goesL S.by g.rear (g.word.drop (g.last+ 1))))))) n3;generalize (g.start::goesL S.by g.start (g.word.take g.first))++(g.rear::goesL S.by g.rear (g.word.drop (g.last+ 1)))=path at *;have s6:=s5.trans (Same.upd (o:=.tup (intV (nI path))) n4);have e6:upd (upd H4 l3 (.lst (intV (nI path)))) t3 (.tup (intV (nI path))) t3=_:=upd_same;generalize upd (upd H4 l3 (.lst (intV (nI path)))) t3 (.tup (intV (nI path)))=H6 at s6 e6 ⊢;refine⟨_,rfl,p,_,dx,_,_,rfl,(s6 _ _ p4.ins),cl_Going T,T.nG_first,gl_first _ _,(by show 4<=sizeLine;decide),λq nq=>?_⟩;have s7:=Same.upd (o:=.tup [.str (tx [114,117,108,101]),.int (g.which:Int),.ref t3,.int (g.first:Int)]) nq;refine k q _ (s04.trans (s6.trans s7)) (.t upd_same rfl λj v d e7 e8=>?_)
  match j,e7,e8 with
  |0,e7,e8=>cases e7;cases e8;exact .s
  |1,e7,e8=>cases e7;cases e8;exact .i
  |2,e7,e8=>
   cases e7;cases e8;refine .t (s7 _ _ e6) (by rw[ints_len,nI_len,List.length_map]) λi u x f1 f2=>?_
   obtain⟨z,rfl,hz⟩:=ints_of_at f1;unfold nI at hz;rw[List.getElem?_map]at hz f2
   cases q1:path[i]? with
   |none=>rw[q1]at hz;cases hz
   |some c=>
    rw[q1]at hz f2;cases hz;cases f2;exact .i
  |3,e7,e8=>cases e7;cases e8;exact .i
  |j+ 4,e7,e8=>simp at e7
theorem same_none {H H':Hp}(s:Same H H'){b:Addr}(h:H' b=none):H b=none:=by
 cases e:H b with
 |none=>rfl
 |some o=>rw[s _ _ e]at h;cases h
structure KA where
 dx:Addr
 aQ:Addr
 aG:Addr
 aA:Addr
 aW:Addr
def cfl (r:Addr)(c:KA)(hd:Nat):List (Str×V):=[("rooms",.ref r),("rules",.ref c.aQ),("goings",.ref c.aG),("agenda",.ref c.aA),("waiting",.ref c.aW),("heard",.int hd)]
theorem cl_rooms (r:Addr)(c:KA)(hd:Nat):(cfl r c hd).lookup ("rooms":Str)=some (.ref r):=by kernel_rfl
theorem cl_rules (r:Addr)(c:KA)(hd:Nat):(cfl r c hd).lookup ("rules":Str)=some (.ref c.aQ):=by kernel_rfl
theorem cl_goings (r:Addr)(c:KA)(hd:Nat):(cfl r c hd).lookup ("goings":Str)=some (.ref c.aG):=by kernel_rfl
theorem cl_agenda (r:Addr)(c:KA)(hd:Nat):(cfl r c hd).lookup ("agenda":Str)=some (.ref c.aA):=by kernel_rfl
theorem cl_waiting (r:Addr)(c:KA)(hd:Nat):(cfl r c hd).lookup ("waiting":Str)=some (.ref c.aW):=by kernel_rfl
theorem cl_heard (r:Addr)(c:KA)(hd:Nat):(cfl r c hd).lookup ("heard":Str)=some (.int hd):=by kernel_rfl
theorem cl_no {r:Addr}{c:KA}{hd:Nat}{x:Str}(h:x∉(["rooms","rules","goings","agenda","waiting","heard"]:List Str)):(cfl r c hd).lookup x=none:=by
 simp only[List.mem_cons,List.not_mem_nil,or_false,not_or]at h;obtain⟨h1,h2,h3,h4,h5,h6⟩:=h;unfold cfl;simp only[List.lookup,beq_eq_false_iff_ne.mpr h1,beq_eq_false_iff_ne.mpr h2,beq_eq_false_iff_ne.mpr h3,beq_eq_false_iff_ne.mpr h4,beq_eq_false_iff_ne.mpr h5,beq_eq_false_iff_ne.mpr h6]
theorem cp_heard (r:Addr)(c:KA)(hd n:Nat):putF "heard" (.int n) (cfl r c hd)=cfl r c n:=by kernel_rfl
structure GsAt (CG:Addr) (H:Hp) (gv:List V) (gs:List (Option Gg)) (O:Addr->Prop):Prop where
 l:gv.length=gs.length
 n:∀(i:Nat) (v:V),gv[i]?=some v->gs[i]?=some none->v=.non
 s:∀(i:Nat) (v:V) (g:Gg),gv[i]?=some v->gs[i]?=some (some g)->∃p dx wa,v=.ref p/\GoAt CG H p dx wa g/\O p
 i:∀(i j:Nat) (p:Addr),gv[i]?=some (.ref p)->gv[j]?=some (.ref p)->i=j
structure CAt (CG CC:Addr) (H:Hp) (x r:Addr) (c:KA) (gs:List (Option Gg)) (ag:List Nat) (W:Rel3) (hd:Nat) (fp:List (List Int×Nat)) (O:Addr->Prop):Prop where
 ins:H x=some (.ins CC c.dx (cfl r c hd))
 hG:∃gv,H c.aG=some (.lst gv)/\GsAt CG H gv gs O
 hA:H c.aA=some (.lst (intV (nI ag)))
 wt:WAt H c.aW W O
 ne:c.aG≠c.aA
 ox:O x
 oG:O c.aG
 oA:O c.aA
 th:∀b,O b->∃o,H b=some o/\(∀xs,o≠.tup xs)/\∀kv,o≠.dT kv
section
variable {CG CC:Addr} {H H':Hp} {x r:Addr} {c:KA} {gs:List (Option Gg)} {ag:List Nat} {W:Rel3} {hd:Nat} {fp:List (List Int×Nat)} {O:Addr->Prop}
theorem GsAt.keep {gv:List V}(h:GsAt CG H gv gs O)(f:∀b o,O b->H b=some o->H' b=some o)(ft:∀b xs,H b=some (.tup xs)->H' b=some (.tup xs)):GsAt CG H' gv gs O:=by
 refine⟨h.l,h.n,λi v g e1 e2=>?_,h.i⟩;obtain⟨p,dx,wa,e,q,o⟩:=h.s i v g e1 e2;exact⟨p,dx,wa,e,⟨f _ _ o q.ins,ft _ _ q.wo⟩,o⟩
theorem CAt.keep (h:CAt CG CC H x r c gs ag W hd fp O)(f:∀b o,O b->H b=some o->H' b=some o)(ft:∀b xs,H b=some (.tup xs)->H' b=some (.tup xs)):CAt CG CC H' x r c gs ag W hd fp O:=by
 obtain⟨gv,g1,g2⟩:=h.hG;refine⟨f _ _ h.ox h.ins,⟨gv,f _ _ h.oG g1,g2.keep f ft⟩,f _ _ h.oA h.hA,h.wt.keep f,h.ne,h.ox,h.oG,h.oA,λb hb=>?_⟩;obtain⟨o,e,q⟩:=h.th b hb;exact⟨o,f _ _ hb e,q⟩
theorem CAt.same (h:CAt CG CC H x r c gs ag W hd fp O)(s:Same H H'):CAt CG CC H' x r c gs ag W hd fp O:=h.keep (λb o _ e=>s b o e) (λb o e=>s _ _ e)
theorem CAt.ntup (h:CAt CG CC H x r c gs ag W hd fp O){b:Addr}{xs:List V}(e:H b=some (.tup xs)):¬O b:=λz=>by
 obtain⟨o,q,n,_⟩:=h.th b z;rw[e]at q;exact n xs (Option.some.inj q).symm
theorem CAt.ndT (h:CAt CG CC H x r c gs ag W hd fp O){b:Addr}{kv:List (List Key×V)}(e:H b=some (.dT kv)):¬O b:=λz=>by
 obtain⟨o,q,_,n⟩:=h.th b z;rw[e]at q;exact n kv (Option.some.inj q).symm
theorem CAt.waits (h:CAt CG CC H x r c gs ag W hd fp O){W':Rel3}{O':Addr->Prop}(f:∀b o,(∀kv,o≠.dK kv)->H b=some o->H' b=some o)(oo:∀b,O b->O' b)(w:WAt H' c.aW W' O')(th:∀b,O' b->∃o,H' b=some o/\(∀xs,o≠.tup xs)/\∀kv,o≠.dT kv):CAt CG CC H' x r c gs ag W' hd fp O':=by
 obtain⟨gv,g1,g2⟩:=h.hG;refine⟨f _ _ (by intro _ z;cases z) h.ins,⟨gv,f _ _ (by intro _ z;cases z) g1,g2.l,g2.n,λi v g e1 e2=>?_,g2.i⟩,f _ _ (by intro _ z;cases z) h.hA,w,h.ne,oo _ h.ox,oo _ h.oG,oo _ h.oA,th⟩;obtain⟨p,dx,wa,e,q,o⟩:=g2.s i v g e1 e2;exact⟨p,dx,wa,e,⟨f _ _ (by intro _ z;cases z) q.ins,f _ _ (by intro _ z;cases z) q.wo⟩,oo _ o⟩
theorem CAt.agenda (h:CAt CG CC H x r c gs ag W hd fp O)(ag':List Nat):CAt CG CC (upd H c.aA (.lst (intV (nI ag')))) x r c gs ag' W hd fp O:=by
 obtain⟨gv,g1,g2⟩:=h.hG;have k:∀b o,b≠c.aA->H b=some o->upd H c.aA (.lst (intV (nI ag'))) b=some o:=λb o n e=>by rw[upd_ne n];exact e
 have kn:∀b o,(∀xs,o≠.lst xs)->H b=some o->upd H c.aA (.lst (intV (nI ag'))) b=some o:=λb o n e=>k b o (λz=>by rw[z,h.hA]at e;exact n _ (Option.some.inj e).symm) e
 refine⟨kn _ _ (by intro _ z;cases z) h.ins,⟨gv,k _ _ h.ne g1,g2.l,g2.n,λi v g e1 e2=>?_,g2.i⟩,upd_same,?_,h.ne,h.ox,h.oG,h.oA,λb hb=>?_⟩
 ·obtain⟨p,dx,wa,e,q,o⟩:=g2.s i v g e1 e2;exact⟨p,dx,wa,e,⟨kn _ _ (by intro _ z;cases z) q.ins,kn _ _ (by intro _ z;cases z) q.wo⟩,o⟩
 ·obtain⟨D,E,k1,k2⟩:=h.wt;exact⟨D,E,k1.keep λb o hb e=>by obtain⟨kv,q⟩:=k1.there hb;rw[q]at e;cases e;exact kn _ _ (by intro _ z;cases z) q,k2⟩
 ·by_cases e:b=c.aA
  ·exact⟨_,by rw[e];exact upd_same,(by intro _ z;cases z),by intro _ z;cases z⟩
  ·obtain⟨o,q,n⟩:=h.th b hb;exact⟨o,k _ _ e q,n⟩
end
def Bt (O:Addr->Prop)(H H':Hp):Prop:=∀b o,¬O b->H b=some o->H' b=some o
theorem Bt.trans {O O':Addr->Prop}{H H1 H2:Hp}(h:Bt O H H1)(h':Bt O' H1 H2)(f:∀b,O' b->O b\/H b=none):Bt O H H2:=λb o n e=>h' b o (λz=>(f b z).elim n λq=>by rw[q]at e;cases e) (h b o n e)
theorem Bt.of {O:Addr->Prop}{H H':Hp}(s:Same H H'):Bt O H H':=λb o _ e=>s b o e
def spWait (CR CG CC:Addr):Sp:=λvs H Q _=>∃(x r:Addr) (c:KA) (gs:List (Option Gg)) (ag:List Nat) (W:Rel3) (hd:Nat) (fp:List (List Int×Nat)) (O:Addr->Prop) (n m:Nat) (s:Int),vs=[.ref x,.int n,.int m,.int s]/\CAt CG CC H x r c gs ag W hd fp O/\m<100000/\n<100000/\(-1000<=s/\s<=1000)/\∀O' H',Bt O H H'->(∀b o,(∀kv,o≠.dK kv)->H b=some o->H' b=some o)->(∀b,O b->O' b)->(∀b,O' b->O b\/H b=none)->CAt CG CC H' x r c gs ag (addW W m s n) hd fp O'->Q .non H'
structure WMid (H:Hp) (O:Addr->Prop) (H1:Hp) (O1:Addr->Prop):Prop where
 f:∀b o,(∀kv,o≠.dK kv)->H b=some o->H1 b=some o
 bt:Bt O H H1
 le:∀b,O b->O1 b
 nw:∀b,O1 b->O b\/H b=none
 th:∀b,O1 b->∃o,H1 b=some o/\(∀xs,o≠.tup xs)/\∀kv,o≠.dT kv
theorem WMid.new {H H1:Hp}{O O1:Addr->Prop}(h:WMid H O H1 O1){p:Addr}{kv:List (Key×V)}(np:H1 p=none):WMid H O (upd H1 p (.dK kv)) O1:=by
 have s:=Same.upd (o:=.dK kv) np;refine⟨λb o n e=>s _ _ (h.f b o n e),λb o n e=>s _ _ (h.bt b o n e),h.le,h.nw,λb hb=>?_⟩;obtain⟨o,e,q⟩:=h.th b hb;exact⟨o,s _ _ e,q⟩
theorem WMid.put {H H1:Hp}{O O1:Addr->Prop}(h:WMid H O H1 O1){d:Addr}(hd:O1 d){kv kv':List (Key×V)}(ed:H1 d=some (.dK kv)):WMid H O (upd H1 d (.dK kv')) O1:=by
 have k:∀b o,b≠d->H1 b=some o->upd H1 d (.dK kv') b=some o:=λb o n e=>by rw[upd_ne n];exact e
 refine⟨λb o n e=>k _ _ (λz=>by have:=h.f b o n e;rw[z,ed]at this;exact n _ (Option.some.inj this).symm) (h.f b o n e),λb o n e=>k _ _ (λz=>?_) (h.bt b o n e),h.le,h.nw,λb hb=>?_⟩
 ·rcases h.nw d hd with q|q
  ·exact n (by rw[z];exact q)
  ·rw[z,q]at e;cases e
 ·by_cases e:b=d
  ·exact⟨_,by rw[e];exact upd_same,(by intro _ z;cases z),by intro _ z;cases z⟩
  ·obtain⟨o,q,m⟩:=h.th b hb;exact⟨o,k _ _ e q,m⟩
theorem WMid.or1 {H H1:Hp}{O O1:Addr->Prop}(h:WMid H O H1 O1){p:Addr}(np:H p=none){o:HO}(ep:H1 p=some o)(h1:∀xs,o≠.tup xs)(h2:∀kv,o≠.dT kv):WMid H O H1 (Or1 O1 p):=by
 refine⟨h.f,h.bt,λb z=>.inl (h.le b z),λb z=>z.elim (h.nw b) λq=>.inr (by rw[q];exact np),λb z=>?_⟩;rcases z with z|z
 ·exact h.th b z
 ·rw[z];exact⟨o,ep,h1,h2⟩
theorem WMid.no {H H1:Hp}{O O1:Addr->Prop}(h:WMid H O H1 O1){p:Addr}(np:H1 p=none):H p=none:=by
 cases e:H p with
 |none=>rfl
 |some o=>
  by_cases q:O p
  ·obtain⟨o1,e1,_⟩:=h.th p (h.le p q);rw[np]at e1;cases e1
  ·rw[h.bt p o q e]at np;cases np
theorem CAt.mid {CG CC:Addr}{H:Hp}{x r:Addr}{c:KA}{gs:List (Option Gg)}{ag:List Nat}{W:Rel3}{hd:Nat}{fp:List (List Int×Nat)}{O:Addr->Prop}(h:CAt CG CC H x r c gs ag W hd fp O):WMid H O H O:=⟨λ_ _ _ e=>e,λ_ _ _ e=>e,λ_ z=>z,λ_ z=>.inl z,h.th⟩
theorem ok_Closing_wait (T:Txt K mg A):FnOk P w K mg base CX0 1 A.f_Closing_wait A.d_Closing_wait ["self","number","room","step"] (spWait A.c_Rooms A.c_Going A.c_Closing):=by
 refine T.Closing_wait.F.ok sc_Closing_wait (λvs H Q E h=>?_) (λcdv AA outer s H vs Q E hr h=>?_)
 ·obtain⟨x,r,c,gs,ag,W,hd,fp,O,n,m,s,rfl,_⟩:=h;rfl
 ·obtain⟨x,r,c,gs,ag,W,hd,fp,O,n,m,s,rfl,h,hm,hn,hs,k⟩:=h;have hu2:=hu_of hr
  refine⟨_,(pss_cons (ps_cut (ps_set (i:=4) sc_Closing_wait.nd rfl (Or.inl rfl) (pe_dsetdefault2 (pe_fld (pv 0) rfl) (pv 2) pe_dnewK ⟨rfl,rfl,rfl,rfl⟩)))
   (pss_cons (ps_cut (ps_set (i:=5) sc_Closing_wait.nd rfl (Or.inl rfl) (pe_dsetdefault2 (pv 4) (pv 3) pe_dnewK ⟨rfl,rfl,rfl,rfl⟩)))
   (pss_one (ps_dput hu2 (pv 5) (pv 1) pe_bl rfl)))),?_⟩
  try dsimp only[cx_noxK,cx_K]
  refine seq_let2 ?_;intro u_2 u_1;refine⟨λ σ' H1=>∃d O1,σ'=[some (.ref x),some (.int (n:Int)),some (.int (m:Int)),some (.int s),some (.ref d),none]/\WMid H O H1 O1/\WRoom H1 c.aW W O1 m d,?_,?_⟩
  ·refine⟨_,rfl,x,_,c.dx,_,_,rfl,h.ins,cl_Closing T,T.nC_waiting,cl_waiting _ _ _,c.aW,rfl,h.wt.isD,_,rfl,λp np=>?_⟩;obtain⟨kvs,q1,q2,q3,q4⟩:=h.wt.room np (c:=(m:Int)) (by omega);refine⟨kvs,Sum.inl (m:Int),q1,rfl,q2,λv hv=>?_,λhv=>?_⟩
   ·obtain⟨d,rfl,w⟩:=q3 v hv;exact⟨d,O,rfl,h.mid.new np,w⟩
   ·have w:=q4 hv;have hk:O c.aW:=by obtain⟨D,E,_,z⟩:=h.wt;exact z.o _ (.inl rfl)
    exact⟨p,_,rfl,((h.mid.new np).put hk q1).or1 np (by rw[upd_ne (λz=>by rw[z]at np;obtain⟨o,e,_⟩:=h.th _ hk;rw[np]at e;cases e)];exact upd_same) (by intro _ z;cases z) (by intro _ z;cases z),w⟩
  rintro σ' H1 ⟨d,O1,rfl,m1,w1⟩;refine⟨λ σ' H2=>∃e O2,σ'=[some (.ref x),some (.int (n:Int)),some (.int (m:Int)),some (.int s),some (.ref d),some (.ref e)]/\WMid H O H2 O2/\WCell H2 c.aW W O2 m s e,?_,?_⟩
  ·refine⟨_,rfl,d,rfl,w1.isD,_,rfl,λp np=>?_⟩;obtain⟨kvs,q1,q2,q3,q4⟩:=w1.cell np hs;refine⟨kvs,Sum.inl s,q1,rfl,q2,λv hv=>?_,λhv=>?_⟩
   ·obtain⟨e,rfl,w⟩:=q3 v hv;exact⟨e,O1,rfl,m1.new np,w⟩
   ·have w:=q4 hv;have hd:=w1.own;exact⟨p,_,rfl,((m1.new np).put hd q1).or1 (m1.no np) (by rw[upd_ne (λz=>by rw[z]at np;obtain⟨o,e,_⟩:=m1.th _ hd;rw[np]at e;cases e)];exact upd_same) (by intro _ z;cases z) (by intro _ z;cases z),w⟩
  rintro σ' H2 ⟨e,O2,rfl,m2,w2⟩;obtain⟨kvs,q1,q2,q3⟩:=w2.put (n:=(n:Int)) (by omega);refine⟨_,rfl,_,rfl,e,_,rfl,DPut.k (k:=Sum.inl (n:Int)) q1 q2,?_⟩;have m3:=m2.put (kv':=putK kvs (Sum.inl (n:Int)) (.bl true)) w2.own q1;exact k O2 _ m3.bt m3.f m3.le m3.nw (h.waits m3.f m3.le q3 m3.th)
def spWake (CR CG CC:Addr):Sp:=λvs H Q _=>∃(x r:Addr) (c:KA) (gs:List (Option Gg)) (ag:List Nat) (W:Rel3) (hd:Nat) (fp:List (List Int×Nat)) (O:Addr->Prop) (m:Nat) (s:Int),vs=[.ref x,.int m,.int s]/\CAt CG CC H x r c gs ag W hd fp O/\(∀ns:List Nat,ns.Nodup->(∀n:Nat,n∈ns↔W m s n=true)->ag.length+ ns.length<=1000000)/\∀ns H',Bt O H H'->ns.Nodup->(∀n:Nat,n∈ns↔W m s n=true)->CAt CG CC H' x r c gs (ag++ns) (offW W m s) hd fp O->Q .non H'
theorem ok_Closing_wake (T:Txt K mg A):FnOk P w K mg base CX0 1 A.f_Closing_wake A.d_Closing_wake ["self","room","step"] (spWake A.c_Rooms A.c_Going A.c_Closing):=by
 refine T.Closing_wake.F.ok sc_Closing_wake (λvs H Q E h=>?_) (λcdv AA outer s H vs Q E hr h=>?_)
 ·obtain⟨x,r,c,gs,ag,W,hd,fp,O,m,s,rfl,_⟩:=h;rfl
 ·obtain⟨x,r,c,gs,ag,W,hd,fp,O,m,s,rfl,h,hz,k⟩:=h;have hu2:=hu_of hr;refine⟨_,(pss_one (ps_expr (pe_bm PySem.F.plainAttrs_list PySem.F.slot_list_extend PySem.F.type_list_extend mt_extend (pe_fld (pv 0) rfl) (pa_cons (pe_callTy (call_list_dK rfl) rfl T.z_list PyProof.Rows.boot_list (pa_cons (pe_dpop2 (pe_dget2 hu2 (pe_fld (pv 0) rfl) (pv 1) pe_dnewK ⟨rfl,rfl,rfl,rfl⟩) (pv 2) pe_dnewK ⟨rfl,rfl,rfl,rfl⟩) pa_nil)) pa_nil)))),?_⟩
  try dsimp only[cx_noxK,cx_K]
  have rest:∀{H2:Hp} {W':Rel3} {l:Addr} {ns:List Nat},CAt A.c_Going A.c_Closing H2 x r c gs ag W' hd fp O->Bt O H H2->H2 l=none->ns.Nodup->(∀n:Nat,n∈ns↔W m s n=true)->W'=offW W m s->∃l' b xs zs,V.ref c.aA=.ref l'/\[V.ref l]=[.ref b]/\upd H2 l (.lst (intV (nI ns))) l'=some (.lst xs)/\upd H2 l (.lst (intV (nI ns))) b=some (.lst zs)/\xs.length+ zs.length<=sizeLine/\Q .non (upd (upd H2 l (.lst (intV (nI ns)))) l' (.lst (xs++zs))):=λ{H2 W' l ns} h2 b2 nl nd hn eW=>by
   subst eW;have s3:=Same.upd (o:=.lst (intV (nI ns))) nl;refine⟨c.aA,l,_,_,rfl,rfl,s3 _ _ h2.hA,upd_same,?_,?_⟩
   ·rw[ints_len,ints_len,nI_len,nI_len];exact Nat.le_trans (hz ns nd hn) (by decide)
   ·rw[←ints_app,←nI_app];exact k ns _ (λb o n e=>by rw[upd_ne (λz=>n (by rw[z];exact h.oA))];exact s3 _ _ (b2 b o n e)) nd hn ((h2.same s3).agenda (ag++ns))
  refine⟨_,rfl,x,_,c.dx,_,_,rfl,h.ins,cl_Closing T,T.nC_agenda,cl_agenda _ _ _,.inl ⟨rfl,_,SqL.of h.hA⟩,_,rfl,x,_,c.dx,_,_,rfl,h.ins,cl_Closing T,T.nC_waiting,cl_waiting _ _ _,c.aW,rfl,h.wt.isD,_,rfl,λp1 np1=>?_⟩;have s1:=Same.upd (o:=.dK []) np1;have q1:upd H p1 (.dK []) p1=some (.dK []):=upd_same;generalize upd H p1 (.dK [])=H1 at s1 q1 ⊢;have h1:=h.same s1;obtain⟨o,g1,g2⟩:=h1.wt.get (c:=(m:Int));refine⟨o,g1,?_⟩;rcases g2 with ⟨rfl,no⟩|⟨d,rfl,w⟩
  ·refine⟨p1,rfl,.inl ⟨_,.inl q1⟩,_,rfl,λp2 np2=>?_⟩;have s2:=Same.upd (o:=.dK []) np2;have q2:upd H1 p2 (.dK []) p2=some (.dK []):=upd_same;generalize upd H1 p2 (.dK [])=H2 at s2 q2 ⊢;refine⟨[],Sum.inl s,s2 _ _ q1,rfl,(λv hv=>by cases hv),λ_=>⟨p2,[],rfl,q2,λl nl=>?_⟩⟩;exact rest (ns:=[]) (h1.same s2) (.of (s1.trans s2)) nl List.nodup_nil (λn=>⟨(λz=>by cases z),λz=>by rw[no]at z;cases z⟩) (offW_no (no s)).symm
  ·refine⟨d,rfl,w.isD,_,rfl,λp2 np2=>?_⟩;have s2:=Same.upd (o:=.dK []) np2;have q2:upd H1 p2 (.dK []) p2=some (.dK []):=upd_same;generalize upd H1 p2 (.dK [])=H2 at s2 q2 ⊢;have h2:=h1.same s2;obtain⟨kvs,e1,e2,e3⟩:=(w.same s2).pop s;refine⟨kvs,Sum.inl s,e1,rfl,λv hv=>?_,λhv=>⟨p2,[],rfl,q2,λl nl=>?_⟩⟩
   ·obtain⟨e,kv2,ns,rfl,ned,f1,f2,f3,f4,f5⟩:=e3 v hv;refine⟨e,kv2,rfl,by rw[upd_ne ned];exact f1,λl nl=>?_⟩;have m3:=(h2.mid.put (kv':=dropK kvs (Sum.inl s)) w.own e1);rw[f2];exact rest (h2.waits m3.f m3.le f5 m3.th) (Bt.trans (.of (s1.trans s2)) m3.bt λb z=>.inl z) nl f3 f4 rfl
   ·exact rest (ns:=[]) h2 (.of (s1.trans s2)) nl List.nodup_nil (λn=>⟨(λz=>by cases z),λz=>by rw[e2 hv]at z;cases z⟩) (offW_no (e2 hv)).symm
theorem _root_.L2.CI.totW {S:RS}{bs:List (Nat×List Int×Nat)}{gs:List (Option Gg)}{ag:List Nat}{W:Rel3}{Ex:Nat->Int->Prop}{x:Option Nat}(h:CI S bs gs ag W Ex x){m:Nat}{s:Int}{ns:List Nat}(nd:ns.Nodup)(hn:∀n:Nat,n∈ns↔W m s n=true):ns.length+ tot S.made gs.length (offW W m s)<=tot S.made gs.length W:=by
 cases ns with
 |nil=>
  have:∀n,W m s n=false:=λn=>by
   cases q:W m s n with
   |false=>rfl
   |true=>
    obtain⟨_,n',_,e,_⟩:=h.en _ _ _ q;rw[e]at q;have:=(hn n').mpr q;cases this
  rw[offW_no this,List.length_nil,Nat.zero_add];exact Nat.le_refl _
 |cons n r=>
  obtain⟨m',n',e1,_,hm,_,hs,_⟩:=h.en _ _ _ ((hn n).mp (List.mem_cons_self ..));have hm:m<S.made:=by omega
  have h1:=tot_off (G:=gs.length) (W:=W) hm hs
  have h2:=len_count (P:=λn:Nat=>W m s n) (G:=gs.length) nd λn hm=>by
   have w:=(hn n).mp hm;obtain⟨_,n',_,e,_,hl,_⟩:=h.en _ _ _ w;exact⟨by omega,w⟩
  omega
theorem _root_.L2.CI.two {S:RS}{bs:List (Nat×List Int×Nat)}{gs:List (Option Gg)}{ag:List Nat}{W:Rel3}{Ex:Nat->Int->Prop}{x:Option Nat}(h:CI S bs gs ag W Ex x):tot S.made gs.length W<=2* gs.length:=tot_two λn=>by
 obtain⟨p,q,e,_⟩:=h.sl n;exact⟨p,q,e⟩
theorem _root_.L2.WRoom.keys {H:Hp}{k:Addr}{W:Rel3}{O:Addr->Prop}{c:Int}{d:Addr}(h:WRoom H k W O c d):∃(kvs:List (Key×V)) (zs:List Int),H d=some (.dK kvs)/\kvs.map (λkv=>kV kv.1)=intV zs/\zs.length<=2001/\∀s n,W c s n=true->s∈zs:=by
 obtain⟨D,E,h1,h2,hd⟩:=h;obtain⟨kvs,q1,q2,q3,q4⟩:=h1.rowL hd
 have hl:kvs.length<=2001:=di_len (n:=2001) (lo:=-1000) q2 q3 q4 λi v hv=>by
  cases e:E c i with
  |none=>rw[e]at hv;cases hv
  |some x=>have:=h2.e c i x e;omega
 have ex:∃zs:List Int,kvs.map (·.1)=zs.map Sum.inl:=by
  clear q1 q2 q4 hl
  induction kvs with
  |nil=>exact⟨[],rfl⟩
  |cons kv r ih=>
   obtain⟨zs,e⟩:=ih λx hx=>q3 x (List.mem_cons_of_mem _ hx)
   obtain⟨i,hi⟩:=q3 kv (List.mem_cons_self ..);exact⟨i::zs,by rw[List.map_cons,List.map_cons,e,hi]⟩
 obtain⟨zs,e⟩:=ex;refine⟨kvs,zs,q1,?_,?_,λs n w=>?_⟩
 ·rw[show (λkv:Key×V=>kV kv.1)=kV ∘ (·.1) from rfl,←List.map_map,e,List.map_map];rfl
 ·have:=congrArg List.length e;rw[List.length_map,List.length_map]at this;omega
 ·obtain⟨x,hx⟩:=h1.se _ _ _ w;have:Sum.inl s∈kvs.map (·.1):=val_key (v:=.ref x) (by rw[q4,hx];rfl);rw[e]at this;obtain⟨y,hy,q⟩:=List.mem_map.mp this;rw[←Sum.inl.inj q];exact hy
structure WkI (CG CC:Addr) (S:RS) (bs:List (Nat×List Int×Nat)) (gs:List (Option Gg)) (W0:Rel3) (Ex:Nat->Int->Prop) (B:Nat) (x r:Addr) (c:KA) (hd:Nat) (fp:List (List Int×Nat)) (O:Addr->Prop) (H:Hp) (ag:List Nat) (W:Rel3):Prop where
 c:CAt CG CC H x r c gs ag W hd fp O
 i:CI S bs gs ag W Ex none
 s:∀r s n,W r s n=true->W0 r s n=true
 b:ag.length+ tot S.made gs.length W<=B
theorem WkI.wake {CG CC:Addr}{S:RS}{bs:List (Nat×List Int×Nat)}{gs:List (Option Gg)}{W0:Rel3}{Ex:Nat->Int->Prop}{B:Nat}{x r:Addr}{c:KA}{hd:Nat}{fp:List (List Int×Nat)}{O:Addr->Prop}{H H':Hp}{ag:List Nat}{W:Rel3}(h:WkI CG CC S bs gs W0 Ex B x r c hd fp O H ag W){m:Nat}{s:Int}{ns:List Nat}(nd:ns.Nodup)(hn:∀n:Nat,n∈ns↔W m s n=true)(q:CAt CG CC H' x r c gs (ag++ns) (offW W m s) hd fp O):WkI CG CC S bs gs W0 Ex B x r c hd fp O H' (ag++ns) (offW W m s):=
 ⟨q,h.i.wake hn,λr s n w=>h.s _ _ _ (offW_iff.mp w).1,by have:=h.i.totW nd hn;have:=h.b;rw[List.length_append];omega⟩
theorem WkI.fits {CG CC:Addr}{S:RS}{bs:List (Nat×List Int×Nat)}{gs:List (Option Gg)}{W0:Rel3}{Ex:Nat->Int->Prop}{B:Nat}{x r:Addr}{c:KA}{hd:Nat}{fp:List (List Int×Nat)}{O:Addr->Prop}{H:Hp}{ag:List Nat}{W:Rel3}(h:WkI CG CC S bs gs W0 Ex B x r c hd fp O H ag W)(hB:B<=1000000){m:Nat}{s:Int}:∀ns:List Nat,ns.Nodup->(∀n:Nat,n∈ns↔W m s n=true)->ag.length+ ns.length<=1000000:=λns nd hn=>by have:=h.i.totW nd hn;have:=h.b;omega
def spWakeA (CR CG CC:Addr):Sp:=λvs H Q _=>∃(x r:Addr) (c:KA) (S:RS) (a:RA) (bs:List (Nat×List Int×Nat)) (gs:List (Option Gg)) (ag:List Nat) (W:Rel3) (Ex:Nat->Int->Prop) (B hd:Nat) (fp:List (List Int×Nat)) (O:Addr->Prop) (m:Nat),vs=[.ref x,.int m]/\WkI CG CC S bs gs W Ex B x r c hd fp O H ag W/\B<=1000000/\RoomsAt CR H r S a/\S.Wf/\(∀b,a.own r b->¬O b)/\m<S.made/\S.eld m<S.made/\
 ∀ag' W' H',Bt O H H'->WkI CG CC S bs gs W Ex B x r c hd fp O H' ag' W'->(∀s n,W' m s n=false)->(∀s n,W' (S.eld m) s n=true->S.by (S.eld m) s=none)->Q .non H'
theorem ok_Closing_wake_all (T:Txt K mg A):FnOk P w K mg base CX0 2 A.f_Closing_wake_all A.d_Closing_wake_all ["self","room"] (spWakeA A.c_Rooms A.c_Going A.c_Closing):=by
 have G_Rooms_elder:FnOk P w K mg base CX0 1 A.f_Rooms_elder A.d_Rooms_elder ["self","room"] (spElder A.c_Rooms):=ok_Rooms_elder T;have G_Closing_wake:FnOk P w K mg base CX0 1 A.f_Closing_wake A.d_Closing_wake ["self","room","step"] (spWake A.c_Rooms A.c_Going A.c_Closing):=ok_Closing_wake T;have G_Rooms_by:FnOk P w K mg base CX0 1 A.f_Rooms_by A.d_Rooms_by ["self","room","step"] (spRBy A.c_Rooms):=ok_Rooms_by T;refine T.Closing_wake_all.F.ok sc_Closing_wake_all (λvs H Q E h=>?_) (λcdv AA outer s H vs Q E hr h=>?_)
 ·obtain⟨x,r,c,S,a,bs,gs,ag,W,Ex,B,hd,fp,O,m,rfl,_⟩:=h;rfl
 ·obtain⟨x,r,c,S,a,bs,gs,ag,W,Ex,B,hd,fp,O,m,rfl,h,hB,hR,wf,dj,hm,he,k⟩:=h;have hu2:=hu_of hr
  refine⟨_,(pss_cons (ps_for PassesOwn.never rfl (pi_list (pe_callTy (call_list_dK rfl) rfl T.z_list PyProof.Rows.boot_list (pa_cons (pe_dget2 hu2 (pe_fld (pv 0) rfl) (pv 1) pe_dnewK ⟨rfl,rfl,rfl,rfl⟩) pa_nil))) (pg_name (i:=2) sc_Closing_wake_all.nd rfl (Or.inl rfl))
   (pss_one (ps_expr (pe_meth (pv 0) (cl_Closing T) T.Closing_wake.m (G_Closing_wake) (hr.mono (by decide)) T.Closing_wake.b .nil pass0 (pa_cons (pv 1) (pa_cons (pv 2) pa_nil))))))
   (pss_cons (ps_set (i:=3) sc_Closing_wake_all.nd rfl (Or.inl rfl) (pe_meth (pe_fld (pv 0) rfl) (cl_Rooms T) T.Rooms_elder.m (G_Rooms_elder) (hr.mono (by decide)) T.Rooms_elder.b .nil pass0 (pa_cons (pv 1) pa_nil)))
   (pss_one (ps_for PassesOwn.never rfl (pi_list (pe_callTy (call_list_dK rfl) rfl T.z_list PyProof.Rows.boot_list (pa_cons (pe_dget2 hu2 (pe_fld (pv 0) rfl) (pv 3) pe_dnewK ⟨rfl,rfl,rfl,rfl⟩) pa_nil))) (pg_name (i:=2) sc_Closing_wake_all.nd rfl (Or.inl rfl))
    (pss_one (ps_cut (ps_if (pt_cmpR op_notN (pe_meth (pe_fld (pv 0) rfl) (cl_Rooms T) T.Rooms_by.m (G_Rooms_by) (hr.mono (by decide)) T.Rooms_by.b .nil pass0 (pa_cons (pv 3) (pa_cons (pv 2) pa_nil))) pe_non (nomark _))
     (pss_one (ps_expr (pe_meth (pv 0) (cl_Closing T) T.Closing_wake.m (G_Closing_wake) (hr.mono (by decide)) T.Closing_wake.b .nil pass0 (pa_cons (pv 3) (pa_cons (pv 2) pa_nil)))))
     pss_nil))))))),?_⟩
  try dsimp only[cx_noxK,cx_K]
  refine seq_let2 ?_;intro u_2 u_1;have rk:∀{H2:Hp},Bt O H H2->RoomsAt A.c_Rooms H2 r S a:=λ{H2} b=>hR.keep (λb' o hb e=>b b' o (dj b' hb) e) (λb' xs e=>b b' _ (h.c.ntup e) e)
  have get:∀{H1:Hp} {ag1:List Nat} {W1:Rel3} (m1:Nat),WkI A.c_Going A.c_Closing S bs gs W Ex B x r c hd fp O H1 ag1 W1->∀p1,H1 p1=none->∃(o:Option V) (d:Addr) (kvs:List (Key×V)) (zs:List Int),DGet (upd H1 p1 (.dK [])) c.aW (.int (m1:Int)) o/\o.getD (.ref p1)=.ref d/\upd H1 p1 (.dK []) d=some (.dK kvs)/\kvs.map (λkv=>kV kv.1)=intV zs/\∀s n,W1 m1 s n=true->s∈zs:=λ{H1 ag1 W1} m1 h1 p1 np1=>by
   have s1:=Same.upd (o:=.dK []) np1;obtain⟨o,g1,g2⟩:=(h1.c.same s1).wt.get (c:=(m1:Int));rcases g2 with ⟨rfl,no⟩|⟨d,rfl,w⟩
   ·exact⟨none,p1,[],[],g1,rfl,upd_same,rfl,λs n z=>by rw[no]at z;cases z⟩
   ·obtain⟨kvs,zs,e1,e2,_,e4⟩:=w.keys;exact⟨_,d,kvs,zs,g1,rfl,e1,e2,e4⟩
  refine⟨_,rfl,x,_,c.dx,_,_,rfl,h.c.ins,cl_Closing T,T.nC_waiting,cl_waiting _ _ _,c.aW,rfl,h.c.wt.isD,_,rfl,λp1 np1=>?_⟩;obtain⟨o,d,kvs,zs,g1,g2,g3,g4,hzs⟩:=get m h p1 np1;refine⟨o,g1,d,kvs,(by rw[g2]),g3,λl nl=>?_⟩;rw[g4];have s1:=(Same.upd (o:=.dK []) np1).trans (Same.upd (o:=.lst (intV zs)) nl);have hl:upd (upd H p1 (.dK [])) l (.lst (intV zs)) l=some (.lst (intV zs)):=upd_same;replace nl:=same_none (Same.upd (o:=.dK []) np1) nl;generalize upd (upd H p1 (.dK [])) l (.lst (intV zs))=H1 at s1 hl ⊢;clear g1 g2 g3 g4;have nol:¬O l:=λz=>by obtain⟨o,e,_⟩:=h.c.th l z;rw[nl]at e;cases e
  have h1:WkI A.c_Going A.c_Closing S bs gs W Ex B x r c hd fp O H1 ag W:=⟨h.c.same s1,h.i,h.s,h.b⟩;refine⟨l,rfl,⟨_,SqL.of hl⟩,?_⟩
  refine for_list (K:=K) (a:=l) (xs:=intV zs) (λi σ H2=>∃ag2 W2 v2,σ=[some (.ref x),some (.int (m:Int)),v2,none]/\Bt O H1 H2/\WkI A.c_Going A.c_Closing S bs gs W Ex B x r c hd fp O H2 ag2 W2/\∀(j:Nat) (s:Int),j<i->zs[j]?=some s->∀n,W2 m s n=false)
   ⟨ag,W,none,rfl,λ_ _ _ e=>e,h1,λj s hj=>absurd hj (by omega)⟩ (λi σ H2 _ ⟨_,_,_,_,b2,_⟩=>SqL.of (b2 _ _ nol hl)) ?_ ?_
  ·rintro i v σ H2 hi ⟨ag2,W2,v2,rfl,b2,h2,hj⟩;obtain⟨s,rfl,hs⟩:=ints_of_at hi;refine⟨_,rfl,x,c.dx,_,rfl,h2.c.ins,cl_no (by decide +kernel),_,rfl,_,rfl,x,r,c,gs,ag2,W2,hd,fp,O,m,s,rfl,h2.c,h2.fits hB,λns H3 b3 nd hn h3=>?_⟩;refine⟨_,_,_,rfl,b2.trans b3 λb z=>.inl z,h2.wake nd hn h3,λj s' hj' e n=>?_⟩
   cases q:offW W2 m s m s' n with
   |false=>rfl
   |true=>
    obtain⟨q1,q2⟩:=offW_iff.mp q;by_cases hji:j<i
    ·rw[hj j s' hji e n]at q1;cases q1
    ·rw[show j=i by omega,hs]at e;exact absurd ⟨rfl,(Option.some.inj e).symm⟩ q2
  rintro σ H2 ⟨ag2,W2,v2,rfl,b2,h2,hj⟩;rw[ints_len]at hj;have b02:Bt O H H2:=Bt.trans (.of s1) b2 λb z=>.inl z
  have off:∀s n,W2 m s n=false:=λs n=>by
   cases q:W2 m s n with
   |false=>rfl
   |true=>
    obtain⟨j,hj',e⟩:=List.mem_iff_getElem.mp (hzs s n (h2.s _ _ _ q));rw[hj j s hj' (by rw[List.getElem?_eq_getElem hj',e]) n]at q;cases q
  clear hj hzs hl nol h1;have R2:=rk b02;refine⟨_,rfl,x,_,c.dx,_,_,rfl,h2.c.ins,cl_Closing T,T.nC_rooms,cl_rooms _ _ _,r,a.dx,_,rfl,R2.ins,lk_none _ _ _ (by decide +kernel),_,rfl,r,S,a,m,S.eld m,rfl,R2,eld_at (by rw[wf.e];exact hm),?_⟩;generalize S.eld m=e at he k ⊢;refine⟨_,rfl,x,_,c.dx,_,_,rfl,h2.c.ins,cl_Closing T,T.nC_waiting,cl_waiting _ _ _,c.aW,rfl,h2.c.wt.isD,_,rfl,λp2 np2=>?_⟩;obtain⟨o2,d2,kvs2,zs2,g1,g2,g3,g4,hzs2⟩:=get e h2 p2 np2;refine⟨o2,g1,d2,kvs2,(by rw[g2]),g3,λl2 nl2=>?_⟩;rw[g4];have s3:=(Same.upd (o:=.dK []) np2).trans (Same.upd (o:=.lst (intV zs2)) nl2);have hl2:upd (upd H2 p2 (.dK [])) l2 (.lst (intV zs2)) l2=some (.lst (intV zs2)):=upd_same;replace nl2:=same_none (Same.upd (o:=.dK []) np2) nl2;generalize upd (upd H2 p2 (.dK [])) l2 (.lst (intV zs2))=H3 at s3 hl2 ⊢;clear g1 g2 g3 g4;have nol2:¬O l2:=λz=>by obtain⟨o,e,_⟩:=h2.c.th l2 z;rw[nl2]at e;cases e
  have h3:WkI A.c_Going A.c_Closing S bs gs W Ex B x r c hd fp O H3 ag2 W2:=⟨h2.c.same s3,h2.i,h2.s,h2.b⟩;refine⟨l2,rfl,⟨_,SqL.of hl2⟩,?_⟩
  refine for_list (K:=K) (a:=l2) (xs:=intV zs2) (λi σ H4=>∃ag4 W4 v2,σ=[some (.ref x),some (.int (m:Int)),v2,some (.int (e:Int))]/\Bt O H3 H4/\WkI A.c_Going A.c_Closing S bs gs W Ex B x r c hd fp O H4 ag4 W4/\(∀r s n,W4 r s n=true->W2 r s n=true)/\∀(j:Nat) (s:Int),j<i->zs2[j]?=some s->∀n,W4 e s n=true->S.by e s=none)
   ⟨ag2,W2,_,rfl,λ_ _ _ q=>q,h3,λ_ _ _ q=>q,λj s hj=>absurd hj (by omega)⟩ (λi σ H4 _ ⟨_,_,_,_,b4,_⟩=>SqL.of (b4 _ _ nol2 hl2)) ?_ ?_
  ·rintro i v σ H4 hi ⟨ag4,W4,v4,rfl,b4,h4,sub4,hj⟩;obtain⟨s,rfl,hs⟩:=ints_of_at hi;have b04:Bt O H H4:=b02.trans (Bt.trans (.of s3) b4 λb z=>.inl z) λb z=>.inl z
   have R4:=rk b04;refine⟨_,?_,λ_ _ z=>z⟩;refine⟨_,rfl,x,_,c.dx,_,_,rfl,h4.c.ins,cl_Closing T,T.nC_rooms,cl_rooms _ _ _,r,a.dx,_,rfl,R4.ins,lk_none _ _ _ (by decide +kernel),_,rfl,_,rfl,r,S,a,e,s,rfl,R4,by rw[wf.w];exact he,?_⟩
   cases eb:S.by e s with
   |none=>
    refine⟨rfl,_,rfl,?_⟩;refine ite2 (λz=>absurd z (by decide)) (λ_=>?_);refine⟨_,_,_,rfl,b4,h4,sub4,λj s' hj' q n w=>?_⟩;by_cases hji:j<i
    ·exact hj j s' hji q n w
    ·rw[show j=i by omega,hs]at q;rw[←Option.some.inj q];exact eb
   |some d=>
    rw[show (Option.map (λn:Nat=>V.int (n:Int)) (some d)).getD V.non=V.int (d:Int) from rfl];refine⟨rfl,_,rfl,?_⟩;refine ite2 (λ_=>?_) (λz=>absurd rfl z);refine⟨_,rfl,x,c.dx,_,rfl,h4.c.ins,cl_no (by decide +kernel),_,rfl,_,rfl,x,r,c,gs,ag4,W4,hd,fp,O,e,s,rfl,h4.c,h4.fits hB,λns H5 b5 nd hn h5=>?_⟩;refine⟨_,_,_,rfl,b4.trans b5 λb z=>.inl z,h4.wake nd hn h5,λr s n w=>sub4 _ _ _ (offW_iff.mp w).1,λj s' hj' q n w=>?_⟩;obtain⟨w1,w2⟩:=offW_iff.mp w;by_cases hji:j<i
    ·exact hj j s' hji q n w1
    ·rw[show j=i by omega,hs]at q;exact absurd ⟨rfl,(Option.some.inj q).symm⟩ w2
  rintro σ H4 ⟨ag4,W4,v4,rfl,b4,h4,sub4,hj⟩;rw[ints_len]at hj;refine k ag4 W4 H4 (b02.trans (Bt.trans (.of s3) b4 λb z=>.inl z) λb z=>.inl z) h4 (λs n=>?_) λs n w=>?_
  ·cases q:W4 m s n with
   |false=>rfl
   |true=>have:=sub4 _ _ _ q;rw[off s n]at this;cases this
  ·obtain⟨j,hj',q⟩:=List.mem_iff_getElem.mp (hzs2 s n (sub4 _ _ _ w));exact hj j s hj' (by rw[List.getElem?_eq_getElem hj',q]) n w
theorem CAt.heard {CG CC:Addr}{H:Hp}{x r:Addr}{c:KA}{gs:List (Option Gg)}{ag:List Nat}{W:Rel3}{hd:Nat}{fp:List (List Int×Nat)}{O:Addr->Prop}(h:CAt CG CC H x r c gs ag W hd fp O)(ng:∀(n:Nat) (g:Gg) (p dx wa:Addr),gs[n]?=some (some g)->GoAt CG H p dx wa g->p≠x)(n:Nat):CAt CG CC (upd H x (.ins CC c.dx (cfl r c n))) x r c gs ag W n fp O:=by
 have kn:∀b o,(∀C d fs,o≠.ins C d fs)->H b=some o->upd H x (.ins CC c.dx (cfl r c n)) b=some o:=λb o q e=>by rw[upd_ne (λz=>by rw[z,h.ins]at e;exact q _ _ _ (Option.some.inj e).symm)];exact e
 obtain⟨gv,g1,g2⟩:=h.hG;refine⟨upd_same,⟨gv,kn _ _ (by intro _ _ _ z;cases z) g1,g2.l,g2.n,λi v g e1 e2=>?_,g2.i⟩,kn _ _ (by intro _ _ _ z;cases z) h.hA,?_,h.ne,h.ox,h.oG,h.oA,λb hb=>?_⟩
 ·obtain⟨p,dx,wa,e,q,o⟩:=g2.s i v g e1 e2;exact⟨p,dx,wa,e,⟨by rw[upd_ne (ng i g p dx wa e2 q)];exact q.ins,kn _ _ (by intro _ _ _ z;cases z) q.wo⟩,o⟩
 ·obtain⟨D,E,k1,k2⟩:=h.wt;exact⟨D,E,k1.keep λb o hb e=>by obtain⟨kv,q⟩:=k1.there hb;rw[q]at e;cases e;exact kn _ _ (by intro _ _ _ z;cases z) q,k2⟩
 ·by_cases e:b=x
  ·exact⟨_,by rw[e];exact upd_same,(by intro _ z;cases z),by intro _ z;cases z⟩
  ·obtain⟨o,q,m⟩:=h.th b hb;exact⟨o,by rw[upd_ne e];exact q,m⟩
theorem go_nex {CG CC:Addr}{H:Hp}{x r:Addr}{c:KA}{gs:List (Option Gg)}{ag:List Nat}{W:Rel3}{hd:Nat}{fp:List (List Int×Nat)}{O:Addr->Prop}(h:CAt CG CC H x r c gs ag W hd fp O){p dx wa:Addr}{g:Gg}(q:GoAt CG H p dx wa g):p≠x:=λz=>by
 have:=q.ins;rw[z,h.ins]at this;have e:=congrArg (λo:Option HO=>match o with|some (.ins _ _ fs)=>fs.length|_=>0) this;exact absurd (show 6=7 from e) (by decide)
def hEx (S:RS)(hd:Nat):Nat->Int->Prop:=λr _=>∃m∈S.went.drop hd,r=m\/r=S.eld m
def spHear (CR CG CC:Addr):Sp:=λvs H Q _=>∃(x r:Addr) (c:KA) (S:RS) (a:RA) (R:Nat->Int->Nat->Prop) (bs:List (Nat×List Int×Nat)) (gs:List (Option Gg)) (ag:List Nat) (W:Rel3) (B hd:Nat) (fp:List (List Int×Nat)) (O:Addr->Prop),vs=[.ref x]/\WkI CG CC S bs gs W (hEx S hd) B x r c hd fp O H ag W/\B<=1000000/\hd<=S.went.length/\RoomsAt CR H r S a/\Good S [] R/\(∀m∈S.went,m<S.made)/\(∀b,a.own r b->¬O b)/\
 ∀ag' W' H',Bt O H H'->WkI CG CC S bs gs W noEx B x r c S.went.length fp O H' ag' W'->Q .non H'
theorem ok_Closing_hear (T:Txt K mg A):FnOk P w K mg base CX0 3 A.f_Closing_hear A.d_Closing_hear ["self"] (spHear A.c_Rooms A.c_Going A.c_Closing):=by
 have G_Closing_wake_all:FnOk P w K mg base CX0 2 A.f_Closing_wake_all A.d_Closing_wake_all ["self","room"] (spWakeA A.c_Rooms A.c_Going A.c_Closing):=ok_Closing_wake_all T;refine T.Closing_hear.F.ok sc_Closing_hear (λvs H Q E h=>?_) (λcdv AA outer s H vs Q E hr h=>?_)
 ·obtain⟨x,r,c,S,a,R,bs,gs,ag,W,B,hd,fp,O,rfl,_⟩:=h;rfl
 ·obtain⟨x,r,c,S,a,R,bs,gs,ag,W,B,hd,fp,O,rfl,h,hB,hhd,hR,gd,hwm,dj,k⟩:=h
  refine⟨_,(pss_one (ps_cut (ps_while PassesOwn.never (pt_cmpR op_lt (pe_fld (pv 0) rfl) (pe_callB call_len_seq rfl T.z_len PySem.boot_len (pa_cons (pe_fld (pe_fld (pv 0) rfl) rfl) pa_nil)) (nomark _))
   (pss_cons (ps_expr (pe_meth (pv 0) (cl_Closing T) T.Closing_wake_all.m (G_Closing_wake_all) (hr.mono (by decide)) T.Closing_wake_all.b .nil pass0 (pa_cons (pe_ix ix_list (pe_fld (pe_fld (pv 0) rfl) rfl) (pe_fld (pv 0) rfl) (λ_ _=>rfl)) pa_nil)))
   (pss_one (ps_fld (pv 0) (pe_op op_add (pe_fld (pv 0) rfl) pe_int) rfl)))))),?_⟩
  try dsimp only[cx_noxK,cx_K]
  have rk:∀{H2:Hp},Bt O H H2->RoomsAt A.c_Rooms H2 r S a:=λ{H2} b=>hR.keep (λb' o hb e=>b b' o (dj b' hb) e) (λb' xs e=>b b' _ (h.c.ntup e) e)
  refine⟨λ σ' H'=>Q .non H',?_,λ_ _ q=>q⟩;refine⟨λm σ H2=>∃hd2 ag2 W2,m=S.went.length - hd2/\σ=[some (.ref x)]/\hd2<=S.went.length/\Bt O H H2/\WkI A.c_Going A.c_Closing S bs gs W (hEx S hd2) B x r c hd2 fp O H2 ag2 W2,⟨_,hd,ag,W,rfl,rfl,hhd,λ_ _ _ e=>e,h⟩,?_⟩;rintro m σ H2 ⟨hd2,ag2,W2,rfl,rfl,hl2,b2,h2⟩;have R2:=rk b2;have rins:=R2.ins;refine⟨_,rfl,x,_,c.dx,_,_,rfl,h2.c.ins,cl_Closing T,T.nC_heard,cl_heard _ _ _,_,rfl,x,_,c.dx,_,_,rfl,h2.c.ins,cl_Closing T,T.nC_rooms,cl_rooms _ _ _,r,_,a.dx,_,_,rfl,rins,cl_Rooms T,T.n_went,lk_went _ _ _,a.aN,_,rfl,.inl (SqL.of R2.hN),_,_,rfl,rfl,_,rfl,?_⟩;refine ite2 (λq=>?_) (λq=>?_)
  ·have q:(hd2:Int)<((intV (nI S.went)).length:Int):=of_decide_eq_true q;rw[ints_len,nI_len]at q;have hlt:hd2<S.went.length:=by omega
   have hm:S.went[hd2]?=some (S.went[hd2]'hlt):=List.getElem?_eq_getElem hlt
   generalize S.went[hd2]'hlt=m at hm;have hmm:=hwm m (List.mem_of_getElem? hm);refine⟨_,λ_ _ z=>z,?_⟩;refine⟨_,rfl,x,c.dx,_,rfl,h2.c.ins,cl_no (by decide +kernel),_,rfl,x,_,c.dx,_,_,rfl,h2.c.ins,cl_Closing T,T.nC_rooms,cl_rooms _ _ _,r,_,a.dx,_,_,rfl,rins,cl_Rooms T,T.n_went,lk_went _ _ _,_,rfl,x,_,c.dx,_,_,rfl,h2.c.ins,cl_Closing T,T.nC_heard,cl_heard _ _ _,a.aN,_,_,.int (m:Int),rfl,rfl,SqL.of R2.hN,atI_nat (ints_at (nI_get hm)),?_⟩;refine⟨x,r,c,S,a,bs,gs,ag2,W2,hEx S hd2,B,hd2,fp,O,m,rfl,⟨h2.c,h2.i,λ_ _ _ z=>z,h2.b⟩,hB,R2,gd.wf,dj,hmm,gd.lt hmm,λag3 W3 H3 b3 h3 w1 w2=>?_⟩;refine⟨_,rfl,x,_,c.dx,_,_,rfl,h3.c.ins,cl_Closing T,T.nC_heard,cl_heard _ _ _,_,_,rfl,rfl,_,rfl,x,_,c.dx,_,rfl,h3.c.ins,cl_Closing T,T.nC_heard,(by show 6<1000;decide),?_⟩;rw[show (λ(i j:Int)=>V.int (i+ j)) (hd2:Int) 1=V.int ((hd2+ 1:Nat):Int) from rfl,cp_heard];have c4:=h3.c.heard (λn g p dx wa _ z=>go_nex h3.c z) (hd2+ 1);refine⟨S.went.length - (hd2+ 1),by omega,hd2+ 1,ag3,W3,rfl,rfl,hlt,?_,c4,h3.i.ex λr' s n w hr ex=>?_,λr s n w=>h2.s _ _ _ (h3.s _ _ _ w),h3.b⟩
   ·exact(b2.trans b3 λb z=>.inl z).trans (λb o n e=>by rw[upd_ne (λz=>n (by rw[z];exact h3.c.ox))];exact e:Bt O H3 _) λb z=>.inl z
   ·obtain⟨m',hm',q'⟩:=ex;rw[List.drop_eq_getElem_cons hlt]at hm';rcases List.mem_cons.mp hm' with z|z
    ·have em:m'=m:=by rw[z];rw[List.getElem?_eq_getElem hlt]at hm;exact Option.some.inj hm
     subst em;rcases q' with q'|q'
     ·rw[q',w1]at w;cases w
     ·subst q';exact .inl ⟨(gd.el _ hmm).2,w2 s n w⟩
    ·exact .inr ⟨m',z,q'⟩
  ·have q:¬(hd2:Int)<((intV (nI S.went)).length:Int):=λz=>q (decide_eq_true z)
   rw[ints_len,nI_len]at q;have e:hd2=S.went.length:=by omega
   subst e;refine k ag2 W2 H2 b2 ⟨h2.c,h2.i.ex λr' s n w hr ex=>?_,h2.s,h2.b⟩;obtain⟨m',hm',_⟩:=ex;rw[List.drop_length]at hm';cases hm'
theorem takeOk_of {S:RS}{pend:List Way}{R:Nat->Int->Nat->Prop}{ks:List Int}(g:Good S pend R)(hk:∀a z b,R a z b->z∈ks)(h1:S.made<=100000)(h2:ks.length<=100000)(h3:S.rows.length<=1000000)(h4:S.went.length<=1000000):TakeOk S:=by
 refine⟨g.wf,λc hc=>g.lt hc,λc z d e=>(g.st c z d e).2.1,λc n hn=>g.cb c n hn,λc _=>⟨g.kn c,λq hq=>(g.st c q.1 q.2 (getW_of (g.kn c) hq)).2.1,λq hq _=>?_⟩,⟨h1,λl hl=>?_,h3,h4,λl hl=>?_⟩⟩
 ·rw[g.sy c q.1 q.2 (getW_of (g.kn c) hq)];rfl
 ·obtain⟨c,hc⟩:=List.getElem?_of_mem hl;have:S.way c=l:=by unfold RS.way;rw[List.getD_eq_getElem?_getD,hc];rfl
  rw[←this];exact Nat.le_trans (g.wayLen hk c) h2
 ·obtain⟨c,hc⟩:=List.getElem?_of_mem hl;have:S.cal c=l:=by unfold RS.cal;rw[List.getD_eq_getElem?_getD,hc];rfl
  rw[←this];exact Nat.le_trans (g.calLen c) (by omega)
theorem stand_le (S:RS):S.stand<=S.made:=by
 unfold RS.stand;exact Nat.le_trans List.countP_le_length (by rw[List.length_range];exact Nat.le_refl _)
def LyI (R:Nat->Int->Nat->Prop)(m L B B2 M:Nat)(ks:List Int)(S0:RS)(p0:List Way)(S:RS)(pend:List Way):Prop:=Good S pend R/\S.made=m/\S.L=L/\S.rows.length+ S.stand<=B/\S.went.length+ S.stand<=B2/\mu ks.length S pend<=M/\∀S',LayR S pend S'->LayR S0 p0 S'
theorem lyI_step {R:Nat->Int->Nat->Prop}{m L B B2 M:Nat}{ks:List Int}{S0:RS}{p0:List Way}(hk:∀a z b,R a z b->z∈ks)(h1:m<=100000)(h2:ks.length<=100000)(h3:B<=1000000)(h5:B2<=1000000)(h4:M<=1000000)(S:RS)(pend:List Way)(w:Way)(h:LyI R m L B B2 M ks S0 p0 S (pend++[w])):
 TakeOk S/\w.1<S.made/\w.2.2<S.made/\pend.length<=1000000/\LyI R m L B B2 M ks S0 p0 (S.takeIn pend w).1 (S.takeIn pend w).2/\mu ks.length (S.takeIn pend w).1 (S.takeIn pend w).2<mu ks.length S (pend++[w]):=by
 obtain⟨g,e1,e2,e3,e4,e5,e6⟩:=h;obtain⟨a1,a2,a3,a4,a5⟩:=g.take hk;have hw:=g.pl w (List.mem_append_right _ List.mem_cons_self);refine⟨takeOk_of g hk (by omega) h2 (by omega) (by omega),hw.1,hw.2,?_,⟨a1,by rw[a3,e1],by rw[a4,e2],?_,?_,by omega,λS' l=>e6 S' (.take l)⟩,a2⟩
 ·unfold mu at e5;rw[List.length_append]at e5;omega
 ·rcases a5 with ⟨q1,q2,q3⟩|⟨q1,c,z,x,y,_,_,_,_,_,q2,q3,_⟩
  ·rw[q1,q2];exact e3
  ·rw[q2,List.length_append];have:([rowMeet c z (min x y) (max x y)]:List Dt).length=1:=rfl;omega
 ·rcases a5 with ⟨q1,q2,q3⟩|⟨q1,c,z,x,y,_,_,_,_,_,q2,q3,_⟩
  ·rw[q1,q3];exact e4
  ·rw[q3,List.length_append];have:([max x y]:List Nat).length=1:=rfl;omega
theorem stL_mem {L:Nat}{z:Int}:z∈stL (2* L)↔z≠0/\z.natAbs<=L:=by
 unfold stL;rw[List.mem_map];constructor
 ·rintro ⟨i,hi,rfl⟩;exact M12.st_ok (List.mem_range.mp hi)
 ·rintro ⟨h1,h2⟩;by_cases hp:0<z
  ·refine⟨2* (z.toNat - 1),List.mem_range.mpr (by omega),?_⟩;unfold M12.st;rw[if_pos (by omega)];omega
  ·refine⟨2* (z.natAbs - 1)+ 1,List.mem_range.mpr (by omega),?_⟩;unfold M12.st;rw[if_neg (by omega)];omega
structure RmI (CR:Addr) (H:Hp) (r:Addr) (S:RS) (a:RA) (R:Nat->Int->Nat->Prop) (ks:List Int) (B:Nat):Prop where
 at_:RoomsAt CR H r S a
 g:Good S [] R
 w:WentI S
 k:∀a z b,R a z b->z∈ks
 m:S.made<=2000
 l:ks.length<=400
 rb:S.rows.length+ S.stand<=B
 wb:S.went.length+ S.stand<=900000
theorem RmI.keep {CR:Addr}{H H':Hp}{r:Addr}{S:RS}{a:RA}{R:Nat->Int->Nat->Prop}{ks:List Int}{B:Nat}(h:RmI CR H r S a R ks B)(k:∀b o,a.own r b->H b=some o->H' b=some o)(kt:∀b xs,H b=some (.tup xs)->H' b=some (.tup xs)):RmI CR H' r S a R ks B:=⟨h.at_.keep k kt,h.g,h.w,h.k,h.m,h.l,h.rb,h.wb⟩
theorem RmI.same {CR:Addr}{H H':Hp}{r:Addr}{S:RS}{a:RA}{R:Nat->Int->Nat->Prop}{ks:List Int}{B:Nat}(h:RmI CR H r S a R ks B)(s:Same H H'):RmI CR H' r S a R ks B:=h.keep (λb o _ e=>s _ _ e) (λb o e=>s _ _ e)
theorem nol_rule (w:Nat)(p:List Nat)(k:Nat)(h:p.length<=100000):NoL (rowRule w p k):=by
 refine .t (by show 4<=100000;decide) λd hd=>?_
 simp only[List.mem_cons,List.not_mem_nil,or_false]at hd;rcases hd with rfl|rfl|rfl|rfl
 ·exact .s
 ·exact .i
 ·refine .t (by rw[List.length_map];exact h) λd hd=>?_
  obtain⟨c,_,rfl⟩:=List.mem_map.mp hd;exact .i
 ·exact .i
def spCLay (CR CG CC:Addr):Sp:=λvs H Q _=>∃(x r p dx wa:Addr) (c:KA) (S:RS) (a:RA) (R:Nat->Int->Nat->Prop) (ks:List Int) (B:Nat) (ws:List (List Int)) (nr:Nat) (bs:List (Nat×List Int×Nat)) (gs:List (Option Gg)) (ag:List Nat) (W:Rel3) (fp:List (List Int×Nat)) (O:Addr->Prop) (n:Nat) (g:Gg),vs=[.ref x,.ref p]/\CAt CG CC H x r c gs ag W S.went.length fp O/\RmI CR H r S a R ks B/\B<900000/\(∀b,a.own r b->¬O b)/\CI S bs gs ag W noEx (some n)/\gs[n]?=some none/\bs[n]?=some (g.which,g.word,g.start)/\GoAt CG H p dx wa g/\¬O p/\¬a.own r p/\GI S g/\g.first=g.last/\S.eld g.start=g.start/\S.eld g.front=g.front/\S.eld g.rear=g.rear/\ws[g.which]?=some g.word/\(g.which<nr\/g.start=0)/\(∀z∈g.word,z∈ks/\-z∈ks)/\g.word.length<=1000/\ag.length+ 2* gs.length<=1000000/\
 ∀S' a' R' ag' W' H',(∀b o,¬O b->¬a.own r b->H b=some o->H' b=some o)->CAt CG CC H' x r c gs ag' W' S'.went.length fp O->RmI CR H' r S' a' R' ks (B+ 1)->(∀b,a'.own r b->a.own r b\/H b=none)->CI S' bs gs ag' W' noEx none->ag'.length<=ag.length+ 2* gs.length->(∀a z b,R a z b->R' a z b)->S'.made=S.made->S'.L=S.L->Tr ws nr S S'->Q .non H'
theorem ok_Closing_lay (T:Txt K mg A):FnOk P w K mg base CX0 6 A.f_Closing_lay A.d_Closing_lay ["self","going"] (spCLay A.c_Rooms A.c_Going A.c_Closing):=by
 have G_Rooms_lay:FnOk P w K mg base CX0 5 A.f_Rooms_lay A.d_Rooms_lay ["self","room","step","other","row"] (spLay A.c_Rooms):=ok_Rooms_lay T;have G_Closing_wake:FnOk P w K mg base CX0 1 A.f_Closing_wake A.d_Closing_wake ["self","room","step"] (spWake A.c_Rooms A.c_Going A.c_Closing):=ok_Closing_wake T;have G_Closing_hear:FnOk P w K mg base CX0 3 A.f_Closing_hear A.d_Closing_hear ["self"] (spHear A.c_Rooms A.c_Going A.c_Closing):=ok_Closing_hear T;have G_Rooms_by:FnOk P w K mg base CX0 1 A.f_Rooms_by A.d_Rooms_by ["self","room","step"] (spRBy A.c_Rooms):=ok_Rooms_by T;have G_Going_row:FnOk P w K mg base CX0 3 A.f_Going_row A.d_Going_row ["self","rooms"] (spGRow A.c_Rooms A.c_Going):=ok_Going_row T;refine T.Closing_lay.F.ok sc_Closing_lay (λvs H Q E h=>?_) (λcdv AA outer s H vs Q E hr h=>?_)
 ·obtain⟨x,r,p,dx,wa,c,S,a,R,ks,B,ws,nr,bs,gs,ag,W,fp,O,n,g,rfl,_⟩:=h;rfl
 ·obtain⟨x,r,p,dx,wa,c,S,a,R,ks,B,ws,nr,bs,gs,ag,W,fp,O,n,g,rfl,hc,hR,hB,dj,ci,hgn,hbn,hp,npO,npo,gi,efl,es,ef,er,hws,hnr,hks,hwl,hag,k⟩:=h
  refine⟨_,(pss_cons (ps_set (i:=2) sc_Closing_lay.nd rfl (Or.inl rfl) (pe_ix ix_tup (pe_fld (pv 1) rfl) (pe_fld (pv 1) rfl) (λ_ _=>rfl)))
   (pss_cons (ps_if (pt_cmpR op_eq (pe_meth (pe_fld (pv 0) rfl) (cl_Rooms T) T.Rooms_by.m (G_Rooms_by) (hr.mono (by decide)) T.Rooms_by.b .nil pass0 (pa_cons (pe_fld (pv 1) rfl) (pa_cons (pv 2) pa_nil))) (pe_fld (pv 1) rfl) (nomark _))
    (pss_one ps_retN)
    pss_nil)
   (pss_cons (ps_expr (pe_meth (pe_fld (pv 0) rfl) (cl_Rooms T) T.Rooms_lay.m (G_Rooms_lay) (hr.mono (by decide)) T.Rooms_lay.b .nil pass0 (pa_cons (pe_fld (pv 1) rfl) (pa_cons (pv 2) (pa_cons (pe_fld (pv 1) rfl) (pa_cons (pe_meth (pv 1) (cl_Going T) T.Going_row.m (G_Going_row) (hr.mono (by decide)) T.Going_row.b .nil pass0 (pa_cons (pe_fld (pv 0) rfl) pa_nil)) pa_nil))))))
   (pss_cons (ps_expr (pe_meth (pv 0) (cl_Closing T) T.Closing_wake.m (G_Closing_wake) (hr.mono (by decide)) T.Closing_wake.b .nil pass0 (pa_cons (pe_fld (pv 1) rfl) (pa_cons (pv 2) pa_nil))))
   (pss_cons (ps_expr (pe_meth (pv 0) (cl_Closing T) T.Closing_wake.m (G_Closing_wake) (hr.mono (by decide)) T.Closing_wake.b .nil pass0 (pa_cons (pe_fld (pv 1) rfl) (pa_cons (pe_un un_neg (pv 2)) pa_nil))))
   (pss_one (ps_expr (pe_meth0 (pv 0) (cl_Closing T) T.Closing_hear.m (G_Closing_hear) (hr.mono (by decide)) T.Closing_hear.b .nil pass0)))))))),?_⟩
  try dsimp only[cx_noxK,cx_K]
  refine seq_let5 ?_;intro u_5 u_4 u_3 u_2 u_1;have hz:=Gg.at1 (g:=g) (by rw[efl];exact gi.ll);have at1:atI (intV g.word) (g.first:Int)=some (.int g.z1):=atI_nat (ints_at hz);have gd:=hR.g;refine⟨_,rfl,p,_,dx,_,_,rfl,hp.ins,cl_Going T,T.nG_word,gl_word _ _,_,rfl,p,_,dx,_,_,rfl,hp.ins,cl_Going T,T.nG_first,gl_first _ _,wa,_,_,.int g.z1,rfl,rfl,SqT.of hp.wo,at1,?_⟩;refine⟨_,rfl,x,_,c.dx,_,_,rfl,hc.ins,cl_Closing T,T.nC_rooms,cl_rooms _ _ _,r,a.dx,_,rfl,hR.at_.ins,lk_none _ _ _ (by decide +kernel),_,rfl,p,_,dx,_,_,rfl,hp.ins,cl_Going T,T.nG_front,gl_front _ _,_,rfl,r,S,a,g.front,g.z1,rfl,hR.at_,by rw[gd.wf.w];exact gi.f,_,rfl,p,_,dx,_,_,rfl,hp.ins,cl_Going T,T.nG_rear,gl_rear _ _,?_⟩
  have fin:S.by g.front g.z1=some g.rear->Q .non H:=λhb=>by
   refine k S a R ag W H (λ_ _ _ _ e=>e) hc ⟨hR.at_,hR.g,hR.w,hR.k,hR.m,hR.l,by have:=hR.rb;omega,hR.wb⟩ (λb z=>.inl z) (ci.done hgn λb eb=>?_) (by omega) (λ_ _ _ z=>z) rfl rfl (.refl S);rw[hbn]at eb;obtain rfl:=Option.some.inj eb;exact .inr (gi.whole efl es ef er hb)
  by_cases hb:S.by g.front g.z1=some g.rear
  ·rw[hb];refine⟨rfl,_,rfl,?_⟩;exact ite2 (λ_=>fin hb) (λz=>absurd (decide_eq_true rfl) z)
  have tst:scal (((S.by g.front g.z1).map λn:Nat=>V.int (n:Int)).getD .non) (.int (g.rear:Int))=true/\decide ((((S.by g.front g.z1).map λn:Nat=>V.int (n:Int)).getD .non)=V.int (g.rear:Int))=false:=by
   cases q:S.by g.front g.z1 with
   |none=>exact⟨rfl,decide_eq_false (by intro z;cases z)⟩
   |some d=>exact⟨rfl,decide_eq_false (λz=>hb (by rw[q];have:=V.int.inj z;congr 1;omega))⟩
  refine⟨tst.1,_,rfl,?_⟩;rw[tst.2];refine iteF ?_;clear fin tst;refine⟨_,rfl,x,_,c.dx,_,_,rfl,hc.ins,cl_Closing T,T.nC_rooms,cl_rooms _ _ _,r,a.dx,_,rfl,hR.at_.ins,lk_none _ _ _ (by decide +kernel),_,rfl,p,_,dx,_,_,rfl,hp.ins,cl_Going T,T.nG_front,gl_front _ _,_,rfl,_,rfl,p,_,dx,_,_,rfl,hp.ins,cl_Going T,T.nG_rear,gl_rear _ _,_,rfl,p,dx,_,rfl,hp.ins,gl_no (by decide +kernel),_,rfl,x,_,c.dx,_,_,rfl,hc.ins,cl_Closing T,T.nC_rooms,cl_rooms _ _ _,p,dx,wa,r,g,S,a,R,rfl,hp,hR.at_,gd,gi.s,gi.r,gi.ll,hwl,λq H1 s1 dt=>?_⟩;have lx:=goes_le (by_:=S.by) (ws:=g.word.take g.first) (r:=g.start);have ly:=goes_le (by_:=S.by) (ws:=g.word.drop (g.last+ 1)) (r:=g.rear);rw[List.length_take]at lx;rw[List.length_drop]at ly;have f1:=gi.wf;have f2:=gi.wr;rw[es,ef]at f1;rw[es,er,←efl]at f2;rw[←efl]at dt ly;have ra:RuleAt ws nr S g.which g.word g.start g.first g.front g.rear g.z1:=⟨hws,hnr,⟨gi.s,es⟩,hz,f1,f2,⟨gi.f,ef⟩,⟨gi.r,er⟩,hb⟩
  have hks':∀a y b,RAdd R g.front g.z1 g.rear a y b->y∈ks:=by
   have:=hks g.z1 (List.mem_of_getElem? hz);rintro a y b (z|⟨_,e,_⟩|⟨_,e,_⟩)
   ·exact hR.k _ _ _ z
   ·rw[e];exact this.1
   ·rw[e];exact this.2
  have stl:=stand_le S
  have hmu:mu ks.length (ruled S g.which g.word g.start g.first g.rear) [(g.front,g.z1,g.rear)]<=1000000:=by
   unfold mu;have h1:(ruled S g.which g.word g.start g.first g.rear).stand=S.stand:=rfl;have:S.stand* (ks.length+ 1)<=2000* 401:=Nat.mul_le_mul (by have:=hR.m;omega) (by have:=hR.l;omega);rw[h1];show S.stand* (ks.length+ 1)+ 1<=_;omega
  have gl:=gd.lay g.z1 gi.f gi.r (ruled S g.which g.word g.start g.first g.rear).rows;refine⟨r,q,S,a,g.front,g.rear,g.z1,_,LyI (RAdd R g.front g.z1 g.rear) S.made S.L (B+ 1) 900000 1000000 ks (ruled S g.which g.word g.start g.first g.rear) [(g.front,g.z1,g.rear)],mu ks.length,rfl,hR.at_.same s1,by have:=hR.rb;omega,dt,nol_rule _ _ _ (by rw[List.length_append,List.length_cons,List.length_cons];omega),⟨gl,rfl,rfl,?_,hR.wb,hmu,λ_ z=>z⟩,lyI_step hks' (by have:=hR.m;omega) (by have:=hR.l;omega) (by omega) (by decide) (by decide),λS' a' H2 b2 h2 i2 o2=>?_⟩
  ·show (S.rows++[_]).length+ S.stand<=_;rw[List.length_append];have:=hR.rb;show _+ 1+ _<=_;omega
  obtain⟨g2,em,eL,rb2,wb2,_,re⟩:=i2;have lay:=re S' (.nil S');obtain⟨_,w2,_,_,l,el⟩:=lay.all gl hks' (⟨hR.w.a,hR.w.b,hR.w.c⟩:WentI (ruled S g.which g.word g.start g.first g.rear));have el:S'.went=S.went++l:=el;have b02:∀b o,¬a.own r b->H b=some o->H2 b=some o:=λb o nb e=>b2 b o nb (s1 _ _ e)
  have o02:∀b,a'.own r b->a.own r b\/H b=none:=λb z=>(o2 b z).imp id (same_none s1)
  have dj2:∀b,a'.own r b->¬O b:=λb z y=>by
   rcases o02 b z with q|q
   ·exact dj b q y
   ·obtain⟨o,e,_⟩:=hc.th b y;rw[q]at e;cases e
  have c2:CAt A.c_Going A.c_Closing H2 x r c gs ag W S.went.length fp O:=hc.keep (λb o hb e=>b02 b o (λz=>dj b z hb) e) (λb xs e=>b02 b _ (hR.at_.notup e) e);have p2:GoAt A.c_Going H2 p dx wa g:=⟨b02 _ _ npo hp.ins,b02 _ _ (hR.at_.notup hp.wo) hp.wo⟩;have lt:=Later.of gd g2 radd_sub (Nat.le_of_eq em.symm)
  have ci2:=ci.lay hgn gd g2 em hR.w w2 el gi.f ef gi.r er λb eb=>by
   rw[hbn]at eb;obtain rfl:=Option.some.inj eb;show S'.eld g.start≠g.start\/wk S'.by g.start g.word=some g.start;by_cases e1:S'.eld g.start=g.start
   ·right
    have h1:=lt.wk f1;have h3:=lt.wk f2;have hbb:=g2.by_iff.mpr ⟨g.front,g.rear,radd_new,rfl,rfl⟩;rw[e1]at h1 h3;have:g.word=g.word.take g.first++(g.z1::g.word.drop (g.first+ 1)):=by rw[←drop_cons hz,List.take_append_drop]
    rw[this,wk_app h1,wk_cons hbb];exact h3
   ·exact .inl e1
  have wk0:WkI A.c_Going A.c_Closing S' bs gs W _ (ag.length+ 2* gs.length) x r c S.went.length fp O H2 ag W:=⟨c2,ci2,λ_ _ _ z=>z,by have:=ci2.two;omega⟩;refine⟨_,rfl,x,c.dx,_,rfl,c2.ins,cl_no (by decide +kernel),_,rfl,p,_,dx,_,_,rfl,p2.ins,cl_Going T,T.nG_front,gl_front _ _,_,rfl,x,r,c,gs,ag,W,S.went.length,fp,O,g.front,g.z1,rfl,c2,wk0.fits hag,λns H3 b3 nd hn c3=>?_⟩;have wk1:=wk0.wake nd hn c3;have p3:GoAt A.c_Going H3 p dx wa g:=⟨b3 _ _ npO p2.ins,b3 _ _ (c2.ntup p2.wo) p2.wo⟩;refine⟨_,rfl,x,c.dx,_,rfl,c3.ins,cl_no (by decide +kernel),_,rfl,p,_,dx,_,_,rfl,p3.ins,cl_Going T,T.nG_rear,gl_rear _ _,_,rfl,_,rfl,x,r,c,gs,_,_,S.went.length,fp,O,g.rear,-g.z1,rfl,c3,wk1.fits hag,λns2 H4 b4 nd2 hn2 c4=>?_⟩;have wk2:=wk1.wake nd2 hn2 c4;have b24:Bt O H2 H4:=b3.trans b4 λb z=>.inl z
  have R4:RoomsAt A.c_Rooms H4 r S' a':=h2.keep (λb o hb e=>b24 b o (dj2 b hb) e) (λb xs e=>b24 b _ (c2.ntup e) e)
  have i4:CI S' bs gs (ag++ns++ns2) (offW (offW W g.front g.z1) g.rear (-g.z1)) (hEx S' S.went.length) none:=wk2.i.ex λr' s n' w hr ex=>by
   obtain⟨w1,n1⟩:=offW_iff.mp w;obtain⟨w2,n2⟩:=offW_iff.mp w1;rcases ex with ⟨e1,e2⟩|⟨e1,e2⟩|⟨m,hm,e⟩
   ·exact absurd ⟨by rw[e1],e2⟩ n2
   ·exact absurd ⟨by rw[e1],e2⟩ n1
   ·exact .inr ⟨m,by rw[el,List.drop_append_of_le_length (Nat.le_refl _),List.drop_length];exact hm,e⟩
  refine⟨_,rfl,x,c.dx,_,rfl,c4.ins,cl_no (by decide +kernel),x,r,c,S',a',_,bs,gs,_,_,_,S.went.length,fp,O,rfl,⟨c4,i4,λ_ _ _ z=>z,wk2.b⟩,hag,by rw[el,List.length_append];omega,R4,g2,w2.c,dj2,λag5 W5 H5 b5 h5=>?_⟩;have b25:Bt O H2 H5:=b24.trans b5 λb z=>.inl z
  refine k S' a' _ ag5 W5 H5 (λb o n1 n2 e=>b25 b o n1 (b02 b o n2 e)) h5.c ⟨h2.keep (λb o hb e=>b25 b o (dj2 b hb) e) (λb xs e=>b25 b _ (c2.ntup e) e),g2,w2,hks',by rw[em];exact hR.m,hR.l,rb2,wb2⟩ o02 h5.i (by have:=h5.b;omega) radd_sub em eL (.step (.refl S) ra lay)
theorem iteNV {x y:V}{A B:Prop}(h:x=y)(k:B):if (!decide (x=y))=true then A else B:=by rw[if_neg (by simp[h])];exact k
section
variable {CG CC:Addr} {H H':Hp} {x r:Addr} {c:KA} {gs:List (Option Gg)} {ag:List Nat} {W:Rel3} {hd:Nat} {fp:List (List Int×Nat)} {O:Addr->Prop} {gv:List V} {n:Nat} {p dx wa:Addr} {g g':Gg}
theorem CAt.setGo (h:CAt CG CC H x r c gs ag W hd fp O)(hG:H c.aG=some (.lst gv))(hs:GsAt CG H gv gs O)(ev:gv[n]?=some (.ref p))(op:O p)(q:GoAt CG H p dx wa g)(f:∀b o,b≠p->H b=some o->H' b=some o)(q':GoAt CG H' p dx wa g'):CAt CG CC H' x r c (gs.set n (some g')) ag W hd fp O/\GsAt CG H' gv (gs.set n (some g')) O:=by
 have kn:∀b o,(∀C d fs,o≠.ins C d fs)->H b=some o->H' b=some o:=λb o w e=>f b o (λz=>by rw[z,q.ins]at e;exact w _ _ _ (Option.some.inj e).symm) e
 have gsn:GsAt CG H' gv (gs.set n (some g')) O:=by
  refine⟨by rw[List.length_set];exact hs.l,λi v e1 e2=>?_,λi v u e1 e2=>?_,hs.i⟩
  ·rcases set_at e2 with ⟨_,z⟩|⟨_,z⟩
   ·cases z
   ·exact hs.n i v e1 z
  ·rcases set_at e2 with ⟨z1,z⟩|⟨z1,z⟩
   ·cases z;rw[z1,ev]at e1;exact⟨p,dx,wa,(Option.some.inj e1).symm,q',op⟩
   ·obtain⟨p1,dx1,wa1,e,q1,o1⟩:=hs.s i v u e1 z;have np:p1≠p:=λz=>z1 (hs.i i n p (by rw[←z,←e];exact e1) ev)
    exact⟨p1,dx1,wa1,e,⟨f _ _ np q1.ins,kn _ _ (by intro _ _ _ z;cases z) q1.wo⟩,o1⟩
 refine⟨⟨f _ _ (go_nex h q).symm h.ins,⟨gv,kn _ _ (by intro _ _ _ z;cases z) hG,gsn⟩,kn _ _ (by intro _ _ _ z;cases z) h.hA,?_,h.ne,h.ox,h.oG,h.oA,λb hb=>?_⟩,gsn⟩
 ·obtain⟨D,E,k1,k2⟩:=h.wt;exact⟨D,E,k1.keep λb o hb e=>by obtain⟨kv,q⟩:=k1.there hb;rw[q]at e;cases e;exact kn _ _ (by intro _ _ _ z;cases z) q,k2⟩
 ·by_cases e:b=p
  ·exact⟨_,by rw[e];exact q'.ins,(by intro _ z;cases z),by intro _ z;cases z⟩
  ·obtain⟨o,q,m⟩:=h.th b hb;exact⟨o,f _ _ e q,m⟩
theorem CAt.setNone (h:CAt CG CC H x r c gs ag W hd fp O)(hG:H c.aG=some (.lst gv))(hs:GsAt CG H gv gs O)(ev:gv[n]?=some (.ref p))(q:GoAt CG H p dx wa g):CAt CG CC (upd H c.aG (.lst (gv.set n .non))) x r c (gs.set n none) ag W hd fp (λb=>O b/\b≠p):=by
 have k:∀b o,b≠c.aG->H b=some o->upd H c.aG (.lst (gv.set n .non)) b=some o:=λb o n e=>by rw[upd_ne n];exact e
 have kn:∀b o,(∀xs,o≠.lst xs)->H b=some o->upd H c.aG (.lst (gv.set n .non)) b=some o:=λb o w e=>k b o (λz=>by rw[z,hG]at e;exact w _ (Option.some.inj e).symm) e
 have nl:∀{b xs},H b=some (.lst xs)->b≠p:=λ{b xs} e z=>by rw[z,q.ins]at e;cases e
 refine⟨kn _ _ (by intro _ z;cases z) h.ins,⟨_,upd_same,by rw[List.length_set,List.length_set];exact hs.l,λi v e1 e2=>?_,λi v u e1 e2=>?_,λi j p' e1 e2=>?_⟩,k _ _ h.ne.symm h.hA,?_,h.ne,⟨h.ox,(go_nex h q).symm⟩,⟨h.oG,nl hG⟩,⟨h.oA,nl h.hA⟩,λb hb=>?_⟩
 ·rcases set_at e1 with ⟨z1,z⟩|⟨z1,z⟩
  ·exact z
  ·rcases set_at e2 with ⟨y1,_⟩|⟨_,y⟩
   ·exact absurd y1 z1
   ·exact hs.n i v z y
 ·rcases set_at e2 with ⟨_,z⟩|⟨z1,z⟩
  ·cases z
  ·rcases set_at e1 with ⟨y1,_⟩|⟨_,y⟩
   ·exact absurd y1 z1
   ·obtain⟨p1,dx1,wa1,e,q1,o1⟩:=hs.s i v u y z;have np:p1≠p:=λw=>z1 (hs.i i n p (by rw[←w,←e];exact y) ev)
    exact⟨p1,dx1,wa1,e,⟨kn _ _ (by intro _ z;cases z) q1.ins,kn _ _ (by intro _ z;cases z) q1.wo⟩,o1,np⟩
 ·rcases set_at e1 with ⟨_,z⟩|⟨_,z⟩
  ·cases z
  ·rcases set_at e2 with ⟨_,y⟩|⟨_,y⟩
   ·cases y
   ·exact hs.i i j p' z y
 ·obtain⟨D,E,k1,k2⟩:=h.wt;refine⟨D,E,k1.keep λb o hb e=>by obtain⟨kv,q⟩:=k1.there hb;rw[q]at e;cases e;exact kn _ _ (by intro _ z;cases z) q,λb hb=>⟨k2.o b hb,λz=>?_⟩,k2.d,k2.e,k2.w⟩;obtain⟨kv,q2⟩:=k1.there hb;rw[z,q.ins]at q2;cases q2
 ·by_cases e:b=c.aG
  ·exact⟨_,by rw[e];exact upd_same,(by intro _ z;cases z),by intro _ z;cases z⟩
  ·obtain⟨o,q,m⟩:=h.th b hb.1;exact⟨o,k _ _ e q,m⟩
end
structure BsOk (ws:List (List Int)) (nr:Nat) (ks:List Int) (bs:List (Nat×List Int×Nat)):Prop where
 w:∀b∈bs,ws[b.1]?=some b.2.1
 n:∀b∈bs,b.1<nr\/b.2.2=0
 l:∀b∈bs,b.2.1.length<=1000
 k:∀b∈bs,∀z∈b.2.1,z∈ks/\-z∈ks
 c:bs.length<100000
def live (gs:List (Option Gg)):Nat:=gs.countP (·.isSome)
theorem live_set {gs:List (Option Gg)}{n:Nat}{g:Gg}(h:gs[n]?=some (some g)):(∀u:Gg,live (gs.set n (some u))=live gs)/\live (gs.set n none)+ 1=live gs:=by
 unfold live
 induction gs generalizing n with
 |nil=>simp at h
 |cons y r ih=>
  cases n with
  |zero=>
   have:y=some g:=by simpa using h
   subst this;simp[List.countP_cons]
  |succ n=>
   obtain⟨i1,i2⟩:=ih (n:=n) (by simpa using h);simp only[List.set_cons_succ,List.countP_cons];exact⟨λu=>by rw[i1 u],by omega⟩
def spGoOn (CR CG CC:Addr):Sp:=λvs H Q _=>∃(x r:Addr) (c:KA) (S:RS) (a:RA) (R:Nat->Int->Nat->Prop) (ks:List Int) (B:Nat) (ws:List (List Int)) (nr:Nat) (bs:List (Nat×List Int×Nat)) (gs:List (Option Gg)) (ag:List Nat) (W:Rel3) (fp:List (List Int×Nat)) (O:Addr->Prop) (n:Nat),vs=[.ref x,.int n]/\CAt CG CC H x r c gs ag W S.went.length fp O/\RmI CR H r S a R ks B/\B<900000/\(∀b,a.own r b->¬O b)/\CI S bs gs (ag++[n]) W noEx none/\BsOk ws nr ks bs/\ag.length+ 2* gs.length<=1000000/\
 ∀S' a' R' gs' ag' W' O' B' H',(∀b o,¬O b->¬a.own r b->H b=some o->H' b=some o)->CAt CG CC H' x r c gs' ag' W' S'.went.length fp O'->RmI CR H' r S' a' R' ks B'->(∀b,a'.own r b->a.own r b\/H b=none)->(∀b,O' b->O b\/H b=none)->(∀b,a'.own r b->¬O' b)->CI S' bs gs' ag' W' noEx none->(∀a z b,R a z b->R' a z b)->S'.made=S.made->S'.L=S.L->Tr ws nr S S'->(live gs'=live gs/\ag'.length=ag.length/\B'=B)\/(live gs'+ 1=live gs/\ag'.length<=ag.length+ 2* gs.length/\B'<=B+ 1)->Q .non H'
theorem ok_Closing_go_on (T:Txt K mg A):FnOk P w K mg base CX0 7 A.f_Closing_go_on A.d_Closing_go_on ["self","number"] (spGoOn A.c_Rooms A.c_Going A.c_Closing):=by
 have G_Going_advance:FnOk P w K mg base CX0 2 A.f_Going_advance A.d_Going_advance ["self","rooms"] (spAdv A.c_Rooms A.c_Going):=ok_Going_advance T;have G_Rooms_elder:FnOk P w K mg base CX0 1 A.f_Rooms_elder A.d_Rooms_elder ["self","room"] (spElder A.c_Rooms):=ok_Rooms_elder T;have G_Closing_wait:FnOk P w K mg base CX0 1 A.f_Closing_wait A.d_Closing_wait ["self","number","room","step"] (spWait A.c_Rooms A.c_Going A.c_Closing):=ok_Closing_wait T;have G_Closing_lay:FnOk P w K mg base CX0 6 A.f_Closing_lay A.d_Closing_lay ["self","going"] (spCLay A.c_Rooms A.c_Going A.c_Closing):=ok_Closing_lay T;have G_Rooms_lay:FnOk P w K mg base CX0 5 A.f_Rooms_lay A.d_Rooms_lay ["self","room","step","other","row"] (spLay A.c_Rooms):=ok_Rooms_lay T;refine T.Closing_go_on.F.ok sc_Closing_go_on (λvs H Q E h=>?_) (λcdv AA outer s H vs Q E hr h=>?_)
 ·obtain⟨x,r,c,S,a,R,ks,B,ws,nr,bs,gs,ag,W,fp,O,n,rfl,_⟩:=h;rfl
 ·obtain⟨x,r,c,S,a,R,ks,B,ws,nr,bs,gs,ag,W,fp,O,n,rfl,h,hR,hB,dj,ci,hbs,hag,k⟩:=h
  refine⟨_,(pss_cons (ps_set (i:=2) sc_Closing_go_on.nd rfl (Or.inl rfl) (pe_ix ix_list (pe_fld (pv 0) rfl) (pv 1) (λ_ _=>rfl)))
   (pss_cons (ps_if (pt_cmpR op_isN (pv 2) pe_non (nomark _))
    (pss_one ps_retN)
    pss_nil)
   (pss_cons (ps_if (pt_cmpR op_ne (pe_meth (pe_fld (pv 0) rfl) (cl_Rooms T) T.Rooms_elder.m (G_Rooms_elder) (hr.mono (by decide)) T.Rooms_elder.b .nil pass0 (pa_cons (pe_fld (pv 2) rfl) pa_nil)) (pe_fld (pv 2) rfl) (nomark _))
    (pss_cons (ps_asg pe_non (pg_sub (pe_fld (pv 0) rfl) (pv 1) set_list))
    (pss_one ps_retN))
    pss_nil)
   (pss_cons (ps_expr (pe_meth (pv 2) (cl_Going T) T.Going_advance.m (G_Going_advance) (hr.mono (by decide)) T.Going_advance.b .nil pass0 (pa_cons (pe_fld (pv 0) rfl) pa_nil)))
   (pss_one (ps_cut (ps_if (pt_cmpR op_lt (pe_fld (pv 2) rfl) (pe_fld (pv 2) rfl) (nomark _))
    (pss_cons (ps_expr (pe_meth (pv 0) (cl_Closing T) T.Closing_wait.m (G_Closing_wait) (hr.mono (by decide)) T.Closing_wait.b .nil pass0 (pa_cons (pv 1) (pa_cons (pe_fld (pv 2) rfl) (pa_cons (pe_ix ix_tup (pe_fld (pv 2) rfl) (pe_fld (pv 2) rfl) (λ_ _=>rfl)) pa_nil)))))
    (pss_one (ps_expr (pe_meth (pv 0) (cl_Closing T) T.Closing_wait.m (G_Closing_wait) (hr.mono (by decide)) T.Closing_wait.b .nil pass0 (pa_cons (pv 1) (pa_cons (pe_fld (pv 2) rfl) (pa_cons (pe_un un_neg (pe_ix ix_tup (pe_fld (pv 2) rfl) (pe_fld (pv 2) rfl) (λ_ _=>rfl))) pa_nil)))))))
    (pss_cons (ps_asg pe_non (pg_sub (pe_fld (pv 0) rfl) (pv 1) set_list))
    (pss_one (ps_expr (pe_meth (pv 0) (cl_Closing T) T.Closing_lay.m (G_Closing_lay) (hr.mono (by decide)) T.Closing_lay.b .nil pass0 (pa_cons (pv 2) pa_nil)))))))))))),?_⟩
  try dsimp only[cx_noxK,cx_K]
  refine seq_let4 ?_;intro u_4 u_3 u_2 u_1;have hn:n<gs.length:=ci.ab n (List.mem_append_right _ (List.mem_singleton.mpr rfl));obtain⟨gv,hG,hs⟩:=h.hG;have hv:gv[n]?=some (gv[n]'(by rw[hs.l];exact hn)):=List.getElem?_eq_getElem _
  generalize gv[n]'(by rw[hs.l];exact hn)=v at hv;have gd:=hR.g;refine⟨_,rfl,x,_,c.dx,_,_,rfl,h.ins,cl_Closing T,T.nC_goings,cl_goings _ _ _,_,rfl,c.aG,_,_,v,rfl,rfl,SqL.of hG,atI_nat hv,?_⟩;have hgn:gs[n]?=some (gs[n]'hn):=List.getElem?_eq_getElem hn
  generalize gs[n]'hn=og at hgn
  cases og with
  |none=>
   obtain rfl:=hs.n n v hv hgn;refine⟨_,rfl,rfl,_,rfl,iteT ?_⟩;exact k S a R gs ag W O B H (λ_ _ _ _ e=>e) h hR (λb z=>.inl z) (λb z=>.inl z) dj (ci.pop.done hgn λb eb=>ci.de n b hgn (by intro z;cases z) eb) (λ_ _ _ z=>z) rfl rfl (.refl S) (.inl ⟨rfl,rfl,rfl⟩)
  |some g=>
   obtain⟨p,dx,wa,rfl,hp,op⟩:=hs.s n v g hv hgn;obtain⟨hbn,gi,_⟩:=ci.al n g hgn;have hbm:=List.mem_of_getElem? hbn;have hwl:g.word.length<=1000:=hbs.l _ hbm;have npo:¬a.own r p:=λz=>dj p z op
   refine⟨_,rfl,rfl,_,rfl,iteF ?_⟩;refine⟨_,rfl,x,_,c.dx,_,_,rfl,h.ins,cl_Closing T,T.nC_rooms,cl_rooms _ _ _,r,a.dx,_,rfl,hR.at_.ins,lk_none _ _ _ (by decide +kernel),_,rfl,p,_,dx,_,_,rfl,hp.ins,cl_Going T,T.nG_start,gl_start _ _,r,S,a,g.start,S.eld g.start,rfl,hR.at_,eld_at (by rw[gd.wf.e];exact gi.s),_,rfl,p,_,dx,_,_,rfl,hp.ins,cl_Going T,T.nG_start,gl_start _ _,rfl,_,rfl,?_⟩;have dj1:∀b,a.own r b->¬(O b/\b≠p):=λb z y=>dj b z y.1
   by_cases es:S.eld g.start=g.start
   ·refine iteNV (by rw[es]) ?_;refine⟨_,rfl,p,dx,_,rfl,hp.ins,gl_no (by decide +kernel),_,rfl,x,_,c.dx,_,_,rfl,h.ins,cl_Closing T,T.nC_rooms,cl_rooms _ _ _,p,dx,wa,r,g,S,a,R,rfl,hp,hR.at_,gd,gi,npo,hwl,λg' H1 f1 p1 ad=>?_⟩;have R1:RmI A.c_Rooms H1 r S a R ks B:=hR.keep (λb o hb e=>f1 b o (λz=>npo (z ▸ hb)) e) (λb xs e=>f1 b _ (ne_of e hp.ins (by intro z;cases z)) e);obtain⟨c1,gs1⟩:=h.setGo hG hs hv op hp f1 p1;have hG1:H1 c.aG=some (.lst gv):=f1 _ _ (ne_of hG hp.ins (by intro z;cases z)) hG;have gi':=ad.gi;have hll:=gi'.ll;have hfl:=gi'.fl;have hwl':g'.word.length<=1000:=by rw[ad.wo];exact hwl
    have z1:=Gg.at1 (g:=g') (by omega);have z2:=Gg.at2 (g:=g') hll;have hgn1:(gs.set n (some g'))[n]?=some (some g'):=List.getElem?_set_self hn
    have lv:=live_set hgn;have lm:=hR.m;refine⟨λ_ H'=>Q .non H',?_,λ_ _ q=>q⟩;refine⟨_,rfl,p,_,dx,_,_,rfl,p1.ins,cl_Going T,T.nG_first,gl_first _ _,_,rfl,p,_,dx,_,_,rfl,p1.ins,cl_Going T,T.nG_last,gl_last _ _,_,_,rfl,rfl,_,rfl,?_⟩;refine ite2 (λq=>?_) (λq=>?_)
    ·have q:(g'.first:Int)<(g'.last:Int):=of_decide_eq_true q;have bw:∀z∈g'.word,-1000<=z/\z<=1000:=λz hz=>ci.bd _ hbm z (by rw[←ad.wo];exact hz)
     have b1:=bw _ (List.mem_of_getElem? z1);have b2:=bw _ (List.mem_of_getElem? z2);have hf:=gi'.f;have hrr:=gi'.r;have hnb:n<100000:=by have:=ci.len;have:=hbs.c;omega
     refine⟨_,rfl,x,c.dx,_,rfl,c1.ins,cl_no (by decide +kernel),_,rfl,_,rfl,p,_,dx,_,_,rfl,p1.ins,cl_Going T,T.nG_front,gl_front _ _,_,rfl,p,_,dx,_,_,rfl,p1.ins,cl_Going T,T.nG_word,gl_word _ _,_,rfl,p,_,dx,_,_,rfl,p1.ins,cl_Going T,T.nG_first,gl_first _ _,wa,_,_,.int g'.z1,rfl,rfl,SqT.of p1.wo,atI_nat (ints_at z1),x,r,c,_,ag,W,S.went.length,fp,O,n,g'.front,g'.z1,rfl,c1,by omega,hnb,b1,λO2 H2 bt2 f2 le2 nw2 c2=>?_⟩;have p2:GoAt A.c_Going H2 p dx wa g':=⟨f2 _ _ (by intro _ z;cases z) p1.ins,f2 _ _ (by intro _ z;cases z) p1.wo⟩;refine⟨_,rfl,x,c.dx,_,rfl,c2.ins,cl_no (by decide +kernel),_,rfl,_,rfl,p,_,dx,_,_,rfl,p2.ins,cl_Going T,T.nG_rear,gl_rear _ _,_,rfl,p,_,dx,_,_,rfl,p2.ins,cl_Going T,T.nG_word,gl_word _ _,_,rfl,p,_,dx,_,_,rfl,p2.ins,cl_Going T,T.nG_last,gl_last _ _,wa,_,_,.int (-g'.z2),rfl,rfl,SqT.of p2.wo,atI_nat (ints_at z2),_,rfl,x,r,c,_,ag,_,S.went.length,fp,O2,n,g'.rear,g'.z2,(by show [V.ref x,V.int (n:Int),V.int (g'.rear:Int),V.int (- -g'.z2)]=_;rw[Int.neg_neg]),c2,by omega,hnb,by omega,λO3 H3 bt3 f3 le3 nw3 c3=>?_⟩
     have nw13:∀b,O3 b->O b\/H1 b=none:=λb z=>by
      rcases nw3 b z with y|y
      ·exact nw2 b y
      ·by_cases w:O b
       ·exact .inl w
       ·refine .inr ?_
        cases e:H1 b with
        |none=>rfl
        |some o=>rw[bt2 b o w e]at y;cases y
     have nw:∀b,O3 b->O b\/H b=none:=λb z=>by
      rcases nw13 b z with y|y
      ·exact .inl y
      ·by_cases w:b=p
       ·exact .inl (by rw[w];exact op)
       ·refine .inr ?_
        cases e:H b with
        |none=>rfl
        |some o=>rw[f1 b o w e]at y;cases y
     have bt13:Bt O H1 H3:=bt2.trans bt3 nw2
     have dj3:∀b,a.own r b->¬O3 b:=λb z y=>by
      rcases nw b y with w|w
      ·exact dj b z w
      ·obtain⟨o,e⟩:=hR.at_.there z;rw[w]at e;cases e
     refine k S a R _ ag _ O3 B H3 (λb o n1 _ e=>bt13 b o n1 (f1 b o (λz=>n1 (by rw[z];exact op)) e)) c3 (R1.keep (λb o hb e=>bt13 b o (dj b hb) e) (λb xs e=>bt13 b _ (c1.ntup e) e)) (λb z=>.inl z) nw dj3 (ci.pop.waits hgn ad (by omega)) (λ_ _ _ z=>z) rfl rfl (.refl S) (.inl ⟨lv.1 g',rfl,rfl⟩)
    ·have q:¬(g'.first:Int)<(g'.last:Int):=λz=>q (decide_eq_true z)
     have efl:g'.first=g'.last:=by omega
     refine⟨_,rfl,x,_,c.dx,_,_,rfl,c1.ins,cl_Closing T,T.nC_goings,cl_goings _ _ _,_,rfl,c.aG,_,_,n,rfl,rfl,hG1,ixN_nat (by rw[hs.l];exact hn),?_⟩;have c2:=c1.setNone hG1 gs1 hv p1;have kn:∀b o,(∀xs,o≠.lst xs)->H1 b=some o->upd H1 c.aG (.lst (gv.set n .non)) b=some o:=λb o w e=>by rw[upd_ne (λz=>by rw[z,hG1]at e;exact w _ (Option.some.inj e).symm)];exact e
     have p2:GoAt A.c_Going (upd H1 c.aG (.lst (gv.set n .non))) p dx wa g':=⟨kn _ _ (by intro _ z;cases z) p1.ins,kn _ _ (by intro _ z;cases z) p1.wo⟩;have noG:¬a.own r c.aG:=λz=>dj _ z h.oG
     have R2:RmI A.c_Rooms (upd H1 c.aG (.lst (gv.set n .non))) r S a R ks B:=R1.keep (λb o hb e=>by rw[upd_ne (λz=>noG (by rw[←z];exact hb))];exact e) (λb xs e=>kn _ _ (by intro _ z;cases z) e);have ess:(gs.set n (some g')).set n none=gs.set n none:=List.set_set ..;rw[ess]at c2;have f02:∀b o,¬O b->H b=some o->upd H1 c.aG (.lst (gv.set n .non)) b=some o:=λb o n1 e=>by rw[upd_ne (λz=>n1 (by rw[z];exact h.oG))];exact f1 b o (λz=>n1 (by rw[z];exact op)) e
     have th02:∀b,upd H1 c.aG (.lst (gv.set n .non)) b=none->H b=none:=λb z=>by
      cases e:H b with
      |none=>rfl
      |some o=>
       by_cases w:O b
       ·by_cases y:b=p
        ·rw[y,p2.ins]at z;cases z
        ·obtain⟨o2,e2,_⟩:=c2.th b ⟨w,y⟩;rw[z]at e2;cases e2
       ·rw[f02 b o w e]at z;cases z
     generalize upd H1 c.aG (.lst (gv.set n .non))=H2 at c2 p2 R2 f02 th02 ⊢;refine⟨_,rfl,x,c.dx,_,rfl,c2.ins,cl_no (by decide +kernel),_,rfl,x,r,p,dx,wa,c,S,a,R,ks,B,ws,nr,bs,gs.set n none,ag,W,fp,_,n,g',rfl,c2,R2,hB,dj1,ci.pop.kill,List.getElem?_set_self hn,by rw[hbn,ad.wh,ad.wo,ad.st],p2,(λz=>z.2 rfl),npo,gi',efl,by rw[ad.st];exact es,ad.ef,ad.er,by rw[ad.wh,ad.wo];exact hbs.w _ hbm,by rw[ad.wh,ad.st];exact hbs.n _ hbm,by rw[ad.wo];exact hbs.k _ hbm,hwl',by rw[List.length_set];exact hag,λS' a' R' ag' W' H' f3 c3 R3 o3 ci3 la rr em eL tr=>?_⟩;have o03:∀b,a'.own r b->a.own r b\/H b=none:=λb z=>(o3 b z).imp id (th02 b)
     rw[List.length_set]at la;refine k S' a' R' _ ag' W' _ (B+ 1) H' (λb o n1 n2 e=>f3 b o (λz=>n1 z.1) n2 (f02 b o n1 e)) c3 R3 o03 (λb z=>.inl z.1) (λb z y=>?_) ci3 rr em eL tr (.inr ⟨lv.2,la,Nat.le_refl _⟩);rcases o3 b z with w|w
     ·exact dj1 b w y
     ·obtain⟨o2,e2,_⟩:=c2.th b y;rw[w]at e2;cases e2
   ·refine ite2 (λ_=>?_) (λz=>absurd (by rw[decide_eq_false λw=>es (by have:=V.int.inj w;omega)];rfl) z);refine⟨_,rfl,x,_,c.dx,_,_,rfl,h.ins,cl_Closing T,T.nC_goings,cl_goings _ _ _,_,rfl,c.aG,_,_,n,rfl,rfl,hG,ixN_nat (by rw[hs.l];exact hn),?_⟩;have c2:=h.setNone hG hs hv hp;have noG:¬a.own r c.aG:=λz=>dj _ z h.oG
    refine k S a R _ ag W _ B _ (λb o n1 _ e=>by rw[upd_ne (λz=>n1 (by rw[z];exact h.oG))];exact e) c2 (hR.keep (λb o hb e=>by rw[upd_ne (λz=>noG (by rw[←z];exact hb))];exact e) (λb xs e=>by rw[upd_ne (λz=>by rw[z,hG]at e;cases e)];exact e)) (λb z=>.inl z) (λb z=>.inl z.1) dj1 (ci.pop.kill.done (List.getElem?_set_self hn) λb eb=>?_) (λ_ _ _ z=>z) rfl rfl (.refl S) (.inr ⟨(live_set hgn).2,by omega,by omega⟩);rw[hbn]at eb;obtain rfl:=Option.some.inj eb;exact .inl es
theorem _root_.L2.Tr.trans {ws:List (List Int)}{nr:Nat}{S S1 S2:RS}(h:Tr ws nr S S1)(k:Tr ws nr S1 S2):Tr ws nr S S2:=by
 induction k with
 |refl=>exact h
 |step _ a b ih=>exact .step ih a b
def spSettle (CR CG CC:Addr):Sp:=λvs H Q _=>∃(x r:Addr) (c:KA) (S:RS) (a:RA) (R:Nat->Int->Nat->Prop) (ks:List Int) (B:Nat) (ws:List (List Int)) (nr:Nat) (bs:List (Nat×List Int×Nat)) (gs:List (Option Gg)) (ag:List Nat) (W:Rel3) (fp:List (List Int×Nat)) (O:Addr->Prop),vs=[.ref x]/\CAt CG CC H x r c gs ag W S.went.length fp O/\RmI CR H r S a R ks B/\B+ live gs<900000/\(∀b,a.own r b->¬O b)/\CI S bs gs ag W noEx none/\BsOk ws nr ks bs/\live gs* (2* bs.length+ 1)+ ag.length+ 2* bs.length<=1000000/\
 ∀S' a' R' gs' W' O' B' H',(∀b o,¬O b->¬a.own r b->H b=some o->H' b=some o)->CAt CG CC H' x r c gs' [] W' S'.went.length fp O'->RmI CR H' r S' a' R' ks B'->(∀b,a'.own r b->a.own r b\/O b\/H b=none)->(∀b,O' b->O b\/a.own r b\/H b=none)->(∀b,a'.own r b->¬O' b)->CI S' bs gs' [] W' noEx none->(∀a z b,R a z b->R' a z b)->S'.made=S.made->S'.L=S.L->Tr ws nr S S'->B'+ live gs'<=B+ live gs->Q .non H'
theorem ok_Closing_settle (T:Txt K mg A):FnOk P w K mg base CX0 8 A.f_Closing_settle A.d_Closing_settle ["self"] (spSettle A.c_Rooms A.c_Going A.c_Closing):=by
 have G_Closing_go_on:FnOk P w K mg base CX0 7 A.f_Closing_go_on A.d_Closing_go_on ["self","number"] (spGoOn A.c_Rooms A.c_Going A.c_Closing):=ok_Closing_go_on T;refine T.Closing_settle.F.ok sc_Closing_settle (λvs H Q E h=>?_) (λcdv AA outer s H vs Q E hr h=>?_)
 ·obtain⟨x,r,c,S,a,R,ks,B,ws,nr,bs,gs,ag,W,fp,O,rfl,_⟩:=h;rfl
 ·obtain⟨x,r,c,S,a,R,ks,B,ws,nr,bs,gs,ag,W,fp,O,rfl,h,hR,hB,dj,ci,hbs,hm,k⟩:=h
  refine⟨_,(pss_one (ps_cut (ps_while PassesOwn.never (pt_truth (pe_fld (pv 0) rfl) (λ_=>rfl))
   (pss_one (ps_expr (pe_meth (pv 0) (cl_Closing T) T.Closing_go_on.m (G_Closing_go_on) (hr.mono (by decide)) T.Closing_go_on.b .nil pass0 (pa_cons (pe_bm0 PySem.F.plainAttrs_list PySem.F.slot_list_pop PySem.F.type_list_pop mt_pop (pe_fld (pv 0) rfl)) pa_nil))))))),?_⟩
  try dsimp only[cx_noxK,cx_K]
  have hgl:=ci.len;refine⟨λ_ H'=>Q .non H',?_,λ_ _ q=>q⟩;refine⟨λm σ H2=>∃S2 a2 R2 gs2 ag2 W2 O2 B2,m=live gs2* (2* bs.length+ 1)+ ag2.length/\σ=[some (.ref x)]/\(∀b o,¬O b->¬a.own r b->H b=some o->H2 b=some o)/\CAt A.c_Going A.c_Closing H2 x r c gs2 ag2 W2 S2.went.length fp O2/\RmI A.c_Rooms H2 r S2 a2 R2 ks B2/\(∀b,a2.own r b->a.own r b\/O b\/H b=none)/\(∀b,O2 b->O b\/a.own r b\/H b=none)/\(∀b,a2.own r b->¬O2 b)/\CI S2 bs gs2 ag2 W2 noEx none/\(∀a z b,R a z b->R2 a z b)/\S2.made=S.made/\S2.L=S.L/\Tr ws nr S S2/\B2+ live gs2<=B+ live gs/\live gs2* (2* bs.length+ 1)+ ag2.length+ 2* bs.length<=1000000,⟨_,S,a,R,gs,ag,W,O,B,rfl,rfl,λ_ _ _ _ e=>e,h,hR,λb z=>.inl z,λb z=>.inl z,dj,ci,λ_ _ _ z=>z,rfl,rfl,.refl S,Nat.le_refl _,hm⟩,?_⟩;rintro m σ H2 ⟨S2,a2,R2,gs2,ag2,W2,O2,B2,rfl,rfl,f2,c2,r2,ow2,oo2,dj2,ci2,rr2,em2,eL2,tr2,hb2,hm2⟩;refine⟨_,rfl,x,_,c.dx,_,_,rfl,c2.ins,cl_Closing T,T.nC_agenda,cl_agenda _ _ _,!(intV (nI ag2)).isEmpty,.inl ⟨_,SqL.of c2.hA,rfl⟩,?_⟩;by_cases hne:ag2=[]
  ·subst hne;refine iteF ?_;exact k S2 a2 R2 gs2 W2 O2 B2 H2 f2 c2 r2 ow2 oo2 dj2 ci2 rr2 em2 eL2 tr2 hb2
  ·have hsp:=List.dropLast_concat_getLast hne;generalize ag2.getLast hne=n at hsp;generalize ag2.dropLast=pre at hsp;subst hsp;rw[show (!(intV (nI (pre++[n]))).isEmpty)=true by unfold intV nI;simp];refine iteT ?_;refine⟨_,λ_ _ z=>z,?_⟩;refine⟨_,rfl,x,c.dx,_,rfl,c2.ins,cl_no (by decide +kernel),_,rfl,x,_,c.dx,_,_,rfl,c2.ins,cl_Closing T,T.nC_agenda,cl_agenda _ _ _,.inl ⟨rfl,_,SqL.of c2.hA⟩,c.aA,_,.int (n:Int),rfl,rfl,c2.hA,?_,?_⟩
   ·rw[ints_len,nI_len,List.length_append];exact ints_at (nI_get (by show (pre++[n])[pre.length+ 1 - 1]?=some n;rw[Nat.add_sub_cancel,List.getElem?_append_right (Nat.le_refl _),Nat.sub_self];rfl))
   have edl:(intV (nI (pre++[n]))).dropLast=intV (nI pre):=by rw[nI_app,ints_app];exact List.dropLast_concat
   rw[edl];have c3:=c2.agenda pre;have noA:¬a2.own r c.aA:=λz=>dj2 _ z c2.oA
   have f3:∀b o,b≠c.aA->H2 b=some o->upd H2 c.aA (.lst (intV (nI pre))) b=some o:=λb o n1 e=>by rw[upd_ne n1];exact e
   have r3:RmI A.c_Rooms (upd H2 c.aA (.lst (intV (nI pre)))) r S2 a2 R2 ks B2:=r2.keep (λb o hb e=>f3 b o (λz=>noA (by rw[←z];exact hb)) e) (λb xs e=>f3 b _ (λz=>by rw[z,c2.hA]at e;cases e) e)
   have th3:∀b,upd H2 c.aA (.lst (intV (nI pre))) b=none->H2 b=none:=λb z=>by
    by_cases e:b=c.aA
    ·rw[e,upd_same]at z;cases z
    ·rw[upd_ne e]at z;exact z
   generalize upd H2 c.aA (.lst (intV (nI pre)))=H3 at c3 f3 r3 th3 ⊢;have ln2:=ci2.len;rw[List.length_append]at hm2;have:([n]:List Nat).length=1:=rfl
   have th2:∀b,H2 b=none->a.own r b\/O b\/H b=none:=λb z=>by
    by_cases w:a.own r b
    ·exact .inl w
    ·by_cases w2:O b
     ·exact .inr (.inl w2)
     ·refine .inr (.inr ?_)
      cases e:H b with
      |none=>rfl
      |some o=>rw[f2 b o w2 w e]at z;cases z
   refine⟨x,r,c,S2,a2,R2,ks,B2,ws,nr,bs,gs2,pre,W2,fp,O2,n,rfl,c3,r3,by omega,dj2,ci2,hbs,by omega,λS4 a4 R4 gs4 ag4 W4 O4 B4 H4 f4 c4 r4 ow4 oo4 dj4 ci4 rr4 em4 eL4 tr4 ms=>?_⟩;have ow:∀b,a4.own r b->a.own r b\/O b\/H b=none:=λb z=>(ow4 b z).elim (ow2 b) λw=>th2 b (th3 b w)
   have oo:∀b,O4 b->O b\/a.own r b\/H b=none:=λb z=>(oo4 b z).elim (oo2 b) λw=>by
    rcases th2 b (th3 b w) with y|y|y
    ·exact .inr (.inl y)
    ·exact .inl y
    ·exact .inr (.inr y)
   have hb4:B4+ live gs4<=B+ live gs/\live gs4* (2* bs.length+ 1)+ ag4.length<live gs2* (2* bs.length+ 1)+ (pre++[n]).length:=by
    rw[List.length_append];rcases ms with ⟨e1,e2,e3⟩|⟨e1,e2,e3⟩
    ·rw[e1,e2,e3];exact⟨hb2,by omega⟩
    ·rw[←e1,Nat.add_mul];exact⟨by omega,by omega⟩
   refine⟨_,hb4.2,S4,a4,R4,gs4,ag4,W4,O4,B4,rfl,rfl,λb o n1 n2 e=>?_,c4,r4,ow,oo,dj4,ci4,λa z b q=>rr4 _ _ _ (rr2 _ _ _ q),em4.trans em2,eL4.trans eL2,tr2.trans tr4,hb4.1,by have:=hb4.2;rw[List.length_append]at this;omega⟩;refine f4 b o (λz=>?_) (λz=>?_) (f3 b o (λz=>n1 ?_) (f2 b o n1 n2 e))
   ·rcases oo2 b z with w|w|w
    ·exact n1 w
    ·exact n2 w
    ·rw[w]at e;cases e
   ·rcases ow2 b z with w|w|w
    ·exact n2 w
    ·exact n1 w
    ·rw[w]at e;cases e
   ·subst z;rcases oo2 c.aA c2.oA with w|w|w
    ·exact w
    ·exact absurd w n2
    ·rw[w]at e;cases e
theorem _root_.L2.CI.begin {S:RS}{bs:List (Nat×List Int×Nat)}{gs:List (Option Gg)}{ag:List Nat}{W:Rel3}(h:CI S bs gs ag W noEx none){which m:Nat}{word:List Int}(hw:word≠[])(hm:m<S.made)(hb:∀z∈word,-1000<=z/\z<=1000):CI S (bs++[(which,word,m)]) (gs++[some (gg0 which word m)]) (ag++[gs.length]) W noEx none:=by
 have hl:=List.length_pos_iff.mpr hw
 have old:∀{k:Nat} {y:Option Gg},(gs++[some (gg0 which word m)])[k]?=some y->(k<gs.length/\gs[k]?=some y)\/(k=gs.length/\y=some (gg0 which word m)):=λ{k y} e=>by
  by_cases hk:k<gs.length
  ·rw[List.getElem?_append_left hk]at e;exact .inl ⟨hk,e⟩
  ·rw[List.getElem?_append_right (by omega)]at e;have:=(List.getElem?_eq_some_iff.mp e).1;have hk2:k=gs.length:=by simp at this;omega
   subst hk2;rw[Nat.sub_self]at e;exact .inr ⟨rfl,(Option.some.inj e).symm⟩
 have oldb:∀{k:Nat},k<gs.length->(bs++[(which,word,m)])[k]?=bs[k]?:=λ{k} hk=>List.getElem?_append_left (by rw[←h.len];exact hk)
 refine⟨by rw[List.length_append,List.length_append,h.len];rfl,λk g e=>?_,λk b e hx eb=>?_,λk hk=>?_,λr s k q=>?_,λk=>?_,λb hb'=>?_⟩
 ·rcases old e with ⟨hk,e⟩|⟨hk,e⟩
  ·obtain⟨h1,h2,h3⟩:=h.al k g e;exact⟨by rw[oldb hk];exact h1,h2,h3.imp (List.mem_append_left _) id⟩
  ·cases e;refine⟨?_,⟨Nat.zero_le _,by show word.length - 1<word.length;omega,hm,hm,hm,rfl,?_⟩,.inl (List.mem_append_right _ (List.mem_singleton.mpr hk))⟩
   ·rw[List.getElem?_append_right (by rw[hk,h.len];exact Nat.le_refl _),hk,h.len,Nat.sub_self];rfl
   ·show wk S.by _ (word.drop (word.length - 1+ 1))=_;rw[show word.length - 1+ 1=word.length by omega,List.drop_length];rfl
 ·rcases old e with ⟨hk,e⟩|⟨hk,e⟩
  ·rw[oldb hk]at eb;exact h.de k b e hx eb
  ·cases e
 ·rw[List.length_append];rcases List.mem_append.mp hk with q|q
  ·have:=h.ab k q;show k<_+ 1;omega
  ·rw[List.mem_singleton.mp q];show _<_+ 1;omega
 ·obtain⟨r',n',e1,e2,e3,e4,e5⟩:=h.en r s k q;exact⟨r',n',e1,e2,e3,by rw[List.length_append];show n'<_+ 1;omega,e5⟩
 ·by_cases hk:k<gs.length
  ·obtain⟨p,q,h1,h2⟩:=h.sl k;refine⟨p,q,h1,λg e=>h2 g ?_⟩;rw[List.getElem?_append_left hk]at e;exact e
  ·refine⟨((gg0 which word m).front,(gg0 which word m).z1),((gg0 which word m).rear,(gg0 which word m).z2),λr s w=>?_,λg e=>?_⟩
   ·obtain⟨_,n',_,e,_,hl,_⟩:=h.en r s k w;omega
   ·rcases old e with ⟨z,_⟩|⟨_,e⟩
    ·exact absurd z hk
    ·cases e;exact⟨rfl,rfl⟩
 ·rcases List.mem_append.mp hb' with q|q
  ·exact h.bd b q
  ·rw[List.mem_singleton.mp q];exact hb
theorem CAt.addGo {CG CC:Addr}{H H':Hp}{x r:Addr}{c:KA}{gs:List (Option Gg)}{ag:List Nat}{W:Rel3}{hd:Nat}{fp:List (List Int×Nat)}{O:Addr->Prop}{gv:List V}{p dx wa:Addr}{g:Gg}(h:CAt CG CC H x r c gs ag W hd fp O)(hG:H c.aG=some (.lst gv))(hs:GsAt CG H gv gs O)(np:H p=none)(s:Same H H')(q:GoAt CG H' p dx wa g):CAt CG CC (upd H' c.aG (.lst (gv++[.ref p]))) x r c (gs++[some g]) ag W hd fp (Or1 O p):=by
 have k:∀b o,b≠c.aG->H' b=some o->upd H' c.aG (.lst (gv++[.ref p])) b=some o:=λb o n e=>by rw[upd_ne n];exact e
 have kn:∀b o,(∀xs,o≠.lst xs)->H' b=some o->upd H' c.aG (.lst (gv++[.ref p])) b=some o:=λb o w e=>k b o (λz=>by rw[z,s _ _ hG]at e;exact w _ (Option.some.inj e).symm) e
 have fresh:∀(i:Nat),gv[i]?≠some (.ref p):=λi e=>by
  have hi:i<gs.length:=by rw[←hs.l];exact(List.getElem?_eq_some_iff.mp e).1
  cases q2:gs[i]? with
  |none=>rw[List.getElem?_eq_getElem hi]at q2;cases q2
  |some y=>
   cases y with
   |none=>cases hs.n i _ e q2
   |some u=>
    obtain⟨p1,_,_,e1,q1,_⟩:=hs.s i _ u e q2;cases e1;have:=q1.ins;rw[np]at this;cases this
 have old:∀{i:Nat} {v:V},(gv++[.ref p])[i]?=some v->(i<gv.length/\gv[i]?=some v)\/(i=gv.length/\v=.ref p):=λ{i v} e=>by
  by_cases hk:i<gv.length
  ·rw[List.getElem?_append_left hk]at e;exact .inl ⟨hk,e⟩
  ·rw[List.getElem?_append_right (by omega)]at e;have:=(List.getElem?_eq_some_iff.mp e).1;have hk2:i=gv.length:=by simp at this;omega
   subst hk2;rw[Nat.sub_self]at e;exact .inr ⟨rfl,(Option.some.inj e).symm⟩
 refine⟨kn _ _ (by intro _ z;cases z) (s _ _ h.ins),⟨_,upd_same,by rw[List.length_append,List.length_append,hs.l];rfl,λi v e1 e2=>?_,λi v u e1 e2=>?_,λi j p' e1 e2=>?_⟩,k _ _ h.ne.symm (s _ _ h.hA),?_,h.ne,.inl h.ox,.inl h.oG,.inl h.oA,λb hb=>?_⟩
 ·rcases old e1 with ⟨hi,e⟩|⟨hi,e⟩
  ·rw[List.getElem?_append_left (by rw[←hs.l];exact hi)]at e2;exact hs.n i v e e2
  ·rw[hi,hs.l,List.getElem?_append_right (Nat.le_refl _),Nat.sub_self]at e2;cases Option.some.inj e2
 ·rcases old e1 with ⟨hi,e⟩|⟨hi,e⟩
  ·rw[List.getElem?_append_left (by rw[←hs.l];exact hi)]at e2;obtain⟨p1,dx1,wa1,e3,q1,o1⟩:=hs.s i v u e e2;exact⟨p1,dx1,wa1,e3,⟨kn _ _ (by intro _ z;cases z) (s _ _ q1.ins),kn _ _ (by intro _ z;cases z) (s _ _ q1.wo)⟩,.inl o1⟩
  ·rw[hi,hs.l,List.getElem?_append_right (Nat.le_refl _),Nat.sub_self]at e2;cases Option.some.inj e2;exact⟨p,dx,wa,e,⟨kn _ _ (by intro _ z;cases z) q.ins,kn _ _ (by intro _ z;cases z) q.wo⟩,.inr rfl⟩
 ·rcases old e1 with ⟨hi,e⟩|⟨hi,e⟩
  ·rcases old e2 with ⟨hj,e'⟩|⟨hj,e'⟩
   ·exact hs.i i j p' e e'
   ·cases e';exact absurd e (fresh i)
  ·rcases old e2 with ⟨hj,e'⟩|⟨hj,e'⟩
   ·cases e;exact absurd e' (fresh j)
   ·omega
 ·obtain⟨D,E,k1,k2⟩:=h.wt;exact⟨D,E,(k1.same s).keep λb o hb e=>by obtain⟨kv,q⟩:=(k1.same s).there hb;rw[q]at e;cases e;exact kn _ _ (by intro _ z;cases z) q,λb hb=>.inl (k2.o b hb),k2.d,k2.e,k2.w⟩
 ·rcases hb with hb|hb
  ·by_cases e:b=c.aG
   ·exact⟨_,by rw[e];exact upd_same,(by intro _ z;cases z),by intro _ z;cases z⟩
   ·obtain⟨o,q,m⟩:=h.th b hb;exact⟨o,k _ _ e (s _ _ q),m⟩
  ·rw[hb];exact⟨_,kn _ _ (by intro _ z;cases z) q.ins,(by intro _ z;cases z),by intro _ z;cases z⟩
def nz (which:Nat)(word:List Int)(m:Nat):List (Nat×List Int×Nat):=if word=[] then [] else [(which,word,m)]
def spBegin (CR CG CC:Addr):Sp:=λvs H Q _=>∃(x r wa:Addr) (c:KA) (S:RS) (bs:List (Nat×List Int×Nat)) (gs:List (Option Gg)) (ag:List Nat) (W:Rel3) (hd:Nat) (fp:List (List Int×Nat)) (O:Addr->Prop) (which m:Nat) (word:List Int),vs=[.ref x,.int which,.ref wa,.int m]/\CAt CG CC H x r c gs ag W hd fp O/\CI S bs gs ag W noEx none/\H wa=some (.tup (intV word))/\word.length<=1000/\(∀z∈word,-1000<=z/\z<=1000)/\m<S.made/\bs.length<100000/\ag.length<=bs.length/\∀gs' ag' O' H',Bt O H H'->(∀b,O b->O' b)->(∀b,O' b->O b\/H b=none)->CAt CG CC H' x r c gs' ag' W hd fp O'->CI S (bs++nz which word m) gs' ag' W noEx none->ag'.length<=(bs++nz which word m).length->Q .non H'
theorem ok_Closing_begin (T:Txt K mg A):FnOk P w K mg base CX0 3 A.f_Closing_begin A.d_Closing_begin ["self","which","word","room"] (spBegin A.c_Rooms A.c_Going A.c_Closing):=by
 have G_Going___init__:FnOk P w K mg base CX0 1 A.f_Going___init__ A.d_Going___init__ ["self","which","word","start"] (spGNew A.c_Going):=ok_Going___init__ T;refine T.Closing_begin.F.ok sc_Closing_begin (λvs H Q E h=>?_) (λcdv AA outer s H vs Q E hr h=>?_)
 ·obtain⟨x,r,wa,c,S,bs,gs,ag,W,hd,fp,O,which,m,word,rfl,_⟩:=h;rfl
 ·obtain⟨x,r,wa,c,S,bs,gs,ag,W,hd,fp,O,which,m,word,rfl,h,ci,hwa,hwl,hwb,hm,hbl,hal,k⟩:=h
  refine⟨_,(pss_one (ps_cut (ps_if (pt_cmpR op_gt (pe_callB call_len_seq rfl T.z_len PySem.boot_len (pa_cons (pv 2) pa_nil)) pe_int (nomark _))
   (pss_cons (ps_expr (pe_bm PySem.F.plainAttrs_list PySem.F.slot_list_append PySem.F.type_list_append mt_append (pe_fld (pv 0) rfl) (pa_cons (pe_callB call_len_seq rfl T.z_len PySem.boot_len (pa_cons (pe_fld (pv 0) rfl) pa_nil)) pa_nil)))
   (pss_one (ps_expr (pe_bm PySem.F.plainAttrs_list PySem.F.slot_list_append PySem.F.type_list_append mt_append (pe_fld (pv 0) rfl) (pa_cons (pe_make (mk_Going T) (G_Going___init__) (hr.mono (by decide)) rfl T.m_Going T.Going___init__.b .nil pass0 (pa_cons (pv 1) (pa_cons (pv 2) (pa_cons (pv 3) pa_nil)))) pa_nil)))))
   pss_nil))),?_⟩
  try dsimp only[cx_noxK,cx_K]
  have hgl:=ci.len;refine⟨λ_ H'=>Q .non H',?_,λ_ _ q=>q⟩;refine⟨_,rfl,wa,_,rfl,.inr (SqT.of hwa),_,_,rfl,rfl,_,rfl,?_⟩;refine ite2 (λq=>?_) (λq=>?_)
  ·have q:(0:Int)<((intV word).length:Int):=of_decide_eq_true q;rw[ints_len]at q;have hne:word≠[]:=λz=>by rw[z]at q;exact absurd q (by show ¬(0:Int)<((0:Nat):Int);decide)
   obtain⟨gv,hG,hs⟩:=h.hG;refine⟨_,rfl,x,_,c.dx,_,_,rfl,h.ins,cl_Closing T,T.nC_agenda,cl_agenda _ _ _,.inl ⟨rfl,_,SqL.of h.hA⟩,_,rfl,x,_,c.dx,_,_,rfl,h.ins,cl_Closing T,T.nC_goings,cl_goings _ _ _,c.aG,_,rfl,.inl (SqL.of hG),c.aA,_,_,rfl,rfl,h.hA,?_,?_⟩
   ·rw[ints_len,nI_len];exact Nat.lt_of_le_of_lt (show ag.length<=100000 by omega) (by decide)
   have ea:intV (nI ag)++[V.int (gv.length:Int)]=intV (nI (ag++[gs.length])):=by rw[nI_app,ints_app,hs.l];rfl
   rw[ea];have h1:=h.agenda (ag++[gs.length]);have k1:∀b o,b≠c.aA->H b=some o->upd H c.aA (.lst (intV (nI (ag++[gs.length])))) b=some o:=λb o n e=>by rw[upd_ne n];exact e
   have n1:∀b,upd H c.aA (.lst (intV (nI (ag++[gs.length])))) b=none->H b=none:=λb z=>by
    by_cases e:b=c.aA
    ·rw[e,upd_same]at z;cases z
    ·rw[upd_ne e]at z;exact z
   generalize upd H c.aA (.lst (intV (nI (ag++[gs.length]))))=H1 at h1 k1 n1 ⊢;have hwa1:=k1 _ _ (ne_of hwa h.hA (by intro z;cases z)) hwa;obtain⟨gv1,hG1,hs1⟩:=h1.hG;refine⟨_,rfl,x,_,c.dx,_,_,rfl,h1.ins,cl_Closing T,T.nC_goings,cl_goings _ _ _,.inl ⟨rfl,_,SqL.of hG1⟩,_,rfl,_,rfl,_,rfl,λp dx np ndx ned=>?_⟩;have s2:Same H1 (upd (upd H1 dx (.own p)) p (.ins A.c_Going dx [])):=(Same.upd ndx).trans (Same.upd (by rw[upd_ne ned.symm];exact np));refine⟨p,dx,wa,which,m,word,rfl,upd_same,s2 _ _ hwa1,by omega,hwl,λH3 f3 g3=>⟨rfl,?_⟩⟩;have s3:Same H1 H3:=λb o e=>f3 b o (s2 _ _ e) (ne_of_none e np)
   refine⟨c.aG,_,_,rfl,rfl,s3 _ _ hG1,(by rw[hs1.l];exact Nat.lt_of_le_of_lt (show gs.length<=100000 by omega) (by decide)),?_⟩;have en:nz which word m=[(which,word,m)]:=if_neg hne;refine k _ _ (Or1 O p) _ (λb o n e=>?_) (λb z=>.inl z) (λb z=>z.imp id λw=>by rw[w];exact n1 p np) (h1.addGo hG1 hs1 np s3 g3) (by rw[en];exact ci.begin hne hm hwb) (by rw[en,List.length_append,List.length_append];show _+ 1<=_+ 1;omega);rw[upd_ne (λz=>n (by rw[z];exact h.oG))];exact s3 _ _ (k1 b o (λz=>n (by rw[z];exact h.oA)) e)
  ·have q:¬(0:Int)<((intV word).length:Int):=λz=>q (decide_eq_true z)
   rw[ints_len]at q;have hne:word=[]:=List.length_eq_zero_iff.mp (by omega);have en:nz which word m=[]:=if_pos hne;exact k gs ag O H (λ_ _ _ e=>e) (λb z=>z) (λb z=>.inl z) h (by rw[en,List.append_nil];exact ci) (by rw[en,List.append_nil];exact hal)
def begL (fp:List (List Int×Nat))(m:Nat):List (Nat×List Int×Nat):=fp.flatMap λp=>nz p.2 p.1 m
theorem nz_le (w:Nat)(u:List Int)(m:Nat):(nz w u m).length<=1:=by
 unfold nz;split
 ·exact Nat.zero_le _
 ·exact Nat.le_refl _
theorem begL_len (m:Nat):∀fp:List (List Int×Nat),(begL fp m).length<=fp.length
 |[]=>Nat.le_refl _
 |p::l=>by
  have:=begL_len m l;have:=nz_le p.2 p.1 m;unfold begL at *;rw[List.flatMap_cons,List.length_append,List.length_cons];omega
theorem begL_snoc {fp:List (List Int×Nat)}{i:Nat}{p:List Int×Nat}(h:fp[i]?=some p)(m:Nat):begL (fp.take (i+ 1)) m=begL (fp.take i) m++nz p.2 p.1 m:=by
 unfold begL;rw[List.take_succ,h,List.flatMap_append];show _++(nz p.2 p.1 m++[])=_;rw[List.append_nil]
theorem fpK_at {fp:List (List Int×Nat)}{i:Nat}{kv:List Key×V}(h:(fpK fp)[i]?=some kv):∃p,fp[i]?=some p/\kv=(p.1.map Sum.inl,.int p.2):=by
 unfold fpK at h;rw[List.getElem?_map]at h
 cases q:fp[i]? with
 |none=>rw[q]at h;cases h
 |some p=>rw[q]at h;exact⟨p,rfl,(Option.some.inj h).symm⟩
def spBegR (CR CG CC:Addr):Sp:=λvs H Q _=>∃(x r:Addr) (c:KA) (S:RS) (bs:List (Nat×List Int×Nat)) (gs:List (Option Gg)) (ag:List Nat) (W:Rel3) (hd:Nat) (fp:List (List Int×Nat)) (O:Addr->Prop) (m:Nat),vs=[.ref x,.int m]/\CAt CG CC H x r c gs ag W hd fp O/\H c.aQ=some (.dT (fpK fp))/\CI S bs gs ag W noEx none/\(∀p∈fp,p.1.length<=1000/\∀z∈p.1,-1000<=z/\z<=1000)/\m<S.made/\bs.length+ fp.length<100000/\ag.length<=bs.length/\∀gs' ag' O' H',Bt O H H'->(∀b,O b->O' b)->(∀b,O' b->O b\/H b=none)->CAt CG CC H' x r c gs' ag' W hd fp O'->CI S (bs++begL fp m) gs' ag' W noEx none->ag'.length<=(bs++begL fp m).length->Q .non H'
theorem ok_Closing_begin_rules (T:Txt K mg A):FnOk P w K mg base CX0 4 A.f_Closing_begin_rules A.d_Closing_begin_rules ["self","room"] (spBegR A.c_Rooms A.c_Going A.c_Closing):=by
 have G_Closing_begin:FnOk P w K mg base CX0 3 A.f_Closing_begin A.d_Closing_begin ["self","which","word","room"] (spBegin A.c_Rooms A.c_Going A.c_Closing):=ok_Closing_begin T;refine T.Closing_begin_rules.F.ok sc_Closing_begin_rules (λvs H Q E h=>?_) (λcdv AA outer s H vs Q E hr h=>?_)
 ·obtain⟨x,r,c,S,bs,gs,ag,W,hd,fp,O,m,rfl,_⟩:=h;rfl
 ·obtain⟨x,r,c,S,bs,gs,ag,W,hd,fp,O,m,rfl,h,hQ,ci,hfp,hm,hbl,hal,k⟩:=h
  refine⟨_,(pss_one (ps_thaw (ps_for PassesOwn.never rfl (pi_dI (pe_fld (pv 0) rfl)) (pg_tup rfl (pgs_cons (pg_name (i:=2) sc_Closing_begin_rules.nd rfl (Or.inl rfl)) (pgs_cons (pg_name (i:=3) sc_Closing_begin_rules.nd rfl (Or.inl rfl)) pgs_nil)))
   (pss_one (ps_expr (pe_meth (pv 0) (cl_Closing T) T.Closing_begin.m (G_Closing_begin) (hr.mono (by decide)) T.Closing_begin.b .nil pass0 (pa_cons (pv 3) (pa_cons (pv 2) (pa_cons (pv 1) pa_nil))))))))),?_⟩
  try dsimp only[cx_noxK,cx_K]
  have nQ:¬O c.aQ:=h.ndT hQ;have nxQ:x≠c.aQ:=ne_of h.ins hQ (by intro z;cases z);refine⟨c.aQ,_,hQ,trivial,_,rfl,x,_,c.dx,_,_,rfl,h.ins,cl_Closing T,T.nC_rules,cl_rules _ _ _,c.aQ,fpK fp,rfl,hQ,λfo=>?_⟩;have k0:∀b o,b≠c.aQ->H b=some o->upd H c.aQ (.frz fo (.dT (fpK fp))) b=some o:=λb o n e=>by rw[upd_ne n];exact e
  have h0:CAt A.c_Going A.c_Closing (upd H c.aQ (.frz fo (.dT (fpK fp)))) x r c gs ag W hd fp O:=h.keep (λb o hb e=>k0 b o (λz=>nQ (by rw[←z];exact hb)) e) (λb xs e=>k0 b _ (ne_of e hQ (by intro z;cases z)) e)
  refine for_dI (d:=c.aQ) (o:=fo) (kvs:=fpK fp) (λi σ H5=>∃gs2 ag2 O2 v2 v3,σ=[some (.ref x),some (.int (m:Int)),v2,v3]/\H5 c.aQ=some (.frz fo (.dT (fpK fp)))/\(∀b o,b≠c.aQ->¬O b->H b=some o->H5 b=some o)/\(∀b,O b->O2 b)/\(∀b,O2 b->O b\/H b=none)/\CAt A.c_Going A.c_Closing H5 x r c gs2 ag2 W hd fp O2/\CI S (bs++begL (fp.take i) m) gs2 ag2 W noEx none/\ag2.length<=(bs++begL (fp.take i) m).length)
   ⟨gs,ag,O,none,none,rfl,upd_same,λb o n _ e=>k0 b o n e,λb z=>z,λb z=>.inl z,h0,by rw[List.take_zero];show CI S (bs++[]) _ _ _ _ _;rw[List.append_nil];exact ci,by rw[List.take_zero];show _<=(bs++[]).length;rw[List.append_nil];exact hal⟩ (λi σ H5 _ ⟨_,_,_,_,_,_,q,_⟩=>q) ?_ ?_
  ·rintro i kv σ H5 t kp hkv nt hkp ⟨gs2,ag2,O2,v2,v3,rfl,q5,f5,le5,nw5,c5,ci5,al5⟩;obtain⟨p,hp,rfl⟩:=fpK_at hkv;have hi:=(List.getElem?_eq_some_iff.mp hp).1
   replace hkp:H5 kp=some (.tup (intV p.1)):=by
    rw[hkp];show some (HO.tup (((p.1.map (Sum.inl:Int->Key)).map kV)))=_;rw[List.map_map];rfl
   have s6:=Same.upd (o:=.tup [.ref kp,.int (p.2:Int)]) nt;refine⟨t,_,rfl,SqT.of upd_same,rfl,_,_,rfl,_,_,rfl,rfl,?_⟩;generalize upd H5 t (.tup [.ref kp,.int (p.2:Int)])=H6 at s6 ⊢;have hb:=hfp p (List.mem_of_getElem? hp);have bl:=begL_len m (fp.take i);rw[List.length_take]at bl;have c6:=c5.same s6;refine⟨_,rfl,x,c.dx,_,rfl,c6.ins,cl_no (by decide +kernel),_,rfl,_,rfl,_,rfl,x,r,kp,c,S,_,gs2,ag2,W,hd,fp,O2,p.2,m,p.1,rfl,c6,ci5,s6 _ _ hkp,hb.1,hb.2,hm,by rw[List.length_append];omega,al5,λgs7 ag7 O7 H7 bt7 le7 nw7 c7 ci7 al7=>?_⟩;have nQ2:¬O2 c.aQ:=λz=>(nw5 _ z).elim nQ λq=>by rw[hQ]at q;cases q
   rw[List.append_assoc,←begL_snoc hp]at ci7 al7;refine⟨gs7,ag7,O7,_,_,rfl,bt7 _ _ nQ2 (s6 _ _ q5),λb o n1 n2 e=>bt7 b o (λz=>(nw5 b z).elim n2 λq=>by rw[q]at e;cases e) (s6 _ _ (f5 b o n1 n2 e)),λb z=>le7 b (le5 b z),λb z=>?_,c7,ci7,al7⟩;rcases nw7 b z with w|w
   ·exact nw5 b w
   ·by_cases y:O b
    ·exact .inl y
    ·refine .inr ?_
     cases e:H b with
     |none=>rfl
     |some o=>
      by_cases y2:b=c.aQ
      ·rw[y2,s6 _ _ q5]at w;cases w
      ·rw[s6 _ _ (f5 b o y2 y e)]at w;cases w
  ·rintro σ H5 ⟨gs2,ag2,O2,v2,v3,rfl,q5,f5,le5,nw5,c5,ci5,al5⟩;rw[show (fpK fp).length=fp.length by unfold fpK;rw[List.length_map],List.take_length]at ci5 al5;have nQ2:¬O2 c.aQ:=λz=>(nw5 _ z).elim nQ λq=>by rw[hQ]at q;cases q
   refine⟨fo,q5,k gs2 ag2 O2 _ (λb o n e=>?_) le5 nw5 (c5.keep (λb o hb e=>by rw[upd_ne (λz=>nQ2 (by rw[←z];exact hb))];exact e) (λb xs e=>by rw[upd_ne (λz=>by rw[z,q5]at e;cases e)];exact e)) ci5 al5⟩;by_cases z:b=c.aQ
   ·rw[z,upd_same,←hQ,←z];exact e
   ·rw[upd_ne z];exact f5 b o z n e
def cy1 (r:Addr):List (Str×V):=[("rooms",.ref r)]
def cy2 (r q:Addr):List (Str×V):=[("rooms",.ref r),("rules",.ref q)]
def cy3 (r q g:Addr):List (Str×V):=[("rooms",.ref r),("rules",.ref q),("goings",.ref g)]
def cy4 (r q g e:Addr):List (Str×V):=[("rooms",.ref r),("rules",.ref q),("goings",.ref g),("agenda",.ref e)]
def cy5 (r q g e w:Addr):List (Str×V):=[("rooms",.ref r),("rules",.ref q),("goings",.ref g),("agenda",.ref e),("waiting",.ref w)]
def cy6 (r q g e w:Addr)(n:Int):List (Str×V):=[("rooms",.ref r),("rules",.ref q),("goings",.ref g),("agenda",.ref e),("waiting",.ref w),("heard",.int n)]
theorem cz2 (r q:Addr):putF "rules" (.ref q) (cy1 r)=cy2 r q:=putF_new (by kernel_rfl)
theorem cz3 (r q g:Addr):putF "goings" (.ref g) (cy2 r q)=cy3 r q g:=putF_new (by kernel_rfl)
theorem cz4 (r q g e:Addr):putF "agenda" (.ref e) (cy3 r q g)=cy4 r q g e:=putF_new (by kernel_rfl)
theorem cz5 (r q g e w:Addr):putF "waiting" (.ref w) (cy4 r q g e)=cy5 r q g e w:=putF_new (by kernel_rfl)
theorem cz6 (r q g e w:Addr)(n:Int):putF "heard" (.int n) (cy5 r q g e w)=cy6 r q g e w n:=putF_new (by kernel_rfl)
theorem kat_nil {H:Hp}{k:Addr}(h:H k=some (.dK [])):KAt H k (λ_=>none) (λ_ _=>none) (λ_ _ _=>false):=⟨⟨[],h,by simp,(λkv z=>by cases z),λ_=>rfl⟩,(λ_ _ z=>by cases z),(λ_ _ _ z=>by cases z),(λ_ _ _ z=>by cases z),(λ_ _ _ z=>by cases z),(λ_ _ z=>by cases z),(λ_ _ _ z=>by cases z),(λ_ _ _ z=>by cases z),(λ_ _ _ _ z=>by cases z),(λ_ _ _ _ _ z=>by cases z)⟩
def stdg (S:RS):List Nat:=(List.range S.made).filter λc=>decide (S.elders[c]?=some c)
def standL (fp:List (List Int×Nat))(st:List Nat):List (Nat×List Int×Nat):=st.flatMap λm=>begL fp m
def partL (ps:List (List Int))(nr i:Nat):List (Nat×List Int×Nat):=(List.range i).flatMap λj=>nz (nr+ j) (ps.getD j []) 0
theorem standL_len (fp:List (List Int×Nat)):∀st:List Nat,(standL fp st).length<=st.length* fp.length
 |[]=>Nat.zero_le _
 |m::st=>by
  have:=standL_len fp st;have:=begL_len m fp;unfold standL at *;rw[List.flatMap_cons,List.length_append,List.length_cons,Nat.add_mul];omega
theorem partL_len (ps:List (List Int))(nr:Nat):∀i,(partL ps nr i).length<=i
 |0=>Nat.le_refl _
 |i+ 1=>by
  have:=partL_len ps nr i;have:=nz_le (nr+ i) (ps.getD i []) 0;unfold partL at *;rw[List.range_succ,List.flatMap_append,List.length_append];show _+ (nz _ _ 0++[]).length<=_;rw[List.append_nil];omega
def noW:Rel3:=λ_ _ _=>false
theorem ci_nil {S:RS}:CI S [] [] [] noW noEx none:=⟨rfl,(λn g e=>by simp at e),(λn b e=>by simp at e),(λn z=>by cases z),(λr s n z=>by cases z),λn=>⟨(0,0),(0,0),(λr s z=>by cases z),λg e=>by simp at e⟩,(λb z=>by cases z)⟩
def spCNew (CR CG CC:Addr):Sp:=λvs H Q _=>∃(x dx r ru pa:Addr) (S:RS) (a:RA) (R:Nat->Int->Nat->Prop) (rs ps:List (List Int)),vs=[.ref x,.ref r,.ref ru,.ref pa]/\H x=some (.ins CC dx [])/\RoomsAt CR H r S a/\Good S [] R/\0<S.made/\S.made<=2000/\¬a.own r x/\WordsAt H ru rs/\WordsAt H pa ps/\rs.length<=400/\ps.length<=400/\(∀u∈rs++ps,u.length<=1000/\∀z∈u,-1000<=z/\z<=1000)/\(∀fp,Plcs rs fp->S.made* fp.length+ ps.length<50000)/\
 ∀c gs ag fp O H',(∀b o,H b=some o->b≠x->H' b=some o)->CAt CG CC H' x r c gs ag noW S.went.length fp O->H' c.aQ=some (.dT (fpK fp))->(∀b,O b->b=x\/H b=none)->CI S (standL fp (stdg S)++partL ps rs.length ps.length) gs ag noW noEx none->ag.length<=(standL fp (stdg S)++partL ps rs.length ps.length).length->Plcs rs fp->Q .non H'
theorem ok_Closing___init__ (T:Txt K mg A):FnOk P w K mg base CX0 5 A.f_Closing___init__ A.d_Closing___init__ ["self","rooms","rules","part"] (spCNew A.c_Rooms A.c_Going A.c_Closing):=by
 have G_first_places:FnOk P w K mg base CX0 1 A.f_first_places A.d_first_places ["rules"] spPlaces:=ok_first_places T;have G_Rooms_standing:FnOk P w K mg base CX0 1 A.f_Rooms_standing A.d_Rooms_standing ["self"] (spStanding A.c_Rooms):=ok_Rooms_standing T;have G_Closing_begin_rules:FnOk P w K mg base CX0 4 A.f_Closing_begin_rules A.d_Closing_begin_rules ["self","room"] (spBegR A.c_Rooms A.c_Going A.c_Closing):=ok_Closing_begin_rules T;have G_Closing_begin:FnOk P w K mg base CX0 3 A.f_Closing_begin A.d_Closing_begin ["self","which","word","room"] (spBegin A.c_Rooms A.c_Going A.c_Closing):=ok_Closing_begin T;refine T.Closing___init__.F.ok sc_Closing___init__ (λvs H Q E h=>?_) (λcdv AA outer s H vs Q E hr h=>?_)
 ·obtain⟨x,dx,r,ru,pa,S,a,R,rs,ps,rfl,_⟩:=h;rfl
 ·obtain⟨x,dx,r,ru,pa,S,a,R,rs,ps,rfl,hx,hR,gd,hm0,hm,nxo,hru,hpa,hrl,hpl,hwb,hfit,k⟩:=h
  refine⟨_,(pss_cons (ps_fld (pv 0) (pv 1) rfl)
   (pss_cons (ps_fld (pv 0) (pe_call (G_first_places) (hr.mono (by decide)) rfl T.first_places.m T.first_places.F.kp T.first_places.b .nil pass0 (pa_cons (pv 2) pa_nil)) rfl)
   (pss_cons (ps_fld (pv 0) (pe_lst pa_nil) rfl)
   (pss_cons (ps_fld (pv 0) (pe_lst pa_nil) rfl)
   (pss_cons (ps_fld (pv 0) pe_dnewK rfl)
   (pss_cons (ps_fld (pv 0) (pe_callB call_len_seq rfl T.z_len PySem.boot_len (pa_cons (pe_fld (pv 1) rfl) pa_nil)) rfl)
   (pss_cons (ps_for PassesOwn.never rfl (pi_list (pe_meth0 (pv 1) (cl_Rooms T) T.Rooms_standing.m (G_Rooms_standing) (hr.mono (by decide)) T.Rooms_standing.b .nil pass0)) (pg_name (i:=4) sc_Closing___init__.nd rfl (Or.inl rfl))
    (pss_one (ps_expr (pe_meth (pv 0) (cl_Closing T) T.Closing_begin_rules.m (G_Closing_begin_rules) (hr.mono (by decide)) T.Closing_begin_rules.b .nil pass0 (pa_cons (pv 4) pa_nil)))))
   (pss_one (ps_for PassesOwn.never rfl (pi_enumLE rfl T.z_enumerate (pv 3) (pe_callB call_len_seq rfl T.z_len PySem.boot_len (pa_cons (pv 2) pa_nil))) (pg_tup rfl (pgs_cons (pg_name (i:=5) sc_Closing___init__.nd rfl (Or.inl rfl)) (pgs_cons (pg_name (i:=6) sc_Closing___init__.nd rfl (Or.inl rfl)) pgs_nil)))
    (pss_one (ps_expr (pe_meth (pv 0) (cl_Closing T) T.Closing_begin.m (G_Closing_begin) (hr.mono (by decide)) T.Closing_begin.b .nil pass0 (pa_cons (pv 5) (pa_cons (pv 6) (pa_cons pe_int pa_nil))))))))))))))),?_⟩
  try dsimp only[cx_noxK,cx_K]
  refine seq_let7 ?_;intro u_7 u_6 u_5 u_4 u_3 u_2 u_1;obtain⟨rps,hr1,hr2⟩:=id hru;obtain⟨pps,hp1,hp2⟩:=id hpa
  have st:∀{H0:Hp} {fs gs:List (Str×V)},H0 x=some (.ins A.c_Closing dx fs)->(∀b o,H b=some o->b≠x->H0 b=some o)->upd H0 x (.ins A.c_Closing dx gs) x=some (.ins A.c_Closing dx gs)/\(∀b o,H b=some o->b≠x->upd H0 x (.ins A.c_Closing dx gs) b=some o)/\(∀b o,b≠x->H0 b=some o->upd H0 x (.ins A.c_Closing dx gs) b=some o)/\∀b,upd H0 x (.ins A.c_Closing dx gs) b=none->H0 b=none:=λ_ h=>⟨upd_same,λb o e n=>by rw[upd_ne n];exact h b o e n,λb o n e=>by rw[upd_ne n];exact e,λb z=>by
   by_cases e:b=x
   ·rw[e,upd_same]at z;cases z
   ·rw[upd_ne e]at z;exact z⟩
  have o0:∀b o,H b=some o->b≠x->H b=some o:=λb o e _=>e
  have nxr:ru≠x:=ne_of hr1 hx (by intro z;cases z);have nxp:pa≠x:=ne_of hp1 hx (by intro z;cases z);refine⟨_,rfl,_,rfl,x,_,dx,_,rfl,hx,cl_Closing T,T.nC_rooms,(by show 0<1000;decide),?_⟩;rw[show putF "rooms" (.ref r) []=cy1 r from rfl];obtain⟨x1,o1,-,n1⟩:=st (gs:=cy1 r) hx o0;generalize upd H x (.ins A.c_Closing dx (cy1 r))=H1 at x1 o1 n1 ⊢;have wr1:WordsAt H1 ru rs:=⟨rps,o1 _ _ hr1 nxr,hr2.1,λi q u e1 e2=>o1 _ _ (hr2.2 i q u e1 e2) (ne_of (hr2.2 i q u e1 e2) hx (by intro z;cases z))⟩;refine⟨_,rfl,ru,rs,rfl,wr1,by omega,λq fp H2 s2 nq hq hpc=>?_⟩;have x2:=s2 _ _ x1;have o2:∀b o,H b=some o->b≠x->H2 b=some o:=λb o e n=>s2 _ _ (o1 b o e n)
  have n2:∀b,H2 b=none->H b=none:=λb z=>n1 b (same_none s2 z)
  refine⟨_,rfl,x,_,dx,_,rfl,x2,cl_Closing T,T.nC_rules,(by show 1<1000;decide),?_⟩;rw[cz2];have nxq:q≠x:=ne_of hq x2 (by intro z;cases z);obtain⟨x3,o3,k3,n3⟩:=st (gs:=cy2 r q) x2 o2;generalize upd H2 x (.ins A.c_Closing dx (cy2 r q))=H3 at x3 o3 k3 n3 ⊢;have q3:=k3 _ _ nxq hq;refine⟨Nat.zero_le _,λg ng=>?_⟩;have s4:=Same.upd (o:=.lst []) ng;have g4:upd H3 g (.lst []) g=some (.lst []):=upd_same;have n4:∀b,upd H3 g (.lst []) b=none->H b=none:=λb z=>n2 b (n3 b (same_none s4 z))
  have ng0:=n2 g (n3 g ng);generalize upd H3 g (.lst [])=H4 at s4 g4 n4 ⊢;refine⟨_,rfl,x,_,dx,_,rfl,s4 _ _ x3,cl_Closing T,T.nC_goings,(by show 2<1000;decide),?_⟩;rw[cz3];obtain⟨x5,o5,k5,n5⟩:=st (gs:=cy3 r q g) (s4 _ _ x3) (λb o e n=>s4 _ _ (o3 b o e n));generalize upd H4 x (.ins A.c_Closing dx (cy3 r q g))=H5 at x5 o5 k5 n5 ⊢;have ngx:g≠x:=ne_of g4 (s4 _ _ x3) (by intro z;cases z);have q5:=k5 _ _ nxq (s4 _ _ q3);have g5:=k5 _ _ ngx g4;refine⟨Nat.zero_le _,λe ne=>?_⟩;have s6:=Same.upd (o:=.lst []) ne;have e6:upd H5 e (.lst []) e=some (.lst []):=upd_same;have n6:∀b,upd H5 e (.lst []) b=none->H b=none:=λb z=>n4 b (n5 b (same_none s6 z))
  have ne0:=n4 e (n5 e ne);have nge:g≠e:=ne_of_none g5 ne;generalize upd H5 e (.lst [])=H6 at s6 e6 n6 ⊢;refine⟨_,rfl,x,_,dx,_,rfl,s6 _ _ x5,cl_Closing T,T.nC_agenda,(by show 3<1000;decide),?_⟩;rw[cz4];obtain⟨x7,o7,k7,n7⟩:=st (gs:=cy4 r q g e) (s6 _ _ x5) (λb o e n=>s6 _ _ (o5 b o e n));generalize upd H6 x (.ins A.c_Closing dx (cy4 r q g e))=H7 at x7 o7 k7 n7 ⊢;have nex:e≠x:=ne_of e6 (s6 _ _ x5) (by intro z;cases z);have q7:=k7 _ _ nxq (s6 _ _ q5);have g7:=k7 _ _ ngx (s6 _ _ g5);have e7:=k7 _ _ nex e6;refine λw nw=>?_
  have s8:=Same.upd (o:=.dK []) nw;have w8:upd H7 w (.dK []) w=some (.dK []):=upd_same;have n8:∀b,upd H7 w (.dK []) b=none->H b=none:=λb z=>n6 b (n7 b (same_none s8 z))
  have nw0:=n6 w (n7 w nw);generalize upd H7 w (.dK [])=H8 at s8 w8 n8 ⊢;refine⟨_,rfl,x,_,dx,_,rfl,s8 _ _ x7,cl_Closing T,T.nC_waiting,(by show 4<1000;decide),?_⟩;rw[cz5];obtain⟨x9,o9,k9,n9⟩:=st (gs:=cy5 r q g e w) (s8 _ _ x7) (λb o e n=>s8 _ _ (o7 b o e n));generalize upd H8 x (.ins A.c_Closing dx (cy5 r q g e w))=H9 at x9 o9 k9 n9 ⊢;have nwx:w≠x:=ne_of w8 (s8 _ _ x7) (by intro z;cases z);have R9:RoomsAt A.c_Rooms H9 r S a:=hR.keep (λb o hb e=>o9 b o e (λz=>nxo (by rw[←z];exact hb))) (λb xs e=>o9 b _ e (ne_of e hx (by intro z;cases z)));refine⟨_,rfl,r,_,a.dx,_,_,rfl,R9.ins,cl_Rooms T,T.n_went,lk_went _ _ _,a.aN,_,rfl,.inl (SqL.of R9.hN),_,rfl,x,_,dx,_,rfl,x9,cl_Closing T,T.nC_heard,(by show 5<1000;decide),?_⟩;rw[ints_len,nI_len,cz6];obtain⟨xa,oa,ka,na⟩:=st (gs:=cy6 r q g e w S.went.length) x9 o9;generalize upd H9 x (.ins A.c_Closing dx (cy6 r q g e w S.went.length))=Ha at xa oa ka na ⊢;have up:∀b o,b≠x->H8 b=some o->Ha b=some o:=λb o n z=>ka b o n (k9 b o n z)
  have cA:CAt A.c_Going A.c_Closing Ha x r ⟨dx,q,g,e,w⟩ [] [] noW S.went.length fp (λb=>b=x\/b=g\/b=e\/b=w):=by
   refine⟨xa,⟨[],up _ _ ngx (s8 _ _ g7),rfl,(λi v z=>by simp at z),(λi v u z=>by simp at z),(λi j p z=>by simp at z)⟩,up _ _ nex (s8 _ _ e7),⟨_,_,kat_nil (up _ _ nwx w8),⟨λb hb=>?_,(λ_ _ z=>by cases z),(λ_ _ _ z=>by cases z),(λ_ _ _ z=>by cases z)⟩⟩,nge,.inl rfl,.inr (.inl rfl),.inr (.inr (.inl rfl)),λb hb=>?_⟩
   ·rcases hb with z|⟨_,z⟩|⟨_,_,z⟩
    ·exact .inr (.inr (.inr z))
    ·cases z
    ·cases z
   ·rcases hb with z|z|z|z
    ·rw[z];exact⟨_,xa,(by intro _ z;cases z),by intro _ z;cases z⟩
    ·rw[z];exact⟨_,up _ _ ngx (s8 _ _ g7),(by intro _ z;cases z),by intro _ z;cases z⟩
    ·rw[z];exact⟨_,up _ _ nex (s8 _ _ e7),(by intro _ z;cases z),by intro _ z;cases z⟩
    ·rw[z];exact⟨_,up _ _ nwx w8,(by intro _ z;cases z),by intro _ z;cases z⟩
  have qa:=up _ _ nxq (s8 _ _ q7)
  have Oa:∀b,(b=x\/b=g\/b=e\/b=w)->b=x\/H b=none:=λb z=>by
   rcases z with z|z|z|z
   ·exact .inl z
   ·rw[z];exact .inr ng0
   ·rw[z];exact .inr ne0
   ·rw[z];exact .inr nw0
  have Ra:RoomsAt A.c_Rooms Ha r S a:=hR.keep (λb o hb e=>oa b o e (λz=>nxo (by rw[←z];exact hb))) (λb xs e=>oa b _ e (ne_of e hx (by intro z;cases z)));have nA:∀b,Ha b=none->H b=none:=λb z=>n8 b (n9 b (na b z))
  obtain⟨O,eO⟩:∃O:Addr->Prop,O=λb=>b=x\/b=g\/b=e\/b=w:=⟨_,rfl⟩
  rw[←eO]at cA;replace Oa:∀b,O b->b=x\/H b=none:=by rw[eO];exact Oa
  clear eO;generalize ec:(⟨dx,q,g,e,w⟩:KA)=c at cA;have qa:Ha c.aQ=some (.dT (fpK fp)):=by rw[←ec];exact qa
  clear g7 e7 w8 x9 o9 k9 n9 s8 n8 x7 o7 k7 n7 s6 n6 e6 x5 o5 k5 n5 s4 g4 n4 x3 o3 k3 n3 x1 o1 n1 x2 o2 n2 up ka q7 q5 q3 g5 xa na R9 nw0 ne0 ng0 nw ne ng nge nex ngx nwx hq nq s2 nxq wr1;have hfb:∀p∈fp,p.1.length<=1000/\∀z∈p.1,-1000<=z/\z<=1000:=λp hp=>hwb _ (List.mem_append_left _ (List.mem_of_getElem? (hpc.a p hp)))
  have hfit:=hfit fp hpc;refine⟨_,rfl,r,a.dx,_,rfl,Ra.ins,lk_none _ _ _ (by decide +kernel),r,S,a,rfl,Ra,gd.wf,by omega,λl nl=>?_⟩;have sl:(stdg S).length<=S.made:=Nat.le_trans (List.length_filter_le _ _) (by rw[List.length_range];exact Nat.le_refl _);have stm:∀m∈stdg S,m<S.made:=λm hm=>List.mem_range.mp (List.mem_filter.mp hm).1
  have hmf:(stdg S).length* fp.length<=S.made* fp.length:=Nat.mul_le_mul_right _ sl;have sb:=Same.upd (o:=.lst (intV (nI (stdg S)))) nl;have hl:upd Ha l (.lst (intV (nI (stdg S)))) l=some (.lst (intV (nI (stdg S)))):=upd_same;show ∃a_1,_;rw[show (List.range S.made).filter (λc=>decide (S.elders[c]?=some c))=stdg S from rfl];have nl0:=nA l nl;have nlO:¬O l:=λz=>by obtain⟨o,e,_⟩:=cA.th l z;rw[nl]at e;cases e
  generalize upd Ha l (.lst (intV (nI (stdg S))))=Hb at sb hl ⊢;have cB:=cA.same sb;refine⟨l,rfl,⟨_,SqL.of hl⟩,?_⟩
  refine for_list (K:=K) (a:=l) (xs:=intV (nI (stdg S))) (λi σ H2=>∃gs2 ag2 O2 v4,σ=[some (.ref x),some (.ref r),some (.ref ru),some (.ref pa),v4,none,none]/\(∀b o,¬O b->Hb b=some o->H2 b=some o)/\(∀b,O b->O2 b)/\(∀b,O2 b->O b\/Hb b=none)/\CAt A.c_Going A.c_Closing H2 x r c gs2 ag2 noW S.went.length fp O2/\CI S (standL fp ((stdg S).take i)) gs2 ag2 noW noEx none/\ag2.length<=(standL fp ((stdg S).take i)).length)
   ⟨[],[],O,none,rfl,λ_ _ _ e=>e,λb z=>z,λb z=>.inl z,cB,ci_nil,Nat.le_refl _⟩ (λi σ H2 _ ⟨_,_,_,_,_,f,_⟩=>SqL.of (f _ _ nlO hl)) ?_ ?_
  ·rintro i v σ H2 hi ⟨gs2,ag2,O2,v4,rfl,f2,le2,nw2,c2,ci2,al2⟩;obtain⟨z,rfl,hz⟩:=ints_of_at hi
   obtain⟨m,hmi,rfl⟩:∃m,(stdg S)[i]?=some m/\z=(m:Int):=by
    unfold nI at hz;rw[List.getElem?_map]at hz
    cases y:(stdg S)[i]? with
    |none=>rw[y]at hz;cases hz
    |some m=>rw[y]at hz;exact⟨m,rfl,(Option.some.inj hz).symm⟩
   have hil:=(List.getElem?_eq_some_iff.mp hmi).1;have nQ:¬O c.aQ:=cA.ndT qa;have q2:=f2 _ _ nQ (sb _ _ qa);have ll:=standL_len fp ((stdg S).take i);rw[List.length_take,Nat.min_eq_left (by omega)]at ll;have li:(i+ 1)* fp.length<=(stdg S).length* fp.length:=Nat.mul_le_mul_right _ hil;rw[Nat.add_mul]at li;refine⟨_,rfl,x,c.dx,_,rfl,c2.ins,cl_no (by decide +kernel),_,rfl,x,r,c,S,_,gs2,ag2,noW,S.went.length,fp,O2,m,rfl,c2,q2,ci2,hfb,stm m (List.mem_of_getElem? hmi),by omega,al2,λgs3 ag3 O3 H3 b3 le3 nw3 c3 ci3 al3=>?_⟩
   have es:standL fp ((stdg S).take (i+ 1))=standL fp ((stdg S).take i)++begL fp m:=by
    unfold standL;rw[List.take_succ,hmi,List.flatMap_append];show _++(begL fp m++[])=_;rw[List.append_nil]
   rw[←es]at ci3 al3;refine⟨gs3,ag3,O3,_,rfl,λb o n e=>b3 b o (λz=>(nw2 b z).elim n λy=>by rw[y]at e;cases e) (f2 b o n e),λb z=>le3 b (le2 b z),λb z=>?_,c3,ci3,al3⟩;rcases nw3 b z with y|y
   ·exact nw2 b y
   ·by_cases y2:O b
    ·exact .inl y2
    ·refine .inr ?_
     cases e:Hb b with
     |none=>rfl
     |some o=>rw[f2 b o y2 e]at y;cases y
  rintro σ H2 ⟨gs2,ag2,O2,v4,rfl,f2,le2,nw2,c2,ci2,al2⟩;rw[ints_len,nI_len,List.take_length]at ci2 al2;have ll:=standL_len fp (stdg S);have hp1b:Hb pa=some (.lst (pps.map V.ref)):=sb _ _ (oa _ _ hp1 nxp);have npO:∀{b o},H b=some o->b≠x->¬O b:=λ{b o} e n z=>(Oa b z).elim n λy=>by rw[y]at e;cases e
  have hp2b:=f2 _ _ (npO hp1 nxp) hp1b;have hr2b:=f2 _ _ (npO hr1 nxr) (sb _ _ (oa _ _ hr1 nxr));have lr:(rps.map V.ref).length=rs.length:=by rw[List.length_map,hr2.1]
  refine⟨_,rfl,_,rfl,ru,_,rfl,.inl (SqL.of hr2b),pa,((rps.map V.ref).length:Int),rfl,rfl,by omega,by omega,⟨_,SqL.of hp2b⟩,?_⟩;rw[lr]
  refine for_enumLS (K:=K) (a:=pa) (xs:=pps.map V.ref) (λi σ H3=>∃gs3 ag3 O3 v5 v6,σ=[some (.ref x),some (.ref r),some (.ref ru),some (.ref pa),v4,v5,v6]/\(∀b o,¬O b->Hb b=some o->H3 b=some o)/\(∀b,O3 b->O b\/Hb b=none)/\CAt A.c_Going A.c_Closing H3 x r c gs3 ag3 noW S.went.length fp O3/\CI S (standL fp (stdg S)++partL ps rs.length i) gs3 ag3 noW noEx none/\ag3.length<=(standL fp (stdg S)++partL ps rs.length i).length)
   ⟨gs2,ag2,O2,none,none,rfl,f2,nw2,c2,by show CI S (_++[]) _ _ _ _ _;rw[List.append_nil];exact ci2,by show _<=(_++[]).length;rw[List.append_nil];exact al2⟩ (λi σ H3 _ ⟨_,_,_,_,_,_,f,_⟩=>SqL.of (f _ _ (npO hp1 nxp) hp1b)) ?_ ?_
  ·rintro i v σ H3 t hi nt ⟨gs3,ag3,O3,v5,v6,rfl,f3,nw3,c3,ci3,al3⟩
   have hil:i<pps.length:=by
    have:=(List.getElem?_eq_some_iff.mp hi).1;rw[List.length_map]at this;exact this
   have hip:i<ps.length:=by rw[←hp2.1];exact hil
   have g1:pps[i]?=some (pps[i]'hil):=List.getElem?_eq_getElem hil
   have g2:ps[i]?=some (ps[i]'hip):=List.getElem?_eq_getElem hip
   rw[List.getElem?_map,g1]at hi;obtain rfl:V.ref (pps[i]'hil)=v:=Option.some.inj hi;generalize pps[i]'hil=wa at g1;generalize ps[i]'hip=u at g2;have hwa:=hp2.2 i wa u g1 g2;have hwx:wa≠x:=ne_of hwa hx (by intro z;cases z);have hwa3:=f3 _ _ (npO hwa hwx) (sb _ _ (oa _ _ hwa hwx));have s4:=Same.upd (o:=.tup [.int ((rs.length:Int)+ (i:Int)),.ref wa]) nt;refine⟨t,_,rfl,SqT.of upd_same,rfl,_,_,rfl,_,_,rfl,rfl,?_⟩;generalize upd H3 t (.tup [.int ((rs.length:Int)+ (i:Int)),.ref wa])=H4 at s4 ⊢;have c4:=c3.same s4;have pl:=partL_len ps rs.length i;have hub:=hwb u (List.mem_append_right _ (List.mem_of_getElem? g2));refine⟨_,rfl,x,c.dx,_,rfl,c4.ins,cl_no (by decide +kernel),_,rfl,_,rfl,x,r,wa,c,S,_,gs3,ag3,noW,S.went.length,fp,O3,rs.length+ i,0,u,rfl,c4,ci3,s4 _ _ hwa3,hub.1,hub.2,hm0,by rw[List.length_append];omega,al3,λgs5 ag5 O5 H5 b5 le5 nw5 c5 ci5 al5=>?_⟩
   have ep:partL ps rs.length (i+ 1)=partL ps rs.length i++nz (rs.length+ i) u 0:=by
    unfold partL;rw[List.range_succ,List.flatMap_append];show _++(nz (rs.length+ i) (ps.getD i []) 0++[])=_;rw[List.append_nil,List.getD_eq_getElem?_getD,g2];rfl
   rw[List.append_assoc,←ep]at ci5 al5;refine⟨gs5,ag5,O5,_,_,rfl,λb o n e=>b5 b o (λz=>(nw3 b z).elim n λy=>by rw[y]at e;cases e) (s4 _ _ (f3 b o n e)),λb z=>?_,c5,ci5,al5⟩;rcases nw5 b z with y|y
   ·exact nw3 b y
   ·by_cases y2:O b
    ·exact .inl y2
    ·refine .inr ?_
     cases e:Hb b with
     |none=>rfl
     |some o=>rw[s4 _ _ (f3 b o y2 e)]at y;cases y
  ·rintro σ H3 ⟨gs3,ag3,O3,v5,v6,rfl,f3,nw3,c3,ci3,al3⟩;rw[List.length_map,hp2.1]at ci3 al3;refine k c gs3 ag3 fp O3 H3 (λb o e n=>f3 b o (npO e n) (sb _ _ (oa b o e n))) c3 (f3 _ _ (cA.ndT qa) (sb _ _ qa)) (λb z=>?_) ci3 al3 hpc;rcases nw3 b z with y|y
   ·exact Oa b y
   ·exact .inr (nA b (same_none sb y))
theorem plcs_len {rs:List (List Int)}{fp:List (List Int×Nat)}(h:Plcs rs fp):fp.length<=rs.length:=by
 have nd:(fp.map (·.2)).Nodup:=by
  have:=h.n;unfold List.Nodup at this ⊢;rw[List.pairwise_map]at this ⊢
  exact this.imp_of_mem λ{p q} hp hq n e=>n (by
   have h1:=h.a p hp;have h2:=h.a q hq;rw[e,h2]at h1;exact(Option.some.inj h1).symm)
 have:=nodup_lenN rs.length _ nd λn hn=>by
  obtain⟨p,hp,rfl⟩:=List.mem_map.mp hn;exact(List.getElem?_eq_some_iff.mp (h.a p hp)).1
 rw[List.length_map]at this;exact this
theorem mem_nz {b:Nat×List Int×Nat}{w m:Nat}{u:List Int}(h:b∈nz w u m):b=(w,u,m)/\u≠[]:=by
 unfold nz at h;split at h
 ·cases h
 ·rename_i q;exact⟨List.mem_singleton.mp h,q⟩
theorem in_nz {w m:Nat}{u:List Int}(h:u≠[]):(w,u,m)∈nz w u m:=by
 unfold nz;rw[if_neg h];exact List.mem_singleton.mpr rfl
theorem mem_all {fp:List (List Int×Nat)}{st:List Nat}{ps:List (List Int)}{nr:Nat}{b:Nat×List Int×Nat}(h:b∈standL fp st++partL ps nr ps.length):(∃p∈fp,b.1=p.2/\b.2.1=p.1/\b.2.2∈st)\/∃j u,ps[j]?=some u/\b=(nr+ j,u,0):=by
 rcases List.mem_append.mp h with q|q
 ·obtain⟨m,hm,q⟩:=List.mem_flatMap.mp q;obtain⟨p,hp,q⟩:=List.mem_flatMap.mp q;obtain⟨rfl,_⟩:=mem_nz q;exact .inl ⟨p,hp,rfl,rfl,hm⟩
 ·obtain⟨j,hj,q⟩:=List.mem_flatMap.mp q;obtain⟨rfl,_⟩:=mem_nz q;have hj:=List.mem_range.mp hj;exact .inr ⟨j,ps.getD j [],by rw[List.getD_eq_getElem?_getD,List.getElem?_eq_getElem hj];rfl,rfl⟩
theorem ends {S:RS}{R:Nat->Int->Nat->Prop}{bs:List (Nat×List Int×Nat)}{gs:List (Option Gg)}{W:Rel3}(ci:CI S bs gs [] W noEx none)(gd:Good S [] R){b:Nat×List Int×Nat}(hb:b∈bs)(es:S.eld b.2.2=b.2.2):Rnd S b.2.2 b.2.1:=by
 obtain⟨n,hn⟩:=List.getElem?_of_mem hb;have hl:n<gs.length:=by rw[ci.len];exact(List.getElem?_eq_some_iff.mp hn).1
 cases q:gs[n]? with
 |none=>rw[List.getElem?_eq_getElem hl]at q;cases q
 |some y=>
  cases y with
  |none=>
   rcases ci.de n b q (by intro z;cases z) hn with z|z
   ·exact absurd es z
   ·exact .inl z
  |some g=>
   obtain⟨e,gi,z⟩:=ci.al n g q;rw[hn]at e;obtain rfl:=Option.some.inj e;rcases z with z|z|⟨lt,w1,w2⟩
   ·cases z
   ·cases z
   ·obtain⟨r1,_,e1,_,_,_,_,f1⟩:=ci.en _ _ _ w1;obtain⟨r2,_,e2,_,_,_,_,f2⟩:=ci.en _ _ _ w2;have e1:r1=g.front:=by omega
    have e2:r2=g.rear:=by omega
    subst e1 e2;rcases f1 with ⟨a1,a2⟩|f1
    ·rcases f2 with ⟨b1,b2⟩|f2
     ·have h1:=gi.wf;have h2:=gi.wr;have es:S.eld g.start=g.start:=es;rw[es,a1]at h1;rw[es,b1]at h2;exact .inr ⟨g.first,g.last,g.front,g.rear,g.z1,-g.z2,lt,Gg.at1 (by have:=gi.ll;omega),Gg.at2 gi.ll,h1,a2,h2,by rw[Int.neg_neg];exact b2⟩
     ·exact f2.elim
    ·exact f1.elim
theorem clsd_of {S S':RS}{R:Nat->Int->Nat->Prop}{rs ps:List (List Int)}{fp:List (List Int×Nat)}{gs:List (Option Gg)}{W:Rel3}(hp:Plcs rs fp)(ci:CI S' (standL fp (stdg S)++partL ps rs.length ps.length) gs [] W noEx none)(gd:Good S' [] R)(em:S'.made=S.made)(wf:S.Wf)(h0:0<S.made)(st:∀c,c<S.made->S'.eld c=c->S.eld c=c):Clsd rs ps S':=by
 refine⟨λw hw c hc ec=>?_,λw hw=>?_⟩
 ·by_cases hne:w=[]
  ·rw[hne];exact .inl rfl
  ·obtain⟨n,hn⟩:=hp.b w hw;rw[em]at hc;have hcs:c∈stdg S:=List.mem_filter.mpr ⟨List.mem_range.mpr hc,decide_eq_true (by rw[eld_at (by rw[wf.e];exact hc),st c hc ec])⟩;exact ends (b:=(n,w,c)) ci gd (List.mem_append_left _ (List.mem_flatMap.mpr ⟨c,hcs,List.mem_flatMap.mpr ⟨(w,n),hn,in_nz hne⟩⟩)) ec
 ·by_cases hne:w=[]
  ·rw[hne];exact .inl rfl
  ·obtain⟨j,hj⟩:=List.getElem?_of_mem hw;have hl:=(List.getElem?_eq_some_iff.mp hj).1;have e0:S'.eld 0=0:=by have:=(gd.el 0 (by omega)).1;omega
   refine ends (b:=(rs.length+ j,w,0)) ci gd (List.mem_append_right _ (List.mem_flatMap.mpr ⟨j,List.mem_range.mpr hl,?_⟩)) e0;rw[List.getD_eq_getElem?_getD,hj];exact in_nz hne
def spClose (CR CG CC:Addr):Sp:=λvs H Q _=>∃(r ru pa:Addr) (S:RS) (a:RA) (R:Nat->Int->Nat->Prop) (ks:List Int) (B:Nat) (rs ps:List (List Int)),vs=[.ref r,.ref ru,.ref pa]/\RmI CR H r S a R ks B/\0<S.made/\B<800000/\WordsAt H ru rs/\WordsAt H pa ps/\rs.length<=400/\ps.length<=400/\S.made* rs.length+ ps.length<=700/\(∀u∈rs++ps,u.length<=1000/\∀z∈u,(-1000<=z/\z<=1000)/\z∈ks/\-z∈ks)/\
 ∀S' a' R' B' H',(∀b o,¬a.own r b->H b=some o->H' b=some o)->RmI CR H' r S' a' R' ks B'->(∀b,a'.own r b->a.own r b\/H b=none)->(∀a z b,R a z b->R' a z b)->S'.made=S.made->S'.L=S.L->Tr (rs++ps) rs.length S S'->Clsd rs ps S'->B'<=B+ 700->Q .non H'
theorem ok_close (T:Txt K mg A):FnOk P w K mg base CX0 9 A.f_close A.d_close ["rooms","rules","part"] (spClose A.c_Rooms A.c_Going A.c_Closing):=by
 have G_Closing_settle:FnOk P w K mg base CX0 8 A.f_Closing_settle A.d_Closing_settle ["self"] (spSettle A.c_Rooms A.c_Going A.c_Closing):=ok_Closing_settle T;have G_Closing___init__:FnOk P w K mg base CX0 5 A.f_Closing___init__ A.d_Closing___init__ ["self","rooms","rules","part"] (spCNew A.c_Rooms A.c_Going A.c_Closing):=ok_Closing___init__ T;refine T.close.F.ok sc_close (λvs H Q E h=>?_) (λcdv AA outer s H vs Q E hr h=>?_)
 ·obtain⟨r,ru,pa,S,a,R,ks,B,rs,ps,rfl,_⟩:=h;rfl
 ·obtain⟨r,ru,pa,S,a,R,ks,B,rs,ps,rfl,hR,hm0,hB,hru,hpa,hrl,hpl,hG,hw,k⟩:=h;refine⟨_,(pss_one (ps_expr (pe_meth0 (pe_make (mk_Closing T) (G_Closing___init__) (hr.mono (by decide)) rfl T.m_Closing T.Closing___init__.b .nil pass0 (pa_cons (pv 0) (pa_cons (pv 1) (pa_cons (pv 2) pa_nil)))) (cl_Closing T) T.Closing_settle.m (G_Closing_settle) (hr.mono (by decide)) T.Closing_settle.b .nil pass0))),?_⟩
  try dsimp only[cx_noxK,cx_K]
  refine⟨_,rfl,_,rfl,_,rfl,λx dx nx ndx ned=>?_⟩;have s0:Same H (upd (upd H dx (.own x)) x (.ins A.c_Closing dx [])):=(Same.upd ndx).trans (Same.upd (by rw[upd_ne ned.symm];exact nx));have hx0:upd (upd H dx (.own x)) x (.ins A.c_Closing dx []) x=some (.ins A.c_Closing dx []):=upd_same;have nxo:¬a.own r x:=λz=>by obtain⟨o,e⟩:=hR.at_.there z;rw[nx]at e;cases e
  have n0:∀b,upd (upd H dx (.own x)) x (.ins A.c_Closing dx []) b=none->H b=none:=λb z=>same_none s0 z
  generalize upd (upd H dx (.own x)) x (.ins A.c_Closing dx [])=H0 at s0 hx0 n0 ⊢;have gd:=hR.g
  have fit:∀fp,Plcs rs fp->S.made* fp.length+ ps.length<=700:=λfp h=>by
   have:=Nat.mul_le_mul_left S.made (plcs_len h);omega
  refine⟨x,dx,r,ru,pa,S,a,R,rs,ps,rfl,hx0,hR.at_.same s0,gd,hm0,hR.m,nxo,hru.same s0,hpa.same s0,hrl,hpl,λu hu=>⟨(hw u hu).1,λz hz=>((hw u hu).2 z hz).1⟩,λfp h=>by have:=fit fp h;omega,λc gs ag fp O H1 f1 c1 q1 o1 ci1 al1 hp=>⟨rfl,?_⟩⟩;have hf:=fit fp hp;have sl:(stdg S).length<=S.made:=Nat.le_trans (List.length_filter_le _ _) (by rw[List.length_range];exact Nat.le_refl _);have hmf:(stdg S).length* fp.length<=S.made* fp.length:=Nat.mul_le_mul_right _ sl;have l1:=standL_len fp (stdg S);have l2:=partL_len ps rs.length ps.length;have hbl:(standL fp (stdg S)++partL ps rs.length ps.length).length<=700:=by rw[List.length_append];omega
  have hlv:live gs<=(standL fp (stdg S)++partL ps rs.length ps.length).length:=by rw[←ci1.len];exact List.countP_le_length
  have r1:RmI A.c_Rooms H1 r S a R ks B:=(hR.same s0).keep (λb o hb e=>f1 b o e (λz=>nxo (by rw[←z];exact hb))) (λb xs e=>f1 b _ e (ne_of e hx0 (by intro z;cases z)))
  have dj:∀b,a.own r b->¬O b:=λb z y=>by
   obtain⟨o,e⟩:=(hR.at_.same s0).there z;rcases o1 b y with w|w
   ·exact nxo (by rw[←w];exact z)
   ·rw[w]at e;cases e
  have bsok:BsOk (rs++ps) rs.length ks (standL fp (stdg S)++partL ps rs.length ps.length):=by
   have at_:∀b∈standL fp (stdg S)++partL ps rs.length ps.length,(rs++ps)[b.1]?=some b.2.1/\(b.1<rs.length\/b.2.2=0):=λb hb=>by
    rcases mem_all hb with ⟨p,hp',e1,e2,_⟩|⟨j,u,hj,rfl⟩
    ·have h1:=hp.a p hp';have h2:=(List.getElem?_eq_some_iff.mp h1).1;rw[e1,e2,List.getElem?_append_left h2];exact⟨h1,.inl h2⟩
    ·exact⟨by show (rs++ps)[rs.length+ j]?=_;rw[List.getElem?_append_right (by omega),Nat.add_sub_cancel_left];exact hj,.inr rfl⟩
   exact⟨λb hb=>(at_ b hb).1,λb hb=>(at_ b hb).2,λb hb=>(hw _ (List.mem_of_getElem? (at_ b hb).1)).1,λb hb z hz=>((hw _ (List.mem_of_getElem? (at_ b hb).1)).2 z hz).2,by omega⟩
  generalize hbs:standL fp (stdg S)++partL ps rs.length ps.length=bs at *;have hmul:live gs* (2* bs.length+ 1)<=700* 1401:=Nat.mul_le_mul (by omega) (by omega);refine⟨x,c.dx,_,rfl,c1.ins,cl_no (by decide +kernel),x,r,c,S,a,R,ks,B,rs++ps,rs.length,bs,gs,ag,noW,fp,O,rfl,c1,r1,by omega,dj,ci1,bsok,by omega,λS' a' R' gs' W' O' B' H' f' c' r' ow oo dj' ci' rr em eL tr hb'=>?_⟩;have lt:=Later.of gd r'.g rr (Nat.le_of_eq em.symm);refine k S' a' R' B' H' (λb o n e=>f' b o (λz=>?_) n (f1 b o (s0 _ _ e) (ne_of_none e nx))) r' (λb z=>?_) rr em eL tr (clsd_of (S:=S) hp (by rw[hbs];exact ci') r'.g em gd.wf hm0 λc hc ec=>?_) (by omega)
  ·rcases o1 b z with w|w
   ·rw[w,nx]at e;cases e
   ·rw[n0 b w]at e;cases e
  ·rcases ow b z with w|w|w
   ·exact .inl w
   ·rcases o1 b w with y|y
    ·rw[y];exact .inr nx
    ·exact .inr (n0 b y)
   ·refine .inr ?_
    cases e:H b with
    |none=>rfl
    |some o=>rw[f1 b o (s0 _ _ e) (ne_of_none e nx)]at w;cases w
  ·have h1:=lt.el c hc;have h2:=(gd.el c hc).1;have h3:=(r'.g.el (S.eld c) (by rw[em];exact gd.lt hc)).1;rw[h1,ec]at h3;omega
def spCell (K:PySem.W.Frag):Sp:=λvs H Q _=>∃(a:Addr) (ns:List Int) (k:Nat),vs=[.ref a,.int k]/\SqL K H a (intV ns)/\k<=1000/\∀z,Q (.int z) H
def spWhole:Sp:=λvs H Q _=>∃n:Int,vs=[.int n]/\Q (.bl true) H
def spStep:Sp:=λvs H Q _=>∃(z:Int) (L:Nat),vs=[.int z,.int L]/\1<=L/\L<=200/\∀s:Int,s≠0->s.natAbs<=L->Q (.int s) H
theorem ok__law_cell_at (T:Txt K mg A):FnOk P w K mg base CX0 1 A.f__law_cell_at A.d__law_cell_at ["_law_script","_law_k"] (spCell K):=by
 refine T._law_cell_at.F.ok sc__law_cell_at (λvs H Q E h=>?_) (λcdv AA outer s H vs Q E hr h=>?_)
 ·obtain⟨a,ns,n,rfl,_⟩:=h;rfl
 ·obtain⟨a,ns,n,rfl,ha,hn,k⟩:=h
  refine⟨_,(pss_cons (ps_if (pt_cmpR op_lt (pv 1) (pe_callB call_len_seq rfl T.z_len PySem.boot_len (pa_cons (pv 0) pa_nil)) (nomark _))
   (pss_one (ps_ret (pe_ix ix_list (pv 0) (pv 1) (λ_ _=>rfl))))
   pss_nil)
   (pss_one (ps_ret pe_int))),?_⟩
  try dsimp only[cx_noxK,cx_K]
  refine seq_let1 ?_;intro u_1;refine⟨_,rfl,_,rfl,a,_,rfl,.inl ha,_,_,rfl,rfl,_,rfl,?_⟩;refine ite2 (λh=>?_) (λh=>?_)
  ·have h':(n:Int)<((intV ns).length:Int):=of_decide_eq_true h;rw[ints_len]at h';have e0:ns[n]?=some ns[n]:=List.getElem?_eq_getElem (by omega)
   exact⟨_,rfl,_,rfl,a,_,_,_,rfl,rfl,ha,atI_nat (ints_at e0),k _⟩
  ·exact k _
theorem ok__law_whole (T:Txt K mg A):FnOk P w K mg base CX0 1 A.f__law_whole A.d__law_whole ["_law_found"] spWhole:=by
 refine T._law_whole.F.ok sc__law_whole (λvs H Q E h=>?_) (λcdv AA outer s H vs Q E hr h=>?_)
 ·obtain⟨n,rfl,_⟩:=h;rfl
 ·obtain⟨n,rfl,k⟩:=h;refine⟨_,(pss_one (ps_ret (pe_and (pe_callB call_isi rfl T.z_isinstance PyProof.Rows.boot_isinstance (pa_cons (pv 0) (pa_cons (pe_bltn (v:=.ty "int") rfl T.z_int PyProof.Rows.boot_int rfl) pa_nil))) (pe_one (pe_not (pe_callB call_isi rfl T.z_isinstance PyProof.Rows.boot_isinstance (pa_cons (pv 0) (pa_cons (pe_bltn (v:=.ty "bool") rfl T.z_bool PyProof.Rows.boot_bool rfl) pa_nil)))))))),?_⟩
  try dsimp only[cx_noxK,cx_K]
  refine⟨_,rfl,_,_,_,_,rfl,.int n,kit_self K "int",_,rfl,iteT ?_⟩;exact⟨_,rfl,_,_,_,_,rfl,.int n,kit_int_bool K,_,rfl,k⟩
theorem ok__law_step (T:Txt K mg A):FnOk P w K mg base CX0 1 A.f__law_step A.d__law_step ["_law_number","_law_letters"] spStep:=by
 refine T._law_step.F.ok sc__law_step (λvs H Q E h=>?_) (λcdv AA outer s H vs Q E hr h=>?_)
 ·obtain⟨z,L,rfl,_⟩:=h;rfl
 ·obtain⟨z,L,rfl,hL1,hL2,k⟩:=h
  refine⟨_,(pss_cons (ps_if (pt_cmpR op_eq (pe_op op_mod (pv 0) pe_int) pe_int (nomark _))
   (pss_one (ps_ret (pe_un un_neg (pe_op op_add pe_int (pe_op op_mod (pe_op op_fdiv (pv 0) pe_int) (pv 1))))))
   pss_nil)
   (pss_one (ps_ret (pe_op op_add pe_int (pe_op op_mod (pe_op op_fdiv (pv 0) pe_int) (pv 1)))))),?_⟩
  try dsimp only[cx_noxK,cx_K]
  refine seq_let1 ?_;intro u_1;have hm:∀y:Int,0<=y % (L:Int)/\y % (L:Int)<L:=λy=>⟨Int.emod_nonneg _ (by omega),Int.emod_lt_of_pos _ (by omega)⟩
  have h1:=hm (z / 2);refine⟨_,rfl,_,_,rfl,rfl,(by show (0:Int)<2;decide),rfl,_,rfl,ite2 (λh=>?_) (λh=>?_)⟩
  ·refine⟨_,rfl,_,_,rfl,rfl,⟨by decide,by decide⟩,_,rfl,_,_,rfl,rfl,(by show (0:Int)<(L:Int);omega),_,_,rfl,rfl,_,rfl,k _ ?_ ?_⟩ <;> omega
  ·refine⟨_,rfl,_,_,rfl,rfl,⟨by decide,by decide⟩,_,rfl,_,_,rfl,rfl,(by show (0:Int)<(L:Int);omega),_,_,rfl,rfl,k _ ?_ ?_⟩ <;> omega
def spWord:Sp:=λvs H Q _=>∃(z:Int) (L:Nat),vs=[.int z,.int L]/\1<=L/\L<=200/\∀l w H',Same H H'->H' l=some (.tup (intV w))->w.length<=6->(∀s∈w,s≠0/\s.natAbs<=L)->Q (.ref l) H'
theorem ok__law_word (T:Txt K mg A):FnOk P w K mg base CX0 2 A.f__law_word A.d__law_word ["_law_number","_law_letters"] spWord:=by
 have G__law_step:FnOk P w K mg base CX0 1 A.f__law_step A.d__law_step ["_law_number","_law_letters"] spStep:=ok__law_step T;refine T._law_word.F.ok sc__law_word (λvs H Q E h=>?_) (λcdv AA outer s H vs Q E hr h=>?_)
 ·obtain⟨z,L,rfl,_⟩:=h;rfl
 ·obtain⟨z,L,rfl,hL1,hL2,k⟩:=h
  refine⟨_,(pss_cons (ps_set (i:=2) sc__law_word.nd rfl (Or.inl rfl) (pe_tup pa_nil))
   (pss_cons (ps_for PassesOwn.never rfl (pi_range1 rfl T.z_range (pa_cons (pe_op op_mod (pv 0) pe_int) pa_nil)) (pg_name (i:=3) sc__law_word.nd rfl (Or.inl rfl))
    (pss_cons (ps_set (i:=0) sc__law_word.nd rfl (Or.inl rfl) (pe_op op_mod (pe_op op_mul (pv 0) pe_int) pe_int))
    (pss_one (ps_set (i:=2) sc__law_word.nd rfl (Or.inl rfl) (pe_op op_catTT (pv 2) (pe_tup (pa_cons (pe_call (G__law_step) (hr.mono (by decide)) rfl T._law_step.m T._law_step.F.kp T._law_step.b .nil pass0 (pa_cons (pe_op op_fdiv (pv 0) pe_int) (pa_cons (pv 1) pa_nil))) pa_nil)))))))
   (pss_one (ps_ret (pv 2))))),?_⟩
  try dsimp only[cx_noxK,cx_K]
  refine seq_let2 ?_;intro u_2 u_1;have z1:=Int.emod_nonneg z (show (7:Int)≠0 by decide);have z2:=Int.emod_lt_of_pos z (show (0:Int)<7 by decide);refine⟨Nat.zero_le _,λt nt=>?_⟩;have s1:=Same.upd (o:=.tup []) nt;have q1:upd H t (.tup []) t=some (.tup (intV [])):=upd_same;generalize upd H t (.tup [])=H1 at s1 q1 ⊢;refine⟨_,rfl,_,_,rfl,rfl,(by show (0:Int)<7;decide),z % 7,rfl,by omega,by omega,?_⟩
  refine for_range (lo:=0) (n:=(z % 7).toNat) (λi σ H2=>∃(y:Int) (t:Addr) (w:List Int) (v3:Option V),σ=[some (.int y),some (.int L),some (.ref t),v3]/\Same H H2/\H2 t=some (.tup (intV w))/\w.length=i/\∀s∈w,s≠0/\s.natAbs<=L)
   ⟨z,t,[],none,rfl,s1,q1,rfl,(λs hs=>by cases hs)⟩ ?_ ?_
  ·rintro i σ H2 hi ⟨y,t,w,v3,rfl,s2,q2,hl,hw⟩;refine⟨_,rfl,_,_,rfl,rfl,.inr ⟨by decide,by decide⟩,_,_,rfl,rfl,(by show (0:Int)<2147483647;decide),?_⟩;refine⟨_,rfl,_,rfl,_,_,rfl,rfl,⟨by decide,by decide⟩,_,rfl,_,L,rfl,hL1,hL2,λs h1 h2=>⟨(by show 1<=sizeLine;decide),λu nu=>?_⟩⟩;refine⟨t,u,_,_,rfl,rfl,Same.upd nu _ _ q2,upd_same,?_,λp H3 s3 e3=>?_⟩
   ·rw[ints_len];exact Nat.le_trans (show w.length+ 1<=100 by omega) (by decide)
   refine⟨_,p,w++[s],_,rfl,s2.trans ((Same.upd nu).trans s3),by rw[ints_app];exact e3,by rw[List.length_append,hl];rfl,λx hx=>?_⟩;rcases List.mem_append.mp hx with q|q
   ·exact hw x q
   ·rw[List.mem_singleton.mp q];exact⟨h1,h2⟩
  ·rintro σ H2 ⟨y,t,w,v3,rfl,s2,q2,hl,hw⟩;exact⟨_,rfl,k t w H2 s2 q2 (by omega) hw⟩
def spAlike (C:Addr):Sp:=λvs H Q _=>∃(r1 r2:Addr) (S1 S2:RS) (a1 a2:RA) (R:Nat->Int->Nat->Prop) (L:Nat),vs=[.ref r1,.ref r2,.int L]/\RoomsAt C H r1 S1 a1/\RoomsAt C H r2 S2 a2/\Good S1 [] R/\S2.Wf/\S1.made=S2.made/\(∀c,c<S1.made->S1.eld c=S2.eld c)/\(∀c z,S1.by c z=S2.by c z)/\0<S1.made/\S1.made<=2000/\L<=200/\∀H',Same H H'->Q (.bl true) H'
theorem std_in {S:RS}(wf:S.Wf){c:Nat}:c∈stdg S↔c<S.made/\S.eld c=c:=by
 unfold stdg;rw[List.mem_filter,List.mem_range,decide_eq_true_iff];constructor
 ·rintro ⟨h1,h2⟩;rw[eld_at (by rw[wf.e];exact h1)]at h2;exact⟨h1,Option.some.inj h2⟩
 ·rintro ⟨h1,h2⟩;exact⟨h1,by rw[eld_at (by rw[wf.e];exact h1),h2]⟩
theorem ok__law_alike (T:Txt K mg A):FnOk P w K mg base CX0 2 A.f__law_alike A.d__law_alike ["_law_one","_law_other","_law_letters"] (spAlike A.c_Rooms):=by
 have G_Rooms_standing:FnOk P w K mg base CX0 1 A.f_Rooms_standing A.d_Rooms_standing ["self"] (spStanding A.c_Rooms):=ok_Rooms_standing T;have G__law_whole:FnOk P w K mg base CX0 1 A.f__law_whole A.d__law_whole ["_law_found"] spWhole:=ok__law_whole T;have G_Rooms_elder:FnOk P w K mg base CX0 1 A.f_Rooms_elder A.d_Rooms_elder ["self","room"] (spElder A.c_Rooms):=ok_Rooms_elder T;have G_Rooms_by:FnOk P w K mg base CX0 1 A.f_Rooms_by A.d_Rooms_by ["self","room","step"] (spRBy A.c_Rooms):=ok_Rooms_by T;refine T._law_alike.F.ok sc__law_alike (λvs H Q E h=>?_) (λcdv AA outer s H vs Q E hr h=>?_)
 ·obtain⟨r1,r2,S1,S2,a1,a2,R,L,rfl,_⟩:=h;rfl
 ·obtain⟨r1,r2,S1,S2,a1,a2,R,L,rfl,h1,h2,g1,wf2,em,hel,hby,hm0,hm,hL,k⟩:=h;have hu:=Nat.lt_of_succ_lt (hu_of hr)
  refine⟨_,(pss_cons (ps_set (i:=3) sc__law_alike.nd rfl (Or.inl rfl) (pe_meth0 (pv 0) (cl_Rooms T) T.Rooms_standing.m (G_Rooms_standing) (hr.mono (by decide)) T.Rooms_standing.b .nil pass0))
   (pss_cons (ps_cut (ps_if (PW.pt (pw_or (pt_not (pt_val (pe_callB call_isi rfl T.z_isinstance PyProof.Rows.boot_isinstance (pa_cons (pv 3) (pa_cons (pe_bltn (v:=.ty "list") rfl T.z_list PyProof.Rows.boot_list rfl) pa_nil))))) (pw_or (pt_cmpR (op_neLI hu) (pe_meth0 (pv 1) (cl_Rooms T) T.Rooms_standing.m (G_Rooms_standing) (hr.mono (by decide)) T.Rooms_standing.b .nil pass0) (pv 3) (nomark _)) (pw_or1 (pt_cmpR op_NOTIN_l pe_int (pv 3) rfl)))))
    (pss_one (ps_ret pe_bl))
    pss_nil))
   (pss_cons (ps_for PassesOwn.never rfl (pi_range1 rfl T.z_range (pa_cons (pe_fld (pv 0) rfl) pa_nil)) (pg_name (i:=4) sc__law_alike.nd rfl (Or.inl rfl))
    (pss_one (ps_cut (ps_if (PW.pt (pw_or (pt_not (pt_val (pe_call (G__law_whole) (hr.mono (by decide)) rfl T._law_whole.m T._law_whole.F.kp T._law_whole.b .nil pass0 (pa_cons (pe_meth (pv 0) (cl_Rooms T) T.Rooms_elder.m (G_Rooms_elder) (hr.mono (by decide)) T.Rooms_elder.b .nil pass0 (pa_cons (pv 4) pa_nil)) pa_nil)))) (pw_or1 (pt_cmpR op_ne (pe_meth (pv 0) (cl_Rooms T) T.Rooms_elder.m (G_Rooms_elder) (hr.mono (by decide)) T.Rooms_elder.b .nil pass0 (pa_cons (pv 4) pa_nil)) (pe_meth (pv 1) (cl_Rooms T) T.Rooms_elder.m (G_Rooms_elder) (hr.mono (by decide)) T.Rooms_elder.b .nil pass0 (pa_cons (pv 4) pa_nil)) (nomark _)))))
     (pss_one (ps_ret pe_bl))
     pss_nil))))
   (pss_cons (ps_for PassesOwn.never rfl (pi_list (pv 3)) (pg_name (i:=4) sc__law_alike.nd rfl (Or.inl rfl))
    (pss_one (ps_for PassesOwn.never rfl (pi_range2 rfl T.z_range (pa_cons pe_int (pa_cons (pe_op op_add (pv 2) pe_int) pa_nil))) (pg_name (i:=5) sc__law_alike.nd rfl (Or.inl rfl))
     (pss_one (ps_for PassesOwn.never rfl (pi_list (pe_lst (pa_cons (pv 5) (pa_cons (pe_un un_neg (pv 5)) pa_nil)))) (pg_name (i:=6) sc__law_alike.nd rfl (Or.inl rfl))
      (pss_cons (ps_set (i:=7) sc__law_alike.nd rfl (Or.inl rfl) (pe_meth (pv 0) (cl_Rooms T) T.Rooms_by.m (G_Rooms_by) (hr.mono (by decide)) T.Rooms_by.b .nil pass0 (pa_cons (pv 4) (pa_cons (pv 6) pa_nil))))
      (pss_cons (ps_if (pt_cmpR op_ne (pv 7) (pe_meth (pv 1) (cl_Rooms T) T.Rooms_by.m (G_Rooms_by) (hr.mono (by decide)) T.Rooms_by.b .nil pass0 (pa_cons (pv 4) (pa_cons (pv 6) pa_nil))) (nomark _))
       (pss_one (ps_ret pe_bl))
       pss_nil)
      (pss_one (ps_cut (ps_if (PW.pt (pw_and (pt_cmpR op_notN (pv 7) pe_non (nomark _)) (pw_and1 (PW.pt (pw_or (pt_not (pt_val (pe_call (G__law_whole) (hr.mono (by decide)) rfl T._law_whole.m T._law_whole.F.kp T._law_whole.b .nil pass0 (pa_cons (pv 7) pa_nil)))) (pw_or1 (pt_cmpR op_NOTIN_l (pv 7) (pv 3) rfl)))))))
       (pss_one (ps_ret pe_bl))
       pss_nil))))))))))
   (pss_one (ps_ret (pe_cmpR op_eq (pe_fld (pv 0) rfl) (pe_fld (pv 1) rfl) (nomark _)))))))),?_⟩
  try dsimp only[cx_noxK,cx_K]
  refine seq_let4 ?_;intro u_4 u_3 u_2 u_1;refine⟨_,rfl,r1,a1.dx,_,rfl,h1.ins,lk_none _ _ _ (by decide +kernel),r1,S1,a1,rfl,h1,g1.wf,by omega,λl1 n1=>?_⟩;rw[show (List.range S1.made).filter (λc=>decide (S1.elders[c]?=some c))=stdg S1 from rfl];have s1:=Same.upd (o:=.lst (intV (nI (stdg S1)))) n1;have q1:upd H l1 (.lst (intV (nI (stdg S1)))) l1=some (.lst (intV (nI (stdg S1)))):=upd_same;generalize upd H l1 (.lst (intV (nI (stdg S1))))=H1 at s1 q1 ⊢;have h21:=h2.same s1
  have est:stdg S2=stdg S1:=by
   unfold stdg;rw[←em];refine List.filter_congr λc hc=>?_
   have hc:=List.mem_range.mp hc;rw[eld_at (S:=S2) (by rw[wf2.e,←em];exact hc),eld_at (S:=S1) (by rw[g1.wf.e];exact hc),hel c hc]
  have h0:(0:Int)∈nI (stdg S1):=List.mem_map.mpr ⟨0,(std_in g1.wf).mpr ⟨hm0,by have:=(g1.el 0 hm0).1;omega⟩,rfl⟩;refine⟨λ σ' H'=>σ'=[some (.ref r1),some (.ref r2),some (.int (L:Int)),some (.ref l1),none,none,none,none]/\Same H1 H',?_,?_⟩
  ·refine⟨_,rfl,_,_,_,_,rfl,.lst q1,kit_self K "list",true,rfl,iteF ?_⟩;refine⟨_,rfl,r2,a2.dx,_,rfl,h21.ins,lk_none _ _ _ (by decide +kernel),r2,S2,a2,rfl,h21,wf2,by omega,λl2 n2=>?_⟩;rw[show (List.range S2.made).filter (λc=>decide (S2.elders[c]?=some c))=stdg S2 from rfl];have s2:=Same.upd (o:=.lst (intV (nI (stdg S2)))) n2;have q2:upd H1 l2 (.lst (intV (nI (stdg S2)))) l2=some (.lst (intV (nI (stdg S2)))):=upd_same;generalize upd H1 l2 (.lst (intV (nI (stdg S2))))=H2 at s2 q2 ⊢;refine⟨_,rfl,l2,l1,_,_,rfl,rfl,q2,s2 _ _ q1,_,rfl,?_⟩;rw[est,decide_eq_true rfl];refine iteF ?_;refine⟨_,rfl,_,l1,_,rfl,rfl,s2 _ _ q1,_,rfl,?_⟩;rw[decide_eq_true h0];exact iteF ⟨rfl,s2⟩
  rintro σ2 H2 ⟨rfl,s2⟩;have s02:=s1.trans s2;replace h1:=h1.same s02;replace h2:=h2.same s02;replace q1:=s2 _ _ q1;have kk:∀H',Same H2 H'->Q (.bl true) H':=λH' s'=>k H' (s02.trans s')
  clear s1 s2 s02 h21 k n1;refine⟨_,rfl,r1,_,a1.dx,_,_,rfl,h1.ins,cl_Rooms T,T.n_made,lk_made _ _ _,(S1.made:Int),rfl,by omega,by omega,?_⟩;rw[Int.toNat_natCast];refine for_range (lo:=0) (n:=S1.made) (λi σ H3=>∃v4,σ=[some (.ref r1),some (.ref r2),some (.int (L:Int)),some (.ref l1),v4,none,none,none]/\H3=H2) ⟨none,rfl,rfl⟩ ?_ ?_
  ·rintro i σ H3 hi ⟨v4,rfl,rfl⟩;rw[Int.zero_add];have e1:=eld_at (S:=S1) (c:=i) (by rw[g1.wf.e];exact hi);have e2:=eld_at (S:=S2) (c:=i) (by rw[wf2.e,←em];exact hi);rw[←hel i hi]at e2;refine⟨λ σ' H'=>σ'=[some (.ref r1),some (.ref r2),some (.int (L:Int)),some (.ref l1),some (.int (i:Int)),none,none,none]/\H'=H3,?_,?_⟩
   ·refine⟨_,rfl,r1,a1.dx,_,rfl,h1.ins,lk_none _ _ _ (by decide +kernel),_,rfl,r1,S1,a1,i,_,rfl,h1,e1,_,rfl,true,rfl,iteF ?_⟩;refine⟨_,rfl,r1,a1.dx,_,rfl,h1.ins,lk_none _ _ _ (by decide +kernel),_,rfl,r1,S1,a1,i,_,rfl,h1,e1,_,rfl,r2,a2.dx,_,rfl,h2.ins,lk_none _ _ _ (by decide +kernel),_,rfl,r2,S2,a2,i,_,rfl,h2,e2,rfl,_,rfl,?_⟩;exact iteNV rfl ⟨rfl,rfl⟩
   rintro σ' H' ⟨rfl,rfl⟩;exact⟨_,rfl,rfl⟩
  rintro σ3 H3 ⟨v4,rfl,rfl⟩;refine⟨_,rfl,l1,rfl,⟨_,SqL.of q1⟩,?_⟩;refine for_list (K:=K) (a:=l1) (xs:=intV (nI (stdg S1))) (λi σ H4=>∃v4 v5 v6 v7,σ=[some (.ref r1),some (.ref r2),some (.int (L:Int)),some (.ref l1),v4,v5,v6,v7]/\Same H3 H4) ⟨_,none,none,none,rfl,λ_ _ e=>e⟩ (λi σ H4 _ ⟨_,_,_,_,_,s⟩=>SqL.of (s _ _ q1)) ?_ ?_
  ·rintro i v σ H4 hi ⟨v4',v5,v6,v7,rfl,s4⟩;obtain⟨z,rfl,hz⟩:=ints_of_at hi
   obtain⟨c,hc,rfl⟩:∃c,c∈stdg S1/\z=(c:Int):=by
    obtain⟨c,h1,h2⟩:=List.mem_map.mp (List.mem_of_getElem? hz);exact⟨c,h1,h2.symm⟩
   obtain⟨hcm,hcs⟩:=(std_in g1.wf).mp hc;refine⟨_,rfl,_,_,rfl,rfl,1,(L:Int)+ 1,rfl,⟨by decide,by decide,by omega,by omega⟩,?_⟩;refine for_range (lo:=1) (n:=((L:Int)+ 1 - 1).toNat) (λi σ H5=>∃v5 v6 v7,σ=[some (.ref r1),some (.ref r2),some (.int (L:Int)),some (.ref l1),some (.int (c:Int)),v5,v6,v7]/\Same H3 H5) ⟨_,_,_,rfl,s4⟩ ?_ ?_
   ·rintro j σ H5 hj ⟨v5',v6',v7',rfl,s5⟩;refine⟨_,rfl,_,rfl,_,rfl,(by show 2<=sizeLine;decide),λl3 n3=>?_⟩;have s6:=Same.upd (o:=.lst [.int (1+ (j:Int)),.int (-(1+ (j:Int)))]) n3;have q6:upd H5 l3 (.lst [.int (1+ (j:Int)),.int (-(1+ (j:Int)))]) l3=some (.lst (intV [1+ (j:Int),-(1+ (j:Int))])):=upd_same;generalize upd H5 l3 (.lst [.int (1+ (j:Int)),.int (-(1+ (j:Int)))])=H6 at s6 q6 ⊢;have s36:=s5.trans s6;refine⟨l3,rfl,⟨_,SqL.of q6⟩,?_⟩;refine for_list (K:=K) (a:=l3) (xs:=intV [1+ (j:Int),-(1+ (j:Int))]) (λi σ H7=>∃v6 v7,σ=[some (.ref r1),some (.ref r2),some (.int (L:Int)),some (.ref l1),some (.int (c:Int)),some (.int (1+ (j:Int))),v6,v7]/\H7=H6) ⟨_,_,rfl,rfl⟩ (λi σ H7 _ ⟨_,_,_,e⟩=>by rw[e];exact SqL.of q6) ?_ ?_
    ·rintro m v σ H7 hm' ⟨v6',v7',rfl,rfl⟩;obtain⟨s,rfl,hs⟩:=ints_of_at hm';have h16:=h1.same s36;have h26:=h2.same s36;refine⟨_,rfl,r1,a1.dx,_,rfl,h16.ins,lk_none _ _ _ (by decide +kernel),_,rfl,_,rfl,r1,S1,a1,c,s,rfl,h16,by rw[g1.wf.w];exact hcm,?_⟩;refine⟨_,rfl,_,rfl,r2,a2.dx,_,rfl,h26.ins,lk_none _ _ _ (by decide +kernel),_,rfl,_,rfl,r2,S2,a2,c,s,rfl,h26,by rw[wf2.w,←em];exact hcm,?_⟩;rw[←hby c s]
     cases eb:S1.by c s with
     |none=>
      refine⟨rfl,_,rfl,iteNV rfl ?_⟩;refine⟨λ σ' H'=>σ'=[some (.ref r1),some (.ref r2),some (.int (L:Int)),some (.ref l1),some (.int (c:Int)),some (.int (1+ (j:Int))),some (.int s),some .non]/\H'=H7,⟨_,rfl,rfl,_,rfl,rfl,rfl⟩,?_⟩;rintro σ' H' ⟨rfl,rfl⟩;exact⟨_,_,rfl,rfl⟩
     |some d=>
      obtain⟨_,hd1,_,hd2⟩:=g1.st _ _ _ eb;refine⟨rfl,_,rfl,iteNV rfl ?_⟩;refine⟨λ σ' H'=>σ'=[some (.ref r1),some (.ref r2),some (.int (L:Int)),some (.ref l1),some (.int (c:Int)),some (.int (1+ (j:Int))),some (.int s),some (.int (d:Int))]/\H'=H7,?_,?_⟩
      ·refine⟨_,rfl,rfl,_,rfl,iteT ?_⟩;refine⟨_,rfl,_,rfl,true,rfl,iteF ?_⟩;refine⟨_,rfl,_,rfl,_,l1,_,rfl,rfl,s36 _ _ q1,_,rfl,?_⟩;have hin:(d:Int)∈nI (stdg S1):=List.mem_map.mpr ⟨d,(std_in g1.wf).mpr ⟨hd1,hd2⟩,rfl⟩;rw[decide_eq_true hin];exact iteF ⟨rfl,rfl⟩
      rintro σ' H' ⟨rfl,rfl⟩;exact⟨_,_,rfl,rfl⟩
    ·rintro σ H7 ⟨v6',v7',rfl,rfl⟩;exact⟨_,_,_,rfl,s36⟩
   ·rintro σ H5 ⟨v5',v6',v7',rfl,s5⟩;exact⟨_,_,_,_,rfl,s5⟩
  rintro σ4 H4 ⟨v4',v5,v6,v7,rfl,s4⟩;refine⟨_,rfl,r1,_,a1.dx,_,_,rfl,(h1.same s4).ins,cl_Rooms T,T.n_made,lk_made _ _ _,_,rfl,r2,_,a2.dx,_,_,rfl,(h2.same s4).ins,cl_Rooms T,T.n_made,lk_made _ _ _,rfl,?_⟩;rw[em,decide_eq_true rfl];exact kk H4 s4
theorem new_obj {C:Addr}{H H1:Hp}{x dx:Addr}{S:RS}{a:RA}(nx:H x=none)(ndx:H dx=none)(ned:dx≠x)(k:∀b o,upd (upd H dx (.own x)) x (.ins C dx []) b=some o->b≠x->H1 b=some o)(ho:∀b,a.own x b->b=x\/upd (upd H dx (.own x)) x (.ins C dx []) b=none):Same H H1/\∀b,a.own x b->H b=none:=by
 have s0:Same H (upd (upd H dx (.own x)) x (.ins C dx [])):=(Same.upd ndx).trans (Same.upd (by rw[upd_ne ned.symm];exact nx));exact⟨λb o e=>k b o (s0 _ _ e) (ne_of_none e nx),λb z=>(ho b z).elim (λe=>by rw[e];exact nx) (same_none s0)⟩
structure Ob (C:Addr) (H:Hp) (r:Addr) (S:RS) (a:RA) (R:Nat->Int->Nat->Prop) (L n:Nat):Prop where
 at_:RoomsAt C H r S a
 g:Good S [] R
 k:∀a z b,R a z b->z∈stL (2* L)
 st:∀c,c<S.made->S.eld c=c
 w:S.went=[]
 l:S.L=L
 m0:0<S.made
 m:S.made<=n+ 1
 rw_:S.rows.length<=n
theorem Ob.same {C:Addr}{H H':Hp}{r:Addr}{S:RS}{a:RA}{R:Nat->Int->Nat->Prop}{L n:Nat}(h:Ob C H r S a R L n)(s:Same H H'):Ob C H' r S a R L n:=⟨h.at_.same s,h.g,h.k,h.st,h.w,h.l,h.m0,h.m,h.rw_⟩
theorem Ob.up {C:Addr}{H:Hp}{r:Addr}{S:RS}{a:RA}{R:Nat->Int->Nat->Prop}{L n:Nat}(h:Ob C H r S a R L n):Ob C H r S a R L (n+ 1):=⟨h.at_,h.g,h.k,h.st,h.w,h.l,h.m0,by have:=h.m;omega,by have:=h.rw_;omega⟩
theorem Ob.keep {C:Addr}{H H':Hp}{r:Addr}{S:RS}{a:RA}{R:Nat->Int->Nat->Prop}{L n:Nat}(h:Ob C H r S a R L n)(k:∀b o,a.own r b->H b=some o->H' b=some o)(kt:∀b xs,H b=some (.tup xs)->H' b=some (.tup xs)):Ob C H' r S a R L n:=⟨h.at_.keep k kt,h.g,h.k,h.st,h.w,h.l,h.m0,h.m,h.rw_⟩
theorem Ob.rm {C:Addr}{H:Hp}{r:Addr}{S:RS}{a:RA}{R:Nat->Int->Nat->Prop}{L n:Nat}(h:Ob C H r S a R L n)(hn:n<=100)(hL:L<=100):RmI C H r S a R (stL (2* L)) 1000:=by
 have:=stand_le S;have h1:=h.m;have h2:=h.rw_;refine⟨h.at_,h.g,⟨λc hc e=>absurd (h.st c hc) e,λc hc=>?_,λc hc=>?_⟩,h.k,by omega,by rw[stL_len];omega,by omega,by rw[h.w];show 0+ _<=_;omega⟩
 ·rw[h.w]at hc;cases hc
 ·rw[h.w]at hc;cases hc
theorem radd_ks {R:Nat->Int->Nat->Prop}{L c d:Nat}{z:Int}(k:∀a z b,R a z b->z∈stL (2* L))(h1:z≠0)(h2:z.natAbs<=L):∀a y b,RAdd R c z d a y b->y∈stL (2* L):=by
 rintro a y b (q|⟨_,e,_⟩|⟨_,e,_⟩)
 ·exact k _ _ _ q
 ·rw[e];exact stL_mem.mpr ⟨h1,h2⟩
 ·rw[e];exact stL_mem.mpr ⟨by omega,by rw[Int.natAbs_neg];exact h2⟩
theorem Ob.made {C:Addr}{H H':Hp}{r:Addr}{S:RS}{a a':RA}{R:Nat->Int->Nat->Prop}{L n c:Nat}{z:Int}(h:Ob C H r S a R L n)(hc:c<S.made)(hn:S.by c z=none)(h1:z≠0)(h2:z.natAbs<=L)(q:RoomsAt C H' r (S.make c z (stL (2* S.L))) a'):Ob C H' r (S.make c z (stL (2* S.L))) a' (RAdd R c z S.made) L (n+ 1):=by
 refine⟨q,h.g.make hc (h.st c hc) hn _,radd_ks h.k h1 h2,λb hb=>?_,h.w,h.l,Nat.succ_pos _,by have:=h.m;show S.made+ 1<=_;omega,?_⟩
 ·have e:(S.make c z (stL (2* S.L))).eld b=(S.grown c z (stL (2* S.L))).eld b:=rfl;rw[e,eld_grown h.g.wf];have hb:b<S.made+ 1:=hb;by_cases q:b=S.made
  ·rw[if_pos q,q]
  ·rw[if_neg q];exact h.st b (by omega)
 ·show (S.rows++[_]).length<=_;rw[List.length_append];have:=h.rw_;show _+ 1<=_;omega
theorem Ob.fits {C:Addr}{H:Hp}{r:Addr}{S:RS}{a:RA}{R:Nat->Int->Nat->Prop}{L n:Nat}(h:Ob C H r S a R L n)(hL:L<=100):∀l∈S.ways,l.length<=100000:=λl hl=>by
 obtain⟨c,hc⟩:=List.getElem?_of_mem hl;have:S.way c=l:=by unfold RS.way;rw[List.getD_eq_getElem?_getD,hc];rfl
 rw[←this];have:=h.g.wayLen h.k c;rw[stL_len]at this;omega
def said (n:Nat):Dt:=.t [.s [115,97,105,100],.i (n:Int)]
theorem Ob.layMid {C:Addr}{H:Hp}{r t:Addr}{S:RS}{a:RA}{R:Nat->Int->Nat->Prop}{L n c d:Nat}{z:Int}(h:Ob C H r S a R L n)(at':Nat)(nt:H t=none)(hn:n<=100)(hL:L<=100)(hc:c<S.made)(hd:d<S.made)(hb1:S.by c z=none)(hb2:S.by d (-z)=none)(h1:z≠0)(h2:z.natAbs<=L):
 ∃(row:Dt) (I:RS->List Way->Prop) (μ:RS->List Way->Nat),RoomsAt C (upd H t (.tup [.str (tx [115,97,105,100]),.int (at':Int)])) r S a/\S.rows.length<=1000000/\DtAt (upd H t (.tup [.str (tx [115,97,105,100]),.int (at':Int)])) 2 (.ref t) row/\NoL row/\I { S with rows:=S.rows++[row] } [(c,z,d)]/\(∀S pend w,I S (pend++[w])->TakeOk S/\w.1<S.made/\w.2.2<S.made/\pend.length<=1000000/\I (S.takeIn pend w).1 (S.takeIn pend w).2/\μ (S.takeIn pend w).1 (S.takeIn pend w).2 < μ S (pend++[w]))/\
  ∀S' a' H',RoomsAt C H' r S' a'->I S' []->Ob C H' r S' a' (RAdd R c z d) L (n+ 1)/\S'.made=S.made:=by
 have hm:=h.m;have hr:=h.rw_;have sl:=stand_le S
 have hmu:mu (stL (2* L)).length { S with rows:=S.rows++[said at'] } [(c,z,d)]<=1000000:=by
  unfold mu;have:S.stand* ((stL (2* L)).length+ 1)<=101* 201:=Nat.mul_le_mul (by omega) (by rw[stL_len];omega);show S.stand* ((stL (2* L)).length+ 1)+ 1<=_;omega
 refine⟨said at',LyI (RAdd R c z d) S.made S.L 1000 1000 1000000 (stL (2* L)) { S with rows:=S.rows++[said at'] } [(c,z,d)],mu (stL (2* L)).length,h.at_.same (Same.upd nt),by omega,.t upd_same rfl λj v x e1 e2=>?_,.t (by show 2<=100000;decide) λx hx=>?_,⟨h.g.lay z hc hd _,rfl,rfl,?_,?_,hmu,λ_ q=>q⟩,lyI_step (radd_ks h.k h1 h2) (by omega) (by rw[stL_len];omega) (by decide) (by decide) (by decide),λS' a' H' q i=>?_⟩
 ·match j,e1,e2 with
  |0,e1,e2=>cases e1;cases e2;exact .s
  |1,e1,e2=>cases e1;cases e2;exact .i
  |j+ 2,e1,e2=>simp at e1
 ·simp only[List.mem_cons,List.not_mem_nil,or_false]at hx;rcases hx with rfl|rfl
  ·exact .s
  ·exact .i
 ·show (S.rows++[_]).length+ S.stand<=_;rw[List.length_append];show _+ 1+ _<=_;omega
 ·show S.went.length+ S.stand<=_;rw[h.w];show 0+ _<=_;omega
 ·obtain⟨g',em,eL,_,_,_,re⟩:=i;have e:=lay_free (re S' (.nil S')) (h.st c hc) (h.st d hd) hb1 hb2;refine⟨⟨q,g',radd_ks h.k h1 h2,λb hb=>?_,?_,eL.trans h.l,by rw[em];exact h.m0,by rw[em];omega,?_⟩,em⟩
  ·rw[e];exact h.st b (by rw[←em];exact hb)
  ·rw[e];exact h.w
  ·rw[e];show (S.rows++[_]).length<=_;rw[List.length_append];show _+ 1<=_;omega
theorem same_by {S1 S2:RS}{R:Nat->Int->Nat->Prop}(g1:Good S1 [] R)(g2:Good S2 [] R)(em:S1.made=S2.made)(e1:∀c,c<S1.made->S1.eld c=c)(e2:∀c,c<S2.made->S2.eld c=c)(c:Nat)(z:Int):S1.by c z=S2.by c z:=by
 have half:∀{F G:RS},Good F [] R->Good G [] R->F.made=G.made->(∀c,c<F.made->F.eld c=c)->(∀c,c<G.made->G.eld c=c)->∀c z d,F.by c z=some d->G.by c z=some d:=λ{F G} gF gG e eF eG c z d q=>by
  obtain⟨c',d',r,q1,q2⟩:=gF.so _ _ _ q;obtain⟨l1,l2,_⟩:=gF.rl _ _ _ r;rw[eF _ l1]at q1;rw[eF _ l2]at q2;subst q1 q2;exact gG.by_iff.mpr ⟨c',d',r,eG _ (by omega),eG _ (by omega)⟩
 cases q1:S1.by c z with
 |some d=>exact(half g1 g2 em e1 e2 c z d q1).symm
 |none=>
  cases q2:S2.by c z with
  |none=>rfl
  |some d=>have:=half g2 g1 em.symm e2 e1 c z d q2;rw[q1]at this;cases this
theorem emodN (z:Int){n:Nat}(h:0<n):∃m:Nat,z % (n:Int)=(m:Int)/\m<n:=by
 have b1:=Int.emod_nonneg z (show (n:Int)≠0 by omega);have b2:=Int.emod_lt_of_pos z (show (0:Int)<(n:Int) by omega);exact⟨(z % (n:Int)).toNat,by omega,by omega⟩
theorem dt_ints {H:Hp}{t:Addr}{w:List Int}{k:Nat}(h:H t=some (.tup (intV w))):DtAt H (k+ 1) (.ref t) (.t (w.map Dt.i)):=by
 refine .t h (by rw[ints_len,List.length_map]) λj v d e1 e2=>?_
 obtain⟨z,rfl,hz⟩:=ints_of_at e1;rw[List.getElem?_map,hz]at e2;rw[←Option.some.inj e2];exact .i
theorem dt_words {H:Hp}{a:Addr}{ws:List (List Int)}(h:WordsAt H a ws):DtAt H 4 (.ref a) (.l (ws.map λw=>Dt.t (w.map Dt.i))):=by
 obtain⟨ps,h1,h2⟩:=h;refine .l h1 (by rw[List.length_map,List.length_map,h2.1]) λj v d e1 e2=>?_
 rw[List.getElem?_map]at e1 e2
 cases q1:ps[j]? with
 |none=>rw[q1]at e1;cases e1
 |some p=>
  cases q2:ws[j]? with
  |none=>rw[q2]at e2;cases e2
  |some w=>
   rw[q1]at e1;rw[q2]at e2;rw[←Option.some.inj e1,←Option.some.inj e2];exact dt_ints (h2.2 j p w q1 q2)
theorem dt_two {H:Hp}{l a b:Addr}{x y:Dt}(h:H l=some (.lst [.ref a,.ref b]))(h1:DtAt H 7 (.ref a) x)(h2:DtAt H 7 (.ref b) y):DtAt H 8 (.ref l) (.l [x,y]):=by
 refine .l h rfl λj v d e1 e2=>?_
 match j,e1,e2 with
 |0,e1,e2=>cases e1;cases e2;exact h1
 |1,e1,e2=>cases e1;cases e2;exact h2
 |j+ 2,e1,e2=>simp at e1
theorem words_of {H:Hp}{P:List Int->Prop}:∀{ps:List Addr},(∀(i:Nat) (p:Addr),ps[i]?=some p->∃w,H p=some (.tup (intV w))/\P w)->∃ws,TupsAt H ps ws/\∀w∈ws,P w
 |[],_=>⟨[],⟨rfl,(λi p w e=>by simp at e)⟩,(λw hw=>by cases hw)⟩
 |p::ps,h=>by
  obtain⟨ws,h1,h2⟩:=words_of (ps:=ps) λi q e=>h (i+ 1) q (by simpa using e)
  obtain⟨w,e1,e2⟩:=h 0 p rfl;refine⟨w::ws,⟨by rw[List.length_cons,List.length_cons,h1.1],λi q u e3 e4=>?_⟩,λu hu=>?_⟩
  ·cases i with
   |zero=>cases e3;cases e4;exact e1
   |succ i=>exact h1.2 i q u (by simpa using e3) (by simpa using e4)
  ·rcases List.mem_cons.mp hu with rfl|hu
   ·exact e2
   ·exact h2 u hu
theorem wd_cut {H H':Hp}{l b:Addr}{ws:List (List Int)}{ps:List Addr}{lo hi:Option Int}(hl:H l=some (.lst (ps.map V.ref)))(ht:TupsAt H ps ws)(nb:H b=none):∃ws',WordsAt (upd H b (.lst (cutV (ps.map V.ref) lo hi))) b ws'/\(∀w∈ws',w∈ws)/\ws'.length<=ws.length:=by
 obtain⟨k,n,e⟩:∃k n:Nat,cutV (ps.map V.ref) lo hi=((ps.drop k).take n).map V.ref:=⟨_,_,by unfold cutV;rw[List.map_take,List.map_drop]⟩;refine⟨(ws.drop k).take n,⟨(ps.drop k).take n,by rw[e,upd_same],by rw[List.length_take,List.length_take,List.length_drop,List.length_drop,ht.1],λi p w e1 e2=>?_⟩,λw hw=>List.mem_of_mem_drop (List.mem_of_mem_take hw),by rw[List.length_take,List.length_drop];omega⟩;rw[List.getElem?_take]at e1 e2;split at e1
 ·rename_i hi';rw[if_pos hi',List.getElem?_drop]at e2;rw[List.getElem?_drop]at e1;exact Same.upd nb _ _ (ht.2 _ p w e1 e2)
 ·cases e1
theorem wd_rev {H:Hp}{b:Addr}{ws:List (List Int)}{ps:List Addr}(ht:TupsAt H ps ws)(nb:H b=none):WordsAt (upd H b (.lst (ps.map V.ref).reverse)) b ws.reverse:=by
 refine⟨ps.reverse,by rw[upd_same,List.map_reverse],by rw[List.length_reverse,List.length_reverse,ht.1],λi p w e1 e2=>?_⟩;have hi:=(List.getElem?_eq_some_iff.mp e1).1;rw[List.length_reverse]at hi;rw[List.getElem?_reverse hi]at e1;rw[List.getElem?_reverse (by rw[←ht.1];exact hi),←ht.1]at e2;exact Same.upd nb _ _ (ht.2 _ p w e1 e2)
def okW (L:Nat)(w:List Int):Prop:=w.length<=6/\∀s∈w,s≠0/\s.natAbs<=L
theorem okW_ks {L:Nat}(hL:L<=100){w:List Int}(h:okW L w):w.length<=1000/\∀z∈w,(-1000<=z/\z<=1000)/\z∈stL (2* L)/\-z∈stL (2* L):=⟨by have:=h.1;omega,λz hz=>by
 obtain⟨a,b⟩:=h.2 z hz;exact⟨by omega,stL_mem.mpr ⟨a,b⟩,stL_mem.mpr ⟨by omega,by rw[Int.natAbs_neg];exact b⟩⟩⟩
theorem ok_law (T:Txt K mg A):FnOk P w K mg base CX0 10 A.f_law A.d_law ["_law_script"] (spLaw K):=by
 have G_Rooms___init__:FnOk P w K mg base CX0 3 A.f_Rooms___init__ A.d_Rooms___init__ ["self","letters"] (spNew A.c_Rooms):=ok_Rooms___init__ T;have G_close:FnOk P w K mg base CX0 9 A.f_close A.d_close ["rooms","rules","part"] (spClose A.c_Rooms A.c_Going A.c_Closing):=ok_close T;have G__law_word:FnOk P w K mg base CX0 2 A.f__law_word A.d__law_word ["_law_number","_law_letters"] spWord:=ok__law_word T;have G__law_step:FnOk P w K mg base CX0 1 A.f__law_step A.d__law_step ["_law_number","_law_letters"] spStep:=ok__law_step T;have G__law_alike:FnOk P w K mg base CX0 2 A.f__law_alike A.d__law_alike ["_law_one","_law_other","_law_letters"] (spAlike A.c_Rooms):=ok__law_alike T;have G__law_cell_at:FnOk P w K mg base CX0 1 A.f__law_cell_at A.d__law_cell_at ["_law_script","_law_k"] (spCell K):=ok__law_cell_at T;have G_Rooms_by:FnOk P w K mg base CX0 1 A.f_Rooms_by A.d_Rooms_by ["self","room","step"] (spRBy A.c_Rooms):=ok_Rooms_by T;have G_Closing_lay:FnOk P w K mg base CX0 6 A.f_Closing_lay A.d_Closing_lay ["self","going"] (spCLay A.c_Rooms A.c_Going A.c_Closing):=ok_Closing_lay T;have G_Rooms_lay:FnOk P w K mg base CX0 5 A.f_Rooms_lay A.d_Rooms_lay ["self","room","step","other","row"] (spLay A.c_Rooms):=ok_Rooms_lay T;have G_Rooms_make:FnOk P w K mg base CX0 3 A.f_Rooms_make A.d_Rooms_make ["self","room","step"] (spMake A.c_Rooms):=ok_Rooms_make T;refine T.law.F.ok sc_law (λvs H Q E h=>?_) (λcdv AA outer s H vs Q E hr h=>?_)
 ·obtain⟨a,ns,rfl,_⟩:=h;rfl
 ·obtain⟨a,ns,rfl,ha,hns,k⟩:=h;have hu8:=Nat.lt_of_le_of_lt (Nat.add_le_add_left (by decide:8<=64) _) hr.units
  refine⟨_,(pss_cons (ps_set (i:=1) sc_law.nd rfl (Or.inr rfl) (pe_op op_add pe_int (pe_op op_mod (pe_call (G__law_cell_at) (hr.mono (by decide)) rfl T._law_cell_at.m T._law_cell_at.F.kp T._law_cell_at.b .nil pass0 (pa_cons (pv 0) (pa_cons pe_int pa_nil))) pe_int)))
   (pss_cons (ps_set (i:=2) sc_law.nd rfl (Or.inl rfl) (pe_op op_mod (pe_op op_fdiv (pe_call (G__law_cell_at) (hr.mono (by decide)) rfl T._law_cell_at.m T._law_cell_at.F.kp T._law_cell_at.b .nil pass0 (pa_cons (pv 0) (pa_cons pe_int pa_nil))) pe_int) pe_int))
   (pss_cons (ps_setComp (iy:=3) sc_law.nd rfl (Or.inl rfl) (fns:=["_law_script","_law_letters"]) (ixs:=[0,1]) (cl:=_) rfl (pi_range1 rfl T.z_range (pa_cons (pv 2) pa_nil)) (compScope2 rfl rfl rfl (by decide +kernel) rfl (by decide +kernel) rfl (by decide +kernel) (by decide +kernel) rfl rfl rfl rfl rfl rfl rfl) (λC s H ex=>(pe_call (G__law_word) (hr.mono (by decide)) rfl T._law_word.m T._law_word.F.kp T._law_word.b .nil pass0 (pa_cons (pe_op op_mod (pe_op op_mul (pe_call (G__law_cell_at) (hr.mono (by decide)) rfl T._law_cell_at.m T._law_cell_at.F.kp T._law_cell_at.b .nil pass0 (pa_cons (pv 1) (pa_cons (pe_op op_add pe_int (pe_op op_mod (pv 0) pe_int)) pa_nil))) (pe_op op_add (pv 0) pe_int)) pe_int) (pa_cons (pv 2) pa_nil)))))
   (pss_cons (ps_setComp (iy:=4) sc_law.nd rfl (Or.inl rfl) (fns:=["_law_script","_law_letters"]) (ixs:=[0,1]) (cl:=_) rfl (pi_range1 rfl T.z_range (pa_cons (pe_op op_mod (pe_call (G__law_cell_at) (hr.mono (by decide)) rfl T._law_cell_at.m T._law_cell_at.F.kp T._law_cell_at.b .nil pass0 (pa_cons (pv 0) (pa_cons pe_int pa_nil))) pe_int) pa_nil)) (compScope2 rfl rfl rfl (by decide +kernel) rfl (by decide +kernel) rfl (by decide +kernel) (by decide +kernel) rfl rfl rfl rfl rfl rfl rfl) (λC s H ex=>(pe_call (G__law_word) (hr.mono (by decide)) rfl T._law_word.m T._law_word.F.kp T._law_word.b .nil pass0 (pa_cons (pe_op op_mod (pe_call (G__law_cell_at) (hr.mono (by decide)) rfl T._law_cell_at.m T._law_cell_at.F.kp T._law_cell_at.b .nil pass0 (pa_cons (pv 1) (pa_cons (pe_op op_sub pe_int (pv 0)) pa_nil))) pe_int) (pa_cons (pv 2) pa_nil)))))
   (pss_cons (ps_set (i:=5) sc_law.nd rfl (Or.inl rfl) (pe_make (mk_Rooms T) (G_Rooms___init__) (hr.mono (by decide)) rfl T.m_Rooms T.Rooms___init__.b .nil pass0 (pa_cons (pv 1) pa_nil)))
   (pss_cons (ps_set (i:=6) sc_law.nd rfl (Or.inl rfl) (pe_make (mk_Rooms T) (G_Rooms___init__) (hr.mono (by decide)) rfl T.m_Rooms T.Rooms___init__.b .nil pass0 (pa_cons (pv 1) pa_nil)))
   (pss_cons (ps_for PassesOwn.never rfl (pi_range1 rfl T.z_range (pa_cons pe_int pa_nil)) (pg_name (i:=7) sc_law.nd rfl (Or.inl rfl))
    (pss_cons (ps_set (i:=8) sc_law.nd rfl (Or.inl rfl) (pe_op op_mod (pe_op op_mul (pe_op op_add (pe_call (G__law_cell_at) (hr.mono (by decide)) rfl T._law_cell_at.m T._law_cell_at.F.kp T._law_cell_at.b .nil pass0 (pa_cons (pv 0) (pa_cons (pe_op op_add pe_int (pv 7)) pa_nil))) (pe_op op_mul (pv 7) (pv 7))) pe_int) pe_int))
    (pss_cons (ps_set (i:=9) sc_law.nd rfl (Or.inl rfl) (pe_op op_mod (pv 8) (pe_fld (pv 5) rfl)))
    (pss_cons (ps_set (i:=10) sc_law.nd rfl (Or.inl rfl) (pe_call (G__law_step) (hr.mono (by decide)) rfl T._law_step.m T._law_step.F.kp T._law_step.b .nil pass0 (pa_cons (pe_op op_fdiv (pv 8) pe_int) (pa_cons (pv 1) pa_nil))))
    (pss_cons (ps_if (pt_cmpR op_notN (pe_meth (pv 5) (cl_Rooms T) T.Rooms_by.m (G_Rooms_by) (hr.mono (by decide)) T.Rooms_by.b .nil pass0 (pa_cons (pv 9) (pa_cons (pv 10) pa_nil))) pe_non (nomark _))
     (pss_one ps_continue)
     pss_nil)
    (pss_cons (ps_set (i:=11) sc_law.nd rfl (Or.inl rfl) (pe_op op_mod (pe_op op_mod (pe_op op_mul (pv 8) pe_int) pe_int) (pe_fld (pv 5) rfl)))
    (pss_one (ps_cut (ps_if (pt_cut (PW.pt (pw_and (pt_cmpR op_eq (pe_op op_mod (pv 7) pe_int) pe_int (nomark _)) (pw_and1 (pt_cmpR op_isN (pe_meth (pv 5) (cl_Rooms T) T.Rooms_by.m (G_Rooms_by) (hr.mono (by decide)) T.Rooms_by.b .nil pass0 (pa_cons (pv 11) (pa_cons (pe_un un_neg (pv 10)) pa_nil))) pe_non (nomark _))))))
     (pss_cons (ps_expr (pe_meth (pv 5) (cl_Rooms T) T.Rooms_lay.m (G_Rooms_lay) (hr.mono (by decide)) T.Rooms_lay.b .nil pass0 (pa_cons (pv 9) (pa_cons (pv 10) (pa_cons (pv 11) (pa_cons (pe_tup (pa_cons (pe_strX (l:=[115,97,105,100]) rfl) (pa_cons (pv 7) pa_nil))) pa_nil))))))
     (pss_one (ps_expr (pe_meth (pv 6) (cl_Rooms T) T.Rooms_lay.m (G_Rooms_lay) (hr.mono (by decide)) T.Rooms_lay.b .nil pass0 (pa_cons (pv 9) (pa_cons (pv 10) (pa_cons (pv 11) (pa_cons (pe_tup (pa_cons (pe_strX (l:=[115,97,105,100]) rfl) (pa_cons (pv 7) pa_nil))) pa_nil))))))))
     (pss_cons (ps_expr (pe_meth (pv 5) (cl_Rooms T) T.Rooms_make.m (G_Rooms_make) (hr.mono (by decide)) T.Rooms_make.b .nil pass0 (pa_cons (pv 9) (pa_cons (pv 10) pa_nil))))
     (pss_one (ps_expr (pe_meth (pv 6) (cl_Rooms T) T.Rooms_make.m (G_Rooms_make) (hr.mono (by decide)) T.Rooms_make.b .nil pass0 (pa_cons (pv 9) (pa_cons (pv 10) pa_nil)))))))))))))))
   (pss_cons (ps_set (i:=12) sc_law.nd rfl (Or.inl rfl) (pe_lst (pa_cons (pe_callTy call_list_of rfl T.z_list PyProof.Rows.boot_list (pa_cons (pv 3) pa_nil)) (pa_cons (pe_callTy call_list_of rfl T.z_list PyProof.Rows.boot_list (pa_cons (pv 4) pa_nil)) pa_nil))))
   (pss_cons (ps_expr (pe_call (G_close) (hr.mono (by decide)) rfl T.close.m T.close.F.kp T.close.b .nil pass0 (pa_cons (pv 5) (pa_cons (pe_ix ix_list (pv 12) pe_int (λ_ _=>rfl)) (pa_cons (pe_ix ix_list (pv 12) pe_int (λ_ _=>rfl)) pa_nil)))))
   (pss_cons (ps_cut (ps_if (pt_cmpR op_eq (pe_op op_mod (pe_op op_fdiv (pe_call (G__law_cell_at) (hr.mono (by decide)) rfl T._law_cell_at.m T._law_cell_at.F.kp T._law_cell_at.b .nil pass0 (pa_cons (pv 0) (pa_cons pe_int pa_nil))) pe_int) pe_int) pe_int (nomark _))
    (pss_one (ps_expr (pe_call (G_close) (hr.mono (by decide)) rfl T.close.m T.close.F.kp T.close.b .nil pass0 (pa_cons (pv 6) (pa_cons (pe_slice sl_list (pv 3) (po_some (pe_op op_fdiv (pv 2) pe_int)) po_none) (pa_cons (pe_slice sl_list (pv 4) po_none (po_some pe_int)) pa_nil))))))
    pss_nil))
   (pss_cons (ps_expr (pe_call (G_close) (hr.mono (by decide)) rfl T.close.m T.close.F.kp T.close.b .nil pass0 (pa_cons (pv 6) (pa_cons (pe_slice3 sl_revL (pv 3) po_none po_none (po_some (pe_un un_neg pe_int))) (pa_cons (pe_slice3 sl_revL (pv 4) po_none po_none (po_some (pe_un un_neg pe_int))) pa_nil)))))
   (pss_one (ps_ret (pe_and (pe_call (G__law_alike) (hr.mono (by decide)) rfl T._law_alike.m T._law_alike.F.kp T._law_alike.b .nil pass0 (pa_cons (pv 5) (pa_cons (pv 6) (pa_cons (pv 1) pa_nil)))) (pe_one (pe_cmpR (op_eqDt hu8) (pv 12) (pe_lst (pa_cons (pv 3) (pa_cons (pv 4) pa_nil))) (nomark _))))))))))))))))),?_⟩
  try dsimp only[cx_noxK,cx_K]
  refine seq_let11 ?_;intro u_11 u_10 u_9 u_8 u_7 u_6 u_5 u_4 u_3 u_2 u_1;have ha:SqL K H a (intV ns):=ha;refine⟨_,rfl,a,ns,0,rfl,ha,by decide,λy=>⟨_,_,rfl,rfl,(by show (0:Int)<3;decide),_,_,rfl,rfl,?_⟩⟩;have y1:=Int.emod_nonneg y (show (3:Int)≠0 by decide);have y2:=Int.emod_lt_of_pos y (show (0:Int)<3 by decide);obtain⟨L,eL⟩:∃L:Nat,1+ y % 3=(L:Int):=⟨(1+ y % 3).toNat,by omega⟩;have hL1:1<=L:=by omega
  have hL3:L<=3:=by omega
  rw[show (λ(i j:Int)=>V.int (i+ j)) 1 (y % 3)=V.int (L:Int) from congrArg V.int eL];clear eL y1 y2;refine⟨_,rfl,a,ns,0,rfl,ha,by decide,λy3=>⟨_,_,rfl,rfl,⟨by decide,by decide⟩,_,_,rfl,rfl,(by show (0:Int)<5;decide),?_⟩⟩;obtain⟨mn,emn,hmn⟩:=emodN (y3 / 3) (n:=5) (by decide);rw[show (λ(i j:Int)=>V.int (i % j)) (y3 / 3) 5=V.int (mn:Int) from congrArg V.int emn];clear emn;refine⟨_,rfl,(mn:Int),rfl,by omega,by omega,?_⟩;rw[Int.toNat_natCast];refine comp_make (α:=Unit) mn (λi=>.int (0+ (i:Int))) (λH2 v i=>∃p,v=.ref p/\∃w,H2 p=some (.tup (intV w))/\okW L w) (λH1 H2 v i s ⟨p,e,w,q,o⟩=>⟨p,e,w,s _ _ q,o⟩) (Nat.le_trans (show mn<=1000 by omega) (by decide)) (λi H2 s2 hi=>hi) (λi x H2 H3 s2 hi y=>y) (λH2 s2=>Nat.le_refl _) (λi H2 Rr hi s2 kk=>?_) (λaR H1 ys s1 nR hyl hr=>?_)
  ·refine⟨_,rfl,_,rfl,_,_,rfl,rfl,(by show (0:Int)<5;decide),_,_,rfl,rfl,a,ns,1+ i % 5,?_,s2.seq ha,by omega,λy4=>?_⟩
   ·show [V.ref a,V.int (1+ (0+ (i:Int)) % 5)]=[V.ref a,V.int ((1+ i % 5:Nat):Int)];rw[show 1+ (0+ (i:Int)) % 5=((1+ i % 5:Nat):Int) by omega]
   exact⟨_,rfl,_,_,rfl,rfl,_,_,rfl,rfl,.inr ⟨by omega,by omega⟩,_,_,rfl,rfl,(by show (0:Int)<2147483629;decide),_,rfl,_,L,rfl,hL1,by omega,λl w H3 s3 h3 hl hw=>kk _ _ s3 ⟨l,rfl,w,h3,hl,hw⟩⟩
  obtain⟨pR,rfl,hqs⟩:=refs_of (P:=λ_ p=>∃w,H1 p=some (.tup (intV w))/\okW L w) ys 0 (λi v hv=>hr i v hv);obtain⟨rs,tR,oR⟩:=words_of λi p e=>hqs i p e
  have lR:rs.length<=5:=by rw[←tR.1];rw[List.length_map]at hyl;omega
  clear hqs hr hyl;have s2:=Same.upd (o:=.lst (pR.map V.ref)) nR;have hR:upd H1 aR (.lst (pR.map V.ref)) aR=some (.lst (pR.map V.ref)):=upd_same;replace tR:=tR.same s2;generalize upd H1 aR (.lst (pR.map V.ref))=H2 at s2 hR tR ⊢;have s02:=s1.trans s2;refine⟨_,rfl,a,ns,1,rfl,s02.seq ha,by decide,λy5=>⟨_,_,rfl,rfl,(by show (0:Int)<3;decide),?_⟩⟩;obtain⟨pn,epn,hpn⟩:=emodN y5 (n:=3) (by decide);refine⟨(pn:Int),congrArg (λq=>[V.int q]) epn,by omega,by omega,?_⟩;rw[Int.toNat_natCast];refine comp_make (α:=Unit) pn (λi=>.int (0+ (i:Int))) (λH2 v i=>∃p,v=.ref p/\∃w,H2 p=some (.tup (intV w))/\okW L w) (λH1 H2 v i s ⟨p,e,w,q,o⟩=>⟨p,e,w,s _ _ q,o⟩) (Nat.le_trans (show pn<=1000 by omega) (by decide)) (λi H2 s2 hi=>hi) (λi x H2 H3 s2 hi y=>y) (λH2 s2=>Nat.le_refl _) (λi H3 Rr hi s3 kk=>?_) (λaP H3 ys s3 nP hyl hr=>?_)
  ·refine⟨_,rfl,_,rfl,_,_,rfl,rfl,a,ns,5 - i,?_,(s02.trans s3).seq ha,by omega,λy4=>?_⟩
   ·show [V.ref a,V.int (5 - (0+ (i:Int)))]=[V.ref a,V.int ((5 - i:Nat):Int)];rw[show 5 - (0+ (i:Int))=((5 - i:Nat):Int) by omega]
   exact⟨_,_,rfl,rfl,(by show (0:Int)<1000003;decide),_,rfl,_,L,rfl,hL1,by omega,λl w H4 s4 h4 hl hw=>kk _ _ s4 ⟨l,rfl,w,h4,hl,hw⟩⟩
  obtain⟨pP,rfl,hqs⟩:=refs_of (P:=λ_ p=>∃w,H3 p=some (.tup (intV w))/\okW L w) ys 0 (λi v hv=>hr i v hv);obtain⟨ps,tP,oP⟩:=words_of λi p e=>hqs i p e
  have lP:ps.length<=3:=by rw[←tP.1];rw[List.length_map]at hyl;omega
  clear hqs hr hyl epn;have s4:=Same.upd (o:=.lst (pP.map V.ref)) nP;have hP:upd H3 aP (.lst (pP.map V.ref)) aP=some (.lst (pP.map V.ref)):=upd_same;replace tP:=tP.same s4;have s34:=s3.trans s4;replace tR:=tR.same s34;replace hR:=s34 _ _ hR;have s04:=s02.trans s34;generalize upd H3 aP (.lst (pP.map V.ref))=H4 at s4 hP tP tR hR s04 s34 ⊢;replace ha:=s04.seq ha;clear s1 s2 s02 s3 s4 s34 s04 nR nP;refine⟨_,rfl,λr1 dx1 nx1 ndx1 ned1=>⟨r1,dx1,L,rfl,upd_same,hL1,by omega,λa1 H5 k5 h5 ho5=>⟨rfl,?_⟩⟩⟩;obtain⟨s5,own1⟩:=new_obj (C:=A.c_Rooms) (S:=RS.new L (stL (2* L))) nx1 ndx1 ned1 k5 ho5;clear k5 ho5;refine⟨_,rfl,λr2 dx2 nx2 ndx2 ned2=>⟨r2,dx2,L,rfl,upd_same,hL1,by omega,λa2 H6 k6 h6 ho6=>⟨rfl,?_⟩⟩⟩;obtain⟨s6,own2⟩:=new_obj (C:=A.c_Rooms) (S:=RS.new L (stL (2* L))) nx2 ndx2 ned2 k6 ho6;clear k6 ho6
  have o1:Ob A.c_Rooms H6 r1 (RS.new L (stL (2* L))) a1 (λ_ _ _=>False) L 0:=⟨h5.same s6,good_new L _,(λ_ _ _ z=>z.elim),(λc hc=>by have:c=0:=by have:c<1:=hc;omega
                                                                                                                                    rw[this];rfl),rfl,rfl,by show 0<1;decide,Nat.le_refl _,Nat.le_refl _⟩
  have o2:Ob A.c_Rooms H6 r2 (RS.new L (stL (2* L))) a2 (λ_ _ _=>False) L 0:=⟨h6,o1.g,o1.k,o1.st,rfl,rfl,o1.m0,Nat.le_refl _,Nat.le_refl _⟩
  have dj0:∀b,a1.own r1 b->¬a2.own r2 b:=λb z y=>by
   obtain⟨o,e⟩:=h5.there z;rw[own2 b y]at e;cases e
  have own2':∀b,a2.own r2 b->H4 b=none:=λb z=>same_none s5 (own2 b z)
  have s46:=s5.trans s6;clear h5 h6 s5 s6 own2 nx1 ndx1 ned1 nx2 ndx2 ned2;refine⟨14,rfl,by decide,by decide,?_⟩
  refine for_range (lo:=0) (n:=14) (λi σ H'=>∃S1 S2 a1' a2' R v7 v8 v9 v10 v11,σ=[some (.ref a),some (.int (L:Int)),some (.int (mn:Int)),some (.ref aR),some (.ref aP),some (.ref r1),some (.ref r2),v7,v8,v9,v10,v11,none]/\Same H4 H'/\Ob A.c_Rooms H' r1 S1 a1' R L i/\Ob A.c_Rooms H' r2 S2 a2' R L i/\S1.made=S2.made/\(∀b,a1'.own r1 b->¬a2'.own r2 b)/\(∀b,a1'.own r1 b->H4 b=none)/\∀b,a2'.own r2 b->H4 b=none)
   ⟨_,_,a1,a2,_,none,none,none,none,none,rfl,s46,o1,o2,rfl,dj0,own1,own2'⟩ ?_ ?_
  ·clear o1 o2 dj0 own1 own2' s46 a1 a2 H6 H5;rintro i σ H5 hi ⟨S1,S2,a1,a2,R,v7,v8,v9,v10,v11,rfl,s5,o1,o2,em,dj,w1,w2⟩;rw[Int.zero_add];refine⟨_,rfl,_,rfl,_,_,rfl,rfl,a,ns,6+ i,congrArg (λq=>[V.ref a,V.int q]) (show (6:Int)+ (i:Int)=((6+ i:Nat):Int) by omega),s5.seq ha,by omega,λy6=>?_⟩;refine⟨_,rfl,_,rfl,_,_,rfl,rfl,.inl ⟨by omega,by omega⟩,_,_,rfl,rfl,_,_,rfl,rfl,.inr ⟨by decide,by decide⟩,_,_,rfl,rfl,(by show (0:Int)<2147483629;decide),?_⟩;generalize hnum:(y6+ (i:Int)* (i:Int))* 69621 % 2147483629=num;rw[show (λ(i j:Int)=>V.int (i % j)) ((y6+ (i:Int)* (i:Int))* 69621) 2147483629=V.int num from congrArg V.int hnum];clear hnum;obtain⟨c,ec,hc⟩:=emodN num (n:=S1.made) o1.m0;have ins1:=o1.at_.ins;refine⟨_,rfl,_,rfl,r1,_,a1.dx,_,_,rfl,ins1,cl_Rooms T,T.n_made,lk_made _ _ _,_,_,rfl,rfl,(by have:=o1.m0;show (0:Int)<(S1.made:Int);omega),?_⟩;rw[show (λ(i j:Int)=>V.int (i % j)) num (S1.made:Int)=V.int (c:Int) from congrArg V.int ec];refine⟨_,rfl,_,_,rfl,rfl,⟨by decide,by decide⟩,_,rfl,_,L,rfl,hL1,by omega,λz hz1 hz2=>?_⟩;have gw1:=o1.g.wf.w;refine⟨_,rfl,r1,a1.dx,_,rfl,ins1,lk_none _ _ _ (by decide +kernel),_,rfl,_,rfl,r1,S1,a1,c,z,rfl,o1.at_,by rw[gw1];exact hc,?_⟩;have sb:=λc z=>same_by o1.g o2.g em o1.st o2.st c z
   cases eb:S1.by c z with
   |some e=>
    rw[show (Option.map (λn:Nat=>V.int (n:Int)) (some e)).getD V.non=V.int (e:Int) from rfl];refine⟨rfl,_,rfl,?_⟩;exact ite2 (λ_=>⟨S1,S2,a1,a2,R,_,_,_,_,_,rfl,s5,o1.up,o2.up,em,dj,w1,w2⟩) (λz=>absurd rfl z)
   |none=>
    refine⟨rfl,_,rfl,?_⟩;refine ite2 (λz=>absurd z (by decide)) (λ_=>?_);obtain⟨d,ed,hd⟩:=emodN (num* 40692 % 2147483399) (n:=S1.made) o1.m0;refine⟨_,rfl,_,_,rfl,rfl,.inr ⟨by decide,by decide⟩,_,_,rfl,rfl,(by show (0:Int)<2147483399;decide),_,rfl,r1,_,a1.dx,_,_,rfl,ins1,cl_Rooms T,T.n_made,lk_made _ _ _,_,_,rfl,rfl,(by have:=o1.m0;show (0:Int)<(S1.made:Int);omega),?_⟩;rw[show (λ(i j:Int)=>V.int (i % j)) (num* 40692 % 2147483399) (S1.made:Int)=V.int (d:Int) from congrArg V.int ed];refine⟨_,?_,λ_ _ z=>z⟩;refine⟨λb H'=>H'=H5/\(b=true->S1.by d (-z)=none),?_,?_⟩
    ·refine⟨_,rfl,_,_,rfl,rfl,(by show (0:Int)<4;decide),rfl,_,rfl,?_⟩;refine ite2 (λ_=>?_) (λ_=>⟨rfl,(λz=>by cases z)⟩);refine⟨_,rfl,r1,a1.dx,_,rfl,ins1,lk_none _ _ _ (by decide +kernel),_,rfl,_,rfl,_,rfl,r1,S1,a1,d,-z,rfl,o1.at_,by rw[gw1];exact hd,?_⟩
     cases eb2:S1.by d (-z) with
     |none=>exact⟨rfl,_,rfl,rfl,λ_=>rfl⟩
     |some e=>
      rw[show (Option.map (λn:Nat=>V.int (n:Int)) (some e)).getD V.non=V.int (e:Int) from rfl];exact⟨rfl,_,rfl,rfl,(λz=>by cases z)⟩
    rintro b H' ⟨rfl,hb⟩;have tk1:∀{H'':Hp} {b:Addr} {xs:List V},ButO a1 r1 H' H''->H' b=some (.tup xs)->H'' b=some (.tup xs):=λ{H'' b xs} bt e=>bt b _ (o1.at_.notup e) e
    cases b with
    |true=>
     have hb:=hb rfl;refine⟨_,rfl,r1,a1.dx,_,rfl,ins1,lk_none _ _ _ (by decide +kernel),_,rfl,_,rfl,_,rfl,_,rfl,(by show 2<=sizeLine;decide),λt nt=>?_⟩;obtain⟨row,I,μ,p1,p2,p3,p4,p5,p6,p7⟩:=o1.layMid (c:=c) (d:=d) (z:=z) i nt (by omega) (by omega) hc hd eb hb hz1 hz2;have st1:=Same.upd (o:=.tup [.str (tx [115,97,105,100]),.int (i:Int)]) nt;refine⟨r1,t,S1,a1,c,d,z,row,I,μ,rfl,p1,p2,p3,p4,p5,p6,λS1' a1' H7 b7 h7 i7 ow7=>?_⟩;obtain⟨o1',em1⟩:=p7 S1' a1' H7 h7 i7;have f7:∀b o,¬a1.own r1 b->H' b=some o->H7 b=some o:=λb o n e=>b7 b o n (st1 _ _ e)
     have ow17:∀b,a1'.own r1 b->a1.own r1 b\/H' b=none:=λb z=>(ow7 b z).imp id (same_none st1)
     have o27:Ob A.c_Rooms H7 r2 S2 a2 R L i:=o2.keep (λb o hb e=>f7 b o (λz=>dj b z hb) e) (λb xs e=>f7 b _ (o1.at_.notup e) e);refine⟨_,rfl,r2,a2.dx,_,rfl,o27.at_.ins,lk_none _ _ _ (by decide +kernel),_,rfl,_,rfl,_,rfl,_,rfl,(by show 2<=sizeLine;decide),λt2 nt2=>?_⟩;obtain⟨row',I',μ',q1,q2,q3,q4,q5,q6,q7⟩:=o27.layMid (c:=c) (d:=d) (z:=z) i nt2 (by omega) (by omega) (by omega) (by omega) (by rw[←sb];exact eb) (by rw[←sb];exact hb) hz1 hz2;have st2:=Same.upd (o:=.tup [.str (tx [115,97,105,100]),.int (i:Int)]) nt2;refine⟨r2,t2,S2,a2,c,d,z,row',I',μ',rfl,q1,q2,q3,q4,q5,q6,λS2' a2' H8 b8 h8 i8 ow8=>?_⟩;obtain⟨o2',em2⟩:=q7 S2' a2' H8 h8 i8;have f8:∀b o,¬a2.own r2 b->H7 b=some o->H8 b=some o:=λb o n e=>b8 b o n (st2 _ _ e)
     have ow28:∀b,a2'.own r2 b->a2.own r2 b\/H7 b=none:=λb z=>(ow8 b z).imp id (same_none st2)
     have nown:∀b,a1'.own r1 b->¬a2.own r2 b:=λb z y=>by
      rcases ow17 b z with w|w
      ·exact dj b w y
      ·obtain⟨o,e⟩:=o2.at_.there y;rw[w]at e;cases e
     have th7:∀b,H7 b=none->¬a1'.own r1 b:=λb z y=>by obtain⟨o,e⟩:=o1'.at_.there y;rw[z]at e;cases e
     refine⟨S1',S2',a1',a2',_,_,_,_,_,_,rfl,λb o e=>?_,o1'.keep (λb o hb e=>f8 b o (nown b hb) e) (λb xs e=>f8 b _ (o27.at_.notup e) e),o2',by rw[em1,em2,em],λb z y=>?_,λb z=>?_,λb z=>?_⟩
     ·exact f8 b o (λz=>by rw[w2 b z]at e;cases e) (f7 b o (λz=>by rw[w1 b z]at e;cases e) (s5 _ _ e))
     ·rcases ow28 b y with w|w
      ·exact nown b z w
      ·exact th7 b w z
     ·rcases ow17 b z with w|w
      ·exact w1 b w
      ·exact same_none s5 w
     ·rcases ow28 b z with w|w
      ·exact w2 b w
      ·cases e:H4 b with
       |none=>rfl
       |some o=>rw[f7 b o (λz=>by rw[w1 b z]at e;cases e) (s5 _ _ e)]at w;cases w
    |false=>
     have hL:=o1.l;have hm1:=o1.m;have hr1:=o1.rw_;refine⟨_,rfl,r1,a1.dx,_,rfl,ins1,lk_none _ _ _ (by decide +kernel),_,rfl,_,rfl,r1,S1,a1,c,z,rfl,o1.at_,o1.g.wf,by omega,by omega,hc,by omega,by omega,o1.fits (by omega),λa1' H7 f7 h7 ow17=>?_⟩;have o1':=o1.made hc eb hz1 hz2 h7;have o27:Ob A.c_Rooms H7 r2 S2 a2 R L i:=o2.keep (λb o hb e=>f7 b o (λz=>dj b z hb) e) (λb xs e=>f7 b _ (o1.at_.notup e) e);have hL2:=o27.l;have hm2:=o27.m;have hr2:=o27.rw_;refine⟨_,rfl,r2,a2.dx,_,rfl,o27.at_.ins,lk_none _ _ _ (by decide +kernel),_,rfl,_,rfl,r2,S2,a2,c,z,rfl,o27.at_,o27.g.wf,by omega,by omega,by omega,by omega,by omega,o27.fits (by omega),λa2' H8 f8 h8 ow28=>?_⟩;have o2':=o27.made (by omega) (by rw[←sb];exact eb) hz1 hz2 h8;rw[←em]at o2'
     have nown:∀b,a1'.own r1 b->¬a2.own r2 b:=λb z y=>by
      rcases ow17 b z with w|w
      ·exact dj b w y
      ·obtain⟨o,e⟩:=o2.at_.there y;rw[w]at e;cases e
     have th7:∀b,H7 b=none->¬a1'.own r1 b:=λb z y=>by obtain⟨o,e⟩:=o1'.at_.there y;rw[z]at e;cases e
     refine⟨_,_,a1',a2',_,_,_,_,_,_,rfl,λb o e=>?_,o1'.keep (λb o hb e=>f8 b o (nown b hb) e) (λb xs e=>f8 b _ (o27.at_.notup e) e),o2',by show S1.made+ 1=S2.made+ 1;rw[em],λb z y=>?_,λb z=>?_,λb z=>?_⟩
     ·exact f8 b o (λz=>by rw[w2 b z]at e;cases e) (f7 b o (λz=>by rw[w1 b z]at e;cases e) (s5 _ _ e))
     ·rcases ow28 b y with w|w
      ·exact nown b z w
      ·exact th7 b w z
     ·rcases ow17 b z with w|w
      ·exact w1 b w
      ·exact same_none s5 w
     ·rcases ow28 b z with w|w
      ·exact w2 b w
      ·cases e:H4 b with
       |none=>rfl
       |some o=>rw[f7 b o (λz=>by rw[w1 b z]at e;cases e) (s5 _ _ e)]at w;cases w
  clear o1 o2 dj0 own1 own2' s46 a1 a2 H6 H5;rintro σ H5 ⟨S1,S2,a1,a2,R,v7,v8,v9,v10,v11,rfl,s5,o1,o2,em,dj,w1,w2⟩;have r1m:=o1.rm (by omega) (by omega);have r2m:=o2.rm (by omega) (by omega);have hm15:=o1.m;have m0:=o1.m0;have tR5:=tR.same s5;have tP5:=tP.same s5;refine⟨_,rfl,aR,_,rfl,.inl (SqL.of (s5 _ _ hR)),λb1 n1=>?_⟩;have t1:=Same.upd (o:=.lst (pR.map V.ref)) n1;have e1:upd H5 b1 (.lst (pR.map V.ref)) b1=some (.lst (pR.map V.ref)):=upd_same;generalize upd H5 b1 (.lst (pR.map V.ref))=H6 at t1 e1 ⊢;refine⟨_,rfl,aP,_,rfl,.inl (SqL.of (t1 _ _ (s5 _ _ hP))),λb2 n2=>?_⟩;have t2:=Same.upd (o:=.lst (pP.map V.ref)) n2;have e2:upd H6 b2 (.lst (pP.map V.ref)) b2=some (.lst (pP.map V.ref)):=upd_same;generalize upd H6 b2 (.lst (pP.map V.ref))=H7 at t2 e2 ⊢;refine⟨(by show 2<=sizeLine;decide),λhd n3=>?_⟩;have t3:=Same.upd (o:=.lst [.ref b1,.ref b2]) n3;have e3:upd H7 hd (.lst [.ref b1,.ref b2]) hd=some (.lst [.ref b1,.ref b2]):=upd_same;generalize upd H7 hd (.lst [.ref b1,.ref b2])=H8 at t3 e3 ⊢;have t58:=(t1.trans t2).trans t3;have s48:=s5.trans t58;have out:∀{b o},H4 b=some o->¬a1.own r1 b/\¬a2.own r2 b:=λ{b o} e=>⟨(λz=>by rw[w1 b z]at e;cases e),(λz=>by rw[w2 b z]at e;cases e)⟩
  have nw:∀{b},H5 b=none->¬a1.own r1 b/\¬a2.own r2 b:=λ{b} e=>⟨o1.at_.mkL e,o2.at_.mkL e⟩
  have x1:=nw n1;have x2:=nw (same_none t1 n2);have x3:=nw (same_none (t1.trans t2) n3);have q1:=(t2.trans t3) _ _ e1;have q2:=t3 _ _ e2;replace r1m:=r1m.same t58;replace r2m:=r2m.same t58;have tR8:=tR.same s48;have tP8:=tP.same s48;have W1:WordsAt H8 b1 rs:=⟨pR,q1,tR8⟩;have W2:WordsAt H8 b2 ps:=⟨pP,q2,tP8⟩;have hok:∀u∈rs++ps,okW L u:=λu hu=>(List.mem_append.mp hu).elim (oR u) (oP u)
  have hks:∀u∈rs++ps,u.length<=1000/\∀z∈u,(-1000<=z/\z<=1000)/\z∈stL (2* L)/\-z∈stL (2* L):=λu hu=>okW_ks (by omega) (hok u hu)
  have hG:∀{m:Nat} {xs ys:List (List Int)},m=S1.made->xs.length<=rs.length->ys.length<=ps.length->m* xs.length+ ys.length<=700:=λ{m xs ys} e h1 h2=>by
   have:m* xs.length<=15* 5:=Nat.mul_le_mul (by omega) (by omega);omega
  refine⟨_,rfl,_,rfl,hd,_,_,_,rfl,rfl,SqL.of e3,rfl,_,rfl,hd,_,_,_,rfl,rfl,SqL.of e3,rfl,r1,b1,b2,S1,a1,R,stL (2* L),1000,rs,ps,rfl,r1m,m0,by decide,W1,W2,by omega,by omega,hG rfl (Nat.le_refl _) (Nat.le_refl _),hks,λF1 c1 R1 B1 H9 f9 rm1 ow1 rr1 em1 eL1 tr1 cl1 _=>?_⟩;have g1:=rm1.g;have f89:∀b o,¬a1.own r1 b->¬a2.own r2 b->H8 b=some o->H9 b=some o:=λb o n _ e=>f9 b o n e
  have dj9:∀b,c1.own r1 b->¬a2.own r2 b:=λb z y=>by
   rcases ow1 b z with w|w
   ·exact dj b w y
   ·obtain⟨o,e⟩:=r2m.at_.there y;rw[w]at e;cases e
  have rm2:RmI A.c_Rooms H9 r2 S2 a2 R (stL (2* L)) 1000:=r2m.keep (λb o hb e=>f9 b o (λz=>dj b z hb) e) (λb xs e=>f9 b _ (r1m.at_.notup e) e);have w19:∀b,c1.own r1 b->a1.own r1 b\/H8 b=none:=ow1
  -- what is laid in the other one holds in the first one
  have base:∀a z b,R a z b->F1.by (F1.eld a) z=some (F1.eld b):=λa z b q=>g1.by_iff.mpr ⟨a,b,rr1 _ _ _ q,rfl,rfl⟩
  have snd:∀{S S':RS} {P:Nat->Int->Nat->Prop} {xs ys:List (List Int)},Tr (xs++ys) xs.length S S'->(∀w∈xs,w∈rs)->(∀w∈ys,w∈ps)->Good S [] P->WentI S->S.made=S1.made->(∀a z b,P a z b->z∈stL (2* L))->(∀a z b,P a z b->F1.by (F1.eld a) z=some (F1.eld b))->∃P',Good S' [] P'/\WentI S'/\S'.made=S.made/\S'.L=S.L/\(∀a z b,P a z b->P' a z b)/\(∀a z b,P' a z b->z∈stL (2* L))/\∀a z b,P' a z b->F1.by (F1.eld a) z=some (F1.eld b):=λ{S S' P xs ys} tr hx hy gS wS eS kS hS=>by
   refine tr.sound (mdl_of g1 cl1 (by rw[em1];exact m0) hx hy) (λw hw z hz=>?_) gS wS (by rw[eS,em1];exact Nat.le_refl _) kS hS;have:w∈rs++ps:=List.mem_append.mpr ((List.mem_append.mp hw).imp (hx w) (hy w));exact((hks w this).2 z hz).2
  refine⟨λ σ' H'=>∃S3 a3 R3 B3,σ'=[some (.ref a),some (.int (L:Int)),some (.int (mn:Int)),some (.ref aR),some (.ref aP),some (.ref r1),some (.ref r2),v7,v8,v9,v10,v11,some (.ref hd)]/\(∀b o,¬a1.own r1 b->¬a2.own r2 b->H8 b=some o->H' b=some o)/\RoomsAt A.c_Rooms H' r1 F1 c1/\RmI A.c_Rooms H' r2 S3 a3 R3 (stL (2* L)) B3/\B3<=1700/\(∀b,c1.own r1 b->¬a3.own r2 b)/\(∀b,a3.own r2 b->a2.own r2 b\/c1.own r1 b\/H8 b=none\/a1.own r1 b)/\S3.made=S1.made/\(∀a z b,R a z b->R3 a z b)/\∀a z b,R3 a z b->F1.by (F1.eld a) z=some (F1.eld b),?_,?_⟩
  ·have t9:TupsAt H9 pR rs:=⟨tR8.1,λi p w q1 q2=>f9 _ _ (r1m.at_.notup (tR8.2 i p w q1 q2)) (tR8.2 i p w q1 q2)⟩;have t9':TupsAt H9 pP ps:=⟨tP8.1,λi p w q1 q2=>f9 _ _ (r1m.at_.notup (tP8.2 i p w q1 q2)) (tP8.2 i p w q1 q2)⟩;have hR9:=f9 _ _ (out hR).1 (s48 _ _ hR);have hP9:=f9 _ _ (out hP).1 (s48 _ _ hP)
   have ha9:SqL K H9 a (intV ns):=by
    rcases ha with (h|⟨o,h⟩)|h
    ·exact .inl (.inl (f9 _ _ (out h).1 (s48 _ _ h)))
    ·exact .inl (.inr ⟨o,f9 _ _ (out h).1 (s48 _ _ h)⟩)
    ·exact .inr h
   refine⟨_,rfl,a,ns,0,rfl,ha9,by decide,λy8=>⟨_,_,rfl,rfl,⟨by decide,by decide⟩,_,_,rfl,rfl,(by show (0:Int)<2;decide),rfl,_,rfl,?_⟩⟩;refine ite2 (λ_=>?_) (λ_=>⟨S2,a2,R,1000,rfl,f89,rm1.at_,rm2,by decide,dj9,λb z=>.inl z,em.symm,λ_ _ _ z=>z,base⟩);refine⟨_,rfl,_,rfl,_,rfl,_,_,rfl,rfl,⟨by decide,by decide⟩,_,rfl,aR,_,rfl,SqL.of hR9,λc5 n5=>?_⟩;obtain⟨xs,X1,X2,X3⟩:=wd_cut (H':=H9) (lo:=some ((mn:Int) / 2)) (hi:=none) hR9 t9 n5;have u5:=Same.upd (o:=.lst (cutV (pR.map V.ref) (some ((mn:Int) / 2)) none)) n5;generalize upd H9 c5 (.lst (cutV (pR.map V.ref) (some ((mn:Int) / 2)) none))=Ha at X1 u5 ⊢;refine⟨_,rfl,_,rfl,aP,_,rfl,SqL.of (u5 _ _ hP9),λc6 n6=>?_⟩;obtain⟨ys,Y1,Y2,Y3⟩:=wd_cut (H':=Ha) (lo:=none) (hi:=some 1) (u5 _ _ hP9) (t9'.same u5) n6;have u6:=Same.upd (o:=.lst (cutV (pP.map V.ref) none (some 1))) n6;generalize upd Ha c6 (.lst (cutV (pP.map V.ref) none (some 1)))=Hb at Y1 u6 ⊢;have u9b:=u5.trans u6;have rm2b:=rm2.same u9b;refine⟨r2,c5,c6,S2,a2,R,stL (2* L),1000,xs,ys,rfl,rm2b,by omega,by decide,X1.same u6,Y1,by omega,by omega,hG em.symm X3 Y3,λu hu=>hks u (List.mem_append.mpr ((List.mem_append.mp hu).imp (X2 u) (Y2 u))),λF c3 R3 B3 Hc fc rm3 ow3 rr3 em3 eL3 tr3 cl3 hB3=>?_⟩;obtain⟨P,gP,wP,_,_,sP,kP,uP⟩:=snd tr3 X2 Y2 rm2.g rm2.w em.symm rm2.k base;have fc':∀b o,¬a2.own r2 b->H9 b=some o->Hc b=some o:=λb o n e=>fc b o n (u9b _ _ e)
   refine⟨F,c3,P,B3,rfl,λb o n1 n2 e=>fc' b o n2 (f9 b o n1 e),rm1.at_.keep (λb o hb e=>fc' b o (dj9 b hb) e) (λb xs e=>fc' b _ (rm2.at_.notup e) e),⟨rm3.at_,gP,wP,kP,rm3.m,rm3.l,rm3.rb,rm3.wb⟩,by omega,λb z y=>?_,λb z=>?_,em3.trans em.symm,sP,uP⟩
   ·rcases ow3 b y with w|w
    ·exact dj9 b z w
    ·obtain⟨o,e⟩:=rm1.at_.there z;rw[u9b _ _ e]at w;cases w
   ·rcases ow3 b z with w|w
    ·exact .inl w
    ·by_cases v:a1.own r1 b
     ·exact .inr (.inr (.inr v))
     ·refine .inr (.inr (.inl ?_))
      cases e:H8 b with
      |none=>rfl
      |some o=>rw[u9b _ _ (f9 b o v e)]at w;cases w
  rintro σ' Hc ⟨S3,a3,R3,B3,rfl,fc,rt1,rm3,hB3,dj3,ow3,em3,rr3,base3⟩;have tRc:TupsAt Hc pR rs:=⟨tR8.1,λi p w q1 q2=>fc _ _ (r1m.at_.notup (tR8.2 i p w q1 q2)) (r2m.at_.notup (tR8.2 i p w q1 q2)) (tR8.2 i p w q1 q2)⟩;have tPc:TupsAt Hc pP ps:=⟨tP8.1,λi p w q1 q2=>fc _ _ (r1m.at_.notup (tP8.2 i p w q1 q2)) (r2m.at_.notup (tP8.2 i p w q1 q2)) (tP8.2 i p w q1 q2)⟩;have hRc:=fc _ _ (out hR).1 (out hR).2 (s48 _ _ hR);have hPc:=fc _ _ (out hP).1 (out hP).2 (s48 _ _ hP);refine⟨_,rfl,_,rfl,_,rfl,_,rfl,aR,_,rfl,SqL.of hRc,rfl,rfl,rfl,λc5 n5=>?_⟩;have X1:=wd_rev tRc n5;have u5:=Same.upd (o:=.lst (pR.map V.ref).reverse) n5;generalize upd Hc c5 (.lst (pR.map V.ref).reverse)=Hd at X1 u5 ⊢;refine⟨_,rfl,_,rfl,_,rfl,aP,_,rfl,SqL.of (u5 _ _ hPc),rfl,rfl,rfl,λc6 n6=>?_⟩;have Y1:=wd_rev (tPc.same u5) n6;have u6:=Same.upd (o:=.lst (pP.map V.ref).reverse) n6;generalize upd Hd c6 (.lst (pP.map V.ref).reverse)=He at Y1 u6 ⊢;have uce:=u5.trans u6;have rm3e:=rm3.same uce;refine⟨r2,c5,c6,S3,a3,R3,stL (2* L),B3,rs.reverse,ps.reverse,rfl,rm3e,by omega,by omega,X1.same u6,Y1,by rw[List.length_reverse];omega,by rw[List.length_reverse];omega,hG em3 (by rw[List.length_reverse];exact Nat.le_refl _) (by rw[List.length_reverse];exact Nat.le_refl _),λu hu=>hks u (List.mem_append.mpr ((List.mem_append.mp hu).imp List.mem_reverse.mp List.mem_reverse.mp)),λF2 c2 R2 B2 Hf ff rm2f ow2f rr2 em2 eL2 tr2 cl2 _=>?_⟩;obtain⟨P2,gP,wP,_,_,sP,kP,uP⟩:=snd tr2 (λw h=>List.mem_reverse.mp h) (λw h=>List.mem_reverse.mp h) rm3.g rm3.w em3 rm3.k base3;have g2:=gP;have em12:F1.made=F2.made:=by rw[em1,em2,em3]
  obtain⟨P1,gQ,_,_,_,_,_,uQ⟩:=tr1.sound (φ:=F2.eld) (U:=λp z q=>F2.by p z=some q) (ks:=stL (2* L)) (mdl_of g2 cl2 (by rw[←em12,em1];exact m0) (λw h=>List.mem_reverse.mpr h) (λw h=>List.mem_reverse.mpr h)) (λw hw z hz=>((hks w hw).2 z hz).2) o1.g r1m.w (by rw[←em12,em1];exact Nat.le_refl _) o1.k λa z b q=>g2.by_iff.mpr ⟨a,b,sP _ _ _ (rr3 _ _ _ q),rfl,rfl⟩
  obtain⟨hel,hby⟩:=one_end gQ gP em12 uQ uP;have ff':∀b o,¬a3.own r2 b->Hc b=some o->Hf b=some o:=λb o n e=>ff b o n (uce _ _ e)
  have rt1f:RoomsAt A.c_Rooms Hf r1 F1 c1:=rt1.keep (λb o hb e=>ff' b o (dj3 b hb) e) (λb xs e=>ff' b _ (rm3.at_.notup e) e);refine⟨_,rfl,_,rfl,_,rfl,r1,r2,F1,F2,c1,c2,P1,L,rfl,rt1f,rm2f.at_,gQ,gP.wf,em12,hel,hby,by rw[em1];exact m0,by rw[em1];omega,by omega,λHg sg=>⟨_,rfl,iteT ?_⟩⟩
  have n3a:∀{b o},¬a1.own r1 b->¬a2.own r2 b->H8 b=some o->¬a3.own r2 b:=λ{b o} n1 n2 e z=>by
   rcases ow3 b z with w|w|w|w
   ·exact n2 w
   ·rcases w19 b w with v|v
    ·exact n1 v
    ·rw[v]at e;cases e
   ·rw[w]at e;cases e
   ·exact n1 w
  have all:∀{b o},¬a1.own r1 b->¬a2.own r2 b->H8 b=some o->Hg b=some o:=λ{b o} n1 n2 e=>sg _ _ (ff' b o (n3a n1 n2 e) (fc b o n1 n2 e))
  have tup:∀{b xs},H8 b=some (.tup xs)->Hg b=some (.tup xs):=λ{b xs} e=>all (r1m.at_.notup e) (r2m.at_.notup e) e
  have tRg:TupsAt Hg pR rs:=⟨tR8.1,λi p w q1 q2=>tup (tR8.2 i p w q1 q2)⟩;have tPg:TupsAt Hg pP ps:=⟨tP8.1,λi p w q1 q2=>tup (tP8.2 i p w q1 q2)⟩;refine⟨_,rfl,_,rfl,_,rfl,(by show 2<=sizeLine;decide),λe ne=>?_⟩;have sh:=Same.upd (o:=.lst [.ref aR,.ref aP]) ne;refine⟨_,hd,e,rfl,rfl,dt_two (sh _ _ (all x3.1 x3.2 e3)) ((dt_words ⟨pR,sh _ _ (all x1.1 x1.2 q1),tRg.same sh⟩).le (by decide)) ((dt_words ⟨pP,sh _ _ (all x2.1 x2.2 q2),tPg.same sh⟩).le (by decide)),dt_two upd_same ((dt_words ⟨pR,sh _ _ (all (out hR).1 (out hR).2 (s48 _ _ hR)),tRg.same sh⟩).le (by decide)) ((dt_words ⟨pP,sh _ _ (all (out hP).1 (out hP).2 (s48 _ _ hP)),tPg.same sh⟩).le (by decide)),?_⟩;exact k _
end
theorem all_mk {l:PySem.W.OpenLaw}{w:World}{K:PySem.W.Frag}{mg:Str->Option Value}{fa:Addr}(hfa:mg "law"=some (.ref fa))
 {C_Rooms C_Going C_Closing:Addr}
 {f1 f2 f3 f4 f5 f6 f7 f8 f9 f10 f11 f12 f13 f14 f15 f16 f17 f18 f19 f20 f21 f22 f23 f24 f25 f26 f27 f28 f29 f30 f31 f32 f33 f34 f35:Addr} {d1 d2 d3 d4 d5 d6 d7 d8 d9 d10 d11 d12 d13 d14 d15 d16 d17 d18 d19 d20 d21 d22 d23 d24 d25 d26 d27 d28 d29 d30 d31 d32 d33 d34 d35:FuncData}
 (y_Rooms:mg "Rooms"=some (.ref C_Rooms))
 (y_Going:mg "Going"=some (.ref C_Going))
 (y_Closing:mg "Closing"=some (.ref C_Closing))
 (D1:Def K mg "close" s_close ["rooms","rules","part"] f1 d1)
 (D2:Def K mg "walked" s_walked ["rooms","room","word"] f2 d2)
 (D3:Def K mg "first_places" s_first_places ["rules"] f3 d3)
 (D4:Def K mg "steps_of" s_steps_of ["letters"] f4 d4)
 (D5:Def K mg "all_gaps" s_all_gaps ["letters"] f5 d5)
 (D6:Def K mg "own" s_own ["value"] f6 d6)
 (D7:Def K mg "_law_cell_at" s__law_cell_at ["_law_script","_law_k"] f7 d7)
 (D8:Def K mg "_law_whole" s__law_whole ["_law_found"] f8 d8)
 (D9:Def K mg "_law_step" s__law_step ["_law_number","_law_letters"] f9 d9)
 (D10:Def K mg "_law_word" s__law_word ["_law_number","_law_letters"] f10 d10)
 (D11:Def K mg "_law_alike" s__law_alike ["_law_one","_law_other","_law_letters"] f11 d11)
 (D12:Def K mg "law" s_law ["_law_script"] f12 d12)
 (D13:MDef K C_Going "__init__" "Going.__init__" s_Going___init__ ["self","which","word","start"] f13 d13)
 (D14:MDef K C_Going "advance" "Going.advance" s_Going_advance ["self","rooms"] f14 d14)
 (D15:MDef K C_Going "row" "Going.row" s_Going_row ["self","rooms"] f15 d15)
 (D16:MDef K C_Closing "__init__" "Closing.__init__" s_Closing___init__ ["self","rooms","rules","part"] f16 d16)
 (D17:MDef K C_Closing "begin_rules" "Closing.begin_rules" s_Closing_begin_rules ["self","room"] f17 d17)
 (D18:MDef K C_Closing "begin" "Closing.begin" s_Closing_begin ["self","which","word","room"] f18 d18)
 (D19:MDef K C_Closing "settle" "Closing.settle" s_Closing_settle ["self"] f19 d19)
 (D20:MDef K C_Closing "go_on" "Closing.go_on" s_Closing_go_on ["self","number"] f20 d20)
 (D21:MDef K C_Closing "wait" "Closing.wait" s_Closing_wait ["self","number","room","step"] f21 d21)
 (D22:MDef K C_Closing "lay" "Closing.lay" s_Closing_lay ["self","going"] f22 d22)
 (D23:MDef K C_Closing "wake" "Closing.wake" s_Closing_wake ["self","room","step"] f23 d23)
 (D24:MDef K C_Closing "hear" "Closing.hear" s_Closing_hear ["self"] f24 d24)
 (D25:MDef K C_Closing "wake_all" "Closing.wake_all" s_Closing_wake_all ["self","room"] f25 d25)
 (D26:MDef K C_Rooms "__init__" "Rooms.__init__" s_Rooms___init__ ["self","letters"] f26 d26)
 (D27:MDef K C_Rooms "make" "Rooms.make" s_Rooms_make ["self","room","step"] f27 d27)
 (D28:MDef K C_Rooms "lay" "Rooms.lay" s_Rooms_lay ["self","room","step","other","row"] f28 d28)
 (D29:MDef K C_Rooms "by" "Rooms.by" s_Rooms_by ["self","room","step"] f29 d29)
 (D30:MDef K C_Rooms "elder" "Rooms.elder" s_Rooms_elder ["self","room"] f30 d30)
 (D31:MDef K C_Rooms "standing" "Rooms.standing" s_Rooms_standing ["self"] f31 d31)
 (D32:MDef K C_Rooms "keep" "Rooms.keep" s_Rooms_keep ["self","room","step","other"] f32 d32)
 (D33:MDef K C_Rooms "take_in" "Rooms.take_in" s_Rooms_take_in ["self","way","pending"] f33 d33)
 (D34:MDef K C_Rooms "put_together" "Rooms.put_together" s_Rooms_put_together ["self","room","step","one","other","pending"] f34 d34)
 (D35:MDef K C_Rooms "put_off" "Rooms.put_off" s_Rooms_put_off ["self","room","pending"] f35 d35)
 (z1:mg "enumerate"=none)
 (z2:mg "min"=none)
 (z3:mg "max"=none)
 (z4:mg "range"=none)
 (z5:mg "len"=none)
 (z6:mg "tuple"=none)
 (z7:mg "list"=none)
 (z8:mg "isinstance"=none)
 (z9:mg "bool"=none)
 (z10:mg "int"=none)
 (z11:mg "dict"=none)
 (z12:mg "str"=none)
 (w_pg_Rooms:PySem.W.plainGet K C_Rooms Str.empty=true)
 (w_hd_Rooms:PySem.W.hasDictIn K C_Rooms=true)
 (w_po_Rooms:PySem.W.plainOver K C_Rooms=true)
 (w_sa_Rooms:PySem.W.findIn K (.ref C_Rooms) "__setattr__"=some (some (.builtin "object.__setattr__")))
 (w_mk_Rooms:PySem.W.makesIn K C_Rooms=true)
 (w_kc_Rooms:PySem.W.keepIn K (.ref C_Rooms)=true)
 (w_n_letters:PySem.W.findIn K (.ref C_Rooms) "letters"=some none)
 (w_n_made:PySem.W.findIn K (.ref C_Rooms) "made"=some none)
 (w_n_rows:PySem.W.findIn K (.ref C_Rooms) "rows"=some none)
 (w_n_ways:PySem.W.findIn K (.ref C_Rooms) "ways"=some none)
 (w_n_gaps:PySem.W.findIn K (.ref C_Rooms) "gaps"=some none)
 (w_n_elders:PySem.W.findIn K (.ref C_Rooms) "elders"=some none)
 (w_n_called:PySem.W.findIn K (.ref C_Rooms) "called"=some none)
 (w_n_went:PySem.W.findIn K (.ref C_Rooms) "went"=some none)
 (w_pg_Going:PySem.W.plainGet K C_Going Str.empty=true)
 (w_hd_Going:PySem.W.hasDictIn K C_Going=true)
 (w_po_Going:PySem.W.plainOver K C_Going=true)
 (w_sa_Going:PySem.W.findIn K (.ref C_Going) "__setattr__"=some (some (.builtin "object.__setattr__")))
 (w_mk_Going:PySem.W.makesIn K C_Going=true)
 (w_kc_Going:PySem.W.keepIn K (.ref C_Going)=true)
 (w_nG_which:PySem.W.findIn K (.ref C_Going) "which"=some none)
 (w_nG_word:PySem.W.findIn K (.ref C_Going) "word"=some none)
 (w_nG_start:PySem.W.findIn K (.ref C_Going) "start"=some none)
 (w_nG_front:PySem.W.findIn K (.ref C_Going) "front"=some none)
 (w_nG_first:PySem.W.findIn K (.ref C_Going) "first"=some none)
 (w_nG_rear:PySem.W.findIn K (.ref C_Going) "rear"=some none)
 (w_nG_last:PySem.W.findIn K (.ref C_Going) "last"=some none)
 (w_pg_Closing:PySem.W.plainGet K C_Closing Str.empty=true)
 (w_hd_Closing:PySem.W.hasDictIn K C_Closing=true)
 (w_po_Closing:PySem.W.plainOver K C_Closing=true)
 (w_sa_Closing:PySem.W.findIn K (.ref C_Closing) "__setattr__"=some (some (.builtin "object.__setattr__")))
 (w_mk_Closing:PySem.W.makesIn K C_Closing=true)
 (w_kc_Closing:PySem.W.keepIn K (.ref C_Closing)=true)
 (w_nC_rooms:PySem.W.findIn K (.ref C_Closing) "rooms"=some none)
 (w_nC_rules:PySem.W.findIn K (.ref C_Closing) "rules"=some none)
 (w_nC_goings:PySem.W.findIn K (.ref C_Closing) "goings"=some none)
 (w_nC_agenda:PySem.W.findIn K (.ref C_Closing) "agenda"=some none)
 (w_nC_waiting:PySem.W.findIn K (.ref C_Closing) "waiting"=some none)
 (w_nC_heard:PySem.W.findIn K (.ref C_Closing) "heard"=some none)
 :∃fd:FuncData,(∀(s:Shared) (v:Value),BindsTo s fd ⟨[v],[]⟩ [("_law_script",v)])/\∀base:Heap,K.In base->base.Ns mainGlobals mg->FnOk l.prog w K mg base CX0 10 fa fd ["_law_script"] (spLaw K):=by
 have e:=hfa.symm.trans D12.m;cases e;have T:Txt K mg ⟨f1,d1,f2,d2,f3,d3,f4,d4,f5,d5,f6,d6,f7,d7,f8,d8,f9,d9,f10,d10,f11,d11,fa,d12,f13,d13,f14,d14,f15,d15,f16,d16,f17,d17,f18,d18,f19,d19,f20,d20,f21,d21,f22,d22,f23,d23,f24,d24,f25,d25,f26,d26,f27,d27,f28,d28,f29,d29,f30,d30,f31,d31,f32,d32,f33,d33,f34,d34,f35,d35,C_Rooms,C_Going,C_Closing⟩:=⟨D1,D2,D3,D4,D5,D6,D7,D8,D9,D10,D11,D12,D13,D14,D15,D16,D17,D18,D19,D20,D21,D22,D23,D24,D25,D26,D27,D28,D29,D30,D31,D32,D33,D34,D35,z1,z2,z3,z4,z5,z6,z7,z8,z9,z10,z11,z12,y_Rooms,y_Going,y_Closing,w_pg_Rooms,w_hd_Rooms,w_po_Rooms,w_sa_Rooms,w_mk_Rooms,w_kc_Rooms,w_n_letters,w_n_made,w_n_rows,w_n_ways,w_n_gaps,w_n_elders,w_n_called,w_n_went,w_pg_Going,w_hd_Going,w_po_Going,w_sa_Going,w_mk_Going,w_kc_Going,w_nG_which,w_nG_word,w_nG_start,w_nG_front,w_nG_first,w_nG_rear,w_nG_last,w_pg_Closing,w_hd_Closing,w_po_Closing,w_sa_Closing,w_mk_Closing,w_kc_Closing,w_nC_rooms,w_nC_rules,w_nC_goings,w_nC_agenda,w_nC_waiting,w_nC_heard⟩;obtain⟨kV,doc,pm,an,cdv,ct,e⟩:=D12.fd;exact⟨_,λs v=>by rw[e];exact .of_eq rfl,λbase _ _=>ok_law T⟩
theorem walk {l:PySem.W.OpenLaw}{q:Program}{loose:List Str}{XP:(Str->Option Value)->Heap->Prop}{YP:World->Heap->Prop}{d:DefRec}{K:Params->PySem.W.Frag}(hn:l.most=some 63)(hdf:d.params.defaults=[])
 (hY:∀(w:World) (h:Heap),YP w h->(K w.params).In h)
 (F:∀(w:World) (mg:Str->Option Value) (fa:Addr) (h:Heap),(K w.params).In h->h.Ns mainGlobals mg->mg d.name=some (.ref fa)->
  ∃fd:FuncData,(∀(s:Shared) (u:Value),BindsTo s fd ⟨[u],[]⟩ [("_law_script",u)])/\∀base:Heap,(K w.params).In base->base.Ns mainGlobals mg->FnOk l.prog w (K w.params) mg base CX0 10 fa fd ["_law_script"] (spLaw (K w.params))):
 PySem.W.WalkO q loose XP YP l.row.toRowW d [] (λf vs=>PySem.call f vs):=
 L2.walk_of (n:=63) (k:=10) (x:="_law_script") (CX:=λw=>CX0) (sp:=λw=>spLaw (K w.params)) hn (by decide) hdf ⟨rfl,by decide,by decide⟩ hY F (λ_ _ a ns hl _ hS=>⟨a,ns,rfl,hS,hl,λ_=>rfl⟩) λ_ _ _ _ _ z=>z
end K23
open PySem PySem.W PyProof.Rows
def PySem.W.Fast.tw15896287044215557741:Unit:=()
def PySem.W.Fast.tw17081240524704684329:Unit:=()
def PySem.W.Fast.tw17708396296506606144:Unit:=()
def PySem.W.Fast.tw12556514219472093722:Unit:=()
def PySem.W.Fast.tw16966552951613850648:Unit:=()
def PySem.W.Fast.tw4161860849458115560:Unit:=()
def PySem.W.Fast.tw3802085435978745476:Unit:=()
def PySem.W.Fast.tw3440499104323594286:Unit:=()
def PySem.W.Fast.tw68003778593084307:Unit:=()
def PySem.W.Fast.tw15625137854410985986:Unit:=()
def PySem.W.Fast.tw13219108345827074366:Unit:=()
def PySem.W.Fast.tw6151922296115916958:Unit:=()
def PySem.W.Fast.tw10446509853100658602:Unit:=()
def PySem.W.Fast.tw16466828870782618203:Unit:=()
def PySem.W.Fast.tw16659362298536717944:Unit:=()
def PySem.W.Fast.tw4856649452099616338:Unit:=()
def PySem.W.Fast.tw17175201668413484549:Unit:=()
def PySem.W.Fast.tw11045504325716277783:Unit:=()
def PySem.W.Fast.tw11590243394504236398:Unit:=()
def PySem.W.Fast.tw7090102290720838598:Unit:=()
def PySem.W.Fast.tw2971133836092707653:Unit:=()
def PySem.W.Fast.tw8608013822195047810:Unit:=()
def PySem.W.Fast.tw8906331001276073087:Unit:=()
def PySem.W.Fast.tw12886808693202142015:Unit:=()
def PySem.W.Fast.tw12859164188506230249:Unit:=()
def PySem.W.Fast.tw9426231556614772932:Unit:=()
def PySem.W.Fast.tw2081818623812121152:Unit:=()
def PySem.W.Fast.tw14834838514475522369:Unit:=()
def PySem.W.Fast.tw9021336936982042920:Unit:=()
def PySem.W.Fast.tw6925991775414115554:Unit:=()
def PySem.W.Fast.tw10630586272662415064:Unit:=()
def PySem.W.Fast.tw8470363995437142528:Unit:=()
def PySem.W.Fast.tw16477892036482320640:Unit:=()
def PySem.W.Fast.tw13617959134391750036:Unit:=()
def PySem.W.Fast.tw12750677560528226151:Unit:=()
def PySem.W.Fast.tw11436604218951030827:Unit:=()
def PySem.W.Fast.tw6875514619263556825:Unit:=()
def PySem.W.Fast.tw5110877602626483892:Unit:=()
def PySem.W.Fast.tw1133411424740645260:Unit:=()
def PySem.W.Fast.tw17075997361632599545:Unit:=()
def PySem.W.Fast.tw15538786026320196282:Unit:=()
def PySem.W.Fast.tw9301704954713417265:Unit:=()
def PySem.W.Fast.tw12612394956512290260:Unit:=()
def PySem.W.Fast.tw16384829923979857404:Unit:=()
def PySem.W.Fast.tw13375723224558557601:Unit:=()
def PySem.W.Fast.tw9038474120806865348:Unit:=()
def PySem.W.Fast.tw17671299106746518157:Unit:=()
def PySem.W.Fast.tw8732086988949089177:Unit:=()
def PySem.W.Fast.tw9045293044377729770:Unit:=()
def PySem.W.Fast.tw10697925007999892703:Unit:=()
def PySem.W.Fast.tw4448147902029158990:Unit:=()
def PySem.W.Fast.tw4608801560961514478:Unit:=()
def PySem.W.Fast.tw14389856307488108709:Unit:=()
def PySem.W.Fast.tw15308170491398565820:Unit:=()
def PySem.W.Fast.tw8828408890256511772:Unit:=()
def PySem.W.Fast.tw14178857521204808448:Unit:=()
def PySem.W.Fast.tw16410884820106488384:Unit:=()
def PySem.W.Fast.tw11819884375597492510:Unit:=()
def PySem.W.Fast.tw4903215172992316310:Unit:=()
def PySem.W.Fast.tw3046448192814237791:Unit:=()
def PySem.W.Fast.tw1439775607330127213:Unit:=()
def PySem.W.Fast.tw7152744720446523682:Unit:=()
def PySem.W.Fast.tw17282925938008590245:Unit:=()
def PySem.W.Fast.tw1724692564322382013:Unit:=()
def PySem.W.Fast.tw13971845472433382010:Unit:=()
def PySem.W.Fast.tw17885143938319455842:Unit:=()
def PySem.W.Fast.tw5708477422709778028:Unit:=()
def PySem.W.Fast.tw12192444310948647924:Unit:=()
def PySem.W.Fast.tw10165670109234049737:Unit:=()
def PySem.W.Fast.tw8935260112139263925:Unit:=()
def PySem.W.Fast.tw427201621429661844:Unit:=()
def PySem.W.Fast.tw4895640419183428328:Unit:=()
def PySem.W.Fast.tw6967841739871891988:Unit:=()
def PySem.W.Fast.tw7815143250382559551:Unit:=()
def PySem.W.Fast.tw8691409986862146669:Unit:=()
def PySem.W.Fast.tw6556412011903747691:Unit:=()
def PySem.W.Fast.tw6269906418175725840:Unit:=()
def PySem.W.Fast.tw10959513053624915895:Unit:=()
def PySem.W.Fast.tw10960204898556170865:Unit:=()
def PySem.W.Fast.tw18390854364490912400:Unit:=()
set_option maxRecDepth 100000 in
set_option maxHeartbeats 0 in
theorem PySem.Challenge.cw_cosetyard_k23_one_end_holds : PySem.Challenge.rw_cosetyard_k23_one_end.Holds := by
  w_on; o_law; k_head; (case hw => w_witness2)
  k_fill
  refine K23.walk (l := PySem.Challenge.rw_cosetyard_k23_one_end) rfl rfl (fun w h Y => PySem.W.kIn_of Y) ?F
  case F =>
    intro w mg fa h KX G hmg
    refine' K23.all_mk hmg ?y_Rooms ?y_Going ?y_Closing ?D1 ?D2 ?D3 ?D4 ?D5 ?D6 ?D7 ?D8 ?D9 ?D10 ?D11 ?D12 ?D13 ?D14 ?D15 ?D16 ?D17 ?D18 ?D19 ?D20 ?D21 ?D22 ?D23 ?D24 ?D25 ?D26 ?D27 ?D28 ?D29 ?D30 ?D31 ?D32 ?D33 ?D34 ?D35 ?z1 ?z2 ?z3 ?z4 ?z5 ?z6 ?z7 ?z8 ?z9 ?z10 ?z11 ?z12 ?w_pg_Rooms ?w_hd_Rooms ?w_po_Rooms ?w_sa_Rooms ?w_mk_Rooms ?w_kc_Rooms ?w_n_letters ?w_n_made ?w_n_rows ?w_n_ways ?w_n_gaps ?w_n_elders ?w_n_called ?w_n_went ?w_pg_Going ?w_hd_Going ?w_po_Going ?w_sa_Going ?w_mk_Going ?w_kc_Going ?w_nG_which ?w_nG_word ?w_nG_start ?w_nG_front ?w_nG_first ?w_nG_rear ?w_nG_last ?w_pg_Closing ?w_hd_Closing ?w_po_Closing ?w_sa_Closing ?w_mk_Closing ?w_kc_Closing ?w_nC_rooms ?w_nC_rules ?w_nC_goings ?w_nC_agenda ?w_nC_waiting ?w_nC_heard
    (case y_Rooms => refine' PySem.W.mg_of KX G ?a; (case a => k_is))
    (case y_Going => refine' PySem.W.mg_of KX G ?a; (case a => k_is))
    (case y_Closing => refine' PySem.W.mg_of KX G ?a; (case a => k_is))
    (case D1 => refine' L2.Def.of KX G ?a ?l ?c ?k (fun _ _ _ _ _ _ _ hl => by obtain ⟨_, _, _, rfl⟩ := L2.args_is3 hl; rfl); (case a => k_is); (case l => k_is); (case c => k_is); (case k => k_is))
    (case D2 => refine' L2.Def.of KX G ?a ?l ?c ?k (fun _ _ _ _ _ _ _ hl => by obtain ⟨_, _, _, rfl⟩ := L2.args_is3 hl; rfl); (case a => k_is); (case l => k_is); (case c => k_is); (case k => k_is))
    (case D3 => refine' L2.Def.of KX G ?a ?l ?c ?k (fun _ _ _ _ _ _ _ hl => by obtain ⟨_, rfl⟩ := L2.args_is1 hl; rfl); (case a => k_is); (case l => k_is); (case c => k_is); (case k => k_is))
    (case D4 => refine' L2.Def.of KX G ?a ?l ?c ?k (fun _ _ _ _ _ _ _ hl => by obtain ⟨_, rfl⟩ := L2.args_is1 hl; rfl); (case a => k_is); (case l => k_is); (case c => k_is); (case k => k_is))
    (case D5 => refine' L2.Def.of KX G ?a ?l ?c ?k (fun _ _ _ _ _ _ _ hl => by obtain ⟨_, rfl⟩ := L2.args_is1 hl; rfl); (case a => k_is); (case l => k_is); (case c => k_is); (case k => k_is))
    (case D6 => refine' L2.Def.of KX G ?a ?l ?c ?k (fun _ _ _ _ _ _ _ hl => by obtain ⟨_, rfl⟩ := L2.args_is1 hl; rfl); (case a => k_is); (case l => k_is); (case c => k_is); (case k => k_is))
    (case D7 => refine' L2.Def.of KX G ?a ?l ?c ?k (fun _ _ _ _ _ _ _ hl => by obtain ⟨_, _, rfl⟩ := L2.args_is2 hl; rfl); (case a => k_is); (case l => k_is); (case c => k_is); (case k => k_is))
    (case D8 => refine' L2.Def.of KX G ?a ?l ?c ?k (fun _ _ _ _ _ _ _ hl => by obtain ⟨_, rfl⟩ := L2.args_is1 hl; rfl); (case a => k_is); (case l => k_is); (case c => k_is); (case k => k_is))
    (case D9 => refine' L2.Def.of KX G ?a ?l ?c ?k (fun _ _ _ _ _ _ _ hl => by obtain ⟨_, _, rfl⟩ := L2.args_is2 hl; rfl); (case a => k_is); (case l => k_is); (case c => k_is); (case k => k_is))
    (case D10 => refine' L2.Def.of KX G ?a ?l ?c ?k (fun _ _ _ _ _ _ _ hl => by obtain ⟨_, _, rfl⟩ := L2.args_is2 hl; rfl); (case a => k_is); (case l => k_is); (case c => k_is); (case k => k_is))
    (case D11 => refine' L2.Def.of KX G ?a ?l ?c ?k (fun _ _ _ _ _ _ _ hl => by obtain ⟨_, _, _, rfl⟩ := L2.args_is3 hl; rfl); (case a => k_is); (case l => k_is); (case c => k_is); (case k => k_is))
    (case D12 => refine' L2.Def.of KX G ?a ?l ?c ?k (fun _ _ _ _ _ _ _ hl => by obtain ⟨_, rfl⟩ := L2.args_is1 hl; rfl); (case a => k_is); (case l => k_is); (case c => k_is); (case k => k_is))
    (case D13 => refine' L2.MDef.of ?a ?i ?l ?c ?k (fun _ _ _ _ _ _ _ hl => by obtain ⟨_, _, _, _, rfl⟩ := L2.args_is4 hl; rfl); (case a => k_is); (case i => k_is); (case l => k_is); (case c => k_is); (case k => k_is))
    (case D14 => refine' L2.MDef.of ?a ?i ?l ?c ?k (fun _ _ _ _ _ _ _ hl => by obtain ⟨_, _, rfl⟩ := L2.args_is2 hl; rfl); (case a => k_is); (case i => k_is); (case l => k_is); (case c => k_is); (case k => k_is))
    (case D15 => refine' L2.MDef.of ?a ?i ?l ?c ?k (fun _ _ _ _ _ _ _ hl => by obtain ⟨_, _, rfl⟩ := L2.args_is2 hl; rfl); (case a => k_is); (case i => k_is); (case l => k_is); (case c => k_is); (case k => k_is))
    (case D16 => refine' L2.MDef.of ?a ?i ?l ?c ?k (fun _ _ _ _ _ _ _ hl => by obtain ⟨_, _, _, _, rfl⟩ := L2.args_is4 hl; rfl); (case a => k_is); (case i => k_is); (case l => k_is); (case c => k_is); (case k => k_is))
    (case D17 => refine' L2.MDef.of ?a ?i ?l ?c ?k (fun _ _ _ _ _ _ _ hl => by obtain ⟨_, _, rfl⟩ := L2.args_is2 hl; rfl); (case a => k_is); (case i => k_is); (case l => k_is); (case c => k_is); (case k => k_is))
    (case D18 => refine' L2.MDef.of ?a ?i ?l ?c ?k (fun _ _ _ _ _ _ _ hl => by obtain ⟨_, _, _, _, rfl⟩ := L2.args_is4 hl; rfl); (case a => k_is); (case i => k_is); (case l => k_is); (case c => k_is); (case k => k_is))
    (case D19 => refine' L2.MDef.of ?a ?i ?l ?c ?k (fun _ _ _ _ _ _ _ hl => by obtain ⟨_, rfl⟩ := L2.args_is1 hl; rfl); (case a => k_is); (case i => k_is); (case l => k_is); (case c => k_is); (case k => k_is))
    (case D20 => refine' L2.MDef.of ?a ?i ?l ?c ?k (fun _ _ _ _ _ _ _ hl => by obtain ⟨_, _, rfl⟩ := L2.args_is2 hl; rfl); (case a => k_is); (case i => k_is); (case l => k_is); (case c => k_is); (case k => k_is))
    (case D21 => refine' L2.MDef.of ?a ?i ?l ?c ?k (fun _ _ _ _ _ _ _ hl => by obtain ⟨_, _, _, _, rfl⟩ := L2.args_is4 hl; rfl); (case a => k_is); (case i => k_is); (case l => k_is); (case c => k_is); (case k => k_is))
    (case D22 => refine' L2.MDef.of ?a ?i ?l ?c ?k (fun _ _ _ _ _ _ _ hl => by obtain ⟨_, _, rfl⟩ := L2.args_is2 hl; rfl); (case a => k_is); (case i => k_is); (case l => k_is); (case c => k_is); (case k => k_is))
    (case D23 => refine' L2.MDef.of ?a ?i ?l ?c ?k (fun _ _ _ _ _ _ _ hl => by obtain ⟨_, _, _, rfl⟩ := L2.args_is3 hl; rfl); (case a => k_is); (case i => k_is); (case l => k_is); (case c => k_is); (case k => k_is))
    (case D24 => refine' L2.MDef.of ?a ?i ?l ?c ?k (fun _ _ _ _ _ _ _ hl => by obtain ⟨_, rfl⟩ := L2.args_is1 hl; rfl); (case a => k_is); (case i => k_is); (case l => k_is); (case c => k_is); (case k => k_is))
    (case D25 => refine' L2.MDef.of ?a ?i ?l ?c ?k (fun _ _ _ _ _ _ _ hl => by obtain ⟨_, _, rfl⟩ := L2.args_is2 hl; rfl); (case a => k_is); (case i => k_is); (case l => k_is); (case c => k_is); (case k => k_is))
    (case D26 => refine' L2.MDef.of ?a ?i ?l ?c ?k (fun _ _ _ _ _ _ _ hl => by obtain ⟨_, _, rfl⟩ := L2.args_is2 hl; rfl); (case a => k_is); (case i => k_is); (case l => k_is); (case c => k_is); (case k => k_is))
    (case D27 => refine' L2.MDef.of ?a ?i ?l ?c ?k (fun _ _ _ _ _ _ _ hl => by obtain ⟨_, _, _, rfl⟩ := L2.args_is3 hl; rfl); (case a => k_is); (case i => k_is); (case l => k_is); (case c => k_is); (case k => k_is))
    (case D28 => refine' L2.MDef.of ?a ?i ?l ?c ?k (fun _ _ _ _ _ _ _ hl => by obtain ⟨_, _, _, _, _, rfl⟩ := L2.args_is5 hl; rfl); (case a => k_is); (case i => k_is); (case l => k_is); (case c => k_is); (case k => k_is))
    (case D29 => refine' L2.MDef.of ?a ?i ?l ?c ?k (fun _ _ _ _ _ _ _ hl => by obtain ⟨_, _, _, rfl⟩ := L2.args_is3 hl; rfl); (case a => k_is); (case i => k_is); (case l => k_is); (case c => k_is); (case k => k_is))
    (case D30 => refine' L2.MDef.of ?a ?i ?l ?c ?k (fun _ _ _ _ _ _ _ hl => by obtain ⟨_, _, rfl⟩ := L2.args_is2 hl; rfl); (case a => k_is); (case i => k_is); (case l => k_is); (case c => k_is); (case k => k_is))
    (case D31 => refine' L2.MDef.of ?a ?i ?l ?c ?k (fun _ _ _ _ _ _ _ hl => by obtain ⟨_, rfl⟩ := L2.args_is1 hl; rfl); (case a => k_is); (case i => k_is); (case l => k_is); (case c => k_is); (case k => k_is))
    (case D32 => refine' L2.MDef.of ?a ?i ?l ?c ?k (fun _ _ _ _ _ _ _ hl => by obtain ⟨_, _, _, _, rfl⟩ := L2.args_is4 hl; rfl); (case a => k_is); (case i => k_is); (case l => k_is); (case c => k_is); (case k => k_is))
    (case D33 => refine' L2.MDef.of ?a ?i ?l ?c ?k (fun _ _ _ _ _ _ _ hl => by obtain ⟨_, _, _, rfl⟩ := L2.args_is3 hl; rfl); (case a => k_is); (case i => k_is); (case l => k_is); (case c => k_is); (case k => k_is))
    (case D34 => refine' L2.MDef.of ?a ?i ?l ?c ?k (fun _ _ _ _ _ _ _ hl => by obtain ⟨_, _, _, _, _, _, rfl⟩ := L2.args_is6 hl; rfl); (case a => k_is); (case i => k_is); (case l => k_is); (case c => k_is); (case k => k_is))
    (case D35 => refine' L2.MDef.of ?a ?i ?l ?c ?k (fun _ _ _ _ _ _ _ hl => by obtain ⟨_, _, _, rfl⟩ := L2.args_is3 hl; rfl); (case a => k_is); (case i => k_is); (case l => k_is); (case c => k_is); (case k => k_is))
    (case z1 => refine' PySem.W.mg_none_of KX G ?a; (case a => k_is))
    (case z2 => refine' PySem.W.mg_none_of KX G ?a; (case a => k_is))
    (case z3 => refine' PySem.W.mg_none_of KX G ?a; (case a => k_is))
    (case z4 => refine' PySem.W.mg_none_of KX G ?a; (case a => k_is))
    (case z5 => refine' PySem.W.mg_none_of KX G ?a; (case a => k_is))
    (case z6 => refine' PySem.W.mg_none_of KX G ?a; (case a => k_is))
    (case z7 => refine' PySem.W.mg_none_of KX G ?a; (case a => k_is))
    (case z8 => refine' PySem.W.mg_none_of KX G ?a; (case a => k_is))
    (case z9 => refine' PySem.W.mg_none_of KX G ?a; (case a => k_is))
    (case z10 => refine' PySem.W.mg_none_of KX G ?a; (case a => k_is))
    (case z11 => refine' PySem.W.mg_none_of KX G ?a; (case a => k_is))
    (case z12 => refine' PySem.W.mg_none_of KX G ?a; (case a => k_is))
    (case w_pg_Rooms => first | k_is | kit_is | kts_exm | kernel_rfl)
    (case w_hd_Rooms => first | k_is | kit_is | kts_exm | kernel_rfl)
    (case w_po_Rooms => first | k_is | kit_is | kts_exm | kernel_rfl)
    (case w_sa_Rooms => first | k_is | kit_is | kts_exm | kernel_rfl)
    (case w_mk_Rooms => first | k_is | kit_is | kts_exm | kernel_rfl)
    (case w_kc_Rooms => first | k_is | kit_is | kts_exm | kernel_rfl)
    (case w_n_letters => first | k_is | kit_is | kts_exm | kernel_rfl)
    (case w_n_made => first | k_is | kit_is | kts_exm | kernel_rfl)
    (case w_n_rows => first | k_is | kit_is | kts_exm | kernel_rfl)
    (case w_n_ways => first | k_is | kit_is | kts_exm | kernel_rfl)
    (case w_n_gaps => first | k_is | kit_is | kts_exm | kernel_rfl)
    (case w_n_elders => first | k_is | kit_is | kts_exm | kernel_rfl)
    (case w_n_called => first | k_is | kit_is | kts_exm | kernel_rfl)
    (case w_n_went => first | k_is | kit_is | kts_exm | kernel_rfl)
    (case w_pg_Going => first | k_is | kit_is | kts_exm | kernel_rfl)
    (case w_hd_Going => first | k_is | kit_is | kts_exm | kernel_rfl)
    (case w_po_Going => first | k_is | kit_is | kts_exm | kernel_rfl)
    (case w_sa_Going => first | k_is | kit_is | kts_exm | kernel_rfl)
    (case w_mk_Going => first | k_is | kit_is | kts_exm | kernel_rfl)
    (case w_kc_Going => first | k_is | kit_is | kts_exm | kernel_rfl)
    (case w_nG_which => first | k_is | kit_is | kts_exm | kernel_rfl)
    (case w_nG_word => first | k_is | kit_is | kts_exm | kernel_rfl)
    (case w_nG_start => first | k_is | kit_is | kts_exm | kernel_rfl)
    (case w_nG_front => first | k_is | kit_is | kts_exm | kernel_rfl)
    (case w_nG_first => first | k_is | kit_is | kts_exm | kernel_rfl)
    (case w_nG_rear => first | k_is | kit_is | kts_exm | kernel_rfl)
    (case w_nG_last => first | k_is | kit_is | kts_exm | kernel_rfl)
    (case w_pg_Closing => first | k_is | kit_is | kts_exm | kernel_rfl)
    (case w_hd_Closing => first | k_is | kit_is | kts_exm | kernel_rfl)
    (case w_po_Closing => first | k_is | kit_is | kts_exm | kernel_rfl)
    (case w_sa_Closing => first | k_is | kit_is | kts_exm | kernel_rfl)
    (case w_mk_Closing => first | k_is | kit_is | kts_exm | kernel_rfl)
    (case w_kc_Closing => first | k_is | kit_is | kts_exm | kernel_rfl)
    (case w_nC_rooms => first | k_is | kit_is | kts_exm | kernel_rfl)
    (case w_nC_rules => first | k_is | kit_is | kts_exm | kernel_rfl)
    (case w_nC_goings => first | k_is | kit_is | kts_exm | kernel_rfl)
    (case w_nC_agenda => first | k_is | kit_is | kts_exm | kernel_rfl)
    (case w_nC_waiting => first | k_is | kit_is | kts_exm | kernel_rfl)
    (case w_nC_heard => first | k_is | kit_is | kts_exm | kernel_rfl)
