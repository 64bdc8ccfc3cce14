import PyProof.Rows.All
import Wide.All
import OpenK.AllK
import Wide.FinOn
import Lean
import PyProof.EqAt
import PyProof.EqKinds
import PyProof.TupleCall
import PyProof.FString
import OpenK.KOwn
import KE.KTryMore
import PyProof.NsDelKeeps
import PyProof.StrBlock2
import PyProof.AutoListH
import KE.KIntText
import PyProof.Rows.StrIntSpec
import KE.KRevIter
import PyProof.StrWalks
import PyProof.CompUse
import PyProof.NeKinds
import PyProof.Rows.Range3
import PyProof.Rows.EnumRows
import PyProof.ConsumeWalk
import PyProof.Rows.SeqGen
import PyProof.StrLawsRepr
import PyProof.ZipIter
import PyProof.Rows.FactsT2
import PyProof.EnumMake
import PyProof.DictWalks
import PyProof.DictTruth
import PyProof.ListRange
import PyProof.ListStr
import PyProof.TupleOfGen
import PyProof.TupleOfSeq
import PyProof.MinMaxWalk
import PyProof.WalkInts
import KE.KSortAsk
import PyProof.MeetsSeq3
import KE.KRevSl
import PyProof.Rows.SeqMore
import PyProof.ListMulRoad
import PyProof.Rows.SumAny
import PyProof.SeqI3
import PyProof.AttrMissSeq
import KE.KDictOf
import PyProof.Rows.StrCut
import PyProof.Rows.StrSplitCount
import PyProof.DictItems
import PySem.Challenge.RW_cosetyard_k42_first_wrong_row
-- CHANGE:your row's module here,as the last of these rows
set_option Elab.async false
set_option linter.all false
set_option maxRecDepth 100000
namespace L2
open PySem PySem.Spec PyProof.Rows
abbrev Key:=Sum Int Str
def keyIs:Key->Value->Bool
 | .inl k,v=>Value.isInt k v
 | .inr x,v=>Value.isStrOf x v
def keyH (w:World):Key->Int
 | .inl k=>hashInt k
 | .inr x=>hashStr w x
theorem keyIs_shape:∀{k:Key} {v:Value},keyIs k v=true->(∃ i t,k=Sum.inl i/\v=Value.int i t)\/(∃ x t,k=Sum.inr x/\v=Value.str x t)
 | .inl i,v,h=>by
   obtain⟨t,e⟩:=Value.isInt_shape (k:=i) (v:=v) h
   exact .inl ⟨i,t,rfl,e⟩
 | .inr x,v,h=>by
   obtain⟨t,e⟩:=Value.isStrOf_shape (x:=x) (v:=v) h
   exact .inr ⟨x,t,rfl,e⟩
theorem keyIs_int (i:Int)(t:Tok):keyIs (.inl i) (.int i t)=true:=by simp[keyIs,Value.isInt]
theorem keyIs_str (x:Str)(t:Tok):keyIs (.inr x) (.str x t)=true:=by simp[keyIs,Value.isStrOf]
theorem key_ll (a b:Int):decide ((Sum.inl a:Key)=Sum.inl b)=(a==b):=by
 by_cases e:a=b
 ·subst e;simp
 ·have h:¬ (Sum.inl a:Key)=Sum.inl b:=fun q=>e (Sum.inl.inj q)
  rw[decide_eq_false h]
  exact(beq_eq_false_iff_ne.mpr e).symm
theorem key_rr (a b:Str):decide ((Sum.inr a:Key)=Sum.inr b)=decide (a=b):=by
 by_cases e:a=b
 ·subst e;simp
 ·have h:¬ (Sum.inr a:Key)=Sum.inr b:=fun q=>e (Sum.inr.inj q)
  rw[decide_eq_false h,decide_eq_false e]
theorem key_lr (a:Int)(b:Str):decide ((Sum.inl a:Key)=Sum.inr b)=false:=decide_eq_false (fun q=>nomatch q)
theorem key_rl (a:Str)(b:Int):decide ((Sum.inr a:Key)=Sum.inl b)=false:=decide_eq_false (fun q=>nomatch q)
def mixKind (prog:Program)(w:World):PySem.KeyKind prog w Key where
 is:=keyIs
 hash:=keyH w
 inj:=fun v a b ha hb=>by
  rcases keyIs_shape ha with ⟨i,t,rfl,rfl⟩ | ⟨x,t,rfl,rfl⟩
  ·rcases keyIs_shape hb with ⟨j,u,rfl,e⟩ | ⟨y,u,rfl,e⟩
   ·injection e with e1 _;rw[e1]
   ·exact nomatch e
  ·rcases keyIs_shape hb with ⟨j,u,rfl,e⟩ | ⟨y,u,rfl,e⟩
   ·exact nomatch e
   ·injection e with e1 _;rw[e1]
 byValue:=fun k v h=>by
  rcases keyIs_shape h with ⟨i,t,rfl,rfl⟩ | ⟨x,t,rfl,rfl⟩ <;> rfl
 pyHash:=fun hv h=>by
  rcases keyIs_shape hv with ⟨i,t,rfl,rfl⟩ | ⟨x,t,rfl,rfl⟩
  ·exact wpAny_pyHash_int h
  ·exact wpAny_pyHash_str h
 eqBool:=fun hu hv h=>by
  rcases keyIs_shape hu with ⟨i,t,rfl,rfl⟩ | ⟨x,t,rfl,rfl⟩
  ·rcases keyIs_shape hv with ⟨j,u,rfl,rfl⟩ | ⟨y,u,rfl,rfl⟩
   ·rw[key_ll] at h;exact wpAny_eqBool_int h
   ·rw[key_lr] at h;exact SeqAt.EqAt.int_str i t y u _ _ _ _ h
  ·rcases keyIs_shape hv with ⟨j,u,rfl,rfl⟩ | ⟨y,u,rfl,rfl⟩
   ·rw[key_rl] at h;exact SeqAt.EqAt.str_int x t j u _ _ _ _ h
   ·rw[key_rr] at h;exact wpAny_eqBool_str h
 «strs»:=fun k x t v h=>by
  rcases keyIs_shape h with ⟨i,u,rfl,e⟩ | ⟨y,u,rfl,e⟩
  ·exact nomatch e
  ·injection e with e1 _
   subst e1
   cases v <;> rfl
theorem mixKind_int (prog:Program)(w:World)(i:Int)(t:Tok):(mixKind prog w).is (.inl i) (.int i t)=true:=keyIs_int i t
theorem mixKind_str (prog:Program)(w:World)(x:Str)(t:Tok):(mixKind prog w).is (.inr x) (.str x t)=true:=keyIs_str x t
end L2
namespace L2
open PySem PySem.Spec PyProof.Rows
inductive V where
 | non | bl (b:Bool) | int (i:Int) | str (x:Str) | byt (b:Array UInt8) | flt (b:UInt64) | ref (a:Addr) | ty (n:String)
 deriving DecidableEq
def RelV:V->Value->Prop
 | .non,u=>u=Value.none
 | .bl b,u=>u=Value.bool b
 | .int i,u=>∃ t,u=Value.int i t
 | .str x,u=>∃ t,u=Value.str x t
 | .byt b,u=>∃ t,u=Value.bytes b t
 | .flt b,u=>∃ t,u=Value.float b t
 | .ref a,u=>u=Value.ref a
 | .ty n,u=>u=Value.type n
abbrev Vals:List V->List Value->Prop:=Paired RelV
theorem Vals.length {xs:List V}{us:List Value}(r:Vals xs us):xs.length=us.length:=Paired.length r
theorem Vals.get:∀{xs:List V} {us:List Value} {i:Nat} {x:V},Vals xs us->xs[i]?=some x->∃ u,us[i]?=some u/\RelV x u
 | _,_,_,_,.nil,e=>by simp at e
 | _,_,0,_,.cons r _,e=>by simp at e;subst e;exact⟨_,rfl,r⟩
 | _,_,i+ 1,x,.cons _ t,e=>by
   obtain⟨u,h1,h2⟩:=Vals.get (i:=i) (x:=x) t (by simpa using e)
   exact⟨u,by simpa using h1,h2⟩
theorem Vals.set {x:V}{u:Value}(r:RelV x u):∀{xs:List V} {us:List Value} (i:Nat),Vals xs us->Vals (xs.set i x) (us.set i u)
 | _,_,_,.nil=>.nil
 | _,_,0,.cons _ t=>.cons r t
 | _,_,i+ 1,.cons q t=>.cons q (Vals.set r i t)
theorem Vals.append:∀{xs ys:List V} {us ws:List Value},Vals xs us->Vals ys ws->Vals (xs++ys) (us++ws)
 | _,_,_,_,.nil,s=>s
 | _,_,_,_,.cons r t,s=>.cons r (Vals.append t s)
theorem Vals.take:∀{xs:List V} {us:List Value} (n:Nat),Vals xs us->Vals (xs.take n) (us.take n)
 | _,_,0,_=>.nil
 | _,_,_+ 1,.nil=>.nil
 | _,_,n+ 1,.cons r t=>.cons r (Vals.take n t)
theorem Vals.drop:∀{xs:List V} {us:List Value} (n:Nat),Vals xs us->Vals (xs.drop n) (us.drop n)
 | _,_,0,r=>r
 | _,_,_+ 1,.nil=>.nil
 | _,_,n+ 1,.cons _ t=>Vals.drop n t
theorem Vals.none_of:∀{xs:List V} {us:List Value} {i:Nat},Vals xs us->xs[i]?=none->us[i]?=none:=fun{xs us i} r e=>by
 have h1:=r.length
 have h2:xs.length<=i:=List.getElem?_eq_none_iff.mp e
 exact List.getElem?_eq_none_iff.mpr (by omega)
def RelO:Option V->Option Value->Prop
 | some v,some u=>RelV v u
 | none,none=>True
 | _,_=>False
def KV {κ:Type}:List (κ×V)->List (κ×Value)->Prop:=Paired fun(p:κ×V) (q:κ×Value)=>p.1=q.1/\RelV p.2 q.2
def kV:Key->V
 | .inl i=>.int i
 | .inr x=>.str x
inductive HO where
 /-- a list -/
 | lst (xs:List V)
 /-- a tuple (never changes) -/
 | tup (xs:List V)
 /-- a dict whose keys are ints and texts;one whose keys are tuples of ints and texts (the empty one is both) -/
 | dK (kvs:List (Key×V)) | dT (kvs:List (List Key×V))
 /-- a set of ints:its members,its size -/
 | set (S:Int->Bool) (n:Nat)
 /-- an instance of the class at C,its dict at dx,its attributes -/
 | ins (C dx:Addr) (fs:List (Str×V))
 /-- the dict of the instance at x -/
 | own (x:Addr)
 /-- the dict of an exception -/
 | xd (fs:List (Str×V))
 /-- a bound method,f of x -/
 | met (f x:Addr)
 /-- a range object lo,lo+ 1,.. below hi -/
 | rng (lo hi:Int)
 /-- a thing that is known to the object (the script;a dict while a loop walks it):read,never written while it is so -/
 | frz (o:Obj) (u:HO)
 /-- a code object's table -/
 | tbl (ps:Array Value)
 /-- any other thing,by what is true of its one object (a def of one's own:SetO a S n:=HO.ext fun h=>..) -/
 | ext (φ:Heap->Prop)
abbrev Hp:=Addr->Option HO
def upd (H:Hp)(a:Addr)(o:HO):Hp:=fun b=>if b=a then some o else H b
theorem upd_same {H:Hp}{a:Addr}{o:HO}:upd H a o a=some o:=by unfold upd;rw[if_pos rfl]
theorem upd_ne {H:Hp}{a b:Addr}{o:HO}(h:b≠a):upd H a o b=H b:=by unfold upd;rw[if_neg h]
theorem ne_of {H:Hp}{a b:Addr}{o u:HO}(h:H a=some o)(h':H b=some u)(d:o≠u):a≠b:=by
 intro e;subst e;rw[h] at h';exact d (Option.some.inj h')
theorem ne_of_none {H:Hp}{a b:Addr}{o:HO}(h:H a=some o)(h':H b=none):a≠b:=by
 intro e;subst e;rw[h] at h';cases h'
section
variable (P:Program) (w:World)
def ObjOk (H:Hp)(h:Heap)(a:Addr):HO->Prop
 | .lst xs=>xs.length<=sizeLine/\∃(its:List Value) (n:Nat),Vals xs its/\h.get? a=some { cls:=.type "list",data:=.seq its.toArray n }
 | .tup xs=>xs.length<=sizeLine/\∃ its:List Value,Vals xs its/\IsTup h a its.toArray
 | .dK kvs=>kvs.length<=sizeLine/\(a==sysModules)=false/\∃ vs,KV kvs vs/\h.DictOf (mixKind P w) a vs
 | .dT kvs=>kvs.length<=sizeLine/\(a==sysModules)=false/\∃ xs:List (List Key×Addr×Value),
  Paired (fun(p:List Key×V) (q:List Key×Addr×Value)=>p.1=q.1/\H q.2.1=some (.tup (p.1.map kV))/\RelV p.2 q.2.2) kvs xs/\
  ∃ o es ep,h.get? a=some o/\o.ExactDict/\o.data=.dict es ep/\es.toList=xs.map (entryOfKey (tupleKind (mixKind P w)))/\(xs.map (·.1)).Nodup
 | .set S n=>h.SetOf (intKind P w) a S n
 | .ins C dx fs=>H dx=some (.own a)/\fs.length<=1000/\dx≠a/\h.get? a=some (PySem.W.instObj C dx)/\
  ∃ mA,h.Ns1 dx mA/\(∀ f,RelO (fs.lookup f) (mA f))/\PySem.Within mA (fs.map (·.1))
 | .own _=>∃ o,h.get? a=some o
 | .xd fs=>∃ mA,h.Ns1 a mA/\∀ f,RelO (fs.lookup f) (mA f)
 | .rng lo hi=>∃ t u v,h.get? a=some { cls:=.type "range",data:=.fields #[.int lo t,.int hi u,.int 1 v] }
 | .frz o u=>h.get? a=some o/\ObjOk H h a u
 | .tbl ps=>h.get? a=some { cls:=.none,data:=.fields ps }
 | .met f x=>h.get? a=some (PySem.W.methodObj (.ref f) (.ref x))
 | .ext φ=>φ h/\(∃ o,h.get? a=some o)/\∀ h1 h2:Heap,φ h1->(∀ o,h1.get? a=some o->h2.get? a=some o)->φ h2
def HOk (H:Hp)(h:Heap):Prop:=∀ a o,H a=some o->ObjOk P w H h a o
end
section
variable {P:Program} {w:World} {H H':Hp} {h h':Heap} {a:Addr} {o:HO}
theorem ObjOk.lt (x:ObjOk P w H h a o):a < h.objs.size:=by
 cases o with
 | lst xs=>obtain⟨_,_,_,_,e⟩:=x;exact Heap.lt_size e
 | tup xs=>obtain⟨_,_,_,p⟩:=x;exact p.lt
 | dK kvs=>obtain⟨_,_,_,_,o,_,_,e,_⟩:=x;exact Heap.lt_size e
 | dT kvs=>obtain⟨_,_,_,_,o,_,_,e,_⟩:=x;exact Heap.lt_size e
 | set S n=>obtain⟨o,_,_,_,e,_⟩:=x;exact Heap.lt_size e
 | ins C dx fs=>obtain⟨_,_,_,e,_⟩:=x;exact Heap.lt_size e
 | own y=>obtain⟨_,e⟩:=x;exact Heap.lt_size e
 | xd fs=>obtain⟨_,⟨_,_,_,e,_⟩,_⟩:=x;exact Heap.lt_size e
 | rng lo hi=>obtain⟨_,_,_,e⟩:=x;exact Heap.lt_size e
 | frz ob u=>obtain⟨e,_⟩:=x;exact Heap.lt_size e
 | tbl ps=>exact Heap.lt_size (show h.get? a=some _ from x)
 | met f y=>exact Heap.lt_size (show h.get? a=some _ from x)
 | ext φ=>obtain⟨_,⟨_,e⟩,_⟩:=x;exact Heap.lt_size e
theorem Paired.mapP {α β:Type}{F G:α->β->Prop}:∀{l₁:List α} {l₂:List β},Paired F l₁ l₂->(∀ a b,F a b->G a b)->Paired G l₁ l₂
 | _,_,.nil,_=>.nil
 | _,_,.cons r t,f=>.cons (f _ _ r) (Paired.mapP t f)
theorem ObjOk.stay (x:ObjOk P w H h a o)(k:∀ b u,(b=a\/H b=some (.own a))->h.get? b=some u->h'.get? b=some u)
 (ho:∀ b,H b=some (.own a)->H' b=some (.own a)) (ht:∀ b xs,H b=some (.tup xs)->H' b=some (.tup xs)):ObjOk P w H' h' a o:=by
 induction o with
 | lst xs=>obtain⟨z,its,n,r,e⟩:=x;exact⟨z,its,n,r,k _ _ (.inl rfl) e⟩
 | tup xs=>obtain⟨z,its,r,ob,e,c⟩:=x;exact⟨z,its,r,ob,k _ _ (.inl rfl) e,c⟩
 | dK kvs=>obtain⟨z,y,vs,r,ob,es,ep,e,c⟩:=x;exact⟨z,y,vs,r,ob,es,ep,k _ _ (.inl rfl) e,c⟩
 | dT kvs=>
   obtain⟨z,y,xs,r,ob,es,ep,e,c⟩:=x
   exact⟨z,y,xs,Paired.mapP r fun p q z=>⟨z.1,ht _ _ z.2.1,z.2.2⟩,ob,es,ep,k _ _ (.inl rfl) e,c⟩
 | set S n=>obtain⟨ob,es,ep,t,e,c⟩:=x;exact⟨ob,es,ep,t,k _ _ (.inl rfl) e,c⟩
 | ins C dx fs=>
   obtain⟨d,z,ne,e,mA,⟨od,es,ep,e2,c⟩,r⟩:=x
   exact⟨ho _ d,z,ne,k _ _ (.inl rfl) e,mA,⟨od,es,ep,k _ _ (.inr d) e2,c⟩,r⟩
 | own y=>obtain⟨ob,e⟩:=x;exact⟨ob,k _ _ (.inl rfl) e⟩
 | xd fs=>obtain⟨mA,⟨od,es,ep,e,c⟩,r⟩:=x;exact⟨mA,⟨od,es,ep,k _ _ (.inl rfl) e,c⟩,r⟩
 | rng lo hi=>obtain⟨t,u,v,e⟩:=x;exact⟨t,u,v,k _ _ (.inl rfl) e⟩
 | frz ob u ih=>obtain⟨e,q⟩:=x;exact⟨k _ _ (.inl rfl) e,ih q⟩
 | tbl ps=>
   have e:h.get? a=some { cls:=.none,data:=.fields ps }:=x
   show h'.get? a=some { cls:=.none,data:=.fields ps }
   exact k a _ (.inl rfl) e
 | met f y=>
   have e:h.get? a=some (PySem.W.methodObj (.ref f) (.ref y)):=x
   show h'.get? a=some (PySem.W.methodObj (.ref f) (.ref y))
   exact k a _ (.inl rfl) e
 | ext φ=>obtain⟨p,⟨o,e⟩,st⟩:=x;exact⟨st _ _ p fun o q=>k _ _ (.inl rfl) q,⟨o,k _ _ (.inl rfl) e⟩,st⟩
theorem HOk.lt (x:HOk P w H h)(e:H a=some o):a < h.objs.size:=(x a o e).lt
theorem HOk.fresh (x:HOk P w H h)(e:h.objs.size<=a):H a=none:=by
 cases q:H a with
 | none=>rfl
 | some u=>exact absurd (Nat.lt_of_lt_of_le (x.lt q) e) (Nat.lt_irrefl _)
theorem HOk.kept (x:HOk P w H h)(k:∀ b u,h.get? b=some u->h'.get? b=some u):HOk P w H h':=fun a o e=>
 (x a o e).stay (fun b u _ q=>k b u q) (fun _ q=>q) fun _ _ q=>q
theorem HOk.laid (x:HOk P w H h)(k:∀ b u,h.get? b=some u->h'.get? b=some u)(hp:h.objs.size<=a)(new:ObjOk P w (upd H a o) h' a o):HOk P w (upd H a o) h':=fun b u e=>by
 have hn:=x.fresh hp
 by_cases hb:b=a
 ·subst hb;rw[upd_same] at e;cases e;exact new
 ·rw[upd_ne hb] at e
  exact(x b u e).stay (fun c v _ q=>k c v q) (fun c q=>by rw[upd_ne (ne_of_none q hn)];exact q) fun c xs q=>by rw[upd_ne (ne_of_none q hn)];exact q
end
def Rd (H:Hp)(a:Addr)(u:HO):Prop:=H a=some u\/∃ o,H a=some (.frz o u)
theorem Rd.of {H:Hp}{a:Addr}{u:HO}(h:H a=some u):Rd H a u:=.inl h
theorem Rd.ok {P:Program}{w:World}{H:Hp}{h:Heap}{a:Addr}{u:HO}(r:Rd H a u)(x:HOk P w H h):ObjOk P w H h a u:=by
 rcases r with r | ⟨o,r⟩
 ·exact x a u r
 ·obtain⟨_,q⟩:=x a _ r
  exact q
def Mut:Option HO->Prop
 | some (.lst _)=>True
 | some (.dK _)=>True
 | some (.dT _)=>True
 | some (.set _ _)=>True
 | some (.ins _ _ _)=>True
 | some (.ext _)=>True
 | _=>False
section
variable {P:Program} {w:World} {H:Hp} {h h':Heap} {x e:Addr} {o':HO}
theorem HOk.write (ok:HOk P w H h)(mu:Mut (H x))(he:e=x\/H e=some (.own x))(k:∀ b u,b≠e->h.get? b=some u->h'.get? b=some u)(heo:∃ u,h'.get? e=some u)
 (new:ObjOk P w (upd H x o') h' x o'):HOk P w (upd H x o') h':=fun b u q=>by
 have nown:∀ c y,H c=some (.own y)->c≠x:=fun c y r z=>by subst z;rw[r] at mu;exact mu
 have ntup:∀ c xs,H c=some (.tup xs)->c≠x:=fun c xs r z=>by subst z;rw[r] at mu;exact mu
 by_cases hb:b=x
 ·subst hb;rw[upd_same] at q;cases q;exact new
 ·rw[upd_ne hb] at q
  by_cases hbe:b=e
  ·have q':H b=some (.own x):=by
    rcases he with z | z
    ·exact absurd (hbe.trans z) hb
    ·rw[hbe];exact z
   rw[q] at q';cases q'
   obtain⟨v,hv⟩:=heo
   exact⟨v,by rw[hbe];exact hv⟩
  ·refine(ok b u q).stay (fun c v hc r=>k c v ?_ r) (fun c r=>by rw[upd_ne (nown c b r)];exact r) fun c xs r=>by rw[upd_ne (ntup c xs r)];exact r
   rcases hc with rfl | hc
   ·exact hbe
   ·rintro rfl
    rcases he with z | z
    ·exact nown c b hc z
    ·rw[hc] at z;cases z;exact hb rfl
end
structure Un (fs ex:List Addr) (H H':Hp) (h h':Heap):Prop where
 keep:∀ b o,h.get? b=some o->H b=none->b∉fs->b∉ex->h'.get? b=some o
 slot:∀ b o,h.get? b=some o->H b=none->b∈fs->b∉ex->∃ sl,h'.get? b=some { o with slots:=sl }
 free:∀ b o,h.get? b=some o->H b=none->b∉ex->H' b=none
 there:∀ b o,h.get? b=some o->b∉ex->∃ o',h'.get? b=some o'
 tups:∀ b xs,H b=some (.tup xs)->H' b=some (.tup xs)
 frzs:∀ b o u,H b=some (.frz o u)->H' b=some (.frz o u)
 tbls:∀ b ps,H b=some (.tbl ps)->∃ more,H' b=some (.tbl (ps++more))
section
variable {fs fs' ex ex':List Addr} {H H1 H2:Hp} {h h1 h2 h':Heap} {a x e:Addr} {o:HO}
theorem Un.any (u:Un fs ex H H1 h h1){b:Addr}{ob:Obj}(q:h.get? b=some ob)(n:H b=none)(hx:b∉ex):∃ sl,h1.get? b=some { ob with slots:=sl }:=by
 by_cases hb:b∈fs
 ·exact u.slot b ob q n hb hx
 ·exact⟨ob.slots,u.keep b ob q n hb hx⟩
theorem Un.trans (a:Un fs ex H H1 h h1)(b:Un fs ex H1 H2 h1 h2):Un fs ex H H2 h h2 where
 keep:=fun c ob q n hc hx=>b.keep c ob (a.keep c ob q n hc hx) (a.free c ob q n hx) hc hx
 slot:=fun c ob q n hc hx=>by
  obtain⟨sl,e1⟩:=a.slot c ob q n hc hx
  obtain⟨sl',e2⟩:=b.slot c _ e1 (a.free c ob q n hx) hc hx
  exact⟨sl',e2⟩
 free:=fun c ob q n hx=>by
  obtain⟨o',e1⟩:=a.there c ob q hx
  exact b.free c o' e1 (a.free c ob q n hx) hx
 there:=fun c ob q hx=>by
  obtain⟨o',e1⟩:=a.there c ob q hx
  exact b.there c o' e1 hx
 tups:=fun c xs q=>b.tups c xs (a.tups c xs q)
 frzs:=fun c ob xs q=>b.frzs c ob xs (a.frzs c ob xs q)
 tbls:=fun c ps q=>by
  obtain⟨m1,e1⟩:=a.tbls c ps q
  obtain⟨m2,e2⟩:=b.tbls c _ e1
  exact⟨m1++m2,by rw[e2,Array.append_assoc]⟩
theorem Un.kept (k:∀ b u,h.get? b=some u->h'.get? b=some u):Un fs ex H H h h':=
 ⟨fun b ob q _ _ _=>k b ob q,fun b ob q _ _ _=>⟨ob.slots,k b ob q⟩,fun _ _ _ n _=>n,fun b ob q _=>⟨ob,k b ob q⟩,fun _ _ q=>q,fun _ _ _ q=>q,fun _ ps q=>⟨#[],by rw[q];simp⟩⟩
theorem Un.refl:Un fs ex H H h h:=Un.kept fun _ _ q=>q
theorem Un.laid (k:∀ b u,h.get? b=some u->h'.get? b=some u)(hp:h.objs.size<=a)(hn:H a=none):Un fs ex H (upd H a o) h h' where
 keep:=fun b u q _ _ _=>k b u q
 slot:=fun b u q _ _ _=>⟨u.slots,k b u q⟩
 free:=fun b u q n _=>by rw[upd_ne (Nat.ne_of_lt (Nat.lt_of_lt_of_le (Heap.lt_size q) hp))];exact n
 there:=fun b u q _=>⟨u,k b u q⟩
 tups:=fun b xs q=>by rw[upd_ne (ne_of_none q hn)];exact q
 frzs:=fun b u xs q=>by rw[upd_ne (ne_of_none q hn)];exact q
 tbls:=fun b ps q=>⟨#[],by rw[upd_ne (ne_of_none q hn),q];simp⟩
theorem Un.write (mu:Mut (H x))(he:e=x\/H e=some (.own x))(k:∀ b u,b≠e->h.get? b=some u->h'.get? b=some u)(heo:∃ u,h'.get? e=some u):Un fs ex H (upd H x o) h h':=by
 have hx:∀ b,H b=none->b≠x:=fun b n z=>by subst z;rw[n] at mu;exact mu
 have hb:∀ b,H b=none->b≠e:=fun b n z=>by
  subst z
  rcases he with r | r
  ·exact hx b n r
  ·rw[n] at r;cases r
 have hm:∀ b u,H b=some u->¬ Mut (some u)->b≠x:=fun b u q nm z=>by subst z;rw[q] at mu;exact nm mu
 refine⟨fun b u q n _ _=>k b u (hb b n) q,fun b u q n _ _=>⟨u.slots,k b u (hb b n) q⟩,fun b u q n _=>by rw[upd_ne (hx b n)];exact n,fun b u q _=>?_,
  fun b xs q=>by rw[upd_ne (hm b _ q fun z=>z)];exact q,fun b u xs q=>by rw[upd_ne (hm b _ q fun z=>z)];exact q,fun b ps q=>⟨#[],by rw[upd_ne (hm b _ q fun z=>z),q];simp⟩⟩
 by_cases hbe:b=e
 ·subst hbe;exact heo
 ·exact⟨u,k b u hbe q⟩
theorem Un.mono (u:Un fs ex H H1 h h1)(hs:∀ b∈fs,b∈fs')(hx:∀ b∈ex,b∈ex'):Un fs' ex' H H1 h h1:=
 ⟨fun b ob q n hb he=>u.keep b ob q n (fun z=>hb (hs b z)) fun z=>he (hx b z),fun _ _ q n _ he=>u.any q n fun z=>he (hx _ z),fun b ob q n he=>u.free b ob q n fun z=>he (hx b z),fun b ob q he=>u.there b ob q fun z=>he (hx b z),u.tups,u.frzs,u.tbls⟩
end
def trk (h:Heap)(H:Hp):List Addr:=(List.range h.objs.size).filter fun a=>(H a).isSome
def hidT (h:Heap)(H:Hp):Heap:=PySem.W.hideAll h (trk h H)
theorem hidT_size (h:Heap)(H:Hp):(hidT h H).objs.size=h.objs.size:=PySem.W.hideAll_size _ _
theorem hidT_get {h:Heap}{H:Hp}{b:Addr}{o:Obj}(e:h.get? b=some o)(n:H b=none):(hidT h H).get? b=some o:=
 PySem.W.hideAll_get _ e fun hm=>by
  have q:(H b).isSome=true:=(List.mem_filter.mp hm).2
  rw[n] at q;simp at q
theorem of_hidT {h:Heap}{H:Hp}{b:Addr}{o:Obj}(e:(hidT h H).get? b=some o):h.get? b=some o/\H b=none:=by
 have e':h.get? b=some o:=PySem.W.of_hideAll (trk h H) e
 refine⟨e',?_⟩
 cases q:H b with
 | none=>rfl
 | some x=>
   have hm:b∈trk h H:=List.mem_filter.mpr ⟨List.mem_range.mpr (Heap.lt_size e'),by simp[q]⟩
   have z:(hidT h H).get? b=none:=PySem.W.hideAll_none (trk h H) hm
   rw[z] at e;cases e
def allNews (g h:Heap)(L:Addr):List (Addr×Obj):=(List.range h.objs.size).filterMap fun a=>if a=L\/(g.get? a).isSome=true then none else (h.get? a).map fun o=>(a,o)
def rest (g h:Heap)(L d:Addr):List (Addr×Obj):=(allNews g h L).filter fun p=>decide (p.1≠d)
end L2
namespace L2
open PySem PySem.Spec PyProof.Rows
structure Mod (K:PySem.W.Frag) (mg:Str->Option Value) (base:Heap):Prop where
 kin:K.In base
 glob:base.Ns mainGlobals mg
 blt:∃ mb,base.Ns builtinsNs mb/\∀ x:Str,x≠"__name__"->mb x=bootBuiltins x
 nolimit:base.NoLimit
structure Cx where
 prog:Program
 w:World
 K:PySem.W.Frag
 mg:Str->Option Value
 base:Heap
 A:Around
 N:List Str
 s₀:Shared
 H₀:Hp
 env:Env
 outer:List Env
 stack:List Env
 ex:List Addr
 fn:Str->Bool
 calm:Bool
 pn:List (Addr×Obj)
 xe:Value->Shared->Prop
def frs (l:List Env):List Addr:=l.filterMap (·.frame)
abbrev Cx.fs (X:Cx):List Addr:=frs X.outer
def Vis (sc:Scope)(x:Str):Prop:=sc.names.lookup x=some .local\/sc.names.lookup x=some .cell\/sc.names.lookup x=some .free
def Loc (sc:Scope)(x:Str):Prop:=sc.names.lookup x=some .local\/sc.names.lookup x=some .cell
def Look (env:Env)(h:Heap)(m:Str->Option Value)(x:Str)(u:Value):Prop:=
 (env.kindOf x=some .local/\m x=some u)\/((env.kindOf x=some .cell\/env.kindOf x=some .free)/\∃ c,env.cells.lookup x=some c/\h.IsCell c (some u))
structure Cx.Ok (X:Cx):Prop where
 mod:Mod X.K X.mg X.base
 kind:X.env.scope.kind=.function
 glob:X.env.globals=mainGlobals
 blt:X.env.builtins=builtinsNs
 above:X.s₀.heap.objs.size<=X.env.locals
 inj:∀ x y c,X.env.cells.lookup x=some c->X.env.cells.lookup y=some c->x=y
 has:∀ x,(X.env.kindOf x=some .cell\/X.env.kindOf x=some .free)->∃ c,X.env.cells.lookup x=some c
 cab:∀ x c,X.fn x=true->X.env.cells.lookup x=some c->X.s₀.heap.objs.size<=c
 hd:X.calm=true->X.A.handled=none
 frames:X.A.frames=some X.stack
 stk:X.stack=X.outer\/(X.stack=X.env :: X.outer/\X.env.frame=some X.env.locals)
 exf:∀ b∈X.ex,b≠X.env.locals/\∀ x c,X.env.cells.lookup x=some c->c≠b
 bs:∀ b o,X.base.get? b=some o->X.s₀.heap.get? b=some o/\X.H₀ b=none
 bsz:X.base.objs.size<=X.s₀.heap.objs.size
 noex:∀ b o,X.base.get? b=some o->b∉X.ex
 exfs:∀ b∈X.ex,b∉X.fs
 funs:X.s₀.heap.FunFrames X.base X.outer
 frf:∀ b∈X.fs,X.H₀ b=none
structure Inv (X:Cx) (pins:List (Addr×Obj)) (σ:List (Option V)) (H:Hp) (s:Shared):Prop where
 ok:X.Ok
 os:s.os=X.s₀.os
 bare:AllBare s.gens
 base:Un X.fs X.ex X.H₀ H X.s₀.heap s.heap
 loc:∃ m,s.heap.Ns X.env.locals m/\∀(i:Nat) (x:Str) (v:V),X.N[i]?=some x->σ[i]?=some (some v)->Vis X.env.scope x->∃ u,RelV v u/\Look X.env s.heap m x u
 cell:∀ x c,X.env.cells.lookup x=some c->∃ v,s.heap.IsCell c v
 free:H X.env.locals=none
 freeC:∀ x c,X.env.cells.lookup x=some c->H c=none
 pin:∀ p∈X.pn++pins,s.heap.get? p.1=some p.2/\H p.1=none/\p.1≠X.env.locals/\p.1∉X.fs/\∀ v,p.2.data≠.cell v
 hok:HOk X.prog X.w H s.heap
 len:σ.length=X.N.length
section
variable {X:Cx} {pins:List (Addr×Obj)} {σ:List (Option V)} {H H':Hp} {s:Shared} {h':Heap}
theorem Cx.Ok.nofr (ok:X.Ok){b:Addr}{o:Obj}(e:X.base.get? b=some o):b∉X.fs:=fun hb=>by
 have:=(ok.funs.mem hb).1
 rw[e] at this;cases this
theorem Inv.bs (I:Inv X pins σ H s):∀ b o,X.base.get? b=some o->s.heap.get? b=some o/\H b=none:=fun b o e=>
 ⟨I.base.keep b o (I.ok.bs b o e).1 (I.ok.bs b o e).2 (I.ok.nofr e) (I.ok.noex b o e),I.base.free b o (I.ok.bs b o e).1 (I.ok.bs b o e).2 (I.ok.noex b o e)⟩
theorem Inv.bk (I:Inv X pins σ H s):∀ b o,X.base.get? b=some o->s.heap.get? b=some o:=fun b o e=>(I.bs b o e).1
theorem Inv.mod (I:Inv X pins σ H s):Mod X.K X.mg X.base:=I.ok.mod
theorem Inv.kIn (I:Inv X pins σ H s):X.K.In s.heap:=I.ok.mod.kin.keeps I.bk
theorem Inv.nolimit (I:Inv X pins σ H s):s.heap.NoLimit:=I.ok.mod.nolimit.keeps I.bk
theorem Inv.fr (I:Inv X pins σ H s):∃ m,Fr X.base X.env.locals s.heap m:=
 let ⟨m,hn,_⟩:=I.loc
 ⟨m,hn,I.bk,Nat.le_trans I.ok.bsz I.ok.above⟩
theorem Inv.lt (I:Inv X pins σ H s):X.env.locals < s.heap.objs.size:=let ⟨_,hn,_⟩:=I.loc;hn.lt
theorem Inv.sz (I:Inv X pins σ H s):X.s₀.heap.objs.size<=s.heap.objs.size:=Nat.le_trans I.ok.above (Nat.le_of_lt I.lt)
theorem Inv.nofs (I:Inv X pins σ H s){a:Addr}(h:s.heap.objs.size<=a):a∉X.fs:=fun hb=>by
 obtain⟨_,o,ho,_⟩:=I.ok.funs.mem hb
 exact absurd (Nat.lt_of_lt_of_le (Heap.lt_size ho) (Nat.le_trans I.sz h)) (Nat.lt_irrefl _)
theorem Inv.cne (I:Inv X pins σ H s):∀ x c,X.env.cells.lookup x=some c->c≠X.env.locals:=fun x c e z=>by
 obtain⟨v,o,ho,hd⟩:=I.cell x c e
 obtain⟨m,⟨o',es,ep,ho',hd',_⟩,_⟩:=I.loc
 rw[z,ho'] at ho;cases ho;rw[hd'] at hd;cases hd
theorem Inv.funs (I:Inv X pins σ H s):s.heap.FunFrames X.base X.outer:=by
 have all:∀(l:List Env),(∀ b∈frs l,b∈X.fs)->X.s₀.heap.FunFrames X.base l->s.heap.FunFrames X.base l:=by
  intro l
  induction l with
  | nil=>intro _ _;trivial
  | cons env r ih=>
    intro hs hl
    obtain⟨hk,⟨L,o,hf,hn,ho,hd⟩,hr⟩:=hl
    have hL:L∈X.fs:=hs L (by unfold frs;rw[List.filterMap_cons,hf];exact List.mem_cons_self)
    obtain⟨sl,e⟩:=I.base.slot L o ho (I.ok.frf L hL) hL fun z=>I.ok.exfs L z hL
    exact⟨hk,⟨L,_,hf,hn,e,hd⟩,ih (fun b hb=>hs b (by unfold frs;rw[List.filterMap_cons,hf];exact List.mem_cons_of_mem _ hb)) hr⟩
 exact all X.outer (fun _ hb=>hb) I.ok.funs
theorem Inv.stack (I:Inv X pins σ H s):s.heap.FunFrames X.base X.stack:=by
 rcases I.ok.stk with e | ⟨e,hf⟩
 ·rw[e];exact I.funs
 ·rw[e]
  obtain⟨m,hn,_⟩:=I.loc
  refine .cons (by rw[I.ok.kind];decide) hf hn ?_ I.funs
  exact Heap.get?_none_of_le (Nat.le_trans I.ok.bsz I.ok.above)
theorem Inv.stkSub (I:Inv X pins σ H s):∀ b∈frs X.stack,b∈X.env.locals :: X.fs:=fun b hb=>by
 rcases I.ok.stk with e | ⟨e,hf⟩
 ·rw[e] at hb;exact List.mem_cons_of_mem _ hb
 ·rw[e] at hb
  unfold frs at hb
  rw[List.filterMap_cons,hf] at hb
  exact hb
theorem Inv.stkFree (I:Inv X pins σ H s):∀ b∈frs X.stack,H b=none:=fun b hb=>by
 rcases List.mem_cons.mp (I.stkSub b hb) with e | hb
 ·rw[e];exact I.free
 ·obtain⟨_,o,ho,_⟩:=I.ok.funs.mem hb
  exact I.base.free b o ho (I.ok.frf b hb) fun z=>I.ok.exfs b z hb
theorem Inv.step {g':Array GenState}{t':Nat}{d':Drawn}{ch:List Addr}(I:Inv X pins σ H s)
 (hch:∀ b∈ch,(b∈X.ex\/X.s₀.heap.objs.size<=b)/\b≠X.env.locals/\(∀ x c,X.env.cells.lookup x=some c->c≠b)/\∀ p∈X.pn++pins,p.1≠b)
 (keep:∀ b o,b≠X.env.locals->b∉X.fs->b∉ch->s.heap.get? b=some o->H b=none->h'.get? b=some o)
 (slot:∀ b o,b≠X.env.locals->b∈X.fs->b∉ch->s.heap.get? b=some o->H b=none->∃ sl,h'.get? b=some { o with slots:=sl }) (free:∀ b o,b∉ch->s.heap.get? b=some o->H b=none->H' b=none)
 (there:∀ b o,b∉ch->s.heap.get? b=some o->∃ o',h'.get? b=some o')
 (tups:∀ b xs,H b=some (.tup xs)->H' b=some (.tup xs)) (frzs:∀ b o u,H b=some (.frz o u)->H' b=some (.frz o u)) (tbls:∀ b ps,H b=some (.tbl ps)->∃ more,H' b=some (.tbl (ps++more)))
 (ns:∀ m,s.heap.Ns X.env.locals m->h'.Ns X.env.locals m) (hok:HOk X.prog X.w H' h') (hg:AllBare g'):
 Inv X pins σ H' { s with heap:=h',gens:=g',drawn:=d',toks:=t' }:=by
 have neL:∀ b o,X.s₀.heap.get? b=some o->b≠X.env.locals:=fun b o e=>Nat.ne_of_lt (Nat.lt_of_lt_of_le (Heap.lt_size e) I.ok.above)
 have neC:∀ b o,X.s₀.heap.get? b=some o->b∉X.ex->b∉ch:=fun b o e hx hb=>by
  rcases (hch b hb).1 with z | z
  ·exact hx z
  ·exact absurd (Nat.lt_of_lt_of_le (Heap.lt_size e) z) (Nat.lt_irrefl _)
 have cellK:∀ x c,X.env.cells.lookup x=some c->∀ v,s.heap.IsCell c v->h'.IsCell c v:=fun x c e v ⟨o,ho,hd⟩=>by
  have nch:c∉ch:=fun z=>(hch c z).2.2.1 x c e rfl
  by_cases hc:c∈X.fs
  ·obtain⟨sl,q⟩:=slot c o (I.cne x c e) hc nch ho (I.freeC x c e)
   exact⟨_,q,hd⟩
  ·exact⟨o,keep c o (I.cne x c e) hc nch ho (I.freeC x c e),hd⟩
 refine⟨I.ok,I.os,hg,⟨fun b o e n hb hx=>?_,fun b o e n hb hx=>?_,fun b o e n hx=>?_,fun b o e hx=>?_,fun b xs e=>tups b xs (I.base.tups b xs e),fun b o xs e=>frzs b o xs (I.base.frzs b o xs e),fun b ps e=>?_⟩,?_,fun x c e=>?_,?_,fun x c e=>?_,fun p hp=>?_,hok,I.len⟩
 ·exact keep b o (neL b o e) hb (neC b o e hx) (I.base.keep b o e n hb hx) (I.base.free b o e n hx)
 ·obtain⟨sl,e1⟩:=I.base.slot b o e n hb hx
  obtain⟨sl',e2⟩:=slot b _ (neL b o e) hb (neC b o e hx) e1 (I.base.free b o e n hx)
  exact⟨sl',e2⟩
 ·obtain⟨o',e1⟩:=I.base.there b o e hx
  exact free b o' (neC b o e hx) e1 (I.base.free b o e n hx)
 ·obtain⟨o',e1⟩:=I.base.there b o e hx
  exact there b o' (neC b o e hx) e1
 ·obtain⟨m1,e1⟩:=I.base.tbls b ps e
  obtain⟨m2,e2⟩:=tbls b _ e1
  exact⟨m1++m2,by rw[e2,Array.append_assoc]⟩
 ·obtain⟨m,hn,hl⟩:=I.loc
  refine⟨m,ns m hn,fun i x v e1 e2 e3=>?_⟩
  obtain⟨u,r,l⟩:=hl i x v e1 e2 e3
  refine⟨u,r,?_⟩
  rcases l with l | ⟨k,c,e,z⟩
  ·exact .inl l
  ·exact .inr ⟨k,c,e,cellK x c e _ z⟩
 ·obtain⟨v,z⟩:=I.cell x c e
  exact⟨v,cellK x c e v z⟩
 ·obtain⟨m,⟨o,_,_,ho,_⟩,_⟩:=I.loc
  exact free _ o (fun z=>(hch _ z).2.1 rfl) ho I.free
 ·obtain⟨v,o,ho,hd⟩:=I.cell x c e
  exact free c o (fun z=>(hch c z).2.2.1 x c e rfl) ho (I.freeC x c e)
 ·obtain⟨e,n,ne,nf,d⟩:=I.pin p hp
  have nch:p.1∉ch:=fun z=>(hch p.1 z).2.2.2 p hp rfl
  exact⟨keep p.1 p.2 ne nf nch e n,free p.1 p.2 nch e n,ne,nf,d⟩
theorem Inv.un {t':Nat}(I:Inv X pins σ H s)(u:Un X.fs [] H H' s.heap h')(hok:HOk X.prog X.w H' h'):Inv X pins σ H' { s with heap:=h',toks:=t' }:=by
 obtain⟨m,⟨o,es,ep,ho,r⟩,_⟩:=id I.loc
 obtain⟨sl,hL⟩:=u.any ho I.free (by simp)
 exact I.step (g':=s.gens) (d':=s.drawn) (ch:=[]) (fun _ z=>nomatch z) (fun b o _ hb _ e n=>u.keep b o e n hb (by simp)) (fun b o _ hb _ e n=>u.slot b o e n hb (by simp)) (fun b o _ e n=>u.free b o e n (by simp)) (fun b o _ e=>u.there b o e (by simp)) u.tups u.frzs u.tbls (fun m' hm=>by
  obtain⟨o',es',ep',ho',r'⟩:=hm
  rw[ho] at ho';cases ho'
  exact⟨_,es',ep',hL,r'⟩) hok I.bare
theorem Inv.call {g':Array GenState}{t':Nat}{d':Drawn}{ch:List Addr}(I:Inv X pins σ H s)(u:Un (frs X.stack) ch H H' s.heap h')(hok:HOk X.prog X.w H' h')(hg:AllBare g')
 (hch:∀ b∈ch,(b∈X.ex\/X.s₀.heap.objs.size<=b)/\b≠X.env.locals/\(∀ x c,X.env.cells.lookup x=some c->c≠b)/\∀ p∈X.pn++pins,p.1≠b):
 Inv X pins σ H' { s with heap:=h',gens:=g',drawn:=d',toks:=t' }:=by
 obtain⟨m,⟨o,es,ep,ho,r⟩,_⟩:=id I.loc
 obtain⟨sl,hL⟩:=u.any ho I.free fun z=>(hch _ z).2.1 rfl
 exact I.step (ch:=ch) hch (fun b o hL hb hc e n=>u.keep b o e n (fun z=>(List.mem_cons.mp (I.stkSub b z)).elim hL hb) hc) (fun b o _ _ hc e n=>u.any e n hc) (fun b o hc e n=>u.free b o e n hc) (fun b o hc e=>u.there b o e hc) u.tups u.frzs u.tbls (fun m' hm=>by
  obtain⟨o',es',ep',ho',r'⟩:=hm
  rw[ho] at ho';cases ho'
  exact⟨_,es',ep',hL,r'⟩) hok hg
theorem Inv.turned {t':Nat}{it:Addr}(I:Inv X pins σ H s)(k:∀ b o,b≠it->s.heap.get? b=some o->h'.get? b=some o)(hn:H it=none)(hL:it≠X.env.locals)
 (h1:it∈X.ex\/X.s₀.heap.objs.size<=it) (h2:∀ x c,X.env.cells.lookup x=some c->c≠it) (h3:∀ p∈X.pn++pins,p.1≠it):Inv X pins σ H { s with heap:=h',toks:=t' }:=by
 have nit:∀ b u,H b=some u->b≠it:=fun b u e z=>by rw[z,hn] at e;cases e
 refine I.step (g':=s.gens) (d':=s.drawn) (ch:=[it]) (fun b hb=>?_) (fun b o _ _ hc e _=>k b o (fun z=>hc (by simp[z])) e) (fun b o _ _ hc e _=>⟨o.slots,k b o (fun z=>hc (by simp[z])) e⟩) (fun _ _ _ _ n=>n)
  (fun b o hc e=>⟨o,k b o (fun z=>hc (by simp[z])) e⟩) (fun _ _ e=>e) (fun _ _ _ e=>e) (fun b ps e=>⟨#[],by rw[e];simp⟩) (fun m hm=>?_) (fun b u e=>?_) I.bare
 ·have e:b=it:=by simpa using hb
  subst e
  exact⟨h1,hL,h2,h3⟩
 ·obtain⟨o,es,ep,ho,r⟩:=hm
  exact⟨o,es,ep,k _ o (Ne.symm hL) ho,r⟩
 ·refine(I.hok b u e).stay (fun c v hc q=>k c v ?_ q) (fun _ q=>q) fun _ _ q=>q
  rcases hc with z | z
  ·rw[z];exact nit b u e
  ·exact nit c _ z
theorem Inv.tok (I:Inv X pins σ H s)(t:Nat):Inv X pins σ H { s with toks:=t }:=I.un (h':=s.heap) (t':=t) Un.refl I.hok
theorem Inv.kept {t':Nat}(I:Inv X pins σ H s)(k:∀ b u,s.heap.get? b=some u->h'.get? b=some u):Inv X pins σ H { s with heap:=h',toks:=t' }:=I.un (Un.kept k) (I.hok.kept k)
theorem Inv.laid {a:Addr}{o:HO}{t':Nat}(I:Inv X pins σ H s)(k:∀ b u,s.heap.get? b=some u->h'.get? b=some u)(hp:s.heap.objs.size<=a)(new:ObjOk X.prog X.w (upd H a o) h' a o):
 Inv X pins σ (upd H a o) { s with heap:=h',toks:=t' }:=I.un (Un.laid k hp (I.hok.fresh hp)) (I.hok.laid k hp new)
theorem Inv.write {x e:Addr}{o:HO}{t':Nat}(I:Inv X pins σ H s)(mu:Mut (H x))(he:e=x\/H e=some (.own x))(k:∀ b u,b≠e->s.heap.get? b=some u->h'.get? b=some u)(heo:∃ u,h'.get? e=some u)
 (new:ObjOk X.prog X.w (upd H x o) h' x o):Inv X pins σ (upd H x o) { s with heap:=h',toks:=t' }:=I.un (Un.write mu he k heo) (I.hok.write mu he k heo new)
theorem Inv.pins_of {pins':List (Addr×Obj)}(I:Inv X pins σ H s)(h:∀ p∈pins',s.heap.get? p.1=some p.2/\H p.1=none/\p.1≠X.env.locals/\p.1∉X.fs/\∀ v,p.2.data≠.cell v):Inv X pins' σ H s:=
 ⟨I.ok,I.os,I.bare,I.base,I.loc,I.cell,I.free,I.freeC,fun p hp=>(List.mem_append.mp hp).elim (fun z=>I.pin p (List.mem_append_left _ z)) (h p),I.hok,I.len⟩
theorem nodup_ix {N:List Str}(hN:N.Nodup){i j:Nat}{x:Str}(a:N[i]?=some x)(b:N[j]?=some x):i=j:=by
 obtain⟨h1,e1⟩:=List.getElem?_eq_some_iff.mp a
 obtain⟨h2,e2⟩:=List.getElem?_eq_some_iff.mp b
 exact(List.getElem_inj hN).mp (e1.trans e2.symm)
theorem store_ok2 {M:Model}{A:Around}{E:Value->Shared->Prop}{i:Nat}{x:Str}{v:V}{u:Value}{Q:Unit->Shared->Prop}(I:Inv X pins σ H s)(hN:X.N.Nodup)(hi:X.N[i]?=some x)(hx:Loc X.env.scope x)(r:RelV v u)
 (h:∀ s',Inv X pins (σ.set i (some v)) H s'->(∃ a,Heap.SameBut a s.heap s'.heap/\(a=X.env.locals\/X.env.cells.lookup x=some a))->Q () s') (hf:X.fn x=true\/X.env.scope.names.lookup x=some .local:=by first | exact .inl rfl | exact .inr rfl | assumption):wpAny M A (storeName X.env x u) Q E s:=by
 obtain⟨m,hn,hl⟩:=id I.loc
 have hcls:(X.env.scope.kind==.class || (X.env.scope.kind==.module && X.env.locals !=X.env.globals))=false:=by rw[I.ok.kind];rfl
 have hiσ:i < σ.length:=by rw[I.len];exact(List.getElem?_eq_some_iff.mp hi).1
 have cne:=I.cne
 have tracked:∀{a:Addr} {h':Heap},(∃ o,s.heap.get? a=some o/\H a=none)->Heap.SameBut a s.heap h'->HOk X.prog X.w H h':=fun{a h'} ha hs b ob e=>by
  obtain⟨_,_,hfree⟩:=ha
  refine(I.hok b ob e).stay (fun c w' hc q=>(hs.2 c ?_).trans q) (fun _ q=>q) fun _ _ q=>q
  rintro rfl
  rcases hc with rfl | hc
  ·rw[hfree] at e;cases e
  ·rw[hfree] at hc;cases hc
 rcases hx with hk | hk
 ·refine wpAny_storeName_local hk hn (fun h' hn' hs=>?_) hcls
  obtain⟨oL,_,_,hoL,_⟩:=id hn
  refine h _ ⟨I.ok,I.os,I.bare,⟨fun b o e n hb hx=>?_,fun b o e n hb hx=>?_,I.base.free,fun b o e hx=>?_,I.base.tups,I.base.frzs,I.base.tbls⟩,⟨_,hn',fun j y v' e1 e2 e3=>?_⟩,fun y c e=>?_,I.free,I.freeC,fun p hp=>?_,tracked ⟨oL,hoL,I.free⟩ hs,by simpa using I.len⟩ ⟨_,hs,.inl rfl⟩
  ·exact(hs.2 b (Nat.ne_of_lt (Nat.lt_of_lt_of_le (Heap.lt_size e) I.ok.above))).trans (I.base.keep b o e n hb hx)
  ·obtain⟨sl,e1⟩:=I.base.slot b o e n hb hx
   exact⟨sl,(hs.2 b (Nat.ne_of_lt (Nat.lt_of_lt_of_le (Heap.lt_size e) I.ok.above))).trans e1⟩
  ·obtain⟨o',e1⟩:=I.base.there b o e hx
   exact⟨o',(hs.2 b (Nat.ne_of_lt (Nat.lt_of_lt_of_le (Heap.lt_size e) I.ok.above))).trans e1⟩
  ·by_cases hj:j=i
   ·subst hj
    rw[hi] at e1;cases e1
    rw[List.getElem?_set_self hiσ] at e2
    cases e2
    exact⟨u,r,.inl ⟨hk,by simp⟩⟩
   ·rw[List.getElem?_set_ne (Ne.symm hj)] at e2
    obtain⟨u',r',q⟩:=hl j y v' e1 e2 e3
    refine⟨u',r',?_⟩
    rcases q with ⟨k,e⟩ | ⟨k,c,e,z⟩
    ·refine .inl ⟨k,?_⟩
     have:y≠x:=fun e=>hj (nodup_ix hN e1 (e ▸ hi))
     simp[this,e]
    ·exact .inr ⟨k,c,e,z.sameBut hs (cne y c e)⟩
  ·obtain⟨w',z⟩:=I.cell y c e
   exact⟨w',z.sameBut hs (cne y c e)⟩
  ·obtain⟨e,n,ne,nf,d⟩:=I.pin p hp
   exact⟨(hs.2 p.1 ne).trans e,n,ne,nf,d⟩
 ·have hfn:X.fn x=true:=by
   rcases hf with z | z
   ·exact z
   ·rw[z] at hk;cases hk
  obtain⟨c,hc⟩:=I.ok.has x (.inl hk)
  obtain⟨w',z⟩:=I.cell x c hc
  refine wpAny_storeName_cell I.ok.kind hk hc z (fun h' hc' hs=>?_)
  obtain⟨oc,hoc,hocd⟩:=id z
  refine h { s with heap:=h' } ⟨I.ok,I.os,I.bare,⟨fun b o e n hb hx=>?_,fun b o e n hb hx=>?_,I.base.free,fun b o e hx=>?_,I.base.tups,I.base.frzs,I.base.tbls⟩,⟨m,hn.sameBut hs (Ne.symm (cne x c hc)),fun j y v' e1 e2 e3=>?_⟩,fun y c' e=>?_,I.free,I.freeC,fun p hp=>?_,tracked ⟨oc,hoc,I.freeC x c hc⟩ hs,by simpa using I.len⟩ ⟨c,hs,.inr hc⟩
  ·exact(hs.2 b (Nat.ne_of_lt (Nat.lt_of_lt_of_le (Heap.lt_size e) (I.ok.cab x c hfn hc)))).trans (I.base.keep b o e n hb hx)
  ·obtain⟨sl,e1⟩:=I.base.slot b o e n hb hx
   exact⟨sl,(hs.2 b (Nat.ne_of_lt (Nat.lt_of_lt_of_le (Heap.lt_size e) (I.ok.cab x c hfn hc)))).trans e1⟩
  ·obtain⟨o',e1⟩:=I.base.there b o e hx
   exact⟨o',(hs.2 b (Nat.ne_of_lt (Nat.lt_of_lt_of_le (Heap.lt_size e) (I.ok.cab x c hfn hc)))).trans e1⟩
  ·by_cases hj:j=i
   ·subst hj
    rw[hi] at e1;cases e1
    rw[List.getElem?_set_self hiσ] at e2
    cases e2
    exact⟨u,r,.inr ⟨.inl hk,c,hc,hc'⟩⟩
   ·rw[List.getElem?_set_ne (Ne.symm hj)] at e2
    obtain⟨u',r',q⟩:=hl j y v' e1 e2 e3
    refine⟨u',r',?_⟩
    rcases q with q | ⟨k,c',e,z'⟩
    ·exact .inl q
    ·refine .inr ⟨k,c',e,z'.sameBut hs ?_⟩
     rintro rfl
     exact hj (nodup_ix hN e1 (I.ok.inj _ _ _ e hc ▸ hi))
  ·by_cases hcc:c'=c
   ·subst hcc;exact⟨_,hc'⟩
   ·obtain⟨w2,z2⟩:=I.cell y c' e
    exact⟨w2,z2.sameBut hs hcc⟩
  ·obtain⟨e,n,ne,nf,d⟩:=I.pin p hp
   refine⟨(hs.2 p.1 ?_).trans e,n,ne,nf,d⟩
   intro q
   rw[q,hoc] at e
   have q':oc=p.2:=Option.some.inj e
   exact d w' (by rw[← q'];exact hocd)
theorem store_ok {M:Model}{A:Around}{E:Value->Shared->Prop}{i:Nat}{x:Str}{v:V}{u:Value}{Q:Unit->Shared->Prop}(I:Inv X pins σ H s)(hN:X.N.Nodup)(hi:X.N[i]?=some x)(hx:Loc X.env.scope x)(r:RelV v u)
 (h:∀ s',Inv X pins (σ.set i (some v)) H s'->Q () s') (hf:X.fn x=true\/X.env.scope.names.lookup x=some .local:=by first | exact .inl rfl | exact .inr rfl | assumption):wpAny M A (storeName X.env x u) Q E s:=
 store_ok2 I hN hi hx r (fun s' I' _=>h s' I') hf
theorem Inv.call' {s':Shared}{ch:List Addr}(I:Inv X pins σ H s)(ho:s'.os=s.os)(u:Un (frs X.stack) ch H H' s.heap s'.heap)(hok:HOk X.prog X.w H' s'.heap)(hg:AllBare s'.gens)
 (hch:∀ b∈ch,(b∈X.ex\/X.s₀.heap.objs.size<=b)/\b≠X.env.locals/\(∀ x c,X.env.cells.lookup x=some c->c≠b)/\∀ p∈X.pn++pins,p.1≠b):Inv X pins σ H' s':=by
 obtain⟨h',g',d',t',o'⟩:=s'
 have e:o'=s.os:=ho
 subst e
 exact I.call (g':=g') (t':=t') (d':=d') u hok hg hch
end
abbrev XK:=Value->Option Addr->Hp->Prop
abbrev St:=List (Option V)
abbrev VK:=V->Hp->Prop
abbrev TE:=St->Hp->VK->Prop
abbrev TT:=St->Hp->(Bool->Hp->Prop)->Prop
abbrev TA:=St->Hp->(List V->Hp->Prop)->Prop
structure Ends where
 nx:St->Hp->Prop
 rt:VK
 bk:St->Hp->Prop:=fun _ _=>False
 ct:St->Hp->Prop:=fun _ _=>False
abbrev TS:=Ends->St->Hp->Prop
def EP (X:Cx)(pins:List (Addr×Obj))(σ:St)(Q:VK)(u:Value)(s':Shared):Prop:=∃ v H',Inv X pins σ H' s'/\RelV v u/\Q v H'
def TP (X:Cx)(pins:List (Addr×Obj))(σ:St)(Q:Bool->Hp->Prop)(b:Bool)(s':Shared):Prop:=∃ H',Inv X pins σ H' s'/\Q b H'
def AP (X:Cx)(pins:List (Addr×Obj))(σ:St)(Q:List V->Hp->Prop)(us:List Value)(s':Shared):Prop:=∃ vs H',Inv X pins σ H' s'/\Vals vs us/\Q vs H'
def SP (X:Cx)(pins:List (Addr×Obj))(D:Ends)(f:Flow)(s':Shared):Prop:=
 match f with
 | .next=>∃ σ' H',Inv X pins σ' H' s'/\D.nx σ' H'
 | .brk=>∃ σ' H',Inv X pins σ' H' s'/\D.bk σ' H'
 | .cont=>∃ σ' H',Inv X pins σ' H' s'/\D.ct σ' H'
 | .ret u=>∃ v σ' H',Inv X pins σ' H' s'/\RelV v u/\D.rt v H'
def PE (X:Cx)(e:Expr)(t:TE):Prop:=
 ∀(pins:List (Addr×Obj)) (s:Shared) (σ:St) (H:Hp) (Q:VK),Inv X pins σ H s->t σ H Q->wpAny (model X.prog X.w) X.A (eval e X.env) (EP X pins σ Q) X.xe s
def PT (X:Cx)(e:Expr)(t:TT):Prop:=
 ∀(pins:List (Addr×Obj)) (s:Shared) (σ:St) (H:Hp) (Q:Bool->Hp->Prop),Inv X pins σ H s->t σ H Q->wpAny (model X.prog X.w) X.A (isTrue e X.env (eval e X.env)) (TP X pins σ Q) X.xe s
def PW (X:Cx)(e:Expr)(t:TT):Prop:=
 ∀(whole:Sem Value) (pins:List (Addr×Obj)) (s:Shared) (σ:St) (H:Hp) (Q:Bool->Hp->Prop),Inv X pins σ H s->t σ H Q->wpAny (model X.prog X.w) X.A (isTrue e X.env whole) (TP X pins σ Q) X.xe s
theorem PW.pt {X:Cx}{e:Expr}{t:TT}(h:PW X e t):PT X e t:=h _
def PA (X:Cx)(es:List Expr)(t:TA):Prop:=
 ∀(pos:Pos) (pins:List (Addr×Obj)) (s:Shared) (σ:St) (H:Hp) (Q:List V->Hp->Prop),Inv X pins σ H s->t σ H Q->wpAny (model X.prog X.w) X.A (spliced (backTo pos (starEach es X.env))) (AP X pins σ Q) X.xe s
def PS (X:Cx)(st:Stmt)(t:TS):Prop:=
 ∀(pins:List (Addr×Obj)) (s:Shared) (σ:St) (H:Hp) (D:Ends),Inv X pins σ H s->t D σ H->wpAny (model X.prog X.w) X.A (exec st X.env) (SP X pins D) X.xe s
def PSs (X:Cx)(st:List Stmt)(t:TS):Prop:=
 ∀(pins:List (Addr×Obj)) (s:Shared) (σ:St) (H:Hp) (D:Ends),Inv X pins σ H s->t D σ H->wpAny (model X.prog X.w) X.A (execs st X.env) (SP X pins D) X.xe s
theorem thn {α:Type}{t:Sem α}{Q Q':α->Shared->Prop}{M:Model}{A:Around}{E:Value->Shared->Prop}{s:Shared}(h:wpAny M A t Q E s)(hQ:∀ a s,Q a s->Q' a s):wpAny M A t Q' E s:=wpAny_mono h hQ fun _ _ x=>x
end L2
namespace L2
open PySem PySem.Spec PyProof.Rows
section
variable {X:Cx}
def tVar (i:Nat):TE:=fun σ H Q=>∃ v,σ[i]?=some (some v)/\Q v H
def tC (v:V):TE:=fun _ H Q=>Q v H
theorem pe_var {i:Nat}{x:Str}{pos:Pos}(hN:X.N[i]?=some x)(hv:Vis X.env.scope x)(hd:(x==("__debug__":Str))=false:=by decide)(hcd:(x==("__classdict__":Str))=false:=by decide):PE X (.Name x pos) (tVar i):=by
 intro pins s σ H Q I h
 obtain⟨v,e,h⟩:=h
 obtain⟨m,hn,hl⟩:=I.loc
 obtain⟨u,r,l⟩:=hl i x v hN e hv
 have fin:EP X pins σ Q u s:=⟨v,H,I,r,h⟩
 rcases l with ⟨hk,hm⟩ | ⟨hk,c,hc,hcell⟩
 ·exact wpAny_Name (wpAny_loadName_local I.ok.kind hk hn hm fin) hd
 ·rcases hk with hk | hk
  ·exact wpAny_Name (wpAny_loadName_cell I.ok.kind hk hc hcell fin) hd
  ·exact wpAny_Name (wpAny_loadName_free I.ok.kind hk hc hcell fin hcd) hd
theorem pe_int {i j pos}:PE X (.Constant (.int i) j pos) (tC (.int i)):=fun _ _ _ H _ I h=>wpAny_Constant_int ⟨.int i,H,I.tok _,⟨_,rfl⟩,h⟩
theorem pe_bl {b j pos}:PE X (.Constant (.bool b) j pos) (tC (.bl b)):=fun _ _ _ H _ I h=>Constant_bool ⟨.bl b,H,I,rfl,h⟩
theorem pe_non {j pos}:PE X (.Constant .none j pos) (tC .non):=fun _ _ _ H _ I h=>Constant_none ⟨.non,H,I,rfl,h⟩
theorem pe_str {x j pos}:PE X (.Constant (.str x) j pos) (tC (.str x)):=fun _ _ _ H _ I h=>Calls.Constant_str ⟨.str x,H,I.tok _,⟨_,rfl⟩,h⟩
def Gl (X:Cx)(x:Str):Prop:=X.env.kindOf x=some .globalImplicit
theorem ld_glob {E:Value->Shared->Prop}{pins:List (Addr×Obj)}{s:Shared}{σ:St}{H:Hp}{x:Str}{u:Value}{pos:Pos}{Q:Value->Shared->Prop}(I:Inv X pins σ H s)(hg:Gl X x)(hm:X.mg x=some u)(h:Q u s)
 (hd:(x==("__debug__":Str))=false:=by decide):wpAny (model X.prog X.w) X.A (eval (.Name x pos) X.env) Q E s:=
 Calls.Name_function_global I.ok.kind hg (Calls.loadGlobal_global (by rw[I.ok.glob];exact I.mod.glob.keeps I.bk) hm h) hd
theorem ld_blt {E:Value->Shared->Prop}{pins:List (Addr×Obj)}{s:Shared}{σ:St}{H:Hp}{x:Str}{u:Value}{pos:Pos}{Q:Value->Shared->Prop}(I:Inv X pins σ H s)(hg:Gl X x)(hm:X.mg x=none)(hv:bootBuiltins x=some u)(h:Q u s)
 (hn:x≠"__name__":=by decide) (hd:(x==("__debug__":Str))=false:=by decide):wpAny (model X.prog X.w) X.A (eval (.Name x pos) X.env) Q E s:=by
 obtain⟨mb,h1,h2⟩:=I.mod.blt
 exact Calls.Name_function_global I.ok.kind hg (Calls.loadGlobal_builtin (by rw[I.ok.glob];exact I.mod.glob.keeps I.bk) hm (by rw[I.ok.blt];exact h1.keeps I.bk) ((h2 x hn).trans hv) h) hd
theorem pe_bltn {x:Str}{v:V}{u:Value}{pos:Pos}(hg:Gl X x)(hm:X.mg x=none)(hv:bootBuiltins x=some u)(r:RelV v u)(hn:x≠"__name__":=by decide)(hd:(x==("__debug__":Str))=false:=by decide):PE X (.Name x pos) (tC v):=
 fun _ _ _ H _ I h=>ld_blt I hg hm hv ⟨v,H,I,r,h⟩ hn hd
variable {a b:Expr} {ta tb:TE} {pos:Pos}
def PC (X:Cx)(op:CmpOp)(a b:Expr)(t:TE):Prop:=
 ∀(pins:List (Addr×Obj)) (s:Shared) (σ:St) (H:Hp) (Q:VK),Inv X pins σ H s->t σ H Q->
  wpAny (model X.prog X.w) X.A (eval a X.env) (fun v s₁=>wpAny (model X.prog X.w) X.A (eval b X.env) (fun u s₂=>wpAny (model X.prog X.w) X.A (compareOp op v u) (EP X pins σ Q) X.xe s₂) X.xe s₁) X.xe s
theorem nobehind (b:Expr){op:CmpOp}(h:op≠.In)(h2:op≠.NotIn):behindInMarks op b=false:=by
 have e1:(op==CmpOp.In)=false:=by cases op <;> first | rfl | exact absurd rfl h
 have e2:(op==CmpOp.NotIn)=false:=by cases op <;> first | rfl | exact absurd rfl h2
 cases b <;> simp[behindInMarks,e1,e2]
def tB (t:TE):TT:=fun σ H Q=>t σ H fun x H1=>∃ c,x=.bl c/\Q c H1
theorem pe_cmp {op:CmpOp}{t:TE}(h:PC X op a b t)(h1:behindInMarks op b=false:=by first | exact nobehind _ (by decide) (by decide) | rfl):PE X (.Compare a [op] [b] pos) t:=fun pins s σ H Q I hw=>wpAny_Compare1 (h pins s σ H Q I hw) h1
theorem pt_cmp {op:CmpOp}{t:TE}(h:PC X op a b t)(h1:behindInMarks op b=false:=by first | exact nobehind _ (by decide) (by decide) | rfl):PT X (.Compare a [op] [b] pos) (tB t):=by
 intro pins s σ H Q I hw
 refine wpAny_isTrue_Compare1 (thn (h pins s σ H _ I hw) fun v s1 h1=>thn h1 fun u s2 h2=>thn h2 fun c s3 ⟨x,H1,I1,r1,q1⟩=>?_) h1
 obtain⟨d,rfl,q⟩:=q1
 cases r1
 exact wpAny_truthy_bool ⟨H1,I1,q⟩
theorem pt_val {e:Expr}{t:TE}(h:PE X e t)(he:∀ whole,isTrue e X.env whole=(do let v ← whole;standAt e.pos;holding [v] (truthy v)):=by intro _;rfl):PT X e (tB t):=by
 intro pins s σ H Q I hw
 refine isTrue_plain (thn (h pins s σ H _ I hw) fun v s1 ⟨x,H1,I1,r1,q1⟩=>?_) (he _)
 obtain⟨d,rfl,q⟩:=q1
 cases r1
 exact wpAny_truthy_bool ⟨H1,I1,q⟩
variable {tA tB':TT} {rest:List Expr}
def tAnd (t u:TT):TT:=fun σ H Q=>t σ H fun c H1=>if c=true then u σ H1 Q else Q false H1
def tOr (t u:TT):TT:=fun σ H Q=>t σ H fun c H1=>if c=true then Q true H1 else u σ H1 Q
def tNot (t:TT):TT:=fun σ H Q=>t σ H fun c H1=>Q (!c) H1
theorem pw_and1 (ha:PT X a tA):PW X (.BoolOp .And [a] pos) tA:=by
 intro wh pins s σ H Q I h
 refine isTrue_and (thn (ha pins s σ H Q I h) fun c s1 e=>?_)
 cases c with
 | true=>exact isTrue_and_nil e
 | false=>exact e
theorem pw_or1 (ha:PT X a tA):PW X (.BoolOp .Or [a] pos) tA:=by
 intro wh pins s σ H Q I h
 refine isTrue_or (thn (ha pins s σ H Q I h) fun c s1 e=>?_)
 cases c with
 | false=>exact isTrue_or_nil e
 | true=>exact e
theorem pw_and (ha:PT X a tA)(hb:PW X (.BoolOp .And (b :: rest) pos) tB'):PW X (.BoolOp .And (a :: b :: rest) pos) (tAnd tA tB'):=by
 intro wh pins s σ H Q I h
 refine isTrue_and (thn (ha pins s σ H _ I h) fun c s1 ⟨H1,I1,q1⟩=>?_)
 cases c with
 | true=>exact hb wh pins s1 σ H1 Q I1 q1
 | false=>exact⟨H1,I1,q1⟩
theorem pw_or (ha:PT X a tA)(hb:PW X (.BoolOp .Or (b :: rest) pos) tB'):PW X (.BoolOp .Or (a :: b :: rest) pos) (tOr tA tB'):=by
 intro wh pins s σ H Q I h
 refine isTrue_or (thn (ha pins s σ H _ I h) fun c s1 ⟨H1,I1,q1⟩=>?_)
 cases c with
 | true=>exact⟨H1,I1,q1⟩
 | false=>exact hb wh pins s1 σ H1 Q I1 q1
theorem pt_not (ha:PT X a tA):PT X (.UnaryOp .Not a pos) (tNot tA):=by
 intro pins s σ H Q I h
 exact isTrue_not (ha pins s σ H (fun c H1=>Q (!c) H1) I h)
def tAndV (ta tb:TE):TE:=fun σ H Q=>ta σ H fun x H1=>∃ c,x=.bl c/\if c=true then tb σ H1 Q else Q (.bl false) H1
theorem pe_one {op}{t:TE}(h:PE X a t):PE X (.BoolOp op [a] pos) t:=fun pins s σ H Q I hw=>BoolOp_one (h pins s σ H Q I hw)
theorem pe_and (ha:PE X a ta)(hb:PE X (.BoolOp .And (b :: rest) pos) tb):PE X (.BoolOp .And (a :: b :: rest) pos) (tAndV ta tb):=by
 intro pins s σ H Q I h
 refine BoolOp_and (thn (ha pins s σ H _ I h) fun v s1 ⟨x,H1,I1,r1,q1⟩=>?_)
 obtain⟨c,rfl,q1⟩:=q1
 cases r1
 refine wpAny_truthy_bool ?_
 cases c with
 | true=>exact hb pins s1 σ H1 Q I1 q1
 | false=>exact⟨.bl false,H1,I1,rfl,q1⟩
end
end L2
namespace L2
open PySem PySem.Spec PyProof.Rows
def SqL (K:PySem.W.Frag)(H:Hp)(a:Addr)(xs:List V):Prop:=
 Rd H a (.lst xs)\/
  ∃(o:Obj) (its:Array Value) (n:Nat),K.lookup a=some o/\o.cls=.type "list"/\o.dict=none/\o.data=.seq its n/\its.size<=sizeLine/\Vals xs its.toList
def SqT (K:PySem.W.Frag)(H:Hp)(a:Addr)(xs:List V):Prop:=
 Rd H a (.tup xs)\/
  ∃(o:Obj) (its:Array Value) (n:Nat),K.lookup a=some o/\o.cls=.type "tuple"/\o.data=.seq its n/\its.size<=sizeLine/\Vals xs its.toList
def absV:Value->Option V
 | .none=>some .non
 | .bool b=>some (.bl b)
 | .int i _=>some (.int i)
 | .str x _=>some (.str x)
 | .bytes b _=>some (.byt b)
 | .float b _=>some (.flt b)
 | .ref a=>some (.ref a)
 | .type n=>some (.ty n)
 | _=>none
theorem RelV.abs {x:V}{u:Value}(r:RelV x u):absV u=some x:=by
 cases x with
 | non=>cases r;rfl
 | bl _=>cases r;rfl
 | int _=>obtain⟨t,rfl⟩:=r;rfl
 | str _=>obtain⟨t,rfl⟩:=r;rfl
 | byt _=>obtain⟨t,rfl⟩:=r;rfl
 | flt _=>obtain⟨t,rfl⟩:=r;rfl
 | ref _=>cases r;rfl
 | ty _=>cases r;rfl
theorem RelV.inj {x y:V}{u:Value}(r:RelV x u)(q:RelV y u):x=y:=Option.some.inj (r.abs.symm.trans q.abs)
theorem Vals.inj:∀{xs ys:List V} {us:List Value},Vals xs us->Vals ys us->xs=ys
 | _,_,_,.nil,.nil=>rfl
 | _,_,_,.cons r t,.cons r' t'=>by rw[r.inj r',Vals.inj t t']
section
variable {X:Cx} {pins:List (Addr×Obj)} {σ:St} {H:Hp} {s:Shared} {a:Addr} {xs ys:List V}
theorem SqL.of {K:PySem.W.Frag}(h:H a=some (.lst xs)):SqL K H a xs:=.inl (.inl h)
theorem SqT.of {K:PySem.W.Frag}(h:H a=some (.tup xs)):SqT K H a xs:=.inl (.inl h)
theorem Inv.list (I:Inv X pins σ H s)(h:SqL X.K H a xs):∃ its:List Value,Vals xs its/\PlainL s.heap a its.toArray/\xs.length<=sizeLine:=by
 rcases h with h | ⟨o,its,n,hk,hc,hd,hs,hz,r⟩
 ·obtain⟨z,its,n,r,e⟩:=h.ok I.hok
  exact⟨its,r,⟨_,n,e,rfl,rfl,rfl⟩,z⟩
 ·refine⟨its.toList,r,⟨o,n,I.kIn a o hk,hc,hd,by simpa using hs⟩,?_⟩
  have e:=r.length
  simp only[Array.length_toList] at e
  omega
theorem Inv.tuple (I:Inv X pins σ H s)(h:SqT X.K H a xs):∃ its:List Value,Vals xs its/\IsTup s.heap a its.toArray/\xs.length<=sizeLine:=by
 rcases h with h | ⟨o,its,n,hk,hc,hs,hz,r⟩
 ·obtain⟨z,its,r,p⟩:=h.ok I.hok
  exact⟨its,r,p,z⟩
 ·refine⟨its.toList,r,⟨o,I.kIn a o hk,hc,n,by simpa using hs⟩,?_⟩
  have e:=r.length
  simp only[Array.length_toList] at e
  omega
theorem Inv.list_inj (I:Inv X pins σ H s)(h:SqL X.K H a xs)(h':SqL X.K H a ys):xs=ys:=by
 obtain⟨its,r,⟨o,n,e,_,_,d⟩,_⟩:=I.list h
 obtain⟨its',r',⟨o',n',e',_,_,d'⟩,_⟩:=I.list h'
 rw[e] at e';cases e'
 rw[d] at d'
 injection d' with d1 _
 have:its=its':=by simpa using congrArg Array.toList d1
 subst this
 exact r.inj r'
theorem Inv.tuple_inj (I:Inv X pins σ H s)(h:SqT X.K H a xs)(h':SqT X.K H a ys):xs=ys:=by
 obtain⟨its,r,⟨o,e,_,n,d⟩,_⟩:=I.tuple h
 obtain⟨its',r',⟨o',e',_,n',d'⟩,_⟩:=I.tuple h'
 rw[e] at e';cases e'
 rw[d] at d'
 injection d' with d1 _
 have:its=its':=by simpa using congrArg Array.toList d1
 subst this
 exact r.inj r'
end
abbrev Cx.wish (X:Cx) (E:Value->Shared->Prop):Cx:={ X with xe:=E }
abbrev Cx.nox (X:Cx):Cx:=X.wish fun _ _=>False
theorem Cx.Ok.wish {X:Cx}(ok:X.Ok)(E:Value->Shared->Prop):(X.wish E).Ok:=
 ⟨ok.mod,ok.kind,ok.glob,ok.blt,ok.above,ok.inj,ok.has,ok.cab,ok.hd,ok.frames,ok.stk,ok.exf,ok.bs,ok.bsz,ok.noex,ok.exfs,ok.funs,ok.frf⟩
theorem Cx.Ok.unwish {X:Cx}{E:Value->Shared->Prop}(ok:(X.wish E).Ok):X.Ok:=
 ⟨ok.mod,ok.kind,ok.glob,ok.blt,ok.above,ok.inj,ok.has,ok.cab,ok.hd,ok.frames,ok.stk,ok.exf,ok.bs,ok.bsz,ok.noex,ok.exfs,ok.funs,ok.frf⟩
section
variable {X:Cx} {pins:List (Addr×Obj)} {σ:St} {H:Hp} {s:Shared} {E:Value->Shared->Prop}
theorem Inv.wish (I:Inv X pins σ H s)(E:Value->Shared->Prop):Inv (X.wish E) pins σ H s:=⟨I.ok.wish E,I.os,I.bare,I.base,I.loc,I.cell,I.free,I.freeC,I.pin,I.hok,I.len⟩
theorem Inv.unwish (I:Inv (X.wish E) pins σ H s):Inv X pins σ H s:=⟨I.ok.unwish,I.os,I.bare,I.base,I.loc,I.cell,I.free,I.freeC,I.pin,I.hok,I.len⟩
theorem SP.unwish {D:Ends}{f:Flow}{s':Shared}(h:SP (X.wish E) pins D f s'):SP X pins D f s':=by
 cases f with
 | next=>obtain⟨σ',H',I,q⟩:=h;exact⟨σ',H',I.unwish,q⟩
 | brk=>obtain⟨σ',H',I,q⟩:=h;exact⟨σ',H',I.unwish,q⟩
 | cont=>obtain⟨σ',H',I,q⟩:=h;exact⟨σ',H',I.unwish,q⟩
 | ret u=>obtain⟨v,σ',H',I,r,q⟩:=h;exact⟨v,σ',H',I.unwish,r,q⟩
theorem PE.nox {e:Expr}{t:TE}(h:PE X.nox e t):PE X e t:=fun pins s σ H Q I hw=>
 wpAny_mono (h pins s σ H Q (I.wish _) hw) (fun _ _ ⟨v,H',I',r,q⟩=>⟨v,H',I'.unwish,r,q⟩) fun _ _ z=>False.elim z
theorem PT.nox {e:Expr}{t:TT}(h:PT X.nox e t):PT X e t:=fun pins s σ H Q I hw=>
 wpAny_mono (h pins s σ H Q (I.wish _) hw) (fun _ _ ⟨H',I',q⟩=>⟨H',I'.unwish,q⟩) fun _ _ z=>False.elim z
theorem PSs.nox {st:List Stmt}{t:TS}(h:PSs X.nox st t):PSs X st t:=fun pins s σ H D I hw=>
 wpAny_mono (h pins s σ H D (I.wish _) hw) (fun _ _ q=>q.unwish) fun _ _ z=>False.elim z
end
section
variable {X:Cx} {st:Stmt} {rest:List Stmt} {t u:TS} {e:Expr} {te:TE} {pos:Pos}
def tNext:TS:=fun D σ H=>D.nx σ H
def tSeq (t u:TS):TS:=fun D σ H=>t { D with nx:=u D } σ H
theorem pss_nil:PSs X [] tNext:=fun _ _ σ H _ I h=>wpAny_execs_nil ⟨σ,H,I,h⟩
theorem pss_cons (h1:PS X st t)(h2:PSs X rest u):PSs X (st :: rest) (tSeq t u):=by
 intro pins s σ H D I h
 refine wpAny_execs_cons (thn (h1 pins s σ H { D with nx:=u D } I h) fun f s1 q=>?_)
 cases f with
 | next=>
   obtain⟨σ',H',I',q⟩:=q
   exact h2 pins s1 σ' H' D I' q
 | ret v=>exact q
 | brk=>exact q
 | cont=>exact q
theorem pss_one (h1:PS X st t):PSs X [st] t:=by
 intro pins s σ H D I h
 refine wpAny_execs_cons (thn (h1 pins s σ H D I h) fun f s1 q=>?_)
 cases f with
 | next=>exact wpAny_execs_nil q
 | ret v=>exact q
 | brk=>exact q
 | cont=>exact q
theorem Inv.quiet {pins:List (Addr×Obj)}{σ:St}{H:Hp}{s:Shared}(I:Inv X pins σ H s):interactive X.env=false:=by simp[interactive,I.ok.kind]
def tDrop (te:TE):TS:=fun D σ H=>te σ H fun _ H1=>D.nx σ H1
theorem ps_expr (he:PE X e te)(hs:swapsWith e none pos.line X.env=pure false:=by rfl):PS X (.Expr e pos) (tDrop te):=by
 intro pins s σ H D I h
 exact wpAny_Expr_any (thn (he pins s σ H _ I h) fun v s1 ⟨x,H1,I1,r1,q1⟩=>⟨σ,H1,I1,q1⟩) I.quiet hs
def tRet (te:TE):TS:=fun D σ H=>te σ H D.rt
theorem ps_ret (he:PE X e te):PS X (.Return (some e) pos) (tRet te):=by
 intro pins s σ H D I h
 exact wpAny_Return_some (thn (he pins s σ H _ I h) fun v s1 ⟨x,H1,I1,r1,q1⟩=>⟨x,σ,H1,I1,r1,q1⟩)
def tIfS (c:TT)(t u:TS):TS:=fun D σ H=>c σ H fun b H1=>if b=true then t D σ H1 else u D σ H1
theorem ps_if {c:Expr}{a b:List Stmt}{tc:TT}(hc:PT X c tc)(ha:PSs X a t)(hb:PSs X b u):PS X (.If c a b pos) (tIfS tc t u):=by
 intro pins s σ H D I h
 refine wpAny_If (thn (hc pins s σ H _ I h) fun d s1 ⟨H1,I1,q1⟩=>?_)
 cases d with
 | true=>exact ha pins s1 σ H1 D I1 q1
 | false=>exact hb pins s1 σ H1 D I1 q1
end
abbrev TG:=V->St->Hp->(St->Hp->Prop)->Prop
abbrev TGs:=List V->St->Hp->(St->Hp->Prop)->Prop
def PG (X:Cx)(target:Expr)(t:TG):Prop:=
 ∀(pins:List (Addr×Obj)) (s:Shared) (σ:St) (H:Hp) (v:V) (u:Value) (Q:St->Hp->Prop),Inv X pins σ H s->RelV v u->t v σ H Q->
  wpAny (model X.prog X.w) X.A (assign target X.env u) (fun _ s'=>∃ σ' H',Inv X pins σ' H' s'/\Q σ' H') X.xe s
def PGs (X:Cx)(ts:List Expr)(t:TGs):Prop:=
 ∀(pins:List (Addr×Obj)) (s:Shared) (σ:St) (H:Hp) (vs:List V) (us:List Value) (Q:St->Hp->Prop),Inv X pins σ H s->Vals vs us->t vs σ H Q->
  wpAny (model X.prog X.w) X.A (assignInOrder ((assignEach ts X.env).map (·.2)) us) (fun _ s'=>∃ σ' H',Inv X pins σ' H' s'/\Q σ' H') X.xe s
section
variable {X:Cx} {pos:Pos}
def gName (i:Nat):TG:=fun v σ H Q=>Q (σ.set i (some v)) H
theorem pg_name {i:Nat}{x:Str}(hN:X.N.Nodup)(hi:X.N[i]?=some x)(hx:Loc X.env.scope x)(hf:X.fn x=true\/X.env.scope.names.lookup x=some .local:=by first | exact .inl rfl | exact .inr rfl | assumption):PG X (.Name x pos) (gName i):=by
 intro pins s σ H v u Q I r h
 exact wpAny_assign_Name (store_ok I hN hi hx r (fun s' I'=>⟨_,H,I',h⟩) hf)
def gNil:TGs:=fun vs σ H Q=>vs=[]/\Q σ H
def gCons (t:TG)(u:TGs):TGs:=fun vs σ H Q=>∃ v r,vs=v :: r/\t v σ H fun σ' H'=>u r σ' H' Q
theorem pgs_nil:PGs X [] gNil:=by
 intro pins s σ H vs us Q I r h
 obtain⟨e,h⟩:=h
 subst e
 cases r
 exact assignInOrder_nil ⟨σ,H,I,h⟩
theorem pgs_cons {e:Expr}{es:List Expr}{t:TG}{u:TGs}(h1:PG X e t)(h2:PGs X es u)
 (hs:(assignEach (e :: es) X.env).map (·.2)=assign e X.env :: (assignEach es X.env).map (·.2):=by rfl):PGs X (e :: es) (gCons t u):=by
 intro pins s σ H vs us Q I r h
 obtain⟨v,vr,e1,h⟩:=h
 subst e1
 cases r with
 | cons r rr=>
   rw[hs]
   refine assignInOrder_cons (thn (h1 pins s σ H _ _ _ I r h) fun _ s1 ⟨σ1,H1,I1,q1⟩=>?_)
   exact h2 pins s1 σ1 H1 _ _ Q I1 rr q1
def gTup (K:PySem.W.Frag)(n:Nat)(t:TGs):TG:=fun v σ H Q=>∃ a xs,v=.ref a/\SqT K H a xs/\xs.length=n/\t xs σ H Q
theorem pg_tup {es:List Expr}{k:Nat}{t:TGs}{n:Nat}(hc:X.calm=true)(h:PGs X es t)
 (hn:(assignEach es X.env).length=n:=by rfl) (hst:(assignEach es X.env).findIdx? (·.1)=none:=by rfl):PG X (.Tuple es k pos) (gTup X.K n t):=by
 intro pins s σ H v u Q I r hw
 obtain⟨a,xs,e1,hq,hl,hw⟩:=hw
 subst e1
 cases r
 obtain⟨its,rv,ht,hz⟩:=I.tuple hq
 refine assign_Tuple_tuple (I.ok.hd hc) ht (by simp[hn,← hl,rv.length]) hst fun h' hx=>?_
 have I1:Inv X pins σ H { s with heap:=h' }:=I.kept (t':=s.toks) fun b o e=>hx b o (Nat.ne_of_lt (Heap.lt_size e)) e
 exact h pins _ σ H xs _ Q I1 (by simpa using rv) hw
def tAsg (te:TE)(g:TG):TS:=fun D σ H=>te σ H fun x H1=>g x σ H1 D.nx
theorem ps_asg {tg e:Expr}{te:TE}{g:TG}(he:PE X e te)(hg:PG X tg g)(hs:swapsWithSole [tg] e pos.line X.env=pure false:=by rfl)(hw:swappedStores [tg] e X.env=pure none:=by rfl)
 (h1:(assignEach [tg] X.env).map (·.2)=[assign tg X.env]:=by rfl):PS X (.Assign [tg] e pos) (tAsg te g):=by
 intro pins s σ H D I h
 refine wpAny_Assign_stores (thn (he pins s σ H _ I h) fun v s1 ⟨x,H1,I1,r1,q1⟩=>?_) hs hw
 rw[h1]
 exact thn (hg pins s1 σ H1 x v _ I1 r1 q1) fun _ s2 q=>q
theorem ps_set {i:Nat}{x:Str}{e:Expr}{te:TE}{pos':Pos}(hN:X.N.Nodup)(hi:X.N[i]?=some x)(hx:Loc X.env.scope x)(he:PE X e te)(hs:swapsWith e (some (.Name x pos')) pos.line X.env=pure false:=by rfl)(hf:X.fn x=true\/X.env.scope.names.lookup x=some .local:=by first | exact .inl rfl | exact .inr rfl | assumption):
 PS X (.Assign [.Name x pos'] e pos) (tAsg te (gName i)):=by
 intro pins s σ H D I h
 refine wpAny_Assign_Name (thn (he pins s σ H _ I h) fun v s1 ⟨y,H1,I1,r1,q1⟩=>?_) hs
 exact store_ok I1 hN hi hx r1 (fun s2 I2=>⟨_,H1,I2,q1⟩) hf
end
section
variable {X:Cx} {pos:Pos}
end
structure It where
 go:Nat->Hp->Prop
 yld:Nat->Hp->V->Hp->Prop
 stop:Nat->Hp->Prop
def FpOk (X:Cx)(pins:List (Addr×Obj))(H:Hp)(b:Addr):Prop:=
 H b=none/\b≠X.env.locals/\b∉X.fs/\(b∈X.ex\/X.s₀.heap.objs.size<=b)/\(∀ x c,X.env.cells.lookup x=some c->c≠b)/\∀ p∈X.pn++pins,p.1≠b
theorem Inv.fpOk {X:Cx}{pins:List (Addr×Obj)}{σ:St}{H H':Hp}{s:Shared}{b:Addr}(I:Inv X pins σ H s)(hb:s.heap.objs.size<=b)(hn:H' b=none):FpOk X pins H' b:=by
 refine⟨hn,Nat.ne_of_gt (Nat.lt_of_lt_of_le I.lt hb),I.nofs hb,.inr (Nat.le_trans I.sz hb),fun x c e z=>?_,fun p hp z=>?_⟩
 ·obtain⟨v,q⟩:=I.cell x c e
  exact absurd (Nat.lt_of_lt_of_le q.lt (by rw[z];exact hb)) (Nat.lt_irrefl _)
 ·exact absurd (Nat.lt_of_lt_of_le (Heap.lt_size (I.pin p hp).1) (by rw[z];exact hb)) (Nat.lt_irrefl _)
structure Turn (P:Program) (w:World) (K:PySem.W.Frag) (tg:Expr) (J:It) (fp:List Addr) (it:Addr) (tn:Nat->Heap->Prop):Prop where
 mem:it∈fp
 obj:∀ i h,tn i h->∀ b∈fp,∃ o,h.get? b=some o/\∀ v,o.data≠.cell v
 keep:∀ i h h',tn i h->(∀ b∈fp,∀ o,h.get? b=some o->h'.get? b=some o)->tn i h'
 item:∀(X:Cx),X.prog=P->X.w=w->X.K=K->X.calm=true->∀(i:Nat) (pins:List (Addr×Obj)) (s:Shared) (σ:St) (H:Hp) (E:Value->Shared->Prop),Inv X pins σ H s->(∀ b∈fp,FpOk X pins H b)->tn i s.heap->J.go i H->
  wpAny (model P w) X.A (pyNext (.ref it)) (fun r s1=>∃ u,r=some u/\
   wpAny (model P w) X.A (letOwnedTupleGo tg (.ref it) u) (fun _ s2=>∃ x H',Inv X pins σ H' s2/\RelV x u/\J.yld i H x H'/\tn (i+ 1) s2.heap/\∀ b∈fp,H' b=none) E s1) E s
 done:∀(X:Cx),X.prog=P->X.w=w->X.K=K->X.calm=true->∀(i:Nat) (pins:List (Addr×Obj)) (s:Shared) (σ:St) (H:Hp) (E:Value->Shared->Prop),Inv X pins σ H s->(∀ b∈fp,FpOk X pins H b)->tn i s.heap->J.stop i H->
  wpAny (model P w) X.A (pyNext (.ref it)) (fun r s1=>r=none/\Inv X pins σ H s1) E s
 self:∀(A:Around) (i:Nat) (s:Shared) (Q:Value->Shared->Prop) (E:Value->Shared->Prop),tn i s.heap->Q (.ref it) s->wpAny (model P w) A (pyIter (.ref it)) Q E s
abbrev TI:=St->Hp->(It->Hp->Prop)->Prop
def PIE (X:Cx)(pins:List (Addr×Obj))(σ:St)(tg:Expr)(R:It->Hp->Prop)(itv:Value)(s2:Shared):Prop:=
 ∃(it:Addr) (fp:List Addr) (tn:Nat->Heap->Prop) (J:It) (H':Hp),itv=.ref it/\Inv X pins σ H' s2/\Turn X.prog X.w X.K tg J fp it tn/\tn 0 s2.heap/\(∀ b∈fp,FpOk X pins H' b)/\R J H'
def PI (X:Cx)(tg iter:Expr)(wi:TI):Prop:=
 ∀(pins:List (Addr×Obj)) (s:Shared) (σ:St) (H:Hp) (R:It->Hp->Prop),Inv X pins σ H s->wi σ H R->
  wpAny (model X.prog X.w) X.A (eval iter X.env) (fun v s1=>wpAny (model X.prog X.w) X.A (pyIter v) (PIE X pins σ tg R) X.xe s1) X.xe s
theorem go_of {M:Model}{A:Around}{E:Value->Shared->Prop}{s:Shared}{tg:Expr}{it:Addr}{u:Value}{o:Obj}{n:String}{vs:Array Value}{Q:Unit->Shared->Prop}(ho:s.heap.get? it=some o)(hc:o.cls=.type n)(hd:o.data=.fields vs)
 (hn:["enumerate","zip","dict_itemiterator","dict_reverseitemiterator","odict_iterator","itertools.zip_longest","itertools.pairwise"].contains n=false) (hQ:Q () s):wpAny M A (letOwnedTupleGo tg (.ref it) u) Q E s:=by
 unfold letOwnedTupleGo
 cases tg <;> first
  | exact wpAny_pure hQ
  | (cases u <;> first
   | exact wpAny_pure hQ
   | (refine wpAny_bind (wpAny_load ho ?_)
      rw[hc,hd]
      show wpAny M A (if (["enumerate","zip","dict_itemiterator","dict_reverseitemiterator","odict_iterator","itertools.zip_longest","itertools.pairwise"].contains n && vs[0]?==some (rawInt _))=true then _ else _) Q E s
      rw[if_neg (by intro h;rw[hn,Bool.false_and] at h;cases h)]
      exact wpAny_pure hQ))
def Itl (K:PySem.W.Frag)(a:Addr):It:=
 ⟨fun i H=>∃ xs x,SqL K H a xs/\xs[i]?=some x,fun i H x H'=>H'=H/\∀ xs,SqL K H a xs->xs[i]?=some x,fun i H=>∃ xs,SqL K H a xs/\xs.length<=i⟩
def Itt (K:PySem.W.Frag)(a:Addr):It:=
 ⟨fun i H=>∃ xs x,SqT K H a xs/\xs[i]?=some x,fun i H x H'=>H'=H/\∀ xs,SqT K H a xs->xs[i]?=some x,fun i H=>∃ xs,SqT K H a xs/\xs.length<=i⟩
def Itr (lo:Int)(n:Nat):It:=⟨fun i _=>i < n,fun i H x H'=>H'=H/\x=.int (lo+ i),fun i _=>n<=i⟩
theorem turn_list {P:Program}{w:World}{K:PySem.W.Frag}{tg:Expr}(a it:Addr):Turn P w K tg (Itl K a) [it] it (fun i h=>h.IsListIter it a i) where
 mem:=by simp
 obj:=fun i h st b hb=>by
  have e:b=it:=by simpa using hb
  subst e
  obtain⟨o,e,c,d⟩:=st
  exact⟨o,e,fun v z=>by rw[d] at z;cases z⟩
 keep:=fun i h h' st k=>st.at fun o e=>k it (by simp) o e
 item:=by
  intro X hP hw hK hc i pins s σ H E I hf st hg
  subst hP hw hK
  obtain⟨xs,x,hq,hx⟩:=hg
  obtain⟨its,rv,p,hz⟩:=I.list hq
  obtain⟨u,hu,ru⟩:=rv.get hx
  obtain⟨f0,f1,f2,f3,f4,f5⟩:=hf it (by simp)
  refine wpAny_pyNext_list_item st p.isList (x:=u) (by simpa using hu) fun h' st' sb=>?_
  have I1:Inv X pins σ H { s with heap:=h' }:=I.turned (t':=s.toks) (fun b o hb e=>(sb.2 b hb).trans e) f0 f1 f3 f4 f5
  obtain⟨o,e,c,d⟩:=id st'
  exact⟨u,rfl,go_of (s:={ s with heap:=h' }) e c d (by decide) ⟨x,H,I1,ru,⟨rfl,fun ys hy=>by rw[I.list_inj hy hq];exact hx⟩,st',fun b hb=>(hf b hb).1⟩⟩
 done:=by
  intro X hP hw hK hc i pins s σ H E I hf st hg
  subst hP hw hK
  obtain⟨xs,hq,hx⟩:=hg
  obtain⟨its,rv,p,hz⟩:=I.list hq
  obtain⟨f0,f1,f2,f3,f4,f5⟩:=hf it (by simp)
  have hl:=rv.length
  exact wpAny_pyNext_list_end (I.ok.hd hc) st p.isList (by simp;omega) fun h' eb=>⟨rfl,I.turned (t':=s.toks) (fun b o hb e=>eb b o hb e) f0 f1 f3 f4 f5⟩
 self:=fun _ _ _ _ _ st h=>wpAny_pyIter_listiter st h
theorem turn_tuple {P:Program}{w:World}{K:PySem.W.Frag}{tg:Expr}(a it:Addr):Turn P w K tg (Itt K a) [it] it (fun i h=>h.IsTupleIter it a i) where
 mem:=by simp
 obj:=fun i h st b hb=>by
  have e:b=it:=by simpa using hb
  subst e
  obtain⟨o,e,c,d⟩:=st
  exact⟨o,e,fun v z=>by rw[d] at z;cases z⟩
 keep:=fun i h h' st k=>st.at fun o e=>k it (by simp) o e
 item:=by
  intro X hP hw hK hc i pins s σ H E I hf st hg
  subst hP hw hK
  obtain⟨xs,x,hq,hx⟩:=hg
  obtain⟨its,rv,p,hz⟩:=I.tuple hq
  obtain⟨u,hu,ru⟩:=rv.get hx
  obtain⟨f0,f1,f2,f3,f4,f5⟩:=hf it (by simp)
  refine wpAny_pyNext_tuple_item st (show s.heap.IsTuple a its.toArray from p) (x:=u) (by simpa using hu) fun h' st' sb=>?_
  have I1:Inv X pins σ H { s with heap:=h' }:=I.turned (t':=s.toks) (fun b o hb e=>(sb.2 b hb).trans e) f0 f1 f3 f4 f5
  obtain⟨o,e,c,d⟩:=id st'
  exact⟨u,rfl,go_of (s:={ s with heap:=h' }) e c d (by decide) ⟨x,H,I1,ru,⟨rfl,fun ys hy=>by rw[I.tuple_inj hy hq];exact hx⟩,st',fun b hb=>(hf b hb).1⟩⟩
 done:=by
  intro X hP hw hK hc i pins s σ H E I hf st hg
  subst hP hw hK
  obtain⟨xs,hq,hx⟩:=hg
  obtain⟨its,rv,p,hz⟩:=I.tuple hq
  obtain⟨f0,f1,f2,f3,f4,f5⟩:=hf it (by simp)
  have hl:=rv.length
  exact wpAny_pyNext_tuple_end (I.ok.hd hc) st (show s.heap.IsTuple a its.toArray from p) (by simp;omega) fun h' eb=>⟨rfl,I.turned (t':=s.toks) (fun b o hb e=>eb b o hb e) f0 f1 f3 f4 f5⟩
 self:=fun _ _ _ _ _ st h=>wpAny_pyIter_tupleiter st h
theorem turn_range {P:Program}{w:World}{K:PySem.W.Frag}{tg:Expr}(it:Addr)(lo:Int)(n:Nat):Turn P w K tg (Itr lo n) [it] it (fun i h=>IsRangeIter h it (lo+ (i:Nat)* 1) ((n:Int) - (i:Nat)) 1) where
 mem:=by simp
 obj:=fun i h st b hb=>by
  have e:b=it:=by simpa using hb
  subst e
  exact⟨_,st,fun v z=>by
   have z':Data.fields _=Data.cell v:=z
   cases z'⟩
 keep:=fun i h h' st k=>k it (by simp) _ st
 item:=by
  intro X hP hw hK hc i pins s σ H E I hf st hg
  subst hP hw hK
  obtain⟨f0,f1,f2,f3,f4,f5⟩:=hf it (by simp)
  have W:=Walks.range (prog:=X.prog) (w:=X.w) (I.ok.hd hc) it lo 1 n
  refine W.item i s _ _ hg st fun v h' tk hv st' kk=>?_
  obtain⟨t,rfl⟩:=hv
  have I1:Inv X pins σ H { s with heap:=h',toks:=tk }:=I.turned (fun b o hb e=>kk b o (by simpa using hb) e) f0 f1 f3 f4 f5
  refine⟨_,rfl,go_of (s:={ s with heap:=h',toks:=tk }) (n:="range_iterator") st' rfl rfl (by decide) ⟨.int (lo+ i),H,I1,⟨t,?_⟩,⟨rfl,rfl⟩,st',fun b hb=>(hf b hb).1⟩⟩
  rw[Int.mul_one]
 done:=by
  intro X hP hw hK hc i pins s σ H E I hf st hg
  subst hP hw hK
  obtain⟨f0,f1,f2,f3,f4,f5⟩:=hf it (by simp)
  exact wpAny_pyNext_range_end (I.ok.hd hc) st (by have:n<=i:=hg;omega) fun h' eb=>⟨rfl,I.turned (t':=s.toks) (fun b o hb e=>eb b o hb e) f0 f1 f3 f4 f5⟩
 self:=fun _ _ _ _ _ st h=>wpAny_pyIter_rangeiter st h
end L2
namespace L2
open PySem PySem.Spec PyProof.Rows
section
variable {X:Cx} {tg:Expr}
def iList (K:PySem.W.Frag)(tl:TE):TI:=fun σ H R=>tl σ H fun x H1=>∃ a,x=.ref a/\(∃ xs,SqL K H1 a xs)/\R (Itl K a) H1
def iTup (K:PySem.W.Frag)(tl:TE):TI:=fun σ H R=>tl σ H fun x H1=>∃ a,x=.ref a/\(∃ xs,SqT K H1 a xs)/\R (Itt K a) H1
theorem pi_list {l:Expr}{tl:TE}(hl:PE X l tl):PI X tg l (iList X.K tl):=by
 intro pins s σ H R I h
 refine thn (hl pins s σ H _ I h) fun v s1 ⟨x,H1,I1,r1,q1⟩=>?_
 obtain⟨a,e,⟨xs,hq⟩,q⟩:=q1
 subst e
 cases r1
 obtain⟨its,rv,p,hz⟩:=I1.list hq
 refine wpAny_pyIter_list p.isList ?_
 refine⟨s1.heap.objs.size,[s1.heap.objs.size],_,_,H1,rfl,I1.kept (t':=s1.toks) fun b o e=>Heap.get?_push_of_some _ e,turn_list a _,⟨_,Heap.get?_push_size _ rfl,rfl,rfl⟩,fun b hb=>?_,q⟩
 have e:b=s1.heap.objs.size:=by simpa using hb
 subst e
 exact I1.fpOk (Nat.le_refl _) (I1.hok.fresh (Nat.le_refl _))
theorem pi_tup {l:Expr}{tl:TE}(hl:PE X l tl):PI X tg l (iTup X.K tl):=by
 intro pins s σ H R I h
 refine thn (hl pins s σ H _ I h) fun v s1 ⟨x,H1,I1,r1,q1⟩=>?_
 obtain⟨a,e,⟨xs,hq⟩,q⟩:=q1
 subst e
 cases r1
 obtain⟨its,rv,p,hz⟩:=I1.tuple hq
 refine wpAny_pyIter_tuple (show s1.heap.IsTuple a its.toArray from p) ?_
 refine⟨s1.heap.objs.size,[s1.heap.objs.size],_,_,H1,rfl,I1.kept (t':=s1.toks) fun b o e=>Heap.get?_push_of_some _ e,turn_tuple a _,⟨_,Heap.get?_push_size _ rfl,rfl,rfl⟩,fun b hb=>?_,q⟩
 have e:b=s1.heap.objs.size:=by simpa using hb
 subst e
 exact I1.fpOk (Nat.le_refl _) (I1.hok.fresh (Nat.le_refl _))
theorem range_it {pins:List (Addr×Obj)}{σ:St}{H:Hp}{s:Shared}{R:It->Hp->Prop}{E:Value->Shared->Prop}{lo hi:Int}{t u v:Tok}{tk:Nat}(I:Inv X pins σ H s)(h1: -(2 ^ 62)<=lo)(h2:lo < 2 ^ 62)(h3: -(2 ^ 62)<=hi)(h4:hi < 2 ^ 62)
 (q:R (Itr lo (hi - lo).toNat) H):wpAny (model X.prog X.w) X.A (pyIter (.ref s.heap.objs.size)) (PIE X pins σ tg R) E { s with heap:=s.heap.push { cls:=.type "range",data:=.fields #[.int lo t,.int hi u,.int 1 v] },toks:=tk }:=by
 refine wpAny_pyIter_range (IsRange.new ..) (small_one h1 h2 h3 h4) ?_
 have I1:Inv X pins σ H { s with heap:=s.heap.push { cls:=.type "range",data:=.fields #[.int lo t,.int hi u,.int 1 v] },toks:=tk }:=I.kept fun b o e=>Heap.get?_push_of_some _ e
 refine⟨(s.heap.push { cls:=.type "range",data:=.fields #[.int lo t,.int hi u,.int 1 v] }).objs.size,[(s.heap.push { cls:=.type "range",data:=.fields #[.int lo t,.int hi u,.int 1 v] }).objs.size],_,_,H,rfl,
  I1.kept (t':=tk) fun b o e=>Heap.get?_push_of_some _ e,turn_range _ lo (hi - lo).toNat,?_,fun b hb=>?_,q⟩
 ·have e1:lo+ ((0:Nat):Int)* 1=lo:=by simp
  have e2:(((hi - lo).toNat:Nat):Int) - ((0:Nat):Int)=Builtin.Range.rangeSize lo hi 1:=by rw[rangeSize_one];split <;> omega
  show IsRangeIter _ _ (lo+ ((0:Nat):Int)* 1) ((((hi - lo).toNat:Nat):Int) - ((0:Nat):Int)) 1
  rw[e1,e2]
  exact Heap.get?_push_size _ rfl
 ·have e:b=(s.heap.push { cls:=.type "range",data:=.fields #[.int lo t,.int hi u,.int 1 v] }).objs.size:=by simpa using hb
  subst e
  exact I1.fpOk (Nat.le_refl _) (I1.hok.fresh (Nat.le_refl _))
def iRng1 (ta:TA):TI:=fun σ H R=>ta σ H fun vs H1=>∃ j:Int,vs=[.int j]/\-(2 ^ 62)<=j/\j < 2 ^ 62/\R (Itr 0 j.toNat) H1
def iRng2 (ta:TA):TI:=fun σ H R=>ta σ H fun vs H1=>∃ i j:Int,vs=[.int i,.int j]/\(-(2 ^ 62)<=i/\i < 2 ^ 62/\-(2 ^ 62)<=j/\j < 2 ^ 62)/\R (Itr i (j - i).toNat) H1
theorem pi_range1 {a:Expr}{ta:TA}{p pos:Pos}(hg:Gl X "range")(hm:X.mg "range"=none)(ha:PA X [a] ta)(hs:starEach [a] X.env=[(false,eval a X.env)]:=by rfl):PI X tg (.Call (.Name "range" p) [a] [] pos) (iRng1 ta):=by
 intro pins s σ H R I h
 refine Call_ (ld_blt I hg hm boot_range (PyProof.Rows.callWith_type1 (thn (ha pos pins s σ H _ I h) fun us s1 ⟨vs,H1,I1,r1,q1⟩=>?_) hs rfl))
 obtain⟨j,e,q1,q2,q⟩:=q1
 subst e
 cases r1 with
 | cons r rr=>
   cases rr
   obtain⟨t,rfl⟩:=r
   exact call_range_1 (range_it I1 (by omega) (by omega) q1 q2 (by simpa using q))
theorem pi_range2 {a b:Expr}{ta:TA}{p pos:Pos}(hg:Gl X "range")(hm:X.mg "range"=none)(ha:PA X [a,b] ta)(hs:starEach [a,b] X.env=[(false,eval a X.env),(false,eval b X.env)]:=by rfl)(hs2:starEach [b] X.env=[(false,eval b X.env)]:=by rfl):
 PI X tg (.Call (.Name "range" p) [a,b] [] pos) (iRng2 ta):=by
 intro pins s σ H R I h
 refine Call_ (ld_blt I hg hm boot_range (PyProof.Rows.callWith_type1 (thn (ha pos pins s σ H _ I h) fun us s1 ⟨vs,H1,I1,r1,q1⟩=>?_) (by rw[hs,hs2]) (by rw[hs2];rfl)))
 obtain⟨i,j,e,⟨q1,q2,q3,q4⟩,q⟩:=q1
 subst e
 cases r1 with
 | cons r rr=>
   cases rr with
   | cons r' rr=>
     cases rr
     obtain⟨t,rfl⟩:=r
     obtain⟨t',rfl⟩:=r'
     exact call_range_2 (range_it I1 q1 q2 q3 q4 q)
def tFor (wi:TI)(g:TG)(tb:TS):TS:=fun D σ H=>wi σ H fun J H1=>∃ W:Nat->Nat->St->Hp->Prop,(∃ m,W 0 m σ H1)/\∀ i m σ H,W i m σ H->
 (J.stop i H/\D.nx σ H)\/(J.go i H/\∃ N:St->Hp->Prop,(∀ σ' H',N σ' H'->∃ m',m' < m/\W (i+ 1) m' σ' H')/\∀ x H',J.yld i H x H'->g x σ H' fun σ2 H2=>tb { D with nx:=N,ct:=N,bk:=D.nx } σ2 H2)
def pinsAt (fp:List Addr)(h:Heap):List (Addr×Obj):=fp.filterMap fun b=>(h.get? b).map fun o=>(b,o)
theorem mem_pinsAt {fp:List Addr}{h:Heap}{b:Addr}{o:Obj}(hb:b∈fp)(e:h.get? b=some o):(b,o)∈pinsAt fp h:=List.mem_filterMap.mpr ⟨b,hb,by rw[e];rfl⟩
theorem of_pinsAt {fp:List Addr}{h:Heap}{p:Addr×Obj}(hp:p∈pinsAt fp h):p.1∈fp/\h.get? p.1=some p.2:=by
 obtain⟨b,hb,e⟩:=List.mem_filterMap.mp hp
 cases q:h.get? b with
 | none=>rw[q] at e;cases e
 | some o=>
   rw[q] at e
   have e':(b,o)=p:=Option.some.inj e
   subst e'
   exact⟨hb,q⟩
theorem Inv.pinned {pins:List (Addr×Obj)}{σ:St}{H:Hp}{s:Shared}{fp:List Addr}(I:Inv X pins σ H s)(hf:∀ b∈fp,FpOk X pins H b)(ho:∀ b∈fp,∃ o,s.heap.get? b=some o/\∀ v,o.data≠.cell v):Inv X (pins++pinsAt fp s.heap) σ H s:=
 I.pins_of fun p hp=>(List.mem_append.mp hp).elim (fun z=>I.pin p (List.mem_append_right _ z)) fun z=>by
  obtain⟨hb,e⟩:=of_pinsAt z
  obtain⟨f0,f1,f2,_⟩:=hf p.1 hb
  obtain⟨o,e',d⟩:=ho p.1 hb
  rw[e] at e';cases e'
  exact⟨e,f0,f1,f2,d⟩
theorem Inv.unpinned {pins pl:List (Addr×Obj)}{σ:St}{H:Hp}{s:Shared}(I:Inv X (pins++pl) σ H s):Inv X pins σ H s:=I.pins_of fun p hp=>I.pin p (List.mem_append_right _ (List.mem_append_left _ hp))
theorem ps_for {iter:Expr}{body:List Stmt}{wi:TI}{g:TG}{tb:TS}{pos:Pos}(hp:PassesOwn (model X.prog X.w) X.A X.env X.xe)(hc:X.calm=true)(hi:PI X tg iter wi)(hg:PG X tg g)(hb:PSs X body tb)
 (hs:∀ x,foldedSetIterable iter X.env x=pure x:=by intro _;rfl):PS X (.For tg iter body [] pos) (tFor wi g tb):=by
 intro pins s σ H D I h
 refine wpAny_For (thn (hi pins s σ H _ I h) fun v s1 h1=>thn h1 fun itv s2 h2=>?_) hs
 obtain⟨it,fp,tn,J,H2,e,I2,T,st2,f2,W,⟨m0,w0⟩,turn⟩:=h2
 subst e
 -- what stays true of the iterator's objects through the loop
 have stat:∀{H':Hp},(∀ b∈fp,H' b=none)->∀ b∈fp,FpOk X pins H' b:=fun hn b hb=>⟨hn b hb,(f2 b hb).2⟩
 refine codeAny_forLoop_any (fun n s'=>∃ i σ' H',Inv X pins σ' H' s'/\tn i s'.heap/\(∀ b∈fp,H' b=none)/\W i n σ' H') ?_ m0 ⟨0,σ,H2,I2,st2,fun b hb=>(f2 b hb).1,w0⟩
 rintro n s3 ⟨i,σ3,H3,I3,st3,fr3,w3⟩
 rcases turn i n σ3 H3 w3 with ⟨stop,qn⟩ | ⟨go,N,hN,step⟩
 ·refine wpAny_passesOwn hp (thn (T.done X rfl rfl rfl hc i pins s3 σ3 H3 X.xe I3 (stat fr3) st3 stop) fun r s4 ⟨hr,I4⟩=>?_)
  subst hr
  exact wpAny_execs_nil ⟨σ3,H3,I4,qn⟩
 ·refine wpAny_passesOwn hp (thn (T.item X rfl rfl rfl hc i pins s3 σ3 H3 X.xe I3 (stat fr3) st3 go) fun r s4 ⟨u,hr,h4⟩=>?_)
  subst hr
  refine wpAny_passesOwn hp (thn h4 fun _ s5 ⟨x,H5,I5,r5,y5,st5,fr5⟩=>?_)
  have I5':=I5.pinned (stat fr5) (T.obj _ _ st5)
  refine wpAny_passesOwn hp (thn (hg _ s5 σ3 H5 x u _ I5' r5 (step x H5 y5)) fun _ s6 ⟨σ6,H6,I6,q6⟩=>?_)
  refine wpAny_passesOwn hp (thn (hb _ s6 σ6 H6 _ I6 q6) fun f s7 q7=>?_)
  have again:∀{σ7:St} {H7:Hp},Inv X (pins++pinsAt fp s5.heap) σ7 H7 s7->N σ7 H7->∃ m,m < n/\∃ i σ' H',Inv X pins σ' H' s7/\tn i s7.heap/\(∀ b∈fp,H' b=none)/\W i m σ' H':=fun{σ7 H7} I7 n7=>by
   obtain⟨m',hm,w7⟩:=hN σ7 H7 n7
   refine⟨m',hm,i+ 1,σ7,H7,I7.unpinned,T.keep _ _ _ st5 fun b hb o e=>(I7.pin (b,o) (List.mem_append_right _ (List.mem_append_right _ (mem_pinsAt hb e)))).1,fun b hb=>?_,w7⟩
   obtain⟨o,e,d⟩:=T.obj _ _ st5 b hb
   exact(I7.pin (b,o) (List.mem_append_right _ (List.mem_append_right _ (mem_pinsAt hb e)))).2.1
  cases f with
  | next=>obtain⟨σ7,H7,I7,n7⟩:=q7;exact again I7 n7
  | cont=>obtain⟨σ7,H7,I7,n7⟩:=q7;exact again I7 n7
  | brk=>obtain⟨σ7,H7,I7,q7⟩:=q7;exact⟨σ7,H7,I7.unpinned,q7⟩
  | ret v=>obtain⟨x7,σ7,H7,I7,r7,q7⟩:=q7;exact⟨x7,σ7,H7,I7.unpinned,r7,q7⟩
end
theorem for_list {K:PySem.W.Frag}{a:Addr}{xs:List V}{g:TG}{tb:TS}{D:Ends}{σ:St}{H:Hp}(Pv:Nat->St->Hp->Prop)(h0:Pv 0 σ H)(hl:∀ i σ H,i<=xs.length->Pv i σ H->SqL K H a xs)
 (hs:∀ i x σ H,xs[i]?=some x->Pv i σ H->g x σ H fun σ2 H2=>tb { D with nx:=Pv (i+ 1),ct:=Pv (i+ 1),bk:=D.nx } σ2 H2) (hd:∀ σ H,Pv xs.length σ H->D.nx σ H):
 ∃ W:Nat->Nat->St->Hp->Prop,(∃ m,W 0 m σ H)/\∀ i m σ H,W i m σ H->
   ((Itl K a).stop i H/\D.nx σ H)\/((Itl K a).go i H/\∃ N:St->Hp->Prop,(∀ σ' H',N σ' H'->∃ m',m' < m/\W (i+ 1) m' σ' H')/\∀ x H',(Itl K a).yld i H x H'->g x σ H' fun σ2 H2=>tb { D with nx:=N,ct:=N,bk:=D.nx } σ2 H2):=by
 refine⟨fun i m σ H=>m=xs.length - i/\i<=xs.length/\Pv i σ H,⟨xs.length,by simp,Nat.zero_le _,h0⟩,?_⟩
 rintro i m σ H ⟨rfl,hi,p⟩
 have q:=hl i σ H hi p
 by_cases hlt:i < xs.length
 ·refine .inr ⟨⟨xs,xs[i],q,by simp[hlt]⟩,Pv (i+ 1),fun σ' H' p'=>⟨xs.length - (i+ 1),by omega,rfl,hlt,p'⟩,fun x H' y=>?_⟩
  obtain⟨e,y⟩:=y
  subst e
  exact hs i x σ _ (y xs q) p
 ·have e:i=xs.length:=by omega
  subst e
  exact .inl ⟨⟨xs,q,Nat.le_refl _⟩,hd σ H p⟩
theorem for_tup {K:PySem.W.Frag}{a:Addr}{xs:List V}{g:TG}{tb:TS}{D:Ends}{σ:St}{H:Hp}(Pv:Nat->St->Hp->Prop)(h0:Pv 0 σ H)(hl:∀ i σ H,i<=xs.length->Pv i σ H->SqT K H a xs)
 (hs:∀ i x σ H,xs[i]?=some x->Pv i σ H->g x σ H fun σ2 H2=>tb { D with nx:=Pv (i+ 1),ct:=Pv (i+ 1),bk:=D.nx } σ2 H2) (hd:∀ σ H,Pv xs.length σ H->D.nx σ H):
 ∃ W:Nat->Nat->St->Hp->Prop,(∃ m,W 0 m σ H)/\∀ i m σ H,W i m σ H->
   ((Itt K a).stop i H/\D.nx σ H)\/((Itt K a).go i H/\∃ N:St->Hp->Prop,(∀ σ' H',N σ' H'->∃ m',m' < m/\W (i+ 1) m' σ' H')/\∀ x H',(Itt K a).yld i H x H'->g x σ H' fun σ2 H2=>tb { D with nx:=N,ct:=N,bk:=D.nx } σ2 H2):=by
 refine⟨fun i m σ H=>m=xs.length - i/\i<=xs.length/\Pv i σ H,⟨xs.length,by simp,Nat.zero_le _,h0⟩,?_⟩
 rintro i m σ H ⟨rfl,hi,p⟩
 have q:=hl i σ H hi p
 by_cases hlt:i < xs.length
 ·refine .inr ⟨⟨xs,xs[i],q,by simp[hlt]⟩,Pv (i+ 1),fun σ' H' p'=>⟨xs.length - (i+ 1),by omega,rfl,hlt,p'⟩,fun x H' y=>?_⟩
  obtain⟨e,y⟩:=y
  subst e
  exact hs i x σ _ (y xs q) p
 ·have e:i=xs.length:=by omega
  subst e
  exact .inl ⟨⟨xs,q,Nat.le_refl _⟩,hd σ H p⟩
theorem for_range {lo:Int}{n:Nat}{g:TG}{tb:TS}{D:Ends}{σ:St}{H:Hp}(Pv:Nat->St->Hp->Prop)(h0:Pv 0 σ H)
 (hs:∀ i σ H,i < n->Pv i σ H->g (.int (lo+ i)) σ H fun σ2 H2=>tb { D with nx:=Pv (i+ 1),ct:=Pv (i+ 1),bk:=D.nx } σ2 H2) (hd:∀ σ H,Pv n σ H->D.nx σ H):
 ∃ W:Nat->Nat->St->Hp->Prop,(∃ m,W 0 m σ H)/\∀ i m σ H,W i m σ H->
   ((Itr lo n).stop i H/\D.nx σ H)\/((Itr lo n).go i H/\∃ N:St->Hp->Prop,(∀ σ' H',N σ' H'->∃ m',m' < m/\W (i+ 1) m' σ' H')/\∀ x H',(Itr lo n).yld i H x H'->g x σ H' fun σ2 H2=>tb { D with nx:=N,ct:=N,bk:=D.nx } σ2 H2):=by
 refine⟨fun i m σ H=>m=n - i/\i<=n/\Pv i σ H,⟨n,by simp,Nat.zero_le _,h0⟩,?_⟩
 rintro i m σ H ⟨rfl,hi,p⟩
 by_cases hlt:i < n
 ·refine .inr ⟨hlt,Pv (i+ 1),fun σ' H' p'=>⟨n - (i+ 1),by omega,rfl,hlt,p'⟩,fun x H' y=>?_⟩
  obtain⟨e,y⟩:=y
  subst e y
  exact hs i σ _ hlt p
 ·have e:i=n:=by omega
  subst e
  exact .inl ⟨Nat.le_refl _,hd σ H p⟩
end L2
namespace L2
open PySem PySem.Spec PyProof.Rows
abbrev R2:=V->V->Hp->VK->Prop
def OpR (X:Cx)(f:Value->Value->Sem Value)(r:R2):Prop:=
 ∀(pins:List (Addr×Obj)) (s:Shared) (σ:St) (H:Hp) (x y:V) (v u:Value) (Q:VK),Inv X pins σ H s->RelV x v->RelV y u->r x y H Q->
  wpAny (model X.prog X.w) X.A (f v u) (EP X pins σ Q) X.xe s
def UnR (X:Cx)(f:Value->Sem Value)(r:V->Hp->VK->Prop):Prop:=
 ∀(pins:List (Addr×Obj)) (s:Shared) (σ:St) (H:Hp) (x:V) (v:Value) (Q:VK),Inv X pins σ H s->RelV x v->r x H Q->
  wpAny (model X.prog X.w) X.A (f v) (EP X pins σ Q) X.xe s
def CallR (X:Cx)(f:Value)(r:List V->Hp->VK->Prop):Prop:=
 ∀(pins:List (Addr×Obj)) (s:Shared) (σ:St) (H:Hp) (xs:List V) (us:List Value) (Q:VK),Inv X pins σ H s->Vals xs us->r xs H Q->
  wpAny (model X.prog X.w) X.A (call f us) (EP X pins σ Q) X.xe s
def tOp (r:R2)(ta tb:TE):TE:=fun σ H Q=>ta σ H fun x H1=>tb σ H1 fun y H2=>r x y H2 Q
def tUn (r:V->Hp->VK->Prop)(ta:TE):TE:=fun σ H Q=>ta σ H fun x H1=>r x H1 Q
def rI (C:Int->Int->Prop)(g:Int->Int->V):R2:=fun x y H Q=>∃ i j,x=.int i/\y=.int j/\C i j/\Q (g i j) H
def rI0 (g:Int->Int->V):R2:=fun x y H Q=>∃ i j,x=.int i/\y=.int j/\Q (g i j) H
def rU (g:Int->V):V->Hp->VK->Prop:=fun x H Q=>∃ i,x=.int i/\Q (g i) H
section
variable {X:Cx} {a b c:Expr} {ta tb tc:TE} {pos:Pos}
theorem binT (ha:PE X a ta)(hb:PE X b tb){pins:List (Addr×Obj)}{s:Shared}{σ:St}{H:Hp}{R:V->V->Hp->Prop}(I:Inv X pins σ H s)
 (h:ta σ H fun x H1=>tb σ H1 fun y H2=>R x y H2) {Q:Value->Shared->Prop} {f:Value->Value->Sem Value}
 (hf:∀ v u s2 x y H2,Inv X pins σ H2 s2->RelV x v->RelV y u->R x y H2->wpAny (model X.prog X.w) X.A (f v u) Q X.xe s2):
 wpAny (model X.prog X.w) X.A (eval a X.env) (fun v s₁=>wpAny (model X.prog X.w) X.A (eval b X.env) (fun u s₂=>wpAny (model X.prog X.w) X.A (f v u) Q X.xe s₂) X.xe s₁) X.xe s:=by
 refine thn (ha pins s σ H _ I h) fun v s1 ⟨x,H1,I1,r1,q1⟩=>?_
 refine thn (hb pins s1 σ H1 _ I1 q1) fun u s2 ⟨y,H2,I2,r2,q2⟩=>?_
 exact hf v u s2 x y H2 I2 r1 r2 q2
theorem pe_op {op:Operator}{r:R2}(ho:OpR X (binaryOp op) r)(ha:PE X a ta)(hb:PE X b tb):PE X (.BinOp a op b pos) (tOp r ta tb):=by
 intro pins s σ H Q I h
 exact wpAny_BinOp (binT ha hb I h fun v u s2 x y H2 I2 rx ry q=>ho pins s2 σ H2 x y v u Q I2 rx ry q)
theorem pe_un {op:UnaryOp}{r:V->Hp->VK->Prop}(ho:UnR X (unaryOp op) r)(ha:PE X a ta):PE X (.UnaryOp op a pos) (tUn r ta):=by
 intro pins s σ H Q I h
 exact UnaryOp_ (thn (ha pins s σ H _ I h) fun v s1 ⟨x,H1,I1,r1,q1⟩=>ho pins s1 σ H1 x v Q I1 r1 q1)
theorem opI {f:Value->Value->Sem Value}{C:Int->Int->Prop}{g:Int->Int->Int}
 (rule:∀(i j:Int) (t u:Tok) (s:Shared) (Q:Value->Shared->Prop) (E:Value->Shared->Prop),C i j->Q (.int (g i j) s.toks) { s with toks:=s.toks+ 1 }->wpAny (model X.prog X.w) X.A (f (.int i t) (.int j u)) Q E s):
 OpR X f (rI C fun i j=>.int (g i j)):=by
 intro pins s σ H x y v u Q I rx ry h
 obtain⟨i,j,rfl,rfl,hc,q⟩:=h
 obtain⟨t,rfl⟩:=rx
 obtain⟨t',rfl⟩:=ry
 exact rule i j t t' s _ _ hc ⟨.int (g i j),H,I.tok _,⟨_,rfl⟩,q⟩
theorem opI0 {f:Value->Value->Sem Value}{g:Int->Int->Int}
 (rule:∀(i j:Int) (t u:Tok) (s:Shared) (Q:Value->Shared->Prop) (E:Value->Shared->Prop),Q (.int (g i j) s.toks) { s with toks:=s.toks+ 1 }->wpAny (model X.prog X.w) X.A (f (.int i t) (.int j u)) Q E s):
 OpR X f (rI0 fun i j=>.int (g i j)):=by
 intro pins s σ H x y v u Q I rx ry h
 obtain⟨i,j,rfl,rfl,q⟩:=h
 obtain⟨t,rfl⟩:=rx
 obtain⟨t',rfl⟩:=ry
 exact rule i j t t' s _ _ ⟨.int (g i j),H,I.tok _,⟨_,rfl⟩,q⟩
theorem opB0 {f:Value->Value->Sem Value}{g:Int->Int->Bool}
 (rule:∀(i j:Int) (t u:Tok) (s:Shared) (Q:Value->Shared->Prop) (E:Value->Shared->Prop),Q (.bool (g i j)) s->wpAny (model X.prog X.w) X.A (f (.int i t) (.int j u)) Q E s):
 OpR X f (rI0 fun i j=>.bl (g i j)):=by
 intro pins s σ H x y v u Q I rx ry h
 obtain⟨i,j,rfl,rfl,q⟩:=h
 obtain⟨t,rfl⟩:=rx
 obtain⟨t',rfl⟩:=ry
 exact rule i j t t' s _ _ ⟨.bl (g i j),H,I,rfl,q⟩
def CDiv (i j:Int):Prop:=0 < j/\j < 1073741824
def CPow (i j:Int):Prop:=0<=j/\j<=1000000/\i.natAbs < 2 ^ 64
def CMul (i j:Int):Prop:=(-(2 ^ 64) < i/\i < 2 ^ 64)\/(-(2 ^ 64) < j/\j < 2 ^ 64)
theorem CMul.ok {i j:Int}(h:CMul i j):IntMulOk i j:=by
 rcases h with ⟨h1,h2⟩ | ⟨h1,h2⟩
 ·exact .of_left (intBits_le_64 h1 h2)
 ·exact .of_right (intBits_le_64 h1 h2)
theorem op_add:OpR X (binaryOp .Add) (rI0 fun i j=>.int (i+ j)):=opI0 fun _ _ _ _ _ _ _ q=>add_int q
theorem op_sub:OpR X (binaryOp .Sub) (rI0 fun i j=>.int (i - j)):=opI0 fun _ _ _ _ _ _ _ q=>sub_int q
theorem op_mul:OpR X (binaryOp .Mult) (rI CMul fun i j=>.int (i* j)):=opI fun _ _ _ _ _ _ _ hc q=>mul_int q hc.ok
theorem op_fdiv:OpR X (binaryOp .FloorDiv) (rI CDiv fun i j=>.int (i / j)):=opI fun i j _ _ _ _ _ hc q=>by
 have h1:(0:Int) < j:=hc.1
 have h2:j < 1073741824:=hc.2
 exact floordiv_int (by omega) (by rw[Int.fdiv_eq_ediv_of_nonneg i (by omega)];exact q) (.inl (PyProof.noPylong_small (by omega)))
theorem op_mod:OpR X (binaryOp .Mod) (rI (fun _ j=>0 < j) fun i j=>.int (i % j)):=opI fun i j _ _ _ _ _ hc q=>by
 have h1:(0:Int) < j:=hc
 exact mod_int' (by omega) (by rw[Int.fmod_eq_emod_of_nonneg i (by omega)];exact q)
theorem op_pow:OpR X (binaryOp .Pow) (rI CPow fun i j=>.int (i ^ j.toNat)):=opI fun _ _ _ _ _ _ _ hc q=>pow_int_small hc.1 hc.2.1 hc.2.2 q
theorem unI {f:Value->Sem Value}{g:Int->Int}
 (rule:∀(i:Int) (t:Tok) (s:Shared) (Q:Value->Shared->Prop) (E:Value->Shared->Prop),Q (.int (g i) s.toks) { s with toks:=s.toks+ 1 }->wpAny (model X.prog X.w) X.A (f (.int i t)) Q E s):
 UnR X f (rU fun i=>.int (g i)):=by
 intro pins s σ H x v Q I rx h
 obtain⟨i,rfl,q⟩:=h
 obtain⟨t,rfl⟩:=rx
 exact rule i t s _ _ ⟨.int (g i),H,I.tok _,⟨_,rfl⟩,q⟩
theorem un_neg:UnR X (unaryOp .USub) (rU fun i=>.int (-i)):=unI fun _ _ _ _ _ q=>neg_int q
end
def scal:V->V->Bool
 | .non,.non=>true | .non,.int _=>true | .int _,.non=>true | .non,.bl _=>true | .bl _,.non=>true | .non,.str _=>true | .str _,.non=>true
 | .int _,.int _=>true | .bl _,.bl _=>true | .str _,.str _=>true | .byt _,.byt _=>true
 | .int _,.str _=>true | .str _,.int _=>true | .bl _,.str _=>true | .str _,.bl _=>true
 | _,_=>false
def rEq:R2:=fun x y H Q=>scal x y=true/\Q (.bl (decide (x=y))) H
def rNe:R2:=fun x y H Q=>scal x y=true/\Q (.bl (!decide (x=y))) H
theorem dec_int {i j:Int}:decide (V.int i=V.int j)=(i==j):=by
 rw[Bool.eq_iff_iff]
 simp
theorem dec_bl {i j:Bool}:decide (V.bl i=V.bl j)=(i==j):=by
 rw[Bool.eq_iff_iff]
 simp
theorem dec_str {i j:Str}:decide (V.str i=V.str j)=(i==j):=by
 rw[Bool.eq_iff_iff]
 simp
theorem dec_byt {i j:Array UInt8}:decide (V.byt i=V.byt j)=(i.toList==j.toList):=by
 rw[Bool.eq_iff_iff]
 cases i
 cases j
 simp
section
variable {X:Cx} {a b c:Expr} {ta tb tc:TE} {pos:Pos}
theorem fin_bl {pins:List (Addr×Obj)}{σ:St}{H:Hp}{s:Shared}{Q:VK}{k k':Bool}(I:Inv X pins σ H s)(q:Q (.bl k) H)(e:k=k'):EP X pins σ Q (.bool k') s:=by
 subst e
 exact⟨.bl k,H,I,rfl,q⟩
theorem op_eq:OpR X (compareOp .Eq) rEq:=by
 intro pins s σ H x y v u Q I rx ry h
 obtain⟨hs,q⟩:=h
 cases x with
 | non=>
   cases rx
   cases y with
   | non=>cases ry;exact PySem.EqNone.eq_none_none (fin_bl I q (by simp))
   | bl j=>cases ry;exact PySem.EqNone.eq_none_bool (fin_bl I q (by simp))
   | int j=>obtain⟨t',rfl⟩:=ry;exact PySem.EqNone.eq_none_int (fin_bl I q (by simp))
   | str j=>obtain⟨t',rfl⟩:=ry;exact PySem.EqNone.eq_none_str (fin_bl I q (by simp))
   | _=>exact absurd (show false=true from hs) Bool.false_ne_true
 | bl i=>
   cases rx
   cases y with
   | non=>cases ry;exact PySem.EqNone.eq_bool_none (fin_bl I q (by simp))
   | bl j=>cases ry;exact eq_bool (fin_bl I q dec_bl)
   | str j=>obtain⟨t',rfl⟩:=ry;exact PySem.EqMixed.eq_bool_str (fin_bl I q (by simp))
   | _=>exact absurd (show false=true from hs) Bool.false_ne_true
 | int i=>
   obtain⟨t,rfl⟩:=rx
   cases y with
   | non=>cases ry;exact PySem.EqNone.eq_int_none (fin_bl I q (by simp))
   | int j=>obtain⟨t',rfl⟩:=ry;exact eq_int (fin_bl I q dec_int)
   | str j=>obtain⟨t',rfl⟩:=ry;exact PySem.EqMixed.eq_int_str (fin_bl I q (by simp))
   | _=>exact absurd (show false=true from hs) Bool.false_ne_true
 | str i=>
   obtain⟨t,rfl⟩:=rx
   cases y with
   | non=>cases ry;exact PySem.EqNone.eq_str_none (fin_bl I q (by simp))
   | bl j=>cases ry;exact PySem.EqMixed.eq_str_bool (fin_bl I q (by simp))
   | int j=>obtain⟨t',rfl⟩:=ry;exact PySem.EqMixed.eq_str_int (fin_bl I q (by simp))
   | str j=>obtain⟨t',rfl⟩:=ry;exact eq_str (fin_bl I q dec_str)
   | _=>exact absurd (show false=true from hs) Bool.false_ne_true
 | byt i=>
   obtain⟨t,rfl⟩:=rx
   cases y with
   | byt j=>obtain⟨t',rfl⟩:=ry;exact PySem.W.eq_bytes (fin_bl I q dec_byt)
   | _=>exact absurd (show false=true from hs) Bool.false_ne_true
 | _=>cases y <;> exact absurd (show false=true from hs) Bool.false_ne_true
theorem op_ne:OpR X (compareOp .NotEq) rNe:=by
 intro pins s σ H x y v u Q I rx ry h
 obtain⟨hs,q⟩:=h
 cases x with
 | non=>
   cases rx
   cases y with
   | non=>cases ry;exact PySem.EqNone.ne_none_none (fin_bl I q (by simp))
   | bl j=>cases ry;exact PySem.EqNone.ne_none_bool (fin_bl I q (by simp))
   | int j=>obtain⟨t',rfl⟩:=ry;exact PySem.EqNone.ne_none_int (fin_bl I q (by simp))
   | str j=>obtain⟨t',rfl⟩:=ry;exact PySem.EqNone.ne_none_str (fin_bl I q (by simp))
   | _=>exact absurd (show false=true from hs) Bool.false_ne_true
 | bl i=>
   cases rx
   cases y with
   | non=>cases ry;exact PySem.EqNone.ne_bool_none (fin_bl I q (by simp))
   | bl j=>cases ry;exact ne_bool (fin_bl I q (congrArg not dec_bl))
   | str j=>obtain⟨t',rfl⟩:=ry;exact PySem.EqMixed.ne_bool_str (fin_bl I q (by simp))
   | _=>exact absurd (show false=true from hs) Bool.false_ne_true
 | int i=>
   obtain⟨t,rfl⟩:=rx
   cases y with
   | non=>cases ry;exact PySem.EqNone.ne_int_none (fin_bl I q (by simp))
   | int j=>obtain⟨t',rfl⟩:=ry;exact ne_int (fin_bl I q (congrArg not dec_int))
   | str j=>obtain⟨t',rfl⟩:=ry;exact PySem.EqMixed.ne_int_str (fin_bl I q (by simp))
   | _=>exact absurd (show false=true from hs) Bool.false_ne_true
 | str i=>
   obtain⟨t,rfl⟩:=rx
   cases y with
   | non=>cases ry;exact PySem.EqNone.ne_str_none (fin_bl I q (by simp))
   | bl j=>cases ry;exact PySem.EqMixed.ne_str_bool (fin_bl I q (by simp))
   | int j=>obtain⟨t',rfl⟩:=ry;exact PySem.EqMixed.ne_str_int (fin_bl I q (by simp))
   | str j=>obtain⟨t',rfl⟩:=ry;exact ne_str (fin_bl I q (congrArg not dec_str))
   | _=>exact absurd (show false=true from hs) Bool.false_ne_true
 | byt i=>
   obtain⟨t,rfl⟩:=rx
   cases y with
   | byt j=>obtain⟨t',rfl⟩:=ry;exact PySem.W.ne_bytes (fin_bl I q (congrArg not dec_byt))
   | _=>exact absurd (show false=true from hs) Bool.false_ne_true
 | _=>cases y <;> exact absurd (show false=true from hs) Bool.false_ne_true
theorem op_lt:OpR X (compareOp .Lt) (rI0 fun i j=>.bl (decide (i < j))):=opB0 fun _ _ _ _ _ _ _ q=>lt_int q
theorem op_le:OpR X (compareOp .LtE) (rI0 fun i j=>.bl (decide (i<=j))):=opB0 fun _ _ _ _ _ _ _ q=>le_int q
theorem op_gt:OpR X (compareOp .Gt) (rI0 fun i j=>.bl (decide (j < i))):=opB0 fun _ _ _ _ _ _ _ q=>gt_int q
theorem op_ge:OpR X (compareOp .GtE) (rI0 fun i j=>.bl (decide (j<=i))):=opB0 fun _ _ _ _ _ _ _ q=>ge_int q
theorem op_isN:OpR X (compareOp .Is) (fun x y H Q=>y=.non/\Q (.bl (decide (x=.non))) H):=by
 intro pins s σ H x y v u Q I rx ry h
 obtain⟨rfl,q⟩:=h
 cases ry
 refine is_none_gen (fin_bl I q ?_)
 cases x <;> first
  | (cases rx;rfl)
  | (obtain⟨t,rfl⟩:=rx;rfl)
theorem op_notN:OpR X (compareOp .IsNot) (fun x y H Q=>y=.non/\Q (.bl (!decide (x=.non))) H):=by
 intro pins s σ H x y v u Q I rx ry h
 obtain⟨rfl,q⟩:=h
 cases ry
 refine isnot_none_gen (fin_bl I q ?_)
 cases x <;> first
  | (cases rx;rfl)
  | (obtain⟨t,rfl⟩:=rx;rfl)
theorem nomark (b:Expr){op:CmpOp}(h:op≠.In:=by decide)(h2:op≠.NotIn:=by decide):behindInMarks op b=false:=by
 have e1:(op==CmpOp.In)=false:=by cases op <;> first | rfl | exact absurd rfl h
 have e2:(op==CmpOp.NotIn)=false:=by cases op <;> first | rfl | exact absurd rfl h2
 cases b <;> simp[behindInMarks,e1,e2]
theorem pe_cmpR {op:CmpOp}{r:R2}(ho:OpR X (compareOp op) r)(ha:PE X a ta)(hb:PE X b tb)(hm:behindInMarks op b=false):PE X (.Compare a [op] [b] pos) (tOp r ta tb):=by
 intro pins s σ H Q I h
 exact wpAny_Compare1 (binT ha hb I h fun v u s2 x y H2 I2 rx ry q=>ho pins s2 σ H2 x y v u Q I2 rx ry q) hm
def tTest (t:TE):TT:=fun σ H Q=>t σ H fun x H'=>∃ k,x=.bl k/\Q k H'
theorem pt_cmpR {op:CmpOp}{r:R2}(ho:OpR X (compareOp op) r)(ha:PE X a ta)(hb:PE X b tb)(hm:behindInMarks op b=false):PT X (.Compare a [op] [b] pos) (tTest (tOp r ta tb)):=by
 intro pins s σ H Q I h
 refine wpAny_isTrue_Compare1 (thn (ha pins s σ H _ I h) fun v s1 ⟨x,H1,I1,r1,q1⟩=>thn (hb pins s1 σ H1 _ I1 q1) fun u s2 ⟨y,H2,I2,r2,q2⟩=>
  thn (ho pins s2 σ H2 x y v u _ I2 r1 r2 q2) fun c s3 ⟨z,H3,I3,r3,k,e,q3⟩=>?_) hm
 subst e
 cases r3
 exact wpAny_truthy_bool ⟨H3,I3,q3⟩
def tChain (r r':R2)(ta tb tc:TE):TE:=fun σ H Q=>ta σ H fun x H1=>tb σ H1 fun y H2=>r x y H2 fun z H3=>∃ k,z=.bl k/\
 (if k=true then tc σ H3 fun w' H4=>r' y w' H4 Q else Q (.bl false) H3)
theorem pt_chain {op op':CmpOp}{r r':R2}(ho:OpR X (compareOp op) r)(ho':OpR X (compareOp op') r')(ha:PE X a ta)(hb:PE X b tb)(hc:PE X c tc)
 (hm:lastMarks [op,op'] [b,c]=false:=by with_unfolding_all rfl):PT X (.Compare a [op,op'] [b,c] pos) (tTest (tChain r r' ta tb tc)):=by
 intro pins s σ H Q I h
 refine isTrue_chain (thn (ha pins s σ H _ I h) fun v s1 ⟨x,H1,I1,r1,q1⟩=>test_link (thn (hb pins s1 σ H1 _ I1 q1) fun u s2 ⟨y,H2,I2,r2,q2⟩=>
  thn (ho pins s2 σ H2 x y v u _ I2 r1 r2 q2) fun d s3 ⟨z,H3,I3,r3,k,e,q3⟩=>?_)) hm
 subst e
 cases r3
 refine wpAny_truthy_bool ?_
 cases k with
 | false=>
   obtain⟨k',e',q'⟩:=q3
   cases e'
   exact ite_ff ⟨H3,I3,q'⟩
 | true=>
   refine ite_tt (test_last (thn (hc pins s3 σ H3 _ I3 q3) fun w' s4 ⟨z',H4,I4,r4,q4⟩=>thn (ho' pins s4 σ H4 y z' u w' _ I4 r2 r4 q4) fun d' s5 ⟨z2,H5,I5,r5,k2,e2,q5⟩=>?_))
   subst e2
   cases r5
   exact wpAny_truthy_bool ⟨H5,I5,q5⟩
theorem line63:(sizeLine:Nat) < 2 ^ 63:=by rw[sizeLine_eq];decide
theorem vals1 {x:V}{us:List Value}(r:Vals [x] us):∃ u,us=[u]/\RelV x u:=by
 cases r with
 | cons r1 r2=>cases r2;exact⟨_,rfl,r1⟩
theorem vals2 {x y:V}{us:List Value}(r:Vals [x,y] us):∃ u w',us=[u,w']/\RelV x u/\RelV y w':=by
 cases r with
 | cons r1 r2=>
   cases r2 with
   | cons r3 r4=>cases r4;exact⟨_,_,rfl,r1,r3⟩
theorem call_abs:CallR X (.builtin "abs") (fun xs H Q=>∃ i,xs=[.int i]/\Q (.int (if i < 0 then -i else i)) H):=by
 intro pins s σ H xs us Q I r h
 obtain⟨i,rfl,q⟩:=h
 obtain⟨u,rfl,t,rfl⟩:=vals1 r
 exact call_abs_int fun u tk=>⟨.int (if i < 0 then -i else i),H,I.tok _,⟨_,rfl⟩,q⟩
theorem call_max2 (hc:X.calm=true):CallR X (.builtin "max") (fun xs H Q=>∃ i j,xs=[.int i,.int j]/\Q (.int (if j > i then j else i)) H):=by
 intro pins s σ H xs us Q I r h
 obtain⟨i,j,rfl,q⟩:=h
 obtain⟨u,w',rfl,⟨t,rfl⟩,⟨t',rfl⟩⟩:=vals2 r
 refine max_two_ints (I.ok.hd hc) fun h' tk k=>⟨_,H,I.kept k,?_,q⟩
 by_cases hj:j > i
 ·rw[if_pos hj,if_pos hj];exact⟨_,rfl⟩
 ·rw[if_neg hj,if_neg hj];exact⟨_,rfl⟩
theorem call_min2 (hc:X.calm=true):CallR X (.builtin "min") (fun xs H Q=>∃ i j,xs=[.int i,.int j]/\Q (.int (if j < i then j else i)) H):=by
 intro pins s σ H xs us Q I r h
 obtain⟨i,j,rfl,q⟩:=h
 obtain⟨u,w',rfl,⟨t,rfl⟩,⟨t',rfl⟩⟩:=vals2 r
 refine min_two_ints (I.ok.hd hc) fun h' tk k=>⟨_,H,I.kept k,?_,q⟩
 by_cases hj:j < i
 ·rw[if_pos hj,if_pos hj];exact⟨_,rfl⟩
 ·rw[if_neg hj,if_neg hj];exact⟨_,rfl⟩
end
end L2
namespace L2
open PySem PySem.Spec PyProof.Rows
structure ObjM (h:Heap) (x dx C:Addr) (mA:Str->Option Value):Prop where
 obj:h.get? x=some (PySem.W.instObj C dx)
 ns:h.Ns1 dx mA
 ne:dx≠x
theorem lookIn_ns {h:Heap}{dx:Addr}{mA:Str->Option Value}(n:h.Ns1 dx mA):∃ od,h.get? dx=some od/\∀ name,PySem.W.lookIn name od=some (mA name):=by
 obtain⟨o,es,ep,ho,hd,hk,_,hm⟩:=n
 refine⟨o,ho,fun name=>?_⟩
 have e:=hm name
 unfold nsFind findBy at e
 rw[← Array.find?_toList] at e
 unfold PySem.W.lookIn
 rw[hd]
 dsimp only
 split
 ·rename_i y q
  rw[q] at e
  exact congrArg some e
 ·rename_i q
  rw[q] at e
  have a:es.toList.any (·.refKey)=false:=by
   rw[List.any_eq_false]
   intro y hy
   obtain⟨z,t,hkey⟩:=hk y (Array.mem_toList_iff.mp hy)
   simp[DictEntry.refKey,hkey]
  have a':¬ es.toList.any (·.refKey)=true:=by rw[a];exact Bool.false_ne_true
  rw[if_neg a']
  exact congrArg some e
theorem ObjM.look {h:Heap}{x dx C:Addr}{mA:Str->Option Value}(I:ObjM h x dx C mA):∃ od,PySem.W.InstAt h x (PySem.W.instObj C dx) C (some od)/\∀ name,PySem.W.lookIn name od=some (mA name):=
 let ⟨od,ho,hl⟩:=lookIn_ns I.ns
 ⟨od,⟨I.obj,rfl,rfl,ho⟩,hl⟩
section
variable {prog:Program} {w:World} {A:Around} {E:Value->Shared->Prop} {s:Shared} {K:PySem.W.Frag} {x dx C f:Addr} {mA:Str->Option Value} {name:Str} {v:Value}
theorem get_map {expr:Bool}{Q:Value->Shared->Prop}(X:K.In s.heap)(I:ObjM s.heap x dx C mA)(hg:PySem.W.plainGet K C name=true)(hh:PySem.W.hasDictIn K C=true)
 (ha:PySem.W.findIn K (.ref C) name=some none) (hv:mA name=some v) (hv':PySem.W.handedIn v=true) (h:Q v { s with toks:=s.toks+ 1 }):
 wpAny (model prog w) A (getAttr (.ref x) name expr) Q E s:=by
 obtain⟨od,J,hl⟩:=I.look
 exact PySem.W.get_value X J (PySem.W.plainGet_of hg).1 (PySem.W.findObj_own hh ha rfl (by rw[hl,hv])) hv' h
theorem get_meth {pl:Sem Bool}{Q:Value×List Value->Shared->Prop}(X:K.In s.heap)(I:ObjM s.heap x dx C mA)(hg:PySem.W.plainGet K C name=true)
 (hf:PySem.W.findIn K (.ref C) name=some (some (.ref f))) (ht:PySem.W.isFn K (.ref f)=true) (hv:mA name=none) (h:Q (.ref f,[.ref x]) s):
 wpAny (model prog w) A (getMethod (.ref x) name pl) Q E s:=by
 obtain⟨od,J,hl⟩:=I.look
 exact PySem.W.method_fn X J (PySem.W.plainGet_of hg).1 (PySem.W.plainGet_of hg).2 hf (beq_iff_eq.mp ht) (by show (PySem.W.lookIn name od).map (·.isSome)=some false;rw[hl,hv];rfl) h
theorem set_map {ns:List Str}{Q:Unit->Shared->Prop}(X:K.In s.heap)(I:ObjM s.heap x dx C mA)
 (hs:PySem.W.findIn K (.ref C) "__setattr__"=some (some (.builtin "object.__setattr__"))) (hp:PySem.W.plainOver K C=true) (ht:PySem.W.takerIn K C name=some none) (hh:PySem.W.hasDictIn K C=true)
 (hw:PySem.Within mA ns) (hsz:ns.length<=sizeLine)
 (h:∀ h',ObjM h' x dx C (fun y=>if y=name then some v else mA y)->Heap.SameBut dx s.heap h'->Q () { s with heap:=h',toks:=s.toks+ 2 }):
 wpAny (model prog w) A (setAttr (.ref x) name v) Q E s:=by
 obtain⟨od,J,hl⟩:=I.look
 refine PySem.W.set_plain X J hs (PySem.W.osa_open (s:={ s with toks:=s.toks+ 1 }) (r:=none) X J hp ht fun b=>?_)
 obtain⟨cd,hc,hd'⟩:=PySem.W.any_some hh
 have hx:s.heap.get? x=some ⟨.ref C,some dx,.plain,#[]⟩:=I.obj
 refine wpAny_bind (wpAny_pure (wpAny_bind (wpAny_bind (wpAny_loadPart hx (wpAny_bind (PySem.W.Looks.here (s:={ s with toks:=s.toks+ 1 }) (PySem.W.looks_clsIn X hc) ?_))))))
 rw[hd']
 refine wpAny_pure (a:=some dx) (wpAny_bind (wpAny_pure (wpAny_bind ?_)))
 refine wpAny_nsSet1 (s:={ s with toks:=s.toks+ 1 }) I.ns fun h' hn2 hs2=>?_
 obtain⟨oD,esD,epD,hoD,hdD,hcD⟩:=hn2.count (PySem.Within.cons name v hw)
 refine wpAny_bind (wpAny_lookBehind hoD (by rw[hdD];exact pastItsLine_dict (Nat.le_trans hcD (by rw[List.length_cons];omega))) ?_)
 exact wpAny_pure (h _ ⟨(hs2.2 _ (Ne.symm I.ne)).trans I.obj,hn2,I.ne⟩ hs2)
theorem make_map {R:Result->Shared->Prop}{vs:List Value}{kw:List (Str×Value)}(X:K.In s.heap)(hm:PySem.W.makesIn K C=true)
 (hi:PySem.W.findIn K (.ref C) "__init__"=some (some (.ref f))) (hf:PySem.W.typeIn K (.ref f)=some (.type "function"))
 (h:codeAny (model prog w) (A.under (.builtin "type.__call__" ⟨.ref C :: vs,kw⟩)) (.call (.ref f) ⟨.ref (s.heap.objs.size+ 1) :: vs,kw⟩) (PySem.W.InitBack (s.heap.objs.size+ 1) R)
  { s with heap:=(s.heap.push PySem.W.emptyDict).push (PySem.W.instObj C s.heap.objs.size) }):
 codeAny (model prog w) A (.call (.ref C) ⟨vs,kw⟩) R s:=by
 obtain⟨hh,g,d,t,os⟩:=s
 exact PySem.W.make_core (PySem.W.makes_of X hm) (PySem.W.looks_findIn X hi) (fun self=>PySem.W.bind_fn X self hf) (.inl rfl) h
end
def putF (f:Str)(v:V):List (Str×V)->List (Str×V)
 | []=>[(f,v)]
 | (g,x) :: r=>if g=f then (g,v) :: r else (g,x) :: putF f v r
theorem lookup_putF (f g:Str)(v:V):∀ fs:List (Str×V),(putF f v fs).lookup g=if g=f then some v else fs.lookup g
 | []=>by
   show List.lookup g [(f,v)]=_
   by_cases h:g=f
   ·have hb:(g==f)=true:=beq_iff_eq.mpr h
    simp only[List.lookup,hb,if_pos h]
   ·have hb:(g==f)=false:=beq_eq_false_iff_ne.mpr h
    simp only[List.lookup,hb,if_neg h]
 | (k,x) :: r=>by
   have ih:=lookup_putF f g v r
   rw[show putF f v ((k,x) :: r)=(if k=f then (k,v) :: r else (k,x) :: putF f v r) from rfl]
   by_cases hk:k=f
   ·rw[if_pos hk]
    by_cases h:g=k
    ·have hb:(g==k)=true:=beq_iff_eq.mpr h
     simp only[List.lookup,hb,if_pos (h.trans hk)]
    ·have hb:(g==k)=false:=beq_eq_false_iff_ne.mpr h
     simp only[List.lookup,hb,if_neg (fun e:g=f=>h (e.trans hk.symm))]
   ·rw[if_neg hk]
    by_cases h:g=k
    ·have hb:(g==k)=true:=beq_iff_eq.mpr h
     simp only[List.lookup,hb,if_neg (fun e:g=f=>hk (h.symm.trans e))]
    ·have hb:(g==k)=false:=beq_eq_false_iff_ne.mpr h
     simp only[List.lookup,hb]
     exact ih
theorem keys_putF (f:Str)(v:V):∀ fs:List (Str×V),f∈(putF f v fs).map (·.1)/\∀ g,g∈fs.map (·.1)->g∈(putF f v fs).map (·.1)
 | []=>⟨by simp[putF],fun g h=>by simp at h⟩
 | (k,x) :: r=>by
   obtain⟨i1,i2⟩:=keys_putF f v r
   rw[show putF f v ((k,x) :: r)=(if k=f then (k,v) :: r else (k,x) :: putF f v r) from rfl]
   by_cases hk:k=f
   ·rw[if_pos hk]
    subst hk
    exact⟨by simp,fun g h=>by simpa using h⟩
   ·rw[if_neg hk]
    refine⟨?_,fun g h=>?_⟩
    ·rw[List.map_cons]
     exact List.mem_cons_of_mem _ i1
    ·rw[List.map_cons] at h ⊢
     rcases List.mem_cons.mp h with e | e
     ·exact List.mem_cons.mpr (.inl e)
     ·exact List.mem_cons_of_mem _ (i2 g e)
theorem length_putF (f:Str)(v:V):∀ fs:List (Str×V),(putF f v fs).length<=fs.length+ 1
 | []=>by simp[putF]
 | (k,x) :: r=>by
   have ih:=length_putF f v r
   rw[show putF f v ((k,x) :: r)=(if k=f then (k,v) :: r else (k,x) :: putF f v r) from rfl]
   by_cases hk:k=f
   ·rw[if_pos hk,List.length_cons,List.length_cons];omega
   ·rw[if_neg hk,List.length_cons,List.length_cons];omega
theorem RelO.some_of {v:V}{o:Option Value}(r:RelO (some v) o):∃ u,o=some u/\RelV v u:=by
 cases o with
 | none=>exact(show False from r).elim
 | some u=>exact⟨u,rfl,r⟩
theorem RelO.none_of {o:Option Value}(r:RelO none o):o=none:=by
 cases o with
 | none=>rfl
 | some u=>exact(show False from r).elim
theorem handed_of {v:V}{u:Value}(r:RelV v u):PySem.W.handedIn u=true:=by
 cases v with
 | non=>cases (show u=Value.none from r);rfl
 | bl b=>cases (show u=Value.bool b from r);rfl
 | int i=>obtain⟨t,e⟩:=(show ∃ t,u=Value.int i t from r);cases e;rfl
 | str x=>obtain⟨t,e⟩:=(show ∃ t,u=Value.str x t from r);cases e;rfl
 | byt b=>obtain⟨t,e⟩:=(show ∃ t,u=Value.bytes b t from r);cases e;rfl
 | flt b=>obtain⟨t,e⟩:=(show ∃ t,u=Value.float b t from r);cases e;rfl
 | ref a=>cases (show u=Value.ref a from r);rfl
 | ty n=>cases (show u=Value.type n from r);rfl
section
variable {P:Program} {w:World} {H H':Hp} {h h':Heap} {a C dx:Addr} {fs fs':List (Str×V)}
theorem ins_get (hok:HOk P w H h)(e:H a=some (.ins C dx fs)):∃ mA,ObjM h a dx C mA/\(∀ f,RelO (fs.lookup f) (mA f))/\PySem.Within mA (fs.map (·.1))/\fs.length<=1000/\H dx=some (.own a):=by
 obtain⟨d,z,ne,ob,mA,n,r,q⟩:=(show ObjOk P w H h a (.ins C dx fs) from hok a _ e)
 exact⟨mA,⟨ob,n,ne⟩,r,q,z,d⟩
end
structure Cls (K:PySem.W.Frag) (C:Addr):Prop where
 pg:PySem.W.plainGet K C Str.empty=true
 hd:PySem.W.hasDictIn K C=true
 po:PySem.W.plainOver K C=true
 sa:PySem.W.findIn K (.ref C) "__setattr__"=some (some (.builtin "object.__setattr__"))
theorem Cls.get {K:PySem.W.Frag}{C:Addr}(c:Cls K C)(f:Str):PySem.W.plainGet K C f=true:=c.pg
def NoAttr (K:PySem.W.Frag)(C:Addr)(f:Str):Prop:=PySem.W.findIn K (.ref C) f=some none
theorem NoAttr.taker {K:PySem.W.Frag}{C:Addr}{f:Str}(n:NoAttr K C f):PySem.W.takerIn K C f=some none:=by
 unfold PySem.W.takerIn
 rw[show PySem.W.findIn K (.ref C) f=some none from n]
 rfl
structure Con (K:PySem.W.Frag) (C:Addr) (f:Str) (v:V) (u:Value):Prop where
 at_:PySem.W.findIn K (.ref C) f=some (some u)
 rel:RelV v u
 get:PySem.W.specialIn K u "__get__"=some none
 cp:PySem.W.copiedNames.contains f=false
structure Meth (K:PySem.W.Frag) (C:Addr) (m:Str) (f:Addr):Prop where
 at_:PySem.W.findIn K (.ref C) m=some (some (.ref f))
 fn:PySem.W.isFn K (.ref f)=true
 kp:PySem.W.keepIn K (.ref f)=true
section
variable {X:Cx} {pins:List (Addr×Obj)} {σ:St} {H:Hp} {s:Shared} {a C dx:Addr} {fs:List (Str×V)} {f:Str} {v:V} {A:Around} {E:Value->Shared->Prop}
theorem getattr_ok {b:Bool}{Q:Value->Shared->Prop}(I:Inv X pins σ H s)(e:H a=some (.ins C dx fs))(c:Cls X.K C)(n:NoAttr X.K C f)(l:fs.lookup f=some v)
 (h:∀ u s',Inv X pins σ H s'->RelV v u->Q u s'):wpAny (model X.prog X.w) A (getAttr (.ref a) f b) Q E s:=by
 obtain⟨mA,O,r,_,_,_⟩:=ins_get I.hok e
 obtain⟨u,hu,ru⟩:=RelO.some_of (v:=v) (o:=mA f) (by rw[← l];exact r f)
 exact get_map I.kIn O (c.get f) c.hd n hu (handed_of ru) (h u _ (I.tok _) ru)
theorem getmeth_ok {m:Str}{g:Addr}{pl:Sem Bool}{Q:Value×List Value->Shared->Prop}(I:Inv X pins σ H s)(e:H a=some (.ins C dx fs))(c:Cls X.K C)(k:Meth X.K C m g)(l:fs.lookup m=none)
 (h:Q (.ref g,[.ref a]) s):wpAny (model X.prog X.w) A (getMethod (.ref a) m pl) Q E s:=by
 obtain⟨mA,O,r,_,_,_⟩:=ins_get I.hok e
 have hn:mA m=none:=RelO.none_of (by rw[← l];exact r m)
 exact get_meth I.kIn O (c.get m) k.at_ k.fn hn h
theorem setattr_ok {y:V}{u:Value}{Q:Unit->Shared->Prop}(I:Inv X pins σ H s)(e:H a=some (.ins C dx fs))(c:Cls X.K C)(n:NoAttr X.K C f)(hl:fs.length < 1000)(ry:RelV y u)
 (h:∀ s',Inv X pins σ (upd H a (.ins C dx (putF f y fs))) s'->Q () s'):wpAny (model X.prog X.w) A (setAttr (.ref a) f u) Q E s:=by
 obtain⟨mA,O,r,wi,_,ho⟩:=ins_get I.hok e
 have hz:(fs.map (·.1)).length<=sizeLine:=by rw[List.length_map,sizeLine_eq];omega
 refine set_map I.kIn O c.sa c.po n.taker c.hd wi hz fun h' O' sb=>h _ ?_
 have hd:∃ o,h'.get? dx=some o:=let ⟨o,_,_,e',_⟩:=O'.ns;⟨o,e'⟩
 refine I.write (x:=a) (e:=dx) (by rw[e];exact True.intro) (.inr ho) (fun b q hb z=>(sb.2 b hb).trans z) hd ?_
 refine⟨by rw[upd_ne O.ne];exact ho,?_,O.ne,O'.obj,_,O'.ns,fun g=>?_,fun g hg=>?_⟩
 ·have:=length_putF f y fs;omega
 ·show RelO ((putF f y fs).lookup g) (if g=f then some u else mA g)
  rw[lookup_putF]
  by_cases q:g=f
  ·rw[if_pos q,if_pos q];exact ry
  ·rw[if_neg q,if_neg q];exact r g
 ·by_cases q:g=f
  ·rw[q];exact(keys_putF f y fs).1
  ·refine(keys_putF f y fs).2 g (wi g fun z=>hg ?_)
   show (if g=f then some u else mA g)=none
   rw[if_neg q];exact z
theorem Inv.made (I:Inv X pins σ H s):Inv X pins σ (upd (upd H s.heap.objs.size (.own (s.heap.objs.size+ 1))) (s.heap.objs.size+ 1) (.ins C s.heap.objs.size []))
 { s with heap:=(s.heap.push PySem.W.emptyDict).push (PySem.W.instObj C s.heap.objs.size) }:=by
 have e1:(s.heap.push PySem.W.emptyDict).get? s.heap.objs.size=some PySem.W.emptyDict:=Heap.get?_push_size s.heap rfl
 have e2:((s.heap.push PySem.W.emptyDict).push (PySem.W.instObj C s.heap.objs.size)).get? (s.heap.objs.size+ 1)=some (PySem.W.instObj C s.heap.objs.size):=by
  have:=Heap.get?_push_size (s.heap.push PySem.W.emptyDict) (o:=PySem.W.instObj C s.heap.objs.size) rfl
  rwa [Heap.size_push] at this
 have e3:(s.heap.push PySem.W.emptyDict).Ns s.heap.objs.size (fun _=>none):=⟨PySem.W.emptyDict,#[],_,e1,rfl,(fun e he=>absurd he (by simp)),fun _=>rfl⟩
 have I1:=I.laid (a:=s.heap.objs.size) (o:=.own (s.heap.objs.size+ 1)) (h':=s.heap.push PySem.W.emptyDict) (t':=s.toks) (fun b u q=>Heap.get?_push_of_some _ q) (Nat.le_refl _) ⟨_,e1⟩
 refine I1.laid (a:=s.heap.objs.size+ 1) (o:=.ins C s.heap.objs.size []) (t':=s.toks) (fun b u q=>Heap.get?_push_of_some _ q) (Nat.le_of_eq (Heap.size_push _ _)) ?_
 have ne:s.heap.objs.size≠s.heap.objs.size+ 1:=Nat.ne_of_lt (Nat.lt_succ_self _)
 refine⟨by rw[upd_ne ne,upd_same],Nat.zero_le _,ne,e2,fun _=>none,(Heap.Ns1.of_empty e3).at fun o q=>Heap.get?_push_of_some _ q,fun _=>True.intro,fun y hy=>absurd rfl hy⟩
theorem attr_of {prog:Program}{w:World}{env:Env}{e:Expr}{f:Str}{pos:Pos}{s:Shared}{Q:Value->Shared->Prop}(hb:attributeBase e f env (eval e env)=eval e env)
 (h:wpAny (model prog w) A (eval e env) (fun o s₁=>wpAny (model prog w) A (getAttr o f true) Q E s₁) E s):wpAny (model prog w) A (eval (.Attribute e f pos) env) Q E s:=
 Attribute_any_ h (by rw[arm_eval_Attribute,hb])
end
def tFld (K:PySem.W.Frag)(ta:TE)(f:Str):TE:=fun σ H Q=>ta σ H fun x H1=>∃ a C dx fs v,x=.ref a/\H1 a=some (.ins C dx fs)/\Cls K C/\NoAttr K C f/\fs.lookup f=some v/\Q v H1
def sFld (K:PySem.W.Frag)(ta tv:TE)(f:Str):TS:=fun D σ H=>tv σ H fun y H1=>ta σ H1 fun x H2=>∃ a C dx fs,x=.ref a/\H2 a=some (.ins C dx fs)/\Cls K C/\NoAttr K C f/\fs.length < 1000/\
 D.nx σ (upd H2 a (.ins C dx (putF f y fs)))
section
variable {X:Cx} {o e value:Expr} {f:Str} {pos pos' tpos:Pos} {ta tv:TE}
theorem pe_fld (he:PE X e ta)(hb:attributeBase e f X.env (eval e X.env)=eval e X.env):PE X (.Attribute e f pos) (tFld X.K ta f):=by
 intro pins s σ H Q I h
 refine attr_of hb (thn (he pins s σ H _ I h) fun u s1 ⟨x,H1,I1,rx,a,C,dx,fs,v,ex,ea,c,n,l,q⟩=>?_)
 subst ex
 obtain rfl:u=Value.ref a:=rx
 exact getattr_ok I1 ea c n l fun u' s2 I2 ru=>⟨v,H1,I2,ru,q⟩
theorem ps_fld (ha:PE X o ta)(hv:PE X value tv)(hs:swapsWith value (some (.Attribute o f pos')) pos.line X.env=pure false):PS X (.Assign [.Attribute o f pos'] value pos) (sFld X.K ta tv f):=by
 intro pins s σ H D I h
 refine plainObj_wpAny_Assign_Attribute (thn (hv pins s σ H _ I h) fun u s1 ⟨y,H1,I1,ry,q⟩=>thn (ha pins s1 σ H1 _ I1 q) fun ov s2 ⟨x,H2,I2,rx,a,C,dx,fs,ex,ea,c,n,l,q2⟩=>?_) hs
 subst ex
 obtain rfl:ov=Value.ref a:=rx
 exact setattr_ok I2 ea c n l ry fun s3 I3=>⟨σ,_,I3,q2⟩
end
section
variable {X:Cx} {pins:List (Addr×Obj)} {σ:St} {H:Hp} {s:Shared} {A:Around} {E:Value->Shared->Prop} {Q:Value->Shared->Prop} {c:Value} {b:Bool}
inductive TyOf (K:PySem.W.Frag) (H:Hp):V->Value->Prop where
 | non:TyOf K H .non (.type "NoneType")
 | bl (x:Bool):TyOf K H (.bl x) (.type "bool")
 | int (i:Int):TyOf K H (.int i) (.type "int")
 | str (x:Str):TyOf K H (.str x) (.type "str")
 | flt (x:UInt64):TyOf K H (.flt x) (.type "float")
 | lst {a:Addr} {xs:List V} (e:H a=some (.lst xs)):TyOf K H (.ref a) (.type "list")
 | frz {a:Addr} {o:Obj} {xs:List V} (e:H a=some (.frz o (.lst xs))):TyOf K H (.ref a) (.type "list")
 | tup {a:Addr} {xs:List V} (e:H a=some (.tup xs)):TyOf K H (.ref a) (.type "tuple")
 | dK {a:Addr} {kvs:List (Key×V)} (e:H a=some (.dK kvs)):TyOf K H (.ref a) (.type "dict")
 | dT {a:Addr} {kvs:List (List Key×V)} (e:H a=some (.dT kvs)):TyOf K H (.ref a) (.type "dict")
 | ins {a C dx:Addr} {fs:List (Str×V)} (e:H a=some (.ins C dx fs)) (cl:Cls K C) (ha:PySem.W.findIn K (.ref C) "__class__"=some (some (.builtin "object.__class__")))
  (hn:PySem.W.specialIn K (.builtin "object.__class__") "__get__"=some (some (.builtin "getset_descriptor.__get__"))) (htk:PySem.W.takesIn K (.builtin "object.__class__")=some true)
  (hm:PySem.W.mroIn K C (.type "object")=some true):TyOf K H (.ref a) (.ref C)
theorem isinst_ok {x:V}{u t:Value}(I:Inv X pins σ H s)(rx:RelV x u)(ty:TyOf X.K H x t)(e:PySem.W.kitOne X.K t c=some b)(h:∀ tk,Q (.bool b) { s with toks:=tk }):
 wpAny (model X.prog X.w) A (call (.builtin "isinstance") [u,c]) Q E s:=by
 cases ty with
 | non=>cases (show u=Value.none from rx);exact PySem.W.kia_one PySem.W.kitx_none I.kIn True.intro e (fun z=>nomatch z) h
 | bl y=>cases (show u=Value.bool y from rx);exact PySem.W.kia_one PySem.W.kitx_bool I.kIn True.intro e (fun z=>nomatch z) h
 | int i=>obtain⟨t,q⟩:=(show ∃ t,u=Value.int i t from rx);cases q;exact PySem.W.kia_one PySem.W.kitx_int I.kIn True.intro e (fun z=>nomatch z) h
 | str y=>obtain⟨t,q⟩:=(show ∃ t,u=Value.str y t from rx);cases q;exact PySem.W.kia_one PySem.W.kitx_str I.kIn True.intro e (fun z=>nomatch z) h
 | flt y=>obtain⟨t,q⟩:=(show ∃ t,u=Value.float y t from rx);cases q;exact PySem.W.kia_one PySem.W.kitx_float I.kIn True.intro e (fun z=>nomatch z) h
 | @lst a xs ea=>
   cases (show u=Value.ref a from rx)
   obtain⟨_,_,n,_,h1⟩:=(show ObjOk X.prog X.w H s.heap a (.lst xs) from I.hok a _ ea)
   exact PySem.W.kia_one PySem.W.kitx_list I.kIn ⟨_,h1,rfl⟩ e (fun z=>nomatch z) h
 | @frz a ob xs ea=>
   cases (show u=Value.ref a from rx)
   obtain⟨_,_,_,n,_,h1⟩:=(show ObjOk X.prog X.w H s.heap a (.frz ob (.lst xs)) from I.hok a _ ea)
   exact PySem.W.kia_one PySem.W.kitx_list I.kIn ⟨_,h1,rfl⟩ e (fun z=>nomatch z) h
 | @tup a xs ea=>
   cases (show u=Value.ref a from rx)
   obtain⟨_,_,_,p⟩:=(show ObjOk X.prog X.w H s.heap a (.tup xs) from I.hok a _ ea)
   obtain⟨o,h1,h2,_⟩:=p
   exact PySem.W.kia_one PySem.W.kitx_tuple I.kIn ⟨o,h1,h2⟩ e (fun z=>nomatch z) h
 | @dK a kvs ea=>
   cases (show u=Value.ref a from rx)
   obtain⟨_,_,vs,_,p⟩:=(show ObjOk X.prog X.w H s.heap a (.dK kvs) from I.hok a _ ea)
   obtain⟨o,es,ep,h1,h2,_⟩:=p
   exact PySem.W.kia_one PySem.W.kitx_dict I.kIn ⟨o,h1,h2.1⟩ e (fun z=>nomatch z) h
 | @dT a kvs ea=>
   cases (show u=Value.ref a from rx)
   obtain⟨_,_,xs,_,o,es,ep,h1,h2,_⟩:=(show ObjOk X.prog X.w H s.heap a (.dT kvs) from I.hok a _ ea)
   exact PySem.W.kia_one PySem.W.kitx_dict I.kIn ⟨o,h1,h2.1⟩ e (fun z=>nomatch z) h
 | @ins a C dx fs ea cl ha hn htk hm=>
   cases (show u=Value.ref a from rx)
   obtain⟨mA,O,_⟩:=ins_get I.hok ea
   obtain⟨od,J,_⟩:=O.look
   exact PySem.W.kia_one (PySem.W.kitx_own (cl.get _) cl.hd ha hn htk hm) I.kIn J e (fun z=>nomatch z) h
end
end L2
namespace L2
open PySem PySem.Spec PyProof.Rows
structure Room (k:Nat) (A:Around):Prop where
 hd:A.handled=none
 dp:A.depth+ 3* k+ 5 < recursionLimit
 un:A.units+ 16* k+ 200 < cLine
theorem Room.mono {j k:Nat}{A:Around}(r:Room k A)(h:j<=k):Room j A:=⟨r.hd,by have:=r.dp;omega,by have:=r.un;omega⟩
theorem Room.deeper {k:Nat}{A:Around}(r:Room (k+ 1) A)(env:Env):Room k (A.deeper env):=
 ⟨r.hd,by have:=r.dp;show A.depth+ 1+ 3* k+ 5 < _;omega,by have:=r.un;show A.units+ 3+ 16* k+ 200 < _;omega⟩
theorem Room.in1 {k:Nat}{A:Around}(r:Room (k+ 1) A):Room k A.in1:=
 ⟨r.hd,by have:=r.dp;show A.depth+ 3* k+ 5 < _;omega,by have:=r.un;show A.units+ 1+ 16* k+ 200 < _;omega⟩
theorem make_depth {A:Around}{C:Addr}{us:List Value}{kw:List (Str×Value)}:(A.under (.builtin "type.__call__" ⟨.ref C :: us,kw⟩)).depth=A.depth+ 1:=by
 first | rfl | simp[Around.under,Code.weight,Code.isCreation,Code.isGuard,Code.isCaller,Code.frames,Code.isFrame,guardIds]
theorem make_units {A:Around}{C:Addr}{us:List Value}{kw:List (Str×Value)}:(A.under (.builtin "type.__call__" ⟨.ref C :: us,kw⟩)).units=A.units+ 1:=by
 first | rfl | simp[Around.under,Code.cUnits,Code.frames,Code.isFrame]
theorem Room.make {k:Nat}{A:Around}(r:Room (k+ 1) A)(C:Addr)(us:List Value)(kw:List (Str×Value)):Room k (A.under (.builtin "type.__call__" ⟨.ref C :: us,kw⟩)):=
 ⟨r.hd,by have:=r.dp;rw[make_depth];omega,by have:=r.un;rw[make_units];omega⟩
theorem Room.depth {k:Nat}{A:Around}(r:Room k A):A.depth < recursionLimit:=by have:=r.dp;omega
theorem Room.units {k:Nat}{A:Around}(r:Room k A):A.units+ 64 < cLine:=by have:=r.un;omega
def tNil:TA:=fun _ H Q=>Q [] H
def tCons (ta:TE)(tr:TA):TA:=fun σ H Q=>ta σ H fun x H1=>tr σ H1 fun xs H2=>Q (x :: xs) H2
section
variable {X:Cx} {e:Expr} {es:List Expr} {te:TE} {t:TA} {pos:Pos}
theorem pa_nil:PA X [] tNil:=fun _ _ _ _ H Q I h=>Calls.spliced_nil ⟨[],H,I,.nil,h⟩
theorem pa_cons (ha:PE X e te)(hr:PA X es t)(hs:starEach (e :: es) X.env=(false,eval e X.env) :: starEach es X.env:=by rfl):PA X (e :: es) (tCons te t):=by
 intro pos pins s σ H Q I h
 rw[hs]
 show wpAny _ _ (spliced ((false,eval e X.env) :: backTo pos (starEach es X.env))) _ _ s
 refine Calls.spliced_cons (thn (ha pins s σ H _ I h) fun u s1 ⟨x,H1,I1,r1,q1⟩=>?_)
 exact thn (hr pos pins s1 σ H1 _ I1 q1) fun us s2 ⟨xs,H2,I2,r2,q2⟩=>⟨x :: xs,H2,I2,.cons r1 r2,q2⟩
def tTup (t:TA):TE:=fun σ H Q=>t σ H fun xs H1=>xs.length<=sizeLine/\∀ p,H1 p=none->Q (.ref p) (upd H1 p (.tup xs))
def tLst (t:TA):TE:=fun σ H Q=>t σ H fun xs H1=>xs.length<=sizeLine/\∀ p,H1 p=none->Q (.ref p) (upd H1 p (.lst xs))
theorem pe_tup {x1}(h:PA X es t):PE X (.Tuple es x1 pos) (tTup t):=by
 intro pins s σ H Q I hq
 refine wpAny_Tuple_spliced (thn (h pos pins s σ H _ I hq) fun us s1 ⟨xs,H1,I1,r,z,q⟩=>⟨by rw[← r.length];exact z,?_⟩)
 have hf:H1 s1.heap.objs.size=none:=I1.hok.fresh (Nat.le_refl _)
 refine⟨.ref s1.heap.objs.size,upd H1 s1.heap.objs.size (.tup xs),I1.laid (t':=s1.toks) (fun b u e=>Heap.get?_push_of_some _ e) (Nat.le_refl _) ?_,rfl,q _ hf⟩
 exact⟨z,us,r,⟨_,Heap.get?_push_size _ rfl,rfl,_,rfl⟩⟩
theorem pe_lst (h:PA X es t):PE X (.List es pos) (tLst t):=by
 intro pins s σ H Q I hq
 refine wpAny_List_spliced (thn (h pos pins s σ H _ I hq) fun us s1 ⟨xs,H1,I1,r,z,q⟩=>⟨by rw[← r.length];exact z,?_⟩)
 have hf:H1 s1.heap.objs.size=none:=I1.hok.fresh (Nat.le_refl _)
 refine⟨.ref s1.heap.objs.size,upd H1 s1.heap.objs.size (.lst xs),I1.laid (t':=s1.toks) (fun b u e=>Heap.get?_push_of_some _ e) (Nat.le_refl _) ?_,rfl,q _ hf⟩
 exact⟨z,us,0,r,Heap.get?_push_size _ rfl⟩
end
abbrev Sp:=List V->Hp->VK->XK->Prop
abbrev CXT:=List Env->Hp->Shared->XK->Value->Shared->Prop
structure Env0 (P:Program) (w:World) (K:PySem.W.Frag) (mg:Str->Option Value) (base:Heap) (A:Around) (outer:List Env) (s:Shared) (H:Hp):Prop where
 frames:A.frames=some outer
 mod:Mod K mg base
 bs:∀ b o,base.get? b=some o->s.heap.get? b=some o/\H b=none
 bsz:base.objs.size<=s.heap.objs.size
 funs:s.heap.FunFrames base outer
 frf:∀ b∈frs outer,H b=none
 hok:HOk P w H s.heap
 bare:AllBare s.gens
def CE (outer:List Env)(P:Program)(w:World)(H:Hp)(s:Shared)(Q:VK)(u:Value)(s':Shared):Prop:=
 ∃ v H',s'.os=s.os/\AllBare s'.gens/\Un (frs outer) [] H H' s.heap s'.heap/\HOk P w H' s'.heap/\RelV v u/\Q v H'
def CR (CX:CXT)(outer:List Env)(P:Program)(w:World)(H:Hp)(s:Shared)(Q:VK)(E:XK)(r:Result)(s':Shared):Prop:=
 match r with
 | .ok (.ret u)=>CE outer P w H s Q u s'
 | .ok _=>False
 | .error e=>CX outer H s E e s'
structure FnOk (P:Program) (w:World) (K:PySem.W.Frag) (mg:Str->Option Value) (base:Heap) (CX:CXT) (k:Nat) (f:Addr) (fd:FuncData) (ps:List Str) (sp:Sp):Prop where
 len:∀ vs H Q E,sp vs H Q E->vs.length=ps.length
 run:∀(A:Around) (outer:List Env) (s:Shared) (H:Hp) (args:Args) (us:List Value) (vs:List V) (Q:VK) (E:XK),Room k A->Env0 P w K mg base A outer s H->BindsTo s fd args (ps.zip us)->Vals vs us->sp vs H Q E->
  codeAny (model P w) A (.call (.ref f) args) (CR CX outer P w H s Q E) s
theorem FnOk.mono {P:Program}{w:World}{K:PySem.W.Frag}{mg:Str->Option Value}{base:Heap}{CX:CXT}{j k:Nat}{f:Addr}{fd:FuncData}{ps:List Str}{sp:Sp}(F:FnOk P w K mg base CX j f fd ps sp)(h:j<=k):
 FnOk P w K mg base CX k f fd ps sp:=⟨F.len,fun A outer s H args us vs Q E hr=>F.run A outer s H args us vs Q E (hr.mono h)⟩
theorem FnOk.imp {P:Program}{w:World}{K:PySem.W.Frag}{mg:Str->Option Value}{base:Heap}{CX:CXT}{k:Nat}{f:Addr}{fd:FuncData}{ps:List Str}{sp sp':Sp}(F:FnOk P w K mg base CX k f fd ps sp)
 (h:∀ vs H Q E,sp' vs H Q E->sp vs H Q E):FnOk P w K mg base CX k f fd ps sp':=
 ⟨fun vs H Q E q=>F.len vs H Q E (h _ _ _ _ q),fun A outer s H args us vs Q E hr he hb hv hs=>F.run A outer s H args us vs Q E hr he hb hv (h _ _ _ _ hs)⟩
theorem Env0.make {P:Program}{w:World}{K:PySem.W.Frag}{mg:Str->Option Value}{base:Heap}{A:Around}{outer:List Env}{s:Shared}{H:Hp}(e:Env0 P w K mg base A outer s H)(C:Addr)(us:List Value)(kw:List (Str×Value)):
 Env0 P w K mg base (A.under (.builtin "type.__call__" ⟨.ref C :: us,kw⟩)) outer s H:=⟨by first | exact e.frames | (simpa [Around.under,Code.envs,Code.isFrame,pushEnvs] using e.frames),e.mod,e.bs,e.bsz,e.funs,e.frf,e.hok,e.bare⟩
theorem Env0.in1 {P:Program}{w:World}{K:PySem.W.Frag}{mg:Str->Option Value}{base:Heap}{A:Around}{outer:List Env}{s:Shared}{H:Hp}(e:Env0 P w K mg base A outer s H):
 Env0 P w K mg base A.in1 outer s H:=⟨e.frames,e.mod,e.bs,e.bsz,e.funs,e.frf,e.hok,e.bare⟩
section
variable {X:Cx} {pins:List (Addr×Obj)} {σ:St} {H:Hp} {s s':Shared}
theorem Inv.env0 (I:Inv X pins σ H s):Env0 X.prog X.w X.K X.mg X.base X.A X.stack s H:=
 ⟨I.ok.frames,I.ok.mod,I.bs,Nat.le_trans I.ok.bsz I.sz,I.stack,I.stkFree,I.hok,I.bare⟩
theorem Inv.after {Q:VK}{u:Value}(I:Inv X pins σ H s)(h:CE X.stack X.prog X.w H s Q u s'):EP X pins σ Q u s':=by
 obtain⟨v,H',os,bare,un,hok,r,q⟩:=h
 obtain⟨hh,g,d,t,os'⟩:=s'
 obtain rfl:os'=s.os:=os
 exact⟨v,H',I.call (h':=hh) (g':=g) (d':=d) (t':=t) (ch:=[]) un hok bare (fun b z=>absurd z (by simp)),r,q⟩
end
def tCall (sp:Sp)(dvs:List V)(E:XK)(t:TA):TE:=fun σ H Q=>t σ H fun vs H1=>sp (vs++dvs) H1 Q E
def tMeth (C:Addr)(m:Str)(sp:Sp)(dvs:List V)(E:XK)(ta:TE)(t:TA):TE:=fun σ H Q=>ta σ H fun x H1=>∃ a dx fs,x=.ref a/\H1 a=some (.ins C dx fs)/\fs.lookup m=none/\
 t σ H1 fun vs H2=>sp (x :: (vs++dvs)) H2 Q E
def tMake (C:Addr)(sp:Sp)(dvs:List V)(E:XK)(t:TA):TE:=fun σ H Q=>t σ H fun vs H1=>∀ x dx,H1 x=none->H1 dx=none->dx≠x->
 sp (.ref x :: (vs++dvs)) (upd (upd H1 dx (.own x)) x (.ins C dx [])) (fun v H2=>v=.non/\Q (.ref x) H2) E
def Binds (K:PySem.W.Frag)(fd:FuncData)(ps:List Str)(ds:List Value):Prop:=
 ∀(s:Shared) (us:List Value),K.In s.heap->(us++ds).length=ps.length->BindsTo s fd ⟨us,[]⟩ (ps.zip (us++ds))
theorem Binds.all {K:PySem.W.Frag}{fd:FuncData}{ps:List Str}(h:∀ us:List Value,us.length=ps.length->bindArgs fd ⟨us,[]⟩=pure (ps.zip us)):Binds K fd ps []:=fun s us _ hl=>by
 rw[List.append_nil] at hl ⊢
 exact .of_eq (h us hl)
def Passes (CX:CXT)(X:Cx)(E:XK):Prop:=∀(pins:List (Addr×Obj)) (σ:St) (H:Hp) (s:Shared) (e:Value) (s':Shared),Inv X pins σ H s->CX X.stack H s E e s'->X.xe e s'
section
variable {X:Cx} {CX:CXT} {k:Nat} {f C:Addr} {fd:FuncData} {ps:List Str} {sp:Sp} {dvs:List V} {ds:List Value} {E:XK} {x m:Str} {p pos apos:Pos} {e o:Expr} {es:List Expr} {ta:TE} {t:TA}
theorem run_fn {pins:List (Addr×Obj)}{σ:St}{H:Hp}{s:Shared}{Q:VK}{us:List Value}{vs:List V}(F:FnOk X.prog X.w X.K X.mg X.base CX k f fd ps sp)(hr:Room k X.A)(hb:Binds X.K fd ps ds)(hd:Vals dvs ds)(hx:Passes CX X E)
 (I:Inv X pins σ H s) (r:Vals vs us) (h:sp (vs++dvs) H Q E):wpAny (model X.prog X.w) X.A (call (.ref f) us) (EP X pins σ Q) X.xe s:=by
 have r2:Vals (vs++dvs) (us++ds):=r.append hd
 have hl:(us++ds).length=ps.length:=by rw[← r2.length];exact F.len _ _ _ _ h
 refine wpAny_call (codeAny_mono (F.run X.A X.stack s H ⟨us,[]⟩ (us++ds) (vs++dvs) Q E hr I.env0 (hb s us I.kIn hl) r2 h) fun r s' hq=>?_)
 cases r with
 | error e=>exact hx pins σ H s e s' I hq
 | ok fl=>
   cases fl with
   | ret u=>exact I.after hq
   | next=>exact False.elim hq
   | brk=>exact False.elim hq
   | cont=>exact False.elim hq
theorem pe_call (F:FnOk X.prog X.w X.K X.mg X.base CX k f fd ps sp)(hr:Room k X.A)(hg:Gl X x)(hm:X.mg x=some (.ref f))(hk:PySem.W.keepIn X.K (.ref f)=true)(hb:Binds X.K fd ps ds)(hd:Vals dvs ds)(hx:Passes CX X E)
 (ha:PA X (e :: es) t) (hdb:(x==("__debug__":Str))=false:=by decide) (he:starEach (e :: es) X.env=(false,eval e X.env) :: starEach es X.env:=by rfl) (hpl:(backTo pos (starEach es X.env)).any (·.1)=false:=by rfl):
 PE X (.Call (.Name x p) (e :: es) [] pos) (tCall sp dvs E t):=by
 intro pins s σ H Q I h
 refine wpAny_Call_Name_kw (ld_glob I hg hm ?_ hdb)
 refine PySem.W.callWith_K (h₀:=X.base) I.ok.mod.kin hk (thn (ha pos pins s σ H _ I h) fun us s1 ⟨vs,H1,I1,r,q⟩=>⟨I1.kIn,?_⟩) he hpl
 exact run_fn F hr hb hd hx I1 r q
theorem pe_meth {pl:Sem Bool}(he:PE X o ta)(c:Cls X.K C)(hm:Meth X.K C m f)(F:FnOk X.prog X.w X.K X.mg X.base CX k f fd ps sp)(hr:Room k X.A)(hb:Binds X.K fd ps ds)(hd:Vals dvs ds)(hx:Passes CX X E)(ha:PA X (e :: es) t)
 (hst:starEach (e :: es) X.env=(false,eval e X.env) :: starEach es X.env:=by rfl) (hpl:(backTo pos (starEach es X.env)).any (·.1)=false:=by rfl)
 (ht:eval (.Call (.Attribute o m apos) (e :: es) [] pos) X.env=(do
  let ov ← eval o X.env
  standAt apos.atName
  let (f,first) ← holding [ov] (getMethod ov m pl)
  callWith pos f first (backTo pos (starEach (e :: es) X.env)) (backToKw pos (keywordEach [] X.env))):=by rfl):
 PE X (.Call (.Attribute o m apos) (e :: es) [] pos) (tMeth C m sp dvs E ta t):=by
 intro pins s σ H Q I h
 refine PySem.W.methodCall_KW (pl:=pl) (thn (he pins s σ H _ I h) fun u s1 ⟨x,H1,I1,rx,a,dx,fs,ex,ea,l,q⟩=>?_) ht
 subst ex
 obtain rfl:u=Value.ref a:=rx
 refine getmeth_ok I1 ea c hm l ?_
 refine PySem.W.callWith_K (first:=[.ref a]) (h₀:=X.base) I.ok.mod.kin hm.kp (thn (ha pos pins s1 σ H1 _ I1 q) fun us s2 ⟨vs,H2,I2,r,q2⟩=>⟨I2.kIn,?_⟩) hst hpl
 exact run_fn (us:=.ref a :: us) (vs:=.ref a :: vs) F hr hb hd hx I2 (.cons rfl r) q2
structure Mk (K:PySem.W.Frag) (C f:Addr):Prop where
 makes:PySem.W.makesIn K C=true
 init:PySem.W.findIn K (.ref C) "__init__"=some (some (.ref f))
 fn:PySem.W.isFn K (.ref f)=true
 kp:PySem.W.keepIn K (.ref C)=true
theorem run_make {pins:List (Addr×Obj)}{σ:St}{H:Hp}{s:Shared}{Q:VK}{us:List Value}{vs:List V}(M:Mk X.K C f)(F:FnOk X.prog X.w X.K X.mg X.base CX k f fd ps sp)(hr:Room (k+ 1) X.A)(hb:Binds X.K fd ps ds)(hd:Vals dvs ds)
 (hx:Passes CX X E) (I:Inv X pins σ H s) (r:Vals vs us)
 (h:∀ x dx,H x=none->H dx=none->dx≠x->sp (.ref x :: (vs++dvs)) (upd (upd H dx (.own x)) x (.ins C dx [])) (fun v H2=>v=.non/\Q (.ref x) H2) E):
 wpAny (model X.prog X.w) X.A (call (.ref C) us) (EP X pins σ Q) X.xe s:=by
 have hq:=h (s.heap.objs.size+ 1) s.heap.objs.size (I.hok.fresh (Nat.le_succ _)) (I.hok.fresh (Nat.le_refl _)) (Nat.ne_of_lt (Nat.lt_succ_self _))
 have I2:=Inv.made (C:=C) I
 have r2:Vals (V.ref (s.heap.objs.size+ 1) :: (vs++dvs)) (Value.ref (s.heap.objs.size+ 1) :: (us++ds)):=.cons rfl (r.append hd)
 have hl:(Value.ref (s.heap.objs.size+ 1) :: us++ds).length=ps.length:=by
  have e:=r2.length
  rw[F.len _ _ _ _ hq] at e
  exact e.symm
 refine wpAny_call (make_map (f:=f) I.kIn M.makes M.init (beq_iff_eq.mp M.fn) (codeAny_mono (F.run _ X.stack _ _ ⟨Value.ref (s.heap.objs.size+ 1) :: us,[]⟩ (Value.ref (s.heap.objs.size+ 1) :: (us++ds)) _ _ E (hr.make C us [])
  (I2.env0.make C us []) (hb _ (Value.ref (s.heap.objs.size+ 1) :: us) I2.kIn hl) r2 hq) fun r s' hq'=>?_))
 cases r with
 | error e=>exact hx pins σ _ _ e s' I2 hq'
 | ok fl=>
   cases fl with
   | ret u=>
     obtain⟨v,H',I3,rv,ev,q3⟩:=I2.after hq'
     subst ev
     exact⟨rv,⟨V.ref (s.heap.objs.size+ 1),H',I3,rfl,q3⟩⟩
   | next=>exact False.elim hq'
   | brk=>exact False.elim hq'
   | cont=>exact False.elim hq'
theorem pe_make (M:Mk X.K C f)(F:FnOk X.prog X.w X.K X.mg X.base CX k f fd ps sp)(hr:Room (k+ 1) X.A)(hg:Gl X x)(hm:X.mg x=some (.ref C))(hb:Binds X.K fd ps ds)(hd:Vals dvs ds)(hx:Passes CX X E)
 (ha:PA X (e :: es) t) (hdb:(x==("__debug__":Str))=false:=by decide) (he:starEach (e :: es) X.env=(false,eval e X.env) :: starEach es X.env:=by rfl) (hpl:(backTo pos (starEach es X.env)).any (·.1)=false:=by rfl):
 PE X (.Call (.Name x p) (e :: es) [] pos) (tMake C sp dvs E t):=by
 intro pins s σ H Q I h
 refine wpAny_Call_Name_kw (ld_glob I hg hm ?_ hdb)
 refine PySem.W.callWith_K (h₀:=X.base) I.ok.mod.kin M.kp (thn (ha pos pins s σ H _ I h) fun us s1 ⟨vs,H1,I1,r,q⟩=>⟨I1.kIn,?_⟩) he hpl
 exact run_make M F hr hb hd hx I1 r q
end
section
variable {X:Cx} {CX:CXT} {k:Nat} {f C:Addr} {fd:FuncData} {ps ks:List Str} {sp:Sp} {E:XK} {x m:Str} {p pos apos kpos:Pos} {e o:Expr} {es:List Expr} {kws:List Keyword} {te ta:TE} {t tk:TA} {nm:Option Str}
structure KBinds (K:PySem.W.Frag) (fd:FuncData) (ps ks:List Str) (g:List Value->List Value->List Value) (gV:List V->List V->List V):Prop where
 to:∀(s:Shared) (us ws:List Value),K.In s.heap->(g us ws).length=ps.length->BindsTo s fd ⟨us,ks.zip ws⟩ (ps.zip (g us ws))
 rel:∀{vs:List V} {us:List Value} {zs:List V} {ws:List Value},Vals vs us->Vals zs ws->Vals (gV vs zs) (g us ws)
variable {g:List Value->List Value->List Value} {gV:List V->List V->List V}
end
structure FnScope (N P:List Str) (sc:Scope):Prop where
 kind:sc.kind=.function
 co:sc.isCoroutine=false
 gen:sc.isGenerator=false
 nd:N.Nodup
 pre:N.take P.length=P
 par:∀ x∈P,sc.names.lookup x=some .local\/sc.names.lookup x=some .cell
 nofree:∀ y∈sc.names,y.2≠.free
theorem bindL_out {kindOf:Str->Option NameKind}{x:Str}:∀{binds:List (Str×Value)} {m:Str->Option Value},(∀ v,(x,v)∉binds)->bindL kindOf binds m x=m x
 | [],_,_=>rfl
 | (n,v) :: r,m,h=>by
   unfold bindL
   rw[bindL_out fun w hw=>h w (List.mem_cons_of_mem _ hw)]
   split
   ·have:x≠n:=by rintro rfl;exact h v List.mem_cons_self
    simp[this]
   ·rfl
theorem bindC_out {kindOf:Str->Option NameKind}{x:Str}:∀{binds:List (Str×Value)} {m:Str->Option Value},(∀ v,(x,v)∉binds)->bindC kindOf binds m x=m x
 | [],_,_=>rfl
 | (n,v) :: r,m,h=>by
   unfold bindC
   rw[bindC_out fun w hw=>h w (List.mem_cons_of_mem _ hw)]
   split
   ·rfl
   ·have:x≠n:=by rintro rfl;exact h v List.mem_cons_self
    simp[this]
theorem bindL_get {kindOf:Str->Option NameKind}{x:Str}{v:Value}:∀{P:List Str} {vs:List Value} {i:Nat} {m:Str->Option Value},P.Nodup->P[i]?=some x->vs[i]?=some v->kindOf x=some .local->
 bindL kindOf (P.zip vs) m x=some v
 | [],_,_,_,_,h,_,_=>by simp at h
 | _ :: _,[],_,_,_,_,h,_=>by simp at h
 | p :: P,w :: vs,0,m,nd,h1,h2,hk=>by
   simp at h1 h2;subst h1;subst h2
   show bindL kindOf ((p,w) :: P.zip vs) m p=_
   unfold bindL
   rw[bindL_out fun v hv=>(List.nodup_cons.mp nd).1 (List.of_mem_zip hv).1,if_pos hk]
   simp
 | p :: P,w :: vs,i+ 1,m,nd,h1,h2,hk=>by
   show bindL kindOf ((p,w) :: P.zip vs) m x=_
   unfold bindL
   exact bindL_get (i:=i) (List.nodup_cons.mp nd).2 (by simpa using h1) (by simpa using h2) hk
theorem bindC_get {kindOf:Str->Option NameKind}{x:Str}{v:Value}:∀{P:List Str} {vs:List Value} {i:Nat} {m:Str->Option Value},P.Nodup->P[i]?=some x->vs[i]?=some v->kindOf x≠some .local->
 bindC kindOf (P.zip vs) m x=some v
 | [],_,_,_,_,h,_,_=>by simp at h
 | _ :: _,[],_,_,_,_,h,_=>by simp at h
 | p :: P,w :: vs,0,m,nd,h1,h2,hk=>by
   simp at h1 h2;subst h1;subst h2
   show bindC kindOf ((p,w) :: P.zip vs) m p=_
   unfold bindC
   rw[bindC_out fun v hv=>(List.nodup_cons.mp nd).1 (List.of_mem_zip hv).1,if_neg hk]
   simp
 | p :: P,w :: vs,i+ 1,m,nd,h1,h2,hk=>by
   show bindC kindOf ((p,w) :: P.zip vs) m x=_
   unfold bindC
   exact bindC_get (i:=i) (List.nodup_cons.mp nd).2 (by simpa using h1) (by simpa using h2) hk
def start (N:List Str)(vs:List V):St:=vs.map some++List.replicate (N.length - vs.length) none
def cxOf (CX:CXT)(P:Program)(w:World)(K:PySem.W.Frag)(mg:Str->Option Value)(base:Heap)(N:List Str)(qual:Str)(scope:Scope)(f:Addr)(cd:Value)(A:Around)(outer:List Env)(s:Shared)(H:Hp)(E:XK):Cx where
 prog:=P
 w:=w
 K:=K
 mg:=mg
 base:=base
 A:=A.deeper (envOfC qual scope s.heap.objs.size f cd)
 N:=N
 s₀:=s
 H₀:=H
 env:=envOfC qual scope s.heap.objs.size f cd
 outer:=outer
 stack:=envOfC qual scope s.heap.objs.size f cd :: outer
 ex:=[]
 calm:=true
 fn:=fun _=>true
 pn:=[]
 xe:=fun e s'=>wpAny (model P w) (A.deeper (envOfC qual scope s.heap.objs.size f cd)) (leaving (envOfC qual scope s.heap.objs.size f cd) e) (fun _ s''=>CX outer H s E e s'') (fun e' s''=>CX outer H s E e' s'') s'
theorem cell_has {sc:Scope}{n:Nat}{x:Str}(h:sc.names.lookup x=some .cell):∃ c,(cellsFrom n sc.names []).lookup x=some c:=by
 have q:=PySem.W.cellsFrom_some sc.names n [] (.inl h)
 exact Option.isSome_iff_exists.mp q
theorem inv_start {CX:CXT}{P:Program}{w:World}{K:PySem.W.Frag}{mg:Str->Option Value}{base:Heap}{N ps:List Str}{qual:Str}{scope:Scope}{f:Addr}{cd:Value}{A:Around}{outer:List Env}{s s1:Shared}{H:Hp}{E:XK}{us:List Value}{vs:List V}
 (S:FnScope N ps scope) (hd:A.handled=none) (e0:Env0 P w K mg base A outer s H) (hl:vs.length=ps.length) (r:Vals vs us)
 (x:InCallC s s.heap.objs.size (bindL (envOfC qual scope s.heap.objs.size f cd).kindOf (ps.zip us) fun _=>none) (cellsFrom (s.heap.objs.size+ 1) scope.names []) (bindC (envOfC qual scope s.heap.objs.size f cd).kindOf (ps.zip us) fun _=>none) s1):
 Inv (cxOf CX P w K mg base N qual scope f cd A outer s H E) [] (start N vs) H s1:=by
 have hpl:ps.length<=N.length:=by have:=congrArg List.length S.pre;rw[List.length_take] at this;omega
 obtain⟨h1,tk,rfl,hk⟩:=x.done
 have noA:∀ b:Addr,b∉(cxOf CX P w K mg base N qual scope f cd A outer s H E).ex:=fun b z=>absurd (show b∈([]:List Addr) from z) (by simp)
 refine⟨⟨e0.mod,S.kind,rfl,rfl,Nat.le_refl _,fun y z c h1 h2=>?_,fun y hy=>?_,fun y c _ h=>?_,fun _=>hd,Around.frames_deeper e0.frames,.inr ⟨rfl,rfl⟩,fun b z=>absurd z (noA b),e0.bs,e0.bsz,fun b _ _=>noA b,fun b z=>absurd z (noA b),e0.funs,e0.frf⟩,
  rfl,e0.bare,Un.kept hk,⟨_,x.toInCall.ns,fun i y v h1 h2 h3=>?_⟩,fun y c h=>⟨_,x.cell y c h⟩,e0.hok.fresh (Nat.le_refl _),fun y c h=>?_,fun p hp=>absurd (show p∈([]:List (Addr×Obj)) from hp) (by simp),e0.hok.kept hk,?_⟩
 ·exact name_of_addr x.apart (PySem.mem_of_lookup h1) (PySem.mem_of_lookup h2)
 ·have hy:scope.names.lookup y=some .cell\/scope.names.lookup y=some .free:=hy
  rcases hy with hy | hy
  ·exact cell_has hy
  ·exact absurd rfl (S.nofree _ (PySem.mem_of_lookup hy))
 ·exact Nat.le_of_lt (x.above y c (PySem.mem_of_lookup h))
 ·have hi:i < vs.length:=by
   unfold start at h2
   by_cases hi:i < vs.length
   ·exact hi
   ·rw[List.getElem?_append_right (by simpa using hi)] at h2
    rw[List.getElem?_replicate] at h2
    split at h2 <;> cases h2
  have ha:vs[i]?=some v:=by
   unfold start at h2
   rw[List.getElem?_append_left (by simpa using hi),List.getElem?_map] at h2
   cases e:vs[i]? with
   | none=>rw[e] at h2;cases h2
   | some a=>rw[e] at h2;cases h2;rfl
  obtain⟨u,hu,rv⟩:=r.get ha
  have hp:ps[i]?=some y:=by
   rw[← S.pre,List.getElem?_take_of_lt (by omega)];exact h1
  have ndP:ps.Nodup:=by rw[← S.pre];exact S.nd.sublist (List.take_sublist _ _)
  refine⟨u,rv,?_⟩
  rcases S.par y (List.mem_of_getElem? hp) with k | k
  ·exact .inl ⟨k,bindL_get ndP hp hu k⟩
  ·obtain⟨c,e⟩:=cell_has (n:=s.heap.objs.size+ 1) k
   refine .inr ⟨.inl k,c,e,?_⟩
   have q:=x.cell y c e
   rw[bindC_get ndP hp hu (by show scope.names.lookup y≠_;rw[k];decide)] at q
   exact q
 ·exact e0.hok.fresh (Nat.le_of_lt (x.above y c (PySem.mem_of_lookup h)))
 ·unfold start
  show _=N.length
  rw[List.length_append,List.length_map,List.length_replicate]
  omega
theorem fn_of {CX:CXT}{P:Program}{w:World}{K:PySem.W.Frag}{mg:Str->Option Value}{base:Heap}{k:Nat}{f:Addr}{name qual:Str}{params:Arguments}{body:List Stmt}{scope:Scope}{dV kV doc pm cdv ct oc:Value}{an od:Option Addr}
 {osl:Array (Option Value)} {N ps:List Str} {sp:Sp} (lk:K.lookup f=some ⟨oc,od,.func (PySem.W.fnOf name qual params body scope dV kV doc pm an cdv ct),osl⟩) (hcd:PySem.W.codeIn K cdv qual=true) (S:FnScope N ps scope)
 (len:∀ vs H Q E,sp vs H Q E->vs.length=ps.length)
 (hbody:∀(A:Around) (outer:List Env) (s:Shared) (H:Hp) (vs:List V) (Q:VK) (E:XK),Room k (A.deeper (envOfC qual scope s.heap.objs.size f cdv))->sp vs H Q E->
  ∃ t,PSs (cxOf CX P w K mg base N qual scope f cdv A outer s H E) body t/\t { nx:=fun _ H'=>Q .non H',rt:=Q } (start N vs) H):
 FnOk P w K mg base CX (k+ 1) f (PySem.W.fnOf name qual params body scope dV kV doc pm an cdv ct) ps sp:=by
 refine⟨len,fun A outer s H args us vs Q E hr e0 hb r hsp=>?_⟩
 have hl:=len _ _ _ _ hsp
 have KX:K.In s.heap:=e0.mod.kin.keeps fun b o e=>(e0.bs b o e).1
 have lim:s.heap.NoLimit:=e0.mod.nolimit.keeps fun b o e=>(e0.bs b o e).1
 have hkind:∀ y∈ps.zip us,scope.names.lookup y.1=some .local\/(scope.names.lookup y.1=some .cell/\((cellsFrom (s.heap.objs.size+ 1) scope.names []).lookup y.1).isSome=true):=fun⟨n,v⟩ hy=>by
  rcases S.par n (List.of_mem_zip hy).1 with q | q
  ·exact .inl q
  ·exact .inr ⟨q,PySem.W.cellsFrom_some _ _ _ (.inl q)⟩
 refine codeAny_call_function hr.depth (KX _ _ lk) rfl S.co S.gen rfl (PySem.W.codeRec_of KX hcd) (hb _ _ _ _ ?_)
 refine wpAny_newFunctionEnv_cells S.kind hkind fun env he s1 x=>?_
 subst he
 refine⟨lim.keeps x.toInCall.keep,codeAny_func ?_⟩
 obtain⟨t,ht,hq⟩:=hbody A outer s H vs Q E (hr.deeper _) hsp
 have I:Inv (cxOf CX P w K mg base N qual scope f cdv A outer s H E) [] (start N vs) H s1:=inv_start S hr.hd e0 hl r x
 refine wpAny_mono (ht [] s1 (start N vs) H _ I hq) (fun fl s' hs=>?_) fun e s' hs=>hs
 have fin:∀{σ':St} {H':Hp} {v:V} {u:Value},Inv (cxOf CX P w K mg base N qual scope f cdv A outer s H E) [] σ' H' s'->RelV v u->Q v H'->CE outer P w H s Q u s':=
  fun{σ' H' v u} J rv q=>⟨v,H',J.os,J.bare,J.base,J.hok,rv,q⟩
 cases fl with
 | ret u=>
   obtain⟨v,σ',H',J,rv,q⟩:=hs
   exact fin J rv q
 | next=>
   obtain⟨σ',H',J,q⟩:=hs
   exact fin (v:=V.non) (u:=Value.none) J rfl q
 | brk=>
   obtain⟨_,_,_,q⟩:=hs
   exact False.elim q
 | cont=>
   obtain⟨_,_,_,q⟩:=hs
   exact False.elim q
end L2
namespace L2
open PySem PySem.Spec PyProof.Rows
section
variable {X:Cx} {x:Str} {p pos:Pos} {e:Expr} {es:List Expr} {t:TA} {id T:String} {r:List V->Hp->VK->Prop}
def tCB (r:List V->Hp->VK->Prop)(t:TA):TE:=fun σ H Q=>t σ H fun vs H1=>r vs H1 Q
theorem pe_callB (hc:CallR X (.builtin id) r)(hg:Gl X x)(hm:X.mg x=none)(hv:bootBuiltins x=some (.builtin id))(ha:PA X (e :: es) t)(hn:x≠"__name__":=by decide)(hdb:(x==("__debug__":Str))=false:=by decide)
 (he:starEach (e :: es) X.env=(false,eval e X.env) :: starEach es X.env:=by rfl) (hpl:(backTo pos (starEach es X.env)).any (·.1)=false:=by rfl):PE X (.Call (.Name x p) (e :: es) [] pos) (tCB r t):=by
 intro pins s σ H Q I h
 refine wpAny_Call_Name_kw (ld_blt I hg hm hv ?_ hn hdb)
 exact PyProof.Rows.callWith_builtin1 (thn (ha pos pins s σ H _ I h) fun us s1 ⟨vs,H1,I1,r1,q1⟩=>hc pins s1 σ H1 vs us Q I1 r1 q1) he hpl
theorem pe_callTy (hc:CallR X (.type T) r)(hg:Gl X x)(hm:X.mg x=none)(hv:bootBuiltins x=some (.type T))(ha:PA X (e :: es) t)(hn:x≠"__name__":=by decide)(hdb:(x==("__debug__":Str))=false:=by decide)
 (he:starEach (e :: es) X.env=(false,eval e X.env) :: starEach es X.env:=by rfl) (hpl:(backTo pos (starEach es X.env)).any (·.1)=false:=by rfl):PE X (.Call (.Name x p) (e :: es) [] pos) (tCB r t):=by
 intro pins s σ H Q I h
 refine wpAny_Call_Name_kw (ld_blt I hg hm hv ?_ hn hdb)
 exact PyProof.Rows.callWith_type1 (thn (ha pos pins s σ H _ I h) fun us s1 ⟨vs,H1,I1,r1,q1⟩=>hc pins s1 σ H1 vs us Q I1 r1 q1) he hpl
end
end L2
namespace HT
open PySem PyProof.Rows
section
open PySem.SeqAt
open PySem.AutoSeq1 (wpAny_loadPart')
open PySem.MeetsSeq PySem.MeetsSeq2 PySem.MeetsSeq3
end
section
variable {prog:Program} {w:World} {A:Around} {E:Value->Shared->Prop} {s:Shared}
theorem cat_tup {t b:Addr}{vs ws:List Value}{Q:Value->Shared->Prop}(ht:IsTup s.heap t vs.toArray)(hb:IsTup s.heap b ws.toArray)(hv:vs≠[])
 (h1:ws=[]->Q (.ref t) s) (h2:ws≠[]->Q (.ref s.heap.objs.size) { s with heap:=s.heap.push { cls:=.type "tuple",data:=.seq (vs++ws).toArray } })
 (hsz:vs.length+ ws.length<=sizeLine):wpAny (model prog w) A (binaryOp .Add (.ref t) (.ref b)) Q E s:=by
 obtain⟨⟨cls,dd,data,sl⟩,ho,hc,n,hd⟩:=id ht
 obtain⟨⟨cls2,dd2,data2,sl2⟩,ho2,hc2,n2,hd2⟩:=id hb
 simp only at hc hd hc2 hd2
 subst hc hd hc2 hd2
 have e:vs.toArray++ws.toArray=(vs++ws).toArray:=by simp
 by_cases hw:ws=[]
 ·exact concat_meets ⟨_,ho,rfl⟩ ⟨_,ho2,rfl⟩ noFill_tuple_add seq_tuple_add PySem.F.slot_tuple_add PySem.F.entry_tuple_add (PySem.F.args_tuple_add_2 _ _)
   (tuple_addW1 t b vs.toArray ws.toArray n n2 dd dd2 sl sl2 (by simpa using hv) (by simp[hw])) ⟨ho,ho2,h1 hw⟩
 ·refine concat_meets ⟨_,ho,rfl⟩ ⟨_,ho2,rfl⟩ noFill_tuple_add seq_tuple_add PySem.F.slot_tuple_add PySem.F.entry_tuple_add (PySem.F.args_tuple_add_2 _ _)
   (tuple_addW2 t b vs.toArray ws.toArray n n2 dd dd2 sl sl2 (by simpa using hv) (by simpa using hw) (by rw[List.size_toArray,List.size_toArray];exact hsz)) ⟨ho,ho2,?_⟩
  rw[e]
  exact h2 hw
def sIx (n d:Nat):Option Int->Nat
 | none=>d
 | some v=>if v < 0 then (v+ (n:Int)).toNat else min v.toNat n
theorem sIx_nat (n d k:Nat):sIx n d (some (k:Int))=min k n:=by
 show (if (k:Int) < 0 then ((k:Int)+ (n:Int)).toNat else min (k:Int).toNat n)=min k n
 rw[if_neg (by omega),Int.toNat_natCast]
theorem sIx_le (n d:Nat)(hd:d<=n)(o:Option Int):sIx n d o<=n:=by
 cases o with
 | none=>exact hd
 | some v=>
   show (if v < 0 then (v+ (n:Int)).toNat else min v.toNat n)<=n
   by_cases hv:v < 0
   ·rw[if_pos hv];omega
   ·rw[if_neg hv];exact Nat.min_le_right _ _
theorem clip_eq (v:Int)(n d:Nat):(if v < 0 then max (v+ (n:Int)) 0 else min v (n:Int))=((sIx n d (some v):Nat):Int):=by
 show (if v < 0 then max (v+ (n:Int)) 0 else min v (n:Int))=(((if v < 0 then (v+ (n:Int)).toNat else min v.toNat n):Nat):Int)
 by_cases hv:v < 0
 ·simp only[if_pos hv];omega
 ·simp only[if_neg hv];omega
theorem adjust_gen (lo hi:Option Int)(n:Nat):Builtin.Slice.sliceAdjust lo hi 1 (n:Int)=(((sIx n 0 lo:Nat):Int),((sIx n n hi:Nat):Int)):=by
 have h1:¬ ((1:Int) < 0):=by omega
 unfold Builtin.Slice.sliceAdjust
 simp only[h1,if_false]
 refine Prod.ext ?_ ?_
 ·cases lo with
  | none=>rfl
  | some v=>exact clip_eq v n 0
 ·cases hi with
  | none=>rfl
  | some v=>exact clip_eq v n n
theorem places_gen (i j:Nat):Builtin.Slice.slicePlaces (i:Int) (j:Int) 1=j - i:=by
 unfold Builtin.Slice.slicePlaces
 have h1:(1:Int) > 0:=by omega
 simp only[h1,if_true,Int.ediv_one]
 split <;> omega
theorem slicePart_ {v:Value}{o:Option Int}{Q:Option Int->Shared->Prop}(p:IsPart v o)(h:Q o s):wpAny (model prog w) A (Builtin.Slice.slicePartIndex v) Q E s:=by
 cases p with
 | none=>exact slicePart_none h
 | int i t=>exact slicePart_int h
theorem sliceApplied_gen {sl:Addr}{vl vu:Value}{lo hi:Option Int}{n:Nat}{Q:Int×Int×Nat->Shared->Prop}(hs:s.heap.IsSliceOf sl vl vu .none)(pl:IsPart vl lo)(pu:IsPart vu hi)
 (h:Q (((sIx n 0 lo:Nat):Int),1,sIx n n hi - sIx n 0 lo) s):wpAny (model prog w) A (Builtin.Slice.sliceApplied (.ref sl) (pure (n:Int))) Q E s:=by
 obtain⟨os,hos,hcs,hds⟩:=id hs
 unfold Builtin.Slice.sliceApplied Builtin.Slice.sliceFields
 refine wpAny_bind (wpAny_bind (wpAny_field hos hds (x:=vl) rfl (wpAny_bind (wpAny_field hos hds (x:=vu) rfl (wpAny_bind (wpAny_field hos hds (x:=.none) rfl (wpAny_pure ?_)))))))
 refine wpAny_bind (slicePart_none ?_)
 show wpAny _ _ (if ((1:Int)==0)=true then _ else _) _ _ s
 rw[if_neg (by decide)]
 refine wpAny_bind (slicePart_ pl (wpAny_bind (slicePart_ pu (wpAny_bind (wpAny_pure ?_)))))
 show wpAny _ _ (match Builtin.Slice.sliceAdjust lo hi 1 (n:Int) with | (lo,hi)=>pure (lo,(1:Int),Builtin.Slice.slicePlaces lo hi 1)) _ _ s
 rw[adjust_gen lo hi n]
 show wpAny _ _ (pure (((sIx n 0 lo:Nat):Int),(1:Int),Builtin.Slice.slicePlaces ((sIx n 0 lo:Nat):Int) ((sIx n n hi:Nat):Int) 1)) _ _ s
 rw[places_gen]
 exact wpAny_pure h
theorem pick_gen (xs:Array Value)(i k:Nat):((List.range k).filterMap fun(m:Nat)=>xs[((i:Int)+ (m:Int)* 1).toNat]?).toArray=((xs.toList.drop i).take k).toArray:=by
 have e:(fun(m:Nat)=>xs[((i:Int)+ (m:Int)* 1).toNat]?)=fun m=>xs[i+ m]?:=by
  funext m
  have:((i:Int)+ (m:Int)* 1).toNat=i+ m:=by omega
  rw[this]
 rw[e]
 have:=pick_run xs i k
 rw[List.filterMap_map] at this
 have e2:((fun x=>xs[x]?) ∘ fun x=>i+ x)=fun m=>xs[i+ m]?:=rfl
 rw[e2] at this
 rw[this]
theorem getItem_tuple_cut {t sl:Addr}{items:Array Value}{vl vu:Value}{lo hi:Option Int}{Q:Value->Shared->Prop}(ht:IsTup s.heap t items)(hs:s.heap.IsSliceOf sl vl vu .none)(pl:IsPart vl lo)(pu:IsPart vu hi)
 (hw:¬ (sIx items.size 0 lo=0/\sIx items.size items.size hi=items.size))
 (h:Q (.ref s.heap.objs.size) { s with heap:=s.heap.push { cls:=.type "tuple",data:=.seq ((items.toList.drop (sIx items.size 0 lo)).take (sIx items.size items.size hi - sIx items.size 0 lo)).toArray } })
 (hsz:items.size<=sizeLine):wpAny (model prog w) A (getItem (.ref t) (.ref sl)) Q E s:=by
 have htake:sizeOk (.seq ((items.toList.drop (sIx items.size 0 lo)).take (sIx items.size items.size hi - sIx items.size 0 lo)).toArray):=by
  show ((items.toList.drop (sIx items.size 0 lo)).take (sIx items.size items.size hi - sIx items.size 0 lo)).toArray.size<=sizeLine
  rw[List.size_toArray,List.length_take,List.length_drop,Array.length_toList]
  omega
 have hj:sIx items.size items.size hi<=items.size:=sIx_le _ _ (Nat.le_refl _) hi
 obtain⟨os,hos,hcs,hds⟩:=id hs
 have hTs:s.TypeIs (.ref sl) "slice":=⟨os,hos,hcs⟩
 unfold getItem
 try with_reducible refine wpAny_holding ?_
 first | refine wpAny_bind (wpAny_pure ?_) | skip
 refine wpAny_bind (wpAny_sequenceKey ht.typeIs (by decide) ?_)
 refine wpAny_bind (wpAny_callSpecial?_slot (name:=Str.ofString "__getitem__") ht.typeIs PyProof.Rows.slot_tuple_getitem
  (wpAny_call_entry PyProof.Rows.slot_tuple_getitem ht.typeIs entry_tuple_getitem ?_ (args_tuple_getitem _ _)))
 show wpAny _ _ (Builtin.Tuple.tupleItemsOf (.ref t) >>=_) _ _ s
 refine wpAny_bind (tupleItemsOf_ ht ?_)
 refine wpAny_bind (wpAny_typeOf hTs ?_)
 rw[if_pos (by decide)]
 refine wpAny_bind (sliceApplied_gen hs pl pu ?_)
 have hno:¬ ((((sIx items.size 0 lo:Nat):Int)==0 && (1:Int)==1 && (sIx items.size items.size hi - sIx items.size 0 lo)==items.size)=true):=by
  intro q
  rw[Bool.and_eq_true,Bool.and_eq_true] at q
  have q1:((sIx items.size 0 lo:Nat):Int)=0:=eq_of_beq q.1.1
  have q2:sIx items.size items.size hi - sIx items.size 0 lo=items.size:=eq_of_beq q.2
  exact hw ⟨by omega,by omega⟩
 show wpAny _ _ (if (((sIx items.size 0 lo:Nat):Int)==0 && (1:Int)==1 && (sIx items.size items.size hi - sIx items.size 0 lo)==items.size)=true then _ else _) _ _ s
 rw[if_neg hno,pick_gen]
 first
  | exact wpAny_bind (m:=Builtin.Tuple.tupleExact _) (wpAny_newObj_type (wpAny_pure ⟨_,rfl,wpAny_pure h⟩) htake)
  | exact wpAny_bind (m:=Builtin.Tuple.tupleExact _) (wpAny_newObj_type (wpAny_bind (wpAny_pure (wpAny_pure ⟨_,rfl,wpAny_pure h⟩))) htake)
  | exact wpAny_bind (wpAny_bind (m:=Builtin.Tuple.tupleExact _) (wpAny_newObj_type (wpAny_pure (wpAny_pure ⟨_,rfl,wpAny_pure h⟩)) htake))
  | exact wpAny_bind (wpAny_bind (m:=Builtin.Tuple.tupleExact _) (wpAny_newObj_type (wpAny_pure ⟨_,rfl,wpAny_pure h⟩) htake))
end
end HT
namespace L2
open PySem PySem.Spec PyProof.Rows
abbrev TO:=St->Hp->(Option Int->Hp->Prop)->Prop
def PO (X:Cx)(e:Option Expr)(t:TO):Prop:=
 ∀(pins:List (Addr×Obj)) (s:Shared) (σ:St) (H:Hp) (Q:Option Int->Hp->Prop),Inv X pins σ H s->t σ H Q->
  wpAny (model X.prog X.w) X.A (evalPart e X.env) (fun u s'=>∃ o H',Inv X pins σ H' s'/\IsPart u o/\Q o H') X.xe s
def tNoPart:TO:=fun _ H Q=>Q none H
def tPart (t:TE):TO:=fun σ H Q=>t σ H fun x H1=>∃ i,x=.int i/\Q (some i) H1
section
variable {X:Cx} {e:Expr} {te:TE} {lo hi:Option Expr} {tl th:TO} {pos p2:Pos}
theorem po_none:PO X none tNoPart:=by
 intro pins s σ H Q I h
 rw[evalPart_none]
 exact wpAny_pure ⟨none,H,I,.none,h⟩
theorem po_some (h:PE X e te):PO X (some e) (tPart te):=by
 intro pins s σ H Q I hw
 rw[evalPart_some]
 refine thn (h pins s σ H _ I hw) fun u s1 ⟨x,H1,I1,r1,q1⟩=>?_
 obtain⟨i,rfl,q⟩:=q1
 obtain⟨t,rfl⟩:=r1
 exact⟨some i,H1,I1,.int i t,q⟩
def SlR (X:Cx)(r:V->Option Int->Option Int->Hp->VK->Prop):Prop:=
 ∀(pins:List (Addr×Obj)) (s:Shared) (σ:St) (H:Hp) (x:V) (v vl vu:Value) (lo hi:Option Int) (sl:Addr) (Q:VK),Inv X pins σ H s->RelV x v->s.heap.IsSliceOf sl vl vu .none->IsPart vl lo->IsPart vu hi->r x lo hi H Q->
  ∃ T id,typeLookup (.type T) "__getitem__"=pure (some (.builtin id))/\s.TypeIs v T/\wpAny (model X.prog X.w) X.A (getItem v (.ref sl)) (EP X pins σ Q) X.xe s
def tSl (r:V->Option Int->Option Int->Hp->VK->Prop)(te:TE)(tl th:TO):TE:=fun σ H Q=>te σ H fun x H1=>tl σ H1 fun l H2=>th σ H2 fun u H3=>r x l u H3 Q
theorem pe_slice {r:V->Option Int->Option Int->Hp->VK->Prop}(hr:SlR X r)(he:PE X e te)(hl:PO X lo tl)(hu:PO X hi th):PE X (.Subscript e (.Slice lo hi none p2) pos) (tSl r te tl th):=by
 intro pins s σ H Q I h
 refine Subscript_ (thn (he pins s σ H _ I h) fun v s1 ⟨x,H1,I1,r1,q1⟩=>?_)
 refine wpAny_Slice (thn (hl pins s1 σ H1 _ I1 q1) fun vl s2 ⟨l,H2,I2,pl,q2⟩=>thn (hu pins s2 σ H2 _ I2 q2) fun vu s3 ⟨u,H3,I3,pu,q3⟩=>?_)
 rw[evalPart_none]
 refine wpAny_pure ?_
 have I4:Inv X pins σ H3 { s3 with heap:=s3.heap.push { cls:=.type "slice",data:=.fields #[vl,vu,.none] } }:=I3.kept (t':=s3.toks) fun b ob q=>Heap.get?_push_of_some _ q
 obtain⟨T,id,hT,ht,hg⟩:=hr pins { s3 with heap:=s3.heap.push { cls:=.type "slice",data:=.fields #[vl,vu,.none] } } σ H3 x v vl vu l u s3.heap.objs.size Q I4 r1 (Heap.IsSliceOf.new ..) pl pu q3
 show wpAny (model X.prog X.w) X.A (subscriptTail e (.Slice lo hi none p2) v (.ref s3.heap.objs.size)) (EP X pins σ Q) X.xe { s3 with heap:=s3.heap.push { cls:=.type "slice",data:=.fields #[vl,vu,.none] } }
 exact tail_any (ops:=[.ref s3.heap.objs.size,v]) ht hT hg (by with_unfolding_all rfl)
def cutV (xs:List V)(lo hi:Option Int):List V:=(xs.drop (HT.sIx xs.length 0 lo)).take (HT.sIx xs.length xs.length hi - HT.sIx xs.length 0 lo)
theorem cutV_length (xs:List V)(lo hi:Option Int):(cutV xs lo hi).length<=xs.length:=by
 unfold cutV
 rw[List.length_take,List.length_drop]
 omega
def rSlT (K:PySem.W.Frag):V->Option Int->Option Int->Hp->VK->Prop:=fun x lo hi H Q=>∃ a xs,x=.ref a/\SqT K H a xs/\
 ¬ (HT.sIx xs.length 0 lo=0/\HT.sIx xs.length xs.length hi=xs.length)/\∀ p,H p=none->Q (.ref p) (upd H p (.tup (cutV xs lo hi)))
theorem sl_tup:SlR X (rSlT X.K):=by
 intro pins s σ H x v vl vu lo hi sl Q I rx hs pl pu h
 obtain⟨a,xs,rfl,hx,hw,q⟩:=h
 cases rx
 obtain⟨its,r,ht,hz⟩:=I.tuple hx
 have hlen:its.toArray.size=xs.length:=by rw[List.size_toArray];exact r.length.symm
 refine⟨"tuple",_,PyProof.Rows.slot_tuple_getitem.lookup,ht.typeIs,?_⟩
 refine HT.getItem_tuple_cut ht hs pl pu (by rw[hlen];exact hw) ?_ (by rw[hlen];exact hz)
 rw[hlen]
 refine⟨.ref s.heap.objs.size,_,I.laid (t':=s.toks) (o:=.tup (cutV xs lo hi)) (fun b ob q=>Heap.get?_push_of_some _ q) (Nat.le_refl _) ?_,rfl,q _ (I.hok.fresh (Nat.le_refl _))⟩
 exact⟨Nat.le_trans (cutV_length xs lo hi) hz,_,(r.drop (HT.sIx xs.length 0 lo)).take (HT.sIx xs.length xs.length hi - HT.sIx xs.length 0 lo),IsTup.new _ _⟩
def rCatT (K:PySem.W.Frag):R2:=fun x y H Q=>∃ a b xs ys,x=.ref a/\y=.ref b/\SqT K H a xs/\SqT K H b ys/\xs≠[]/\xs.length+ ys.length<=sizeLine/\
 (ys=[]->Q (.ref a) H)/\(ys≠[]->∀ p,H p=none->Q (.ref p) (upd H p (.tup (xs++ys))))
theorem Vals.nil_iff {xs:List V}{us:List Value}(r:Vals xs us):us=[]↔xs=[]:=by
 cases r with
 | nil=>simp
 | cons _ _=>simp
theorem op_catT:OpR X (binaryOp .Add) (rCatT X.K):=by
 intro pins s σ H x y v u Q I rx ry h
 obtain⟨a,b,xs,ys,rfl,rfl,ha,hb,hx,hz,q1,q2⟩:=h
 cases rx
 cases ry
 obtain⟨its,r1,p1,_⟩:=I.tuple ha
 obtain⟨its2,r2,p2,_⟩:=I.tuple hb
 refine HT.cat_tup p1 p2 (fun z=>hx (r1.nil_iff.mp z)) (fun z=>⟨.ref a,H,I,rfl,q1 (r2.nil_iff.mp z)⟩) (fun z=>?_) (by rw[← r1.length,← r2.length];exact hz)
 refine⟨.ref s.heap.objs.size,_,I.laid (t':=s.toks) (o:=.tup (xs++ys)) (fun b ob q=>Heap.get?_push_of_some _ q) (Nat.le_refl _) ?_,rfl,q2 (fun w=>z (r2.nil_iff.mpr w)) _ (I.hok.fresh (Nat.le_refl _))⟩
 exact⟨by rw[List.length_append];exact hz,_,r1.append r2,IsTup.new _ _⟩
end
end L2
namespace L2
open PySem PySem.Spec PyProof.Rows
def ixN (n:Nat)(i:Int):Option Nat:=if 0<=i then (if i < n then some i.toNat else none) else if -(n:Int)<=i then some (i+ n).toNat else none
def atI {α:Type}(xs:List α)(i:Int):Option α:=(ixN xs.length i).bind fun j=>xs[j]?
theorem ixN_seq {n:Nat}{i:Int}{j:Nat}(h:ixN n i=some j):seqIndex? i n=some j/\j < n/\-(n:Int)<=i/\i < n:=by
 unfold ixN at h
 by_cases h0:0<=i
 ·rw[if_pos h0] at h
  by_cases h1:i < n
  ·rw[if_pos h1] at h
   have e:i.toNat=j:=Option.some.inj h
   exact⟨by rw[seqIndex_of h0 h1,e],by omega,by omega,h1⟩
  ·rw[if_neg h1] at h;cases h
 ·rw[if_neg h0] at h
  by_cases h1: -(n:Int)<=i
  ·rw[if_pos h1] at h
   have e:(i+ n).toNat=j:=Option.some.inj h
   exact⟨by rw[seqIndex_neg (by omega) h1,e],by omega,h1,by omega⟩
  ·rw[if_neg h1] at h;cases h
theorem atI_get {α:Type}{xs:List α}{i:Int}{v:α}(h:atI xs i=some v):∃ j,seqIndex? i xs.length=some j/\xs[j]?=some v/\j < xs.length/\-(xs.length:Int)<=i/\i < xs.length:=by
 unfold atI at h
 cases e:ixN xs.length i with
 | none=>rw[e] at h;cases h
 | some j=>
   rw[e] at h
   obtain⟨h1,h2,h3,h4⟩:=ixN_seq e
   exact⟨j,h1,h,h2,h3,h4⟩
theorem atI_nat {α:Type}{xs:List α}{j:Nat}{v:α}(h:xs[j]?=some v):atI xs (j:Int)=some v:=by
 have hj:j < xs.length:=(List.getElem?_eq_some_iff.mp h).1
 have e:ixN xs.length (j:Int)=some j:=by
  unfold ixN
  rw[if_pos (by omega),if_pos (by omega)];simp
 unfold atI;rw[e];exact h
theorem atI_last {α:Type}(xs:List α)(v:α):atI (xs++[v]) (-1)=some v:=by
 have hl:(xs++[v]).length=xs.length+ 1:=by simp
 have e:ixN (xs++[v]).length (-1)=some xs.length:=by
  unfold ixN
  rw[hl,if_neg (by decide),if_pos (by omega)]
  congr 1
  omega
 unfold atI
 rw[e]
 show (xs++[v])[xs.length]?=some v
 simp
def PlainIx (b:Expr):Prop:=∀ o i,subscripted b false o i=operate [o,i] (getItem o i)
def IxR (X:Cx)(r:R2):Prop:=
 ∀(value slice:Expr) (pins:List (Addr×Obj)) (s:Shared) (σ:St) (H:Hp) (x y:V) (v u:Value) (Q:VK),Inv X pins σ H s->RelV x v->RelV y u->r x y H Q->
  subscripted slice false v u=operate [v,u] (getItem v u)->wpAny (model X.prog X.w) X.A (subscriptTail value slice v u) (EP X pins σ Q) X.xe s
def MtR (X:Cx)(id:String)(r:V->List V->Hp->VK->Prop):Prop:=
 ∀(pins:List (Addr×Obj)) (s:Shared) (σ:St) (H:Hp) (x:V) (xs:List V) (v:Value) (us:List Value) (Q:VK),Inv X pins σ H s->RelV x v->Vals xs us->r x xs H Q->
  wpAny (model X.prog X.w) X.A (call (.builtin id) (v :: us)) (EP X pins σ Q) X.xe s
section
variable {X:Cx} {a b:Expr} {ta tb:TE} {pos:Pos}
theorem pe_ix {r:R2}(hr:IxR X r)(ha:PE X a ta)(hb:PE X b tb)(hs:PlainIx b):PE X (.Subscript a b pos) (tOp r ta tb):=by
 intro pins s σ H Q I h
 exact Subscript_ (binT ha hb I h fun v u s2 x y H2 I2 rx ry q=>hr a b pins s2 σ H2 x y v u Q I2 rx ry q (hs _ _))
def rIxL (K:PySem.W.Frag):R2:=fun x y H Q=>∃ p xs i v,x=.ref p/\y=.int i/\SqL K H p xs/\atI xs i=some v/\Q v H
def rIxT (K:PySem.W.Frag):R2:=fun x y H Q=>∃ p xs i v,x=.ref p/\y=.int i/\SqT K H p xs/\atI xs i=some v/\Q v H
theorem ix_list:IxR X (rIxL X.K):=by
 intro value slice pins s σ H x y v u Q I rx ry h hs
 obtain⟨p,xs,i,z,rfl,rfl,hq,he,q⟩:=h
 cases rx
 obtain⟨t,rfl⟩:=ry
 obtain⟨its,r,pl,hz⟩:=I.list hq
 obtain⟨j,h1,h2,h3,h4,h5⟩:=atI_get he
 obtain⟨w,ew,rw'⟩:=r.get h2
 have hl:=r.length
 have hn:=line63
 have fin:EP X pins σ Q w s:=⟨z,H,I,rw',q⟩
 by_cases h0:0<=i
 ·have hj:i.toNat=j:=by
   rw[seqIndex_of h0 h5] at h1
   exact Option.some.inj h1
  exact item_listR pl.isList h0 (by omega) (by rw[hj];simpa using ew) fin hs
 ·have hj:(i+ (its.toArray.size:Int)).toNat=j:=by
   rw[seqIndex_neg (by omega) h4] at h1
   rw[List.size_toArray,← hl]
   exact Option.some.inj h1
  exact subscriptTail_builtinR (x:=w) pl.isList.typeIs slot_list_getitem.lookup
   (wpAny_getItem_list_neg (Q:=fun r s'=>r=w/\EP X pins σ Q r s') pl.isList (by omega) (by rw[List.size_toArray] <;> omega) (by omega) (by rw[hj];simpa using ew) ⟨rfl,fin⟩) hs
theorem ix_tup:IxR X (rIxT X.K):=by
 intro value slice pins s σ H x y v u Q I rx ry h hs
 obtain⟨p,xs,i,z,rfl,rfl,hq,he,q⟩:=h
 cases rx
 obtain⟨t,rfl⟩:=ry
 obtain⟨its,r,pl,hz⟩:=I.tuple hq
 obtain⟨j,h1,h2,h3,h4,h5⟩:=atI_get he
 obtain⟨w,ew,rw'⟩:=r.get h2
 have hl:=r.length
 have hn:=line63
 have fin:EP X pins σ Q w s:=⟨z,H,I,rw',q⟩
 exact subscriptTail_builtinR (x:=w) pl.typeIs slot_tuple_getitem.lookup
  (getItem_tuple (j:=j) (Q:=fun r s'=>r=w/\EP X pins σ Q r s') pl (by omega) (by omega) (by rw[List.size_toArray,← hl];exact h1) (by simpa using ew) ⟨rfl,fin⟩) hs
theorem Inv.lst {pins:List (Addr×Obj)}{σ:St}{H:Hp}{s:Shared}{p:Addr}{xs:List V}(I:Inv X pins σ H s)(h:H p=some (.lst xs)):
 ∃(its:List Value) (n:Nat),Vals xs its/\s.heap.get? p=some { cls:=.type "list",data:=.seq its.toArray n }/\xs.length<=sizeLine:=by
 obtain⟨z,its,n,r,e⟩:=I.hok p _ h
 exact⟨its,n,r,e,z⟩
theorem slice_bounds (lo hi:Option Int)(n:Nat):(sliceBounds lo hi none n).1=((HT.sIx n 0 lo:Nat):Int)/\(sliceBounds lo hi none n).2.1=((HT.sIx n n hi:Nat):Int)/\(sliceBounds lo hi none n).2.2=1:=by
 refine⟨?_,?_,rfl⟩
 ·cases lo with
  | none=>simp[sliceBounds,HT.sIx]
  | some i=>
    simp only[sliceBounds,HT.sIx,Option.getD_none,show (1:Int) > 0 by decide,if_true]
    by_cases h:i < 0
    ·simp only[h,if_true] <;> omega
    ·simp only[h,if_false] <;> omega
 ·cases hi with
  | none=>simp[sliceBounds,HT.sIx]
  | some i=>
    simp only[sliceBounds,HT.sIx,Option.getD_none,show (1:Int) > 0 by decide,if_true]
    by_cases h:i < 0
    ·simp only[h,if_true] <;> omega
    ·simp only[h,if_false] <;> omega
theorem slicePick_cut (its:List Value)(lo hi:Option Int):slicePick its.toArray lo hi none=((its.drop (HT.sIx its.length 0 lo)).take (HT.sIx its.length its.length hi - HT.sIx its.length 0 lo)).toArray:=by
 obtain⟨h1,h2,h3⟩:=slice_bounds lo hi its.toArray.size
 unfold slicePick
 rw[h1,h2,h3]
 simp only[sliceRange_one,pick_run,List.size_toArray] <;> rfl
def rSlL (K:PySem.W.Frag):V->Option Int->Option Int->Hp->VK->Prop:=fun x lo hi H Q=>∃ a xs,x=.ref a/\SqL K H a xs/\∀ p,H p=none->Q (.ref p) (upd H p (.lst (cutV xs lo hi)))
theorem sl_list:SlR X (rSlL X.K):=by
 intro pins s σ H x v vl vu lo hi sl Q I rx hs pl pu h
 obtain⟨a,xs,rfl,hx,q⟩:=h
 cases rx
 obtain⟨its,r,ht,hz⟩:=I.list hx
 have hlen:=r.length
 refine⟨"list",_,slot_list_getitem.lookup,ht.isList.typeIs,?_⟩
 refine wpAny_getItem_list_slice ht.isList hs pl pu .none (by simp) ?_ (by rw[List.size_toArray] <;> omega)
 rw[slicePick_cut,← hlen]
 refine⟨.ref s.heap.objs.size,_,I.laid (t':=s.toks) (o:=.lst (cutV xs lo hi)) (fun b ob q=>Heap.get?_push_of_some _ q) (Nat.le_refl _) ?_,rfl,q _ (I.hok.fresh (Nat.le_refl _))⟩
 exact⟨Nat.le_trans (cutV_length xs lo hi) hz,_,0,(r.drop (HT.sIx xs.length 0 lo)).take (HT.sIx xs.length xs.length hi - HT.sIx xs.length 0 lo),Heap.get?_push_size _ rfl⟩
theorem call_len_seq:CallR X (.builtin "len") (fun xs H Q=>∃ p ys,xs=[.ref p]/\(SqL X.K H p ys\/SqT X.K H p ys)/\Q (.int ys.length) H):=by
 intro pins s σ H xs us Q I r h
 obtain⟨p,ys,rfl,hq,q⟩:=h
 obtain⟨u,rfl,rx⟩:=vals1 r
 cases rx
 have hn:=line63
 rcases hq with hq | hq
 ·obtain⟨its,r',pl,hz⟩:=I.list hq
  have hlen:=r'.length
  exact Calls.call_len_list pl.isList (by simp only[List.size_toArray] <;> omega) ⟨.int ys.length,H,I.tok _,⟨s.toks+ 1,by rw[List.size_toArray,hlen]⟩,q⟩
 ·obtain⟨its,r',pl,hz⟩:=I.tuple hq
  have hlen:=r'.length
  exact len_tuple pl (by simp only[List.size_toArray] <;> omega) ⟨.int ys.length,H,I.tok _,⟨s.toks+ 1,by rw[List.size_toArray,hlen]⟩,q⟩
theorem call_list_of:CallR X (.type "list") (fun xs H Q=>∃ p ys,xs=[.ref p]/\(SqL X.K H p ys\/SqT X.K H p ys)/\∀ l,H l=none->Q (.ref l) (upd H l (.lst ys))):=by
 intro pins s σ H xs us Q I r h
 obtain⟨p,ys,rfl,hq,q⟩:=h
 obtain⟨u,rfl,rx⟩:=vals1 r
 cases rx
 have fin:∀(its:List Value),Vals ys its->ys.length<=sizeLine->∀(h':Heap) (c':Nat),(∀ b o',s.heap.get? b=some o'->h'.get? b=some o')->
  h'.get? s.heap.objs.size=some { cls:=.type "list",dict:=none,data:=.seq its.toArray c',slots:=#[] }->EP X pins σ Q (.ref s.heap.objs.size) { s with heap:=h' }:=fun its r' hz h' c' kp e=>
  ⟨.ref s.heap.objs.size,_,I.laid (t':=s.toks) kp (Nat.le_refl _) (show ObjOk X.prog X.w _ h' _ (.lst ys) from ⟨hz,its,c',r',e⟩),rfl,q _ (I.hok.fresh (Nat.le_refl _))⟩
 rcases hq with hq | hq
 ·obtain⟨its,r',pl,hz⟩:=I.list hq
  have hlen:=r'.length
  obtain⟨o,ho,hc,n,hd⟩:=pl.isList
  exact call_list_seq p (.inl rfl) ho hc hd (fun h' c' kp e=>fin its r' hz h' c' kp e) (by simp only[List.size_toArray] <;> omega)
 ·obtain⟨its,r',pl,hz⟩:=I.tuple hq
  have hlen:=r'.length
  obtain⟨o,ho,hc,n,hd⟩:=pl
  exact call_list_seq p (.inr rfl) ho hc hd (fun h' c' kp e=>fin its r' hz h' c' kp e) (by simp only[List.size_toArray] <;> omega)
theorem call_tuple_of:CallR X (.type "tuple") (fun xs H Q=>∃ p ys,xs=[.ref p]/\((SqL X.K H p ys/\∀ l,H l=none->Q (.ref l) (upd H l (.tup ys)))\/(SqT X.K H p ys/\Q (.ref p) H))):=by
 intro pins s σ H xs us Q I r h
 obtain⟨p,ys,rfl,h⟩:=h
 obtain⟨u,rfl,rx⟩:=vals1 r
 cases rx
 rcases h with ⟨hq,q⟩ | ⟨hq,q⟩
 ·obtain⟨its,r',pl,hz⟩:=I.list hq
  have hlen:=r'.length
  refine call_tuple_list pl.isList (fun h' kp=>?_) (by simp only[List.size_toArray] <;> omega)
  have I1:Inv X pins σ H { s with heap:=h' }:=I.kept (t':=s.toks) kp
  have I2:Inv X pins σ (upd H h'.objs.size (.tup ys)) { s with heap:=h'.push { cls:=.type "tuple",data:=.seq its.toArray } }:=
   I1.laid (t':=s.toks) (fun b o e=>Heap.get?_push_of_some _ e) (Nat.le_refl _) (show ObjOk X.prog X.w _ _ _ (.tup ys) from ⟨hz,its,r',IsTup.new _ _⟩)
  exact⟨.ref h'.objs.size,_,I2,rfl,q _ (I1.hok.fresh (Nat.le_refl _))⟩
 ·obtain⟨its,r',pl,hz⟩:=I.tuple hq
  exact call_tuple_same pl ⟨.ref p,H,I,rfl,q⟩
def tyV (K:PySem.W.Frag)(T:String)(x:V)(H:Hp):Prop:=match x with
 | .str _=>T="str"
 | .int _=>T="int"
 | .ref p=>(T="list"/\∃ xs,SqL K H p xs)\/(T="tuple"/\∃ o,K.lookup p=some o/\o.cls=.type "tuple"/\o.dict=none)\/
  (T="dict"/\((∃ kvs,H p=some (.dK kvs))\/∃ kvs,H p=some (.dT kvs)))\/(T="set"/\∃ S n,H p=some (.set S n))
 | _=>False
theorem tyV_is {pins:List (Addr×Obj)}{σ:St}{H:Hp}{s:Shared}{T:String}{x:V}{v:Value}(I:Inv X pins σ H s)(r:RelV x v)(ty:tyV X.K T x H):
 s.TypeIs v T/\∀ a,v=.ref a->∃ ob,s.heap.get? a=some ob/\ob.dict=none:=by
 cases x with
 | str z=>
   obtain⟨t,rfl⟩:=r
   cases (show T="str" from ty)
   exact⟨typeIs_str s z t,fun _ e=>nomatch e⟩
 | int i=>
   obtain⟨t,rfl⟩:=r
   cases (show T="int" from ty)
   exact⟨typeIs_int s i t,fun _ e=>nomatch e⟩
 | ref p=>
   cases r
   rcases ty with ⟨rfl,xs,hq⟩ | ⟨rfl,o,hk,hc,hd⟩ | ⟨rfl,hk⟩ | ⟨rfl,S,n,hk⟩
   ·obtain⟨its,_,pl,_⟩:=I.list hq
    refine⟨pl.isList.typeIs,fun a e=>?_⟩
    cases e
    obtain⟨o,n,e,c,hd,_⟩:=pl
    exact⟨o,e,hd⟩
   ·refine⟨⟨o,I.kIn p o hk,hc⟩,fun a e=>?_⟩
    cases e
    exact⟨o,I.kIn _ o hk,hd⟩
   ·have z:∃ o,s.heap.get? p=some o/\o.ExactDict:=by
     rcases hk with ⟨kvs,hk⟩ | ⟨kvs,hk⟩
     ·obtain⟨_,_,_,_,o,_,_,e,ex,_⟩:=I.hok p _ hk
      exact⟨o,e,ex⟩
     ·obtain⟨_,_,_,_,o,_,_,e,ex,_⟩:=I.hok p _ hk
      exact⟨o,e,ex⟩
    obtain⟨o,e,ex⟩:=z
    refine⟨⟨o,e,ex.1⟩,fun a e2=>?_⟩
    cases e2
    exact⟨o,e,ex.2.1⟩
   ·obtain⟨o,_,_,_,e,ex,_⟩:=I.hok p _ hk
    refine⟨⟨o,e,ex.1⟩,fun a e2=>?_⟩
    cases e2
    exact⟨o,e,ex.2.1⟩
 | _=>exact False.elim ty
def tBM (K:PySem.W.Frag)(T:String)(r:V->List V->Hp->VK->Prop)(to:TE)(t:TA):TE:=fun σ H Q=>to σ H fun x H1=>tyV K T x H1/\t σ H1 fun xs H2=>r x xs H2 Q
variable {o e:Expr} {es:List Expr} {to:TE} {t:TA} {name:Str} {apos cpos:Pos} {T id:String} {r:V->List V->Hp->VK->Prop}
theorem pe_bm (pa:PlainAttrs T)(slot:Slot T name id)(hty:typeOf (.builtin id)=pure (.type "method_descriptor"))(hm:MtR X id r)(ho:PE X o to)(ha:PA X (e :: es) t)
 (hbase:attributeBase o name X.env (eval o X.env)=eval o X.env:=by rfl)
 (hfew:((backTo cpos (starEach (e :: es) X.env)).all (fun x=>!x.1) && (backToKw cpos (keywordEach [] X.env)).all (fun x=>x.1.isSome)
  && decide ((e :: es).length+ ([]:List Keyword).length+ (if ([]:List Keyword).isEmpty then 0 else 1) < 30))=true:=by rfl)
 (hline:(apos.endLine==cpos.line)=true:=by rfl) (hs:starEach (e :: es) X.env=(false,eval e X.env) :: starEach es X.env:=by rfl) (hplain:(backTo cpos (starEach es X.env)).any (·.1)=false:=by rfl):
 PE X (.Call (.Attribute o name apos) (e :: es) [] cpos) (tBM X.K T r to t):=by
 intro pins s σ H Q I h
 refine wpAny_Call_method_late hbase hfew hline rfl (thn (ho pins s σ H _ I h) fun v s1 ⟨x,H1,I1,r1,ty,q1⟩=>?_)
 obtain⟨h1,h2⟩:=tyV_is I1 r1 ty
 refine⟨T,id,pa,slot,hty,h1,h2,?_⟩
 have hA:=ha cpos pins s1 σ H1 _ I1 q1
 rw[hs] at hA ⊢
 refine Calls.callWith_builtin (by show (false || (backTo cpos (starEach es X.env)).any (·.1))=false;rw[hplain] <;> rfl) (Calls.evalArgs_plain ?_)
 exact thn hA fun us s2 ⟨vs,H2,I2,r2,q2⟩=>hm pins s2 σ H2 x vs v us Q I2 r1 r2 q2
/- xs.append(e),list.index on a module's tuple .. are MtR facts of 06m -/
end
end L2
namespace L2
open PySem PySem.Spec PyProof.Rows
def MtM (X:Cx)(id:String)(r:V->List V->Hp->VK->Prop):Prop:=
 ∀(pins:List (Addr×Obj)) (s:Shared) (σ:St) (H:Hp) (x:V) (xs:List V) (v:Value) (us:List Value) (Q:VK),Inv X pins σ H s->RelV x v->Vals xs us->r x xs H Q->
  wpAny (model X.prog X.w) X.A (call (.builtin id) (v :: us)) (EP X pins σ Q) X.xe s
theorem Vals.one:∀{x:V} {us:List Value},Vals [x] us->∃ u,us=[u]/\RelV x u
 | _,_,.cons r .nil=>⟨_,rfl,r⟩
theorem Vals.zero:∀{us:List Value},Vals [] us->us=[]
 | _,.nil=>rfl
theorem Vals.dropLast {xs:List V}{us:List Value}(h:Vals xs us):Vals xs.dropLast us.dropLast:=by
 induction h with
 | nil=>exact .nil
 | cons r t ih=>
   cases t with
   | nil=>exact .nil
   | cons q t'=>exact .cons r ih
theorem Vals.reverse {xs:List V}{us:List Value}(h:Vals xs us):Vals xs.reverse us.reverse:=by
 induction h with
 | nil=>exact .nil
 | cons r t ih=>rw[List.reverse_cons,List.reverse_cons];exact Vals.append ih (.cons r .nil)
theorem Vals.rep {xs:List V}{us:List Value}(h:Vals xs us):∀ k:Nat,Vals (List.replicate k xs).flatten (List.replicate k us).flatten
 | 0=>.nil
 | k+ 1=>by
   rw[List.replicate_succ,List.replicate_succ,List.flatten_cons,List.flatten_cons]
   exact Vals.append h (Vals.rep h k)
theorem foldl_rep (its:List Value):∀(k:Nat) (acc:List Value),
 List.foldl (fun x1 x2=>x1++x2) acc.toArray (List.replicate k its.toArray)=(acc++(List.replicate k its).flatten).toArray
 | 0,acc=>by simp
 | k+ 1,acc=>by
   have e:acc.toArray++its.toArray=(acc++its).toArray:=by simp
   have e2:(acc++its)++(List.replicate k its).flatten=acc++(List.replicate (k+ 1) its).flatten:=by
    rw[List.replicate_succ,List.flatten_cons,List.append_assoc]
   rw[← e2,← foldl_rep its k (acc++its),← e,List.replicate_succ,List.foldl_cons]
section
variable {X:Cx} {pins:List (Addr×Obj)} {σ:St} {H:Hp} {s:Shared} {l b:Addr} {xs ys zs:List V}
theorem Inv.lset {its its':List Value}{n:Nat}{f:Array Value->Array Value}{t':Nat}(I:Inv X pins σ H s)(hH:H l=some (.lst xs))
 (e:s.heap.get? l=some { cls:=.type "list",data:=.seq its.toArray n }) (hf:f its.toArray=its'.toArray) (hv:Vals ys its') (hz:ys.length<=sizeLine):
 Inv X pins σ (upd H l (.lst ys)) { s with heap:=s.heap.update l (Obj.mapSeq f),toks:=t' }:=by
 have q:=PySem.IsL.update e f
 rw[hf] at q
 refine I.write (x:=l) (e:=l) (by rw[hH];exact trivial) (.inl rfl) (fun b' u hb hu=>(Heap.get?_update_other s.heap (Obj.mapSeq f) (Ne.symm hb)).trans hu) ⟨_,q⟩ ?_
 exact⟨hz,its',_,hv,q⟩
theorem Inv.lnew {its:List Value}{t':Nat}(I:Inv X pins σ H s)(hv:Vals ys its)(hz:ys.length<=sizeLine):
 Inv X pins σ (upd H s.heap.objs.size (.lst ys)) { s with heap:=s.heap.push { cls:=.type "list",data:=.seq its.toArray },toks:=t' }:=
 I.laid (fun _ _ q=>Heap.get?_push_of_some _ q) (Nat.le_refl _) ⟨hz,its,0,hv,Heap.get?_push_size _ rfl⟩
theorem Inv.fresh (I:Inv X pins σ H s):H s.heap.objs.size=none:=I.hok.fresh (Nat.le_refl _)
theorem Inv.lstM (I:Inv X pins σ H s)(hH:H l=some (.lst xs)):xs.length<=sizeLine/\∃(its:List Value) (n:Nat),Vals xs its/\xs.length=its.length/\s.heap.get? l=some { cls:=.type "list",data:=.seq its.toArray n }:=by
 obtain⟨z,its,n,r,e⟩:=I.hok l _ hH
 exact⟨z,its,n,r,r.length,e⟩
end
section
variable {X:Cx}
def rAppend:V->List V->Hp->VK->Prop:=fun x vs H Q=>∃ l xs y,x=.ref l/\vs=[y]/\H l=some (.lst xs)/\xs.length < sizeLine/\Q .non (upd H l (.lst (xs++[y])))
theorem mt_append:MtM X "list.append" rAppend:=by
 intro pins s σ H x vs v us Q I rx rv h
 obtain⟨l,xs,y,rfl,rfl,hH,hz,q⟩:=h
 cases rx
 obtain⟨u,rfl,ru⟩:=rv.one
 obtain⟨z,its,n,r,hl,e⟩:=I.lstM hH
 refine call_meets F.slot_list_append ⟨_,e,rfl⟩ F.entry_list_append (F.args_list_append_2 _ _) (PySem.list_append l its.toArray n u (by rw[List.size_toArray];omega)) ⟨e,?_⟩
 refine⟨.non,_,I.lset (its':=its++[u]) hH e (by simp) (r.append (.cons ru .nil)) ?_,rfl,q⟩
 rw[List.length_append,List.length_singleton]
 omega
def rCat:R2:=fun x y H Q=>∃ l b xs zs,x=.ref l/\y=.ref b/\H l=some (.lst xs)/\H b=some (.lst zs)/\xs.length+ zs.length<=sizeLine/\∀ p,H p=none->Q (.ref p) (upd H p (.lst (xs++zs)))
theorem op_cat:OpR X (binaryOp .Add) rCat:=by
 intro pins s σ H x y v u Q I rx ry h
 obtain⟨l,b,xs,zs,rfl,rfl,hH,hB,hz,q⟩:=h
 cases rx
 cases ry
 obtain⟨z,its,n,r,hl,e⟩:=I.lstM hH
 obtain⟨z2,its2,n2,r2,hl2,e2⟩:=I.lstM hB
 refine PySem.P.add_list e e2 ?_ (by rw[List.size_toArray,List.size_toArray];omega)
 have ea:its.toArray++its2.toArray=(its++its2).toArray:=by simp
 rw[ea]
 exact⟨.ref _,_,I.lnew (t':=s.toks) (r.append r2) (by rw[List.length_append];omega),rfl,q _ I.fresh⟩
theorem len_rep {α:Type}(xs:List α)(k:Nat):(List.replicate k xs).flatten.length=k* xs.length:=by
 induction k with
 | zero=>simp
 | succ k ih=>rw[List.replicate_succ,List.flatten_cons,List.length_append,ih,Nat.succ_mul,Nat.add_comm]
end
section
variable {prog:Program} {w:World} {A:Around} {E:Value->Shared->Prop} {s:Shared}
end
section
variable {X:Cx}
end
end L2
namespace Att
open PySem PySem.W PySem.Calls PyProof.Rows
theorem ints_of_wellAll {P:Params}{h:Heap}:∀(ns:List Int) (vs:List Value),WellAll P h vs (ns.map WData.int)->IntsAre vs ns:=by
 intro ns
 induction ns with
 | nil=>
   intro vs w
   rw[List.map_nil] at w
   cases w
   exact .nil
 | cons n ns ih=>
   intro vs w
   rw[List.map_cons] at w
   cases w with
   | cons a b=>
     cases a
     exact .cons _ _ (ih _ b)
theorem script_of {l:OpenLaw}{n:Nat}(hn:l.most=some n){P:Params}{h:Heap}{args:List WData}{vals:List Value}
 (hpre:l.row.toRowW.claim.pre args=true) (hwl:WellAll P h vals args):
 ∃ a vs ns,vals=[Value.ref a]/\args=[WData.list (ns.map WData.int)]/\h.get? a=some { cls:=.type "list",data:=.seq vs.toArray }/\IntsAre vs ns/\ns.length<=n:=by
 have hsh:WShape.hasAll [] args [.list .int]=true:=(pre_splitW hpre).1
 have hc:l.pre.holds [] { args:=args }=true:=(pre_splitW hpre).2
 obtain⟨d,r,rfl,h1,h2⟩:=hasAllW_cons hsh
 obtain rfl:=hasAllW_nil h2
 obtain⟨xs,rfl,h3⟩:=hasW_list h1
 obtain⟨ns,rfl⟩:=items_int h3
 have hlen:ns.length<=n:=by
  unfold OpenLaw.pre at hc
  have h4:(WTm.not (.lt (.lit (.int (n:Int))) (.len (.arg 0)))).holds [] { args:=[.list (ns.map .int)] }=true:=by
   have h4:=(holds_andW hc).1
   rw[hn] at h4
   exact h4
  have h5:=condW_of h4 (w_not (w_lt w_lit (w_len_list (w_arg rfl))))
  rw[List.length_map] at h5
  refine Nat.le_of_not_lt fun q=>?_
  have q':(n:Int) < ((ns.length:Nat):Int):=by omega
  first
   | (rw[decide_eq_true q'] at h5;exact absurd h5 (by decide))
   | (simp at h5;omega)
 cases hwl with
 | cons w1 w2=>
   cases w2
   cases w1 with
   | list ho hall=>exact⟨_,_,ns,rfl,rfl,ho,ints_of_wellAll ns _ hall,hlen⟩
theorem post_true (l:OpenLaw)(args:List WData):l.row.toRowW.claim.post args (.bool true) args=true:=
 postW_of (r:=l.row.toRowW) (X:=(true==true))
  (show WShape.has [] (.bool true) .bool=true by first | rfl | decide | simp[WShape.has,WShape.arms,WShape.armsAll])
  (show (WTm.eq .res (.lit (.bool true))).value [] { args:=args,res:=some (.bool true),after:=args }=some (.bool (true==true)) from w_eq_bool (w_res rfl) w_lit) rfl
theorem attach_call {l:OpenLaw}{n:Nat}{q:Program}{loose:List Str}{XP:(Str->Option Value)->Heap->Prop}{YP:World->Heap->Prop}{d:DefRec}
 (hn:l.most=some n) (hdf:d.params.defaults=[])
 (call:∀(w:World) (s₀ s₁:Shared) (mg mb:Str->Option Value) (fa:Addr) (o:Obj) (pm cd doc:Value) (a:Addr) (vs:List Value) (ns:List Int),
  Ground q loose [] XP w s₀ mg mb s₁.heap->YP w s₁.heap->
  s₁.heap.get? fa=some o->o.data=.func (docDef d.name d.params d.body d.scope pm cd doc)->s₁.heap.CodeRec cd d.name->mg d.name=some (.ref fa)->
  s₁.heap.get? a=some { cls:=.type "list",data:=.seq vs.toArray }->IntsAre vs ns->ns.length<=n->s₁.gens=#[]->
  codeAny (model l.prog w) callerA (.call (.ref fa) ⟨[.ref a],[]⟩) (fun r s'=>r=.ok (.ret (.bool true))/\OldK s₁.heap s'.heap/\s'.os=s₁.os/\AllBare s'.gens) s₁):
 WalkO q loose XP YP l.row.toRowW d [] (fun f vs=>PySem.call f vs):=by
 intro w s₀ s₁ mg mb G Y fa o pm cd doc dV kV ho hd hcd hD hmg hg args vals as hpre hlay hrd hwl hlo
 obtain rfl:dV=.none:=Dflts.none hD hdf
 obtain rfl:kV=.none:=Dflts.noKw hD
 obtain⟨a,vs,ns,rfl,rfl,hobj,hints,hlen⟩:=script_of hn hpre hwl
 refine enter_call (codeAny_mono (call w s₀ s₁ mg mb fa o pm cd doc a vs ns G Y ho (fd_plain hd) hcd hmg hobj hints hlen hg) fun r s' hq=>?_)
 obtain⟨rfl,h2,h3,h4⟩:=hq
 exact⟨.inl ⟨.bool true,.bool true,[],rfl,fun _=>rfl,.bool true,post_true l _,fun _=>⟨List.Pairwise.nil,fun _ hm=>(nomatch hm)⟩⟩,h2,h3,h4⟩
section
variable {prog:Program} {w:World} {A:Around} {E:Value->Shared->Prop} {s:Shared} {K:Frag}
end
end Att
namespace L2
open PySem PySem.Spec PyProof.Rows
theorem vals_ints:∀{vs:List Value} {ns:List Int},IntsAre vs ns->Vals (ns.map V.int) vs
 | _,_,.nil=>.nil
 | _,_,.cons n t h=>.cons ⟨t,rfl⟩ (vals_ints h)
def Only (H:Hp):Prop:=∀ b,H b=none\/∃ o xs,H b=some (.frz o (.lst xs))
theorem law_call {P:Program}{w:World}{K:PySem.W.Frag}{mg mb:Str->Option Value}{CX:CXT}{k:Nat}{fa a:Addr}{fd:FuncData}{x:Str}{sp:Sp}{s₁:Shared}{vs:List Value}{ns:List Int}
 (KX:K.In s₁.heap) (hns:s₁.heap.Ns mainGlobals mg) (hb:s₁.heap.Ns builtinsNs mb) (hbb:∀ x:Str,x≠"__name__"->mb x=bootBuiltins x) (hlim:s₁.heap.NoLimit) (hg:s₁.gens=#[])
 (ha:s₁.heap.get? a=some { cls:=.type "list",data:=.seq vs.toArray }) (hi:IntsAre vs ns) (hl:ns.length<=sizeLine) (hr:Room k callerA)
 (F:∀ base:Heap,K.In base->base.Ns mainGlobals mg->FnOk P w K mg base CX k fa fd [x] sp) (hbind:∀(s:Shared) (u:Value),BindsTo s fd ⟨[u],[]⟩ [(x,u)])
 (hsp:∀ H:Hp,Only H->SqL K H a (ns.map V.int)->sp [.ref a] H (fun v _=>v=.bl true) fun _ _ _=>False)
 (hCX:∀ H e s',CX [] H s₁ (fun _ _ _=>False) e s'->False):
 codeAny (model P w) callerA (.call (.ref fa) ⟨[.ref a],[]⟩) (fun r s'=>r=.ok (.ret (.bool true))/\OldK s₁.heap s'.heap/\s'.os=s₁.os/\AllBare s'.gens) s₁:=by
 have rv:=vals_ints hi
 have lenV:=hi.length
 -- from an abstract heap in which nothing but the script may be tracked
 have core:∀ H:Hp,Only H->SqL K H a (ns.map V.int)->HOk P w H s₁.heap->(∀ b,H b≠none->b=a)->(H a≠none->K.lookup a=none)->
  codeAny (model P w) callerA (.call (.ref fa) ⟨[.ref a],[]⟩) (fun r s'=>r=.ok (.ret (.bool true))/\OldK s₁.heap s'.heap/\s'.os=s₁.os/\AllBare s'.gens) s₁:=by
  intro H hO hS hok hA hK
  have base_of:∀{b:Addr} {o:Obj},s₁.heap.get? b=some o->H b=none->(hidT s₁.heap H).get? b=some o:=fun e n=>hidT_get e n
  have noA:∀{b:Addr} {o:Obj} {es:Array DictEntry} {ep:Nat},s₁.heap.get? b=some o->o.data=.dict es ep->H b=none:=fun{b o es ep} e d=>by
   cases q:H b with
   | none=>rfl
   | some u=>
     have e':b=a:=hA b (by rw[q];simp)
     subst e'
     rw[ha] at e;cases e
     have d':Data.seq vs.toArray _=Data.dict es ep:=d
     cases d'
  have nsK:∀{b:Addr} {m:Str->Option Value},s₁.heap.Ns b m->(hidT s₁.heap H).Ns b m:=fun{b m} ⟨o,es,ep,e,d,r⟩=>⟨o,es,ep,base_of e (noA e d),d,r⟩
  have hKb:K.In (hidT s₁.heap H):=fun b o e=>base_of (KX b o e) (by
   cases q:H b with
   | none=>rfl
   | some u=>
     have e':b=a:=hA b (by rw[q];simp)
     subst e'
     rw[hK (by rw[q];simp)] at e;cases e)
  have hM:Mod K mg (hidT s₁.heap H):=⟨hKb,nsK hns,⟨mb,nsK hb,hbb⟩,let ⟨mc,h1,h2⟩:=hlim;⟨mc,nsK h1,h2⟩⟩
  have e0:Env0 P w K mg (hidT s₁.heap H) callerA [] s₁ H:=⟨rfl,hM,fun b o e=>of_hidT e,Nat.le_of_eq (hidT_size _ _),trivial,fun b hb=>absurd (show b∈([]:List Addr) from hb) (by simp),hok,.of_eq hg⟩
  refine codeAny_mono ((F _ hKb (nsK hns)).run callerA [] s₁ H ⟨[.ref a],[]⟩ [.ref a] [.ref a] _ _ hr e0 (hbind s₁ (.ref a)) (.cons rfl .nil) (hsp H hO hS)) fun r s' h=>?_
  cases r with
  | error e=>exact(hCX H e s' h).elim
  | ok fl=>
    cases fl with
    | next=>exact False.elim h
    | brk=>exact False.elim h
    | cont=>exact False.elim h
    | ret u=>
      obtain⟨v,H',os,bare,un,hok',r',q⟩:=h
      have q':v=.bl true:=q
      subst q'
      obtain rfl:u=Value.bool true:=r'
      refine⟨rfl,OldK.of_keep fun b o e=>?_,os,bare⟩
      cases q:H b with
      | none=>exact un.keep b o e q (by intro z;exact absurd (show b∈([]:List Addr) from z) (by simp)) (by simp)
      | some u=>
        rcases hO b with z | ⟨ob,xs,z⟩
        ·rw[q] at z;cases z
        ·have z2:=un.frzs b ob _ z
         obtain⟨e1,_⟩:=hok b _ z
         obtain⟨e2,_⟩:=hok' b _ z2
         rw[e] at e1;cases e1
         exact e2
 cases hk:K.lookup a with
 | some o=>
   -- the script is one of the module's own objects
   have e:=KX a o hk
   rw[ha] at e
   cases e
   refine core (fun _=>none) (fun _=>.inl rfl) (.inr ⟨_,vs.toArray,_,hk,rfl,rfl,rfl,by rw[List.size_toArray,lenV];exact hl,by simpa using rv⟩) (fun b u z=>by have z':(none:Option HO)=some u:=z;cases z') (fun b z=>absurd rfl z) fun z=>absurd rfl z
 | none=>
   refine core (fun b=>if b=a then some (.frz { cls:=.type "list",data:=.seq vs.toArray } (.lst (ns.map V.int))) else none) (fun b=>?_) (.inl (.inr ⟨{ cls:=.type "list",data:=.seq vs.toArray },if_pos rfl⟩)) (fun b u z=>?_) (fun b z=>?_) fun _=>hk
   ·by_cases hb:b=a
    ·exact .inr ⟨_,_,if_pos hb⟩
    ·exact .inl (if_neg hb)
   ·by_cases hb:b=a
    ·have z':=(if_pos hb).symm.trans z
     cases z'
     subst hb
     exact⟨ha,by rw[List.length_map];exact hl,vs,_,rv,ha⟩
    ·have z':=(if_neg hb).symm.trans z
     cases z'
   ·by_cases hb:b=a
    ·exact hb
    ·exact absurd (if_neg hb) z
end L2
namespace L2
open PySem PySem.Spec PyProof.Rows
theorem walk_of {l:PySem.W.OpenLaw}{n k:Nat}{q:Program}{loose:List Str}{XP:(Str->Option Value)->Heap->Prop}{YP:World->Heap->Prop}{d:DefRec}{K:Params->PySem.W.Frag}{CX:World->CXT}{sp:World->Sp}{x:Str}
 (hn:l.most=some n) (hn2:n<=sizeLine) (hdf:d.params.defaults=[]) (hr:Room k callerA)
 (hY:∀(w:World) (h:Heap),YP w h->(K w.params).In h)
 (F:∀(w:World) (mg:Str->Option Value) (fa:Addr) (h:Heap),(K w.params).In h->h.Ns mainGlobals mg->mg d.name=some (.ref fa)->
  ∃ fd:FuncData,(∀(s:Shared) (u:Value),BindsTo s fd ⟨[u],[]⟩ [(x,u)])/\
    ∀ base:Heap,(K w.params).In base->base.Ns mainGlobals mg->FnOk l.prog w (K w.params) mg base (CX w) k fa fd [x] (sp w))
 (hsp:∀(w:World) (H:Hp) (a:Addr) (ns:List Int),ns.length<=n->Only H->SqL (K w.params) H a (ns.map V.int)->sp w [.ref a] H (fun v _=>v=.bl true) fun _ _ _=>False)
 (hCX:∀(w:World) (H:Hp) (s:Shared) (e:Value) (s':Shared),CX w [] H s (fun _ _ _=>False) e s'->False):
 PySem.W.WalkO q loose XP YP l.row.toRowW d [] (fun f vs=>PySem.call f vs):=by
 refine Att.attach_call hn hdf fun w s₀ s₁ mg mb fa o pm cd doc a vs ns G Y ho hd hcd hmg hobj hints hlen hg=>?_
 have KX:=hY w _ Y
 obtain⟨fd,hb,hF⟩:=F w mg fa _ KX G.T.g hmg
 exact law_call KX G.T.g G.T.b G.T.builtins G.T.nolimit hg hobj hints (Nat.le_trans hlen hn2) hr hF hb (fun H hO hS=>hsp w H a ns hlen hO hS) fun H e s'=>hCX w H s₁ e s'
end L2
namespace L2
open PySem PySem.Spec PyProof.Rows
def inClass (s:Stmt)(j:Nat):Stmt:=match s with
 | .ClassDef _ _ _ body _ _ _ _ _ _ _=>body.getD j (.Pass ⟨0,0,0,0⟩)
 | _=>.Pass ⟨0,0,0,0⟩
def defArgs (s:Stmt):Arguments:=match s with
 | .FunctionDef _ a _ _ _ _ _ _ _ _=>a
 | _=>{ posonlyargs:=[],args:=[],vararg:=none,kwonlyargs:=[],kw_defaults:=[],kwarg:=none,defaults:=[] }
def defBody (s:Stmt):List Stmt:=match s with
 | .FunctionDef _ _ b _ _ _ _ _ _ _=>b
 | _=>[]
def defScope (s:Stmt):Scope:=match s with
 | .FunctionDef _ _ _ _ _ _ sc _ _ _=>sc
 | _=>{ kind:=.function,names:=[],isGenerator:=false,isCoroutine:=false }
abbrev CX0:CXT:=fun _ _ _ _ _ _=>False
abbrev E0:XK:=fun _ _ _=>False
theorem pass0 {X:Cx}:Passes CX0 X E0:=fun _ _ _ _ _ _ _ h=>h.elim
structure Fun (K:PySem.W.Frag) (x qual:Str) (st:Stmt) (f:Addr) (fd:FuncData):Prop where
 ex:∃(oc:Value) (od:Option Addr) (kV doc pm:Value) (an:Option Addr) (cdv ct:Value) (osl:Array (Option Value)),
  fd=PySem.W.fnOf x qual (defArgs st) (defBody st) (defScope st) .none kV doc pm an cdv ct/\K.lookup f=some ⟨oc,od,.func fd,osl⟩/\PySem.W.codeIn K cdv qual=true
 kp:PySem.W.keepIn K (.ref f)=true
section
variable {P:Program} {w:World} {K:PySem.W.Frag} {mg:Str->Option Value} {base:Heap}
theorem Fun.ok {x qual:Str}{st:Stmt}{f:Addr}{fd:FuncData}{N ps:List Str}{k:Nat}{sp:Sp}(F:Fun K x qual st f fd)(S:FnScope N ps (defScope st))(len:∀ vs H Q E,sp vs H Q E->vs.length=ps.length)
 (hbody:∀(cdv:Value) (A:Around) (outer:List Env) (s:Shared) (H:Hp) (vs:List V) (Q:VK) (E:XK),Room k (A.deeper (envOfC qual (defScope st) s.heap.objs.size f cdv))->sp vs H Q E->
  ∃ t,PSs (cxOf CX0 P w K mg base N qual (defScope st) f cdv A outer s H E).nox (defBody st) t/\t { nx:=fun _ H'=>Q .non H',rt:=Q } (start N vs) H):FnOk P w K mg base CX0 (k+ 1) f fd ps sp:=by
 obtain⟨oc,od,kV,doc,pm,an,cdv,ct,osl,rfl,lk,hcd⟩:=F.ex
 refine fn_of lk hcd S len fun A outer s H vs Q E hr hsp=>?_
 obtain⟨t,h,q⟩:=hbody cdv A outer s H vs Q E hr hsp
 exact⟨t,h.nox,q⟩
theorem Fun.binds {x qual:Str}{st:Stmt}{f:Addr}{fd:FuncData}{ps:List Str}(F:Fun K x qual st f fd)
 (h:∀(kV doc pm:Value) (an:Option Addr) (cdv ct:Value) (us:List Value),us.length=ps.length->bindArgs (PySem.W.fnOf x qual (defArgs st) (defBody st) (defScope st) .none kV doc pm an cdv ct) ⟨us,[]⟩=pure (ps.zip us)):Binds K fd ps []:=by
 obtain⟨oc,od,kV,doc,pm,an,cdv,ct,osl,rfl,lk,hcd⟩:=F.ex
 exact .all (h kV doc pm an cdv ct)
theorem fun_mk {x qual:Str}{st:Stmt}{f:Addr}{oc:Value}{od an:Option Addr}{osl:Array (Option Value)}{kV doc pm cdv ct:Value}(l:K.lookup f=some ⟨oc,od,.func (PySem.W.fnOf x qual (defArgs st) (defBody st) (defScope st) .none kV doc pm an cdv ct),osl⟩)
 (c:PySem.W.codeIn K cdv qual=true) (k:PySem.W.keepIn K (.ref f)=true):Fun K x qual st f (PySem.W.fnOf x qual (defArgs st) (defBody st) (defScope st) .none kV doc pm an cdv ct):=⟨⟨oc,od,kV,doc,pm,an,cdv,ct,osl,rfl,l,c⟩,k⟩
end
theorem hu_of {A:Around}{k:Nat}(hr:Room k A):A.units+ 1 < cLine:=Nat.lt_of_le_of_lt (Nat.add_le_add_left (by decide:1<=64) _) hr.units
section
variable {X:Cx}
theorem pv (i:Nat){x:Str}{pos:Pos}(hN:X.N[i]?=some x:=by rfl)(hv:Vis X.env.scope x:=by first | exact Or.inl rfl | exact Or.inr (Or.inl rfl) | exact Or.inr (Or.inr rfl))(hd:(x==("__debug__":Str))=false:=by decide)
 (hcd:(x==("__classdict__":Str))=false:=by decide):PE X (.Name x pos) (tVar i):=pe_var hN hv hd hcd
end
theorem iteF {A B:Prop}(h:B):if false=true then A else B:=by
 rw[if_neg Bool.false_ne_true]
 exact h
theorem iteT {A B:Prop}(h:A):if true=true then A else B:=by
 rw[if_pos rfl]
 exact h
theorem ite2 {c A B:Prop} [Decidable c](h1:c->A)(h2:¬ c->B):if c then A else B:=by
 by_cases h:c
 ·rw[if_pos h]
  exact h1 h
 ·rw[if_neg h]
  exact h2 h
theorem iteNS {c A B:Prop} [Decidable c](hc:c)(h:B):if (!decide c)=true then A else B:=by
 rw[decide_eq_true hc]
 exact iteF h
def Same (H H':Hp):Prop:=∀ b o,H b=some o->H' b=some o
theorem Same.refl (H:Hp):Same H H:=fun _ _ h=>h
theorem Same.trans {H H1 H2:Hp}(a:Same H H1)(b:Same H1 H2):Same H H2:=fun c o h=>b c o (a c o h)
theorem Same.free {H H':Hp}(e:Same H H'){l:Addr}(h:H' l=Option.none):H l=Option.none:=by
 cases q:H l with
 | none=>rfl
 | some o=>
   rw[e l o q] at h
   cases h
theorem Same.seq {K:PySem.W.Frag}{H H':Hp}{a:Addr}{xs:List V}(e:Same H H')(h:SqL K H a xs):SqL K H' a xs:=by
 rcases h with (h | ⟨o,h⟩) | h
 ·exact .inl (.inl (e _ _ h))
 ·exact .inl (.inr ⟨o,e _ _ h⟩)
 ·exact .inr h
end L2
set_option Elab.async false
set_option linter.all false
set_option maxRecDepth 100000
set_option maxHeartbeats 4000000
namespace L2
open PySem PySem.Spec PyProof.Rows
section
variable {prog:Program} {w:World} {A:Around} {R:Result->Shared->Prop} {s:Shared}
theorem compLoop_go {elt target iter:Expr}{scope:Scope}{pos:Pos}{it acc:Value}{env:Env}(I:Nat->Shared->Prop)
 (turn:∀ n s,I n s->wpAny (model prog w) A (pyNext it) (fun r s₁=>match r with
  | none=>R (.ok .next) s₁
  | some v=>wpAny (model prog w) A (letOwnedTupleGo target it v) (fun _ s₀=>wpAny (model prog w) A (assign target env v) (fun _ s₂=>wpAny (model prog w) A (eval elt env) (fun x s₃=>
   wpAny (model prog w) A (call (.builtin "list.append") [acc,x]) (fun _ s₄=>∃ m,m < n/\I m s₄) (fun _ _=>False) s₃) (fun _ _=>False) s₂) (fun _ _=>False) s₀) (fun _ _=>False) s₁) (fun _ _=>False) s)
 (n:Nat) (h:I n s):codeAny (model prog w) A (.compLoop (.ListComp elt [⟨target,iter,[],0⟩] scope pos) 0 it acc env) R s:=by
 refine codeAny_loop rfl I (fun n s hI=>?_) n h
 show wpAny _ _ ((compTurn (.ListComp elt [⟨target,iter,[],0⟩] scope pos) 0 it acc env).onRaise (fun x=>do noteFrame x env;theTreesLotGoes x)) _ _ s
 refine wpAny_noted ?_
 rw[compTurn_list1]
 refine wpAny_bind (wpAny_standAt (wpAny_bind (wpAny_mono (turn n s hI) (fun r s₁ h₁=>?_) fun _ _ h'=>h'.elim)))
 cases r with
 | none=>exact wpAny_pure h₁
 | some v=>
   refine wpAny_bind (wpAny_mono h₁ (fun _ s₀ h₀=>?_) fun _ _ h'=>h'.elim)
   exact wpAny_bind (wpAny_mono h₀ (fun _ s₂ h₂=>wpAny_bind (wpAny_bind (wpAny_mono h₂ (fun x s₃ h₃=>wpAny_bind (wpAny_mono h₃
    (fun _ s₄ h₄=>wpAny_pure (wpAny_pure ⟨rfl,h₄⟩)) fun _ _ h'=>h'.elim)) fun _ _ h'=>h'.elim))) fun _ _ h'=>h'.elim)
end
def cxComp (X:Cx)(Nc:List Str)(scope:Scope)(cl:List (Str×Addr))(C:Addr)(s:Shared)(H:Hp)(ex:List Addr):Cx where
 prog:=X.prog
 w:=X.w
 K:=X.K
 mg:=X.mg
 base:=X.base
 A:=X.A
 N:=Nc
 s₀:=s
 H₀:=H
 env:=compEnvC scope cl C X.env
 outer:=X.stack
 stack:=X.stack
 ex:=ex
 fn:=fun _=>false
 calm:=X.calm
 pn:=[]
 xe:=fun _ _=>False
def CompGo (te:TE)(fv:St)(Q:VK)(J:It)(H1:Hp):Prop:=∃ W:Nat->Nat->List V->Hp->Prop,(∃ m,W 0 m [] H1)/\∀ i m ys H2,W i m ys H2->
 (J.stop i H2/\ys.length<=sizeLine/\∀ D,H2 D=none->Q (.ref D) (upd H2 D (.lst ys)))\/
 (J.go i H2/\ys.length < sizeLine/\∀ x H3,J.yld i H2 x H3->te (some x :: fv) H3 fun y H4=>∃ m',m' < m/\W (i+ 1) m' (ys++[y]) H4)
def tComp (wi:TI)(fv:St->St)(te:TE):TE:=fun σ H Q=>wi σ H (CompGo te (fv σ) Q)
structure CompScope (X:Cx) (x:Str) (fns:List Str) (ixs:List Nat) (scope:Scope) (cl:List (Str×Addr)):Prop where
 clos:closureFor scope X.env=pure cl
 sub:∀ y c,cl.lookup y=some c->X.env.cells.lookup y=some c
 cell:∀ y∈scope.names,y.2≠.cell
 kind:scope.kind=.function
 names:∀ y∈scope.names,y.2=.local->scope.names.lookup y.1=some .local
 own:scope.names.lookup x=some .local
 has:∀ y,((relabel scope X.env).names.lookup y=some .cell\/(relabel scope X.env).names.lookup y=some .free)->∃ c,cl.lookup y=some c
 nd:(x :: fns).Nodup
 len:ixs.length=fns.length
 at_:∀(j:Nat) (y:Str),fns[j]?=some y->∃ i:Nat,ixs[j]?=some i/\X.N[i]?=some y/\(X.env.kindOf y=some .cell\/X.env.kindOf y=some .free)/\∃ c,cl.lookup y=some c/\((relabel scope X.env).names.lookup y=some .cell\/(relabel scope X.env).names.lookup y=some .free)
def fvOf (ixs:List Nat):St->St:=fun σ=>ixs.map fun i=>(σ[i]?).join
section
variable {X:Cx} {elt iter:Expr} {x:Str} {px pos:Pos} {scope:Scope} {cl:List (Str×Addr)} {fns:List Str} {ixs:List Nat} {wi:TI} {te:TE}
theorem relabel_own (hx:scope.names.lookup x=some .local):(relabel scope X.env).names.lookup x=some .local:=lookup_relabel_local hx
theorem pe_comp (hc:X.calm=true)(hi:PI X (.Name x px) iter wi)(S:CompScope X x fns ixs scope cl)
 (he:∀(C:Addr) (s:Shared) (H:Hp) (ex:List Addr),PE (cxComp X (x :: fns) scope cl C s H ex) elt te)
 (hs:∀ x,foldedSetIterable iter X.env x=pure x:=by intro _;rfl):
 PE X (.ListComp elt [⟨.Name x px,iter,[],0⟩] scope pos) (tComp wi (fvOf ixs) te):=by
 intro pins s σ H Q I h
 rw[eval_ListComp]
 refine wpAny_comprehension_free (use:=none) rfl hs S.clos S.kind S.names (thn (hi pins s σ H _ I h) fun v s1 h1=>thn h1 fun itv s2 h2=>?_)
 obtain⟨it,fp,tn,J,H2,e,I2,T,st2,f2,W,⟨m0,w0⟩,turn⟩:=h2
 subst e
 have hfpLt:∀ b∈fp,b < s2.heap.objs.size:=fun b hb=>by
  obtain⟨o,ho,_⟩:=T.obj _ _ st2 b hb
  exact Heap.lt_size ho
 refine wpAny_newObj_type (wpAny_newFunctionEnv S.cell (by intro y hy;simp at hy) (fun h₁ hns₁ hsb₁=>?_) S.kind)
 dsimp only at hns₁ hsb₁ ⊢
 generalize hH3:s2.heap.push { cls:=.type "list",dict:=none,data:=.seq ([]:List Value).toArray }=hp3 at hns₁ hsb₁ ⊢
 generalize hD:s2.heap.objs.size=D at hfpLt ⊢
 have hC:hp3.objs.size=D+ 1:=by rw[← hH3,Heap.size_push,hD]
 generalize hCe:hp3.objs.size=C at hC hns₁ hsb₁ ⊢
 have hDltC:D < C:=by omega
 have hDC:D≠C:=Nat.ne_of_lt hDltC
 have k23:∀ b u,s2.heap.get? b=some u->hp3.get? b=some u:=fun b u q=>by rw[← hH3];exact Heap.get?_push_of_some _ q
 have ltD:∀{b u},s2.heap.get? b=some u->b < D:=fun q=>by rw[← hD];exact Heap.lt_size q
 have k34:∀ b u,hp3.get? b=some u->h₁.get? b=some u:=fun b u q=>
  hsb₁.extBut b u (Nat.ne_of_lt (Nat.lt_of_lt_of_le (Heap.lt_size q) (Nat.le_of_eq hCe))) (Heap.get?_push_of_some _ q)
 have hDo:hp3.get? D=some { cls:=.type "list",dict:=none,data:=.seq ([]:List Value).toArray }:=by rw[← hH3,← hD];exact Heap.get?_push_size _ rfl
 have I3:Inv X pins σ H2 { s2 with heap:=hp3 }:=I2.kept (t':=s2.toks) k23
 have hnD:H2 D=none:=I2.hok.fresh (by omega)
 have hnC:H2 C=none:=I2.hok.fresh (by omega)
 have nstk:∀ b∈D :: fp,b∉frs X.stack:=fun b hb z=>by
  rcases List.mem_cons.mp (I2.stkSub b z) with e | z
  ·rcases List.mem_cons.mp hb with e2 | hb
   ·exact absurd I2.lt (by rw[← e,e2,← hD];exact Nat.lt_irrefl _)
   ·exact(f2 b hb).2.1 e
  ·rcases List.mem_cons.mp hb with e2 | hb
   ·exact I2.nofs (by rw[e2,← hD];exact Nat.le_refl _) z
   ·exact(f2 b hb).2.2.1 z
 have cne:∀ y c,cl.lookup y=some c->∀ b∈D :: fp,c≠b:=fun y c q b hb z=>by
  obtain⟨v,hv⟩:=I2.cell y c (S.sub y c q)
  rcases List.mem_cons.mp hb with e2 | hb
  ·exact absurd hv.lt (by rw[z,e2,← hD];exact Nat.lt_irrefl _)
  ·exact(f2 b hb).2.2.2.2.1 y c (S.sub y c q) z
 -- the block's context
 let Xc:Cx:=cxComp X (x :: fns) scope cl C { s2 with heap:=hp3 } H2 (D :: fp)
 have ok:Xc.Ok:={
  mod:=I2.ok.mod
  kind:=S.kind
  glob:=I2.ok.glob
  blt:=I2.ok.blt
  above:=by show hp3.objs.size<=C;omega
  inj:=fun y z c q1 q2=>I2.ok.inj y z c (S.sub _ _ q1) (S.sub _ _ q2)
  has:=S.has
  cab:=fun y c q=>nomatch q
  hd:=I2.ok.hd
  frames:=I2.ok.frames
  stk:=.inl rfl
  exf:=fun b hb=>⟨by
   rcases List.mem_cons.mp hb with e2 | hb
   ·rw[e2];exact hDC
   ·exact Nat.ne_of_lt (Nat.lt_trans (hfpLt b hb) hDltC),fun y c q=>cne y c q b hb⟩
  bs:=I3.bs
  bsz:=Nat.le_trans I3.ok.bsz I3.sz
  noex:=fun b o q hb=>by
   rcases List.mem_cons.mp hb with e2 | hb
   ·exact absurd (ltD (I2.bs b o q).1) (by rw[e2];exact Nat.lt_irrefl _)
   ·rcases (f2 b hb).2.2.2.1 with z | z
    ·exact I2.ok.noex b o q z
    ·exact absurd (Heap.lt_size (I2.ok.bs b o q).1) (Nat.not_lt.mpr z)
  exfs:=nstk
  funs:=I3.stack
  frf:=I3.stkFree }
 have start:∀(v0:Option V),v0=none->Inv Xc [(D,{ cls:=.type "list",dict:=none,data:=.seq ([]:List Value).toArray })] (v0 :: fvOf ixs σ) H2 { s2 with heap:=h₁,toks:=s2.toks+ ([]:List (Str×Value)).length }:=fun v0 hv0=>{
  ok:=ok
  os:=rfl
  bare:=I2.bare
  base:=Un.kept k34
  loc:=⟨_,hns₁,fun i y v e1 e2 e3=>by
   cases i with
   | zero=>rw[hv0] at e2;cases e2
   | succ j=>
     have e1':fns[j]?=some y:=e1
     have e2':(fvOf ixs σ)[j]?=some (some v):=e2
     obtain⟨i,hi1,hi2,hk,c,hc1,hc2⟩:=S.at_ j y e1'
     unfold fvOf at e2'
     rw[List.getElem?_map,hi1] at e2'
     have e3':σ[i]?=some (some v):=by
      have z:(σ[i]?).join=some v:=Option.some.inj e2'
      cases q:σ[i]? with
      | none=>rw[q] at z;cases z
      | some o=>rw[q] at z;rw[show o=some v from z]
     obtain⟨m,_,hl⟩:=I2.loc
     obtain⟨u,r,l⟩:=hl i y v hi2 e3' (hk.elim (fun z=>.inr (.inl z)) fun z=>.inr (.inr z))
     refine⟨u,r,.inr ⟨hc2,c,hc1,?_⟩⟩
     rcases l with ⟨z,_⟩ | ⟨_,c',hc',hcell⟩
     ·rcases hk with hk | hk <;> (rw[hk] at z;cases z)
     ·have:c'=c:=Option.some.inj (hc'.symm.trans (S.sub _ _ hc1))
      subst this
      obtain⟨o,ho,hd⟩:=hcell
      exact⟨o,k34 _ _ (k23 _ _ ho),hd⟩⟩
  cell:=fun y c q=>by
   obtain⟨v,o,ho,hd⟩:=I2.cell y c (S.sub y c q)
   exact⟨v,o,k34 _ _ (k23 _ _ ho),hd⟩
  free:=hnC
  freeC:=fun y c q=>I2.freeC y c (S.sub y c q)
  pin:=fun p hp=>by
   have hp':p=(D,{ cls:=.type "list",dict:=none,data:=.seq ([]:List Value).toArray }):=by simpa [Xc,cxComp] using hp
   subst hp'
   exact⟨k34 _ _ hDo,hnD,hDC,nstk D (List.mem_cons_self ..),fun v z=>nomatch z⟩
  hok:=(I2.hok.kept k23).kept k34
  len:=by show (v0 :: fvOf ixs σ).length=(x :: fns).length;simp[fvOf,S.len] }
 -- what stays true of the iterator's objects
 have fpc:∀{H':Hp} {pins':List (Addr×Obj)},(∀ b∈fp,H' b=none)->(∀ p∈pins',p.1=D)->∀ b∈fp,FpOk Xc pins' H' b:=fun{H' pins'} hn hp b hb=>
  ⟨hn b hb,Nat.ne_of_lt (Nat.lt_trans (hfpLt b hb) hDltC),nstk b (List.mem_cons_of_mem _ hb),.inl (List.mem_cons_of_mem _ hb),fun y c q=>cne y c q b (List.mem_cons_of_mem _ hb),fun p q=>by
   have q':p∈pins':=by simpa [Xc,cxComp] using q
   rw[hp p q']
   exact Nat.ne_of_gt (hfpLt b hb)⟩
 have loop:codeAny (model X.prog X.w) X.A (.compLoop (.ListComp elt [⟨.Name x px,iter,[],0⟩] scope pos) 0 (.ref it) (.ref D) (compEnvC scope cl C X.env))
  (compPost (model X.prog X.w) X.A X.xe none (EP X pins σ Q) (.ref D) C) { s2 with heap:=h₁,toks:=s2.toks+ ([]:List (Str×Value)).length }:=by
  refine compLoop_go (fun n s'=>∃(i:Nat) (ys:List V) (its:List Value) (nn:Nat) (v0:Option V) (H':Hp),Inv Xc [(D,{ cls:=.type "list",dict:=none,data:=.seq its.toArray nn })] (v0 :: fvOf ixs σ) H' s'/\tn i s'.heap/\(∀ b∈fp,H' b=none)/\Vals ys its/\W i n ys H') ?_ m0
   ⟨0,[],[],0,none,H2,start none rfl,T.keep _ _ _ st2 fun b _ o q=>k34 _ _ (k23 _ _ q),fun b hb=>(f2 b hb).1,.nil,w0⟩
  rintro n s3 ⟨i,ys,its,nn,v0,H3,J3,tn3,fr3,vv,w3⟩
  have pinD:∀ p∈([(D,({ cls:=.type "list",dict:=none,data:=.seq its.toArray nn }:Obj))]:List (Addr×Obj)),p.1=D:=fun p hp=>by
   have:p=(D,{ cls:=.type "list",dict:=none,data:=.seq its.toArray nn }):=by simpa using hp
   rw[this]
  rcases turn i n ys H3 w3 with ⟨stop,hlen,q⟩ | ⟨go,hlen,step⟩
  ·-- the end
   refine thn (T.done Xc rfl rfl rfl hc i _ s3 _ H3 _ J3 (fpc fr3 pinD) tn3 stop) fun r s4 ⟨hr,J4⟩=>?_
   subst hr
   obtain⟨m,hn,_⟩:=J4.loc
   refine⟨m,hn,fun h'' hsb=>?_⟩
   obtain⟨gD,nD,_,_,_⟩:=J4.pin (D,{ cls:=.type "list",dict:=none,data:=.seq its.toArray nn }) (by simp[Xc,cxComp])
   have B:=J4.base
   have kC:∀ b u,b≠C->s4.heap.get? b=some u->h''.get? b=some u:=fun b u hb q=>(hsb.2 b hb).trans q
   have ne:∀{b o},s2.heap.get? b=some o->b≠C/\b≠D:=fun q=>⟨Nat.ne_of_lt (Nat.lt_trans (ltD q) hDltC),Nat.ne_of_lt (ltD q)⟩
   have nex:∀{b o},s2.heap.get? b=some o->b∉fp->b∉D :: fp:=fun q hx z=>(List.mem_cons.mp z).elim (ne q).2 hx
   have uu:Un (frs X.stack) fp H2 (upd H3 D (.lst ys)) s2.heap h'':={
    keep:=fun b o q n hb hx=>kC b o (ne q).1 (B.keep b o (k23 b o q) n hb (nex q hx))
    slot:=fun b o q n hb hx=>by
     obtain⟨sl,e⟩:=B.slot b o (k23 b o q) n hb (nex q hx)
     exact⟨sl,kC b _ (ne q).1 e⟩
    free:=fun b o q n hx=>by rw[upd_ne (ne q).2];exact B.free b o (k23 b o q) n (nex q hx)
    there:=fun b o q hx=>by
     obtain⟨o',e⟩:=B.there b o (k23 b o q) (nex q hx)
     exact⟨o',kC b _ (ne q).1 e⟩
    tups:=fun b xs q=>by rw[upd_ne (ne_of_none q hnD)];exact B.tups b xs q
    frzs:=fun b o xs q=>by rw[upd_ne (ne_of_none q hnD)];exact B.frzs b o xs q
    tbls:=fun b ps q=>by
     obtain⟨more,e⟩:=B.tbls b ps q
     exact⟨more,by rw[upd_ne (ne_of_none q hnD)];exact e⟩ }
   have hok:HOk X.prog X.w (upd H3 D (.lst ys)) h'':=fun b u e=>by
    by_cases hb:b=D
    ·subst hb
     rw[upd_same] at e
     cases e
     exact⟨hlen,its,nn,vv,kC _ _ hDC gD⟩
    ·rw[upd_ne hb] at e
     refine(J4.hok b u e).stay (fun c v hc q=>kC c v ?_ q) (fun c q=>by rw[upd_ne (ne_of_none q nD)];exact q) fun c xs q=>by rw[upd_ne (ne_of_none q nD)];exact q
     have fC:H3 C=none:=J4.free
     rcases hc with rfl | hc
     ·exact ne_of_none e fC
     ·exact ne_of_none hc fC
   exact⟨.ref D,_,I2.call' (s':={ s4 with heap:=h'' }) J4.os uu hok J4.bare (fun b hb=>⟨(f2 b hb).2.2.2.1,(f2 b hb).2.1,(f2 b hb).2.2.2.2.1,(f2 b hb).2.2.2.2.2⟩),rfl,q D nD⟩
  ·-- a turn
   refine thn (T.item Xc rfl rfl rfl hc i _ s3 _ H3 _ J3 (fpc fr3 pinD) tn3 go) fun r s4 ⟨u,hr,h4⟩=>?_
   subst hr
   refine thn h4 fun _ s5 ⟨xv,H5,J5,r5,y5,tn5,fr5⟩=>?_
   have J5':=J5.pinned (fpc fr5 pinD) (T.obj _ _ tn5)
   have hg:PG Xc (.Name x px) (gName 0):=pg_name (X:=Xc) (i:=0) S.nd rfl (.inl (relabel_own S.own)) (.inr (relabel_own S.own))
   refine thn (hg _ s5 _ H5 xv u (fun σ' H'=>σ'=some xv :: fvOf ixs σ/\H'=H5) J5' r5 ⟨rfl,rfl⟩) fun _ s6 ⟨σ6,H6,J6,e6,e6'⟩=>?_
   subst e6 e6'
   refine thn (he C { s2 with heap:=hp3 } H2 (D :: fp) _ s6 _ H6 _ J6 (step xv H6 y5)) fun yv s7 ⟨y,H7,J7,r7,m',hm',w7⟩=>?_
   obtain⟨gD,nD,_,_,_⟩:=J7.pin (D,{ cls:=.type "list",dict:=none,data:=.seq its.toArray nn }) (by simp[Xc,cxComp])
   have tn7:tn (i+ 1) s7.heap:=T.keep _ _ _ tn5 fun b hb o e=>(J7.pin (b,o) (List.mem_append_right _ (List.mem_append_right _ (mem_pinsAt hb e)))).1
   have fr7:∀ b∈fp,H7 b=none:=fun b hb=>by
    obtain⟨o,e,d⟩:=T.obj _ _ tn5 b hb
    exact(J7.pin (b,o) (List.mem_append_right _ (List.mem_append_right _ (mem_pinsAt hb e)))).2.1
   have J7':Inv Xc [] (some xv :: fvOf ixs σ) H7 s7:=J7.pins_of fun p hp=>nomatch hp
   refine wpAny_list_append_plain (hsz:=by rw[List.size_toArray,← vv.length];omega) ⟨nn,gD⟩ fun h8 pl8 sb8=>?_
   obtain⟨n8,g8⟩:=pl8
   have J8:Inv Xc [] (some xv :: fvOf ixs σ) H7 { s7 with heap:=h8 }:=J7'.turned (t':=s7.toks) (it:=D) (fun b o hb e=>(sb8.2 b hb).trans e) nD (hDC) (.inl (List.mem_cons_self ..))
    (fun y c q=>cne y c q D (List.mem_cons_self ..)) (fun p hp=>by simp[Xc,cxComp] at hp)
   refine⟨m',hm',i+ 1,ys++[y],its++[yv],n8,some xv,H7,J8.pins_of fun p hp=>?_,?_,fr7,vv.append (.cons r7 .nil),w7⟩
   ·have:p=(D,{ cls:=.type "list",dict:=none,data:=.seq (its++[yv]).toArray n8 }):=by simpa using hp
    subst this
    refine⟨?_,nD,hDC,nstk D (List.mem_cons_self ..),fun v z=>nomatch z⟩
    have:its.toArray.push yv=(its++[yv]).toArray:=by simp
    rw[this] at g8
    exact g8
   ·exact T.keep _ _ _ tn7 fun b hb o e=>(sb8.2 b (Nat.ne_of_lt (hfpLt b hb))).trans e
 exact codeAny_compStart_list loop (T.self _ 0 _ _ _ (T.keep _ _ _ st2 fun b _ o q=>k34 _ _ (k23 _ _ q)) loop)
end
theorem compScope0 {X:Cx}{x:Str}{scope:Scope}(hf:∀ y∈scope.names,y.2≠.free)(hc:∀ y∈scope.names,y.2≠.cell)(hk:scope.kind=.function)
 (hn:∀ y∈scope.names,y.2=.local->scope.names.lookup y.1=some .local) (hx:scope.names.lookup x=some .local):CompScope X x [] [] scope [] where
 clos:=closureFor_none hf
 sub:=fun y c h=>nomatch h
 cell:=hc
 kind:=hk
 names:=hn
 own:=hx
 has:=fun y h=>by
  have e:(relabel scope X.env).names=scope.names:=by
   unfold relabel
   refine map_eq_self fun z hz=>?_
   obtain⟨n,k⟩:=z
   have:(k==NameKind.free)=false:=by simpa using hf _ hz
   simp[this]
  rw[e] at h
  rcases h with h | h
  ·exact absurd rfl (hc _ (PySem.mem_of_lookup h))
  ·exact absurd rfl (hf _ (PySem.mem_of_lookup h))
 nd:=by simp
 len:=rfl
 at_:=fun j y h=>by simp at h
theorem comp_pure {J:It}{H1:Hp}{fv:St}{te:TE}{Q:VK}(xs:List V)(g:V->V)(hgo:∀ i:Nat,i < xs.length->J.go i H1)(hy:∀(i:Nat) (x:V) (H3:Hp),i < xs.length->J.yld i H1 x H3->H3=H1/\xs[i]?=some x)
 (hst:J.stop xs.length H1) (hfit:xs.length<=sizeLine) (he:∀(i:Nat) (x:V),xs[i]?=some x->∀ R:VK,R (g x) H1->te (some x :: fv) H1 R) (hQ:∀ D,H1 D=none->Q (.ref D) (upd H1 D (.lst (xs.map g)))):
 CompGo te fv Q J H1:=by
 refine⟨fun i m ys H2=>m=xs.length - i/\i<=xs.length/\ys=(xs.take i).map g/\H2=H1,⟨xs.length,by simp,Nat.zero_le _,by simp,rfl⟩,?_⟩
 rintro i m ys H2 ⟨rfl,hi,rfl,rfl⟩
 by_cases hlt:i < xs.length
 ·refine .inr ⟨hgo i hlt,by rw[List.length_map,List.length_take];omega,fun x H3 hyl=>?_⟩
  obtain⟨e3,hx⟩:=hy i x H3 hlt hyl
  subst e3
  refine he i x hx _ ⟨xs.length - (i+ 1),by omega,rfl,hlt,?_,rfl⟩
  rw[List.take_succ,hx]
  simp
 ·have e:i=xs.length:=by omega
  subst e
  refine .inl ⟨hst,by rw[List.length_map,List.length_take];omega,fun D hD=>?_⟩
  rw[List.take_length]
  exact hQ D hD
theorem itt_go {K:PySem.W.Frag}{H:Hp}{a:Addr}{xs:List V}(h:SqT K H a xs):∀ i,i < xs.length->(Itt K a).go i H:=fun i hi=>⟨xs,xs[i],h,List.getElem?_eq_getElem hi⟩
theorem itt_yld {K:PySem.W.Frag}{H:Hp}{a:Addr}{xs:List V}(h:SqT K H a xs):∀ i x H3,i < xs.length->(Itt K a).yld i H x H3->H3=H/\xs[i]?=some x:=fun i x H3 _ y=>⟨y.1,y.2 xs h⟩
theorem itt_stop {K:PySem.W.Frag}{H:Hp}{a:Addr}{xs:List V}(h:SqT K H a xs):(Itt K a).stop xs.length H:=⟨xs,h,Nat.le_refl _⟩
def tCut (t:TS):TS:=fun D σ H=>∃ G:St->Hp->Prop,t { D with nx:=G } σ H/\∀ σ' H',G σ' H'->D.nx σ' H'
theorem ps_cut {X:Cx}{st:Stmt}{t:TS}(h:PS X st t):PS X st (tCut t):=by
 intro pins s σ H D I ⟨G,h1,h2⟩
 refine thn (h pins s σ H { D with nx:=G } I h1) fun f s' q=>?_
 cases f with
 | next=>obtain⟨σ',H',I',g⟩:=q;exact⟨σ',H',I',h2 σ' H' g⟩
 | _=>exact q
theorem relabel_mem {scope:Scope}{env:Env}{y:Str}{k:NameKind}(h:(relabel scope env).names.lookup y=some k)(hk:k=.cell\/k=.free)(hc:∀ z∈scope.names,z.2≠.cell):(y,NameKind.free)∈scope.names:=by
 have hm:=PySem.mem_of_lookup h
 unfold relabel at hm
 obtain⟨⟨n,k'⟩,hz,e⟩:=List.mem_map.mp hm
 dsimp only at e
 by_cases hf:(k'==NameKind.free && env.scope.kind==.function && env.kindOf n==some .cell)=true
 ·rw[if_pos hf] at e
  have e1:n=y:=congrArg Prod.fst e
  rw[Bool.and_eq_true,Bool.and_eq_true] at hf
  have e2:k'=.free:=eq_of_beq hf.1.1
  rw[← e1,← e2]
  exact hz
 ·rw[if_neg hf] at e
  have e1:n=y:=congrArg Prod.fst e
  have e2:k'=k:=congrArg Prod.snd e
  subst e1 e2
  rcases hk with rfl | rfl
  ·exact absurd rfl (hc _ hz)
  ·exact hz
theorem lookup_relabel_free {env:Env}(hf:env.scope.kind=.function){y:Str}(hy:env.kindOf y=some .cell):∀{names:List (Str×NameKind)},names.lookup y=some .free->
 (names.map fun(n,k)=>if (k==NameKind.free && env.scope.kind==.function && env.kindOf n==some .cell) then (n,NameKind.cell) else (n,k)).lookup y=some .cell
 | [],h=>by simp at h
 | (n,k) :: r,h=>by
   have ih:=@lookup_relabel_free env hf y hy r
   show List.lookup y ((if (k==NameKind.free && env.scope.kind==.function && env.kindOf n==some .cell)=true then (n,NameKind.cell) else (n,k)) :: _)=_
   cases hx:y==n with
   | true=>
     simp only[List.lookup_cons,hx] at h
     have e:y=n:=eq_of_beq hx
     subst e
     cases h
     have hc:(NameKind.free==NameKind.free && env.scope.kind==.function && env.kindOf y==some .cell)=true:=by rw[hf,hy];rfl
     rw[if_pos hc]
     simp only[List.lookup_cons,hx]
   | false=>
     simp only[List.lookup_cons,hx] at h
     by_cases hc:(k==NameKind.free && env.scope.kind==.function && env.kindOf n==some .cell)=true
     ·rw[if_pos hc];simp only[List.lookup_cons,hx];exact ih h
     ·rw[if_neg hc];simp only[List.lookup_cons,hx];exact ih h
theorem compScope1 {X:Cx}{x y:Str}{scope:Scope}{c:Addr}{i:Nat}(hclos:closureFor scope X.env=pure [(y,c)])(hy:X.env.cells.lookup y=some c)(hc:∀ z∈scope.names,z.2≠.cell)(hk:scope.kind=.function)
 (hn:∀ z∈scope.names,z.2=.local->scope.names.lookup z.1=some .local) (hx:scope.names.lookup x=some .local) (hfree:∀ z∈scope.names,z.2=.free->z.1=y) (hxy:x≠y) (hi:X.N[i]?=some y)
 (hky:X.env.kindOf y=some .cell) (hkf:X.env.scope.kind=.function) (hys:scope.names.lookup y=some .free):CompScope X x [y] [i] scope [(y,c)] where
 clos:=hclos
 sub:=fun z d h=>by
  by_cases e:z=y
  ·subst e
   have:c=d:=by simpa [List.lookup_cons] using h
   rw[← this]
   exact hy
  ·have hb:(z==y)=false:=beq_eq_false_iff_ne.mpr e
   simp[List.lookup_cons,hb] at h
 cell:=hc
 kind:=hk
 names:=hn
 own:=hx
 has:=fun z h=>by
  have e:z=y:=by
   rcases h with h | h
   ·exact hfree _ (relabel_mem h (.inl rfl) hc) rfl
   ·exact hfree _ (relabel_mem h (.inr rfl) hc) rfl
  subst e
  exact⟨c,by simp[List.lookup_cons]⟩
 nd:=by simp[hxy]
 len:=rfl
 at_:=fun j z h=>by
  cases j with
  | zero=>
    have e:y=z:=by simpa using h
    subst e
    exact⟨i,rfl,hi,.inl hky,c,by simp[List.lookup_cons],.inl (lookup_relabel_free hkf hky hys)⟩
  | succ j=>simp at h
end L2
set_option Elab.async false
set_option linter.all false
set_option maxRecDepth 100000
set_option maxHeartbeats 4000000
namespace L2
open PySem PySem.Spec PyProof.Rows
namespace Rv
theorem slot_init:Slot "reversed" "__init__" "object.__init__":=
 .of (owner:="object") (n:="__init__") (by rw[typeLookup_type,builtinLookup_eq_fast];kernel_rfl) (by decide +kernel) (by decide +kernel) (by decide +kernel)
  (by first | exact .inl (by decide +kernel) | exact .inr (by decide +kernel)) (by rw[isSubtype_type];kernel_rfl)
theorem called:TypeCalled "reversed" "reversed.__new__" "object.__init__":=
 ⟨by decide +kernel,by decide +kernel,⟨_,_,PySem.F.mro_reversed⟩,PySem.F.made_reversed,by decide +kernel,by rw[isSubtype_type];kernel_rfl,slot_init⟩
def IsRv (h:Heap)(it t:Addr)(i:Int):Prop:=∃ o,h.get? it=some o/\o.cls=.type "reversed"/\o.data=.fields #[.ref t,rawInt i]
theorem IsRv.typeIs {s:Shared}{it t:Addr}{i:Int}(x:IsRv s.heap it t i):s.TypeIs (.ref it) "reversed":=let ⟨o,ho,hc,_⟩:=x;⟨o,ho,hc⟩
theorem IsRv.at {h h':Heap}{it t:Addr}{i:Int}(x:IsRv h it t i)(e:∀ o,h.get? it=some o->h'.get? it=some o):IsRv h' it t i:=let ⟨o,ho,r⟩:=x;⟨o,e _ ho,r⟩
section
variable {prog:Program} {w:World} {A:Around} {E:Value->Shared->Prop} {s:Shared}
end
end Rv
section
variable {X:Cx} {tg:Expr}
end
end L2
set_option Elab.async false
set_option linter.all false
set_option maxRecDepth 100000
set_option maxHeartbeats 4000000
namespace L2
open PySem PySem.Spec PyProof.Rows
def intV (ns:List Int):List V:=ns.map V.int
theorem ints_at {ns:List Int}{i:Nat}{z:Int}(h:ns[i]?=some z):(intV ns)[i]?=some (V.int z):=by
 unfold intV;rw[List.getElem?_map,h];rfl
theorem ints_len (ns:List Int):(intV ns).length=ns.length:=List.length_map ..
theorem ints_of_at {ns:List Int}{i:Nat}{v:V}(h:(intV ns)[i]?=some v):∃ z,v=V.int z/\ns[i]?=some z:=by
 unfold intV at h
 rw[List.getElem?_map] at h
 cases e:ns[i]? with
 | none=>rw[e] at h;cases h
 | some z=>rw[e] at h;exact⟨z,(Option.some.inj h).symm,rfl⟩
theorem ints_app (a b:List Int):intV (a++b)=intV a++intV b:=List.map_append ..
section
variable {X:Cx}
def rIsi (K:PySem.W.Frag):List V->Hp->VK->Prop:=fun xs H Q=>∃ x T t b,xs=[x,.ty T]/\TyOf K H x t/\PySem.W.kitOne K t (.type T)=some b/\Q (.bl b) H
theorem call_isi:CallR X (.builtin "isinstance") (rIsi X.K):=by
 intro pins s σ H xs us Q I r h
 obtain⟨x,T,t,b,rfl,ty,e,q⟩:=h
 obtain⟨u,w',rfl,rx,ry⟩:=vals2 r
 cases ry
 exact isinst_ok I rx ty e fun tk=>⟨.bl b,H,I.tok tk,rfl,q⟩
theorem kit_self (K:PySem.W.Frag)(T:String):PySem.W.kitOne K (.type T) (.type T)=some true:=by
 unfold PySem.W.kitOne
 rw[if_pos (beq_self_eq_true _)]
theorem kit_int_bool (K:PySem.W.Frag):PySem.W.kitOne K (.type "int") (.type "bool")=some false:=by
 first | rfl | kernel_rfl | decide +kernel
end
end L2
set_option Elab.async false
set_option linter.all false
set_option maxRecDepth 100000
set_option maxHeartbeats 4000000
namespace L2
open PySem PySem.Spec PyProof.Rows
theorem Same.upd {H:Hp}{a:Addr}{o:HO}(h:H a=Option.none):Same H (upd H a o):=fun b u e=>by
 rw[upd_ne (ne_of_none e h)]
 exact e
section
variable {X:Cx}
def rCatTT:R2:=fun x y H Q=>∃ a b xs ys,x=.ref a/\y=.ref b/\H a=some (.tup xs)/\H b=some (.tup ys)/\xs.length+ ys.length<=sizeLine/\
 ∀ p H',Same H H'->H' p=some (.tup (xs++ys))->Q (.ref p) H'
theorem cat_tup0 {prog:Program}{w:World}{A:Around}{E:Value->Shared->Prop}{s:Shared}{t b:Addr}{ws:List Value}{Q:Value->Shared->Prop}(ht:IsTup s.heap t ([]:List Value).toArray)(hb:IsTup s.heap b ws.toArray)
 (h:Q (.ref b) s):wpAny (model prog w) A (binaryOp .Add (.ref t) (.ref b)) Q E s:=by
 obtain⟨⟨cls,dd,data,sl⟩,ho,hc,n,hd⟩:=id ht
 obtain⟨⟨cls2,dd2,data2,sl2⟩,ho2,hc2,n2,hd2⟩:=id hb
 simp only at hc hd hc2 hd2
 subst hc hd hc2 hd2
 exact concat_meets ⟨_,ho,rfl⟩ ⟨_,ho2,rfl⟩ noFill_tuple_add seq_tuple_add PySem.F.slot_tuple_add PySem.F.entry_tuple_add (PySem.F.args_tuple_add_2 _ _)
  (tuple_addW0 t b ([]:List Value).toArray ws.toArray n n2 dd dd2 sl sl2 rfl) ⟨ho,ho2,h⟩
theorem op_catTT:OpR X (binaryOp .Add) rCatTT:=by
 intro pins s σ H x y v u Q I rx ry h
 obtain⟨a,b,xs,ys,rfl,rfl,ha,hb,hz,q⟩:=h
 by_cases hx:xs=[]
 ·subst hx
  cases rx
  cases ry
  obtain⟨its,r1,p1,_⟩:=I.tuple (SqT.of ha)
  obtain⟨its2,r2,p2,_⟩:=I.tuple (SqT.of hb)
  have e:its=[]:=r1.nil_iff.mpr rfl
  subst e
  exact cat_tup0 p1 p2 ⟨.ref b,H,I,rfl,q b H (Same.refl H) hb⟩
 ·refine op_catT pins s σ H (.ref a) (.ref b) v u Q I rx ry ⟨a,b,xs,ys,rfl,rfl,SqT.of ha,SqT.of hb,hx,hz,fun e=>?_,fun _ p hp=>q p _ (Same.upd hp) upd_same⟩
  subst e
  exact q a H (Same.refl H) (by rw[List.append_nil];exact ha)
def rSlTT:V->Option Int->Option Int->Hp->VK->Prop:=fun x lo hi H Q=>∃ a xs,x=.ref a/\H a=some (.tup xs)/\∀ p H',Same H H'->H' p=some (.tup (cutV xs lo hi))->Q (.ref p) H'
end
end L2
namespace HT
open PySem PyProof.Rows
section
variable {prog:Program} {w:World} {A:Around} {E:Value->Shared->Prop} {s:Shared}
theorem getItem_tuple_whole {t sl:Addr}{items:Array Value}{vl vu:Value}{lo hi:Option Int}{Q:Value->Shared->Prop}(ht:IsTup s.heap t items)(hs:s.heap.IsSliceOf sl vl vu .none)(pl:IsPart vl lo)(pu:IsPart vu hi)
 (hw:sIx items.size 0 lo=0/\sIx items.size items.size hi=items.size) (h:Q (.ref t) s):wpAny (model prog w) A (getItem (.ref t) (.ref sl)) Q E s:=by
 obtain⟨os,hos,hcs,hds⟩:=id hs
 have hTs:s.TypeIs (.ref sl) "slice":=⟨os,hos,hcs⟩
 unfold getItem
 try with_reducible refine wpAny_holding ?_
 first | refine wpAny_bind (wpAny_pure ?_) | skip
 refine wpAny_bind (wpAny_sequenceKey ht.typeIs (by decide) ?_)
 refine wpAny_bind (wpAny_callSpecial?_slot (name:=Str.ofString "__getitem__") ht.typeIs PyProof.Rows.slot_tuple_getitem
  (wpAny_call_entry PyProof.Rows.slot_tuple_getitem ht.typeIs entry_tuple_getitem ?_ (args_tuple_getitem _ _)))
 show wpAny _ _ (Builtin.Tuple.tupleItemsOf (.ref t) >>=_) _ _ s
 refine wpAny_bind (tupleItemsOf_ ht ?_)
 refine wpAny_bind (wpAny_typeOf hTs ?_)
 rw[if_pos (by decide)]
 refine wpAny_bind (sliceApplied_gen hs pl pu ?_)
 rw[hw.1,hw.2]
 have hyes:((((0:Nat):Int)==0 && (1:Int)==1 && (items.size - 0)==items.size)=true):=by simp
 show wpAny _ _ (if (((0:Nat):Int)==0 && (1:Int)==1 && (items.size - 0)==items.size)=true then _ else _) _ _ s
 rw[if_pos hyes]
 obtain⟨ot,hot,hct,_⟩:=id ht
 refine wpAny_bind (m:=Builtin.Tuple.tupleIsExact _) ?_
 unfold Builtin.Tuple.tupleIsExact
 refine wpAny_bind (wpAny_typeOf ht.typeIs (wpAny_pure ?_))
 show wpAny _ _ (if (Value.type "tuple"==Value.type "tuple")=true then _ else _) _ _ s
 rw[if_pos (by decide)]
 exact wpAny_bind (wpAny_rule (wpAny_pure ⟨_,rfl,wpAny_pure h⟩))
end
theorem noFill_tuple_mul:fillsNumberSlot (.type "tuple") "mul"=pure false:=
 PySem.fillsNumberSlot_seq (id:="tuple.__mul__") (r:=some (.builtin "tuple.__rmul__")) PySem.F.slot_tuple_mul.lookup (by decide +kernel) PySem.F.slot_tuple_rmul.lookup (by decide +kernel)
theorem repeat_tuple:seqRepeat? (.type "tuple")=pure (some (.builtin "tuple.__mul__")):=by
 unfold seqRepeat?
 rw[PySem.seqSlot_of (T:="tuple") (name:="__mul__") (id:="tuple.__mul__") PySem.F.slot_tuple_mul.lookup (by decide +kernel),PySem.seqSlot_of (T:="tuple") (name:="__rmul__") (id:="tuple.__rmul__") PySem.F.slot_tuple_rmul.lookup (by decide +kernel)]
 rfl
theorem int_rmul_tuple (a:Int)(t:Tok)(l:Addr)(items:Array Value)(n:Nat)(dd:Option Addr)(sl:Array (Option Value)):
 Meets (Builtin.«int.__rmul__» ⟨[.int a t,.ref l],[]⟩) (fun _ R s=>s.heap.get? l=some { cls:=.type "tuple",dict:=dd,data:=.seq items n,slots:=sl }/\R (.ok (.ret Value.notImplemented)) s):=
 .of_wp fun prog w A R s h=>by obtain⟨hp,g,d,tk,os⟩:=s;obtain⟨hl,h⟩:=h;wp_walk;exact⟨_,rfl,h⟩
theorem tuple_mul_same (l:Addr)(items:Array Value)(n:Nat)(dd:Option Addr)(sl:Array (Option Value))(x:Int)(u:Tok)(h0:¬ (decide (x < -(2 ^ 63)) || decide (x>=2 ^ 63))=true)(hc:(items.isEmpty || x==1)=true):
 Meets (Builtin.«tuple.__mul__» ⟨[.ref l,.int x u],[]⟩) (fun _ R s=>s.heap.get? l=some { cls:=.type "tuple",dict:=dd,data:=.seq items n,slots:=sl }/\R (.ok (.ret (.ref l))) s):=
 .of_wp fun prog w A R s h=>by
  obtain⟨hp,g,d,tk,os⟩:=s;obtain⟨hl,h⟩:=h
  have hT:(⟨hp,g,d,tk,os⟩:Shared).TypeIs (.ref l) "tuple":=⟨_,hl,rfl⟩
  wp_walk
  refine wpAny_ite_false (decide_eq_false h0) ?_
  wp_walk
  exact⟨_,rfl,h⟩
theorem tuple_mul_none (l:Addr)(items:Array Value)(n:Nat)(dd:Option Addr)(sl:Array (Option Value))(x:Int)(u:Tok)(h0:¬ (decide (x < -(2 ^ 63)) || decide (x>=2 ^ 63))=true)(hc:¬ (items.isEmpty || x==1)=true)(hx:(decide (x<=0) || items.isEmpty)=true):
 Meets (Builtin.«tuple.__mul__» ⟨[.ref l,.int x u],[]⟩) (fun _ R s=>s.heap.get? l=some { cls:=.type "tuple",dict:=dd,data:=.seq items n,slots:=sl }/\R (.ok (.ret (.ref s.heap.objs.size))) { s with heap:=s.heap.push { cls:=.type "tuple",data:=.seq #[] } }):=
 .of_wp fun prog w A R s h=>by
  obtain⟨hp,g,d,tk,os⟩:=s;obtain⟨hl,h⟩:=h
  have hT:(⟨hp,g,d,tk,os⟩:Shared).TypeIs (.ref l) "tuple":=⟨_,hl,rfl⟩
  wp_walk
  refine wpAny_ite_false (decide_eq_false h0) ?_
  wp_walk
  exact⟨_,rfl,h⟩
theorem tuple_mul_many (l:Addr)(items:Array Value)(n:Nat)(dd:Option Addr)(sl:Array (Option Value))(x:Int)(u:Tok)(h0:¬ (decide (x < -(2 ^ 63)) || decide (x>=2 ^ 63))=true)(hc:¬ (items.isEmpty || x==1)=true)(hx:¬ (decide (x<=0) || items.isEmpty)=true)
 (h1:¬ ((items.size:Int)* x > (2 ^ 63 - 1) / 8)) (h2:¬ (Builtin.Tuple.tupleTooMany ((items.size:Int)* x))=true) (hz:(List.foldl (fun x1 x2=>x1++x2) #[] (List.replicate x.toNat items)).size<=sizeLine):
 Meets (Builtin.«tuple.__mul__» ⟨[.ref l,.int x u],[]⟩) (fun _ R s=>s.heap.get? l=some { cls:=.type "tuple",dict:=dd,data:=.seq items n,slots:=sl }/\R (.ok (.ret (.ref s.heap.objs.size))) { s with heap:=s.heap.push { cls:=.type "tuple",data:=.seq (List.foldl (fun x1 x2=>x1++x2) #[] (List.replicate x.toNat items)) } }):=
 .of_wp fun prog w A R s h=>by
  obtain⟨hp,g,d,tk,os⟩:=s;obtain⟨hl,h⟩:=h
  have hT:(⟨hp,g,d,tk,os⟩:Shared).TypeIs (.ref l) "tuple":=⟨_,hl,rfl⟩
  wp_walk
  refine wpAny_ite_false (decide_eq_false h0) ?_
  wp_walk
  refine wpAny_ite_false (decide_eq_false h1) ?_
  wp_walk
  exact⟨_,rfl,h⟩
end HT
namespace L2
open PySem PySem.Spec PyProof.Rows
section
variable {X:Cx} {e:Expr} {te:TE} {lo hi:Option Expr} {st:Expr} {tl th ts:TO} {pos p2:Pos}
theorem sl_tupTT:SlR X rSlTT:=by
 intro pins s σ H x v vl vu lo hi sl Q I rx hs pl pu h
 obtain⟨a,xs,rfl,hx,q⟩:=h
 by_cases hw:HT.sIx xs.length 0 lo=0/\HT.sIx xs.length xs.length hi=xs.length
 ·cases rx
  obtain⟨its,r,ht,hz⟩:=I.tuple (SqT.of hx)
  have hlen:its.toArray.size=xs.length:=by rw[List.size_toArray];exact r.length.symm
  refine⟨"tuple",_,PyProof.Rows.slot_tuple_getitem.lookup,ht.typeIs,?_⟩
  refine HT.getItem_tuple_whole ht hs pl pu (by rw[hlen];exact hw) ⟨.ref a,H,I,rfl,q a H (Same.refl H) ?_⟩
  unfold cutV
  rw[hw.1,hw.2,List.drop_zero,Nat.sub_zero,List.take_length]
  exact hx
 ·exact sl_tup pins s σ H (.ref a) v vl vu lo hi sl Q I rx hs pl pu ⟨a,xs,rfl,SqT.of hx,hw,fun p hp=>q p _ (Same.upd hp) upd_same⟩
def SlR3 (X:Cx)(r:V->Option Int->Option Int->Option Int->Hp->VK->Prop):Prop:=
 ∀(pins:List (Addr×Obj)) (s:Shared) (σ:St) (H:Hp) (x:V) (v vl vu vs:Value) (lo hi st:Option Int) (sl:Addr) (Q:VK),Inv X pins σ H s->RelV x v->s.heap.IsSliceOf sl vl vu vs->IsPart vl lo->IsPart vu hi->IsPart vs st->r x lo hi st H Q->
  ∃ T id,typeLookup (.type T) "__getitem__"=pure (some (.builtin id))/\s.TypeIs v T/\wpAny (model X.prog X.w) X.A (getItem v (.ref sl)) (EP X pins σ Q) X.xe s
def tSl3 (r:V->Option Int->Option Int->Option Int->Hp->VK->Prop)(te:TE)(tl th ts:TO):TE:=fun σ H Q=>te σ H fun x H1=>tl σ H1 fun l H2=>th σ H2 fun u H3=>ts σ H3 fun k H4=>r x l u k H4 Q
theorem pe_slice3 {r:V->Option Int->Option Int->Option Int->Hp->VK->Prop}(hr:SlR3 X r)(he:PE X e te)(hl:PO X lo tl)(hu:PO X hi th)(hst:PO X (some st) ts):PE X (.Subscript e (.Slice lo hi (some st) p2) pos) (tSl3 r te tl th ts):=by
 intro pins s σ H Q I h
 refine Subscript_ (thn (he pins s σ H _ I h) fun v s1 ⟨x,H1,I1,r1,q1⟩=>?_)
 refine wpAny_Slice (thn (hl pins s1 σ H1 _ I1 q1) fun vl s2 ⟨l,H2,I2,pl,q2⟩=>thn (hu pins s2 σ H2 _ I2 q2) fun vu s3 ⟨u,H3,I3,pu,q3⟩=>thn (hst pins s3 σ H3 _ I3 q3) fun vs s4 ⟨k,H4,I4,pk,q4⟩=>?_)
 have I5:Inv X pins σ H4 { s4 with heap:=s4.heap.push { cls:=.type "slice",data:=.fields #[vl,vu,vs] } }:=I4.kept (t':=s4.toks) fun b ob q=>Heap.get?_push_of_some _ q
 obtain⟨T,id,hT,ht,hg⟩:=hr pins { s4 with heap:=s4.heap.push { cls:=.type "slice",data:=.fields #[vl,vu,vs] } } σ H4 x v vl vu vs l u k s4.heap.objs.size Q I5 r1 (Heap.IsSliceOf.new ..) pl pu pk q4
 show wpAny (model X.prog X.w) X.A (subscriptTail e (.Slice lo hi (some st) p2) v (.ref s4.heap.objs.size)) (EP X pins σ Q) X.xe { s4 with heap:=s4.heap.push { cls:=.type "slice",data:=.fields #[vl,vu,vs] } }
 exact tail_any (ops:=[v,.ref s4.heap.objs.size]) ht hT hg (by with_unfolding_all rfl)
def rRevL (K:PySem.W.Frag):V->Option Int->Option Int->Option Int->Hp->VK->Prop:=fun x lo hi st H Q=>∃ a xs,x=.ref a/\SqL K H a xs/\lo=none/\hi=none/\st=some (-1)/\∀ p,H p=none->Q (.ref p) (upd H p (.lst xs.reverse))
theorem sl_revL:SlR3 X (rRevL X.K):=by
 intro pins s σ H x v vl vu vs lo hi st sl Q I rx hs pl pu pk h
 obtain⟨a,xs,rfl,hx,rfl,rfl,rfl,q⟩:=h
 cases rx
 obtain⟨its,r,ht,hz⟩:=I.list hx
 have hl:=r.length
 refine⟨"list",_,slot_list_getitem.lookup,ht.isList.typeIs,?_⟩
 refine wpAny_getItem_list_slice ht.isList hs pl pu pk (by decide) ?_ (by rw[List.size_toArray];omega)
 rw[PySem.W.krv_pick]
 refine⟨.ref s.heap.objs.size,_,I.laid (t':=s.toks) (o:=.lst xs.reverse) (fun b ob q=>Heap.get?_push_of_some _ q) (Nat.le_refl _) ?_,rfl,q _ (I.hok.fresh (Nat.le_refl _))⟩
 exact⟨by rw[List.length_reverse];exact hz,its.reverse,_,r.reverse,Heap.get?_push_size _ rfl⟩
def rRepT:R2:=fun x y H Q=>∃ a k xs,x=.ref a/\y=.int k/\H a=some (.tup xs)/\-(2 ^ 63)<=k/\k < 2 ^ 63/\xs.length* k.toNat<=sizeLine/\
 ∀ p H',Same H H'->H' p=some (.tup (List.replicate k.toNat xs).flatten)->Q (.ref p) H'
theorem op_repT:OpR X (binaryOp .Mult) rRepT:=by
 intro pins s σ H x y v u Q I rx ry h
 obtain⟨l,k,xs,rfl,rfl,hH,h1,h2,hz,q⟩:=h
 cases rx
 obtain⟨t,rfl⟩:=ry
 obtain⟨its,r,p1,hzx⟩:=I.tuple (SqT.of hH)
 have hl:=r.length
 obtain⟨⟨cls,dd,data,sl⟩,ho,hc,n,hd⟩:=id p1
 simp only at hc hd
 subst hc hd
 have h0:¬ (decide (k < -(2 ^ 63)) || decide (k>=2 ^ 63))=true:=by
  rw[Bool.or_eq_true,decide_eq_true_iff,decide_eq_true_iff]
  omega
 have go:∀{S:PySem.Spec},Meets (Builtin.«tuple.__mul__» ⟨[.ref l,.int k t],[]⟩) (fun A' R s'=>s'.heap.get? l=some { cls:=.type "tuple",dict:=dd,data:=.seq its.toArray n,slots:=sl }/\S A' R s')->
  S X.A (wants (EP X pins σ Q) X.xe) s->wpAny (model X.prog X.w) X.A (binaryOp .Mult (.ref l) (.int k t)) (EP X pins σ Q) X.xe s:=fun{S} m hS=>
  wpAny_binaryOp_repeat_ref (T:="tuple") (U:="int") (by decide) ⟨_,ho,rfl⟩ (fun s'=>typeIs_int s' k t) HT.noFill_tuple_mul F.fills_int_mul F.slot_int_rmul HT.repeat_tuple F.slot_int_index.lookup
   (call_meets F.slot_int_rmul (typeIs_int s k t) F.entry_int_rmul (F.args_int_rmul_2 _ _) (HT.int_rmul_tuple k t l its.toArray n dd sl)
    ⟨ho,rfl,⟨_,ho,rfl⟩,call_meets F.slot_tuple_mul ⟨_,ho,rfl⟩ F.entry_tuple_mul (F.args_tuple_mul_2 _ _) m ⟨ho,hS⟩⟩)
 by_cases hc:(its.toArray.isEmpty || k==1)=true
 ·refine go (S:=fun _ R s'=>R (.ok (.ret (.ref l))) s') (HT.tuple_mul_same l its.toArray n dd sl k t h0 hc) ⟨.ref l,H,I,rfl,q l H (Same.refl H) ?_⟩
  have e:(List.replicate k.toNat xs).flatten=xs:=by
   rw[Bool.or_eq_true] at hc
   rcases hc with hc | hc
   ·have:its=[]:=by simpa using hc
    have:xs=[]:=by
     have hl':=hl
     rw[this] at hl'
     exact List.eq_nil_of_length_eq_zero hl'
    subst this
    simp
   ·have:k=1:=by simpa using hc
    subst this
    simp
  rw[e]
  exact hH
 ·by_cases hx:(decide (k<=0) || its.toArray.isEmpty)=true
  ·refine go (S:=fun _ R s'=>R (.ok (.ret (.ref s'.heap.objs.size))) { s' with heap:=s'.heap.push { cls:=.type "tuple",data:=.seq #[] } }) (HT.tuple_mul_none l its.toArray n dd sl k t h0 hc hx) ?_
   refine⟨.ref s.heap.objs.size,_,I.laid (t':=s.toks) (o:=.tup []) (fun b ob q=>Heap.get?_push_of_some _ q) (Nat.le_refl _) ?_,rfl,q _ _ (Same.upd (I.hok.fresh (Nat.le_refl _))) ?_⟩
   ·exact⟨Nat.zero_le _,[],.nil,IsTup.new _ _⟩
   ·have e:k.toNat=0:=by
     rw[Bool.or_eq_true,decide_eq_true_iff] at hx
     rcases hx with hx | hx
     ·omega
     ·exact absurd (by rw[Bool.or_eq_true];exact .inl hx) hc
    rw[e,upd_same]
    rfl
  ·have hk:0 < k:=by
    rw[Bool.or_eq_true,decide_eq_true_iff] at hx
    omega
   have hfl:List.foldl (fun x1 x2=>x1++x2) #[] (List.replicate k.toNat its.toArray)=(List.replicate k.toNat its).flatten.toArray:=by
    have:=foldl_rep its k.toNat []
    rw[List.nil_append] at this
    exact this
   have hlen:(List.replicate k.toNat its).flatten.length<=sizeLine:=by rw[len_rep,Nat.mul_comm,← hl];exact hz
   have hsz:((its.toArray.size:Int)* k)=((xs.length* k.toNat:Nat):Int):=by
    rw[List.size_toArray,← hl,Int.natCast_mul,Int.toNat_of_nonneg (by omega)]
   have hline:(sizeLine:Nat)<=(2 ^ 63 - 1) / 8:=by decide
   refine go (S:=fun _ R s'=>R (.ok (.ret (.ref s'.heap.objs.size))) { s' with heap:=s'.heap.push { cls:=.type "tuple",data:=.seq (List.foldl (fun x1 x2=>x1++x2) #[] (List.replicate k.toNat its.toArray)) } })
    (HT.tuple_mul_many l its.toArray n dd sl k t h0 hc hx (by rw[hsz];omega) (by unfold Builtin.Tuple.tupleTooMany;rw[decide_eq_true_iff,hsz];omega) (by rw[hfl,List.size_toArray];exact hlen)) ?_
   rw[hfl]
   refine⟨.ref s.heap.objs.size,_,I.laid (t':=s.toks) (o:=.tup (List.replicate k.toNat xs).flatten) (fun b ob q=>Heap.get?_push_of_some _ q) (Nat.le_refl _) ?_,rfl,q _ _ (Same.upd (I.hok.fresh (Nat.le_refl _))) upd_same⟩
   exact⟨by rw[len_rep,Nat.mul_comm];exact hz,_,r.rep k.toNat,IsTup.new _ _⟩
end
end L2
set_option Elab.async false
set_option linter.all false
set_option maxRecDepth 100000
set_option maxHeartbeats 4000000
namespace L2
open PySem PySem.Spec PyProof.Rows
def tx (l:List Nat):Str:=⟨l.toArray⟩
theorem tx_inj {a b:List Nat}(h:tx a=tx b):a=b:=by
 have:=congrArg (fun s:Str=>s.cps.toList) h
 exact this
section
variable {X:Cx} {pos:Pos}
theorem pe_strX {x:Str}{l:List Nat}{j}(h:x=tx l):PE X (.Constant (.str x) j pos) (tC (.str (tx l))):=by
 rw[← h]
 exact pe_str
end
end L2
set_option Elab.async false
set_option linter.all false
set_option maxRecDepth 100000
set_option maxHeartbeats 4000000
namespace L2
open PySem PySem.Spec PyProof.Rows
structure Def (K:PySem.W.Frag) (mg:Str->Option Value) (x:Str) (st:Stmt) (ps:List Str) (f:Addr) (fd:FuncData):Prop where
 F:Fun K x x st f fd
 m:mg x=some (.ref f)
 b:Binds K fd ps []
section
variable {X:Cx}
end
theorem cut_ints (ns:List Int)(lo hi:Option Int):cutV (intV ns) lo hi=intV ((ns.drop (HT.sIx ns.length 0 lo)).take (HT.sIx ns.length ns.length hi - HT.sIx ns.length 0 lo)):=by
 unfold cutV intV
 rw[List.length_map,List.map_take,List.map_drop]
theorem rep1 (x:Int)(n:Nat):(List.replicate n ([V.int x]:List V)).flatten=intV (List.replicate n x):=by
 unfold intV
 rw[List.map_replicate]
 induction n with
 | zero=>rfl
 | succ n ih=>rw[List.replicate_succ,List.flatten_cons,ih,List.replicate_succ];rfl
end L2
set_option Elab.async false
set_option linter.all false
set_option maxRecDepth 100000
namespace L2
open PySem PySem.Spec PyProof.Rows
section
variable {κ:Type} [DecidableEq κ]
def valV (kvs:List (κ×V))(k:κ):Option V:=(kvs.find? fun kv=>decide (kv.1=k)).map (·.2)
def putK (kvs:List (κ×V))(k:κ)(v:V):List (κ×V):=
 if (kvs.any fun kv=>decide (kv.1=k))=true then kvs.map (fun kv=>if kv.1=k then (kv.1,v) else kv) else kvs++[(k,v)]
def dropK (kvs:List (κ×V))(k:κ):List (κ×V):=kvs.filter fun kv=>decide (kv.1≠k)
theorem valV_pos {p:κ×V}{r:List (κ×V)}{k:κ}(e:p.1=k):valV (p :: r) k=some p.2:=by simp[valV,List.find?_cons,e]
theorem valV_neg {p:κ×V}{r:List (κ×V)}{k:κ}(e:¬ p.1=k):valV (p :: r) k=valV r k:=by simp[valV,List.find?_cons,e]
theorem valV_any (k:κ):∀ kvs:List (κ×V),(kvs.any fun kv=>decide (kv.1=k))=(valV kvs k).isSome
 | []=>rfl
 | p :: r=>by
   rw[List.any_cons]
   by_cases e:p.1=k
   ·simp only[valV_pos e,decide_eq_true e,Bool.true_or,Option.isSome_some]
   ·rw[valV_neg e,decide_eq_false e,Bool.false_or];exact valV_any k r
theorem valV_map (k j:κ)(y:V):∀ kvs:List (κ×V),valV (kvs.map fun kv=>if kv.1=k then (kv.1,y) else kv) j=(valV kvs j).map fun x=>if j=k then y else x
 | []=>rfl
 | p :: r=>by
   have ih:=valV_map k j y r
   rw[List.map_cons]
   by_cases h:p.1=k
   ·rw[if_pos h]
    by_cases e:p.1=j
    ·rw[valV_pos (p:=(p.1,y)) e,valV_pos e,Option.map_some,if_pos (e.symm.trans h)]
    ·rw[valV_neg (p:=(p.1,y)) e,valV_neg e,ih]
   ·rw[if_neg h]
    by_cases e:p.1=j
    ·rw[valV_pos (p:=p) e,valV_pos e,Option.map_some,if_neg (fun z=>h (e.trans z))]
    ·rw[valV_neg (p:=p) e,valV_neg e,ih]
theorem valV_snoc (k j:κ)(y:V):∀ kvs:List (κ×V),valV kvs k=none->valV (kvs++[(k,y)]) j=if j=k then some y else valV kvs j
 | [],_=>by
   by_cases e:k=j
   ·rw[if_pos e.symm];exact valV_pos (p:=(k,y)) e
   ·rw[if_neg (fun z=>e z.symm)];exact valV_neg (p:=(k,y)) e
 | p :: r,hn=>by
   rw[List.cons_append]
   have hk:¬ p.1=k:=fun z=>by rw[valV_pos z] at hn;cases hn
   rw[valV_neg hk] at hn
   have ih:=valV_snoc k j y r hn
   by_cases e:p.1=j
   ·rw[valV_pos e,valV_pos e,if_neg (fun z=>hk (e.trans z))]
   ·rw[valV_neg e,valV_neg e,ih]
theorem valV_put (kvs:List (κ×V))(k j:κ)(y:V):valV (putK kvs k y) j=if j=k then some y else valV kvs j:=by
 unfold putK
 by_cases a:(kvs.any fun kv=>decide (kv.1=k))=true
 ·rw[if_pos a,valV_map]
  rw[valV_any] at a
  by_cases e:j=k
  ·obtain⟨x,hx⟩:=Option.isSome_iff_exists.mp a
   rw[if_pos e,e,hx,Option.map_some,if_pos rfl]
  ·rw[if_neg e]
   cases valV kvs j with
   | none=>rfl
   | some x=>rw[Option.map_some,if_neg e]
 ·rw[if_neg a]
  refine valV_snoc k j y kvs ?_
  rw[valV_any] at a
  cases q:valV kvs k with
  | none=>rfl
  | some x=>rw[q] at a;exact(a rfl).elim
theorem length_putK (kvs:List (κ×V))(k:κ)(v:V):(putK kvs k v).length<=kvs.length+ 1:=by
 unfold putK
 split
 ·rw[List.length_map];omega
 ·rw[List.length_append,List.length_cons,List.length_nil];omega
theorem RelO.isSome_eq {o:Option V}{u:Option Value}(r:RelO o u):o.isSome=u.isSome:=by
 cases o with
 | none=>cases u with
   | none=>rfl
   | some _=>exact(show False from r).elim
 | some _=>cases u with
   | none=>exact(show False from r).elim
   | some _=>rfl
theorem RelO.getD {o:Option V}{u:Option Value}{d:V}{d':Value}(r:RelO o u)(rd:RelV d d'):RelV (o.getD d) (u.getD d'):=by
 cases o with
 | none=>cases u with
   | none=>exact rd
   | some _=>exact(show False from r).elim
 | some _=>cases u with
   | none=>exact(show False from r).elim
   | some _=>exact r
theorem KV.val {kvs:List (κ×V)}{vs:List (κ×Value)}(r:KV kvs vs)(k:κ):RelO (valV kvs k) (valueAt vs k):=by
 unfold KV at r
 induction r with
 | nil=>exact True.intro
 | @cons p q ps qs h t ih=>
   obtain⟨h1,h2⟩:=h
   by_cases e:p.1=k
   ·have e':q.1=k:=h1.symm.trans e
    have b:valueAt (q :: qs) k=some q.2:=by simp[valueAt,List.find?_cons,e']
    rw[valV_pos e,b];exact h2
   ·have e':¬ q.1=k:=fun z=>e (h1.trans z)
    have b:valueAt (q :: qs) k=valueAt qs k:=by simp[valueAt,List.find?_cons,e']
    rw[valV_neg e,b];exact ih
theorem KV.any {kvs:List (κ×V)}{vs:List (κ×Value)}(r:KV kvs vs)(k:κ):(kvs.any fun kv=>decide (kv.1=k))=vs.any fun kv=>decide (kv.1=k):=by
 unfold KV at r
 induction r with
 | nil=>rfl
 | cons h t ih=>rw[List.any_cons,List.any_cons,ih,h.1]
theorem KV.repl {kvs:List (κ×V)}{vs:List (κ×Value)}(r:KV kvs vs)(k:κ){y:V}{u:Value}(ry:RelV y u):
 KV (kvs.map fun kv=>if kv.1=k then (kv.1,y) else kv) (vs.map fun kv=>if kv.1=k then (kv.1,u) else kv):=by
 unfold KV at r ⊢
 induction r with
 | nil=>exact .nil
 | @cons p q ps qs h t ih=>
   rw[List.map_cons,List.map_cons]
   refine .cons ?_ ih
   obtain⟨h1,h2⟩:=h
   by_cases e:p.1=k
   ·rw[if_pos e,if_pos (h1.symm.trans e)];exact⟨h1,ry⟩
   ·rw[if_neg e,if_neg (fun z=>e (h1.trans z))];exact⟨h1,h2⟩
theorem KV.put {kvs:List (κ×V)}{vs:List (κ×Value)}(r:KV kvs vs)(k:κ){y:V}{u:Value}(ry:RelV y u):KV (putK kvs k y) (stored vs k u):=by
 unfold putK stored
 rw[r.any k]
 by_cases e:(vs.any fun kv=>decide (kv.1=k))=true
 ·rw[if_pos e,if_pos e];exact r.repl k ry
 ·rw[if_neg e,if_neg e];exact Paired.snoc r ⟨rfl,ry⟩
theorem KV.drop {kvs:List (κ×V)}{vs:List (κ×Value)}(r:KV kvs vs)(k:κ):KV (dropK kvs k) (without vs k):=by
 unfold KV at r ⊢
 unfold dropK without
 induction r with
 | nil=>exact .nil
 | @cons p q ps qs h t ih=>
   obtain⟨h1,h2⟩:=h
   rw[List.filter_cons,List.filter_cons]
   by_cases e:p.1=k
   ·have a:¬ decide (p.1≠k)=true:=by simp[e]
    have b:¬ decide (q.1≠k)=true:=by simp[h1.symm.trans e]
    rw[if_neg a,if_neg b];exact ih
   ·have e':¬ q.1=k:=fun z=>e (h1.trans z)
    have a:decide (p.1≠k)=true:=by simp[e]
    have b:decide (q.1≠k)=true:=by simp[e']
    rw[if_pos a,if_pos b];exact .cons ⟨h1,h2⟩ ih
theorem KV.keys {kvs:List (κ×V)}{vs:List (κ×Value)}(r:KV kvs vs):kvs.map (·.1)=vs.map (·.1):=by
 unfold KV at r
 induction r with
 | nil=>rfl
 | cons h t ih=>rw[List.map_cons,List.map_cons,ih,h.1]
theorem KV.length {kvs:List (κ×V)}{vs:List (κ×Value)}(r:KV kvs vs):kvs.length=vs.length:=Paired.length r
theorem dropK_le (kvs:List (κ×V))(k:κ):(dropK kvs k).length<=kvs.length:=List.length_filter_le _ _
end
theorem kV_is {P:Program}{w:World}{k:Key}{u:Value}(r:RelV (kV k) u):(mixKind P w).is k u=true:=by
 cases k with
 | inl i=>obtain⟨t,e⟩:=(show ∃ t,u=Value.int i t from r);subst e;exact mixKind_int P w i t
 | inr x=>obtain⟨t,e⟩:=(show ∃ t,u=Value.str x t from r);subst e;exact mixKind_str P w x t
theorem items_are {P:Program}{w:World}:∀{ks:List Key} {us:List Value},Vals (ks.map kV) us->ItemsAre (mixKind P w) ks us
 | [],_,r=>by rw[List.map_nil] at r;cases r;exact .nil
 | k :: ks,_,r=>by
   rw[List.map_cons] at r
   cases r with
   | cons h t=>exact .cons (kV_is h) (items_are t)
abbrev KT (H:Hp):List (List Key×V)->List (List Key×Addr×Value)->Prop:=Paired fun p q=>p.1=q.1/\H q.2.1=some (.tup (p.1.map kV))/\RelV p.2 q.2.2
theorem KT.val {H:Hp}{kvs:List (List Key×V)}{xs:List (List Key×Addr×Value)}(r:KT H kvs xs)(k:List Key):RelO (valV kvs k) ((atKey xs k).map (·.2)):=by
 induction r with
 | nil=>exact True.intro
 | @cons p q ps qs h t ih=>
   obtain⟨h1,_,h2⟩:=h
   by_cases e:p.1=k
   ·have e':q.1=k:=h1.symm.trans e
    have b:atKey (q :: qs) k=some q.2:=by simp[atKey,List.find?_cons,e']
    rw[valV_pos e,b];exact h2
   ·have e':¬ q.1=k:=fun z=>e (h1.trans z)
    have b:atKey (q :: qs) k=atKey qs k:=by simp[atKey,List.find?_cons,e']
    rw[valV_neg e,b];exact ih
theorem KT.repl {H:Hp}{kvs:List (List Key×V)}{xs:List (List Key×Addr×Value)}(r:KT H kvs xs)(k:List Key){y:V}{u:Value}(ry:RelV y u):
 KT H (kvs.map fun kv=>if kv.1=k then (kv.1,y) else kv) (xs.map (putAt k u)):=by
 induction r with
 | nil=>exact .nil
 | @cons p q ps qs h t ih=>
   rw[List.map_cons,List.map_cons]
   refine .cons ?_ ih
   obtain⟨h1,h2,h3⟩:=h
   unfold putAt
   by_cases e:p.1=k
   ·rw[if_pos e,if_pos (h1.symm.trans e)];exact⟨h1,h2,ry⟩
   ·rw[if_neg e,if_neg (fun z=>e (h1.trans z))];exact⟨h1,h2,h3⟩
theorem KT.put {H:Hp}{kvs:List (List Key×V)}{xs:List (List Key×Addr×Value)}(r:KT H kvs xs)(k:List Key){b:Addr}{y:V}{u:Value}(hb:H b=some (.tup (k.map kV)))(ry:RelV y u):
 KT H (putK kvs k y) (storedH xs k b u):=by
 have e:(kvs.any fun kv=>decide (kv.1=k))=(atKey xs k).isSome:=by
  rw[valV_any,(r.val k).isSome_eq,Option.isSome_map]
 unfold putK storedH
 rw[e]
 by_cases q:(atKey xs k).isSome=true
 ·rw[if_pos q,if_pos q];exact r.repl k ry
 ·rw[if_neg q,if_neg q];exact Paired.snoc r ⟨rfl,hb,ry⟩
theorem KT.keeps {H H':Hp}{kvs:List (List Key×V)}{xs:List (List Key×Addr×Value)}(r:KT H kvs xs)(ht:∀ b ys,H b=some (.tup ys)->H' b=some (.tup ys)):KT H' kvs xs:=
 Paired.mapP r fun _ _ z=>⟨z.1,ht _ _ z.2.1,z.2.2⟩
section
variable {P:Program} {w:World} {H:Hp} {h:Heap} {a:Addr}
theorem rd_of {u:HO}(ok:HOk P w H h)(e:Rd H a u):ObjOk P w H h a u:=e.ok ok
theorem dk_rd {kvs:List (Key×V)}(ok:HOk P w H h)(e:Rd H a (.dK kvs)):kvs.length<=sizeLine/\(a==sysModules)=false/\∃ vs,KV kvs vs/\h.DictOf (mixKind P w) a vs:=
 show ObjOk P w H h a (.dK kvs) from rd_of ok e
theorem dk_of {kvs:List (Key×V)}(ok:HOk P w H h)(e:H a=some (.dK kvs)):kvs.length<=sizeLine/\(a==sysModules)=false/\∃ vs,KV kvs vs/\h.DictOf (mixKind P w) a vs:=dk_rd ok (.inl e)
theorem key_of {ks:List Key}(ok:HOk P w H h)(e:H a=some (.tup (ks.map kV))):(tupleKind (mixKind P w)).is h ks a:=by
 obtain⟨_,its,r,o,h1,h2,n,h3⟩:=(show ObjOk P w H h a (.tup (ks.map kV)) from ok a _ e)
 exact⟨o,its.toArray,n,h1,h2,h3,by simpa using items_are r⟩
theorem dt_rd {kvs:List (List Key×V)}(ok:HOk P w H h)(e:Rd H a (.dT kvs)):kvs.length<=sizeLine/\(a==sysModules)=false/\
 ∃ xs,KT H kvs xs/\h.DictOfH (tupleKind (mixKind P w)) a xs:=by
 obtain⟨z,y,xs,r,o,es,ep,h1,h2,h3,h4,h5⟩:=(show ObjOk P w H h a (.dT kvs) from rd_of ok e)
 refine⟨z,y,xs,r,o,es,ep,h1,h2,h3,h4,fun x hx=>?_,h5⟩
 have all:∀{l:List (List Key×V)} {m:List (List Key×Addr×Value)},KT H l m->∀ x∈m,(tupleKind (mixKind P w)).is h x.1 x.2.1:=by
  intro l m q
  induction q with
  | nil=>intro x hx;exact nomatch hx
  | @cons p q ps qs hq t ih=>
    intro x hx
    rcases List.mem_cons.mp hx with e | hx
    ·subst e
     exact key_of ok (by rw[← hq.1];exact hq.2.1)
    ·exact ih x hx
 exact all r x hx
theorem dt_of {kvs:List (List Key×V)}(ok:HOk P w H h)(e:H a=some (.dT kvs)):kvs.length<=sizeLine/\(a==sysModules)=false/\
 ∃ xs,KT H kvs xs/\h.DictOfH (tupleKind (mixKind P w)) a xs:=dt_rd ok (.inl e)
end
def DGet (H:Hp)(a:Addr)(y:V)(r:Option V):Prop:=
 (∃ kvs k,Rd H a (.dK kvs)/\y=kV k/\r=valV kvs k)\/∃ kvs k b,Rd H a (.dT kvs)/\y=.ref b/\H b=some (.tup (k.map kV))/\r=valV kvs k
def DPut (H:Hp)(a:Addr)(y v:V)(H':Hp):Prop:=
 (∃ kvs k,H a=some (.dK kvs)/\y=kV k/\kvs.length < sizeLine/\H'=upd H a (.dK (putK kvs k v)))\/
 ∃ kvs k b,H a=some (.dT kvs)/\y=.ref b/\H b=some (.tup (k.map kV))/\kvs.length < sizeLine/\H'=upd H a (.dT (putK kvs k v))
theorem DGet.k {H:Hp}{a:Addr}{kvs:List (Key×V)}{k:Key}(e:H a=some (.dK kvs)):DGet H a (kV k) (valV kvs k):=.inl ⟨kvs,k,.inl e,rfl,rfl⟩
theorem DGet.t {H:Hp}{a b:Addr}{kvs:List (List Key×V)}{k:List Key}(e:H a=some (.dT kvs))(eb:H b=some (.tup (k.map kV))):DGet H a (.ref b) (valV kvs k):=.inr ⟨kvs,k,b,.inl e,rfl,eb,rfl⟩
theorem DPut.k {H:Hp}{a:Addr}{kvs:List (Key×V)}{k:Key}{v:V}(e:H a=some (.dK kvs))(hl:kvs.length < sizeLine):DPut H a (kV k) v (upd H a (.dK (putK kvs k v))):=.inl ⟨kvs,k,e,rfl,hl,rfl⟩
theorem DPut.t {H:Hp}{a b:Addr}{kvs:List (List Key×V)}{k:List Key}{v:V}(e:H a=some (.dT kvs))(eb:H b=some (.tup (k.map kV)))(hl:kvs.length < sizeLine):
 DPut H a (.ref b) v (upd H a (.dT (putK kvs k v))):=.inr ⟨kvs,k,b,e,rfl,eb,hl,rfl⟩
section
variable {X:Cx} {pins:List (Addr×Obj)} {σ:St} {H:Hp} {s:Shared} {a:Addr} {y v:V} {u r:Value} {o:Option V} {A:Around} {E:Value->Shared->Prop}
theorem Inv.big (I:Inv X pins σ H s):sysModules < s.heap.objs.size:=by
 have h:mainGlobals < s.heap.objs.size:=(I.mod.glob.keeps I.bk).lt
 exact Nat.lt_trans (by decide) h
theorem d_getItem {Q:Value->Shared->Prop}(hu:A.units+ 1 < cLine)(I:Inv X pins σ H s)(g:DGet H a y (some v))(ry:RelV y u)(h:∀ w' s',Inv X pins σ H s'->RelV v w'->Q w' s'):
 wpAny (model X.prog X.w) A (getItem (.ref a) u) Q E s:=by
 rcases g with ⟨kvs,k,e,ey,l⟩ | ⟨kvs,k,b,e,ey,eb,l⟩
 ·subst ey
  obtain⟨z,hd,vs,rel,dd⟩:=dk_rd I.hok e
  obtain⟨w',hw,rw'⟩:=RelO.some_of (v:=v) (o:=valueAt vs k) (by rw[l];exact rel.val k)
  exact wpAny_getItem_of (kV_is ry) dd.mapOf hw (h w' _ (I.tok _) rw')
 ·subst ey
  cases (show u=Value.ref b from ry)
  obtain⟨z,hd,xs,rel,dd⟩:=dt_rd I.hok e
  obtain⟨w',hw,rw'⟩:=RelO.some_of (v:=v) (o:=(atKey xs k).map (·.2)) (by rw[l];exact rel.val k)
  obtain⟨p,hp,hp2⟩:=Option.map_eq_some_iff.mp hw
  refine wpAny_getItem_heap (tupleKind_room_in1 hu) (key_of I.hok eb) dd hp ?_
  rw[hp2]
  exact h w' _ (I.tok _) rw'
theorem d_in {Q:Value->Shared->Prop}(hu:A.units+ 1 < cLine)(I:Inv X pins σ H s)(g:DGet H a y o)(ry:RelV y u)(h:∀ s',Inv X pins σ H s'->Q (.bool o.isSome) s'):
 wpAny (model X.prog X.w) A (compareOp .In u (.ref a)) Q E s:=by
 rcases g with ⟨kvs,k,e,ey,l⟩ | ⟨kvs,k,b,e,ey,eb,l⟩
 ·subst ey
  obtain⟨z,hd,vs,rel,dd⟩:=dk_rd I.hok e
  refine wpAny_in_of (kV_is ry) hd dd.mapOf ?_
  rw[← (rel.val k).isSome_eq,← l]
  exact h _ (I.tok _)
 ·subst ey
  cases (show u=Value.ref b from ry)
  obtain⟨z,hd,xs,rel,dd⟩:=dt_rd I.hok e
  refine wpAny_in_heap (tupleKind_room_in1 hu) (key_of I.hok eb) hd dd ?_
  have q:=(rel.val k).isSome_eq
  rw[Option.isSome_map] at q
  rw[← q,← l]
  exact h _ (I.tok _)
theorem d_write {h':Heap}{t':Nat}{ob:HO}(I:Inv X pins σ H s)(mu:Mut (H a))(hs:Heap.SameBut a s.heap h')(he:∃ q,h'.get? a=some q)(new:ObjOk X.prog X.w (upd H a ob) h' a ob):
 Inv X pins σ (upd H a ob) { s with heap:=h',toks:=t' }:=
 I.write (x:=a) (e:=a) mu (.inl rfl) (fun b q hb z=>(hs.2 b hb).trans z) he new
theorem dk_new {P:Program}{w:World}{H':Hp}{h':Heap}{kvs:List (Key×V)}{vs:List (Key×Value)}(z:kvs.length<=sizeLine)(hd:(a==sysModules)=false)(rel:KV kvs vs)(dd:h'.DictOf (mixKind P w) a vs):
 ObjOk P w H' h' a (.dK kvs):=⟨z,hd,vs,rel,dd⟩
theorem d_setItem {H':Hp}{Q:Unit->Shared->Prop}(hu:A.units+ 1 < cLine)(I:Inv X pins σ H s)(g:DPut H a y v H')(ry:RelV y u)(rv:RelV v r)(h:∀ s',Inv X pins σ H' s'->Q () s'):
 wpAny (model X.prog X.w) A (setItem (.ref a) u r) Q E s:=by
 rcases g with ⟨kvs,k,e,ey,l,eH⟩ | ⟨kvs,k,b,e,ey,eb,l,eH⟩
 ·subst ey eH
  obtain⟨z,hd,vs,rel,dd⟩:=dk_of I.hok e
  have hz:vs.length<=sizeLine:=by rw[← rel.length];exact z
  have hl:(putK kvs k v).length<=sizeLine:=by have:=length_putK kvs k v;omega
  refine wpAny_setItem_pairs (hsz:=hz) (kV_is ry) dd fun h' dd' hs=>h _ ?_
  have he:∃ q,h'.get? a=some q:=let ⟨q,_,_,hq,_⟩:=dd';⟨q,hq⟩
  exact d_write I (by rw[e];exact True.intro) hs he (dk_new hl hd (rel.put k rv) dd')
 ·subst ey eH
  cases (show u=Value.ref b from ry)
  obtain⟨z,hd,xs,rel,dd⟩:=dt_of I.hok e
  have hz:xs.length<=sizeLine:=by rw[← Paired.length rel];exact z
  have hl:(putK kvs k v).length<=sizeLine:=by have:=length_putK kvs k v;omega
  refine wpAny_setItem_heap (hsz:=hz) (tupleKind_room_in1 hu) (key_of I.hok eb) dd fun h' dd' hs=>h _ ?_
  obtain⟨q,es,ep,hq,h2,h3,h4,_,h5⟩:=dd'
  refine d_write I (by rw[e];exact True.intro) hs ⟨q,hq⟩ ⟨hl,hd,_,(rel.put k eb rv).keeps fun c ys ec=>?_,q,es,ep,hq,h2,h3,h4,h5⟩
  rw[upd_ne (ne_of ec e (fun z=>nomatch z))]
  exact ec
end
section
variable {X:Cx} {pins:List (Addr×Obj)} {σ:St} {H:Hp} {s:Shared} {a:Addr} {kvs:List (Key×V)} {k:Key} {u:Value} {A:Around} {E:Value->Shared->Prop}
theorem d_pop {v:V}{more:List Value}{Q:Value->Shared->Prop}(I:Inv X pins σ H s)(e:H a=some (.dK kvs))(ry:RelV (kV k) u)(l:valV kvs k=some v)(hm:more=[]\/∃ x,more=[x])
 (h:∀ w' s',Inv X pins σ (upd H a (.dK (dropK kvs k))) s'->RelV v w'->Q w' s'):wpAny (model X.prog X.w) A (call (.builtin "dict.pop") (.ref a :: u :: more)) Q E s:=by
 obtain⟨z,hd,vs,rel,dd⟩:=dk_of I.hok e
 obtain⟨w',hw,rw'⟩:=RelO.some_of (v:=v) (o:=valueAt vs k) (by rw[← l];exact rel.val k)
 have hp:(keyPart u).isSome=true:=by
  cases k with
  | inl i=>obtain⟨t,q⟩:=(show ∃ t,u=Value.int i t from ry);subst q;rfl
  | inr x=>obtain⟨t,q⟩:=(show ∃ t,u=Value.str x t from ry);subst q;rfl
 have ha:argsOk "dict.pop" ⟨.ref a :: u :: more,[]⟩:=by
  rcases hm with q | ⟨x,q⟩
  ·subst q;exact PySem.F.args_dict_pop_2 _ _
  ·subst q;exact PySem.F.args_dict_pop_3 _ _ _
 refine call_meetsIn PySem.F.slot_dict_pop dd.typeIs PySem.F.entry_dict_pop ha (meets_dict_pop_there (mixKind X.prog X.w) a (kV_is ry) more hm hp)
  ⟨vs,w',dd,by rw[← rel.length];exact z,hw,fun h' dd' hs=>h w' _ ?_ rw'⟩
 have he:∃ q,h'.get? a=some q:=let ⟨q,_,_,hq,_⟩:=dd';⟨q,hq⟩
 exact d_write I (by rw[e];exact True.intro) hs he (dk_new (Nat.le_trans (dropK_le kvs k) z) hd (rel.drop k) dd')
end
def NoSl (i:Expr):Prop:=∀ ov iv,subscripted i false ov iv=operate [ov,iv] (getItem ov iv)
theorem subD_of {prog:Program}{w:World}{A:Around}{E:Value->Shared->Prop}{s:Shared}{env:Env}{value slice:Expr}{pos:Pos}{T id:String}{Q:Value->Shared->Prop}
 (hl:typeLookup (.type T) "__getitem__"=pure (some (.builtin id))) (hs:NoSl slice)
 (h:wpAny (model prog w) A (eval value env) (fun o s₁=>wpAny (model prog w) A (eval slice env) (fun i s₂=>s₂.TypeIs o T/\wpAny (model prog w) A (getItem o i) Q E s₂) E s₁) E s):
 wpAny (model prog w) A (eval (.Subscript value slice pos) env) Q E s:=by
 refine Subscript_ (wpAny_mono h (fun o s₁ h₁=>wpAny_mono h₁ (fun i s₂ h₂=>?_) fun _ _ x=>x) fun _ _ x=>x)
 obtain⟨hT,h₂⟩:=h₂
 unfold subscriptTail
 refine wpAny_bind ?_
 rw[getitemInPython_of_ne hT.not_modules]
 refine wpAny_bind (wpAny_specialOf hT hl ?_)
 have fin:wpAny (model prog w) A (subscripted slice false o i) (fun r s₃=>wpAny (model prog w) A (letTemporaryGo value o r >>=fun _=>pure r) Q E s₃) E s₂:=by
  rw[hs o i]
  exact wpAny_operating (wpAny_mono h₂ (fun r s₃ h₃=>wpAny_bind (wpAny_letTemporaryGo (wpAny_pure h₃))) fun _ _ x=>x)
 first
  | exact wpAny_pure (wpAny_bind fin)
  | exact wpAny_bind (wpAny_pure (wpAny_bind fin))
  | exact wpAny_bind fin
theorem dict_typeIs {X:Cx}{pins:List (Addr×Obj)}{σ:St}{H:Hp}{s:Shared}{a:Addr}{y:V}{o:Option V}(I:Inv X pins σ H s)(g:DGet H a y o):s.TypeIs (.ref a) "dict":=by
 rcases g with ⟨kvs,k,e,_,_⟩ | ⟨kvs,k,b,e,_,_,_⟩
 ·obtain⟨_,_,vs,_,dd⟩:=dk_rd I.hok e
  exact dd.typeIs
 ·obtain⟨_,_,xs,_,dd⟩:=dt_rd I.hok e
  exact dd.typeIs
def tDGet (td ty:TE):TE:=fun σ H Q=>td σ H fun x H1=>ty σ H1 fun y H2=>∃ a v,x=.ref a/\DGet H2 a y (some v)/\Q v H2
def tDIn (ty td:TE):TE:=fun σ H Q=>ty σ H fun y H1=>td σ H1 fun x H2=>∃ a o,x=.ref a/\DGet H2 a y o/\Q (.bl o.isSome) H2
def sDPut (td ty tv:TE):TS:=fun D σ H=>tv σ H fun v H1=>td σ H1 fun x H2=>ty σ H2 fun y H3=>∃ a H4,x=.ref a/\DPut H3 a y v H4/\D.nx σ H4
section
variable {X:Cx} {o i e value:Expr} {pos pos' tpos:Pos} {td ty tv:TE}
theorem pe_dget (hu:X.A.units+ 1 < cLine)(ho:PE X o td)(hi:PE X i ty)(hs:NoSl i):PE X (.Subscript o i pos) (tDGet td ty):=by
 intro pins s σ H Q I h
 refine subD_of PySem.F.slot_dict_getitem.lookup hs (thn (ho pins s σ H _ I h) fun u s1 ⟨x,H1,I1,rx,q1⟩=>thn (hi pins s1 σ H1 _ I1 q1) fun iv s2 ⟨y,H2,I2,ry,a,v,ex,g,q2⟩=>?_)
 subst ex
 obtain rfl:u=Value.ref a:=rx
 exact⟨dict_typeIs I2 g,d_getItem hu I2 g ry fun w' s3 I3 rw'=>⟨v,H2,I3,rw',q2⟩⟩
theorem pc_din (hu:X.A.units+ 1 < cLine)(hi:PE X i ty)(ho:PE X o td):PC X .In i o (tDIn ty td):=by
 intro pins s σ H Q I h
 refine thn (hi pins s σ H _ I h) fun iv s1 ⟨y,H1,I1,ry,q1⟩=>thn (ho pins s1 σ H1 _ I1 q1) fun u s2 ⟨x,H2,I2,rx,a,ov,ex,g,q2⟩=>?_
 subst ex
 obtain rfl:u=Value.ref a:=rx
 exact d_in hu I2 g ry fun s3 I3=>⟨.bl ov.isSome,H2,I3,rfl,q2⟩
theorem ps_dput (hu:X.A.units+ 1 < cLine)(ho:PE X o td)(hi:PE X i ty)(hv:PE X value tv)(hs:swapsWith value (some (.Subscript o i pos')) pos.line X.env=pure false):
 PS X (.Assign [.Subscript o i pos'] value pos) (sDPut td ty tv):=by
 intro pins s σ H D I h
 refine wpAny_Assign_Subscript (thn (hv pins s σ H _ I h) fun r s1 ⟨v,H1,I1,rv,q1⟩=>thn (ho pins s1 σ H1 _ I1 q1) fun u s2 ⟨x,H2,I2,rx,q2⟩=>thn (hi pins s2 σ H2 _ I2 q2) fun iv s3 ⟨y,H3,I3,ry,a,H4,ex,g,q3⟩=>?_) hs
 subst ex
 obtain rfl:u=Value.ref a:=rx
 exact d_setItem hu I3 g ry rv fun s4 I4=>⟨σ,H4,I4,q3⟩
end
theorem dk_empty {P:Program}{w:World}{H:Hp}(h:Heap)(hb:sysModules < h.objs.size):ObjOk P w H (h.push { cls:=.type "dict",data:=.dict #[] }) h.objs.size (.dK []):=
 ⟨Nat.zero_le _,beq_eq_false_iff_ne.mpr (Ne.symm (Nat.ne_of_lt hb)),[],.nil,Heap.DictOf.new h⟩
theorem dt_empty {P:Program}{w:World}{H:Hp}(h:Heap)(hb:sysModules < h.objs.size):ObjOk P w H (h.push { cls:=.type "dict",data:=.dict #[] }) h.objs.size (.dT []):=
 ⟨Nat.zero_le _,beq_eq_false_iff_ne.mpr (Ne.symm (Nat.ne_of_lt hb)),[],.nil,_,#[],0,Heap.get?_push_size _ rfl,⟨rfl,rfl,rfl⟩,rfl,rfl,List.nodup_nil⟩
def tDNewK:TE:=fun _ H Q=>∀ p,H p=none->Q (.ref p) (upd H p (.dK []))
def tDNewT:TE:=fun _ H Q=>∀ p,H p=none->Q (.ref p) (upd H p (.dT []))
section
variable {X:Cx} {pos:Pos}
theorem pe_dnewK:PE X (.Dict [] [] pos) tDNewK:=fun pins s σ H Q I h=>
 wpAny_Dict_empty ⟨.ref s.heap.objs.size,_,I.laid (a:=s.heap.objs.size) (o:=.dK []) (t':=s.toks) (fun _ _ q=>Heap.get?_push_of_some _ q) (Nat.le_refl _) (dk_empty s.heap I.big),rfl,h _ (I.hok.fresh (Nat.le_refl _))⟩
theorem pe_dnewT:PE X (.Dict [] [] pos) tDNewT:=fun pins s σ H Q I h=>
 wpAny_Dict_empty ⟨.ref s.heap.objs.size,_,I.laid (a:=s.heap.objs.size) (o:=.dT []) (t':=s.toks) (fun _ _ q=>Heap.get?_push_of_some _ q) (Nat.le_refl _) (dt_empty s.heap I.big),rfl,h _ (I.hok.fresh (Nat.le_refl _))⟩
end
def tPairs:List (TE×TE)->St->Hp->(List (V×V)->Hp->Prop)->Prop
 | [],_,H,Q=>Q [] H
 | (tk,tv) :: r,σ,H,Q=>tk σ H fun x H1=>tv σ H1 fun y H2=>tPairs r σ H2 fun ps H3=>Q ((x,y) :: ps) H3
abbrev VV:List (V×V)->List (Value×Value)->Prop:=Paired fun p q=>RelV p.1 q.1/\RelV p.2 q.2
def PPs (X:Cx)(pos:Pos)(keys:List (Option Expr))(values:List Expr)(trs:List (TE×TE)):Prop:=
 ∀(pins:List (Addr×Obj)) (s:Shared) (σ:St) (H:Hp) (Q:List (V×V)->Hp->Prop),Inv X pins σ H s->tPairs trs σ H Q->
  wpAny (model X.prog X.w) X.A (evalPairs (pairTrees keys values X.env pos)) (fun vs s'=>∃ ps H',Inv X pins σ H' s'/\VV ps vs/\Q ps H') X.xe s
theorem pps_nil {X:Cx}{pos:Pos}:PPs X pos [] [] []:=fun pins s σ H Q I h=>pairTrees_nil_walk ⟨[],H,I,.nil,h⟩
theorem pps_cons {X:Cx}{pos:Pos}{k v:Expr}{ks:List (Option Expr)}{vs:List Expr}{tk tv:TE}{trs:List (TE×TE)}(hk:PE X k tk)(hv:PE X v tv)(hr:PPs X pos ks vs trs):
 PPs X pos (some k :: ks) (v :: vs) ((tk,tv) :: trs):=fun pins s σ H Q I h=>
 pairTrees_cons_walk (thn (hk pins s σ H _ I h) fun u s1 ⟨x,H1,I1,rx,q1⟩=>thn (hv pins s1 σ H1 _ I1 q1) fun w2 s2 ⟨y,H2,I2,ry,q2⟩=>
  thn (hr pins s2 σ H2 _ I2 q2) fun ws s3 ⟨ps,H3,I3,rel,q3⟩=>⟨(x,y) :: ps,H3,I3,.cons ⟨rx,ry⟩ rel,q3⟩)
def mergeK (kvs more:List (Key×V)):List (Key×V):=more.foldl (fun acc kv=>putK acc kv.1 kv.2) kvs
theorem KV.merge:∀{more:List (Key×V)} {rs:List (Key×Value)} {kvs:List (Key×V)} {vs:List (Key×Value)},KV more rs->KV kvs vs->KV (mergeK kvs more) (merged vs rs):=by
 intro more rs kvs vs r
 unfold KV at r
 induction r generalizing kvs vs with
 | nil=>intro q;exact q
 | @cons p q ps qs h t ih=>
   intro r0
   have e:KV (putK kvs p.1 p.2) (stored vs q.1 q.2):=by
    have:=r0.put p.1 h.2
    rw[← h.1];exact this
   exact ih e
theorem length_mergeK:∀(more kvs:List (Key×V)),(mergeK kvs more).length<=kvs.length+ more.length
 | [],kvs=>by show kvs.length<=kvs.length+ 0;omega
 | p :: r,kvs=>by
   have h1:=length_mergeK r (putK kvs p.1 p.2)
   have h2:=length_putK kvs p.1 p.2
   show (mergeK (putK kvs p.1 p.2) r).length<=_
   rw[List.length_cons];omega
theorem carries_of {P:Program}{w:World}:∀{kvs:List (Key×V)} {ws:List (Value×Value)},VV (kvs.map fun kv=>(kV kv.1,kv.2)) ws->∃ rs,Carries (mixKind P w) ws rs/\KV kvs rs
 | [],_,r=>by rw[List.map_nil] at r;cases r;exact⟨[],True.intro,.nil⟩
 | p :: kvs,_,r=>by
   rw[List.map_cons] at r
   cases r with
   | @cons a b as bs h t=>
     obtain⟨rs,c,q⟩:=carries_of (P:=P) (w:=w) t
     obtain⟨b1,b2⟩:=b
     exact⟨(p.1,b2) :: rs,⟨kV_is h.1,rfl,c⟩,.cons ⟨rfl,h.2⟩ q⟩
def tDisp (trs:List (TE×TE)):TE:=fun σ H Q=>∀ p,H p=none->tPairs trs σ (upd H p (.dK [])) fun ps H2=>H2 p=some (.dK [])/\∃ kvs:List (Key×V),ps=kvs.map (fun kv=>(kV kv.1,kv.2))/\kvs.length<=15/\Q (.ref p) (upd H2 p (.dK (mergeK [] kvs)))
theorem pe_disp {X:Cx}{pos:Pos}{keys:List (Option Expr)}{values:List Expr}{trs:List (TE×TE)}(h:PPs X pos keys values trs)(hall:keys.all (·.isSome)=true)(hl:keys.length=values.length)(h0:keys≠[])
 (h15:keys.length<=15):PE X (.Dict keys values pos) (tDisp trs):=by
 intro pins s σ H Q I q
 have hn:=I.hok.fresh (Nat.le_refl s.heap.objs.size)
 have I1:=I.laid (a:=s.heap.objs.size) (o:=.dK []) (h':=s.heap.push { cls:=.type "dict",data:=.dict #[] }) (t':=s.toks) (fun _ _ q=>Heap.get?_push_of_some _ q) (Nat.le_refl _) (dk_empty s.heap I.big)
 refine wpAny_Dict_walk (knd:=mixKind X.prog X.w) hall hl h0 h15 (thn (h pins _ σ _ _ I1 (q _ hn)) fun ws s2 ⟨ps,H2,I2,rel,e,kvs,ep,lk,q2⟩=>?_)
 subst ep
 obtain⟨rs,c,rk⟩:=carries_of (P:=X.prog) (w:=X.w) rel
 obtain⟨z,hd,vs0,r0,dd⟩:=dk_of I2.hok e
 cases r0
 refine⟨rs,c,dd,fun h' dd' hs=>⟨.ref s.heap.objs.size,_,?_,rfl,q2⟩⟩
 have hz:(mergeK [] kvs).length<=sizeLine:=by
  have h1:=length_mergeK kvs []
  rw[List.length_nil] at h1
  rw[sizeLine_eq];omega
 have he:∃ q,h'.get? s.heap.objs.size=some q:=let ⟨q,_,_,hq,_⟩:=dd';⟨q,hq⟩
 exact d_write I2 (by rw[e];exact True.intro) hs he (dk_new hz hd (rk.merge .nil) dd')
structure M1 (X:Cx) (o:Expr) (m:Str) (apos:Pos) (e:Expr) (cpos:Pos):Prop where
 base:attributeBase o m X.env (eval o X.env)=eval o X.env
 few:((backTo cpos (starEach [e] X.env)).all (fun x=>!x.1) && (backToKw cpos (keywordEach [] X.env)).all (fun x=>x.1.isSome)
  && decide (([e]:List Expr).length+ ([]:List Keyword).length+ (if ([]:List Keyword).isEmpty then 0 else 1) < 30))=true
 line:(apos.endLine==cpos.line)=true
 trees:backTo cpos (starEach [e] X.env)=[(false,eval e X.env)]
structure M2 (X:Cx) (o:Expr) (m:Str) (apos:Pos) (e f:Expr) (cpos:Pos):Prop where
 base:attributeBase o m X.env (eval o X.env)=eval o X.env
 few:((backTo cpos (starEach [e,f] X.env)).all (fun x=>!x.1) && (backToKw cpos (keywordEach [] X.env)).all (fun x=>x.1.isSome)
  && decide (([e,f]:List Expr).length+ ([]:List Keyword).length+ (if ([]:List Keyword).isEmpty then 0 else 1) < 30))=true
 line:(apos.endLine==cpos.line)=true
 trees:backTo cpos (starEach [e,f] X.env)=[(false,eval e X.env),(false,eval f X.env)]
def IsD (H:Hp)(a:Addr):Prop:=(∃ kvs,Rd H a (.dK kvs))\/∃ kvs,Rd H a (.dT kvs)
theorem isD_at {X:Cx}{pins:List (Addr×Obj)}{σ:St}{H:Hp}{s:Shared}{a:Addr}(I:Inv X pins σ H s)(d:IsD H a):
 s.TypeIs (.ref a) "dict"/\(∀ b,Value.ref a=.ref b->∃ ob,s.heap.get? b=some ob/\ob.dict=none)/\(a==sysModules)=false:=by
 rcases d with ⟨kvs,e⟩ | ⟨kvs,e⟩
 ·obtain⟨_,hd,vs,_,dd⟩:=dk_rd I.hok e
  refine⟨dd.typeIs,fun b q=>?_,hd⟩
  cases q
  obtain⟨ob,_,_,h1,h2,_⟩:=dd
  exact⟨ob,h1,h2.2.1⟩
 ·obtain⟨_,hd,xs,_,dd⟩:=dt_rd I.hok e
  refine⟨dd.typeIs,fun b q=>?_,hd⟩
  cases q
  obtain⟨ob,_,_,h1,h2,_⟩:=dd
  exact⟨ob,h1,h2.2.1⟩
section
variable {X:Cx} {pins:List (Addr×Obj)} {σ:St} {H:Hp} {s:Shared} {a:Addr} {y d:V} {u r:Value} {o:Option V} {A:Around} {E:Value->Shared->Prop}
theorem d_get2 {Q:Value->Shared->Prop}(hu:A.units+ 1 < cLine)(I:Inv X pins σ H s)(g:DGet H a y o)(ry:RelV y u)(rd:RelV d r)(h:∀ w' s',Inv X pins σ H s'->RelV (o.getD d) w'->Q w' s'):
 wpAny (model X.prog X.w) A (call (.builtin "dict.get") [.ref a,u,r]) Q E s:=by
 rcases g with ⟨kvs,k,e,ey,l⟩ | ⟨kvs,k,b,e,ey,eb,l⟩
 ·subst ey
  obtain⟨z,hd,vs,rel,dd⟩:=dk_rd I.hok e
  refine call_meetsIn PySem.F.slot_dict_get dd.typeIs PySem.F.entry_dict_get (PySem.F.args_dict_get_3 _ _ _) (meets_dict_get_default (mixKind X.prog X.w) a (kV_is ry) hd r) ⟨_,dd.mapOf,h _ _ (I.tok _) ?_⟩
  rw[l]
  exact(rel.val k).getD rd
 ·subst ey
  cases (show u=Value.ref b from ry)
  obtain⟨z,hd,xs,rel,dd⟩:=dt_rd I.hok e
  refine call_meetsIn PySem.F.slot_dict_get dd.typeIs PySem.F.entry_dict_get (PySem.F.args_dict_get_3 _ _ _) (meetsH_dict_get_default (tupleKind (mixKind X.prog X.w)) a b hd r) ⟨tupleKind_room_in1 hu,k,xs,key_of I.hok eb,dd,h _ _ (I.tok _) ?_⟩
  rw[l]
  exact(rel.val k).getD rd
end
def tDGet2 (td ty tx:TE):TE:=fun σ H Q=>td σ H fun x H1=>∃ a,x=.ref a/\IsD H1 a/\ty σ H1 fun y H2=>tx σ H2 fun z H3=>∃ o,DGet H3 a y o/\Q (o.getD z) H3
def tDPop1 (td ty:TE):TE:=fun σ H Q=>td σ H fun x H1=>∃ a,x=.ref a/\IsD H1 a/\ty σ H1 fun y H2=>∃ kvs k v,H2 a=some (.dK kvs)/\y=kV k/\valV kvs k=some v/\Q v (upd H2 a (.dK (dropK kvs k)))
section
variable {X:Cx} {o e f:Expr} {apos cpos:Pos} {td ty tx:TE}
theorem pe_dget2 (hu:X.A.units+ 1 < cLine)(ho:PE X o td)(he:PE X e ty)(hf:PE X f tx)(m:M2 X o "get" apos e f cpos):PE X (.Call (.Attribute o "get" apos) [e,f] [] cpos) (tDGet2 td ty tx):=by
 intro pins s σ H Q I h
 refine wpAny_Call_method m.base m.few m.line PySem.F.plainAttrs_dict PySem.F.slot_dict_get PySem.F.type_dict_get (thn (ho pins s σ H _ I h) fun u s1 ⟨x,H1,I1,rx,a,ex,d,q1⟩=>?_)
 subst ex
 obtain rfl:u=Value.ref a:=rx
 obtain⟨t1,t2,_⟩:=isD_at I1 d
 refine⟨t1,t2,?_⟩
 rw[m.trees]
 refine Calls.callWith_builtin rfl (Calls.evalArgs_plain (Calls.spliced_cons (thn (he pins s1 σ H1 _ I1 q1) fun iv s2 ⟨y,H2,I2,ry,q2⟩=>
  Calls.spliced_cons (thn (hf pins s2 σ H2 _ I2 q2) fun fv s3 ⟨z,H3,I3,rz,ov,g,q3⟩=>Calls.spliced_nil ?_))))
 exact d_get2 hu I3 g ry rz fun w' s4 I4 rw'=>⟨_,H3,I4,rw',q3⟩
theorem pe_dpop1 (ho:PE X o td)(he:PE X e ty)(m:M1 X o "pop" apos e cpos):PE X (.Call (.Attribute o "pop" apos) [e] [] cpos) (tDPop1 td ty):=by
 intro pins s σ H Q I h
 refine wpAny_Call_method m.base m.few m.line PySem.F.plainAttrs_dict PySem.F.slot_dict_pop PySem.F.type_dict_pop (thn (ho pins s σ H _ I h) fun u s1 ⟨x,H1,I1,rx,a,ex,d,q1⟩=>?_)
 subst ex
 obtain rfl:u=Value.ref a:=rx
 obtain⟨t1,t2,_⟩:=isD_at I1 d
 refine⟨t1,t2,?_⟩
 rw[m.trees]
 refine Calls.callWith_builtin rfl (Calls.evalArgs_plain (Calls.spliced_cons (thn (he pins s1 σ H1 _ I1 q1) fun iv s2 ⟨y,H2,I2,ry,kvs,k,v,ea,ey,l,q2⟩=>Calls.spliced_nil ?_)))
 subst ey
 exact d_pop I2 ea ry l (.inl rfl) fun w' s3 I3 rw'=>⟨v,_,I3,rw',q2⟩
end
section
variable {X:Cx} {pins:List (Addr×Obj)} {σ:St} {H:Hp} {s:Shared} {a:Addr} {kvs:List (Key×V)} {A:Around} {E:Value->Shared->Prop}
end
section
variable {X:Cx} {pins:List (Addr×Obj)} {σ:St} {H:Hp} {s:Shared} {a:Addr} {y:V} {u:Value} {A:Around} {E:Value->Shared->Prop}
end
end L2
set_option Elab.async false
set_option linter.all false
set_option maxRecDepth 100000
set_option maxHeartbeats 4000000
namespace L2
open PySem PySem.Spec PyProof.Rows
section
variable {X:Cx} {pos:Pos}
end
end L2
set_option Elab.async false
set_option linter.all false
set_option maxRecDepth 100000
set_option maxHeartbeats 4000000
namespace L2
open PySem PySem.Spec PyProof.Rows
section
variable {X:Cx} {pins:List (Addr×Obj)} {σ:St} {H:Hp} {s:Shared} {h':Heap}
theorem Inv.turnLaid {fp:List Addr}{a:Addr}{o:HO}{t':Nat}(I:Inv X pins σ H s)(k:∀ b u,b∉fp->s.heap.get? b=some u->h'.get? b=some u)(hf:∀ b∈fp,FpOk X pins H b)
 (hp:s.heap.objs.size<=a) (new:ObjOk X.prog X.w (upd H a o) h' a o):Inv X pins σ (upd H a o) { s with heap:=h',toks:=t' }:=by
 have hn:=I.hok.fresh hp
 have nf:∀ b u,H b=some u->b∉fp:=fun b u e z=>by rw[(hf b z).1] at e;cases e
 refine I.step (g':=s.gens) (d':=s.drawn) (ch:=fp) (fun b hb=>⟨(hf b hb).2.2.2.1,(hf b hb).2.1,(hf b hb).2.2.2.2.1,(hf b hb).2.2.2.2.2⟩) (fun b o _ _ hc e _=>k b o hc e) (fun b o _ _ hc e _=>⟨o.slots,k b o hc e⟩)
  (fun b o _ e n=>by rw[upd_ne (Nat.ne_of_lt (Nat.lt_of_lt_of_le (Heap.lt_size e) hp))];exact n) (fun b o hc e=>⟨o,k b o hc e⟩) (fun b xs e=>by rw[upd_ne (ne_of_none e hn)];exact e)
  (fun b o u e=>by rw[upd_ne (ne_of_none e hn)];exact e) (fun b ps e=>⟨#[],by rw[upd_ne (ne_of_none e hn),e];simp⟩) (fun m hm=>?_) (fun b u e=>?_) I.bare
 ·obtain⟨o,es,ep,ho,r⟩:=hm
  exact⟨o,es,ep,k _ o (fun z=>(hf _ z).2.1 rfl) ho,r⟩
 ·by_cases hb:b=a
  ·subst hb;rw[upd_same] at e;cases e;exact new
  ·rw[upd_ne hb] at e
   refine(I.hok b u e).stay (fun c v hc q=>k c v ?_ q) (fun c q=>by rw[upd_ne (ne_of_none q hn)];exact q) fun c xs q=>by rw[upd_ne (ne_of_none q hn)];exact q
   rcases hc with z | z
   ·rw[z];exact nf b u e
   ·exact nf c _ z
theorem Inv.turnedL {fp:List Addr}{t':Nat}(I:Inv X pins σ H s)(k:∀ b u,b∉fp->s.heap.get? b=some u->h'.get? b=some u)(hf:∀ b∈fp,FpOk X pins H b):Inv X pins σ H { s with heap:=h',toks:=t' }:=by
 have nf:∀ b u,H b=some u->b∉fp:=fun b u e z=>by rw[(hf b z).1] at e;cases e
 refine I.step (g':=s.gens) (d':=s.drawn) (ch:=fp) (fun b hb=>⟨(hf b hb).2.2.2.1,(hf b hb).2.1,(hf b hb).2.2.2.2.1,(hf b hb).2.2.2.2.2⟩) (fun b o _ _ hc e _=>k b o hc e) (fun b o _ _ hc e _=>⟨o.slots,k b o hc e⟩)
  (fun b o _ e n=>n) (fun b o hc e=>⟨o,k b o hc e⟩) (fun b xs e=>e) (fun b o u e=>e) (fun b ps e=>⟨#[],by rw[e];simp⟩) (fun m hm=>?_) (fun b u e=>?_) I.bare
 ·obtain⟨o,es,ep,ho,r⟩:=hm
  exact⟨o,es,ep,k _ o (fun z=>(hf _ z).2.1 rfl) ho,r⟩
 ·refine(I.hok b u e).stay (fun c v hc q=>k c v ?_ q) (fun c q=>q) fun c xs q=>q
  rcases hc with z | z
  ·rw[z];exact nf b u e
  ·exact nf c _ z
end
namespace En
section
variable {prog:Program} {w:World} {A:Around} {E:Value->Shared->Prop} {s:Shared}
theorem next_pair {e it:Addr}{fp:List Addr}{n i:Nat}{j:Int}{P:Nat->Value->Prop}{St:Nat->Heap->Prop}{old:Value}{Q:Option Value->Shared->Prop}(D:Draws prog w A.in1 it fp n P St)
 (he:IsEnum s.heap e it j old) (hst:St i s.heap) (hlt:i < n) (hne:e≠it) (hef:e∉fp)
 (hQ:∀ x h' tk,P i x->IsEnumOut h' e it (j+ 1) x s.heap.objs.size->St (i+ 1) h'->h'.get? s.heap.objs.size=some { cls:=.type "tuple",data:=.seq #[.int j tk,x] }->
  (∀ b o,b≠e->b≠it->s.heap.get? b=some o->h'.get? b=some o)->Q (some (.ref s.heap.objs.size)) { s with heap:=h',toks:=tk+ 1 }):
 wpAny (model prog w) A (pyNext (.ref e)) Q E s:=by
 have hT:s.TypeIs (.ref e) "enumerate":=⟨_,he,rfl⟩
 unfold pyNext
 refine wpAny_bind (wpAny_attempt (wpAny_callSpecial?_slot (name:=Str.ofString "__next__") hT F.slot_enumerate_next (wpAny_call_entry F.slot_enumerate_next hT F.entry_enumerate_next ?_ (F.args_enumerate_next_1 _))))
 obtain⟨hp,g,d,tk₀,os⟩:=s
 show wpAny _ _ (field (.ref e) 2 >>=_) _ _ _
 refine wpAny_bind (wpAny_field he rfl (x:=.ref it) rfl (wpAny_bind (D.item i _ _ _ hlt hst fun x h₁ tk hPx hit₁ hs₁=>?_)))
 replace hs₁:Heap.SameBut it hp h₁:=hs₁
 have he₁:IsEnum h₁ e it j old:=(hs₁.2 e hne).trans he
 show wpAny _ _ (field (.ref e) 3 >>=_) _ _ ⟨h₁,g,d,tk,os⟩
 refine wpAny_bind (wpAny_field he₁ rfl (x:=rawInt j) rfl ?_)
 show wpAny _ _ (field (.ref e) 4 >>=_) _ _ ⟨h₁,g,d,tk,os⟩
 refine wpAny_bind (wpAny_field he₁ rfl (x:=.none) rfl ?_)
 show wpAny _ _ (mkInt j >>=_) _ _ ⟨h₁,g,d,tk,os⟩
 refine wpAny_bind (wpAny_mkInt ?_)
 show wpAny _ _ (setField (.ref e) 3 (rawInt (j+ 1)) >>=_) _ _ ⟨h₁,g,d,tk+ 1,os⟩
 refine wpAny_bind (wpAny_setField_rec he₁ (by simp) fun h₂ he₂ hs₂=>?_)
 replace hs₂:Heap.SameBut e h₁ h₂:=hs₂
 replace he₂:IsEnum h₂ e it (j+ 1) old:=he₂
 show wpAny _ _ (setField (.ref e) 4 .none >>=_) _ _ ⟨h₂,g,d,tk+ 1,os⟩
 refine wpAny_bind (wpAny_setField_rec he₂ (by simp) fun h₃ he₃ hs₃=>?_)
 replace hs₃:Heap.SameBut e h₂ h₃:=hs₃
 replace he₃:IsEnum h₃ e it (j+ 1) old:=he₃
 show wpAny _ _ (newTuple [.int j tk,x] >>=_) _ _ ⟨h₃,g,d,tk+ 1,os⟩
 refine wpAny_bind (wpAny_newTuple ?_)
 have he₄:IsEnum (h₃.push { cls:=.type "tuple",data:=.seq #[.int j tk,x] }) e it (j+ 1) old:=Heap.get?_push_of_some _ he₃
 generalize hh₄:h₃.push { cls:=.type "tuple",data:=.seq #[.int j tk,x] }=h₄ at he₄
 have hsz:h₃.objs.size=hp.objs.size:=by rw[hs₃.1,hs₂.1,hs₁.1]
 have hel:e < hp.objs.size:=Heap.lt_size he
 have ht₄:h₄.get? hp.objs.size=some { cls:=.type "tuple",data:=.seq #[.int j tk,x] }:=by rw[← hh₄,← hsz];exact Heap.get?_push_size _ rfl
 have hk₄:∀ b o,b≠e->b≠it->hp.get? b=some o->h₄.get? b=some o:=fun b o hbe hbi hb=>by
  rw[← hh₄]
  exact Heap.get?_push_of_some _ (hs₃.extBut b o hbe (hs₂.extBut b o hbe (hs₁.extBut b o hbi hb)))
 have hit₄:St (i+ 1) h₄:=D.frame _ _ _ hit₁ fun b hb o y=>by
  have hbe:b≠e:=fun q=>hef (q ▸ hb)
  rw[← hh₄]
  exact Heap.get?_push_of_some _ (hs₃.extBut b o hbe (hs₂.extBut b o hbe y))
 show wpAny _ _ (Builtin.SmallTypes.ownedTupleIsFree (.ref e) >>=_) _ _ ⟨h₄,g,d,tk+ 1,os⟩
 rw[hsz]
 clear hh₄ he₃ hs₃ he₂ hs₂ he₁ hs₁ hit₁ hsz h₃ h₂ h₁
 refine wpAny_bind ?_
 unfold Builtin.SmallTypes.ownedTupleIsFree
 refine wpAny_bind (wpAny_field he₄ rfl (x:=.none) rfl (wpAny_pure ?_))
 simp only[if_true]
 refine wpAny_bind (wpAny_rule (wpAny_bind (wpAny_field he₄ rfl (x:=old) rfl (wpAny_bind (wpAny_setField_rec he₄ (by simp) fun h₅ he₅ hs₅=>?_)))))
 replace hs₅:Heap.SameBut e h₄ h₅:=hs₅
 replace he₅:IsEnum h₅ e it (j+ 1) x:=he₅
 show wpAny _ _ (Builtin.SmallTypes.ownedTupleHandOut (.ref e) (.ref hp.objs.size) >>=_) _ _ ⟨h₅,g,d,tk+ 1,os⟩
 refine wpAny_bind ?_
 unfold Builtin.SmallTypes.ownedTupleHandOut
 refine wpAny_bind (wpAny_setField_rec he₅ (by simp) fun h₆ he₆ hs₆=>?_)
 replace hs₆:Heap.SameBut e h₅ h₆:=hs₆
 replace he₆:IsEnumOut h₆ e it (j+ 1) x hp.objs.size:=he₆
 refine wpAny_setField_rec he₆ (by simp) fun h₇ he₇ hs₇=>?_
 replace hs₇:Heap.SameBut e h₆ h₇:=hs₇
 replace he₇:IsEnumOut h₇ e it (j+ 1) x hp.objs.size:=he₇
 refine wpAny_bind (wpAny_letGo (wpAny_pure ⟨_,rfl,wpAny_pure (hQ x h₇ tk hPx he₇ ?_ ?_ ?_)⟩))
 ·exact D.frame _ _ _ hit₄ fun b hb o y=>by
   have hbe:b≠e:=fun q=>hef (q ▸ hb)
   exact hs₇.extBut b o hbe (hs₆.extBut b o hbe (hs₅.extBut b o hbe y))
 ·exact hs₇.extBut _ _ (Nat.ne_of_gt hel) (hs₆.extBut _ _ (Nat.ne_of_gt hel) (hs₅.extBut _ _ (Nat.ne_of_gt hel) ht₄))
 ·exact fun b o hbe hbi hb=>hs₇.extBut b o hbe (hs₆.extBut b o hbe (hs₅.extBut b o hbe (hk₄ b o hbe hbi hb)))
end
end En
end L2
set_option Elab.async false
set_option linter.all false
set_option maxRecDepth 100000
set_option maxHeartbeats 4000000
namespace L2
open PySem PySem.Spec PyProof.Rows
section
variable {X:Cx}
end
end L2
set_option Elab.async false
set_option linter.all false
set_option maxRecDepth 100000
set_option maxHeartbeats 4000000
namespace L2
open PySem PySem.Spec PyProof.Rows
section
variable {X:Cx}
def tCutT (t:TT):TT:=fun σ H Q=>∃ G:Bool->Hp->Prop,t σ H G/\∀ c H',G c H'->Q c H'
theorem pt_cut {e:Expr}{t:TT}(h:PT X e t):PT X e (tCutT t):=by
 intro pins s σ H Q I ⟨G,h1,h2⟩
 refine thn (h pins s σ H G I h1) fun b s' ⟨H',I',g⟩=>?_
 exact⟨H',I',h2 b H' g⟩
end
end L2
set_option Elab.async false
set_option linter.all false
set_option maxRecDepth 100000
set_option maxHeartbeats 4000000
namespace L2
open PySem PySem.Spec PyProof.Rows
def CXw (P:Program)(w:World):CXT:=fun outer H s E e s'=>∃(x C:Addr) (B:Heap) (H':Hp) (a0:Value),e=.ref x/\s'.os=s.os/\AllBare s'.gens/\Heap.FlyingW B outer x (.ref C) a0 s'.heap/\
 Un (frs outer) [] H H' s.heap s'.heap/\HOk P w H' B/\(∀ b o,s.heap.get? b=some o->H b=none->b∉frs outer->B.get? b=some o)/\(∀ b o,s.heap.get? b=some o->b∉frs outer->∃ o',B.get? b=some o')/\E (.ref C) none H'
section
variable {P:Program} {w:World} {K:PySem.W.Frag} {mg:Str->Option Value} {base:Heap} {N:List Str} {qual:Str} {scope:Scope} {f:Addr} {cd:Value} {A:Around} {outer:List Env} {s:Shared} {H:Hp} {E:XK}
 {pins:List (Addr×Obj)} {σ:St} {H1:Hp} {s1:Shared}
end
end L2
set_option Elab.async false
set_option linter.all false
set_option maxRecDepth 100000
set_option maxHeartbeats 4000000
namespace L2
open PySem PySem.Spec PyProof.Rows
section
variable {X:Cx} {pos:Pos}
end
section
variable {P:Program} {w:World} {K:PySem.W.Frag} {mg:Str->Option Value} {base:Heap}
end
end L2
set_option Elab.async false
set_option linter.all false
set_option maxRecDepth 100000
set_option maxHeartbeats 4000000
namespace L2
open PySem PySem.Spec PyProof.Rows
theorem ObjOk.get {P:Program}{w:World}{H:Hp}{h:Heap}{a:Addr}{o:HO}(x:ObjOk P w H h a o):∃ u,h.get? a=some u:=by
 cases o with
 | lst xs=>obtain⟨_,_,_,_,e⟩:=x;exact⟨_,e⟩
 | tup xs=>obtain⟨_,_,_,ob,e,_⟩:=x;exact⟨_,e⟩
 | dK kvs=>obtain⟨_,_,_,_,o,_,_,e,_⟩:=x;exact⟨_,e⟩
 | dT kvs=>obtain⟨_,_,_,_,o,_,_,e,_⟩:=x;exact⟨_,e⟩
 | set S n=>obtain⟨o,_,_,_,e,_⟩:=x;exact⟨_,e⟩
 | ins C dx fs=>obtain⟨_,_,_,e,_⟩:=x;exact⟨_,e⟩
 | own y=>exact x
 | xd fs=>obtain⟨_,⟨_,_,_,e,_⟩,_⟩:=x;exact⟨_,e⟩
 | rng lo hi=>obtain⟨_,_,_,e⟩:=x;exact⟨_,e⟩
 | frz ob u=>obtain⟨e,_⟩:=x;exact⟨_,e⟩
 | tbl ps=>exact⟨_,show h.get? a=some _ from x⟩
 | met f y=>exact⟨_,show h.get? a=some _ from x⟩
 | ext φ=>obtain⟨_,e,_⟩:=x;exact e
def ExAt (x C:Addr)(h:Heap):Prop:=∃ ob vs,h.get? x=some ob/\ob.cls=.ref C/\ob.data=.fields vs
theorem ExAt.stay {x C:Addr}{h1 h2:Heap}(p:ExAt x C h1)(k:∀ o,h1.get? x=some o->h2.get? x=some o):ExAt x C h2:=by
 obtain⟨ob,vs,e,r⟩:=p
 exact⟨ob,vs,k _ e,r⟩
def Thr (X:Cx)(pins:List (Addr×Obj))(σ:St)(H':Hp)(x C:Addr)(s:Shared):Prop:=
 ∃(B:Heap) (H1:Hp) (s1:Shared) (a0:Value),Inv X pins σ H1 s1/\s.os=s1.os/\AllBare s.gens/\Heap.FlyingW B X.stack x (.ref C) a0 s.heap/\Un (frs X.stack) [] H1 H' s1.heap s.heap/\HOk X.prog X.w H' B/\
  (∀ b o,s1.heap.get? b=some o->H1 b=none->b∉frs X.stack->B.get? b=some o)/\(∀ b o,s1.heap.get? b=some o->b∉frs X.stack->∃ o',B.get? b=some o')
section
variable {X:Cx} {pins:List (Addr×Obj)} {σ:St} {H':Hp} {x C:Addr} {s:Shared}
theorem Thr.of {E:XK}{H:Hp}{s1:Shared}{e:Value}(I:Inv X pins σ H s1)(cx:CXw X.prog X.w X.stack H s1 E e s):∃ x C H',e=.ref x/\Thr X pins σ H' x C s/\E (.ref C) none H':=by
 obtain⟨x,C,B,H',a0,rfl,os,bare,fl,un,hokB,kb,tb,q⟩:=cx
 exact⟨x,C,H',rfl,⟨B,H,s1,a0,I,os,bare,fl,un,hokB,kb,tb⟩,q⟩
theorem Inv.noRec {H:Hp}{s1:Shared}(I:Inv X pins σ H s1){b:Addr}(hb:b∈frs X.stack):∃ o,s1.heap.get? b=some o/\∀ vs,o.data≠.fields vs:=by
 obtain⟨_,o,e,n⟩:=I.stack.mem hb
 exact⟨o,e,n⟩
theorem Thr.look {Q:Unit->Shared->Prop}{E:Value->Shared->Prop}{A:Around}(t:Thr X pins σ H' x C s)(hst:X.stack=X.env :: X.outer)(hf:X.env.frame=some X.env.locals)(hA:A.frames=some X.stack)
 (h:∀ h',Thr X pins σ H' x C { s with heap:=h' }->Q () { s with heap:=h' }):
 wpAny (model X.prog X.w) A (noteFrame (.ref x) X.env) (fun _ s2=>wpAny (model X.prog X.w) A (setFlight (.ref x) none) Q E s2) E s:=by
 obtain⟨B,H1,s1,a0,I,os,bare,fl,un,hok,kb,tb⟩:=t
 have fl':=fl
 rw[hst] at fl'
 refine wpAny_looks_onW (base:=B) (hA.trans (by rw[hst])) hf fl' fun h2 hh u1=>?_
 refine wpAny_landsW hh fun h3 fl3 u2=>h h3 ?_
 have u:=u1.trans u2
 have fr:∀ b o,s1.heap.get? b=some o->b∈frs X.stack->∃ sl,h3.get? b=some { o with slots:=sl }:=fun b o e hb=>by
  obtain⟨o2,e2,nr⟩:=I.noRec hb
  rw[e] at e2
  cases e2
  obtain⟨sl,e4⟩:=un.slot b o e (I.stkFree b hb) hb (by simp)
  obtain⟨sl2,e5⟩:=u b _ e4 nr
  exact⟨sl2,e5⟩
 refine⟨B,H1,s1,a0,I,os,bare,by rw[hst];exact fl3,⟨fun b o e1 e2 e3 _=>fl3.1 b o (kb b o e1 e2 e3),fun b o e1 _ e3 _=>fr b o e1 e3,un.free,fun b o e1 _=>?_,un.tups,un.frzs,un.tbls⟩,hok,kb,tb⟩
 by_cases hb:b∈frs X.stack
 ·obtain⟨sl,e5⟩:=fr b o e1 hb
  exact⟨_,e5⟩
 ·obtain⟨o',e4⟩:=tb b o e1 hb
  exact⟨o',fl3.1 b o' e4⟩
theorem Thr.again {Q:Unit->Shared->Prop}{E:Value->Shared->Prop}{A:Around}(t:Thr X pins σ H' x C s)(h:∀ h',Thr X pins σ H' x C { s with heap:=h' }->Q () { s with heap:=h' }):
 wpAny (model X.prog X.w) A (setFlight (.ref x) none) Q E s:=by
 obtain⟨B,H1,s1,a0,I,os,bare,fl,un,hok,kb,tb⟩:=t
 refine lands_againW fl fun h3 fl3 u=>h h3 ?_
 have fr:∀ b o,s1.heap.get? b=some o->b∈frs X.stack->∃ sl,h3.get? b=some { o with slots:=sl }:=fun b o e hb=>by
  obtain⟨o2,e2,nr⟩:=I.noRec hb
  rw[e] at e2
  cases e2
  obtain⟨sl,e4⟩:=un.slot b o e (I.stkFree b hb) hb (by simp)
  obtain⟨sl2,e5⟩:=u b _ e4 nr
  exact⟨sl2,e5⟩
 refine⟨B,H1,s1,a0,I,os,bare,fl3,⟨fun b o e1 e2 e3 _=>fl3.1 b o (kb b o e1 e2 e3),fun b o e1 _ e3 _=>fr b o e1 e3,un.free,fun b o e1 _=>?_,un.tups,un.frzs,un.tbls⟩,hok,kb,tb⟩
 by_cases hb:b∈frs X.stack
 ·obtain⟨sl,e5⟩:=fr b o e1 hb
  exact⟨_,e5⟩
 ·obtain⟨o',e4⟩:=tb b o e1 hb
  exact⟨o',fl3.1 b o' e4⟩
theorem Thr.none (t:Thr X pins σ H' x C s):H' x=none:=by
 obtain⟨B,H1,s1,a0,I,os,bare,fl,un,hok,kb,tb⟩:=t
 cases e:H' x with
 | none=>rfl
 | some u=>
   obtain⟨o,e1⟩:=(hok x u e).get
   rw[fl.2.1] at e1
   cases e1
theorem Thr.at (t:Thr X pins σ H' x C s):ExAt x C s.heap:=by
 obtain⟨B,H1,s1,a0,I,os,bare,fl,un,hok,kb,tb⟩:=t
 obtain⟨oe,vs,he,hc,hd,_⟩:=fl.first
 exact⟨oe,vs,he,hc,hd⟩
end
abbrev XR:=Addr->St->Hp->Prop
def XP (X:Cx)(pins:List (Addr×Obj))(R:XR)(e:Value)(s:Shared):Prop:=∃ x C σ H,e=.ref x/\Thr X pins σ H x C s/\R C σ H
section
variable {X:Cx} {k:Nat} {f:Addr} {fd:FuncData} {ps:List Str} {sp:Sp} {x:Str} {p pos:Pos} {e:Expr} {es:List Expr} {t:TA}
end
abbrev TH:=Ends->Addr->St->Hp->Prop
section
variable {X:Cx} {y n:Str} {Y:Addr} {np pos:Pos} {b₀:Stmt} {suite:List Stmt} {rest:List ExceptHandler} {tb:TS} {tr:TH} {i:Nat}
end
end L2
set_option Elab.async false
set_option linter.all false
set_option maxRecDepth 100000
set_option maxHeartbeats 4000000
namespace L2
open PySem PySem.Spec PyProof.Rows PySem.Calls PySem.W Builtin Builtin.ObjectAttr Builtin.Getset_descriptor
structure ExcI (K:PySem.W.Frag) (C:Addr):Prop where
 ga:findIn K (.ref C) "__getattribute__"=some (some (.builtin "BaseException.__getattribute__"))
 gt:findIn K (.ref C) "__getattr__"=some none
 cl:isClsIn K C=true
 at_:findIn K (.ref C) "__class__"=some (some (.builtin "object.__class__"))
 gs:specialIn K (.builtin "object.__class__") "__get__"=some (some (.builtin "getset_descriptor.__get__"))
 tk:takesIn K (.builtin "object.__class__")=some true
 mo:mroIn K C (.type "object")=some true
 be:subIn K (.ref C) (.type "BaseException")=some true
section
variable {prog:Program} {w:World} {A:Around} {E:Value->Shared->Prop} {s:Shared} {K:PySem.W.Frag} {x C:Addr}
end
section
variable {X:Cx}
end
end L2
set_option Elab.async false
set_option linter.all false
set_option maxRecDepth 100000
set_option maxHeartbeats 4000000
namespace L2
open PySem PySem.Spec PyProof.Rows
section
variable {P:Program} {w:World} {K:PySem.W.Frag} {mg:Str->Option Value} {base:Heap}
end
end L2
set_option Elab.async false
set_option linter.all false
set_option maxRecDepth 100000
set_option maxHeartbeats 4000000
namespace L2
open PySem PySem.Spec PyProof.Rows
section
variable {X:Cx}
theorem mul_one:∀ n:Nat,n<=64->∀ c∈[40,41],Txt.mul (tx [c]) (n:Int)=tx (List.replicate n c):=by decide +kernel
end
end L2
set_option Elab.async false
set_option linter.all false
set_option maxRecDepth 100000
set_option maxHeartbeats 4000000
namespace L2
open PySem PySem.Spec PyProof.Rows
section
variable {prog:Program} {w:World} {A:Around} {R:Result->Shared->Prop} {s:Shared}
theorem compLoopIf_go {elt target iter c:Expr}{scope:Scope}{pos:Pos}{it acc:Value}{env:Env}(I:Nat->Shared->Prop)
 (turn:∀ n s,I n s->wpAny (model prog w) A (pyNext it) (fun r s₁=>match r with
  | none=>R (.ok .next) s₁
  | some v=>wpAny (model prog w) A (letOwnedTupleGo target it v) (fun _ s₀=>wpAny (model prog w) A (assign target env v) (fun _ s₂=>wpAny (model prog w) A (isTrue c env (eval c env)) (fun b s₅=>
   match b with
   | true=>wpAny (model prog w) A (eval elt env) (fun x s₃=>wpAny (model prog w) A (call (.builtin "list.append") [acc,x]) (fun _ s₄=>∃ m,m < n/\I m s₄) (fun _ _=>False) s₃) (fun _ _=>False) s₅
   | false=>∃ m,m < n/\I m s₅) (fun _ _=>False) s₂) (fun _ _=>False) s₀) (fun _ _=>False) s₁) (fun _ _=>False) s)
 (n:Nat) (h:I n s):codeAny (model prog w) A (.compLoop (.ListComp elt [⟨target,iter,[c],0⟩] scope pos) 0 it acc env) R s:=by
 refine codeAny_loop rfl I (fun n s hI=>?_) n h
 show wpAny _ _ ((compTurn (.ListComp elt [⟨target,iter,[c],0⟩] scope pos) 0 it acc env).onRaise (fun x=>do noteFrame x env;theTreesLotGoes x)) _ _ s
 refine wpAny_noted ?_
 rw[compTurn_list]
 refine wpAny_bind (wpAny_standAt (wpAny_bind (wpAny_mono (turn n s hI) (fun r s₁ h₁=>?_) fun _ _ h'=>h'.elim)))
 cases r with
 | none=>exact wpAny_pure h₁
 | some v=>
   refine wpAny_bind (wpAny_mono h₁ (fun _ s₀ h₀=>?_) fun _ _ h'=>h'.elim)
   refine wpAny_bind (wpAny_mono h₀ (fun _ s₂ h₂=>wpAny_bind (wpAny_tests_one (wpAny_mono h₂ (fun ok s₃ h₃=>?_) fun _ _ h'=>h'.elim))) fun _ _ h'=>h'.elim)
   cases ok with
   | false=>exact wpAny_pure ⟨rfl,h₃⟩
   | true=>
     exact wpAny_bind (wpAny_bind (wpAny_mono h₃ (fun x s₄ h₄=>wpAny_bind (wpAny_mono h₄ (fun _ s₅ h₅=>wpAny_pure (wpAny_pure ⟨rfl,h₅⟩)) fun _ _ h'=>h'.elim)) fun _ _ h'=>h'.elim))
end
def CompGoIf (tt:TT)(te:TE)(fv:St)(Q:VK)(J:It)(H1:Hp):Prop:=∃ W:Nat->Nat->List V->Hp->Prop,(∃ m,W 0 m [] H1)/\∀ i m ys H2,W i m ys H2->
 (J.stop i H2/\ys.length<=sizeLine/\∀ D,H2 D=none->Q (.ref D) (upd H2 D (.lst ys)))\/
 (J.go i H2/\ys.length < sizeLine/\∀ x H3,J.yld i H2 x H3->tt (some x :: fv) H3 fun b H4=>match b with
  | true=>te (some x :: fv) H4 fun y H5=>∃ m',m' < m/\W (i+ 1) m' (ys++[y]) H5
  | false=>∃ m',m' < m/\W (i+ 1) m' ys H4)
def tCompIf (wi:TI)(fv:St->St)(tt:TT)(te:TE):TE:=fun σ H Q=>wi σ H (CompGoIf tt te (fv σ) Q)
section
variable {X:Cx} {elt iter cnd:Expr} {x:Str} {px pos:Pos} {scope:Scope} {cl:List (Str×Addr)} {fns:List Str} {ixs:List Nat} {wi:TI} {tt:TT} {te:TE}
end
end L2
set_option Elab.async false
set_option linter.all false
set_option maxRecDepth 10000
set_option maxHeartbeats 400000
namespace L2
open PySem PySem.Spec PyProof.Rows
section
variable {X:Cx}
end
end L2
set_option Elab.async false
set_option linter.all false
set_option maxRecDepth 100000
set_option maxHeartbeats 4000000
namespace L2
open PySem PySem.Spec PyProof.Rows
section
variable {X:Cx}
end
end L2
set_option Elab.async false
set_option linter.all false
set_option maxRecDepth 100000
set_option maxHeartbeats 4000000
namespace L2
open PySem PySem.Spec PyProof.Rows
section
variable {X:Cx} {tg:Expr}
end
end L2
set_option Elab.async false
set_option linter.all false
set_option maxRecDepth 100000
set_option maxHeartbeats 4000000
namespace L2
open PySem PySem.Spec PyProof.Rows
section
variable {X:Cx} {elt iter cnd:Expr} {x:Str} {px pos:Pos} {scope:Scope} {cl:List (Str×Addr)} {fns:List Str} {ixs:List Nat} {wi:TI} {tt:TT} {te:TE}
theorem ps_setCompIf {iy:Nat}{y:Str}{py spos:Pos}(hN:X.N.Nodup)(hiy:X.N[iy]?=some y)(hy:Loc X.env.scope y)(hc:X.calm=true)(hi:PI X (.Name x px) iter wi)(S:CompScope X x fns ixs scope cl)
 (ht:∀(C:Addr) (s:Shared) (H:Hp) (ex:List Addr),PT (cxComp X (x :: fns) scope cl C s H ex) cnd tt) (he:∀(C:Addr) (s:Shared) (H:Hp) (ex:List Addr),PE (cxComp X (x :: fns) scope cl C s H ex) elt te)
 (hs:∀ x,foldedSetIterable iter X.env x=pure x:=by intro _;rfl) (hsw:swapsWith (.ListComp elt [⟨.Name x px,iter,[cnd],0⟩] scope pos) (some (.Name y py)) spos.line X.env=pure true:=by rfl)
 (hfy:X.fn y=true\/X.env.scope.names.lookup y=some .local:=by first | exact .inl rfl | exact .inr rfl | assumption):
 PS X (.Assign [.Name y py] (.ListComp elt [⟨.Name x px,iter,[cnd],0⟩] scope pos) spos) (tAsg (tCompIf wi (fvOf ixs) tt te) (gName iy)):=by
 intro pins s σ H DD I h
 rw[exec_Assign_Name_used _ _ _ _ hsw]
 refine wpAny_bind (wpAny_standAt (wpAny_bind ?_))
 show wpAny _ X.A (do let _ ← comprehension (.ListComp elt [⟨.Name x px,iter,[cnd],0⟩] scope pos) scope X.env _ (newList []) false (eval iter X.env) (some (assign (.Name y py) X.env))) _ _ s
 refine wpAny_bind (wpAny_mono (wpAny_comprehension_free (use:=some (assign (.Name y py) X.env)) (Q:=fun _ s'=>SP X pins DD .next s') rfl hs S.clos S.kind S.names (thn (hi pins s σ H _ I h) fun v s1 h1=>thn h1 fun itv s2 h2=>?_)) (fun _ s' hq=>wpAny_pure (wpAny_pure hq)) fun _ _ e=>e)
 obtain⟨it,fp,tn,J,H2,e,I2,T,st2,f2,W,⟨m0,w0⟩,turn⟩:=h2
 subst e
 have hfpLt:∀ b∈fp,b < s2.heap.objs.size:=fun b hb=>by
  obtain⟨o,ho,_⟩:=T.obj _ _ st2 b hb
  exact Heap.lt_size ho
 refine wpAny_newObj_type (wpAny_newFunctionEnv S.cell (by intro y hy;simp at hy) (fun h₁ hns₁ hsb₁=>?_) S.kind)
 dsimp only at hns₁ hsb₁ ⊢
 generalize hH3:s2.heap.push { cls:=.type "list",dict:=none,data:=.seq ([]:List Value).toArray }=hp3 at hns₁ hsb₁ ⊢
 generalize hD:s2.heap.objs.size=D at hfpLt ⊢
 have hC:hp3.objs.size=D+ 1:=by rw[← hH3,Heap.size_push,hD]
 generalize hCe:hp3.objs.size=C at hC hns₁ hsb₁ ⊢
 have hDltC:D < C:=by omega
 have hDC:D≠C:=Nat.ne_of_lt hDltC
 have k23:∀ b u,s2.heap.get? b=some u->hp3.get? b=some u:=fun b u q=>by rw[← hH3];exact Heap.get?_push_of_some _ q
 have ltD:∀{b u},s2.heap.get? b=some u->b < D:=fun q=>by rw[← hD];exact Heap.lt_size q
 have k34:∀ b u,hp3.get? b=some u->h₁.get? b=some u:=fun b u q=>
  hsb₁.extBut b u (Nat.ne_of_lt (Nat.lt_of_lt_of_le (Heap.lt_size q) (Nat.le_of_eq hCe))) (Heap.get?_push_of_some _ q)
 have hDo:hp3.get? D=some { cls:=.type "list",dict:=none,data:=.seq ([]:List Value).toArray }:=by rw[← hH3,← hD];exact Heap.get?_push_size _ rfl
 have I3:Inv X pins σ H2 { s2 with heap:=hp3 }:=I2.kept (t':=s2.toks) k23
 have hnD:H2 D=none:=I2.hok.fresh (by omega)
 have hnC:H2 C=none:=I2.hok.fresh (by omega)
 have nstk:∀ b∈D :: fp,b∉frs X.stack:=fun b hb z=>by
  rcases List.mem_cons.mp (I2.stkSub b z) with e | z
  ·rcases List.mem_cons.mp hb with e2 | hb
   ·exact absurd I2.lt (by rw[← e,e2,← hD];exact Nat.lt_irrefl _)
   ·exact(f2 b hb).2.1 e
  ·rcases List.mem_cons.mp hb with e2 | hb
   ·exact I2.nofs (by rw[e2,← hD];exact Nat.le_refl _) z
   ·exact(f2 b hb).2.2.1 z
 have cne:∀ y c,cl.lookup y=some c->∀ b∈D :: fp,c≠b:=fun y c q b hb z=>by
  obtain⟨v,hv⟩:=I2.cell y c (S.sub y c q)
  rcases List.mem_cons.mp hb with e2 | hb
  ·exact absurd hv.lt (by rw[z,e2,← hD];exact Nat.lt_irrefl _)
  ·exact(f2 b hb).2.2.2.2.1 y c (S.sub y c q) z
 -- the block's context
 let Xc:Cx:=cxComp X (x :: fns) scope cl C { s2 with heap:=hp3 } H2 (D :: fp)
 have ok:Xc.Ok:={
  mod:=I2.ok.mod
  kind:=S.kind
  glob:=I2.ok.glob
  blt:=I2.ok.blt
  above:=by show hp3.objs.size<=C;omega
  inj:=fun y z c q1 q2=>I2.ok.inj y z c (S.sub _ _ q1) (S.sub _ _ q2)
  has:=S.has
  cab:=fun y c q=>nomatch q
  hd:=I2.ok.hd
  frames:=I2.ok.frames
  stk:=.inl rfl
  exf:=fun b hb=>⟨by
   rcases List.mem_cons.mp hb with e2 | hb
   ·rw[e2];exact hDC
   ·exact Nat.ne_of_lt (Nat.lt_trans (hfpLt b hb) hDltC),fun y c q=>cne y c q b hb⟩
  bs:=I3.bs
  bsz:=Nat.le_trans I3.ok.bsz I3.sz
  noex:=fun b o q hb=>by
   rcases List.mem_cons.mp hb with e2 | hb
   ·exact absurd (ltD (I2.bs b o q).1) (by rw[e2];exact Nat.lt_irrefl _)
   ·rcases (f2 b hb).2.2.2.1 with z | z
    ·exact I2.ok.noex b o q z
    ·exact absurd (Heap.lt_size (I2.ok.bs b o q).1) (Nat.not_lt.mpr z)
  exfs:=nstk
  funs:=I3.stack
  frf:=I3.stkFree }
 have start:∀(v0:Option V),v0=none->Inv Xc [(D,{ cls:=.type "list",dict:=none,data:=.seq ([]:List Value).toArray })] (v0 :: fvOf ixs σ) H2 { s2 with heap:=h₁,toks:=s2.toks+ ([]:List (Str×Value)).length }:=fun v0 hv0=>{
  ok:=ok
  os:=rfl
  bare:=I2.bare
  base:=Un.kept k34
  loc:=⟨_,hns₁,fun i y v e1 e2 e3=>by
   cases i with
   | zero=>rw[hv0] at e2;cases e2
   | succ j=>
     have e1':fns[j]?=some y:=e1
     have e2':(fvOf ixs σ)[j]?=some (some v):=e2
     obtain⟨i,hi1,hi2,hk,c,hc1,hc2⟩:=S.at_ j y e1'
     unfold fvOf at e2'
     rw[List.getElem?_map,hi1] at e2'
     have e3':σ[i]?=some (some v):=by
      have z:(σ[i]?).join=some v:=Option.some.inj e2'
      cases q:σ[i]? with
      | none=>rw[q] at z;cases z
      | some o=>rw[q] at z;rw[show o=some v from z]
     obtain⟨m,_,hl⟩:=I2.loc
     obtain⟨u,r,l⟩:=hl i y v hi2 e3' (hk.elim (fun z=>.inr (.inl z)) fun z=>.inr (.inr z))
     refine⟨u,r,.inr ⟨hc2,c,hc1,?_⟩⟩
     rcases l with ⟨z,_⟩ | ⟨_,c',hc',hcell⟩
     ·rcases hk with hk | hk <;> (rw[hk] at z;cases z)
     ·have:c'=c:=Option.some.inj (hc'.symm.trans (S.sub _ _ hc1))
      subst this
      obtain⟨o,ho,hd⟩:=hcell
      exact⟨o,k34 _ _ (k23 _ _ ho),hd⟩⟩
  cell:=fun y c q=>by
   obtain⟨v,o,ho,hd⟩:=I2.cell y c (S.sub y c q)
   exact⟨v,o,k34 _ _ (k23 _ _ ho),hd⟩
  free:=hnC
  freeC:=fun y c q=>I2.freeC y c (S.sub y c q)
  pin:=fun p hp=>by
   have hp':p=(D,{ cls:=.type "list",dict:=none,data:=.seq ([]:List Value).toArray }):=by simpa [Xc,cxComp] using hp
   subst hp'
   exact⟨k34 _ _ hDo,hnD,hDC,nstk D (List.mem_cons_self ..),fun v z=>nomatch z⟩
  hok:=(I2.hok.kept k23).kept k34
  len:=by show (v0 :: fvOf ixs σ).length=(x :: fns).length;simp[fvOf,S.len] }
 -- what stays true of the iterator's objects
 have fpc:∀{H':Hp} {pins':List (Addr×Obj)},(∀ b∈fp,H' b=none)->(∀ p∈pins',p.1=D)->∀ b∈fp,FpOk Xc pins' H' b:=fun{H' pins'} hn hp b hb=>
  ⟨hn b hb,Nat.ne_of_lt (Nat.lt_trans (hfpLt b hb) hDltC),nstk b (List.mem_cons_of_mem _ hb),.inl (List.mem_cons_of_mem _ hb),fun y c q=>cne y c q b (List.mem_cons_of_mem _ hb),fun p q=>by
   have q':p∈pins':=by simpa [Xc,cxComp] using q
   rw[hp p q']
   exact Nat.ne_of_gt (hfpLt b hb)⟩
 have loop:codeAny (model X.prog X.w) X.A (.compLoop (.ListComp elt [⟨.Name x px,iter,[cnd],0⟩] scope pos) 0 (.ref it) (.ref D) (compEnvC scope cl C X.env))
  (compPost (model X.prog X.w) X.A X.xe (some (assign (.Name y py) X.env)) (fun _ s'=>SP X pins DD .next s') (.ref D) C) { s2 with heap:=h₁,toks:=s2.toks+ ([]:List (Str×Value)).length }:=by
  refine compLoopIf_go (fun n s'=>∃(i:Nat) (ys:List V) (its:List Value) (nn:Nat) (v0:Option V) (H':Hp),Inv Xc [(D,{ cls:=.type "list",dict:=none,data:=.seq its.toArray nn })] (v0 :: fvOf ixs σ) H' s'/\tn i s'.heap/\(∀ b∈fp,H' b=none)/\Vals ys its/\W i n ys H') ?_ m0
   ⟨0,[],[],0,none,H2,start none rfl,T.keep _ _ _ st2 fun b _ o q=>k34 _ _ (k23 _ _ q),fun b hb=>(f2 b hb).1,.nil,w0⟩
  rintro n s3 ⟨i,ys,its,nn,v0,H3,J3,tn3,fr3,vv,w3⟩
  have pinD:∀ p∈([(D,({ cls:=.type "list",dict:=none,data:=.seq its.toArray nn }:Obj))]:List (Addr×Obj)),p.1=D:=fun p hp=>by
   have:p=(D,{ cls:=.type "list",dict:=none,data:=.seq its.toArray nn }):=by simpa using hp
   rw[this]
  rcases turn i n ys H3 w3 with ⟨stop,hlen,q⟩ | ⟨go,hlen,step⟩
  ·-- the end
   refine thn (T.done Xc rfl rfl rfl hc i _ s3 _ H3 _ J3 (fpc fr3 pinD) tn3 stop) fun r s4 ⟨hr,J4⟩=>?_
   subst hr
   obtain⟨m,hn,_⟩:=J4.loc
   generalize hh4:s4.heap=h''
   have hsb:Heap.SameBut C s4.heap h'':=by rw[← hh4];exact⟨rfl,fun _ _=>rfl⟩
   obtain⟨gD,nD,_,_,_⟩:=J4.pin (D,{ cls:=.type "list",dict:=none,data:=.seq its.toArray nn }) (by simp[Xc,cxComp])
   have B:=J4.base
   have kC:∀ b u,b≠C->s4.heap.get? b=some u->h''.get? b=some u:=fun b u hb q=>(hsb.2 b hb).trans q
   have ne:∀{b o},s2.heap.get? b=some o->b≠C/\b≠D:=fun q=>⟨Nat.ne_of_lt (Nat.lt_trans (ltD q) hDltC),Nat.ne_of_lt (ltD q)⟩
   have nex:∀{b o},s2.heap.get? b=some o->b∉fp->b∉D :: fp:=fun q hx z=>(List.mem_cons.mp z).elim (ne q).2 hx
   have uu:Un (frs X.stack) fp H2 (upd H3 D (.lst ys)) s2.heap h'':={
    keep:=fun b o q n hb hx=>kC b o (ne q).1 (B.keep b o (k23 b o q) n hb (nex q hx))
    slot:=fun b o q n hb hx=>by
     obtain⟨sl,e⟩:=B.slot b o (k23 b o q) n hb (nex q hx)
     exact⟨sl,kC b _ (ne q).1 e⟩
    free:=fun b o q n hx=>by rw[upd_ne (ne q).2];exact B.free b o (k23 b o q) n (nex q hx)
    there:=fun b o q hx=>by
     obtain⟨o',e⟩:=B.there b o (k23 b o q) (nex q hx)
     exact⟨o',kC b _ (ne q).1 e⟩
    tups:=fun b xs q=>by rw[upd_ne (ne_of_none q hnD)];exact B.tups b xs q
    frzs:=fun b o xs q=>by rw[upd_ne (ne_of_none q hnD)];exact B.frzs b o xs q
    tbls:=fun b ps q=>by
     obtain⟨more,e⟩:=B.tbls b ps q
     exact⟨more,by rw[upd_ne (ne_of_none q hnD)];exact e⟩ }
   have hok:HOk X.prog X.w (upd H3 D (.lst ys)) h'':=fun b u e=>by
    by_cases hb:b=D
    ·subst hb
     rw[upd_same] at e
     cases e
     exact⟨hlen,its,nn,vv,kC _ _ hDC gD⟩
    ·rw[upd_ne hb] at e
     refine(J4.hok b u e).stay (fun c v hc q=>kC c v ?_ q) (fun c q=>by rw[upd_ne (ne_of_none q nD)];exact q) fun c xs q=>by rw[upd_ne (ne_of_none q nD)];exact q
     have fC:H3 C=none:=J4.free
     rcases hc with rfl | hc
     ·exact ne_of_none e fC
     ·exact ne_of_none hc fC
   have I5:Inv X pins σ (upd H3 D (.lst ys)) s4:=I2.call' (s':=s4) J4.os (by rw[hh4];exact uu) (by rw[hh4];exact hok) J4.bare (fun b hb=>⟨(f2 b hb).2.2.2.1,(f2 b hb).2.1,(f2 b hb).2.2.2.2.1,(f2 b hb).2.2.2.2.2⟩)
   show wpAny _ X.A (assign (.Name y py) X.env (.ref D)) _ _ _
   have cL:X.env.locals≠C:=fun z=>by
    have h1:=I2.lt
    rw[hD,z] at h1
    exact absurd (Nat.lt_trans h1 hDltC) (Nat.lt_irrefl _)
   have cC:∀ z c,X.env.cells.lookup z=some c->c≠C:=fun z c hz e=>by
    obtain⟨v,hv⟩:=I2.cell z c hz
    have h1:=hv.lt
    rw[hD,e] at h1
    exact absurd (Nat.lt_trans h1 hDltC) (Nat.lt_irrefl _)
   have hCn:upd H3 D (.lst ys) C=none:=by
    rw[upd_ne (Ne.symm hDC)]
    exact J4.free
   refine wpAny_assign_Name (store_ok2 I5 hN hiy hy (v:=.ref D) rfl (fun s5 I6 hsame=>?_) hfy)
   obtain⟨a5,sb5,ha5⟩:=hsame
   have neC:C≠a5:=by
    rcases ha5 with e | e
    ·rw[e];exact Ne.symm cL
    ·exact Ne.symm (cC y a5 e)
   refine⟨m,hn.sameBut sb5 neC,fun h6 sb6=>?_⟩
   refine⟨_,_,I6.turned (t':=s5.toks) (it:=C) (fun b o hb e=>(sb6.2 b hb).trans e) hCn (Ne.symm cL) (.inr (by
    have:=I2.sz
    rw[hD] at this
    exact Nat.le_trans this (Nat.le_of_lt hDltC))) cC (fun p hp z=>?_),q D nD⟩
   have hlt:=Heap.lt_size (I2.pin p hp).1
   rw[hD,z] at hlt
   exact absurd (Nat.lt_trans hlt hDltC) (Nat.lt_irrefl _)
  ·-- a turn
   refine thn (T.item Xc rfl rfl rfl hc i _ s3 _ H3 _ J3 (fpc fr3 pinD) tn3 go) fun r s4 ⟨u,hr,h4⟩=>?_
   subst hr
   refine thn h4 fun _ s5 ⟨xv,H5,J5,r5,y5,tn5,fr5⟩=>?_
   have J5':=J5.pinned (fpc fr5 pinD) (T.obj _ _ tn5)
   have hg:PG Xc (.Name x px) (gName 0):=pg_name (X:=Xc) (i:=0) S.nd rfl (.inl (relabel_own S.own)) (.inr (relabel_own S.own))
   refine thn (hg _ s5 _ H5 xv u (fun σ' H'=>σ'=some xv :: fvOf ixs σ/\H'=H5) J5' r5 ⟨rfl,rfl⟩) fun _ s6 ⟨σ6,H6,J6,e6,e6'⟩=>?_
   subst e6 e6'
   refine thn (ht C { s2 with heap:=hp3 } H2 (D :: fp) _ s6 _ H6 _ J6 (step xv H6 y5)) fun bt s6b ⟨H6b,J6b,q6⟩=>?_
   cases bt with
   | true=>
    refine thn (he C { s2 with heap:=hp3 } H2 (D :: fp) _ s6b _ H6b _ J6b q6) fun yv s7 ⟨y,H7,J7,r7,m',hm',w7⟩=>?_
    obtain⟨gD,nD,_,_,_⟩:=J7.pin (D,{ cls:=.type "list",dict:=none,data:=.seq its.toArray nn }) (by simp[Xc,cxComp])
    have tn7:tn (i+ 1) s7.heap:=T.keep _ _ _ tn5 fun b hb o e=>(J7.pin (b,o) (List.mem_append_right _ (List.mem_append_right _ (mem_pinsAt hb e)))).1
    have fr7:∀ b∈fp,H7 b=none:=fun b hb=>by
     obtain⟨o,e,d⟩:=T.obj _ _ tn5 b hb
     exact(J7.pin (b,o) (List.mem_append_right _ (List.mem_append_right _ (mem_pinsAt hb e)))).2.1
    have J7':Inv Xc [] (some xv :: fvOf ixs σ) H7 s7:=J7.pins_of fun p hp=>nomatch hp
    refine wpAny_list_append_plain (hsz:=by rw[List.size_toArray,← vv.length];omega) ⟨nn,gD⟩ fun h8 pl8 sb8=>?_
    obtain⟨n8,g8⟩:=pl8
    have J8:Inv Xc [] (some xv :: fvOf ixs σ) H7 { s7 with heap:=h8 }:=J7'.turned (t':=s7.toks) (it:=D) (fun b o hb e=>(sb8.2 b hb).trans e) nD (hDC) (.inl (List.mem_cons_self ..))
     (fun y c q=>cne y c q D (List.mem_cons_self ..)) (fun p hp=>by simp[Xc,cxComp] at hp)
    refine⟨m',hm',i+ 1,ys++[y],its++[yv],n8,some xv,H7,J8.pins_of fun p hp=>?_,?_,fr7,vv.append (.cons r7 .nil),w7⟩
    ·have:p=(D,{ cls:=.type "list",dict:=none,data:=.seq (its++[yv]).toArray n8 }):=by simpa using hp
     subst this
     refine⟨?_,nD,hDC,nstk D (List.mem_cons_self ..),fun v z=>nomatch z⟩
     have:its.toArray.push yv=(its++[yv]).toArray:=by simp
     rw[this] at g8
     exact g8
    ·exact T.keep _ _ _ tn7 fun b hb o e=>(sb8.2 b (Nat.ne_of_lt (hfpLt b hb))).trans e
   | false=>
    obtain⟨m',hm',w7⟩:=q6
    obtain⟨gD,nD,_,_,_⟩:=J6b.pin (D,{ cls:=.type "list",dict:=none,data:=.seq its.toArray nn }) (by simp[Xc,cxComp])
    have tn7:tn (i+ 1) s6b.heap:=T.keep _ _ _ tn5 fun b hb o e=>(J6b.pin (b,o) (List.mem_append_right _ (List.mem_append_right _ (mem_pinsAt hb e)))).1
    have fr7:∀ b∈fp,H6b b=none:=fun b hb=>by
     obtain⟨o,e,d⟩:=T.obj _ _ tn5 b hb
     exact(J6b.pin (b,o) (List.mem_append_right _ (List.mem_append_right _ (mem_pinsAt hb e)))).2.1
    refine⟨m',hm',i+ 1,ys,its,nn,some xv,H6b,J6b.pins_of fun p hp=>?_,tn7,fr7,vv,w7⟩
    have:p=(D,{ cls:=.type "list",dict:=none,data:=.seq its.toArray nn }):=by simpa using hp
    subst this
    exact⟨gD,nD,hDC,nstk D (List.mem_cons_self ..),fun v z=>nomatch z⟩
 exact codeAny_compStart_list loop (T.self _ 0 _ _ _ (T.keep _ _ _ st2 fun b _ o q=>k34 _ _ (k23 _ _ q)) loop)
end
end L2
set_option Elab.async false
set_option linter.all false
set_option maxRecDepth 100000
set_option maxHeartbeats 4000000
namespace L2
open PySem PySem.Spec PyProof.Rows
section
variable {X:Cx}
end
end L2
set_option Elab.async false
set_option linter.all false
set_option maxRecDepth 100000
set_option maxHeartbeats 4000000
namespace L2
open PySem PySem.Spec PyProof.Rows
def rng (lo:Int)(n:Nat):List Int:=(List.range n).map fun i:Nat=>lo+ (i:Int)
section
variable {X:Cx} {a b:Expr} {ta:TA} {p p2 pos pos2:Pos}
end
end L2
set_option Elab.async false
set_option linter.all false
set_option maxRecDepth 100000
set_option maxHeartbeats 4000000
namespace L2
open PySem PySem.Spec PyProof.Rows
def RowsAt (H:Hp)(rs:List Addr)(rows:List (List Int)):Prop:=rs.length=rows.length/\∀(i:Nat) (r:Addr) (ns:List Int),rs[i]?=some r->rows[i]?=some ns->H r=some (.lst (intV ns))
def TabAt (H:Hp)(a:Addr)(rows:List (List Int)):Prop:=∃ rs:List Addr,H a=some (.lst (rs.map V.ref))/\RowsAt H rs rows
theorem RowsAt.same {H H':Hp}{rs:List Addr}{rows:List (List Int)}(h:RowsAt H rs rows)(s:Same H H'):RowsAt H' rs rows:=⟨h.1,fun i r ns h1 h2=>s _ _ (h.2 i r ns h1 h2)⟩
theorem TabAt.same {H H':Hp}{a:Addr}{rows:List (List Int)}(h:TabAt H a rows)(s:Same H H'):TabAt H' a rows:=by
 obtain⟨rs,h1,h2⟩:=h
 exact⟨rs,s _ _ h1,h2.same s⟩
section
variable {X:Cx} {pins:List (Addr×Obj)} {σ:St} {H:Hp} {s:Shared} {A:Around}
end
section
variable {X:Cx}
def rIntB:List V->Hp->VK->Prop:=fun xs H Q=>∃ b:Bool,xs=[.bl b]/\Q (.int (if b=true then 1 else 0)) H
theorem call_intB:CallR X (.type "int") rIntB:=by
 intro pins s σ H xs us Q I r h
 obtain⟨b,rfl,q⟩:=h
 obtain⟨u,rfl,rx⟩:=vals1 r
 cases rx
 exact call_int_bool ⟨.int _,H,I.tok _,⟨_,rfl⟩,q⟩
theorem ix_listK {K:PySem.W.Frag}(h:X.K=K):IxR X (rIxL K):=by subst h;exact ix_list
theorem ix_tupK {K:PySem.W.Frag}(h:X.K=K):IxR X (rIxT K):=by subst h;exact ix_tup
end
end L2
set_option Elab.async false
set_option linter.all false
set_option maxRecDepth 100000
set_option maxHeartbeats 4000000
namespace L2
open PySem PySem.Spec PyProof.Rows
def TupsAt (H:Hp)(ps:List Addr)(ws:List (List Int)):Prop:=ps.length=ws.length/\∀(i:Nat) (p:Addr) (w:List Int),ps[i]?=some p->ws[i]?=some w->H p=some (.tup (intV w))
def WordsAt (H:Hp)(a:Addr)(ws:List (List Int)):Prop:=∃ ps:List Addr,H a=some (.lst (ps.map V.ref))/\TupsAt H ps ws
theorem TupsAt.keep {H H':Hp}{ps:List Addr}{ws:List (List Int)}(h:TupsAt H ps ws)(s:∀ p xs,H p=some (.tup xs)->H' p=some (.tup xs)):TupsAt H' ps ws:=⟨h.1,fun i p w h1 h2=>s _ _ (h.2 i p w h1 h2)⟩
theorem TupsAt.same {H H':Hp}{ps:List Addr}{ws:List (List Int)}(h:TupsAt H ps ws)(s:Same H H'):TupsAt H' ps ws:=h.keep fun p xs e=>s _ _ e
theorem WordsAt.same {H H':Hp}{a:Addr}{ws:List (List Int)}(h:WordsAt H a ws)(s:Same H H'):WordsAt H' a ws:=by
 obtain⟨ps,h1,h2⟩:=h
 exact⟨ps,s _ _ h1,h2.same s⟩
theorem TupsAt.snoc {H:Hp}{ps:List Addr}{ws:List (List Int)}{p:Addr}{w:List Int}(h:TupsAt H ps ws)(hp:H p=some (.tup (intV w))):TupsAt H (ps++[p]) (ws++[w]):=by
 refine⟨by rw[List.length_append,List.length_append,h.1];rfl,fun i q u h1 h2=>?_⟩
 by_cases hi:i < ps.length
 ·rw[List.getElem?_append_left hi] at h1
  rw[List.getElem?_append_left (by rw[← h.1];exact hi)] at h2
  exact h.2 i q u h1 h2
 ·rw[List.getElem?_append_right (by omega)] at h1
  rw[List.getElem?_append_right (by rw[← h.1];omega)] at h2
  rw[List.mem_singleton.mp (List.mem_of_getElem? h1),List.mem_singleton.mp (List.mem_of_getElem? h2)]
  exact hp
section
variable {X:Cx} {pins:List (Addr×Obj)} {σ:St} {H:Hp} {s:Shared} {A:Around}
end
section
variable {X:Cx}
end
end L2
set_option Elab.async false
set_option linter.all false
set_option maxRecDepth 100000
set_option maxHeartbeats 4000000
namespace L2
open PySem PySem.Spec PyProof.Rows
theorem vals_intsAre:∀{ns:List Int} {us:List Value},Vals (intV ns) us->IntsAre us ns
 | [],_,h=>by cases h;exact .nil
 | n :: ns,_,h=>by
   cases h with
   | cons h0 h1=>
     obtain⟨t,rfl⟩:=h0
     exact .cons n t (vals_intsAre h1)
theorem any_mem (ns:List Int)(k:Int):(ns.any fun x=>x==k)=decide (k∈ns):=by
 rw[Bool.eq_iff_iff,List.any_eq_true,decide_eq_true_iff]
 constructor
 ·rintro ⟨x,hx,e⟩
  rw[← eq_of_beq e]
  exact hx
 ·intro h
  exact⟨k,h,beq_self_eq_true k⟩
section
variable {X:Cx}
def rInLI:R2:=fun x y H Q=>∃ k a ns,x=.int k/\y=.ref a/\H a=some (.lst (intV ns))/\Q (.bl (decide (k∈ns))) H
theorem op_IN_l:OpR X (compareOp .In) rInLI:=by
 intro pins s σ H x y v u Q I rx ry h
 obtain⟨k,a,ns,rfl,rfl,ha,q⟩:=h
 obtain⟨t,rfl⟩:=rx
 cases ry
 obtain⟨its,r,p,_⟩:=I.list (SqL.of ha)
 refine in_list_ints p.isList (vals_intsAre r) ?_
 rw[any_mem]
 exact⟨.bl _,H,I,rfl,q⟩
def rNotInLI:R2:=fun x y H Q=>∃ k a ns,x=.int k/\y=.ref a/\H a=some (.lst (intV ns))/\Q (.bl (!decide (k∈ns))) H
theorem op_NOTIN_l:OpR X (compareOp .NotIn) rNotInLI:=by
 intro pins s σ H x y v u Q I rx ry h
 obtain⟨k,a,ns,rfl,rfl,ha,q⟩:=h
 obtain⟨t,rfl⟩:=rx
 cases ry
 obtain⟨its,r,p,_⟩:=I.list (SqL.of ha)
 refine notin_list_ints p.isList (vals_intsAre r) ?_
 rw[any_mem]
 exact⟨.bl _,H,I,rfl,q⟩
def isInt (k:Int):Value->Bool
 | .int z _=>z==k
 | _=>false
end
end L2
set_option Elab.async false
set_option linter.all false
set_option maxRecDepth 100000
set_option maxHeartbeats 4000000
namespace L2
open PySem PySem.Spec PyProof.Rows
section
variable {X:Cx} {tg:Expr}
end
end L2
set_option Elab.async false
set_option linter.all false
set_option maxRecDepth 100000
set_option maxHeartbeats 4000000
namespace L2
open PySem PySem.Spec PyProof.Rows
def Itel (K:PySem.W.Frag)(a:Addr):It:=
 ⟨fun i H=>∃ xs x,SqL K H a xs/\xs[i]?=some x,fun i H x H'=>∃ p v,H p=none/\(∀ ys,SqL K H a ys->ys[i]?=some v)/\x=.ref p/\H'=upd H p (.tup [.int (i:Int),v]),fun i H=>∃ xs,SqL K H a xs/\xs.length=i⟩
theorem ne_cls {h:Heap}{a b:Addr}{o u:Obj}(ha:h.get? a=some o)(hb:h.get? b=some u)(hc:o.cls≠u.cls):a≠b:=fun z=>by
 subst z
 rw[ha] at hb
 exact hc (by rw[Option.some.inj hb])
theorem turn_enumL {P:Program}{w:World}{K:PySem.W.Frag}{elts:List Expr}{x1:Nat}{tp:Pos}(e it a:Addr)(hei:e≠it):
 Turn P w K (.Tuple elts x1 tp) (Itel K a) [e,it] e (fun i h=>(∃ old,IsEnum h e it (i:Int) old)/\h.IsListIter it a i) where
 mem:=by simp
 obj:=fun i h st b hb=>by
  obtain⟨⟨old,he⟩,o,ho,hc,hd⟩:=st
  rcases List.mem_cons.mp hb with rfl | hb
  ·exact⟨_,he,fun v z=>by cases z⟩
  ·rw[List.mem_singleton.mp hb]
   exact⟨o,ho,fun v z=>by rw[hd] at z;cases z⟩
 keep:=fun i h h' st k=>by
  obtain⟨⟨old,he⟩,hl⟩:=st
  exact⟨⟨old,k e (by simp) _ he⟩,hl.at fun o e=>k it (by simp) o e⟩
 item:=by
  intro X hP hw hK hc i pins s σ H E I hf st hg
  subst hP hw hK
  obtain⟨⟨old,he⟩,hst⟩:=st
  obtain⟨xs,x,hq,hx⟩:=hg
  obtain⟨its,rv,p,hz⟩:=I.list hq
  obtain⟨u,hu,ru⟩:=rv.get hx
  have hit:=p.isList
  obtain⟨o1,ho1,hc1,hd1⟩:=id hit
  obtain⟨o2,ho2,hc2,hd2⟩:=id hst
  have hai:a≠it:=ne_cls ho1 ho2 (by rw[hc1,hc2];decide)
  have hea:e≠a:=ne_cls he ho1 (by rw[hc1];show Value.type "enumerate"≠Value.type "list";decide)
  have D:=Draws.list (prog:=X.prog) (w:=X.w) (A:=X.A.in1) (I.ok.hd hc) it a hai its.toArray
  have hel:e < s.heap.objs.size:=Heap.lt_size he
  have hil:i < its.length:=(List.getElem?_eq_some_iff.mp hu).1
  refine En.next_pair D he ⟨hst,hit⟩ (by simpa using hil) hei (by simp[hei,hea]) fun y h' tk hPx ho hs' hT hk=>?_
  have ey:u=y:=by
   have h2:its[i]?=some y:=by simpa using hPx
   exact Option.some.inj (hu.symm.trans h2)
  subst ey
  refine⟨_,rfl,?_⟩
  refine wpAny_letOwnedTupleGo_enum ho fun h'' he' hs''=>?_
  have hT2:h''.get? s.heap.objs.size=some { cls:=.type "tuple",data:=.seq #[.int (i:Int) tk,u] }:=(hs''.2 _ (Nat.ne_of_gt hel)).trans hT
  have hkk:∀ b ob,b∉[e,it]->s.heap.get? b=some ob->h''.get? b=some ob:=fun b ob hb q=>by
   have h1:b≠e:=fun z=>hb (by simp[z])
   have h2:b≠it:=fun z=>hb (by simp[z])
   exact(hs''.2 b h1).trans (hk b ob h1 h2 q)
  have hfr:=I.hok.fresh (Nat.le_refl s.heap.objs.size)
  refine⟨.ref s.heap.objs.size,_,I.turnLaid (fp:=[e,it]) (a:=s.heap.objs.size) (o:=.tup [.int (i:Int),x]) (h':=h'') (t':=tk+ 1) hkk hf (Nat.le_refl _) ?_,rfl,⟨_,x,hfr,fun ys hy=>by rw[I.list_inj hy hq];exact hx,rfl,rfl⟩,⟨⟨u,?_⟩,?_⟩,fun b hb=>?_⟩
  ·exact⟨by show 2<=sizeLine;decide,[.int (i:Int) tk,u],.cons ⟨_,rfl⟩ (.cons ru .nil),_,hT2,rfl,_,rfl⟩
  ·rw[show ((i+ 1:Nat):Int)=(i:Int)+ 1 by omega]
   exact he'
  ·exact(D.frame _ _ _ hs' fun b hb o q=>(hs''.2 b (by
    rcases List.mem_cons.mp hb with z | hb
    ·rw[z];exact Ne.symm hei
    ·rw[List.mem_singleton.mp hb];exact Ne.symm hea)).trans q).1
  ·rw[upd_ne]
   ·exact(hf b hb).1
   ·intro z
    subst z
    rcases List.mem_cons.mp hb with z | hb
    ·exact absurd hel (by rw[← z];exact Nat.lt_irrefl _)
    ·exact absurd (Heap.lt_size ho2) (by rw[← List.mem_singleton.mp hb];exact Nat.lt_irrefl _)
 done:=by
  intro X hP hw hK hc i pins s σ H E I hf st hg
  subst hP hw hK
  obtain⟨⟨old,he⟩,hst⟩:=st
  obtain⟨xs,hq,hx⟩:=hg
  obtain⟨its,rv,p,hz⟩:=I.list hq
  have hit:=p.isList
  obtain⟨o1,ho1,hc1,hd1⟩:=id hit
  obtain⟨o2,ho2,hc2,hd2⟩:=id hst
  have hai:a≠it:=ne_cls ho1 ho2 (by rw[hc1,hc2];decide)
  have D:=Draws.list (prog:=X.prog) (w:=X.w) (A:=X.A.in1) (I.ok.hd hc) it a hai its.toArray
  have hsz:its.toArray.size=i:=by rw[List.size_toArray,← rv.length];exact hx
  refine wpAny_pyNext_enum_endD D he (by rw[hsz];exact⟨hst,hit⟩) fun h' eb=>⟨rfl,I.turnedL (fp:=[e,it]) (t':=s.toks) (fun b o hb q=>eb b o (fun z=>hb (by simp[z])) q) hf⟩
 self:=fun A i s Q E st h=>by
  obtain⟨⟨old,he⟩,_⟩:=st
  have hT:s.TypeIs (.ref e) "enumerate":=⟨_,he,rfl⟩
  refine wpAny_pyIter_slot hT F.slot_enumerate_iter (wpAny_call_entry F.slot_enumerate_iter hT F.entry_enumerate_iter ?_ (F.args_enumerate_iter_1 _))
  show wpAny _ _ (ret (.ref e)) _ _ s
  exact wpAny_pure ⟨_,rfl,"enumerate",_,hT,F.slot_enumerate_next.lookup,h⟩
section
variable {X:Cx}
def iEnumL (K:PySem.W.Frag)(ta:TA):TI:=fun σ H R=>ta σ H fun vs H1=>∃ a,vs=[.ref a]/\(∃ xs,SqL K H1 a xs)/\R (Itel K a) H1
theorem pi_enumL {a:Expr}{te:TE}{elts:List Expr}{x1:Nat}{tp p pos:Pos}(hg:Gl X "enumerate")(hm:X.mg "enumerate"=none)(he:PE X a te)(hs:starEach [a] X.env=[(false,eval a X.env)]:=by rfl):
 PI X (.Tuple elts x1 tp) (.Call (.Name "enumerate" p) [a] [] pos) (iEnumL X.K (tCons te tNil)):=by
 intro pins s σ H R I h
 refine Call_ (ld_blt I hg hm boot_enumerate (PyProof.Rows.callWith_type1 (thn ((pa_cons he pa_nil hs) pos pins s σ H _ I h) fun us s1 ⟨vs,H1,I1,r1,q1⟩=>?_) hs rfl))
 obtain⟨l,rfl,⟨xs,hq⟩,q⟩:=q1
 obtain⟨u,rfl,ru⟩:=vals1 r1
 cases ru
 obtain⟨its,rv,pl,hz⟩:=I1.list hq
 refine call_enumerate_list pl.isList fun h' he' hit hsz hk=>?_
 have I3:Inv X pins σ H1 { s1 with heap:=h' }:=I1.kept (t':=s1.toks) hk
 have T:=turn_enumL (P:=X.prog) (w:=X.w) (K:=X.K) (elts:=elts) (x1:=x1) (tp:=tp) (s1.heap.objs.size+ 1) s1.heap.objs.size l (Nat.succ_ne_self _)
 refine T.self _ 0 { s1 with heap:=h' } _ _ ⟨⟨_,he'⟩,hit⟩ ⟨_,_,_,_,H1,rfl,I3,T,⟨⟨_,he'⟩,hit⟩,fun b hb=>?_,q⟩
 rcases List.mem_cons.mp hb with e | hb
 ·subst e
  exact I1.fpOk (Nat.le_succ _) (I1.hok.fresh (Nat.le_succ _))
 ·rw[List.mem_singleton.mp hb]
  exact I1.fpOk (Nat.le_refl _) (I1.hok.fresh (Nat.le_refl _))
end
theorem for_enumL {K:PySem.W.Frag}{a:Addr}{xs:List V}{g:TG}{tb:TS}{D:Ends}{σ:St}{H:Hp}(Pv:Nat->St->Hp->Prop)(h0:Pv 0 σ H)(hl:∀ i σ H,i<=xs.length->Pv i σ H->SqL K H a xs)
 (hs:∀ i v σ H p,xs[i]?=some v->H p=none->Pv i σ H->g (.ref p) σ (upd H p (.tup [.int (i:Int),v])) fun σ2 H2=>tb { D with nx:=Pv (i+ 1),ct:=Pv (i+ 1),bk:=D.nx } σ2 H2) (hd:∀ σ H,Pv xs.length σ H->D.nx σ H):
 ∃ W:Nat->Nat->St->Hp->Prop,(∃ m,W 0 m σ H)/\∀ i m σ H,W i m σ H->
   ((Itel K a).stop i H/\D.nx σ H)\/((Itel K a).go i H/\∃ N:St->Hp->Prop,(∀ σ' H',N σ' H'->∃ m',m' < m/\W (i+ 1) m' σ' H')/\∀ x H',(Itel K a).yld i H x H'->g x σ H' fun σ2 H2=>tb { D with nx:=N,ct:=N,bk:=D.nx } σ2 H2):=by
 refine⟨fun i m σ H=>m=xs.length - i/\i<=xs.length/\Pv i σ H,⟨xs.length,by simp,Nat.zero_le _,h0⟩,?_⟩
 rintro i m σ H ⟨rfl,hi,p⟩
 have q:=hl i σ H hi p
 by_cases hlt:i < xs.length
 ·refine .inr ⟨⟨xs,_,q,List.getElem?_eq_getElem hlt⟩,Pv (i+ 1),fun σ' H' p'=>⟨xs.length - (i+ 1),by omega,rfl,hlt,p'⟩,fun x H' y=>?_⟩
  obtain⟨r,v,hr,hv,rfl,rfl⟩:=y
  exact hs i v σ H r (hv xs q) hr p
 ·have e:i=xs.length:=by omega
  subst e
  exact .inl ⟨⟨xs,q,rfl⟩,hd σ H p⟩
end L2
set_option Elab.async false
set_option linter.all false
set_option maxRecDepth 100000
set_option maxHeartbeats 4000000
namespace L2
open PySem PySem.Spec PyProof.Rows
section
variable {X:Cx}
theorem truth_of {prog:Program}{w:World}{A:Around}{bs:List Bool}{its:List Value}(r:Vals (bs.map V.bl) its):TruthOf prog w A (fun i v=>its.toArray[i]?=some v) (fun i=>bs.getD i false):=by
 intro i v s Q E hP hQ
 have h2:its[i]?=some v:=by simpa using hP
 have hi:i < its.length:=(List.getElem?_eq_some_iff.mp h2).1
 have hl:=r.length
 rw[List.length_map] at hl
 have hb:bs[i]?=some bs[i]:=List.getElem?_eq_getElem (by omega)
 obtain⟨u,hu,ru⟩:=r.get (i:=i) (x:=V.bl bs[i]) (by rw[List.getElem?_map,hb];rfl)
 rw[h2] at hu
 cases hu
 cases ru
 have e:bs.getD i false=bs[i]:=by rw[List.getD_eq_getElem?_getD,hb];rfl
 exact wpAny_truthy_bool (by rw[← e];exact hQ)
theorem all_getD (bs:List Bool):(List.range bs.length).all (fun i=>bs.getD i false)=bs.all id:=by
 conv=>rhs;rw[← range_getD bs false]
 rw[List.all_map]
 rfl
def rAll (K:PySem.W.Frag):List V->Hp->VK->Prop:=fun xs H Q=>∃(p:Addr) (bs:List Bool),xs=[.ref p]/\SqL K H p (bs.map V.bl)/\Q (.bl (bs.all id)) H
theorem call_all (hc:X.calm=true):CallR X (.builtin "all") (rAll X.K):=by
 intro pins s σ H xs us Q I r h
 obtain⟨p,bs,rfl,hq,q⟩:=h
 obtain⟨u,rfl,rx⟩:=vals1 r
 cases rx
 obtain⟨its,r',pl,hz⟩:=I.list hq
 have hlen:=r'.length
 rw[List.length_map] at hlen
 obtain⟨ol,hol,hoc,hod⟩:=id pl.isList
 refine call_all_walk ?_
 refine wpAny_pyIter_list pl.isList ?_
 have hne:p≠s.heap.objs.size:=Nat.ne_of_lt (Heap.lt_size hol)
 refine⟨s.heap.objs.size,_,_,_,_,_,fun i=>bs.getD i false,rfl,Walks.list (A:=X.A.in1) (I.ok.hd hc) s.heap.objs.size p hne its.toArray,⟨⟨_,Heap.get?_push_size _ rfl,rfl,rfl⟩,pl.isList.push _⟩,truth_of r',fun h' tk hk=>?_⟩
 have I1:Inv X pins σ H { s with heap:=h',toks:=tk }:=I.kept (t':=tk) fun b o e=>hk b o (fun z=>by
  have:=List.mem_singleton.mp z
  subst this
  exact absurd (Heap.lt_size e) (Nat.lt_irrefl _)) (Heap.get?_push_of_some _ e)
 refine⟨.bl (bs.all id),H,I1,?_,q⟩
 show Value.bool _=Value.bool _
 rw[List.size_toArray,← hlen,all_getD]
end
end L2
set_option Elab.async false
set_option linter.all false
set_option maxRecDepth 100000
set_option maxHeartbeats 4000000
namespace L2
open PySem PySem.Spec PyProof.Rows
section
variable {X:Cx}
end
end L2
set_option Elab.async false
set_option linter.all false
set_option maxRecDepth 100000
set_option maxHeartbeats 4000000
namespace L2
open PySem PySem.Spec PyProof.Rows
namespace En
section
variable {prog:Program} {w:World} {A:Around} {E:Value->Shared->Prop} {s:Shared}
end
end En
end L2
set_option Elab.async false
set_option linter.all false
set_option maxRecDepth 100000
set_option maxHeartbeats 4000000
namespace L2
open PySem PySem.Spec PyProof.Rows
namespace En
open AutoSeq1 (wpAny_loadPart')
section
variable {prog:Program} {w:World} {A:Around} {E:Value->Shared->Prop} {s:Shared}
end
end En
section
variable {X:Cx}
end
end L2
set_option Elab.async false
set_option linter.all false
set_option maxRecDepth 100000
set_option maxHeartbeats 4000000
namespace L2
open PySem PySem.Spec PyProof.Rows
namespace En
open AutoSeq1 (wpAny_loadPart')
section
variable {prog:Program} {w:World} {A:Around} {E:Value->Shared->Prop} {s:Shared}
end
end En
section
variable {X:Cx}
end
end L2
set_option Elab.async false
set_option linter.all false
set_option maxRecDepth 100000
set_option maxHeartbeats 4000000
namespace L2
open PySem PySem.Spec PyProof.Rows
section
variable {X:Cx}
end
section
variable {X:Cx} {tg:Expr}
end
section
variable {X:Cx} {pins:List (Addr×Obj)} {σ:St} {H:Hp} {s:Shared} {A:Around}
theorem all_true (n:Nat)(f:Nat->Bool)(h:∀ j,f j=true):(List.range n).all f=true:=List.all_eq_true.mpr fun j _=>h j
end
section
variable {X:Cx}
end
end L2
set_option Elab.async false
set_option linter.all false
set_option maxRecDepth 100000
set_option maxHeartbeats 4000000
namespace L2
open PySem PySem.Spec PyProof.Rows
def RawD (h:Heap)(d:Addr)(es:Array DictEntry)(ep:Nat):Prop:=∃ o,h.get? d=some o/\o.ExactDict/\o.data=.dict es ep
namespace Dk
section
variable {prog:Program} {w:World} {A:Around} {E:Value->Shared->Prop} {s:Shared} {d:Addr} {es:Array DictEntry} {ep:Nat}
theorem typ (hm:RawD s.heap d es ep):s.TypeIs (.ref d) "dict":=let ⟨o,ho,hc,_⟩:=hm;⟨o,ho,hc.1⟩
theorem iter {Q:Value->Shared->Prop}(hd:(d==sysModules)=false)(hm:RawD s.heap d es ep)
 (hQ:Q (.ref s.heap.objs.size) { s with heap:=s.heap.push { cls:=.type "dict_keyiterator",data:=.fields #[.ref d,.int 0 0,.int es.size 0,.int ep 0] } }):wpAny (model prog w) A (pyIter (.ref d)) Q E s:=by
 have hT:=typ hm
 obtain⟨o,ho,hc,hdat⟩:=hm
 refine wpAny_pyIter_slot hT F.slot_dict_iter (wpAny_call_entry F.slot_dict_iter hT F.entry_dict_iter ?_ (F.args_dict_iter_1 _))
 unfold Builtin.«dict.__iter__»
 refine wpAny_bind ?_
 unfold Builtin.Dict.dictSlotNone
 refine wpAny_bind (wpAny_notOrdered_dict hT ?_)
 show wpAny _ _ (pure (Value.ref d)) _ _ s
 refine wpAny_pure ?_
 show wpAny _ _ (Builtin.Dict.showsAll d >>=_) _ _ s
 unfold Builtin.Dict.showsAll
 rw[if_neg (by rw[hd];exact Bool.false_ne_true)]
 refine wpAny_bind (wpAny_pure (wpAny_bind (wpAny_dictEntries ho hdat (wpAny_bind (wpAny_dictEpoch ho hdat ?_)))))
 exact wpAny_bind (wpAny_newObj_type (wpAny_pure ⟨_,rfl,"dict_keyiterator",_,⟨_,Heap.get?_push_size _ rfl,rfl⟩,F.slot_dict_keyiterator_next.lookup,by simpa [rawInt] using hQ⟩))
theorem item {it:Addr}{i:Nat}{en:DictEntry}{Q:Option Value->Shared->Prop}(hit:s.heap.IsKeyIter it d i es.size ep)(hm:RawD s.heap d es ep)(hx:es[i]?=some en)
 (hQ:∀ g1,g1.IsKeyIter it d (i+ 1) es.size ep->Heap.SameBut it s.heap g1->Q (some en.key) { s with heap:=g1 }):wpAny (model prog w) A (pyNext (.ref it)) Q E s:=by
 obtain⟨o,ho,hc,hd⟩:=id hit
 obtain⟨od,hod,hcd,hdd⟩:=id hm
 unfold pyNext
 refine wpAny_bind (wpAny_attempt (wpAny_callSpecial?_slot (name:=Str.ofString "__next__") hit.typeIs F.slot_dict_keyiterator_next (wpAny_call_entry F.slot_dict_keyiterator_next hit.typeIs F.entry_dict_keyiterator_next ?_ (F.args_dict_keyiterator_next_1 _))))
 refine wpAny_bind (wpAny_pure (wpAny_bind (wpAny_bind ?_)))
 first | refine wpAny_bind (wpAny_typeNameOfWhole_keyiter hit.typeIs (wpAny_pure ?_)) | refine wpAny_bind (wpAny_typeNameOf_keyiter hit.typeIs (wpAny_pure ?_))
 refine wpAny_bind (wpAny_fieldsOf ho hd ?_)
 have own:Builtin.Dict_items.ownsTuple "dict_keyiterator"=false:=by decide
 simp only[own,Bool.false_eq_true,if_false]
 show wpAny _ _ (if (Value.ref d==Value.none)=true then _ else _) _ _ s
 rw[if_neg (show ¬ ((Value.ref d==Value.none)=true) from Bool.false_ne_true)]
 refine wpAny_bind (wpAny_pure (wpAny_bind (wpAny_dictEntries hod hdd ?_)))
 rw[if_neg (by simp)]
 refine wpAny_bind (wpAny_pure (wpAny_bind (wpAny_dictEpoch hod hdd ?_)))
 rw[if_neg (by simp)]
 refine wpAny_pure ?_
 simp only[show ¬ ((i:Int) < 0) from by omega,if_false,Int.toNat_natCast,hx]
 refine wpAny_bind ?_
 first | refine wpAny_bind (wpAny_typeNameOfWhole_keyiter hit.typeIs (wpAny_pure ?_)) | refine wpAny_bind (wpAny_typeNameOf_keyiter hit.typeIs (wpAny_pure ?_))
 refine wpAny_bind (wpAny_isOneOf_keyiter hit.typeIs ?_)
 show wpAny _ _ (setField (.ref it) 1 (rawInt ((i:Int)+ 1)) >>=_) _ _ s
 refine wpAny_bind (wpAny_setField ho hd (by simp) ?_)
 have j1:(s.heap.update it (Obj.mapFields (·.setIfInBounds 1 (rawInt ((i:Int)+ 1))))).IsKeyIter it d (i+ 1) es.size ep:=
  ⟨_,Heap.get?_update_self _ ho (Obj.isFreed_of_fields (Obj.data_mapFields hd _)),(Obj.cls_mapFields ..).trans hc,by rw[Obj.data_mapFields hd];simp[rawInt]⟩
 refine wpAny_bind (wpAny_holding ?_)
 refine wpAny_bind (wpAny_isOneOf_keyiter (s:={ s with heap:=s.heap.update it (Obj.mapFields (·.setIfInBounds 1 (rawInt ((i:Int)+ 1)))) }) j1.typeIs ?_)
 show wpAny _ _ (pure en.key) _ _ _
 exact wpAny_pure (wpAny_pure ⟨_,rfl,wpAny_pure (hQ _ j1 (Heap.SameBut.update ..))⟩)
theorem fin {it:Addr}{i:Nat}{Q:Option Value->Shared->Prop}(hh:A.handled=none)(hit:s.heap.IsKeyIter it d i es.size ep)(hm:RawD s.heap d es ep)(hx:es[i]?=none)
 (hQ:∀ g1,Heap.ExtBut it s.heap g1->Q none { s with heap:=g1 }):wpAny (model prog w) A (pyNext (.ref it)) Q E s:=by
 obtain⟨o,ho,hc,hd⟩:=id hit
 obtain⟨od,hod,hcd,hdd⟩:=id hm
 unfold pyNext
 refine wpAny_bind (wpAny_attempt (wpAny_callSpecial?_slot (name:=Str.ofString "__next__") hit.typeIs F.slot_dict_keyiterator_next (wpAny_call_entry F.slot_dict_keyiterator_next hit.typeIs F.entry_dict_keyiterator_next ?_ (F.args_dict_keyiterator_next_1 _))))
 refine wpAny_bind (wpAny_pure (wpAny_bind (wpAny_bind ?_)))
 first | refine wpAny_bind (wpAny_typeNameOfWhole_keyiter hit.typeIs (wpAny_pure ?_)) | refine wpAny_bind (wpAny_typeNameOf_keyiter hit.typeIs (wpAny_pure ?_))
 refine wpAny_bind (wpAny_fieldsOf ho hd ?_)
 have own:Builtin.Dict_items.ownsTuple "dict_keyiterator"=false:=by decide
 simp only[own,Bool.false_eq_true,if_false]
 show wpAny _ _ (if (Value.ref d==Value.none)=true then _ else _) _ _ s
 rw[if_neg (show ¬ ((Value.ref d==Value.none)=true) from Bool.false_ne_true)]
 refine wpAny_bind (wpAny_pure (wpAny_bind (wpAny_dictEntries hod hdd ?_)))
 rw[if_neg (by simp)]
 refine wpAny_bind (wpAny_pure (wpAny_bind (wpAny_dictEpoch hod hdd ?_)))
 rw[if_neg (by simp)]
 refine wpAny_pure ?_
 simp only[show ¬ ((i:Int) < 0) from by omega,if_false,Int.toNat_natCast,hx]
 refine wpAny_bind ?_
 first | refine wpAny_bind (wpAny_typeNameOfWhole_keyiter hit.typeIs (wpAny_pure ?_)) | refine wpAny_bind (wpAny_typeNameOf_keyiter hit.typeIs (wpAny_pure ?_))
 show wpAny _ _ (setField (.ref it) 0 .none >>=_) _ _ s
 refine wpAny_bind (wpAny_setField ho hd (by simp) ?_)
 show wpAny _ _ (newExc (.type "StopIteration") [] >>=_) _ _ _
 refine wpAny_bind ?_
 simp only[newExc,newTuple]
 refine wpAny_bind (wpAny_newObj_type ?_ (by size_fits))
 refine wpAny_bind (m:=firstArgMember _ _) (wpAny_of_eq (a:=Value.none) (by first | rfl | (simp only[firstArgMember];rfl)) ?_)
 refine wpAny_newObj_type ?_ (by size_fits)
 simp only[raiseNew]
 refine wpAny_bind (wpAny_handled ?_)
 rw[show A.in1.handled=none from hh]
 refine wpAny_bind (wpAny_pure (wpAny_throw ?_))
 refine wpAny_bind (wpAny_isInstance (T:="StopIteration") (b:=true) ⟨_,Heap.get?_push_size _ rfl,rfl⟩ isSubtype_stop ?_)
 exact wpAny_pure (hQ _ (((Heap.SameBut.update ..).extBut.push _).push _))
theorem RawD.at {h h':Heap}(x:RawD h d es ep)(e:∀ o,h.get? d=some o->h'.get? d=some o):RawD h' d es ep:=let ⟨o,ho,r⟩:=x;⟨o,e _ ho,r⟩
theorem walks (hh:A.handled=none)(I:Addr)(hne:d≠I):Walks prog w A I [I,d] [I] es.size (fun i v=>∃ en,es[i]?=some en/\v=en.key) (fun i h=>h.IsKeyIter I d i es.size ep/\RawD h d es ep) where
 sub:=fun b hb=>by simp at hb;simp[hb]
 frame:=fun _ _ _ st hk=>⟨st.1.at fun o e=>hk I (by simp) o e,RawD.at st.2 fun o e=>hk d (by simp) o e⟩
 item:=fun i s Q E hi st hQ=>by
  refine item (en:=es[i]) st.1 st.2 (by simp[hi]) fun g1 j1 b1=>?_
  exact hQ _ g1 s.toks ⟨_,by simp[hi],rfl⟩ ⟨j1,RawD.at st.2 fun o e=>b1.extBut _ _ hne e⟩ fun b o hb e=>b1.extBut b o (fun h=>hb (by simp[h])) e
 done:=fun s Q E st hQ=>fin hh st.1 st.2 (by simp) fun g1 b1=>hQ g1 s.toks fun b o hb e=>b1 b o (fun h=>hb (by simp[h])) e
 self:=fun _ _ _ _ st hQ=>wpAny_pyIter_keyiter st.1 hQ
theorem hint {Q:Bool->Shared->Prop}(hm:RawD s.heap d es ep)(h:Q false s):wpAny (model prog w) A (Builtin.List.listLengthHint (.ref d)) Q E s:=by
 unfold Builtin.List.listLengthHint
 refine wpAny_bind (wpAny_specialOf (typ hm) F.slot_dict_len.lookup ?_)
 generalize hid:("dict.__len__":String)=id0
 wp_delta
 rw[show splitId id0=some ("dict","__len__") from by subst hid;decide +kernel]
 subst hid
 refine wpAny_bind (wpAny_isInstance (T:="dict") (b:=true) (typ hm) (by rw[isSubtype_type];kernel_rfl) ?_)
 refine wpAny_ite_split (fun hab=>absurd hab (by decide)) (fun _=>?_)
 refine wpAny_ite_split (fun _=>?_) (fun hab=>absurd (by decide +kernel) hab)
 exact wpAny_bind (wpAny_typeOf (T:="dict") (typ hm) (wpAny_pure h))
theorem extend {R:Result->Shared->Prop}(hh:A.handled=none)(hd:(d==sysModules)=false)(hm:RawD s.heap d es ep)(hlen:es.size<=sizeLine)(S:Addr)(res:Value)(c₀:Nat)(hS:s.heap.get? S=some { cls:=.type "list",data:=.seq #[] c₀ })
 (hR:∀ g1 tk acc' c',(∀ b o,b≠S->s.heap.get? b=some o->g1.get? b=some o)->g1.get? S=some { cls:=.type "list",dict:=none,data:=.seq acc' c',slots:=#[] }->
  ItemsOf (fun i v=>∃ en,es[i]?=some en/\v=en.key) acc' es.size->R (.ok (.ret res)) { s with heap:=g1,toks:=tk }):
 wpAny (model prog w) A.in1 (Builtin.List.listExtendWith (.ref S) (.ref d) res)
  (fun fin s'=>match fin with | .done f=>R (.ok f) s' | .again c'=>c'.quiet=true/\codeAny (model prog w) A c' R s') (fun e s'=>R (.error e) s') s:=by
 have hSd:S≠d:=fun e=>by
  obtain⟨o,ho,hc,hdat⟩:=hm
  rw[← e,hS] at ho
  rw[← Option.some.inj ho] at hdat
  cases hdat
 have hdl:d < s.heap.objs.size:=by obtain⟨o,ho,_⟩:=hm;exact Heap.lt_size ho
 have hSI:S≠s.heap.objs.size:=Nat.ne_of_lt (Heap.lt_size hS)
 have hdI:d≠s.heap.objs.size:=Nat.ne_of_lt hdl
 unfold Builtin.List.listExtendWith
 refine wpAny_bind (wpAny_typeOf (T:="dict") (typ hm) ?_)
 have h1:Builtin.List.listSameRef (.ref S) (.ref d)=false:=by simp[Builtin.List.listSameRef,hSd]
 have h2:(Value.type "dict"==Value.type "list")=false:=by decide
 have h3:(Value.type "dict"==Value.type "tuple")=false:=by decide
 simp only[h1,h2,h3,Bool.or_false,Bool.false_eq_true,if_false]
 refine wpAny_bind (iter hd hm ?_)
 have hm1:RawD (s.heap.push { cls:=.type "dict_keyiterator",data:=.fields #[.ref d,.int 0 0,.int es.size 0,.int ep 0] }) d es ep:=RawD.at hm fun o e=>Heap.get?_push_of_some _ e
 refine wpAny_bind (wpAny_holding (hint (s:={ s with heap:=s.heap.push { cls:=.type "dict_keyiterator",data:=.fields #[.ref d,.int 0 0,.int es.size 0,.int ep 0] } }) hm1 ?_))
 have hS1:=Heap.get?_push_of_some { cls:=.type "dict_keyiterator",data:=.fields #[.ref d,.int 0 0,.int es.size 0,.int ep 0] } hS
 have hI1:(s.heap.push { cls:=.type "dict_keyiterator",data:=.fields #[.ref d,.int 0 0,.int es.size 0,.int ep 0] }).IsKeyIter s.heap.objs.size d 0 es.size ep:=⟨_,Heap.get?_push_size _ rfl,rfl,rfl⟩
 have kp:∀ b o,s.heap.get? b=some o->(s.heap.push { cls:=.type "dict_keyiterator",data:=.fields #[.ref d,.int 0 0,.int es.size 0,.int ep 0] }).get? b=some o:=fun b o e=>Heap.get?_push_of_some _ e
 generalize s.heap.push { cls:=.type "dict_keyiterator",data:=.fields #[.ref d,.int 0 0,.int es.size 0,.int ep 0] }=h1' at hS1 hI1 kp hm1 ⊢
 refine wpAny_ite_split (fun _=>?_) (fun hab=>absurd (by decide +kernel) hab)
 refine wpAny_bind (wpAny_rule ?_)
 refine wpAny_bind ?_
 show wpAny _ _ (updateSeq S (·.push .none) >>=fun _=>updateSeq S (·.pop)) _ _ _
 refine wpAny_bind (wpAny_updateSeq hS1 rfl ?_)
 have hS2:=Heap.get?_update_self (Obj.mapSeq (·.push Value.none)) hS1 rfl
 refine wpAny_updateSeq (hz:=by seq_fits) hS2 rfl ?_
 have hS3:=Heap.get?_update_self (Obj.mapSeq (·.pop)) hS2 rfl
 have oth:∀ b o,b≠S->h1'.get? b=some o->((h1'.update S (Obj.mapSeq (·.push Value.none))).update S (Obj.mapSeq (·.pop))).get? b=some o:=fun b o hb e=>(Heap.get?_update_other _ _ (Ne.symm hb)).trans ((Heap.get?_update_other _ _ (Ne.symm hb)).trans e)
 have W:=(walks (prog:=prog) (w:=w) (A:=A.in1) (d:=d) (es:=es) (ep:=ep) hh s.heap.objs.size hdI).toS
 have hSf:S∉[s.heap.objs.size,d]:=fun hmem=>by
  rcases List.mem_cons.mp hmem with e | hmem
  ·exact hSI e
  ·exact hSd (List.mem_singleton.mp hmem)
 refine wpAny_pure ⟨plainId_quiet F.plain_extend_loop _,?_⟩
 refine codeAny_extend_loopS W hlen S hSf res es.size 0 _ #[] _ rfl (Nat.zero_le _) ⟨hI1.at fun o e=>oth _ o (Ne.symm hSI) e,RawD.at hm1 fun o e=>oth _ o (Ne.symm hSd) e⟩ hS3 (ItemsOf.nil _) fun s' acc' c' hmv hS' hacc=>?_
 rw[Moved.eq_with hmv]
 refine hR s'.heap s'.toks acc' c' (fun b o hb e=>hmv.heap b o (fun hmem=>?_) (oth b o hb (kp b o e))) hS' hacc
 rcases List.mem_cons.mp hmem with e' | hmem
 ·exact hb e'
 ·exact absurd (Heap.lt_size e) (by rw[List.mem_singleton.mp hmem];exact Nat.lt_irrefl _)
theorem init {R:Result->Shared->Prop}(hh:A.handled=none)(hd:(d==sysModules)=false)(hm:RawD s.heap d es ep)(hlen:es.size<=sizeLine)(S:Addr)(hS:s.heap.get? S=some { cls:=.type "list",data:=.seq #[] })
 (hR:∀ g1 tk acc' c',(∀ b o,b≠S->s.heap.get? b=some o->g1.get? b=some o)->g1.get? S=some { cls:=.type "list",dict:=none,data:=.seq acc' c',slots:=#[] }->
  ItemsOf (fun i v=>∃ en,es[i]?=some en/\v=en.key) acc' es.size->R (.ok (.ret .none)) { s with heap:=g1,toks:=tk }):
 wpAny (model prog w) A.in1 (Builtin.«list.__init__» ⟨[.ref S,.ref d],[]⟩)
  (fun fin s'=>match fin with | .done f=>R (.ok f) s' | .again c'=>c'.quiet=true/\codeAny (model prog w) A c' R s') (fun e s'=>R (.error e) s') s:=by
 have hSd:d≠S:=fun e=>by
  obtain⟨o,ho,hc,hdat⟩:=hm
  rw[e,hS] at ho
  rw[← Option.some.inj ho] at hdat
  cases hdat
 show wpAny _ _ (do let old ← Builtin.List.listItems (.ref S);Builtin.List.listUpdate (.ref S) (fun _=>#[]);letGo old.toList.reverse;Builtin.List.listExtendWith (.ref S) (.ref d) .none) _ _ s
 refine wpAny_bind ?_
 unfold Builtin.List.listItems
 refine wpAny_bind (wpAny_seqItems hS rfl (wpAny_pure ?_))
 show wpAny _ _ (updateSeq S (fun _=>#[]) >>=fun _=>letGo (#[]:Array Value).toList.reverse >>=fun _=>Builtin.List.listExtendWith (.ref S) (.ref d) .none) _ _ s
 refine wpAny_bind (wpAny_updateSeq hS rfl ?_)
 have hS2:=Heap.get?_update_self (Obj.mapSeq (fun _=>(#[]:Array Value))) hS rfl
 have oth:∀ b o,b≠S->s.heap.get? b=some o->(s.heap.update S (Obj.mapSeq (fun _=>(#[]:Array Value)))).get? b=some o:=fun b o hb e=>(Heap.get?_update_other _ _ (Ne.symm hb)).trans e
 refine wpAny_bind (wpAny_letGo ?_)
 refine extend (s:={ s with heap:=s.heap.update S (Obj.mapSeq (fun _=>(#[]:Array Value))) }) hh hd (RawD.at hm fun o e=>oth _ o hSd e) hlen S .none _ hS2 fun g1 tk acc' c' hk hS' hacc=>?_
 exact hR g1 tk acc' c' (fun b o hb e=>hk b o hb (oth b o hb e)) hS' hacc
theorem call_list {Q:Value->Shared->Prop}(hh:A.handled=none)(hd:(d==sysModules)=false)(hm:RawD s.heap d es ep)(hlen:es.size<=sizeLine)
 (hQ:∀ g1 tk acc' c',(∀ b o,s.heap.get? b=some o->g1.get? b=some o)->g1.get? s.heap.objs.size=some { cls:=.type "list",dict:=none,data:=.seq acc' c',slots:=#[] }->ItemsOf (fun i v=>∃ en,es[i]?=some en/\v=en.key) acc' es.size->Q (.ref s.heap.objs.size) { s with heap:=g1,toks:=tk }):
 wpAny (model prog w) A (call (.type "list") [.ref d]) Q E s:=by
 refine callType_codes (Q₁:=fun obj s₁=>obj=.ref s.heap.objs.size/\s₁={ s with heap:=s.heap.push { cls:=.type "list",data:=.seq #[] } }) F.called_list (F.typeCall_list_1 _) F.entry_list_init (code_list_new _ ⟨rfl,rfl⟩) fun obj s₁ h₁=>?_
 obtain⟨rfl,rfl⟩:=h₁
 have hS:(s.heap.push { cls:=.type "list",data:=.seq #[] }).get? s.heap.objs.size=some { cls:=.type "list",data:=.seq #[] }:=Heap.get?_push_size _ rfl
 refine⟨⟨_,hS,rfl⟩,F.args_list_init_2 _ _,init (A:=A.in1) (s:={ s with heap:=s.heap.push { cls:=.type "list",data:=.seq #[] } }) hh hd (RawD.at hm fun o e=>Heap.get?_push_of_some _ e) hlen _ hS fun g1 tk acc' c' hk hS' hacc=>?_⟩
 exact⟨rfl,hQ g1 tk acc' c' (fun b o e=>hk b o (Nat.ne_of_lt (Heap.lt_size e)) (Heap.get?_push_of_some _ e)) hS' hacc⟩
end
end Dk
theorem vals_of_refs:∀ ps:List Addr,Vals (ps.map V.ref) (ps.map Value.ref)
 | []=>.nil
 | p :: ps=>.cons rfl (vals_of_refs ps)
theorem kt_at {H:Hp}:∀{kvs:List (List Key×V)} {ys:List (List Key×Addr×Value)},KT H kvs ys->∀{i:Nat} {kv:List Key×V} {y:List Key×Addr×Value},kvs[i]?=some kv->ys[i]?=some y->H y.2.1=some (.tup (kv.1.map kV))
 | [],_,h,i,kv,y,h1,_=>by simp at h1
 | k :: kvs,_,h,i,kv,y,h1,h2=>by
   cases h with
   | cons h0 ht=>
     cases i with
     | zero=>
       rw[← Option.some.inj h1,← Option.some.inj h2]
       exact h0.2.1
     | succ i=>exact kt_at ht h1 h2
section
variable {X:Cx}
def rListD:List V->Hp->VK->Prop:=fun xs H Q=>∃(d:Addr) (kvs:List (List Key×V)),xs=[.ref d]/\H d=some (.dT kvs)/\∀(l:Addr) (ps:List Addr),H l=none->ps.length=kvs.length->(∀(i:Nat) (p:Addr) (kv:List Key×V),ps[i]?=some p->kvs[i]?=some kv->H p=some (.tup (kv.1.map kV)))->Q (.ref l) (upd H l (.lst (ps.map V.ref)))
theorem call_list_dT (hc:X.calm=true):CallR X (.type "list") rListD:=by
 intro pins s σ H xs us Q I r h
 obtain⟨d,kvs,rfl,hd,q⟩:=h
 obtain⟨u,rfl,rx⟩:=vals1 r
 cases rx
 obtain⟨hz,hsm,ys,kt,o,es,ep,ho,hcx,hdat,hes,_,_⟩:=dt_of I.hok hd
 have hlen:ys.length=kvs.length:=(Paired.length kt).symm
 have hsz:es.size=ys.length:=size_of_entries hes
 refine Dk.call_list (I.ok.hd hc) hsm ⟨o,ho,hcx,hdat⟩ (by omega) fun g1 tk acc' c' hk hS' hacc=>?_
 have ea:acc'.toList=(ys.map (·.2.1)).map Value.ref:=by
  refine List.ext_getElem? fun i=>?_
  rw[Array.getElem?_toList,List.getElem?_map,List.getElem?_map]
  cases hv:acc'[i]? with
  | none=>
    have hi:ys.length<=i:=by
     have h1:acc'.size<=i:=Array.getElem?_eq_none_iff.mp hv
     rw[hacc.1] at h1
     omega
    rw[List.getElem?_eq_none hi]
    rfl
  | some v=>
    obtain⟨en,e1,rfl⟩:=hacc.2 i v hv
    rw[entry_at hes] at e1
    cases hy:ys[i]? with
    | none=>rw[hy] at e1;cases e1
    | some y=>
      rw[hy] at e1
      rw[← Option.some.inj e1]
      rfl
 have eb:acc'=((ys.map (·.2.1)).map Value.ref).toArray:=by rw[← ea]
 rw[eb] at hS'
 refine⟨.ref s.heap.objs.size,_,I.laid (t':=tk) hk (Nat.le_refl _) (show ObjOk X.prog X.w _ g1 _ (.lst ((ys.map (·.2.1)).map V.ref)) from ⟨by rw[List.length_map,List.length_map];omega,_,c',vals_of_refs _,hS'⟩),rfl,q _ _ (I.hok.fresh (Nat.le_refl _)) (by rw[List.length_map];exact hlen) fun i p kv h1 h2=>?_⟩
 rw[List.getElem?_map] at h1
 cases hy:ys[i]? with
 | none=>rw[hy] at h1;cases h1
 | some y=>
   rw[hy] at h1
   rw[← Option.some.inj h1]
   exact kt_at kt h2 hy
end
end L2
set_option Elab.async false
set_option linter.all false
set_option maxRecDepth 100000
set_option maxHeartbeats 4000000
namespace L2
open PySem PySem.Spec PyProof.Rows
open Sem (wp)
open AutoSeq1 (wpAny_loadPart')
section
variable {prog:Program} {w:World} {A:Around} {E:Value->Shared->Prop} {s:Shared}
end
section
variable {X:Cx} {a b:Expr} {ta:TA} {p p2 pos pos2:Pos}
end
section
variable {X:Cx}
end
end L2
set_option Elab.async false
set_option linter.all false
set_option maxRecDepth 100000
set_option maxHeartbeats 4000000
namespace L2
open PySem PySem.Spec PyProof.Rows
structure MDef (K:PySem.W.Frag) (C:Addr) (x q:Str) (st:Stmt) (ps:List Str) (f:Addr) (fd:FuncData):Prop where
 F:Fun K x q st f fd
 m:Meth K C x f
 b:Binds K fd ps []
section
variable {X:Cx}
end
section
variable {X:Cx} {o e:Expr} {es:List Expr} {to:TE} {t:TA} {name:Str} {apos cpos:Pos} {T id:String} {r:V->List V->Hp->VK->Prop}
end
end L2
set_option Elab.async false
set_option linter.all false
set_option maxRecDepth 100000
set_option maxHeartbeats 4000000
namespace L2
open PySem PySem.Spec PyProof.Rows
section
variable {prog:Program} {w:World} {A:Around} {E:Value->Shared->Prop}
end
section
variable {X:Cx}
end
end L2
set_option Elab.async false
set_option linter.all false
set_option maxRecDepth 100000
set_option maxHeartbeats 4000000
namespace L2
open PySem PySem.Spec PyProof.Rows
open PySem.W (KasT kas_rev kas_asc kas_desc kas_tail3 kas_descPart kas_count kas_place kas_bin kas_sort kas_ask kas_ask_eq kas_runs kas_st kas_range kas_item kas_item_eq)
namespace Srt
def Gd {α:Type}(P:Nat->Nat->Prop)(f:Nat->Nat->Bool):KasT α->(α->Prop)->Prop
 | .ret a,Q=>Q a
 | .ask i j k,Q=>P i j/\Gd P f (k (f i j)) Q
theorem Gd.bind {α β:Type}{P:Nat->Nat->Prop}{f:Nat->Nat->Bool}{g:α->KasT β}{Q:β->Prop}:∀{t:KasT α},Gd P f t (fun a=>Gd P f (g a) Q)->Gd P f (t.bind g) Q
 | .ret _,h=>h
 | .ask i j k,h=>⟨h.1,Gd.bind (t:=k (f i j)) h.2⟩
theorem Gd.wp {α:Type}{P:Nat->Nat->Prop}{f:Nat->Nat->Bool}{cmp:Nat->Nat->(Bool->Shared->Prop)->Shared->Prop}{s:Shared}(hc:∀ i j C,P i j->C (f i j) s->cmp i j C s){Q:α->Prop}{G:α->Shared->Prop}(hQ:∀ a,Q a->G a s):∀{t:KasT α},Gd P f t Q->t.kasWp cmp G s
 | .ret _,h=>hQ _ h
 | .ask i j k,h=>hc i j _ h.1 (Gd.wp hc hQ (t:=k (f i j)) h.2)
section
variable {n:Nat} {key:Nat->Int}
structure Pr (n:Nat) (p:Array Nat):Prop where
 sz:p.size=n
 lt:∀ i,i < n->p.getD i 0 < n
 inj:∀ i j,i < n->j < n->p.getD i 0=p.getD j 0->i=j
def Up (key:Nat->Int)(p:Array Nat)(m:Nat):Prop:=∀ i j,i < j->j < m->key (p.getD i 0) < key (p.getD j 0)
def Dn (key:Nat->Int)(p:Array Nat)(m:Nat):Prop:=∀ i j,i < j->j < m->key (p.getD j 0) < key (p.getD i 0)
def Ok (n:Nat)(key:Nat->Int)(i j:Nat):Prop:=i < n/\j < n/\key i≠key j
def Inj (n:Nat)(key:Nat->Int):Prop:=∀ i j,i < n->j < n->key i=key j->i=j
abbrev ask (key:Nat->Int) (i j:Nat):Bool:=decide (key i < key j)
theorem Pr.ok {p:Array Nat}(h:Pr n p)(hk:Inj n key){i j:Nat}(hi:i < n)(hj:j < n)(hij:i≠j):Ok n key (p.getD i 0) (p.getD j 0):=
 ⟨h.lt i hi,h.lt j hj,fun e=>hij (h.inj i j hi hj (hk _ _ (h.lt i hi) (h.lt j hj) e))⟩
theorem Up.more {p:Array Nat}{m:Nat}(h:Up key p m)(hm:1<=m)(hl:key (p.getD (m - 1) 0) < key (p.getD m 0)):Up key p (m+ 1):=fun i j hij hj=>by
 by_cases e:j=m
 ·subst e
  by_cases e2:i=j - 1
  ·rw[e2];exact hl
  ·exact Int.lt_trans (h i (j - 1) (by omega) (by omega)) hl
 ·exact h i j hij (by omega)
theorem Dn.more {p:Array Nat}{m:Nat}(h:Dn key p m)(hm:1<=m)(hl:key (p.getD m 0) < key (p.getD (m - 1) 0)):Dn key p (m+ 1):=fun i j hij hj=>by
 by_cases e:j=m
 ·subst e
  by_cases e2:i=j - 1
  ·rw[e2];exact hl
  ·exact Int.lt_trans hl (h i (j - 1) (by omega) (by omega))
 ·exact h i j hij (by omega)
theorem getD_of {p q:Array Nat}{i j:Nat}(h:p[i]?=q[j]?):p.getD i 0=q.getD j 0:=by
 rw[Array.getD_eq_getD_getElem?,Array.getD_eq_getD_getElem?,h]
theorem rev_at {p:Array Nat}{m:Nat}(hm:m<=p.size)(i:Nat):(kas_rev p 0 m).getD i 0=if i < m then p.getD (m - 1 - i) 0 else p.getD i 0:=by
 have e:=getElem?_mirror_all (xs:=p) (i:=0) (j:=m) hm i
 by_cases h:i < m
 ·rw[if_pos ⟨Nat.zero_le _,h⟩] at e
  rw[if_pos h,← show 0+ m - 1 - i=m - 1 - i by omega]
  exact getD_of e
 ·rw[if_neg (fun z=>h z.2)] at e
  rw[if_neg h]
  exact getD_of e
theorem Pr.rev {p:Array Nat}{m:Nat}(h:Pr n p)(hm:m<=n):Pr n (kas_rev p 0 m):=by
 have hz:m<=p.size:=by rw[h.sz];exact hm
 refine⟨(mirror_size ..).trans h.sz,fun i hi=>?_,fun i j hi hj e=>?_⟩
 ·rw[rev_at hz]
  split
  ·exact h.lt _ (by omega)
  ·exact h.lt _ hi
 ·rw[rev_at hz,rev_at hz] at e
  split at e <;> split at e
  ·have:=h.inj _ _ (by omega) (by omega) e
   omega
  ·have:=h.inj _ _ (by omega) (by omega) e
   omega
  ·have:=h.inj _ _ (by omega) (by omega) e
   omega
  ·exact h.inj _ _ hi hj e
theorem Dn.rev {p:Array Nat}{m:Nat}(hz:m<=p.size)(h:Dn key p m):Up key (kas_rev p 0 m) m:=fun i j hij hj=>by
 rw[rev_at hz,rev_at hz,if_pos (by omega),if_pos hj]
 exact h _ _ (by omega) (by omega)
end
end Srt
end L2
set_option Elab.async false
set_option linter.all false
set_option maxRecDepth 100000
set_option maxHeartbeats 4000000
namespace L2
open PySem PySem.Spec PyProof.Rows
open AutoSeq1 (wpAny_loadPart')
open PySem.W (KasT kas_sort kas_ask kas_ask_eq kas_runs kas_st kas_range kas_item kas_item_eq)
namespace Srt
section
variable {prog:Program} {w:World} {A:Around} {E:Value->Shared->Prop} {s:Shared}
end
end Srt
end L2
set_option Elab.async false
set_option linter.all false
set_option maxRecDepth 100000
set_option maxHeartbeats 4000000
namespace L2
open PySem PySem.Spec PyProof.Rows
section
variable {X:Cx}
end
end L2
set_option Elab.async false
set_option linter.all false
set_option maxRecDepth 100000
set_option maxHeartbeats 4000000
namespace L2
open PySem PySem.Spec PyProof.Rows
section
variable {prog:Program} {w:World} {K:Type} [DecidableEq K] {knd:KeyKind prog w K} {A:Around} {E:Value->Shared->Prop}
end
section
variable {X:Cx}
end
end L2
set_option Elab.async false
set_option linter.all false
set_option maxRecDepth 100000
set_option maxHeartbeats 4000000
namespace L2
open PySem PySem.Spec PyProof.Rows
section
variable {X:Cx} {pins:List (Addr×Obj)} {σ:St} {H:Hp} {s:Shared} {d:Addr} {u:HO} {o:Obj}
theorem Inv.freeze (I:Inv X pins σ H s)(e:H d=some u)(mu:Mut (some u))(ho:s.heap.get? d=some o):Inv X pins σ (upd H d (.frz o u)) s:=by
 have mu':Mut (H d):=by rw[e];exact mu
 have nown:∀ c y,H c=some (.own y)->c≠d:=fun c y r z=>by subst z;rw[r] at mu';exact mu'
 have ntup:∀ c xs,H c=some (.tup xs)->c≠d:=fun c xs r z=>by subst z;rw[r] at mu';exact mu'
 have new:ObjOk X.prog X.w (upd H d (.frz o u)) s.heap d u:=(I.hok d u e).stay (fun c v _ r=>r) (fun c r=>by rw[upd_ne (nown _ _ r)];exact r) fun c xs r=>by rw[upd_ne (ntup _ _ r)];exact r
 exact d_write (t':=s.toks) I mu' (Heap.SameBut.refl _ _) ⟨o,ho⟩ ⟨ho,new⟩
theorem Inv.thaw (I:Inv X pins σ H s)(e:H d=some (.frz o u))(mu:Mut (some u))(h0:∀ o u,X.H₀ d≠some (.frz o u)):Inv X pins σ (upd H d u) s:=by
 have nn:∀ b,H b=none->b≠d:=fun b n z=>by rw[z,e] at n;cases n
 have nown:∀ c y,H c=some (.own y)->c≠d:=fun c y r z=>by rw[z,e] at r;cases r
 have ntup:∀ c xs,H c=some (.tup xs)->c≠d:=fun c xs r z=>by rw[z,e] at r;cases r
 refine⟨I.ok,I.os,I.bare,⟨I.base.keep,I.base.slot,fun b ob q n hx=>?_,I.base.there,fun b xs q=>?_,fun b ob v q=>?_,fun b ps q=>?_⟩,I.loc,I.cell,?_,fun x c q=>?_,fun p hp=>?_,fun b v q=>?_,I.len⟩
 ·have h1:=I.base.free b ob q n hx
  rw[upd_ne (nn b h1)];exact h1
 ·have h1:=I.base.tups b xs q
  rw[upd_ne (ntup _ _ h1)];exact h1
 ·have h1:=I.base.frzs b ob v q
  rw[upd_ne (fun z=>h0 ob v (by rw[← z];exact q))];exact h1
 ·obtain⟨m,h1⟩:=I.base.tbls b ps q
  refine⟨m,?_⟩
  rw[upd_ne (fun z=>by rw[z,e] at h1;cases h1)];exact h1
 ·rw[upd_ne (nn _ I.free)];exact I.free
 ·have h1:=I.freeC x c q
  rw[upd_ne (nn _ h1)];exact h1
 ·obtain⟨a,b,c⟩:=I.pin p hp
  refine⟨a,?_,c⟩
  rw[upd_ne (nn _ b)];exact b
 ·have st:∀ b v,ObjOk X.prog X.w H s.heap b v->ObjOk X.prog X.w (upd H d u) s.heap b v:=fun b v q=>q.stay (fun c v _ r=>r) (fun c r=>by rw[upd_ne (nown _ _ r)];exact r) fun c xs r=>by rw[upd_ne (ntup _ _ r)];exact r
  by_cases hb:b=d
  ·subst hb
   rw[upd_same] at q
   obtain rfl:=Option.some.inj q
   exact st _ _ (I.hok _ _ e).2
  ·rw[upd_ne hb] at q
   exact st _ _ (I.hok b v q)
theorem Inv.unfrozen (I:Inv X pins σ H s)(e:H d=some u)(mu:Mut (some u)):∀ o u,X.H₀ d≠some (.frz o u):=fun o v q=>by
 rw[I.base.frzs d o v q] at e
 cases e
 exact mu
def tThaw (t:TS):TS:=fun D σ H=>∃(d:Addr) (u:HO),H d=some u/\Mut (some u)/\
 t { nx:=fun σ' H'=>∃ o,H' d=some (.frz o u)/\D.nx σ' (upd H' d u),rt:=fun v H'=>∃ o,H' d=some (.frz o u)/\D.rt v (upd H' d u),
     bk:=fun σ' H'=>∃ o,H' d=some (.frz o u)/\D.bk σ' (upd H' d u),ct:=fun σ' H'=>∃ o,H' d=some (.frz o u)/\D.ct σ' (upd H' d u) } σ H
theorem ps_thaw {st:Stmt}{t:TS}(h:PS X st t):PS X st (tThaw t):=by
 intro pins s σ H D I q
 obtain⟨d,u,e,mu,q⟩:=q
 have h0:=I.unfrozen e mu
 refine thn (h pins s σ H _ I q) fun f s' p=>?_
 cases f with
 | next=>obtain⟨σ',H',I',o,e',q'⟩:=p;exact⟨σ',_,I'.thaw e' mu h0,q'⟩
 | brk=>obtain⟨σ',H',I',o,e',q'⟩:=p;exact⟨σ',_,I'.thaw e' mu h0,q'⟩
 | cont=>obtain⟨σ',H',I',o,e',q'⟩:=p;exact⟨σ',_,I'.thaw e' mu h0,q'⟩
 | ret v=>obtain⟨v',σ',H',I',r,o,e',q'⟩:=p;exact⟨v',σ',_,I'.thaw e' mu h0,r,q'⟩
end
def ItdK (d:Addr)(o:Obj)(kvs:List (Key×V)):It:=
 ⟨fun i H=>i < kvs.length/\H d=some (.frz o (.dK kvs)),fun i H x H'=>H'=H/\∃ kv,kvs[i]?=some kv/\x=kV kv.1,fun i H=>kvs.length<=i/\H d=some (.frz o (.dK kvs))⟩
section
variable {X:Cx} {tg:Expr}
theorem mix_rel {P:Program}{w:World}{k:Key}{v:Value}(h:(mixKind P w).is k v=true):RelV (kV k) v:=by
 cases k with
 | inl i=>
   have h':Value.isInt i v=true:=h
   cases v with
   | int j t=>simp[Value.isInt] at h';subst h';exact⟨_,rfl⟩
   | _=>simp[Value.isInt] at h'
 | inr x=>
   have h':Value.isStrOf x v=true:=h
   cases v with
   | str j t=>simp[Value.isStrOf] at h';subst h';exact⟨_,rfl⟩
   | _=>simp[Value.isStrOf] at h'
end
end L2
set_option Elab.async false
set_option linter.all false
set_option maxRecDepth 100000
set_option maxHeartbeats 4000000
namespace L2
open PySem PySem.Spec PyProof.Rows
inductive Dt where
 | i (n:Int) | s (l:List Nat) | n | b (k:Bool) | t (xs:List Dt) | l (xs:List Dt)
inductive DtAt (H:Hp):Nat->V->Dt->Prop where
 | i {k:Nat} {n:Int}:DtAt H k (.int n) (.i n)
 | s {k:Nat} {l:List Nat}:DtAt H k (.str (tx l)) (.s l)
 | n {k:Nat}:DtAt H k .non .n
 | b {k:Nat} {c:Bool}:DtAt H k (.bl c) (.b c)
 | t {k:Nat} {a:Addr} {vs:List V} {ds:List Dt}:H a=some (.tup vs)->vs.length=ds.length->(∀(j:Nat) (v:V) (d:Dt),vs[j]?=some v->ds[j]?=some d->DtAt H k v d)->DtAt H (k+ 1) (.ref a) (.t ds)
 | l {k:Nat} {a:Addr} {vs:List V} {ds:List Dt}:H a=some (.lst vs)->vs.length=ds.length->(∀(j:Nat) (v:V) (d:Dt),vs[j]?=some v->ds[j]?=some d->DtAt H k v d)->DtAt H (k+ 1) (.ref a) (.l ds)
theorem DtAt.keep {H H':Hp}(ht:∀ a xs,H a=some (.tup xs)->H' a=some (.tup xs))(hl:∀ a xs,H a=some (.lst xs)->H' a=some (.lst xs)){k:Nat}{v:V}{d:Dt}(h:DtAt H k v d):DtAt H' k v d:=by
 induction h with
 | i=>exact .i
 | s=>exact .s
 | n=>exact .n
 | b=>exact .b
 | t a b c ih=>exact .t (ht _ _ a) b ih
 | l a b c ih=>exact .l (hl _ _ a) b ih
theorem DtAt.same {H H':Hp}(s:Same H H'){k:Nat}{v:V}{d:Dt}(h:DtAt H k v d):DtAt H' k v d:=h.keep (fun _ _ e=>s _ _ e) (fun _ _ e=>s _ _ e)
theorem DtAt.up {H:Hp}{k:Nat}{v:V}{d:Dt}(h:DtAt H k v d):DtAt H (k+ 1) v d:=by
 induction h with
 | i=>exact .i
 | s=>exact .s
 | n=>exact .n
 | b=>exact .b
 | t a b c ih=>exact .t a b ih
 | l a b c ih=>exact .l a b ih
theorem DtAt.le {H:Hp}{k m:Nat}{v:V}{d:Dt}(h:DtAt H k v d)(hm:k<=m):DtAt H m v d:=by
 obtain⟨j,rfl⟩:=Nat.exists_eq_add_of_le hm
 clear hm
 induction j with
 | zero=>exact h
 | succ j ih=>exact ih.up
section
variable {X:Cx} {pins:List (Addr×Obj)} {σ:St} {H:Hp} {s:Shared}
theorem beq_same (x:Str):(x==x)=true:=by simp
theorem eq_int_self {A:Around}(n:Int)(t t':Tok):SeqAt.EqAt A s (.int n t) (.int n t') true:=by
 have:=SeqAt.EqAt.int_int (A:=A) (s:=s) n t n t'
 rw[beq_self_eq_true] at this
 exact this
theorem eq_str_self {A:Around}(x:Str)(t t':Tok):SeqAt.EqAt A s (.str x t) (.str x t') true:=by
 have:=SeqAt.EqAt.str_str (A:=A) (s:=s) x t x t'
 rw[beq_same] at this
 exact this
theorem eq_dt (I:Inv X pins σ H s):∀(k:Nat) (A:Around) (v v':V) (u u':Value) (d:Dt),A.units+ k < cLine->DtAt H k v d->DtAt H k v' d->RelV v u->RelV v' u'->SeqAt.EqAt A s u u' true:=by
 intro k
 induction k with
 | zero=>
   intro A v v' u u' d hu h h' r r'
   cases h with
   | @i n=>cases h' with | i=>?_
           obtain⟨t,rfl⟩:=r
           obtain⟨t',rfl⟩:=r'
           exact eq_int_self _ _ _
   | @s l=>cases h' with | s=>?_
           obtain⟨t,rfl⟩:=r
           obtain⟨t',rfl⟩:=r'
           exact eq_str_self _ _ _
   | n=>cases h' with | n=>?_
        cases r
        cases r'
        exact SeqAt.EqAt.same _
   | @b c=>cases h' with | b=>?_
           cases r
           cases r'
           exact SeqAt.EqAt.same _
 | succ k ih=>
   intro A v v' u u' d hu h h' r r'
   cases h with
   | @i _ n=>cases h' with | i=>?_
             obtain⟨t,rfl⟩:=r
             obtain⟨t',rfl⟩:=r'
             exact eq_int_self _ _ _
   | @s _ l=>cases h' with | s=>?_
             obtain⟨t,rfl⟩:=r
             obtain⟨t',rfl⟩:=r'
             exact eq_str_self _ _ _
   | n=>cases h' with | n=>?_
        cases r
        cases r'
        exact SeqAt.EqAt.same _
   | @b _ c=>cases h' with | b=>?_
             cases r
             cases r'
             exact SeqAt.EqAt.same _
   | @t _ a vs ds h1 h2 h3=>
     cases h' with
     | @t _ b vs' _ g1 g2 g3=>
       cases r
       cases r'
       by_cases e:a=b
       ·subst e
        exact SeqAt.EqAt.same _
       ·refine SeqAt.EqAt.of_refs e ?_
        obtain⟨its,r1,p1,_⟩:=I.tuple (SqT.of h1)
        obtain⟨its2,r2,p2,_⟩:=I.tuple (SqT.of g1)
        have l1:=r1.length
        have l2:=r2.length
        have:=SeqAt.RcAt.tuples (A:=A) (e:=fun _=>true) (show s.heap.IsTuple a its.toArray from p1) (show s.heap.IsTuple b its2.toArray from p2) (by omega) (fun j q1 q2=>?_)
        ·rw[List.size_toArray,List.size_toArray,← l1,← l2,h2,g2,all_true _ _ fun _=>rfl] at this
         simpa using this
        ·have k1:j < its.length:=by simpa using q1
         have k2:j < its2.length:=by simpa using q2
         have d1:vs[j]?=some (vs[j]'(by omega)):=List.getElem?_eq_getElem (by omega)
         have d2:vs'[j]?=some (vs'[j]'(by omega)):=List.getElem?_eq_getElem (by omega)
         have d3:ds[j]?=some (ds[j]'(by omega)):=List.getElem?_eq_getElem (by omega)
         obtain⟨w1,e1,z1⟩:=r1.get d1
         obtain⟨w2,e2,z2⟩:=r2.get d2
         have f1:its.toArray[j]=w1:=by rw[List.getElem_toArray];exact Option.some.inj ((List.getElem?_eq_getElem k1).symm.trans e1)
         have f2:its2.toArray[j]=w2:=by rw[List.getElem_toArray];exact Option.some.inj ((List.getElem?_eq_getElem k2).symm.trans e2)
         rw[f1,f2]
         exact ih _ _ _ _ _ _ (show A.units+ 1+ k < cLine by omega) (h3 j _ _ d1 d3) (g3 j _ _ d2 d3) z1 z2
   | @l _ a vs ds h1 h2 h3=>
     cases h' with
     | @l _ b vs' _ g1 g2 g3=>
       cases r
       cases r'
       by_cases e:a=b
       ·subst e
        exact SeqAt.EqAt.same _
       ·refine SeqAt.EqAt.of_refs e ?_
        obtain⟨its,r1,p1,_⟩:=I.list (SqL.of h1)
        obtain⟨its2,r2,p2,_⟩:=I.list (SqL.of g1)
        have l1:=r1.length
        have l2:=r2.length
        have:=SeqAt.RcAt.lists (A:=A) (e:=fun _=>true) p1.isList p2.isList (by simp;omega) (by omega) (fun j q1 q2=>?_)
        ·rw[all_true _ _ fun _=>rfl] at this
         exact this
        ·have k1:j < its.length:=by simpa using q1
         have k2:j < its2.length:=by simpa using q2
         have d1:vs[j]?=some (vs[j]'(by omega)):=List.getElem?_eq_getElem (by omega)
         have d2:vs'[j]?=some (vs'[j]'(by omega)):=List.getElem?_eq_getElem (by omega)
         have d3:ds[j]?=some (ds[j]'(by omega)):=List.getElem?_eq_getElem (by omega)
         obtain⟨w1,e1,z1⟩:=r1.get d1
         obtain⟨w2,e2,z2⟩:=r2.get d2
         have f1:its.toArray[j]=w1:=by rw[List.getElem_toArray];exact Option.some.inj ((List.getElem?_eq_getElem k1).symm.trans e1)
         have f2:its2.toArray[j]=w2:=by rw[List.getElem_toArray];exact Option.some.inj ((List.getElem?_eq_getElem k2).symm.trans e2)
         rw[f1,f2]
         exact ih _ _ _ _ _ _ (show A.units+ 1+ k < cLine by omega) (h3 j _ _ d1 d3) (g3 j _ _ d2 d3) z1 z2
end
section
variable {X:Cx}
theorem dt_items {pins:List (Addr×Obj)}{σ:St}{H:Hp}{s:Shared}(I:Inv X pins σ H s){k:Nat}{A:Around}(hu:A.units+ k < cLine){vs vs':List V}{its its2:List Value}{ds:List Dt}(r1:Vals vs its)(r2:Vals vs' its2)(h2:vs.length=ds.length)(g2:vs'.length=ds.length)
 (h3:∀(j:Nat) (v:V) (d:Dt),vs[j]?=some v->ds[j]?=some d->DtAt H k v d) (g3:∀(j:Nat) (v:V) (d:Dt),vs'[j]?=some v->ds[j]?=some d->DtAt H k v d) (j:Nat) (q1:j < its.toArray.size) (q2:j < its2.toArray.size):SeqAt.EqAt A s its.toArray[j] its2.toArray[j] true:=by
 have l1:=r1.length
 have l2:=r2.length
 have k1:j < its.length:=by simpa using q1
 have k2:j < its2.length:=by simpa using q2
 have d1:vs[j]?=some (vs[j]'(by omega)):=List.getElem?_eq_getElem (by omega)
 have d2:vs'[j]?=some (vs'[j]'(by omega)):=List.getElem?_eq_getElem (by omega)
 have d3:ds[j]?=some (ds[j]'(by omega)):=List.getElem?_eq_getElem (by omega)
 obtain⟨w1,e1,z1⟩:=r1.get d1
 obtain⟨w2,e2,z2⟩:=r2.get d2
 have f1:its.toArray[j]=w1:=by rw[List.getElem_toArray];exact Option.some.inj ((List.getElem?_eq_getElem k1).symm.trans e1)
 have f2:its2.toArray[j]=w2:=by rw[List.getElem_toArray];exact Option.some.inj ((List.getElem?_eq_getElem k2).symm.trans e2)
 rw[f1,f2]
 exact eq_dt I k _ _ _ _ _ _ hu (h3 j _ _ d1 d3) (g3 j _ _ d2 d3) z1 z2
def rEqDt:R2:=fun x y H Q=>∃ d a b,x=.ref a/\y=.ref b/\DtAt H 8 x d/\DtAt H 8 y d/\Q (.bl true) H
theorem op_eqDt (hu:X.A.units+ 8 < cLine):OpR X (compareOp .Eq) rEqDt:=by
 intro pins s σ H x y v u Q I rx ry h
 obtain⟨d,a,b,rfl,rfl,h,h',q⟩:=h
 cases rx
 cases ry
 cases h with
 | t h1 h2 h3=>
   cases h' with
   | t g1 g2 g3=>
     obtain⟨its,r1,p1,_⟩:=I.tuple (SqT.of h1)
     obtain⟨its2,r2,p2,_⟩:=I.tuple (SqT.of g1)
     have l1:=r1.length
     have l2:=r2.length
     refine SeqAt.eq_tupleAt (e:=fun _=>true) (show s.heap.IsTuple a _ from p1) (show s.heap.IsTuple b _ from p2) (by omega) (fun j q1 q2=>dt_items I (k:=7) (by show X.A.units+ 1+ 7 < cLine;omega) r1 r2 h2 g2 h3 g3 j q1 q2) ⟨.bl true,H,I,?_,q⟩
     show _=Value.bool true
     rw[List.size_toArray,List.size_toArray,← l1,← l2,h2,g2,all_true _ _ fun _=>rfl]
     simp
 | l h1 h2 h3=>
   cases h' with
   | l g1 g2 g3=>
     obtain⟨its,r1,p1,_⟩:=I.list (SqL.of h1)
     obtain⟨its2,r2,p2,_⟩:=I.list (SqL.of g1)
     have l1:=r1.length
     have l2:=r2.length
     refine SeqAt.eq_listAt (e:=fun _=>true) p1.isList p2.isList (by simp;omega) (by omega) (fun j q1 q2=>dt_items I (k:=7) (by show X.A.units+ 1+ 7 < cLine;omega) r1 r2 h2 g2 h3 g3 j q1 q2) ⟨.bl true,H,I,?_,q⟩
     show _=Value.bool true
     rw[all_true _ _ fun _=>rfl]
end
end L2
set_option Elab.async false
set_option linter.all false
set_option maxRecDepth 100000
set_option maxHeartbeats 4000000
namespace L2
open PySem PySem.Spec PyProof.Rows
def nI (l:List Nat):List Int:=l.map fun n:Nat=>(n:Int)
structure RS where
 L:Nat
 made:Nat
 rows:List Dt
 ways:List (List (Int×Nat))
 gaps:List (List Int)
 elders:List Nat
 called:List (List Nat)
 went:List Nat
def wK (l:List (Int×Nat)):List (Key×V):=l.map fun p=>(Sum.inl p.1,V.int p.2)
def gK (l:List Int):List (Key×V):=l.map fun s=>(Sum.inl s,V.bl true)
def getW (l:List (Int×Nat))(s:Int):Option Nat:=(l.find? fun p=>decide (p.1=s)).map (·.2)
def putW (l:List (Int×Nat))(s:Int)(r:Nat):List (Int×Nat):=if (l.any fun p=>decide (p.1=s))=true then l.map fun p=>if p.1=s then (p.1,r) else p else l++[(s,r)]
theorem key_eq (a b:Int):decide ((Sum.inl a:Key)=Sum.inl b)=decide (a=b):=by
 rw[Bool.eq_iff_iff,decide_eq_true_iff,decide_eq_true_iff]
 exact⟨Sum.inl.inj,congrArg Sum.inl⟩
theorem wK_val (s:Int):∀ l:List (Int×Nat),valV (wK l) (Sum.inl s)=(getW l s).map fun r:Nat=>V.int (r:Int)
 | []=>rfl
 | p :: l=>by
   have ih:=wK_val s l
   by_cases h:p.1=s
   ·have e:valV (wK (p :: l)) (Sum.inl s)=some (V.int p.2):=valV_pos (p:=(Sum.inl p.1,V.int p.2)) (by rw[h])
    have e2:getW (p :: l) s=some p.2:=by unfold getW;rw[List.find?_cons_of_pos (by exact decide_eq_true h)];rfl
    rw[e,e2];rfl
   ·have e:valV (wK (p :: l)) (Sum.inl s)=valV (wK l) (Sum.inl s):=valV_neg (p:=(Sum.inl p.1,V.int p.2)) (fun z=>h (Sum.inl.inj z))
    have e2:getW (p :: l) s=getW l s:=by unfold getW;rw[List.find?_cons_of_neg (by simpa using h)]
    rw[e,e2,ih]
theorem wK_put (l:List (Int×Nat))(s:Int)(r:Nat):putK (wK l) (Sum.inl s) (.int r)=wK (putW l s r):=by
 unfold putK putW
 have ha:((wK l).any fun kv=>decide (kv.1=Sum.inl s))=l.any fun p=>decide (p.1=s):=by
  unfold wK
  rw[List.any_map]
  congr 1
  funext p
  exact key_eq _ _
 rw[ha]
 split
 ·unfold wK
  rw[List.map_map,List.map_map]
  refine List.map_congr_left fun p _=>?_
  show (if (Sum.inl p.1:Key)=Sum.inl s then _ else _)=_
  by_cases h:p.1=s
  ·simp only[Function.comp,h,if_true]
  ·have:¬ (Sum.inl p.1:Key)=Sum.inl s:=fun z=>h (Sum.inl.inj z)
   simp only[Function.comp,h,this,if_false]
 ·unfold wK
  rw[List.map_append]
  rfl
theorem getW_put (l:List (Int×Nat))(s t:Int)(r:Nat):getW (putW l s r) t=if t=s then some r else getW l t:=by
 have h1:=wK_val t (putW l s r)
 rw[← wK_put,valV_put,wK_val] at h1
 have inj:∀ a b:Option Nat,(a.map fun r:Nat=>V.int (r:Int))=(b.map fun r:Nat=>V.int (r:Int))->a=b:=fun a b h=>by
  cases a <;> cases b <;> simp at h ⊢
  omega
 apply inj
 rw[← h1]
 by_cases e:t=s
 ·rw[if_pos e,if_pos (by rw[e])];rfl
 ·rw[if_neg e,if_neg (fun z=>e (Sum.inl.inj z))]
structure RA where
 dx:Addr
 aR:Addr
 aW:Addr
 aG:Addr
 aE:Addr
 aC:Addr
 aN:Addr
 rs:List Addr
 ws:List Addr
 gs:List Addr
 cs:List Addr
def flds (L made:Int)(a:RA):List (Str×V):=[("letters",.int L),("made",.int made),("rows",.ref a.aR),("ways",.ref a.aW),("gaps",.ref a.aG),("elders",.ref a.aE),("called",.ref a.aC),("went",.ref a.aN)]
theorem putF_new {f:Str}{v:V}:∀{fs:List (Str×V)},fs.lookup f=none->putF f v fs=fs++[(f,v)]
 | [],_=>rfl
 | (g,x) :: r,h=>by
   by_cases e:g=f
   ·have hb:(f==g)=true:=beq_iff_eq.mpr e.symm
    simp[List.lookup,hb] at h
   ·have hb:(f==g)=false:=beq_eq_false_iff_ne.mpr (Ne.symm e)
    simp only[List.lookup,hb] at h
    show (if g=f then _ else _)=_
    rw[if_neg e,putF_new h];rfl
inductive NoL:Dt->Prop where
 | i {n:Int}:NoL (.i n)
 | s {l:List Nat}:NoL (.s l)
 | t {ds:List Dt}:ds.length<=100000->(∀ d∈ds,NoL d)->NoL (.t ds)
theorem DtAt.keepT {H H':Hp}(ht:∀ a xs,H a=some (.tup xs)->H' a=some (.tup xs)){k:Nat}{v:V}{d:Dt}(h:DtAt H k v d)(hn:NoL d):DtAt H' k v d:=by
 induction h with
 | i=>exact .i
 | s=>exact .s
 | n=>exact .n
 | b=>exact .b
 | t a b c ih=>
   cases hn with
   | t _ hh=>exact .t (ht _ _ a) b fun j v d h1 h2=>ih j v d h1 h2 (hh d (List.mem_of_getElem? h2))
 | l a b c ih=>cases hn
def Each {α:Type}(R:Addr->α->Prop)(ps:List Addr)(xs:List α):Prop:=ps.length=xs.length/\∀(i:Nat) (p:Addr) (x:α),ps[i]?=some p->xs[i]?=some x->R p x
theorem Each.imp {α:Type}{R R':Addr->α->Prop}{ps:List Addr}{xs:List α}(h:Each R ps xs)(f:∀ p x,p∈ps->x∈xs->R p x->R' p x):Each R' ps xs:=
 ⟨h.1,fun i p x h1 h2=>f p x (List.mem_of_getElem? h1) (List.mem_of_getElem? h2) (h.2 i p x h1 h2)⟩
theorem Each.snoc {α:Type}{R:Addr->α->Prop}{ps:List Addr}{xs:List α}{p:Addr}{x:α}(h:Each R ps xs)(hp:R p x):Each R (ps++[p]) (xs++[x]):=by
 refine⟨by rw[List.length_append,List.length_append,h.1];rfl,fun i q y h1 h2=>?_⟩
 by_cases hi:i < ps.length
 ·rw[List.getElem?_append_left hi] at h1
  rw[List.getElem?_append_left (by rw[← h.1];exact hi)] at h2
  exact h.2 i q y h1 h2
 ·rw[List.getElem?_append_right (by omega)] at h1
  rw[List.getElem?_append_right (by rw[← h.1];omega)] at h2
  rw[List.mem_singleton.mp (List.mem_of_getElem? h1),List.mem_singleton.mp (List.mem_of_getElem? h2)]
  exact hp
theorem Each.at {α:Type}{R:Addr->α->Prop}{ps:List Addr}{xs:List α}(h:Each R ps xs){i:Nat}{x:α}(hx:xs[i]?=some x):∃ p,ps[i]?=some p/\R p x:=by
 have hi:i < ps.length:=by rw[h.1];exact(List.getElem?_eq_some_iff.mp hx).1
 exact⟨_,List.getElem?_eq_getElem hi,h.2 i _ x (List.getElem?_eq_getElem hi) hx⟩
theorem Each.mem {α:Type}{R:Addr->α->Prop}{ps:List Addr}{xs:List α}(h:Each R ps xs){p:Addr}(hp:p∈ps):∃ x,x∈xs/\R p x:=by
 obtain⟨i,hi⟩:=List.getElem?_of_mem hp
 have hl:i < xs.length:=by rw[← h.1];exact(List.getElem?_eq_some_iff.mp hi).1
 exact⟨_,List.mem_of_getElem? (List.getElem?_eq_getElem hl),h.2 i p _ hi (List.getElem?_eq_getElem hl)⟩
theorem Each.set {α:Type}{R R':Addr->α->Prop}{ps:List Addr}{xs:List α}{i:Nat}{p:Addr}{x:α}(h:Each R ps xs)(hp:ps[i]?=some p)(hx:R' p x)(hn:ps.Nodup)(f:∀ q y,q∈ps->q≠p->R q y->R' q y):Each R' ps (xs.set i x):=by
 refine⟨by rw[List.length_set];exact h.1,fun j q y h1 h2=>?_⟩
 by_cases e:i=j
 ·subst e
  rw[hp] at h1
  obtain rfl:=Option.some.inj h1
  have hi:i < xs.length:=by rw[← h.1];exact(List.getElem?_eq_some_iff.mp hp).1
  rw[List.getElem?_set_self hi] at h2
  obtain rfl:=Option.some.inj h2
  exact hx
 ·rw[List.getElem?_set_ne e] at h2
  refine f q y (List.mem_of_getElem? h1) (fun z=>?_) (h.2 j q y h1 h2)
  subst z
  exact e ((List.getElem?_inj (List.getElem?_eq_some_iff.mp hp).1 hn).mp (hp.trans h1.symm))
def RA.lists (a:RA):List Addr:=a.aR :: a.aW :: a.aG :: a.aE :: a.aC :: a.aN :: a.cs
def RA.dicts (a:RA):List Addr:=a.ws++a.gs
def RA.own (a:RA)(r b:Addr):Prop:=b=r\/b∈a.lists\/b∈a.dicts
structure RoomsAt (C:Addr) (H:Hp) (r:Addr) (S:RS) (a:RA):Prop where
 ins:H r=some (.ins C a.dx (flds S.L S.made a))
 hR:H a.aR=some (.lst (a.rs.map V.ref))
 hW:H a.aW=some (.lst (a.ws.map V.ref))
 hG:H a.aG=some (.lst (a.gs.map V.ref))
 hE:H a.aE=some (.lst (intV (nI S.elders)))
 hC:H a.aC=some (.lst (a.cs.map V.ref))
 hN:H a.aN=some (.lst (intV (nI S.went)))
 rR:Each (fun p d=>DtAt H 4 (.ref p) d) a.rs S.rows
 rW:Each (fun p l=>H p=some (.dK (wK l))) a.ws S.ways
 rG:Each (fun p l=>H p=some (.dK (gK l))) a.gs S.gaps
 rC:Each (fun p l=>H p=some (.lst (intV (nI l)))) a.cs S.called
 flat:∀ d∈S.rows,NoL d
 ndL:a.lists.Nodup
 ndD:a.dicts.Nodup
section
variable {C:Addr} {H H':Hp} {r:Addr} {S:RS} {a:RA}
theorem RoomsAt.keep (h:RoomsAt C H r S a)(k:∀ b o,a.own r b->H b=some o->H' b=some o)(kt:∀ b xs,H b=some (.tup xs)->H' b=some (.tup xs)):RoomsAt C H' r S a:=by
 have kl:∀ b o,b∈a.lists->H b=some o->H' b=some o:=fun b o hb=>k b o (.inr (.inl hb))
 have kd:∀ b o,b∈a.dicts->H b=some o->H' b=some o:=fun b o hb=>k b o (.inr (.inr hb))
 exact⟨k _ _ (.inl rfl) h.ins,kl _ _ (by simp[RA.lists]) h.hR,kl _ _ (by simp[RA.lists]) h.hW,kl _ _ (by simp[RA.lists]) h.hG,kl _ _ (by simp[RA.lists]) h.hE,kl _ _ (by simp[RA.lists]) h.hC,kl _ _ (by simp[RA.lists]) h.hN,
  h.rR.imp fun p x _ hx e=>e.keepT kt (h.flat x hx),h.rW.imp fun p x hp _ e=>kd _ _ (List.mem_append_left _ hp) e,h.rG.imp fun p x hp _ e=>kd _ _ (List.mem_append_right _ hp) e,
  h.rC.imp fun p x hp _ e=>kl _ _ (by simp[RA.lists,hp]) e,h.flat,h.ndL,h.ndD⟩
theorem RoomsAt.same (h:RoomsAt C H r S a)(s:Same H H'):RoomsAt C H' r S a:=h.keep (fun _ _ _ e=>s _ _ e) (fun _ _ e=>s _ _ e)
theorem RoomsAt.there (h:RoomsAt C H r S a){b:Addr}(hb:a.own r b):∃ o,H b=some o:=by
 rcases hb with rfl | hb | hb
 ·exact⟨_,h.ins⟩
 ·unfold RA.lists at hb
  simp only[List.mem_cons] at hb
  rcases hb with rfl | rfl | rfl | rfl | rfl | rfl | hb
  ·exact⟨_,h.hR⟩
  ·exact⟨_,h.hW⟩
  ·exact⟨_,h.hG⟩
  ·exact⟨_,h.hE⟩
  ·exact⟨_,h.hC⟩
  ·exact⟨_,h.hN⟩
  ·obtain⟨x,_,e⟩:=h.rC.mem hb;exact⟨_,e⟩
 ·rcases List.mem_append.mp hb with hb | hb
  ·obtain⟨x,_,e⟩:=h.rW.mem hb;exact⟨_,e⟩
  ·obtain⟨x,_,e⟩:=h.rG.mem hb;exact⟨_,e⟩
theorem RoomsAt.notup (h:RoomsAt C H r S a){b:Addr}{xs:List V}(e:H b=some (.tup xs)):¬ a.own r b:=fun hb=>by
 rcases hb with rfl | hb | hb
 ·rw[h.ins] at e;cases e
 ·unfold RA.lists at hb
  simp only[List.mem_cons] at hb
  rcases hb with rfl | rfl | rfl | rfl | rfl | rfl | hb
  ·rw[h.hR] at e;cases e
  ·rw[h.hW] at e;cases e
  ·rw[h.hG] at e;cases e
  ·rw[h.hE] at e;cases e
  ·rw[h.hC] at e;cases e
  ·rw[h.hN] at e;cases e
  ·obtain⟨x,_,e'⟩:=h.rC.mem hb;rw[e'] at e;cases e
 ·rcases List.mem_append.mp hb with hb | hb
  ·obtain⟨x,_,e'⟩:=h.rW.mem hb;rw[e'] at e;cases e
  ·obtain⟨x,_,e'⟩:=h.rG.mem hb;rw[e'] at e;cases e
end
end L2
set_option Elab.async false
set_option linter.all false
set_option maxRecDepth 100000
set_option maxHeartbeats 4000000
namespace L2
open PySem PySem.Spec PyProof.Rows
section
variable {C:Addr} {H H':Hp} {r:Addr} {S:RS} {a:RA}
theorem RoomsAt.isL (h:RoomsAt C H r S a){b:Addr}(hb:b∈a.lists):∃ xs,H b=some (.lst xs):=by
 unfold RA.lists at hb
 simp only[List.mem_cons] at hb
 rcases hb with rfl | rfl | rfl | rfl | rfl | rfl | hb
 ·exact⟨_,h.hR⟩
 ·exact⟨_,h.hW⟩
 ·exact⟨_,h.hG⟩
 ·exact⟨_,h.hE⟩
 ·exact⟨_,h.hC⟩
 ·exact⟨_,h.hN⟩
 ·obtain⟨x,_,e⟩:=h.rC.mem hb;exact⟨_,e⟩
theorem RoomsAt.isD (h:RoomsAt C H r S a){b:Addr}(hb:b∈a.dicts):∃ kvs,H b=some (.dK kvs):=by
 rcases List.mem_append.mp hb with hb | hb
 ·obtain⟨x,_,e⟩:=h.rW.mem hb;exact⟨_,e⟩
 ·obtain⟨x,_,e⟩:=h.rG.mem hb;exact⟨_,e⟩
theorem RoomsAt.rl (h:RoomsAt C H r S a){b:Addr}(hb:b∈a.lists):r≠b:=by obtain⟨xs,e⟩:=h.isL hb;exact ne_of h.ins e (by intro z;cases z)
theorem RoomsAt.rd (h:RoomsAt C H r S a){b:Addr}(hb:b∈a.dicts):r≠b:=by obtain⟨xs,e⟩:=h.isD hb;exact ne_of h.ins e (by intro z;cases z)
theorem RoomsAt.tl (h:RoomsAt C H r S a){b c:Addr}{xs:List V}(hb:H b=some (.tup xs))(hc:c∈a.lists):b≠c:=fun z=>h.notup hb (.inr (.inl (by rw[z];exact hc)))
theorem RoomsAt.td (h:RoomsAt C H r S a){b c:Addr}{xs:List V}(hb:H b=some (.tup xs))(hc:c∈a.dicts):b≠c:=fun z=>h.notup hb (.inr (.inr (by rw[z];exact hc)))
theorem RoomsAt.tr (h:RoomsAt C H r S a){b:Addr}{xs:List V}(hb:H b=some (.tup xs)):b≠r:=fun z=>h.notup hb (.inl z)
theorem nd7 (nd:a.lists.Nodup):(a.aR≠a.aW/\a.aR≠a.aG/\a.aR≠a.aE/\a.aR≠a.aC/\a.aR≠a.aN)/\(a.aW≠a.aG/\a.aW≠a.aE/\a.aW≠a.aC/\a.aW≠a.aN)/\(a.aG≠a.aE/\a.aG≠a.aC/\a.aG≠a.aN)/\(a.aE≠a.aC/\a.aE≠a.aN)/\a.aC≠a.aN/\∀ p∈a.cs,p≠a.aR/\p≠a.aW/\p≠a.aG/\p≠a.aE/\p≠a.aC/\p≠a.aN:=by
 unfold RA.lists at nd
 simp only[List.nodup_cons,List.mem_cons,not_or] at nd
 obtain⟨⟨h1,h2,h3,h4,h5,h6⟩,⟨g2,g3,g4,g5,g6⟩,⟨f3,f4,f5,f6⟩,⟨e4,e5,e6⟩,⟨d5,d6⟩,c6,-⟩:=nd
 exact⟨⟨h1,h2,h3,h4,h5⟩,⟨g2,g3,g4,g5⟩,⟨f3,f4,f5⟩,⟨e4,e5⟩,d5,fun p hp=>⟨fun z=>h6 (z ▸ hp),fun z=>g6 (z ▸ hp),fun z=>f6 (z ▸ hp),fun z=>e6 (z ▸ hp),fun z=>d6 (z ▸ hp),fun z=>c6 (z ▸ hp)⟩⟩
end
def RS.setW (S:RS)(i:Nat)(l:List (Int×Nat)):RS:={ S with ways:=S.ways.set i l }
def RS.setG (S:RS)(i:Nat)(l:List Int):RS:={ S with gaps:=S.gaps.set i l }
def RS.way (S:RS)(c:Nat):List (Int×Nat):=S.ways.getD c []
def RS.gap (S:RS)(c:Nat):List Int:=S.gaps.getD c []
def RS.by (S:RS)(c:Nat)(z:Int):Option Nat:=getW (S.way c) z
def RS.putWay (S:RS)(c:Nat)(z:Int)(d:Nat):RS:=S.setW c (putW (S.way c) z d)
def RS.noGap (S:RS)(c:Nat)(z:Int):RS:=S.setG c ((S.gap c).filter fun x=>decide (x≠z))
def RS.keep (S:RS)(c:Nat)(z:Int)(d:Nat):RS:=(((S.putWay c z d).putWay d (-z) c).noGap c z).noGap d (-z)
def rowNew (c:Nat)(z:Int)(n:Nat):Dt:=.t [.s [110,101,119],.i c,.i z,.i n]
def RS.grown (S:RS)(c:Nat)(z:Int)(gaps:List Int):RS:={ S with made:=S.made+ 1,rows:=S.rows++[rowNew c z S.made],ways:=S.ways++[[]],gaps:=S.gaps++[gaps],elders:=S.elders++[S.made],called:=S.called++[[S.made]] }
def RS.make (S:RS)(c:Nat)(z:Int)(gaps:List Int):RS:=(S.grown c z gaps).keep c z S.made
def RS.new (L:Nat)(gaps:List Int):RS:=⟨L,1,[],[[]],[gaps],[0],[[0]],[]⟩
structure RS.Wf (S:RS):Prop where
 w:S.ways.length=S.made
 g:S.gaps.length=S.made
 e:S.elders.length=S.made
 c:S.called.length=S.made
end L2
set_option Elab.async false
set_option linter.all false
set_option maxRecDepth 100000
set_option maxHeartbeats 4000000
namespace L2
open PySem PySem.Spec PyProof.Rows
section
variable {X:Cx} {e:Expr} {f:Str} {ta:TE} {pos:Pos}
end
end L2
namespace L2
open PySem PySem.Spec PyProof.Rows
end L2
set_option Elab.async false
set_option linter.all false
set_option maxRecDepth 100000
set_option maxHeartbeats 4000000
namespace L2
open PySem PySem.Spec PyProof.Rows
theorem pairs_rel {P:Program}{w:World}:∀{es:List DictEntry} {vs:List (Key×Value)} {kvs:List (Key×V)},Pairs (mixKind P w) es vs->KV kvs vs->Vals (kvs.map fun kv=>kV kv.1) (es.map (·.key))
 | [],_,_,.nil,r=>by cases r;exact .nil
 | e :: es,_,_,.cons h1 h2 h3,r=>by
   cases r with
   | cons a b=>
     rw[List.map_cons,List.map_cons]
     refine .cons ?_ (pairs_rel h3 b)
     rw[a.1]
     exact mix_rel h1
theorem pairs_len {P:Program}{w:World}:∀{es:List DictEntry} {vs:List (Key×Value)},Pairs (mixKind P w) es vs->es.length=vs.length
 | _,_,.nil=>rfl
 | _,_,.cons _ _ h=>by rw[List.length_cons,List.length_cons,pairs_len h]
section
variable {X:Cx}
end
end L2
set_option Elab.async false
set_option linter.all false
set_option maxRecDepth 100000
set_option maxHeartbeats 4000000
namespace L2
open PySem PySem.Spec PyProof.Rows
section
variable {C:Addr} {H H':Hp} {r:Addr} {S:RS} {a:RA}
end
theorem getW_drop (l:List (Int×Nat))(s t:Int):getW (l.filter fun p=>decide (p.1≠s)) t=if t=s then none else getW l t:=by
 induction l with
 | nil=>unfold getW;split <;> rfl
 | cons p l ih=>
   have hc:∀(q:Int×Nat) (m:List (Int×Nat)),getW (q :: m) t=if q.1=t then some q.2 else getW m t:=fun q m=>by
    unfold getW
    by_cases h:q.1=t
    ·rw[List.find?_cons_of_pos (by exact decide_eq_true h),if_pos h];rfl
    ·rw[List.find?_cons_of_neg (by simpa using h),if_neg h]
   by_cases h:p.1=s
   ·rw[List.filter_cons_of_neg (by simpa using h),ih,hc]
    by_cases e:t=s
    ·rw[if_pos e,if_pos e]
    ·rw[if_neg e,if_neg e,if_neg (fun z=>e (z.symm.trans h))]
   ·rw[List.filter_cons_of_pos (by simpa using h),hc,hc,ih]
    by_cases e:p.1=t
    ·rw[if_pos e,if_pos e,if_neg (fun z=>h (e.trans z))]
    ·rw[if_neg e,if_neg e]
abbrev Way:=Nat×Int×Nat
def RS.eld (S:RS)(c:Nat):Nat:=S.elders.getD c 0
def RS.cal (S:RS)(c:Nat):List Nat:=S.called.getD c []
def rowMeet (c:Nat)(z:Int)(x y:Nat):Dt:=.t [.s [109,101,101,116],.i c,.i z,.i x,.i y]
def RS.joined (S:RS)(c:Nat)(z:Int)(x y:Nat):RS:=
 { S with rows:=S.rows++[rowMeet c z x y],went:=S.went++[y],elders:=(S.cal y).foldl (fun es n=>es.set n x) S.elders,called:=S.called.set x (S.cal x++S.cal y) }
def RS.dropWay (S:RS)(c:Nat)(z:Int):RS:=S.setW c ((S.way c).filter fun p=>decide (p.1≠z))
def offStep (c:Nat)(st:RS×List Way)(p:Int×Nat):RS×List Way:=(if p.2≠c then st.1.dropWay p.2 (-p.1) else st.1,st.2++[(c,p.1,p.2)])
def RS.putOff (S:RS)(c:Nat)(pend:List Way):RS×List Way:=(S.way c).foldl (offStep c) (S.setW c [],pend)
def RS.meet (S:RS)(c:Nat)(z:Int)(x y:Nat)(pend:List Way):RS×List Way:=(S.joined c z (min x y) (max x y)).putOff (max x y) pend
def RS.takeIn (S:RS)(pend:List Way)(w:Way):RS×List Way:=
 if (S.by (S.eld w.1) w.2.1).getD (S.eld w.2.2)≠S.eld w.2.2 then S.meet (S.eld w.1) w.2.1 ((S.by (S.eld w.1) w.2.1).getD (S.eld w.2.2)) (S.eld w.2.2) pend
 else if (S.by (S.eld w.2.2) (-w.2.1)).getD (S.eld w.1)≠S.eld w.1 then S.meet (S.eld w.2.2) (-w.2.1) ((S.by (S.eld w.2.2) (-w.2.1)).getD (S.eld w.1)) (S.eld w.1) pend
 else (S.keep (S.eld w.1) w.2.1 (S.eld w.2.2),pend)
structure OffOk (S:RS) (c:Nat):Prop where
 nd:((S.way c).map (·.1)).Nodup
 lt:∀ q∈S.way c,q.2 < S.made
 bk:∀ q∈S.way c,q.2≠c->(S.by q.2 (-q.1)).isSome=true
theorem way_setW {S:RS}{c c':Nat}{l:List (Int×Nat)}(hc:c < S.ways.length):(S.setW c l).way c'=if c'=c then l else S.way c':=by
 unfold RS.setW RS.way
 show (S.ways.set c l).getD c' []=_
 rw[List.getD_eq_getElem?_getD,List.getD_eq_getElem?_getD]
 by_cases h:c=c'
 ·subst h;rw[List.getElem?_set_self hc,if_pos rfl];rfl
 ·rw[List.getElem?_set_ne h,if_neg (Ne.symm h)]
theorem by_putWay {S:RS}{c c' d:Nat}{z z':Int}(hc:c < S.ways.length):(S.putWay c z d).by c' z'=if c'=c/\z'=z then some d else S.by c' z':=by
 unfold RS.putWay RS.by
 rw[way_setW hc]
 by_cases h:c'=c
 ·subst h
  rw[if_pos rfl,getW_put]
  by_cases hz:z'=z
  ·rw[if_pos hz,if_pos ⟨rfl,hz⟩]
  ·rw[if_neg hz,if_neg (fun q=>hz q.2)]
 ·rw[if_neg h,if_neg (fun q=>h q.1)]
theorem by_dropWay {S:RS}{c c':Nat}{z z':Int}(hc:c < S.ways.length):(S.dropWay c z).by c' z'=if c'=c/\z'=z then none else S.by c' z':=by
 unfold RS.dropWay RS.by
 rw[way_setW hc]
 by_cases h:c'=c
 ·subst h
  rw[if_pos rfl,getW_drop]
  by_cases hz:z'=z
  ·rw[if_pos hz,if_pos ⟨rfl,hz⟩]
  ·rw[if_neg hz,if_neg (fun q=>hz q.2)]
 ·rw[if_neg h,if_neg (fun q=>h q.1)]
theorem by_setW {S:RS}{c c':Nat}{l:List (Int×Nat)}{z:Int}(hc:c < S.ways.length):(S.setW c l).by c' z=if c'=c then getW l z else S.by c' z:=by
 unfold RS.by
 rw[way_setW hc]
 split <;> rfl
def offs (c:Nat)(S:RS)(pend:List Way)(ps:List (Int×Nat)):RS×List Way:=ps.foldl (offStep c) (S.setW c [],pend)
theorem offs_snoc (c:Nat)(S:RS)(pend:List Way)(ps:List (Int×Nat))(p:Int×Nat):offs c S pend (ps++[p])=offStep c (offs c S pend ps) p:=by unfold offs;rw[List.foldl_append];rfl
theorem snoc_ind {α:Type}{P:List α->Prop}(h0:P [])(h1:∀ l x,P l->P (l++[x])):∀ l,P l:=fun l=>by
 have:∀ n (l:List α),l.length=n->P l:=by
  intro n
  induction n with
  | zero=>intro l e;rw[List.eq_nil_of_length_eq_zero e];exact h0
  | succ n ih=>
    intro l e
    have hne:l≠[]:=fun z=>by rw[z] at e;cases e
    rw[← List.dropLast_concat_getLast hne]
    exact h1 _ _ (ih _ (by rw[List.length_dropLast];omega))
 exact this _ l rfl
theorem offs_pend (c:Nat)(S:RS)(pend:List Way):∀ ps:List (Int×Nat),(offs c S pend ps).2=pend++ps.map fun p=>(c,p.1,p.2):=by
 refine snoc_ind (by simp[offs]) fun ps p ih=>?_
 rw[offs_snoc]
 show (offs c S pend ps).2++_=_
 rw[ih,List.map_append,List.append_assoc];rfl
theorem offs_rest (c:Nat)(S:RS)(pend:List Way):∀ ps:List (Int×Nat),(offs c S pend ps).1.ways.length=S.ways.length/\(offs c S pend ps).1={ S with ways:=(offs c S pend ps).1.ways }:=by
 refine snoc_ind ⟨by simp[offs,RS.setW],rfl⟩ fun ps p ih=>?_
 rw[offs_snoc]
 unfold offStep
 by_cases h:p.2≠c
 ·simp only[h,if_true,not_false_eq_true,ne_eq]
  refine⟨?_,?_⟩
  ·show (List.set _ _ _).length=_
   rw[List.length_set];exact ih.1
  ·unfold RS.dropWay RS.setW
   rw[ih.2]
 ·simp only[h,if_false]
  exact ih
theorem offs_by {c:Nat}{S:RS}{pend:List Way}(hc:c < S.ways.length):∀ ps:List (Int×Nat),(∀ q∈ps,q.2 < S.ways.length)->∀ d z,(offs c S pend ps).1.by d z=if d=c\/∃ q∈ps,q.2=d/\z= -q.1 then none else S.by d z:=by
 refine snoc_ind (fun _ d z=>?_) fun ps p ih hl d z=>?_
 ·show (S.setW c []).by d z=_
  rw[by_setW hc]
  by_cases h:d=c
  ·rw[if_pos h,if_pos (.inl h)];rfl
  ·rw[if_neg h,if_neg (by rintro (q | ⟨q,hq,_⟩);exact h q;cases hq)]
 ·have ih':=ih (fun q hq=>hl q (List.mem_append_left _ hq)) d z
  have hp:=hl p (List.mem_append_right _ List.mem_cons_self)
  rw[offs_snoc]
  unfold offStep
  by_cases h:p.2≠c
  ·simp only[h,if_true,not_false_eq_true,ne_eq]
   rw[by_dropWay (by rw[(offs_rest c S pend ps).1];exact hp),ih']
   by_cases e:d=p.2/\z= -p.1
   ·rw[if_pos e,if_pos (.inr ⟨p,List.mem_append_right _ List.mem_cons_self,e.1.symm,e.2⟩)]
   ·rw[if_neg e]
    by_cases e2:d=c\/∃ q∈ps,q.2=d/\z= -q.1
    ·rw[if_pos e2,if_pos (e2.imp id fun⟨q,hq,r⟩=>⟨q,List.mem_append_left _ hq,r⟩)]
    ·rw[if_neg e2,if_neg]
     rintro (q | ⟨q,hq,r⟩)
     ·exact e2 (.inl q)
     ·rcases List.mem_append.mp hq with hq | hq
      ·exact e2 (.inr ⟨q,hq,r⟩)
      ·rw[List.mem_singleton.mp hq] at r
       exact e ⟨r.1.symm,r.2⟩
  ·simp only[h,if_false]
   rw[ih']
   have h':p.2=c:=Decidable.not_not.mp h
   by_cases e2:d=c\/∃ q∈ps,q.2=d/\z= -q.1
   ·rw[if_pos e2,if_pos (e2.imp id fun⟨q,hq,r⟩=>⟨q,List.mem_append_left _ hq,r⟩)]
   ·rw[if_neg e2,if_neg]
    rintro (q | ⟨q,hq,r⟩)
    ·exact e2 (.inl q)
    ·rcases List.mem_append.mp hq with hq | hq
     ·exact e2 (.inr ⟨q,hq,r⟩)
     ·rw[List.mem_singleton.mp hq] at r
      exact e2 (.inl (r.1.symm.trans h'))
end L2
set_option Elab.async false
set_option linter.all false
set_option maxRecDepth 100000
set_option maxHeartbeats 4000000
namespace L2
open PySem PySem.Spec PyProof.Rows
inductive Cg (R:Nat->Int->Nat->Prop):Nat->Nat->Prop where
 | refl (a:Nat):Cg R a a
 | symm {a b:Nat}:Cg R a b->Cg R b a
 | trans {a b c:Nat}:Cg R a b->Cg R b c->Cg R a c
 | step {a a' b b':Nat} {z:Int}:R a z b->R a' z b'->Cg R a a'->Cg R b b'
theorem Cg.mono {R R':Nat->Int->Nat->Prop}(h:∀ a z b,R a z b->R' a z b){a b:Nat}(c:Cg R a b):Cg R' a b:=by
 induction c with
 | refl=>exact .refl _
 | symm _ ih=>exact .symm ih
 | trans _ _ i1 i2=>exact .trans i1 i2
 | step r1 r2 _ ih=>exact .step (h _ _ _ r1) (h _ _ _ r2) ih
def Im (S:RS)(R:Nat->Int->Nat->Prop)(c:Nat)(z:Int)(d:Nat):Prop:=∃ c' d',R c' z d'/\S.eld c'=c/\S.eld d'=d
def Cov (S:RS)(pend:List Way)(c:Nat)(z:Int)(d:Nat):Prop:=S.by c z=some d\/∃ w∈pend,(S.eld w.1=c/\w.2.1=z/\S.eld w.2.2=d)\/(S.eld w.1=d/\w.2.1= -z/\S.eld w.2.2=c)
structure Good (S:RS) (pend:List Way) (R:Nat->Int->Nat->Prop):Prop where
 wf:S.Wf
 el:∀ c,c < S.made->S.eld c<=c/\S.eld (S.eld c)=S.eld c
 ca:∀ e,e < S.made->S.eld e=e->∀ c,c∈S.cal e↔c < S.made/\S.eld c=e
 cb:∀ e c,c∈S.cal e->c < S.made
 cn:∀ e,(S.cal e).Nodup
 kn:∀ c,((S.way c).map (·.1)).Nodup
 st:∀ c z d,S.by c z=some d->c < S.made/\d < S.made/\S.eld c=c/\S.eld d=d
 sy:∀ c z d,S.by c z=some d->S.by d (-z)=some c
 pl:∀ w∈pend,w.1 < S.made/\w.2.2 < S.made
 rl:∀ c z d,R c z d->c < S.made/\d < S.made/\R d (-z) c
 cv:∀ c z d,R c z d->Cov S pend (S.eld c) z (S.eld d)
 so:∀ c z d,S.by c z=some d->Im S R c z d
 sp:∀ w∈pend,Im S R (S.eld w.1) w.2.1 (S.eld w.2.2)
 cg:∀ c,c < S.made->Cg R c (S.eld c)
section
variable {S:RS} {pend:List Way} {R:Nat->Int->Nat->Prop}
theorem Good.lt (h:Good S pend R){c:Nat}(hc:c < S.made):S.eld c < S.made:=Nat.lt_of_le_of_lt (h.el c hc).1 hc
theorem Im.back (h:Good S pend R){c d:Nat}{z:Int}(i:Im S R c z d):Im S R d (-z) c:=by
 obtain⟨c',d',r,e1,e2⟩:=i
 exact⟨d',c',(h.rl _ _ _ r).2.2,e2,e1⟩
theorem Good.must (h:Good S pend R){c x y:Nat}{z:Int}(i:Im S R c z x)(j:Im S R c z y):Cg R x y:=by
 obtain⟨c1,x1,r1,e1,e2⟩:=i
 obtain⟨c2,y2,r2,f1,f2⟩:=j
 obtain⟨l1,l2,_⟩:=h.rl _ _ _ r1
 obtain⟨m1,m2,_⟩:=h.rl _ _ _ r2
 have a1:=h.cg _ l1
 have a2:=h.cg _ l2
 have b1:=h.cg _ m1
 have b2:=h.cg _ m2
 rw[e1] at a1
 rw[e2] at a2
 rw[f1] at b1
 rw[f2] at b2
 exact a2.symm.trans ((Cg.step r1 r2 (a1.trans b1.symm)).trans b2)
theorem Good.keep (h:Good S pend R){c d:Nat}{z:Int}(hc:c < S.made)(hd:d < S.made)(ec:S.eld c=c)(ed:S.eld d=d)(i:Im S R c z d)(h1:S.by c z=none\/S.by c z=some d)(h2:S.by d (-z)=none\/S.by d (-z)=some c){pend':List Way}(hp:∀ w∈pend',w∈pend)
 (hcv:∀ w∈pend,w∉pend'->S.eld w.1=c/\w.2.1=z/\S.eld w.2.2=d):Good (S.keep c z d) pend' R:=by
 have hcw:c < S.ways.length:=by rw[h.wf.w];exact hc
 have hdw:d < S.ways.length:=by rw[h.wf.w];exact hd
 have hby:∀ a s,(S.keep c z d).by a s=if a=d/\s= -z then some c else if a=c/\s=z then some d else S.by a s:=fun a s=>by
  show ((S.putWay c z d).putWay d (-z) c).by a s=_
  rw[by_putWay (by show d < (S.ways.set c _).length;rw[List.length_set];exact hdw),by_putWay hcw]
 have old:∀ a s b,S.by a s=some b->(S.keep c z d).by a s=some b:=fun a s b e=>by
  rw[hby]
  by_cases q1:a=d/\s= -z
  ·rw[if_pos q1]
   obtain⟨rfl,rfl⟩:=q1
   rcases h2 with q | q <;> rw[q] at e <;> cases e
   rfl
  ·rw[if_neg q1]
   by_cases q2:a=c/\s=z
   ·rw[if_pos q2]
    obtain⟨rfl,rfl⟩:=q2
    rcases h1 with q | q <;> rw[q] at e <;> cases e
    rfl
   ·rw[if_neg q2];exact e
 have el:∀ a,(S.keep c z d).eld a=S.eld a:=fun a=>rfl
 have new:∀ a s b,(S.keep c z d).by a s=some b->(a=d/\s= -z/\b=c)\/(a=c/\s=z/\b=d)\/S.by a s=some b:=fun a s b e=>by
  rw[hby] at e
  by_cases q1:a=d/\s= -z
  ·rw[if_pos q1] at e;exact .inl ⟨q1.1,q1.2,(Option.some.inj e).symm⟩
  ·rw[if_neg q1] at e
   by_cases q2:a=c/\s=z
   ·rw[if_pos q2] at e;exact .inr (.inl ⟨q2.1,q2.2,(Option.some.inj e).symm⟩)
   ·rw[if_neg q2] at e;exact .inr (.inr e)
 have put1:(S.keep c z d).by d (-z)=some c:=by rw[hby,if_pos ⟨rfl,rfl⟩]
 have put2:(S.keep c z d).by c z=some d:=by
  rw[hby]
  by_cases q1:c=d/\z= -z
  ·rw[if_pos q1,q1.1]
  ·rw[if_neg q1,if_pos ⟨rfl,rfl⟩]
 have knp:∀(l:List (Int×Nat)) (s:Int) (r:Nat),(l.map (·.1)).Nodup->((putW l s r).map (·.1)).Nodup:=fun l s r hl=>by
  unfold putW
  split
  ·rw[List.map_map]
   have:((fun x:Int×Nat=>x.1) ∘ fun p:Int×Nat=>if p.1=s then (p.1,r) else p)=fun x=>x.1:=by
    funext p
    show (if p.1=s then (p.1,r) else p).1=p.1
    split <;> rfl
   rw[this];exact hl
  ·rename_i q
   rw[List.map_append]
   refine List.nodup_append.mpr ⟨hl,by simp,fun a ha b hb e=>q ?_⟩
   obtain⟨p,hp,rfl⟩:=List.mem_map.mp ha
   have:b=s:=by simpa using hb
   exact List.any_eq_true.mpr ⟨p,hp,decide_eq_true (e.trans this)⟩
 refine⟨⟨?_,?_,h.wf.e,h.wf.c⟩,h.el,h.ca,h.cb,h.cn,fun a=>?_,fun a s b e=>?_,fun a s b e=>?_,fun w hw=>h.pl w (hp w hw),h.rl,fun a s b r=>?_,fun a s b e=>?_,fun w hw=>h.sp w (hp w hw),h.cg⟩
 ·show ((List.set _ _ _).set _ _).length=S.made
  rw[List.length_set,List.length_set];exact h.wf.w
 ·show ((List.set _ _ _).set _ _).length=S.made
  rw[List.length_set,List.length_set];exact h.wf.g
 ·show ((((S.putWay c z d).putWay d (-z) c).way a).map (·.1)).Nodup
  unfold RS.putWay
  rw[way_setW (by show d < (S.ways.set c _).length;rw[List.length_set];exact hdw)]
  have k1:∀ a,(((S.setW c (putW (S.way c) z d)).way a).map (·.1)).Nodup:=fun a=>by
   rw[way_setW hcw]
   split
   ·exact knp _ _ _ (h.kn c)
   ·exact h.kn a
  split
  ·exact knp _ _ _ (k1 d)
  ·exact k1 a
 ·rcases new a s b e with ⟨rfl,rfl,rfl⟩ | ⟨rfl,rfl,rfl⟩ | e
  ·exact⟨hd,hc,ed,ec⟩
  ·exact⟨hc,hd,ec,ed⟩
  ·exact h.st a s b e
 ·rcases new a s b e with ⟨rfl,rfl,rfl⟩ | ⟨rfl,rfl,rfl⟩ | e
  ·rw[Int.neg_neg];exact put2
  ·exact put1
  ·exact old _ _ _ (h.sy _ _ _ e)
 ·rcases h.cv a s b r with q | ⟨w,hw,q⟩
  ·exact .inl (old _ _ _ q)
  ·by_cases hm:w∈pend'
   ·exact .inr ⟨w,hm,q⟩
   ·obtain⟨f1,f2,f3⟩:=hcv w hw hm
    refine .inl ?_
    show (S.keep c z d).by (S.eld a) s=some (S.eld b)
    rcases q with ⟨q1,q2,q3⟩ | ⟨q1,q2,q3⟩
    ·rw[← q1,← q2,← q3,f1,f2,f3];exact put2
    ·have es:s= -z:=by rw[← f2,q2,Int.neg_neg]
     rw[← q1,← q3,f1,f3,es];exact put1
 ·rcases new a s b e with ⟨rfl,rfl,rfl⟩ | ⟨rfl,rfl,rfl⟩ | e
  ·exact Im.back h i
  ·exact i
  ·exact h.so a s b e
end
theorem fold_set (x:Nat):∀(l es:List Nat) (a:Nat),(∀ n∈l,n < es.length)->(l.foldl (fun es n=>es.set n x) es).getD a 0=if a∈l then x else es.getD a 0
 | [],es,a,_=>by simp
 | n :: l,es,a,h=>by
   rw[List.foldl_cons,fold_set x l (es.set n x) a (fun m hm=>by rw[List.length_set];exact h m (List.mem_cons_of_mem _ hm))]
   by_cases h1:a∈l
   ·rw[if_pos h1,if_pos (List.mem_cons_of_mem _ h1)]
   ·rw[if_neg h1]
    by_cases h2:a=n
    ·subst h2
     rw[if_pos List.mem_cons_self,List.getD_eq_getElem?_getD,List.getElem?_set_self (h a List.mem_cons_self)];rfl
    ·rw[if_neg (fun z=>(List.mem_cons.mp z).elim h2 h1),List.getD_eq_getElem?_getD,List.getElem?_set_ne (Ne.symm h2),← List.getD_eq_getElem?_getD]
theorem fold_setL (x:Nat):∀(l es:List Nat),(l.foldl (fun es n=>es.set n x) es).length=es.length
 | [],_=>rfl
 | n :: l,es=>by rw[List.foldl_cons,fold_setL x l,List.length_set]
theorem getW_some {l:List (Int×Nat)}{s:Int}{r:Nat}(h:getW l s=some r):(s,r)∈l:=by
 unfold getW at h
 obtain⟨q,hq,rfl⟩:=Option.map_eq_some_iff.mp h
 have h1:=List.find?_some hq
 have h2:=List.mem_of_find?_eq_some hq
 have:q.1=s:=of_decide_eq_true h1
 rw[← this];exact h2
theorem getW_of {l:List (Int×Nat)}(nd:(l.map (·.1)).Nodup){q:Int×Nat}(h:q∈l):getW l q.1=some q.2:=by
 induction l with
 | nil=>cases h
 | cons p l ih=>
   unfold getW
   rw[List.map_cons,List.nodup_cons] at nd
   by_cases e:p.1=q.1
   ·rw[List.find?_cons_of_pos (by exact decide_eq_true e)]
    rcases List.mem_cons.mp h with rfl | h
    ·rfl
    ·exact absurd (by rw[e];exact List.mem_map_of_mem h) nd.1
   ·rw[List.find?_cons_of_neg (by simpa using e)]
    rcases List.mem_cons.mp h with rfl | h
    ·exact absurd rfl e
    ·exact ih nd.2 h
theorem nodup_sub:∀(k l:List Int),l.Nodup->(∀ x∈l,x∈k)->l.length<=k.length
 | [],[],_,_=>Nat.le_refl _
 | [],a :: l,_,h=>by have:=h a List.mem_cons_self;cases this
 | y :: k,l,hn,h=>by
   by_cases hm:y∈l
   ·have:=nodup_sub k (l.erase y) (hn.erase y) (fun x hx=>by
     have h1:=(hn.mem_erase_iff).mp hx
     rcases List.mem_cons.mp (h x h1.2) with e | e
     ·exact absurd e h1.1
     ·exact e)
    rw[List.length_erase_of_mem hm] at this
    have:1<=l.length:=List.length_pos_of_mem hm
    rw[List.length_cons];omega
   ·have:=nodup_sub k l hn (fun x hx=>by
     rcases List.mem_cons.mp (h x hx) with e | e
     ·exact absurd (e ▸ hx) hm
     ·exact e)
    rw[List.length_cons];omega
theorem offs_kn {c:Nat}{S:RS}{pend:List Way}(hc:c < S.ways.length)(kn:∀ a,((S.way a).map (·.1)).Nodup):∀ ps:List (Int×Nat),(∀ q∈ps,q.2 < S.ways.length)->∀ a,(((offs c S pend ps).1.way a).map (·.1)).Nodup:=by
 refine snoc_ind (fun _ a=>?_) fun ps p ih hl a=>?_
 ·show (((S.setW c []).way a).map (·.1)).Nodup
  rw[way_setW hc]
  split
  ·exact List.nodup_nil
  ·exact kn a
 ·have ih':=ih (fun q hq=>hl q (List.mem_append_left _ hq))
  rw[offs_snoc]
  unfold offStep
  by_cases h:p.2≠c
  ·simp only[h,if_true,not_false_eq_true,ne_eq]
   unfold RS.dropWay
   rw[way_setW (by rw[(offs_rest c S pend ps).1];exact hl p (List.mem_append_right _ List.mem_cons_self))]
   split
   ·exact List.Nodup.sublist (List.Sublist.map _ List.filter_sublist) (ih' p.2)
   ·exact ih' a
  ·simp only[h,if_false]
   exact ih' a
section
variable {S:RS} {pend:List Way} {R:Nat->Int->Nat->Prop}
theorem Cov.back (h:Good S pend R){S':RS}{pend':List Way}(sy:∀ c z d,S'.by c z=some d->S'.by d (-z)=some c){c d:Nat}{z:Int}(i:Cov S' pend' c z d):Cov S' pend' d (-z) c:=by
 rcases i with q | ⟨w,hw,q⟩
 ·exact .inl (sy _ _ _ q)
 ·refine .inr ⟨w,hw,?_⟩
  rcases q with ⟨q1,q2,q3⟩ | ⟨q1,q2,q3⟩
  ·exact .inr ⟨q1,by rw[q2,Int.neg_neg],q3⟩
  ·exact .inl ⟨q1,q2,q3⟩
theorem Good.meet (h:Good S pend R){c x y:Nat}{z:Int}(hx:S.by c z=some x)(hy:y < S.made)(ey:S.eld y=y)(hxy:x≠y)(iy:Im S R c z y){pend':List Way}(hp:∀ w∈pend',w∈pend)
 (hcv:∀ w∈pend,w∉pend'->(S.eld w.1=c/\w.2.1=z/\S.eld w.2.2=y)\/(S.eld w.1=y/\w.2.1= -z/\S.eld w.2.2=c)):
 Good (S.meet c z x y pend').1 (S.meet c z x y pend').2 R/\(∀ a,(S.meet c z x y pend').1.eld a=if S.eld a=max x y then min x y else S.eld a)/\(S.meet c z x y pend').2=pend'++(S.way (max x y)).map (fun p=>(max x y,p.1,p.2)):=by
 obtain⟨hc,hxm,ec,ex⟩:=h.st _ _ _ hx
 have hcgxy:Cg R x y:=h.must (h.so _ _ _ hx) iy
 have hu:min x y < S.made:=by omega
 have hv:max x y < S.made:=by omega
 have huv:min x y < max x y:=by omega
 have eu:S.eld (min x y)=min x y:=by rcases Nat.lt_or_ge x y with q | q;rw[Nat.min_eq_left (by omega)];exact ex;rw[Nat.min_eq_right (by omega)];exact ey
 have ev:S.eld (max x y)=max x y:=by rcases Nat.lt_or_ge x y with q | q;rw[Nat.max_eq_right (by omega)];exact ey;rw[Nat.max_eq_left (by omega)];exact ex
 have xuv:x=min x y\/x=max x y:=by omega
 have yuv:y=min x y\/y=max x y:=by omega
 have hcguv:Cg R (max x y) (min x y):=by
  rcases Nat.lt_or_ge x y with q | q
  ·rw[Nat.max_eq_right (by omega),Nat.min_eq_left (by omega)];exact hcgxy.symm
  ·rw[Nat.max_eq_left (by omega),Nat.min_eq_right (by omega)];exact hcgxy
 unfold RS.meet
 generalize max x y=v at hv huv ev xuv yuv hcguv ⊢
 generalize min x y=u at hu huv eu xuv yuv hcguv ⊢
 have hvw:v < S.ways.length:=by rw[h.wf.w];exact hv
 have hqs:∀ q∈S.way v,q.2 < S.ways.length:=fun q hq=>by
  rw[h.wf.w];exact(h.st v q.1 q.2 (getW_of (h.kn v) hq)).2.1
 have hP:((S.joined c z u v).putOff v pend')=offs v (S.joined c z u v) pend' (S.way v):=rfl
 rw[hP]
 have rest:=offs_rest v (S.joined c z u v) pend' (S.way v)
 have byJ:∀ a s,(S.joined c z u v).by a s=S.by a s:=fun a s=>rfl
 have hby:∀ a s,(offs v (S.joined c z u v) pend' (S.way v)).1.by a s=if a=v\/S.by a s=some v then none else S.by a s:=fun a s=>by
  rw[offs_by (S:=S.joined c z u v) hvw _ hqs,byJ]
  have:(a=v\/∃ q∈S.way v,q.2=a/\s= -q.1)↔(a=v\/S.by a s=some v):=by
   refine or_congr Iff.rfl ⟨?_,fun e=>?_⟩
   ·rintro ⟨q,hq,rfl,rfl⟩
    exact h.sy _ _ _ (getW_of (h.kn v) hq)
   ·have:=getW_some (h.sy _ _ _ e)
    exact⟨_,this,rfl,(Int.neg_neg s).symm⟩
  simp only[this]
 have hpe:(offs v (S.joined c z u v) pend' (S.way v)).2=pend'++(S.way v).map fun p=>(v,p.1,p.2):=offs_pend _ _ _ _
 have hkn:=offs_kn (S:=S.joined c z u v) (pend:=pend') hvw h.kn (S.way v) hqs
 have heq:∀ a,(offs v (S.joined c z u v) pend' (S.way v)).1.eld a=if S.eld a=v then u else S.eld a:=fun a=>by
  rw[rest.2]
  show ((S.cal v).foldl (fun es n=>es.set n u) S.elders).getD a 0=_
  rw[fold_set u _ _ _ (fun n hn=>by rw[h.wf.e];exact h.cb v n hn)]
  by_cases ha:a < S.made
  ·have:=h.ca v hv ev a
   by_cases e:S.eld a=v
   ·rw[if_pos (this.mpr ⟨ha,e⟩),if_pos e]
   ·rw[if_neg (fun q=>e (this.mp q).2),if_neg e];rfl
  ·have e0:S.eld a=0:=by unfold RS.eld;rw[List.getD_eq_getElem?_getD,List.getElem?_eq_none (by rw[h.wf.e];omega)];rfl
   rw[if_neg (fun q=>ha (h.cb v a q)),if_neg (by rw[e0];omega)];rfl
 have hcal:∀ e,(offs v (S.joined c z u v) pend' (S.way v)).1.cal e=if e=u then S.cal u++S.cal v else S.cal e:=fun e=>by
  rw[rest.2]
  show (S.called.set u (S.cal u++S.cal v)).getD e []=_
  rw[List.getD_eq_getElem?_getD]
  by_cases q:e=u
  ·subst q;rw[List.getElem?_set_self (by rw[h.wf.c];exact hu),if_pos rfl];rfl
  ·rw[List.getElem?_set_ne (Ne.symm q),if_neg q];unfold RS.cal;rw[List.getD_eq_getElem?_getD]
 have hmade:(offs v (S.joined c z u v) pend' (S.way v)).1.made=S.made:=by rw[rest.2];rfl
 have hwf:(offs v (S.joined c z u v) pend' (S.way v)).1.Wf:=by
  refine⟨by rw[rest.1,hmade];exact h.wf.w,?_,?_,?_⟩
  ·rw[rest.2];exact h.wf.g
  ·rw[rest.2];show ((S.cal v).foldl (fun es n=>es.set n u) S.elders).length=S.made;rw[fold_setL];exact h.wf.e
  ·rw[rest.2];show (S.called.set u (S.cal u++S.cal v)).length=S.made;rw[List.length_set];exact h.wf.c
 generalize (offs v (S.joined c z u v) pend' (S.way v)).2=P2 at hpe ⊢
 generalize (offs v (S.joined c z u v) pend' (S.way v)).1=S2 at rest hby hkn heq hcal hmade hwf ⊢
 clear rest
 refine⟨?_,heq,hpe⟩
 have bo:∀ a s b,S2.by a s=some b↔S.by a s=some b/\a≠v/\b≠v:=fun a s b=>by
  rw[hby]
  by_cases q:a=v\/S.by a s=some v
  ·rw[if_pos q]
   refine⟨(fun z=>by cases z),fun⟨e,n1,n2⟩=>?_⟩
   rcases q with q | q
   ·exact absurd q n1
   ·rw[q] at e;exact absurd (Option.some.inj e).symm n2
  ·rw[if_neg q]
   refine⟨fun e=>⟨e,fun z=>q (.inl z),fun z=>q (.inr (by rw[e,z]))⟩,fun e=>e.1⟩
 have nv2:∀ a,S2.eld (S.eld a)=S2.eld a:=fun a=>by
  rw[heq,heq]
  by_cases ha:a < S.made
  ·rw[(h.el a ha).2]
  ·have e0:∀ a,¬ a < S.made->S.eld a=0:=fun a ha=>by unfold RS.eld;rw[List.getD_eq_getElem?_getD,List.getElem?_eq_none (by rw[h.wf.e];omega)];rfl
   rw[e0 a ha]
   have:S.eld 0=0:=by have:=(h.el 0 (by omega)).1;omega
   rw[this]
 have eqv:∀{a b},S.eld a=S.eld b->S2.eld a=S2.eld b:=fun{a b} e=>by rw[heq,heq,e]
 have sy2:∀ a s b,S2.by a s=some b->S2.by b (-s)=some a:=fun a s b e=>by
  rw[bo] at e ⊢
  exact⟨h.sy _ _ _ e.1,e.2.2,e.2.1⟩
 have std:∀{a},S.eld a=a->S2.eld a=if a=v then u else a:=fun{a} e=>by rw[heq,e]
 have kept:∀ p s q,S.by p s=some q->Cov S2 P2 (S2.eld p) s (S2.eld q):=fun p s q e=>by
  obtain⟨lp,lq,ep,eq⟩:=h.st _ _ _ e
  by_cases h1:p=v
  ·refine .inr ⟨(v,s,q),?_,.inl ⟨by rw[h1],rfl,rfl⟩⟩
   rw[hpe]
   rw[h1] at e
   exact List.mem_append_right _ (List.mem_map.mpr ⟨(s,q),getW_some e,rfl⟩)
  ·by_cases h2:q=v
   ·refine .inr ⟨(v,-s,p),?_,.inr ⟨by rw[h2],rfl,rfl⟩⟩
    rw[hpe]
    have e':=h.sy _ _ _ e
    rw[h2] at e'
    exact List.mem_append_right _ (List.mem_map.mpr ⟨(-s,p),getW_some e',rfl⟩)
   ·refine .inl ?_
    rw[std ep,std eq,if_neg h1,if_neg h2]
    exact(bo _ _ _).mpr ⟨e,h1,h2⟩
 have eu2:S2.eld u=u:=by rw[std eu,if_neg (by omega)]
 have ev2:S2.eld v=u:=by rw[std ev,if_pos rfl]
 have exy:S2.eld x=S2.eld y:=by
  have q1:S2.eld x=u:=by rcases xuv with q | q <;> rw[q] <;> assumption
  have q2:S2.eld y=u:=by rcases yuv with q | q <;> rw[q] <;> assumption
  rw[q1,q2]
 have imq:∀{a b s},Im S R (S.eld a) s (S.eld b)->Im S2 R (S2.eld a) s (S2.eld b):=fun{a b s} ⟨a',b',r,e1,e2⟩=>⟨a',b',r,eqv e1,eqv e2⟩
 refine⟨hwf,fun a ha=>?_,fun e he ee a=>?_,fun e a ha=>?_,fun e=>?_,hkn,fun a s b e=>?_,sy2,fun w hw=>?_,fun a s b r=>?_,fun a s b r=>?_,fun a s b e=>?_,fun w hw=>?_,fun a ha=>?_⟩
 ·rw[hmade] at ha
  obtain⟨l1,l2⟩:=h.el a ha
  rw[heq]
  by_cases q:S.eld a=v
  ·rw[if_pos q]
   exact⟨by omega,eu2⟩
  ·rw[if_neg q]
   exact⟨l1,by rw[heq,l2,if_neg q]⟩
 ·rw[hmade] at he ⊢
  rw[hcal]
  have nev:e≠v:=fun z=>by rw[z,ev2] at ee;omega
  by_cases q:e=u
  ·subst q
   rw[if_pos rfl,List.mem_append,h.ca _ hu eu,h.ca v hv ev,heq]
   constructor
   ·rintro (⟨q1,q2⟩ | ⟨q1,q2⟩)
    ·exact⟨q1,by rw[if_neg (by omega)];exact q2⟩
    ·exact⟨q1,by rw[if_pos q2]⟩
   ·rintro ⟨q1,q2⟩
    by_cases q3:S.eld a=v
    ·exact .inr ⟨q1,q3⟩
    ·rw[if_neg q3] at q2;exact .inl ⟨q1,q2⟩
  ·rw[if_neg q]
   have e0:S.eld e=e:=by
    rw[heq] at ee
    by_cases q3:S.eld e=v
    ·rw[if_pos q3] at ee;exact absurd ee.symm q
    ·rw[if_neg q3] at ee;exact ee
   rw[h.ca e he e0,heq]
   constructor
   ·rintro ⟨q1,q2⟩
    exact⟨q1,by rw[if_neg (by rw[q2];exact nev)];exact q2⟩
   ·rintro ⟨q1,q2⟩
    by_cases q3:S.eld a=v
    ·rw[if_pos q3] at q2;exact absurd q2.symm q
    ·rw[if_neg q3] at q2;exact⟨q1,q2⟩
 ·rw[hmade]
  rw[hcal] at ha
  split at ha
  ·rcases List.mem_append.mp ha with ha | ha
   ·exact h.cb _ _ ha
   ·exact h.cb _ _ ha
  ·exact h.cb _ _ ha
 ·rw[hcal]
  split
  ·refine List.nodup_append.mpr ⟨h.cn _,h.cn _,fun a ha b hb e=>?_⟩
   have q1:=((h.ca _ hu eu a).mp ha).2
   have q2:=((h.ca v hv ev b).mp hb).2
   rw[e,q2] at q1
   omega
  ·exact h.cn _
 ·rw[bo] at e
  obtain⟨l1,l2,l3,l4⟩:=h.st _ _ _ e.1
  exact⟨by rw[hmade];exact l1,by rw[hmade];exact l2,by rw[std l3,if_neg e.2.1],by rw[std l4,if_neg e.2.2]⟩
 ·rw[hmade]
  rw[hpe] at hw
  rcases List.mem_append.mp hw with hw | hw
  ·exact h.pl w (hp w hw)
  ·obtain⟨q,hq,rfl⟩:=List.mem_map.mp hw
   exact⟨hv,(h.st v q.1 q.2 (getW_of (h.kn v) hq)).2.1⟩
 ·rw[hmade];exact h.rl a s b r
 ·rcases h.cv a s b r with q | ⟨w,hw,q⟩
  ·have:=kept _ _ _ q
   rw[nv2,nv2] at this
   exact this
  ·by_cases hm:w∈pend'
   ·refine .inr ⟨w,by rw[hpe];exact List.mem_append_left _ hm,?_⟩
    rcases q with ⟨q1,q2,q3⟩ | ⟨q1,q2,q3⟩
    ·exact .inl ⟨eqv q1,q2,eqv q3⟩
    ·exact .inr ⟨eqv q1,q2,eqv q3⟩
   ·have base:Cov S2 P2 (S2.eld c) z (S2.eld y):=by rw[← exy];exact kept _ _ _ hx
    have one:∀{p q:Nat},S.eld p=c->S.eld q=y->S2.eld p=S2.eld c/\S2.eld q=S2.eld y:=fun{p q} e1 e2=>⟨by rw[← nv2 p,e1],by rw[← nv2 q,e2]⟩
    rcases hcv w hw hm with ⟨f1,f2,f3⟩ | ⟨f1,f2,f3⟩
    ·rcases q with ⟨q1,q2,q3⟩ | ⟨q1,q2,q3⟩
     ·obtain⟨g1,g2⟩:=one (q1.symm.trans f1) (q3.symm.trans f3)
      rw[g1,g2,← q2,f2];exact base
     ·obtain⟨g1,g2⟩:=one (q1.symm.trans f1) (q3.symm.trans f3)
      have es:s= -z:=by rw[← f2,q2,Int.neg_neg]
      rw[g1,g2,es];exact Cov.back h sy2 base
    ·rcases q with ⟨q1,q2,q3⟩ | ⟨q1,q2,q3⟩
     ·obtain⟨g1,g2⟩:=one (q3.symm.trans f3) (q1.symm.trans f1)
      have es:s= -z:=by rw[← q2,f2]
      rw[g1,g2,es];exact Cov.back h sy2 base
     ·obtain⟨g1,g2⟩:=one (q3.symm.trans f3) (q1.symm.trans f1)
      have es:s=z:=by have:=q2.symm.trans f2;omega
      rw[g1,g2,es];exact base
 ·rw[bo] at e
  obtain⟨l1,l2,l3,l4⟩:=h.st _ _ _ e.1
  have:=h.so _ _ _ e.1
  rw[← l3,← l4] at this
  have q:=imq this
  rw[std l3,std l4,if_neg e.2.1,if_neg e.2.2] at q
  exact q
 ·rw[hpe] at hw
  rcases List.mem_append.mp hw with hw | hw
  ·exact imq (h.sp w (hp w hw))
  ·obtain⟨q,hq,rfl⟩:=List.mem_map.mp hw
   have e:=getW_of (h.kn v) hq
   obtain⟨l1,l2,l3,l4⟩:=h.st v q.1 q.2 e
   have:=h.so _ _ _ e
   rw[← l3,← l4] at this
   exact imq this
 ·rw[hmade] at ha
  rw[heq]
  split
  ·rename_i q
   have:=h.cg a ha
   rw[q] at this
   exact this.trans hcguv
  ·exact h.cg a ha
end
def RS.stand (S:RS):Nat:=(List.range S.made).countP fun c=>decide (S.eld c=c)
theorem count_less {p p':Nat->Bool}{v:Nat}(h:∀ a,p' a=(p a && decide (a≠v)))(hv:p v=true):∀ n,(List.range n).countP p'+ (if v < n then 1 else 0)=(List.range n).countP p
 | 0=>rfl
 | n+ 1=>by
   have ih:=count_less h hv n
   rw[List.range_succ,List.countP_append,List.countP_append,← ih]
   rw[List.countP_singleton,List.countP_singleton,h n]
   by_cases e:n=v
   ·subst e
    rw[hv,if_neg (Nat.lt_irrefl n),if_pos (Nat.lt_succ_self n)]
    simp
   ·have:decide (n≠v)=true:=decide_eq_true e
    rw[this,Bool.and_true]
    have hh:(v < n+ 1)=(v < n):=propext ⟨fun _=>by omega,fun _=>by omega⟩
    simp only[hh]
    omega
def mu (k:Nat)(S:RS)(pend:List Way):Nat:=S.stand* (k+ 1)+ pend.length
section
variable {S:RS} {pend:List Way} {R:Nat->Int->Nat->Prop} {w:Way} {ks:List Int}
theorem Good.wayLen (h:Good S pend R)(hk:∀ c z d,R c z d->z∈ks)(c:Nat):(S.way c).length<=ks.length:=by
 have:=nodup_sub ks ((S.way c).map (·.1)) (h.kn c) (fun x hx=>by
  obtain⟨q,hq,rfl⟩:=List.mem_map.mp hx
  obtain⟨a,b,r,_⟩:=h.so c q.1 q.2 (getW_of (h.kn c) hq)
  exact hk _ _ _ r)
 rw[List.length_map] at this
 exact this
theorem Good.take (h:Good S (pend++[w]) R)(hk:∀ c z d,R c z d->z∈ks):Good (S.takeIn pend w).1 (S.takeIn pend w).2 R/\mu ks.length (S.takeIn pend w).1 (S.takeIn pend w).2 < mu ks.length S (pend++[w])/\(S.takeIn pend w).1.made=S.made/\(S.takeIn pend w).1.L=S.L/\
 ((S.takeIn pend w).1.stand=S.stand/\(S.takeIn pend w).1.rows=S.rows/\(S.takeIn pend w).1.went=S.went\/(S.takeIn pend w).1.stand+ 1=S.stand/\∃ c z x y,S.by c z=some x/\Im S R c z y/\y < S.made/\S.eld y=y/\x≠y/\(S.takeIn pend w).1.rows=S.rows++[rowMeet c z (min x y) (max x y)]/\(S.takeIn pend w).1.went=S.went++[max x y]/\∀ a,(S.takeIn pend w).1.eld a=if S.eld a=max x y then min x y else S.eld a):=by
 have hw:=h.pl w (List.mem_append_right _ List.mem_cons_self)
 have iw:=h.sp w (List.mem_append_right _ List.mem_cons_self)
 have hc:=h.lt hw.1
 have hd:=h.lt hw.2
 have ec:=(h.el _ hw.1).2
 have ed:=(h.el _ hw.2).2
 have hp:∀ x∈pend,x∈pend++[w]:=fun x hx=>List.mem_append_left _ hx
 have last:∀ x∈pend++[w],x∉pend->x=w:=fun x hx nx=>by
  rcases List.mem_append.mp hx with q | q
  ·exact absurd q nx
  ·exact List.mem_singleton.mp q
 have met:∀{c x y:Nat} {z:Int},S.by c z=some x->y < S.made->S.eld y=y->x≠y->Im S R c z y->((S.eld w.1=c/\w.2.1=z/\S.eld w.2.2=y)\/(S.eld w.1=y/\w.2.1= -z/\S.eld w.2.2=c))->
  Good (S.meet c z x y pend).1 (S.meet c z x y pend).2 R/\mu ks.length (S.meet c z x y pend).1 (S.meet c z x y pend).2 < mu ks.length S (pend++[w])/\(S.meet c z x y pend).1.made=S.made/\(S.meet c z x y pend).1.L=S.L/\(S.meet c z x y pend).1.stand+ 1=S.stand/\(S.meet c z x y pend).1.rows=S.rows++[rowMeet c z (min x y) (max x y)]/\(S.meet c z x y pend).1.went=S.went++[max x y]/\∀ a,(S.meet c z x y pend).1.eld a=if S.eld a=max x y then min x y else S.eld a:=by
  intro c x y z hx hy ey hxy iy hcv
  obtain⟨g,g1,g2⟩:=h.meet hx hy ey hxy iy hp (fun x hx nx=>by rw[last x hx nx];exact hcv)
  obtain⟨hc,hxm,ec,ex⟩:=h.st _ _ _ hx
  have rest:=(offs_rest (max x y) (S.joined c z (min x y) (max x y)) pend ((S.joined c z (min x y) (max x y)).way (max x y))).2
  have hm:(S.meet c z x y pend).1.made=S.made:=by
   show (offs (max x y) (S.joined c z (min x y) (max x y)) pend ((S.joined c z (min x y) (max x y)).way (max x y))).1.made=_
   rw[rest];rfl
  have hL:(S.meet c z x y pend).1.L=S.L:=by
   show (offs (max x y) (S.joined c z (min x y) (max x y)) pend ((S.joined c z (min x y) (max x y)).way (max x y))).1.L=_
   rw[rest];rfl
  have hr:(S.meet c z x y pend).1.rows=S.rows++[rowMeet c z (min x y) (max x y)]:=by
   show (offs (max x y) (S.joined c z (min x y) (max x y)) pend ((S.joined c z (min x y) (max x y)).way (max x y))).1.rows=_
   rw[rest];rfl
  have hn:(S.meet c z x y pend).1.went=S.went++[max x y]:=by
   show (offs (max x y) (S.joined c z (min x y) (max x y)) pend ((S.joined c z (min x y) (max x y)).way (max x y))).1.went=_
   rw[rest];rfl
  have huv:min x y < max x y:=by omega
  have ev:S.eld (max x y)=max x y:=by rcases Nat.lt_or_ge x y with q | q;rw[Nat.max_eq_right (by omega)];exact ey;rw[Nat.max_eq_left (by omega)];exact ex
  have hs:(S.meet c z x y pend).1.stand+ 1=S.stand:=by
   unfold RS.stand
   rw[hm]
   have:=count_less (p:=fun c=>decide (S.eld c=c)) (p':=fun a=>decide ((S.meet c z x y pend).1.eld a=a)) (v:=max x y) (fun a=>by
    rw[g1,Bool.eq_iff_iff,Bool.and_eq_true,decide_eq_true_iff,decide_eq_true_iff,decide_eq_true_iff]
    by_cases q:S.eld a=max x y
    ·rw[if_pos q]
     constructor
     ·intro e
      have e2:S.eld (min x y)=min x y:=by rcases Nat.lt_or_ge x y with q | q;rw[Nat.min_eq_left (by omega)];exact ex;rw[Nat.min_eq_right (by omega)];exact ey
      rw[e] at e2;rw[e2] at q;omega
     ·rintro ⟨e1,e2⟩
      exact absurd (e1.symm.trans q) e2
    ·rw[if_neg q]
     exact⟨fun e=>⟨e,fun e2=>q (by rw[e2];exact ev)⟩,fun e=>e.1⟩) (decide_eq_true ev) S.made
   rw[if_pos (by omega)] at this
   exact this
  have hl:=h.wayLen hk (max x y)
  refine⟨g,?_,hm,hL,hs,hr,hn,g1⟩
  unfold mu
  rw[g2,← hs,List.length_append,List.length_append,List.length_map,Nat.add_mul,Nat.one_mul]
  have:([w]:List Way).length=1:=rfl
  omega
 unfold RS.takeIn
 by_cases h1:(S.by (S.eld w.1) w.2.1).getD (S.eld w.2.2)≠S.eld w.2.2
 ·rw[if_pos h1]
  cases e:S.by (S.eld w.1) w.2.1 with
  | none=>rw[e] at h1;exact absurd rfl h1
  | some x=>
    rw[e] at h1
    obtain⟨a1,a2,a3,a4,a5,a6,a7,a8⟩:=met e hd ed h1 iw (.inl ⟨rfl,rfl,rfl⟩)
    exact⟨a1,a2,a3,a4,.inr ⟨a5,_,_,x,_,e,iw,hd,ed,h1,a6,a7,a8⟩⟩
 ·rw[if_neg h1]
  by_cases h2:(S.by (S.eld w.2.2) (-w.2.1)).getD (S.eld w.1)≠S.eld w.1
  ·rw[if_pos h2]
   cases e:S.by (S.eld w.2.2) (-w.2.1) with
   | none=>rw[e] at h2;exact absurd rfl h2
   | some x=>
     rw[e] at h2
     have ib:=Im.back h iw
     obtain⟨a1,a2,a3,a4,a5,a6,a7,a8⟩:=met e hc ec h2 ib (.inr ⟨rfl,(Int.neg_neg _).symm,rfl⟩)
     exact⟨a1,a2,a3,a4,.inr ⟨a5,_,_,x,_,e,ib,hc,ec,h2,a6,a7,a8⟩⟩
  ·rw[if_neg h2]
   have k1:S.by (S.eld w.1) w.2.1=none\/S.by (S.eld w.1) w.2.1=some (S.eld w.2.2):=by
    cases e:S.by (S.eld w.1) w.2.1 with
    | none=>exact .inl rfl
    | some x=>rw[e] at h1;exact .inr (congrArg some (Decidable.not_not.mp h1))
   have k2:S.by (S.eld w.2.2) (-w.2.1)=none\/S.by (S.eld w.2.2) (-w.2.1)=some (S.eld w.1):=by
    cases e:S.by (S.eld w.2.2) (-w.2.1) with
    | none=>exact .inl rfl
    | some x=>rw[e] at h2;exact .inr (congrArg some (Decidable.not_not.mp h2))
   refine⟨h.keep hc hd ec ed iw k1 k2 hp (fun x hx nx=>by rw[last x hx nx];exact⟨rfl,rfl,rfl⟩),?_,rfl,rfl,.inl ⟨rfl,rfl,rfl⟩⟩
   unfold mu
   show S.stand* _+ pend.length < S.stand* _+ (pend++[w]).length
   rw[List.length_append]
   have:([w]:List Way).length=1:=rfl
   omega
theorem Good.fin (h:Good S [] R){a b:Nat}(ha:a < S.made)(hb:b < S.made):S.eld a=S.eld b↔Cg R a b:=by
 have det:∀{a a' b b':Nat} {z:Int},R a z b->R a' z b'->S.eld a=S.eld a'->S.eld b=S.eld b':=fun{a a' b b' z} r1 r2 e=>by
  rcases h.cv _ _ _ r1 with q1 | ⟨w,hw,_⟩
  ·rcases h.cv _ _ _ r2 with q2 | ⟨w,hw,_⟩
   ·rw[e,q2] at q1;exact(Option.some.inj q1).symm
   ·cases hw
  ·cases hw
 constructor
 ·intro e
  have h1:=h.cg a ha
  have h2:=h.cg b hb
  rw[e] at h1
  exact h1.trans h2.symm
 ·intro c
  clear ha hb
  induction c with
  | refl=>rfl
  | symm _ ih=>exact ih.symm
  | trans _ _ i1 i2=>exact i1.trans i2
  | step r1 r2 _ ih=>exact det r1 r2 ih
theorem Good.by_iff (h:Good S [] R){c d:Nat}{z:Int}:S.by c z=some d↔Im S R c z d:=by
 constructor
 ·exact h.so c z d
 ·rintro ⟨c',d',r,rfl,rfl⟩
  rcases h.cv _ _ _ r with q | ⟨w,hw,_⟩
  ·exact q
  ·cases hw
end
end L2
set_option Elab.async false
set_option linter.all false
set_option maxRecDepth 100000
set_option maxHeartbeats 4000000
namespace L2
open PySem PySem.Spec PyProof.Rows
section
variable {X:Cx}
end
def RAdd (R:Nat->Int->Nat->Prop)(c:Nat)(z:Int)(d:Nat):Nat->Int->Nat->Prop:=fun a s b=>R a s b\/(a=c/\s=z/\b=d)\/(a=d/\s= -z/\b=c)
theorem radd_sub {R:Nat->Int->Nat->Prop}{c d:Nat}{z:Int}:∀ a s b,R a s b->RAdd R c z d a s b:=fun _ _ _ r=>.inl r
theorem radd_new {R:Nat->Int->Nat->Prop}{c d:Nat}{z:Int}:RAdd R c z d c z d:=.inr (.inl ⟨rfl,rfl,rfl⟩)
section
variable {S:RS} {R:Nat->Int->Nat->Prop}
theorem eld_grown (hw:S.Wf)(c:Nat)(z:Int)(g:List Int)(a:Nat):(S.grown c z g).eld a=if a=S.made then S.made else S.eld a:=by
 unfold RS.eld
 show (S.elders++[S.made]).getD a 0=_
 rw[List.getD_eq_getElem?_getD]
 by_cases e:a=S.made
 ·rw[if_pos e,e,List.getElem?_append_right (by rw[hw.e];exact Nat.le_refl _),hw.e,Nat.sub_self];rfl
 ·rw[if_neg e,List.getD_eq_getElem?_getD]
  by_cases q:a < S.made
  ·rw[List.getElem?_append_left (by rw[hw.e];exact q)]
  ·rw[List.getElem?_eq_none (by rw[List.length_append,hw.e];show S.made+ 1<=a;omega),List.getElem?_eq_none (by rw[hw.e];omega)]
theorem cal_grown (hw:S.Wf)(c:Nat)(z:Int)(g:List Int)(a:Nat):(S.grown c z g).cal a=if a=S.made then [S.made] else S.cal a:=by
 unfold RS.cal
 show (S.called++[[S.made]]).getD a []=_
 rw[List.getD_eq_getElem?_getD]
 by_cases e:a=S.made
 ·rw[if_pos e,e,List.getElem?_append_right (by rw[hw.c];exact Nat.le_refl _),hw.c,Nat.sub_self];rfl
 ·rw[if_neg e,List.getD_eq_getElem?_getD]
  by_cases q:a < S.made
  ·rw[List.getElem?_append_left (by rw[hw.c];exact q)]
  ·rw[List.getElem?_eq_none (by rw[List.length_append,hw.c];show S.made+ 1<=a;omega),List.getElem?_eq_none (by rw[hw.c];omega)]
theorem way_grown (hw:S.Wf)(c:Nat)(z:Int)(g:List Int)(a:Nat):(S.grown c z g).way a=S.way a:=by
 unfold RS.way
 show (S.ways++[[]]).getD a []=_
 rw[List.getD_eq_getElem?_getD,List.getD_eq_getElem?_getD]
 by_cases q:a < S.ways.length
 ·rw[List.getElem?_append_left q]
 ·rw[List.getElem?_append_right (by omega),List.getElem?_eq_none (l:=S.ways) (by omega)]
  by_cases h2:a - S.ways.length=0
  ·rw[h2];rfl
  ·rw[List.getElem?_eq_none (by simp;omega)]
theorem Good.make (h:Good S [] R){c:Nat}{z:Int}(hc:c < S.made)(ec:S.eld c=c)(hn:S.by c z=none)(g:List Int):Good (S.make c z g) [] (RAdd R c z S.made):=by
 have hw:=h.wf
 have elo:∀ a,a < S.made->(S.grown c z g).eld a=S.eld a:=fun a ha=>by rw[eld_grown hw,if_neg (by omega)]
 have eln:(S.grown c z g).eld S.made=S.made:=by rw[eld_grown hw,if_pos rfl]
 have byg:∀ a s,(S.grown c z g).by a s=S.by a s:=fun a s=>by unfold RS.by;rw[way_grown hw]
 have G:Good (S.grown c z g) [(c,z,S.made)] (RAdd R c z S.made):=by
  refine⟨⟨?_,?_,?_,?_⟩,fun a ha=>?_,fun e he ee a=>?_,fun e a ha=>?_,fun e=>?_,fun a=>?_,fun a s b e=>?_,fun a s b e=>?_,fun w hw=>?_,?_,?_,fun a s b e=>?_,fun w hw=>?_,fun a ha=>?_⟩
  ·show (S.ways++[[]]).length=S.made+ 1;rw[List.length_append,hw.w];rfl
  ·show (S.gaps++[_]).length=S.made+ 1;rw[List.length_append,hw.g];rfl
  ·show (S.elders++[_]).length=S.made+ 1;rw[List.length_append,hw.e];rfl
  ·show (S.called++[_]).length=S.made+ 1;rw[List.length_append,hw.c];rfl
  ·have ha':a < S.made+ 1:=ha
   by_cases e:a=S.made
   ·rw[e,eln];exact⟨Nat.le_refl _,eln⟩
   ·have hl:a < S.made:=by omega
    rw[elo a hl]
    obtain⟨q1,q2⟩:=h.el a hl
    exact⟨q1,by rw[elo _ (by omega)];exact q2⟩
  ·have he':e < S.made+ 1:=he
   show _↔a < S.made+ 1/\_
   rw[cal_grown hw,eld_grown hw]
   by_cases q:e=S.made
   ·subst q
    rw[if_pos rfl,List.mem_singleton]
    constructor
    ·rintro rfl;exact⟨by omega,by rw[if_pos rfl]⟩
    ·rintro ⟨q1,q2⟩
     by_cases q3:a=S.made
     ·exact q3
     ·rw[if_neg q3] at q2
      have:=(h.el a (by omega)).1
      omega
   ·have hl:e < S.made:=by omega
    rw[elo e hl] at ee
    rw[if_neg q,h.ca e hl ee a]
    constructor
    ·rintro ⟨q1,q2⟩;exact⟨by omega,by rw[if_neg (by omega)];exact q2⟩
    ·rintro ⟨q1,q2⟩
     by_cases q3:a=S.made
     ·rw[if_pos q3] at q2;exact absurd q2.symm q
     ·rw[if_neg q3] at q2;exact⟨by omega,q2⟩
  ·show a < S.made+ 1
   rw[cal_grown hw] at ha
   split at ha
   ·rw[List.mem_singleton.mp ha];omega
   ·exact Nat.lt_succ_of_lt (h.cb e a ha)
  ·rw[cal_grown hw]
   split
   ·simp
   ·exact h.cn e
  ·rw[way_grown hw];exact h.kn a
  ·rw[byg] at e
   obtain⟨q1,q2,q3,q4⟩:=h.st a s b e
   exact⟨Nat.lt_succ_of_lt q1,Nat.lt_succ_of_lt q2,by rw[elo a q1];exact q3,by rw[elo b q2];exact q4⟩
  ·rw[byg] at e ⊢;exact h.sy a s b e
  ·rw[List.mem_singleton.mp hw];exact⟨Nat.lt_succ_of_lt hc,Nat.lt_succ_self _⟩
  ·rintro a s b (r | ⟨rfl,rfl,rfl⟩ | ⟨rfl,rfl,rfl⟩)
   ·obtain⟨q1,q2,q3⟩:=h.rl _ _ _ r;exact⟨Nat.lt_succ_of_lt q1,Nat.lt_succ_of_lt q2,.inl q3⟩
   ·exact⟨Nat.lt_succ_of_lt hc,Nat.lt_succ_self _,.inr (.inr ⟨rfl,rfl,rfl⟩)⟩
   ·exact⟨Nat.lt_succ_self _,Nat.lt_succ_of_lt hc,.inr (.inl ⟨rfl,Int.neg_neg _,rfl⟩)⟩
  ·rintro a s b (r | ⟨rfl,rfl,rfl⟩ | ⟨rfl,rfl,rfl⟩)
   ·obtain⟨q1,q2,_⟩:=h.rl _ _ _ r
    rcases h.cv _ _ _ r with q | ⟨w,hw,_⟩
    ·exact .inl (by rw[elo a q1,elo b q2,byg];exact q)
    ·cases hw
   ·exact .inr ⟨_,List.mem_cons_self,.inl ⟨rfl,rfl,rfl⟩⟩
   ·exact .inr ⟨_,List.mem_cons_self,.inr ⟨rfl,(Int.neg_neg _).symm,rfl⟩⟩
  ·rw[byg] at e
   obtain⟨c',d',r,e1,e2⟩:=h.so a s b e
   obtain⟨q1,q2,_⟩:=h.rl _ _ _ r
   exact⟨c',d',.inl r,by rw[elo c' q1];exact e1,by rw[elo d' q2];exact e2⟩
  ·rw[List.mem_singleton.mp hw]
   exact⟨c,S.made,radd_new,rfl,rfl⟩
  ·have ha':a < S.made+ 1:=ha
   by_cases e:a=S.made
   ·rw[e,eln];exact .refl _
   ·rw[elo a (by omega)];exact(h.cg a (by omega)).mono radd_sub
 have e1:(S.grown c z g).eld c=c:=by rw[elo c hc];exact ec
 have i:=G.sp _ List.mem_cons_self
 rw[show (c,z,S.made).1=c from rfl,show (c,z,S.made).2.2=S.made from rfl,e1,eln] at i
 refine G.keep (Nat.lt_succ_of_lt hc) (Nat.lt_succ_self _) e1 eln i (.inl (by rw[byg];exact hn)) (.inl ?_) (fun w hw=>by cases hw) (fun w hw _=>by rw[List.mem_singleton.mp hw];exact⟨e1,rfl,eln⟩)
 rw[byg]
 cases e:S.by S.made (-z) with
 | none=>rfl
 | some b=>have:=(h.st _ _ _ e).1;omega
end
end L2
set_option Elab.async false
set_option linter.all false
set_option maxRecDepth 100000
set_option maxHeartbeats 4000000
namespace L2
open PySem PySem.Spec PyProof.Rows
def RowR (n:Nat)(s:Int):Nat->Int->Nat->Prop:=fun a z b=>(z=s/\b=a+ 1/\b < n)\/(z= -s/\a=b+ 1/\a < n)
section
variable {n one other:Nat} {s:Int}
variable (hs:s=1\/s= -1) (h1:one < n) (h2:other < n) {S:RS} (g:Good S [] (RAdd (RowR n s) one s other)) (hm:S.made=n)
include hs h1 h2 g hm
end
end L2
set_option Elab.async false
set_option linter.all false
set_option maxRecDepth 100000
set_option maxHeartbeats 4000000
namespace L2
open PySem PySem.Spec PyProof.Rows
section
variable {X:Cx}
end
end L2
set_option Elab.async false
set_option linter.all false
set_option maxRecDepth 100000
set_option maxHeartbeats 4000000
namespace L2
open PySem PySem.Spec PyProof.Rows
section
variable {X:Cx}
end
end L2
set_option Elab.async false
set_option linter.all false
set_option maxRecDepth 100000
namespace L2
theorem seq_let1 {a1 z:TS}{D:Ends}{σ:St}{H:Hp}(h:let u1:TS:=z;tSeq a1 u1 D σ H):(tSeq a1 z) D σ H:=h
theorem seq_let2 {a1 a2 z:TS}{D:Ends}{σ:St}{H:Hp}(h:let u2:TS:=z;let u1:TS:=tSeq a2 u2;tSeq a1 u1 D σ H):(tSeq a1 (tSeq a2 z)) D σ H:=h
theorem seq_let3 {a1 a2 a3 z:TS}{D:Ends}{σ:St}{H:Hp}(h:let u3:TS:=z;let u2:TS:=tSeq a3 u3;let u1:TS:=tSeq a2 u2;tSeq a1 u1 D σ H):(tSeq a1 (tSeq a2 (tSeq a3 z))) D σ H:=h
theorem seq_let4 {a1 a2 a3 a4 z:TS}{D:Ends}{σ:St}{H:Hp}(h:let u4:TS:=z;let u3:TS:=tSeq a4 u4;let u2:TS:=tSeq a3 u3;let u1:TS:=tSeq a2 u2;tSeq a1 u1 D σ H):(tSeq a1 (tSeq a2 (tSeq a3 (tSeq a4 z)))) D σ H:=h
theorem seq_let5 {a1 a2 a3 a4 a5 z:TS}{D:Ends}{σ:St}{H:Hp}(h:let u5:TS:=z;let u4:TS:=tSeq a5 u5;let u3:TS:=tSeq a4 u4;let u2:TS:=tSeq a3 u3;let u1:TS:=tSeq a2 u2;tSeq a1 u1 D σ H):(tSeq a1 (tSeq a2 (tSeq a3 (tSeq a4 (tSeq a5 z))))) D σ H:=h
theorem seq_let6 {a1 a2 a3 a4 a5 a6 z:TS}{D:Ends}{σ:St}{H:Hp}(h:let u6:TS:=z;let u5:TS:=tSeq a6 u6;let u4:TS:=tSeq a5 u5;let u3:TS:=tSeq a4 u4;let u2:TS:=tSeq a3 u3;let u1:TS:=tSeq a2 u2;tSeq a1 u1 D σ H):(tSeq a1 (tSeq a2 (tSeq a3 (tSeq a4 (tSeq a5 (tSeq a6 z)))))) D σ H:=h
theorem seq_let7 {a1 a2 a3 a4 a5 a6 a7 z:TS}{D:Ends}{σ:St}{H:Hp}(h:let u7:TS:=z;let u6:TS:=tSeq a7 u7;let u5:TS:=tSeq a6 u6;let u4:TS:=tSeq a5 u5;let u3:TS:=tSeq a4 u4;let u2:TS:=tSeq a3 u3;let u1:TS:=tSeq a2 u2;tSeq a1 u1 D σ H):(tSeq a1 (tSeq a2 (tSeq a3 (tSeq a4 (tSeq a5 (tSeq a6 (tSeq a7 z))))))) D σ H:=h
theorem seq_let8 {a1 a2 a3 a4 a5 a6 a7 a8 z:TS}{D:Ends}{σ:St}{H:Hp}(h:let u8:TS:=z;let u7:TS:=tSeq a8 u8;let u6:TS:=tSeq a7 u7;let u5:TS:=tSeq a6 u6;let u4:TS:=tSeq a5 u5;let u3:TS:=tSeq a4 u4;let u2:TS:=tSeq a3 u3;let u1:TS:=tSeq a2 u2;tSeq a1 u1 D σ H):(tSeq a1 (tSeq a2 (tSeq a3 (tSeq a4 (tSeq a5 (tSeq a6 (tSeq a7 (tSeq a8 z)))))))) D σ H:=h
theorem seq_let9 {a1 a2 a3 a4 a5 a6 a7 a8 a9 z:TS}{D:Ends}{σ:St}{H:Hp}(h:let u9:TS:=z;let u8:TS:=tSeq a9 u9;let u7:TS:=tSeq a8 u8;let u6:TS:=tSeq a7 u7;let u5:TS:=tSeq a6 u6;let u4:TS:=tSeq a5 u5;let u3:TS:=tSeq a4 u4;let u2:TS:=tSeq a3 u3;let u1:TS:=tSeq a2 u2;tSeq a1 u1 D σ H):(tSeq a1 (tSeq a2 (tSeq a3 (tSeq a4 (tSeq a5 (tSeq a6 (tSeq a7 (tSeq a8 (tSeq a9 z))))))))) D σ H:=h
theorem seq_let10 {a1 a2 a3 a4 a5 a6 a7 a8 a9 a10 z:TS}{D:Ends}{σ:St}{H:Hp}(h:let u10:TS:=z;let u9:TS:=tSeq a10 u10;let u8:TS:=tSeq a9 u9;let u7:TS:=tSeq a8 u8;let u6:TS:=tSeq a7 u7;let u5:TS:=tSeq a6 u6;let u4:TS:=tSeq a5 u5;let u3:TS:=tSeq a4 u4;let u2:TS:=tSeq a3 u3;let u1:TS:=tSeq a2 u2;tSeq a1 u1 D σ H):(tSeq a1 (tSeq a2 (tSeq a3 (tSeq a4 (tSeq a5 (tSeq a6 (tSeq a7 (tSeq a8 (tSeq a9 (tSeq a10 z)))))))))) D σ H:=h
theorem seq_let12 {a1 a2 a3 a4 a5 a6 a7 a8 a9 a10 a11 a12 z:TS}{D:Ends}{σ:St}{H:Hp}(h:let u12:TS:=z;let u11:TS:=tSeq a12 u12;let u10:TS:=tSeq a11 u11;let u9:TS:=tSeq a10 u10;let u8:TS:=tSeq a9 u9;let u7:TS:=tSeq a8 u8;let u6:TS:=tSeq a7 u7;let u5:TS:=tSeq a6 u6;let u4:TS:=tSeq a5 u5;let u3:TS:=tSeq a4 u4;let u2:TS:=tSeq a3 u3;let u1:TS:=tSeq a2 u2;tSeq a1 u1 D σ H):(tSeq a1 (tSeq a2 (tSeq a3 (tSeq a4 (tSeq a5 (tSeq a6 (tSeq a7 (tSeq a8 (tSeq a9 (tSeq a10 (tSeq a11 (tSeq a12 z)))))))))))) D σ H:=h
theorem args_is1 {α:Type}:∀{us:List α},us.length=1->∃ x0,us=[x0]
 | [x0],_=>⟨x0,rfl⟩
theorem args_is2 {α:Type}:∀{us:List α},us.length=2->∃ x0 x1,us=[x0,x1]
 | [x0,x1],_=>⟨x0,x1,rfl⟩
theorem args_is3 {α:Type}:∀{us:List α},us.length=3->∃ x0 x1 x2,us=[x0,x1,x2]
 | [x0,x1,x2],_=>⟨x0,x1,x2,rfl⟩
theorem args_is4 {α:Type}:∀{us:List α},us.length=4->∃ x0 x1 x2 x3,us=[x0,x1,x2,x3]
 | [x0,x1,x2,x3],_=>⟨x0,x1,x2,x3,rfl⟩
theorem args_is5 {α:Type}:∀{us:List α},us.length=5->∃ x0 x1 x2 x3 x4,us=[x0,x1,x2,x3,x4]
 | [x0,x1,x2,x3,x4],_=>⟨x0,x1,x2,x3,x4,rfl⟩
theorem args_is6 {α:Type}:∀{us:List α},us.length=6->∃ x0 x1 x2 x3 x4 x5,us=[x0,x1,x2,x3,x4,x5]
 | [x0,x1,x2,x3,x4,x5],_=>⟨x0,x1,x2,x3,x4,x5,rfl⟩
section
open PySem PySem.Spec PyProof.Rows
variable {C:CXT} {P:Program} {w:World} {K:PySem.W.Frag} {mg:Str->Option Value} {base:Heap} {N:List Str} {q:Str} {sc:Scope} {f:Addr} {cd:Value} {A:Around} {outer:List Env} {s:Shared} {H:Hp} {E:XK}
theorem cx_noxK:(cxOf C P w K mg base N q sc f cd A outer s H E).nox.K=K:=rfl
theorem cx_K:(cxOf C P w K mg base N q sc f cd A outer s H E).K=K:=rfl
end
end L2
set_option Elab.async false
set_option linter.all false
set_option maxRecDepth 100000
set_option maxHeartbeats 4000000
namespace L2
open PySem PySem.Spec PyProof.Rows PySem.Builtin PySem.Builtin.Str
section
variable {X:Cx}
end
end L2
set_option Elab.async false
set_option linter.all false
set_option maxRecDepth 100000
set_option maxHeartbeats 4000000
namespace L2
structure GapI (S:RS) (R:Nat->Int->Nat->Prop) (ks:List Int):Prop where
 sub:∀ c,c < S.made->(S.gap c).Sublist ks
 im:∀ c,c < S.made->S.eld c=c->∀ z∈ks,z∉S.gap c->∃ d,Im S R c z d
 by_:∀ c z d,S.by c z=some d->z∉S.gap c
section
variable {S:RS} {pend:List Way} {R:Nat->Int->Nat->Prop} {ks:List Int}
theorem gap_noGap {c x:Nat}{z:Int}(hc:c < S.gaps.length):(S.noGap c z).gap x=if x=c then (S.gap c).filter (fun y=>decide (y≠z)) else S.gap x:=by
 unfold RS.noGap RS.setG RS.gap
 show (S.gaps.set c _).getD x []=_
 rw[List.getD_eq_getElem?_getD]
 by_cases h:x=c
 ·subst h
  rw[if_pos rfl,List.getElem?_set_self hc];rfl
 ·rw[if_neg h,List.getElem?_set_ne (fun e=>h e.symm),List.getD_eq_getElem?_getD]
theorem noGap_len {c:Nat}{z:Int}:(S.noGap c z).gaps.length=S.gaps.length:=by
 unfold RS.noGap RS.setG
 exact List.length_set ..
theorem gap_keep {c d x:Nat}{z y:Int}(hc:c < S.gaps.length)(hd:d < S.gaps.length):y∈(S.keep c z d).gap x↔y∈S.gap x/\¬ (x=c/\y=z)/\¬ (x=d/\y= -z):=by
 unfold RS.keep
 have h1:∀ x,((S.putWay c z d).putWay d (-z) c).gap x=S.gap x:=fun x=>rfl
 have l1:((S.putWay c z d).putWay d (-z) c).gaps.length=S.gaps.length:=rfl
 rw[gap_noGap (by rw[noGap_len];exact hd),gap_noGap (by exact hc),gap_noGap (by exact hc),h1,h1,h1]
 by_cases e1:x=d
 ·subst e1
  rw[if_pos rfl]
  by_cases e2:x=c
  ·subst e2
   rw[if_pos rfl,List.mem_filter,List.mem_filter]
   simp
   constructor
   ·rintro ⟨⟨a,b⟩,e⟩;exact⟨a,b,e⟩
   ·rintro ⟨a,b,e⟩;exact⟨⟨a,b⟩,e⟩
  ·rw[if_neg e2,List.mem_filter]
   simp[e2]
 ·rw[if_neg e1]
  by_cases e2:x=c
  ·subst e2
   rw[if_pos rfl,List.mem_filter]
   simp[e1]
  ·rw[if_neg e2]
   simp[e1,e2]
theorem gap_keep_sub {c d x:Nat}{z:Int}(hc:c < S.gaps.length)(hd:d < S.gaps.length):((S.keep c z d).gap x).Sublist (S.gap x):=by
 unfold RS.keep
 have h1:∀ x,((S.putWay c z d).putWay d (-z) c).gap x=S.gap x:=fun x=>rfl
 rw[gap_noGap (by rw[noGap_len];exact hd),gap_noGap (by exact hc),gap_noGap (by exact hc),h1,h1,h1]
 by_cases e1:x=d
 ·subst e1
  rw[if_pos rfl]
  by_cases e2:x=c
  ·subst e2
   rw[if_pos rfl]
   exact List.Sublist.trans List.filter_sublist List.filter_sublist
  ·rw[if_neg e2];exact List.filter_sublist
 ·rw[if_neg e1]
  by_cases e2:x=c
  ·subst e2
   rw[if_pos rfl];exact List.filter_sublist
  ·rw[if_neg e2];exact List.Sublist.refl _
theorem by_keep {c d x:Nat}{z y:Int}(hc:c < S.ways.length)(hd:d < S.ways.length):(S.keep c z d).by x y=if x=d/\y= -z then some c else if x=c/\y=z then some d else S.by x y:=by
 unfold RS.keep
 show (((S.putWay c z d).putWay d (-z) c)).by x y=_
 rw[by_putWay (by unfold RS.putWay RS.setW;rw[List.length_set];exact hd),by_putWay hc]
theorem GapI.keep (h:GapI S R ks)(g:Good S pend R){c d:Nat}{z:Int}(hc:c < S.made)(hd:d < S.made)(i:Im S R c z d):GapI (S.keep c z d) R ks:=by
 have gc:c < S.gaps.length:=by rw[g.wf.g];exact hc
 have gd:d < S.gaps.length:=by rw[g.wf.g];exact hd
 refine⟨fun x hx=>(gap_keep_sub gc gd).trans (h.sub x hx),fun x hx ex y hy hn=>?_,fun x y e he=>?_⟩
 ·rw[gap_keep gc gd] at hn
  by_cases h1:x=c/\y=z
  ·rw[h1.1,h1.2];exact⟨d,i⟩
  ·by_cases h2:x=d/\y= -z
   ·rw[h2.1,h2.2];exact⟨c,i.back g⟩
   ·exact h.im x hx ex y hy fun q=>hn ⟨q,h1,h2⟩
 ·rw[by_keep (by rw[g.wf.w];exact hc) (by rw[g.wf.w];exact hd)] at he
  rw[gap_keep gc gd]
  rintro ⟨q,q1,q2⟩
  rw[if_neg q2,if_neg q1] at he
  exact h.by_ x y e he q
theorem meet_gap {c x y:Nat}{z:Int}:(S.meet c z x y pend).1.gaps=S.gaps:=by
 have:=(offs_rest (max x y) (S.joined c z (min x y) (max x y)) pend ((S.joined c z (min x y) (max x y)).way (max x y))).2
 have:=congrArg RS.gaps this
 exact this
theorem GapI.meet (h:GapI S R ks)(g:Good S pend R){c x y:Nat}{z:Int}(hx:S.by c z=some x)(hy:y < S.made)(ey:S.eld y=y)(hxy:x≠y){pend':List Way}
 (made:(S.meet c z x y pend').1.made=S.made) (eld:∀ a,(S.meet c z x y pend').1.eld a=if S.eld a=max x y then min x y else S.eld a):GapI (S.meet c z x y pend').1 R ks:=by
 have hg:∀ a,(S.meet c z x y pend').1.gap a=S.gap a:=fun a=>by unfold RS.gap;rw[meet_gap]
 obtain⟨_,hxm,_,ex⟩:=g.st _ _ _ hx
 have hmx:max x y < S.made:=by rcases Nat.le_total x y with q | q <;> omega
 have hmm:min x y < max x y:=by rcases Nat.lt_or_gt_of_ne hxy with q | q <;> omega
 have stay:∀ a,a < S.made->(S.meet c z x y pend').1.eld a=a->S.eld a=a/\a≠max x y:=fun a ha e=>by
  rw[eld] at e
  have hle:=(g.el a ha).1
  by_cases q:S.eld a=max x y
  ·rw[if_pos q] at e;omega
  ·rw[if_neg q] at e
   exact⟨e,fun z=>q (by rw[e,z])⟩
 refine⟨fun a ha=>by rw[hg];exact h.sub a (by rw[← made];exact ha),fun a ha ea s hs hn=>?_,fun a s b hb=>?_⟩
 ·rw[hg] at hn
  obtain⟨e1,e2⟩:=stay a (by rw[← made];exact ha) ea
  obtain⟨b,c',d',r,q1,q2⟩:=h.im a (by rw[← made];exact ha) e1 s hs hn
  exact⟨_,c',d',r,by rw[eld,if_neg (by rw[q1];exact e2)];exact q1,rfl⟩
 ·rw[hg]
  have hlt:∀ q∈(S.joined c z (min x y) (max x y)).way (max x y),q.2 < (S.joined c z (min x y) (max x y)).ways.length:=fun q hq=>by
   show q.2 < S.ways.length
   rw[g.wf.w]
   exact(g.st _ _ _ (getW_of (g.kn (max x y)) hq)).2.1
  have hb':(offs (max x y) (S.joined c z (min x y) (max x y)) pend' ((S.joined c z (min x y) (max x y)).way (max x y))).1.by a s=some b:=hb
  rw[offs_by (by show max x y < S.ways.length;rw[g.wf.w];exact hmx) _ hlt] at hb'
  split at hb'
  ·cases hb'
  ·exact h.by_ a s b hb'
theorem meet_made {c x y:Nat}{z:Int}:(S.meet c z x y pend).1.made=S.made:=by
 have:=(offs_rest (max x y) (S.joined c z (min x y) (max x y)) pend ((S.joined c z (min x y) (max x y)).way (max x y))).2
 have:=congrArg RS.made this
 exact this
theorem GapI.take {w:Way}(hG:GapI S R ks)(h:Good S (pend++[w]) R):GapI (S.takeIn pend w).1 R ks:=by
 have hw:=h.pl w (List.mem_append_right _ List.mem_cons_self)
 have iw:=h.sp w (List.mem_append_right _ List.mem_cons_self)
 have hc:=h.lt hw.1
 have hd:=h.lt hw.2
 have ec:=(h.el _ hw.1).2
 have ed:=(h.el _ hw.2).2
 have hp:∀ x∈pend,x∈pend++[w]:=fun x hx=>List.mem_append_left _ hx
 have last:∀ x∈pend++[w],x∉pend->x=w:=fun x hx nx=>by
  rcases List.mem_append.mp hx with q | q
  ·exact absurd q nx
  ·exact List.mem_singleton.mp q
 unfold RS.takeIn
 by_cases h1:(S.by (S.eld w.1) w.2.1).getD (S.eld w.2.2)≠S.eld w.2.2
 ·rw[if_pos h1]
  cases e:S.by (S.eld w.1) w.2.1 with
  | none=>rw[e] at h1;exact absurd rfl h1
  | some x=>
    rw[e] at h1
    have h1:x≠S.eld w.2.2:=h1
    obtain⟨_,e1,_⟩:=h.meet e hd ed h1 iw hp (fun x hx nx=>by rw[last x hx nx];exact .inl ⟨rfl,rfl,rfl⟩)
    exact hG.meet h e hd ed h1 meet_made e1
 ·rw[if_neg h1]
  by_cases h2:(S.by (S.eld w.2.2) (-w.2.1)).getD (S.eld w.1)≠S.eld w.1
  ·rw[if_pos h2]
   cases e:S.by (S.eld w.2.2) (-w.2.1) with
   | none=>rw[e] at h2;exact absurd rfl h2
   | some x=>
     rw[e] at h2
     have h2:x≠S.eld w.1:=h2
     obtain⟨_,e1,_⟩:=h.meet e hc ec h2 (iw.back h) hp (fun x hx nx=>by rw[last x hx nx];exact .inr ⟨rfl,(Int.neg_neg _).symm,rfl⟩)
     exact hG.meet h e hc ec h2 meet_made e1
  ·rw[if_neg h2]
   exact hG.keep h hc hd iw
theorem GapI.more {R':Nat->Int->Nat->Prop}(h:GapI S R ks)(hr:∀ a z b,R a z b->R' a z b):GapI S R' ks:=⟨h.sub,fun c hc ec z hz hn=>by
 obtain⟨d,c',d',r,e1,e2⟩:=h.im c hc ec z hz hn
 exact⟨d,c',d',hr _ _ _ r,e1,e2⟩,h.by_⟩
theorem GapI.rows (h:GapI S R ks)(rows:List Dt):GapI { S with rows:=rows } R ks:=⟨h.sub,h.im,h.by_⟩
theorem GapI.make (h:GapI S R ks)(g:Good S [] R){c:Nat}{z:Int}(hc:c < S.made)(ec:S.eld c=c)(hn:S.by c z=none):GapI (S.make c z ks) (RAdd R c z S.made) ks:=by
 have gg:∀ x,(S.grown c z ks).gap x=if x=S.made then ks else S.gap x:=fun x=>by
  unfold RS.gap
  show (S.gaps++[ks]).getD x []=_
  rw[List.getD_eq_getElem?_getD,List.getD_eq_getElem?_getD]
  by_cases hx:x=S.made
  ·subst hx
   rw[if_pos rfl,List.getElem?_append_right (by rw[g.wf.g];exact Nat.le_refl _),g.wf.g,Nat.sub_self];rfl
  ·rw[if_neg hx]
   by_cases hl:x < S.gaps.length
   ·rw[List.getElem?_append_left hl]
   ·have:=g.wf.g
    rw[List.getElem?_append_right (by omega),List.getElem?_eq_none (by rw[List.length_singleton];omega),List.getElem?_eq_none (by omega)]
 have bg:∀ x y,(S.grown c z ks).by x y=S.by x y:=fun x y=>by unfold RS.by;rw[way_grown g.wf]
 have hcg:c < (S.grown c z ks).gaps.length:=by show c < (S.gaps++[ks]).length;rw[List.length_append,g.wf.g];omega
 have hmg:S.made < (S.grown c z ks).gaps.length:=by show S.made < (S.gaps++[ks]).length;rw[List.length_append,g.wf.g,List.length_singleton];omega
 have hcw:c < (S.grown c z ks).ways.length:=by show c < (S.ways++[[]]).length;rw[List.length_append,g.wf.w];omega
 have hmw:S.made < (S.grown c z ks).ways.length:=by show S.made < (S.ways++[[]]).length;rw[List.length_append,g.wf.w,List.length_singleton];omega
 have ee:∀ x,(S.make c z ks).eld x=if x=S.made then S.made else S.eld x:=fun x=>eld_grown g.wf c z ks x
 have nmade:∀ a s b,S.by a s=some b->a≠S.made:=fun a s b e q=>by have:=(g.st _ _ _ e).1;omega
 refine⟨fun x hx=>?_,fun x hx ex y hy hny=>?_,fun x y e he=>?_⟩
 ·refine(gap_keep_sub hcg hmg).trans ?_
  rw[gg]
  by_cases q:x=S.made
  ·rw[if_pos q];exact List.Sublist.refl _
  ·rw[if_neg q]
   have hx:x < S.made+ 1:=hx
   exact h.sub x (by omega)
 ·have hny:y∉((S.grown c z ks).keep c z S.made).gap x:=hny
  rw[gap_keep hcg hmg,gg] at hny
  by_cases h1:x=c/\y=z
  ·refine⟨S.made,c,S.made,by rw[h1.2];exact radd_new,?_,?_⟩
   ·rw[ee,if_neg (by omega),h1.1];exact ec
   ·rw[ee,if_pos rfl]
  ·by_cases h2:x=S.made/\y= -z
   ·refine⟨c,S.made,c,by rw[h2.2];exact .inr (.inr ⟨rfl,rfl,rfl⟩),?_,?_⟩
    ·rw[ee,if_pos rfl,h2.1]
    ·rw[ee,if_neg (by omega)];exact ec
   ·by_cases q:x=S.made
    ·rw[if_pos q] at hny
     exact absurd ⟨hy,h1,h2⟩ hny
    ·rw[if_neg q] at hny
     have hx:x < S.made+ 1:=hx
     rw[ee,if_neg q] at ex
     obtain⟨d,c',d',r,e1,e2⟩:=h.im x (by omega) ex y hy fun k=>hny ⟨k,h1,h2⟩
     have hr:=g.rl _ _ _ r
     exact⟨d,c',d',.inl r,by rw[ee,if_neg (by omega)];exact e1,by rw[ee,if_neg (by omega)];exact e2⟩
 ·have he:((S.grown c z ks).keep c z S.made).by x y=some e:=he
  rw[by_keep hcw hmw,bg] at he
  show y∉((S.grown c z ks).keep c z S.made).gap x
  rw[gap_keep hcg hmg,gg]
  rintro ⟨q,q1,q2⟩
  rw[if_neg q2,if_neg q1] at he
  rw[if_neg (nmade _ _ _ he)] at q
  exact h.by_ x y e he q
theorem GapI.fin (h:GapI S R ks)(g:Good S [] R)(nd:ks.Nodup){c:Nat}(hc:c < S.made)(ec:S.eld c=c):S.gap c=ks.filter fun z=>(S.by c z).isNone:=by
 have sl:∀{l k:List Int},l.Sublist k->k.Nodup->l=k.filter fun z=>decide (z∈l):=fun{l k} s=>by
  induction s with
  | slnil=>intro _;rfl
  | cons a s ih=>
    rename_i l k
    intro hn
    have h1:=List.nodup_cons.mp hn
    rw[List.filter_cons_of_neg (by simpa using fun q=>h1.1 (s.subset q))]
    exact ih h1.2
  | cons_cons a s ih=>
    rename_i l k
    intro hn
    have h1:=List.nodup_cons.mp hn
    rw[List.filter_cons_of_pos (by simp)]
    congr 1
    conv=>lhs;rw[ih h1.2]
    refine List.filter_congr fun z hz=>?_
    have:z≠a:=fun e=>h1.1 (by rw[← e];exact hz)
    simp[this]
 rw[sl (h.sub c hc) nd]
 refine List.filter_congr fun z hz=>?_
 cases e:S.by c z with
 | some d=>
   have:=h.by_ c z d e
   simp[this]
 | none=>
   by_cases q:z∈S.gap c
   ·simp[q]
   ·obtain⟨d,i⟩:=h.im c hc ec z hz q
    have:=g.by_iff.mpr i
    rw[e] at this;cases this
end
end L2
set_option Elab.async false
set_option linter.all false
set_option maxRecDepth 100000
set_option maxHeartbeats 4000000
namespace L2
open PySem PySem.Spec PyProof.Rows
section
variable {M:Model} {A:Around} {E:Value->Shared->Prop} {s:Shared}
structure Fly (B:Heap) (l:List Env) (x:Addr) (cls a0:Value) (h:Heap):Prop where
 stays:B.StaysIn h
 new:B.get? x=none
 fun_:h.FunFrames B l
 tr:∃ fl,h.TracedAtW B x cls a0 fl
end
section
variable {prog:Program} {w:World} {A:Around} {R:Result->Shared->Prop} {s:Shared}
end
section
variable {X:Cx} {elt iter:Expr} {x:Str} {px pos:Pos} {scope:Scope} {cl:List (Str×Addr)} {fns:List Str} {ixs:List Nat} {wi:TI} {te:TE}
end
section
variable {X:Cx}
end
end L2
set_option Elab.async false
set_option linter.all false
set_option maxRecDepth 100000
set_option maxHeartbeats 4000000
namespace L2
open PySem PySem.Spec PyProof.Rows
theorem turn_dK {P:Program}{w:World}{K:PySem.W.Frag}{tg:Expr}(d it:Addr)(o:Obj)(es:Array DictEntry)(ep:Nat)(kvs:List (Key×V))(ho:o.data=.dict es ep):Turn P w K tg (ItdK d o kvs) [it] it (fun i h=>h.IsKeyIter it d i es.size ep) where
 mem:=by simp
 obj:=fun i h st b hb=>by
  have e:b=it:=by simpa using hb
  subst e
  obtain⟨o,e,c,d⟩:=st
  exact⟨o,e,fun v z=>by rw[d] at z;cases z⟩
 keep:=fun i h h' st k=>st.at fun o e=>k it (by simp) o e
 item:=by
  intro X hP hw hK hc i pins s σ H E I hf st hg
  subst hP hw hK
  obtain⟨hi,hd⟩:=hg
  obtain⟨hgo,-,hsm,vs,rel,o2,es2,ep2,h1,h2,h3,h4,h5,h6⟩:=I.hok d _ hd
  rw[hgo] at h1
  obtain rfl:=Option.some.inj h1
  rw[ho] at h3
  injection h3 with e1 e2
  subst e1 e2
  have hv:=pairs_rel h5 rel
  have hel:=pairs_len h5
  have hkl:kvs.length=vs.length:=KV.length rel
  have hsz:es.size=kvs.length:=by rw[← Array.length_toList,hel,hkl]
  have hen:es[i]?=some (es[i]'(by omega)):=Array.getElem?_eq_getElem (by omega)
  generalize es[i]'(by omega)=en at hen
  have hkv:kvs[i]?=some (kvs[i]'hi):=List.getElem?_eq_getElem hi
  generalize kvs[i]'hi=kv at hkv
  obtain⟨u0,hu0,rk⟩:=hv.get (i:=i) (x:=kV kv.1) (by rw[List.getElem?_map,hkv];rfl)
  rw[List.getElem?_map,Array.getElem?_toList,hen] at hu0
  obtain rfl:en.key=u0:=Option.some.inj hu0
  obtain⟨f0,f1,f2,f3,f4,f5⟩:=hf it (by simp)
  refine Dk.item st ⟨_,hgo,h2,ho⟩ hen fun h' st' sb=>?_
  have I1:Inv X pins σ H { s with heap:=h' }:=I.turned (t':=s.toks) (fun b o hb e=>(sb.2 b hb).trans e) f0 f1 f3 f4 f5
  obtain⟨oi,e,c,dd⟩:=id st'
  exact⟨_,rfl,go_of (s:={ s with heap:=h' }) e c dd (by decide) ⟨kV kv.1,H,I1,rk,⟨rfl,kv,hkv,rfl⟩,st',fun b hb=>(hf b hb).1⟩⟩
 done:=by
  intro X hP hw hK hc i pins s σ H E I hf st hg
  subst hP hw hK
  obtain⟨hi,hd⟩:=hg
  obtain⟨hgo,-,hsm,vs,rel,o2,es2,ep2,h1,h2,h3,h4,h5,h6⟩:=I.hok d _ hd
  rw[hgo] at h1
  obtain rfl:=Option.some.inj h1
  rw[ho] at h3
  injection h3 with e1 e2
  subst e1 e2
  have hel:=pairs_len h5
  have hkl:kvs.length=vs.length:=KV.length rel
  have hsz:es.size=kvs.length:=by rw[← Array.length_toList,hel,hkl]
  obtain⟨f0,f1,f2,f3,f4,f5⟩:=hf it (by simp)
  exact Dk.fin (I.ok.hd hc) st ⟨_,hgo,h2,ho⟩ (Array.getElem?_eq_none (by omega)) fun h' eb=>⟨rfl,I.turned (t':=s.toks) (fun b o hb e=>eb b o hb e) f0 f1 f3 f4 f5⟩
 self:=fun _ _ _ _ _ st h=>wpAny_pyIter_keyiter st h
section
variable {X:Cx} {tg:Expr}
def iDK (tl:TE):TI:=fun σ H R=>tl σ H fun x H1=>∃ d kvs,x=.ref d/\H1 d=some (.dK kvs)/\∀ o,R (ItdK d o kvs) (upd H1 d (.frz o (.dK kvs)))
theorem pi_dK {l:Expr}{tl:TE}(hl:PE X l tl):PI X tg l (iDK tl):=by
 intro pins s σ H R I h
 refine thn (hl pins s σ H _ I h) fun u s1 ⟨x,H1,I1,rx,d,kvs,ex,hd,q⟩=>?_
 subst ex
 cases rx
 obtain⟨-,hsm,vs,rel,o,es,ep,h1,h2,h3,h4,h5,h6⟩:=I1.hok d _ hd
 refine Dk.iter hsm ⟨o,h1,h2,h3⟩ ?_
 have I2:=(I1.freeze hd True.intro h1).kept (h':=s1.heap.push { cls:=.type "dict_keyiterator",data:=.fields #[.ref d,.int 0 0,.int es.size 0,.int ep 0] }) (t':=s1.toks) fun b o e=>Heap.get?_push_of_some _ e
 have T:=turn_dK (P:=X.prog) (w:=X.w) (K:=X.K) (tg:=tg) d s1.heap.objs.size o es ep kvs h3
 refine⟨_,_,_,_,_,rfl,I2,T,⟨_,Heap.get?_push_size _ rfl,rfl,rfl⟩,fun b hb=>?_,q o⟩
 rw[List.mem_singleton.mp hb]
 have hfr:=I1.hok.fresh (Nat.le_refl s1.heap.objs.size)
 exact I1.fpOk (Nat.le_refl _) (by rw[upd_ne (fun z=>by rw[z,hd] at hfr;cases hfr)];exact hfr)
end
theorem for_dK {d:Addr}{o:Obj}{kvs:List (Key×V)}{g:TG}{tb:TS}{D:Ends}{σ:St}{H:Hp}(Pv:Nat->St->Hp->Prop)(h0:Pv 0 σ H)(hl:∀ i σ H,i<=kvs.length->Pv i σ H->H d=some (.frz o (.dK kvs)))
 (hs:∀ i kv σ H,kvs[i]?=some kv->Pv i σ H->g (kV kv.1) σ H fun σ2 H2=>tb { D with nx:=Pv (i+ 1),ct:=Pv (i+ 1),bk:=D.nx } σ2 H2) (hd:∀ σ H,Pv kvs.length σ H->D.nx σ H):
 ∃ W:Nat->Nat->St->Hp->Prop,(∃ m,W 0 m σ H)/\∀ i m σ H,W i m σ H->
   ((ItdK d o kvs).stop i H/\D.nx σ H)\/((ItdK d o kvs).go i H/\∃ N:St->Hp->Prop,(∀ σ' H',N σ' H'->∃ m',m' < m/\W (i+ 1) m' σ' H')/\∀ x H',(ItdK d o kvs).yld i H x H'->g x σ H' fun σ2 H2=>tb { D with nx:=N,ct:=N,bk:=D.nx } σ2 H2):=by
 refine⟨fun i m σ H=>m=kvs.length - i/\i<=kvs.length/\Pv i σ H,⟨kvs.length,by simp,Nat.zero_le _,h0⟩,?_⟩
 rintro i m σ H ⟨rfl,hi,p⟩
 have q:=hl i σ H hi p
 by_cases hlt:i < kvs.length
 ·refine .inr ⟨⟨hlt,q⟩,Pv (i+ 1),fun σ' H' p'=>⟨kvs.length - (i+ 1),by omega,rfl,hlt,p'⟩,fun x H' y=>?_⟩
  obtain⟨rfl,kv,h1,rfl⟩:=y
  exact hs i kv σ _ h1 p
 ·have e:i=kvs.length:=by omega
  subst e
  exact .inl ⟨⟨Nat.le_refl _,q⟩,hd σ H p⟩
def tDSet (td ty tx:TE):TE:=fun σ H Q=>td σ H fun x H1=>∃ a,x=.ref a/\IsD H1 a/\ty σ H1 fun y H2=>tx σ H2 fun z H3=>∃ kvs k,H3 a=some (.dK kvs)/\y=kV k/\kvs.length < sizeLine/\
 (∀ v,valV kvs k=some v->Q v H3)/\(valV kvs k=none->Q z (upd H3 a (.dK (putK kvs k z))))
section
variable {X:Cx} {o e f:Expr} {apos cpos:Pos} {td ty tx:TE}
theorem pe_dsetdefault2 (ho:PE X o td)(he:PE X e ty)(hf:PE X f tx)(m:M2 X o "setdefault" apos e f cpos):PE X (.Call (.Attribute o "setdefault" apos) [e,f] [] cpos) (tDSet td ty tx):=by
 intro pins s σ H Q I h
 refine wpAny_Call_method m.base m.few m.line PySem.F.plainAttrs_dict PySem.F.slot_dict_setdefault PySem.F.type_dict_setdefault (thn (ho pins s σ H _ I h) fun u s1 ⟨x,H1,I1,rx,a,ex,d,q1⟩=>?_)
 subst ex
 obtain rfl:u=Value.ref a:=rx
 obtain⟨t1,t2,_⟩:=isD_at I1 d
 refine⟨t1,t2,?_⟩
 rw[m.trees]
 refine Calls.callWith_builtin rfl (Calls.evalArgs_plain (Calls.spliced_cons (thn (he pins s1 σ H1 _ I1 q1) fun iv s2 ⟨y,H2,I2,ry,q2⟩=>
  Calls.spliced_cons (thn (hf pins s2 σ H2 _ I2 q2) fun fv s3 ⟨z,H3,I3,rz,kvs,k,ea,ey,hlt,q3,q4⟩=>Calls.spliced_nil ?_))))
 subst ey
 obtain⟨hz,hd,vs,rel,dd⟩:=dk_of I3.hok ea
 have hval:=rel.val k
 have hvl:vs.length<=sizeLine:=by rw[← rel.length];exact hz
 refine call_meetsIn PySem.F.slot_dict_setdefault dd.typeIs PySem.F.entry_dict_setdefault (PySem.F.args_dict_setdefault_3 _ _ _) (kt_meets_setdefault (mixKind X.prog X.w) a (kV_is ry) hd fv) ⟨vs,dd,hvl,fun v hv=>?_,fun hn g1 dd' sb=>?_⟩
 ·rw[hv] at hval
  cases l:valV kvs k with
  | none=>rw[l] at hval;exact hval.elim
  | some y0=>
    rw[l] at hval
    exact⟨y0,H3,I3.tok _,hval,q3 y0 l⟩
 ·rw[hn] at hval
  cases l:valV kvs k with
  | some y0=>rw[l] at hval;exact hval.elim
  | none=>
    have hl:(putK kvs k z).length<=sizeLine:=by have:=length_putK kvs k z;omega
    have he:∃ q,g1.get? a=some q:=let ⟨q,_,_,hq,_⟩:=dd';⟨q,hq⟩
    exact⟨z,_,d_write I3 (by rw[ea];exact True.intro) sb he (dk_new hl hd (rel.put k rz) dd'),rz,q4 l⟩
end
end L2
set_option Elab.async false
set_option linter.all false
set_option maxRecDepth 100000
set_option maxHeartbeats 4000000
namespace L2
open PySem PySem.Spec PyProof.Rows
namespace Di
section
variable {prog:Program} {w:World} {A:Around} {E:Value->Shared->Prop} {s:Shared} {d:Addr} {es:Array DictEntry} {ep:Nat}
theorem meets (d:Addr)(hd:(d==sysModules)=false):MeetsIn prog w (Builtin.«dict.items» ⟨[.ref d],[]⟩) (fun _ R s=>(∃ es ep,RawD s.heap d es ep)/\R (.ok (.ret (.ref s.heap.objs.size))) { s with heap:=s.heap.push { cls:=.type "dict_items",data:=.fields #[.ref d] } }):=
 .of_wp fun A R s ⟨⟨es,ep,hm⟩,h⟩=>by
  unfold Builtin.«dict.items»;refine wpAny_bind ?_;unfold Builtin.Dict.noArgs
  refine wpAny_bind (wpAny_notOrdered_dict (Dk.typ hm) ?_);show wpAny _ _ (pure d) _ _ s
  refine wpAny_pure ?_;show wpAny _ _ (Builtin.Dict.showsAll d >>=_) _ _ s;unfold Builtin.Dict.showsAll
  rw[if_neg (by rw[hd];decide)];exact wpAny_bind (wpAny_pure (wpAny_bind (wpAny_newObj_type (wpAny_pure ⟨_,rfl,h⟩))))
theorem iter {v:Addr}{Q:Value->Shared->Prop}(hv:s.heap.IsItemsView v d)(hm:RawD s.heap d es ep)
 (hQ:Q (.ref s.heap.objs.size) { s with heap:=s.heap.push { cls:=.type "dict_itemiterator",data:=.fields #[.none,.bool false,.ref d,.int 0 0,.int es.size 0,.int ep 0,.none,.none] } }):wpAny (model prog w) A (pyIter (.ref v)) Q E s:=by
 obtain⟨ov,hov,hcv,hdv⟩:=id hv;obtain⟨o,ho,hc,hdat⟩:=id hm
 refine wpAny_pyIter_slot hv.typeIs F.slot_dict_items_iter (wpAny_call_entry F.slot_dict_items_iter hv.typeIs F.entry_dict_items_iter ?_ (F.args_dict_items_iter_1 _));unfold Builtin.«dict_items.__iter__»
 refine wpAny_bind (wpAny_pure (wpAny_bind ?_));unfold Builtin.Dict_items.dictOf
 refine wpAny_bind (wpAny_field hov hdv (x:=.ref d) rfl (wpAny_pure (wpAny_bind ?_)));unfold Builtin.Dict_items.newIterator
 refine wpAny_bind (wpAny_dictEntries ho hdat (wpAny_bind (wpAny_dictEpoch ho hdat ?_)))
 have own:Builtin.Dict_items.ownsTuple "dict_itemiterator"=true:=by decide
 simp only[own,if_true]
 refine wpAny_newObj_type (wpAny_pure ⟨_,rfl,"dict_itemiterator",_,⟨_,Heap.get?_push_size _ rfl,rfl⟩,F.slot_dict_itemiterator_next.lookup,?_⟩) (by simp only[sizeOk,Builtin.Dict_items.ownedTupleFields,List.size_toArray,List.length_append,List.length_cons,List.length_nil,sizeLine_eq];omega)
 simpa [rawInt,Builtin.Dict_items.ownedTupleFields] using hQ
theorem item {it:Addr}{i:Nat}{en:DictEntry}{ok ov:Value}{Q:Option Value->Shared->Prop}(hit:IsItemIter s.heap it d i es.size ep ok ov)(hm:RawD s.heap d es ep)(hx:es[i]?=some en)
 (hQ:∀ g,IsItemIterOut g it d (i+ 1) es.size ep en.key en.val s.heap.objs.size->g.get? s.heap.objs.size=some { cls:=.type "tuple",data:=.seq #[en.key,en.val] }->
  (∀ b o,b≠it->s.heap.get? b=some o->g.get? b=some o)->Q (some (.ref s.heap.objs.size)) { s with heap:=g }):wpAny (model prog w) A (pyNext (.ref it)) Q E s:=by
 obtain⟨hp,gn,dr,tk,os⟩:=s
 obtain⟨od,hod,hcd,hdd⟩:=id hm
 have hT:Shared.TypeIs ⟨hp,gn,dr,tk,os⟩ (.ref it) "dict_itemiterator":=⟨_,hit,rfl⟩
 unfold pyNext
 refine wpAny_bind (wpAny_attempt (wpAny_callSpecial?_slot (name:=Str.ofString "__next__") hT F.slot_dict_itemiterator_next (wpAny_call_entry F.slot_dict_itemiterator_next hT F.entry_dict_itemiterator_next ?_ (F.args_dict_itemiterator_next_1 _))))
 refine wpAny_bind (wpAny_pure (wpAny_bind (wpAny_bind ?_)))
 first | (refine wpAny_bind (wpAny_typeNameOfWhole_itemiter hT (wpAny_pure ?_));skip) | (refine wpAny_bind (wpAny_typeNameOf_itemiter hT (wpAny_pure ?_));skip)
 refine wpAny_bind (wpAny_fieldsOf hit rfl ?_);have own:Builtin.Dict_items.ownsTuple "dict_itemiterator"=true:=by decide
 simp only[own,if_true];show wpAny _ _ (if (Value.ref d==Value.none)=true then _ else _) _ _ _
 rw[if_neg (show ¬ ((Value.ref d==Value.none)=true) by intro z;cases z)];refine wpAny_bind (wpAny_pure (wpAny_bind (wpAny_dictEntries hod hdd ?_)))
 rw[if_neg (by simp)];refine wpAny_bind (wpAny_pure (wpAny_bind (wpAny_dictEpoch hod hdd ?_)))
 rw[if_neg (by simp)];refine wpAny_pure ?_
 simp only[show ¬ ((i:Int) < 0) by omega,if_false,Int.toNat_natCast,hx];refine wpAny_bind ?_
 first | (refine wpAny_bind (wpAny_typeNameOfWhole_itemiter hT (wpAny_pure ?_));skip) | (refine wpAny_bind (wpAny_typeNameOf_itemiter hT (wpAny_pure ?_));skip)
 refine wpAny_bind (wpAny_isOneOf_itemiter hT ?_);show wpAny _ _ (setField (.ref it) 3 (rawInt ((i:Int)+ 1)) >>=_) _ _ ⟨hp,gn,dr,tk,os⟩
 refine wpAny_bind (wpAny_setField_rec hit (by simp) fun g1 e1 s1=>?_)
 replace s1:Heap.SameBut it hp g1:=s1
 replace e1:IsItemIter g1 it d (i+ 1) es.size ep ok ov:=by
  unfold IsItemIter;rw[show ((i+ 1:Nat):Int)=(i:Int)+ 1 by omega];simpa [rawInt] using e1
 have hT1:Shared.TypeIs ⟨g1,gn,dr,tk,os⟩ (.ref it) "dict_itemiterator":=⟨_,e1,rfl⟩
 refine wpAny_bind (wpAny_holding (wpAny_bind (wpAny_isOneOf_itemiter hT1 (wpAny_bind (wpAny_isOneOf_itemiter hT1 ?_)))))
 show wpAny _ _ (Builtin.Dict_items.pairFromOwner (.ref it) 6 en.key en.val) _ _ ⟨g1,gn,dr,tk,os⟩;unfold Builtin.Dict_items.pairFromOwner
 refine wpAny_bind (wpAny_newTuple ?_)
 have e2:IsItemIter (g1.push { cls:=.type "tuple",data:=.seq #[en.key,en.val] }) it d (i+ 1) es.size ep ok ov:=Heap.get?_push_of_some _ e1
 generalize hg2:g1.push { cls:=.type "tuple",data:=.seq #[en.key,en.val] }=g2 at e2
 have z1:g1.objs.size=hp.objs.size:=s1.1
 have il:it < hp.objs.size:=Heap.lt_size hit
 have t2:g2.get? hp.objs.size=some { cls:=.type "tuple",data:=.seq #[en.key,en.val] }:=by rw[← hg2,← z1];exact Heap.get?_push_size _ rfl
 have k2:∀ b o,b≠it->hp.get? b=some o->g2.get? b=some o:=fun b o hb e=>by rw[← hg2];exact Heap.get?_push_of_some _ (s1.extBut b o hb e)
 show wpAny _ _ (Builtin.Dict_items.ownedTupleIsFree (.ref it) >>=_) _ _ ⟨g2,gn,dr,tk,os⟩;rw[z1]
 clear hg2 e1 s1 hT1 z1 g1
 refine wpAny_bind ?_;unfold Builtin.Dict_items.ownedTupleIsFree
 refine wpAny_bind (wpAny_field e2 rfl (x:=.none) rfl (wpAny_pure ?_));simp only[if_true]
 refine wpAny_bind (wpAny_field e2 rfl (x:=ok) rfl (wpAny_bind (wpAny_field e2 rfl (x:=ov) rfl ?_)))
 refine wpAny_bind (wpAny_setField_rec e2 (by simp) fun g3 e3 s3=>?_)
 replace s3:Heap.SameBut it g2 g3:=s3
 replace e3:IsItemIter g3 it d (i+ 1) es.size ep en.key ov:=e3
 refine wpAny_bind (wpAny_setField_rec e3 (by simp) fun g4 e4 s4=>?_)
 replace s4:Heap.SameBut it g3 g4:=s4
 replace e4:IsItemIter g4 it d (i+ 1) es.size ep en.key en.val:=e4
 refine wpAny_bind (wpAny_setField_rec e4 (by simp) fun g5 e5 s5=>?_)
 replace s5:Heap.SameBut it g4 g5:=s5
 replace e5:IsItemIterOut g5 it d (i+ 1) es.size ep en.key en.val hp.objs.size:=e5
 refine wpAny_bind (wpAny_setField_rec e5 (by simp) fun g6 e6 s6=>?_)
 replace s6:Heap.SameBut it g5 g6:=s6
 replace e6:IsItemIterOut g6 it d (i+ 1) es.size ep en.key en.val hp.objs.size:=e6
 have k6:∀ b o,b≠it->g2.get? b=some o->g6.get? b=some o:=fun b o hb e=>s6.extBut b o hb (s5.extBut b o hb (s4.extBut b o hb (s3.extBut b o hb e)))
 exact wpAny_bind (wpAny_letGo (wpAny_pure (wpAny_pure ⟨_,rfl,wpAny_pure (hQ g6 e6 (k6 _ _ (Nat.ne_of_gt il) t2) fun b o hb e=>k6 b o hb (k2 b o hb e))⟩)))
theorem fin {it:Addr}{i:Nat}{ok ov:Value}{Q:Option Value->Shared->Prop}(hh:A.handled=none)(hit:IsItemIter s.heap it d i es.size ep ok ov)(hm:RawD s.heap d es ep)(hx:es[i]?=none)
 (hQ:∀ g,Heap.ExtBut it s.heap g->Q none { s with heap:=g }):wpAny (model prog w) A (pyNext (.ref it)) Q E s:=by
 obtain⟨od,hod,hcd,hdd⟩:=id hm
 have hT:s.TypeIs (.ref it) "dict_itemiterator":=⟨_,hit,rfl⟩
 unfold pyNext
 refine wpAny_bind (wpAny_attempt (wpAny_callSpecial?_slot (name:=Str.ofString "__next__") hT F.slot_dict_itemiterator_next (wpAny_call_entry F.slot_dict_itemiterator_next hT F.entry_dict_itemiterator_next ?_ (F.args_dict_itemiterator_next_1 _))))
 refine wpAny_bind (wpAny_pure (wpAny_bind (wpAny_bind ?_)))
 first | (refine wpAny_bind (wpAny_typeNameOfWhole_itemiter hT (wpAny_pure ?_));skip) | (refine wpAny_bind (wpAny_typeNameOf_itemiter hT (wpAny_pure ?_));skip)
 refine wpAny_bind (wpAny_fieldsOf hit rfl ?_);have own:Builtin.Dict_items.ownsTuple "dict_itemiterator"=true:=by decide
 simp only[own,if_true];show wpAny _ _ (if (Value.ref d==Value.none)=true then _ else _) _ _ s
 rw[if_neg (show ¬ ((Value.ref d==Value.none)=true) by intro z;cases z)];refine wpAny_bind (wpAny_pure (wpAny_bind (wpAny_dictEntries hod hdd ?_)))
 rw[if_neg (by simp)];refine wpAny_bind (wpAny_pure (wpAny_bind (wpAny_dictEpoch hod hdd ?_)))
 rw[if_neg (by simp)];refine wpAny_pure ?_
 simp only[show ¬ ((i:Int) < 0) by omega,if_false,Int.toNat_natCast,hx];refine wpAny_bind ?_
 first | (refine wpAny_bind (wpAny_typeNameOfWhole_itemiter hT (wpAny_pure ?_));skip) | (refine wpAny_bind (wpAny_typeNameOf_itemiter hT (wpAny_pure ?_));skip)
 show wpAny _ _ (setField (.ref it) 2 .none >>=_) _ _ s;refine wpAny_bind (wpAny_setField hit rfl (by simp) ?_)
 show wpAny _ _ (newExc (.type "StopIteration") [] >>=_) _ _ _;refine wpAny_bind ?_;simp only[newExc,newTuple]
 refine wpAny_bind (wpAny_newObj_type ?_ (by size_fits));refine wpAny_bind (m:=firstArgMember _ _) (wpAny_of_eq (a:=Value.none) (by first | rfl | (simp only[firstArgMember];rfl)) ?_)
 refine wpAny_newObj_type ?_ (by size_fits);simp only[raiseNew]
 refine wpAny_bind (wpAny_handled ?_);rw[show A.in1.handled=none from hh];refine wpAny_bind (wpAny_pure (wpAny_throw ?_))
 refine wpAny_bind (wpAny_isInstance (T:="StopIteration") (b:=true) ⟨_,Heap.get?_push_size _ rfl,rfl⟩ isSubtype_stop ?_);exact wpAny_pure (hQ _ (((Heap.SameBut.update ..).extBut.push _).push _))
end
end Di
theorem paired_at {α β:Type}{R:α->β->Prop}:∀{xs:List α} {ys:List β},Paired R xs ys->∀{i:Nat} {x:α} {y:β},xs[i]?=some x->ys[i]?=some y->R x y
 | [],_,h,i,x,y,h1,_=>by simp at h1
 | k :: kvs,_,h,i,x,y,h1,h2=>by
   cases h with
   | cons h0 ht=>
     cases i with
     | zero=>rw[← Option.some.inj h1,← Option.some.inj h2];exact h0
     | succ i=>exact paired_at ht h1 h2
def ItdI (d:Addr)(o:Obj)(kvs:List (List Key×V)):It:=
 ⟨fun i H=>i < kvs.length/\H d=some (.frz o (.dT kvs)),fun i H x H'=>∃ p kp kv,kvs[i]?=some kv/\H p=none/\H kp=some (.tup (kv.1.map kV))/\x=.ref p/\H'=upd H p (.tup [.ref kp,kv.2]),fun i H=>kvs.length<=i/\H d=some (.frz o (.dT kvs))⟩
theorem turn_dI {P:Program}{w:World}{K:PySem.W.Frag}{elts:List Expr}{x1:Nat}{tp:Pos}(d it:Addr)(o:Obj)(es:Array DictEntry)(ep:Nat)(kvs:List (List Key×V))(ho:o.data=.dict es ep):
 Turn P w K (.Tuple elts x1 tp) (ItdI d o kvs) [it] it (fun i h=>∃ ok ov,IsItemIter h it d i es.size ep ok ov) where
 mem:=by simp
 obj:=fun i h st b hb=>by
  have e:b=it:=by simpa using hb
  subst e
  obtain⟨ok,ov,e⟩:=st
  exact⟨_,e,fun v z=>by cases z⟩
 keep:=fun i h h' ⟨ok,ov,e⟩ k=>⟨ok,ov,k it (by simp) _ e⟩
 item:=by
  intro X hP hw hK hc i pins s σ H E I hf st hg
  subst hP hw hK
  obtain⟨ok,ov,hit⟩:=st
  obtain⟨hi,hd⟩:=hg
  obtain⟨hgo,-,hsm,ys,kt,o2,es2,ep2,h1,h2,h3,h4,h5⟩:=I.hok d _ hd
  rw[hgo] at h1
  obtain rfl:=Option.some.inj h1
  rw[ho] at h3
  injection h3 with e1 e2
  subst e1 e2
  have hyl:kvs.length=ys.length:=Paired.length kt
  have hy:ys[i]?=some (ys[i]'(by omega)):=List.getElem?_eq_getElem (by omega)
  generalize ys[i]'(by omega)=y at hy
  have hen:es[i]?=some (entryOfKey (tupleKind (mixKind X.prog X.w)) y):=by rw[entry_at h4,hy];rfl
  have hkv:kvs[i]?=some (kvs[i]'hi):=List.getElem?_eq_getElem hi
  generalize kvs[i]'hi=kv at hkv
  have hk:kv.1=y.1/\H y.2.1=some (.tup (kv.1.map kV))/\RelV kv.2 y.2.2:=paired_at kt hkv hy
  have il:it < s.heap.objs.size:=Heap.lt_size hit
  refine Di.item hit ⟨_,hgo,h2,ho⟩ hen fun g ho' hT hkk=>⟨_,rfl,wpAny_letOwnedTupleGo_items ho' fun g2 he' sb=>?_⟩
  have hT2:g2.get? s.heap.objs.size=some { cls:=.type "tuple",data:=.seq #[.ref y.2.1,y.2.2] }:=(sb.2 _ (Nat.ne_of_gt il)).trans hT
  have hk2:∀ b ob,b∉[it]->s.heap.get? b=some ob->g2.get? b=some ob:=fun b ob hb q=>by
   have h1:b≠it:=fun z=>hb (by simp[z])
   exact(sb.2 b h1).trans (hkk b ob h1 q)
  have hfr:=I.hok.fresh (Nat.le_refl s.heap.objs.size)
  refine⟨.ref s.heap.objs.size,_,I.turnLaid (fp:=[it]) (a:=s.heap.objs.size) (o:=.tup [.ref y.2.1,kv.2]) (h':=g2) (t':=s.toks) hk2 hf (Nat.le_refl _) ?_,rfl,⟨_,y.2.1,kv,hkv,hfr,hk.2.1,rfl,rfl⟩,⟨_,_,he'⟩,fun b hb=>?_⟩
  ·exact⟨by show 2<=sizeLine;decide,[.ref y.2.1,y.2.2],.cons rfl (.cons hk.2.2 .nil),_,hT2,rfl,_,rfl⟩
  ·rw[List.mem_singleton.mp hb,upd_ne (Nat.ne_of_lt il)]
   exact(hf it (by simp)).1
 done:=by
  intro X hP hw hK hc i pins s σ H E I hf st hg
  subst hP hw hK
  obtain⟨ok,ov,hit⟩:=st
  obtain⟨hi,hd⟩:=hg
  obtain⟨hgo,-,hsm,ys,kt,o2,es2,ep2,h1,h2,h3,h4,h5⟩:=I.hok d _ hd
  rw[hgo] at h1
  obtain rfl:=Option.some.inj h1
  rw[ho] at h3
  injection h3 with e1 e2
  subst e1 e2
  have hyl:kvs.length=ys.length:=Paired.length kt
  have hsz:es.size=ys.length:=size_of_entries h4
  exact Di.fin (I.ok.hd hc) hit ⟨_,hgo,h2,ho⟩ (Array.getElem?_eq_none (by omega)) fun g eb=>⟨rfl,I.turnedL (fp:=[it]) (t':=s.toks) (fun b ob hb q=>eb b ob (fun z=>hb (by simp[z])) q) hf⟩
 self:=fun A i s Q E ⟨ok,ov,hit⟩ h=>PySem.W.kcp_self hit h
section
variable {X:Cx}
def iDI (tl:TE):TI:=fun σ H R=>tl σ H fun x H1=>∃ d kvs,x=.ref d/\H1 d=some (.dT kvs)/\∀ o,R (ItdI d o kvs) (upd H1 d (.frz o (.dT kvs)))
theorem pi_dI {l:Expr}{tl:TE}{elts:List Expr}{x1:Nat}{tp apos cpos:Pos}(hl:PE X l tl)(hbase:attributeBase l "items" X.env (eval l X.env)=eval l X.env:=by rfl)(hline:(apos.endLine==cpos.line)=true:=by rfl):
 PI X (.Tuple elts x1 tp) (.Call (.Attribute l "items" apos) [] [] cpos) (iDI tl):=by
 intro pins s σ H R I h
 refine wpAny_Call_method0_late hbase hline (thn (hl pins s σ H _ I h) fun u s1 ⟨x,H1,I1,rx,d,kvs,ex,hd,q⟩=>?_)
 subst ex
 cases rx
 obtain⟨-,hsm,ys,kt,o,es,ep,h1,h2,h3,h4,h5⟩:=I1.hok d _ hd
 have hraw:RawD s1.heap d es ep:=⟨o,h1,h2,h3⟩
 have isd:IsD H1 d:=.inr ⟨kvs,.inl hd⟩
 obtain⟨t1,t2,_⟩:=isD_at I1 isd
 refine⟨"dict","dict.items",PySem.F.plainAttrs_dict,PySem.F.slot_dict_items,PySem.F.type_dict_items,t1,t2,Calls.callWith_builtin rfl (PySem.evalArgs_none ?_)⟩
 refine call_meetsIn PySem.F.slot_dict_items t1 PySem.F.entry_dict_items (PySem.F.args_dict_items_1 _) (Di.meets d hsm) ⟨⟨es,ep,hraw⟩,?_⟩
 have hv:(s1.heap.push { cls:=.type "dict_items",data:=.fields #[.ref d] }).IsItemsView s1.heap.objs.size d:=⟨_,Heap.get?_push_size _ rfl,rfl,rfl⟩
 have hraw2:RawD (s1.heap.push { cls:=.type "dict_items",data:=.fields #[.ref d] }) d es ep:=⟨o,Heap.get?_push_of_some _ h1,h2,h3⟩
 refine Di.iter (s:={ s1 with heap:=s1.heap.push { cls:=.type "dict_items",data:=.fields #[.ref d] } }) hv hraw2 ?_
 have I2:=(I1.freeze hd True.intro h1).kept (h':=(s1.heap.push { cls:=.type "dict_items",data:=.fields #[.ref d] }).push { cls:=.type "dict_itemiterator",data:=.fields #[.none,.bool false,.ref d,.int 0 0,.int es.size 0,.int ep 0,.none,.none] }) (t':=s1.toks) fun b o e=>Heap.get?_push_of_some _ (Heap.get?_push_of_some _ e)
 have hge:s1.heap.objs.size<=(s1.heap.push { cls:=.type "dict_items",data:=.fields #[.ref d] }).objs.size:=by rw[Heap.size_push];omega
 have T:=turn_dI (P:=X.prog) (w:=X.w) (K:=X.K) (elts:=elts) (x1:=x1) (tp:=tp) d (s1.heap.push { cls:=.type "dict_items",data:=.fields #[.ref d] }).objs.size o es ep kvs h3
 refine⟨_,_,_,_,_,rfl,I2,T,⟨_,_,Heap.get?_push_size _ rfl⟩,fun b hb=>?_,q o⟩
 rw[List.mem_singleton.mp hb]
 have hfr:=I1.hok.fresh hge
 exact I1.fpOk hge (by rw[upd_ne (fun z=>by rw[z,hd] at hfr;cases hfr)];exact hfr)
end
theorem for_dI {d:Addr}{o:Obj}{kvs:List (List Key×V)}{g:TG}{tb:TS}{D:Ends}{σ:St}{H:Hp}(Pv:Nat->St->Hp->Prop)(h0:Pv 0 σ H)(hl:∀ i σ H,i<=kvs.length->Pv i σ H->H d=some (.frz o (.dT kvs)))
 (hs:∀ i kv σ H p kp,kvs[i]?=some kv->H p=none->H kp=some (.tup (kv.1.map kV))->Pv i σ H->g (.ref p) σ (upd H p (.tup [.ref kp,kv.2])) fun σ2 H2=>tb { D with nx:=Pv (i+ 1),ct:=Pv (i+ 1),bk:=D.nx } σ2 H2) (hd:∀ σ H,Pv kvs.length σ H->D.nx σ H):
 ∃ W:Nat->Nat->St->Hp->Prop,(∃ m,W 0 m σ H)/\∀ i m σ H,W i m σ H->
   ((ItdI d o kvs).stop i H/\D.nx σ H)\/((ItdI d o kvs).go i H/\∃ N:St->Hp->Prop,(∀ σ' H',N σ' H'->∃ m',m' < m/\W (i+ 1) m' σ' H')/\∀ x H',(ItdI d o kvs).yld i H x H'->g x σ H' fun σ2 H2=>tb { D with nx:=N,ct:=N,bk:=D.nx } σ2 H2):=by
 refine⟨fun i m σ H=>m=kvs.length - i/\i<=kvs.length/\Pv i σ H,⟨kvs.length,by simp,Nat.zero_le _,h0⟩,?_⟩
 rintro i m σ H ⟨rfl,hi,p⟩
 have q:=hl i σ H hi p
 by_cases hlt:i < kvs.length
 ·refine .inr ⟨⟨hlt,q⟩,Pv (i+ 1),fun σ' H' p'=>⟨kvs.length - (i+ 1),by omega,rfl,hlt,p'⟩,fun x H' y=>?_⟩
  obtain⟨p2,kp,kv,h1,h2,h3,rfl,rfl⟩:=y
  exact hs i kv σ _ p2 kp h1 h2 h3 p
 ·have e:i=kvs.length:=by omega
  subst e
  exact .inl ⟨⟨Nat.le_refl _,q⟩,hd σ H p⟩
end L2
set_option Elab.async false
set_option linter.all false
set_option maxRecDepth 100000
set_option maxHeartbeats 4000000
namespace L2
open PySem PySem.Spec PyProof.Rows
theorem nd_range:∀(n:Nat) (l:List Int) (lo:Int),l.Nodup->(∀ x∈l,lo<=x/\x < lo+ n)->l.length<=n
 | 0,[],_,_,_=>Nat.le_refl _
 | 0,x :: l,lo,_,h=>by have:=h x (List.mem_cons_self ..);omega
 | n+ 1,l,lo,hn,h=>by
   by_cases hm:lo+ n∈l
   ·have h1:=nd_range n (l.erase (lo+ n)) lo (hn.erase _) fun x hx=>by
     have h2:=(hn.mem_erase_iff.mp hx)
     have h3:=h x h2.2
     have h4:x≠lo+ n:=h2.1
     omega
    rw[List.length_erase_of_mem hm] at h1
    omega
   ·have h1:=nd_range n l lo hn fun x hx=>by
     have h3:=h x hx
     have h4:x≠lo+ n:=fun z=>hm (by rw[← z];exact hx)
     omega
    omega
section
variable {κ:Type} [DecidableEq κ]
theorem valV_drop (kvs:List (κ×V))(k j:κ):valV (dropK kvs k) j=if j=k then none else valV kvs j:=by
 unfold dropK
 induction kvs with
 | nil=>rw[List.filter_nil];split <;> rfl
 | cons p r ih=>
   by_cases hp:p.1=k
   ·rw[List.filter_cons_of_neg (by simp[hp]),ih]
    by_cases hj:j=k
    ·rw[if_pos hj,if_pos hj]
    ·rw[if_neg hj,if_neg hj,valV_neg (fun z=>hj (z.symm.trans hp))]
   ·rw[List.filter_cons_of_pos (by simp[hp])]
    by_cases hj:p.1=j
    ·rw[valV_pos hj,if_neg (fun z=>hp (hj.trans z)),valV_pos hj]
    ·rw[valV_neg hj,ih]
     by_cases hk:j=k
     ·rw[if_pos hk,if_pos hk]
     ·rw[if_neg hk,if_neg hk,valV_neg hj]
theorem put_keys (kvs:List (κ×V))(k:κ)(v:V):(putK kvs k v).map (·.1)=if k∈kvs.map (·.1) then kvs.map (·.1) else kvs.map (·.1)++[k]:=by
 unfold putK
 by_cases h:(kvs.any fun kv=>decide (kv.1=k))=true
 ·have hm:k∈kvs.map (·.1):=by
   obtain⟨kv,h1,h2⟩:=List.any_eq_true.mp h
   exact List.mem_map.mpr ⟨kv,h1,of_decide_eq_true h2⟩
  rw[if_pos h,if_pos hm,List.map_map]
  refine List.map_congr_left fun kv _=>?_
  show (if kv.1=k then (kv.1,v) else kv).1=kv.1
  split <;> rfl
 ·have hm:k∉kvs.map (·.1):=fun z=>by
   obtain⟨kv,h1,h2⟩:=List.mem_map.mp z
   exact h (List.any_eq_true.mpr ⟨kv,h1,decide_eq_true h2⟩)
  rw[if_neg h,if_neg hm,List.map_append]
  rfl
theorem put_nd {kvs:List (κ×V)}(k:κ)(v:V)(h:(kvs.map (·.1)).Nodup):((putK kvs k v).map (·.1)).Nodup:=by
 rw[put_keys]
 split
 ·exact h
 ·rename_i hk
  refine List.nodup_append.mpr ⟨h,by simp,fun x hx y hy z=>?_⟩
  rw[List.mem_singleton.mp hy] at z
  exact hk (by rw[← z];exact hx)
theorem drop_nd {kvs:List (κ×V)}(k:κ)(h:(kvs.map (·.1)).Nodup):((dropK kvs k).map (·.1)).Nodup:=by
 unfold dropK
 exact List.Nodup.sublist ((List.filter_sublist).map _) h
theorem valV_mem {kvs:List (κ×V)}(h:(kvs.map (·.1)).Nodup){kv:κ×V}(hm:kv∈kvs):valV kvs kv.1=some kv.2:=by
 induction kvs with
 | nil=>cases hm
 | cons p r ih=>
   rw[List.map_cons,List.nodup_cons] at h
   rcases List.mem_cons.mp hm with e | hm
   ·rw[e];exact valV_pos rfl
   ·rw[valV_neg (fun z=>h.1 (by rw[z];exact List.mem_map_of_mem hm))]
    exact ih h.2 hm
theorem mem_valV {kvs:List (κ×V)}{k:κ}{v:V}(h:valV kvs k=some v):(k,v)∈kvs:=by
 unfold valV at h
 cases e:kvs.find? fun kv=>decide (kv.1=k) with
 | none=>rw[e] at h;cases h
 | some kv=>
   rw[e] at h
   have h1:=List.find?_some e
   have h2:=List.mem_of_find?_eq_some e
   have h3:kv.1=k:=of_decide_eq_true h1
   have h4:kv.2=v:=Option.some.inj h
   rw[← h3,← h4]
   exact h2
end
def DI (H:Hp)(d:Addr)(f:Int->Option V):Prop:=∃ kvs:List (Key×V),H d=some (.dK kvs)/\(kvs.map (·.1)).Nodup/\(∀ kv∈kvs,∃ i:Int,kv.1=Sum.inl i)/\∀ i:Int,valV kvs (Sum.inl i)=f i
theorem DI.at {H H':Hp}{d:Addr}{f:Int->Option V}(h:DI H d f)(k:∀ o,H d=some o->H' d=some o):DI H' d f:=by
 obtain⟨kvs,h1,h2⟩:=h
 exact⟨kvs,k _ h1,h2⟩
theorem DI.congr {H:Hp}{d:Addr}{f g:Int->Option V}(h:DI H d f)(e:∀ i,f i=g i):DI H d g:=by
 obtain⟨kvs,h1,h2,h3,h4⟩:=h
 exact⟨kvs,h1,h2,h3,fun i=>(h4 i).trans (e i)⟩
theorem di_put {H:Hp}{d:Addr}{kvs:List (Key×V)}{f:Int->Option V}(h2:(kvs.map (·.1)).Nodup)(h3:∀ kv∈kvs,∃ i:Int,kv.1=Sum.inl i)(h4:∀ i:Int,valV kvs (Sum.inl i)=f i)(i:Int)(v:V):DI (upd H d (.dK (putK kvs (Sum.inl i) v))) d (fun j=>if j=i then some v else f j):=by
 refine⟨_,upd_same,put_nd _ _ h2,fun kv hkv=>?_,fun j=>?_⟩
 ·have:kv.1∈(putK kvs (Sum.inl i) v).map (·.1):=List.mem_map_of_mem hkv
  rw[put_keys] at this
  split at this
  ·obtain⟨q,hq,e⟩:=List.mem_map.mp this
   rw[← e];exact h3 q hq
  ·rcases List.mem_append.mp this with z | z
   ·obtain⟨q,hq,e⟩:=List.mem_map.mp z
    rw[← e];exact h3 q hq
   ·exact⟨i,List.mem_singleton.mp z⟩
 ·rw[valV_put]
  dsimp only
  by_cases e:j=i
  ·rw[if_pos e,if_pos (by rw[e])]
  ·rw[if_neg e,if_neg (fun z=>e (Sum.inl.inj z)),h4]
theorem di_drop {H:Hp}{d:Addr}{kvs:List (Key×V)}{f:Int->Option V}(h2:(kvs.map (·.1)).Nodup)(h3:∀ kv∈kvs,∃ i:Int,kv.1=Sum.inl i)(h4:∀ i:Int,valV kvs (Sum.inl i)=f i)(i:Int):DI (upd H d (.dK (dropK kvs (Sum.inl i)))) d (fun j=>if j=i then none else f j):=by
 refine⟨_,upd_same,drop_nd _ h2,fun kv hkv=>h3 kv ((List.mem_filter.mp hkv).1),fun j=>?_⟩
 rw[valV_drop]
 dsimp only
 by_cases e:j=i
 ·rw[if_pos e,if_pos (by rw[e])]
 ·rw[if_neg e,if_neg (fun z=>e (Sum.inl.inj z)),h4]
theorem di_len {kvs:List (Key×V)}{f:Int->Option V}(h2:(kvs.map (·.1)).Nodup)(h3:∀ kv∈kvs,∃ i:Int,kv.1=Sum.inl i)(h4:∀ i:Int,valV kvs (Sum.inl i)=f i){n:Nat}{lo:Int}(hb:∀ i v,f i=some v->lo<=i/\i < lo+ n):kvs.length<=n:=by
 have h:=nd_range n (kvs.map fun kv=>match kv.1 with | Sum.inl i=>i | Sum.inr _=>0) lo ?_ fun x hx=>?_
 ·rw[List.length_map] at h;exact h
 ·have e:kvs.map (·.1)=(kvs.map fun kv=>match kv.1 with | Sum.inl i=>i | Sum.inr _=>(0:Int)).map Sum.inl:=by
   rw[List.map_map]
   refine List.map_congr_left fun kv hkv=>?_
   obtain⟨i,hi⟩:=h3 kv hkv
   show kv.1=Sum.inl (match kv.1 with | Sum.inl i=>i | Sum.inr _=>(0:Int))
   rw[hi]
  rw[e] at h2
  exact List.Pairwise.imp (fun{a b} q z=>q (congrArg Sum.inl z)) (List.pairwise_map.mp h2)
 ·obtain⟨kv,hkv,rfl⟩:=List.mem_map.mp hx
  obtain⟨i,hi⟩:=h3 kv hkv
  have h5:=valV_mem h2 hkv
  rw[hi,h4] at h5
  show lo<=(match kv.1 with | Sum.inl i=>i | Sum.inr _=>(0:Int))/\(match kv.1 with | Sum.inl i=>i | Sum.inr _=>(0:Int)) < lo+ n
  rw[hi]
  exact hb i _ h5
abbrev Rel3:=Int->Int->Int->Bool
structure KAt (H:Hp) (k:Addr) (D:Int->Option Addr) (E:Int->Int->Option Addr) (S:Rel3):Prop where
 top:DI H k fun c=>(D c).map V.ref
 row:∀ c d,D c=some d->DI H d fun s=>(E c s).map V.ref
 cel:∀ c s e,E c s=some e->DI H e fun o=>if S c s o=true then some (.bl true) else none
 ed:∀ c s e,E c s=some e->∃ d,D c=some d
 se:∀ c s o,S c s o=true->∃ e,E c s=some e
 nd:∀ c d,D c=some d->d≠k
 ne:∀ c s e,E c s=some e->e≠k
 dd:∀ c c' d,D c=some d->D c'=some d->c=c'
 de:∀ c c' s d,D c=some d->E c' s=some d->False
 ee:∀ c s c' s' e,E c s=some e->E c' s'=some e->c=c'/\s=s'
def Kown (k:Addr)(D:Int->Option Addr)(E:Int->Int->Option Addr)(b:Addr):Prop:=b=k\/(∃ c,D c=some b)\/∃ c s,E c s=some b
section
variable {H H':Hp} {k:Addr} {D:Int->Option Addr} {E:Int->Int->Option Addr} {S:Rel3}
theorem KAt.keep (h:KAt H k D E S)(f:∀ b o,Kown k D E b->H b=some o->H' b=some o):KAt H' k D E S:=
 ⟨h.top.at fun o e=>f _ _ (.inl rfl) e,fun c d e=>(h.row c d e).at fun o q=>f _ _ (.inr (.inl ⟨c,e⟩)) q,fun c s e q=>(h.cel c s e q).at fun o r=>f _ _ (.inr (.inr ⟨c,s,q⟩)) r,h.ed,h.se,h.nd,h.ne,h.dd,h.de,h.ee⟩
theorem KAt.same (h:KAt H k D E S)(s:Same H H'):KAt H' k D E S:=h.keep fun b o _ e=>s b o e
theorem KAt.there (h:KAt H k D E S){b:Addr}(hb:Kown k D E b):∃ kvs,H b=some (.dK kvs):=by
 rcases hb with rfl | ⟨c,e⟩ | ⟨c,s,e⟩
 ·obtain⟨kvs,q,_⟩:=h.top;exact⟨kvs,q⟩
 ·obtain⟨kvs,q,_⟩:=h.row c b e;exact⟨kvs,q⟩
 ·obtain⟨kvs,q,_⟩:=h.cel c s b e;exact⟨kvs,q⟩
theorem KAt.congr (h:KAt H k D E S){D':Int->Option Addr}{E':Int->Int->Option Addr}{S':Rel3}(e1:∀ c,D c=D' c)(e2:∀ c s,E c s=E' c s)(e3:∀ c s o,S c s o=S' c s o):KAt H k D' E' S':=by
 obtain rfl:D=D':=funext e1
 obtain rfl:E=E':=funext fun c=>funext (e2 c)
 obtain rfl:S=S':=funext fun c=>funext fun s=>funext (e3 c s)
 exact h
theorem KAt.topL (h:KAt H k D E S):∃ kvs:List (Key×V),H k=some (.dK kvs)/\(kvs.map (·.1)).Nodup/\(∀ kv∈kvs,∃ i:Int,kv.1=Sum.inl i)/\∀ i:Int,valV kvs (Sum.inl i)=(D i).map V.ref:=h.top
theorem KAt.rowL (h:KAt H k D E S){c:Int}{d:Addr}(hd:D c=some d):∃ kvs:List (Key×V),H d=some (.dK kvs)/\(kvs.map (·.1)).Nodup/\(∀ kv∈kvs,∃ i:Int,kv.1=Sum.inl i)/\∀ i:Int,valV kvs (Sum.inl i)=(E c i).map V.ref:=h.row c d hd
theorem KAt.celL (h:KAt H k D E S){c s:Int}{e:Addr}(he:E c s=some e):∃ kvs:List (Key×V),H e=some (.dK kvs)/\(kvs.map (·.1)).Nodup/\(∀ kv∈kvs,∃ i:Int,kv.1=Sum.inl i)/\∀ i:Int,valV kvs (Sum.inl i)=if S c s i=true then some (.bl true) else none:=h.cel c s e he
theorem KAt.addCell (h:KAt H k D E S){c s:Int}{d e:Addr}(hd:D c=some d)(he:E c s=none){kvs:List (Key×V)}(hk:H d=some (.dK kvs))(hn:H e=some (.dK []))(nw:¬ Kown k D E e):
 KAt (upd H d (.dK (putK kvs (Sum.inl s) (.ref e)))) k D (fun c' s'=>if c'=c/\s'=s then some e else E c' s') S:=by
 have ned:e≠d:=fun z=>nw (.inr (.inl ⟨c,by rw[z];exact hd⟩))
 obtain⟨kvs',q1,q2,q3,q4⟩:=h.row c d hd
 rw[hk] at q1
 obtain rfl:kvs=kvs':=by injection q1 with q1;injection q1
 refine⟨h.top.at fun o q=>?_,fun c' d' hd'=>?_,fun c' s' e' he'=>?_,fun c' s' e' he'=>?_,fun c' s' o ho=>?_,h.nd,fun c' s' e' he'=>?_,h.dd,fun c' c2 s' d' hd' he'=>?_,fun c' s' c2 s2 e' h1 h2=>?_⟩
 ·rw[upd_ne (h.nd c d hd).symm];exact q
 ·by_cases ec:c'=c
  ·subst ec
   have:d'=d:=by rw[hd] at hd';exact(Option.some.inj hd').symm
   subst this
   refine(di_put q2 q3 q4 s (.ref e)).congr fun s'=>?_
   by_cases es:s'=s
   ·rw[if_pos es,if_pos ⟨rfl,es⟩];rfl
   ·rw[if_neg es,if_neg (fun z=>es z.2)]
  ·have nd':d'≠d:=fun z=>ec (h.dd _ _ _ hd' (by rw[z];exact hd))
   refine((h.row c' d' hd').at fun o q=>by rw[upd_ne nd'];exact q).congr fun s'=>?_
   rw[if_neg (fun z=>ec z.1)]
 ·by_cases ec:c'=c/\s'=s
  ·rw[if_pos ec] at he'
   obtain rfl:=Option.some.inj he'
   obtain⟨rfl,rfl⟩:=ec
   refine⟨[],by rw[upd_ne ned];exact hn,by simp,(fun kv hkv=>by cases hkv),fun o=>?_⟩
   cases q:S c' s' o with
   | true=>obtain⟨e',z⟩:=h.se _ _ _ q;rw[he] at z;cases z
   | false=>dsimp only;rw[q];rfl
  ·rw[if_neg ec] at he'
   exact(h.cel c' s' e' he').at fun o q=>by rw[upd_ne (fun z=>h.de c c' s' d hd (by rw[← z];exact he'))];exact q
 ·by_cases ec:c'=c/\s'=s
  ·exact⟨d,by rw[ec.1];exact hd⟩
  ·rw[if_neg ec] at he';exact h.ed _ _ _ he'
 ·by_cases ec:c'=c/\s'=s
  ·exact⟨e,if_pos ec⟩
  ·obtain⟨e',z⟩:=h.se _ _ _ ho;exact⟨e',by rw[if_neg ec];exact z⟩
 ·by_cases ec:c'=c/\s'=s
  ·rw[if_pos ec] at he'
   obtain rfl:=Option.some.inj he'
   exact fun z=>nw (.inl z)
  ·rw[if_neg ec] at he';exact h.ne _ _ _ he'
 ·by_cases ec:c2=c/\s'=s
  ·rw[if_pos ec] at he'
   obtain rfl:=Option.some.inj he'
   exact nw (.inr (.inl ⟨c',hd'⟩))
  ·rw[if_neg ec] at he';exact h.de _ _ _ _ hd' he'
 ·by_cases e1:c'=c/\s'=s
  ·rw[if_pos e1] at h1
   obtain rfl:=Option.some.inj h1
   by_cases e2:c2=c/\s2=s
   ·exact⟨e1.1.trans e2.1.symm,e1.2.trans e2.2.symm⟩
   ·rw[if_neg e2] at h2
    exact(nw (.inr (.inr ⟨c2,s2,h2⟩))).elim
  ·rw[if_neg e1] at h1
   by_cases e2:c2=c/\s2=s
   ·rw[if_pos e2] at h2
    obtain rfl:=Option.some.inj h2
    exact(nw (.inr (.inr ⟨c',s',h1⟩))).elim
   ·rw[if_neg e2] at h2
    exact h.ee _ _ _ _ _ h1 h2
theorem KAt.setCell (h:KAt H k D E S){c s:Int}{e:Addr}(he:E c s=some e){u:HO}{g:Int->Bool}(hg:DI (upd H e u) e fun o=>if g o=true then some (.bl true) else none):
 KAt (upd H e u) k D E (fun c' s' o=>if c'=c/\s'=s then g o else S c' s' o):=by
 refine⟨h.top.at fun o q=>?_,fun c' d' hd'=>(h.row c' d' hd').at fun o q=>?_,fun c' s' e' he'=>?_,h.ed,fun c' s' o ho=>?_,h.nd,h.ne,h.dd,h.de,h.ee⟩
 ·rw[upd_ne (h.ne _ _ _ he).symm];exact q
 ·rw[upd_ne (fun z=>h.de _ _ _ _ hd' (by rw[z];exact he))];exact q
 ·by_cases ec:c'=c/\s'=s
  ·obtain⟨rfl,rfl⟩:=ec
   rw[he] at he'
   obtain rfl:=Option.some.inj he'
   refine hg.congr fun o=>?_
   simp
  ·refine((h.cel c' s' e' he').at fun o q=>?_).congr fun o=>by rw[if_neg ec]
   rw[upd_ne (fun z=>ec (h.ee _ _ _ _ _ he' (by rw[z];exact he)))];exact q
 ·by_cases ec:c'=c/\s'=s
  ·exact⟨e,by rw[ec.1,ec.2];exact he⟩
  ·rw[if_neg ec] at ho;exact h.se _ _ _ ho
theorem KAt.addMem (h:KAt H k D E S){c s:Int}{e:Addr}(he:E c s=some e){kvs:List (Key×V)}(hk:H e=some (.dK kvs))(o:Int):
 KAt (upd H e (.dK (putK kvs (Sum.inl o) (.bl true)))) k D E (fun c' s' o'=>S c' s' o' || (decide (c'=c) && decide (s'=s) && decide (o'=o))):=by
 obtain⟨kvs',q1,q2,q3,q4⟩:=h.cel c s e he
 rw[hk] at q1
 obtain rfl:kvs=kvs':=by injection q1 with q1;injection q1
 refine(h.setCell (g:=fun o'=>S c s o' || decide (o'=o)) he ((di_put q2 q3 q4 o (.bl true)).congr fun o'=>?_)).congr (fun _=>rfl) (fun _ _=>rfl) fun c' s' o'=>?_
 ·by_cases e1:o'=o
  ·rw[if_pos e1];simp[e1]
  ·rw[if_neg e1];simp[e1]
 ·by_cases ec:c'=c/\s'=s
  ·obtain⟨rfl,rfl⟩:=ec;simp
  ·rw[if_neg ec]
   have:(decide (c'=c) && decide (s'=s))=false:=by
    rw[Bool.and_eq_false_iff,decide_eq_false_iff_not,decide_eq_false_iff_not]
    by_cases e1:c'=c
    ·exact .inr fun z=>ec ⟨e1,z⟩
    ·exact .inl e1
   rw[this];simp
theorem KAt.dropMem (h:KAt H k D E S){c s:Int}{e:Addr}(he:E c s=some e){kvs:List (Key×V)}(hk:H e=some (.dK kvs))(o:Int):
 KAt (upd H e (.dK (dropK kvs (Sum.inl o)))) k D E (fun c' s' o'=>S c' s' o' && !(decide (c'=c) && decide (s'=s) && decide (o'=o))):=by
 obtain⟨kvs',q1,q2,q3,q4⟩:=h.cel c s e he
 rw[hk] at q1
 obtain rfl:kvs=kvs':=by injection q1 with q1;injection q1
 refine(h.setCell (g:=fun o'=>S c s o' && !decide (o'=o)) he ((di_drop q2 q3 q4 o).congr fun o'=>?_)).congr (fun _=>rfl) (fun _ _=>rfl) fun c' s' o'=>?_
 ·by_cases e1:o'=o
  ·rw[if_pos e1];simp[e1]
  ·rw[if_neg e1];simp[e1]
 ·by_cases ec:c'=c/\s'=s
  ·obtain⟨rfl,rfl⟩:=ec;simp
  ·rw[if_neg ec]
   have:(decide (c'=c) && decide (s'=s))=false:=by
    rw[Bool.and_eq_false_iff,decide_eq_false_iff_not,decide_eq_false_iff_not]
    by_cases e1:c'=c
    ·exact .inr fun z=>ec ⟨e1,z⟩
    ·exact .inl e1
   rw[this];simp
theorem KAt.addRoom (h:KAt H k D E S){n:Int}{d:Addr}(hd:D n=none){kvs:List (Key×V)}(hk:H k=some (.dK kvs))(hn:H d=some (.dK []))(nw:¬ Kown k D E d):
 KAt (upd H k (.dK (putK kvs (Sum.inl n) (.ref d)))) k (fun c=>if c=n then some d else D c) E S:=by
 obtain⟨kvs',q1,q2,q3,q4⟩:=h.top
 rw[hk] at q1
 obtain rfl:kvs=kvs':=by injection q1 with q1;injection q1
 have ndk:d≠k:=fun z=>nw (.inl z)
 have en:∀ s,E n s=none:=fun s=>by
  cases q:E n s with
  | none=>rfl
  | some e=>obtain⟨d',z⟩:=h.ed _ _ _ q;rw[hd] at z;cases z
 refine⟨(di_put q2 q3 q4 n (.ref d)).congr fun c=>?_,fun c d' hd'=>?_,fun c s e he=>(h.cel c s e he).at fun o q=>?_,fun c s e he=>?_,h.se,fun c d' hd'=>?_,h.ne,fun c c' d' h1 h2=>?_,fun c c' s d' h1 h2=>?_,h.ee⟩
 ·by_cases e:c=n
  ·rw[if_pos e,if_pos e];rfl
  ·rw[if_neg e,if_neg e]
 ·by_cases e:c=n
  ·rw[if_pos e] at hd'
   obtain rfl:=Option.some.inj hd'
   subst e
   refine⟨[],by rw[upd_ne ndk];exact hn,by simp,(fun kv hkv=>by cases hkv),fun s=>?_⟩
   dsimp only;rw[en s];rfl
  ·rw[if_neg e] at hd'
   exact(h.row c d' hd').at fun o q=>by rw[upd_ne (h.nd _ _ hd')];exact q
 ·rw[upd_ne (h.ne _ _ _ he)];exact q
 ·obtain⟨d',z⟩:=h.ed _ _ _ he
  by_cases e:c=n
  ·exact⟨d,if_pos e⟩
  ·exact⟨d',by rw[if_neg e];exact z⟩
 ·by_cases e:c=n
  ·rw[if_pos e] at hd';obtain rfl:=Option.some.inj hd';exact ndk
  ·rw[if_neg e] at hd';exact h.nd _ _ hd'
 ·by_cases e1:c=n
  ·rw[if_pos e1] at h1
   obtain rfl:=Option.some.inj h1
   by_cases e2:c'=n
   ·rw[e1,e2]
   ·rw[if_neg e2] at h2;exact(nw (.inr (.inl ⟨_,h2⟩))).elim
  ·rw[if_neg e1] at h1
   by_cases e2:c'=n
   ·rw[if_pos e2] at h2;obtain rfl:=Option.some.inj h2;exact(nw (.inr (.inl ⟨_,h1⟩))).elim
   ·rw[if_neg e2] at h2;exact h.dd _ _ _ h1 h2
 ·by_cases e1:c=n
  ·rw[if_pos e1] at h1;obtain rfl:=Option.some.inj h1;exact nw (.inr (.inr ⟨_,_,h2⟩))
  ·rw[if_neg e1] at h1;exact h.de _ _ _ _ h1 h2
theorem KAt.dropRoom (h:KAt H k D E S)(m:Int){kvs:List (Key×V)}(hk:H k=some (.dK kvs)):
 KAt (upd H k (.dK (dropK kvs (Sum.inl m)))) k (fun c=>if c=m then none else D c) (fun c s=>if c=m then none else E c s) (fun c s o=>S c s o && !decide (c=m)):=by
 obtain⟨kvs',q1,q2,q3,q4⟩:=h.top
 rw[hk] at q1
 obtain rfl:kvs=kvs':=by injection q1 with q1;injection q1
 have un:∀{c:Int} {x y:Option Addr} {z:Addr},(if c=m then x else y)=some z->x=none->c≠m/\y=some z:=fun{c x y z} q hx=>by
  by_cases e:c=m
  ·rw[if_pos e,hx] at q;cases q
  ·rw[if_neg e] at q;exact⟨e,q⟩
 refine⟨(di_drop q2 q3 q4 m).congr fun c=>?_,fun c d hd=>?_,fun c s e he=>?_,fun c s e he=>?_,fun c s o ho=>?_,fun c d hd=>?_,fun c s e he=>?_,fun c c' d h1 h2=>?_,fun c c' s d h1 h2=>?_,fun c s c' s' e h1 h2=>?_⟩
 ·by_cases e:c=m
  ·rw[if_pos e,if_pos e];rfl
  ·rw[if_neg e,if_neg e]
 ·obtain⟨nc,hd⟩:=un hd rfl
  refine((h.row c d hd).at fun o q=>by rw[upd_ne (h.nd _ _ hd)];exact q).congr fun s=>?_
  rw[if_neg nc]
 ·obtain⟨nc,he⟩:=un he rfl
  refine((h.cel c s e he).at fun o q=>by rw[upd_ne (h.ne _ _ _ he)];exact q).congr fun o=>?_
  simp[nc]
 ·obtain⟨nc,he⟩:=un he rfl
  obtain⟨d,z⟩:=h.ed _ _ _ he
  exact⟨d,by rw[if_neg nc];exact z⟩
 ·rw[Bool.and_eq_true] at ho
  obtain⟨e,z⟩:=h.se _ _ _ ho.1
  have nc:c≠m:=by simpa using ho.2
  exact⟨e,by rw[if_neg nc];exact z⟩
 ·exact h.nd _ _ (un hd rfl).2
 ·exact h.ne _ _ _ (un he rfl).2
 ·exact h.dd _ _ _ (un h1 rfl).2 (un h2 rfl).2
 ·exact h.de _ _ _ _ (un h1 rfl).2 (un h2 rfl).2
 ·exact h.ee _ _ _ _ _ (un h1 rfl).2 (un h2 rfl).2
end
end L2
set_option Elab.async false
set_option linter.all false
set_option maxRecDepth 100000
set_option maxHeartbeats 4000000
namespace L2
open PySem PySem.Spec PyProof.Rows
namespace Et
section
variable {prog:Program} {w:World} {A:Around} {E:Value->Shared->Prop} {s:Shared}
theorem item {it t:Addr}{i:Nat}{items:Array Value}{x:Value}{Q:Value->Shared->Prop}(hit:s.heap.IsTupleIter it t i)(ht:s.heap.IsTuple t items)(hx:items[i]?=some x)
 (hQ:∀ g,g.IsTupleIter it t (i+ 1)->Heap.SameBut it s.heap g->Q x { s with heap:=g }):wpAny (model prog w) A (Builtin.SmallTypes.nextOf (.ref it)) Q E s:=by
 obtain⟨o,ho,hc,hd⟩:=id hit;obtain⟨ol,hol,_,nl,hdl⟩:=ht;unfold Builtin.SmallTypes.nextOf
 refine wpAny_bind (wpAny_callSpecial?_slot (name:=Str.ofString "__next__") hit.typeIs F.slot_tuple_iterator_next (wpAny_call_entry F.slot_tuple_iterator_next hit.typeIs F.entry_tuple_iterator_next ?_ (F.args_tuple_iterator_next_1 _)))
 show wpAny _ _ (field (.ref it) 0 >>=_) _ _ s;refine wpAny_bind (wpAny_field ho hd (x:=.ref t) rfl ?_)
 show wpAny _ _ (if (Value.ref t==Value.none)=true then _ else _) _ _ s;rw[if_neg (show ¬ ((Value.ref t==Value.none)=true) by intro z;cases z)]
 show wpAny _ _ (field (.ref it) 1 >>=_) _ _ s;refine wpAny_bind (wpAny_field ho hd (x:=.int i 0) rfl ?_)
 show wpAny _ _ (seqItems? (.ref t) >>=_) _ _ s;refine wpAny_bind (wpAny_seqItems hol hdl ?_);simp only[Int.toNat_natCast,hx]
 exact wpAny_bind (wpAny_setField ho hd (by simp) (wpAny_pure ⟨x,rfl,wpAny_pure (hQ _ ⟨_,Heap.get?_update_self _ ho (Obj.isFreed_of_fields (Obj.data_mapFields hd _)),(Obj.cls_mapFields ..).trans hc,by rw[Obj.data_mapFields hd];simp[rawInt]⟩ (Heap.SameBut.update ..))⟩))
theorem fin {it t:Addr}{i:Nat}{items:Array Value}{Q:Value->Shared->Prop}(hh:A.handled=none)(hit:s.heap.IsTupleIter it t i)(ht:s.heap.IsTuple t items)(hx:items[i]?=none)
 (hE:∀ g e,Heap.ExtBut it s.heap g->(∃ o,g.get? e=some o/\o.cls=.type "StopIteration")->E (.ref e) { s with heap:=g }):wpAny (model prog w) A (Builtin.SmallTypes.nextOf (.ref it)) Q E s:=by
 obtain⟨o,ho,hc,hd⟩:=id hit;obtain⟨ol,hol,_,nl,hdl⟩:=ht;unfold Builtin.SmallTypes.nextOf
 refine wpAny_bind (wpAny_callSpecial?_slot (name:=Str.ofString "__next__") hit.typeIs F.slot_tuple_iterator_next (wpAny_call_entry F.slot_tuple_iterator_next hit.typeIs F.entry_tuple_iterator_next ?_ (F.args_tuple_iterator_next_1 _)))
 show wpAny _ _ (field (.ref it) 0 >>=_) _ _ s;refine wpAny_bind (wpAny_field ho hd (x:=.ref t) rfl ?_)
 show wpAny _ _ (if (Value.ref t==Value.none)=true then _ else _) _ _ s;rw[if_neg (show ¬ ((Value.ref t==Value.none)=true) by intro z;cases z)]
 show wpAny _ _ (field (.ref it) 1 >>=_) _ _ s;refine wpAny_bind (wpAny_field ho hd (x:=.int i 0) rfl ?_)
 show wpAny _ _ (seqItems? (.ref t) >>=_) _ _ s;refine wpAny_bind (wpAny_seqItems hol hdl ?_);simp only[Int.toNat_natCast,hx]
 refine wpAny_bind (wpAny_rule (wpAny_bind (wpAny_setField ho hd (by simp) ?_)));show wpAny _ _ (newExc (.type "StopIteration") [] >>=_) _ _ _
 refine wpAny_bind ?_;simp only[newExc,newTuple];refine wpAny_bind (wpAny_newObj_type ?_ (by size_fits))
 refine wpAny_bind (m:=firstArgMember _ _) (wpAny_of_eq (a:=Value.none) (by first | rfl | (simp only[firstArgMember];rfl)) ?_);refine wpAny_newObj_type ?_ (by size_fits)
 simp only[raiseNew];refine wpAny_bind (wpAny_handled ?_);first | rw[show A.in1.handled=none from hh] | rw[hh]
 refine wpAny_bind (wpAny_pure (wpAny_throw ?_));exact hE _ _ (((Heap.SameBut.update ..).extBut.push _).push _) ⟨_,Heap.get?_push_size _ rfl,rfl⟩
theorem draws (hh:A.handled=none)(it l:Addr)(hne:l≠it)(items:Array Value):Draws prog w A it [it,l] items.size (fun i v=>items[i]?=some v) (fun i h=>h.IsTupleIter it l i/\h.IsTuple l items) where
 live:=fun _ _ st=>let ⟨o,ho,_⟩:=st.1;⟨o,ho⟩
 frame:=fun _ _ _ st hk=>⟨st.1.at fun o e=>hk it (by simp) o e,by obtain⟨o,ho,r⟩:=st.2;exact⟨o,hk l (by simp) o ho,r⟩⟩
 item:=fun i s Q E hi st hQ=>by
  refine item st.1 st.2 (x:=items[i]) (by simp[hi]) fun g hg sb=>?_
  exact hQ _ g s.toks (by simp[hi]) ⟨hg,st.2.extBut sb.extBut hne⟩ sb
 done:=fun s Q E st hE=>fin hh st.1 st.2 (by simp) hE
end
theorem meets (l:Addr)(items:Array Value)(n:Nat)(dct:Option Addr)(sl:Array (Option Value)):
 Meets (Builtin.«enumerate.__new__» ⟨[.type "enumerate",.ref l],[]⟩) (fun _ R s=>s.heap.get? l=some { cls:=.type "tuple",dict:=dct,data:=.seq items n,slots:=sl }/\
  R (.ok (.ret (.ref (s.heap.push { cls:=.type "tuple_iterator",data:=.fields #[.ref l,.int 0 0] }).objs.size)))
    { s with heap:=(s.heap.push { cls:=.type "tuple_iterator",data:=.fields #[.ref l,.int 0 0] }).push { cls:=.type "enumerate",data:=.fields #[.none,.bool false,.ref s.heap.objs.size,rawInt 0,.none,.none] } }):=
 .of_wp fun prog w A R s h=>by
  obtain⟨hp,g,d,tk,os⟩:=s;obtain⟨hl,h⟩:=h;have hsub:=sub_enumerate
  have hL:Heap.IsTuple (Shared.heap ⟨hp,g,d,tk,os⟩) l items:=⟨_,hl,rfl,n,rfl⟩
  wp_walk using wpAny_loadPart' hl;refine wpAny_stack_any fun st=>wpAny_pure ?_
  split
  ·rename_i c _ _ _ _ _
   cases (c==Value.type "enumerate") <;> (wp_walk using wpAny_loadPart' hl,wpAny_pyIter_tuple hL;exact⟨_,rfl,h⟩)
  ·wp_walk using wpAny_loadPart' hl,wpAny_pyIter_tuple hL;exact⟨_,rfl,h⟩
theorem call {prog:Program}{w:World}{A:Around}{E:Value->Shared->Prop}{s:Shared}{l:Addr}{items:Array Value}{Q:Value->Shared->Prop}(hL:s.heap.IsTuple l items)
 (h:∀ g,IsEnum g (s.heap.objs.size+ 1) s.heap.objs.size 0 .none->g.IsTupleIter s.heap.objs.size l 0->g.objs.size=s.heap.objs.size+ 2->(∀ b o,s.heap.get? b=some o->g.get? b=some o)->Q (.ref (s.heap.objs.size+ 1)) { s with heap:=g }):
 wpAny (model prog w) A (call (.type "enumerate") [.ref l]) Q E s:=by
 obtain⟨⟨c,dct,dt,sl⟩,hl,hc,n,hd⟩:=hL;replace hc:c=.type "tuple":=hc;replace hd:dt=.seq items n:=hd;subst hc hd
 refine callType_new F.called_enumerate (by decide) (F.typeCall_enumerate_1 _) (F.newCall_enumerate_1 _) (fun obj=>F.args_object_init_2 obj _) F.entry_enumerate_new (meets l items n dct sl) ⟨hl,?_⟩
 have hz:(s.heap.push { cls:=.type "tuple_iterator",data:=.fields #[.ref l,.int 0 0] }).objs.size=s.heap.objs.size+ 1:=Heap.size_push ..
 show _/\_
 rw[hz]
 have he:IsEnum ((s.heap.push { cls:=.type "tuple_iterator",data:=.fields #[.ref l,.int 0 0] }).push { cls:=.type "enumerate",data:=.fields #[.none,.bool false,.ref s.heap.objs.size,rawInt 0,.none,.none] }) (s.heap.objs.size+ 1) s.heap.objs.size 0 .none:=by
  have:=Heap.get?_push_size (s.heap.push { cls:=.type "tuple_iterator",data:=.fields #[.ref l,.int 0 0] }) (o:={ cls:=.type "enumerate",data:=.fields #[.none,.bool false,.ref s.heap.objs.size,rawInt 0,.none,.none] }) rfl
  rw[hz] at this;exact this
 exact⟨⟨_,he,rfl⟩,h _ he ⟨_,Heap.get?_push_of_some _ (Heap.get?_push_size _ rfl),rfl,rfl⟩ (by rw[Heap.size_push,hz]) fun b o x=>Heap.get?_push_of_some _ (Heap.get?_push_of_some _ x)⟩
end Et
def Itet (K:PySem.W.Frag)(a:Addr):It:=
 ⟨fun i H=>∃ xs x,SqT K H a xs/\xs[i]?=some x,fun i H x H'=>∃ p v,H p=none/\(∀ ys,SqT K H a ys->ys[i]?=some v)/\x=.ref p/\H'=upd H p (.tup [.int (i:Int),v]),fun i H=>∃ xs,SqT K H a xs/\xs.length=i⟩
theorem turn_enumT {P:Program}{w:World}{K:PySem.W.Frag}{elts:List Expr}{x1:Nat}{tp:Pos}(e it a:Addr)(hei:e≠it):
 Turn P w K (.Tuple elts x1 tp) (Itet K a) [e,it] e (fun i h=>(∃ old,IsEnum h e it (i:Int) old)/\h.IsTupleIter it a i) where
 mem:=by simp
 obj:=fun i h st b hb=>by
  obtain⟨⟨old,he⟩,o,ho,hc,hd⟩:=st
  rcases List.mem_cons.mp hb with rfl | hb
  ·exact⟨_,he,fun v z=>by cases z⟩
  ·rw[List.mem_singleton.mp hb]
   exact⟨o,ho,fun v z=>by rw[hd] at z;cases z⟩
 keep:=fun i h h' st k=>by
  obtain⟨⟨old,he⟩,hl⟩:=st
  exact⟨⟨old,k e (by simp) _ he⟩,hl.at fun o e=>k it (by simp) o e⟩
 item:=by
  intro X hP hw hK hc i pins s σ H E I hf st hg
  subst hP hw hK
  obtain⟨⟨old,he⟩,hst⟩:=st
  obtain⟨xs,x,hq,hx⟩:=hg
  obtain⟨its,rv,p,hz⟩:=I.tuple hq
  obtain⟨u,hu,ru⟩:=rv.get hx
  have hit:s.heap.IsTuple a its.toArray:=p
  obtain⟨o1,ho1,hc1,hd1⟩:=id hit
  obtain⟨o2,ho2,hc2,hd2⟩:=id hst
  have hai:a≠it:=ne_cls ho1 ho2 (by rw[hc1,hc2];decide)
  have hea:e≠a:=ne_cls he ho1 (by rw[hc1];show Value.type "enumerate"≠Value.type "tuple";decide)
  have D:=Et.draws (prog:=X.prog) (w:=X.w) (A:=X.A.in1) (I.ok.hd hc) it a hai its.toArray
  have hel:e < s.heap.objs.size:=Heap.lt_size he
  have hil:i < its.length:=(List.getElem?_eq_some_iff.mp hu).1
  refine En.next_pair D he ⟨hst,hit⟩ (by simpa using hil) hei (by simp[hei,hea]) fun y h' tk hPx ho hs' hT hk=>?_
  have ey:u=y:=by
   have h2:its[i]?=some y:=by simpa using hPx
   exact Option.some.inj (hu.symm.trans h2)
  subst ey
  refine⟨_,rfl,?_⟩
  refine wpAny_letOwnedTupleGo_enum ho fun h'' he' hs''=>?_
  have hT2:h''.get? s.heap.objs.size=some { cls:=.type "tuple",data:=.seq #[.int (i:Int) tk,u] }:=(hs''.2 _ (Nat.ne_of_gt hel)).trans hT
  have hkk:∀ b ob,b∉[e,it]->s.heap.get? b=some ob->h''.get? b=some ob:=fun b ob hb q=>by
   have h1:b≠e:=fun z=>hb (by simp[z])
   have h2:b≠it:=fun z=>hb (by simp[z])
   exact(hs''.2 b h1).trans (hk b ob h1 h2 q)
  have hfr:=I.hok.fresh (Nat.le_refl s.heap.objs.size)
  refine⟨.ref s.heap.objs.size,_,I.turnLaid (fp:=[e,it]) (a:=s.heap.objs.size) (o:=.tup [.int (i:Int),x]) (h':=h'') (t':=tk+ 1) hkk hf (Nat.le_refl _) ?_,rfl,⟨_,x,hfr,fun ys hy=>by rw[I.tuple_inj hy hq];exact hx,rfl,rfl⟩,⟨⟨u,?_⟩,?_⟩,fun b hb=>?_⟩
  ·exact⟨by show 2<=sizeLine;decide,[.int (i:Int) tk,u],.cons ⟨_,rfl⟩ (.cons ru .nil),_,hT2,rfl,_,rfl⟩
  ·rw[show ((i+ 1:Nat):Int)=(i:Int)+ 1 by omega]
   exact he'
  ·exact(D.frame _ _ _ hs' fun b hb o q=>(hs''.2 b (by
    rcases List.mem_cons.mp hb with z | hb
    ·rw[z];exact Ne.symm hei
    ·rw[List.mem_singleton.mp hb];exact Ne.symm hea)).trans q).1
  ·rw[upd_ne]
   ·exact(hf b hb).1
   ·intro z
    subst z
    rcases List.mem_cons.mp hb with z | hb
    ·exact absurd hel (by rw[← z];exact Nat.lt_irrefl _)
    ·exact absurd (Heap.lt_size ho2) (by rw[← List.mem_singleton.mp hb];exact Nat.lt_irrefl _)
 done:=by
  intro X hP hw hK hc i pins s σ H E I hf st hg
  subst hP hw hK
  obtain⟨⟨old,he⟩,hst⟩:=st
  obtain⟨xs,hq,hx⟩:=hg
  obtain⟨its,rv,p,hz⟩:=I.tuple hq
  have hit:s.heap.IsTuple a its.toArray:=p
  obtain⟨o1,ho1,hc1,hd1⟩:=id hit
  obtain⟨o2,ho2,hc2,hd2⟩:=id hst
  have hai:a≠it:=ne_cls ho1 ho2 (by rw[hc1,hc2];decide)
  have D:=Et.draws (prog:=X.prog) (w:=X.w) (A:=X.A.in1) (I.ok.hd hc) it a hai its.toArray
  have hsz:its.toArray.size=i:=by rw[List.size_toArray,← rv.length];exact hx
  refine wpAny_pyNext_enum_endD D he (by rw[hsz];exact⟨hst,hit⟩) fun h' eb=>⟨rfl,I.turnedL (fp:=[e,it]) (t':=s.toks) (fun b o hb q=>eb b o (fun z=>hb (by simp[z])) q) hf⟩
 self:=fun A i s Q E st h=>by
  obtain⟨⟨old,he⟩,_⟩:=st
  have hT:s.TypeIs (.ref e) "enumerate":=⟨_,he,rfl⟩
  refine wpAny_pyIter_slot hT F.slot_enumerate_iter (wpAny_call_entry F.slot_enumerate_iter hT F.entry_enumerate_iter ?_ (F.args_enumerate_iter_1 _))
  show wpAny _ _ (ret (.ref e)) _ _ s
  exact wpAny_pure ⟨_,rfl,"enumerate",_,hT,F.slot_enumerate_next.lookup,h⟩
section
variable {X:Cx}
def iEnumT (K:PySem.W.Frag)(ta:TA):TI:=fun σ H R=>ta σ H fun vs H1=>∃ a,vs=[.ref a]/\(∃ xs,SqT K H1 a xs)/\R (Itet K a) H1
theorem pi_enumT {a:Expr}{te:TE}{elts:List Expr}{x1:Nat}{tp p pos:Pos}(hg:Gl X "enumerate")(hm:X.mg "enumerate"=none)(he:PE X a te)(hs:starEach [a] X.env=[(false,eval a X.env)]:=by rfl):
 PI X (.Tuple elts x1 tp) (.Call (.Name "enumerate" p) [a] [] pos) (iEnumT X.K (tCons te tNil)):=by
 intro pins s σ H R I h
 refine Call_ (ld_blt I hg hm boot_enumerate (PyProof.Rows.callWith_type1 (thn ((pa_cons he pa_nil hs) pos pins s σ H _ I h) fun us s1 ⟨vs,H1,I1,r1,q1⟩=>?_) hs rfl))
 obtain⟨l,rfl,⟨xs,hq⟩,q⟩:=q1
 obtain⟨u,rfl,ru⟩:=vals1 r1
 cases ru
 obtain⟨its,rv,pl,hz⟩:=I1.tuple hq
 refine Et.call (show s1.heap.IsTuple l its.toArray from pl) fun h' he' hit hsz hk=>?_
 have I3:Inv X pins σ H1 { s1 with heap:=h' }:=I1.kept (t':=s1.toks) hk
 have T:=turn_enumT (P:=X.prog) (w:=X.w) (K:=X.K) (elts:=elts) (x1:=x1) (tp:=tp) (s1.heap.objs.size+ 1) s1.heap.objs.size l (Nat.succ_ne_self _)
 refine T.self _ 0 { s1 with heap:=h' } _ _ ⟨⟨_,he'⟩,hit⟩ ⟨_,_,_,_,H1,rfl,I3,T,⟨⟨_,he'⟩,hit⟩,fun b hb=>?_,q⟩
 rcases List.mem_cons.mp hb with e | hb
 ·subst e
  exact I1.fpOk (Nat.le_succ _) (I1.hok.fresh (Nat.le_succ _))
 ·rw[List.mem_singleton.mp hb]
  exact I1.fpOk (Nat.le_refl _) (I1.hok.fresh (Nat.le_refl _))
end
theorem for_enumT {K:PySem.W.Frag}{a:Addr}{xs:List V}{g:TG}{tb:TS}{D:Ends}{σ:St}{H:Hp}(Pv:Nat->St->Hp->Prop)(h0:Pv 0 σ H)(hl:∀ i σ H,i<=xs.length->Pv i σ H->SqT K H a xs)
 (hs:∀ i v σ H p,xs[i]?=some v->H p=none->Pv i σ H->g (.ref p) σ (upd H p (.tup [.int (i:Int),v])) fun σ2 H2=>tb { D with nx:=Pv (i+ 1),ct:=Pv (i+ 1),bk:=D.nx } σ2 H2) (hd:∀ σ H,Pv xs.length σ H->D.nx σ H):
 ∃ W:Nat->Nat->St->Hp->Prop,(∃ m,W 0 m σ H)/\∀ i m σ H,W i m σ H->
   ((Itet K a).stop i H/\D.nx σ H)\/((Itet K a).go i H/\∃ N:St->Hp->Prop,(∀ σ' H',N σ' H'->∃ m',m' < m/\W (i+ 1) m' σ' H')/\∀ x H',(Itet K a).yld i H x H'->g x σ H' fun σ2 H2=>tb { D with nx:=N,ct:=N,bk:=D.nx } σ2 H2):=by
 refine⟨fun i m σ H=>m=xs.length - i/\i<=xs.length/\Pv i σ H,⟨xs.length,by simp,Nat.zero_le _,h0⟩,?_⟩
 rintro i m σ H ⟨rfl,hi,p⟩
 have q:=hl i σ H hi p
 by_cases hlt:i < xs.length
 ·refine .inr ⟨⟨xs,_,q,List.getElem?_eq_getElem hlt⟩,Pv (i+ 1),fun σ' H' p'=>⟨xs.length - (i+ 1),by omega,rfl,hlt,p'⟩,fun x H' y=>?_⟩
  obtain⟨r,v,hr,hv,rfl,rfl⟩:=y
  exact hs i v σ H r (hv xs q) hr p
 ·have e:i=xs.length:=by omega
  subst e
  exact .inl ⟨⟨xs,q,rfl⟩,hd σ H p⟩
end L2
set_option Elab.async false
set_option linter.all false
set_option maxRecDepth 100000
set_option maxHeartbeats 4000000
namespace HT
open PySem PySem.Spec PyProof.Rows L2
section
variable {prog:Program} {w:World} {A:Around} {E:Value->Shared->Prop} {s:Shared}
theorem sliceApplied_revTo {sl:Addr}{t t2:Tok}{n a:Nat}(ha:a < n){Q:Int×Int×Nat->Shared->Prop}(hs:s.heap.IsSliceOf sl .none (.int a t2) (.int (-1) t))
 (h:Q ((n:Int) - 1,-1,n - (a+ 1)) s):wpAny (model prog w) A (Builtin.Slice.sliceApplied (.ref sl) (pure (n:Int))) Q E s:=by
 obtain⟨os,hos,hcs,hds⟩:=id hs
 unfold Builtin.Slice.sliceApplied Builtin.Slice.sliceFields
 refine wpAny_bind (wpAny_bind (wpAny_field hos hds (x:=.none) rfl (wpAny_bind (wpAny_field hos hds (x:=.int a t2) rfl (wpAny_bind (wpAny_field hos hds (x:=.int (-1) t) rfl (wpAny_pure ?_)))))))
 refine wpAny_bind (slicePart_int ?_)
 show wpAny _ _ (if ((-1:Int)==0)=true then _ else _) _ _ s
 rw[if_neg (by decide)]
 refine wpAny_bind (slicePart_none (wpAny_bind (slicePart_int (wpAny_bind (wpAny_pure ?_)))))
 show wpAny _ _ (match Builtin.Slice.sliceAdjust none (some (a:Int)) (-1) (n:Int) with | (lo,hi)=>pure (lo,(-1:Int),Builtin.Slice.slicePlaces lo hi (-1))) _ _ s
 have e1:Builtin.Slice.sliceAdjust none (some (a:Int)) (-1) (n:Int)=((n:Int) - 1,(a:Int)):=by
  unfold Builtin.Slice.sliceAdjust
  simp only[show ((-1:Int) < 0)=True from by simp,if_true]
  rw[if_neg (by omega),Int.min_eq_left (by omega)]
 rw[e1]
 show wpAny _ _ (pure ((n:Int) - 1,(-1:Int),Builtin.Slice.slicePlaces ((n:Int) - 1) (a:Int) (-1))) _ _ s
 have e2:Builtin.Slice.slicePlaces ((n:Int) - 1) (a:Int) (-1)=n - (a+ 1):=by
  unfold Builtin.Slice.slicePlaces
  rw[if_neg (by decide)]
  by_cases q:(n:Int) - 1 > a
  ·rw[if_pos q]
   simp
   omega
  ·rw[if_neg q]
   omega
 rw[e2]
 exact wpAny_pure h
theorem pick_revTo (xs:List Value)(a:Nat):((List.range (xs.length - (a+ 1))).filterMap fun(m:Nat)=>xs.toArray[((xs.length:Int) - 1+ (m:Int)* (-1)).toNat]?).toArray=(xs.drop (a+ 1)).reverse.toArray:=by
 congr 1
 refine List.ext_getElem? fun i=>?_
 have e:(List.range (xs.length - (a+ 1))).filterMap (fun(m:Nat)=>xs.toArray[((xs.length:Int) - 1+ (m:Int)* (-1)).toNat]?)=(List.range (xs.length - (a+ 1))).map fun m=>xs.getD (xs.length - 1 - m) .none:=by
  have:∀ l:List Nat,(∀ m∈l,m < xs.length)->l.filterMap (fun(m:Nat)=>xs.toArray[((xs.length:Int) - 1+ (m:Int)* (-1)).toNat]?)=l.map fun m=>xs.getD (xs.length - 1 - m) .none:=by
   intro l
   induction l with
   | nil=>intro _;rfl
   | cons m l ih=>
     intro hl
     have hm:=hl m (List.mem_cons_self ..)
     have e1:((xs.length:Int) - 1+ (m:Int)* (-1)).toNat=xs.length - 1 - m:=by omega
     have e2:xs.toArray[((xs.length:Int) - 1+ (m:Int)* (-1)).toNat]?=some (xs.getD (xs.length - 1 - m) .none):=by
      rw[e1,List.getElem?_toArray,List.getD_eq_getElem?_getD,List.getElem?_eq_getElem (by omega)]
      rfl
     rw[List.filterMap_cons,e2,List.map_cons,ih fun k hk=>hl k (List.mem_cons_of_mem _ hk)]
  exact this _ fun m hm=>by have:=List.mem_range.mp hm;omega
 rw[e,List.getElem?_map]
 by_cases hi:i < xs.length - (a+ 1)
 ·rw[List.getElem?_reverse (by rw[List.length_drop];exact hi),List.getElem?_range hi,List.getElem?_drop,List.length_drop]
  rw[show a+ 1+ (xs.length - (a+ 1) - 1 - i)=xs.length - 1 - i by omega,List.getElem?_eq_getElem (by omega)]
  simp[List.getD_eq_getElem?_getD,List.getElem?_eq_getElem (show xs.length - 1 - i < xs.length by omega)]
 ·rw[List.getElem?_eq_none (by simp;omega),List.getElem?_eq_none (by simp;omega)]
  rfl
theorem getItem_tuple_revTo {t sl:Addr}{its:List Value}{tk t2:Tok}{a:Nat}(ha:a < its.length){Q:Value->Shared->Prop}(ht:IsTup s.heap t its.toArray)(hs:s.heap.IsSliceOf sl .none (.int a t2) (.int (-1) tk))
 (h:Q (.ref s.heap.objs.size) { s with heap:=s.heap.push { cls:=.type "tuple",data:=.seq (its.drop (a+ 1)).reverse.toArray } })
 (hsz:its.length<=sizeLine):wpAny (model prog w) A (getItem (.ref t) (.ref sl)) Q E s:=by
 have htake:sizeOk (.seq (its.drop (a+ 1)).reverse.toArray):=by
  show (its.drop (a+ 1)).reverse.toArray.size<=sizeLine
  rw[List.size_toArray,List.length_reverse,List.length_drop]
  omega
 obtain⟨os,hos,hcs,hds⟩:=id hs
 have hTs:s.TypeIs (.ref sl) "slice":=⟨os,hos,hcs⟩
 unfold getItem
 try with_reducible refine wpAny_holding ?_
 first | refine wpAny_bind (wpAny_pure ?_) | skip
 refine wpAny_bind (wpAny_sequenceKey ht.typeIs (by decide) ?_)
 refine wpAny_bind (wpAny_callSpecial?_slot (name:=Str.ofString "__getitem__") ht.typeIs PyProof.Rows.slot_tuple_getitem
  (wpAny_call_entry PyProof.Rows.slot_tuple_getitem ht.typeIs entry_tuple_getitem ?_ (args_tuple_getitem _ _)))
 show wpAny _ _ (Builtin.Tuple.tupleItemsOf (.ref t) >>=_) _ _ s
 refine wpAny_bind (tupleItemsOf_ ht ?_)
 refine wpAny_bind (wpAny_typeOf hTs ?_)
 rw[if_pos (by decide)]
 refine wpAny_bind (sliceApplied_revTo (n:=its.toArray.size) (a:=a) (by rw[List.size_toArray];exact ha) hs ?_)
 have hno:¬ ((((its.toArray.size:Int) - 1)==0 && (-1:Int)==1 && (its.toArray.size - (a+ 1))==its.toArray.size)=true):=by
  intro q
  rw[Bool.and_eq_true,Bool.and_eq_true] at q
  exact absurd q.1.2 (by decide)
 show wpAny _ _ (if (((its.toArray.size:Int) - 1)==0 && (-1:Int)==1 && (its.toArray.size - (a+ 1))==its.toArray.size)=true then _ else _) _ _ s
 rw[if_neg hno]
 have e:=pick_revTo its a
 rw[show its.length=its.toArray.size from rfl] at e
 rw[e]
 first
  | exact wpAny_bind (m:=Builtin.Tuple.tupleExact _) (wpAny_newObj_type (wpAny_pure ⟨_,rfl,wpAny_pure h⟩) htake)
  | exact wpAny_bind (m:=Builtin.Tuple.tupleExact _) (wpAny_newObj_type (wpAny_bind (wpAny_pure (wpAny_pure ⟨_,rfl,wpAny_pure h⟩))) htake)
  | exact wpAny_bind (wpAny_bind (m:=Builtin.Tuple.tupleExact _) (wpAny_newObj_type (wpAny_pure (wpAny_pure ⟨_,rfl,wpAny_pure h⟩)) htake))
  | exact wpAny_bind (wpAny_bind (m:=Builtin.Tuple.tupleExact _) (wpAny_newObj_type (wpAny_pure ⟨_,rfl,wpAny_pure h⟩) htake))
end
end HT
namespace L2
open PySem PySem.Spec PyProof.Rows
section
variable {X:Cx}
def rRevTo:V->Option Int->Option Int->Option Int->Hp->VK->Prop:=fun x lo hi st H Q=>∃(q:Addr) (xs:List V) (a:Nat),x=.ref q/\H q=some (.tup xs)/\lo=none/\hi=some (a:Int)/\st=some (-1)/\a < xs.length/\∀ p,H p=none->Q (.ref p) (upd H p (.tup (xs.drop (a+ 1)).reverse))
theorem vals_drop {xs:List V}{us:List Value}(r:Vals xs us):∀ n:Nat,Vals (xs.drop n) (us.drop n):=by
 intro n
 induction n generalizing xs us with
 | zero=>exact r
 | succ n ih=>
   cases r with
   | nil=>exact .nil
   | cons _ r1=>exact ih r1
theorem sl_revTo:SlR3 X rRevTo:=by
 intro pins s σ H x v vl vu vs lo hi st sl Q I rx hs pl pu pk h
 obtain⟨q0,xs,a,rfl,hx,rfl,rfl,rfl,ha,q⟩:=h
 cases rx
 cases pl
 obtain⟨tk,rfl⟩:∃ tk,vs=.int (-1) tk:=by cases pk with | int i t=>exact⟨t,rfl⟩
 obtain⟨t2,rfl⟩:∃ t2,vu=.int a t2:=by cases pu with | int i t=>exact⟨t,rfl⟩
 obtain⟨its,r,ht,hz⟩:=I.tuple (SqT.of hx)
 have hl:=r.length
 refine⟨"tuple",_,PyProof.Rows.slot_tuple_getitem.lookup,ht.typeIs,?_⟩
 refine HT.getItem_tuple_revTo (by omega) ht hs ?_ (by omega)
 refine⟨.ref s.heap.objs.size,_,I.laid (t':=s.toks) (o:=.tup (xs.drop (a+ 1)).reverse) (fun b ob q=>Heap.get?_push_of_some _ q) (Nat.le_refl _) ?_,rfl,q _ (I.hok.fresh (Nat.le_refl _))⟩
 exact⟨by rw[List.length_reverse,List.length_drop];omega,_,(vals_drop r (a+ 1)).reverse,IsTup.new _ _⟩
end
end L2
set_option Elab.async false
set_option linter.all false
set_option maxRecDepth 100000
set_option maxHeartbeats 4000000
namespace L2
open PySem PySem.Spec PyProof.Rows
section
variable {K:PySem.W.Frag} {mg:Str->Option Value} {h:Heap} {C f:Addr} {x q:Str} {st:Stmt} {ps:List Str} {oc kV doc pm cdv ct:Value} {od an:Option Addr} {osl:Array (Option Value)}
theorem Def.of (X:K.In h)(G:h.Ns mainGlobals mg)(a:PySem.W.nsIn K mainGlobals x=some (some (.ref f)))(l:K.lookup f=some ⟨oc,od,.func (PySem.W.fnOf x x (defArgs st) (defBody st) (defScope st) .none kV doc pm an cdv ct),osl⟩)(c:PySem.W.codeIn K cdv x=true)(k:PySem.W.keepIn K (.ref f)=true)
 (b:∀(kV doc pm:Value) (an:Option Addr) (cdv ct:Value) (us:List Value),us.length=ps.length->bindArgs (PySem.W.fnOf x x (defArgs st) (defBody st) (defScope st) .none kV doc pm an cdv ct) ⟨us,[]⟩=pure (ps.zip us)):Def K mg x st ps f (PySem.W.fnOf x x (defArgs st) (defBody st) (defScope st) .none kV doc pm an cdv ct):=
 have F:=fun_mk (st:=st) l c k
 ⟨F,PySem.W.mg_of X G a,F.binds (ps:=ps) b⟩
theorem MDef.of (a:PySem.W.findIn K (.ref C) x=some (some (.ref f)))(i:PySem.W.isFn K (.ref f)=true)(l:K.lookup f=some ⟨oc,od,.func (PySem.W.fnOf x q (defArgs st) (defBody st) (defScope st) .none kV doc pm an cdv ct),osl⟩)(c:PySem.W.codeIn K cdv q=true)(k:PySem.W.keepIn K (.ref f)=true)
 (b:∀(kV doc pm:Value) (an:Option Addr) (cdv ct:Value) (us:List Value),us.length=ps.length->bindArgs (PySem.W.fnOf x q (defArgs st) (defBody st) (defScope st) .none kV doc pm an cdv ct) ⟨us,[]⟩=pure (ps.zip us)):MDef K C x q st ps f (PySem.W.fnOf x q (defArgs st) (defBody st) (defScope st) .none kV doc pm an cdv ct):=
 have F:=fun_mk (st:=st) l c k
 ⟨F,⟨a,i,k⟩,F.binds (ps:=ps) b⟩
theorem Def.fd {fd:FuncData}(D:Def K mg x st ps f fd):∃(kV doc pm:Value) (an:Option Addr) (cdv ct:Value),fd=PySem.W.fnOf x x (defArgs st) (defBody st) (defScope st) .none kV doc pm an cdv ct:=by
 obtain⟨oc,od,kV,doc,pm,an,cdv,ct,osl,e,_⟩:=D.F.ex
 exact⟨kV,doc,pm,an,cdv,ct,e⟩
end
end L2
set_option Elab.async false
set_option linter.all false
set_option maxRecDepth 100000
set_option maxHeartbeats 4000000
namespace K42
open PySem L2
def top (i:Nat):Stmt:=PySem.Challenge.pw_cosetyard_k42_first_wrong_row.main.body.getD i (.Pass ⟨0,0,0,0⟩)
abbrev s_judged:Stmt:=top 1
abbrev s__law_at:Stmt:=top 4
abbrev s__law_mix:Stmt:=top 5
abbrev s__law_tell:Stmt:=top 6
abbrev s__law_met:Stmt:=top 7
abbrev s__law_word:Stmt:=top 8
abbrev s__law_walk:Stmt:=top 9
abbrev s__law_round:Stmt:=top 10
abbrev s__law_clash:Stmt:=top 11
abbrev s__law_row:Stmt:=top 12
abbrev s__law_paper:Stmt:=top 13
abbrev s__law_state:Stmt:=top 14
abbrev s__law_ruled:Stmt:=top 15
abbrev s__law_odd_new:Stmt:=top 16
abbrev s__law_odd_rule:Stmt:=top 17
abbrev s__law_odd_meet:Stmt:=top 18
abbrev s__law_odd:Stmt:=top 19
abbrev s__law_bent_number:Stmt:=top 20
abbrev s__law_bent_path:Stmt:=top 21
abbrev s__law_bent_step:Stmt:=top 22
abbrev s__law_bent:Stmt:=top 23
abbrev s__law_bent_at:Stmt:=top 24
abbrev s__law_spoiled:Stmt:=top 25
abbrev s__law_stands:Stmt:=top 26
abbrev s__law_new:Stmt:=top 27
abbrev s__law_rule:Stmt:=top 28
abbrev s__law_meet:Stmt:=top 29
abbrev s__law_due:Stmt:=top 30
abbrev s_law:Stmt:=top 31
abbrev s_Judge___init__:Stmt:=inClass (top 2) 0
abbrev s_Judge_takes:Stmt:=inClass (top 2) 1
abbrev s_Judge_takes_new:Stmt:=inClass (top 2) 2
abbrev s_Judge_takes_rule:Stmt:=inClass (top 2) 3
abbrev s_Judge_takes_meet:Stmt:=inClass (top 2) 4
abbrev s_Judge_stands:Stmt:=inClass (top 2) 5
abbrev s_Judge_fits:Stmt:=inClass (top 2) 6
abbrev s_Judge_knows:Stmt:=inClass (top 2) 7
abbrev s_Judge_learn:Stmt:=inClass (top 2) 8
abbrev s_Judge_put_in_place:Stmt:=inClass (top 2) 9
structure Adr where
 f_judged:Addr
 d_judged:FuncData
 f__law_at:Addr
 d__law_at:FuncData
 f__law_mix:Addr
 d__law_mix:FuncData
 f__law_tell:Addr
 d__law_tell:FuncData
 f__law_met:Addr
 d__law_met:FuncData
 f__law_word:Addr
 d__law_word:FuncData
 f__law_walk:Addr
 d__law_walk:FuncData
 f__law_round:Addr
 d__law_round:FuncData
 f__law_clash:Addr
 d__law_clash:FuncData
 f__law_row:Addr
 d__law_row:FuncData
 f__law_paper:Addr
 d__law_paper:FuncData
 f__law_state:Addr
 d__law_state:FuncData
 f__law_ruled:Addr
 d__law_ruled:FuncData
 f__law_odd_new:Addr
 d__law_odd_new:FuncData
 f__law_odd_rule:Addr
 d__law_odd_rule:FuncData
 f__law_odd_meet:Addr
 d__law_odd_meet:FuncData
 f__law_odd:Addr
 d__law_odd:FuncData
 f__law_bent_number:Addr
 d__law_bent_number:FuncData
 f__law_bent_path:Addr
 d__law_bent_path:FuncData
 f__law_bent_step:Addr
 d__law_bent_step:FuncData
 f__law_bent:Addr
 d__law_bent:FuncData
 f__law_bent_at:Addr
 d__law_bent_at:FuncData
 f__law_spoiled:Addr
 d__law_spoiled:FuncData
 f__law_stands:Addr
 d__law_stands:FuncData
 f__law_new:Addr
 d__law_new:FuncData
 f__law_rule:Addr
 d__law_rule:FuncData
 f__law_meet:Addr
 d__law_meet:FuncData
 f__law_due:Addr
 d__law_due:FuncData
 f_law:Addr
 d_law:FuncData
 f_Judge___init__:Addr
 d_Judge___init__:FuncData
 f_Judge_takes:Addr
 d_Judge_takes:FuncData
 f_Judge_takes_new:Addr
 d_Judge_takes_new:FuncData
 f_Judge_takes_rule:Addr
 d_Judge_takes_rule:FuncData
 f_Judge_takes_meet:Addr
 d_Judge_takes_meet:FuncData
 f_Judge_stands:Addr
 d_Judge_stands:FuncData
 f_Judge_fits:Addr
 d_Judge_fits:FuncData
 f_Judge_knows:Addr
 d_Judge_knows:FuncData
 f_Judge_learn:Addr
 d_Judge_learn:FuncData
 f_Judge_put_in_place:Addr
 d_Judge_put_in_place:FuncData
 c_Judge:Addr
structure Txt (K:PySem.W.Frag) (mg:Str->Option Value) (A:Adr):Prop where
 judged:Def K mg "judged" s_judged ["letters","rules","part","paper"] A.f_judged A.d_judged
 _law_at:Def K mg "_law_at" s__law_at ["_law_script","_law_k"] A.f__law_at A.d__law_at
 _law_mix:Def K mg "_law_mix" s__law_mix ["_law_number","_law_place"] A.f__law_mix A.d__law_mix
 _law_tell:Def K mg "_law_tell" s__law_tell ["_law_known","_law_room","_law_step","_law_other"] A.f__law_tell A.d__law_tell
 _law_met:Def K mg "_law_met" s__law_met ["_law_known","_law_less","_law_more"] A.f__law_met A.d__law_met
 _law_word:Def K mg "_law_word" s__law_word ["_law_number","_law_letters","_law_least","_law_most"] A.f__law_word A.d__law_word
 _law_walk:Def K mg "_law_walk" s__law_walk ["_law_known","_law_room","_law_word_here","_law_number"] A.f__law_walk A.d__law_walk
 _law_round:Def K mg "_law_round" s__law_round ["_law_known","_law_made","_law_which","_law_word_here","_law_room","_law_number"] A.f__law_round A.d__law_round
 _law_clash:Def K mg "_law_clash" s__law_clash ["_law_known"] A.f__law_clash A.d__law_clash
 _law_row:Def K mg "_law_row" s__law_row ["_law_known","_law_made","_law_went","_law_words","_law_many","_law_number"] A.f__law_row A.d__law_row
 _law_paper:Def K mg "_law_paper" s__law_paper ["_law_words","_law_many","_law_cells"] A.f__law_paper A.d__law_paper
 _law_state:Def K mg "_law_state" s__law_state ["_law_words","_law_paper_here"] A.f__law_state A.d__law_state
 _law_ruled:Def K mg "_law_ruled" s__law_ruled ["_law_known","_law_stand","_law_words","_law_low","_law_number"] A.f__law_ruled A.d__law_ruled
 _law_odd_new:Def K mg "_law_odd_new" s__law_odd_new ["_law_known","_law_made","_law_stand","_law_lost","_law_letters","_law_number"] A.f__law_odd_new A.d__law_odd_new
 _law_odd_rule:Def K mg "_law_odd_rule" s__law_odd_rule ["_law_row_here","_law_words","_law_stand","_law_lost","_law_number"] A.f__law_odd_rule A.d__law_odd_rule
 _law_odd_meet:Def K mg "_law_odd_meet" s__law_odd_meet ["_law_known","_law_stand","_law_number"] A.f__law_odd_meet A.d__law_odd_meet
 _law_odd:Def K mg "_law_odd" s__law_odd ["_law_words","_law_many","_law_letters","_law_paper_here","_law_number"] A.f__law_odd A.d__law_odd
 _law_bent_number:Def K mg "_law_bent_number" s__law_bent_number ["_law_old","_law_count","_law_lost","_law_number"] A.f__law_bent_number A.d__law_bent_number
 _law_bent_path:Def K mg "_law_bent_path" s__law_bent_path ["_law_row_here","_law_made","_law_lost","_law_number"] A.f__law_bent_path A.d__law_bent_path
 _law_bent_step:Def K mg "_law_bent_step" s__law_bent_step ["_law_old","_law_letters","_law_number"] A.f__law_bent_step A.d__law_bent_step
 _law_bent:Def K mg "_law_bent" s__law_bent ["_law_row_here","_law_made","_law_lost","_law_words","_law_letters","_law_number"] A.f__law_bent A.d__law_bent
 _law_bent_at:Def K mg "_law_bent_at" s__law_bent_at ["_law_paper_here","_law_place","_law_words","_law_letters","_law_number"] A.f__law_bent_at A.d__law_bent_at
 _law_spoiled:Def K mg "_law_spoiled" s__law_spoiled ["_law_paper_here","_law_words","_law_many","_law_letters","_law_number"] A.f__law_spoiled A.d__law_spoiled
 _law_stands:Def K mg "_law_stands" s__law_stands ["_law_room","_law_made","_law_went"] A.f__law_stands A.d__law_stands
 _law_new:Def K mg "_law_new" s__law_new ["_law_known","_law_made","_law_went","_law_letters","_law_row_here"] A.f__law_new A.d__law_new
 _law_rule:Def K mg "_law_rule" s__law_rule ["_law_known","_law_made","_law_went","_law_rules","_law_part","_law_row_here"] A.f__law_rule A.d__law_rule
 _law_meet:Def K mg "_law_meet" s__law_meet ["_law_known","_law_row_here"] A.f__law_meet A.d__law_meet
 _law_due:Def K mg "_law_due" s__law_due ["_law_letters","_law_rules","_law_part","_law_paper_here"] A.f__law_due A.d__law_due
 law:Def K mg "law" s_law ["_law_script"] A.f_law A.d_law
 Judge___init__:MDef K A.c_Judge "__init__" "Judge.__init__" s_Judge___init__ ["self","letters","rules","part"] A.f_Judge___init__ A.d_Judge___init__
 Judge_takes:MDef K A.c_Judge "takes" "Judge.takes" s_Judge_takes ["self","row"] A.f_Judge_takes A.d_Judge_takes
 Judge_takes_new:MDef K A.c_Judge "takes_new" "Judge.takes_new" s_Judge_takes_new ["self","room","step","number"] A.f_Judge_takes_new A.d_Judge_takes_new
 Judge_takes_rule:MDef K A.c_Judge "takes_rule" "Judge.takes_rule" s_Judge_takes_rule ["self","which","path","at"] A.f_Judge_takes_rule A.d_Judge_takes_rule
 Judge_takes_meet:MDef K A.c_Judge "takes_meet" "Judge.takes_meet" s_Judge_takes_meet ["self","room","step","less","more"] A.f_Judge_takes_meet A.d_Judge_takes_meet
 Judge_stands:MDef K A.c_Judge "stands" "Judge.stands" s_Judge_stands ["self","room"] A.f_Judge_stands A.d_Judge_stands
 Judge_fits:MDef K A.c_Judge "fits" "Judge.fits" s_Judge_fits ["self","which","path"] A.f_Judge_fits A.d_Judge_fits
 Judge_knows:MDef K A.c_Judge "knows" "Judge.knows" s_Judge_knows ["self","room","step","other"] A.f_Judge_knows A.d_Judge_knows
 Judge_learn:MDef K A.c_Judge "learn" "Judge.learn" s_Judge_learn ["self","room","step","other"] A.f_Judge_learn A.d_Judge_learn
 Judge_put_in_place:MDef K A.c_Judge "put_in_place" "Judge.put_in_place" s_Judge_put_in_place ["self","less","more"] A.f_Judge_put_in_place A.d_Judge_put_in_place
 z_abs:mg "abs"=none
 z_min:mg "min"=none
 z_max:mg "max"=none
 z_range:mg "range"=none
 z_len:mg "len"=none
 z_tuple:mg "tuple"=none
 z_list:mg "list"=none
 z_all:mg "all"=none
 z_int:mg "int"=none
 z_enumerate:mg "enumerate"=none
 z_isinstance:mg "isinstance"=none
 z_bool:mg "bool"=none
 m_Judge:mg "Judge"=some (.ref A.c_Judge)
 pg_Judge:PySem.W.plainGet K A.c_Judge Str.empty=true
 hd_Judge:PySem.W.hasDictIn K A.c_Judge=true
 po_Judge:PySem.W.plainOver K A.c_Judge=true
 sa_Judge:PySem.W.findIn K (.ref A.c_Judge) "__setattr__"=some (some (.builtin "object.__setattr__"))
 mk_Judge:PySem.W.makesIn K A.c_Judge=true
 kc_Judge:PySem.W.keepIn K (.ref A.c_Judge)=true
 n_letters:PySem.W.findIn K (.ref A.c_Judge) "letters"=some none
 n_words:PySem.W.findIn K (.ref A.c_Judge) "words"=some none
 n_common:PySem.W.findIn K (.ref A.c_Judge) "common"=some none
 n_made:PySem.W.findIn K (.ref A.c_Judge) "made"=some none
 n_known:PySem.W.findIn K (.ref A.c_Judge) "known"=some none
theorem cl_Judge {K:PySem.W.Frag}{mg:Str->Option Value}{A:Adr}(T:Txt K mg A):Cls K A.c_Judge:=⟨T.pg_Judge,T.hd_Judge,T.po_Judge,T.sa_Judge⟩
theorem mk_Judge {K:PySem.W.Frag}{mg:Str->Option Value}{A:Adr}(T:Txt K mg A):Mk K A.c_Judge A.f_Judge___init__:=⟨T.mk_Judge,T.Judge___init__.m.at_,T.Judge___init__.m.fn,T.kc_Judge⟩
theorem sc_judged:FnScope ["letters","rules","part","paper","judge","place","row"] ["letters","rules","part","paper"] (defScope s_judged):=⟨rfl,rfl,rfl,by decide +kernel,rfl,by decide +kernel,by decide +kernel⟩
theorem sc__law_at:FnScope ["_law_script","_law_k"] ["_law_script","_law_k"] (defScope s__law_at):=⟨rfl,rfl,rfl,by decide +kernel,rfl,by decide +kernel,by decide +kernel⟩
theorem sc__law_mix:FnScope ["_law_number","_law_place","_law_part"] ["_law_number","_law_place"] (defScope s__law_mix):=⟨rfl,rfl,rfl,by decide +kernel,rfl,by decide +kernel,by decide +kernel⟩
theorem sc__law_tell:FnScope ["_law_known","_law_room","_law_step","_law_other","_law_key","_law_end"] ["_law_known","_law_room","_law_step","_law_other"] (defScope s__law_tell):=⟨rfl,rfl,rfl,by decide +kernel,rfl,by decide +kernel,by decide +kernel⟩
theorem sc__law_met:FnScope ["_law_known","_law_less","_law_more","_law_found","_law_key","_law_ends","_law_end","_law_room"] ["_law_known","_law_less","_law_more"] (defScope s__law_met):=⟨rfl,rfl,rfl,by decide +kernel,rfl,by decide +kernel,by decide +kernel⟩
theorem sc__law_word:FnScope ["_law_number","_law_letters","_law_least","_law_most","_law_steps","_law_k","_law_step"] ["_law_number","_law_letters","_law_least","_law_most"] (defScope s__law_word):=⟨rfl,rfl,rfl,by decide +kernel,rfl,by decide +kernel,by decide +kernel⟩
theorem sc__law_walk:FnScope ["_law_known","_law_room","_law_word_here","_law_number","_law_path","_law_step","_law_ends"] ["_law_known","_law_room","_law_word_here","_law_number"] (defScope s__law_walk):=⟨rfl,rfl,rfl,by decide +kernel,rfl,by decide +kernel,by decide +kernel⟩
theorem sc__law_round:FnScope ["_law_known","_law_made","_law_which","_law_word_here","_law_room","_law_number","_law_path","_law_at_here","_law_rest","_law_tail"] ["_law_known","_law_made","_law_which","_law_word_here","_law_room","_law_number"] (defScope s__law_round):=⟨rfl,rfl,rfl,by decide +kernel,rfl,by decide +kernel,by decide +kernel⟩
theorem sc__law_clash:FnScope ["_law_known","_law_key","_law_ends"] ["_law_known"] (defScope s__law_clash):=⟨rfl,rfl,rfl,by decide +kernel,rfl,by decide +kernel,by decide +kernel⟩
theorem sc__law_row:FnScope ["_law_known","_law_made","_law_went","_law_words","_law_many","_law_number","_law_row_here","_law_stand","_law_room","_law_which"] ["_law_known","_law_made","_law_went","_law_words","_law_many","_law_number"] (defScope s__law_row):=⟨rfl,rfl,rfl,by decide +kernel,rfl,by decide +kernel,by decide +kernel⟩
theorem sc__law_paper:FnScope ["_law_words","_law_many","_law_cells","_law_known","_law_made","_law_went","_law_paper_here","_law_cell","_law_row_here","_law_word_here"] ["_law_words","_law_many","_law_cells"] (defScope s__law_paper):=⟨rfl,rfl,rfl,by decide +kernel,rfl,by decide +kernel,by decide +kernel⟩
theorem sc__law_state:FnScope ["_law_words","_law_paper_here","_law_known","_law_made","_law_went","_law_row_here","_law_word_here"] ["_law_words","_law_paper_here"] (defScope s__law_state):=⟨rfl,rfl,rfl,by decide +kernel,rfl,by decide +kernel,by decide +kernel⟩
theorem sc__law_ruled:FnScope ["_law_known","_law_stand","_law_words","_law_low","_law_number","_law_many","_law_j","_law_which","_law_room","_law_row_here"] ["_law_known","_law_stand","_law_words","_law_low","_law_number"] (defScope s__law_ruled):=⟨rfl,rfl,rfl,by decide +kernel,rfl,by decide +kernel,by decide +kernel⟩
theorem sc__law_odd_new:FnScope ["_law_known","_law_made","_law_stand","_law_lost","_law_letters","_law_number","_law_room","_law_step"] ["_law_known","_law_made","_law_stand","_law_lost","_law_letters","_law_number"] (defScope s__law_odd_new):=⟨rfl,rfl,rfl,by decide +kernel,rfl,by decide +kernel,by decide +kernel⟩
theorem sc__law_odd_rule:FnScope ["_law_row_here","_law_words","_law_stand","_law_lost","_law_number","_law_which","_law_path","_law_at_here","_law_many","_law_place"] ["_law_row_here","_law_words","_law_stand","_law_lost","_law_number"] (defScope s__law_odd_rule):=⟨rfl,rfl,rfl,by decide +kernel,rfl,by decide +kernel,by decide +kernel⟩
theorem sc__law_odd_meet:FnScope ["_law_known","_law_stand","_law_number","_law_keys","_law_row_here","_law_key","_law_other","_law_end"] ["_law_known","_law_stand","_law_number"] (defScope s__law_odd_meet):=⟨rfl,rfl,rfl,by decide +kernel,rfl,by decide +kernel,by decide +kernel⟩
theorem sc__law_odd:FnScope ["_law_words","_law_many","_law_letters","_law_paper_here","_law_number","_law_known","_law_made","_law_went","_law_stand","_law_lost","_law_row_here"] ["_law_words","_law_many","_law_letters","_law_paper_here","_law_number"] (defScope s__law_odd):=⟨rfl,rfl,rfl,by decide +kernel,rfl,by decide +kernel,by decide +kernel⟩
theorem sc__law_bent_number:FnScope ["_law_old","_law_count","_law_lost","_law_number","_law_some"] ["_law_old","_law_count","_law_lost","_law_number"] (defScope s__law_bent_number):=⟨rfl,rfl,rfl,by decide +kernel,rfl,by decide +kernel,by decide +kernel⟩
theorem sc__law_bent_path:FnScope ["_law_row_here","_law_made","_law_lost","_law_number","_law_which","_law_path","_law_at_here","_law_place","_law_room"] ["_law_row_here","_law_made","_law_lost","_law_number"] (defScope s__law_bent_path):=⟨rfl,rfl,rfl,by decide +kernel,rfl,by decide +kernel,by decide +kernel⟩
theorem sc__law_bent_step:FnScope ["_law_old","_law_letters","_law_number","_law_some"] ["_law_old","_law_letters","_law_number"] (defScope s__law_bent_step):=⟨rfl,rfl,rfl,by decide +kernel,rfl,by decide +kernel,by decide +kernel⟩
theorem sc__law_bent:FnScope ["_law_row_here","_law_made","_law_lost","_law_words","_law_letters","_law_number","_law_some","_law_places","_law_at_here","_law_count","_law_bent_here"] ["_law_row_here","_law_made","_law_lost","_law_words","_law_letters","_law_number"] (defScope s__law_bent):=⟨rfl,rfl,rfl,by decide +kernel,rfl,by decide +kernel,by decide +kernel⟩
theorem sc__law_bent_at:FnScope ["_law_paper_here","_law_place","_law_words","_law_letters","_law_number","_law_known","_law_made","_law_went","_law_lost"] ["_law_paper_here","_law_place","_law_words","_law_letters","_law_number"] (defScope s__law_bent_at):=⟨rfl,rfl,rfl,by decide +kernel,rfl,by decide +kernel,by decide +kernel⟩
theorem sc__law_spoiled:FnScope ["_law_paper_here","_law_words","_law_many","_law_letters","_law_number","_law_place","_law_way","_law_meets","_law_turned","_law_odd_here","_law_bent_here"] ["_law_paper_here","_law_words","_law_many","_law_letters","_law_number"] (defScope s__law_spoiled):=⟨rfl,rfl,rfl,by decide +kernel,rfl,by decide +kernel,by decide +kernel⟩
theorem sc__law_stands:FnScope ["_law_room","_law_made","_law_went"] ["_law_room","_law_made","_law_went"] (defScope s__law_stands):=⟨rfl,rfl,rfl,by decide +kernel,rfl,by decide +kernel,by decide +kernel⟩
theorem sc__law_new:FnScope ["_law_known","_law_made","_law_went","_law_letters","_law_row_here"] ["_law_known","_law_made","_law_went","_law_letters","_law_row_here"] (defScope s__law_new):=⟨rfl,rfl,rfl,by decide +kernel,rfl,by decide +kernel,by decide +kernel⟩
theorem sc__law_rule:FnScope ["_law_known","_law_made","_law_went","_law_rules","_law_part","_law_row_here","_law_which","_law_path","_law_word_here","_law_room","_law_k"] ["_law_known","_law_made","_law_went","_law_rules","_law_part","_law_row_here"] (defScope s__law_rule):=⟨rfl,rfl,rfl,by decide +kernel,rfl,by decide +kernel,by decide +kernel⟩
theorem sc__law_meet:FnScope ["_law_known","_law_row_here","_law_ends"] ["_law_known","_law_row_here"] (defScope s__law_meet):=⟨rfl,rfl,rfl,by decide +kernel,rfl,by decide +kernel,by decide +kernel⟩
theorem sc__law_due:FnScope ["_law_letters","_law_rules","_law_part","_law_paper_here","_law_known","_law_made","_law_went","_law_place","_law_row_here","_law_word_here"] ["_law_letters","_law_rules","_law_part","_law_paper_here"] (defScope s__law_due):=⟨rfl,rfl,rfl,by decide +kernel,rfl,by decide +kernel,by decide +kernel⟩
theorem sc_law:FnScope ["_law_script","_law_number","_law_letters","_law_rules","_law_k","_law_part","_law_paper_here","_law_due_here","_law_handed","_law_time","_law_found"] ["_law_script"] (defScope s_law):=⟨rfl,rfl,rfl,by decide +kernel,rfl,by decide +kernel,by decide +kernel⟩
theorem sc_Judge___init__:FnScope ["self","letters","rules","part"] ["self","letters","rules","part"] (defScope s_Judge___init__):=⟨rfl,rfl,rfl,by decide +kernel,rfl,by decide +kernel,by decide +kernel⟩
theorem sc_Judge_takes:FnScope ["self","row"] ["self","row"] (defScope s_Judge_takes):=⟨rfl,rfl,rfl,by decide +kernel,rfl,by decide +kernel,by decide +kernel⟩
theorem sc_Judge_takes_new:FnScope ["self","room","step","number"] ["self","room","step","number"] (defScope s_Judge_takes_new):=⟨rfl,rfl,rfl,by decide +kernel,rfl,by decide +kernel,by decide +kernel⟩
theorem sc_Judge_takes_rule:FnScope ["self","which","path","at","word","place","step"] ["self","which","path","at"] (defScope s_Judge_takes_rule):=⟨rfl,rfl,rfl,by decide +kernel,rfl,by decide +kernel,by decide +kernel⟩
theorem sc_Judge_takes_meet:FnScope ["self","room","step","less","more"] ["self","room","step","less","more"] (defScope s_Judge_takes_meet):=⟨rfl,rfl,rfl,by decide +kernel,rfl,by decide +kernel,by decide +kernel⟩
theorem sc_Judge_stands:FnScope ["self","room"] ["self","room"] (defScope s_Judge_stands):=⟨rfl,rfl,rfl,by decide +kernel,rfl,by decide +kernel,by decide +kernel⟩
theorem sc_Judge_fits:FnScope ["self","which","path"] ["self","which","path"] (defScope s_Judge_fits):=⟨rfl,rfl,rfl,by decide +kernel,rfl,by decide +kernel,by decide +kernel⟩
theorem sc_Judge_knows:FnScope ["self","room","step","other"] ["self","room","step","other"] (defScope s_Judge_knows):=⟨rfl,rfl,rfl,by decide +kernel,rfl,by decide +kernel,by decide +kernel⟩
theorem sc_Judge_learn:FnScope ["self","room","step","other","led_to","come_from"] ["self","room","step","other"] (defScope s_Judge_learn):=⟨rfl,rfl,rfl,by decide +kernel,rfl,by decide +kernel,by decide +kernel⟩
theorem sc_Judge_put_in_place:FnScope ["self","less","more","gone_by","step","other"] ["self","less","more"] (defScope s_Judge_put_in_place):=⟨rfl,rfl,rfl,by decide +kernel,rfl,by decide +kernel,by decide +kernel⟩
section
variable {P:Program} {w:World} {K:PySem.W.Frag} {mg:Str->Option Value} {base:Heap} {A:Adr}
def spLaw (K:PySem.W.Frag):Sp:=fun vs H Q _=>∃(a:Addr) (ns:List Int),vs=[.ref a]/\SqL K H a (ns.map V.int)/\ns.length<=63/\∀ H',Q (.bl true) H'
structure JA where
 dx:Addr
 aW:Addr
 aK:Addr
def jfl (L cm made:Int)(a:JA):List (Str×V):=[("letters",.int L),("words",.ref a.aW),("common",.int cm),("made",.int made),("known",.ref a.aK)]
theorem jl_letters (L c m:Int)(a:JA):(jfl L c m a).lookup ("letters":Str)=some (.int L):=by kernel_rfl
theorem jl_words (L c m:Int)(a:JA):(jfl L c m a).lookup ("words":Str)=some (.ref a.aW):=by kernel_rfl
theorem jl_common (L c m:Int)(a:JA):(jfl L c m a).lookup ("common":Str)=some (.int c):=by kernel_rfl
theorem jl_made (L c m:Int)(a:JA):(jfl L c m a).lookup ("made":Str)=some (.int m):=by kernel_rfl
theorem jl_known (L c m:Int)(a:JA):(jfl L c m a).lookup ("known":Str)=some (.ref a.aK):=by kernel_rfl
structure JS where
 L:Int
 ws:List (List Int)
 cm:Int
 made:Int
 D:Int->Option Addr
 E:Int->Int->Option Addr
 S:Rel3
structure JAt (C:Addr) (H:Hp) (r:Addr) (a:JA) (J:JS):Prop where
 ins:H r=some (.ins C a.dx (jfl J.L J.cm J.made a))
 wds:WordsAt H a.aW J.ws
 kn:KAt H a.aK J.D J.E J.S
def Jown (r:Addr)(a:JA)(J:JS)(b:Addr):Prop:=b=r\/Kown a.aK J.D J.E b
def ButJ (own:Addr->Prop)(H H':Hp):Prop:=∀ b o,¬ own b->H b=some o->H' b=some o
theorem ButJ.of_same {own:Addr->Prop}{H H':Hp}(s:Same H H'):ButJ own H H':=fun b o _ e=>s b o e
theorem ButJ.trans {own own':Addr->Prop}{H H1 H2:Hp}(s:ButJ own H H1)(t:ButJ own' H1 H2)(f:∀ b,own' b->own b\/H b=none):ButJ own H H2:=fun b o n e=>t b o (fun z=>(f b z).elim n fun q=>by rw[q] at e;cases e) (s b o n e)
theorem JAt.same {C:Addr}{H H':Hp}{r:Addr}{a:JA}{J:JS}(h:JAt C H r a J)(s:Same H H'):JAt C H' r a J:=⟨s _ _ h.ins,h.wds.same s,h.kn.same s⟩
theorem wds_keep {H H':Hp}{a:Addr}{ws:List (List Int)}(h:WordsAt H a ws)(f:∀ b o,(∀ kvs,o≠.dK kvs)->(∀ C dx fs,o≠.ins C dx fs)->H b=some o->H' b=some o):WordsAt H' a ws:=by
 obtain⟨ps,h1,h2⟩:=h
 exact⟨ps,f _ _ (by intro _ z;cases z) (by intro _ _ _ z;cases z) h1,h2.keep fun p xs e=>f _ _ (by intro _ z;cases z) (by intro _ _ _ z;cases z) e⟩
theorem same_none {H H':Hp}{p:Addr}(s:Same H H')(h:H' p=none):H p=none:=by
 cases e:H p with
 | none=>rfl
 | some o=>rw[s _ _ e] at h;cases h
theorem JAt.norK {C:Addr}{H:Hp}{r:Addr}{a:JA}{J:JS}(h:JAt C H r a J){b:Addr}(hb:Kown a.aK J.D J.E b):r≠b:=by
 obtain⟨kvs,q⟩:=h.kn.there hb
 exact ne_of h.ins q (by intro z;cases z)
structure Bd (J:JS):Prop where
 d:∀ c x,J.D c=some x->0<=c/\c < 100000
 e:∀ c s x,J.E c s=some x-> -1000<=s/\s < 1000
 s:∀ c s o,J.S c s o=true->0<=o/\o < 100000
theorem sz_small {n:Nat}(h:n<=100000):n < sizeLine:=Nat.lt_of_le_of_lt h (by decide)
def learnS (S:Rel3)(c s o:Int):Rel3:=fun c' s' o'=>(S c' s' o' || (decide (c'=c) && decide (s'=s) && decide (o'=o))) || (decide (c'=o) && decide (s'= -s) && decide (o'=c))
def spStands (C:Addr):Sp:=fun vs H Q _=>∃(r:Addr) (a:JA) (J:JS) (c:Int),vs=[.ref r,.int c]/\JAt C H r a J/\Q (.bl (J.D c).isSome) H
def spKnows (C:Addr):Sp:=fun vs H Q _=>∃(r:Addr) (a:JA) (J:JS) (c s o:Int),vs=[.ref r,.int c,.int s,.int o]/\JAt C H r a J/\∀ H',Same H H'->Q (.bl (J.S c s o)) H'
def spLearn (C:Addr):Sp:=fun vs H Q _=>∃(r:Addr) (a:JA) (J:JS) (c s o:Int),vs=[.ref r,.int c,.int s,.int o]/\JAt C H r a J/\Bd J/\(∃ d,J.D c=some d)/\(∃ d,J.D o=some d)/\-1000 < s/\s < 1000/\
 ∀ E' H',ButJ (Kown a.aK J.D J.E) H H'->JAt C H' r a { J with E:=E',S:=learnS J.S c s o }->(∀ b,Kown a.aK J.D E' b->Kown a.aK J.D J.E b\/H b=none)->(∀ c' s',E' c' s'=J.E c' s'\/(J.E c' s'=none/\((c'=c/\s'=s)\/(c'=o/\s'= -s))))->Q .non H'
theorem ok_Judge_stands (T:Txt K mg A):FnOk P w K mg base CX0 1 A.f_Judge_stands A.d_Judge_stands ["self","room"] (spStands A.c_Judge):=by
 refine T.Judge_stands.F.ok sc_Judge_stands (fun vs H Q E h=>?_) (fun cdv AA outer s H vs Q E hr h=>?_)
 ·obtain⟨r,a,J,c,rfl,_⟩:=h
  rfl
 ·obtain⟨r,a,J,c,rfl,h,k⟩:=h
  have hu2:=hu_of hr
  refine⟨_,(pss_one (ps_ret (pe_cmp (pc_din hu2 (pv 1) (pe_fld (pv 0) rfl))))),?_⟩
  try dsimp only[cx_noxK,cx_K]
  obtain⟨kvs,h1,_,_,h4⟩:=h.kn.topL
  refine⟨_,rfl,_,rfl,r,_,a.dx,_,_,rfl,h.ins,cl_Judge T,T.n_known,jl_known _ _ _ _,a.aK,_,rfl,DGet.k (k:=Sum.inl c) h1,?_⟩
  rw[h4]
  have e:((J.D c).map V.ref).isSome=(J.D c).isSome:=by cases J.D c <;> rfl
  rw[e]
  exact k
theorem ok_Judge_knows (T:Txt K mg A):FnOk P w K mg base CX0 1 A.f_Judge_knows A.d_Judge_knows ["self","room","step","other"] (spKnows A.c_Judge):=by
 refine T.Judge_knows.F.ok sc_Judge_knows (fun vs H Q E h=>?_) (fun cdv AA outer s H vs Q E hr h=>?_)
 ·obtain⟨r,a,J,c,s,o,rfl,_⟩:=h
  rfl
 ·obtain⟨r,a,J,c,s,o,rfl,h,k⟩:=h
  have hu2:=hu_of hr
  refine⟨_,(pss_one (ps_ret (pe_cmp (pc_din hu2 (pv 3) (pe_dget2 hu2 (pe_dget2 hu2 (pe_fld (pv 0) rfl) (pv 1) pe_dnewK ⟨rfl,rfl,rfl,rfl⟩) (pv 2) pe_dnewK ⟨rfl,rfl,rfl,rfl⟩))))),?_⟩
  try dsimp only[cx_noxK,cx_K]
  obtain⟨kvs,h1,_,_,h4⟩:=h.kn.topL
  refine⟨_,rfl,_,rfl,r,_,a.dx,_,_,rfl,h.ins,cl_Judge T,T.n_known,jl_known _ _ _ _,a.aK,rfl,.inl ⟨_,.inl h1⟩,_,rfl,fun p np=>?_⟩
  have s1:=Same.upd (o:=.dK []) np
  have hp1:upd H p (.dK []) p=some (.dK []):=upd_same
  generalize upd H p (.dK [])=H1 at s1 hp1 ⊢
  have kn1:=h.kn.same s1
  refine⟨_,DGet.k (k:=Sum.inl c) (s1 _ _ h1),?_⟩
  rw[h4]
  cases hD:J.D c with
  | none=>
    have hS:J.S c s o=false:=by
     cases q:J.S c s o with
     | false=>rfl
     | true=>obtain⟨e,q⟩:=h.kn.se _ _ _ q;obtain⟨d,q⟩:=h.kn.ed _ _ _ q;rw[hD] at q;cases q
    rw[hS] at k
    refine⟨p,rfl,.inl ⟨_,.inl hp1⟩,_,rfl,fun q nq=>?_⟩
    have s2:=Same.upd (o:=.dK []) nq
    have hq2:upd H1 q (.dK []) q=some (.dK []):=upd_same
    generalize upd H1 q (.dK [])=H2 at s2 hq2 ⊢
    refine⟨_,DGet.k (k:=Sum.inl s) (s2 _ _ hp1),?_⟩
    exact⟨q,_,rfl,DGet.k (k:=Sum.inl o) hq2,k _ (s1.trans s2)⟩
  | some d=>
    obtain⟨kv2,g1,_,_,g4⟩:=kn1.rowL hD
    refine⟨d,rfl,.inl ⟨_,.inl g1⟩,_,rfl,fun q nq=>?_⟩
    have s2:=Same.upd (o:=.dK []) nq
    have hq2:upd H1 q (.dK []) q=some (.dK []):=upd_same
    generalize upd H1 q (.dK [])=H2 at s2 hq2 ⊢
    refine⟨_,DGet.k (k:=Sum.inl s) (s2 _ _ g1),?_⟩
    rw[g4]
    cases hE:J.E c s with
    | none=>
      have hS:J.S c s o=false:=by
       cases q:J.S c s o with
       | false=>rfl
       | true=>obtain⟨e,q⟩:=h.kn.se _ _ _ q;rw[hE] at q;cases q
      rw[hS] at k
      exact⟨q,_,rfl,DGet.k (k:=Sum.inl o) hq2,k _ (s1.trans s2)⟩
    | some e=>
      obtain⟨kv3,f1,_,_,f4⟩:=(kn1.same s2).celL hE
      refine⟨e,_,rfl,DGet.k (k:=Sum.inl o) f1,?_⟩
      rw[f4]
      have q:=k _ (s1.trans s2)
      cases hS:J.S c s o with
      | true=>rw[hS] at q;exact q
      | false=>rw[hS] at q;exact q
theorem cell_at {H:Hp}{k:Addr}{D:Int->Option Addr}{E:Int->Int->Option Addr}{S:Rel3}(h:KAt H k D E S){c:Int}{d:Addr}(hd:D c=some d)(hb:∀ c s x,E c s=some x-> -1000<=s/\s < 1000){p:Addr}(np:H p=none)(s:Int):
 ∃ kvs,upd H p (.dK []) d=some (.dK kvs)/\kvs.length < sizeLine/\(∀ v,valV kvs (Sum.inl s)=some v->∃ e,v=.ref e/\E c s=some e/\KAt (upd H p (.dK [])) k D E S)/\
   (valV kvs (Sum.inl s)=none->E c s=none/\KAt (upd (upd H p (.dK [])) d (.dK (putK kvs (Sum.inl s) (.ref p)))) k D (fun c' s'=>if c'=c/\s'=s then some p else E c' s') S):=by
 have s1:=Same.upd (o:=.dK []) np
 have h1:=h.same s1
 have hp1:upd H p (.dK []) p=some (.dK []):=upd_same
 have nw:¬ Kown k D E p:=fun z=>by obtain⟨kvs,q⟩:=h.there z;rw[np] at q;cases q
 generalize upd H p (.dK [])=H1 at s1 h1 hp1 ⊢
 obtain⟨kvs,g1,g2,g3,g4⟩:=h1.rowL hd
 refine⟨kvs,g1,sz_small (Nat.le_trans (di_len (n:=2000) (lo:=-1000) g2 g3 g4 fun i v hv=>?_) (by decide)),fun v hv=>?_,fun hv=>?_⟩
 ·cases q:E c i with
  | none=>rw[q] at hv;cases hv
  | some e=>have:=hb c i e q;omega
 ·rw[g4] at hv
  cases q:E c s with
  | none=>rw[q] at hv;cases hv
  | some e=>rw[q] at hv;exact⟨e,(Option.some.inj hv).symm,rfl,h1⟩
 ·rw[g4] at hv
  have he:E c s=none:=by
   cases q:E c s with
   | none=>rfl
   | some e=>rw[q] at hv;cases hv
  exact⟨he,h1.addCell hd he g1 hp1 nw⟩
def CellOk (C:Addr)(H:Hp)(r:Addr)(a:JA)(J:JS)(E1:Int->Int->Option Addr)(S1:Rel3)(c s:Int)(e:Addr)(H2:Hp):Prop:=
 JAt C H2 r a { J with E:=E1,S:=S1 }/\E1 c s=some e/\(∀ c' s',E1 c' s'=J.E c' s'\/(J.E c' s'=none/\c'=c/\s'=s))/\ButJ (Kown a.aK J.D J.E) H H2/\∀ b,Kown a.aK J.D E1 b->Kown a.aK J.D J.E b\/H b=none
theorem cell_there {C:Addr}{H:Hp}{r:Addr}{a:JA}{J:JS}(h:JAt C H r a J){c s:Int}{e p:Addr}(np:H p=none)(he:J.E c s=some e)(hk:KAt (upd H p (.dK [])) a.aK J.D J.E J.S):CellOk C H r a J J.E J.S c s e (upd H p (.dK [])):=
 ⟨⟨Same.upd np _ _ h.ins,h.wds.same (Same.upd np),hk⟩,he,fun _ _=>.inl rfl,.of_same (Same.upd np),fun b z=>.inl z⟩
theorem cell_made {C:Addr}{H:Hp}{r:Addr}{a:JA}{J:JS}(h:JAt C H r a J){c s:Int}{d p:Addr}{kvs:List (Key×V)}(np:H p=none)(hd:J.D c=some d)(hE:J.E c s=none)(hkv:upd H p (.dK []) d=some (.dK kvs))(hk:KAt (upd (upd H p (.dK [])) d (.dK (putK kvs (Sum.inl s) (.ref p)))) a.aK J.D (fun c' s'=>if c'=c/\s'=s then some p else J.E c' s') J.S):
 CellOk C H r a J (fun c' s'=>if c'=c/\s'=s then some p else J.E c' s') J.S c s p (upd (upd H p (.dK [])) d (.dK (putK kvs (Sum.inl s) (.ref p)))):=by
 have s1:=Same.upd (o:=.dK []) np
 have od:Kown a.aK J.D J.E d:=.inr (.inl ⟨c,hd⟩)
 have bt:∀ b o,b≠d->H b=some o->upd (upd H p (.dK [])) d (.dK (putK kvs (Sum.inl s) (.ref p))) b=some o:=fun b o n q=>by rw[upd_ne n];exact s1 _ _ q
 refine⟨⟨bt _ _ (h.norK od) h.ins,wds_keep h.wds fun b o n1 n2 q=>bt b o (fun z=>?_) q,hk⟩,if_pos ⟨rfl,rfl⟩,fun c' s'=>?_,fun b o n q=>bt b o (fun z=>n (by rw[z];exact od)) q,fun b z=>?_⟩
 ·subst z
  have:=s1 _ _ q
  rw[hkv] at this
  exact n1 _ (Option.some.inj this).symm
 ·by_cases e:c'=c/\s'=s
  ·exact .inr ⟨by rw[e.1,e.2];exact hE,e⟩
  ·exact .inl (if_neg e)
 ·rcases z with z | ⟨c',z⟩ | ⟨c',s',z⟩
  ·exact .inl (.inl z)
  ·exact .inl (.inr (.inl ⟨c',z⟩))
  ·replace z:(if c'=c/\s'=s then some p else J.E c' s')=some b:=z
   by_cases e:c'=c/\s'=s
   ·rw[if_pos e] at z
    exact .inr (by rw[← Option.some.inj z];exact np)
   ·rw[if_neg e] at z
    exact .inl (.inr (.inr ⟨c',s',z⟩))
theorem CellOk.put {C:Addr}{H H2:Hp}{r:Addr}{a:JA}{J:JS}{E1:Int->Int->Option Addr}{S1:Rel3}{c s:Int}{e:Addr}(h:CellOk C H r a J E1 S1 c s e H2)(hb:∀ c s o,S1 c s o=true->0<=o/\o < 100000)(o:Int):
 ∃ kvs,H2 e=some (.dK kvs)/\kvs.length < sizeLine/\CellOk C H r a J E1 (fun c' s' o'=>S1 c' s' o' || (decide (c'=c) && decide (s'=s) && decide (o'=o))) c s e (upd H2 e (.dK (putK kvs (Sum.inl o) (.bl true)))):=by
 obtain⟨h1,he,hE,hB,hO⟩:=h
 obtain⟨kvs,g1,g2,g3,g4⟩:=KAt.celL (S:=S1) h1.kn he
 have oe:Kown a.aK J.D E1 e:=.inr (.inr ⟨c,s,he⟩)
 have bt:∀ b u,b≠e->H2 b=some u->upd H2 e (.dK (putK kvs (Sum.inl o) (.bl true))) b=some u:=fun b u n q=>by rw[upd_ne n];exact q
 refine⟨kvs,g1,sz_small (di_len (n:=100000) (lo:=0) g2 g3 g4 fun i v hv=>?_),⟨bt _ _ (h1.norK oe) h1.ins,wds_keep h1.wds fun b u n1 _ q=>bt b u (fun z=>?_) q,h1.kn.addMem he g1 o⟩,he,hE,fun b u n q=>?_,hO⟩
 ·cases q:S1 c s i with
  | false=>rw[q] at hv;cases hv
  | true=>have:=hb c s i q;omega
 ·subst z
  rw[g1] at q
  exact n1 _ (Option.some.inj q).symm
 ·refine bt b u (fun z=>?_) (hB b u n q)
  rcases hO e oe with w | w
  ·exact n (by rw[z];exact w)
  ·rw[z,w] at q;cases q
theorem ok_Judge_learn (T:Txt K mg A):FnOk P w K mg base CX0 1 A.f_Judge_learn A.d_Judge_learn ["self","room","step","other"] (spLearn A.c_Judge):=by
 refine T.Judge_learn.F.ok sc_Judge_learn (fun vs H Q E h=>?_) (fun cdv AA outer s H vs Q E hr h=>?_)
 ·obtain⟨r,a,J,c,s,o,rfl,_⟩:=h
  rfl
 ·obtain⟨r,a,J,c,s,o,rfl,h,hb,hc,ho,hs1,hs2,k⟩:=h
  have hu2:=hu_of hr
  refine⟨_,(pss_cons (ps_cut (ps_set (i:=4) sc_Judge_learn.nd rfl (Or.inl rfl) (pe_dsetdefault2 (pe_dget hu2 (pe_fld (pv 0) rfl) (pv 1) (fun _ _=>rfl)) (pv 2) pe_dnewK ⟨rfl,rfl,rfl,rfl⟩)))
   (pss_cons (ps_dput hu2 (pv 4) (pv 3) pe_bl rfl)
   (pss_cons (ps_cut (ps_set (i:=5) sc_Judge_learn.nd rfl (Or.inl rfl) (pe_dsetdefault2 (pe_dget hu2 (pe_fld (pv 0) rfl) (pv 3) (fun _ _=>rfl)) (pe_un un_neg (pv 2)) pe_dnewK ⟨rfl,rfl,rfl,rfl⟩)))
   (pss_one (ps_dput hu2 (pv 5) (pv 1) pe_bl rfl))))),?_⟩
  try dsimp only[cx_noxK,cx_K]
  refine seq_let3 ?_
  intro u_3 u_2 u_1
  obtain⟨dc,hdc⟩:=hc
  obtain⟨dO,hdo⟩:=ho
  obtain⟨kvs,h1,_,_,h4⟩:=h.kn.topL
  have top:∀{H':Hp} {E':Int->Int->Option Addr} {S':Rel3} {x:Int} {d:Addr},KAt H' a.aK J.D E' S'->J.D x=some d->DGet H' a.aK (.int x) (some (.ref d)):=fun{H' E' S' x d} q hx=>by
   obtain⟨kv,g1,_,_,g4⟩:=q.topL
   have:=DGet.k (k:=Sum.inl x) g1
   rw[g4,hx] at this
   exact this
  refine⟨fun σ' H2=>∃ e E1,σ'=[some (.ref r),some (.int c),some (.int s),some (.int o),some (.ref e),none]/\CellOk A.c_Judge H r a J E1 J.S c s e H2,?_,?_⟩
  ·refine⟨_,rfl,r,_,a.dx,_,_,rfl,h.ins,cl_Judge T,T.n_known,jl_known _ _ _ _,_,rfl,a.aK,_,rfl,top h.kn hdc,?_⟩
   obtain⟨kv0,r1,_⟩:=h.kn.rowL hdc
   refine⟨dc,rfl,.inl ⟨kv0,.inl r1⟩,_,rfl,fun p np=>?_⟩
   obtain⟨kv1,g1,g2,g3,g4⟩:=cell_at h.kn hdc hb.e np s
   refine⟨kv1,Sum.inl s,g1,rfl,g2,fun v hv=>?_,fun hv=>?_⟩
   ·obtain⟨e,rfl,he,hk⟩:=g3 v hv
    exact⟨e,J.E,rfl,cell_there h np he hk⟩
   ·exact⟨p,_,rfl,cell_made h np hdc (g4 hv).1 g1 (g4 hv).2⟩
  rintro σ' H2 ⟨e,E1,rfl,ok1⟩
  obtain⟨kv2,g1,g2,ok2⟩:=ok1.put hb.s o
  refine⟨_,rfl,_,rfl,e,_,rfl,DPut.k (k:=Sum.inl o) g1 g2,?_⟩
  generalize upd H2 e (.dK (putK kv2 (Sum.inl o) (.bl true)))=H3 at ok2 ⊢
  obtain⟨j3,he3,hE3,hB3,hO3⟩:=ok2
  have b3e:∀ c' s' x,E1 c' s'=some x-> -1000<=s'/\s' < 1000:=fun c' s' x q=>by
   rcases hE3 c' s' with w | ⟨_,_,w⟩
   ·rw[w] at q;exact hb.e _ _ _ q
   ·omega
  have bc:=hb.d _ _ hdc
  have bo:=hb.d _ _ hdo
  refine⟨fun σ' H4=>∃ e4 E4,σ'=[some (.ref r),some (.int c),some (.int s),some (.int o),some (.ref e),some (.ref e4)]/\CellOk A.c_Judge H3 r a { J with E:=E1,S:=fun c' s' o'=>J.S c' s' o' || (decide (c'=c) && decide (s'=s) && decide (o'=o)) } E4 (fun c' s' o'=>J.S c' s' o' || (decide (c'=c) && decide (s'=s) && decide (o'=o))) o (-s) e4 H4,?_,?_⟩
  ·refine⟨_,rfl,r,_,a.dx,_,_,rfl,j3.ins,cl_Judge T,T.n_known,jl_known _ _ _ _,_,rfl,a.aK,_,rfl,top j3.kn hdo,?_⟩
   obtain⟨kv0,r1,_⟩:=j3.kn.rowL hdo
   refine⟨dO,rfl,.inl ⟨kv0,.inl r1⟩,_,rfl,s,rfl,fun p np=>?_⟩
   obtain⟨kv1,q1,q2,q3,q4⟩:=cell_at j3.kn hdo b3e np (-s)
   refine⟨kv1,Sum.inl (-s),q1,rfl,q2,fun v hv=>?_,fun hv=>?_⟩
   ·obtain⟨e4,rfl,he4,hk⟩:=q3 v hv
    exact⟨e4,E1,rfl,cell_there j3 np he4 hk⟩
   ·exact⟨p,_,rfl,cell_made j3 np hdo (q4 hv).1 q1 (q4 hv).2⟩
  rintro σ' H4 ⟨e4,E4,rfl,ok4⟩
  have bs4:∀ c' s' o',(J.S c' s' o' || (decide (c'=c) && decide (s'=s) && decide (o'=o)))=true->0<=o'/\o' < 100000:=fun c' s' o' q=>by
   rcases Bool.or_eq_true_iff.mp q with q | q
   ·exact hb.s _ _ _ q
   ·simp at q;omega
  obtain⟨kv5,f1,f2,ok5⟩:=ok4.put bs4 c
  refine⟨_,rfl,_,rfl,e4,_,rfl,DPut.k (k:=Sum.inl c) f1 f2,?_⟩
  obtain⟨j5,he5,hE5,hB5,hO5⟩:=ok5
  refine k E4 _ (hB3.trans hB5 fun b z=>hO3 b z) j5 (fun b z=>?_) fun c' s'=>?_
  ·rcases hO5 b z with z | z
   ·exact hO3 b z
   ·refine .inr ?_
    cases q:H b with
    | none=>rfl
    | some u=>
      by_cases w:Kown a.aK J.D J.E b
      ·have w':Kown a.aK J.D E1 b:=by
        rcases w with w | w | ⟨c1,s1,w⟩
        ·exact .inl w
        ·exact .inr (.inl w)
        ·rcases hE3 c1 s1 with w2 | ⟨w2,_⟩
         ·exact .inr (.inr ⟨c1,s1,w2.trans w⟩)
         ·rw[w] at w2;cases w2
       obtain⟨kvs,q2⟩:=j3.kn.there (b:=b) w'
       rw[z] at q2;cases q2
      ·rw[hB3 b u w q] at z;cases z
  ·rcases hE5 c' s' with w | w
   ·rcases hE3 c' s' with w2 | w2
    ·exact .inl (w.trans w2)
    ·exact .inr ⟨w2.1,.inl w2.2⟩
   ·rcases hE3 c' s' with w2 | w2
    ·exact .inr ⟨w2.symm.trans w.1,.inr w.2⟩
    ·exact .inr ⟨w2.1,.inr w.2⟩
def dropS (S:Rel3)(c s o:Int):Rel3:=fun c' s' o'=>S c' s' o' && !(decide (c'=c) && decide (s'=s) && decide (o'=o))
def stepS (x y:Int)(S:Rel3)(p:Int×Int):Rel3:=if p.2=y then learnS S x p.1 x else learnS (dropS S p.2 (-p.1) y) x p.1 p.2
def foldS (x y:Int)(S:Rel3)(l:List (Int×Int)):Rel3:=l.foldl (stepS x y) S
theorem foldS_snoc (x y:Int)(S:Rel3)(l:List (Int×Int))(p:Int×Int):foldS x y S (l++[p])=stepS x y (foldS x y S l) p:=by unfold foldS;rw[List.foldl_append];rfl
def Adds (x y:Int)(p:Int×Int)(c s o:Int):Prop:=(p.2=y/\c=x/\o=x/\(s=p.1\/s= -p.1))\/(p.2≠y/\((c=x/\s=p.1/\o=p.2)\/(c=p.2/\s= -p.1/\o=x)))
theorem learnS_iff {S:Rel3}{c s o c' s' o':Int}:learnS S c s o c' s' o'=true↔S c' s' o'=true\/(c'=c/\s'=s/\o'=o)\/(c'=o/\s'= -s/\o'=c):=by
 unfold learnS
 simp only[Bool.or_eq_true,Bool.and_eq_true,decide_eq_true_eq]
 constructor
 ·rintro ((h | ⟨⟨h1,h2⟩,h3⟩) | ⟨⟨h1,h2⟩,h3⟩)
  ·exact .inl h
  ·exact .inr (.inl ⟨h1,h2,h3⟩)
  ·exact .inr (.inr ⟨h1,h2,h3⟩)
 ·rintro (h | ⟨h1,h2,h3⟩ | ⟨h1,h2,h3⟩)
  ·exact .inl (.inl h)
  ·exact .inl (.inr ⟨⟨h1,h2⟩,h3⟩)
  ·exact .inr ⟨⟨h1,h2⟩,h3⟩
theorem dropS_iff {S:Rel3}{c s o c' s' o':Int}:dropS S c s o c' s' o'=true↔S c' s' o'=true/\¬ (c'=c/\s'=s/\o'=o):=by
 unfold dropS
 simp only[Bool.and_eq_true,Bool.not_eq_true',Bool.and_eq_false_iff,decide_eq_false_iff_not]
 constructor
 ·rintro ⟨h,q⟩
  exact⟨h,fun z=>by rcases q with (q | q) | q;exact q z.1;exact q z.2.1;exact q z.2.2⟩
 ·rintro ⟨h,q⟩
  refine⟨h,?_⟩
  by_cases e1:c'=c
  ·by_cases e2:s'=s
   ·exact .inr fun e3=>q ⟨e1,e2,e3⟩
   ·exact .inl (.inr e2)
  ·exact .inl (.inl e1)
theorem fold_other {x y:Int}(hxy:x≠y){S:Rel3}{c s o:Int}(ho:o≠y):∀ l:List (Int×Int),foldS x y S l c s o=true↔S c s o=true\/∃ p∈l,Adds x y p c s o:=by
 refine snoc_ind ?_ fun l p ih=>?_
 ·exact⟨fun h=>.inl h,fun h=>h.elim id fun⟨p,hp,_⟩=>by cases hp⟩
 ·rw[foldS_snoc]
  have e:stepS x y (foldS x y S l) p c s o=true↔foldS x y S l c s o=true\/Adds x y p c s o:=by
   unfold stepS
   by_cases hp:p.2=y
   ·rw[if_pos hp,learnS_iff]
    constructor
    ·rintro (h | ⟨h1,h2,h3⟩ | ⟨h1,h2,h3⟩)
     ·exact .inl h
     ·exact .inr (.inl ⟨hp,h1,h3,.inl h2⟩)
     ·exact .inr (.inl ⟨hp,h1,h3,.inr h2⟩)
    ·rintro (h | ⟨_,h1,h2,h3 | h3⟩ | ⟨h,_⟩)
     ·exact .inl h
     ·exact .inr (.inl ⟨h1,h3,h2⟩)
     ·exact .inr (.inr ⟨h1,h3,h2⟩)
     ·exact absurd hp h
   ·rw[if_neg hp,learnS_iff,dropS_iff]
    constructor
    ·rintro (h | h | h)
     ·exact .inl h.1
     ·exact .inr (.inr ⟨hp,.inl h⟩)
     ·exact .inr (.inr ⟨hp,.inr h⟩)
    ·rintro (h | ⟨h,_⟩ | ⟨_,h | h⟩)
     ·exact .inl ⟨h,fun z=>ho z.2.2⟩
     ·exact absurd h hp
     ·exact .inr (.inl h)
     ·exact .inr (.inr h)
  rw[e,ih]
  constructor
  ·rintro ((h | ⟨q,hq,h⟩) | h)
   ·exact .inl h
   ·exact .inr ⟨q,List.mem_append_left _ hq,h⟩
   ·exact .inr ⟨p,List.mem_append_right _ (List.mem_singleton.mpr rfl),h⟩
  ·rintro (h | ⟨q,hq,h⟩)
   ·exact .inl (.inl h)
   ·rcases List.mem_append.mp hq with hq | hq
    ·exact .inl (.inr ⟨q,hq,h⟩)
    ·exact .inr (by rw[← List.mem_singleton.mp hq];exact h)
theorem fold_more {x y:Int}(hxy:x≠y){S:Rel3}{c s:Int}(hc:c≠y):∀ l:List (Int×Int),foldS x y S l c s y=true↔S c s y=true/\(-s,c)∉l:=by
 refine snoc_ind ?_ fun l p ih=>?_
 ·exact⟨fun h=>⟨h,by simp⟩,fun h=>h.1⟩
 ·rw[foldS_snoc]
  have e:stepS x y (foldS x y S l) p c s y=true↔foldS x y S l c s y=true/\p≠(-s,c):=by
   unfold stepS
   by_cases hp:p.2=y
   ·rw[if_pos hp,learnS_iff]
    constructor
    ·rintro (h | ⟨_,_,h3⟩ | ⟨_,_,h3⟩)
     ·exact⟨h,fun z=>hc (by rw[z] at hp;exact hp)⟩
     ·exact absurd h3.symm hxy
     ·exact absurd h3.symm hxy
    ·exact fun h=>.inl h.1
   ·rw[if_neg hp,learnS_iff,dropS_iff]
    constructor
    ·rintro (⟨h,q⟩ | ⟨_,_,h3⟩ | ⟨_,_,h3⟩)
     ·exact⟨h,fun z=>q (by rw[z];exact⟨rfl,by simp,rfl⟩)⟩
     ·exact absurd h3.symm hp
     ·exact absurd h3.symm hxy
    ·rintro ⟨h,q⟩
     refine .inl ⟨h,fun z=>q ?_⟩
     obtain⟨p1,p2⟩:=p
     obtain⟨z1,z2,_⟩:=z
     simp only at z1 z2
     rw[z1,z2,Int.neg_neg]
  rw[e,ih]
  constructor
  ·rintro ⟨⟨h1,h2⟩,h3⟩
   exact⟨h1,fun z=>(List.mem_append.mp z).elim h2 fun z=>h3 (List.mem_singleton.mp z).symm⟩
  ·rintro ⟨h1,h2⟩
   exact⟨⟨h1,fun z=>h2 (List.mem_append_left _ z)⟩,fun z=>h2 (by rw[z];exact List.mem_append_right _ (List.mem_singleton.mpr rfl))⟩
def moveS (S:Rel3)(x y:Int):Rel3:=fun c s o=>(!decide (c=y) && !decide (o=y)) && (((S c s o || (decide (c=x) && S y s o)) || (decide (o=x) && S c s y)) || (decide (c=x) && decide (o=x) && S y s y))
theorem moveS_iff {S:Rel3}{x y c s o:Int}:moveS S x y c s o=true↔(c≠y/\o≠y)/\(S c s o=true\/(c=x/\S y s o=true)\/(o=x/\S c s y=true)\/(c=x/\o=x/\S y s y=true)):=by
 unfold moveS
 simp only[Bool.and_eq_true,Bool.or_eq_true,Bool.not_eq_true',decide_eq_false_iff_not,decide_eq_true_eq]
 constructor
 ·rintro ⟨h,((h1 | h1) | h1) | ⟨⟨h1,h2⟩,h3⟩⟩
  ·exact⟨h,.inl h1⟩
  ·exact⟨h,.inr (.inl h1)⟩
  ·exact⟨h,.inr (.inr (.inl h1))⟩
  ·exact⟨h,.inr (.inr (.inr ⟨h1,h2,h3⟩))⟩
 ·rintro ⟨h,h1 | h1 | h1 | ⟨h1,h2,h3⟩⟩
  ·exact⟨h,.inl (.inl (.inl h1))⟩
  ·exact⟨h,.inl (.inl (.inr h1))⟩
  ·exact⟨h,.inl (.inr h1)⟩
  ·exact⟨h,.inr ⟨⟨h1,h2⟩,h3⟩⟩
def SymS (S:Rel3):Prop:=∀ c s o,S c s o=true->S o (-s) c=true
theorem fold_all {S:Rel3}(hS:SymS S){x y:Int}(hxy:x≠y){l:List (Int×Int)}(hl:∀ p,p∈l↔S y p.1 p.2=true)(c s o:Int):foldS x y (fun c s o=>S c s o && !decide (c=y)) l c s o=moveS S x y c s o:=by
 have hS1:∀ c s o,(S c s o && !decide (c=y))=true↔S c s o=true/\c≠y:=fun c s o=>by simp
 rw[Bool.eq_iff_iff,moveS_iff]
 by_cases ho:o=y
 ·subst ho
  constructor
  ·intro h
   exfalso
   by_cases hc:c=o
   ·have:foldS x o (fun c s o_1=>S c s o_1 && !decide (c=o)) l c s o=false:=by
     subst hc
     have:∀ l:List (Int×Int),foldS x c (fun c' s o_1=>S c' s o_1 && !decide (c'=c)) l c s c=false:=by
      refine snoc_ind (by unfold foldS;simp) fun l p ih=>?_
      rw[foldS_snoc,Bool.eq_false_iff]
      intro h
      unfold stepS at h
      by_cases hp:p.2=c
      ·rw[if_pos hp,learnS_iff] at h
       rcases h with h | h | h
       ·rw[ih] at h;cases h
       ·exact hxy h.1.symm
       ·exact hxy h.1.symm
      ·rw[if_neg hp,learnS_iff,dropS_iff] at h
       rcases h with h | h | h
       ·rw[ih] at h;cases h.1
       ·exact hxy h.1.symm
       ·exact hp h.1.symm
     exact this l
    rw[this] at h;cases h
   ·obtain⟨h1,h2⟩:=(fold_more hxy hc l).mp h
    exact h2 ((hl _).mpr (hS _ _ _ ((hS1 _ _ _).mp h1).1))
  ·rintro ⟨⟨_,h⟩,_⟩;exact absurd rfl h
 ·rw[fold_other hxy ho]
  constructor
  ·rintro (h | ⟨p,hp,h⟩)
   ·exact⟨⟨((hS1 _ _ _).mp h).2,ho⟩,.inl ((hS1 _ _ _).mp h).1⟩
   ·have hp':=(hl p).mp hp
    rcases h with ⟨h1,h2,h3,h4⟩ | ⟨h1,⟨h2,h3,h4⟩ | ⟨h2,h3,h4⟩⟩
    ·refine⟨⟨by rw[h2];exact hxy,ho⟩,.inr (.inr (.inr ⟨h2,h3,?_⟩))⟩
     rw[h1] at hp'
     rcases h4 with h4 | h4
     ·rw[h4];exact hp'
     ·rw[h4];exact hS _ _ _ hp'
    ·refine⟨⟨by rw[h2];exact hxy,ho⟩,.inr (.inl ⟨h2,by rw[h3,h4];exact hp'⟩)⟩
    ·refine⟨⟨by rw[h2];exact h1,ho⟩,.inr (.inr (.inl ⟨h4,by rw[h2,h3];exact hS _ _ _ hp'⟩))⟩
  ·rintro ⟨⟨hc,_⟩,h | ⟨h1,h2⟩ | ⟨h1,h2⟩ | ⟨h1,h2,h3⟩⟩
   ·exact .inl ((hS1 _ _ _).mpr ⟨h,hc⟩)
   ·exact .inr ⟨(s,o),(hl _).mpr h2,.inr ⟨ho,.inl ⟨h1,rfl,rfl⟩⟩⟩
   ·exact .inr ⟨(-s,c),(hl _).mpr (hS _ _ _ h2),.inr ⟨hc,.inr ⟨rfl,(Int.neg_neg s).symm,h1⟩⟩⟩
   ·exact .inr ⟨(s,y),(hl _).mpr h3,.inl ⟨rfl,h1,h2,.inl rfl⟩⟩
theorem move_sym {S:Rel3}(h:SymS S)(x y:Int):SymS (moveS S x y):=fun c s o q=>by
 rw[moveS_iff] at q ⊢
 obtain⟨⟨h1,h2⟩,q⟩:=q
 refine⟨⟨h2,h1⟩,?_⟩
 rcases q with q | ⟨e,q⟩ | ⟨e,q⟩ | ⟨e1,e2,q⟩
 ·exact .inl (h _ _ _ q)
 ·exact .inr (.inr (.inl ⟨e,h _ _ _ q⟩))
 ·exact .inr (.inl ⟨e,h _ _ _ q⟩)
 ·exact .inr (.inr (.inr ⟨e2,e1,h _ _ _ q⟩))
theorem learn_sym {S:Rel3}(h:SymS S)(c s o:Int):SymS (learnS S c s o):=fun c' s' o' q=>by
 rw[learnS_iff] at q ⊢
 rcases q with q | ⟨e1,e2,e3⟩ | ⟨e1,e2,e3⟩
 ·exact .inl (h _ _ _ q)
 ·exact .inr (.inr ⟨e3,by rw[e2],e1⟩)
 ·exact .inr (.inl ⟨e3,by rw[e2,Int.neg_neg],e1⟩)
def NE (J:JS):Prop:=∀ c s e,J.E c s=some e->∃ o,J.S c s o=true
def offD (J:JS)(y:Int):Int->Option Addr:=fun c=>if c=y then none else J.D c
def spPlace (C:Addr):Sp:=fun vs H Q _=>∃(r:Addr) (a:JA) (J:JS) (x y:Int),vs=[.ref r,.int x,.int y]/\JAt C H r a J/\Bd J/\x≠y/\(∃ d,J.D x=some d)/\(∃ d,J.D y=some d)/\SymS J.S/\NE J/\
 ∀ E' H',ButJ (Kown a.aK J.D J.E) H H'->JAt C H' r a { J with D:=offD J y,E:=E',S:=moveS J.S x y }->(∀ b,Kown a.aK (offD J y) E' b->Kown a.aK J.D J.E b\/H b=none)->NE { J with D:=offD J y,E:=E',S:=moveS J.S x y }->Bd { J with D:=offD J y,E:=E',S:=moveS J.S x y }->Q .non H'
structure PlaceI (C r:Addr) (a:JA) (J:JS) (H:Hp) (y:Int) (dy:Addr) (ud:HO) (fz:Addr->HO->HO) (S2:Rel3) (E2:Int->Int->Option Addr) (Hc:Hp):Prop where
 j:JAt C Hc r a { J with D:=offD J y,E:=E2,S:=S2 }
 d:Hc dy=some ud
 g:∀ s e u,J.E y s=some e->H e=some u->Hc e=some (fz e u)
 o:∀ b,Kown a.aK (offD J y) E2 b->(Kown a.aK J.D J.E b\/H b=none)/\b≠dy/\∀ s,J.E y s≠some b
 b:ButJ (Kown a.aK J.D J.E) H Hc
 bd:Bd { J with D:=offD J y,E:=E2,S:=S2 }
 ne:∀ c s e,E2 c s=some e->(J.E c s=some e/\c≠y)\/∃ o,o≠y/\S2 c s o=true
 ex:∀ c s e,c≠y->J.E c s=some e->E2 c s=some e
section
variable {C r:Addr} {a:JA} {J:JS} {H:Hp} {y:Int} {dy:Addr} {ud:HO} {fz:Addr->HO->HO} {S2:Rel3} {E2:Int->Int->Option Addr} {Hc:Hp}
theorem PlaceI.learn (hj:JAt C H r a J)(h:PlaceI C r a J H y dy ud fz S2 E2 Hc){c s o:Int}(hc:c≠y)(ho:o≠y)(bc:0<=c/\c < 100000)(bo:0<=o/\o < 100000)(bs: -1000 < s/\s < 1000){E3:Int->Int->Option Addr}{H3:Hp}(hB:ButJ (Kown a.aK (offD J y) E2) Hc H3)
 (j3:JAt C H3 r a { J with D:=offD J y,E:=E3,S:=learnS S2 c s o }) (hO:∀ b,Kown a.aK (offD J y) E3 b->Kown a.aK (offD J y) E2 b\/Hc b=none) (hE:∀ c' s',E3 c' s'=E2 c' s'\/(E2 c' s'=none/\((c'=c/\s'=s)\/(c'=o/\s'= -s)))):
 PlaceI C r a J H y dy ud fz (learnS S2 c s o) E3 H3:=by
 have gone:∀ s e,J.E y s=some e->∃ u,H e=some u:=fun s e q=>by obtain⟨kvs,w⟩:=hj.kn.there (.inr (.inr ⟨y,s,q⟩));exact⟨_,w⟩
 refine⟨j3,hB _ _ (fun z=>(h.o _ z).2.1 rfl) h.d,fun s' e u q1 q2=>hB _ _ (fun z=>(h.o _ z).2.2 _ q1) (h.g s' e u q1 q2),fun b z=>?_,h.b.trans hB fun b z=>(h.o b z).1,⟨h.bd.d,fun c' s' x q=>?_,fun c' s' o' q=>?_⟩,fun c' s' e q=>?_,fun c' s' e n q=>?_⟩
 ·rcases hO b z with z | z
  ·exact h.o b z
  ·refine⟨?_,(fun q=>by rw[q,h.d] at z;cases z),fun s' q=>?_⟩
   ·by_cases w:Kown a.aK J.D J.E b
    ·exact .inl w
    ·refine .inr ?_
     cases q:H b with
     | none=>rfl
     | some u=>rw[h.b b u w q] at z;cases z
   ·obtain⟨u,w⟩:=gone _ _ q
    rw[h.g _ _ _ q w] at z;cases z
 ·replace q:E3 c' s'=some x:=q
  rcases hE c' s' with w | ⟨_,⟨_,w⟩ | ⟨_,w⟩⟩
  ·rw[w] at q;exact h.bd.e _ _ _ q
  ·omega
  ·omega
 ·replace q:learnS S2 c s o c' s' o'=true:=q
  rw[learnS_iff] at q
  rcases q with q | ⟨_,_,q⟩ | ⟨_,_,q⟩
  ·exact h.bd.s _ _ _ q
  ·omega
  ·omega
 ·rcases hE c' s' with w | ⟨_,⟨w1,w2⟩ | ⟨w1,w2⟩⟩
  ·rw[w] at q
   rcases h.ne _ _ _ q with z | ⟨o',z1,z2⟩
   ·exact .inl z
   ·exact .inr ⟨o',z1,learnS_iff.mpr (.inl z2)⟩
  ·exact .inr ⟨o,ho,learnS_iff.mpr (.inr (.inl ⟨w1,w2,rfl⟩))⟩
  ·exact .inr ⟨c,hc,learnS_iff.mpr (.inr (.inr ⟨w1,w2,rfl⟩))⟩
 ·have z:=h.ex _ _ _ n q
  rcases hE c' s' with w | ⟨w,_⟩
  ·rw[w];exact z
  ·rw[z] at w;cases w
theorem PlaceI.pop (h:PlaceI C r a J H y dy ud fz S2 E2 Hc){c s:Int}{e:Addr}(he:E2 c s=some e){kvs:List (Key×V)}(hk:Hc e=some (.dK kvs)):
 PlaceI C r a J H y dy ud fz (dropS S2 c s y) E2 (upd Hc e (.dK (dropK kvs (Sum.inl y)))):=by
 have oe:Kown a.aK (offD J y) E2 e:=.inr (.inr ⟨c,s,he⟩)
 have bt:∀ b u,b≠e->Hc b=some u->upd Hc e (.dK (dropK kvs (Sum.inl y))) b=some u:=fun b u n q=>by rw[upd_ne n];exact q
 refine⟨⟨bt _ _ (h.j.norK oe) h.j.ins,wds_keep h.j.wds fun b u n1 _ q=>bt b u (fun z=>?_) q,h.j.kn.dropMem he hk y⟩,bt _ _ (fun z=>(h.o _ oe).2.1 z.symm) h.d,fun s' e' u q1 q2=>bt _ _ (fun z=>(h.o _ oe).2.2 s' (by rw[← z];exact q1)) (h.g s' e' u q1 q2),h.o,fun b u n q=>bt b u (fun z=>?_) (h.b b u n q),⟨h.bd.d,h.bd.e,fun c' s' o' q=>h.bd.s _ _ _ (dropS_iff.mp q).1⟩,fun c' s' e' q=>?_,h.ex⟩
 ·subst z;rw[hk] at q;exact n1 _ (Option.some.inj q).symm
 ·rcases (h.o _ oe).1 with w | w
  ·exact n (by rw[z];exact w)
  ·rw[z,w] at q;cases q
 ·rcases h.ne _ _ _ q with z | ⟨o',z1,z2⟩
  ·exact .inl z
  ·exact .inr ⟨o',z1,dropS_iff.mpr ⟨z2,fun w=>z1 w.2.2⟩⟩
theorem PlaceI.frz (h:PlaceI C r a J H y dy ud fz S2 E2 Hc){b:Addr}{u:HO}{fz':Addr->HO->HO}{ud':HO}(hn:¬ Kown a.aK (offD J y) E2 b)(hr:b≠r)(hw:∀ o,Hc b=some o->(∀ xs,o≠.lst xs)/\∀ xs,o≠.tup xs)(ho:Kown a.aK J.D J.E b)(hd:upd Hc b u dy=some ud')
 (hg:∀ s e v,J.E y s=some e->H e=some v->upd Hc b u e=some (fz' e v)):PlaceI C r a J H y dy ud' fz' S2 E2 (upd Hc b u):=by
 have bt:∀ c v,c≠b->Hc c=some v->upd Hc b u c=some v:=fun c v n q=>by rw[upd_ne n];exact q
 refine⟨⟨bt _ _ hr.symm h.j.ins,?_,h.j.kn.keep fun c v z q=>bt c v (fun w=>hn (by rw[← w];exact z)) q⟩,hd,hg,h.o,fun c v n q=>bt c v (fun z=>n (by rw[z];exact ho)) (h.b c v n q),h.bd,h.ne,h.ex⟩
 obtain⟨ps,w1,w2⟩:=h.j.wds
 exact⟨ps,bt _ _ (fun z=>(hw _ (by rw[← z];exact w1)).1 _ rfl) w1,w2.keep fun p xs q=>bt _ _ (fun z=>(hw _ (by rw[← z];exact q)).2 _ rfl) q⟩
end
def ik:Key->Int
 | Sum.inl i=>i
 | Sum.inr _=>0
def clL (H:Hp)(v:V):List (Key×V):=match v with
 | .ref e=>match H e with
   | some (.dK l)=>l
   | _=>[]
 | _=>[]
def prs (H:Hp)(kv:Key×V):List (Int×Int):=(clL H kv.2).map fun k2=>(ik kv.1,ik k2.1)
def doneL (H:Hp)(kvs:List (Key×V))(i:Nat):List (Int×Int):=(kvs.take i).flatMap (prs H)
theorem doneL_succ {H:Hp}{kvs:List (Key×V)}{i:Nat}{kv:Key×V}(h:kvs[i]?=some kv):doneL H kvs (i+ 1)=doneL H kvs i++prs H kv:=by
 unfold doneL
 rw[List.take_succ,h,List.flatMap_append]
 simp
theorem jl_none (L c m:Int)(a:JA){x:Str}(h:x∉(["letters","words","common","made","known"]:List Str)):(jfl L c m a).lookup x=none:=by
 simp only[List.mem_cons,List.not_mem_nil,or_false,not_or] at h
 obtain⟨h1,h2,h3,h4,h5⟩:=h
 have f:∀ y:Str,¬ x=y->(x==y)=false:=fun y q=>beq_eq_false_iff_ne.mpr q
 unfold jfl
 rw[List.lookup_cons,f _ h1,List.lookup_cons,f _ h2,List.lookup_cons,f _ h3,List.lookup_cons,f _ h4,List.lookup_cons,f _ h5]
 rfl
theorem done_mem {H:Hp}{kvs:List (Key×V)}{i:Nat}{p:Int×Int}(h:p∈doneL H kvs i):∃ i' kv,i' < i/\kvs[i']?=some kv/\p∈prs H kv:=by
 unfold doneL at h
 obtain⟨kv,hk,hp⟩:=List.mem_flatMap.mp h
 obtain⟨i',hi,e⟩:=List.getElem_of_mem hk
 rw[List.length_take] at hi
 rw[List.getElem_take] at e
 exact⟨i',kv,by omega,by rw[List.getElem?_eq_getElem (by omega),e],hp⟩
theorem done_of {H:Hp}{kvs:List (Key×V)}{kv:Key×V}{p:Int×Int}(hk:kv∈kvs)(hp:p∈prs H kv):p∈doneL H kvs kvs.length:=by
 unfold doneL
 rw[List.take_length]
 exact List.mem_flatMap.mpr ⟨kv,hk,hp⟩
theorem key_at {kvs:List (Key×V)}(hn:(kvs.map (·.1)).Nodup){i j:Nat}{k1 k2:Key×V}(h1:kvs[i]?=some k1)(h2:kvs[j]?=some k2)(e:k1.1=k2.1):i=j:=by
 have e1:(kvs.map (·.1))[i]?=some k1.1:=by rw[List.getElem?_map,h1];rfl
 have e2:(kvs.map (·.1))[j]?=some k1.1:=by rw[List.getElem?_map,h2,e];rfl
 obtain⟨l1,q1⟩:=List.getElem?_eq_some_iff.mp e1
 obtain⟨l2,q2⟩:=List.getElem?_eq_some_iff.mp e2
 exact(List.getElem_inj hn).mp (q1.trans q2.symm)
theorem nlt_dK {Hc:Hp}{b:Addr}{kvs:List (Key×V)}(h:Hc b=some (.dK kvs)):∀ o,Hc b=some o->(∀ xs,o≠.lst xs)/\∀ xs,o≠.tup xs:=fun o q=>by
 rw[h] at q
 obtain rfl:=Option.some.inj q
 exact⟨(fun xs z=>by cases z),fun xs z=>by cases z⟩
theorem nlt_frz {Hc:Hp}{b:Addr}{ob:Obj}{u:HO}(h:Hc b=some (.frz ob u)):∀ o,Hc b=some o->(∀ xs,o≠.lst xs)/\∀ xs,o≠.tup xs:=fun o q=>by
 rw[h] at q
 obtain rfl:=Option.some.inj q
 exact⟨(fun xs z=>by cases z),fun xs z=>by cases z⟩
theorem ok_Judge_put_in_place (T:Txt K mg A):FnOk P w K mg base CX0 2 A.f_Judge_put_in_place A.d_Judge_put_in_place ["self","less","more"] (spPlace A.c_Judge):=by
 have G_Judge_learn:FnOk P w K mg base CX0 1 A.f_Judge_learn A.d_Judge_learn ["self","room","step","other"] (spLearn A.c_Judge):=ok_Judge_learn T
 refine T.Judge_put_in_place.F.ok sc_Judge_put_in_place (fun vs H Q E h=>?_) (fun cdv AA outer s H vs Q E hr h=>?_)
 ·obtain⟨r,a,J,x,y,rfl,_⟩:=h
  rfl
 ·obtain⟨r,a,J,x,y,rfl,h,hb,hxy,hx,hy,hS,hN,k⟩:=h
  have hu2:=hu_of hr
  refine⟨_,(pss_cons (ps_set (i:=3) sc_Judge_put_in_place.nd rfl (Or.inl rfl) (pe_dpop1 (pe_fld (pv 0) rfl) (pv 2) ⟨rfl,rfl,rfl,rfl⟩))
   (pss_one (ps_thaw (ps_for PassesOwn.never rfl (pi_dK (pv 3)) (pg_name (i:=4) sc_Judge_put_in_place.nd rfl (Or.inl rfl))
    (pss_one (ps_thaw (ps_for PassesOwn.never rfl (pi_dK (pe_dget hu2 (pv 3) (pv 4) (fun _ _=>rfl))) (pg_name (i:=5) sc_Judge_put_in_place.nd rfl (Or.inl rfl))
     (pss_one (ps_cut (ps_if (pt_cmpR op_eq (pv 5) (pv 2) (nomark _))
      (pss_one (ps_expr (pe_meth (pv 0) (cl_Judge T) T.Judge_learn.m (G_Judge_learn) (hr.mono (by decide)) T.Judge_learn.b .nil pass0 (pa_cons (pv 1) (pa_cons (pv 4) (pa_cons (pv 1) pa_nil))))))
      (pss_cons (ps_expr (pe_dpop1 (pe_dget hu2 (pe_dget hu2 (pe_fld (pv 0) rfl) (pv 5) (fun _ _=>rfl)) (pe_un un_neg (pv 4)) (fun _ _=>rfl)) (pv 2) ⟨rfl,rfl,rfl,rfl⟩))
      (pss_one (ps_expr (pe_meth (pv 0) (cl_Judge T) T.Judge_learn.m (G_Judge_learn) (hr.mono (by decide)) T.Judge_learn.b .nil pass0 (pa_cons (pv 1) (pa_cons (pv 4) (pa_cons (pv 5) pa_nil))))))))))))))))),?_⟩
  try dsimp only[cx_noxK,cx_K]
  refine seq_let1 ?_
  intro u_1
  obtain⟨dx,hdx⟩:=hx
  obtain⟨dy,hdy⟩:=hy
  obtain⟨kvs,h1,h2,h3,h4⟩:=h.kn.topL
  refine⟨_,rfl,r,_,a.dx,_,_,rfl,h.ins,cl_Judge T,T.n_known,jl_known _ _ _ _,a.aK,rfl,.inl ⟨_,.inl h1⟩,_,rfl,kvs,Sum.inl y,.ref dy,h1,rfl,(by rw[h4,hdy];rfl),?_⟩
  have k1:=h.kn.dropRoom y h1
  obtain⟨kvs1,g1,g2,g3,g4⟩:=h.kn.rowL hdy
  have ody:Kown a.aK J.D J.E dy:=.inr (.inl ⟨y,hdy⟩)
  have ndk:dy≠a.aK:=h.kn.nd _ _ hdy
  have oaK:Kown a.aK J.D J.E a.aK:=.inl rfl
  have nrd:dy≠r:=(h.norK ody).symm
  have hxd:offD J y x=some dx:=by unfold offD;rw[if_neg hxy];exact hdx
  have bx:=hb.d _ _ hdx
  have P1:PlaceI A.c_Judge r a J H y dy (.dK kvs1) (fun _ u=>u) (foldS x y (fun c s o=>J.S c s o && !decide (c=y)) []) (fun c s=>if c=y then none else J.E c s) (upd H a.aK (.dK (dropK kvs (Sum.inl y)))):=by
   have un:∀{c:Int} {p q:Option Addr} {z:Addr},(if c=y then p else q)=some z->p=none->c≠y/\q=some z:=fun{c p q z} w hp=>by
    by_cases e:c=y
    ·rw[if_pos e,hp] at w;cases w
    ·rw[if_neg e] at w;exact⟨e,w⟩
   refine⟨⟨by rw[upd_ne (h.norK oaK)];exact h.ins,wds_keep h.wds fun b o n1 _ q=>?_,k1⟩,by rw[upd_ne ndk];exact g1,fun s e u q1 q2=>by rw[upd_ne (h.kn.ne _ _ _ q1)];exact q2,fun b z=>?_,fun b o n q=>?_,⟨fun c d q=>hb.d _ _ (un q rfl).2,fun c s e q=>hb.e _ _ _ (un q rfl).2,fun c s o q=>?_⟩,fun c s e q=>.inl ⟨(un q rfl).2,(un q rfl).1⟩,fun c s e n q=>by show (if c=y then none else J.E c s)=some e;rw[if_neg n];exact q⟩
   ·rw[upd_ne (ne_of q h1 (n1 _))];exact q
   ·rcases z with rfl | ⟨c,z⟩ | ⟨c,s,z⟩
    ·exact⟨.inl oaK,ndk.symm,fun s q=>h.kn.ne _ _ _ q rfl⟩
    ·obtain⟨n,z⟩:=un z rfl
     exact⟨.inl (.inr (.inl ⟨c,z⟩)),fun q=>n (h.kn.dd _ _ _ z (by rw[q];exact hdy)),fun s q=>h.kn.de _ _ _ _ z q⟩
    ·obtain⟨n,z⟩:=un z rfl
     exact⟨.inl (.inr (.inr ⟨c,s,z⟩)),fun q=>h.kn.de _ _ _ _ hdy (by rw[← q];exact z),fun s' q=>n (h.kn.ee _ _ _ _ _ z q).1⟩
   ·rw[upd_ne (fun z=>n (by rw[z];exact oaK))];exact q
   ·exact hb.s c s o (Bool.and_eq_true_iff.mp q).1
  clear k1
  generalize upd H a.aK (.dK (dropK kvs (Sum.inl y)))=H1 at P1 ⊢
  have cellv:∀ kv∈kvs1,∃ s e k2,kv=(Sum.inl s,V.ref e)/\J.E y s=some e/\H e=some (.dK k2)/\(k2.map (·.1)).Nodup/\(∀ q∈k2,∃ i:Int,q.1=Sum.inl i)/\(∀ i:Int,valV k2 (Sum.inl i)=if J.S y s i=true then some (.bl true) else none)/\prs H kv=k2.map fun q=>(s,ik q.1):=fun kv hk=>by
   obtain⟨s,hs⟩:=g3 kv hk
   have hv:=valV_mem g2 hk
   rw[hs,g4] at hv
   cases hE:J.E y s with
   | none=>rw[hE] at hv;cases hv
   | some e=>
     rw[hE] at hv
     obtain⟨k2,c1,c2,c3,c4⟩:=h.kn.celL hE
     have e2:V.ref e=kv.2:=Option.some.inj hv
     refine⟨s,e,k2,by rw[e2,← hs],hE,c1,c2,c3,c4,?_⟩
     unfold prs
     rw[← e2,hs]
     show (match H e with | some (.dK l)=>l | _=>[]).map _=_
     rw[c1]
     rfl
  refine⟨dy,.dK kvs1,P1.d,True.intro,?_⟩
  refine⟨_,rfl,dy,kvs1,rfl,P1.d,fun o1=>?_⟩
  have nody:∀{E2:Int->Int->Option Addr} {S2:Rel3} {ud:HO} {fz:Addr->HO->HO} {Hc:Hp},PlaceI A.c_Judge r a J H y dy ud fz S2 E2 Hc->¬ Kown a.aK (offD J y) E2 dy:=fun p z=>(p.o _ z).2.1 rfl
  refine for_dK (d:=dy) (o:=o1) (kvs:=kvs1) (fun i σ Hc=>∃ E2 v4 v5,σ=[some (.ref r),some (.int x),some (.int y),some (.ref dy),v4,v5]/\PlaceI A.c_Judge r a J H y dy (.frz o1 (.dK kvs1)) (fun _ u=>u) (foldS x y (fun c s o=>J.S c s o && !decide (c=y)) (doneL H kvs1 i)) E2 Hc)
   ⟨_,none,none,rfl,P1.frz (nody P1) nrd (nlt_dK P1.d) ody upd_same fun s e v q1 q2=>?_⟩ (fun i σ Hc _ ⟨_,_,_,_,p⟩=>p.d) ?_ ?_
  ·rw[upd_ne (fun z=>h.kn.de _ _ _ _ hdy (by rw[← z];exact q1))]
   exact P1.g s e v q1 q2
  ·rintro i kv σ Hc hi ⟨E2,v4,v5,rfl,p⟩
   have hkm:=List.mem_of_getElem? hi
   obtain⟨s,e,k2,rfl,hE,c1,c2,c3,c4,c5⟩:=cellv kv hkm
   have oe:Kown a.aK J.D J.E e:=.inr (.inr ⟨y,s,hE⟩)
   have nre:e≠r:=(h.norK oe).symm
   have ned:e≠dy:=fun z=>h.kn.de _ _ _ _ hdy (by rw[← z];exact hE)
   have noe:∀{E2:Int->Int->Option Addr} {S2:Rel3} {ud:HO} {fz:Addr->HO->HO} {Hc:Hp},PlaceI A.c_Judge r a J H y dy ud fz S2 E2 Hc->¬ Kown a.aK (offD J y) E2 e:=fun p z=>(p.o _ z).2.2 s hE
   have bs:=hb.e _ _ _ hE
   have hce:Hc e=some (.dK k2):=p.g s e _ hE c1
   refine⟨e,.dK k2,hce,True.intro,?_⟩
   have hget:DGet Hc dy (.int s) (some (.ref e)):=.inl ⟨kvs1,Sum.inl s,.inr ⟨o1,p.d⟩,rfl,by rw[g4,hE];rfl⟩
   refine⟨_,rfl,_,rfl,dy,_,rfl,hget,e,k2,rfl,hce,fun o2=>?_⟩
   refine for_dK (d:=e) (o:=o2) (kvs:=k2) (fun j σ H2=>∃ E3 v5,σ=[some (.ref r),some (.int x),some (.int y),some (.ref dy),some (.int s),v5]/\PlaceI A.c_Judge r a J H y dy (.frz o1 (.dK kvs1)) (fun b u=>if b=e then .frz o2 u else u) (foldS x y (fun c s o=>J.S c s o && !decide (c=y)) (doneL H kvs1 i++(prs H (Sum.inl s,V.ref e)).take j)) E3 H2)
    ⟨E2,v5,rfl,?_⟩ (fun j σ H2 _ ⟨_,_,_,q⟩=>by have:=q.g s e _ hE c1;rw[if_pos rfl] at this;exact this) ?_ ?_
   ·rw[List.take_zero,List.append_nil]
    refine p.frz (noe p) nre (nlt_dK hce) oe (by rw[upd_ne ned.symm];exact p.d) fun s' e' v q1 q2=>?_
    by_cases ee:e'=e
    ·subst ee
     rw[upd_same,if_pos rfl]
     rw[c1] at q2
     rw[Option.some.inj q2]
    ·rw[upd_ne ee,if_neg ee]
     exact p.g s' e' v q1 q2
   ·rintro j kv2 σ H2 hj ⟨E3,v5',rfl,q⟩
    have hj2:=List.mem_of_getElem? hj
    obtain⟨o,ho⟩:=c3 kv2 hj2
    obtain⟨kk,vv⟩:=kv2
    replace ho:kk=Sum.inl o:=ho
    subst ho
    have hSo:J.S y s o=true:=by
     have:=valV_mem c2 hj2
     rw[c4] at this
     cases w:J.S y s o with
     | true=>rfl
     | false=>rw[w] at this;cases this
    have hso:=hS _ _ _ hSo
    have hpj:(prs H (Sum.inl s,V.ref e))[j]?=some (s,o):=by rw[c5,List.getElem?_map,hj];rfl
    have enext:doneL H kvs1 i++(prs H (Sum.inl s,V.ref e)).take (j+ 1)=(doneL H kvs1 i++(prs H (Sum.inl s,V.ref e)).take j)++[(s,o)]:=by
     rw[List.take_succ,hpj,List.append_assoc]
     rfl
    have hnew:(s,o)∉doneL H kvs1 i++(prs H (Sum.inl s,V.ref e)).take j:=by
     intro z
     rcases List.mem_append.mp z with z | z
     ·obtain⟨i',kv',hi',h1',h2'⟩:=done_mem z
      obtain⟨s',e',k2',rfl,_,_,_,_,_,c5'⟩:=cellv kv' (List.mem_of_getElem? h1')
      rw[c5'] at h2'
      obtain⟨w,_,w2⟩:=List.mem_map.mp h2'
      have:s'=s:=congrArg Prod.fst w2
      have:=key_at g2 h1' hi (by rw[this])
      omega
     ·obtain⟨j',hj',w⟩:=List.getElem_of_mem z
      rw[List.length_take] at hj'
      rw[List.getElem_take] at w
      have w2:(prs H (Sum.inl s,V.ref e))[j']?=some (s,o):=by rw[List.getElem?_eq_getElem (by omega),w]
      rw[c5,List.getElem?_map] at w2
      cases w3:k2[j']? with
      | none=>rw[w3] at w2;cases w2
      | some q2=>
        rw[w3] at w2
        obtain⟨i2,w4⟩:=c3 q2 (List.mem_of_getElem? w3)
        have w5:ik q2.1=o:=congrArg Prod.snd (Option.some.inj w2)
        rw[w4] at w5
        have:=key_at c2 w3 hj (by show q2.1=Sum.inl o;rw[w4];exact congrArg Sum.inl w5)
        omega
    refine⟨_,?_,fun _ _ z=>z⟩
    refine⟨_,rfl,_,rfl,rfl,_,rfl,ite2 (fun hh=>?_) (fun hh=>?_)⟩
    ·have eo:o=y:=by have:=of_decide_eq_true hh;injection this
     subst eo
     have hs1000: -1000 < s:=by
      have:=hS _ _ _ hSo
      obtain⟨e9,w⟩:=h.kn.se _ _ _ this
      have:=hb.e _ _ _ w
      omega
     refine⟨_,rfl,r,a.dx,_,rfl,q.j.ins,jl_none _ _ _ _ (by decide +kernel),_,rfl,_,rfl,_,rfl,r,a,_,x,s,x,rfl,q.j,q.bd,⟨dx,hxd⟩,⟨dx,hxd⟩,hs1000,by omega,fun E4 H4 hB j4 hO hE4=>?_⟩
     refine⟨E4,_,rfl,?_⟩
     rw[enext,foldS_snoc]
     unfold stepS
     rw[if_pos rfl]
     exact q.learn h hxy hxy bx bx ⟨hs1000,by omega⟩ hB j4 hO hE4
    ·have no:o≠y:=fun z=>hh (decide_eq_true (by rw[z];rfl))
     obtain⟨e9,w9⟩:=h.kn.se _ _ _ hso
     obtain⟨d9,v9⟩:=h.kn.ed _ _ _ w9
     have b9:=hb.e _ _ _ w9
     have bo:=hb.d _ _ v9
     have x9:=q.ex _ _ _ no w9
     have od9:offD J y o=some d9:=by unfold offD;rw[if_neg no];exact v9
     have s9:foldS x y (fun c s o=>J.S c s o && !decide (c=y)) (doneL H kvs1 i++(prs H (Sum.inl s,V.ref e)).take j) o (-s) y=true:=(fold_more hxy no _).mpr ⟨by simp[hso,no],by rw[Int.neg_neg];exact hnew⟩
     obtain⟨t1,a1,_,_,a4⟩:=q.j.kn.topL
     obtain⟨t2,b1,_,_,b4⟩:=KAt.rowL (E:=E3) q.j.kn od9
     obtain⟨t3,f1,_,_,f4⟩:=KAt.celL (E:=E3) q.j.kn x9
     have hs1000: -1000 < s:=by omega
     have dg1:DGet H2 a.aK (.int o) (some (.ref d9)):=.inl ⟨t1,Sum.inl o,.inl a1,rfl,by rw[a4 o];first | exact congrArg (Option.map V.ref) od9 | exact(congrArg (Option.map V.ref) od9).symm⟩
     have dg2:DGet H2 d9 (.int (-s)) (some (.ref e9)):=.inl ⟨t2,Sum.inl (-s),.inl b1,rfl,by rw[b4 (-s)];first | exact congrArg (Option.map V.ref) x9 | exact(congrArg (Option.map V.ref) x9).symm⟩
     refine⟨_,rfl,r,_,a.dx,_,_,rfl,q.j.ins,cl_Judge T,T.n_known,jl_known _ _ _ _,_,rfl,a.aK,_,rfl,dg1,_,rfl,s,rfl,d9,_,rfl,dg2,e9,rfl,.inl ⟨_,.inl f1⟩,_,rfl,t3,Sum.inl y,.bl true,f1,rfl,(f4 y).trans (if_pos s9),?_⟩
     have q':=q.pop x9 f1
     generalize upd H2 e9 (.dK (dropK t3 (Sum.inl y)))=H5 at q' ⊢
     refine⟨_,rfl,r,a.dx,_,rfl,q'.j.ins,jl_none _ _ _ _ (by decide +kernel),_,rfl,_,rfl,_,rfl,r,a,_,x,s,o,rfl,q'.j,q'.bd,⟨dx,hxd⟩,⟨d9,od9⟩,hs1000,by omega,fun E4 H4 hB j4 hO hE4=>?_⟩
     refine⟨E4,_,rfl,?_⟩
     rw[enext,foldS_snoc]
     unfold stepS
     rw[if_neg no]
     exact q'.learn h hxy no bx bo ⟨hs1000,by omega⟩ hB j4 hO hE4
   ·rintro σ H2 ⟨E3,v5',rfl,q⟩
    have hfe:=q.g s e _ hE c1
    rw[if_pos rfl] at hfe
    refine⟨o2,hfe,E3,_,_,rfl,?_⟩
    rw[doneL_succ hi]
    have etk:(prs H (Sum.inl s,V.ref e)).take k2.length=prs H (Sum.inl s,V.ref e):=List.take_of_length_le (by rw[c5,List.length_map];exact Nat.le_refl _)
    rw[etk] at q
    refine q.frz (noe q) nre (nlt_frz hfe) oe (by rw[upd_ne ned.symm];exact q.d) fun s' e' v q1 q2=>?_
    by_cases ee:e'=e
    ·subst ee
     rw[upd_same]
     rw[c1] at q2
     exact q2
    ·rw[upd_ne ee]
     have:=q.g s' e' v q1 q2
     rw[if_neg ee] at this
     exact this
  ·rintro σ Hc ⟨E2,v4,v5,rfl,p⟩
   refine⟨o1,p.d,?_⟩
   have hall:∀ q,q∈doneL H kvs1 kvs1.length↔J.S y q.1 q.2=true:=fun q=>by
    constructor
    ·intro z
     obtain⟨i',kv',_,h1',h2'⟩:=done_mem z
     obtain⟨s',e',k2',rfl,_,_,c2,c3,c4,c5⟩:=cellv kv' (List.mem_of_getElem? h1')
     rw[c5] at h2'
     obtain⟨w,w1,rfl⟩:=List.mem_map.mp h2'
     obtain⟨i2,w4⟩:=c3 w w1
     have w5:=valV_mem c2 w1
     rw[w4,c4] at w5
     show J.S y s' (ik w.1)=true
     rw[w4]
     cases w6:J.S y s' i2 with
     | true=>exact w6
     | false=>rw[w6] at w5;cases w5
    ·intro z
     obtain⟨e',hE'⟩:=h.kn.se _ _ _ z
     have w1:valV kvs1 (Sum.inl q.1)=some (.ref e'):=by rw[g4,hE'];rfl
     have w2:=mem_valV w1
     obtain⟨s',e2,k2',w3,hE2,_,c2,c3,c4,c5⟩:=cellv _ w2
     have w4:q.1=s':=Sum.inl.inj (congrArg Prod.fst w3)
     rw[← w4] at c4 c5
     refine done_of w2 ?_
     rw[c5]
     have w6:valV k2' (Sum.inl q.2)=some (.bl true):=by rw[c4,if_pos z]
     exact List.mem_map.mpr ⟨_,mem_valV w6,rfl⟩
   have eS:foldS x y (fun c s o=>J.S c s o && !decide (c=y)) (doneL H kvs1 kvs1.length)=moveS J.S x y:=funext fun c=>funext fun s=>funext fun o=>fold_all hS hxy hall c s o
   rw[eS] at p
   have p2:PlaceI A.c_Judge r a J H y dy (.dK kvs1) (fun _ u=>u) (moveS J.S x y) E2 (upd Hc dy (.dK kvs1)):=p.frz (nody p) nrd (nlt_frz p.d) ody upd_same fun s' e' v q1 q2=>by
    rw[upd_ne (fun z=>h.kn.de _ _ _ _ hdy (by rw[← z];exact q1))]
    exact p.g s' e' v q1 q2
   refine k E2 _ p2.b p2.j (fun b z=>(p2.o b z).1) (fun c s e q=>?_) p2.bd
   rcases p2.ne c s e q with ⟨w1,w2⟩ | ⟨o,_,w⟩
   ·obtain⟨o,ho⟩:=hN _ _ _ w1
    by_cases eo:o=y
    ·subst eo
     exact⟨x,moveS_iff.mpr ⟨⟨w2,hxy⟩,.inr (.inr (.inl ⟨rfl,ho⟩))⟩⟩
    ·exact⟨o,moveS_iff.mpr ⟨⟨w2,eo⟩,.inl ho⟩⟩
   ·exact⟨o,w⟩
structure JW (J:JS):Prop where
 bd:Bd J
 ne:NE J
 sy:SymS J.S
 dm:∀ c d,J.D c=some d->0<=c/\c < J.made
 L0:0<=J.L/\J.L<=900
 m1:1<=J.made/\J.made<=5000
theorem JW.std {J:JS}{H:Hp}{k:Addr}(h:JW J)(kn:KAt H k J.D J.E J.S){c s o:Int}(q:J.S c s o=true):(∃ d,J.D c=some d)/\∃ d,J.D o=some d:=by
 obtain⟨e,w⟩:=kn.se _ _ _ q
 obtain⟨e2,w2⟩:=kn.se _ _ _ (h.sy _ _ _ q)
 exact⟨kn.ed _ _ _ w,kn.ed _ _ _ w2⟩
def okNew (J:JS)(c s n:Int):Prop:=(∃ d,J.D c=some d)/\(1<=s.natAbs/\(s.natAbs:Int)<=J.L)/\J.E c s=none/\n=J.made
def newJ (J:JS)(c s n:Int)(E':Int->Int->Option Addr)(d:Addr):JS:={ J with made:=J.made+ 1,D:=fun x=>if x=n then some d else J.D x,E:=E',S:=learnS J.S c s n }
def spTNew (C:Addr):Sp:=fun vs H Q _=>∃(r:Addr) (a:JA) (J:JS) (c s n:Int),vs=[.ref r,.int c,.int s,.int n]/\JAt C H r a J/\JW J/\J.made < 5000/\
 (okNew J c s n->∀ E' d H',ButJ (Jown r a J) H H'->JAt C H' r a (newJ J c s n E' d)->(∀ b,Jown r a (newJ J c s n E' d) b->Jown r a J b\/H b=none)->JW (newJ J c s n E' d)->Q (.bl true) H')/\(¬ okNew J c s n->∀ H',Same H H'->Q (.bl false) H')
def meetJ (J:JS)(x y:Int)(E':Int->Int->Option Addr):JS:={ J with D:=offD J y,E:=E',S:=moveS J.S x y }
def spTMeet (C:Addr):Sp:=fun vs H Q _=>∃(r:Addr) (a:JA) (J:JS) (c s x y:Int),vs=[.ref r,.int c,.int s,.int x,.int y]/\JAt C H r a J/\JW J/\
 (x < y/\J.S c s x=true/\J.S c s y=true->∀ E' H',ButJ (Jown r a J) H H'->JAt C H' r a (meetJ J x y E')->(∀ b,Jown r a (meetJ J x y E') b->Jown r a J b\/H b=none)->JW (meetJ J x y E')->Q (.bl true) H')/\(¬ (x < y/\J.S c s x=true/\J.S c s y=true)->∀ H',Same H H'->Q (.bl false) H')
theorem jput_made (L c m n:Int)(a:JA):putF "made" (.int n) (jfl L c m a)=jfl L c n a:=by
 have h1:¬ (("letters":Str)="made"):=by decide +kernel
 have h2:¬ (("words":Str)="made"):=by decide +kernel
 have h3:¬ (("common":Str)="made"):=by decide +kernel
 unfold jfl
 simp only[putF,if_neg h1,if_neg h2,if_neg h3,if_true]
theorem ok_Judge_takes_meet (T:Txt K mg A):FnOk P w K mg base CX0 3 A.f_Judge_takes_meet A.d_Judge_takes_meet ["self","room","step","less","more"] (spTMeet A.c_Judge):=by
 have G_Judge_put_in_place:FnOk P w K mg base CX0 2 A.f_Judge_put_in_place A.d_Judge_put_in_place ["self","less","more"] (spPlace A.c_Judge):=ok_Judge_put_in_place T
 have G_Judge_knows:FnOk P w K mg base CX0 1 A.f_Judge_knows A.d_Judge_knows ["self","room","step","other"] (spKnows A.c_Judge):=ok_Judge_knows T
 refine T.Judge_takes_meet.F.ok sc_Judge_takes_meet (fun vs H Q E h=>?_) (fun cdv AA outer s H vs Q E hr h=>?_)
 ·obtain⟨r,a,J,c,s,x,y,rfl,_⟩:=h
  rfl
 ·obtain⟨r,a,J,c,s,x,y,rfl,h,hw,kT,kF⟩:=h
  refine⟨_,(pss_cons (ps_cut (ps_if (PW.pt (pw_or (pt_cmpR op_ge (pv 3) (pv 4) (nomark _)) (pw_or (pt_not (pt_val (pe_meth (pv 0) (cl_Judge T) T.Judge_knows.m (G_Judge_knows) (hr.mono (by decide)) T.Judge_knows.b .nil pass0 (pa_cons (pv 1) (pa_cons (pv 2) (pa_cons (pv 3) pa_nil)))))) (pw_or1 (pt_not (pt_val (pe_meth (pv 0) (cl_Judge T) T.Judge_knows.m (G_Judge_knows) (hr.mono (by decide)) T.Judge_knows.b .nil pass0 (pa_cons (pv 1) (pa_cons (pv 2) (pa_cons (pv 4) pa_nil))))))))))
   (pss_one (ps_ret pe_bl))
   pss_nil))
   (pss_cons (ps_expr (pe_meth (pv 0) (cl_Judge T) T.Judge_put_in_place.m (G_Judge_put_in_place) (hr.mono (by decide)) T.Judge_put_in_place.b .nil pass0 (pa_cons (pv 3) (pa_cons (pv 4) pa_nil))))
   (pss_one (ps_ret pe_bl)))),?_⟩
  try dsimp only[cx_noxK,cx_K]
  refine seq_let2 ?_
  intro u_2 u_1
  refine⟨fun σ' H'=>σ'=[some (.ref r),some (.int c),some (.int s),some (.int x),some (.int y)]/\Same H H'/\x < y/\J.S c s x=true/\J.S c s y=true,?_,?_⟩
  ·refine⟨_,rfl,_,rfl,_,_,rfl,rfl,_,rfl,ite2 (fun hh=>?_) (fun hh=>?_)⟩
   ·exact kF (fun z=>by have:y<=x:=of_decide_eq_true hh;omega) H (Same.refl H)
   ·have hxy:x < y:=Int.not_le.mp fun q=>hh (decide_eq_true q)
    refine⟨_,rfl,r,a.dx,_,rfl,h.ins,jl_none _ _ _ _ (by decide +kernel),_,rfl,_,rfl,_,rfl,r,a,J,c,s,x,rfl,h,fun H1 s1=>?_⟩
    cases hx:J.S c s x with
    | false=>exact⟨false,rfl,iteT (kF (fun z=>by rw[hx] at z;cases z.2.1) H1 s1)⟩
    | true=>
      refine⟨true,rfl,iteF ?_⟩
      have h1:=h.same s1
      refine⟨_,rfl,r,a.dx,_,rfl,h1.ins,jl_none _ _ _ _ (by decide +kernel),_,rfl,_,rfl,_,rfl,r,a,J,c,s,y,rfl,h1,fun H2 s2=>?_⟩
      cases hy:J.S c s y with
      | false=>exact⟨false,rfl,iteT (kF (fun z=>by rw[hy] at z;cases z.2.2) H2 (s1.trans s2))⟩
      | true=>exact⟨true,rfl,iteF ⟨rfl,s1.trans s2,hxy,rfl,rfl⟩⟩
  rintro σ' H1 ⟨rfl,s1,hxy,hx,hy⟩
  have h1:=h.same s1
  have dx:=(hw.std h.kn hx).2
  have dy:=(hw.std h.kn hy).2
  refine⟨_,rfl,r,a.dx,_,rfl,h1.ins,jl_none _ _ _ _ (by decide +kernel),_,rfl,_,rfl,r,a,J,x,y,rfl,h1,hw.bd,by omega,dx,dy,hw.sy,hw.ne,fun E' H2 hB j2 hO n2 b2=>?_⟩
  have hn:∀ b,H1 b=none->H b=none:=fun b q=>same_none s1 q
  refine kT ⟨hxy,hx,hy⟩ E' H2 ?_ j2 (fun b z=>?_) ⟨b2,n2,move_sym hw.sy _ _,fun c' d' q=>?_,hw.L0,hw.m1⟩
  ·exact fun b o n q=>hB b o (fun z=>n (.inr z)) (s1 _ _ q)
  ·rcases z with z | z
   ·exact .inl (.inl z)
   ·rcases hO b z with z | z
    ·exact .inl (.inr z)
    ·exact .inr (hn b z)
  ·replace q:(if c'=y then none else J.D c')=some d':=q
   by_cases e:c'=y
   ·rw[if_pos e] at q;cases q
   ·rw[if_neg e] at q;exact hw.dm _ _ q
theorem ok_Judge_takes_new (T:Txt K mg A):FnOk P w K mg base CX0 2 A.f_Judge_takes_new A.d_Judge_takes_new ["self","room","step","number"] (spTNew A.c_Judge):=by
 have G_Judge_learn:FnOk P w K mg base CX0 1 A.f_Judge_learn A.d_Judge_learn ["self","room","step","other"] (spLearn A.c_Judge):=ok_Judge_learn T
 have G_Judge_stands:FnOk P w K mg base CX0 1 A.f_Judge_stands A.d_Judge_stands ["self","room"] (spStands A.c_Judge):=ok_Judge_stands T
 refine T.Judge_takes_new.F.ok sc_Judge_takes_new (fun vs H Q E h=>?_) (fun cdv AA outer s H vs Q E hr h=>?_)
 ·obtain⟨r,a,J,c,s,n,rfl,_⟩:=h
  rfl
 ·obtain⟨r,a,J,c,s,n,rfl,h,hw,hm,kT,kF⟩:=h
  have hu2:=hu_of hr
  refine⟨_,(pss_cons (ps_cut (ps_if (PW.pt (pw_or (pt_not (pt_val (pe_meth (pv 0) (cl_Judge T) T.Judge_stands.m (G_Judge_stands) (hr.mono (by decide)) T.Judge_stands.b .nil pass0 (pa_cons (pv 1) pa_nil)))) (pw_or1 (pt_not (pt_chain op_le op_le pe_int (pe_callB call_abs rfl T.z_abs PyProof.Rows.boot_abs (pa_cons (pv 2) pa_nil)) (pe_fld (pv 0) rfl))))))
   (pss_one (ps_ret pe_bl))
   pss_nil))
   (pss_cons (ps_cut (ps_if (PW.pt (pw_or (pt_cmp (pc_din hu2 (pv 2) (pe_dget hu2 (pe_fld (pv 0) rfl) (pv 1) (fun _ _=>rfl)))) (pw_or1 (pt_cmpR op_ne (pv 3) (pe_fld (pv 0) rfl) (nomark _)))))
    (pss_one (ps_ret pe_bl))
    pss_nil))
   (pss_cons (ps_fld (pv 0) (pe_op op_add (pe_fld (pv 0) rfl) pe_int) rfl)
   (pss_cons (ps_dput hu2 (pe_fld (pv 0) rfl) (pv 3) pe_dnewK rfl)
   (pss_cons (ps_expr (pe_meth (pv 0) (cl_Judge T) T.Judge_learn.m (G_Judge_learn) (hr.mono (by decide)) T.Judge_learn.b .nil pass0 (pa_cons (pv 1) (pa_cons (pv 2) (pa_cons (pv 3) pa_nil)))))
   (pss_one (ps_ret pe_bl))))))),?_⟩
  try dsimp only[cx_noxK,cx_K]
  refine seq_let5 ?_
  intro u_5 u_4 u_3 u_2 u_1
  have hL:=hw.L0
  have ea:(if s < 0 then -s else s)=(s.natAbs:Int):=by split <;> omega
  refine⟨fun σ' H'=>σ'=[some (.ref r),some (.int c),some (.int s),some (.int n)]/\H'=H/\(∃ d,J.D c=some d)/\(1<=s.natAbs/\(s.natAbs:Int)<=J.L),?_,?_⟩
  ·refine⟨_,rfl,r,a.dx,_,rfl,h.ins,jl_none _ _ _ _ (by decide +kernel),_,rfl,r,a,J,c,rfl,h,?_⟩
   cases hD:J.D c with
   | none=>exact⟨false,rfl,iteT (kF (fun z=>by obtain⟨⟨d,q⟩,_⟩:=z;rw[hD] at q;cases q) H (Same.refl H))⟩
   | some d=>
     refine⟨true,rfl,iteF ?_⟩
     refine⟨_,rfl,_,rfl,_,_,rfl,rfl,_,rfl,?_⟩
     simp only[ea]
     have no:¬ (1<=s.natAbs/\(s.natAbs:Int)<=J.L)->Q (.bl false) H:=fun q=>kF (fun z=>q z.2.1) H (Same.refl H)
     refine ite2 (fun h1=>?_) (fun h1=>?_)
     ·have q1:(1:Int)<=(s.natAbs:Int):=of_decide_eq_true h1
      refine⟨_,rfl,r,_,a.dx,_,_,rfl,h.ins,cl_Judge T,T.n_letters,jl_letters _ _ _ _,_,_,rfl,rfl,_,rfl,?_⟩
      by_cases q2:(s.natAbs:Int)<=J.L
      ·rw[decide_eq_true q2]
       exact iteF ⟨rfl,rfl,⟨d,rfl⟩,by omega,q2⟩
      ·rw[decide_eq_false q2]
       exact iteT (no fun z=>q2 z.2)
     ·refine⟨false,rfl,iteT (no fun z=>h1 (decide_eq_true (by omega)))⟩
  rintro σ' H1 ⟨rfl,rfl,⟨dc,hdc⟩,hs⟩
  obtain⟨t1,a1,a2,a3,a4⟩:=h.kn.topL
  obtain⟨t2,b1,_,_,b4⟩:=h.kn.rowL hdc
  have dg1:DGet H1 a.aK (.int c) (some (.ref dc)):=.inl ⟨t1,Sum.inl c,.inl a1,rfl,by rw[a4,hdc];rfl⟩
  refine⟨fun σ' H'=>σ'=[some (.ref r),some (.int c),some (.int s),some (.int n)]/\H'=H1/\J.E c s=none/\n=J.made,?_,?_⟩
  ·refine⟨_,rfl,_,rfl,r,_,a.dx,_,_,rfl,h.ins,cl_Judge T,T.n_known,jl_known _ _ _ _,_,rfl,a.aK,_,rfl,dg1,dc,_,rfl,DGet.k (k:=Sum.inl s) b1,_,rfl,?_⟩
   rw[b4]
   cases hE:J.E c s with
   | some e=>exact iteT (kF (fun z=>by have:=z.2.2.1;rw[hE] at this;cases this) H1 (Same.refl H1))
   | none=>
     refine iteF ?_
     refine⟨_,rfl,_,rfl,r,_,a.dx,_,_,rfl,h.ins,cl_Judge T,T.n_made,jl_made _ _ _ _,rfl,_,rfl,?_⟩
     by_cases q:n=J.made
     ·exact iteNS (by rw[q]) ⟨rfl,rfl,rfl,q⟩
     ·refine ite2 (fun _=>kF (fun z=>q z.2.2.2) H1 (Same.refl H1)) (fun hh=>?_)
      have ne:¬ V.int n=V.int J.made:=fun z=>q (by injection z)
      exact absurd (by simp[ne]) hh
  rintro σ' H2 ⟨rfl,rfl,hE,rfl⟩
  have hm1:=hw.m1
  have hDn:J.D J.made=none:=by
   cases q:J.D J.made with
   | none=>rfl
   | some d=>have:=hw.dm _ _ q;omega
  refine⟨_,rfl,r,_,a.dx,_,_,rfl,h.ins,cl_Judge T,T.n_made,jl_made _ _ _ _,_,_,rfl,rfl,_,rfl,r,_,a.dx,_,rfl,h.ins,cl_Judge T,T.n_made,(by show 5 < 1000;decide),?_⟩
  rw[jput_made]
  have j3:JAt A.c_Judge (upd H2 r (.ins A.c_Judge a.dx (jfl J.L J.cm (J.made+ 1) a))) r a { J with made:=J.made+ 1 }:=
   ⟨upd_same,wds_keep h.wds fun b o _ n2 q=>by rw[upd_ne (ne_of q h.ins (n2 _ _ _))];exact q,h.kn.keep fun b o z q=>by rw[upd_ne (h.norK z).symm];exact q⟩
  have B3:∀ b o,b≠r->H2 b=some o->upd H2 r (.ins A.c_Judge a.dx (jfl J.L J.cm (J.made+ 1) a)) b=some o:=fun b o n q=>by rw[upd_ne n];exact q
  have N3:∀ b,upd H2 r (.ins A.c_Judge a.dx (jfl J.L J.cm (J.made+ 1) a)) b=none->H2 b=none:=fun b q=>by
   by_cases e:b=r
   ·rw[e,upd_same] at q;cases q
   ·rw[upd_ne e] at q;exact q
  generalize upd H2 r (.ins A.c_Judge a.dx (jfl J.L J.cm (J.made+ 1) a))=H3 at j3 B3 N3 ⊢
  intro d nd
  have s4:=Same.upd (o:=.dK []) nd
  have hd4:upd H3 d (.dK []) d=some (.dK []):=upd_same
  have j4:=j3.same s4
  have N4:∀ b,upd H3 d (.dK []) b=none->H3 b=none:=fun b q=>same_none s4 q
  generalize upd H3 d (.dK [])=H4 at s4 hd4 j4 N4 ⊢
  obtain⟨t4,c1,c2,c3,c4⟩:=j4.kn.topL
  have nwd:¬ Kown a.aK J.D J.E d:=fun z=>by obtain⟨kvs,q⟩:=j3.kn.there z;rw[nd] at q;cases q
  have lt4:t4.length < sizeLine:=sz_small (di_len (n:=100000) (lo:=0) c2 c3 c4 fun i v hv=>by
   cases q:J.D i with
   | none=>replace hv:(J.D i).map V.ref=some v:=hv;rw[q] at hv;cases hv
   | some x=>have:=hw.bd.d _ _ q;omega)
  refine⟨_,rfl,r,_,a.dx,_,_,rfl,j4.ins,cl_Judge T,T.n_known,jl_known _ _ _ _,_,rfl,a.aK,_,rfl,DPut.k (k:=Sum.inl J.made) c1 lt4,?_⟩
  have k5:=j4.kn.addRoom (n:=J.made) hDn c1 hd4 nwd
  have oK:Kown a.aK J.D J.E a.aK:=.inl rfl
  have j5:JAt A.c_Judge (upd H4 a.aK (.dK (putK t4 (Sum.inl J.made) (.ref d)))) r a { J with made:=J.made+ 1,D:=fun x=>if x=J.made then some d else J.D x }:=
   ⟨by rw[upd_ne (j4.norK oK)];exact j4.ins,wds_keep j4.wds fun b o n1 _ q=>by rw[upd_ne (ne_of q c1 (n1 _))];exact q,k5⟩
  have B5:∀ b o,b≠a.aK->H4 b=some o->upd H4 a.aK (.dK (putK t4 (Sum.inl J.made) (.ref d))) b=some o:=fun b o n q=>by rw[upd_ne n];exact q
  have N5:∀ b,upd H4 a.aK (.dK (putK t4 (Sum.inl J.made) (.ref d))) b=none->H4 b=none:=fun b q=>by
   by_cases e:b=a.aK
   ·rw[e,upd_same] at q;cases q
   ·rw[upd_ne e] at q;exact q
  generalize upd H4 a.aK (.dK (putK t4 (Sum.inl J.made) (.ref d)))=H5 at k5 j5 B5 N5 ⊢
  have bdc:=hw.bd.d _ _ hdc
  have b5:Bd { J with made:=J.made+ 1,D:=fun x=>if x=J.made then some d else J.D x }:=⟨fun c' x q=>by
   replace q:(if c'=J.made then some d else J.D c')=some x:=q
   by_cases e:c'=J.made
   ·omega
   ·rw[if_neg e] at q;exact hw.bd.d _ _ q,hw.bd.e,hw.bd.s⟩
  have dcm:(fun x=>if x=J.made then some d else J.D x) c=some dc:=by
   have:=hw.dm _ _ hdc
   show (if c=J.made then some d else J.D c)=some dc
   rw[if_neg (by omega)];exact hdc
  refine⟨_,rfl,r,a.dx,_,rfl,j5.ins,jl_none _ _ _ _ (by decide +kernel),_,rfl,_,rfl,_,rfl,r,a,_,c,s,J.made,rfl,j5,b5,⟨dc,dcm⟩,⟨d,if_pos rfl⟩,by omega,by omega,fun E' H6 hB j6 hO hE6=>?_⟩
  have ow:∀ b,Kown a.aK (fun x=>if x=J.made then some d else J.D x) J.E b->Kown a.aK J.D J.E b\/b=d:=fun b z=>by
   rcases z with z | ⟨c',z⟩ | z
   ·exact .inl (.inl z)
   ·replace z:(if c'=J.made then some d else J.D c')=some b:=z
    by_cases e:c'=J.made
    ·rw[if_pos e] at z;exact .inr (Option.some.inj z).symm
    ·rw[if_neg e] at z;exact .inl (.inr (.inl ⟨c',z⟩))
   ·exact .inl (.inr (.inr z))
  have hdn:H2 d=none:=N3 d nd
  refine kT ⟨⟨dc,hdc⟩,hs,hE,rfl⟩ E' d H6 (fun b o n q=>?_) j6 (fun b z=>?_) ⟨⟨b5.d,fun c' s' x q=>?_,fun c' s' o' q=>?_⟩,fun c' s' e q=>?_,learn_sym hw.sy _ _ _,fun c' x q=>?_,hw.L0,⟨by show 1<=J.made+ 1;omega,by show J.made+ 1<=5000;omega⟩⟩
  ·have nr:b≠r:=fun z=>n (.inl z)
   have nK:¬ Kown a.aK J.D J.E b:=fun z=>n (.inr z)
   refine hB b o (fun z=>?_) (B5 b o (fun z=>nK (.inl z)) (s4 _ _ (B3 b o nr q)))
   rcases ow b z with z | z
   ·exact nK z
   ·rw[z,hdn] at q;cases q
  ·rcases z with z | z
   ·exact .inl (.inl z)
   ·rcases hO b z with z | z
    ·rcases ow b z with z | z
     ·exact .inl (.inr z)
     ·exact .inr (by rw[z];exact hdn)
    ·exact .inr (N3 _ (N4 _ (N5 _ z)))
  ·replace q:E' c' s'=some x:=q
   rcases hE6 c' s' with w | ⟨_,⟨_,w⟩ | ⟨_,w⟩⟩
   ·rw[w] at q;exact hw.bd.e _ _ _ q
   ·omega
   ·omega
  ·replace q:learnS J.S c s J.made c' s' o'=true:=q
   rw[learnS_iff] at q
   rcases q with q | ⟨_,_,q⟩ | ⟨_,_,q⟩
   ·exact hw.bd.s _ _ _ q
   ·omega
   ·omega
  ·rcases hE6 c' s' with w | ⟨_,⟨w1,w2⟩ | ⟨w1,w2⟩⟩
   ·replace q:E' c' s'=some e:=q
    rw[w] at q
    obtain⟨o',z⟩:=hw.ne _ _ _ q
    exact⟨o',learnS_iff.mpr (.inl z)⟩
   ·exact⟨J.made,learnS_iff.mpr (.inr (.inl ⟨w1,w2,rfl⟩))⟩
   ·exact⟨c,learnS_iff.mpr (.inr (.inr ⟨w1,w2,rfl⟩))⟩
  ·replace q:(if c'=J.made then some d else J.D c')=some x:=q
   show 0<=c'/\c' < J.made+ 1
   by_cases e:c'=J.made
   ·omega
   ·rw[if_neg e] at q;have:=hw.dm _ _ q;omega
theorem iteN1 {x y:V}{A B:Prop}(h:¬ x=y)(k:A):if (!decide (x=y))=true then A else B:=by
 rw[if_pos (by simp[h])]
 exact k
theorem iteNS' {x y:V}{A B:Prop}(h:x=y)(k:B):if (!decide (x=y))=true then A else B:=by
 rw[if_neg (by simp[h])]
 exact k
def fitsP (J:JS)(wh:Nat)(p:List Int):Prop:=(∃ word,J.ws[wh]?=some word/\p.length=word.length+ 1)/\p.head?=p.getLast?/\((wh:Int) < J.cm\/p.head?=some 0)/\∀ c∈p,∃ d,J.D c=some d
def spFits (C:Addr):Sp:=fun vs H Q _=>∃(r:Addr) (a:JA) (J:JS) (wh:Nat) (q:Addr) (p:List Int),vs=[.ref r,.int wh,.ref q]/\JAt C H r a J/\wh < J.ws.length/\H q=some (.tup (intV p))/\p.length<=1000/\(∀ x∈J.ws,x.length<=1000)/\(fitsP J wh p->∀ H',Same H H'->Q (.bl true) H')/\(¬ fitsP J wh p->∀ H',Same H H'->Q (.bl false) H')
theorem word_at {H:Hp}{aW:Addr}{ws:List (List Int)}(h:WordsAt H aW ws){i:Nat}(hi:i < ws.length):∃(wps:List Addr) (wp:Addr),H aW=some (.lst (wps.map V.ref))/\atI (wps.map V.ref) (i:Int)=some (V.ref wp)/\H wp=some (.tup (intV (ws[i]'hi)))/\wps.length=ws.length:=by
 obtain⟨wps,h1,h2,h3⟩:=h
 have e:wps[i]?=some (wps[i]'(by omega)):=List.getElem?_eq_getElem (by omega)
 exact⟨wps,_,h1,atI_nat (by rw[List.getElem?_map,e];rfl),h3 i _ _ e (List.getElem?_eq_getElem hi),h2⟩
theorem last_at {p:List Int}{x:Int}(h:p.getLast?=some x):atI (intV p) (-1)=some (V.int x):=by
 obtain⟨ys,rfl⟩:=List.getLast?_eq_some_iff.mp h
 have e:intV (ys++[x])=intV ys++[V.int x]:=by unfold intV;rw[List.map_append];rfl
 rw[e]
 exact atI_last _ _
theorem first_at (c:Int)(r:List Int):atI (intV (c :: r)) 0=some (V.int c):=atI_nat (j:=0) rfl
theorem ok_Judge_fits (T:Txt K mg A):FnOk P w K mg base CX0 2 A.f_Judge_fits A.d_Judge_fits ["self","which","path"] (spFits A.c_Judge):=by
 have G_Judge_stands:FnOk P w K mg base CX0 1 A.f_Judge_stands A.d_Judge_stands ["self","room"] (spStands A.c_Judge):=ok_Judge_stands T
 refine T.Judge_fits.F.ok sc_Judge_fits (fun vs H Q E h=>?_) (fun cdv AA outer s H vs Q E hr h=>?_)
 ·obtain⟨r,a,J,wh,q,p,rfl,_⟩:=h
  rfl
 ·obtain⟨r,a,J,wh,q,p,rfl,h,hwh,hq,hpl,hwl,kT,kF⟩:=h
  refine⟨_,(pss_cons (ps_cut (ps_if (PW.pt (pw_or (pt_cmpR op_ne (pe_callB call_len_seq rfl T.z_len PySem.boot_len (pa_cons (pv 2) pa_nil)) (pe_op op_add (pe_callB call_len_seq rfl T.z_len PySem.boot_len (pa_cons (pe_ix ix_list (pe_fld (pv 0) rfl) (pv 1) (fun _ _=>rfl)) pa_nil)) pe_int) (nomark _)) (pw_or1 (pt_cmpR op_ne (pe_ix ix_tup (pv 2) pe_int (fun _ _=>rfl)) (pe_ix ix_tup (pv 2) (pe_un un_neg pe_int) (fun _ _=>rfl)) (nomark _)))))
   (pss_one (ps_ret pe_bl))
   pss_nil))
   (pss_cons (ps_cut (ps_if (PW.pt (pw_and (pt_cmpR op_ge (pv 1) (pe_fld (pv 0) rfl) (nomark _)) (pw_and1 (pt_cmpR op_ne (pe_ix ix_tup (pv 2) pe_int (fun _ _=>rfl)) pe_int (nomark _)))))
    (pss_one (ps_ret pe_bl))
    pss_nil))
   (pss_one (ps_ret (pe_callB (call_all rfl) rfl T.z_all PyProof.Rows.boot_all (pa_cons (pe_comp (fns:=["self"]) (ixs:=[0]) (cl:=_) rfl (pi_tup (pv 2)) (compScope1 rfl rfl (by decide +kernel) rfl (by decide +kernel) rfl (by decide +kernel) (by decide +kernel) rfl rfl rfl rfl) (fun C s H ex=>(pe_meth (pv 1) (cl_Judge T) T.Judge_stands.m (G_Judge_stands) (hr.mono (by decide)) T.Judge_stands.b .nil pass0 (pa_cons (pv 0) pa_nil)))) pa_nil)))))),?_⟩
  try dsimp only[cx_noxK,cx_K]
  refine seq_let2 ?_
  intro u_2 u_1
  obtain⟨wps,wp,hW,hat,hwp,hwn⟩:=word_at h.wds hwh
  have hwd:J.ws[wh]?=some (J.ws[wh]'hwh):=List.getElem?_eq_getElem hwh
  have hlw:=hwl _ (List.getElem_mem hwh)
  generalize J.ws[wh]'hwh=word at hwp hwd hlw
  refine⟨fun σ' H'=>σ'=[some (.ref r),some (.int wh),some (.ref q)]/\H'=H/\p.length=word.length+ 1/\p.head?=p.getLast?,?_,?_⟩
  ·refine⟨_,rfl,q,_,rfl,.inr (SqT.of hq),_,rfl,r,_,a.dx,_,_,rfl,h.ins,cl_Judge T,T.n_words,jl_words _ _ _ _,_,rfl,a.aW,_,_,_,rfl,rfl,SqL.of hW,hat,wp,_,rfl,.inr (SqT.of hwp),_,_,rfl,rfl,rfl,_,rfl,?_⟩
   simp only[ints_len]
   by_cases e:p.length=word.length+ 1
   ·refine iteNS (by rw[e];rfl) ?_
    cases hp:p with
    | nil=>rw[hp] at e;cases e
    | cons c0 rest=>
      obtain⟨x,hx⟩:∃ x,p.getLast?=some x:=by
       cases w:p.getLast? with
       | none=>rw[List.getLast?_eq_none_iff.mp w] at hp;cases hp
       | some x=>exact⟨x,rfl⟩
      refine⟨_,rfl,q,_,_,_,rfl,rfl,SqT.of hq,(by rw[hp];exact first_at c0 rest),_,rfl,1,rfl,q,_,_,_,rfl,rfl,SqT.of hq,last_at hx,rfl,_,rfl,?_⟩
      rw[← hp,hx]
      by_cases e2:c0=x
      ·exact iteNS (by rw[e2]) ⟨rfl,rfl,e,by rw[hp,e2];rfl⟩
      ·refine ite2 (fun _=>kF (fun z=>e2 ?_) H (Same.refl H)) (fun hh=>?_)
       ·have:=z.2.1
        rw[hx,hp] at this
        exact Option.some.inj this
       ·have ne:¬ V.int c0=V.int x:=fun z=>e2 (by injection z)
        exact absurd (by simp[ne]) hh
   ·refine ite2 (fun _=>kF (fun z=>e ?_) H (Same.refl H)) (fun hh=>?_)
    ·obtain⟨⟨w,z1,z2⟩,_⟩:=z
     rw[hwd] at z1
     rw[Option.some.inj z1];exact z2
    ·have ne:¬ V.int ((p.length:Nat):Int)=V.int ((word.length:Int)+ 1):=fun z=>e (by injection z with z;omega)
     exact absurd (by simp[ne]) hh
  rintro σ' H1 ⟨rfl,rfl,e1,e2⟩
  refine⟨fun σ' H'=>σ'=[some (.ref r),some (.int wh),some (.ref q)]/\H'=H1/\((wh:Int) < J.cm\/p.head?=some 0),?_,?_⟩
  ·refine⟨_,rfl,_,rfl,r,_,a.dx,_,_,rfl,h.ins,cl_Judge T,T.n_common,jl_common _ _ _ _,_,_,rfl,rfl,_,rfl,?_⟩
   by_cases e:J.cm<=(wh:Int)
   ·rw[decide_eq_true e]
    refine iteT ?_
    cases hp:p with
    | nil=>rw[hp] at e1;cases e1
    | cons c0 rest=>
      refine⟨_,rfl,q,_,_,_,rfl,rfl,SqT.of hq,(by rw[hp];exact first_at c0 rest),rfl,_,rfl,?_⟩
      by_cases e3:c0=0
      ·exact iteNS (by rw[e3]) ⟨rfl,rfl,.inr (by rw[e3];rfl)⟩
      ·refine ite2 (fun _=>kF (fun z=>?_) H1 (Same.refl H1)) (fun hh=>?_)
       ·rcases z.2.2.1 with w | w
        ·omega
        ·rw[hp] at w;exact e3 (Option.some.inj w)
       ·have ne:¬ V.int c0=V.int 0:=fun z=>e3 (by injection z)
        exact absurd (by simp[ne]) hh
   ·rw[decide_eq_false e]
    exact iteF ⟨rfl,rfl,.inl (by omega)⟩
  rintro σ' H2 ⟨rfl,rfl,e3⟩
  refine⟨_,rfl,q,rfl,⟨_,SqT.of hq⟩,?_⟩
  refine comp_pure (intV p) (fun v=>match v with | .int z=>.bl (J.D z).isSome | v=>v) (itt_go (SqT.of hq)) (itt_yld (SqT.of hq)) (itt_stop (SqT.of (K:=K) hq)) (by rw[ints_len];exact Nat.le_trans hpl (by decide)) (fun i x hx R hR=>?_) (fun D hD=>?_)
  ·obtain⟨z,rfl,_⟩:=ints_of_at hx
   exact⟨_,rfl,r,a.dx,_,rfl,h.ins,jl_none _ _ _ _ (by decide +kernel),_,rfl,r,a,J,z,rfl,h,hR⟩
  refine⟨D,p.map fun c=>(J.D c).isSome,rfl,?_,?_⟩
  ·have e:((intV p).map fun v=>match v with | .int z=>V.bl (J.D z).isSome | v=>v)=(p.map fun c=>(J.D c).isSome).map V.bl:=by
    unfold intV
    rw[List.map_map,List.map_map]
    rfl
   rw[e]
   exact SqL.of upd_same
  ·by_cases e4:∀ c∈p,∃ d,J.D c=some d
   ·have:(p.map fun c=>(J.D c).isSome).all id=true:=by
     rw[List.all_eq_true]
     intro b hb
     obtain⟨c,hc,rfl⟩:=List.mem_map.mp hb
     obtain⟨d,hd⟩:=e4 c hc
     rw[hd];rfl
    rw[this]
    exact kT ⟨⟨word,hwd,e1⟩,e2,e3,e4⟩ _ (Same.upd hD)
   ·have:(p.map fun c=>(J.D c).isSome).all id=false:=by
     rw[Bool.eq_false_iff]
     intro z
     rw[List.all_eq_true] at z
     refine e4 fun c hc=>?_
     have:=z _ (List.mem_map_of_mem hc)
     exact Option.isSome_iff_exists.mp this
    rw[this]
    exact kF (fun z=>e4 z.2.2.2) _ (Same.upd hD)
def okAt (J:JS)(p:List Int)(n k:Nat)(word:List Int)(c s o:Int):Prop:=J.ws[n]?=some word/\word[k]?=some s/\p[k]?=some c/\p[k+ 1]?=some o/\fitsP J n p/\∀(i:Nat) (s' c' o':Int),i≠k->word[i]?=some s'->p[i]?=some c'->p[i+ 1]?=some o'->J.S c' s' o'=true
def okRule (J:JS)(wh:Int)(p:List Int)(at_:Int):Prop:=∃(n k:Nat) (word:List Int) (c s o:Int),wh=n/\at_=k/\okAt J p n k word c s o
def ruleJ (J:JS)(c s o:Int)(E':Int->Int->Option Addr):JS:={ J with E:=E',S:=learnS J.S c s o }
def spTRule (C:Addr):Sp:=fun vs H Q _=>∃(r:Addr) (a:JA) (J:JS) (wh:Int) (q:Addr) (p:List Int) (at_:Int),vs=[.ref r,.int wh,.ref q,.int at_]/\JAt C H r a J/\JW J/\H q=some (.tup (intV p))/\p.length<=1000/\(∀ x∈J.ws,x.length<=1000/\∀ s∈x,-1000 < s/\s < 1000)/\J.ws.length<=1000/\
 (∀(n k:Nat) (word:List Int) (c s o:Int),wh=(n:Int)->at_=(k:Int)->okAt J p n k word c s o->∀ E' H',ButJ (Jown r a J) H H'->JAt C H' r a (ruleJ J c s o E')->(∀ b,Jown r a (ruleJ J c s o E') b->Jown r a J b\/H b=none)->JW (ruleJ J c s o E')->Q (.bl true) H')/\(¬ okRule J wh p at_->∀ H',Same H H'->Q (.bl false) H')
theorem JW.learned {J:JS}(hw:JW J){c s o:Int}{E':Int->Int->Option Addr}(bc:0<=c/\c < 100000)(bo:0<=o/\o < 100000)(bs: -1000 < s/\s < 1000)(hE:∀ c' s',E' c' s'=J.E c' s'\/(J.E c' s'=none/\((c'=c/\s'=s)\/(c'=o/\s'= -s)))):JW (ruleJ J c s o E'):=by
 refine⟨⟨hw.bd.d,fun c' s' x q=>?_,fun c' s' o' q=>?_⟩,fun c' s' e q=>?_,learn_sym hw.sy _ _ _,hw.dm,hw.L0,hw.m1⟩
 ·replace q:E' c' s'=some x:=q
  rcases hE c' s' with w | ⟨_,⟨_,w⟩ | ⟨_,w⟩⟩
  ·rw[w] at q;exact hw.bd.e _ _ _ q
  ·omega
  ·omega
 ·replace q:learnS J.S c s o c' s' o'=true:=q
  rw[learnS_iff] at q
  rcases q with q | ⟨_,_,q⟩ | ⟨_,_,q⟩
  ·exact hw.bd.s _ _ _ q
  ·omega
  ·omega
 ·replace q:E' c' s'=some e:=q
  rcases hE c' s' with w | ⟨_,⟨w1,w2⟩ | ⟨w1,w2⟩⟩
  ·rw[w] at q
   obtain⟨o',z⟩:=hw.ne _ _ _ q
   exact⟨o',learnS_iff.mpr (.inl z)⟩
  ·exact⟨o,learnS_iff.mpr (.inr (.inl ⟨w1,w2,rfl⟩))⟩
  ·exact⟨c,learnS_iff.mpr (.inr (.inr ⟨w1,w2,rfl⟩))⟩
theorem ok_Judge_takes_rule (T:Txt K mg A):FnOk P w K mg base CX0 3 A.f_Judge_takes_rule A.d_Judge_takes_rule ["self","which","path","at"] (spTRule A.c_Judge):=by
 have G_Judge_learn:FnOk P w K mg base CX0 1 A.f_Judge_learn A.d_Judge_learn ["self","room","step","other"] (spLearn A.c_Judge):=ok_Judge_learn T
 have G_Judge_fits:FnOk P w K mg base CX0 2 A.f_Judge_fits A.d_Judge_fits ["self","which","path"] (spFits A.c_Judge):=ok_Judge_fits T
 have G_Judge_knows:FnOk P w K mg base CX0 1 A.f_Judge_knows A.d_Judge_knows ["self","room","step","other"] (spKnows A.c_Judge):=ok_Judge_knows T
 refine T.Judge_takes_rule.F.ok sc_Judge_takes_rule (fun vs H Q E h=>?_) (fun cdv AA outer s H vs Q E hr h=>?_)
 ·obtain⟨r,a,J,wh,q,p,at_,rfl,_⟩:=h
  rfl
 ·obtain⟨r,a,J,wh,q,p,at_,rfl,h,hw,hq,hpl,hws,hwn,kT,kF⟩:=h
  refine⟨_,(pss_cons (ps_if (pt_not (pt_chain op_le op_lt pe_int (pv 1) (pe_callB call_len_seq rfl T.z_len PySem.boot_len (pa_cons (pe_fld (pv 0) rfl) pa_nil))))
   (pss_one (ps_ret pe_bl))
   pss_nil)
   (pss_cons (ps_set (i:=4) sc_Judge_takes_rule.nd rfl (Or.inl rfl) (pe_ix ix_list (pe_fld (pv 0) rfl) (pv 1) (fun _ _=>rfl)))
   (pss_cons (ps_cut (ps_if (PW.pt (pw_or (pt_not (pt_chain op_le op_lt pe_int (pv 3) (pe_callB call_len_seq rfl T.z_len PySem.boot_len (pa_cons (pv 4) pa_nil)))) (pw_or1 (pt_not (pt_val (pe_meth (pv 0) (cl_Judge T) T.Judge_fits.m (G_Judge_fits) (hr.mono (by decide)) T.Judge_fits.b .nil pass0 (pa_cons (pv 1) (pa_cons (pv 2) pa_nil))))))))
    (pss_one (ps_ret pe_bl))
    pss_nil))
   (pss_cons (ps_for PassesOwn.never rfl (pi_enumT rfl T.z_enumerate (pv 4)) (pg_tup rfl (pgs_cons (pg_name (i:=5) sc_Judge_takes_rule.nd rfl (Or.inl rfl)) (pgs_cons (pg_name (i:=6) sc_Judge_takes_rule.nd rfl (Or.inl rfl)) pgs_nil)))
    (pss_one (ps_cut (ps_if (PW.pt (pw_and (pt_cmpR op_ne (pv 5) (pv 3) (nomark _)) (pw_and1 (pt_not (pt_val (pe_meth (pv 0) (cl_Judge T) T.Judge_knows.m (G_Judge_knows) (hr.mono (by decide)) T.Judge_knows.b .nil pass0 (pa_cons (pe_ix ix_tup (pv 2) (pv 5) (fun _ _=>rfl)) (pa_cons (pv 6) (pa_cons (pe_ix ix_tup (pv 2) (pe_op op_add (pv 5) pe_int) (fun _ _=>rfl)) pa_nil)))))))))
     (pss_one (ps_ret pe_bl))
     pss_nil))))
   (pss_cons (ps_expr (pe_meth (pv 0) (cl_Judge T) T.Judge_learn.m (G_Judge_learn) (hr.mono (by decide)) T.Judge_learn.b .nil pass0 (pa_cons (pe_ix ix_tup (pv 2) (pv 3) (fun _ _=>rfl)) (pa_cons (pe_ix ix_tup (pv 4) (pv 3) (fun _ _=>rfl)) (pa_cons (pe_ix ix_tup (pv 2) (pe_op op_add (pv 3) pe_int) (fun _ _=>rfl)) pa_nil)))))
   (pss_one (ps_ret pe_bl))))))),?_⟩
  try dsimp only[cx_noxK,cx_K]
  refine seq_let5 ?_
  intro u_5 u_4 u_3 u_2 u_1
  obtain⟨wps0,hW0,htw0⟩:=id h.wds
  have hl0:wps0.length=J.ws.length:=htw0.1
  refine⟨_,rfl,_,_,rfl,rfl,_,rfl,?_⟩
  have no1:¬ (0<=wh/\wh < (J.ws.length:Int))->Q (.bl false) H:=fun z=>kF (fun⟨n,k,word,c,s,o,e1,_,z1,_⟩=>z ⟨by omega,by have:=(List.getElem?_eq_some_iff.mp z1).1;omega⟩) H (Same.refl H)
  refine ite2 (fun h0=>?_) (fun h0=>⟨false,rfl,iteT (no1 fun z=>h0 (decide_eq_true z.1))⟩)
  have q0:0<=wh:=of_decide_eq_true h0
  refine⟨_,rfl,r,_,a.dx,_,_,rfl,h.ins,cl_Judge T,T.n_words,jl_words _ _ _ _,a.aW,_,rfl,.inl (SqL.of hW0),_,_,rfl,rfl,_,rfl,?_⟩
  rw[List.length_map,hl0]
  by_cases q1:wh < (J.ws.length:Int)
  ·rw[decide_eq_true q1]
   refine iteF ?_
   obtain⟨n,rfl⟩:∃ n:Nat,wh=(n:Int):=⟨wh.toNat,by omega⟩
   have hn:n < J.ws.length:=by omega
   clear no1 h0
   obtain⟨wps,wp,hW,hat,hwp,_⟩:=word_at h.wds hn
   have hwd:J.ws[n]?=some (J.ws[n]'hn):=List.getElem?_eq_getElem hn
   have hlw:=hws _ (List.getElem_mem hn)
   generalize J.ws[n]'hn=word at hwp hwd hlw
   refine⟨_,rfl,r,_,a.dx,_,_,rfl,h.ins,cl_Judge T,T.n_words,jl_words _ _ _ _,_,rfl,a.aW,_,_,_,rfl,rfl,SqL.of hW,hat,?_⟩
   refine⟨fun σ' H'=>∃ k:Nat,σ'=[some (.ref r),some (.int n),some (.ref q),some (.int at_),some (.ref wp),none,none]/\Same H H'/\at_=(k:Int)/\k < word.length/\fitsP J n p,?_,?_⟩
   ·refine⟨_,rfl,_,_,rfl,rfl,_,rfl,?_⟩
    have no2:¬ (0<=at_/\at_ < (word.length:Int))->Q (.bl false) H:=fun z=>kF (fun⟨n',k,word',c,s,o,e1,e2,z1,z2,_⟩=>z ⟨by omega,by
     obtain rfl:n=n':=by omega
     rw[hwd] at z1
     obtain rfl:=Option.some.inj z1
     have:=(List.getElem?_eq_some_iff.mp z2).1;omega⟩) H (Same.refl H)
    refine ite2 (fun h0=>?_) (fun h0=>⟨false,rfl,iteT (no2 fun z=>h0 (decide_eq_true z.1))⟩)
    have q2:0<=at_:=of_decide_eq_true h0
    refine⟨_,rfl,wp,_,rfl,.inr (SqT.of hwp),_,_,rfl,rfl,_,rfl,?_⟩
    rw[ints_len]
    by_cases q3:at_ < (word.length:Int)
    ·rw[decide_eq_true q3]
     refine iteF ?_
     refine⟨_,rfl,r,a.dx,_,rfl,h.ins,jl_none _ _ _ _ (by decide +kernel),_,rfl,_,rfl,r,a,J,n,q,p,rfl,h,hn,hq,hpl,fun x hx=>(hws x hx).1,fun hf H1 s1=>?_,fun hf H1 s1=>?_⟩
     ·exact⟨true,rfl,iteF ⟨at_.toNat,rfl,s1,by omega,by omega,hf⟩⟩
     ·refine⟨false,rfl,iteT (kF (fun⟨n',k,word',c,s,o,e1,e2,z1,z2,z3,z4,z5,_⟩=>hf ?_) H1 s1)⟩
      obtain rfl:n=n':=by omega
      exact z5
    ·rw[decide_eq_false q3]
     exact iteT (no2 fun z=>q3 z.2)
   rintro σ' H1 ⟨k,rfl,s1,rfl,hk,hf⟩
   have hplen:p.length=word.length+ 1:=by
    obtain⟨⟨w',z1,z2⟩,_⟩:=hf
    rw[hwd] at z1
    rw[Option.some.inj z1];exact z2
   refine⟨_,rfl,wp,rfl,⟨_,SqT.of (s1 _ _ hwp)⟩,?_⟩
   refine for_enumT (K:=K) (a:=wp) (xs:=intV word) (fun i σ H2=>∃ v5 v6,σ=[some (.ref r),some (.int n),some (.ref q),some (.int k),some (.ref wp),v5,v6]/\Same H H2/\∀(i':Nat) (s' c' o':Int),i' < i->i'≠k->word[i']?=some s'->p[i']?=some c'->p[i'+ 1]?=some o'->J.S c' s' o'=true)
    ⟨none,none,rfl,s1,fun i' _ _ _ z=>by omega⟩ (fun i σ H2 _ ⟨_,_,_,s2,_⟩=>SqT.of (s2 _ _ hwp)) ?_ ?_
   ·rintro i v σ H2 pp hi npp ⟨v5,v6,rfl,s2,hall⟩
    obtain⟨s,rfl,hs⟩:=ints_of_at hi
    have hil:i < word.length:=(List.getElem?_eq_some_iff.mp hs).1
    have s3:=Same.upd (o:=.tup [.int (i:Int),.int s]) npp
    refine⟨pp,_,rfl,SqT.of upd_same,rfl,_,_,rfl,_,_,rfl,rfl,?_⟩
    generalize upd H2 pp (.tup [.int (i:Int),.int s])=H3 at s3 ⊢
    have s03:=s2.trans s3
    have hc:p[i]?=some (p[i]'(by omega)):=List.getElem?_eq_getElem (by omega)
    have ho:p[i+ 1]?=some (p[i+ 1]'(by omega)):=List.getElem?_eq_getElem (by omega)
    generalize p[i]'(by omega)=c at hc
    generalize p[i+ 1]'(by omega)=o at ho
    refine⟨_,?_,fun _ _ z=>z⟩
    refine⟨_,rfl,_,rfl,rfl,_,rfl,?_⟩
    by_cases e:i=k
    ·refine iteNS' (by rw[e]) ?_
     exact⟨_,_,rfl,s03,fun i' s' c' o' z1 z2 z3 z4 z5=>hall i' s' c' o' (by omega) z2 z3 z4 z5⟩
    ·have ne:¬ V.int (i:Int)=V.int (k:Int):=fun z=>e (by injection z with z;omega)
     refine iteN1 ne ?_
     have hq3:=s03 _ _ hq
     refine⟨_,rfl,r,a.dx,_,rfl,(h.same s03).ins,jl_none _ _ _ _ (by decide +kernel),_,rfl,_,rfl,q,_,_,_,rfl,rfl,SqT.of hq3,atI_nat (ints_at hc),_,rfl,_,rfl,_,rfl,_,_,rfl,rfl,q,_,_,_,rfl,rfl,SqT.of hq3,atI_nat (j:=i+ 1) (ints_at ho),r,a,J,c,s,o,rfl,h.same s03,fun H4 s4=>?_⟩
     cases hS:J.S c s o with
     | true=>
       refine⟨true,rfl,iteF ⟨_,_,rfl,s03.trans s4,fun i' s' c' o' z1 z2 z3 z4 z5=>?_⟩⟩
       by_cases e2:i'=i
       ·subst e2
        rw[hs] at z3;rw[hc] at z4;rw[ho] at z5
        rw[← Option.some.inj z3,← Option.some.inj z4,← Option.some.inj z5];exact hS
       ·exact hall i' s' c' o' (by omega) z2 z3 z4 z5
     | false=>
       refine⟨false,rfl,iteT (kF (fun⟨n',k',word',c',s',o',e1,e2,z1,z2,z3,z4,z5,z6⟩=>?_) H4 (s03.trans s4))⟩
       obtain rfl:n=n':=by omega
       obtain rfl:k=k':=by omega
       rw[hwd] at z1
       obtain rfl:=Option.some.inj z1
       have:=z6 i s c o e hs hc ho
       rw[hS] at this;cases this
   ·rintro σ H2 ⟨v5,v6,rfl,s2,hall⟩
    rw[ints_len] at hall
    have hsk:word[k]?=some (word[k]'hk):=List.getElem?_eq_getElem hk
    have hck:p[k]?=some (p[k]'(by omega)):=List.getElem?_eq_getElem (by omega)
    have hok:p[k+ 1]?=some (p[k+ 1]'(by omega)):=List.getElem?_eq_getElem (by omega)
    generalize word[k]'hk=s at hsk
    generalize p[k]'(by omega)=c at hck
    generalize p[k+ 1]'(by omega)=o at hok
    have okk:okAt J p n k word c s o:=⟨hwd,hsk,hck,hok,hf,fun i s' c' o' z1 z2 z3 z4=>hall i s' c' o' (List.getElem?_eq_some_iff.mp z2).1 z1 z2 z3 z4⟩
    obtain⟨dc,hdc⟩:=hf.2.2.2 c (List.mem_of_getElem? hck)
    obtain⟨dO,hdo⟩:=hf.2.2.2 o (List.mem_of_getElem? hok)
    have bs:=hlw.2 s (List.mem_of_getElem? hsk)
    have h2:=h.same s2
    have hq2:=s2 _ _ hq
    have hwp2:=s2 _ _ hwp
    refine⟨_,rfl,r,a.dx,_,rfl,h2.ins,jl_none _ _ _ _ (by decide +kernel),_,rfl,_,rfl,q,_,_,_,rfl,rfl,SqT.of hq2,atI_nat (ints_at hck),_,rfl,_,rfl,wp,_,_,_,rfl,rfl,SqT.of hwp2,atI_nat (ints_at hsk),_,rfl,_,rfl,_,_,rfl,rfl,q,_,_,_,rfl,rfl,SqT.of hq2,atI_nat (j:=k+ 1) (ints_at hok),r,a,J,c,s,o,rfl,h2,hw.bd,⟨dc,hdc⟩,⟨dO,hdo⟩,bs.1,bs.2,fun E' H3 hB j3 hO hE=>?_⟩
    refine kT n k word c s o rfl rfl okk E' H3 (fun b u n' z=>hB b u (fun w=>n' (.inr w)) (s2 _ _ z)) j3 (fun b z=>?_) (hw.learned (hw.bd.d _ _ hdc) (hw.bd.d _ _ hdo) bs hE)
    rcases z with z | z
    ·exact .inl (.inl z)
    ·rcases hO b z with z | z
     ·exact .inl (.inr z)
     ·exact .inr (same_none s2 z)
  ·rw[decide_eq_false q1]
   exact iteT (no1 fun z=>q1 z.2)
inductive Rw where
 | new (c s n:Int)
 | rule (w:Int) (p:List Int) (k:Int)
 | meet (c s x y:Int)
def RowAt (H:Hp)(q:Addr):Rw->Prop
 | .new c s n=>H q=some (.tup [.str (tx [110,101,119]),.int c,.int s,.int n])
 | .rule w p k=>∃ t,H q=some (.tup [.str (tx [114,117,108,101]),.int w,.ref t,.int k])/\H t=some (.tup (intV p))/\p.length<=1000
 | .meet c s x y=>H q=some (.tup [.str (tx [109,101,101,116]),.int c,.int s,.int x,.int y])
theorem RowAt.same {H H':Hp}{q:Addr}(s:Same H H'):∀{w:Rw},RowAt H q w->RowAt H' q w
 | .new _ _ _,h=>s _ _ h
 | .rule _ _ _,⟨t,h1,h2,h3⟩=>⟨t,s _ _ h1,s _ _ h2,h3⟩
 | .meet _ _ _ _,h=>s _ _ h
def Nx (J:JS):Rw->JS->Prop
 | .new c s n,J'=>okNew J c s n/\∃ E' d,J'=newJ J c s n E' d
 | .rule w p k,J'=>∃(n m:Nat) (word:List Int) (c s o:Int),w=n/\k=m/\okAt J p n m word c s o/\∃ E',J'=ruleJ J c s o E'
 | .meet c s x y,J'=>(x < y/\J.S c s x=true/\J.S c s y=true)/\∃ E',J'=meetJ J x y E'
def okRow (J:JS):Rw->Prop
 | .new c s n=>okNew J c s n
 | .rule w p k=>okRule J w p k
 | .meet c s x y=>x < y/\J.S c s x=true/\J.S c s y=true
def WOk (J:JS):Prop:=(∀ x∈J.ws,x.length<=1000/\∀ s∈x,-1000 < s/\s < 1000)/\J.ws.length<=1000
def spTakes (C:Addr):Sp:=fun vs H Q _=>∃(r:Addr) (a:JA) (J:JS) (q:Addr) (w:Rw),vs=[.ref r,.ref q]/\JAt C H r a J/\JW J/\J.made < 5000/\RowAt H q w/\WOk J/\
 (∀ J' H',Nx J w J'->ButJ (Jown r a J) H H'->JAt C H' r a J'->(∀ b,Jown r a J' b->Jown r a J b\/H b=none)->JW J'->Q (.bl true) H')/\(¬ okRow J w->∀ H',Same H H'->Q (.bl false) H')
theorem ok_Judge_takes (T:Txt K mg A):FnOk P w K mg base CX0 4 A.f_Judge_takes A.d_Judge_takes ["self","row"] (spTakes A.c_Judge):=by
 have G_Judge_takes_meet:FnOk P w K mg base CX0 3 A.f_Judge_takes_meet A.d_Judge_takes_meet ["self","room","step","less","more"] (spTMeet A.c_Judge):=ok_Judge_takes_meet T
 have G_Judge_takes_new:FnOk P w K mg base CX0 2 A.f_Judge_takes_new A.d_Judge_takes_new ["self","room","step","number"] (spTNew A.c_Judge):=ok_Judge_takes_new T
 have G_Judge_takes_rule:FnOk P w K mg base CX0 3 A.f_Judge_takes_rule A.d_Judge_takes_rule ["self","which","path","at"] (spTRule A.c_Judge):=ok_Judge_takes_rule T
 refine T.Judge_takes.F.ok sc_Judge_takes (fun vs H Q E h=>?_) (fun cdv AA outer s H vs Q E hr h=>?_)
 ·obtain⟨r,a,J,q,w,rfl,_⟩:=h
  rfl
 ·obtain⟨r,a,J,q,w,rfl,h,hw,hm,hrw,hW,kT,kF⟩:=h
  refine⟨_,(pss_cons (ps_if (pt_cmpR op_eq (pe_ix ix_tup (pv 1) pe_int (fun _ _=>rfl)) (pe_strX (l:=[110,101,119]) rfl) (nomark _))
   (pss_one (ps_ret (pe_meth (pv 0) (cl_Judge T) T.Judge_takes_new.m (G_Judge_takes_new) (hr.mono (by decide)) T.Judge_takes_new.b .nil pass0 (pa_cons (pe_ix ix_tup (pv 1) pe_int (fun _ _=>rfl)) (pa_cons (pe_ix ix_tup (pv 1) pe_int (fun _ _=>rfl)) (pa_cons (pe_ix ix_tup (pv 1) pe_int (fun _ _=>rfl)) pa_nil))))))
   pss_nil)
   (pss_cons (ps_if (pt_cmpR op_eq (pe_ix ix_tup (pv 1) pe_int (fun _ _=>rfl)) (pe_strX (l:=[114,117,108,101]) rfl) (nomark _))
    (pss_one (ps_ret (pe_meth (pv 0) (cl_Judge T) T.Judge_takes_rule.m (G_Judge_takes_rule) (hr.mono (by decide)) T.Judge_takes_rule.b .nil pass0 (pa_cons (pe_ix ix_tup (pv 1) pe_int (fun _ _=>rfl)) (pa_cons (pe_ix ix_tup (pv 1) pe_int (fun _ _=>rfl)) (pa_cons (pe_ix ix_tup (pv 1) pe_int (fun _ _=>rfl)) pa_nil))))))
    pss_nil)
   (pss_one (ps_ret (pe_meth (pv 0) (cl_Judge T) T.Judge_takes_meet.m (G_Judge_takes_meet) (hr.mono (by decide)) T.Judge_takes_meet.b .nil pass0 (pa_cons (pe_ix ix_tup (pv 1) pe_int (fun _ _=>rfl)) (pa_cons (pe_ix ix_tup (pv 1) pe_int (fun _ _=>rfl)) (pa_cons (pe_ix ix_tup (pv 1) pe_int (fun _ _=>rfl)) (pa_cons (pe_ix ix_tup (pv 1) pe_int (fun _ _=>rfl)) pa_nil))))))))),?_⟩
  try dsimp only[cx_noxK,cx_K]
  refine seq_let2 ?_
  intro u_2 u_1
  cases w with
  | new c s n=>
    replace hrw:H q=some (.tup [.str (tx [110,101,119]),.int c,.int s,.int n]):=hrw
    refine⟨_,rfl,q,_,_,_,rfl,rfl,SqT.of hrw,rfl,rfl,_,rfl,?_⟩
    refine ite2 (fun _=>?_) (fun z=>absurd (decide_eq_true rfl) z)
    refine⟨_,rfl,r,a.dx,_,rfl,h.ins,jl_none _ _ _ _ (by decide +kernel),_,rfl,q,_,_,_,rfl,rfl,SqT.of hrw,rfl,_,rfl,q,_,_,_,rfl,rfl,SqT.of hrw,rfl,_,rfl,q,_,_,_,rfl,rfl,SqT.of hrw,rfl,r,a,J,c,s,n,rfl,h,hw,hm,fun ok E' d H' b1 j1 o1 w1=>?_,fun no H' s'=>kF no H' s'⟩
    exact kT _ H' ⟨ok,E',d,rfl⟩ b1 j1 o1 w1
  | rule wh p k=>
    obtain⟨t,hrw,ht,hp⟩:=hrw
    refine⟨_,rfl,q,_,_,_,rfl,rfl,SqT.of hrw,rfl,rfl,_,rfl,?_⟩
    refine ite2 (fun z=>?_) (fun _=>?_)
    ·have:=of_decide_eq_true z
     injection this with this
     exact absurd (tx_inj this) (by decide)
    refine⟨_,rfl,q,_,_,_,rfl,rfl,SqT.of hrw,rfl,rfl,_,rfl,?_⟩
    refine ite2 (fun _=>?_) (fun z=>absurd (decide_eq_true rfl) z)
    refine⟨_,rfl,r,a.dx,_,rfl,h.ins,jl_none _ _ _ _ (by decide +kernel),_,rfl,q,_,_,_,rfl,rfl,SqT.of hrw,rfl,_,rfl,q,_,_,_,rfl,rfl,SqT.of hrw,rfl,_,rfl,q,_,_,_,rfl,rfl,SqT.of hrw,rfl,r,a,J,wh,t,p,k,rfl,h,hw,ht,hp,hW.1,hW.2,fun n m word c s o e1 e2 ok E' H' b1 j1 o1 w1=>?_,fun no H' s'=>kF no H' s'⟩
    exact kT _ H' ⟨n,m,word,c,s,o,e1,e2,ok,E',rfl⟩ b1 j1 o1 w1
  | meet c s x y=>
    replace hrw:H q=some (.tup [.str (tx [109,101,101,116]),.int c,.int s,.int x,.int y]):=hrw
    refine⟨_,rfl,q,_,_,_,rfl,rfl,SqT.of hrw,rfl,rfl,_,rfl,?_⟩
    refine ite2 (fun z=>?_) (fun _=>?_)
    ·have:=of_decide_eq_true z
     injection this with this
     exact absurd (tx_inj this) (by decide)
    refine⟨_,rfl,q,_,_,_,rfl,rfl,SqT.of hrw,rfl,rfl,_,rfl,?_⟩
    refine ite2 (fun z=>?_) (fun _=>?_)
    ·have:=of_decide_eq_true z
     injection this with this
     exact absurd (tx_inj this) (by decide)
    refine⟨_,rfl,r,a.dx,_,rfl,h.ins,jl_none _ _ _ _ (by decide +kernel),_,rfl,q,_,_,_,rfl,rfl,SqT.of hrw,rfl,_,rfl,q,_,_,_,rfl,rfl,SqT.of hrw,rfl,_,rfl,q,_,_,_,rfl,rfl,SqT.of hrw,rfl,_,rfl,q,_,_,_,rfl,rfl,SqT.of hrw,rfl,r,a,J,c,s,x,y,rfl,h,hw,fun ok E' H' b1 j1 o1 w1=>?_,fun no H' s'=>kF no H' s'⟩
    exact kT _ H' ⟨ok,E',rfl⟩ b1 j1 o1 w1
def jg1 (L:Int):List (Str×V):=[("letters",.int L)]
def jg2 (L:Int)(l:Addr):List (Str×V):=[("letters",.int L),("words",.ref l)]
def jg3 (L c:Int)(l:Addr):List (Str×V):=[("letters",.int L),("words",.ref l),("common",.int c)]
def jg4 (L c:Int)(l:Addr):List (Str×V):=[("letters",.int L),("words",.ref l),("common",.int c),("made",.int 1)]
theorem jp1 (L:Int):putF "letters" (.int L) []=jg1 L:=rfl
theorem jp2 (L:Int)(l:Addr):putF "words" (.ref l) (jg1 L)=jg2 L l:=putF_new (by kernel_rfl)
theorem jp3 (L c:Int)(l:Addr):putF "common" (.int c) (jg2 L l)=jg3 L c l:=putF_new (by kernel_rfl)
theorem jp4 (L c:Int)(l:Addr):putF "made" (.int 1) (jg3 L c l)=jg4 L c l:=putF_new (by kernel_rfl)
theorem jp5 (L c:Int)(l k dx:Addr):putF "known" (.ref k) (jg4 L c l)=jfl L c 1 ⟨dx,l,k⟩:=putF_new (by kernel_rfl)
def newJS (L:Int)(ws:List (List Int))(cm:Int)(d:Addr):JS:=⟨L,ws,cm,1,fun c=>if c=0 then some d else none,fun _ _=>none,fun _ _ _=>false⟩
def spJNew (C:Addr):Sp:=fun vs H Q _=>∃(x dx:Addr) (L:Int) (ru pa:Addr) (rs ps:List (List Int)),vs=[.ref x,.int L,.ref ru,.ref pa]/\H x=some (.ins C dx [])/\WordsAt H ru rs/\WordsAt H pa ps/\rs.length<=400/\ps.length<=400/\
 ∀ a d H',(∀ b o,H b=some o->b≠x->H' b=some o)->JAt C H' x a (newJS L (rs++ps) rs.length d)->(∀ b,Jown x a (newJS L (rs++ps) rs.length d) b->b=x\/H b=none)->Q .non H'
theorem tups_app {H:Hp}{p1 p2:List Addr}{w1 w2:List (List Int)}(h1:TupsAt H p1 w1)(h2:TupsAt H p2 w2):TupsAt H (p1++p2) (w1++w2):=by
 refine⟨by rw[List.length_append,List.length_append,h1.1,h2.1],fun i p w q1 q2=>?_⟩
 by_cases hi:i < p1.length
 ·rw[List.getElem?_append_left hi] at q1
  rw[List.getElem?_append_left (by rw[← h1.1];exact hi)] at q2
  exact h1.2 i p w q1 q2
 ·rw[List.getElem?_append_right (by omega)] at q1
  rw[List.getElem?_append_right (by have:=h1.1;omega),← h1.1] at q2
  exact h2.2 _ p w q1 q2
theorem ok_Judge___init__ (T:Txt K mg A):FnOk P w K mg base CX0 1 A.f_Judge___init__ A.d_Judge___init__ ["self","letters","rules","part"] (spJNew A.c_Judge):=by
 refine T.Judge___init__.F.ok sc_Judge___init__ (fun vs H Q E h=>?_) (fun cdv AA outer s H vs Q E hr h=>?_)
 ·obtain⟨x,dx,L,ru,pa,rs,ps,rfl,_⟩:=h
  rfl
 ·obtain⟨x,dx,L,ru,pa,rs,ps,rfl,hx,hR,hP,hrl,hpl,k⟩:=h
  refine⟨_,(pss_cons (ps_fld (pv 0) (pv 1) rfl)
   (pss_cons (ps_fld (pv 0) (pe_op op_cat (pe_callTy call_list_of rfl T.z_list PyProof.Rows.boot_list (pa_cons (pv 2) pa_nil)) (pe_callTy call_list_of rfl T.z_list PyProof.Rows.boot_list (pa_cons (pv 3) pa_nil))) rfl)
   (pss_cons (ps_fld (pv 0) (pe_callB call_len_seq rfl T.z_len PySem.boot_len (pa_cons (pv 2) pa_nil)) rfl)
   (pss_cons (ps_fld (pv 0) pe_int rfl)
   (pss_one (ps_fld (pv 0) (pe_disp (pps_cons pe_int pe_dnewK pps_nil) rfl rfl (by simp) (by decide)) rfl)))))),?_⟩
  try dsimp only[cx_noxK,cx_K]
  refine seq_let4 ?_
  intro u_4 u_3 u_2 u_1
  obtain⟨rps,hru,hrt⟩:=id hR
  obtain⟨pps,hpa,hpt⟩:=id hP
  have st:∀{H0:Hp} {fs gs:List (Str×V)},H0 x=some (.ins A.c_Judge dx fs)->(∀ b o,H b=some o->b≠x->H0 b=some o)->upd H0 x (.ins A.c_Judge dx gs) x=some (.ins A.c_Judge dx gs)/\(∀ b o,H b=some o->b≠x->upd H0 x (.ins A.c_Judge dx gs) b=some o)/\∀ b o,b≠x->H0 b=some o->upd H0 x (.ins A.c_Judge dx gs) b=some o:=
   fun _ h=>⟨upd_same,fun b o e n=>by rw[upd_ne n];exact h b o e n,fun b o n e=>by rw[upd_ne n];exact e⟩
  have nxr:ru≠x:=ne_of hru hx (by intro z;cases z)
  have nxp:pa≠x:=ne_of hpa hx (by intro z;cases z)
  refine⟨_,rfl,_,rfl,x,_,dx,_,rfl,hx,cl_Judge T,T.n_letters,(by show 0 < 1000;decide),?_⟩
  rw[jp1]
  obtain⟨x1,o1,-⟩:=st (gs:=(jg1 L)) hx (fun b o e _=>e)
  generalize upd H x (.ins A.c_Judge dx (jg1 L))=H1 at x1 o1 ⊢
  refine⟨_,rfl,ru,_,rfl,.inl (SqL.of (o1 _ _ hru nxr)),fun l1 n1=>?_⟩
  have s1:=Same.upd (o:=.lst (rps.map V.ref)) n1
  have hl1:upd H1 l1 (.lst (rps.map V.ref)) l1=some (.lst (rps.map V.ref)):=upd_same
  generalize upd H1 l1 (.lst (rps.map V.ref))=H2 at s1 hl1 ⊢
  refine⟨_,rfl,pa,_,rfl,.inl (SqL.of (s1 _ _ (o1 _ _ hpa nxp))),fun l2 n2=>?_⟩
  have s2:=Same.upd (o:=.lst (pps.map V.ref)) n2
  have hl2:upd H2 l2 (.lst (pps.map V.ref)) l2=some (.lst (pps.map V.ref)):=upd_same
  generalize upd H2 l2 (.lst (pps.map V.ref))=H3 at s2 hl2 ⊢
  refine⟨l1,l2,_,_,rfl,rfl,s2 _ _ hl1,hl2,?_,fun l3 n3=>?_⟩
  ·rw[List.length_map,List.length_map,hrt.1,hpt.1]
   exact Nat.le_trans (show rs.length+ ps.length<=800 by omega) (by decide)
  have s3:=Same.upd (o:=.lst (rps.map V.ref++pps.map V.ref)) n3
  have hl3:upd H3 l3 (.lst (rps.map V.ref++pps.map V.ref)) l3=some (.lst (rps.map V.ref++pps.map V.ref)):=upd_same
  have s13:=s1.trans (s2.trans s3)
  have nl3:H3 l3=none:=n3
  generalize upd H3 l3 (.lst (rps.map V.ref++pps.map V.ref))=H4 at s3 hl3 s13 ⊢
  have x4:=s13 _ _ x1
  have o4:∀ b o,H b=some o->b≠x->H4 b=some o:=fun b o e n=>s13 _ _ (o1 b o e n)
  have nx3:l3≠x:=(ne_of_none (s2 _ _ (s1 _ _ x1)) nl3).symm
  refine⟨_,rfl,x,_,dx,_,rfl,x4,cl_Judge T,T.n_words,(by show 1 < 1000;decide),?_⟩
  rw[jp2]
  obtain⟨x5,o5,k5⟩:=st (gs:=(jg2 L l3)) x4 o4
  have hl5:=k5 _ _ nx3 hl3
  generalize upd H4 x (.ins A.c_Judge dx (jg2 L l3))=H5 at x5 o5 hl5 ⊢
  refine⟨_,rfl,ru,_,rfl,.inl (SqL.of (o5 _ _ hru nxr)),_,rfl,x,_,dx,_,rfl,x5,cl_Judge T,T.n_common,(by show 2 < 1000;decide),?_⟩
  rw[List.length_map,hrt.1]
  rw[jp3]
  obtain⟨x6,o6,k6⟩:=st (gs:=(jg3 L (rs.length:Int) l3)) x5 o5
  have hl6:=k6 _ _ nx3 hl5
  generalize upd H5 x (.ins A.c_Judge dx (jg3 L (rs.length:Int) l3))=H6 at x6 o6 hl6 ⊢
  refine⟨_,rfl,x,_,dx,_,rfl,x6,cl_Judge T,T.n_made,(by show 3 < 1000;decide),?_⟩
  rw[jp4]
  obtain⟨x7,o7,k7⟩:=st (gs:=(jg4 L (rs.length:Int) l3)) x6 o6
  have hl7:=k7 _ _ nx3 hl6
  generalize upd H6 x (.ins A.c_Judge dx (jg4 L (rs.length:Int) l3))=H7 at x7 o7 hl7 ⊢
  intro kk nk d nd
  have nxk:kk≠x:=(ne_of_none x7 nk).symm
  have s8:=Same.upd (o:=.dK []) nk
  have nkd:kk≠d:=fun z=>by rw[← z,upd_same] at nd;cases nd
  have s9:=Same.upd (o:=.dK []) nd
  have hk9:upd (upd H7 kk (.dK [])) d (.dK []) kk=some (.dK []):=s9 _ _ upd_same
  have hd9:upd (upd H7 kk (.dK [])) d (.dK []) d=some (.dK []):=upd_same
  have s79:=s8.trans s9
  have n0:∀ b,H7 b=none->b≠x->H b=none:=fun b n nx=>by
   cases e:H b with
   | none=>rfl
   | some o=>rw[o7 b o e nx] at n;cases n
  have nd7:H7 d=none:=same_none s8 nd
  have nxd:d≠x:=(ne_of_none x7 nd7).symm
  generalize upd (upd H7 kk (.dK [])) d (.dK [])=H9 at hk9 hd9 s79 ⊢
  refine⟨hk9,[(Sum.inl 0,.ref d)],rfl,(by show 1<=15;decide),?_⟩
  have em:mergeK [] [((Sum.inl 0:Key),V.ref d)]=putK [] (Sum.inl 0) (.ref d):=rfl
  rw[em]
  have kt:KAt H9 kk (fun _=>none) (fun _ _=>none) (fun _ _ _=>false):=⟨⟨[],hk9,by simp,(fun kv z=>by cases z),fun i=>rfl⟩,(fun c d z=>by cases z),(fun c s e z=>by cases z),(fun c s e z=>by cases z),(fun c s o z=>by cases z),(fun c d z=>by cases z),(fun c s e z=>by cases z),(fun c c' d z=>by cases z),(fun c c' s d z=>by cases z),fun c s c' s' e z=>by cases z⟩
  have kt2:=kt.addRoom (n:=0) rfl hk9 hd9 (fun z=>by
   rcases z with z | ⟨c,z⟩ | ⟨c,s,z⟩
   ·exact nkd z.symm
   ·cases z
   ·cases z)
  have B10:∀ b o,b≠kk->H9 b=some o->upd H9 kk (.dK (putK [] (Sum.inl 0) (.ref d))) b=some o:=fun b o n q=>by rw[upd_ne n];exact q
  have x10:=B10 _ _ nxk.symm (s79 _ _ x7)
  have o10:∀ b o,H b=some o->b≠x->upd H9 kk (.dK (putK [] (Sum.inl 0) (.ref d))) b=some o:=fun b o e n=>B10 b o (fun z=>by rw[z,n0 kk nk nxk] at e;cases e) (s79 _ _ (o7 b o e n))
  have hl10:=B10 _ _ (ne_of_none hl7 nk) (s79 _ _ hl7)
  generalize upd H9 kk (.dK (putK [] (Sum.inl 0) (.ref d)))=H10 at kt2 x10 o10 hl10 ⊢
  refine⟨_,rfl,x,_,dx,_,rfl,x10,cl_Judge T,T.n_known,(by show 4 < 1000;decide),?_⟩
  rw[jp5 L (rs.length:Int) l3 kk dx]
  obtain⟨x11,o11,k11⟩:=st (gs:=jfl L (rs.length:Int) 1 ⟨dx,l3,kk⟩) x10 o10
  have tk:∀{ps:List Addr} {ws:List (List Int)},TupsAt H ps ws->TupsAt (upd H10 x (.ins A.c_Judge dx (jfl L (rs.length:Int) 1 ⟨dx,l3,kk⟩))) ps ws:=fun t=>t.keep fun p xs e=>o11 p _ e (ne_of e hx (by intro z;cases z))
  refine k ⟨dx,l3,kk⟩ d _ o11 ⟨x11,⟨rps++pps,?_,tups_app (tk hrt) (tk hpt)⟩,kt2.keep fun b o z q=>?_⟩ fun b z=>?_
  ·rw[List.map_append]
   exact k11 _ _ nx3 hl10
  ·refine k11 b o (fun w=>?_) q
   rw[w] at q
   rw[x10] at q
   rcases z with z | ⟨c,z⟩ | ⟨c,s,z⟩
   ·exact nxk (z.symm.trans w)
   ·replace z:(if c=0 then some d else none)=some b:=z
    by_cases e:c=0
    ·rw[if_pos e] at z;exact nxd ((Option.some.inj z).trans w)
    ·rw[if_neg e] at z;cases z
   ·cases z
  ·rcases z with z | z | ⟨c,z⟩ | ⟨c,s,z⟩
   ·exact .inl z
   ·exact .inr (by rw[z];exact n0 kk nk nxk)
   ·replace z:(if c=0 then some d else none)=some b:=z
    by_cases e:c=0
    ·rw[if_pos e] at z;rw[← Option.some.inj z];exact .inr (n0 d nd7 nxd)
    ·rw[if_neg e] at z;cases z
   ·cases z
structure AS where
 made:Int
 st:Int->Bool
 S:Rel3
def JS.abs (J:JS):AS:=⟨J.made,fun c=>(J.D c).isSome,J.S⟩
def okA (L:Int)(ws:List (List Int))(cm:Int)(X:AS):Rw->Prop
 | .new c s n=>X.st c=true/\(1<=s.natAbs/\(s.natAbs:Int)<=L)/\(∀ o,X.S c s o=false)/\n=X.made
 | .rule w p k=>∃(n m:Nat) (word:List Int) (c s o:Int),w=n/\k=m/\ws[n]?=some word/\word[m]?=some s/\p[m]?=some c/\p[m+ 1]?=some o/\p.length=word.length+ 1/\p.head?=p.getLast?/\((n:Int) < cm\/p.head?=some 0)/\(∀ c∈p,X.st c=true)/\∀(i:Nat) (s' c' o':Int),i≠m->word[i]?=some s'->p[i]?=some c'->p[i+ 1]?=some o'->X.S c' s' o'=true
 | .meet c s x y=>x < y/\X.S c s x=true/\X.S c s y=true
def nxA (ws:List (List Int))(X:AS):Rw->AS
 | .new c s n=>⟨X.made+ 1,fun x=>decide (x=n) || X.st x,learnS X.S c s n⟩
 | .rule w p k=>⟨X.made,X.st,learnS X.S (p.getD k.toNat 0) ((ws.getD w.toNat []).getD k.toNat 0) (p.getD (k.toNat+ 1) 0)⟩
 | .meet _ _ x y=>⟨X.made,fun c=>X.st c && !decide (c=y),moveS X.S x y⟩
def Right (L:Int)(ws:List (List Int))(cm:Int):AS->List Rw->Prop
 | _,[]=>True
 | X,w :: r=>okA L ws cm X w/\Right L ws cm (nxA ws X w) r
theorem ok_of {H:Hp}{k:Addr}{J:JS}(hw:JW J)(kn:KAt H k J.D J.E J.S):∀{w:Rw},okA J.L J.ws J.cm J.abs w->okRow J w
 | .new c s n,⟨h1,h2,h3,h4⟩=>by
   refine⟨Option.isSome_iff_exists.mp h1,h2,?_,h4⟩
   cases q:J.E c s with
   | none=>rfl
   | some e=>
     obtain⟨o,z⟩:=hw.ne _ _ _ q
     have:=h3 o
     rw[show J.abs.S=J.S from rfl,z] at this
     cases this
 | .rule w p k,⟨n,m,word,c,s,o,e1,e2,h1,h2,h3,h4,h5,h6,h7,h8,h9⟩=>⟨n,m,word,c,s,o,e1,e2,h1,h2,h3,h4,⟨⟨word,h1,h5⟩,h6,h7,fun c hc=>Option.isSome_iff_exists.mp (h8 c hc)⟩,h9⟩
 | .meet c s x y,h=>h
theorem nx_abs {J J':JS}:∀{w:Rw},Nx J w J'->J'.abs=nxA J.ws J.abs w/\J'.L=J.L/\J'.ws=J.ws/\J'.cm=J.cm
 | .new c s n,⟨_,E',d,e⟩=>by
   subst e
   refine⟨?_,rfl,rfl,rfl⟩
   unfold JS.abs newJ nxA
   simp only[AS.mk.injEq,true_and,and_true]
   funext x
   by_cases e:x=n
   ·simp[e]
   ·simp[e]
 | .rule w p k,⟨n,m,word,c,s,o,e1,e2,⟨h1,h2,h3,h4,_⟩,E',e⟩=>by
   subst e e1 e2
   refine⟨?_,rfl,rfl,rfl⟩
   unfold JS.abs ruleJ nxA
   simp only[Int.toNat_natCast,List.getD_eq_getElem?_getD,h1,h2,h3,h4,Option.getD_some]
 | .meet c s x y,⟨_,E',e⟩=>by
   subst e
   refine⟨?_,rfl,rfl,rfl⟩
   unfold JS.abs meetJ nxA offD
   simp only[AS.mk.injEq,true_and,and_true]
   funext c'
   by_cases e:c'=y
   ·simp[e]
   ·simp[e]
def AS0:AS:=⟨1,fun c=>decide (c=0),fun _ _ _=>false⟩
theorem right_at {L:Int}{ws:List (List Int)}{cm:Int}:∀{rows:List Rw} {X:AS} {i:Nat} {w:Rw},Right L ws cm X rows->rows[i]?=some w->okA L ws cm ((rows.take i).foldl (nxA ws) X) w
 | [],_,_,_,_,h=>by simp at h
 | v :: r,X,0,w,h,e=>by
   have:v=w:=by simpa using e
   rw[← this];exact h.1
 | v :: r,X,i+ 1,w,h,e=>right_at (rows:=r) (X:=nxA ws X v) (i:=i) h.2 (by simpa using e)
theorem nx_made {J J':JS}:∀{w:Rw},Nx J w J'->J'.made<=J.made+ 1
 | .new c s n,⟨_,E',d,e⟩=>by subst e;exact Int.le_refl _
 | .rule w p k,⟨n,m,word,c,s,o,_,_,_,E',e⟩=>by subst e;show J.made<=J.made+ 1;omega
 | .meet c s x y,⟨_,E',e⟩=>by subst e;show J.made<=J.made+ 1;omega
theorem ok_back {H:Hp}{k:Addr}{J J':JS}(kn:KAt H k J.D J.E J.S):∀{w:Rw},Nx J w J'->okA J.L J.ws J.cm J.abs w
 | .new c s n,⟨⟨h1,h2,h3,h4⟩,_⟩=>by
   refine⟨Option.isSome_iff_exists.mpr h1,h2,fun o=>?_,h4⟩
   cases q:J.S c s o with
   | false=>exact q
   | true=>
     obtain⟨e,z⟩:=kn.se _ _ _ q
     rw[h3] at z;cases z
 | .rule w p k,⟨n,m,word,c,s,o,e1,e2,⟨h1,h2,h3,h4,⟨⟨word',g1,g2⟩,h6,h7,h8⟩,h9⟩,_⟩=>by
   rw[h1] at g1
   obtain rfl:=Option.some.inj g1
   exact⟨n,m,word,c,s,o,e1,e2,h1,h2,h3,h4,g2,h6,h7,fun c hc=>Option.isSome_iff_exists.mpr (h8 c hc),h9⟩
 | .meet c s x y,⟨h,_⟩=>h
theorem right_sn {L:Int}{ws:List (List Int)}{cm:Int}:∀{rows:List Rw} {X:AS} {w:Rw},Right L ws cm X rows->okA L ws cm (rows.foldl (nxA ws) X) w->Right L ws cm X (rows++[w])
 | [],_,_,_,h=>⟨h,trivial⟩
 | v :: r,X,w,h,e=>⟨h.1,right_sn (rows:=r) h.2 e⟩
def spJudged:Sp:=fun vs H Q _=>∃(L:Int) (ru pa pp:Addr) (rs ps:List (List Int)) (qs:List Addr) (rows:List Rw),vs=[.int L,.ref ru,.ref pa,.ref pp]/\0<=L/\L<=900/\WordsAt H ru rs/\WordsAt H pa ps/\rs.length<=400/\ps.length<=400/\(∀ x∈rs++ps,x.length<=1000/\∀ s∈x,-1000 < s/\s < 1000)/\H pp=some (.lst (qs.map V.ref))/\qs.length=rows.length/\(∀(i:Nat) (q:Addr) (w:Rw),qs[i]?=some q->rows[i]?=some w->RowAt H q w)/\rows.length<=4000/\(Right L (rs++ps) rs.length AS0 rows->∀ H',Same H H'->Q .non H')/\
 ∀(i:Nat) (w:Rw),rows[i]?=some w->Right L (rs++ps) rs.length AS0 (rows.take i)->¬ okA L (rs++ps) rs.length ((rows.take i).foldl (nxA (rs++ps)) AS0) w->∀ H',Same H H'->Q (.int (i:Int)) H'
theorem ok_judged (T:Txt K mg A):FnOk P w K mg base CX0 5 A.f_judged A.d_judged ["letters","rules","part","paper"] spJudged:=by
 have G_Judge___init__:FnOk P w K mg base CX0 1 A.f_Judge___init__ A.d_Judge___init__ ["self","letters","rules","part"] (spJNew A.c_Judge):=ok_Judge___init__ T
 have G_Judge_takes:FnOk P w K mg base CX0 4 A.f_Judge_takes A.d_Judge_takes ["self","row"] (spTakes A.c_Judge):=ok_Judge_takes T
 refine T.judged.F.ok sc_judged (fun vs H Q E h=>?_) (fun cdv AA outer s H vs Q E hr h=>?_)
 ·obtain⟨L,ru,pa,pp,rs,ps,qs,rows,rfl,_⟩:=h
  rfl
 ·obtain⟨L,ru,pa,pp,rs,ps,qs,rows,rfl,hL0,hL1,hR,hP,hrl,hpl,hwd,hpp,hql,hrow,hlen,kR,kW⟩:=h
  refine⟨_,(pss_cons (ps_set (i:=4) sc_judged.nd rfl (Or.inl rfl) (pe_make (mk_Judge T) (G_Judge___init__) (hr.mono (by decide)) rfl T.m_Judge T.Judge___init__.b .nil pass0 (pa_cons (pv 0) (pa_cons (pv 1) (pa_cons (pv 2) pa_nil)))))
   (pss_cons (ps_for PassesOwn.never rfl (pi_enumL rfl T.z_enumerate (pv 3)) (pg_tup rfl (pgs_cons (pg_name (i:=5) sc_judged.nd rfl (Or.inl rfl)) (pgs_cons (pg_name (i:=6) sc_judged.nd rfl (Or.inl rfl)) pgs_nil)))
    (pss_one (ps_if (pt_not (pt_val (pe_meth (pv 4) (cl_Judge T) T.Judge_takes.m (G_Judge_takes) (hr.mono (by decide)) T.Judge_takes.b .nil pass0 (pa_cons (pv 6) pa_nil))))
     (pss_one (ps_ret (pv 5)))
     pss_nil)))
   (pss_one (ps_ret pe_non)))),?_⟩
  try dsimp only[cx_noxK,cx_K]
  refine seq_let2 ?_
  intro u_2 u_1
  refine⟨_,rfl,_,rfl,_,rfl,fun x dx nx ndx nex=>?_⟩
  have s0:Same H (upd (upd H dx (.own x)) x (.ins A.c_Judge dx [])):=(Same.upd ndx).trans (Same.upd (by rw[upd_ne nex.symm];exact nx))
  refine⟨x,dx,L,ru,pa,rs,ps,rfl,upd_same,hR.same s0,hP.same s0,hrl,hpl,fun a d H1 k1 j1 ow=>⟨rfl,?_⟩⟩
  have s1:Same H H1:=fun b o e=>k1 b o (s0 b o e) (fun z=>by rw[z,nx] at e;cases e)
  have own1:∀ b,Jown x a (newJS L (rs++ps) rs.length d) b->H b=none:=fun b z=>(ow b z).elim (fun w=>by rw[w];exact nx) fun w=>same_none s0 w
  have un:∀{c:Int} {z:Addr},(if c=0 then some d else none)=some z->c=0:=fun{c z} w=>by
   by_cases e:c=0
   ·exact e
   ·rw[if_neg e] at w;cases w
  have jw:JW (newJS L (rs++ps) rs.length d):=⟨⟨fun c y q=>by have:=un q;omega,(fun c s y q=>by cases q),(fun c s o q=>by cases q)⟩,(fun c s e q=>by cases q),(fun c s o q=>by cases q),fun c y q=>by have:=un q;show 0<=c/\c < 1;omega,⟨hL0,hL1⟩,⟨by show (1:Int)<=1;decide,by show (1:Int)<=5000;decide⟩⟩
  have ab:(newJS L (rs++ps) rs.length d).abs=AS0:=by
   unfold JS.abs newJS AS0
   simp only[AS.mk.injEq,true_and,and_true]
   funext c
   by_cases e:c=0
   ·simp[e]
   ·simp[e]
  refine⟨_,rfl,pp,rfl,⟨_,SqL.of (s1 _ _ hpp)⟩,?_⟩
  refine for_enumL (K:=K) (a:=pp) (xs:=qs.map V.ref) (fun i σ H2=>∃ J v5 v6,σ=[some (.int L),some (.ref ru),some (.ref pa),some (.ref pp),some (.ref x),v5,v6]/\Same H H2/\JAt A.c_Judge H2 x a J/\JW J/\WOk J/\(∀ b,Jown x a J b->H b=none)/\J.abs=(rows.take i).foldl (nxA (rs++ps)) AS0/\J.L=L/\J.ws=rs++ps/\J.cm=rs.length/\J.made<=1+ (i:Int)/\Right L (rs++ps) rs.length AS0 (rows.take i))
   ⟨_,none,none,rfl,s1,j1,jw,⟨hwd,by show (rs++ps).length<=1000;rw[List.length_append];omega⟩,own1,ab,rfl,rfl,rfl,by show (1:Int)<=1+ 0;decide,trivial⟩ (fun i σ H2 _ ⟨_,_,_,_,s2,_⟩=>SqL.of (s2 _ _ hpp)) ?_ ?_
  ·rintro i v σ H2 t hi nt ⟨J,v5,v6,rfl,s2,j2,w2,wk,ow2,e1,e2,e3,e4,e5,ri⟩
   have hil:i < qs.length:=by
    have:=(List.getElem?_eq_some_iff.mp hi).1
    rw[List.length_map] at this
    exact this
   have g1:qs[i]?=some (qs[i]'hil):=List.getElem?_eq_getElem hil
   have g2:rows[i]?=some (rows[i]'(by omega)):=List.getElem?_eq_getElem (by omega)
   rw[List.getElem?_map,g1] at hi
   obtain rfl:V.ref (qs[i]'hil)=v:=Option.some.inj hi
   generalize qs[i]'hil=q at g1
   generalize rows[i]'(by omega)=w at g2
   have s3:=Same.upd (o:=.tup [.int (i:Int),.ref q]) nt
   refine⟨t,_,rfl,SqT.of upd_same,rfl,_,_,rfl,_,_,rfl,rfl,?_⟩
   generalize upd H2 t (.tup [.int (i:Int),.ref q])=H3 at s3 ⊢
   have s03:=s2.trans s3
   have j3:=j2.same s3
   refine⟨_,rfl,x,a.dx,_,rfl,j3.ins,jl_none _ _ _ _ (by decide +kernel),_,rfl,x,a,J,q,w,rfl,j3,w2,by omega,(hrow i q w g1 g2).same s03,wk,fun J' H4 nxj bj j4 ow4 w4=>?_,fun no H' s'=>?_⟩
   ·have okr:okA L (rs++ps) rs.length ((rows.take i).foldl (nxA (rs++ps)) AS0) w:=by
     have:=ok_back j2.kn nxj
     rw[e2,e3,e4,e1] at this
     exact this
    refine⟨true,rfl,iteF ?_⟩
    obtain⟨a1,a2,a3,a4⟩:=nx_abs nxj
    refine⟨J',_,_,rfl,fun b o e=>bj b o (fun z=>by rw[ow2 b z] at e;cases e) (s03 _ _ e),j4,w4,by unfold WOk;rw[a3];exact wk,fun b z=>(ow4 b z).elim (ow2 b) (same_none s03),?_,a2.trans e2,a3.trans e3,a4.trans e4,by have:=nx_made nxj;omega,?_⟩
    ·rw[a1,e1,e3,List.take_succ,g2,List.foldl_append]
     rfl
    ·rw[List.take_succ,g2]
     exact right_sn ri okr
   ·have nok:¬ okA L (rs++ps) rs.length ((rows.take i).foldl (nxA (rs++ps)) AS0) w:=fun ok=>no (ok_of w2 j2.kn (by rw[e2,e3,e4,e1];exact ok))
    refine⟨false,rfl,?_⟩
    refine ite2 (fun _=>?_) (fun z=>absurd rfl z)
    exact⟨_,rfl,kW i w g2 ri nok _ (s03.trans s')⟩
  ·rintro σ H2 ⟨J,v5,v6,rfl,s2,_,_,_,_,_,_,_,_,_,ri⟩
   rw[List.length_map,hql,List.take_length] at ri
   exact kR ri H2 s2
def LAt (H:Hp)(p:Addr)(S:Rel3):Prop:=∃ kvs:List (List Key×V),H p=some (.dT kvs)/\(kvs.map (·.1)).Nodup/\(∀ kv∈kvs,∃ c s:Int,kv.1=[Sum.inl c,Sum.inl s])/\
 ∀ c s:Int,(valV kvs [Sum.inl c,Sum.inl s]=none/\∀ o,S c s o=false)\/∃ q l,valV kvs [Sum.inl c,Sum.inl s]=some (.ref q)/\H q=some (.lst (intV l))/\l≠[]/\l.Nodup/\∀ o,o∈l↔S c s o=true
theorem LAt.same {H H':Hp}{p:Addr}{S:Rel3}(h:LAt H p S)(s:Same H H'):LAt H' p S:=by
 obtain⟨kvs,h1,h2,h3,h4⟩:=h
 refine⟨kvs,s _ _ h1,h2,h3,fun c z=>?_⟩
 rcases h4 c z with q | ⟨q,l,q1,q2,q3⟩
 ·exact .inl q
 ·exact .inr ⟨q,l,q1,s _ _ q2,q3⟩
theorem LAt.get {H:Hp}{p:Addr}{S:Rel3}(h:LAt H p S){b e:Addr}{c s:Int}(hb:H b=some (.tup [.int c,.int s]))(he:H e=some (.lst [])):
 ∃ o q l,DGet H p (.ref b) o/\o.getD (.ref e)=.ref q/\H q=some (.lst (intV l))/\l.Nodup/\∀ o',o'∈l↔S c s o'=true:=by
 obtain⟨kvs,h1,h2,h3,h4⟩:=h
 have g:DGet H p (.ref b) (valV kvs [Sum.inl c,Sum.inl s]):=DGet.t (k:=[Sum.inl c,Sum.inl s]) h1 hb
 rcases h4 c s with ⟨q1,q2⟩ | ⟨q,l,q1,q2,_,q4,q5⟩
 ·rw[q1] at g
  exact⟨none,e,[],g,rfl,he,List.nodup_nil,fun o'=>⟨(fun z=>by cases z),fun z=>by rw[q2] at z;cases z⟩⟩
 ·rw[q1] at g
  exact⟨_,q,l,g,rfl,q2,q4,q5⟩
theorem LAt.nil {H:Hp}{p:Addr}(h:H p=some (.dT [])):LAt H p fun _ _ _=>false:=⟨[],h,by simp,(fun kv z=>by cases z),fun c s=>.inl ⟨rfl,fun _=>rfl⟩⟩
theorem LAt.put {H:Hp}{p:Addr}{S:Rel3}(h:LAt H p S){c s o:Int}{q:Addr}{l:List Int}(hq:H q=some (.lst (intV (l++[o]))))(hn:l.Nodup)(hl:∀ o',o'∈l↔S c s o'=true)(ho:o∉l){kvs:List (List Key×V)}(hk:H p=some (.dT kvs)):
 LAt (upd H p (.dT (putK kvs [Sum.inl c,Sum.inl s] (.ref q)))) p (fun c' s' o'=>S c' s' o' || (decide (c'=c) && decide (s'=s) && decide (o'=o))):=by
 obtain⟨kvs',h1,h2,h3,h4⟩:=h
 rw[hk] at h1
 obtain rfl:kvs=kvs':=by injection h1 with h1;injection h1
 have kp:∀(r:Addr) xs,H r=some (.lst xs)->upd H p (.dT (putK kvs [Sum.inl c,Sum.inl s] (.ref q))) r=some (.lst xs):=fun r xs e=>by rw[upd_ne (ne_of e hk (by intro z;cases z))];exact e
 refine⟨_,upd_same,put_nd _ _ h2,fun kv hkv=>?_,fun c' s'=>?_⟩
 ·have:kv.1∈(putK kvs [Sum.inl c,Sum.inl s] (V.ref q)).map (·.1):=List.mem_map_of_mem hkv
  rw[put_keys] at this
  split at this
  ·obtain⟨z,hz,e⟩:=List.mem_map.mp this
   rw[← e];exact h3 z hz
  ·rcases List.mem_append.mp this with w | w
   ·obtain⟨z,hz,e⟩:=List.mem_map.mp w
    rw[← e];exact h3 z hz
   ·exact⟨c,s,List.mem_singleton.mp w⟩
 ·rw[valV_put]
  by_cases e:c'=c/\s'=s
  ·obtain⟨rfl,rfl⟩:=e
   rw[if_pos rfl]
   refine .inr ⟨q,l++[o],rfl,kp _ _ hq,by simp,List.nodup_append.mpr ⟨hn,by simp,fun x hx y hy z=>ho (by rw[← List.mem_singleton.mp hy,← z];exact hx)⟩,fun o'=>?_⟩
   rw[List.mem_append,List.mem_singleton,hl o']
   simp
  ·rw[if_neg (fun z=>e (by injection z with z1 z2;injection z2 with z2 _;exact⟨Sum.inl.inj z1,Sum.inl.inj z2⟩))]
   have en:(decide (c'=c) && decide (s'=s))=false:=by
    rw[Bool.and_eq_false_iff,decide_eq_false_iff_not,decide_eq_false_iff_not]
    by_cases e1:c'=c
    ·exact .inr fun z=>e ⟨e1,z⟩
    ·exact .inl e1
   rcases h4 c' s' with ⟨w1,w2⟩ | ⟨r,l',w1,w2,w3,w4,w5⟩
   ·exact .inl ⟨w1,fun o'=>by dsimp only;rw[w2,en];rfl⟩
   ·exact .inr ⟨r,l',w1,kp _ _ w2,w3,w4,fun o'=>by dsimp only;rw[w5,en];simp⟩
def spAt (K:PySem.W.Frag):Sp:=fun vs H Q _=>∃(a:Addr) (ns:List Int) (k:Nat),vs=[.ref a,.int k]/\SqL K H a (intV ns)/\k<=1000/\∀ z,Q (.int z) H
def spMix:Sp:=fun vs H Q _=>∃(z p:Int),vs=[.int z,.int p]/\0<=p/\p<=1000/\∀ r:Int,0<=r->Q (.int r) H
theorem ok__law_at (T:Txt K mg A):FnOk P w K mg base CX0 1 A.f__law_at A.d__law_at ["_law_script","_law_k"] (spAt K):=by
 refine T._law_at.F.ok sc__law_at (fun vs H Q E h=>?_) (fun cdv AA outer s H vs Q E hr h=>?_)
 ·obtain⟨a,ns,n,rfl,_⟩:=h
  rfl
 ·obtain⟨a,ns,n,rfl,ha,hn,k⟩:=h
  refine⟨_,(pss_cons (ps_if (pt_cmpR op_lt (pv 1) (pe_callB call_len_seq rfl T.z_len PySem.boot_len (pa_cons (pv 0) pa_nil)) (nomark _))
   (pss_one (ps_ret (pe_ix ix_list (pv 0) (pv 1) (fun _ _=>rfl))))
   pss_nil)
   (pss_one (ps_ret (pe_op op_add (pe_op op_mul pe_int (pv 1)) pe_int)))),?_⟩
  try dsimp only[cx_noxK,cx_K]
  refine seq_let1 ?_
  intro u_1
  refine⟨_,rfl,_,rfl,a,_,rfl,.inl ha,_,_,rfl,rfl,_,rfl,?_⟩
  refine ite2 (fun h=>?_) (fun h=>?_)
  ·have h':(n:Int) < ((intV ns).length:Int):=of_decide_eq_true h
   rw[ints_len] at h'
   have e0:ns[n]?=some ns[n]:=List.getElem?_eq_getElem (by omega)
   exact⟨_,rfl,_,rfl,a,_,_,_,rfl,rfl,ha,atI_nat (ints_at e0),k _⟩
  ·exact⟨_,rfl,_,_,rfl,rfl,.inl ⟨by decide,by decide⟩,_,_,rfl,rfl,k _⟩
theorem ok__law_mix (T:Txt K mg A):FnOk P w K mg base CX0 1 A.f__law_mix A.d__law_mix ["_law_number","_law_place"] spMix:=by
 refine T._law_mix.F.ok sc__law_mix (fun vs H Q E h=>?_) (fun cdv AA outer s H vs Q E hr h=>?_)
 ·obtain⟨z,p,rfl,_⟩:=h
  rfl
 ·obtain⟨z,p,rfl,hp,hp2,k⟩:=h
  refine⟨_,(pss_cons (ps_set (i:=2) sc__law_mix.nd rfl (Or.inl rfl) (pe_op op_mod (pe_op op_mul (pe_op op_add (pe_op op_add (pe_op op_mod (pv 0) pe_int) (pv 1)) pe_int) (pe_op op_add (pe_op op_mul (pe_op op_mul pe_int (pv 1)) (pv 1)) pe_int)) pe_int))
   (pss_one (ps_ret (pe_op op_mod (pe_op op_mul (pv 2) (pv 2)) pe_int)))),?_⟩
  try dsimp only[cx_noxK,cx_K]
  refine seq_let1 ?_
  intro u_1
  have b1:=Int.emod_nonneg z (show (2147483629:Int)≠0 by decide)
  have b2:=Int.emod_lt_of_pos z (show (0:Int) < 2147483629 by decide)
  refine⟨_,rfl,_,_,rfl,rfl,(by show (0:Int) < 2147483629;decide),_,rfl,_,_,rfl,rfl,_,_,rfl,rfl,_,rfl,_,_,rfl,rfl,.inl ⟨by decide,by decide⟩,_,rfl,_,_,rfl,rfl,.inr ⟨by omega,by omega⟩,_,_,rfl,rfl,_,_,rfl,rfl,.inl ⟨by omega,by omega⟩,_,_,rfl,rfl,(by show (0:Int) < 2147483647;decide),?_⟩
  generalize ((z % 2147483629+ p+ 1)* (8* p* p+ 48271))=y1
  have c1:=Int.emod_nonneg y1 (show (2147483647:Int)≠0 by decide)
  have c2:=Int.emod_lt_of_pos y1 (show (0:Int) < 2147483647 by decide)
  generalize y1 % 2147483647=y2 at c1 c2 ⊢
  refine⟨_,rfl,_,rfl,_,_,rfl,rfl,.inl ⟨by omega,by omega⟩,_,_,rfl,rfl,(by show (0:Int) < 2147483587;decide),?_⟩
  exact k _ (Int.emod_nonneg _ (by decide))
def addS (S:Rel3)(c s o:Int):Rel3:=fun c' s' o'=>S c' s' o' || (decide (c'=c) && decide (s'=s) && decide (o'=o))
theorem addS_have {S:Rel3}{c s o:Int}(h:S c s o=true):addS S c s o=S:=by
 funext c' s' o'
 unfold addS
 by_cases e:c'=c/\s'=s/\o'=o
 ·obtain⟨rfl,rfl,rfl⟩:=e
  rw[h];rfl
 ·have:(decide (c'=c) && decide (s'=s) && decide (o'=o))=false:=by
   cases q:(decide (c'=c) && decide (s'=s) && decide (o'=o)) with
   | false=>rfl
   | true=>
     simp only[Bool.and_eq_true,decide_eq_true_eq] at q
     exact absurd ⟨q.1.1,q.1.2,q.2⟩ e
  rw[this,Bool.or_false]
def LBd (S:Rel3):Prop:=∀ c s o,S c s o=true->(0<=c/\c < 5000)/\(-10 < s/\s < 10)/\0<=o/\o < 5000
theorem LBd.add {S:Rel3}(h:LBd S){c s o:Int}(hc:0<=c/\c < 5000)(hs: -10 < s/\s < 10)(ho:0<=o/\o < 5000):LBd (addS S c s o):=fun c' s' o' q=>by
 unfold addS at q
 simp only[Bool.or_eq_true,Bool.and_eq_true,decide_eq_true_eq] at q
 rcases q with q | ⟨⟨rfl,rfl⟩,rfl⟩
 ·exact h _ _ _ q
 ·exact⟨hc,hs,ho⟩
def codeK:List Key->Int
 | [Sum.inl c,Sum.inl s]=>c* 20+ (s+ 10)
 | _=>0
theorem LAt.len {H:Hp}{p:Addr}{S:Rel3}(h:LAt H p S)(hb:LBd S){kvs:List (List Key×V)}(hk:H p=some (.dT kvs)):kvs.length<=100000:=by
 obtain⟨kvs',h1,h2,h3,h4⟩:=h
 rw[hk] at h1
 obtain rfl:kvs=kvs':=by injection h1 with h1;injection h1
 have bd:∀ kv∈kvs,∃ c s:Int,kv.1=[Sum.inl c,Sum.inl s]/\(0<=c/\c < 5000)/\(-10 < s/\s < 10):=fun kv hkv=>by
  obtain⟨c,s,e⟩:=h3 kv hkv
  have hv:=valV_mem h2 hkv
  rw[e] at hv
  rcases h4 c s with ⟨q,_⟩ | ⟨q,l,q1,q2,q3,q4,q5⟩
  ·rw[q] at hv;cases hv
  ·obtain⟨o,ho⟩:=List.exists_mem_of_ne_nil _ q3
   have:=hb _ _ _ ((q5 o).mp ho)
   exact⟨c,s,e,this.1,this.2.1⟩
 have:=nd_range 100000 (kvs.map fun kv=>codeK kv.1) 0 ?_ fun x hx=>?_
 ·rw[List.length_map] at this;exact this
 ·rw[List.Nodup,List.pairwise_map] at h2 ⊢
  refine List.Pairwise.imp_of_mem (fun{a b} ha hb' q z=>q ?_) h2
  obtain⟨c,s,e1,b1,b2⟩:=bd a ha
  obtain⟨c',s',e2,b3,b4⟩:=bd b hb'
  rw[e1,e2] at z ⊢
  have z':c* 20+ (s+ 10)=c'* 20+ (s'+ 10):=z
  have:c=c':=by omega
  have:s=s':=by omega
  subst c' s'
  rfl
 ·obtain⟨kv,hkv,rfl⟩:=List.mem_map.mp hx
  obtain⟨c,s,e1,b1,b2⟩:=bd kv hkv
  rw[e1]
  show (0:Int)<=c* 20+ (s+ 10)/\c* 20+ (s+ 10) < 0+ (100000:Nat)
  omega
def ButP (p:Addr)(H H':Hp):Prop:=∀ b u,b≠p->H b=some u->H' b=some u
theorem ButP.same {p:Addr}{H H1 H2:Hp}(h:ButP p H H1)(s:Same H1 H2):ButP p H H2:=fun b u n e=>s _ _ (h b u n e)
theorem ButP.upd_ {p:Addr}{H H1:Hp}{o:HO}(h:ButP p H H1):ButP p H (upd H1 p o):=fun b u n e=>by rw[upd_ne n];exact h b u n e
theorem lst_len {S:Rel3}{c s:Int}{l:List Int}(hb:LBd S)(hn:l.Nodup)(hl:∀ o,o∈l↔S c s o=true):l.length<=5000:=nd_range 5000 l 0 hn fun x hx=>by
 have:=hb _ _ _ ((hl x).mp hx)
 omega
def LNo (H:Hp)(p:Addr)(N:Addr->Prop):Prop:=∀ kvs,H p=some (.dT kvs)->∀ kv∈kvs,∀ q,kv.2=.ref q->¬ N q
def Thr (H:Hp)(N:Addr->Prop):Prop:=∀ b,N b->∃ u,H b=some u
theorem LNo.at {H H':Hp}{p:Addr}{N:Addr->Prop}(h:LNo H p N)(e:∀ kvs,H' p=some (.dT kvs)->H p=some (.dT kvs)):LNo H' p N:=fun kvs q=>h kvs (e kvs q)
theorem LNo.same {H H':Hp}{p:Addr}{S:Rel3}{N:Addr->Prop}(h:LNo H p N)(hL:LAt H p S)(s:Same H H'):LNo H' p N:=h.at fun kvs q=>by
 obtain⟨kv,e,_⟩:=hL
 have:=s _ _ e
 rw[q] at this
 rw[e,← this]
theorem mem_putK {κ:Type} [DecidableEq κ]{kvs:List (κ×V)}{k:κ}{v:V}{kv:κ×V}(h:kv∈putK kvs k v):kv∈kvs\/kv.2=v:=by
 unfold putK at h
 split at h
 ·obtain⟨z,hz,e⟩:=List.mem_map.mp h
  split at e
  ·exact .inr (by rw[← e])
  ·exact .inl (by rw[← e];exact hz)
 ·rcases List.mem_append.mp h with w | w
  ·exact .inl w
  ·exact .inr (by rw[List.mem_singleton.mp w])
theorem LNo.put {H:Hp}{p r:Addr}{N:Addr->Prop}{kvs:List (List Key×V)}{k:List Key}(h:LNo H p N)(hk:H p=some (.dT kvs))(hr:¬ N r):LNo (upd H p (.dT (putK kvs k (.ref r)))) p N:=fun kvs' e kv hkv q eq=>by
 rw[upd_same] at e
 obtain rfl:putK kvs k (.ref r)=kvs':=by injection e with e;injection e
 rcases mem_putK hkv with w | w
 ·exact h kvs hk kv w q eq
 ·rw[w] at eq
  injection eq with eq
  rw[← eq];exact hr
theorem LAt.keepN {H H':Hp}{p:Addr}{S:Rel3}{N:Addr->Prop}(h:LAt H p S)(hN:LNo H p N)(hp:¬ N p)(f:∀ b u,¬ N b->H b=some u->H' b=some u):LAt H' p S:=by
 obtain⟨kvs,h1,h2,h3,h4⟩:=h
 refine⟨kvs,f _ _ hp h1,h2,h3,fun c z=>?_⟩
 rcases h4 c z with q | ⟨q,l,q1,q2,q3⟩
 ·exact .inl q
 ·exact .inr ⟨q,l,q1,f _ _ (hN kvs h1 _ (mem_valV q1) q rfl) q2,q3⟩
def tellS (S:Rel3)(c s o:Int):Nat->Rel3
 | 0=>S
 | 1=>addS S c s o
 | _=>learnS S c s o
def spTell:Sp:=fun vs H Q _=>∃(p:Addr) (S:Rel3) (c s o:Int),vs=[.ref p,.int c,.int s,.int o]/\LAt H p S/\LBd S/\(0<=c/\c < 5000)/\(-10 < s/\s < 10)/\(0<=o/\o < 5000)/\∀ H',ButP p H H'->LAt H' p (learnS S c s o)->(∀ N,Thr H N->LNo H p N->LNo H' p N)->Q .non H'
theorem ok__law_tell (T:Txt K mg A):FnOk P w K mg base CX0 1 A.f__law_tell A.d__law_tell ["_law_known","_law_room","_law_step","_law_other"] spTell:=by
 refine T._law_tell.F.ok sc__law_tell (fun vs H Q E h=>?_) (fun cdv AA outer s H vs Q E hr h=>?_)
 ·obtain⟨p,S,c,s,o,rfl,_⟩:=h
  rfl
 ·obtain⟨p,S,c,s,o,rfl,h,hb,hc,hs,ho,k⟩:=h
  have hu2:=hu_of hr
  refine⟨_,(pss_one (ps_for PassesOwn.never rfl (pi_list (pe_lst (pa_cons (pe_tup (pa_cons (pe_tup (pa_cons (pv 1) (pa_cons (pv 2) pa_nil))) (pa_cons (pv 3) pa_nil))) (pa_cons (pe_tup (pa_cons (pe_tup (pa_cons (pv 3) (pa_cons (pe_op op_sub pe_int (pv 2)) pa_nil))) (pa_cons (pv 1) pa_nil))) pa_nil)))) (pg_tup rfl (pgs_cons (pg_name (i:=4) sc__law_tell.nd rfl (Or.inl rfl)) (pgs_cons (pg_name (i:=5) sc__law_tell.nd rfl (Or.inl rfl)) pgs_nil)))
   (pss_one (ps_cut (ps_if (pt_cmpR op_NOTIN_l (pv 5) (pe_dget2 hu2 (pv 0) (pv 4) (pe_lst pa_nil) ⟨rfl,rfl,rfl,rfl⟩) rfl)
    (pss_one (ps_dput hu2 (pv 0) (pv 4) (pe_op op_cat (pe_dget2 hu2 (pv 0) (pv 4) (pe_lst pa_nil) ⟨rfl,rfl,rfl,rfl⟩) (pe_lst (pa_cons (pv 5) pa_nil))) rfl))
    pss_nil))))),?_⟩
  try dsimp only[cx_noxK,cx_K]
  have sz2:2<=sizeLine:=by decide
  refine⟨_,rfl,_,rfl,sz2,fun k1 n1=>?_⟩
  have s1:=Same.upd (o:=.tup [.int c,.int s]) n1
  have q1:upd H k1 (.tup [.int c,.int s]) k1=some (.tup [.int c,.int s]):=upd_same
  generalize upd H k1 (.tup [.int c,.int s])=H1 at s1 q1 ⊢
  refine⟨_,rfl,sz2,fun t1 n2=>?_⟩
  have s2:=Same.upd (o:=.tup [.ref k1,.int o]) n2
  have q2:upd H1 t1 (.tup [.ref k1,.int o]) t1=some (.tup [.ref k1,.int o]):=upd_same
  generalize upd H1 t1 (.tup [.ref k1,.int o])=H2 at s2 q2 ⊢
  refine⟨_,rfl,_,rfl,_,_,rfl,rfl,sz2,fun k2 n3=>?_⟩
  have s3:=Same.upd (o:=.tup [.int o,.int (0 - s)]) n3
  have q3:upd H2 k2 (.tup [.int o,.int (0 - s)]) k2=some (.tup [.int o,.int (0 - s)]):=upd_same
  generalize upd H2 k2 (.tup [.int o,.int (0 - s)])=H3 at s3 q3 ⊢
  refine⟨_,rfl,sz2,fun t2 n4=>?_⟩
  have s4:=Same.upd (o:=.tup [.ref k2,.int c]) n4
  have q4:upd H3 t2 (.tup [.ref k2,.int c]) t2=some (.tup [.ref k2,.int c]):=upd_same
  generalize upd H3 t2 (.tup [.ref k2,.int c])=H4 at s4 q4 ⊢
  refine⟨sz2,fun l n5=>?_⟩
  have s5:=Same.upd (o:=.lst [.ref t1,.ref t2]) n5
  have q5:upd H4 l (.lst [.ref t1,.ref t2]) l=some (.lst [.ref t1,.ref t2]):=upd_same
  generalize upd H4 l (.lst [.ref t1,.ref t2])=H5 at s5 q5 ⊢
  refine⟨l,rfl,⟨_,SqL.of q5⟩,?_⟩
  have s05:Same H H5:=(((s1.trans s2).trans s3).trans s4).trans s5
  have ent:∀(i:Nat) (v:V),[V.ref t1,V.ref t2][i]?=some v->∃ t kk c' s' o',v=.ref t/\H5 t=some (.tup [.ref kk,.int o'])/\H5 kk=some (.tup [.int c',.int s'])/\tellS S c s o (i+ 1)=addS (tellS S c s o i) c' s' o'/\LBd (tellS S c s o i)/\i < 2:=fun i v hi=>by
   match i,hi with
   | 0,hi=>exact⟨t1,k1,c,s,o,(Option.some.inj hi).symm,(((s3.trans s4).trans s5) _ _ q2),((((s2.trans s3).trans s4).trans s5) _ _ q1),rfl,hb,by omega⟩
   | 1,hi=>exact⟨t2,k2,o,0 - s,c,(Option.some.inj hi).symm,s5 _ _ q4,(s4.trans s5) _ _ q3,by rw[Int.zero_sub];rfl,hb.add hc hs ho,by omega⟩
   | i+ 2,hi=>simp at hi
  have hpd:∃ kv,H5 p=some (.dT kv):=by
   obtain⟨kv,q,_⟩:=h
   exact⟨kv,s05 _ _ q⟩
  obtain⟨kv5,hp5⟩:=hpd
  have nt:∀{b:Addr} {xs:List V},H5 b=some (.tup xs)->b≠p:=fun q=>ne_of q hp5 (by intro z;cases z)
  have nl:l≠p:=ne_of q5 hp5 (by intro z;cases z)
  refine for_list (K:=K) (a:=l) (xs:=[V.ref t1,V.ref t2]) (fun i σ H6=>∃ v4 v5,σ=[some (.ref p),some (.int c),some (.int s),some (.int o),v4,v5]/\ButP p H5 H6/\LAt H6 p (tellS S c s o i)/\∀ N,Thr H N->LNo H p N->LNo H6 p N)
   ⟨none,none,rfl,fun _ _ _ e=>e,h.same s05,fun N _ hN=>hN.same h s05⟩ (fun i σ H6 _ ⟨_,_,_,b6,_⟩=>SqL.of (b6 _ _ nl q5)) ?_ ?_
  ·rintro i v σ H6 hi ⟨v4,v5,rfl,b6,h6,n6⟩
   obtain⟨t,kk,c',s',o',rfl,qt,qk,eS,bS,_⟩:=ent i v hi
   have qt6:=b6 _ _ (nt qt) qt
   have qk6:=b6 _ _ (nt qk) qk
   refine⟨t,_,rfl,SqT.of qt6,rfl,_,_,rfl,_,_,rfl,rfl,?_⟩
   refine⟨fun σ' H'=>∃ v4 v5,σ'=[some (.ref p),some (.int c),some (.int s),some (.int o),v4,v5]/\ButP p H5 H'/\LAt H' p (tellS S c s o (i+ 1))/\∀ N,Thr H N->LNo H p N->LNo H' p N,?_,fun _ _ z=>z⟩
   rw[eS]
   have isd:∀{H':Hp} {S':Rel3},LAt H' p S'->IsD H' p:=fun{H' S'} ⟨kv,q,_⟩=>.inr ⟨kv,.inl q⟩
   refine⟨_,rfl,_,rfl,p,rfl,isd h6,_,rfl,Nat.zero_le _,fun e1 ne1=>?_⟩
   have s7:=Same.upd (o:=.lst []) ne1
   have e7:upd H6 e1 (.lst []) e1=some (.lst []):=upd_same
   generalize upd H6 e1 (.lst [])=H7 at s7 e7 ⊢
   have h7:=h6.same s7
   obtain⟨oo,q,ls,g1,g2,g3,g4,g5⟩:=h7.get (s7 _ _ qk6) e7
   refine⟨oo,g1,o',q,ls,rfl,g2,g3,_,rfl,?_⟩
   refine ite2 (fun z=>?_) (fun z=>?_)
   ·have hm:o'∉ls:=fun w=>by rw[decide_eq_true w] at z;cases z
    refine⟨_,rfl,p,rfl,isd h7,_,rfl,Nat.zero_le _,fun e2 ne2=>?_⟩
    have s8:=Same.upd (o:=.lst []) ne2
    have e8:upd H7 e2 (.lst []) e2=some (.lst []):=upd_same
    generalize upd H7 e2 (.lst [])=H8 at s8 e8 ⊢
    have h8:=h7.same s8
    obtain⟨oo2,q',ls',f1,f2,f3,f4,f5⟩:=h8.get (s8 _ _ (s7 _ _ qk6)) e8
    have hm':o'∉ls':=fun w=>hm ((g5 o').mpr ((f5 o').mp w))
    have lb:=lst_len bS f4 f5
    refine⟨oo2,f1,_,rfl,(by show 1<=sizeLine;decide),fun e3 ne3=>?_⟩
    have s9:=Same.upd (o:=.lst [.int o']) ne3
    have e9:upd H8 e3 (.lst [.int o']) e3=some (.lst [.int o']):=upd_same
    generalize upd H8 e3 (.lst [.int o'])=H9 at s9 e9 ⊢
    refine⟨q',e3,intV ls',[.int o'],f2,rfl,s9 _ _ f3,e9,(by rw[ints_len];exact Nat.le_trans (show ls'.length+ 1<=6000 by omega) (by decide)),fun r nr=>?_⟩
    have s10:=Same.upd (o:=.lst (intV ls'++[.int o'])) nr
    have e10:upd H9 r (.lst (intV ls'++[.int o'])) r=some (.lst (intV (ls'++[o']))):=by rw[upd_same,ints_app];rfl
    generalize upd H9 r (.lst (intV ls'++[.int o']))=H10 at s10 e10 ⊢
    have h10:=(h8.same s9).same s10
    obtain⟨kv,hkv,_⟩:=id h10
    have kl:=h10.len bS hkv
    refine⟨_,rfl,_,rfl,p,_,rfl,DPut.t (k:=[Sum.inl c',Sum.inl s']) hkv ((((s7.trans s8).trans s9).trans s10) _ _ qk6) (Nat.lt_of_le_of_lt kl (by decide)),?_⟩
    refine⟨_,_,rfl,(b6.same (((s7.trans s8).trans s9).trans s10)).upd_,h10.put e10 f4 f5 hm' hkv,fun N hT hN=>?_⟩
    refine((n6 N hT hN).same h6 (((s7.trans s8).trans s9).trans s10)).put hkv fun z=>?_
    obtain⟨u,hu⟩:=hT r z
    by_cases e:r=p
    ·rw[e] at nr
     obtain⟨kvx,ex,_⟩:=h8
     rw[s9 _ _ ex] at nr;cases nr
    ·rw[((s7.trans s8).trans s9) _ _ (b6 _ _ e (s05 _ _ hu))] at nr;cases nr
   ·have hm:o'∈ls:=by
     by_cases w:o'∈ls
     ·exact w
     ·exact absurd (by rw[decide_eq_false w];rfl) z
    rw[addS_have ((g5 o').mp hm)]
    exact⟨_,_,rfl,b6.same s7,h7,fun N hT hN=>(n6 N hT hN).same h6 s7⟩
  ·rintro σ H6 ⟨v4,v5,rfl,b6,h6,n6⟩
   exact k _ (fun b u n e=>b6 b u n (s05 _ _ e)) h6 n6
def rn (x y c:Int):Int:=if c=y then x else c
theorem rn_ne {x y c:Int}(h:x≠y):rn x y c≠y:=by
 unfold rn
 split
 ·exact h
 ·assumption
theorem move_rn {S:Rel3}{x y c s o:Int}(hxy:x≠y)(h:S c s o=true):moveS S x y (rn x y c) s (rn x y o)=true:=by
 rw[moveS_iff]
 refine⟨⟨rn_ne hxy,rn_ne hxy⟩,?_⟩
 unfold rn
 by_cases e1:c=y
 ·by_cases e2:o=y
  ·rw[if_pos e1,if_pos e2]
   exact .inr (.inr (.inr ⟨rfl,rfl,by rw[e1,e2] at h;exact h⟩))
  ·rw[if_pos e1,if_neg e2]
   exact .inr (.inl ⟨rfl,by rw[e1] at h;exact h⟩)
 ·by_cases e2:o=y
  ·rw[if_neg e1,if_pos e2]
   exact .inr (.inr (.inl ⟨rfl,by rw[e2] at h;exact h⟩))
  ·rw[if_neg e1,if_neg e2]
   exact .inl h
theorem rn_move {S:Rel3}{x y c s o:Int}(h:moveS S x y c s o=true):∃ c0 o0,S c0 s o0=true/\rn x y c0=c/\rn x y o0=o:=by
 rw[moveS_iff] at h
 have r:∀{z:Int},z≠y->rn x y z=z:=fun{z} q=>if_neg q
 have ry:rn x y y=x:=if_pos rfl
 rcases h.2 with q | ⟨e,q⟩ | ⟨e,q⟩ | ⟨e1,e2,q⟩
 ·exact⟨c,o,q,r h.1.1,r h.1.2⟩
 ·exact⟨y,o,q,by rw[ry,e],r h.1.2⟩
 ·exact⟨c,y,q,r h.1.1,by rw[ry,e]⟩
 ·exact⟨y,y,q,by rw[ry,e1],by rw[ry,e2]⟩
theorem LBd.move {S:Rel3}(h:LBd S){x y:Int}(hx:0<=x/\x < 5000):LBd (moveS S x y):=fun c s o q=>by
 obtain⟨c0,o0,q,e1,e2⟩:=rn_move q
 have b:=h _ _ _ q
 unfold rn at e1 e2
 split at e1 <;> split at e2 <;> omega
structure Fnd (S:Rel3) (x y:Int) (F:Rel3) (D:Int->Int->Int->Prop):Prop where
 so:∀ c s o,F c s o=true->moveS S x y c s o=true
 al:∀ c s o,S c s o=true->D c s o->F (rn x y c) s (rn x y o)=true
theorem Fnd.tell {S:Rel3}{x y:Int}{F:Rel3}{D:Int->Int->Int->Prop}(h:Fnd S x y F D)(hS:SymS S)(hxy:x≠y){c s o:Int}(q:S c s o=true):Fnd S x y (learnS F (rn x y c) s (rn x y o)) (fun c' s' o'=>D c' s' o'\/(c'=c/\s'=s/\o'=o)):=by
 have m:=move_rn (s:=s) hxy q
 have m2:=move_rn (s:=-s) hxy (hS _ _ _ q)
 refine⟨fun c' s' o' z=>?_,fun c' s' o' z d=>?_⟩
 ·rcases learnS_iff.mp z with z | ⟨rfl,rfl,rfl⟩ | ⟨rfl,rfl,rfl⟩
  ·exact h.so _ _ _ z
  ·exact m
  ·exact m2
 ·rw[learnS_iff]
  rcases d with d | ⟨rfl,rfl,rfl⟩
  ·exact .inl (h.al _ _ _ z d)
  ·exact .inr (.inl ⟨rfl,rfl,rfl⟩)
theorem Fnd.all {S:Rel3}{x y:Int}{F:Rel3}{D:Int->Int->Int->Prop}(h:Fnd S x y F D)(hD:∀ c s o,S c s o=true->D c s o):F=moveS S x y:=by
 funext c s o
 rw[Bool.eq_iff_iff]
 refine⟨h.so _ _ _,fun z=>?_⟩
 obtain⟨c0,o0,q,rfl,rfl⟩:=rn_move z
 exact h.al _ _ _ q (hD _ _ _ q)
theorem Fnd.imp {S:Rel3}{x y:Int}{F:Rel3}{D D':Int->Int->Int->Prop}(h:Fnd S x y F D)(f:∀ c s o,S c s o=true->D' c s o->D c s o):Fnd S x y F D':=⟨h.so,fun c s o q d=>h.al c s o q (f c s o q d)⟩
def spMet:Sp:=fun vs H Q _=>∃(p:Addr) (S:Rel3) (x y:Int),vs=[.ref p,.int x,.int y]/\LAt H p S/\SymS S/\LBd S/\(0<=x/\x < 5000)/\x≠y/\∀ f H',Same H H'->H f=none->LAt H' f (moveS S x y)->(∀ N,Thr H N->LNo H' f N)->Q (.ref f) H'
theorem LAt.at {H:Hp}{p:Addr}{S:Rel3}(h:LAt H p S){kvs:List (List Key×V)}(hk:H p=some (.dT kvs)){i:Nat}{kv:List Key×V}(e:kvs[i]?=some kv):
 ∃(c s:Int) (q:Addr) (l:List Int),kv.1=[Sum.inl c,Sum.inl s]/\kv.2=.ref q/\H q=some (.lst (intV l))/\l≠[]/\l.Nodup/\(∀ o,o∈l↔S c s o=true):=by
 obtain⟨kvs',h1,h2,h3,h4⟩:=h
 rw[hk] at h1
 obtain rfl:kvs=kvs':=by injection h1 with h1;injection h1
 have hm:=List.mem_of_getElem? e
 obtain⟨c,s,ek⟩:=h3 kv hm
 have hv:=valV_mem h2 hm
 rw[ek] at hv
 rcases h4 c s with ⟨q,_⟩ | ⟨q,l,q1,q2,q3,q4,q5⟩
 ·rw[q] at hv;cases hv
 ·rw[q1] at hv
  exact⟨c,s,q,l,ek,(Option.some.inj hv).symm,q2,q3,q4,q5⟩
theorem LAt.has {H:Hp}{p:Addr}{S:Rel3}(h:LAt H p S){kvs:List (List Key×V)}(hk:H p=some (.dT kvs)){c s o:Int}(e:S c s o=true):∃(i:Nat) (kv:List Key×V),i < kvs.length/\kvs[i]?=some kv/\kv.1=[Sum.inl c,Sum.inl s]:=by
 obtain⟨kvs',h1,h2,h3,h4⟩:=h
 rw[hk] at h1
 obtain rfl:kvs=kvs':=by injection h1 with h1;injection h1
 rcases h4 c s with ⟨_,q⟩ | ⟨q,l,q1,q2,q3,q4,q5⟩
 ·rw[q] at e;cases e
 ·obtain⟨i,hi,ei⟩:=List.mem_iff_getElem.mp (mem_valV q1)
  exact⟨i,_,hi,(List.getElem?_eq_getElem hi).trans (by rw[ei]),rfl⟩
theorem pick_rn (x y c:Int):atI [V.int c,V.int x] (if decide (V.int c=V.int y)=true then 1 else 0)=some (V.int (rn x y c)):=by
 unfold rn
 by_cases e:c=y
 ·rw[if_pos e,if_pos (decide_eq_true (by rw[e]))];rfl
 ·rw[if_neg e,if_neg (fun z=>e (by have:=of_decide_eq_true z;injection this))];rfl
theorem LAt.but {H H':Hp}{p f:Addr}{S:Rel3}{fo:Obj}{u:HO}(h:LAt H f S)(hp:H p=some (.frz fo u))(b:ButP p H H'):LAt H' f S:=by
 obtain⟨kvs,h1,h2,h3,h4⟩:=h
 refine⟨kvs,b _ _ (ne_of h1 hp (by intro z;cases z)) h1,h2,h3,fun c z=>?_⟩
 rcases h4 c z with q | ⟨q,l,q1,q2,q3⟩
 ·exact .inl q
 ·exact .inr ⟨q,l,q1,b _ _ (ne_of q2 hp (by intro z;cases z)) q2,q3⟩
theorem ok__law_met (T:Txt K mg A):FnOk P w K mg base CX0 2 A.f__law_met A.d__law_met ["_law_known","_law_less","_law_more"] spMet:=by
 have G__law_tell:FnOk P w K mg base CX0 1 A.f__law_tell A.d__law_tell ["_law_known","_law_room","_law_step","_law_other"] spTell:=ok__law_tell T
 refine T._law_met.F.ok sc__law_met (fun vs H Q E h=>?_) (fun cdv AA outer s H vs Q E hr h=>?_)
 ·obtain⟨p,S,x,y,rfl,_⟩:=h
  rfl
 ·obtain⟨p,S,x,y,rfl,h,hS,hb,hx,hxy,k⟩:=h
  refine⟨_,(pss_cons (ps_set (i:=3) sc__law_met.nd rfl (Or.inl rfl) pe_dnewT)
   (pss_cons (ps_thaw (ps_for PassesOwn.never rfl (pi_dI (pv 0)) (pg_tup rfl (pgs_cons (pg_name (i:=4) sc__law_met.nd rfl (Or.inl rfl)) (pgs_cons (pg_name (i:=5) sc__law_met.nd rfl (Or.inl rfl)) pgs_nil)))
    (pss_one (ps_for PassesOwn.never rfl (pi_list (pv 5)) (pg_name (i:=6) sc__law_met.nd rfl (Or.inl rfl))
     (pss_cons (ps_set (i:=7) sc__law_met.nd rfl (Or.inl rfl) (pe_ix ix_list (pe_lst (pa_cons (pe_ix ix_tup (pv 4) pe_int (fun _ _=>rfl)) (pa_cons (pv 1) pa_nil))) (pe_callTy call_intB rfl T.z_int PyProof.Rows.boot_int (pa_cons (pe_cmpR op_eq (pe_ix ix_tup (pv 4) pe_int (fun _ _=>rfl)) (pv 2) (nomark _)) pa_nil)) (fun _ _=>rfl)))
     (pss_one (ps_expr (pe_call (G__law_tell) (hr.mono (by decide)) rfl T._law_tell.m T._law_tell.F.kp T._law_tell.b .nil pass0 (pa_cons (pv 3) (pa_cons (pv 7) (pa_cons (pe_ix ix_tup (pv 4) pe_int (fun _ _=>rfl)) (pa_cons (pe_ix ix_list (pe_lst (pa_cons (pv 6) (pa_cons (pv 1) pa_nil))) (pe_callTy call_intB rfl T.z_int PyProof.Rows.boot_int (pa_cons (pe_cmpR op_eq (pv 6) (pv 2) (nomark _)) pa_nil)) (fun _ _=>rfl)) pa_nil))))))))))))
   (pss_one (ps_ret (pv 3))))),?_⟩
  try dsimp only[cx_noxK,cx_K]
  refine seq_let2 ?_
  intro u_2 u_1
  obtain⟨kvs,hk,_⟩:=id h
  refine fun f nf=>?_
  have nfp:f≠p:=fun e=>by rw[e,hk] at nf;cases nf
  have s1:=Same.upd (o:=.dT []) nf
  have q1:upd H f (.dT []) f=some (.dT []):=upd_same
  generalize upd H f (.dT [])=H1 at s1 q1 ⊢
  refine⟨p,_,s1 _ _ hk,trivial,_,rfl,p,kvs,rfl,s1 _ _ hk,fun fo=>?_⟩
  refine for_dI (d:=p) (o:=fo) (kvs:=kvs) (fun i σ H5=>∃ v4 v5 v6 v7 F,σ=[some (.ref p),some (.int x),some (.int y),some (.ref f),v4,v5,v6,v7]/\ButP p H H5/\H5 p=some (.frz fo (.dT kvs))/\LAt H5 f F/\Fnd S x y F (fun c s _=>∃ j kv,j < i/\kvs[j]?=some kv/\kv.1=[Sum.inl c,Sum.inl s])/\∀ N,Thr H N->LNo H5 f N)
   ⟨none,none,none,none,fun _ _ _=>false,rfl,fun b u n e=>by rw[upd_ne n];exact s1 _ _ e,upd_same,LAt.nil (by rw[upd_ne nfp];exact q1),⟨(fun c s o z=>by cases z),fun c s o _ ⟨j,kv,hj,_⟩=>absurd hj (Nat.not_lt_zero _)⟩,fun N _ kvs' e kv hkv=>(by rw[upd_ne nfp,q1] at e;injection e with e;injection e with e;rw[← e] at hkv;cases hkv)⟩ (fun i σ H5 _ ⟨_,_,_,_,_,_,_,q,_⟩=>q) ?_ ?_
  ·rintro i kv σ H5 t kp hkv nt hkp ⟨v4,v5,v6,v7,F,rfl,b5,q5,h5,fd,n5⟩
   obtain⟨c,s,q,l,e1,e2,hq,_,hn,hl⟩:=h.at hk hkv
   rw[e1] at hkp
   rw[e2]
   replace hkp:H5 kp=some (.tup [.int c,.int s]):=hkp
   have nqp:q≠p:=ne_of hq hk (by intro z;cases z)
   have s6:=Same.upd (o:=.tup [.ref kp,.ref q]) nt
   have q6:upd H5 t (.tup [.ref kp,.ref q]) t=some (.tup [.ref kp,.ref q]):=upd_same
   generalize upd H5 t (.tup [.ref kp,.ref q])=H6 at s6 q6 ⊢
   refine⟨t,_,rfl,SqT.of q6,rfl,_,_,rfl,_,_,rfl,rfl,?_⟩
   have hkp6:=s6 _ _ hkp
   have hq6:H6 q=some (.lst (intV l)):=s6 _ _ (b5 _ _ nqp hq)
   refine⟨_,rfl,q,rfl,⟨_,SqL.of hq6⟩,?_⟩
   refine for_list (K:=K) (a:=q) (xs:=intV l) (fun j σ H7=>∃ v6 v7 F,σ=[some (.ref p),some (.int x),some (.int y),some (.ref f),some (.ref kp),some (.ref q),v6,v7]/\ButP p H H7/\H7 p=some (.frz fo (.dT kvs))/\LAt H7 f F/\H7 kp=some (.tup [.int c,.int s])/\Fnd S x y F (fun c' s' o'=>(∃ j kv,j < i/\kvs[j]?=some kv/\kv.1=[Sum.inl c',Sum.inl s'])\/(c'=c/\s'=s/\o'∈l.take j))/\∀ N,Thr H N->LNo H7 f N)
    ⟨v6,v7,F,rfl,b5.same s6,s6 _ _ q5,h5.same s6,hkp6,fd.imp (fun c' s' o' _ z=>z.elim id fun w=>(by rw[List.take_zero] at w;cases w.2.2)),fun N hT=>(n5 N hT).same h5 s6⟩ (fun j σ H7 _ ⟨_,_,_,_,b7,_⟩=>SqL.of (b7 _ _ nqp hq)) ?_ ?_
   ·rintro j v σ H7 hj ⟨v6,v7,F,rfl,b7,q7,h7,hkp7,fd7,n7⟩
    obtain⟨o,rfl,ho⟩:=ints_of_at hj
    have sz2:2<=sizeLine:=by decide
    have hSo:S c s o=true:=(hl o).mp (List.mem_of_getElem? ho)
    refine⟨_,rfl,kp,_,_,_,rfl,rfl,SqT.of hkp7,rfl,_,rfl,sz2,fun a1 na1=>?_⟩
    have s8:=Same.upd (o:=.lst [.int c,.int x]) na1
    have q8:upd H7 a1 (.lst [.int c,.int x]) a1=some (.lst [.int c,.int x]):=upd_same
    generalize upd H7 a1 (.lst [.int c,.int x])=H8 at s8 q8 ⊢
    refine⟨_,rfl,kp,_,_,_,rfl,rfl,SqT.of (s8 _ _ hkp7),rfl,_,rfl,rfl,_,rfl,a1,_,_,_,rfl,rfl,SqL.of q8,pick_rn x y c,?_⟩
    refine⟨_,rfl,_,rfl,_,rfl,kp,_,_,_,rfl,rfl,SqT.of (s8 _ _ hkp7),rfl,_,rfl,_,rfl,sz2,fun a2 na2=>?_⟩
    have s9:=Same.upd (o:=.lst [.int o,.int x]) na2
    have q9:upd H8 a2 (.lst [.int o,.int x]) a2=some (.lst [.int o,.int x]):=upd_same
    generalize upd H8 a2 (.lst [.int o,.int x])=H9 at s9 q9 ⊢
    refine⟨_,rfl,_,rfl,rfl,_,rfl,a2,_,_,_,rfl,rfl,SqL.of q9,pick_rn x y o,?_⟩
    have bF:LBd F:=fun c' s' o' z=>(hb.move hx) _ _ _ (fd7.so _ _ _ z)
    have bm:=(hb.move hx) _ _ _ (move_rn hxy hSo)
    refine⟨f,F,rn x y c,s,rn x y o,rfl,(h7.same s8).same s9,bF,bm.1,bm.2.1,bm.2.2,fun H10 b10 h10 n10=>?_⟩
    have s79:=s8.trans s9
    have f10:=(fd7.tell hS hxy hSo).imp (D':=fun c' s' o'=>(∃ j kv,j < i/\kvs[j]?=some kv/\kv.1=[Sum.inl c',Sum.inl s'])\/(c'=c/\s'=s/\o'∈l.take (j+ 1))) fun c' s' o' _ z=>by
     rcases z with z | ⟨z1,z2,z3⟩
     ·exact .inl (.inl z)
     ·rw[List.take_succ,ho] at z3
      rcases List.mem_append.mp z3 with z3 | z3
      ·exact .inl (.inr ⟨z1,z2,z3⟩)
      ·exact .inr ⟨z1,z2,by simpa using z3⟩
    exact⟨_,_,_,rfl,fun b u n e=>b10 b u (fun w=>by rw[w,nf] at e;cases e) (s79 _ _ (b7 _ _ n e)),b10 _ _ nfp.symm (s79 _ _ q7),h10,b10 _ _ (fun w=>by obtain⟨kvF,hF,_⟩:=h7;rw[w,hF] at hkp7;cases hkp7) (s79 _ _ hkp7),f10,fun N hT=>n10 N (fun b z=>by
     obtain⟨u,hu⟩:=hT b z
     by_cases e:b=p
     ·exact⟨_,by rw[e];exact s79 _ _ q7⟩
     ·exact⟨u,s79 _ _ (b7 _ _ e hu)⟩) ((n7 N hT).same h7 s79)⟩
   ·rintro σ H7 ⟨v6,v7,F,rfl,b7,q7,h7,hkp7,fd7,n7⟩
    refine⟨_,_,_,_,F,rfl,b7,q7,h7,fd7.imp fun c' s' o' hS' ⟨j,kv',hj,ek,ek2⟩=>?_,n7⟩
    by_cases e:j=i
    ·subst e
     rw[hkv] at ek
     obtain rfl:=Option.some.inj ek
     rw[e1] at ek2
     injection ek2 with z1 z2
     injection z2 with z2 _
     obtain rfl:=Sum.inl.inj z1
     obtain rfl:=Sum.inl.inj z2
     refine .inr ⟨rfl,rfl,?_⟩
     rw[ints_len,List.take_length]
     exact(hl o').mpr hS'
    ·exact .inl ⟨j,kv',by omega,ek,ek2⟩
  ·rintro σ H5 ⟨v4,v5,v6,v7,F,rfl,b5,q5,h5,fd,n5⟩
   refine⟨fo,q5,?_⟩
   have eF:=fd.all fun c s o z=>by
    obtain⟨j,kv,hj,ek,ek2⟩:=h.has hk z
    exact⟨j,kv,hj,ek,ek2⟩
   subst eF
   have ss:Same H (upd H5 p (.dT kvs)):=fun b u e=>by
    by_cases z:b=p
    ·subst z;rw[upd_same,← hk];exact e
    ·rw[upd_ne z];exact b5 _ _ z e
   exact⟨_,rfl,k f _ ss nf (h5.but q5 fun b u n e=>by rw[upd_ne n];exact e) fun N hT=>(n5 N hT).at fun kvs' e=>by rw[upd_ne nfp] at e;exact e⟩
structure Walk (S:Rel3) (room:Int) (word path:List Int):Prop where
 hd:path.head?=some room
 le:path.length<=word.length+ 1
 st:∀(i:Nat) (c s o:Int),path[i]?=some c->word[i]?=some s->path[i+ 1]?=some o->S c s o=true
 en:∀(c s:Int),path.getLast?=some c->word[path.length - 1]?=some s->∀ o,S c s o=false
structure Cl (X:AS):Prop where
 sy:SymS X.S
 a:∀ c s o,X.S c s o=true->X.st c=true
theorem Cl.b {X:AS}(h:Cl X){c s o:Int}(q:X.S c s o=true):X.st o=true:=h.a _ _ _ (h.sy _ _ _ q)
theorem Walk.stand {X:AS}(hX:Cl X){room:Int}{word path:List Int}(h:Walk X.S room word path)(hr:X.st room=true):∀(i:Nat) (c:Int),path[i]?=some c->X.st c=true
 | 0,c,e=>by
   have:=h.hd
   rw[List.head?_eq_getElem?,e] at this
   rw[Option.some.inj this];exact hr
 | i+ 1,o,e=>by
   have hi:=(List.getElem?_eq_some_iff.mp e).1
   have h1:=h.le
   have e1:path[i]?=some (path[i]'(by omega)):=List.getElem?_eq_getElem (by omega)
   have e2:word[i]?=some (word[i]'(by omega)):=List.getElem?_eq_getElem (by omega)
   exact hX.b (h.st _ _ _ _ e1 e2 e)
theorem Walk.ne {S:Rel3}{room:Int}{word path:List Int}(h:Walk S room word path):1<=path.length:=by
 cases path with
 | nil=>have:=h.hd;cases this
 | cons _ _=>simp
section
variable {L:Int} {ws:List (List Int)} {cm:Int} {X:AS} {n:Nat} {word path:List Int} {room:Int}
theorem round_all (hX:Cl X)(hw:ws[n]?=some word)(h:Walk X.S room word path)(hr:X.st room=true)(hc:(n:Int) < cm\/room=0)(hl:path.length=word.length+ 1)(he:path.getLast?=some room){m:Nat}(hm:m < word.length):okA L ws cm X (.rule n path m):=by
 refine⟨n,m,word,_,_,_,rfl,rfl,hw,List.getElem?_eq_getElem hm,List.getElem?_eq_getElem (by omega),List.getElem?_eq_getElem (by omega),hl,h.hd.trans he.symm,?_,fun c hc=>?_,fun i s' c' o' _ e1 e2 e3=>h.st _ _ _ _ e2 e1 e3⟩
 ·rcases hc with q | q
  ·exact .inl q
  ·rw[h.hd,q];exact .inr rfl
 ·obtain⟨i,hi,rfl⟩:=List.mem_iff_getElem.mp hc
  exact h.stand hX hr i _ (List.getElem?_eq_getElem hi)
theorem round_last (hX:Cl X)(hw:ws[n]?=some word)(h:Walk X.S room word path)(hr:X.st room=true)(hc:(n:Int) < cm\/room=0)(hl:path.length=word.length+ 1)(h0:1<=word.length):okA L ws cm X (.rule n (path.dropLast++[room]) ((word.length - 1:Nat):Int)):=by
 have hdl:path.dropLast.length=word.length:=by rw[List.length_dropLast];omega
 have g1:∀ i:Nat,i < word.length->(path.dropLast++[room])[i]?=path[i]?:=fun i hi=>by
  rw[List.getElem?_append_left (by omega),List.getElem?_dropLast,if_pos (by omega)]
 have g2:(path.dropLast++[room])[word.length]?=some room:=by
  rw[List.getElem?_append_right (by omega),hdl,Nat.sub_self];rfl
 have hh:(path.dropLast++[room]).head?=some room:=by
  rw[List.head?_eq_getElem?,g1 0 (by omega),← List.head?_eq_getElem?];exact h.hd
 refine⟨n,word.length - 1,word,_,_,_,rfl,rfl,hw,List.getElem?_eq_getElem (by omega),(g1 (word.length - 1) (by omega)).trans (List.getElem?_eq_getElem (by omega)),by rw[show word.length - 1+ 1=word.length by omega];exact g2,by rw[List.length_append,hdl];rfl,?_,?_,fun c hc=>?_,fun i s' c' o' hi e1 e2 e3=>?_⟩
 ·rw[hh,List.getLast?_append];rfl
 ·rcases hc with q | q
  ·exact .inl q
  ·rw[hh,q];exact .inr rfl
 ·rcases List.mem_append.mp hc with q | q
  ·obtain⟨i,hi,rfl⟩:=List.mem_iff_getElem.mp ((List.dropLast_sublist path).subset q)
   exact h.stand hX hr i _ (List.getElem?_eq_getElem hi)
  ·rw[List.mem_singleton.mp q];exact hr
 ·have hi':=(List.getElem?_eq_some_iff.mp e1).1
  rw[g1 i hi'] at e2
  rw[g1 (i+ 1) (by omega)] at e3
  exact h.st _ _ _ _ e2 e1 e3
def restW (word:List Int)(a:Nat):List Int:=((word.drop (a+ 1)).reverse).map fun s=>0 - s
theorem restW_len (word:List Int)(a:Nat):(restW word a).length=word.length - (a+ 1):=by unfold restW;rw[List.length_map,List.length_reverse,List.length_drop]
theorem restW_at {word:List Int}{a i:Nat}(h1:a < i)(h2:i < word.length){s:Int}(e:word[i]?=some s):(restW word a)[word.length - 1 - i]?=some (-s):=by
 unfold restW
 rw[List.getElem?_map,List.getElem?_reverse (by rw[List.length_drop];omega),List.getElem?_drop,List.length_drop]
 rw[show a+ 1+ (word.length - (a+ 1) - 1 - (word.length - 1 - i))=i by omega,e]
 show some (0 - s)=some (-s)
 rw[Int.zero_sub]
theorem round_both (hX:Cl X)(hw:ws[n]?=some word){tail:List Int}{a:Nat}(ha:path.length=a+ 1)(haw:a < word.length)(h:Walk X.S room word path)(ht:Walk X.S room (restW word a) tail)(hr:X.st room=true)(hc:(n:Int) < cm\/room=0)(hl:tail.length > (restW word a).length):okA L ws cm X (.rule n (path++tail.reverse) a):=by
 have hrl:=restW_len word a
 have h1:=ht.le
 have htl:tail.length=word.length - a:=by omega
 have gl:∀ i:Nat,i < a+ 1->(path++tail.reverse)[i]?=path[i]?:=fun i hi=>List.getElem?_append_left (by omega)
 have gr:∀ i:Nat,a < i->i<=word.length->(path++tail.reverse)[i]?=tail[word.length - i]?:=fun i h1 h2=>by
  rw[List.getElem?_append_right (by omega),List.getElem?_reverse (by omega)]
  congr 1
  omega
 have hh:(path++tail.reverse).head?=some room:=by
  rw[List.head?_append,h.hd];rfl
 have e0:path[a]?=some (path[a]'(by omega)):=List.getElem?_eq_getElem (by omega)
 have e1:(path++tail.reverse)[a+ 1]?=some (tail[word.length - (a+ 1)]'(by omega)):=by rw[gr (a+ 1) (by omega) (by omega)];exact List.getElem?_eq_getElem (by omega)
 refine⟨n,a,word,_,_,_,rfl,rfl,hw,List.getElem?_eq_getElem haw,(gl a (by omega)).trans e0,e1,by rw[List.length_append,List.length_reverse];omega,?_,?_,fun c hc=>?_,fun i s' c' o' hi q1 q2 q3=>?_⟩
 ·have hne:tail.reverse.getLast?=some room:=by rw[List.getLast?_reverse];exact ht.hd
  rw[hh,List.getLast?_append,hne];rfl
 ·rcases hc with q | q
  ·exact .inl q
  ·rw[hh,q];exact .inr rfl
 ·rcases List.mem_append.mp hc with q | q
  ·obtain⟨i,hi,rfl⟩:=List.mem_iff_getElem.mp q
   exact h.stand hX hr i _ (List.getElem?_eq_getElem hi)
  ·obtain⟨i,hi,rfl⟩:=List.mem_iff_getElem.mp (List.mem_reverse.mp q)
   exact ht.stand hX hr i _ (List.getElem?_eq_getElem hi)
 ·have hi':=(List.getElem?_eq_some_iff.mp q1).1
  by_cases hia:i < a
  ·rw[gl i (by omega)] at q2
   rw[gl (i+ 1) (by omega)] at q3
   exact h.st _ _ _ _ q2 q1 q3
  ·rw[gr i (by omega) (by omega)] at q2
   rw[gr (i+ 1) (by omega) (by omega)] at q3
   have q4:=restW_at (a:=a) (by omega) hi' q1
   have q5:=ht.st (word.length - 1 - i) o' (-s') c' (by rw[show word.length - 1 - i=word.length - (i+ 1) by omega];exact q3) q4 (by rw[show word.length - 1 - i+ 1=word.length - i by omega];exact q2)
   have:=hX.sy _ _ _ q5
   rw[Int.neg_neg] at this
   exact this
theorem round_new (hX:Cl X)(hs:∀ s∈word,1<=s.natAbs/\(s.natAbs:Int)<=L)(h:Walk X.S room word path)(hr:X.st room=true){c s:Int}(hc:path.getLast?=some c)(e:word[path.length - 1]?=some s):okA L ws cm X (.new c s X.made):=by
 refine⟨?_,hs s (List.mem_of_getElem? e),h.en c s hc e,rfl⟩
 rw[List.getLast?_eq_getElem?] at hc
 exact h.stand hX hr _ _ hc
end
structure Iv (L:Int) (X:AS) (went:List Int):Prop where
 cl:Cl X
 st:∀ c,X.st c=true↔(0<=c/\c < X.made)/\c∉went
 z:X.st 0=true
 sp:∀ c s o,X.S c s o=true->1<=s.natAbs/\(s.natAbs:Int)<=L
theorem Iv.bd {L:Int}{X:AS}{went:List Int}(h:Iv L X went)(hL:L < 10)(hm:X.made<=5000):LBd X.S:=fun c s o q=>by
 have h1:=((h.st c).mp (h.cl.a _ _ _ q)).1
 have h2:=((h.st o).mp (h.cl.b q)).1
 have h3:=h.sp _ _ _ q
 omega
theorem iv0 (L:Int):Iv L AS0 []:=⟨⟨(fun c s o q=>by cases q),(fun c s o q=>by cases q)⟩,fun c=>by
 show decide (c=0)=true↔(0<=c/\c < 1)/\c∉[]
 rw[decide_eq_true_eq]
 exact⟨fun e=>⟨by omega,by simp⟩,fun e=>by omega⟩,rfl,(fun c s o q=>by cases q)⟩
theorem sym_learn {S:Rel3}(h:SymS S)(c s o:Int):SymS (learnS S c s o):=fun c' s' o' q=>by
 rw[learnS_iff] at q ⊢
 rcases q with q | ⟨rfl,rfl,rfl⟩ | ⟨rfl,rfl,rfl⟩
 ·exact .inl (h _ _ _ q)
 ·exact .inr (.inr ⟨rfl,rfl,rfl⟩)
 ·exact .inr (.inl ⟨rfl,Int.neg_neg s,rfl⟩)
theorem sym_move {S:Rel3}(h:SymS S)(x y:Int):SymS (moveS S x y):=fun c s o q=>by
 rw[moveS_iff] at q ⊢
 refine⟨⟨q.1.2,q.1.1⟩,?_⟩
 rcases q.2 with q | ⟨e,q⟩ | ⟨e,q⟩ | ⟨e1,e2,q⟩
 ·exact .inl (h _ _ _ q)
 ·exact .inr (.inr (.inl ⟨e,h _ _ _ q⟩))
 ·exact .inr (.inl ⟨e,h _ _ _ q⟩)
 ·exact .inr (.inr (.inr ⟨e2,e1,h _ _ _ q⟩))
theorem Iv.learn {L:Int}{X:AS}{went:List Int}(h:Iv L X went){c s o:Int}(hc:X.st c=true)(ho:X.st o=true)(hs:1<=s.natAbs/\(s.natAbs:Int)<=L):Iv L ⟨X.made,X.st,learnS X.S c s o⟩ went:=by
 refine⟨⟨sym_learn h.cl.sy _ _ _,fun c' s' o' q=>?_⟩,h.st,h.z,fun c' s' o' q=>?_⟩
 ·rcases learnS_iff.mp q with q | ⟨rfl,rfl,rfl⟩ | ⟨rfl,rfl,rfl⟩
  ·exact h.cl.a _ _ _ q
  ·exact hc
  ·exact ho
 ·rcases learnS_iff.mp q with q | ⟨rfl,rfl,rfl⟩ | ⟨rfl,rfl,rfl⟩
  ·exact h.sp _ _ _ q
  ·exact hs
  ·rw[Int.natAbs_neg];exact hs
theorem Iv.new {L:Int}{X:AS}{went:List Int}(h:Iv L X went)(hw:∀ c∈went,c < X.made)(hm:1<=X.made):Iv L ⟨X.made+ 1,fun x=>decide (x=X.made) || X.st x,X.S⟩ went:=by
 refine⟨⟨h.cl.sy,fun c s o q=>by show (_ || _)=true;rw[h.cl.a _ _ _ q,Bool.or_true]⟩,fun c=>?_,by show (_ || _)=true;rw[h.z,Bool.or_true],h.sp⟩
 show (decide (c=X.made) || X.st c)=true↔(0<=c/\c < X.made+ 1)/\c∉went
 rw[Bool.or_eq_true,decide_eq_true_eq,h.st c]
 constructor
 ·rintro (rfl | ⟨q1,q2⟩)
  ·exact⟨by omega,fun z=>by have:=hw _ z;omega⟩
  ·exact⟨by omega,q2⟩
 ·rintro ⟨q1,q2⟩
  by_cases e:c=X.made
  ·exact .inl e
  ·exact .inr ⟨by omega,q2⟩
theorem Iv.meet {L:Int}{X:AS}{went:List Int}(h:Iv L X went){c s x y:Int}(hxy:x < y)(hx:X.S c s x=true)(hy:X.S c s y=true):Iv L ⟨X.made,fun c=>X.st c && !decide (c=y),moveS X.S x y⟩ (went++[y]):=by
 have sx:=(h.st x).mp (h.cl.b hx)
 have sy:=(h.st y).mp (h.cl.b hy)
 refine⟨⟨sym_move h.cl.sy _ _,fun c' s' o' q=>?_⟩,fun c'=>?_,?_,fun c' s' o' q=>?_⟩
 ·have q:=moveS_iff.mp q
  show (X.st c' && !decide (c'=y))=true
  rw[decide_eq_false q.1.1]
  have:X.st c'=true:=by
   rcases q.2 with q | ⟨e,q⟩ | ⟨e,q⟩ | ⟨e1,e2,q⟩
   ·exact h.cl.a _ _ _ q
   ·rw[e];exact h.cl.b hx
   ·exact h.cl.a _ _ _ q
   ·rw[e1];exact h.cl.b hx
  rw[this];rfl
 ·show (X.st c' && !decide (c'=y))=true↔(0<=c'/\c' < X.made)/\c'∉went++[y]
  rw[Bool.and_eq_true,Bool.not_eq_true',decide_eq_false_iff_not,h.st c',List.mem_append,List.mem_singleton]
  constructor
  ·rintro ⟨⟨q1,q2⟩,q3⟩
   exact⟨q1,fun z=>z.elim q2 q3⟩
  ·rintro ⟨q1,q2⟩
   exact⟨⟨q1,fun z=>q2 (.inl z)⟩,fun z=>q2 (.inr z)⟩
 ·show (X.st 0 && !decide (0=y))=true
  rw[h.z,decide_eq_false (by omega)];rfl
 ·rcases (moveS_iff.mp q).2 with q | ⟨e,q⟩ | ⟨e,q⟩ | ⟨e1,e2,q⟩
  ·exact h.sp _ _ _ q
  ·exact h.sp _ _ _ q
  ·exact h.sp _ _ _ q
  ·exact h.sp _ _ _ q
def wentA (went:List Int):Rw->List Int
 | .meet _ _ _ y=>went++[y]
 | _=>went
theorem Iv.step {L:Int}{ws:List (List Int)}{cm:Int}{X:AS}{went:List Int}(h:Iv L X went)(hws:∀ w∈ws,∀ s∈w,1<=s.natAbs/\(s.natAbs:Int)<=L)(hw:∀ c∈went,c < X.made)(hm:1<=X.made):∀{w:Rw},okA L ws cm X w->Iv L (nxA ws X w) (wentA went w)/\(∀ c∈wentA went w,c < (nxA ws X w).made)/\X.made<=(nxA ws X w).made/\(nxA ws X w).made<=X.made+ 1
 | .new c s n,⟨h1,h2,h3,h4⟩=>by
   subst h4
   refine⟨?_,fun c' hc'=>by have:=hw c' hc';show c' < X.made+ 1;omega,by show X.made<=X.made+ 1;omega,Int.le_refl _⟩
   have:=h.new hw hm
   exact Iv.learn (X:=⟨X.made+ 1,fun x=>decide (x=X.made) || X.st x,X.S⟩) this (by show (_ || _)=true;rw[h1,Bool.or_true]) (by show (decide (X.made=X.made) || _)=true;rw[decide_eq_true rfl];rfl) h2
 | .rule w p k,⟨n,m,word,c,s,o,e1,e2,h1,h2,h3,h4,h5,h6,h7,h8,h9⟩=>by
   subst e1 e2
   have e:nxA ws X (.rule n p m)=⟨X.made,X.st,learnS X.S c s o⟩:=by
    unfold nxA
    simp only[Int.toNat_natCast,List.getD_eq_getElem?_getD,h1,h2,h3,h4,Option.getD_some]
   rw[e]
   exact⟨h.learn (h8 _ (List.mem_of_getElem? h3)) (h8 _ (List.mem_of_getElem? h4)) (hws _ (List.mem_of_getElem? h1) _ (List.mem_of_getElem? h2)),hw,Int.le_refl _,by show X.made<=X.made+ 1;omega⟩
 | .meet c s x y,⟨h1,h2,h3⟩=>by
   have sy:=(h.st y).mp (h.cl.b h3)
   refine⟨h.meet h1 h2 h3,fun c' hc'=>?_,Int.le_refl _,by show X.made<=X.made+ 1;omega⟩
   rcases List.mem_append.mp hc' with q | q
   ·exact hw _ q
   ·rw[List.mem_singleton.mp q];exact sy.1.2
def StpL (L:Int)(w:List Int):Prop:=∀ s∈w,1<=s.natAbs/\(s.natAbs:Int)<=L
def spWord:Sp:=fun vs H Q _=>∃(z L lo hi:Int),vs=[.int z,.int L,.int lo,.int hi]/\1<=L/\L<=900/\1<=lo/\lo<=hi/\hi<=20/\∀ l w H',Same H H'->H' l=some (.tup (intV w))->StpL L w->1<=w.length->(w.length:Int)<=hi->Q (.ref l) H'
theorem ok__law_word (T:Txt K mg A):FnOk P w K mg base CX0 2 A.f__law_word A.d__law_word ["_law_number","_law_letters","_law_least","_law_most"] spWord:=by
 have G__law_mix:FnOk P w K mg base CX0 1 A.f__law_mix A.d__law_mix ["_law_number","_law_place"] spMix:=ok__law_mix T
 refine T._law_word.F.ok sc__law_word (fun vs H Q E h=>?_) (fun cdv AA outer s H vs Q E hr h=>?_)
 ·obtain⟨z,L,lo,hi,rfl,_⟩:=h
  rfl
 ·obtain⟨z,L,lo,hi,rfl,hL1,hL2,h1,h2,h3,k⟩:=h
  refine⟨_,(pss_cons (ps_set (i:=4) sc__law_word.nd rfl (Or.inl rfl) (pe_lst pa_nil))
   (pss_cons (ps_for PassesOwn.never rfl (pi_range1 rfl T.z_range (pa_cons (pe_op op_add (pv 2) (pe_op op_mod (pv 0) (pe_op op_add (pe_op op_sub (pv 3) (pv 2)) pe_int))) pa_nil)) (pg_name (i:=5) sc__law_word.nd rfl (Or.inl rfl))
    (pss_cons (ps_set (i:=6) sc__law_word.nd rfl (Or.inl rfl) (pe_op op_add pe_int (pe_op op_mod (pe_op op_fdiv (pe_call (G__law_mix) (hr.mono (by decide)) rfl T._law_mix.m T._law_mix.F.kp T._law_mix.b .nil pass0 (pa_cons (pv 0) (pa_cons (pv 5) pa_nil))) pe_int) (pv 1))))
    (pss_cons (ps_cut (ps_if (pt_cmpR op_eq (pe_op op_mod (pe_call (G__law_mix) (hr.mono (by decide)) rfl T._law_mix.m T._law_mix.F.kp T._law_mix.b .nil pass0 (pa_cons (pv 0) (pa_cons (pv 5) pa_nil))) pe_int) pe_int (nomark _))
     (pss_one (ps_set (i:=6) sc__law_word.nd rfl (Or.inl rfl) (pe_op op_sub pe_int (pv 6))))
     pss_nil))
    (pss_one (ps_expr (pe_bm PySem.F.plainAttrs_list PySem.F.slot_list_append PySem.F.type_list_append mt_append (pv 4) (pa_cons (pv 6) pa_nil)))))))
   (pss_one (ps_ret (pe_callTy call_tuple_of rfl T.z_tuple PyProof.Rows.boot_tuple (pa_cons (pv 4) pa_nil)))))),?_⟩
  try dsimp only[cx_noxK,cx_K]
  refine seq_let2 ?_
  intro u_2 u_1
  refine⟨Nat.zero_le _,fun l hl=>?_⟩
  have s0:Same H (upd H l (.lst [])):=Same.upd hl
  have b1:=Int.emod_nonneg z (show hi - lo+ 1≠0 by omega)
  have b2:=Int.emod_lt_of_pos z (show 0 < hi - lo+ 1 by omega)
  refine⟨_,rfl,_,rfl,_,rfl,_,rfl,_,_,rfl,rfl,_,_,rfl,rfl,_,_,rfl,rfl,(by show (0:Int) < hi - lo+ 1;omega),_,_,rfl,rfl,(lo+ z % (hi - lo+ 1)),rfl,by omega,by omega,?_⟩
  generalize hn:lo+ z % (hi - lo+ 1)=n at *
  have hn1:1<=n:=by omega
  have hn2:n<=20:=by omega
  refine for_range (lo:=0) (n:=n.toNat) (fun i σ H2=>∃(ws:List Int) (v5 v6:Option V),σ=[some (.int z),some (.int L),some (.int lo),some (.int hi),some (.ref l),v5,v6]/\Same H H2/\H2 l=some (.lst (intV ws))/\StpL L ws/\ws.length=i)
   ⟨[],none,none,rfl,s0,upd_same,(fun s hs=>by cases hs),rfl⟩ ?_ ?_
  ·rintro i σ H2 hin ⟨ws,v5,v6,rfl,s2,hl2,hst,hwl⟩
   have hi':i < 20:=by omega
   refine⟨_,rfl,_,rfl,z,_,rfl,by omega,by omega,fun r hr=>?_⟩
   have e1:=Int.emod_nonneg (r / 2) (show L≠0 by omega)
   have e2:=Int.emod_lt_of_pos (r / 2) (show 0 < L by omega)
   refine⟨_,_,rfl,rfl,⟨by decide,by decide⟩,_,rfl,_,_,rfl,rfl,(by show 0 < L;omega),_,_,rfl,rfl,?_⟩
   refine⟨fun σ' H'=>∃ st:Int,σ'=[some (.int z),some (.int L),some (.int lo),some (.int hi),some (.ref l),some (.int (0+ (i:Int))),some (.int st)]/\H'=H2/\1<=st.natAbs/\(st.natAbs:Int)<=L,?_,?_⟩
   ·refine⟨_,rfl,_,rfl,z,_,rfl,by omega,by omega,fun r2 hr2=>?_⟩
    refine⟨_,_,rfl,rfl,(by show (0:Int) < 2;decide),rfl,_,rfl,?_⟩
    refine ite2 (fun _=>?_) (fun _=>⟨_,rfl,rfl,by omega,by omega⟩)
    exact⟨_,rfl,_,_,rfl,rfl,_,rfl,rfl,by omega,by omega⟩
   rintro σ' H3 ⟨st,rfl,rfl,h0,h1⟩
   refine⟨_,rfl,.inl ⟨rfl,_,SqL.of hl2⟩,_,rfl,l,_,_,rfl,rfl,hl2,?_,?_⟩
   ·rw[ints_len]
    exact Nat.lt_of_le_of_lt (show ws.length<=63 by omega) (by decide)
   refine⟨ws++[st],_,_,rfl,fun b o e=>by rw[upd_ne (ne_of_none e hl)];exact s2 _ _ e,by rw[upd_same,ints_app];rfl,fun s hs=>?_,by rw[List.length_append,hwl];rfl⟩
   rcases List.mem_append.mp hs with hs | hs
   ·exact hst s hs
   ·rw[List.mem_singleton.mp hs]
    exact⟨h0,h1⟩
  ·rintro σ H2 ⟨ws,v5,v6,rfl,s2,hl2,hst,hwl⟩
   refine⟨_,rfl,l,_,rfl,.inl ⟨SqL.of hl2,fun lt hlt=>?_⟩⟩
   exact k lt ws _ (s2.trans (Same.upd hlt)) upd_same hst (by omega) (by omega)
def spWalk:Sp:=fun vs H Q _=>∃(p t:Addr) (S:Rel3) (room z:Int) (word:List Int),vs=[.ref p,.int room,.ref t,.int z]/\LAt H p S/\LBd S/\H t=some (.tup (intV word))/\word.length<=1000/\∀ l path H',Same H H'->H l=none->H' l=some (.lst (intV path))->Walk S room word path->Q (.ref l) H'
theorem ok__law_walk (T:Txt K mg A):FnOk P w K mg base CX0 1 A.f__law_walk A.d__law_walk ["_law_known","_law_room","_law_word_here","_law_number"] spWalk:=by
 refine T._law_walk.F.ok sc__law_walk (fun vs H Q E h=>?_) (fun cdv AA outer s H vs Q E hr h=>?_)
 ·obtain⟨p,t,S,room,z,word,rfl,_⟩:=h
  rfl
 ·obtain⟨p,t,S,room,z,word,rfl,h,hb,ht,hwl,k⟩:=h
  have hu2:=hu_of hr
  refine⟨_,(pss_cons (ps_set (i:=4) sc__law_walk.nd rfl (Or.inl rfl) (pe_lst (pa_cons (pv 1) pa_nil)))
   (pss_cons (ps_for PassesOwn.never rfl (pi_tup (pv 2)) (pg_name (i:=5) sc__law_walk.nd rfl (Or.inl rfl))
    (pss_cons (ps_set (i:=6) sc__law_walk.nd rfl (Or.inl rfl) (pe_dget2 hu2 (pv 0) (pe_tup (pa_cons (pe_ix ix_list (pv 4) (pe_un un_neg pe_int) (fun _ _=>rfl)) (pa_cons (pv 5) pa_nil))) (pe_lst pa_nil) ⟨rfl,rfl,rfl,rfl⟩))
    (pss_cons (ps_if (pt_cmpR op_eq (pe_callB call_len_seq rfl T.z_len PySem.boot_len (pa_cons (pv 6) pa_nil)) pe_int (nomark _))
     (pss_one (ps_ret (pv 4)))
     pss_nil)
    (pss_one (ps_expr (pe_bm PySem.F.plainAttrs_list PySem.F.slot_list_append PySem.F.type_list_append mt_append (pv 4) (pa_cons (pe_ix ix_list (pv 6) (pe_op op_mod (pv 3) (pe_callB call_len_seq rfl T.z_len PySem.boot_len (pa_cons (pv 6) pa_nil))) (fun _ _=>rfl)) pa_nil)))))))
   (pss_one (ps_ret (pv 4))))),?_⟩
  try dsimp only[cx_noxK,cx_K]
  refine seq_let2 ?_
  intro u_2 u_1
  refine⟨_,rfl,by show 1<=sizeLine;decide,fun l nl=>?_⟩
  have s1:=Same.upd (o:=.lst [.int room]) nl
  have q1:upd H l (.lst [.int room]) l=some (.lst [.int room]):=upd_same
  generalize upd H l (.lst [.int room])=H1 at s1 q1 ⊢
  refine⟨_,rfl,t,rfl,⟨_,SqT.of (s1 _ _ ht)⟩,?_⟩
  refine for_tup (K:=K) (a:=t) (xs:=intV word) (fun i σ H2=>∃ path v5 v6,σ=[some (.ref p),some (.int room),some (.ref t),some (.int z),some (.ref l),v5,v6]/\Same H H2/\H2 l=some (.lst (intV path))/\path.length=i+ 1/\path.head?=some room/\∀(i:Nat) (c s o:Int),path[i]?=some c->word[i]?=some s->path[i+ 1]?=some o->S c s o=true)
   ⟨[room],none,none,rfl,s1,q1,rfl,rfl,fun i c s o _ _ e=>by simp at e⟩ (fun i σ H2 _ ⟨_,_,_,_,s2,_⟩=>SqT.of (s2 _ _ ht)) ?_ ?_
  ·rintro i v σ H2 hi ⟨path,v5,v6,rfl,s2,hl2,hpl,hhd,hst⟩
   obtain⟨s,rfl,hs⟩:=ints_of_at hi
   have hil:i < word.length:=(List.getElem?_eq_some_iff.mp hs).1
   obtain⟨pre,c,rfl⟩:∃ pre c,path=pre++[c]:=⟨path.dropLast,path.getLast (by intro e;rw[e] at hpl;cases hpl),(List.dropLast_concat_getLast _).symm⟩
   have hpre:pre.length=i:=by rw[List.length_append] at hpl;simp at hpl;exact hpl
   have isd:∀{H':Hp} {S':Rel3},LAt H' p S'->IsD H' p:=fun{H' S'} ⟨kv,q,_⟩=>.inr ⟨kv,.inl q⟩
   have h2:=h.same s2
   refine⟨_,rfl,p,rfl,isd h2,_,rfl,_,rfl,l,_,_,_,rfl,rfl,SqL.of hl2,(by rw[ints_app];exact atI_last _ _),_,rfl,(by show 2<=sizeLine;decide),fun kt nkt=>?_⟩
   have s3:=Same.upd (o:=.tup [.int c,.int s]) nkt
   have q3:upd H2 kt (.tup [.int c,.int s]) kt=some (.tup [.int c,.int s]):=upd_same
   generalize upd H2 kt (.tup [.int c,.int s])=H3 at s3 q3 ⊢
   refine⟨Nat.zero_le _,fun e1 ne1=>?_⟩
   have s4:=Same.upd (o:=.lst []) ne1
   have q4:upd H3 e1 (.lst []) e1=some (.lst []):=upd_same
   generalize upd H3 e1 (.lst [])=H4 at s4 q4 ⊢
   have s04:Same H H4:=(s2.trans s3).trans s4
   obtain⟨oo,q,ls,g1,g2,g3,g4,g5⟩:=(h.same s04).get (s4 _ _ q3) q4
   have hl4:=(s3.trans s4) _ _ hl2
   refine⟨oo,g1,?_⟩
   rw[g2]
   refine⟨_,rfl,q,_,rfl,.inl (SqL.of g3),rfl,_,rfl,?_⟩
   refine ite2 (fun w=>?_) (fun w=>?_)
   ·have hn:ls=[]:=by
     have:=of_decide_eq_true w
     injection this with this
     rw[ints_len] at this
     exact List.length_eq_zero_iff.mp (by omega)
    refine⟨_,rfl,k l _ _ s04 nl hl4 ⟨hhd,by omega,hst,fun c' s' e1 e2 o=>?_⟩⟩
    rw[List.getLast?_concat] at e1
    rw[hpl,Nat.add_sub_cancel,hs] at e2
    rw[← Option.some.inj e1,← Option.some.inj e2]
    cases hS:S c s o with
    | false=>rfl
    | true=>have:=(g5 o).mpr hS;rw[hn] at this;cases this
   ·have hn:0 < ls.length:=by
     refine Nat.pos_of_ne_zero fun e=>w (decide_eq_true ?_)
     show V.int ((intV ls).length:Int)=V.int 0
     rw[ints_len,e];rfl
    have b1:=Int.emod_nonneg z (show (ls.length:Int)≠0 by omega)
    have b2:=Int.emod_lt_of_pos z (show (0:Int) < (ls.length:Int) by omega)
    have ho:ls[(z % (ls.length:Int)).toNat]?=some (ls[(z % (ls.length:Int)).toNat]'(by omega)):=List.getElem?_eq_getElem (by omega)
    generalize ls[(z % (ls.length:Int)).toNat]'(by omega)=o at ho
    refine⟨_,rfl,.inl ⟨rfl,_,SqL.of hl4⟩,_,rfl,_,rfl,_,rfl,q,_,rfl,.inl (SqL.of g3),_,_,rfl,rfl,(by rw[ints_len];show (0:Int) < (ls.length:Int);omega),q,_,_,.int o,rfl,rfl,SqL.of g3,?_,?_⟩
    ·show atI (intV ls) (z % ((intV ls).length:Int))=_
     rw[ints_len,← Int.toNat_of_nonneg b1]
     exact atI_nat (ints_at ho)
    refine⟨l,_,_,rfl,rfl,hl4,?_,?_⟩
    ·rw[ints_len,hpl]
     exact Nat.lt_of_le_of_lt (show i+ 1<=2000 by omega) (by decide)
    refine⟨(pre++[c])++[o],_,_,rfl,fun b u e=>by rw[upd_ne (ne_of_none e nl)];exact s04 _ _ e,by rw[upd_same,ints_app (pre++[c]) [o]];rfl,by rw[List.length_append,hpl];rfl,by rw[List.head?_append,hhd];rfl,fun j c' s' o' e1 e2 e3=>?_⟩
    by_cases hj:j < i
    ·rw[List.getElem?_append_left (by omega)] at e1 e3
     exact hst _ _ _ _ e1 e2 e3
    ·have hjl:=(List.getElem?_eq_some_iff.mp e3).1
     rw[List.length_append,hpl] at hjl
     have hji:j=i:=by simp at hjl;omega
     subst hji
     rw[List.getElem?_append_left (by omega),← hpre,List.getElem?_concat_length] at e1
     rw[← hpl,List.getElem?_concat_length] at e3
     rw[hs] at e2
     rw[← Option.some.inj e1,← Option.some.inj e2,← Option.some.inj e3]
     exact(g5 o).mp (List.mem_of_getElem? ho)
  ·rintro σ H2 ⟨path,v5,v6,rfl,s2,hl2,hpl,hhd,hst⟩
   rw[ints_len] at hpl
   refine⟨_,rfl,k l path _ s2 nl hl2 ⟨hhd,by omega,hst,fun c s _ e=>?_⟩⟩
   rw[List.getElem?_eq_none (by omega)] at e;cases e
def spRound:Sp:=fun vs H Q _=>∃(p t:Addr) (L:Int) (ws:List (List Int)) (cm:Int) (X:AS) (n:Nat) (word:List Int) (room z:Int),vs=[.ref p,.int X.made,.int n,.ref t,.int room,.int z]/\LAt H p X.S/\LBd X.S/\Cl X/\ws[n]?=some word/\H t=some (.tup (intV word))/\StpL L word/\1<=word.length/\word.length<=900/\X.st room=true/\((n:Int) < cm\/room=0)/\∀ q w H',Same H H'->RowAt H' q w->okA L ws cm X w->Q (.ref q) H'
theorem cut_init (ns:List Int)(x:Int):cutV (intV (ns++[x])) none (some (-1))=intV ns:=by
 rw[cut_ints]
 have e:HT.sIx (ns++[x]).length (ns++[x]).length (some (-1))=ns.length:=by
  rw[List.length_append]
  unfold HT.sIx
  simp
  try omega
 rw[e]
 show intV ((List.drop 0 (ns++[x])).take (ns.length - 0))=_
 rw[List.drop_zero,Nat.sub_zero,List.take_left]
def sub0V:V->V
 | .int z=>.int (0 - z)
 | v=>v
theorem sub0_rest (word:List Int)(a:Nat):(((intV word).drop (a+ 1)).reverse).map sub0V=intV (restW word a):=by
 unfold restW intV
 rw[← List.map_drop,← List.map_reverse,List.map_map,List.map_map]
 rfl
theorem ok__law_round (T:Txt K mg A):FnOk P w K mg base CX0 2 A.f__law_round A.d__law_round ["_law_known","_law_made","_law_which","_law_word_here","_law_room","_law_number"] spRound:=by
 have G__law_walk:FnOk P w K mg base CX0 1 A.f__law_walk A.d__law_walk ["_law_known","_law_room","_law_word_here","_law_number"] spWalk:=ok__law_walk T
 refine T._law_round.F.ok sc__law_round (fun vs H Q E h=>?_) (fun cdv AA outer s H vs Q E hr h=>?_)
 ·obtain⟨p,t,L,ws,cm,X,n,word,room,z,rfl,_⟩:=h
  rfl
 ·obtain⟨p,t,L,ws,cm,X,n,word,room,z,rfl,h,hb,hX,hw,ht,hs,h1,h9,hrm,hc,k⟩:=h
  refine⟨_,(pss_cons (ps_set (i:=6) sc__law_round.nd rfl (Or.inl rfl) (pe_call (G__law_walk) (hr.mono (by decide)) rfl T._law_walk.m T._law_walk.F.kp T._law_walk.b .nil pass0 (pa_cons (pv 0) (pa_cons (pv 4) (pa_cons (pv 3) (pa_cons (pv 5) pa_nil))))))
   (pss_cons (ps_set (i:=7) sc__law_round.nd rfl (Or.inl rfl) (pe_op op_sub (pe_callB call_len_seq rfl T.z_len PySem.boot_len (pa_cons (pv 6) pa_nil)) pe_int))
   (pss_cons (ps_if (pt_cmpR op_eq (pv 7) (pe_callB call_len_seq rfl T.z_len PySem.boot_len (pa_cons (pv 3) pa_nil)) (nomark _))
    (pss_cons (ps_if (pt_cmpR op_eq (pe_ix ix_list (pv 6) (pe_un un_neg pe_int) (fun _ _=>rfl)) (pv 4) (nomark _))
     (pss_one (ps_ret (pe_tup (pa_cons (pe_strX (l:=[114,117,108,101]) rfl) (pa_cons (pv 2) (pa_cons (pe_callTy call_tuple_of rfl T.z_tuple PyProof.Rows.boot_tuple (pa_cons (pv 6) pa_nil)) (pa_cons (pe_op op_mod (pe_op op_fdiv (pv 5) pe_int) (pe_callB call_len_seq rfl T.z_len PySem.boot_len (pa_cons (pv 3) pa_nil))) pa_nil)))))))
     pss_nil)
    (pss_one (ps_ret (pe_tup (pa_cons (pe_strX (l:=[114,117,108,101]) rfl) (pa_cons (pv 2) (pa_cons (pe_callTy call_tuple_of rfl T.z_tuple PyProof.Rows.boot_tuple (pa_cons (pe_op op_cat (pe_slice sl_list (pv 6) po_none (po_some (pe_un un_neg pe_int))) (pe_lst (pa_cons (pv 4) pa_nil))) pa_nil)) (pa_cons (pe_op op_sub (pe_callB call_len_seq rfl T.z_len PySem.boot_len (pa_cons (pv 3) pa_nil)) pe_int) pa_nil))))))))
    pss_nil)
   (pss_cons (ps_set (i:=8) sc__law_round.nd rfl (Or.inl rfl) (pe_callTy call_tuple_of rfl T.z_tuple PyProof.Rows.boot_tuple (pa_cons (pe_comp (fns:=[]) (ixs:=[]) (cl:=[]) rfl (pi_tup (pe_slice3 sl_revTo (pv 3) po_none (po_some (pv 7)) (po_some (pe_un un_neg pe_int)))) (compScope0 (by decide +kernel) (by decide +kernel) rfl (by decide +kernel) rfl) (fun C s H ex=>(pe_op op_sub pe_int (pv 0)))) pa_nil)))
   (pss_cons (ps_set (i:=9) sc__law_round.nd rfl (Or.inl rfl) (pe_call (G__law_walk) (hr.mono (by decide)) rfl T._law_walk.m T._law_walk.F.kp T._law_walk.b .nil pass0 (pa_cons (pv 0) (pa_cons (pv 4) (pa_cons (pv 8) (pa_cons (pv 5) pa_nil))))))
   (pss_cons (ps_if (pt_cmpR op_gt (pe_callB call_len_seq rfl T.z_len PySem.boot_len (pa_cons (pv 9) pa_nil)) (pe_callB call_len_seq rfl T.z_len PySem.boot_len (pa_cons (pv 8) pa_nil)) (nomark _))
    (pss_one (ps_ret (pe_tup (pa_cons (pe_strX (l:=[114,117,108,101]) rfl) (pa_cons (pv 2) (pa_cons (pe_callTy call_tuple_of rfl T.z_tuple PyProof.Rows.boot_tuple (pa_cons (pe_op op_cat (pv 6) (pe_slice3 sl_revL (pv 9) po_none po_none (po_some (pe_un un_neg pe_int)))) pa_nil)) (pa_cons (pv 7) pa_nil)))))))
    pss_nil)
   (pss_one (ps_ret (pe_tup (pa_cons (pe_strX (l:=[110,101,119]) rfl) (pa_cons (pe_ix ix_list (pv 6) (pe_un un_neg pe_int) (fun _ _=>rfl)) (pa_cons (pe_ix ix_tup (pv 3) (pv 7) (fun _ _=>rfl)) (pa_cons (pv 1) pa_nil))))))))))))),?_⟩
  try dsimp only[cx_noxK,cx_K]
  refine seq_let6 ?_
  intro u_6 u_5 u_4 u_3 u_2 u_1
  refine⟨_,rfl,_,rfl,_,rfl,_,rfl,p,t,X.S,room,z,word,rfl,h,hb,ht,by omega,fun l path H1 s1 nl hl wk=>?_⟩
  have hne:=wk.ne
  have hle:=wk.le
  refine⟨_,rfl,l,_,rfl,.inl (SqL.of hl),_,_,rfl,rfl,?_⟩
  have el:((intV path).length:Int) - 1=((path.length - 1:Nat):Int):=by rw[ints_len];omega
  refine⟨_,rfl,_,rfl,t,_,rfl,.inr (SqT.of (s1 _ _ ht)),rfl,_,rfl,?_⟩
  refine ite2 (fun w=>?_) (fun w=>?_)
  ·have hpl:path.length=word.length+ 1:=by
    have:=of_decide_eq_true w
    injection this with this
    rw[el,ints_len] at this
    omega
   obtain⟨pre,c,rfl⟩:∃ pre c,path=pre++[c]:=⟨path.dropLast,path.getLast (by intro e;rw[e] at hne;cases hne),(List.dropLast_concat_getLast _).symm⟩
   have hpl':pre.length=word.length:=by rw[List.length_append] at hpl;simpa using hpl
   refine⟨_,rfl,_,rfl,l,_,_,.int c,rfl,rfl,SqL.of hl,(by rw[ints_app];exact atI_last _ _),_,rfl,rfl,_,rfl,?_⟩
   refine ite2 (fun w2=>?_) (fun w2=>?_)
   ·have ec:c=room:=by
     have:=of_decide_eq_true w2
     injection this
    refine⟨_,rfl,_,rfl,l,_,rfl,.inl ⟨SqL.of hl,fun t2 nt2=>?_⟩⟩
    have s2:=Same.upd (o:=.tup (intV (pre++[c]))) nt2
    have q2:upd H1 t2 (.tup (intV (pre++[c]))) t2=some (.tup (intV (pre++[c]))):=upd_same
    generalize upd H1 t2 (.tup (intV (pre++[c])))=H2 at s2 q2 ⊢
    have b1:=Int.emod_nonneg (z / 8) (show (word.length:Int)≠0 by omega)
    have b2:=Int.emod_lt_of_pos (z / 8) (show (0:Int) < (word.length:Int) by omega)
    refine⟨_,rfl,_,_,rfl,rfl,⟨by decide,by decide⟩,_,rfl,t,_,rfl,.inr (SqT.of (s2 _ _ (s1 _ _ ht))),_,_,rfl,rfl,(by rw[ints_len];show (0:Int) < (word.length:Int);omega),by show 4<=sizeLine;decide,fun q nq=>?_⟩
    have em:z / 8 % ((intV word).length:Int)=(((z / 8 % (word.length:Int)).toNat:Nat):Int):=by rw[ints_len];omega
    refine k q (.rule n (pre++[c]) ((z / 8 % (word.length:Int)).toNat:Nat)) _ ((s1.trans s2).trans (Same.upd nq)) ⟨t2,?_,Same.upd nq _ _ q2,by omega⟩ (round_all hX hw wk hrm hc hpl (by rw[List.getLast?_concat,ec]) (by omega))
    rw[← em]
    exact upd_same
   ·refine⟨_,rfl,_,rfl,_,rfl,_,rfl,l,_,rfl,SqL.of hl,fun a1 na1=>?_⟩
    rw[cut_init]
    have s2:=Same.upd (o:=.lst (intV pre)) na1
    have q2:upd H1 a1 (.lst (intV pre)) a1=some (.lst (intV pre)):=upd_same
    generalize upd H1 a1 (.lst (intV pre))=H2 at s2 q2 ⊢
    refine⟨_,rfl,by show 1<=sizeLine;decide,fun a2 na2=>?_⟩
    have s3:=Same.upd (o:=.lst [.int room]) na2
    have q3:upd H2 a2 (.lst [.int room]) a2=some (.lst [.int room]):=upd_same
    generalize upd H2 a2 (.lst [.int room])=H3 at s3 q3 ⊢
    refine⟨a1,a2,_,_,rfl,rfl,s3 _ _ q2,q3,by rw[ints_len,hpl'];exact Nat.le_trans (show word.length+ 1<=1000 by omega) (by decide),fun a3 na3=>?_⟩
    have s4:=Same.upd (o:=.lst (intV pre++[.int room])) na3
    have q4:upd H3 a3 (.lst (intV pre++[.int room])) a3=some (.lst (intV (pre++[room]))):=by rw[upd_same,ints_app];rfl
    generalize upd H3 a3 (.lst (intV pre++[.int room]))=H4 at s4 q4 ⊢
    refine⟨a3,_,rfl,.inl ⟨SqL.of q4,fun t2 nt2=>?_⟩⟩
    have s5:=Same.upd (o:=.tup (intV (pre++[room]))) nt2
    have q5:upd H4 t2 (.tup (intV (pre++[room]))) t2=some (.tup (intV (pre++[room]))):=upd_same
    generalize upd H4 t2 (.tup (intV (pre++[room])))=H5 at s5 q5 ⊢
    have s15:=(((s1.trans s2).trans s3).trans s4).trans s5
    refine⟨_,rfl,t,_,rfl,.inr (SqT.of (s15 _ _ ht)),_,_,rfl,rfl,by show 4<=sizeLine;decide,fun q nq=>?_⟩
    have em:((intV word).length:Int) - 1=((word.length - 1:Nat):Int):=by rw[ints_len];omega
    have ok:=round_last (L:=L) hX hw wk hrm hc hpl h1
    rw[List.dropLast_concat] at ok
    refine k q (.rule n (pre++[room]) ((word.length - 1:Nat):Int)) _ (s15.trans (Same.upd nq)) ⟨t2,?_,Same.upd nq _ _ q5,by rw[List.length_append,hpl'];simp;omega⟩ ok
    rw[← em]
    exact upd_same
  ·have hlt:path.length - 1 < word.length:=by
    refine Nat.lt_of_le_of_ne (by omega) fun e=>w (decide_eq_true ?_)
    show V.int (((intV path).length:Int) - 1)=V.int ((intV word).length:Int)
    rw[el,e,ints_len]
   have ha:path.length=(path.length - 1)+ 1:=by omega
   refine⟨_,rfl,_,rfl,_,rfl,_,rfl,_,rfl,t,_,path.length - 1,rfl,s1 _ _ ht,rfl,congrArg some el,rfl,by rw[ints_len];exact hlt,fun sl nsl=>?_⟩
   generalize hA:path.length - 1=a at *
   have s2:=Same.upd (o:=.tup ((intV word).drop (a+ 1)).reverse) nsl
   have q2:upd H1 sl (.tup ((intV word).drop (a+ 1)).reverse) sl=some (.tup ((intV word).drop (a+ 1)).reverse):=upd_same
   generalize upd H1 sl (.tup ((intV word).drop (a+ 1)).reverse)=H2 at s2 q2 ⊢
   have hxl:((intV word).drop (a+ 1)).reverse.length<=900:=by rw[List.length_reverse,List.length_drop,ints_len];omega
   refine⟨sl,rfl,⟨_,SqT.of q2⟩,?_⟩
   refine comp_pure _ sub0V (itt_go (SqT.of q2)) (itt_yld (SqT.of q2)) (itt_stop (SqT.of q2)) (Nat.le_trans hxl (by decide)) (fun i x hx R hR=>?_) (fun D nD=>?_)
   ·have hm:=List.mem_of_getElem? hx
    rw[List.mem_reverse] at hm
    obtain⟨s',_,rfl⟩:=List.mem_map.mp (List.mem_of_mem_drop hm)
    exact⟨_,rfl,_,_,rfl,rfl,hR⟩
   rw[sub0_rest]
   have s3:=Same.upd (o:=.lst (intV (restW word a))) nD
   have q3:upd H2 D (.lst (intV (restW word a))) D=some (.lst (intV (restW word a))):=upd_same
   generalize upd H2 D (.lst (intV (restW word a)))=H3 at s3 q3 ⊢
   refine⟨D,_,rfl,.inl ⟨SqL.of q3,fun tr ntr=>?_⟩⟩
   have s4:=Same.upd (o:=.tup (intV (restW word a))) ntr
   have q4:upd H3 tr (.tup (intV (restW word a))) tr=some (.tup (intV (restW word a))):=upd_same
   generalize upd H3 tr (.tup (intV (restW word a)))=H4 at s4 q4 ⊢
   have s14:=((s1.trans s2).trans s3).trans s4
   have hrl:=restW_len word a
   refine⟨_,rfl,_,rfl,_,rfl,_,rfl,p,tr,X.S,room,z,restW word a,rfl,h.same s14,hb,q4,by omega,fun l2 tail H5 s5 nl2 hl2 wk2=>?_⟩
   have hl5:=(((s2.trans s3).trans s4).trans s5) _ _ hl
   have s15:=s14.trans s5
   refine⟨_,rfl,l2,_,rfl,.inl (SqL.of hl2),_,rfl,tr,_,rfl,.inr (SqT.of (s5 _ _ q4)),_,_,rfl,rfl,_,rfl,?_⟩
   refine ite2 (fun w2=>?_) (fun w2=>?_)
   ·have htl:tail.length > (restW word a).length:=by
     have:=of_decide_eq_true w2
     rw[ints_len,ints_len] at this
     omega
    have htl2:=wk2.le
    refine⟨_,rfl,_,rfl,_,rfl,_,rfl,_,rfl,l2,_,rfl,SqL.of hl2,rfl,rfl,rfl,fun b1 nb1=>?_⟩
    have s6:=Same.upd (o:=.lst (intV tail).reverse) nb1
    have q6:upd H5 b1 (.lst (intV tail).reverse) b1=some (.lst (intV tail.reverse)):=by
     rw[upd_same];unfold intV;rw[List.map_reverse]
    generalize upd H5 b1 (.lst (intV tail).reverse)=H6 at s6 q6 ⊢
    refine⟨l,b1,_,_,rfl,rfl,s6 _ _ hl5,q6,by rw[ints_len,ints_len,List.length_reverse];exact Nat.le_trans (show path.length+ tail.length<=2000 by omega) (by decide),fun b2 nb2=>?_⟩
    have s7:=Same.upd (o:=.lst (intV path++intV tail.reverse)) nb2
    have q7:upd H6 b2 (.lst (intV path++intV tail.reverse)) b2=some (.lst (intV (path++tail.reverse))):=by rw[upd_same,ints_app]
    generalize upd H6 b2 (.lst (intV path++intV tail.reverse))=H7 at s7 q7 ⊢
    refine⟨b2,_,rfl,.inl ⟨SqL.of q7,fun t2 nt2=>?_⟩⟩
    have s8:=Same.upd (o:=.tup (intV (path++tail.reverse))) nt2
    have q8:upd H7 t2 (.tup (intV (path++tail.reverse))) t2=some (.tup (intV (path++tail.reverse))):=upd_same
    generalize upd H7 t2 (.tup (intV (path++tail.reverse)))=H8 at s8 q8 ⊢
    refine⟨_,rfl,by show 4<=sizeLine;decide,fun q nq=>?_⟩
    refine k q (.rule n (path++tail.reverse) a) _ ((((s15.trans s6).trans s7).trans s8).trans (Same.upd nq)) ⟨t2,?_,Same.upd nq _ _ q8,by rw[List.length_append,List.length_reverse];omega⟩ (round_both hX hw ha hlt wk wk2 hrm hc htl)
    rw[← el]
    exact upd_same
   ·obtain⟨pre,c,rfl⟩:∃ pre c,path=pre++[c]:=⟨path.dropLast,path.getLast (by intro e;rw[e] at hne;cases hne),(List.dropLast_concat_getLast _).symm⟩
    have hwa:word[a]?=some (word[a]'hlt):=List.getElem?_eq_getElem hlt
    generalize word[a]'hlt=s' at hwa
    refine⟨_,rfl,_,rfl,l,_,_,.int c,rfl,rfl,SqL.of hl5,(by rw[ints_app];exact atI_last _ _),_,rfl,_,rfl,t,_,_,.int s',rfl,rfl,SqT.of (s15 _ _ ht),?_,_,rfl,by show 4<=sizeLine;decide,fun q nq=>?_⟩
    ·show atI (intV word) (((intV (pre++[c])).length:Int) - 1)=_
     rw[el]
     exact atI_nat (ints_at hwa)
    exact k q (.new c s' X.made) _ (s15.trans (Same.upd nq)) upd_same (round_new hX hs wk hrm (List.getLast?_concat ..) (by rw[hA];exact hwa))
def spClash:Sp:=fun vs H Q _=>∃(p:Addr) (S:Rel3),vs=[.ref p]/\LAt H p S/\(∀ H',Same H H'->Q .non H')/\∀ q c s x y H',Same H H'->RowAt H' q (.meet c s x y)->x < y->S c s x=true->S c s y=true->Q (.ref q) H'
theorem ok__law_clash (T:Txt K mg A):FnOk P w K mg base CX0 1 A.f__law_clash A.d__law_clash ["_law_known"] spClash:=by
 refine T._law_clash.F.ok sc__law_clash (fun vs H Q E h=>?_) (fun cdv AA outer s H vs Q E hr h=>?_)
 ·obtain⟨p,S,rfl,_⟩:=h
  rfl
 ·obtain⟨p,S,rfl,h,k0,k1⟩:=h
  refine⟨_,(pss_cons (ps_thaw (ps_for PassesOwn.never rfl (pi_dI (pv 0)) (pg_tup rfl (pgs_cons (pg_name (i:=1) sc__law_clash.nd rfl (Or.inl rfl)) (pgs_cons (pg_name (i:=2) sc__law_clash.nd rfl (Or.inl rfl)) pgs_nil)))
   (pss_one (ps_if (pt_cmpR op_gt (pe_callB call_len_seq rfl T.z_len PySem.boot_len (pa_cons (pv 2) pa_nil)) pe_int (nomark _))
    (pss_one (ps_ret (pe_tup (pa_cons (pe_strX (l:=[109,101,101,116]) rfl) (pa_cons (pe_ix ix_tup (pv 1) pe_int (fun _ _=>rfl)) (pa_cons (pe_ix ix_tup (pv 1) pe_int (fun _ _=>rfl)) (pa_cons (pe_callB (call_min2 rfl) rfl T.z_min PyProof.Rows.boot_min (pa_cons (pe_ix ix_list (pv 2) pe_int (fun _ _=>rfl)) (pa_cons (pe_ix ix_list (pv 2) pe_int (fun _ _=>rfl)) pa_nil))) (pa_cons (pe_callB (call_max2 rfl) rfl T.z_max PyProof.Rows.boot_max (pa_cons (pe_ix ix_list (pv 2) pe_int (fun _ _=>rfl)) (pa_cons (pe_ix ix_list (pv 2) pe_int (fun _ _=>rfl)) pa_nil))) pa_nil))))))))
    pss_nil))))
   (pss_one (ps_ret pe_non))),?_⟩
  try dsimp only[cx_noxK,cx_K]
  refine seq_let1 ?_
  intro u_1
  obtain⟨kvs,hk,_⟩:=id h
  refine⟨p,_,hk,trivial,_,rfl,p,kvs,rfl,hk,fun fo=>?_⟩
  have ss:∀{H5:Hp},ButP p H H5->Same H (upd H5 p (.dT kvs)):=fun{H5} b5 b u e=>by
   by_cases z:b=p
   ·subst z;rw[upd_same,← hk];exact e
   ·rw[upd_ne z];exact b5 _ _ z e
  refine for_dI (d:=p) (o:=fo) (kvs:=kvs) (fun i σ H5=>∃ v1 v2,σ=[some (.ref p),v1,v2]/\ButP p H H5/\H5 p=some (.frz fo (.dT kvs)))
   ⟨none,none,rfl,fun b u n e=>by rw[upd_ne n];exact e,upd_same⟩ (fun i σ H5 _ ⟨_,_,_,_,q⟩=>q) ?_ ?_
  ·rintro i kv σ H5 t kp hkv nt hkp ⟨v1,v2,rfl,b5,q5⟩
   obtain⟨c,s,q,l,e1,e2,hq,_,hn,hl⟩:=h.at hk hkv
   rw[e1] at hkp
   rw[e2]
   replace hkp:H5 kp=some (.tup [.int c,.int s]):=hkp
   have nqp:q≠p:=ne_of hq hk (by intro z;cases z)
   have s6:=Same.upd (o:=.tup [.ref kp,.ref q]) nt
   have q6:upd H5 t (.tup [.ref kp,.ref q]) t=some (.tup [.ref kp,.ref q]):=upd_same
   generalize upd H5 t (.tup [.ref kp,.ref q])=H6 at s6 q6 ⊢
   have hq6:H6 q=some (.lst (intV l)):=s6 _ _ (b5 _ _ nqp hq)
   have hkp6:=s6 _ _ hkp
   refine⟨t,_,rfl,SqT.of q6,rfl,_,_,rfl,_,_,rfl,rfl,?_⟩
   refine⟨_,rfl,q,_,rfl,.inl (SqL.of hq6),_,_,rfl,rfl,_,rfl,?_⟩
   refine ite2 (fun w=>?_) (fun w=>?_)
   ·have hl2:1 < l.length:=by
     have:=of_decide_eq_true w
     rw[ints_len] at this
     omega
    match l,hl2,hn,hl,hq6 with
    | a :: b :: r,_,hn,hl,hq6=>
      have hab:a≠b:=fun e=>by rw[List.nodup_cons] at hn;exact hn.1 (by rw[e];exact List.mem_cons_self ..)
      have ha:=(hl a).mp (List.mem_cons_self ..)
      have hb:=(hl b).mp (List.mem_cons_of_mem _ (List.mem_cons_self ..))
      have a0:atI (intV (a :: b :: r)) 0=some (.int a):=atI_nat (j:=0) rfl
      have a1:atI (intV (a :: b :: r)) 1=some (.int b):=atI_nat (j:=1) rfl
      refine⟨_,rfl,kp,_,_,_,rfl,rfl,SqT.of hkp6,rfl,_,rfl,kp,_,_,_,rfl,rfl,SqT.of hkp6,rfl,_,rfl,q,_,_,.int a,rfl,rfl,SqL.of hq6,a0,_,rfl,q,_,_,.int b,rfl,rfl,SqL.of hq6,a1,a,b,rfl,_,rfl,q,_,_,.int a,rfl,rfl,SqL.of hq6,a0,_,rfl,q,_,_,.int b,rfl,rfl,SqL.of hq6,a1,a,b,rfl,?_⟩
      refine⟨by show 5<=sizeLine;decide,fun u nu=>?_⟩
      have npu:p≠u:=fun e=>by rw[← e,s6 _ _ q5] at nu;cases nu
      refine⟨fo,by rw[upd_ne npu];exact s6 _ _ q5,?_⟩
      refine k1 u c s (if b < a then b else a) (if b > a then b else a) _ (ss fun x y n e=>(Same.upd nu) _ _ (s6 _ _ (b5 _ _ n e))) ?_ (by split <;> split <;> omega) (by split <;> assumption) (by split <;> assumption)
      show upd _ p _ u=_
      rw[upd_ne npu.symm,upd_same]
   ·exact⟨_,_,rfl,b5.same s6,s6 _ _ q5⟩
  ·rintro σ H5 ⟨v1,v2,rfl,b5,q5⟩
   exact⟨fo,q5,k0 _ (ss b5)⟩
theorem comp_rangeIf {H:Hp}{n:Nat}{tt:TT}{te:TE}{fv:St}{Q:VK}(P:Nat->Bool)(hm:n<=100000)(ht:∀(i:Nat) (Rr:Bool->Hp->Prop),i < n->Rr (P i) H->tt (some (.int (0+ (i:Int))) :: fv) H Rr)
 (he:∀(i:Nat) (Rr:VK),Rr (.int (0+ (i:Int))) H->te (some (.int (0+ (i:Int))) :: fv) H Rr) (k:∀ D,H D=none->Q (.ref D) (upd H D (.lst (intV (((List.range n).filter P).map Int.ofNat))))):CompGoIf tt te fv Q (Itr 0 n) H:=by
 refine⟨fun i m ys H2=>m=n - i/\i<=n/\ys=intV (((List.range i).filter P).map Int.ofNat)/\H2=H,⟨n,by simp,Nat.zero_le _,rfl,rfl⟩,?_⟩
 rintro i m ys H2 ⟨rfl,hi,rfl,rfl⟩
 have hlen:(intV (((List.range i).filter P).map Int.ofNat)).length<=i:=by
  rw[ints_len,List.length_map]
  exact Nat.le_trans (List.length_filter_le _ _) (by rw[List.length_range];exact Nat.le_refl _)
 by_cases hlt:i < n
 ·refine .inr ⟨hlt,?_,fun x H3 hyl=>?_⟩
  ·exact Nat.lt_of_le_of_lt (Nat.le_trans hlen (show i<=100000 by omega)) (by decide)
  obtain⟨rfl,rfl⟩:=hyl
  refine ht i _ hlt ?_
  cases hP:P i with
  | true=>
    refine he i _ ⟨n - (i+ 1),by omega,rfl,hlt,?_,rfl⟩
    rw[List.range_succ,List.filter_append,List.filter_cons_of_pos hP,List.filter_nil,List.map_append,ints_app,Int.zero_add];rfl
  | false=>
    refine⟨n - (i+ 1),by omega,rfl,hlt,?_,rfl⟩
    rw[List.range_succ,List.filter_append,List.filter_cons_of_neg (by rw[hP];exact Bool.false_ne_true),List.filter_nil,List.append_nil]
 ·have e:i=n:=by omega
  subst e
  exact .inl ⟨Nat.le_refl _,Nat.le_trans hlen (Nat.le_trans hm (by decide)),fun D hD=>k D hD⟩
def WsOk (L:Int)(ws:List (List Int)):Prop:=∀ w∈ws,StpL L w/\1<=w.length/\w.length<=900
def spRow:Sp:=fun vs H Q _=>∃(p aG aW:Addr) (L:Int) (ws:List (List Int)) (cm:Int) (X:AS) (went:List Int) (z:Int),vs=[.ref p,.int X.made,.ref aG,.ref aW,.int cm,.int z]/\LAt H p X.S/\LBd X.S/\Iv L X went/\1<=X.made/\X.made<=4000/\H aG=some (.lst (intV went))/\WordsAt H aW ws/\1<=ws.length/\ws.length<=900/\WsOk L ws/\0<=z/\∀ q w H',Same H H'->RowAt H' q w->okA L ws cm X w->Q (.ref q) H'
theorem ok__law_row (T:Txt K mg A):FnOk P w K mg base CX0 3 A.f__law_row A.d__law_row ["_law_known","_law_made","_law_went","_law_words","_law_many","_law_number"] spRow:=by
 have G__law_clash:FnOk P w K mg base CX0 1 A.f__law_clash A.d__law_clash ["_law_known"] spClash:=ok__law_clash T
 have G__law_round:FnOk P w K mg base CX0 2 A.f__law_round A.d__law_round ["_law_known","_law_made","_law_which","_law_word_here","_law_room","_law_number"] spRound:=ok__law_round T
 refine T._law_row.F.ok sc__law_row (fun vs H Q E h=>?_) (fun cdv AA outer s H vs Q E hr h=>?_)
 ·obtain⟨p,aG,aW,L,ws,cm,X,went,z,rfl,_⟩:=h
  rfl
 ·obtain⟨p,aG,aW,L,ws,cm,X,went,z,rfl,h,hb,hI,hm1,hm2,hG,hW,hl1,hl2,hok,hz,k⟩:=h
  refine⟨_,(pss_cons (ps_set (i:=6) sc__law_row.nd rfl (Or.inl rfl) (pe_call (G__law_clash) (hr.mono (by decide)) rfl T._law_clash.m T._law_clash.F.kp T._law_clash.b .nil pass0 (pa_cons (pv 0) pa_nil)))
   (pss_cons (ps_cut (ps_if (PW.pt (pw_and (pt_cmpR op_notN (pv 6) pe_non (nomark _)) (pw_and1 (pt_cmpR op_gt (pe_op op_mod (pv 5) pe_int) pe_int (nomark _)))))
    (pss_one (ps_ret (pv 6)))
    pss_nil))
   (pss_cons (ps_setCompIf (iy:=7) sc__law_row.nd rfl (Or.inl rfl) (fns:=["_law_went"]) (ixs:=[2]) (cl:=_) rfl (pi_range1 rfl T.z_range (pa_cons (pv 1) pa_nil)) (compScope1 rfl rfl (by decide +kernel) rfl (by decide +kernel) rfl (by decide +kernel) (by decide +kernel) rfl rfl rfl rfl) (fun C s H ex=>(pt_cmpR op_NOTIN_l (pv 0) (pv 1) rfl)) (fun C s H ex=>(pv 0)))
   (pss_cons (ps_set (i:=8) sc__law_row.nd rfl (Or.inl rfl) (pe_ix ix_list (pv 7) (pe_op op_mod (pe_op op_fdiv (pv 5) pe_int) (pe_callB call_len_seq rfl T.z_len PySem.boot_len (pa_cons (pv 7) pa_nil))) (fun _ _=>rfl)))
   (pss_cons (ps_set (i:=9) sc__law_row.nd rfl (Or.inl rfl) (pe_op op_mod (pe_op op_fdiv (pv 5) pe_int) (pe_callB call_len_seq rfl T.z_len PySem.boot_len (pa_cons (pv 3) pa_nil))))
   (pss_cons (ps_cut (ps_if (pt_cmpR op_ge (pv 9) (pv 4) (nomark _))
    (pss_one (ps_set (i:=8) sc__law_row.nd rfl (Or.inl rfl) pe_int))
    pss_nil))
   (pss_one (ps_ret (pe_call (G__law_round) (hr.mono (by decide)) rfl T._law_round.m T._law_round.F.kp T._law_round.b .nil pass0 (pa_cons (pv 0) (pa_cons (pv 1) (pa_cons (pv 9) (pa_cons (pe_ix ix_list (pv 3) (pv 9) (fun _ _=>rfl)) (pa_cons (pv 8) (pa_cons (pe_op op_fdiv (pv 5) pe_int) pa_nil))))))))))))))),?_⟩
  try dsimp only[cx_noxK,cx_K]
  refine seq_let6 ?_
  intro u_6 u_5 u_4 u_3 u_2 u_1
  have rest:∀(v6:V) (H1:Hp),Same H H1->u_2 { nx:=fun x H'=>Q V.non H',rt:=Q } [some (.ref p),some (.int X.made),some (.ref aG),some (.ref aW),some (.int cm),some (.int z),some v6,none,none,none] H1:=fun v6 H1 s1=>by
   refine⟨_,rfl,_,rfl,by omega,by omega,?_⟩
   refine comp_rangeIf (fun i=>!decide (((i:Nat):Int)∈went)) (by omega) (fun i Rr _ hR=>?_) (fun i Rr hR=>⟨_,rfl,hR⟩) (fun D nD=>?_)
   ·exact⟨_,rfl,_,rfl,_,aG,_,rfl,rfl,s1 _ _ hG,_,rfl,by rw[Int.zero_add];exact hR⟩
   have eS:∀ c,c∈((List.range X.made.toNat).filter fun i=>!decide (((i:Nat):Int)∈went)).map Int.ofNat↔X.st c=true:=fun c=>by
    rw[hI.st c,List.mem_map]
    constructor
    ·rintro ⟨i,hi,rfl⟩
     rw[List.mem_filter,List.mem_range] at hi
     refine⟨⟨Int.natCast_nonneg i,by show (i:Int) < _;omega⟩,?_⟩
     intro z
     have:=hi.2
     rw[show (Int.ofNat i)=(i:Int) from rfl] at z
     rw[decide_eq_true z] at this
     cases this
    ·rintro ⟨⟨h1,h2⟩,h3⟩
     refine⟨c.toNat,List.mem_filter.mpr ⟨List.mem_range.mpr (by omega),?_⟩,Int.toNat_of_nonneg h1⟩
     rw[Int.toNat_of_nonneg h1,decide_eq_false h3];rfl
   have hsl:(((List.range X.made.toNat).filter fun i=>!decide (((i:Nat):Int)∈went)).map Int.ofNat).length<=4000:=by
    rw[List.length_map]
    exact Nat.le_trans (List.length_filter_le _ _) (by rw[List.length_range];omega)
   generalize ((List.range X.made.toNat).filter fun i=>!decide (((i:Nat):Int)∈went)).map Int.ofNat=st at eS hsl ⊢
   have s2:=Same.upd (o:=.lst (intV st)) nD
   have q2:upd H1 D (.lst (intV st)) D=some (.lst (intV st)):=upd_same
   generalize upd H1 D (.lst (intV st))=H2 at s2 q2 ⊢
   have s02:=s1.trans s2
   have hn:0 < st.length:=List.length_pos_of_mem ((eS 0).mpr hI.z)
   have b1:=Int.emod_nonneg (z / 4) (show (st.length:Int)≠0 by omega)
   have b2:=Int.emod_lt_of_pos (z / 4) (show (0:Int) < (st.length:Int) by omega)
   have ho:st[(z / 4 % (st.length:Int)).toNat]?=some (st[(z / 4 % (st.length:Int)).toNat]'(by omega)):=List.getElem?_eq_getElem (by omega)
   generalize st[(z / 4 % (st.length:Int)).toNat]'(by omega)=room at ho
   have hroom:=(eS room).mp (List.mem_of_getElem? ho)
   refine⟨_,rfl,_,rfl,_,_,rfl,rfl,⟨by decide,by decide⟩,_,rfl,D,_,rfl,.inl (SqL.of q2),_,_,rfl,rfl,(by rw[ints_len];show (0:Int) < (st.length:Int);omega),D,_,_,.int room,rfl,rfl,SqL.of q2,?_,?_⟩
   ·show atI (intV st) (z / 4 % ((intV st).length:Int))=_
    rw[ints_len,← Int.toNat_of_nonneg b1]
    exact atI_nat (ints_at ho)
   obtain⟨ps,hps,hpt⟩:=(hW.same s02)
   have hpl:ps.length=ws.length:=hpt.1
   have hql:((ps.map V.ref).length:Int)=(ws.length:Int):=by rw[List.length_map,hpl]
   have c1:=Int.emod_nonneg (z / 256) (show (ws.length:Int)≠0 by omega)
   have c2:=Int.emod_lt_of_pos (z / 256) (show (0:Int) < (ws.length:Int) by omega)
   refine⟨_,rfl,_,_,rfl,rfl,⟨by decide,by decide⟩,_,rfl,aW,_,rfl,.inl (SqL.of hps),_,_,rfl,rfl,(by rw[hql];show (0:Int) < (ws.length:Int);omega),?_⟩
   obtain⟨n,hn⟩:∃ n:Nat,z / 256 % (ws.length:Int)=(n:Int):=⟨_,(Int.toNat_of_nonneg c1).symm⟩
   have eN:(fun(i j:Int)=>V.int (i % j)) (z / 256) ((ps.map V.ref).length:Int)=V.int (n:Int):=by
    show V.int (z / 256 % ((ps.map V.ref).length:Int))=_
    rw[hql,hn]
   rw[eN]
   have hnl:n < ws.length:=by omega
   refine⟨fun σ' H'=>∃ rm:Int,σ'=[some (.ref p),some (.int X.made),some (.ref aG),some (.ref aW),some (.int cm),some (.int z),some v6,some (.ref D),some (.int rm),some (.int (n:Int))]/\H'=H2/\X.st rm=true/\((n:Int) < cm\/rm=0),?_,?_⟩
   ·refine⟨_,rfl,_,rfl,_,_,rfl,rfl,_,rfl,?_⟩
    refine ite2 (fun _=>?_) (fun w=>?_)
    ·exact⟨0,rfl,rfl,hI.z,.inr rfl⟩
    ·exact⟨room,rfl,rfl,hroom,.inl (by have:¬ cm<=(n:Int):=fun q=>w (decide_eq_true q);omega)⟩
   rintro σ' H' ⟨rm,rfl,rfl,hrm,hc⟩
   have ht:ps[n]?=some (ps[n]'(by omega)):=List.getElem?_eq_getElem (by omega)
   have hw:ws[n]?=some (ws[n]'hnl):=List.getElem?_eq_getElem hnl
   generalize ps[n]'(by omega)=t at ht
   generalize ws[n]'hnl=word at hw
   have hwt:=hpt.2 n t word ht hw
   obtain⟨o1,o2,o3⟩:=hok word (List.mem_of_getElem? hw)
   refine⟨_,rfl,_,rfl,_,rfl,_,rfl,_,rfl,aW,_,_,.ref t,rfl,rfl,SqL.of hps,atI_nat (by rw[List.getElem?_map,ht];rfl),_,rfl,_,rfl,_,_,rfl,rfl,⟨by decide,by decide⟩,?_⟩
   exact⟨p,t,L,ws,cm,X,n,word,rm,_,rfl,h.same s02,hb,hI.cl,hw,hwt,o1,o2,o3,hrm,hc,fun q w H' s' hq ok=>k q w H' (s02.trans s') hq ok⟩
  refine⟨_,rfl,p,X.S,rfl,h,fun H1 s1=>?_,fun q c s x y H1 s1 hq hxy hSx hSy=>?_⟩
  ·refine⟨fun σ' H'=>σ'=[some (.ref p),some (.int X.made),some (.ref aG),some (.ref aW),some (.int cm),some (.int z),some .non,none,none,none]/\H'=H1,?_,?_⟩
   ·refine⟨_,rfl,rfl,_,rfl,?_⟩
    exact⟨rfl,rfl⟩
   rintro σ' H' ⟨rfl,rfl⟩
   exact rest _ _ s1
  ·refine⟨fun σ' H'=>σ'=[some (.ref p),some (.int X.made),some (.ref aG),some (.ref aW),some (.int cm),some (.int z),some (.ref q),none,none,none]/\H'=H1,?_,?_⟩
   ·refine⟨_,rfl,rfl,_,rfl,_,rfl,_,_,rfl,rfl,(by show (0:Int) < 4;decide),_,_,rfl,rfl,_,rfl,?_⟩
    refine ite2 (fun _=>?_) (fun _=>⟨rfl,rfl⟩)
    exact⟨_,rfl,k q _ _ s1 hq ⟨hxy,hSx,hSy⟩⟩
   rintro σ' H' ⟨rfl,rfl⟩
   exact rest _ _ s1
theorem right_snoc {L:Int}{ws:List (List Int)}{cm:Int}:∀{rows:List Rw} {X:AS} {w:Rw},Right L ws cm X rows->okA L ws cm (rows.foldl (nxA ws) X) w->Right L ws cm X (rows++[w])
 | [],_,_,_,h=>⟨h,trivial⟩
 | v :: r,X,w,h,e=>⟨h.1,right_snoc (rows:=r) h.2 e⟩
def RowsOn (H:Hp)(qs:List Addr)(rows:List Rw):Prop:=qs.length=rows.length/\∀(i:Nat) (q:Addr) (w:Rw),qs[i]?=some q->rows[i]?=some w->RowAt H q w
theorem RowsOn.same {H H':Hp}{qs:List Addr}{rows:List Rw}(h:RowsOn H qs rows)(s:Same H H'):RowsOn H' qs rows:=⟨h.1,fun i q w e1 e2=>(h.2 i q w e1 e2).same s⟩
theorem RowAt.keep {H H':Hp}{q:Addr}(s:∀ b xs,H b=some (.tup xs)->H' b=some (.tup xs)):∀{w:Rw},RowAt H q w->RowAt H' q w
 | .new _ _ _,h=>s _ _ h
 | .rule _ _ _,⟨t,h1,h2,h3⟩=>⟨t,s _ _ h1,s _ _ h2,h3⟩
 | .meet _ _ _ _,h=>s _ _ h
theorem RowsOn.keep {H H':Hp}{qs:List Addr}{rows:List Rw}(h:RowsOn H qs rows)(s:∀ b xs,H b=some (.tup xs)->H' b=some (.tup xs)):RowsOn H' qs rows:=⟨h.1,fun i q w e1 e2=>(h.2 i q w e1 e2).keep s⟩
theorem RowsOn.snoc {H:Hp}{qs:List Addr}{rows:List Rw}(h:RowsOn H qs rows){q:Addr}{w:Rw}(hq:RowAt H q w):RowsOn H (qs++[q]) (rows++[w]):=by
 refine⟨by rw[List.length_append,List.length_append,h.1];rfl,fun i q' w' e1 e2=>?_⟩
 have hl:=h.1
 by_cases hi:i < qs.length
 ·rw[List.getElem?_append_left hi] at e1
  rw[List.getElem?_append_left (by omega)] at e2
  exact h.2 i _ _ e1 e2
 ·rw[List.getElem?_append_right (by omega)] at e1 e2
  have e:i - qs.length=0:=by
   have:=(List.getElem?_eq_some_iff.mp e1).1
   simp at this;omega
  rw[← hl] at e2
  rw[e] at e1 e2
  rw[← Option.some.inj e1,← Option.some.inj e2];exact hq
structure PI (H0 H:Hp) (L:Int) (g l p:Addr) (X:AS) (went:List Int) (qs:List Addr) (rows:List Rw):Prop where
 sm:Same H0 H
 np:H0 p=none
 la:LAt H p X.S
 no:LNo H p (fun b=>b=g\/b=l)
 hg:H g=some (.lst (intV went))
 hl:H l=some (.lst (qs.map V.ref))
 ro:RowsOn H qs rows
 iv:Iv L X went
 wm:∀ c∈went,c < X.made
 m1:1<=X.made
theorem PI.pg {H0 H:Hp}{L:Int}{g l p:Addr}{X:AS}{went:List Int}{qs:List Addr}{rows:List Rw}(h:PI H0 H L g l p X went qs rows):¬ (p=g\/p=l):=by
 obtain⟨kv,e,_⟩:=h.la
 rintro (z | z)
 ·rw[z,h.hg] at e;cases e
 ·rw[z,h.hl] at e;cases e
theorem PI.same {H0 H H':Hp}{L:Int}{g l p:Addr}{X:AS}{went:List Int}{qs:List Addr}{rows:List Rw}(h:PI H0 H L g l p X went qs rows)(s:Same H H'):PI H0 H' L g l p X went qs rows:=
 ⟨h.sm.trans s,h.np,h.la.same s,h.no.same h.la s,s _ _ h.hg,s _ _ h.hl,h.ro.same s,h.iv,h.wm,h.m1⟩
theorem PI.thr {H0 H:Hp}{L:Int}{g l p:Addr}{X:AS}{went:List Int}{qs:List Addr}{rows:List Rw}(h:PI H0 H L g l p X went qs rows):Thr H (fun b=>b=g\/b=l):=by
 rintro b (rfl | rfl)
 ·exact⟨_,h.hg⟩
 ·exact⟨_,h.hl⟩
theorem PI.told {H0 H H':Hp}{L:Int}{g l p:Addr}{X X':AS}{went:List Int}{qs:List Addr}{rows:List Rw}(h:PI H0 H L g l p X went qs rows)(b:ButP p H H')(la:LAt H' p X'.S)(n:∀ N,Thr H N->LNo H p N->LNo H' p N)(iv:Iv L X' went)(wm:∀ c∈went,c < X'.made)(m1:1<=X'.made):PI H0 H' L g l p X' went qs rows:=by
 obtain⟨kv,e,_⟩:=h.la
 refine⟨fun x u q=>b x u (fun z=>by rw[z,h.np] at q;cases q) (h.sm _ _ q),h.np,la,n _ h.thr h.no,b _ _ (fun z=>h.pg (.inl z.symm)) h.hg,b _ _ (fun z=>h.pg (.inr z.symm)) h.hl,h.ro.keep fun x xs q=>b _ _ (fun z=>by rw[z,e] at q;cases q) q,iv,wm,m1⟩
theorem PI.met {H0 H H':Hp}{L:Int}{g l p f:Addr}{X X':AS}{went:List Int}{qs:List Addr}{rows:List Rw}{y:Int}(h:PI H0 H L g l p X went qs rows)(ng:H0 g=none)(hgl:g≠l)(s:Same H H')(nf:H f=none)(la:LAt H' f X'.S)(n:∀ N,Thr H N->LNo H' f N)(iv:Iv L X' (went++[y]))(wm:∀ c∈went++[y],c < X'.made)(m1:1<=X'.made):
 PI H0 (upd H' g (.lst (intV went++[.int y]))) L g l f X' (went++[y]) qs rows:=by
 have kp:∀ b u,b≠g->H' b=some u->upd H' g (.lst (intV went++[.int y])) b=some u:=fun b u z q=>by rw[upd_ne z];exact q
 have no:=n _ h.thr
 obtain⟨kv,e,_⟩:=id la
 have fg:f≠g:=fun z=>by rw[z,h.hg] at nf;cases nf
 have fl:f≠l:=fun z=>by rw[z,h.hl] at nf;cases nf
 refine⟨fun x u q=>kp _ _ (fun z=>by rw[z,ng] at q;cases q) (s _ _ (h.sm _ _ q)),same_none h.sm nf,la.keepN no (fun z=>z.elim fg fl) fun b u z q=>kp _ _ (fun w=>z (.inl w)) q,no.at fun kvs q=>by rw[upd_ne fg] at q;exact q,by rw[upd_same,ints_app];rfl,kp _ _ hgl.symm (s _ _ h.hl),h.ro.keep fun x xs q=>kp _ _ (fun z=>by rw[z,h.hg] at q;cases q) (s _ _ q),iv,wm,m1⟩
theorem PI.app {H0 H:Hp}{L:Int}{g l p:Addr}{X:AS}{went:List Int}{qs:List Addr}{rows:List Rw}(h:PI H0 H L g l p X went qs rows)(nl:H0 l=none)(hgl:g≠l){q:Addr}{w:Rw}(hq:RowAt H q w):PI H0 (upd H l (.lst (qs.map V.ref++[.ref q]))) L g l p X went (qs++[q]) (rows++[w]):=by
 have kp:∀ b u,b≠l->H b=some u->upd H l (.lst (qs.map V.ref++[.ref q])) b=some u:=fun b u z q=>by rw[upd_ne z];exact q
 have kt:∀ b xs,H b=some (.tup xs)->upd H l (.lst (qs.map V.ref++[.ref q])) b=some (.tup xs):=fun b xs e=>kp _ _ (fun z=>by rw[z,h.hl] at e;cases e) e
 refine⟨fun x u q=>kp _ _ (fun z=>by rw[z,nl] at q;cases q) (h.sm _ _ q),h.np,h.la.keepN h.no h.pg fun b u z q=>kp _ _ (fun w=>z (.inr w)) q,h.no.at fun kvs q=>by rw[upd_ne (fun z=>h.pg (.inr z))] at q;exact q,kp _ _ hgl h.hg,by rw[upd_same,List.map_append];rfl,(h.ro.keep kt).snoc (hq.keep kt),h.iv,h.wm,h.m1⟩
theorem wentA_len (went:List Int):∀ w:Rw,(wentA went w).length<=went.length+ 1
 | .new _ _ _=>Nat.le_succ _
 | .rule _ _ _=>Nat.le_succ _
 | .meet _ _ _ _=>by show (went++[_]).length<=_;rw[List.length_append];exact Nat.le_refl _
def spPaper:Sp:=fun vs H Q _=>∃(aW aC:Addr) (L:Int) (ws:List (List Int)) (cm:Int) (cs:List Int),vs=[.ref aW,.int cm,.ref aC]/\L < 10/\WordsAt H aW ws/\1<=ws.length/\ws.length<=900/\WsOk L ws/\H aC=some (.lst (intV cs))/\cs.length<=2000/\∀ l qs rows H',Same H H'->H' l=some (.lst (qs.map V.ref))->RowsOn H' qs rows->Right L ws cm AS0 rows->rows.length=cs.length->Q (.ref l) H'
theorem ok__law_paper (T:Txt K mg A):FnOk P w K mg base CX0 4 A.f__law_paper A.d__law_paper ["_law_words","_law_many","_law_cells"] spPaper:=by
 have G__law_row:FnOk P w K mg base CX0 3 A.f__law_row A.d__law_row ["_law_known","_law_made","_law_went","_law_words","_law_many","_law_number"] spRow:=ok__law_row T
 have G__law_mix:FnOk P w K mg base CX0 1 A.f__law_mix A.d__law_mix ["_law_number","_law_place"] spMix:=ok__law_mix T
 have G__law_tell:FnOk P w K mg base CX0 1 A.f__law_tell A.d__law_tell ["_law_known","_law_room","_law_step","_law_other"] spTell:=ok__law_tell T
 have G__law_met:FnOk P w K mg base CX0 2 A.f__law_met A.d__law_met ["_law_known","_law_less","_law_more"] spMet:=ok__law_met T
 refine T._law_paper.F.ok sc__law_paper (fun vs H Q E h=>?_) (fun cdv AA outer s H vs Q E hr h=>?_)
 ·obtain⟨aW,aC,L,ws,cm,cs,rfl,_⟩:=h
  rfl
 ·obtain⟨aW,aC,L,ws,cm,cs,rfl,hL,hW,hl1,hl2,hok,hC,hcl,k⟩:=h
  refine⟨_,(pss_cons (ps_set (i:=3) sc__law_paper.nd rfl (Or.inl rfl) pe_dnewT)
   (pss_cons (ps_set (i:=4) sc__law_paper.nd rfl (Or.inl rfl) pe_int)
   (pss_cons (ps_set (i:=5) sc__law_paper.nd rfl (Or.inl rfl) (pe_lst pa_nil))
   (pss_cons (ps_set (i:=6) sc__law_paper.nd rfl (Or.inl rfl) (pe_lst pa_nil))
   (pss_cons (ps_for PassesOwn.never rfl (pi_list (pv 2)) (pg_name (i:=7) sc__law_paper.nd rfl (Or.inl rfl))
    (pss_cons (ps_set (i:=8) sc__law_paper.nd rfl (Or.inl rfl) (pe_call (G__law_row) (hr.mono (by decide)) rfl T._law_row.m T._law_row.F.kp T._law_row.b .nil pass0 (pa_cons (pv 3) (pa_cons (pv 4) (pa_cons (pv 5) (pa_cons (pv 0) (pa_cons (pv 1) (pa_cons (pe_call (G__law_mix) (hr.mono (by decide)) rfl T._law_mix.m T._law_mix.F.kp T._law_mix.b .nil pass0 (pa_cons (pv 7) (pa_cons pe_int pa_nil))) pa_nil))))))))
    (pss_cons (ps_cut (ps_if (pt_cmpR op_eq (pe_ix ix_tup (pv 8) pe_int (fun _ _=>rfl)) (pe_strX (l:=[110,101,119]) rfl) (nomark _))
     (pss_cons (ps_set (i:=4) sc__law_paper.nd rfl (Or.inl rfl) (pe_op op_add (pv 4) pe_int))
     (pss_one (ps_expr (pe_call (G__law_tell) (hr.mono (by decide)) rfl T._law_tell.m T._law_tell.F.kp T._law_tell.b .nil pass0 (pa_cons (pv 3) (pa_cons (pe_ix ix_tup (pv 8) pe_int (fun _ _=>rfl)) (pa_cons (pe_ix ix_tup (pv 8) pe_int (fun _ _=>rfl)) (pa_cons (pe_ix ix_tup (pv 8) pe_int (fun _ _=>rfl)) pa_nil))))))))
     (pss_one (ps_cut (ps_if (pt_cmpR op_eq (pe_ix ix_tup (pv 8) pe_int (fun _ _=>rfl)) (pe_strX (l:=[114,117,108,101]) rfl) (nomark _))
      (pss_cons (ps_set (i:=9) sc__law_paper.nd rfl (Or.inl rfl) (pe_ix ix_list (pv 0) (pe_ix ix_tup (pv 8) pe_int (fun _ _=>rfl)) (fun _ _=>rfl)))
      (pss_one (ps_expr (pe_call (G__law_tell) (hr.mono (by decide)) rfl T._law_tell.m T._law_tell.F.kp T._law_tell.b .nil pass0 (pa_cons (pv 3) (pa_cons (pe_ix ix_tup (pe_ix ix_tup (pv 8) pe_int (fun _ _=>rfl)) (pe_ix ix_tup (pv 8) pe_int (fun _ _=>rfl)) (fun _ _=>rfl)) (pa_cons (pe_ix ix_tup (pv 9) (pe_ix ix_tup (pv 8) pe_int (fun _ _=>rfl)) (fun _ _=>rfl)) (pa_cons (pe_ix ix_tup (pe_ix ix_tup (pv 8) pe_int (fun _ _=>rfl)) (pe_op op_add (pe_ix ix_tup (pv 8) pe_int (fun _ _=>rfl)) pe_int) (fun _ _=>rfl)) pa_nil))))))))
      (pss_cons (ps_set (i:=3) sc__law_paper.nd rfl (Or.inl rfl) (pe_call (G__law_met) (hr.mono (by decide)) rfl T._law_met.m T._law_met.F.kp T._law_met.b .nil pass0 (pa_cons (pv 3) (pa_cons (pe_ix ix_tup (pv 8) pe_int (fun _ _=>rfl)) (pa_cons (pe_ix ix_tup (pv 8) pe_int (fun _ _=>rfl)) pa_nil)))))
      (pss_one (ps_expr (pe_bm PySem.F.plainAttrs_list PySem.F.slot_list_append PySem.F.type_list_append mt_append (pv 5) (pa_cons (pe_ix ix_tup (pv 8) pe_int (fun _ _=>rfl)) pa_nil))))))))))
    (pss_one (ps_expr (pe_bm PySem.F.plainAttrs_list PySem.F.slot_list_append PySem.F.type_list_append mt_append (pv 6) (pa_cons (pv 8) pa_nil)))))))
   (pss_one (ps_ret (pv 6)))))))),?_⟩
  try dsimp only[cx_noxK,cx_K]
  refine seq_let5 ?_
  intro u_5 u_4 u_3 u_2 u_1
  refine fun p0 np0=>?_
  have s1:=Same.upd (o:=.dT []) np0
  have q1:upd H p0 (.dT []) p0=some (.dT []):=upd_same
  generalize upd H p0 (.dT [])=H1 at s1 q1 ⊢
  refine⟨Nat.zero_le _,fun g ng=>?_⟩
  have s2:=Same.upd (o:=.lst []) ng
  have q2:upd H1 g (.lst []) g=some (.lst []):=upd_same
  generalize upd H1 g (.lst [])=H2 at s2 q2 ⊢
  refine⟨Nat.zero_le _,fun l nl=>?_⟩
  have s3:=Same.upd (o:=.lst []) nl
  have q3:upd H2 l (.lst []) l=some (.lst []):=upd_same
  generalize upd H2 l (.lst [])=H3 at s3 q3 ⊢
  have ngH:H g=none:=same_none s1 ng
  have nlH:H l=none:=same_none (s1.trans s2) nl
  have hgl:g≠l:=fun z=>by rw[← z,q2] at nl;cases nl
  have hlw:∀ w∈ws,∀ s∈w,1<=s.natAbs/\(s.natAbs:Int)<=L:=fun w hw s hs=>(hok w hw).1 s hs
  have s03:=(s1.trans s2).trans s3
  have pi0:PI H H3 L g l p0 AS0 [] [] []:=⟨s03,np0,LAt.nil (s3 _ _ (s2 _ _ q1)),fun kvs e kv hkv=>(by rw[s3 _ _ (s2 _ _ q1)] at e;injection e with e;injection e with e;rw[← e] at hkv;cases hkv),s3 _ _ q2,q3,⟨rfl,(fun i q w e=>by simp at e)⟩,iv0 L,(fun c hc=>by cases hc),by show (1:Int)<=1;decide⟩
  refine⟨_,rfl,aC,rfl,⟨_,SqL.of (s03 _ _ hC)⟩,?_⟩
  refine for_list (K:=K) (a:=aC) (xs:=intV cs) (fun i σ H4=>∃ p X went qs rows v7 v8 v9,σ=[some (.ref aW),some (.int cm),some (.ref aC),some (.ref p),some (.int X.made),some (.ref g),some (.ref l),v7,v8,v9]/\PI H H4 L g l p X went qs rows/\Right L ws cm AS0 rows/\X=rows.foldl (nxA ws) AS0/\rows.length=i/\X.made<=1+ (i:Int)/\went.length<=i)
   ⟨p0,AS0,[],[],[],none,none,none,rfl,pi0,trivial,rfl,rfl,by show (1:Int)<=1+ 0;decide,Nat.le_refl _⟩ (fun i σ H4 _ ⟨_,_,_,_,_,_,_,_,_,h,_⟩=>SqL.of (h.sm _ _ hC)) ?_ ?_
  ·rintro i v σ H4 hi ⟨p,X,went,qs,rows,v7,v8,v9,rfl,h4,hR,eX,hrl,hmd,hwn⟩
   obtain⟨z,rfl,hz⟩:=ints_of_at hi
   have hil:i < cs.length:=(List.getElem?_eq_some_iff.mp hz).1
   have hbd:=h4.iv.bd hL (by omega)
   refine⟨_,rfl,_,rfl,_,rfl,_,rfl,_,rfl,_,rfl,z,1,rfl,by decide,by decide,fun r hr0=>?_⟩
   refine⟨p,g,aW,L,ws,cm,X,went,r,rfl,h4.la,hbd,h4.iv,h4.m1,by omega,h4.hg,hW.same h4.sm,hl1,hl2,hok,hr0,fun q w H5 s5 hq ok=>?_⟩
   have h5:=h4.same s5
   obtain⟨st1,st2,st3,st4⟩:=h4.iv.step hlw h4.wm h4.m1 ok
   refine⟨fun σ' H'=>∃ p' v9,σ'=[some (.ref aW),some (.int cm),some (.ref aC),some (.ref p'),some (.int (nxA ws X w).made),some (.ref g),some (.ref l),some (.int z),some (.ref q),v9]/\PI H H' L g l p' (nxA ws X w) (wentA went w) qs rows/\RowAt H' q w,?_,?_⟩
   ·cases w with
    | new c s n=>
      replace hq:H5 q=some (.tup [.str (tx [110,101,119]),.int c,.int s,.int n]):=hq
      obtain⟨o1,o2,o3,o4⟩:=ok
      have bc:=((h4.iv.st c).mp o1).1
      refine⟨_,rfl,q,_,_,_,rfl,rfl,SqT.of hq,rfl,rfl,_,rfl,?_⟩
      refine ite2 (fun _=>?_) (fun z=>absurd (decide_eq_true rfl) z)
      refine⟨_,rfl,_,_,rfl,rfl,?_⟩
      refine⟨_,rfl,_,rfl,q,_,_,_,rfl,rfl,SqT.of hq,rfl,_,rfl,q,_,_,_,rfl,rfl,SqT.of hq,rfl,_,rfl,q,_,_,_,rfl,rfl,SqT.of hq,rfl,?_⟩
      refine⟨p,X.S,c,s,n,rfl,h5.la,hbd,by omega,by omega,by omega,fun H6 b6 h6 n6=>?_⟩
      refine⟨p,_,rfl,h5.told b6 h6 n6 st1 st2 (Int.le_trans h4.m1 st3),b6 _ _ (fun z=>?_) hq⟩
      obtain⟨kv,e,_⟩:=h5.la
      rw[z,e] at hq;cases hq
    | rule wh path kk=>
      obtain⟨t,hq,ht,hpl⟩:=hq
      obtain⟨n,m,word,c,s,o,e1,e2,o1,o2,o3,o4,o5,o6,o7,o8,o9⟩:=id ok
      subst e1 e2
      have eN:nxA ws X (.rule n path m)=⟨X.made,X.st,learnS X.S c s o⟩:=by
       unfold nxA
       simp only[Int.toNat_natCast,List.getD_eq_getElem?_getD,o1,o2,o3,o4,Option.getD_some]
      have bc:=((h4.iv.st c).mp (o8 _ (List.mem_of_getElem? o3))).1
      have bo:=((h4.iv.st o).mp (o8 _ (List.mem_of_getElem? o4))).1
      have bs:=hlw _ (List.mem_of_getElem? o1) _ (List.mem_of_getElem? o2)
      obtain⟨ps,hps,hpt⟩:=hW.same (h4.sm.trans s5)
      have hnl:n < ps.length:=by rw[hpt.1];exact(List.getElem?_eq_some_iff.mp o1).1
      have hpn:ps[n]?=some (ps[n]'hnl):=List.getElem?_eq_getElem hnl
      generalize ps[n]'hnl=tw at hpn
      have htw:=hpt.2 n tw word hpn o1
      refine⟨_,rfl,q,_,_,_,rfl,rfl,SqT.of hq,rfl,rfl,_,rfl,?_⟩
      refine ite2 (fun z=>?_) (fun _=>?_)
      ·have:=of_decide_eq_true z
       injection this with this
       exact absurd (tx_inj this) (by decide)
      refine⟨_,?_,fun _ _ z=>z⟩
      refine⟨_,rfl,q,_,_,_,rfl,rfl,SqT.of hq,rfl,rfl,_,rfl,?_⟩
      refine ite2 (fun _=>?_) (fun z=>absurd (decide_eq_true rfl) z)
      refine⟨_,rfl,_,rfl,q,_,_,_,rfl,rfl,SqT.of hq,rfl,aW,_,_,.ref tw,rfl,rfl,SqL.of hps,atI_nat (by rw[List.getElem?_map,hpn];rfl),?_⟩
      refine⟨_,rfl,_,rfl,q,_,_,_,rfl,rfl,SqT.of hq,rfl,_,rfl,q,_,_,_,rfl,rfl,SqT.of hq,rfl,t,_,_,.int c,rfl,rfl,SqT.of ht,atI_nat (ints_at o3),_,rfl,_,rfl,q,_,_,_,rfl,rfl,SqT.of hq,rfl,tw,_,_,.int s,rfl,rfl,SqT.of htw,atI_nat (ints_at o2),_,rfl,q,_,_,_,rfl,rfl,SqT.of hq,rfl,_,rfl,q,_,_,_,rfl,rfl,SqT.of hq,rfl,_,_,rfl,rfl,t,_,_,.int o,rfl,rfl,SqT.of ht,atI_nat (j:=m+ 1) (ints_at o4),?_⟩
      refine⟨p,X.S,c,s,o,rfl,h5.la,hbd,by omega,by omega,by omega,fun H6 b6 h6 n6=>?_⟩
      rw[eN] at st1 st2 st3 ⊢
      have hpq:∀{b xs},H5 b=some (.tup xs)->b≠p:=fun{b xs} e z=>by
       obtain⟨kv,e',_⟩:=h5.la
       rw[z,e'] at e;cases e
      exact⟨p,_,rfl,h5.told (X':=⟨X.made,X.st,learnS X.S c s o⟩) b6 h6 n6 st1 st2 (Int.le_trans h4.m1 st3),t,b6 _ _ (hpq hq) hq,b6 _ _ (hpq ht) ht,hpl⟩
    | meet c s x y=>
      replace hq:H5 q=some (.tup [.str (tx [109,101,101,116]),.int c,.int s,.int x,.int y]):=hq
      obtain⟨o1,o2,o3⟩:=ok
      have bx:=((h4.iv.st x).mp (h4.iv.cl.b o2)).1
      refine⟨_,rfl,q,_,_,_,rfl,rfl,SqT.of hq,rfl,rfl,_,rfl,?_⟩
      refine ite2 (fun z=>?_) (fun _=>?_)
      ·have:=of_decide_eq_true z
       injection this with this
       exact absurd (tx_inj this) (by decide)
      refine⟨_,?_,fun _ _ z=>z⟩
      refine⟨_,rfl,q,_,_,_,rfl,rfl,SqT.of hq,rfl,rfl,_,rfl,?_⟩
      refine ite2 (fun z=>?_) (fun _=>?_)
      ·have:=of_decide_eq_true z
       injection this with this
       exact absurd (tx_inj this) (by decide)
      refine⟨_,rfl,_,rfl,q,_,_,_,rfl,rfl,SqT.of hq,rfl,_,rfl,q,_,_,_,rfl,rfl,SqT.of hq,rfl,?_⟩
      refine⟨p,X.S,x,y,rfl,h5.la,h4.iv.cl.sy,hbd,by omega,by omega,fun f H6 s6 nf h6 n6=>?_⟩
      refine⟨_,rfl,.inl ⟨rfl,_,SqL.of (s6 _ _ h5.hg)⟩,_,rfl,q,_,_,_,rfl,rfl,SqT.of (s6 _ _ hq),rfl,g,_,_,rfl,rfl,s6 _ _ h5.hg,?_,?_⟩
      ·rw[ints_len]
       exact Nat.lt_of_le_of_lt (show went.length<=2000 by omega) (by decide)
      refine⟨f,_,rfl,h5.met ngH hgl s6 nf h6 n6 st1 st2 (Int.le_trans h4.m1 st3),?_⟩
      show upd _ g _ q=_
      rw[upd_ne (fun z=>by rw[z,h5.hg] at hq;cases hq)]
      exact s6 _ _ hq
   rintro σ' H6 ⟨p',v9,rfl,h6,hq6⟩
   refine⟨_,rfl,.inl ⟨rfl,_,SqL.of h6.hl⟩,_,rfl,l,_,_,rfl,rfl,h6.hl,?_,?_⟩
   ·rw[List.length_map,h6.ro.1,hrl]
    exact Nat.lt_of_le_of_lt (show i<=2000 by omega) (by decide)
   refine⟨p',nxA ws X w,wentA went w,qs++[q],rows++[w],_,_,_,rfl,h6.app nlH hgl hq6,right_snoc hR (by rw[← eX];exact ok),by rw[List.foldl_append,← eX];rfl,by rw[List.length_append,hrl];rfl,by omega,Nat.le_trans (wentA_len went w) (by omega)⟩
  ·rintro σ H4 ⟨p,X,went,qs,rows,v7,v8,v9,rfl,h4,hR,eX,hrl,hmd,hwn⟩
   rw[ints_len] at hrl
   exact⟨_,rfl,k l qs rows _ h4.sm h4.hl h4.ro hR hrl⟩
def spState:Sp:=fun vs H Q _=>∃(aW pp:Addr) (L:Int) (ws:List (List Int)) (cm:Int) (qs:List Addr) (rows:List Rw),vs=[.ref aW,.ref pp]/\L < 10/\WordsAt H aW ws/\WsOk L ws/\H pp=some (.lst (qs.map V.ref))/\RowsOn H qs rows/\Right L ws cm AS0 rows/\rows.length<=2000/\∀ t p g X went H',Same H H'->H' t=some (.tup [.ref p,.int X.made,.ref g])->LAt H' p X.S->LBd X.S->H' g=some (.lst (intV went))->Iv L X went->1<=X.made->X.made<=4000->Q (.ref t) H'
theorem ok__law_state (T:Txt K mg A):FnOk P w K mg base CX0 4 A.f__law_state A.d__law_state ["_law_words","_law_paper_here"] spState:=by
 have G__law_tell:FnOk P w K mg base CX0 1 A.f__law_tell A.d__law_tell ["_law_known","_law_room","_law_step","_law_other"] spTell:=ok__law_tell T
 have G__law_met:FnOk P w K mg base CX0 2 A.f__law_met A.d__law_met ["_law_known","_law_less","_law_more"] spMet:=ok__law_met T
 refine T._law_state.F.ok sc__law_state (fun vs H Q E h=>?_) (fun cdv AA outer s H vs Q E hr h=>?_)
 ·obtain⟨aW,pp,L,ws,cm,qs,rows,rfl,_⟩:=h
  rfl
 ·obtain⟨aW,pp,L,ws,cm,qs,rows,rfl,hL,hW,hok,hpp,hro,hri,hrl,k⟩:=h
  refine⟨_,(pss_cons (ps_set (i:=2) sc__law_state.nd rfl (Or.inl rfl) pe_dnewT)
   (pss_cons (ps_set (i:=3) sc__law_state.nd rfl (Or.inl rfl) pe_int)
   (pss_cons (ps_set (i:=4) sc__law_state.nd rfl (Or.inl rfl) (pe_lst pa_nil))
   (pss_cons (ps_for PassesOwn.never rfl (pi_list (pv 1)) (pg_name (i:=5) sc__law_state.nd rfl (Or.inl rfl))
    (pss_one (ps_cut (ps_if (pt_cmpR op_eq (pe_ix ix_tup (pv 5) pe_int (fun _ _=>rfl)) (pe_strX (l:=[110,101,119]) rfl) (nomark _))
     (pss_cons (ps_set (i:=3) sc__law_state.nd rfl (Or.inl rfl) (pe_op op_add (pv 3) pe_int))
     (pss_one (ps_expr (pe_call (G__law_tell) (hr.mono (by decide)) rfl T._law_tell.m T._law_tell.F.kp T._law_tell.b .nil pass0 (pa_cons (pv 2) (pa_cons (pe_ix ix_tup (pv 5) pe_int (fun _ _=>rfl)) (pa_cons (pe_ix ix_tup (pv 5) pe_int (fun _ _=>rfl)) (pa_cons (pe_ix ix_tup (pv 5) pe_int (fun _ _=>rfl)) pa_nil))))))))
     (pss_one (ps_cut (ps_if (pt_cmpR op_eq (pe_ix ix_tup (pv 5) pe_int (fun _ _=>rfl)) (pe_strX (l:=[114,117,108,101]) rfl) (nomark _))
      (pss_cons (ps_set (i:=6) sc__law_state.nd rfl (Or.inl rfl) (pe_ix ix_list (pv 0) (pe_ix ix_tup (pv 5) pe_int (fun _ _=>rfl)) (fun _ _=>rfl)))
      (pss_one (ps_expr (pe_call (G__law_tell) (hr.mono (by decide)) rfl T._law_tell.m T._law_tell.F.kp T._law_tell.b .nil pass0 (pa_cons (pv 2) (pa_cons (pe_ix ix_tup (pe_ix ix_tup (pv 5) pe_int (fun _ _=>rfl)) (pe_ix ix_tup (pv 5) pe_int (fun _ _=>rfl)) (fun _ _=>rfl)) (pa_cons (pe_ix ix_tup (pv 6) (pe_ix ix_tup (pv 5) pe_int (fun _ _=>rfl)) (fun _ _=>rfl)) (pa_cons (pe_ix ix_tup (pe_ix ix_tup (pv 5) pe_int (fun _ _=>rfl)) (pe_op op_add (pe_ix ix_tup (pv 5) pe_int (fun _ _=>rfl)) pe_int) (fun _ _=>rfl)) pa_nil))))))))
      (pss_cons (ps_set (i:=2) sc__law_state.nd rfl (Or.inl rfl) (pe_call (G__law_met) (hr.mono (by decide)) rfl T._law_met.m T._law_met.F.kp T._law_met.b .nil pass0 (pa_cons (pv 2) (pa_cons (pe_ix ix_tup (pv 5) pe_int (fun _ _=>rfl)) (pa_cons (pe_ix ix_tup (pv 5) pe_int (fun _ _=>rfl)) pa_nil)))))
      (pss_one (ps_expr (pe_bm PySem.F.plainAttrs_list PySem.F.slot_list_append PySem.F.type_list_append mt_append (pv 4) (pa_cons (pe_ix ix_tup (pv 5) pe_int (fun _ _=>rfl)) pa_nil))))))))))))
   (pss_one (ps_ret (pe_tup (pa_cons (pv 2) (pa_cons (pv 3) (pa_cons (pv 4) pa_nil)))))))))),?_⟩
  try dsimp only[cx_noxK,cx_K]
  refine seq_let4 ?_
  intro u_4 u_3 u_2 u_1
  refine fun p0 np0=>?_
  have s1:=Same.upd (o:=.dT []) np0
  have q1:upd H p0 (.dT []) p0=some (.dT []):=upd_same
  generalize upd H p0 (.dT [])=H1 at s1 q1 ⊢
  refine⟨Nat.zero_le _,fun g ng=>?_⟩
  have s2:=Same.upd (o:=.lst []) ng
  have q2:upd H1 g (.lst []) g=some (.lst []):=upd_same
  generalize upd H1 g (.lst [])=H2 at s2 q2 ⊢
  have ngH:H g=none:=same_none s1 ng
  have hgl:g≠pp:=fun z=>by rw[z,hpp] at ngH;cases ngH
  have hlw:∀ w∈ws,∀ s∈w,1<=s.natAbs/\(s.natAbs:Int)<=L:=fun w hw s hs=>(hok w hw).1 s hs
  have s02:=s1.trans s2
  have pi0:PI H H2 L g pp p0 AS0 [] qs rows:=⟨s02,np0,LAt.nil (s2 _ _ q1),fun kvs e kv hkv=>(by rw[s2 _ _ q1] at e;injection e with e;injection e with e;rw[← e] at hkv;cases hkv),q2,s02 _ _ hpp,hro.same s02,iv0 L,(fun c hc=>by cases hc),by show (1:Int)<=1;decide⟩
  refine⟨_,rfl,pp,rfl,⟨_,SqL.of (s02 _ _ hpp)⟩,?_⟩
  refine for_list (K:=K) (a:=pp) (xs:=qs.map V.ref) (fun i σ H4=>∃ p X went v5 v6,σ=[some (.ref aW),some (.ref pp),some (.ref p),some (.int X.made),some (.ref g),v5,v6]/\PI H H4 L g pp p X went qs rows/\X=(rows.take i).foldl (nxA ws) AS0/\X.made<=1+ (i:Int)/\went.length<=i)
   ⟨p0,AS0,[],none,none,rfl,pi0,rfl,by show (1:Int)<=1+ 0;decide,Nat.le_refl _⟩ (fun i σ H4 _ ⟨_,_,_,_,_,_,h,_⟩=>SqL.of (h.sm _ _ hpp)) ?_ ?_
  ·rintro i v σ H5 hi ⟨p,X,went,v5,v6,rfl,h5,eX,hmd,hwn⟩
   have hil:i < qs.length:=by
    have:=(List.getElem?_eq_some_iff.mp hi).1
    rw[List.length_map] at this
    exact this
   have hqr:=hro.1
   have g1:qs[i]?=some (qs[i]'hil):=List.getElem?_eq_getElem hil
   have g2:rows[i]?=some (rows[i]'(by omega)):=List.getElem?_eq_getElem (by omega)
   rw[List.getElem?_map,g1] at hi
   obtain rfl:V.ref (qs[i]'hil)=v:=Option.some.inj hi
   generalize qs[i]'hil=q at g1
   generalize rows[i]'(by omega)=w at g2
   have hq:=h5.ro.2 i q w g1 g2
   have ok:okA L ws cm X w:=by rw[eX];exact right_at hri g2
   have hbd:=h5.iv.bd hL (by omega)
   obtain⟨st1,st2,st3,st4⟩:=h5.iv.step hlw h5.wm h5.m1 ok
   have eX':nxA ws X w=(rows.take (i+ 1)).foldl (nxA ws) AS0:=by rw[List.take_succ,g2,List.foldl_append,← eX];rfl
   have hwl:=wentA_len went w
   refine⟨fun σ' H'=>∃ p' v6,σ'=[some (.ref aW),some (.ref pp),some (.ref p'),some (.int (nxA ws X w).made),some (.ref g),some (.ref q),v6]/\PI H H' L g pp p' (nxA ws X w) (wentA went w) qs rows,?_,?_⟩
   ·cases w with
    | new c s n=>
      replace hq:H5 q=some (.tup [.str (tx [110,101,119]),.int c,.int s,.int n]):=hq
      obtain⟨o1,o2,o3,o4⟩:=ok
      have bc:=((h5.iv.st c).mp o1).1
      refine⟨_,rfl,q,_,_,_,rfl,rfl,SqT.of hq,rfl,rfl,_,rfl,?_⟩
      refine ite2 (fun _=>?_) (fun z=>absurd (decide_eq_true rfl) z)
      refine⟨_,rfl,_,_,rfl,rfl,?_⟩
      refine⟨_,rfl,_,rfl,q,_,_,_,rfl,rfl,SqT.of hq,rfl,_,rfl,q,_,_,_,rfl,rfl,SqT.of hq,rfl,_,rfl,q,_,_,_,rfl,rfl,SqT.of hq,rfl,?_⟩
      refine⟨p,X.S,c,s,n,rfl,h5.la,hbd,by omega,by omega,by omega,fun H6 b6 h6 n6=>?_⟩
      refine⟨p,_,rfl,h5.told b6 h6 n6 st1 st2 (Int.le_trans h5.m1 st3)⟩
    | rule wh path kk=>
      obtain⟨t,hq,ht,hpl⟩:=hq
      obtain⟨n,m,word,c,s,o,e1,e2,o1,o2,o3,o4,o5,o6,o7,o8,o9⟩:=id ok
      subst e1 e2
      have eN:nxA ws X (.rule n path m)=⟨X.made,X.st,learnS X.S c s o⟩:=by
       unfold nxA
       simp only[Int.toNat_natCast,List.getD_eq_getElem?_getD,o1,o2,o3,o4,Option.getD_some]
      have bc:=((h5.iv.st c).mp (o8 _ (List.mem_of_getElem? o3))).1
      have bo:=((h5.iv.st o).mp (o8 _ (List.mem_of_getElem? o4))).1
      have bs:=hlw _ (List.mem_of_getElem? o1) _ (List.mem_of_getElem? o2)
      obtain⟨ps,hps,hpt⟩:=hW.same h5.sm
      have hnl:n < ps.length:=by rw[hpt.1];exact(List.getElem?_eq_some_iff.mp o1).1
      have hpn:ps[n]?=some (ps[n]'hnl):=List.getElem?_eq_getElem hnl
      generalize ps[n]'hnl=tw at hpn
      have htw:=hpt.2 n tw word hpn o1
      refine⟨_,rfl,q,_,_,_,rfl,rfl,SqT.of hq,rfl,rfl,_,rfl,?_⟩
      refine ite2 (fun z=>?_) (fun _=>?_)
      ·have:=of_decide_eq_true z
       injection this with this
       exact absurd (tx_inj this) (by decide)
      refine⟨_,?_,fun _ _ z=>z⟩
      refine⟨_,rfl,q,_,_,_,rfl,rfl,SqT.of hq,rfl,rfl,_,rfl,?_⟩
      refine ite2 (fun _=>?_) (fun z=>absurd (decide_eq_true rfl) z)
      refine⟨_,rfl,_,rfl,q,_,_,_,rfl,rfl,SqT.of hq,rfl,aW,_,_,.ref tw,rfl,rfl,SqL.of hps,atI_nat (by rw[List.getElem?_map,hpn];rfl),?_⟩
      refine⟨_,rfl,_,rfl,q,_,_,_,rfl,rfl,SqT.of hq,rfl,_,rfl,q,_,_,_,rfl,rfl,SqT.of hq,rfl,t,_,_,.int c,rfl,rfl,SqT.of ht,atI_nat (ints_at o3),_,rfl,_,rfl,q,_,_,_,rfl,rfl,SqT.of hq,rfl,tw,_,_,.int s,rfl,rfl,SqT.of htw,atI_nat (ints_at o2),_,rfl,q,_,_,_,rfl,rfl,SqT.of hq,rfl,_,rfl,q,_,_,_,rfl,rfl,SqT.of hq,rfl,_,_,rfl,rfl,t,_,_,.int o,rfl,rfl,SqT.of ht,atI_nat (j:=m+ 1) (ints_at o4),?_⟩
      refine⟨p,X.S,c,s,o,rfl,h5.la,hbd,by omega,by omega,by omega,fun H6 b6 h6 n6=>?_⟩
      rw[eN] at st1 st2 st3 ⊢
      have hpq:∀{b xs},H5 b=some (.tup xs)->b≠p:=fun{b xs} e z=>by
       obtain⟨kv,e',_⟩:=h5.la
       rw[z,e'] at e;cases e
      exact⟨p,_,rfl,h5.told (X':=⟨X.made,X.st,learnS X.S c s o⟩) b6 h6 n6 st1 st2 (Int.le_trans h5.m1 st3)⟩
    | meet c s x y=>
      replace hq:H5 q=some (.tup [.str (tx [109,101,101,116]),.int c,.int s,.int x,.int y]):=hq
      obtain⟨o1,o2,o3⟩:=ok
      have bx:=((h5.iv.st x).mp (h5.iv.cl.b o2)).1
      refine⟨_,rfl,q,_,_,_,rfl,rfl,SqT.of hq,rfl,rfl,_,rfl,?_⟩
      refine ite2 (fun z=>?_) (fun _=>?_)
      ·have:=of_decide_eq_true z
       injection this with this
       exact absurd (tx_inj this) (by decide)
      refine⟨_,?_,fun _ _ z=>z⟩
      refine⟨_,rfl,q,_,_,_,rfl,rfl,SqT.of hq,rfl,rfl,_,rfl,?_⟩
      refine ite2 (fun z=>?_) (fun _=>?_)
      ·have:=of_decide_eq_true z
       injection this with this
       exact absurd (tx_inj this) (by decide)
      refine⟨_,rfl,_,rfl,q,_,_,_,rfl,rfl,SqT.of hq,rfl,_,rfl,q,_,_,_,rfl,rfl,SqT.of hq,rfl,?_⟩
      refine⟨p,X.S,x,y,rfl,h5.la,h5.iv.cl.sy,hbd,by omega,by omega,fun f H6 s6 nf h6 n6=>?_⟩
      refine⟨_,rfl,.inl ⟨rfl,_,SqL.of (s6 _ _ h5.hg)⟩,_,rfl,q,_,_,_,rfl,rfl,SqT.of (s6 _ _ hq),rfl,g,_,_,rfl,rfl,s6 _ _ h5.hg,?_,?_⟩
      ·rw[ints_len]
       exact Nat.lt_of_le_of_lt (show went.length<=2000 by omega) (by decide)
      refine⟨f,_,rfl,h5.met ngH hgl s6 nf h6 n6 st1 st2 (Int.le_trans h5.m1 st3)⟩
   rintro σ' H6 ⟨p',v6,rfl,h6⟩
   exact⟨p',nxA ws X w,wentA went w,_,_,rfl,h6,eX',by omega,by omega⟩
  ·rintro σ H4 ⟨p,X,went,v5,v6,rfl,h4,eX,hmd,hwn⟩
   rw[List.length_map,hro.1] at hmd
   refine⟨_,rfl,_,rfl,_,rfl,by show 3<=sizeLine;decide,fun t nt=>?_⟩
   have s5:=Same.upd (o:=.tup [.ref p,.int X.made,.ref g]) nt
   exact k t p g X went _ (h4.sm.trans s5) upd_same (h4.la.same s5) (h4.iv.bd hL (by omega)) (s5 _ _ h4.hg) h4.iv h4.m1 (by omega)
theorem pick_at {st:List Int}(z:Int)(h:0 < st.length):∃ c,c∈st/\atI (intV st) (z % ((intV st).length:Int))=some (.int c):=by
 have b1:=Int.emod_nonneg z (show (st.length:Int)≠0 by omega)
 have b2:=Int.emod_lt_of_pos z (show (0:Int) < (st.length:Int) by omega)
 have ho:st[(z % (st.length:Int)).toNat]?=some (st[(z % (st.length:Int)).toNat]'(by omega)):=List.getElem?_eq_getElem (by omega)
 generalize st[(z % (st.length:Int)).toNat]'(by omega)=o at ho
 refine⟨o,List.mem_of_getElem? ho,?_⟩
 rw[ints_len,← Int.toNat_of_nonneg b1]
 exact atI_nat (ints_at ho)
theorem len_pos {st:List Int}(h:0 < st.length):(0:Int) < ((intV st).length:Int):=by rw[ints_len];omega
theorem str_ne {a b:List Nat}(h:a≠b)(z:decide (V.str (tx a)=V.str (tx b))=true):False:=by
 have:=of_decide_eq_true z
 injection this with this
 exact h (tx_inj this)
def spRuled:Sp:=fun vs H Q _=>∃(p aS aW:Addr) (L:Int) (ws:List (List Int)) (X:AS) (st:List Int) (low:Nat) (z:Int),vs=[.ref p,.ref aS,.ref aW,.int low,.int z]/\LAt H p X.S/\LBd X.S/\Cl X/\H aS=some (.lst (intV st))/\(∀ c∈st,X.st c=true)/\1<=st.length/\st.length<=4000/\WordsAt H aW ws/\WsOk L ws/\ws.length<=900/\low < ws.length/\(∀ H',Same H H'->Q .non H')/\
 ∀(q:Addr) (n m:Nat) (path word:List Int) H',Same H H'->RowAt H' q (.rule n path m)->ws[n]?=some word->path.length=word.length+ 1->m < word.length->Q (.ref q) H'
theorem ok__law_ruled (T:Txt K mg A):FnOk P w K mg base CX0 3 A.f__law_ruled A.d__law_ruled ["_law_known","_law_stand","_law_words","_law_low","_law_number"] spRuled:=by
 have G__law_round:FnOk P w K mg base CX0 2 A.f__law_round A.d__law_round ["_law_known","_law_made","_law_which","_law_word_here","_law_room","_law_number"] spRound:=ok__law_round T
 refine T._law_ruled.F.ok sc__law_ruled (fun vs H Q E h=>?_) (fun cdv AA outer s H vs Q E hr h=>?_)
 ·obtain⟨p,aS,aW,L,ws,X,st,low,z,rfl,_⟩:=h
  rfl
 ·obtain⟨p,aS,aW,L,ws,X,st,low,z,rfl,h,hb,hX,hS,hSt,hs1,hs2,hW,hok,hwl,hlow,k0,k1⟩:=h
  refine⟨_,(pss_cons (ps_set (i:=5) sc__law_ruled.nd rfl (Or.inl rfl) (pe_op op_sub (pe_callB call_len_seq rfl T.z_len PySem.boot_len (pa_cons (pv 2) pa_nil)) (pv 3)))
   (pss_cons (ps_for PassesOwn.never rfl (pi_range1 rfl T.z_range (pa_cons (pe_op op_mul (pe_callB call_len_seq rfl T.z_len PySem.boot_len (pa_cons (pv 1) pa_nil)) (pv 5)) pa_nil)) (pg_name (i:=6) sc__law_ruled.nd rfl (Or.inl rfl))
    (pss_cons (ps_set (i:=7) sc__law_ruled.nd rfl (Or.inl rfl) (pe_op op_add (pv 3) (pe_op op_mod (pe_op op_add (pv 4) (pv 6)) (pv 5))))
    (pss_cons (ps_set (i:=8) sc__law_ruled.nd rfl (Or.inl rfl) (pe_ix ix_list (pv 1) (pe_op op_mod (pe_op op_fdiv (pe_op op_add (pv 4) (pv 6)) (pv 5)) (pe_callB call_len_seq rfl T.z_len PySem.boot_len (pa_cons (pv 1) pa_nil))) (fun _ _=>rfl)))
    (pss_cons (ps_set (i:=9) sc__law_ruled.nd rfl (Or.inl rfl) (pe_call (G__law_round) (hr.mono (by decide)) rfl T._law_round.m T._law_round.F.kp T._law_round.b .nil pass0 (pa_cons (pv 0) (pa_cons pe_int (pa_cons (pv 7) (pa_cons (pe_ix ix_list (pv 2) (pv 7) (fun _ _=>rfl)) (pa_cons (pv 8) (pa_cons (pe_op op_fdiv (pv 4) pe_int) pa_nil))))))))
    (pss_one (ps_if (pt_cmpR op_eq (pe_ix ix_tup (pv 9) pe_int (fun _ _=>rfl)) (pe_strX (l:=[114,117,108,101]) rfl) (nomark _))
     (pss_one (ps_ret (pv 9)))
     pss_nil))))))
   (pss_one (ps_ret pe_non)))),?_⟩
  try dsimp only[cx_noxK,cx_K]
  refine seq_let2 ?_
  intro u_2 u_1
  obtain⟨ps,hps,hpt⟩:=id hW
  have hpl:ps.length=ws.length:=hpt.1
  have hql:((ps.map V.ref).length:Int)=(ws.length:Int):=by rw[List.length_map,hpl]
  refine⟨_,rfl,aW,_,rfl,.inl (SqL.of hps),_,rfl,_,_,rfl,rfl,?_⟩
  have eN:(fun(i j:Int)=>V.int (i - j)) ((ps.map V.ref).length:Int) (low:Int)=V.int ((ws.length - low:Nat):Int):=by
   show V.int (((ps.map V.ref).length:Int) - (low:Int))=_
   rw[hql];congr 1;omega
  rw[eN]
  generalize hm:ws.length - low=m
  have hm0:0 < m:=by omega
  have hb1:st.length* m<=4000* 900:=Nat.mul_le_mul hs2 (by omega)
  refine⟨_,rfl,aS,_,rfl,.inl (SqL.of hS),_,rfl,_,_,rfl,rfl,.inl ⟨by rw[ints_len];omega,by rw[ints_len];omega⟩,((st.length* m:Nat):Int),?_,by omega,by omega,?_⟩
  ·rw[ints_len];rfl
  rw[Int.toNat_natCast]
  refine for_range (lo:=0) (n:=st.length* m) (fun i σ H2=>∃ v6 v7 v8 v9,σ=[some (.ref p),some (.ref aS),some (.ref aW),some (.int low),some (.int z),some (.int (m:Int)),v6,v7,v8,v9]/\Same H H2)
   ⟨none,none,none,none,rfl,Same.refl H⟩ ?_ ?_
  ·rintro i σ H2 hi ⟨v6,v7,v8,v9,rfl,s2⟩
   have c1:=Int.emod_nonneg (z+ (0+ (i:Int))) (show (m:Int)≠0 by omega)
   have c2:=Int.emod_lt_of_pos (z+ (0+ (i:Int))) (show (0:Int) < (m:Int) by omega)
   obtain⟨n,hn⟩:∃ n:Nat,(low:Int)+ (z+ (0+ (i:Int))) % (m:Int)=(n:Int):=⟨((low:Int)+ (z+ (0+ (i:Int))) % (m:Int)).toNat,by omega⟩
   have hnl:n < ws.length:=by omega
   refine⟨_,rfl,_,rfl,_,rfl,_,_,rfl,rfl,_,rfl,_,_,rfl,rfl,(by show (0:Int) < (m:Int);omega),_,_,rfl,rfl,?_⟩
   have eN:(fun(i j:Int)=>V.int (i+ j)) (low:Int) ((z+ (0+ (i:Int))) % (m:Int))=V.int (n:Int):=by
    show V.int ((low:Int)+ (z+ (0+ (i:Int))) % (m:Int))=_
    rw[hn]
   rw[eN]
   obtain⟨rm,hrm,hat⟩:=pick_at ((z+ (0+ (i:Int))) / (m:Int)) hs1
   refine⟨_,rfl,_,rfl,_,rfl,_,_,rfl,rfl,_,rfl,_,_,rfl,rfl,⟨by omega,by omega⟩,_,rfl,aS,_,rfl,.inl (SqL.of (s2 _ _ hS)),_,_,rfl,rfl,len_pos hs1,aS,_,_,.int rm,rfl,rfl,SqL.of (s2 _ _ hS),hat,?_⟩
   have ht:ps[n]?=some (ps[n]'(by omega)):=List.getElem?_eq_getElem (by omega)
   have hw:ws[n]?=some (ws[n]'hnl):=List.getElem?_eq_getElem hnl
   generalize ps[n]'(by omega)=t at ht
   generalize ws[n]'hnl=word at hw
   have hwt:=hpt.2 n t word ht hw
   obtain⟨o1,o2,o3⟩:=hok word (List.mem_of_getElem? hw)
   refine⟨_,rfl,_,rfl,_,rfl,_,rfl,aW,_,_,.ref t,rfl,rfl,SqL.of (s2 _ _ hps),atI_nat (by rw[List.getElem?_map,ht];rfl),_,rfl,_,rfl,_,_,rfl,rfl,⟨by decide,by decide⟩,?_⟩
   refine⟨p,t,L,ws,(n:Int)+ 1,⟨0,X.st,X.S⟩,n,word,rm,_,rfl,h.same s2,hb,⟨hX.sy,hX.a⟩,hw,s2 _ _ hwt,o1,o2,o3,hSt rm hrm,.inl (by omega),fun q w H3 s3 hq ok=>?_⟩
   have s03:=s2.trans s3
   cases w with
   | new c s n=>
     replace hq:H3 q=some (.tup [.str (tx [110,101,119]),.int c,.int s,.int n]):=hq
     refine⟨_,rfl,q,_,_,_,rfl,rfl,SqT.of hq,rfl,rfl,_,rfl,?_⟩
     exact ite2 (fun z=>(str_ne (by decide) z).elim) (fun _=>⟨_,_,_,_,rfl,s03⟩)
   | rule wh path kk=>
     obtain⟨t2,hq1,hq2,hq3⟩:=id hq
     obtain⟨n',m',word',c,s,o,e1,e2,o1,o2,o3,o4,o5,o6,o7,o8,o9⟩:=ok
     subst e1 e2
     refine⟨_,rfl,q,_,_,_,rfl,rfl,SqT.of hq1,rfl,rfl,_,rfl,?_⟩
     refine ite2 (fun _=>?_) (fun z=>absurd (decide_eq_true rfl) z)
     exact⟨_,rfl,k1 q n' m' path word' _ s03 hq o1 o5 (List.getElem?_eq_some_iff.mp o2).1⟩
   | meet c s x y=>
     replace hq:H3 q=some (.tup [.str (tx [109,101,101,116]),.int c,.int s,.int x,.int y]):=hq
     refine⟨_,rfl,q,_,_,_,rfl,rfl,SqT.of hq,rfl,rfl,_,rfl,?_⟩
     exact ite2 (fun z=>(str_ne (by decide) z).elim) (fun _=>⟨_,_,_,_,rfl,s03⟩)
  ·rintro σ H2 ⟨v6,v7,v8,v9,rfl,s2⟩
   exact k0 _ s2
theorem cut_some (ns:List Int)(lo hi:Option Int):∃ l:List Int,cutV (intV ns) lo hi=intV l/\l.length<=ns.length:=⟨_,cut_ints ns lo hi,by rw[List.length_take,List.length_drop];omega⟩
theorem cut_take (ns:List Int)(j:Nat):cutV (intV ns) none (some (j:Int))=intV (ns.take j):=by
 rw[cut_ints,HT.sIx_nat]
 show intV ((List.drop 0 ns).take (min j ns.length - 0))=_
 rw[List.drop_zero,Nat.sub_zero]
 by_cases h:j<=ns.length
 ·rw[Nat.min_eq_left h]
 ·rw[Nat.min_eq_right (by omega),List.take_length,List.take_of_length_le (by omega)]
theorem cut_drop (ns:List Int)(j:Nat)(h:j<=ns.length):cutV (intV ns) (some (j:Int)) none=intV (ns.drop j):=by
 rw[cut_ints,HT.sIx_nat,Nat.min_eq_left h]
 show intV ((ns.drop j).take (ns.length - j))=_
 rw[List.take_of_length_le (by rw[List.length_drop];exact Nat.le_refl _)]
theorem szI {n:Nat}(h:n<=100000):n<=sizeLine:=Nat.le_trans h (by decide)
def spOddRule:Sp:=fun vs H Q _=>∃(q aW aS:Addr) (ws:List (List Int)) (n m:Nat) (path word st:List Int) (lost z:Int),vs=[.ref q,.ref aW,.ref aS,.int lost,.int z]/\RowAt H q (.rule n path m)/\WordsAt H aW ws/\ws[n]?=some word/\path.length=word.length+ 1/\word.length<=900/\H aS=some (.lst (intV st))/\1<=st.length/\∀ q' w' H',Same H H'->RowAt H' q' w'->Q (.ref q') H'
theorem ok__law_odd_rule (T:Txt K mg A):FnOk P w K mg base CX0 1 A.f__law_odd_rule A.d__law_odd_rule ["_law_row_here","_law_words","_law_stand","_law_lost","_law_number"] spOddRule:=by
 refine T._law_odd_rule.F.ok sc__law_odd_rule (fun vs H Q E h=>?_) (fun cdv AA outer s H vs Q E hr h=>?_)
 ·obtain⟨q,aW,aS,ws,n,m,path,word,st,lost,z,rfl,_⟩:=h
  rfl
 ·obtain⟨q,aW,aS,ws,n,m,path,word,st,lost,z,rfl,hq,hW,hw,hpl,hwl,hS,hs1,k⟩:=h
  refine⟨_,(pss_cons (ps_asg (pe_slice sl_tupTT (pv 0) (po_some pe_int) po_none) (pg_tup rfl (pgs_cons (pg_name (i:=5) sc__law_odd_rule.nd rfl (Or.inl rfl)) (pgs_cons (pg_name (i:=6) sc__law_odd_rule.nd rfl (Or.inl rfl)) (pgs_cons (pg_name (i:=7) sc__law_odd_rule.nd rfl (Or.inl rfl)) pgs_nil)))))
   (pss_cons (ps_set (i:=8) sc__law_odd_rule.nd rfl (Or.inl rfl) (pe_callB call_len_seq rfl T.z_len PySem.boot_len (pa_cons (pe_ix ix_list (pv 1) (pv 5) (fun _ _=>rfl)) pa_nil)))
   (pss_cons (ps_if (pt_cmpR op_eq (pe_op op_mod (pv 4) pe_int) pe_int (nomark _))
    (pss_one (ps_ret (pe_tup (pa_cons (pe_strX (l:=[114,117,108,101]) rfl) (pa_cons (pe_op op_sub (pv 5) (pe_callB call_len_seq rfl T.z_len PySem.boot_len (pa_cons (pv 1) pa_nil))) (pa_cons (pv 6) (pa_cons (pv 7) pa_nil)))))))
    pss_nil)
   (pss_cons (ps_if (pt_cmpR op_eq (pe_op op_mod (pv 4) pe_int) pe_int (nomark _))
    (pss_one (ps_ret (pe_tup (pa_cons (pe_strX (l:=[114,117,108,101]) rfl) (pa_cons (pv 5) (pa_cons (pe_op op_catTT (pv 6) (pe_tup (pa_cons (pe_ix ix_tup (pv 6) pe_int (fun _ _=>rfl)) pa_nil))) (pa_cons (pv 7) pa_nil)))))))
    pss_nil)
   (pss_cons (ps_if (pt_cmpR op_eq (pe_op op_mod (pv 4) pe_int) pe_int (nomark _))
    (pss_one (ps_ret (pe_tup (pa_cons (pe_strX (l:=[114,117,108,101]) rfl) (pa_cons (pv 5) (pa_cons (pe_op op_catTT (pe_slice sl_tupTT (pv 6) po_none (po_some (pe_un un_neg pe_int))) (pe_tup (pa_cons (pe_ix ix_list (pv 2) (pe_op op_mod (pe_op op_fdiv (pv 4) pe_int) (pe_callB call_len_seq rfl T.z_len PySem.boot_len (pa_cons (pv 2) pa_nil))) (fun _ _=>rfl)) pa_nil))) (pa_cons (pe_op op_sub (pv 8) pe_int) pa_nil)))))))
    pss_nil)
   (pss_cons (ps_if (pt_cmpR op_eq (pe_op op_mod (pv 4) pe_int) pe_int (nomark _))
    (pss_one (ps_ret (pe_tup (pa_cons (pe_strX (l:=[114,117,108,101]) rfl) (pa_cons (pv 5) (pa_cons (pe_op op_repT (pe_tup (pa_cons (pv 3) pa_nil)) (pe_op op_add (pv 8) pe_int)) (pa_cons (pv 7) pa_nil)))))))
    pss_nil)
   (pss_cons (ps_if (pt_cmpR op_eq (pe_op op_mod (pv 4) pe_int) pe_int (nomark _))
    (pss_one (ps_ret (pe_tup (pa_cons (pe_strX (l:=[114,117,108,101]) rfl) (pa_cons (pv 5) (pa_cons (pv 6) (pa_cons (pe_op op_sub (pv 7) (pv 8)) pa_nil)))))))
    pss_nil)
   (pss_cons (ps_set (i:=9) sc__law_odd_rule.nd rfl (Or.inl rfl) (pe_op op_mod (pe_op op_fdiv (pv 4) pe_int) (pe_callB call_len_seq rfl T.z_len PySem.boot_len (pa_cons (pv 6) pa_nil))))
   (pss_one (ps_ret (pe_tup (pa_cons (pe_strX (l:=[114,117,108,101]) rfl) (pa_cons (pv 5) (pa_cons (pe_op op_catTT (pe_op op_catTT (pe_slice sl_tupTT (pv 6) po_none (po_some (pv 9))) (pe_tup (pa_cons (pe_ix ix_list (pv 2) (pe_op op_mod (pe_op op_fdiv (pv 4) pe_int) (pe_callB call_len_seq rfl T.z_len PySem.boot_len (pa_cons (pv 2) pa_nil))) (fun _ _=>rfl)) pa_nil))) (pe_slice sl_tupTT (pv 6) (po_some (pe_op op_add (pv 9) pe_int)) po_none)) (pa_cons (pv 7) pa_nil))))))))))))))),?_⟩
  try dsimp only[cx_noxK,cx_K]
  refine seq_let8 ?_
  intro u_8 u_7 u_6 u_5 u_4 u_3 u_2 u_1
  obtain⟨t,hq1,hq2,hq3⟩:=hq
  obtain⟨ps,hps,hpt⟩:=id hW
  refine⟨_,rfl,_,rfl,q,_,rfl,hq1,fun q3 H1 s1 e1=>?_⟩
  replace e1:H1 q3=some (.tup [.int n,.ref t,.int m]):=e1
  refine⟨q3,_,rfl,SqT.of e1,rfl,_,_,rfl,_,_,rfl,_,_,rfl,rfl,?_⟩
  have ht:ps[n]?=some (ps[n]'(by rw[hpt.1];exact(List.getElem?_eq_some_iff.mp hw).1)):=List.getElem?_eq_getElem _
  generalize ps[n]'(by rw[hpt.1];exact(List.getElem?_eq_some_iff.mp hw).1)=tw at ht
  have htw:=s1 _ _ (hpt.2 n tw word ht hw)
  replace hq2:=s1 _ _ hq2
  replace hS:=s1 _ _ hS
  replace hps:=s1 _ _ hps
  refine⟨_,rfl,_,rfl,aW,_,_,.ref tw,rfl,rfl,SqL.of hps,atI_nat (by rw[List.getElem?_map,ht];rfl),tw,_,rfl,.inr (SqT.of htw),?_⟩
  have fin:∀{H2:Hp} {t' q':Addr} {path':List Int} {a b:Int},Same H1 H2->H2 t'=some (.tup (intV path'))->path'.length<=1000->H2 q'=none->Q (.ref q') (upd H2 q' (.tup [.str (tx [114,117,108,101]),.int a,.ref t',.int b])):=fun{H2 t' q' path' a b} s2 e2 hl nq=>k q' (.rule a path' b) _ ((s1.trans s2).trans (Same.upd nq)) ⟨t',upd_same,Same.upd nq _ _ e2,hl⟩
  have sz4:4<=sizeLine:=by decide
  refine⟨_,rfl,_,_,rfl,rfl,(by show (0:Int) < 6;decide),rfl,_,rfl,?_⟩
  refine ite2 (fun _=>?_) (fun _=>?_)
  ·exact⟨_,rfl,_,rfl,aW,_,rfl,.inl (SqL.of hps),_,_,rfl,rfl,_,rfl,_,rfl,sz4,fun q' nq=>fin (Same.refl _) hq2 hq3 nq⟩
  refine⟨_,rfl,_,_,rfl,rfl,(by show (0:Int) < 6;decide),rfl,_,rfl,?_⟩
  refine ite2 (fun _=>?_) (fun _=>?_)
  ·match path,hpl,hq2,hq3 with
   | c :: r,hpl,hq2,hq3=>
     refine⟨_,rfl,_,rfl,_,rfl,t,_,_,.int c,rfl,rfl,SqT.of hq2,atI_nat (j:=0) rfl,by show 1<=sizeLine;decide,fun u nu=>?_⟩
     refine⟨t,u,_,_,rfl,rfl,Same.upd nu _ _ hq2,upd_same,szI (by rw[ints_len];show (c :: r).length+ 1<=_;omega),fun p2 H3 s3 e3=>?_⟩
     refine⟨_,rfl,sz4,fun q' nq=>fin (path':=(c :: r)++[c]) ((Same.upd nu).trans s3) (by rw[ints_app];exact e3) (by rw[List.length_append];simp;simp at hpl;omega) nq⟩
  refine⟨_,rfl,_,_,rfl,rfl,(by show (0:Int) < 6;decide),rfl,_,rfl,?_⟩
  refine ite2 (fun _=>?_) (fun _=>?_)
  ·refine⟨_,rfl,_,rfl,_,rfl,_,rfl,t,_,rfl,hq2,fun p2 H2 s2 e2=>?_⟩
   obtain⟨l2,el2,hl2⟩:=cut_some path none (some (-1))
   rw[el2] at e2
   obtain⟨c,_,hat⟩:=pick_at (z / 8) hs1
   refine⟨_,rfl,_,rfl,_,_,rfl,rfl,⟨by decide,by decide⟩,_,rfl,aS,_,rfl,.inl (SqL.of (s2 _ _ hS)),_,_,rfl,rfl,len_pos hs1,aS,_,_,.int c,rfl,rfl,SqL.of (s2 _ _ hS),hat,by show 1<=sizeLine;decide,fun u nu=>?_⟩
   refine⟨p2,u,_,_,rfl,rfl,Same.upd nu _ _ e2,upd_same,szI (by rw[ints_len];show l2.length+ 1<=_;omega),fun p3 H3 s3 e3=>?_⟩
   exact⟨_,rfl,_,_,rfl,rfl,sz4,fun q' nq=>fin (path':=l2++[c]) ((s2.trans (Same.upd nu)).trans s3) (by rw[ints_app];exact e3) (by rw[List.length_append];simp;omega) nq⟩
  refine⟨_,rfl,_,_,rfl,rfl,(by show (0:Int) < 6;decide),rfl,_,rfl,?_⟩
  refine ite2 (fun _=>?_) (fun _=>?_)
  ·refine⟨_,rfl,_,rfl,by show 1<=sizeLine;decide,fun u nu=>?_⟩
   refine⟨_,rfl,_,_,rfl,rfl,u,_,_,rfl,rfl,upd_same,?_,?_,?_,fun p3 H3 s3 e3=>?_⟩
   ·rw[ints_len];omega
   ·rw[ints_len];omega
   ·rw[ints_len];exact szI (by show 1* _<=_;omega)
   ·rw[rep1] at e3
    exact⟨_,rfl,sz4,fun q' nq=>fin ((Same.upd nu).trans s3) e3 (by rw[List.length_replicate,ints_len];omega) nq⟩
  refine⟨_,rfl,_,_,rfl,rfl,(by show (0:Int) < 6;decide),rfl,_,rfl,?_⟩
  refine ite2 (fun _=>?_) (fun _=>?_)
  ·exact⟨_,rfl,_,rfl,_,rfl,_,rfl,_,_,rfl,rfl,sz4,fun q' nq=>fin (Same.refl _) hq2 hq3 nq⟩
  refine⟨_,rfl,_,_,rfl,rfl,⟨by decide,by decide⟩,_,rfl,t,_,rfl,.inr (SqT.of hq2),_,_,rfl,rfl,len_pos (by omega),?_⟩
  refine⟨_,rfl,_,rfl,_,rfl,_,rfl,t,_,rfl,hq2,fun p2 H2 s2 e2=>?_⟩
  have b1:=Int.emod_nonneg (z / 8) (show (path.length:Int)≠0 by omega)
  have b2:=Int.emod_lt_of_pos (z / 8) (show (0:Int) < (path.length:Int) by omega)
  obtain⟨j,hj⟩:∃ j:Nat,z / 8 % ((intV path).length:Int)=(j:Int):=⟨(z / 8 % (path.length:Int)).toNat,by rw[ints_len];omega⟩
  have hjl:j < path.length:=by rw[ints_len] at hj;omega
  rw[hj,cut_take] at e2
  obtain⟨c,_,hat⟩:=pick_at (z / 256) hs1
  refine⟨_,rfl,_,rfl,_,_,rfl,rfl,⟨by decide,by decide⟩,_,rfl,aS,_,rfl,.inl (SqL.of (s2 _ _ hS)),_,_,rfl,rfl,len_pos hs1,aS,_,_,.int c,rfl,rfl,SqL.of (s2 _ _ hS),hat,by show 1<=sizeLine;decide,fun u nu=>?_⟩
  refine⟨p2,u,_,_,rfl,rfl,Same.upd nu _ _ e2,upd_same,szI (by rw[ints_len,List.length_take];show _+ 1<=_;omega),fun p3 H3 s3 e3=>?_⟩
  have s13:=(s2.trans (Same.upd nu)).trans s3
  refine⟨_,rfl,_,rfl,_,_,rfl,rfl,_,rfl,t,_,rfl,s13 _ _ hq2,fun p4 H4 s4 e4=>?_⟩
  rw[hj,show ((j:Int)+ 1)=((j+ 1:Nat):Int) by omega,cut_drop path (j+ 1) (by omega)] at e4
  refine⟨p3,p4,_,_,rfl,rfl,s4 _ _ e3,e4,szI (by rw[List.length_append,ints_len,ints_len,List.length_take,List.length_drop];show _+ 1+ _<=_;omega),fun p5 H5 s5 e5=>?_⟩
  refine⟨_,rfl,sz4,fun q' nq=>fin (path':=(path.take j++[c])++path.drop (j+ 1)) ((s13.trans s4).trans s5) (by rw[ints_app,ints_app];exact e5) ?_ nq⟩
  rw[List.length_append,List.length_append,List.length_take,List.length_drop]
  simp
  omega
theorem pick_ref {ps:List Addr}(z:Int)(h:0 < ps.length):∃(i:Nat) (p:Addr),ps[i]?=some p/\atI (ps.map V.ref) (z % ((ps.map V.ref).length:Int))=some (.ref p):=by
 have b1:=Int.emod_nonneg z (show (ps.length:Int)≠0 by omega)
 have b2:=Int.emod_lt_of_pos z (show (0:Int) < (ps.length:Int) by omega)
 have ho:ps[(z % (ps.length:Int)).toNat]?=some (ps[(z % (ps.length:Int)).toNat]'(by omega)):=List.getElem?_eq_getElem (by omega)
 generalize ps[(z % (ps.length:Int)).toNat]'(by omega)=o at ho
 refine⟨_,o,ho,?_⟩
 rw[List.length_map,← Int.toNat_of_nonneg b1]
 exact atI_nat (by rw[List.getElem?_map,ho];rfl)
def spOddMeet:Sp:=fun vs H Q _=>∃(p aS:Addr) (S:Rel3) (st:List Int) (z:Int),vs=[.ref p,.ref aS,.int z]/\LAt H p S/\LBd S/\H aS=some (.lst (intV st))/\1<=st.length/\∀ q' w' H',Same H H'->RowAt H' q' w'->Q (.ref q') H'
theorem ok__law_odd_meet (T:Txt K mg A):FnOk P w K mg base CX0 2 A.f__law_odd_meet A.d__law_odd_meet ["_law_known","_law_stand","_law_number"] spOddMeet:=by
 have G__law_clash:FnOk P w K mg base CX0 1 A.f__law_clash A.d__law_clash ["_law_known"] spClash:=ok__law_clash T
 refine T._law_odd_meet.F.ok sc__law_odd_meet (fun vs H Q E h=>?_) (fun cdv AA outer s H vs Q E hr h=>?_)
 ·obtain⟨p,aS,S,st,z,rfl,_⟩:=h
  rfl
 ·obtain⟨p,aS,S,st,z,rfl,h,hb,hS,hs1,k⟩:=h
  have hu2:=hu_of hr
  refine⟨_,(pss_cons (ps_set (i:=3) sc__law_odd_meet.nd rfl (Or.inl rfl) (pe_callTy (call_list_dT rfl) rfl T.z_list PyProof.Rows.boot_list (pa_cons (pv 0) pa_nil)))
   (pss_cons (ps_if (pt_cmpR op_eq (pe_callB call_len_seq rfl T.z_len PySem.boot_len (pa_cons (pv 3) pa_nil)) pe_int (nomark _))
    (pss_one (ps_ret (pe_tup (pa_cons (pe_strX (l:=[109,101,101,116]) rfl) (pa_cons pe_int (pa_cons pe_int (pa_cons pe_int (pa_cons pe_int pa_nil))))))))
    pss_nil)
   (pss_cons (ps_set (i:=4) sc__law_odd_meet.nd rfl (Or.inl rfl) (pe_call (G__law_clash) (hr.mono (by decide)) rfl T._law_clash.m T._law_clash.F.kp T._law_clash.b .nil pass0 (pa_cons (pv 0) pa_nil)))
   (pss_cons (ps_cut (ps_if (PW.pt (pw_and (pt_cmpR op_notN (pv 4) pe_non (nomark _)) (pw_and1 (pt_cmpR op_eq (pe_op op_mod (pv 2) pe_int) pe_int (nomark _)))))
    (pss_one (ps_ret (pe_op op_catTT (pe_slice sl_tupTT (pv 4) po_none (po_some pe_int)) (pe_tup (pa_cons (pe_ix ix_tup (pv 4) pe_int (fun _ _=>rfl)) (pa_cons (pe_ix ix_tup (pv 4) pe_int (fun _ _=>rfl)) pa_nil))))))
    pss_nil))
   (pss_cons (ps_set (i:=5) sc__law_odd_meet.nd rfl (Or.inl rfl) (pe_ix ix_list (pv 3) (pe_op op_mod (pe_op op_fdiv (pv 2) pe_int) (pe_callB call_len_seq rfl T.z_len PySem.boot_len (pa_cons (pv 3) pa_nil))) (fun _ _=>rfl)))
   (pss_cons (ps_set (i:=6) sc__law_odd_meet.nd rfl (Or.inl rfl) (pe_ix ix_list (pv 1) (pe_op op_mod (pe_op op_fdiv (pv 2) pe_int) (pe_callB call_len_seq rfl T.z_len PySem.boot_len (pa_cons (pv 1) pa_nil))) (fun _ _=>rfl)))
   (pss_cons (ps_set (i:=7) sc__law_odd_meet.nd rfl (Or.inl rfl) (pe_ix ix_list (pe_dget hu2 (pv 0) (pv 5) (fun _ _=>rfl)) pe_int (fun _ _=>rfl)))
   (pss_cons (ps_if (pt_cmpR op_eq (pe_op op_mod (pv 2) pe_int) pe_int (nomark _))
    (pss_one (ps_ret (pe_tup (pa_cons (pe_strX (l:=[109,101,101,116]) rfl) (pa_cons (pe_ix ix_tup (pv 5) pe_int (fun _ _=>rfl)) (pa_cons (pe_ix ix_tup (pv 5) pe_int (fun _ _=>rfl)) (pa_cons (pv 7) (pa_cons (pv 7) pa_nil))))))))
    pss_nil)
   (pss_one (ps_ret (pe_tup (pa_cons (pe_strX (l:=[109,101,101,116]) rfl) (pa_cons (pe_ix ix_tup (pv 5) pe_int (fun _ _=>rfl)) (pa_cons (pe_ix ix_tup (pv 5) pe_int (fun _ _=>rfl)) (pa_cons (pe_callB (call_min2 rfl) rfl T.z_min PyProof.Rows.boot_min (pa_cons (pv 7) (pa_cons (pv 6) pa_nil))) (pa_cons (pe_callB (call_max2 rfl) rfl T.z_max PyProof.Rows.boot_max (pa_cons (pv 7) (pa_cons (pv 6) pa_nil))) pa_nil)))))))))))))))),?_⟩
  try dsimp only[cx_noxK,cx_K]
  refine seq_let8 ?_
  intro u_8 u_7 u_6 u_5 u_4 u_3 u_2 u_1
  obtain⟨kvs,hk,_⟩:=id h
  refine⟨_,rfl,p,kvs,rfl,hk,fun l ps nl hpl hps=>?_⟩
  have s1:=Same.upd (o:=.lst (ps.map V.ref)) nl
  have q1:upd H l (.lst (ps.map V.ref)) l=some (.lst (ps.map V.ref)):=upd_same
  generalize upd H l (.lst (ps.map V.ref))=H1 at s1 q1 ⊢
  have h1:=h.same s1
  refine⟨_,rfl,l,_,rfl,.inl (SqL.of q1),rfl,_,rfl,?_⟩
  have sz5:5<=sizeLine:=by decide
  refine ite2 (fun w=>?_) (fun w=>?_)
  ·exact⟨sz5,fun q' nq=>k q' (.meet 0 1 0 0) _ (s1.trans (Same.upd nq)) upd_same⟩
  have hn:0 < ps.length:=by
   refine Nat.pos_of_ne_zero fun e=>w (decide_eq_true ?_)
   show V.int ((ps.map V.ref).length:Int)=V.int 0
   rw[List.length_map,e];rfl
  have rest:∀(v4:V) (H2:Hp),Same H1 H2->u_4 { nx:=fun x H'=>Q V.non H',rt:=Q } [some (.ref p),some (.ref aS),some (.int z),some (.ref l),some v4,none,none,none] H2:=fun v4 H2 s2=>by
   have s02:=s1.trans s2
   obtain⟨i,kp,hi,hat⟩:=pick_ref (z / 4) hn
   obtain⟨o,_,hao⟩:=pick_at (z / 2048) hs1
   have hil:i < kvs.length:=by rw[← hpl];exact(List.getElem?_eq_some_iff.mp hi).1
   have hkv:kvs[i]?=some (kvs[i]'hil):=List.getElem?_eq_getElem hil
   generalize kvs[i]'hil=kv at hkv
   obtain⟨c,s,q,ls,ek,ev,hq,hne,_,_⟩:=h.at hk hkv
   have hkp:=hps i kp kv hi hkv
   rw[ek] at hkp
   replace hkp:H kp=some (.tup [.int c,.int s]):=hkp
   have hkp2:=s02 _ _ hkp
   have hS2:=s02 _ _ hS
   have hq2:=s02 _ _ hq
   have gv:valV kvs [Sum.inl c,Sum.inl s]=some (.ref q):=by
    obtain⟨kvs',e1,e2,_⟩:=h
    rw[hk] at e1
    obtain rfl:kvs=kvs':=by injection e1 with e1;injection e1
    have:=valV_mem e2 (List.mem_of_getElem? hkv)
    rw[ek,ev] at this
    exact this
   have g:DGet H2 p (.ref kp) (some (.ref q)):=by rw[← gv];exact DGet.t (k:=[Sum.inl c,Sum.inl s]) (s02 _ _ hk) hkp2
   obtain⟨e,he⟩:∃ e,atI (intV ls) 0=some (.int e):=by
    cases ls with
    | nil=>exact absurd rfl hne
    | cons e r=>exact⟨e,atI_nat (j:=0) rfl⟩
   refine⟨_,rfl,_,rfl,_,_,rfl,rfl,⟨by decide,by decide⟩,_,rfl,l,_,rfl,.inl (SqL.of (s2 _ _ q1)),_,_,rfl,rfl,(by show (0:Int) < ((ps.map V.ref).length:Int);rw[List.length_map];omega),l,_,_,.ref kp,rfl,rfl,SqL.of (s2 _ _ q1),hat,?_⟩
   refine⟨_,rfl,_,rfl,_,_,rfl,rfl,⟨by decide,by decide⟩,_,rfl,aS,_,rfl,.inl (SqL.of hS2),_,_,rfl,rfl,len_pos hs1,aS,_,_,.int o,rfl,rfl,SqL.of hS2,hao,?_⟩
   refine⟨_,rfl,_,rfl,p,_,rfl,g,q,_,_,.int e,rfl,rfl,SqL.of hq2,he,?_⟩
   refine⟨_,rfl,_,_,rfl,rfl,(by show (0:Int) < 3;decide),rfl,_,rfl,?_⟩
   refine ite2 (fun _=>?_) (fun _=>?_)
   ·exact⟨_,rfl,kp,_,_,_,rfl,rfl,SqT.of hkp2,rfl,_,rfl,kp,_,_,_,rfl,rfl,SqT.of hkp2,rfl,_,rfl,_,rfl,sz5,fun q' nq=>k q' (.meet c s e e) _ (s02.trans (Same.upd nq)) upd_same⟩
   ·exact⟨_,rfl,kp,_,_,_,rfl,rfl,SqT.of hkp2,rfl,_,rfl,kp,_,_,_,rfl,rfl,SqT.of hkp2,rfl,_,rfl,_,rfl,_,_,rfl,_,rfl,_,rfl,_,_,rfl,sz5,fun q' nq=>k q' (.meet c s _ _) _ (s02.trans (Same.upd nq)) upd_same⟩
  refine⟨_,rfl,p,S,rfl,h1,fun H2 s2=>?_,fun q c s x y H2 s2 hq hxy hSx hSy=>?_⟩
  ·refine⟨fun σ' H'=>σ'=[some (.ref p),some (.ref aS),some (.int z),some (.ref l),some .non,none,none,none]/\H'=H2,?_,?_⟩
   ·refine⟨_,rfl,rfl,_,rfl,?_⟩
    exact⟨rfl,rfl⟩
   rintro σ' H' ⟨rfl,rfl⟩
   exact rest _ _ s2
  ·refine⟨fun σ' H'=>σ'=[some (.ref p),some (.ref aS),some (.int z),some (.ref l),some (.ref q),none,none,none]/\H'=H2,?_,?_⟩
   ·replace hq:H2 q=some (.tup [.str (tx [109,101,101,116]),.int c,.int s,.int x,.int y]):=hq
    refine⟨_,rfl,rfl,_,rfl,_,rfl,_,_,rfl,rfl,(by show (0:Int) < 3;decide),rfl,_,rfl,?_⟩
    refine ite2 (fun _=>?_) (fun _=>⟨rfl,rfl⟩)
    refine⟨_,rfl,_,rfl,q,_,rfl,hq,fun p2 H3 s3 e3=>?_⟩
    replace e3:H3 p2=some (.tup [.str (tx [109,101,101,116]),.int c,.int s]):=e3
    refine⟨_,rfl,q,_,_,_,rfl,rfl,SqT.of (s3 _ _ hq),rfl,_,rfl,q,_,_,_,rfl,rfl,SqT.of (s3 _ _ hq),rfl,by show 2<=sizeLine;decide,fun u nu=>?_⟩
    refine⟨p2,u,_,_,rfl,rfl,Same.upd nu _ _ e3,upd_same,by show 3+ 2<=sizeLine;decide,fun p4 H4 s4 e4=>?_⟩
    exact k p4 (.meet c s y x) _ ((((s1.trans s2).trans s3).trans (Same.upd nu)).trans s4) e4
   rintro σ' H' ⟨rfl,rfl⟩
   exact rest _ _ s2
theorem stand_iff {L:Int}{X:AS}{went:List Int}(hI:Iv L X went)(c:Int):c∈((List.range X.made.toNat).filter fun i=>!decide (((i:Nat):Int)∈went)).map Int.ofNat↔X.st c=true:=by
 rw[hI.st c,List.mem_map]
 constructor
 ·rintro ⟨i,hi,rfl⟩
  rw[List.mem_filter,List.mem_range] at hi
  refine⟨⟨Int.natCast_nonneg i,by show (i:Int) < _;omega⟩,?_⟩
  intro z
  have:=hi.2
  rw[show (Int.ofNat i)=(i:Int) from rfl] at z
  rw[decide_eq_true z] at this
  cases this
 ·rintro ⟨⟨h1,h2⟩,h3⟩
  refine⟨c.toNat,List.mem_filter.mpr ⟨List.mem_range.mpr (by omega),?_⟩,Int.toNat_of_nonneg h1⟩
  rw[Int.toNat_of_nonneg h1,decide_eq_false h3];rfl
theorem stand_len {X:AS}{went:List Int}:(((List.range X.made.toNat).filter fun i=>!decide (((i:Nat):Int)∈went)).map Int.ofNat).length<=X.made.toNat:=by
 rw[List.length_map]
 exact Nat.le_trans (List.length_filter_le _ _) (by rw[List.length_range];exact Nat.le_refl _)
theorem pick2 (a b z:Int):∃ c,atI [V.int a,V.int b] (z % 2)=some (.int c):=by
 have:z % 2=0\/z % 2=1:=by omega
 rcases this with h | h
 ·rw[h];exact⟨a,rfl⟩
 ·rw[h];exact⟨b,rfl⟩
theorem dt_ints {H:Hp}{t:Addr}{w:List Int}{k:Nat}(h:H t=some (.tup (intV w))):DtAt H (k+ 1) (.ref t) (.t (w.map Dt.i)):=by
 refine .t h (by rw[ints_len,List.length_map]) fun j v d e1 e2=>?_
 obtain⟨z,rfl,hz⟩:=ints_of_at e1
 rw[List.getElem?_map,hz] at e2
 rw[← Option.some.inj e2]
 exact .i
theorem dt_words {H:Hp}{a:Addr}{ws:List (List Int)}(h:WordsAt H a ws):DtAt H 4 (.ref a) (.l (ws.map fun w=>Dt.t (w.map Dt.i))):=by
 obtain⟨ps,h1,h2⟩:=h
 refine .l h1 (by rw[List.length_map,List.length_map,h2.1]) fun j v d e1 e2=>?_
 rw[List.getElem?_map] at e1 e2
 cases q1:ps[j]? with
 | none=>rw[q1] at e1;cases e1
 | some p=>
   cases q2:ws[j]? with
   | none=>rw[q2] at e2;cases e2
   | some w=>
     rw[q1] at e1
     rw[q2] at e2
     rw[← Option.some.inj e1,← Option.some.inj e2]
     exact dt_ints (h2.2 j p w q1 q2)
def rwDt:Rw->Dt
 | .new c s n=>.t [.s [110,101,119],.i c,.i s,.i n]
 | .rule w p k=>.t [.s [114,117,108,101],.i w,.t (p.map Dt.i),.i k]
 | .meet c s x y=>.t [.s [109,101,101,116],.i c,.i s,.i x,.i y]
theorem dt_row {H:Hp}{q:Addr}:∀{w:Rw},RowAt H q w->DtAt H 3 (.ref q) (rwDt w)
 | .new c s n,h=>by
   refine .t h rfl fun j v d e1 e2=>?_
   match j,e1,e2 with
   | 0,e1,e2=>cases e1;cases e2;exact .s
   | 1,e1,e2=>cases e1;cases e2;exact .i
   | 2,e1,e2=>cases e1;cases e2;exact .i
   | 3,e1,e2=>cases e1;cases e2;exact .i
   | j+ 4,e1,e2=>simp at e1
 | .rule w p k,⟨t,h1,h2,_⟩=>by
   refine .t h1 rfl fun j v d e1 e2=>?_
   match j,e1,e2 with
   | 0,e1,e2=>cases e1;cases e2;exact .s
   | 1,e1,e2=>cases e1;cases e2;exact .i
   | 2,e1,e2=>cases e1;cases e2;exact dt_ints h2
   | 3,e1,e2=>cases e1;cases e2;exact .i
   | j+ 4,e1,e2=>simp at e1
 | .meet c s x y,h=>by
   refine .t h rfl fun j v d e1 e2=>?_
   match j,e1,e2 with
   | 0,e1,e2=>cases e1;cases e2;exact .s
   | 1,e1,e2=>cases e1;cases e2;exact .i
   | 2,e1,e2=>cases e1;cases e2;exact .i
   | 3,e1,e2=>cases e1;cases e2;exact .i
   | 4,e1,e2=>cases e1;cases e2;exact .i
   | j+ 5,e1,e2=>simp at e1
theorem dt_rows {H:Hp}{l:Addr}{qs:List Addr}{rows:List Rw}(h:H l=some (.lst (qs.map V.ref)))(hr:RowsOn H qs rows):DtAt H 4 (.ref l) (.l (rows.map rwDt)):=by
 refine .l h (by rw[List.length_map,List.length_map,hr.1]) fun j v d e1 e2=>?_
 rw[List.getElem?_map] at e1 e2
 cases q1:qs[j]? with
 | none=>rw[q1] at e1;cases e1
 | some p=>
   cases q2:rows[j]? with
   | none=>rw[q2] at e2;cases e2
   | some w=>
     rw[q1] at e1
     rw[q2] at e2
     rw[← Option.some.inj e1,← Option.some.inj e2]
     exact dt_row (hr.2 j p w q1 q2)
theorem dt_three {H:Hp}{l a b c:Addr}{x y z:Dt}(h:H l=some (.lst [.ref a,.ref b,.ref c]))(h1:DtAt H 7 (.ref a) x)(h2:DtAt H 7 (.ref b) y)(h3:DtAt H 7 (.ref c) z):DtAt H 8 (.ref l) (.l [x,y,z]):=by
 refine .l h rfl fun j v d e1 e2=>?_
 match j,e1,e2 with
 | 0,e1,e2=>cases e1;cases e2;exact h1
 | 1,e1,e2=>cases e1;cases e2;exact h2
 | 2,e1,e2=>cases e1;cases e2;exact h3
 | j+ 3,e1,e2=>simp at e1
theorem right_take {L:Int}{ws:List (List Int)}{cm:Int}:∀{rows:List Rw} {X:AS} (n:Nat),Right L ws cm X rows->Right L ws cm X (rows.take n)
 | _,_,0,_=>by rw[List.take_zero];trivial
 | [],_,n+ 1,_=>trivial
 | v :: r,X,n+ 1,h=>⟨h.1,right_take (rows:=r) n h.2⟩
theorem RowsOn.take {H:Hp}{qs:List Addr}{rows:List Rw}(h:RowsOn H qs rows)(n:Nat):RowsOn H (qs.take n) (rows.take n):=by
 refine⟨by rw[List.length_take,List.length_take,h.1],fun i q w e1 e2=>?_⟩
 rw[List.getElem?_take] at e1 e2
 split at e1
 ·rename_i hi
  rw[if_pos hi] at e2
  exact h.2 i q w e1 e2
 ·cases e1
theorem refs_inj:∀{ps qs:List Addr},ps.map V.ref=qs.map V.ref->ps=qs
 | [],[],_=>rfl
 | [],_ :: _,h=>by cases h
 | _ :: _,[],h=>by cases h
 | p :: ps,q :: qs,h=>by
   rw[List.map_cons,List.map_cons] at h
   injection h with h1 h2
   injection h1 with h1
   rw[h1,refs_inj h2]
structure WDr (H0 H:Hp) (a:Addr) (L:Int) (ws:List (List Int)) (n:Nat):Prop where
 sm:Same H0 H
 na:H0 a=none
 wa:WordsAt H a ws
 ok:∀ w∈ws,StpL L w/\1<=w.length/\w.length<=20
 ln:ws.length=n
theorem WDr.same {H0 H H':Hp}{a:Addr}{L:Int}{ws:List (List Int)}{n:Nat}(h:WDr H0 H a L ws n)(s:Same H H'):WDr H0 H' a L ws n:=⟨h.sm.trans s,h.na,h.wa.same s,h.ok,h.ln⟩
theorem WDr.app {H0 H:Hp}{a:Addr}{L:Int}{ws:List (List Int)}{n:Nat}(h:WDr H0 H a L ws n){ps:List Addr}(hp:H a=some (.lst (ps.map V.ref))){t:Addr}{w:List Int}(ht:H t=some (.tup (intV w)))(hw:StpL L w/\1<=w.length/\w.length<=20):WDr H0 (upd H a (.lst (ps.map V.ref++[.ref t]))) a L (ws++[w]) (n+ 1):=by
 obtain⟨ps',h1,h2⟩:=h.wa
 rw[hp] at h1
 have e:ps=ps':=by
  injection h1 with h1;injection h1 with h1
  exact refs_inj h1
 subst e
 have kt:∀ b xs,H b=some (.tup xs)->upd H a (.lst (ps.map V.ref++[.ref t])) b=some (.tup xs):=fun b xs e=>by rw[upd_ne (fun z=>by rw[z,hp] at e;cases e)];exact e
 refine⟨fun b u e=>by rw[upd_ne (ne_of_none e h.na)];exact h.sm _ _ e,h.na,⟨ps++[t],by rw[upd_same,List.map_append];rfl,(h2.keep kt).snoc (kt _ _ ht)⟩,fun x hx=>?_,by rw[List.length_append,h.ln];rfl⟩
 rcases List.mem_append.mp hx with q | q
 ·exact h.ok x q
 ·rw[List.mem_singleton.mp q];exact hw
theorem WDr.but {H0 H:Hp}{a b:Addr}{L:Int}{ws:List (List Int)}{n:Nat}(h:WDr H0 H a L ws n)(hab:a≠b){xs:List V}{o:HO}(hb:H b=some (.lst xs))(nb:H0 b=none):WDr H0 (upd H b o) a L ws n:=by
 obtain⟨ps,h1,h2⟩:=h.wa
 exact⟨fun c u e=>by rw[upd_ne (ne_of_none e nb)];exact h.sm _ _ e,h.na,⟨ps,by rw[upd_ne hab];exact h1,h2.keep fun p ys e=>by rw[upd_ne (fun z=>by rw[z,hb] at e;cases e)];exact e⟩,h.ok,h.ln⟩
theorem tups_append {H:Hp}{ps qs:List Addr}{us vs:List (List Int)}(h:TupsAt H ps us)(g:TupsAt H qs vs):TupsAt H (ps++qs) (us++vs):=by
 have hl:=h.1
 refine⟨by rw[List.length_append,List.length_append,h.1,g.1],fun i p w e1 e2=>?_⟩
 by_cases hi:i < ps.length
 ·rw[List.getElem?_append_left hi] at e1
  rw[List.getElem?_append_left (by omega)] at e2
  exact h.2 i p w e1 e2
 ·rw[List.getElem?_append_right (by omega)] at e1 e2
  rw[← hl] at e2
  exact g.2 _ p w e1 e2
def spOddNew:Sp:=fun vs H Q _=>∃(p aS:Addr) (made:Int) (st:List Int) (lost L z:Int),vs=[.ref p,.int made,.ref aS,.int lost,.int L,.int z]/\H aS=some (.lst (intV st))/\1<=st.length/\0 < L/\∀ q' w' H',Same H H'->RowAt H' q' w'->Q (.ref q') H'
theorem ok__law_odd_new (T:Txt K mg A):FnOk P w K mg base CX0 1 A.f__law_odd_new A.d__law_odd_new ["_law_known","_law_made","_law_stand","_law_lost","_law_letters","_law_number"] spOddNew:=by
 refine T._law_odd_new.F.ok sc__law_odd_new (fun vs H Q E h=>?_) (fun cdv AA outer s H vs Q E hr h=>?_)
 ·obtain⟨p,aS,made,st,lost,L,z,rfl,_⟩:=h
  rfl
 ·obtain⟨p,aS,made,st,lost,L,z,rfl,hS,hs1,hL,k⟩:=h
  refine⟨_,(pss_cons (ps_set (i:=6) sc__law_odd_new.nd rfl (Or.inl rfl) (pe_ix ix_list (pv 2) (pe_op op_mod (pe_op op_fdiv (pv 5) pe_int) (pe_callB call_len_seq rfl T.z_len PySem.boot_len (pa_cons (pv 2) pa_nil))) (fun _ _=>rfl)))
   (pss_cons (ps_set (i:=7) sc__law_odd_new.nd rfl (Or.inl rfl) (pe_op op_add pe_int (pe_op op_mod (pe_op op_fdiv (pv 5) pe_int) (pv 4))))
   (pss_cons (ps_cut (ps_if (pt_cmpR op_eq (pe_op op_mod (pe_op op_fdiv (pv 5) pe_int) pe_int) pe_int (nomark _))
    (pss_one (ps_set (i:=7) sc__law_odd_new.nd rfl (Or.inl rfl) (pe_op op_sub pe_int (pv 7))))
    pss_nil))
   (pss_cons (ps_if (pt_cmpR op_lt (pe_op op_mod (pv 5) pe_int) pe_int (nomark _))
    (pss_one (ps_ret (pe_tup (pa_cons (pe_strX (l:=[110,101,119]) rfl) (pa_cons (pv 3) (pa_cons (pv 7) (pa_cons (pv 1) pa_nil)))))))
    pss_nil)
   (pss_cons (ps_if (pt_cmpR op_eq (pe_op op_mod (pv 5) pe_int) pe_int (nomark _))
    (pss_one (ps_ret (pe_tup (pa_cons (pe_strX (l:=[110,101,119]) rfl) (pa_cons (pv 6) (pa_cons pe_int (pa_cons (pv 1) pa_nil)))))))
    pss_nil)
   (pss_cons (ps_if (pt_cmpR op_eq (pe_op op_mod (pv 5) pe_int) pe_int (nomark _))
    (pss_one (ps_ret (pe_tup (pa_cons (pe_strX (l:=[110,101,119]) rfl) (pa_cons (pv 6) (pa_cons (pe_ix ix_list (pe_lst (pa_cons (pe_op op_add (pv 4) pe_int) (pa_cons (pe_op op_sub (pe_op op_sub pe_int (pv 4)) pe_int) pa_nil))) (pe_op op_mod (pe_op op_fdiv (pv 5) pe_int) pe_int) (fun _ _=>rfl)) (pa_cons (pv 1) pa_nil)))))))
    pss_nil)
   (pss_cons (ps_if (pt_cmpR op_eq (pe_op op_mod (pv 5) pe_int) pe_int (nomark _))
    (pss_one (ps_ret (pe_tup (pa_cons (pe_strX (l:=[110,101,119]) rfl) (pa_cons (pv 6) (pa_cons (pv 7) (pa_cons (pv 1) pa_nil)))))))
    pss_nil)
   (pss_one (ps_ret (pe_tup (pa_cons (pe_strX (l:=[110,101,119]) rfl) (pa_cons (pv 6) (pa_cons (pv 7) (pa_cons (pe_op op_add (pv 1) (pe_ix ix_list (pe_lst (pa_cons pe_int (pa_cons (pe_un un_neg pe_int) pa_nil))) (pe_op op_mod (pe_op op_fdiv (pv 5) pe_int) pe_int) (fun _ _=>rfl))) pa_nil)))))))))))))),?_⟩
  try dsimp only[cx_noxK,cx_K]
  refine seq_let7 ?_
  intro u_7 u_6 u_5 u_4 u_3 u_2 u_1
  obtain⟨room,_,hat⟩:=pick_at (z / 32) hs1
  refine⟨_,rfl,_,rfl,_,_,rfl,rfl,⟨by decide,by decide⟩,_,rfl,aS,_,rfl,.inl (SqL.of hS),_,_,rfl,rfl,len_pos hs1,aS,_,_,.int room,rfl,rfl,SqL.of hS,hat,?_⟩
  refine⟨_,rfl,_,_,rfl,rfl,⟨by decide,by decide⟩,_,rfl,_,_,rfl,rfl,hL,_,_,rfl,rfl,?_⟩
  refine⟨fun σ' H'=>∃ step:Int,σ'=[some (.ref p),some (.int made),some (.ref aS),some (.int lost),some (.int L),some (.int z),some (.int room),some (.int step)]/\H'=H,?_,?_⟩
  ·refine⟨_,rfl,_,_,rfl,rfl,⟨by decide,by decide⟩,_,_,rfl,rfl,(by show (0:Int) < 2;decide),rfl,_,rfl,?_⟩
   refine ite2 (fun _=>?_) (fun _=>⟨_,rfl,rfl⟩)
   exact⟨_,rfl,_,_,rfl,rfl,_,rfl,rfl⟩
  rintro σ' H' ⟨step,rfl,rfl⟩
  have sz4:4<=sizeLine:=by decide
  have fin:∀{H2:Hp} {q':Addr} {a b c:Int},Same H' H2->H2 q'=none->Q (.ref q') (upd H2 q' (.tup [.str (tx [110,101,119]),.int a,.int b,.int c])):=fun{H2 q' a b c} s2 nq=>k q' (.new a b c) _ (s2.trans (Same.upd nq)) upd_same
  refine⟨_,rfl,_,_,rfl,rfl,(by show (0:Int) < 8;decide),_,_,rfl,rfl,_,rfl,?_⟩
  refine ite2 (fun _=>⟨_,rfl,_,rfl,_,rfl,sz4,fun q' nq=>fin (Same.refl _) nq⟩) (fun _=>?_)
  refine⟨_,rfl,_,_,rfl,rfl,(by show (0:Int) < 8;decide),rfl,_,rfl,?_⟩
  refine ite2 (fun _=>⟨_,rfl,_,rfl,sz4,fun q' nq=>fin (Same.refl _) nq⟩) (fun _=>?_)
  refine⟨_,rfl,_,_,rfl,rfl,(by show (0:Int) < 8;decide),rfl,_,rfl,?_⟩
  refine ite2 (fun _=>?_) (fun _=>?_)
  ·obtain⟨c,hc⟩:=pick2 (L+ 1) (0 - L - 1) (z / 16)
   refine⟨_,rfl,_,rfl,_,_,rfl,rfl,_,rfl,_,_,rfl,rfl,_,_,rfl,rfl,by show 2<=sizeLine;decide,fun a na=>?_⟩
   exact⟨_,rfl,_,_,rfl,rfl,⟨by decide,by decide⟩,_,_,rfl,rfl,(by show (0:Int) < 2;decide),a,_,_,.int c,rfl,rfl,SqL.of upd_same,hc,_,rfl,sz4,fun q' nq=>fin (Same.upd na) nq⟩
  refine⟨_,rfl,_,_,rfl,rfl,(by show (0:Int) < 8;decide),rfl,_,rfl,?_⟩
  refine ite2 (fun _=>⟨_,rfl,_,rfl,_,rfl,sz4,fun q' nq=>fin (Same.refl _) nq⟩) (fun _=>?_)
  obtain⟨c,hc⟩:=pick2 1 (-1) (z / 16)
  refine⟨_,rfl,_,rfl,_,rfl,_,rfl,by show 2<=sizeLine;decide,fun a na=>?_⟩
  exact⟨_,rfl,_,_,rfl,rfl,⟨by decide,by decide⟩,_,_,rfl,rfl,(by show (0:Int) < 2;decide),a,_,_,.int c,rfl,rfl,SqL.of upd_same,hc,_,_,rfl,rfl,sz4,fun q' nq=>fin (Same.upd na) nq⟩
def spBentNumber:Sp:=fun vs H Q _=>∃(o c l z:Int),vs=[.int o,.int c,.int l,.int z]/\∀ r H',Same H H'->Q (.int r) H'
theorem ok__law_bent_number (T:Txt K mg A):FnOk P w K mg base CX0 1 A.f__law_bent_number A.d__law_bent_number ["_law_old","_law_count","_law_lost","_law_number"] spBentNumber:=by
 refine T._law_bent_number.F.ok sc__law_bent_number (fun vs H Q E h=>?_) (fun cdv AA outer s H vs Q E hr h=>?_)
 ·obtain⟨o,c,l,z,rfl,_⟩:=h
  rfl
 ·obtain⟨o,c,l,z,rfl,k⟩:=h
  refine⟨_,(pss_cons (ps_set (i:=4) sc__law_bent_number.nd rfl (Or.inl rfl) (pe_lst (pa_cons (pe_op op_sub (pv 0) (pv 1)) (pa_cons (pe_op op_sub (pv 0) (pv 1)) (pa_cons (pv 1) (pa_cons (pv 2) (pa_cons (pe_op op_pow pe_int pe_int) (pa_cons (pe_op op_sub pe_int (pe_op op_pow pe_int pe_int)) (pa_cons (pe_op op_add (pv 0) pe_int) (pa_cons (pe_op op_sub (pv 0) pe_int) (pa_cons (pe_op op_sub pe_int pe_int) (pa_cons (pe_op op_add (pv 0) (pv 1)) pa_nil))))))))))))
   (pss_one (ps_ret (pe_ix ix_list (pv 4) (pe_op op_mod (pv 3) pe_int) (fun _ _=>rfl))))),?_⟩
  try dsimp only[cx_noxK,cx_K]
  refine seq_let1 ?_
  intro u_1
  have pw:CPow 10 30:=⟨by decide,by decide,by decide⟩
  refine⟨_,rfl,_,rfl,_,_,rfl,rfl,_,rfl,_,rfl,_,_,rfl,rfl,_,rfl,_,rfl,_,_,rfl,rfl,pw,_,_,rfl,rfl,pw,_,_,rfl,rfl,_,rfl,_,_,rfl,rfl,_,rfl,_,_,rfl,rfl,_,_,rfl,rfl,_,rfl,_,rfl,_,_,rfl,rfl,by show 10<=sizeLine;decide,fun a na=>?_⟩
  obtain⟨r,_,hr⟩:=pick_at (st:=[o - c,o - c,c,l,10 ^ (30:Int).toNat,0 - 10 ^ (30:Int).toNat,o+ 1,o - 1,0 - 1,o+ c]) z (Nat.succ_pos _)
  exact⟨_,rfl,_,rfl,_,_,rfl,rfl,(by show (0:Int) < 10;decide),a,_,_,.int r,rfl,rfl,SqL.of upd_same,hr,k r _ (Same.upd na)⟩
def spBentStep:Sp:=fun vs H Q _=>∃(o l z:Int),vs=[.int o,.int l,.int z]/\∀ r H',Same H H'->Q (.int r) H'
theorem ok__law_bent_step (T:Txt K mg A):FnOk P w K mg base CX0 1 A.f__law_bent_step A.d__law_bent_step ["_law_old","_law_letters","_law_number"] spBentStep:=by
 refine T._law_bent_step.F.ok sc__law_bent_step (fun vs H Q E h=>?_) (fun cdv AA outer s H vs Q E hr h=>?_)
 ·obtain⟨o,l,z,rfl,_⟩:=h
  rfl
 ·obtain⟨o,l,z,rfl,k⟩:=h
  refine⟨_,(pss_cons (ps_set (i:=3) sc__law_bent_step.nd rfl (Or.inl rfl) (pe_lst (pa_cons pe_int (pa_cons (pe_op op_add (pv 1) pe_int) (pa_cons (pe_op op_sub (pe_op op_sub pe_int (pv 1)) pe_int) (pa_cons (pe_op op_pow pe_int pe_int) (pa_cons (pe_op op_sub pe_int (pe_op op_pow pe_int pe_int)) (pa_cons (pe_op op_sub pe_int (pv 0)) pa_nil))))))))
   (pss_one (ps_ret (pe_ix ix_list (pv 3) (pe_op op_mod (pv 2) pe_int) (fun _ _=>rfl))))),?_⟩
  try dsimp only[cx_noxK,cx_K]
  refine seq_let1 ?_
  intro u_1
  have pw:CPow 10 30:=⟨by decide,by decide,by decide⟩
  refine⟨_,rfl,_,_,rfl,rfl,_,rfl,_,_,rfl,rfl,_,_,rfl,rfl,_,_,rfl,rfl,pw,_,_,rfl,rfl,pw,_,_,rfl,rfl,_,rfl,_,_,rfl,rfl,by show 6<=sizeLine;decide,fun a na=>?_⟩
  obtain⟨r,_,hr⟩:=pick_at (st:=[0,l+ 1,0 - l - 1,10 ^ (30:Int).toNat,0 - 10 ^ (30:Int).toNat,0 - o]) z (Nat.succ_pos _)
  exact⟨_,rfl,_,rfl,_,_,rfl,rfl,(by show (0:Int) < 6;decide),a,_,_,.int r,rfl,rfl,SqL.of upd_same,hr,k r _ (Same.upd na)⟩
def spOdd:Sp:=fun vs H Q _=>∃(aW pp:Addr) (L:Int) (ws:List (List Int)) (cm:Nat) (qs:List Addr) (rows:List Rw) (z:Int),vs=[.ref aW,.int cm,.int L,.ref pp,.int z]/\0 < L/\L < 10/\WordsAt H aW ws/\1<=ws.length/\ws.length<=900/\WsOk L ws/\H pp=some (.lst (qs.map V.ref))/\RowsOn H qs rows/\Right L ws cm AS0 rows/\rows.length<=2000/\∀ q' w' H',Same H H'->RowAt H' q' w'->Q (.ref q') H'
theorem ok__law_odd (T:Txt K mg A):FnOk P w K mg base CX0 5 A.f__law_odd A.d__law_odd ["_law_words","_law_many","_law_letters","_law_paper_here","_law_number"] spOdd:=by
 have G__law_state:FnOk P w K mg base CX0 4 A.f__law_state A.d__law_state ["_law_words","_law_paper_here"] spState:=ok__law_state T
 have G__law_ruled:FnOk P w K mg base CX0 3 A.f__law_ruled A.d__law_ruled ["_law_known","_law_stand","_law_words","_law_low","_law_number"] spRuled:=ok__law_ruled T
 have G__law_odd_rule:FnOk P w K mg base CX0 1 A.f__law_odd_rule A.d__law_odd_rule ["_law_row_here","_law_words","_law_stand","_law_lost","_law_number"] spOddRule:=ok__law_odd_rule T
 have G__law_odd_new:FnOk P w K mg base CX0 1 A.f__law_odd_new A.d__law_odd_new ["_law_known","_law_made","_law_stand","_law_lost","_law_letters","_law_number"] spOddNew:=ok__law_odd_new T
 have G__law_odd_meet:FnOk P w K mg base CX0 2 A.f__law_odd_meet A.d__law_odd_meet ["_law_known","_law_stand","_law_number"] spOddMeet:=ok__law_odd_meet T
 refine T._law_odd.F.ok sc__law_odd (fun vs H Q E h=>?_) (fun cdv AA outer s H vs Q E hr h=>?_)
 ·obtain⟨aW,pp,L,ws,cm,qs,rows,z,rfl,_⟩:=h
  rfl
 ·obtain⟨aW,pp,L,ws,cm,qs,rows,z,rfl,hL0,hL,hW,hl1,hl2,hok,hpp,hro,hri,hrl,k⟩:=h
  refine⟨_,(pss_cons (ps_asg (pe_call (G__law_state) (hr.mono (by decide)) rfl T._law_state.m T._law_state.F.kp T._law_state.b .nil pass0 (pa_cons (pv 0) (pa_cons (pv 3) pa_nil))) (pg_tup rfl (pgs_cons (pg_name (i:=5) sc__law_odd.nd rfl (Or.inl rfl)) (pgs_cons (pg_name (i:=6) sc__law_odd.nd rfl (Or.inl rfl)) (pgs_cons (pg_name (i:=7) sc__law_odd.nd rfl (Or.inr rfl)) pgs_nil)))))
   (pss_cons (ps_setCompIf (iy:=8) sc__law_odd.nd rfl (Or.inl rfl) (fns:=["_law_went"]) (ixs:=[7]) (cl:=_) rfl (pi_range1 rfl T.z_range (pa_cons (pv 6) pa_nil)) (compScope1 rfl rfl (by decide +kernel) rfl (by decide +kernel) rfl (by decide +kernel) (by decide +kernel) rfl rfl rfl rfl) (fun C s H ex=>(pt_cmpR op_NOTIN_l (pv 0) (pv 1) rfl)) (fun C s H ex=>(pv 0)))
   (pss_cons (ps_set (i:=9) sc__law_odd.nd rfl (Or.inl rfl) (pe_ix ix_list (pe_lst (pa_cons (pv 6) (pa_cons (pe_un un_neg pe_int) pa_nil))) (pe_op op_mod (pe_op op_fdiv (pv 4) pe_int) pe_int) (fun _ _=>rfl)))
   (pss_cons (ps_cut (ps_if (PW.pt (pw_and (pt_cmpR op_gt (pe_callB call_len_seq rfl T.z_len PySem.boot_len (pa_cons (pv 7) pa_nil)) pe_int (nomark _)) (pw_and1 (pt_cmpR op_gt (pe_op op_mod (pe_op op_fdiv (pv 4) pe_int) pe_int) pe_int (nomark _)))))
    (pss_one (ps_set (i:=9) sc__law_odd.nd rfl (Or.inl rfl) (pe_ix ix_list (pv 7) (pe_op op_mod (pe_op op_fdiv (pv 4) pe_int) (pe_callB call_len_seq rfl T.z_len PySem.boot_len (pa_cons (pv 7) pa_nil))) (fun _ _=>rfl))))
    pss_nil))
   (pss_cons (ps_if (pt_cmpR op_eq (pe_op op_mod (pv 4) pe_int) pe_int (nomark _))
    (pss_one (ps_ret (pe_call (G__law_odd_new) (hr.mono (by decide)) rfl T._law_odd_new.m T._law_odd_new.F.kp T._law_odd_new.b .nil pass0 (pa_cons (pv 5) (pa_cons (pv 6) (pa_cons (pv 8) (pa_cons (pv 9) (pa_cons (pv 2) (pa_cons (pe_op op_fdiv (pv 4) pe_int) pa_nil)))))))))
    pss_nil)
   (pss_cons (ps_if (pt_cmpR op_eq (pe_op op_mod (pv 4) pe_int) pe_int (nomark _))
    (pss_one (ps_ret (pe_call (G__law_odd_meet) (hr.mono (by decide)) rfl T._law_odd_meet.m T._law_odd_meet.F.kp T._law_odd_meet.b .nil pass0 (pa_cons (pv 5) (pa_cons (pv 8) (pa_cons (pe_op op_fdiv (pv 4) pe_int) pa_nil))))))
    pss_nil)
   (pss_cons (ps_cut (ps_if (PW.pt (pw_and (pt_cmpR op_eq (pe_op op_mod (pv 4) pe_int) pe_int (nomark _)) (pw_and1 (pt_cmpR op_lt (pv 1) (pe_callB call_len_seq rfl T.z_len PySem.boot_len (pa_cons (pv 0) pa_nil)) (nomark _)))))
    (pss_cons (ps_set (i:=10) sc__law_odd.nd rfl (Or.inl rfl) (pe_call (G__law_ruled) (hr.mono (by decide)) rfl T._law_ruled.m T._law_ruled.F.kp T._law_ruled.b .nil pass0 (pa_cons (pv 5) (pa_cons (pe_slice3 sl_revL (pv 8) po_none po_none (po_some (pe_un un_neg pe_int))) (pa_cons (pv 0) (pa_cons (pv 1) (pa_cons (pe_op op_fdiv (pv 4) pe_int) pa_nil)))))))
    (pss_one (ps_if (pt_cmpR op_notN (pv 10) pe_non (nomark _))
     (pss_one (ps_ret (pv 10)))
     pss_nil)))
    pss_nil))
   (pss_cons (ps_set (i:=10) sc__law_odd.nd rfl (Or.inl rfl) (pe_call (G__law_ruled) (hr.mono (by decide)) rfl T._law_ruled.m T._law_ruled.F.kp T._law_ruled.b .nil pass0 (pa_cons (pv 5) (pa_cons (pv 8) (pa_cons (pv 0) (pa_cons pe_int (pa_cons (pe_op op_fdiv (pv 4) pe_int) pa_nil)))))))
   (pss_cons (ps_if (pt_cmpR op_isN (pv 10) pe_non (nomark _))
    (pss_one (ps_ret (pe_tup (pa_cons (pe_strX (l:=[114,117,108,101]) rfl) (pa_cons (pe_callB call_len_seq rfl T.z_len PySem.boot_len (pa_cons (pv 0) pa_nil)) (pa_cons (pe_tup (pa_cons pe_int pa_nil)) (pa_cons pe_int pa_nil)))))))
    pss_nil)
   (pss_one (ps_ret (pe_call (G__law_odd_rule) (hr.mono (by decide)) rfl T._law_odd_rule.m T._law_odd_rule.F.kp T._law_odd_rule.b .nil pass0 (pa_cons (pv 10) (pa_cons (pv 0) (pa_cons (pv 8) (pa_cons (pv 9) (pa_cons (pe_op op_fdiv (pv 4) pe_int) pa_nil))))))))))))))))),?_⟩
  try dsimp only[cx_noxK,cx_K]
  refine seq_let9 ?_
  intro u_9 u_8 u_7 u_6 u_5 u_4 u_3 u_2 u_1
  refine⟨_,rfl,_,rfl,aW,pp,L,ws,cm,qs,rows,rfl,hL,hW,hok,hpp,hro,hri,hrl,fun t p g X went H1 s1 ht hLA hb hg hI hm1 hm2=>?_⟩
  refine⟨t,_,rfl,SqT.of ht,rfl,_,_,rfl,_,_,rfl,_,_,rfl,rfl,?_⟩
  refine⟨_,rfl,_,rfl,by omega,by omega,?_⟩
  refine comp_rangeIf (fun i=>!decide (((i:Nat):Int)∈went)) (by omega) (fun i Rr _ hR=>?_) (fun i Rr hR=>⟨_,rfl,hR⟩) (fun D nD=>?_)
  ·exact⟨_,rfl,_,rfl,_,g,_,rfl,rfl,hg,_,rfl,by rw[Int.zero_add];exact hR⟩
  have eS:=stand_iff hI
  have hsl:=Nat.le_trans (stand_len (X:=X) (went:=went)) (show X.made.toNat<=4000 by omega)
  generalize ((List.range X.made.toNat).filter fun i=>!decide (((i:Nat):Int)∈went)).map Int.ofNat=st at eS hsl ⊢
  have s2:=Same.upd (o:=.lst (intV st)) nD
  have q2:upd H1 D (.lst (intV st)) D=some (.lst (intV st)):=upd_same
  generalize upd H1 D (.lst (intV st))=H2 at s2 q2 ⊢
  have hst1:1<=st.length:=List.length_pos_of_mem ((eS 0).mpr hI.z)
  refine⟨_,rfl,_,rfl,by show 2<=sizeLine;decide,fun a na=>?_⟩
  have s3:=Same.upd (o:=.lst [.int X.made,.int (-1)]) na
  have q3:upd H2 a (.lst [.int X.made,.int (-1)]) a=some (.lst [.int X.made,.int (-1)]):=upd_same
  generalize upd H2 a (.lst [.int X.made,.int (-1)])=H3 at s3 q3 ⊢
  obtain⟨lost,hlost⟩:=pick2 X.made (-1) (z / 8)
  refine⟨_,rfl,_,_,rfl,rfl,⟨by decide,by decide⟩,_,_,rfl,rfl,(by show (0:Int) < 2;decide),a,_,_,.int lost,rfl,rfl,SqL.of q3,hlost,?_⟩
  have s13:=s2.trans s3
  have hg3:=s13 _ _ hg
  have hS3:=s3 _ _ q2
  refine⟨fun σ' H'=>∃ lost:Int,σ'=[some (.ref aW),some (.int cm),some (.int L),some (.ref pp),some (.int z),some (.ref p),some (.int X.made),some (.ref g),some (.ref D),some (.int lost),none]/\H'=H3,?_,?_⟩
  ·refine⟨_,rfl,g,_,rfl,.inl (SqL.of hg3),_,_,rfl,rfl,_,rfl,?_⟩
   refine ite2 (fun w=>?_) (fun w=>?_)
   ·have hw0:0 < went.length:=by
     have:=of_decide_eq_true w
     rw[ints_len] at this
     omega
    refine⟨_,rfl,_,_,rfl,rfl,⟨by decide,by decide⟩,_,_,rfl,rfl,(by show (0:Int) < 4;decide),_,_,rfl,rfl,_,rfl,?_⟩
    refine ite2 (fun _=>?_) (fun _=>⟨lost,rfl,rfl⟩)
    obtain⟨c,_,hat⟩:=pick_at (z / 64) hw0
    exact⟨_,rfl,_,rfl,_,_,rfl,rfl,⟨by decide,by decide⟩,_,rfl,g,_,rfl,.inl (SqL.of hg3),_,_,rfl,rfl,len_pos hw0,g,_,_,.int c,rfl,rfl,SqL.of hg3,hat,c,rfl,rfl⟩
   ·exact⟨lost,rfl,rfl⟩
  clear hlost lost
  rintro σ4 H4 ⟨lost,rfl,rfl⟩
  have s04:=s1.trans s13
  have hW4:=hW.same s04
  have hLA4:=hLA.same s13
  refine⟨_,rfl,_,_,rfl,rfl,(by show (0:Int) < 4;decide),rfl,_,rfl,?_⟩
  refine ite2 (fun _=>?_) (fun _=>?_)
  ·exact⟨_,rfl,_,rfl,_,rfl,_,rfl,_,rfl,_,rfl,_,_,rfl,rfl,⟨by decide,by decide⟩,p,D,X.made,st,lost,L,_,rfl,hS3,hst1,hL0,fun q' w' H' s' hq'=>k q' w' H' (s04.trans s') hq'⟩
  refine⟨_,rfl,_,_,rfl,rfl,(by show (0:Int) < 4;decide),rfl,_,rfl,?_⟩
  refine ite2 (fun _=>?_) (fun _=>?_)
  ·exact⟨_,rfl,_,rfl,_,rfl,_,_,rfl,rfl,⟨by decide,by decide⟩,p,D,X.S,st,_,rfl,hLA4,hb,hS3,hst1,fun q' w' H' s' hq'=>k q' w' H' (s04.trans s') hq'⟩
  obtain⟨ps,hps,hpt⟩:=id hW4
  have hql:((ps.map V.ref).length:Int)=(ws.length:Int):=by rw[List.length_map,hpt.1]
  refine⟨fun σ' H'=>∃ v9:Option V,σ'=[some (.ref aW),some (.int cm),some (.int L),some (.ref pp),some (.int z),some (.ref p),some (.int X.made),some (.ref g),some (.ref D),some (.int lost),v9]/\Same H4 H',?_,?_⟩
  ·refine⟨_,rfl,_,_,rfl,rfl,(by show (0:Int) < 4;decide),rfl,_,rfl,?_⟩
   refine ite2 (fun _=>?_) (fun _=>⟨_,rfl,Same.refl _⟩)
   refine⟨_,rfl,_,rfl,aW,_,rfl,.inl (SqL.of hps),_,_,rfl,rfl,_,rfl,?_⟩
   refine ite2 (fun w=>?_) (fun _=>⟨_,rfl,Same.refl _⟩)
   have hlow:cm < ws.length:=by
    have:=of_decide_eq_true w
    rw[hql] at this
    omega
   refine⟨_,rfl,_,rfl,_,rfl,_,rfl,D,_,rfl,SqL.of hS3,rfl,rfl,rfl,fun b nb=>?_⟩
   have s5:=Same.upd (o:=.lst (intV st).reverse) nb
   have q5:upd H4 b (.lst (intV st).reverse) b=some (.lst (intV st.reverse)):=by
    rw[upd_same];unfold intV;rw[List.map_reverse]
   generalize upd H4 b (.lst (intV st).reverse)=H5 at s5 q5 ⊢
   refine⟨_,rfl,_,rfl,_,rfl,_,_,rfl,rfl,⟨by decide,by decide⟩,?_⟩
   refine⟨p,b,aW,L,ws,X,st.reverse,cm,_,rfl,hLA4.same s5,hb,hI.cl,q5,fun c hc=>(eS c).mp (List.mem_reverse.mp hc),by rw[List.length_reverse];exact hst1,by rw[List.length_reverse];exact hsl,hW4.same s5,hok,hl2,hlow,fun H6 s6=>?_,fun q n m path word H6 s6 hq _ _ _=>?_⟩
   ·exact⟨_,rfl,rfl,_,rfl,_,rfl,s5.trans s6⟩
   ·exact⟨_,rfl,rfl,_,rfl,_,rfl,k q _ _ ((s04.trans s5).trans s6) hq⟩
  rintro σ5 H5 ⟨v9,rfl,s5⟩
  have s05:=s04.trans s5
  refine⟨_,rfl,_,rfl,_,rfl,_,rfl,_,_,rfl,rfl,⟨by decide,by decide⟩,?_⟩
  refine⟨p,D,aW,L,ws,X,st,0,_,rfl,hLA4.same s5,hb,hI.cl,s5 _ _ hS3,fun c hc=>(eS c).mp hc,hst1,hsl,hW4.same s5,hok,hl2,by omega,fun H6 s6=>?_,fun q n m path word H6 s6 hq hw hpl _=>?_⟩
  ·have s06:=s05.trans s6
   refine⟨_,rfl,rfl,_,rfl,_,rfl,aW,_,rfl,.inl (SqL.of ((s5.trans s6) _ _ hps)),by show 1<=sizeLine;decide,fun u nu=>⟨by show 4<=sizeLine;decide,fun q' nq=>?_⟩⟩
   exact k q' (.rule _ [0] 0) _ ((s06.trans (Same.upd nu)).trans (Same.upd nq)) ⟨u,upd_same,Same.upd nq _ _ upd_same,by decide⟩
  ·have s06:=s05.trans s6
   refine⟨_,rfl,rfl,_,rfl,?_⟩
   refine⟨_,rfl,_,rfl,_,rfl,_,rfl,_,rfl,_,_,rfl,rfl,⟨by decide,by decide⟩,?_⟩
   exact⟨q,aW,D,ws,n,m,path,word,st,lost,_,rfl,hq,(hW4.same s5).same s6,hw,hpl,(hok word (List.mem_of_getElem? hw)).2.2,s6 _ _ (s5 _ _ hS3),hst1,fun q' w' H' s' hq'=>k q' w' H' (s06.trans s') hq'⟩
def spBentPath:Sp:=fun vs H Q _=>∃(q:Addr) (n m made lost z:Int) (path:List Int),vs=[.ref q,.int made,.int lost,.int z]/\RowAt H q (.rule n path m)/\1<=path.length/\path.length<=901/\∀ q' w' H',Same H H'->RowAt H' q' w'->Q (.ref q') H'
theorem ok__law_bent_path (T:Txt K mg A):FnOk P w K mg base CX0 2 A.f__law_bent_path A.d__law_bent_path ["_law_row_here","_law_made","_law_lost","_law_number"] spBentPath:=by
 have G__law_bent_number:FnOk P w K mg base CX0 1 A.f__law_bent_number A.d__law_bent_number ["_law_old","_law_count","_law_lost","_law_number"] spBentNumber:=ok__law_bent_number T
 refine T._law_bent_path.F.ok sc__law_bent_path (fun vs H Q E h=>?_) (fun cdv AA outer s H vs Q E hr h=>?_)
 ·obtain⟨q,n,m,made,lost,z,path,rfl,_⟩:=h
  rfl
 ·obtain⟨q,n,m,made,lost,z,path,rfl,hq,hp1,hp2,k⟩:=h
  refine⟨_,(pss_cons (ps_asg (pe_slice sl_tupTT (pv 0) (po_some pe_int) po_none) (pg_tup rfl (pgs_cons (pg_name (i:=4) sc__law_bent_path.nd rfl (Or.inl rfl)) (pgs_cons (pg_name (i:=5) sc__law_bent_path.nd rfl (Or.inl rfl)) (pgs_cons (pg_name (i:=6) sc__law_bent_path.nd rfl (Or.inl rfl)) pgs_nil)))))
   (pss_cons (ps_set (i:=7) sc__law_bent_path.nd rfl (Or.inl rfl) (pe_op op_mod (pe_op op_fdiv (pv 3) pe_int) (pe_callB call_len_seq rfl T.z_len PySem.boot_len (pa_cons (pv 5) pa_nil))))
   (pss_cons (ps_cut (ps_if (pt_cmpR op_eq (pe_op op_mod (pv 3) pe_int) pe_int (nomark _))
    (pss_one (ps_set (i:=5) sc__law_bent_path.nd rfl (Or.inl rfl) (pe_op op_catTT (pv 5) (pe_tup (pa_cons (pe_ix ix_tup (pv 5) pe_int (fun _ _=>rfl)) pa_nil)))))
    (pss_one (ps_cut (ps_if (pt_cmpR op_eq (pe_op op_mod (pv 3) pe_int) pe_int (nomark _))
     (pss_one (ps_set (i:=5) sc__law_bent_path.nd rfl (Or.inl rfl) (pe_slice sl_tupTT (pv 5) po_none (po_some (pe_un un_neg pe_int)))))
     (pss_one (ps_cut (ps_if (pt_cmpR op_eq (pe_op op_mod (pv 3) pe_int) pe_int (nomark _))
      (pss_cons (ps_set (i:=8) sc__law_bent_path.nd rfl (Or.inl rfl) (pe_call (G__law_bent_number) (hr.mono (by decide)) rfl T._law_bent_number.m T._law_bent_number.F.kp T._law_bent_number.b .nil pass0 (pa_cons (pe_ix ix_tup (pv 5) (pe_un un_neg pe_int) (fun _ _=>rfl)) (pa_cons (pv 1) (pa_cons (pv 2) (pa_cons (pe_op op_fdiv (pv 3) pe_int) pa_nil))))))
      (pss_one (ps_set (i:=5) sc__law_bent_path.nd rfl (Or.inl rfl) (pe_op op_catTT (pe_slice sl_tupTT (pv 5) po_none (po_some (pe_un un_neg pe_int))) (pe_tup (pa_cons (pv 8) pa_nil))))))
      (pss_one (ps_cut (ps_if (pt_cmpR op_eq (pe_op op_mod (pv 3) pe_int) pe_int (nomark _))
       (pss_one (ps_set (i:=5) sc__law_bent_path.nd rfl (Or.inl rfl) (pe_op op_repT (pe_tup (pa_cons (pv 2) pa_nil)) (pe_callB call_len_seq rfl T.z_len PySem.boot_len (pa_cons (pv 5) pa_nil)))))
       (pss_cons (ps_set (i:=8) sc__law_bent_path.nd rfl (Or.inl rfl) (pe_call (G__law_bent_number) (hr.mono (by decide)) rfl T._law_bent_number.m T._law_bent_number.F.kp T._law_bent_number.b .nil pass0 (pa_cons (pe_ix ix_tup (pv 5) (pv 7) (fun _ _=>rfl)) (pa_cons (pv 1) (pa_cons (pv 2) (pa_cons (pe_op op_fdiv (pv 3) pe_int) pa_nil))))))
       (pss_one (ps_set (i:=5) sc__law_bent_path.nd rfl (Or.inl rfl) (pe_op op_catTT (pe_op op_catTT (pe_slice sl_tupTT (pv 5) po_none (po_some (pv 7))) (pe_tup (pa_cons (pv 8) pa_nil))) (pe_slice sl_tupTT (pv 5) (po_some (pe_op op_add (pv 7) pe_int)) po_none))))))))))))))))
   (pss_one (ps_ret (pe_tup (pa_cons (pe_strX (l:=[114,117,108,101]) rfl) (pa_cons (pv 4) (pa_cons (pv 5) (pa_cons (pv 6) pa_nil)))))))))),?_⟩
  try dsimp only[cx_noxK,cx_K]
  refine seq_let3 ?_
  intro u_3 u_2 u_1
  obtain⟨t,hq1,hq2,hq3⟩:=hq
  refine⟨_,rfl,_,rfl,q,_,rfl,hq1,fun q3 H1 s1 e1=>?_⟩
  replace e1:H1 q3=some (.tup [.int n,.ref t,.int m]):=e1
  refine⟨q3,_,rfl,SqT.of e1,rfl,_,_,rfl,_,_,rfl,_,_,rfl,rfl,?_⟩
  replace hq2:=s1 _ _ hq2
  refine⟨_,rfl,_,_,rfl,rfl,⟨by decide,by decide⟩,_,rfl,t,_,rfl,.inr (SqT.of hq2),_,_,rfl,rfl,len_pos hp1,?_⟩
  have b1:=Int.emod_nonneg (z / 8) (show (path.length:Int)≠0 by omega)
  have b2:=Int.emod_lt_of_pos (z / 8) (show (0:Int) < (path.length:Int) by omega)
  obtain⟨j,hj⟩:∃ j:Nat,z / 8 % ((intV path).length:Int)=(j:Int):=⟨(z / 8 % (path.length:Int)).toNat,by rw[ints_len];omega⟩
  have hjl:j < path.length:=by rw[ints_len] at hj;omega
  have ej:(fun(i j:Int)=>V.int (i % j)) (z / 8) ((intV path).length:Int)=V.int (j:Int):=congrArg V.int hj
  rw[ej]
  refine⟨fun σ' H'=>∃ t' path' v8,σ'=[some (.ref q),some (.int made),some (.int lost),some (.int z),some (.int n),some (.ref t'),some (.int m),some (.int (j:Int)),v8]/\Same H1 H'/\H' t'=some (.tup (intV path'))/\path'.length<=1000,?_,?_⟩
  ·have z1:1<=sizeLine:=by decide
   have fin:∀{H2:Hp} {t':Addr} {path':List Int} {v8:Option V},Same H1 H2->H2 t'=some (.tup (intV path'))->path'.length<=1000->∃ t'' path'' v8',[some (V.ref q),some (.int made),some (.int lost),some (.int z),some (.int n),some (.ref t'),some (.int m),some (.int (j:Int)),v8]=[some (.ref q),some (.int made),some (.int lost),some (.int z),some (.int n),some (.ref t''),some (.int m),some (.int (j:Int)),v8']/\Same H1 H2/\H2 t''=some (.tup (intV path''))/\path''.length<=1000:=fun{H2 t' path' v8} a b c=>⟨t',path',v8,rfl,a,b,c⟩
   refine⟨_,rfl,_,_,rfl,rfl,(by show (0:Int) < 8;decide),rfl,_,rfl,?_⟩
   refine ite2 (fun _=>?_) (fun _=>?_)
   ·match path,hp1,hp2,hq2 with
    | c :: r,hp1,hp2,hq2=>
      refine⟨_,rfl,_,rfl,t,_,_,.int c,rfl,rfl,SqT.of hq2,atI_nat (j:=0) rfl,z1,fun u nu=>?_⟩
      refine⟨t,u,_,_,rfl,rfl,Same.upd nu _ _ hq2,upd_same,szI (by rw[ints_len];show (c :: r).length+ 1<=_;omega),fun p2 H3 s3 e3=>?_⟩
      exact fin (path':=(c :: r)++[c]) ((Same.upd nu).trans s3) (by rw[ints_app];exact e3) (by rw[List.length_append];show (c :: r).length+ 1<=_;omega)
   refine⟨_,?_,fun _ _ z=>z⟩
   refine⟨_,rfl,_,_,rfl,rfl,(by show (0:Int) < 8;decide),rfl,_,rfl,?_⟩
   obtain⟨l2,el2,hl2⟩:=cut_some path none (some (-1))
   refine ite2 (fun _=>?_) (fun _=>?_)
   ·refine⟨_,rfl,_,rfl,_,rfl,t,_,rfl,hq2,fun p2 H2 s2 e2=>?_⟩
    exact fin s2 (e2.trans (by rw[el2])) (by omega)
   refine⟨_,?_,fun _ _ z=>z⟩
   refine⟨_,rfl,_,_,rfl,rfl,(by show (0:Int) < 8;decide),rfl,_,rfl,?_⟩
   refine ite2 (fun _=>?_) (fun _=>?_)
   ·obtain⟨c,hc0⟩:∃ c,path.getLast?=some c:=by
     cases e:path.getLast? with
     | none=>rw[List.getLast?_eq_none_iff.mp e] at hp1;exact absurd hp1 (by decide)
     | some c=>exact⟨c,rfl⟩
    have hc:=last_at hc0
    refine⟨_,rfl,_,rfl,t,_,_,.int c,rfl,rfl,SqT.of hq2,hc,_,rfl,_,rfl,_,rfl,_,_,rfl,rfl,⟨by decide,by decide⟩,c,made,lost,_,rfl,fun r H2 s2=>?_⟩
    refine⟨_,rfl,_,rfl,_,rfl,t,_,rfl,s2 _ _ hq2,fun p2 H3 s3 e3=>?_⟩
    rw[el2] at e3
    refine⟨_,rfl,z1,fun u nu=>?_⟩
    refine⟨p2,u,_,_,rfl,rfl,Same.upd nu _ _ e3,upd_same,szI (by rw[ints_len];show l2.length+ 1<=_;omega),fun p3 H4 s4 e4=>?_⟩
    exact fin (path':=l2++[r]) (((s2.trans s3).trans (Same.upd nu)).trans s4) (by rw[ints_app];exact e4) (by rw[List.length_append];show l2.length+ 1<=_;omega)
   refine⟨_,?_,fun _ _ z=>z⟩
   refine⟨_,rfl,_,_,rfl,rfl,(by show (0:Int) < 8;decide),rfl,_,rfl,?_⟩
   refine ite2 (fun _=>?_) (fun _=>?_)
   ·refine⟨_,rfl,z1,fun u nu=>?_⟩
    refine⟨_,rfl,t,_,rfl,.inr (SqT.of (Same.upd nu _ _ hq2)),u,_,_,rfl,rfl,upd_same,?_,?_,?_,fun p3 H3 s3 e3=>?_⟩
    ·rw[ints_len];omega
    ·rw[ints_len];omega
    ·rw[ints_len];exact szI (by show 1* _<=_;omega)
    ·rw[rep1] at e3
     exact fin ((Same.upd nu).trans s3) e3 (by rw[List.length_replicate,ints_len];omega)
   have ho:path[j]?=some (path[j]'hjl):=List.getElem?_eq_getElem hjl
   generalize path[j]'hjl=o at ho
   refine⟨_,rfl,_,rfl,t,_,_,.int o,rfl,rfl,SqT.of hq2,atI_nat (ints_at ho),_,rfl,_,rfl,_,rfl,_,_,rfl,rfl,⟨by decide,by decide⟩,o,made,lost,_,rfl,fun r H2 s2=>?_⟩
   refine⟨_,rfl,_,rfl,_,rfl,t,_,rfl,s2 _ _ hq2,fun p2 H3 s3 e3=>?_⟩
   rw[cut_take] at e3
   refine⟨_,rfl,z1,fun u nu=>?_⟩
   refine⟨p2,u,_,_,rfl,rfl,Same.upd nu _ _ e3,upd_same,szI (by rw[ints_len,List.length_take];show _+ 1<=_;omega),fun p3 H4 s4 e4=>?_⟩
   have s24:=((s2.trans s3).trans (Same.upd nu)).trans s4
   refine⟨_,rfl,_,rfl,_,_,rfl,rfl,_,rfl,t,_,rfl,s24 _ _ hq2,fun p4 H5 s5 e5=>?_⟩
   rw[show ((j:Int)+ 1)=((j+ 1:Nat):Int) by omega,cut_drop path (j+ 1) (by omega)] at e5
   refine⟨p3,p4,_,_,rfl,rfl,s5 _ _ e4,e5,szI (by rw[List.length_append,ints_len,ints_len,List.length_take,List.length_drop];show _+ 1+ _<=_;omega),fun p5 H6 s6 e6=>?_⟩
   refine fin (path':=(path.take j++[r])++path.drop (j+ 1)) ((s24.trans s5).trans s6) (by rw[ints_app,ints_app];exact e6) ?_
   rw[List.length_append,List.length_append,List.length_take,List.length_drop]
   show _+ 1+ _<=_
   omega
  rintro σ' H' ⟨t',path',v8,rfl,s2,e2,hl⟩
  exact⟨_,rfl,_,rfl,_,rfl,by show 4<=sizeLine;decide,fun q' nq=>k q' (.rule n path' m) _ ((s1.trans s2).trans (Same.upd nq)) ⟨t',upd_same,Same.upd nq _ _ e2,hl⟩⟩
def ruleIn (ws:List (List Int)):Rw->Prop
 | .rule w p _=>∃(n:Nat) (word:List Int),w=n/\ws[n]?=some word/\1<=p.length/\p.length<=901
 | _=>True
def spBent:Sp:=fun vs H Q _=>∃(q aW:Addr) (made lost L z:Int) (ws:List (List Int)) (w:Rw),vs=[.ref q,.int made,.int lost,.ref aW,.int L,.int z]/\RowAt H q w/\WordsAt H aW ws/\ruleIn ws w/\∀ q' w' H',Same H H'->RowAt H' q' w'->Q (.ref q') H'
def isRule:Rw->Bool
 | .rule _ _ _=>true
 | _=>false
theorem row_bend {H:Hp}{q:Addr}{w:Rw}(h:RowAt H q w):∃(vs:List V) (hd:List Nat),H q=some (.tup (.str (tx hd) :: vs))/\(vs.length=3\/vs.length=4)/\(hd=[114,117,108,101]↔isRule w=true)/\
 ∀ i:Nat,i < vs.length->(i=1->isRule w=false)->(∃ z,vs[i]?=some (.int z))/\∀(b:Int) (q':Addr) (H':Hp),Same H H'->H' q'=some (.tup ((.str (tx hd) :: vs.take i)++[.int b]++vs.drop (i+ 1)))->∃ w',RowAt H' q' w':=by
 cases w with
 | new c s n=>
   refine⟨[.int c,.int s,.int n],[110,101,119],h,.inl rfl,⟨(fun z=>by cases z),(fun z=>by cases z)⟩,fun i hi _=>?_⟩
   match i,hi with
   | 0,_=>exact⟨⟨c,rfl⟩,fun b q' H' _ e=>⟨.new b s n,e⟩⟩
   | 1,_=>exact⟨⟨s,rfl⟩,fun b q' H' _ e=>⟨.new c b n,e⟩⟩
   | 2,_=>exact⟨⟨n,rfl⟩,fun b q' H' _ e=>⟨.new c s b,e⟩⟩
   | i+ 3,hi=>exact absurd hi (by simp)
 | rule w p k=>
   obtain⟨t,h1,h2,h3⟩:=h
   refine⟨[.int w,.ref t,.int k],[114,117,108,101],h1,.inl rfl,⟨fun _=>rfl,fun _=>rfl⟩,fun i hi h9=>?_⟩
   match i,hi,h9 with
   | 0,_,_=>exact⟨⟨w,rfl⟩,fun b q' H' s e=>⟨.rule b p k,t,e,s _ _ h2,h3⟩⟩
   | 1,_,h9=>exact(Bool.false_ne_true (h9 rfl).symm).elim
   | 2,_,_=>exact⟨⟨k,rfl⟩,fun b q' H' s e=>⟨.rule w p b,t,e,s _ _ h2,h3⟩⟩
   | i+ 3,hi,_=>exact absurd hi (by simp)
 | meet c s x y=>
   refine⟨[.int c,.int s,.int x,.int y],[109,101,101,116],h,.inr rfl,⟨(fun z=>by cases z),(fun z=>by cases z)⟩,fun i hi _=>?_⟩
   match i,hi with
   | 0,_=>exact⟨⟨c,rfl⟩,fun b q' H' _ e=>⟨.meet b s x y,e⟩⟩
   | 1,_=>exact⟨⟨s,rfl⟩,fun b q' H' _ e=>⟨.meet c b x y,e⟩⟩
   | 2,_=>exact⟨⟨x,rfl⟩,fun b q' H' _ e=>⟨.meet c s b y,e⟩⟩
   | 3,_=>exact⟨⟨y,rfl⟩,fun b q' H' _ e=>⟨.meet c s x b,e⟩⟩
   | i+ 4,hi=>exact absurd hi (by simp)
theorem cutV_to (vs:List V)(j:Nat):cutV vs none (some (j:Int))=vs.take j:=by
 unfold cutV
 rw[HT.sIx_nat]
 show (List.drop 0 vs).take (min j _ - 0)=_
 rw[List.drop_zero,Nat.sub_zero]
 by_cases hle:j<=vs.length
 ·rw[Nat.min_eq_left hle]
 ·rw[Nat.min_eq_right (by omega),List.take_length,List.take_of_length_le (by omega)]
theorem cutV_from (vs:List V)(j:Nat)(h:j<=vs.length):cutV vs (some (j:Int)) none=vs.drop j:=by
 unfold cutV
 rw[HT.sIx_nat,Nat.min_eq_left h]
 show (vs.drop j).take (vs.length - j)=_
 rw[List.take_of_length_le (by rw[List.length_drop];exact Nat.le_refl _)]
theorem comp_rangeLo {H:Hp}{lo:Int}{n:Nat}{tt:TT}{te:TE}{fv:St}{Q:VK}(P:Nat->Bool)(hm:n<=100000)(ht:∀(i:Nat) (Rr:Bool->Hp->Prop),i < n->Rr (P i) H->tt (some (.int (lo+ (i:Int))) :: fv) H Rr)
 (he:∀(i:Nat) (Rr:VK),Rr (.int (lo+ (i:Int))) H->te (some (.int (lo+ (i:Int))) :: fv) H Rr) (k:∀ D,H D=none->Q (.ref D) (upd H D (.lst (intV (((List.range n).filter P).map fun i:Nat=>lo+ (i:Int)))))):CompGoIf tt te fv Q (Itr lo n) H:=by
 refine⟨fun i m ys H2=>m=n - i/\i<=n/\ys=intV (((List.range i).filter P).map fun i:Nat=>lo+ (i:Int))/\H2=H,⟨n,by simp,Nat.zero_le _,rfl,rfl⟩,?_⟩
 rintro i m ys H2 ⟨rfl,hi,rfl,rfl⟩
 have hlen:(intV (((List.range i).filter P).map fun i:Nat=>lo+ (i:Int))).length<=i:=by
  rw[ints_len,List.length_map]
  exact Nat.le_trans (List.length_filter_le _ _) (by rw[List.length_range];exact Nat.le_refl _)
 by_cases hlt:i < n
 ·refine .inr ⟨hlt,?_,fun x H3 hyl=>?_⟩
  ·exact Nat.lt_of_le_of_lt (Nat.le_trans hlen (show i<=100000 by omega)) (by decide)
  obtain⟨rfl,rfl⟩:=hyl
  refine ht i _ hlt ?_
  cases hP:P i with
  | true=>
    refine he i _ ⟨n - (i+ 1),by omega,rfl,hlt,?_,rfl⟩
    rw[List.range_succ,List.filter_append,List.filter_cons_of_pos hP,List.filter_nil,List.map_append,ints_app];rfl
  | false=>
    refine⟨n - (i+ 1),by omega,rfl,hlt,?_,rfl⟩
    rw[List.range_succ,List.filter_append,List.filter_cons_of_neg (by rw[hP];exact Bool.false_ne_true),List.filter_nil,List.append_nil]
 ·have e:i=n:=by omega
  subst e
  exact .inl ⟨Nat.le_refl _,Nat.le_trans hlen (Nat.le_trans hm (by decide)),fun D hD=>k D hD⟩
theorem ok__law_bent (T:Txt K mg A):FnOk P w K mg base CX0 3 A.f__law_bent A.d__law_bent ["_law_row_here","_law_made","_law_lost","_law_words","_law_letters","_law_number"] spBent:=by
 have G__law_bent_number:FnOk P w K mg base CX0 1 A.f__law_bent_number A.d__law_bent_number ["_law_old","_law_count","_law_lost","_law_number"] spBentNumber:=ok__law_bent_number T
 have G__law_bent_path:FnOk P w K mg base CX0 2 A.f__law_bent_path A.d__law_bent_path ["_law_row_here","_law_made","_law_lost","_law_number"] spBentPath:=ok__law_bent_path T
 have G__law_bent_step:FnOk P w K mg base CX0 1 A.f__law_bent_step A.d__law_bent_step ["_law_old","_law_letters","_law_number"] spBentStep:=ok__law_bent_step T
 refine T._law_bent.F.ok sc__law_bent (fun vs H Q E h=>?_) (fun cdv AA outer s H vs Q E hr h=>?_)
 ·obtain⟨q,aW,made,lost,L,z,ws,w,rfl,_⟩:=h
  rfl
 ·obtain⟨q,aW,made,lost,L,z,ws,w,rfl,hq,hW,hin,k⟩:=h
  refine⟨_,(pss_cons (ps_set (i:=6) sc__law_bent.nd rfl (Or.inl rfl) (pe_op op_fdiv (pv 5) pe_int))
   (pss_cons (ps_cut (ps_if (PW.pt (pw_and (pt_cmpR op_eq (pe_ix ix_tup (pv 0) pe_int (fun _ _=>rfl)) (pe_strX (l:=[114,117,108,101]) rfl) (nomark _)) (pw_and1 (pt_cmpR op_lt (pe_op op_mod (pv 5) pe_int) pe_int (nomark _)))))
    (pss_one (ps_ret (pe_call (G__law_bent_path) (hr.mono (by decide)) rfl T._law_bent_path.m T._law_bent_path.F.kp T._law_bent_path.b .nil pass0 (pa_cons (pv 0) (pa_cons (pv 1) (pa_cons (pv 2) (pa_cons (pv 6) pa_nil)))))))
    pss_nil))
   (pss_cons (ps_cut (ps_if (PW.pt (pw_and (pt_cmpR op_ne (pe_ix ix_tup (pv 0) pe_int (fun _ _=>rfl)) (pe_strX (l:=[114,117,108,101]) rfl) (nomark _)) (pw_and1 (pt_cmpR op_lt (pe_op op_mod (pv 5) pe_int) pe_int (nomark _)))))
    (pss_one (ps_ret (pe_op op_catTT (pe_op op_catTT (pe_slice sl_tupTT (pv 0) po_none (po_some pe_int)) (pe_tup (pa_cons (pe_call (G__law_bent_step) (hr.mono (by decide)) rfl T._law_bent_step.m T._law_bent_step.F.kp T._law_bent_step.b .nil pass0 (pa_cons (pe_ix ix_tup (pv 0) pe_int (fun _ _=>rfl)) (pa_cons (pv 4) (pa_cons (pv 6) pa_nil)))) pa_nil))) (pe_slice sl_tupTT (pv 0) (po_some pe_int) po_none))))
    pss_nil))
   (pss_cons (ps_setCompIf (iy:=7) sc__law_bent.nd rfl (Or.inl rfl) (fns:=[]) (ixs:=[]) (cl:=_) rfl (pi_range2 rfl T.z_range (pa_cons pe_int (pa_cons (pe_callB call_len_seq rfl T.z_len PySem.boot_len (pa_cons (pv 0) pa_nil)) pa_nil))) (compScope0 (by decide +kernel) (by decide +kernel) rfl (by decide +kernel) rfl) (fun C s H ex=>(pt_cmpR op_ne (pv 0) pe_int (nomark _))) (fun C s H ex=>(pv 0)))
   (pss_cons (ps_set (i:=8) sc__law_bent.nd rfl (Or.inl rfl) (pe_ix ix_list (pv 7) (pe_op op_mod (pv 6) (pe_callB call_len_seq rfl T.z_len PySem.boot_len (pa_cons (pv 7) pa_nil))) (fun _ _=>rfl)))
   (pss_cons (ps_set (i:=9) sc__law_bent.nd rfl (Or.inl rfl) (pv 1))
   (pss_cons (ps_cut (ps_if (pt_cmpR op_eq (pe_ix ix_tup (pv 0) pe_int (fun _ _=>rfl)) (pe_strX (l:=[114,117,108,101]) rfl) (nomark _))
    (pss_one (ps_set (i:=9) sc__law_bent.nd rfl (Or.inl rfl) (pe_ix ix_list (pe_lst (pa_cons (pe_callB call_len_seq rfl T.z_len PySem.boot_len (pa_cons (pv 3) pa_nil)) (pa_cons (pe_callB call_len_seq rfl T.z_len PySem.boot_len (pa_cons (pe_ix ix_list (pv 3) (pe_ix ix_tup (pv 0) pe_int (fun _ _=>rfl)) (fun _ _=>rfl)) pa_nil)) pa_nil))) (pe_callTy call_intB rfl T.z_int PyProof.Rows.boot_int (pa_cons (pe_cmpR op_eq (pv 8) pe_int (nomark _)) pa_nil)) (fun _ _=>rfl))))
    pss_nil))
   (pss_cons (ps_set (i:=10) sc__law_bent.nd rfl (Or.inl rfl) (pe_call (G__law_bent_number) (hr.mono (by decide)) rfl T._law_bent_number.m T._law_bent_number.F.kp T._law_bent_number.b .nil pass0 (pa_cons (pe_ix ix_tup (pv 0) (pv 8) (fun _ _=>rfl)) (pa_cons (pv 9) (pa_cons (pv 2) (pa_cons (pe_op op_fdiv (pv 6) pe_int) pa_nil))))))
   (pss_one (ps_ret (pe_op op_catTT (pe_op op_catTT (pe_slice sl_tupTT (pv 0) po_none (po_some (pv 8))) (pe_tup (pa_cons (pv 10) pa_nil))) (pe_slice sl_tupTT (pv 0) (po_some (pe_op op_add (pv 8) pe_int)) po_none)))))))))))),?_⟩
  try dsimp only[cx_noxK,cx_K]
  refine seq_let8 ?_
  intro u_8 u_7 u_6 u_5 u_4 u_3 u_2 u_1
  obtain⟨vs,hd,hqv,hvl,hrl,hbd⟩:=row_bend hq
  have z1:1<=sizeLine:=by decide
  have h0:atI (V.str (tx hd) :: vs) 0=some (.str (tx hd)):=atI_nat (j:=0) rfl
  have fin:∀{H1 H2:Hp} {i:Nat} {b:Int} {q':Addr},Same H H1->Same H1 H2->i < vs.length->(i=1->isRule w=false)->H2 q'=some (.tup ((.str (tx hd) :: vs.take i)++[.int b]++vs.drop (i+ 1)))->Q (.ref q') H2:=fun{H1 H2 i b q'} s1 s2 hi hr e=>by
   obtain⟨w',hw'⟩:=(hbd i hi hr).2 b q' H2 (s1.trans s2) e
   exact k q' w' H2 (s1.trans s2) hw'
  refine⟨_,rfl,_,_,rfl,rfl,⟨by decide,by decide⟩,?_⟩
  refine⟨fun σ' H'=>σ'=[some (.ref q),some (.int made),some (.int lost),some (.ref aW),some (.int L),some (.int z),some (.int (z / 8)),none,none,none,none]/\H'=H,?_,?_⟩
  ·refine⟨_,rfl,q,_,_,.str (tx hd),rfl,rfl,SqT.of hqv,h0,rfl,_,rfl,?_⟩
   refine ite2 (fun e=>?_) (fun _=>⟨rfl,rfl⟩)
   have eh:isRule w=true:=hrl.mp (by have:=of_decide_eq_true e;injection this with this;exact tx_inj this)
   refine⟨_,rfl,_,_,rfl,rfl,(by show (0:Int) < 8;decide),_,_,rfl,rfl,_,rfl,?_⟩
   refine ite2 (fun _=>?_) (fun _=>⟨rfl,rfl⟩)
   cases w with
   | new c s n=>cases eh
   | meet c s x y=>cases eh
   | rule n path m=>
     obtain⟨_,_,_,_,p1,p2⟩:=hin
     exact⟨_,rfl,_,rfl,_,rfl,_,rfl,q,n,m,made,lost,_,path,rfl,hq,p1,p2,k⟩
  rintro σ' H' ⟨rfl,rfl⟩
  refine⟨fun σ' H1=>σ'=[some (.ref q),some (.int made),some (.int lost),some (.ref aW),some (.int L),some (.int z),some (.int (z / 8)),none,none,none,none]/\H1=H',?_,?_⟩
  ·refine⟨_,rfl,q,_,_,.str (tx hd),rfl,rfl,SqT.of hqv,h0,rfl,_,rfl,?_⟩
   refine ite2 (fun e=>?_) (fun _=>⟨rfl,rfl⟩)
   have eh:isRule w=false:=by
    cases e2:isRule w with
    | false=>rfl
    | true=>rw[hrl.mpr e2] at e;exact absurd e (by rw[decide_eq_true rfl];decide)
   refine⟨_,rfl,_,_,rfl,rfl,(by show (0:Int) < 8;decide),_,_,rfl,rfl,_,rfl,?_⟩
   refine ite2 (fun _=>?_) (fun _=>⟨rfl,rfl⟩)
   obtain⟨⟨s,hs⟩,_⟩:=hbd 1 (by omega) (fun _=>eh)
   refine⟨_,rfl,_,rfl,q,_,rfl,hqv,fun p2 H2 s2 e2=>?_⟩
   rw[show (2:Int)=((2:Nat):Int) from rfl,cutV_to] at e2
   refine⟨_,rfl,q,_,_,.int s,rfl,rfl,SqT.of (s2 _ _ hqv),atI_nat (j:=2) hs,_,rfl,_,rfl,s,L,_,rfl,fun r H3 s3=>?_⟩
   refine⟨z1,fun u nu=>?_⟩
   refine⟨p2,u,_,_,rfl,rfl,Same.upd nu _ _ (s3 _ _ e2),upd_same,szI (by rw[List.length_take];show _+ 1<=_;omega),fun p3 H4 s4 e4=>?_⟩
   have s24:=((s2.trans s3).trans (Same.upd nu)).trans s4
   refine⟨_,rfl,_,rfl,q,_,rfl,s24 _ _ hqv,fun p4 H5 s5 e5=>?_⟩
   rw[show (3:Int)=((3:Nat):Int) from rfl,cutV_from _ 3 (by rw[List.length_cons];omega)] at e5
   refine⟨p3,p4,_,_,rfl,rfl,s5 _ _ e4,e5,szI (by rw[List.length_append,List.length_take,List.length_drop,List.length_cons];show _+ 1+ _<=_;omega),fun p5 H6 s6 e6=>?_⟩
   exact fin (i:=1) ((s24.trans s5)) s6 (by omega) (fun _=>eh) e6
  rintro σ1 H1 ⟨rfl,rfl⟩
  refine⟨_,rfl,q,_,rfl,.inr (SqT.of hqv),1,_,rfl,⟨by decide,by decide,by rw[List.length_cons];omega,by rw[List.length_cons];omega⟩,?_⟩
  refine comp_rangeLo (fun i:Nat=>!decide (V.int (1+ (i:Int))=V.int 2)) (by rw[List.length_cons];omega) (fun i Rr _ hR=>⟨_,rfl,rfl,_,rfl,hR⟩) (fun i Rr hR=>⟨_,rfl,hR⟩) (fun D nD=>?_)
  have est:∃ st:List Int,((List.range ((((V.str (tx hd) :: vs).length:Nat):Int) - 1).toNat).filter fun i:Nat=>!decide (V.int (1+ (i:Int))=V.int 2)).map (fun i:Nat=>1+ (i:Int))=st/\0 < st.length/\∀ c∈st,∃ i:Nat,c=(i:Int)+ 1/\i < vs.length/\i≠1:=by
   rw[List.length_cons]
   rcases hvl with e | e
   ·rw[e]
    exact⟨[1,3],by decide,by decide,fun c hc=>by
     rcases List.mem_cons.mp hc with rfl | hc
     ·exact⟨0,rfl,by omega,by omega⟩
     ·rw[List.mem_singleton.mp hc];exact⟨2,rfl,by omega,by omega⟩⟩
   ·rw[e]
    exact⟨[1,3,4],by decide,by decide,fun c hc=>by
     rcases List.mem_cons.mp hc with rfl | hc
     ·exact⟨0,rfl,by omega,by omega⟩
     ·rcases List.mem_cons.mp hc with rfl | hc
      ·exact⟨2,rfl,by omega,by omega⟩
      ·rw[List.mem_singleton.mp hc];exact⟨3,rfl,by omega,by omega⟩⟩
  obtain⟨st,est,hs1,hst⟩:=est
  rw[est]
  have s2:=Same.upd (o:=.lst (intV st)) nD
  have q2:upd H1 D (.lst (intV st)) D=some (.lst (intV st)):=upd_same
  generalize upd H1 D (.lst (intV st))=H2 at s2 q2 ⊢
  obtain⟨c,hc,hat⟩:=pick_at (z / 8) hs1
  obtain⟨i,rfl,hi,hi1⟩:=hst c hc
  refine⟨_,rfl,_,rfl,_,rfl,D,_,rfl,.inl (SqL.of q2),_,_,rfl,rfl,len_pos hs1,D,_,_,.int ((i:Int)+ 1),rfl,rfl,SqL.of q2,hat,?_⟩
  refine⟨_,rfl,?_⟩
  have hq2:=s2 _ _ hqv
  refine⟨fun σ' H3=>∃ cn:Int,σ'=[some (.ref q),some (.int made),some (.int lost),some (.ref aW),some (.int L),some (.int z),some (.int (z / 8)),some (.ref D),some (.int ((i:Int)+ 1)),some (.int cn),none]/\Same H2 H3,?_,?_⟩
  ·refine⟨_,rfl,q,_,_,.str (tx hd),rfl,rfl,SqT.of hq2,h0,rfl,_,rfl,?_⟩
   refine ite2 (fun e=>?_) (fun _=>⟨_,rfl,Same.refl _⟩)
   have eh:isRule w=true:=hrl.mp (by have:=of_decide_eq_true e;injection this with this;exact tx_inj this)
   cases w with
   | new c s n=>cases eh
   | meet c s x y=>cases eh
   | rule n path m=>
     obtain⟨nn,word,rfl,hw,_,_⟩:=hin
     obtain⟨ps,hps,hpt⟩:=hW
     obtain⟨t,hq1,_,_⟩:=hq
     have ht:ps[nn]?=some (ps[nn]'(by rw[hpt.1];exact(List.getElem?_eq_some_iff.mp hw).1)):=List.getElem?_eq_getElem _
     generalize ps[nn]'(by rw[hpt.1];exact(List.getElem?_eq_some_iff.mp hw).1)=tw at ht
     have htw:=s2 _ _ (hpt.2 nn tw word ht hw)
     have hps2:=s2 _ _ hps
     refine⟨_,rfl,aW,_,rfl,.inl (SqL.of hps2),_,rfl,_,rfl,q,_,_,.int nn,rfl,rfl,SqT.of (s2 _ _ hq1),rfl,aW,_,_,.ref tw,rfl,rfl,SqL.of hps2,atI_nat (by rw[List.getElem?_map,ht];rfl),tw,_,rfl,.inr (SqT.of htw),by show 2<=sizeLine;decide,fun a na=>?_⟩
     refine⟨_,rfl,rfl,?_⟩
     by_cases e3:i=2
     ·subst e3
      exact⟨_,rfl,a,_,_,.int _,rfl,rfl,SqL.of upd_same,rfl,_,rfl,Same.upd na⟩
     ·have:decide (V.int ((i:Int)+ 1)=V.int 3)=false:=decide_eq_false fun z=>e3 (by injection z;omega)
      rw[this]
      exact⟨_,rfl,a,_,_,.int _,rfl,rfl,SqL.of upd_same,rfl,_,rfl,Same.upd na⟩
  rintro σ3 H3 ⟨cn,rfl,s3⟩
  have s13:=s2.trans s3
  have hq3:=s13 _ _ hqv
  obtain⟨⟨o,ho⟩,_⟩:=hbd i hi (fun e=>absurd e hi1)
  have ei:((i:Int)+ 1)=((i+ 1:Nat):Int):=by omega
  rw[ei]
  refine⟨_,rfl,_,rfl,q,_,_,.int o,rfl,rfl,SqT.of hq3,atI_nat (j:=i+ 1) ho,_,rfl,_,rfl,_,rfl,_,_,rfl,rfl,⟨by decide,by decide⟩,o,cn,lost,_,rfl,fun r H4 s4=>?_⟩
  refine⟨_,rfl,_,rfl,_,rfl,q,_,rfl,s4 _ _ hq3,fun p2 H5 s5 e5=>?_⟩
  rw[cutV_to] at e5
  refine⟨_,rfl,z1,fun u nu=>?_⟩
  refine⟨p2,u,_,_,rfl,rfl,Same.upd nu _ _ e5,upd_same,szI (by rw[List.length_take,List.length_cons];show _+ 1<=_;omega),fun p3 H6 s6 e6=>?_⟩
  have s16:=(((s13.trans s4).trans s5).trans (Same.upd nu)).trans s6
  refine⟨_,rfl,_,rfl,_,_,rfl,rfl,_,rfl,q,_,rfl,s16 _ _ hqv,fun p4 H7 s7 e7=>?_⟩
  rw[show (((i+ 1:Nat):Int)+ 1)=((i+ 2:Nat):Int) by omega,cutV_from _ (i+ 2) (by rw[List.length_cons];omega)] at e7
  refine⟨p3,p4,_,_,rfl,rfl,s7 _ _ e6,e7,szI (by rw[List.length_append,List.length_take,List.length_drop,List.length_cons];show _+ 1+ _<=_;omega),fun p5 H8 s8 e8=>?_⟩
  exact fin (i:=i) (s16.trans s7) s8 hi (fun e=>absurd e hi1) e8
theorem ref_at {rs:List Addr}{i:Nat}{r:Addr}(h:rs[i]?=some r):atI (rs.map V.ref) (i:Int)=some (V.ref r):=atI_nat (by rw[List.getElem?_map,h];rfl)
theorem cut_refs_to (qs:List Addr)(j:Nat):cutV (qs.map V.ref) none (some (j:Int))=(qs.take j).map V.ref:=by
 unfold cutV
 rw[HT.sIx_nat]
 show (List.drop 0 (qs.map V.ref)).take (min j _ - 0)=_
 rw[List.drop_zero,Nat.sub_zero,List.map_take]
 by_cases hle:j<=(qs.map V.ref).length
 ·rw[Nat.min_eq_left hle]
 ·rw[Nat.min_eq_right (by omega),List.take_length,List.take_of_length_le (by omega)]
theorem rule_in {L:Int}{ws:List (List Int)}{cm:Int}{X:AS}(hl:∀ w∈ws,w.length<=900):∀{w:Rw},okA L ws cm X w->ruleIn ws w
 | .new _ _ _,_=>trivial
 | .meet _ _ _ _,_=>trivial
 | .rule _ p _,⟨n,_,word,_,_,_,e1,_,h1,_,_,_,h5,_⟩=>⟨n,word,e1,h1,by omega,by have:=hl word (List.mem_of_getElem? h1);omega⟩
def spBentAt:Sp:=fun vs H Q _=>∃(pp aW:Addr) (L:Int) (ws:List (List Int)) (cm:Nat) (qs:List Addr) (rows:List Rw) (j:Nat) (z:Int),vs=[.ref pp,.int j,.ref aW,.int L,.int z]/\L < 10/\WordsAt H aW ws/\WsOk L ws/\H pp=some (.lst (qs.map V.ref))/\RowsOn H qs rows/\Right L ws cm AS0 rows/\rows.length<=2000/\j < rows.length/\∀ q' w' H',Same H H'->RowAt H' q' w'->Q (.ref q') H'
theorem ok__law_bent_at (T:Txt K mg A):FnOk P w K mg base CX0 5 A.f__law_bent_at A.d__law_bent_at ["_law_paper_here","_law_place","_law_words","_law_letters","_law_number"] spBentAt:=by
 have G__law_state:FnOk P w K mg base CX0 4 A.f__law_state A.d__law_state ["_law_words","_law_paper_here"] spState:=ok__law_state T
 have G__law_bent:FnOk P w K mg base CX0 3 A.f__law_bent A.d__law_bent ["_law_row_here","_law_made","_law_lost","_law_words","_law_letters","_law_number"] spBent:=ok__law_bent T
 refine T._law_bent_at.F.ok sc__law_bent_at (fun vs H Q E h=>?_) (fun cdv AA outer s H vs Q E hr h=>?_)
 ·obtain⟨pp,aW,L,ws,cm,qs,rows,j,z,rfl,_⟩:=h
  rfl
 ·obtain⟨pp,aW,L,ws,cm,qs,rows,j,z,rfl,hL,hW,hok,hpp,hro,hri,hrl,hj,k⟩:=h
  refine⟨_,(pss_cons (ps_asg (pe_call (G__law_state) (hr.mono (by decide)) rfl T._law_state.m T._law_state.F.kp T._law_state.b .nil pass0 (pa_cons (pv 2) (pa_cons (pe_slice sl_list (pv 0) po_none (po_some (pv 1))) pa_nil))) (pg_tup rfl (pgs_cons (pg_name (i:=5) sc__law_bent_at.nd rfl (Or.inl rfl)) (pgs_cons (pg_name (i:=6) sc__law_bent_at.nd rfl (Or.inl rfl)) (pgs_cons (pg_name (i:=7) sc__law_bent_at.nd rfl (Or.inl rfl)) pgs_nil)))))
   (pss_cons (ps_set (i:=8) sc__law_bent_at.nd rfl (Or.inl rfl) (pe_ix ix_list (pe_lst (pa_cons (pv 6) (pa_cons (pe_un un_neg pe_int) pa_nil))) (pe_op op_mod (pv 4) pe_int) (fun _ _=>rfl)))
   (pss_cons (ps_cut (ps_if (PW.pt (pw_and (pt_cmpR op_gt (pe_callB call_len_seq rfl T.z_len PySem.boot_len (pa_cons (pv 7) pa_nil)) pe_int (nomark _)) (pw_and1 (pt_cmpR op_gt (pe_op op_mod (pe_op op_fdiv (pv 4) pe_int) pe_int) pe_int (nomark _)))))
    (pss_one (ps_set (i:=8) sc__law_bent_at.nd rfl (Or.inl rfl) (pe_ix ix_list (pv 7) (pe_op op_mod (pe_op op_fdiv (pv 4) pe_int) (pe_callB call_len_seq rfl T.z_len PySem.boot_len (pa_cons (pv 7) pa_nil))) (fun _ _=>rfl))))
    pss_nil))
   (pss_one (ps_ret (pe_call (G__law_bent) (hr.mono (by decide)) rfl T._law_bent.m T._law_bent.F.kp T._law_bent.b .nil pass0 (pa_cons (pe_ix ix_list (pv 0) (pv 1) (fun _ _=>rfl)) (pa_cons (pv 6) (pa_cons (pv 8) (pa_cons (pv 2) (pa_cons (pv 3) (pa_cons (pe_op op_fdiv (pv 4) pe_int) pa_nil)))))))))))),?_⟩
  try dsimp only[cx_noxK,cx_K]
  refine seq_let3 ?_
  intro u_3 u_2 u_1
  have hqr:=hro.1
  refine⟨_,rfl,_,rfl,_,rfl,_,rfl,pp,_,rfl,SqL.of hpp,fun b1 n1=>?_⟩
  rw[cut_refs_to]
  have s1:=Same.upd (o:=.lst ((qs.take j).map V.ref)) n1
  have q1:upd H b1 (.lst ((qs.take j).map V.ref)) b1=some (.lst ((qs.take j).map V.ref)):=upd_same
  generalize upd H b1 (.lst ((qs.take j).map V.ref))=H1 at s1 q1 ⊢
  refine⟨aW,b1,L,ws,cm,qs.take j,rows.take j,rfl,hL,hW.same s1,hok,q1,(hro.same s1).take j,right_take j hri,by rw[List.length_take];omega,fun t p g X went H2 s2 ht _ _ hg _ _ _=>?_⟩
  refine⟨t,_,rfl,SqT.of ht,rfl,_,_,rfl,_,_,rfl,_,_,rfl,rfl,?_⟩
  have s02:=s1.trans s2
  refine⟨_,rfl,_,rfl,by show 2<=sizeLine;decide,fun a na=>?_⟩
  have s3:=Same.upd (o:=.lst [.int X.made,.int (-1)]) na
  have q3:upd H2 a (.lst [.int X.made,.int (-1)]) a=some (.lst [.int X.made,.int (-1)]):=upd_same
  generalize upd H2 a (.lst [.int X.made,.int (-1)])=H3 at s3 q3 ⊢
  obtain⟨lost,hlost⟩:=pick2 X.made (-1) z
  refine⟨_,rfl,_,_,rfl,rfl,(by show (0:Int) < 2;decide),a,_,_,.int lost,rfl,rfl,SqL.of q3,hlost,?_⟩
  have hg3:=s3 _ _ hg
  refine⟨fun σ' H'=>∃ lost:Int,σ'=[some (.ref pp),some (.int (j:Int)),some (.ref aW),some (.int L),some (.int z),some (.ref p),some (.int X.made),some (.ref g),some (.int lost)]/\H'=H3,?_,?_⟩
  ·refine⟨_,rfl,g,_,rfl,.inl (SqL.of hg3),_,_,rfl,rfl,_,rfl,?_⟩
   refine ite2 (fun w=>?_) (fun w=>?_)
   ·have hw0:0 < went.length:=by
     have:=of_decide_eq_true w
     rw[ints_len] at this
     omega
    refine⟨_,rfl,_,_,rfl,rfl,⟨by decide,by decide⟩,_,_,rfl,rfl,(by show (0:Int) < 4;decide),_,_,rfl,rfl,_,rfl,?_⟩
    refine ite2 (fun _=>?_) (fun _=>⟨lost,rfl,rfl⟩)
    obtain⟨c,_,hat⟩:=pick_at (z / 8) hw0
    exact⟨_,rfl,_,rfl,_,_,rfl,rfl,⟨by decide,by decide⟩,_,rfl,g,_,rfl,.inl (SqL.of hg3),_,_,rfl,rfl,len_pos hw0,g,_,_,.int c,rfl,rfl,SqL.of hg3,hat,c,rfl,rfl⟩
   ·exact⟨lost,rfl,rfl⟩
  clear hlost lost
  rintro σ4 H4 ⟨lost,rfl,rfl⟩
  have s04:=s02.trans s3
  have g1:qs[j]?=some (qs[j]'(by omega)):=List.getElem?_eq_getElem (by omega)
  have g2:rows[j]?=some (rows[j]'hj):=List.getElem?_eq_getElem hj
  generalize qs[j]'(by omega)=q at g1
  generalize rows[j]'hj=w at g2
  refine⟨_,rfl,_,rfl,pp,_,_,.ref q,rfl,rfl,SqL.of (s04 _ _ hpp),ref_at g1,_,rfl,_,rfl,_,rfl,_,rfl,_,rfl,_,_,rfl,rfl,⟨by decide,by decide⟩,?_⟩
  exact⟨q,aW,X.made,lost,L,_,ws,w,rfl,(hro.2 j q w g1 g2).same s04,hW.same s04,rule_in (fun w hw=>(hok w hw).2.2) (right_at hri g2),fun q' w' H' s' hq'=>k q' w' H' (s04.trans s') hq'⟩
theorem RowsOn.app {H:Hp}{qs qs':List Addr}{rows rows':List Rw}(h:RowsOn H qs rows)(g:RowsOn H qs' rows'):RowsOn H (qs++qs') (rows++rows'):=by
 have hl:=h.1
 refine⟨by rw[List.length_append,List.length_append,h.1,g.1],fun i q w e1 e2=>?_⟩
 by_cases hi:i < qs.length
 ·rw[List.getElem?_append_left hi] at e1
  rw[List.getElem?_append_left (by omega)] at e2
  exact h.2 i q w e1 e2
 ·rw[List.getElem?_append_right (by omega)] at e1 e2
  rw[← hl] at e2
  exact g.2 _ q w e1 e2
theorem RowsOn.one {H:Hp}{q:Addr}{w:Rw}(h:RowAt H q w):RowsOn H [q] [w]:=by
 refine⟨rfl,fun i a b e1 e2=>?_⟩
 match i,e1,e2 with
 | 0,e1,e2=>rw[← Option.some.inj e1,← Option.some.inj e2];exact h
 | i+ 1,e1,_=>simp at e1
def RL (H:Hp)(l:Addr)(n:Nat):Prop:=∃(qs:List Addr) (rows:List Rw),H l=some (.lst (qs.map V.ref))/\RowsOn H qs rows/\qs.length<=n
theorem RL.same {H H':Hp}{l:Addr}{n:Nat}(h:RL H l n)(s:Same H H'):RL H' l n:=by
 obtain⟨qs,rows,h1,h2,h3⟩:=h
 exact⟨qs,rows,s _ _ h1,h2.same s,h3⟩
theorem RL.le {H:Hp}{l:Addr}{n n':Nat}(h:RL H l n)(hn:n<=n'):RL H l n':=by
 obtain⟨qs,rows,h1,h2,h3⟩:=h
 exact⟨qs,rows,h1,h2,by omega⟩
theorem RL.at {H:Hp}{l:Addr}{n:Nat}(h:RL H l n):∃ xs,H l=some (.lst xs)/\xs.length<=n:=by
 obtain⟨qs,rows,h1,h2,h3⟩:=h
 exact⟨_,h1,by rw[List.length_map];exact h3⟩
theorem RL.cut {H H':Hp}{l b:Addr}{n:Nat}{lo hi:Option Int}{xs:List V}(h:RL H l n)(hx:H l=some (.lst xs))(s:Same H H')(nb:H' b=none):RL (upd H' b (.lst (cutV xs lo hi))) b n:=by
 obtain⟨qs,rows,h1,h2,h3⟩:=h
 rw[hx] at h1
 have e:xs=qs.map V.ref:=by injection h1 with h1;injection h1
 subst e
 obtain⟨k1,k2,ek⟩:∃ k n:Nat,cutV (qs.map V.ref) lo hi=((qs.drop k).take n).map V.ref:=⟨_,_,by unfold cutV;rw[List.map_take,List.map_drop]⟩
 have ro:∀ k n:Nat,RowsOn H ((qs.drop k).take n) ((rows.drop k).take n):=fun k n=>by
  have hl:=h2.1
  refine⟨by rw[List.length_take,List.length_take,List.length_drop,List.length_drop,hl],fun i q w e1 e2=>?_⟩
  rw[List.getElem?_take] at e1 e2
  split at e1
  ·rename_i hi
   rw[if_pos hi] at e2
   rw[List.getElem?_drop] at e1 e2
   exact h2.2 _ q w e1 e2
  ·cases e1
 exact⟨_,_,by rw[ek,upd_same],((ro k1 k2).same s).same (Same.upd nb),by rw[List.length_take,List.length_drop];omega⟩
theorem RL.app {H H':Hp}{l m b:Addr}{n n':Nat}{xs ys:List V}(h:RL H l n)(g:RL H m n')(hx:H l=some (.lst xs))(hy:H m=some (.lst ys))(s:Same H H')(nb:H' b=none):RL (upd H' b (.lst (xs++ys))) b (n+ n'):=by
 obtain⟨qs,rows,h1,h2,h3⟩:=h
 obtain⟨qs',rows',g1,g2,g3⟩:=g
 rw[hx] at h1
 rw[hy] at g1
 have e:xs=qs.map V.ref:=by injection h1 with h1;injection h1
 have e':ys=qs'.map V.ref:=by injection g1 with g1;injection g1
 subst e e'
 exact⟨_,_,by rw[← List.map_append,upd_same],((h2.app g2).same s).same (Same.upd nb),by rw[List.length_append];omega⟩
theorem RL.rev {H H':Hp}{l b:Addr}{n:Nat}{xs:List V}(h:RL H l n)(hx:H l=some (.lst xs))(s:Same H H')(nb:H' b=none):RL (upd H' b (.lst xs.reverse)) b n:=by
 obtain⟨qs,rows,h1,h2,h3⟩:=h
 rw[hx] at h1
 have e:xs=qs.map V.ref:=by injection h1 with h1;injection h1
 subst e
 have hl:=h2.1
 refine⟨qs.reverse,rows.reverse,by rw[← List.map_reverse,upd_same],⟨by rw[List.length_reverse,List.length_reverse,hl],fun i q w e1 e2=>?_⟩,by rw[List.length_reverse];exact h3⟩
 have hi:=(List.getElem?_eq_some_iff.mp e1).1
 rw[List.length_reverse] at hi
 rw[List.getElem?_reverse hi] at e1
 rw[List.getElem?_reverse (by omega),← hl] at e2
 exact((h2.2 _ q w e1 e2).same s).same (Same.upd nb)
theorem RL.one {H:Hp}{q b:Addr}{w:Rw}(h:RowAt H q w)(nb:H b=none):RL (upd H b (.lst [.ref q])) b 1:=⟨[q],[w],upd_same,(RowsOn.one h).same (Same.upd nb),Nat.le_refl _⟩
def isMeet:Rw->Bool
 | .meet _ _ _ _=>true
 | _=>false
def spSpoiled:Sp:=fun vs H Q _=>∃(pp aW:Addr) (L:Int) (ws:List (List Int)) (cm:Nat) (qs:List Addr) (rows:List Rw) (z:Int),vs=[.ref pp,.ref aW,.int cm,.int L,.int z]/\0 < L/\L < 10/\WordsAt H aW ws/\1<=ws.length/\ws.length<=900/\WsOk L ws/\H pp=some (.lst (qs.map V.ref))/\RowsOn H qs rows/\Right L ws cm AS0 rows/\rows.length<=100/\∀ l H',H l=none->Same H H'->RL H' l 500->Q (.ref l) H'
theorem ok__law_spoiled (T:Txt K mg A):FnOk P w K mg base CX0 6 A.f__law_spoiled A.d__law_spoiled ["_law_paper_here","_law_words","_law_many","_law_letters","_law_number"] spSpoiled:=by
 have G__law_bent_at:FnOk P w K mg base CX0 5 A.f__law_bent_at A.d__law_bent_at ["_law_paper_here","_law_place","_law_words","_law_letters","_law_number"] spBentAt:=ok__law_bent_at T
 have G__law_odd:FnOk P w K mg base CX0 5 A.f__law_odd A.d__law_odd ["_law_words","_law_many","_law_letters","_law_paper_here","_law_number"] spOdd:=ok__law_odd T
 refine T._law_spoiled.F.ok sc__law_spoiled (fun vs H Q E h=>?_) (fun cdv AA outer s H vs Q E hr h=>?_)
 ·obtain⟨pp,aW,L,ws,cm,qs,rows,z,rfl,_⟩:=h
  rfl
 ·obtain⟨pp,aW,L,ws,cm,qs,rows,z,rfl,hL0,hL,hW,hl1,hl2,hok,hpp,hro,hri,hrl,k⟩:=h
  refine⟨_,(pss_cons (ps_set (i:=5) sc__law_spoiled.nd rfl (Or.inl rfl) (pe_op op_mod (pe_op op_fdiv (pv 4) pe_int) (pe_callB (call_max2 rfl) rfl T.z_max PyProof.Rows.boot_max (pa_cons pe_int (pa_cons (pe_callB call_len_seq rfl T.z_len PySem.boot_len (pa_cons (pv 0) pa_nil)) pa_nil)))))
   (pss_cons (ps_set (i:=6) sc__law_spoiled.nd rfl (Or.inl rfl) (pe_op op_mod (pv 4) pe_int))
   (pss_cons (ps_set (i:=4) sc__law_spoiled.nd rfl (Or.inl rfl) (pe_op op_fdiv (pv 4) pe_int))
   (pss_cons (ps_setCompIf (iy:=7) sc__law_spoiled.nd rfl (Or.inl rfl) (fns:=["_law_paper_here"]) (ixs:=[0]) (cl:=_) rfl (pi_range1 rfl T.z_range (pa_cons (pe_callB call_len_seq rfl T.z_len PySem.boot_len (pa_cons (pv 0) pa_nil)) pa_nil)) (compScope1 rfl rfl (by decide +kernel) rfl (by decide +kernel) rfl (by decide +kernel) (by decide +kernel) rfl rfl rfl rfl) (fun C s H ex=>(pt_cmpR op_eq (pe_ix (ix_tupK (K:=K) rfl) (pe_ix (ix_listK (K:=K) rfl) (pv 1) (pv 0) (fun _ _=>rfl)) pe_int (fun _ _=>rfl)) (pe_strX (l:=[109,101,101,116]) rfl) (nomark _))) (fun C s H ex=>(pv 0)))
   (pss_cons (ps_if (pt_cmpR op_eq (pv 6) pe_int (nomark _))
    (pss_one (ps_ret (pe_op op_cat (pe_slice sl_list (pv 0) po_none (po_some (pv 5))) (pe_slice sl_list (pv 0) (po_some (pe_op op_add (pv 5) pe_int)) po_none))))
    pss_nil)
   (pss_cons (ps_if (pt_cmpR op_eq (pv 6) pe_int (nomark _))
    (pss_one (ps_ret (pe_op op_cat (pe_slice sl_list (pv 0) po_none (po_some (pe_op op_add (pv 5) pe_int))) (pe_slice sl_list (pv 0) (po_some (pv 5)) po_none))))
    pss_nil)
   (pss_cons (ps_if (pt_cmpR op_eq (pv 6) pe_int (nomark _))
    (pss_cons (ps_set (i:=8) sc__law_spoiled.nd rfl (Or.inl rfl) (pe_slice3 sl_revL (pe_slice sl_list (pv 0) (po_some (pv 5)) (po_some (pe_op op_add (pv 5) pe_int))) po_none po_none (po_some (pe_un un_neg pe_int))))
    (pss_one (ps_ret (pe_op op_cat (pe_op op_cat (pe_slice sl_list (pv 0) po_none (po_some (pv 5))) (pv 8)) (pe_slice sl_list (pv 0) (po_some (pe_op op_add (pv 5) pe_int)) po_none)))))
    pss_nil)
   (pss_cons (ps_cut (ps_if (pt_cut (PW.pt (pw_or (pt_cmpR op_lt (pv 6) pe_int (nomark _)) (pw_or1 (pt_cmpR op_eq (pe_callB call_len_seq rfl T.z_len PySem.boot_len (pa_cons (pv 0) pa_nil)) pe_int (nomark _))))))
    (pss_cons (ps_set (i:=9) sc__law_spoiled.nd rfl (Or.inl rfl) (pe_call (G__law_odd) (hr.mono (by decide)) rfl T._law_odd.m T._law_odd.F.kp T._law_odd.b .nil pass0 (pa_cons (pv 1) (pa_cons (pv 2) (pa_cons (pv 3) (pa_cons (pe_slice sl_list (pv 0) po_none (po_some (pv 5))) (pa_cons (pv 4) pa_nil)))))))
    (pss_one (ps_ret (pe_op op_cat (pe_op op_cat (pe_slice sl_list (pv 0) po_none (po_some (pv 5))) (pe_lst (pa_cons (pv 9) pa_nil))) (pe_slice sl_list (pv 0) (po_some (pe_op op_add (pv 5) (pe_op op_mod (pv 6) pe_int))) po_none)))))
    pss_nil))
   (pss_cons (ps_cut (ps_if (PW.pt (pw_and (pt_cmpR op_gt (pv 6) pe_int (nomark _)) (pw_and1 (pt_cmpR op_gt (pe_callB call_len_seq rfl T.z_len PySem.boot_len (pa_cons (pv 7) pa_nil)) pe_int (nomark _)))))
    (pss_one (ps_set (i:=5) sc__law_spoiled.nd rfl (Or.inl rfl) (pe_ix ix_list (pv 7) (pe_op op_mod (pv 4) (pe_callB call_len_seq rfl T.z_len PySem.boot_len (pa_cons (pv 7) pa_nil))) (fun _ _=>rfl))))
    pss_nil))
   (pss_cons (ps_set (i:=10) sc__law_spoiled.nd rfl (Or.inl rfl) (pe_call (G__law_bent_at) (hr.mono (by decide)) rfl T._law_bent_at.m T._law_bent_at.F.kp T._law_bent_at.b .nil pass0 (pa_cons (pv 0) (pa_cons (pv 5) (pa_cons (pv 1) (pa_cons (pv 3) (pa_cons (pe_op op_fdiv (pv 4) pe_int) pa_nil)))))))
   (pss_one (ps_ret (pe_op op_cat (pe_op op_cat (pe_slice sl_list (pv 0) po_none (po_some (pv 5))) (pe_lst (pa_cons (pv 10) pa_nil))) (pe_slice sl_list (pv 0) (po_some (pe_op op_add (pv 5) (pe_op op_mod (pv 6) pe_int))) po_none)))))))))))))),?_⟩
  try dsimp only[cx_noxK,cx_K]
  refine seq_let10 ?_
  intro u_10 u_9 u_8 u_7 u_6 u_5 u_4 u_3 u_2 u_1
  have hqr:=hro.1
  have hR:RL H pp 100:=⟨qs,rows,hpp,hro,by omega⟩
  have hm0:(0:Int) < (if ((qs.map V.ref).length:Int) > 1 then ((qs.map V.ref).length:Int) else 1):=by split <;> omega
  refine⟨_,rfl,_,_,rfl,rfl,⟨by decide,by decide⟩,_,rfl,pp,_,rfl,.inl (SqL.of hpp),_,_,rfl,_,_,rfl,rfl,hm0,?_⟩
  have c1:=Int.emod_nonneg (z / 16) (Int.ne_of_gt hm0)
  have c2:=Int.emod_lt_of_pos (z / 16) hm0
  obtain⟨j,hj⟩:∃ j:Nat,z / 16 % (if ((qs.map V.ref).length:Int) > 1 then ((qs.map V.ref).length:Int) else 1)=(j:Int):=⟨_,(Int.toNat_of_nonneg c1).symm⟩
  have hjl:rows.length≠0->j < rows.length:=fun h0=>by
   rw[hj,List.length_map,hqr] at c2
   split at c2 <;> omega
  have ej:(fun(i j:Int)=>V.int (i % j)) (z / 16) (if ((qs.map V.ref).length:Int) > 1 then ((qs.map V.ref).length:Int) else 1)=V.int (j:Int):=congrArg V.int hj
  rw[ej]
  clear ej hj c1 c2 hm0
  refine⟨_,rfl,_,_,rfl,rfl,(by show (0:Int) < 16;decide),?_⟩
  refine⟨_,rfl,_,_,rfl,rfl,⟨by decide,by decide⟩,?_⟩
  refine⟨_,rfl,pp,_,rfl,.inl (SqL.of hpp),_,rfl,by omega,by rw[List.length_map];omega,?_⟩
  refine comp_rangeIf (fun i=>match rows[i]? with | some w=>isMeet w | none=>false) (by rw[List.length_map];omega) (fun i Rr hi hR=>?_) (fun i Rr hR=>⟨_,rfl,hR⟩) (fun D nD=>?_)
  ·have hi':i < qs.length:=by rw[Int.toNat_natCast,List.length_map] at hi;exact hi
   have g1:qs[i]?=some (qs[i]'hi'):=List.getElem?_eq_getElem hi'
   have g2:rows[i]?=some (rows[i]'(by omega)):=List.getElem?_eq_getElem (by omega)
   generalize qs[i]'hi'=q at g1
   generalize rows[i]'(by omega)=w at g2
   rw[g2] at hR
   have hq:=hro.2 i q w g1 g2
   refine⟨_,rfl,_,rfl,pp,_,_,.ref q,rfl,rfl,SqL.of hpp,by rw[Int.zero_add];exact ref_at g1,?_⟩
   cases w with
   | new c s n=>
     refine⟨q,_,_,_,rfl,rfl,SqT.of hq,rfl,rfl,_,rfl,?_⟩
     rw[decide_eq_false fun e=>str_ne (by decide) (decide_eq_true e)]
     exact hR
   | rule c s n=>
     obtain⟨t,hq,_⟩:=hq
     refine⟨q,_,_,_,rfl,rfl,SqT.of hq,rfl,rfl,_,rfl,?_⟩
     rw[decide_eq_false fun e=>str_ne (by decide) (decide_eq_true e)]
     exact hR
   | meet c s x y=>
     refine⟨q,_,_,_,rfl,rfl,SqT.of hq,rfl,rfl,_,rfl,?_⟩
     rw[decide_eq_true rfl]
     exact hR
  have hms:∀ c∈((List.range (((qs.map V.ref).length:Nat):Int).toNat).filter fun i=>match rows[i]? with | some w=>isMeet w | none=>false).map Int.ofNat,∃ i:Nat,c=(i:Int)/\i < rows.length:=fun c hc=>by
   obtain⟨i,hi,rfl⟩:=List.mem_map.mp hc
   have:=List.mem_range.mp (List.mem_filter.mp hi).1
   rw[Int.toNat_natCast,List.length_map] at this
   exact⟨i,rfl,by omega⟩
  generalize ((List.range (((qs.map V.ref).length:Nat):Int).toNat).filter fun i=>match rows[i]? with | some w=>isMeet w | none=>false).map Int.ofNat=ms at hms ⊢
  have s1:=Same.upd (o:=.lst (intV ms)) nD
  have q1:upd H D (.lst (intV ms)) D=some (.lst (intV ms)):=upd_same
  generalize upd H D (.lst (intV ms))=H1 at s1 q1 ⊢
  replace hpp:=s1 _ _ hpp
  replace hW:=hW.same s1
  replace hro:=hro.same s1
  replace hR:=hR.same s1
  replace k:∀ l H',H1 l=none->Same H1 H'->RL H' l 500->Q (.ref l) H':=fun l H' n' s' h=>k l H' (same_none s1 n') (s1.trans s') h
  clear s1 nD H
  have lq:(qs.map V.ref).length<=100:=by rw[List.length_map];omega
  have cl:∀ lo hi,(cutV (qs.map V.ref) lo hi).length<=100:=fun lo hi=>by unfold cutV;rw[List.length_take,List.length_drop];omega
  refine⟨_,rfl,rfl,_,rfl,?_⟩
  refine ite2 (fun _=>?_) (fun _=>?_)
  ·refine⟨_,rfl,_,rfl,_,rfl,pp,_,rfl,SqL.of hpp,fun b1 n1=>?_⟩
   have R1:=hR.cut (lo:=none) (hi:=some (j:Int)) hpp (Same.refl _) n1
   have t1:=Same.upd (o:=.lst (cutV (qs.map V.ref) none (some (j:Int)))) n1
   have e1:upd H1 b1 (.lst (cutV (qs.map V.ref) none (some (j:Int)))) b1=_:=upd_same
   generalize upd H1 b1 (.lst (cutV (qs.map V.ref) none (some (j:Int))))=H2 at R1 t1 e1 ⊢
   refine⟨_,rfl,_,rfl,_,_,rfl,rfl,_,rfl,pp,_,rfl,SqL.of (t1 _ _ hpp),fun b2 n2=>?_⟩
   have R2:=(hR.same t1).cut (lo:=some ((j:Int)+ 1)) (hi:=none) (t1 _ _ hpp) (Same.refl _) n2
   have t2:=Same.upd (o:=.lst (cutV (qs.map V.ref) (some ((j:Int)+ 1)) none)) n2
   have e2:upd H2 b2 (.lst (cutV (qs.map V.ref) (some ((j:Int)+ 1)) none)) b2=_:=upd_same
   generalize upd H2 b2 (.lst (cutV (qs.map V.ref) (some ((j:Int)+ 1)) none))=H3 at R2 t2 e2 ⊢
   refine⟨b1,b2,_,_,rfl,rfl,t2 _ _ e1,e2,szI (by have:=cl none (some (j:Int));have:=cl (some ((j:Int)+ 1)) none;omega),fun b3 n3=>?_⟩
   exact k b3 _ (same_none (t1.trans t2) n3) ((t1.trans t2).trans (Same.upd n3)) (((R1.same t2).app R2 (t2 _ _ e1) e2 (Same.refl _) n3).le (by decide))
  refine⟨_,rfl,rfl,_,rfl,?_⟩
  refine ite2 (fun _=>?_) (fun _=>?_)
  ·refine⟨_,rfl,_,rfl,_,_,rfl,rfl,_,rfl,pp,_,rfl,SqL.of hpp,fun b1 n1=>?_⟩
   have R1:=hR.cut (lo:=none) (hi:=some ((j:Int)+ 1)) hpp (Same.refl _) n1
   have t1:=Same.upd (o:=.lst (cutV (qs.map V.ref) none (some ((j:Int)+ 1)))) n1
   have e1:upd H1 b1 (.lst (cutV (qs.map V.ref) none (some ((j:Int)+ 1)))) b1=_:=upd_same
   generalize upd H1 b1 (.lst (cutV (qs.map V.ref) none (some ((j:Int)+ 1))))=H2 at R1 t1 e1 ⊢
   refine⟨_,rfl,_,rfl,_,rfl,pp,_,rfl,SqL.of (t1 _ _ hpp),fun b2 n2=>?_⟩
   have R2:=(hR.same t1).cut (lo:=some (j:Int)) (hi:=none) (t1 _ _ hpp) (Same.refl _) n2
   have t2:=Same.upd (o:=.lst (cutV (qs.map V.ref) (some (j:Int)) none)) n2
   have e2:upd H2 b2 (.lst (cutV (qs.map V.ref) (some (j:Int)) none)) b2=_:=upd_same
   generalize upd H2 b2 (.lst (cutV (qs.map V.ref) (some (j:Int)) none))=H3 at R2 t2 e2 ⊢
   refine⟨b1,b2,_,_,rfl,rfl,t2 _ _ e1,e2,szI (by have:=cl none (some ((j:Int)+ 1));have:=cl (some (j:Int)) none;omega),fun b3 n3=>?_⟩
   exact k b3 _ (same_none (t1.trans t2) n3) ((t1.trans t2).trans (Same.upd n3)) (((R1.same t2).app R2 (t2 _ _ e1) e2 (Same.refl _) n3).le (by decide))
  refine⟨_,rfl,rfl,_,rfl,?_⟩
  refine ite2 (fun _=>?_) (fun _=>?_)
  ·refine⟨_,rfl,_,rfl,_,rfl,_,rfl,_,_,rfl,rfl,_,rfl,pp,_,rfl,SqL.of hpp,fun b0 n0=>?_⟩
   have R0:=hR.cut (lo:=some (j:Int)) (hi:=some ((j:Int)+ 2)) hpp (Same.refl _) n0
   have t0:=Same.upd (o:=.lst (cutV (qs.map V.ref) (some (j:Int)) (some ((j:Int)+ 2)))) n0
   have e0:upd H1 b0 (.lst (cutV (qs.map V.ref) (some (j:Int)) (some ((j:Int)+ 2)))) b0=_:=upd_same
   generalize upd H1 b0 (.lst (cutV (qs.map V.ref) (some (j:Int)) (some ((j:Int)+ 2))))=H2 at R0 t0 e0 ⊢
   refine⟨_,rfl,_,rfl,b0,_,rfl,SqL.of e0,rfl,rfl,rfl,fun b1 n1=>?_⟩
   have R1:=R0.rev e0 (Same.refl _) n1
   have t1:=Same.upd (o:=.lst (cutV (qs.map V.ref) (some (j:Int)) (some ((j:Int)+ 2))).reverse) n1
   have e1:upd H2 b1 (.lst (cutV (qs.map V.ref) (some (j:Int)) (some ((j:Int)+ 2))).reverse) b1=_:=upd_same
   generalize upd H2 b1 (.lst (cutV (qs.map V.ref) (some (j:Int)) (some ((j:Int)+ 2))).reverse)=H3 at R1 t1 e1 ⊢
   have t01:=t0.trans t1
   have hpp3:=t01 _ _ hpp
   refine⟨_,rfl,_,rfl,_,rfl,pp,_,rfl,SqL.of hpp3,fun b2 n2=>?_⟩
   have R2:=(hR.same t01).cut (lo:=none) (hi:=some (j:Int)) hpp3 (Same.refl _) n2
   have t2:=Same.upd (o:=.lst (cutV (qs.map V.ref) none (some (j:Int)))) n2
   have e2:upd H3 b2 (.lst (cutV (qs.map V.ref) none (some (j:Int)))) b2=_:=upd_same
   generalize upd H3 b2 (.lst (cutV (qs.map V.ref) none (some (j:Int))))=H4 at R2 t2 e2 ⊢
   have l1:=cl none (some (j:Int))
   have l2:=cl (some (j:Int)) (some ((j:Int)+ 2))
   have l3:=cl (some ((j:Int)+ 2)) none
   refine⟨_,rfl,b2,b1,_,_,rfl,rfl,e2,t2 _ _ e1,szI (by rw[List.length_reverse];omega),fun b3 n3=>?_⟩
   have R3:=R2.app (R1.same t2) e2 (t2 _ _ e1) (Same.refl _) n3
   have t3:=Same.upd (o:=.lst (cutV (qs.map V.ref) none (some (j:Int))++(cutV (qs.map V.ref) (some (j:Int)) (some ((j:Int)+ 2))).reverse)) n3
   have e3:upd H4 b3 (.lst (cutV (qs.map V.ref) none (some (j:Int))++(cutV (qs.map V.ref) (some (j:Int)) (some ((j:Int)+ 2))).reverse)) b3=_:=upd_same
   generalize upd H4 b3 (.lst (cutV (qs.map V.ref) none (some (j:Int))++(cutV (qs.map V.ref) (some (j:Int)) (some ((j:Int)+ 2))).reverse))=H5 at R3 t3 e3 ⊢
   have hpp5:=(t2.trans t3) _ _ hpp3
   refine⟨_,rfl,_,rfl,_,_,rfl,rfl,_,rfl,pp,_,rfl,SqL.of hpp5,fun b4 n4=>?_⟩
   have R4:=(hR.same (t01.trans (t2.trans t3))).cut (lo:=some ((j:Int)+ 2)) (hi:=none) hpp5 (Same.refl _) n4
   have t4:=Same.upd (o:=.lst (cutV (qs.map V.ref) (some ((j:Int)+ 2)) none)) n4
   have e4:upd H5 b4 (.lst (cutV (qs.map V.ref) (some ((j:Int)+ 2)) none)) b4=_:=upd_same
   generalize upd H5 b4 (.lst (cutV (qs.map V.ref) (some ((j:Int)+ 2)) none))=H6 at R4 t4 e4 ⊢
   refine⟨b3,b4,_,_,rfl,rfl,t4 _ _ e3,e4,szI (by rw[List.length_append,List.length_reverse];omega),fun b5 n5=>?_⟩
   exact k b5 _ (same_none ((t01.trans (t2.trans t3)).trans t4) n5) (((t01.trans (t2.trans t3)).trans t4).trans (Same.upd n5)) (((R3.same t4).app R4 (t4 _ _ e3) e4 (Same.refl _) n5).le (by decide))
  have tail:∀{H2:Hp} {q':Addr} {w':Rw} (j':Nat) {Q2:VK},Same H1 H2->RowAt H2 q' w'->(∀ l H',H1 l=none->Same H1 H'->RL H' l 500->Q2 (.ref l) H')->∀ b1,H2 b1=none->∀ b2,upd H2 b1 (.lst (cutV (qs.map V.ref) none (some (j':Int)))) b2=none->∃ H3 xs ys,H3=upd (upd H2 b1 (.lst (cutV (qs.map V.ref) none (some (j':Int))))) b2 (.lst [.ref q'])/\Same H1 H3/\H3 b1=some (.lst xs)/\H3 b2=some (.lst ys)/\xs.length<=100/\ys.length<=1/\∀ b3,H3 b3=none->∀ x H4,H4=upd H3 b3 (.lst (xs++ys))->∀ b4,H4 b4=none->∃ H5,H5=upd H4 b4 (.lst (cutV (qs.map V.ref) (some x) none))/\H4 pp=some (.lst (qs.map V.ref))/\H5 b3=some (.lst (xs++ys))/\H5 b4=some (.lst (cutV (qs.map V.ref) (some x) none))/\∀ b5,H5 b5=none->Q2 (.ref b5) (upd H5 b5 (.lst ((xs++ys)++cutV (qs.map V.ref) (some x) none))):=fun{H2 q' w'} j' {Q2} t1 hq' k b1 n1 b2 n2=>by
   have R1:=(hR.same t1).cut (lo:=none) (hi:=some (j':Int)) (t1 _ _ hpp) (Same.refl _) n1
   have t2:=Same.upd (o:=.lst (cutV (qs.map V.ref) none (some (j':Int)))) n1
   have e1:upd H2 b1 (.lst (cutV (qs.map V.ref) none (some (j':Int)))) b1=_:=upd_same
   generalize upd H2 b1 (.lst (cutV (qs.map V.ref) none (some (j':Int))))=H3 at n2 R1 t2 e1 ⊢
   have R2:=RL.one (hq'.same t2) n2
   have t3:=Same.upd (o:=.lst [.ref q']) n2
   have e2:upd H3 b2 (.lst [.ref q']) b2=_:=upd_same
   refine⟨_,_,_,rfl,(t1.trans t2).trans t3,t3 _ _ e1,e2,cl _ _,Nat.le_refl _,fun b3 n3 x H4 eH4 b4 n4=>?_⟩
   generalize upd H3 b2 (.lst [.ref q'])=H9 at R2 t3 e2 n3 eH4
   have R3:=(R1.same t3).app R2 (t3 _ _ e1) e2 (Same.refl _) n3
   have t4:=Same.upd (o:=.lst (cutV (qs.map V.ref) none (some (j':Int))++[.ref q'])) n3
   have e3:upd H9 b3 (.lst (cutV (qs.map V.ref) none (some (j':Int))++[.ref q'])) b3=_:=upd_same
   rw[← eH4] at R3 t4 e3
   have t14:=((t1.trans t2).trans t3).trans t4
   have R4:=(hR.same t14).cut (lo:=some x) (hi:=none) (t14 _ _ hpp) (Same.refl _) n4
   have t5:=Same.upd (o:=.lst (cutV (qs.map V.ref) (some x) none)) n4
   exact⟨_,rfl,t14 _ _ hpp,t5 _ _ e3,upd_same,fun b5 n5=>k b5 _ (same_none (t14.trans t5) n5) ((t14.trans t5).trans (Same.upd n5)) (((R3.same t5).app R4 (t5 _ _ e3) upd_same (Same.refl _) n5).le (by decide))⟩
  refine⟨fun σ' H'=>σ'=[some (.ref pp),some (.ref aW),some (.int cm),some (.int L),some (.int (z / 1024)),some (.int (j:Int)),some (.int (z % 16)),some (.ref D),none,none,none]/\H'=H1/\rows.length≠0,?_,?_⟩
  ·refine⟨fun b H'=>H'=H1/\(b=false->rows.length≠0),?_,?_⟩
   ·refine⟨_,rfl,_,_,rfl,rfl,_,rfl,?_⟩
    refine ite2 (fun _=>⟨rfl,(fun z=>by cases z)⟩) (fun _=>?_)
    refine⟨_,rfl,pp,_,rfl,.inl (SqL.of hpp),rfl,_,rfl,rfl,fun z h0=>?_⟩
    rw[List.length_map,hqr,h0] at z
    exact absurd z (by decide)
   rintro b H' ⟨rfl,hb⟩
   cases b with
   | false=>exact⟨rfl,rfl,hb rfl⟩
   | true=>
     refine⟨_,rfl,_,rfl,_,rfl,_,rfl,_,rfl,_,rfl,pp,_,rfl,SqL.of hpp,fun b0 n0=>?_⟩
     rw[cut_refs_to]
     have t0:=Same.upd (o:=.lst ((qs.take j).map V.ref)) n0
     have e0:upd H' b0 (.lst ((qs.take j).map V.ref)) b0=some (.lst ((qs.take j).map V.ref)):=upd_same
     generalize upd H' b0 (.lst ((qs.take j).map V.ref))=H2 at t0 e0 ⊢
     refine⟨_,rfl,aW,b0,L,ws,cm,qs.take j,rows.take j,z / 1024,rfl,hL0,hL,hW.same t0,hl1,hl2,hok,e0,(hro.same t0).take j,right_take j hri,by rw[List.length_take];omega,fun q' w' H3 t1 hq'=>?_⟩
     have t01:=t0.trans t1
     refine⟨_,rfl,_,rfl,_,rfl,pp,_,rfl,SqL.of (t01 _ _ hpp),fun b1 n1=>⟨_,rfl,by show 1<=sizeLine;decide,fun b2 n2=>?_⟩⟩
     obtain⟨H4,xs,ys,eH,t4,e4,e5,lx,ly,kk⟩:=tail j t01 hq' k b1 n1 b2 n2
     rw[← eH]
     refine⟨b1,b2,_,_,rfl,rfl,e4,e5,szI (by omega),fun b3 n3=>?_⟩
     refine⟨_,rfl,_,rfl,_,rfl,_,_,rfl,rfl,(by show (0:Int) < 2;decide),_,_,rfl,rfl,_,rfl,pp,_,rfl,SqL.of ((Same.upd n3) _ _ (t4 _ _ hpp)),fun b4 n4=>?_⟩
     obtain⟨H5,eH5,_,e6,e7,kk⟩:=kk b3 n3 _ _ rfl b4 n4
     rw[← eH5]
     exact⟨b3,b4,_,_,rfl,rfl,e6,e7,szI (by rw[List.length_append];have:=cl (some ((j:Int)+ z % 16 % 2)) none;omega),fun b5 n5=>kk b5 n5⟩
  rintro σ2 H2 ⟨rfl,rfl,hr0⟩
  refine⟨fun σ' H'=>∃ j':Nat,σ'=[some (.ref pp),some (.ref aW),some (.int cm),some (.int L),some (.int (z / 1024)),some (.int (j':Int)),some (.int (z % 16)),some (.ref D),none,none,none]/\H'=H2/\j' < rows.length,?_,?_⟩
  ·refine⟨_,rfl,_,_,rfl,rfl,_,rfl,?_⟩
   refine ite2 (fun _=>?_) (fun _=>⟨j,rfl,rfl,hjl hr0⟩)
   refine⟨_,rfl,D,_,rfl,.inl (SqL.of q1),_,_,rfl,rfl,_,rfl,?_⟩
   refine ite2 (fun w=>?_) (fun _=>⟨j,rfl,rfl,hjl hr0⟩)
   have hw0:0 < ms.length:=by
    have:=of_decide_eq_true w
    rw[ints_len] at this
    omega
   obtain⟨c,hc,hat⟩:=pick_at (z / 1024) hw0
   obtain⟨i,rfl,hi⟩:=hms c hc
   exact⟨_,rfl,_,rfl,_,rfl,D,_,rfl,.inl (SqL.of q1),_,_,rfl,rfl,len_pos hw0,D,_,_,.int (i:Int),rfl,rfl,SqL.of q1,hat,i,rfl,rfl,hi⟩
  rintro σ3 H3 ⟨j',rfl,rfl,hj'⟩
  refine⟨_,rfl,_,rfl,_,rfl,_,rfl,_,rfl,_,_,rfl,rfl,⟨by decide,by decide⟩,pp,aW,L,ws,cm,qs,rows,j',_,rfl,hL,hW,hok,hpp,hro,hri,by omega,hj',fun q' w' H4 t1 hq'=>?_⟩
  refine⟨_,rfl,_,rfl,_,rfl,pp,_,rfl,SqL.of (t1 _ _ hpp),fun b1 n1=>⟨_,rfl,by show 1<=sizeLine;decide,fun b2 n2=>?_⟩⟩
  obtain⟨H5,xs,ys,eH,t4,e4,e5,lx,ly,kk⟩:=tail j' t1 hq' k b1 n1 b2 n2
  rw[← eH]
  refine⟨b1,b2,_,_,rfl,rfl,e4,e5,szI (by omega),fun b3 n3=>?_⟩
  refine⟨_,rfl,_,rfl,_,rfl,_,_,rfl,rfl,(by show (0:Int) < 2;decide),_,_,rfl,rfl,_,rfl,pp,_,rfl,SqL.of ((Same.upd n3) _ _ (t4 _ _ hpp)),fun b4 n4=>?_⟩
  obtain⟨H6,eH5,_,e6,e7,kk⟩:=kk b3 n3 _ _ rfl b4 n4
  rw[← eH5]
  exact⟨b3,b4,_,_,rfl,rfl,e6,e7,szI (by rw[List.length_append];have:=cl (some ((j':Int)+ z % 16 % 2)) none;omega),fun b5 n5=>kk b5 n5⟩
def spLStands:Sp:=fun vs H Q _=>∃(c made:Int) (aG:Addr) (went:List Int),vs=[.int c,.int made,.ref aG]/\H aG=some (.lst (intV went))/\((0<=c/\c < made)/\c∉went->Q (.bl true) H)/\(¬ ((0<=c/\c < made)/\c∉went)->Q (.bl false) H)
theorem ok__law_stands (T:Txt K mg A):FnOk P w K mg base CX0 1 A.f__law_stands A.d__law_stands ["_law_room","_law_made","_law_went"] spLStands:=by
 refine T._law_stands.F.ok sc__law_stands (fun vs H Q E h=>?_) (fun cdv AA outer s H vs Q E hr h=>?_)
 ·obtain⟨c,made,aG,went,rfl,_⟩:=h
  rfl
 ·obtain⟨c,made,aG,went,rfl,hG,kT,kF⟩:=h
  refine⟨_,(pss_one (ps_ret (pe_and (pe_cmpR op_le pe_int (pv 0) (nomark _)) (pe_and (pe_cmpR op_lt (pv 0) (pv 1) (nomark _)) (pe_one (pe_cmpR op_NOTIN_l (pv 0) (pv 2) rfl)))))),?_⟩
  try dsimp only[cx_noxK,cx_K]
  refine⟨_,rfl,_,_,rfl,rfl,_,rfl,?_⟩
  refine ite2 (fun h1=>?_) (fun h1=>kF fun z=>h1 (decide_eq_true z.1.1))
  refine⟨_,rfl,_,rfl,_,_,rfl,rfl,_,rfl,?_⟩
  refine ite2 (fun h2=>?_) (fun h2=>kF fun z=>h2 (decide_eq_true z.1.2))
  refine⟨_,rfl,_,rfl,_,aG,_,rfl,rfl,hG,?_⟩
  by_cases h3:c∈went
  ·rw[decide_eq_true h3];exact kF fun z=>z.2 h3
  ·rw[decide_eq_false h3];exact kT ⟨⟨of_decide_eq_true h1,of_decide_eq_true h2⟩,h3⟩
theorem LAt.isd {H:Hp}{p:Addr}{S:Rel3}(h:LAt H p S):IsD H p:=by
 obtain⟨kv,q,_⟩:=h
 exact .inr ⟨kv,.inl q⟩
def spLMeet:Sp:=fun vs H Q _=>∃(p q:Addr) (S:Rel3) (c s x y:Int),vs=[.ref p,.ref q]/\LAt H p S/\RowAt H q (.meet c s x y)/\(x < y/\S c s x=true/\S c s y=true->∀ H',Same H H'->Q (.bl true) H')/\(¬ (x < y/\S c s x=true/\S c s y=true)->∀ H',Same H H'->Q (.bl false) H')
theorem ok__law_meet (T:Txt K mg A):FnOk P w K mg base CX0 1 A.f__law_meet A.d__law_meet ["_law_known","_law_row_here"] spLMeet:=by
 refine T._law_meet.F.ok sc__law_meet (fun vs H Q E h=>?_) (fun cdv AA outer s H vs Q E hr h=>?_)
 ·obtain⟨p,q,S,c,s,x,y,rfl,_⟩:=h
  rfl
 ·obtain⟨p,q,S,c,s,x,y,rfl,h,hq,kT,kF⟩:=h
  have hu2:=hu_of hr
  refine⟨_,(pss_cons (ps_set (i:=2) sc__law_meet.nd rfl (Or.inl rfl) (pe_dget2 hu2 (pv 0) (pe_tup (pa_cons (pe_ix ix_tup (pv 1) pe_int (fun _ _=>rfl)) (pa_cons (pe_ix ix_tup (pv 1) pe_int (fun _ _=>rfl)) pa_nil))) (pe_lst pa_nil) ⟨rfl,rfl,rfl,rfl⟩))
   (pss_one (ps_ret (pe_and (pe_cmpR op_lt (pe_ix ix_tup (pv 1) pe_int (fun _ _=>rfl)) (pe_ix ix_tup (pv 1) pe_int (fun _ _=>rfl)) (nomark _)) (pe_and (pe_cmpR op_IN_l (pe_ix ix_tup (pv 1) pe_int (fun _ _=>rfl)) (pv 2) rfl) (pe_one (pe_cmpR op_IN_l (pe_ix ix_tup (pv 1) pe_int (fun _ _=>rfl)) (pv 2) rfl))))))),?_⟩
  try dsimp only[cx_noxK,cx_K]
  refine seq_let1 ?_
  intro u_1
  replace hq:H q=some (.tup [.str (tx [109,101,101,116]),.int c,.int s,.int x,.int y]):=hq
  refine⟨_,rfl,p,rfl,h.isd,_,rfl,q,_,_,_,rfl,rfl,SqT.of hq,rfl,_,rfl,q,_,_,_,rfl,rfl,SqT.of hq,rfl,(by show 2<=sizeLine;decide),fun kt nkt=>?_⟩
  have s3:=Same.upd (o:=.tup [.int c,.int s]) nkt
  have q3:upd H kt (.tup [.int c,.int s]) kt=some (.tup [.int c,.int s]):=upd_same
  generalize upd H kt (.tup [.int c,.int s])=H3 at s3 q3 ⊢
  refine⟨Nat.zero_le _,fun e1 ne1=>?_⟩
  have s4:=Same.upd (o:=.lst []) ne1
  have q4:upd H3 e1 (.lst []) e1=some (.lst []):=upd_same
  generalize upd H3 e1 (.lst [])=H4 at s4 q4 ⊢
  have s04:Same H H4:=s3.trans s4
  obtain⟨oo,a,ls,g1,g2,g3,g4,g5⟩:=(h.same s04).get (s4 _ _ q3) q4
  refine⟨oo,g1,?_⟩
  rw[g2]
  have hq4:=s04 _ _ hq
  refine⟨_,rfl,q,_,_,_,rfl,rfl,SqT.of hq4,rfl,_,rfl,q,_,_,_,rfl,rfl,SqT.of hq4,rfl,_,_,rfl,rfl,_,rfl,?_⟩
  refine ite2 (fun h1=>?_) (fun h1=>kF (fun z=>h1 (decide_eq_true z.1)) _ s04)
  refine⟨_,rfl,q,_,_,_,rfl,rfl,SqT.of hq4,rfl,_,rfl,_,a,_,rfl,rfl,g3,_,rfl,?_⟩
  refine ite2 (fun h2=>?_) (fun h2=>kF (fun z=>h2 (decide_eq_true ((g5 _).mpr z.2.1))) _ s04)
  refine⟨_,rfl,q,_,_,_,rfl,rfl,SqT.of hq4,rfl,_,rfl,_,a,_,rfl,rfl,g3,?_⟩
  by_cases h3:y∈ls
  ·rw[decide_eq_true h3];exact kT ⟨of_decide_eq_true h1,(g5 _).mp (of_decide_eq_true h2),(g5 _).mp h3⟩ _ s04
  ·rw[decide_eq_false h3];exact kF (fun z=>h3 ((g5 _).mpr z.2.2)) _ s04
def spLNew:Sp:=fun vs H Q _=>∃(p aG q:Addr) (L:Int) (ws:List (List Int)) (cm:Int) (X:AS) (went:List Int) (c s n:Int),vs=[.ref p,.int X.made,.ref aG,.int L,.ref q]/\LAt H p X.S/\H aG=some (.lst (intV went))/\Iv L X went/\RowAt H q (.new c s n)/\(okA L ws cm X (.new c s n)->∀ H',Same H H'->Q (.bl true) H')/\(¬ okA L ws cm X (.new c s n)->∀ H',Same H H'->Q (.bl false) H')
theorem ok__law_new (T:Txt K mg A):FnOk P w K mg base CX0 2 A.f__law_new A.d__law_new ["_law_known","_law_made","_law_went","_law_letters","_law_row_here"] spLNew:=by
 have G__law_stands:FnOk P w K mg base CX0 1 A.f__law_stands A.d__law_stands ["_law_room","_law_made","_law_went"] spLStands:=ok__law_stands T
 refine T._law_new.F.ok sc__law_new (fun vs H Q E h=>?_) (fun cdv AA outer s H vs Q E hr h=>?_)
 ·obtain⟨p,aG,q,L,ws,cm,X,went,c,s,n,rfl,_⟩:=h
  rfl
 ·obtain⟨p,aG,q,L,ws,cm,X,went,c,s,n,rfl,h,hG,iv,hq,kT,kF⟩:=h
  have hu2:=hu_of hr
  refine⟨_,(pss_cons (ps_cut (ps_if (PW.pt (pw_or (pt_not (pt_val (pe_call (G__law_stands) (hr.mono (by decide)) rfl T._law_stands.m T._law_stands.F.kp T._law_stands.b .nil pass0 (pa_cons (pe_ix ix_tup (pv 4) pe_int (fun _ _=>rfl)) (pa_cons (pv 1) (pa_cons (pv 2) pa_nil)))))) (pw_or (pt_cmpR op_eq (pe_ix ix_tup (pv 4) pe_int (fun _ _=>rfl)) pe_int (nomark _)) (pw_or1 (pt_cmpR op_gt (pe_callB call_abs rfl T.z_abs PyProof.Rows.boot_abs (pa_cons (pe_ix ix_tup (pv 4) pe_int (fun _ _=>rfl)) pa_nil)) (pv 3) (nomark _))))))
   (pss_one (ps_ret pe_bl))
   pss_nil))
   (pss_one (ps_ret (pe_and (pe_cmpR op_eq (pe_callB call_len_seq rfl T.z_len PySem.boot_len (pa_cons (pe_dget2 hu2 (pv 0) (pe_tup (pa_cons (pe_ix ix_tup (pv 4) pe_int (fun _ _=>rfl)) (pa_cons (pe_ix ix_tup (pv 4) pe_int (fun _ _=>rfl)) pa_nil))) (pe_lst pa_nil) ⟨rfl,rfl,rfl,rfl⟩) pa_nil)) pe_int (nomark _)) (pe_one (pe_cmpR op_eq (pe_ix ix_tup (pv 4) pe_int (fun _ _=>rfl)) (pv 1) (nomark _))))))),?_⟩
  try dsimp only[cx_noxK,cx_K]
  refine seq_let1 ?_
  intro u_1
  replace hq:H q=some (.tup [.str (tx [110,101,119]),.int c,.int s,.int n]):=hq
  have sz2:2<=sizeLine:=by decide
  refine⟨fun σ' H'=>σ'=[some (.ref p),some (.int X.made),some (.ref aG),some (.int L),some (.ref q)]/\H'=H/\X.st c=true/\1<=s.natAbs/\(s.natAbs:Int)<=L,?_,?_⟩
  ·refine⟨_,rfl,q,_,_,_,rfl,rfl,SqT.of hq,rfl,_,rfl,_,rfl,c,X.made,aG,went,rfl,hG,fun h1=>⟨true,rfl,iteF ?_⟩,fun h1=>⟨false,rfl,?_⟩⟩
   ·have hst:=(iv.st c).mpr h1
    refine⟨_,rfl,q,_,_,_,rfl,rfl,SqT.of hq,rfl,rfl,_,rfl,?_⟩
    refine ite2 (fun h2=>kF (fun z=>by have:=z.2.1.1;have h2:=of_decide_eq_true h2;injection h2 with h2;omega) _ (Same.refl _)) (fun h2=>?_)
    have h2':s≠0:=fun z=>h2 (decide_eq_true (by rw[z]))
    refine⟨_,rfl,q,_,_,_,rfl,rfl,SqT.of hq,rfl,_,rfl,_,rfl,_,_,rfl,rfl,_,rfl,?_⟩
    refine ite2 (fun h3=>kF (fun z=>?_) _ (Same.refl _)) (fun h3=>⟨rfl,rfl,hst,by omega,?_⟩)
    ·have:=z.2.1.2
     have h3:=of_decide_eq_true h3
     split at h3 <;> omega
    ·have h3:¬ L < (if s < 0 then -s else s):=fun z=>h3 (decide_eq_true z)
     split at h3 <;> omega
   ·refine ite2 (fun _=>?_) (fun z=>absurd rfl z)
    exact kF (fun z=>h1 ((iv.st c).mp z.1)) _ (Same.refl _)
  rintro σ' H' ⟨rfl,rfl,hst,hs1,hs2⟩
  refine⟨_,rfl,p,rfl,h.isd,_,rfl,q,_,_,_,rfl,rfl,SqT.of hq,rfl,_,rfl,q,_,_,_,rfl,rfl,SqT.of hq,rfl,sz2,fun kt nkt=>?_⟩
  have s3:=Same.upd (o:=.tup [.int c,.int s]) nkt
  have q3:upd H' kt (.tup [.int c,.int s]) kt=some (.tup [.int c,.int s]):=upd_same
  generalize upd H' kt (.tup [.int c,.int s])=H3 at s3 q3 ⊢
  refine⟨Nat.zero_le _,fun e1 ne1=>?_⟩
  have s4:=Same.upd (o:=.lst []) ne1
  have q4:upd H3 e1 (.lst []) e1=some (.lst []):=upd_same
  generalize upd H3 e1 (.lst [])=H4 at s4 q4 ⊢
  have s04:Same H' H4:=s3.trans s4
  obtain⟨oo,a,ls,g1,g2,g3,g4,g5⟩:=(h.same s04).get (s4 _ _ q3) q4
  refine⟨oo,g1,?_⟩
  rw[g2]
  refine⟨a,_,rfl,.inl (SqL.of g3),rfl,_,rfl,?_⟩
  refine ite2 (fun w=>?_) (fun w=>kF (fun z=>w (decide_eq_true ?_)) _ s04)
  ·have hn:ls=[]:=by
    have:=of_decide_eq_true w
    injection this with this
    rw[ints_len] at this
    exact List.length_eq_zero_iff.mp (by omega)
   have hno:∀ o,X.S c s o=false:=fun o=>by
    cases e:X.S c s o with
    | false=>rfl
    | true=>have:=(g5 o).mpr e;rw[hn] at this;cases this
   refine⟨_,rfl,q,_,_,_,rfl,rfl,SqT.of (s04 _ _ hq),rfl,_,rfl,rfl,?_⟩
   by_cases e:n=X.made
   ·rw[e,decide_eq_true rfl]
    exact kT ⟨hst,⟨hs1,hs2⟩,hno,e⟩ _ s04
   ·rw[decide_eq_false fun z=>e (V.int.inj z)]
    exact kF (fun z=>e z.2.2.2) _ s04
  ·have:ls=[]:=List.eq_nil_iff_forall_not_mem.mpr fun o ho=>by have:=(g5 o).mp ho;rw[z.2.2.1 o] at this;cases this
   rw[this];rfl
theorem lst_nat {xs:List Int}(z:Int)(h0:0<=z)(h:z < xs.length):∃(n:Nat) (x:Int),z=n/\xs[n]?=some x:=by
 have hn:z.toNat < xs.length:=by omega
 exact⟨z.toNat,_,by omega,List.getElem?_eq_getElem hn⟩
theorem last_is {p:List Int}{n:Nat}(h:p.length=n+ 1):p.getLast?=p[n]?:=by
 rw[List.getLast?_eq_getElem?,h,Nat.add_sub_cancel]
def spLRule:Sp:=fun vs H Q _=>∃(p aG ru pa q:Addr) (L:Int) (rs ps:List (List Int)) (X:AS) (went:List Int) (w:Int) (path:List Int) (k:Int),vs=[.ref p,.int X.made,.ref aG,.ref ru,.ref pa,.ref q]/\LAt H p X.S/\H aG=some (.lst (intV went))/\Iv L X went/\WordsAt H ru rs/\WordsAt H pa ps/\rs.length<=400/\ps.length<=400/\(∀ x∈rs++ps,x.length<=900)/\RowAt H q (.rule w path k)/\(okA L (rs++ps) rs.length X (.rule w path k)->∀ H',Same H H'->Q (.bl true) H')/\(¬ okA L (rs++ps) rs.length X (.rule w path k)->∀ H',Same H H'->Q (.bl false) H')
theorem ok__law_rule (T:Txt K mg A):FnOk P w K mg base CX0 2 A.f__law_rule A.d__law_rule ["_law_known","_law_made","_law_went","_law_rules","_law_part","_law_row_here"] spLRule:=by
 have G__law_stands:FnOk P w K mg base CX0 1 A.f__law_stands A.d__law_stands ["_law_room","_law_made","_law_went"] spLStands:=ok__law_stands T
 refine T._law_rule.F.ok sc__law_rule (fun vs H Q E h=>?_) (fun cdv AA outer s H vs Q E hr h=>?_)
 ·obtain⟨p,aG,ru,pa,q,L,rs,ps,X,went,w,path,k,rfl,_⟩:=h
  rfl
 ·obtain⟨p,aG,ru,pa,q,L,rs,ps,X,went,w,path,k,rfl,h,hG,iv,hR,hP,hrl,hpl,hwl,hq,kT,kF⟩:=h
  have hu2:=hu_of hr
  refine⟨_,(pss_cons (ps_set (i:=6) sc__law_rule.nd rfl (Or.inl rfl) (pe_ix ix_tup (pv 5) pe_int (fun _ _=>rfl)))
   (pss_cons (ps_set (i:=7) sc__law_rule.nd rfl (Or.inl rfl) (pe_ix ix_tup (pv 5) pe_int (fun _ _=>rfl)))
   (pss_cons (ps_cut (ps_if (PW.pt (pw_or (pt_cmpR op_lt (pv 6) pe_int (nomark _)) (pw_or1 (pt_cmpR op_ge (pv 6) (pe_op op_add (pe_callB call_len_seq rfl T.z_len PySem.boot_len (pa_cons (pv 3) pa_nil)) (pe_callB call_len_seq rfl T.z_len PySem.boot_len (pa_cons (pv 4) pa_nil))) (nomark _)))))
    (pss_one (ps_ret pe_bl))
    pss_nil))
   (pss_cons (ps_set (i:=8) sc__law_rule.nd rfl (Or.inl rfl) (pe_ix ix_list (pe_op op_cat (pv 3) (pv 4)) (pv 6) (fun _ _=>rfl)))
   (pss_cons (ps_cut (ps_if (PW.pt (pw_or (pt_cmpR op_lt (pe_ix ix_tup (pv 5) pe_int (fun _ _=>rfl)) pe_int (nomark _)) (pw_or (pt_cmpR op_ge (pe_ix ix_tup (pv 5) pe_int (fun _ _=>rfl)) (pe_callB call_len_seq rfl T.z_len PySem.boot_len (pa_cons (pv 8) pa_nil)) (nomark _)) (pw_or1 (pt_cmpR op_ne (pe_callB call_len_seq rfl T.z_len PySem.boot_len (pa_cons (pv 7) pa_nil)) (pe_op op_add (pe_callB call_len_seq rfl T.z_len PySem.boot_len (pa_cons (pv 8) pa_nil)) pe_int) (nomark _))))))
    (pss_one (ps_ret pe_bl))
    pss_nil))
   (pss_cons (ps_cut (ps_if (PW.pt (pw_or (pt_cmpR op_ne (pe_ix ix_tup (pv 7) pe_int (fun _ _=>rfl)) (pe_ix ix_tup (pv 7) (pe_callB call_len_seq rfl T.z_len PySem.boot_len (pa_cons (pv 8) pa_nil)) (fun _ _=>rfl)) (nomark _)) (pw_or1 (PW.pt (pw_and (pt_cmpR op_ge (pv 6) (pe_callB call_len_seq rfl T.z_len PySem.boot_len (pa_cons (pv 3) pa_nil)) (nomark _)) (pw_and1 (pt_cmpR op_ne (pe_ix ix_tup (pv 7) pe_int (fun _ _=>rfl)) pe_int (nomark _))))))))
    (pss_one (ps_ret pe_bl))
    pss_nil))
   (pss_cons (ps_for PassesOwn.never rfl (pi_tup (pv 7)) (pg_name (i:=9) sc__law_rule.nd rfl (Or.inl rfl))
    (pss_one (ps_if (pt_not (pt_val (pe_call (G__law_stands) (hr.mono (by decide)) rfl T._law_stands.m T._law_stands.F.kp T._law_stands.b .nil pass0 (pa_cons (pv 9) (pa_cons (pv 1) (pa_cons (pv 2) pa_nil))))))
     (pss_one (ps_ret pe_bl))
     pss_nil)))
   (pss_cons (ps_for PassesOwn.never rfl (pi_range1 rfl T.z_range (pa_cons (pe_callB call_len_seq rfl T.z_len PySem.boot_len (pa_cons (pv 8) pa_nil)) pa_nil)) (pg_name (i:=10) sc__law_rule.nd rfl (Or.inl rfl))
    (pss_one (ps_cut (ps_if (PW.pt (pw_and (pt_cmpR op_ne (pv 10) (pe_ix ix_tup (pv 5) pe_int (fun _ _=>rfl)) (nomark _)) (pw_and1 (pt_cmpR op_NOTIN_l (pe_ix ix_tup (pv 7) (pe_op op_add (pv 10) pe_int) (fun _ _=>rfl)) (pe_dget2 hu2 (pv 0) (pe_tup (pa_cons (pe_ix ix_tup (pv 7) (pv 10) (fun _ _=>rfl)) (pa_cons (pe_ix ix_tup (pv 8) (pv 10) (fun _ _=>rfl)) pa_nil))) (pe_lst pa_nil) ⟨rfl,rfl,rfl,rfl⟩) rfl))))
     (pss_one (ps_ret pe_bl))
     pss_nil))))
   (pss_one (ps_ret pe_bl)))))))))),?_⟩
  try dsimp only[cx_noxK,cx_K]
  refine seq_let8 ?_
  intro u_8 u_7 u_6 u_5 u_4 u_3 u_2 u_1
  obtain⟨t,hq,ht,htl⟩:=hq
  obtain⟨pR,hpR,tR⟩:=id hR
  obtain⟨pP,hpP,tP⟩:=id hP
  have lR:(pR.map V.ref).length=rs.length:=by rw[List.length_map,tR.1]
  have lP:(pP.map V.ref).length=ps.length:=by rw[List.length_map,tP.1]
  refine⟨_,rfl,q,_,_,_,rfl,rfl,SqT.of hq,rfl,?_⟩
  refine⟨_,rfl,q,_,_,_,rfl,rfl,SqT.of hq,rfl,?_⟩
  refine⟨fun σ' H'=>σ'=[some (.ref p),some (.int X.made),some (.ref aG),some (.ref ru),some (.ref pa),some (.ref q),some (.int w),some (.ref t),none,none,none]/\H'=H/\0<=w/\w < (rs++ps).length,?_,?_⟩
  ·refine⟨_,rfl,_,_,rfl,rfl,_,rfl,?_⟩
   refine ite2 (fun e=>kF (fun z=>?_) _ (Same.refl _)) (fun e=>?_)
   ·have e:=of_decide_eq_true e
    obtain⟨n,_,_,_,_,_,e1,_⟩:=z
    omega
   refine⟨_,rfl,_,rfl,ru,_,rfl,.inl (SqL.of hpR),_,rfl,pa,_,rfl,.inl (SqL.of hpP),_,_,rfl,rfl,_,_,rfl,rfl,_,rfl,?_⟩
   refine ite2 (fun e2=>kF (fun z=>?_) _ (Same.refl _)) (fun e2=>⟨rfl,rfl,?_,?_⟩)
   ·have e2:=of_decide_eq_true e2
    rw[lR,lP] at e2
    obtain⟨n,_,_,_,_,_,e1,_,e3,_⟩:=z
    have:=(List.getElem?_eq_some_iff.mp e3).1
    rw[List.length_append] at this
    omega
   ·have:¬ w < 0:=fun z=>e (decide_eq_true z)
    omega
   ·have:¬ ((pR.map V.ref).length:Int)+ ((pP.map V.ref).length:Int)<=w:=fun z=>e2 (decide_eq_true z)
    rw[lR,lP] at this
    rw[List.length_append]
    omega
  rintro σ1 H1 ⟨rfl,rfl,hw0,hw1⟩
  obtain⟨n,rfl⟩:∃ n:Nat,w=n:=⟨w.toNat,by omega⟩
  have hnl:n < (rs++ps).length:=by omega
  have htt:=tups_append tR tP
  have hw:(rs++ps)[n]?=some ((rs++ps)[n]'hnl):=List.getElem?_eq_getElem hnl
  have hnp:n < (pR++pP).length:=by rw[htt.1];exact hnl
  have htw:(pR++pP)[n]?=some ((pR++pP)[n]'hnp):=List.getElem?_eq_getElem hnp
  generalize (rs++ps)[n]'hnl=word at hw
  generalize (pR++pP)[n]'hnp=tw at htw
  have hwt:=htt.2 n tw word htw hw
  have hw9:=hwl word (List.mem_of_getElem? hw)
  refine⟨_,rfl,_,rfl,ru,pa,_,_,rfl,rfl,hpR,hpP,szI (by omega),fun aW nW=>?_⟩
  have s1:=Same.upd (o:=.lst (pR.map V.ref++pP.map V.ref)) nW
  have q1:upd H1 aW (.lst (pR.map V.ref++pP.map V.ref)) aW=some (.lst ((pR++pP).map V.ref)):=by rw[upd_same,List.map_append]
  generalize upd H1 aW (.lst (pR.map V.ref++pP.map V.ref))=H2 at s1 q1 ⊢
  refine⟨_,rfl,aW,_,_,.ref tw,rfl,rfl,SqL.of q1,ref_at htw,?_⟩
  have hq2:=s1 _ _ hq
  have ht2:=s1 _ _ ht
  have hw2:=s1 _ _ hwt
  have no:∀{A:Prop},(okA L (rs++ps) rs.length X (.rule n path k)->False)->(∀ H',Same H1 H'->Q (.bl false) H'):=fun a=>kF a
  have wd:∀{m:Nat} {x:List Int},(n:Int)=m->(rs++ps)[m]?=some x->x=word:=fun{m x} e1 e2=>by
   have:n=m:=by omega
   rw[← this,hw] at e2
   exact(Option.some.inj e2).symm
  refine⟨fun σ' H'=>σ'=[some (.ref p),some (.int X.made),some (.ref aG),some (.ref ru),some (.ref pa),some (.ref q),some (.int n),some (.ref t),some (.ref tw),none,none]/\H'=H2/\(0<=k/\k < word.length)/\path.length=word.length+ 1,?_,?_⟩
  ·refine⟨_,rfl,q,_,_,_,rfl,rfl,SqT.of hq2,rfl,_,_,rfl,rfl,_,rfl,?_⟩
   refine ite2 (fun e=>kF (fun z=>?_) _ s1) (fun e=>?_)
   ·have e:=of_decide_eq_true e
    obtain⟨_,m,_,_,_,_,_,e1,_⟩:=z
    omega
   refine⟨_,rfl,q,_,_,_,rfl,rfl,SqT.of hq2,rfl,_,rfl,tw,_,rfl,.inr (SqT.of hw2),_,_,rfl,rfl,_,rfl,?_⟩
   refine ite2 (fun e2=>kF (fun z=>?_) _ s1) (fun e2=>?_)
   ·have e2:=of_decide_eq_true e2
    rw[ints_len] at e2
    obtain⟨m0,m,x,_,_,_,e0,e1,e3,e4,_⟩:=z
    rw[wd e0 e3] at e4
    have:=(List.getElem?_eq_some_iff.mp e4).1
    omega
   refine⟨_,rfl,t,_,rfl,.inr (SqT.of ht2),_,rfl,tw,_,rfl,.inr (SqT.of hw2),_,_,rfl,rfl,rfl,_,rfl,?_⟩
   have e':¬ k < 0:=fun z=>e (decide_eq_true z)
   have e2':¬ ((intV word).length:Int)<=k:=fun z=>e2 (decide_eq_true z)
   rw[ints_len] at e2'
   by_cases e3:path.length=word.length+ 1
   ·exact iteNS' (by rw[ints_len,ints_len,e3];rfl) ⟨rfl,rfl,⟨by omega,by omega⟩,e3⟩
   ·refine ite2 (fun _=>kF (fun z=>?_) _ s1) (fun e4=>absurd ?_ e4)
    ·obtain⟨m0,m,x,_,_,_,e0,e1,e4,_,_,_,e5,_⟩:=z
     rw[wd e0 e4] at e5
     exact e3 e5
    ·rw[decide_eq_false fun z=>e3 ?_];rfl
     have z:=V.int.inj z
     rw[ints_len,ints_len] at z
     omega
  rintro σ2 H3 ⟨rfl,rfl,⟨hk0,hk1⟩,hpw⟩
  obtain⟨m,s,rfl,hs⟩:=lst_nat k hk0 hk1
  have hml:m < word.length:=by omega
  have g0:path[0]?=some (path[0]'(by omega)):=List.getElem?_eq_getElem (by omega)
  have gl:path[word.length]?=some (path[word.length]'(by omega)):=List.getElem?_eq_getElem (by omega)
  have gm:path[m]?=some (path[m]'(by omega)):=List.getElem?_eq_getElem (by omega)
  have gm1:path[m+ 1]?=some (path[m+ 1]'(by omega)):=List.getElem?_eq_getElem (by omega)
  generalize path[0]'(by omega)=a at g0
  generalize path[word.length]'(by omega)=b at gl
  generalize path[m]'(by omega)=c at gm
  generalize path[m+ 1]'(by omega)=o at gm1
  have eh:path.head?=some a:=by rw[List.head?_eq_getElem?];exact g0
  have el:path.getLast?=some b:=by rw[last_is hpw];exact gl
  refine⟨fun σ' H'=>σ'=[some (.ref p),some (.int X.made),some (.ref aG),some (.ref ru),some (.ref pa),some (.ref q),some (.int n),some (.ref t),some (.ref tw),none,none]/\H'=H3/\a=b/\((n:Int) < rs.length\/a=0),?_,?_⟩
  ·have at0:atI (intV path) 0=some (.int a):=atI_nat (j:=0) (ints_at g0)
   have atl:atI (intV path) ((intV word).length:Int)=some (.int b):=by rw[ints_len];exact atI_nat (ints_at gl)
   refine⟨_,rfl,t,_,_,.int a,rfl,rfl,SqT.of ht2,at0,_,rfl,_,rfl,tw,_,rfl,.inr (SqT.of hw2),t,_,_,.int b,rfl,rfl,SqT.of ht2,atl,rfl,_,rfl,?_⟩
   by_cases e:a=b
   ·refine iteNS' (by rw[e]) ?_
    refine⟨_,rfl,_,rfl,ru,_,rfl,.inl (SqL.of (s1 _ _ hpR)),_,_,rfl,rfl,_,rfl,?_⟩
    rw[lR]
    refine ite2 (fun e2=>?_) (fun e2=>⟨rfl,rfl,e,.inl ?_⟩)
    ·have e2:=of_decide_eq_true e2
     refine⟨_,rfl,t,_,_,.int a,rfl,rfl,SqT.of ht2,at0,rfl,_,rfl,?_⟩
     by_cases e3:a=0
     ·exact iteNS' (by rw[e3]) ⟨rfl,rfl,e,.inr e3⟩
     ·refine ite2 (fun _=>kF (fun z=>?_) _ s1) (fun e4=>absurd (by rw[decide_eq_false fun z=>e3 (V.int.inj z)];rfl) e4)
      obtain⟨m0,_,_,_,_,_,e0,_,_,_,_,_,_,_,e5,_⟩:=z
      rcases e5 with e5 | e5
      ·omega
      ·rw[eh] at e5;exact e3 (Option.some.inj e5)
    ·have:¬ (rs.length:Int)<=n:=fun z=>e2 (decide_eq_true z)
     omega
   ·refine ite2 (fun _=>kF (fun z=>?_) _ s1) (fun e4=>absurd (by rw[decide_eq_false fun z=>e (V.int.inj z)];rfl) e4)
    obtain⟨_,_,_,_,_,_,_,_,_,_,_,_,_,e5,_⟩:=z
    rw[eh,el] at e5
    exact e (Option.some.inj e5)
  rintro σ3 H4 ⟨rfl,rfl,eab,hn0⟩
  refine⟨_,rfl,t,rfl,⟨_,SqT.of ht2⟩,?_⟩
  refine for_tup (K:=K) (a:=t) (xs:=intV path) (fun i σ H5=>∃ v9,σ=[some (.ref p),some (.int X.made),some (.ref aG),some (.ref ru),some (.ref pa),some (.ref q),some (.int n),some (.ref t),some (.ref tw),v9,none]/\H5=H4/\∀(j:Nat) (c:Int),j < i->path[j]?=some c->X.st c=true)
   ⟨none,rfl,rfl,fun j c hj=>absurd hj (by omega)⟩ (fun i σ H5 _ ⟨_,_,e,_⟩=>by rw[e];exact SqT.of ht2) ?_ ?_
  ·rintro i v σ H5 hi ⟨v9,rfl,rfl,hst⟩
   obtain⟨rm,rfl,hrm⟩:=ints_of_at hi
   refine⟨_,rfl,_,rfl,_,rfl,rm,X.made,aG,went,rfl,s1 _ _ hG,fun h1=>⟨true,rfl,iteF ?_⟩,fun h1=>⟨false,rfl,?_⟩⟩
   ·refine⟨_,rfl,rfl,fun j c hj e=>?_⟩
    by_cases hji:j < i
    ·exact hst j c hji e
    ·have:j=i:=by omega
     rw[this,hrm] at e
     rw[← Option.some.inj e]
     exact(iv.st rm).mpr h1
   ·refine ite2 (fun _=>kF (fun z=>?_) _ s1) (fun z=>absurd rfl z)
    obtain⟨_,_,_,_,_,_,_,_,_,_,_,_,_,_,_,e5,_⟩:=z
    exact h1 ((iv.st rm).mp (e5 rm (List.mem_of_getElem? hrm)))
  rintro σ5 H5 ⟨v9,rfl,rfl,hst⟩
  rw[ints_len] at hst
  have hst':∀ c∈path,X.st c=true:=fun c hc=>by
   obtain⟨j,hj,e⟩:=List.mem_iff_getElem.mp hc
   exact hst j c hj (by rw[List.getElem?_eq_getElem hj,e])
  refine⟨_,rfl,tw,_,rfl,.inr (SqT.of hw2),_,rfl,by omega,by rw[ints_len];omega,?_⟩
  rw[ints_len,Int.toNat_natCast]
  refine for_range (lo:=0) (n:=word.length) (fun i σ H6=>∃ v10,σ=[some (.ref p),some (.int X.made),some (.ref aG),some (.ref ru),some (.ref pa),some (.ref q),some (.int n),some (.ref t),some (.ref tw),v9,v10]/\Same H5 H6/\∀(j:Nat) (s' c' o':Int),j < i->j≠m->word[j]?=some s'->path[j]?=some c'->path[j+ 1]?=some o'->X.S c' s' o'=true)
   ⟨none,rfl,Same.refl _,fun j s' c' o' hj=>absurd hj (by omega)⟩ ?_ ?_
  ·rintro i σ H6 hi ⟨v10,rfl,s6,hj⟩
   have f1:word[i]?=some (word[i]'hi):=List.getElem?_eq_getElem hi
   have f2:path[i]?=some (path[i]'(by omega)):=List.getElem?_eq_getElem (by omega)
   have f3:path[i+ 1]?=some (path[i+ 1]'(by omega)):=List.getElem?_eq_getElem (by omega)
   generalize word[i]'hi=s' at f1
   generalize path[i]'(by omega)=c' at f2
   generalize path[i+ 1]'(by omega)=o' at f3
   refine⟨fun σ' H'=>σ'=[some (.ref p),some (.int X.made),some (.ref aG),some (.ref ru),some (.ref pa),some (.ref q),some (.int n),some (.ref t),some (.ref tw),v9,some (.int (0+ (i:Int)))]/\Same H5 H'/\(i≠m->X.S c' s' o'=true),?_,?_⟩
   ·refine⟨_,rfl,_,rfl,q,_,_,_,rfl,rfl,SqT.of (s6 _ _ hq2),rfl,rfl,_,rfl,?_⟩
    by_cases e:i=m
    ·exact iteNS' (by rw[e,Int.zero_add]) ⟨rfl,s6,fun z=>absurd e z⟩
    refine ite2 (fun _=>?_) (fun e4=>absurd (by rw[decide_eq_false fun z=>e (by have:=V.int.inj z;omega)];rfl) e4)
    have ht6:=s6 _ _ ht2
    refine⟨_,rfl,_,rfl,_,_,rfl,rfl,t,_,_,.int o',rfl,rfl,SqT.of ht6,(by rw[Int.zero_add];exact atI_nat (j:=i+ 1) (ints_at f3)),?_⟩
    have h6:=(h.same s1).same s6
    refine⟨_,rfl,p,rfl,h6.isd,_,rfl,_,rfl,t,_,_,.int c',rfl,rfl,SqT.of ht6,(by rw[Int.zero_add];exact atI_nat (ints_at f2)),_,rfl,_,rfl,tw,_,_,.int s',rfl,rfl,SqT.of (s6 _ _ hw2),(by rw[Int.zero_add];exact atI_nat (ints_at f1)),(by show 2<=sizeLine;decide),fun kt nkt=>?_⟩
    have s7:=Same.upd (o:=.tup [.int c',.int s']) nkt
    have q7:upd H6 kt (.tup [.int c',.int s']) kt=some (.tup [.int c',.int s']):=upd_same
    generalize upd H6 kt (.tup [.int c',.int s'])=H7 at s7 q7 ⊢
    refine⟨Nat.zero_le _,fun e1 ne1=>?_⟩
    have s8:=Same.upd (o:=.lst []) ne1
    have q8:upd H7 e1 (.lst []) e1=some (.lst []):=upd_same
    generalize upd H7 e1 (.lst [])=H8 at s8 q8 ⊢
    have s68:Same H6 H8:=s7.trans s8
    obtain⟨oo,a',ls,g1,g2,g3,g4,g5⟩:=(h6.same s68).get (s8 _ _ q7) q8
    refine⟨oo,g1,?_⟩
    rw[g2]
    refine⟨_,a',_,rfl,rfl,g3,_,rfl,?_⟩
    by_cases h3:o'∈ls
    ·rw[decide_eq_true h3]
     exact iteF ⟨rfl,s6.trans s68,fun _=>(g5 _).mp h3⟩
    ·refine ite2 (fun _=>kF (fun z=>?_) _ (s1.trans (s6.trans s68))) (fun e4=>absurd (by rw[decide_eq_false h3];rfl) e4)
     obtain⟨m0,m',x,_,_,_,e0,e1,e3,_,_,_,_,_,_,_,e5⟩:=z
     rw[wd e0 e3] at e5
     exact h3 ((g5 _).mpr (e5 i s' c' o' (by omega) f1 f2 f3))
   rintro σ' H' ⟨rfl,s7,hS⟩
   refine⟨_,rfl,s7,fun j s'' c'' o'' hji hjm e1 e2 e3=>?_⟩
   by_cases hlt:j < i
   ·exact hj j s'' c'' o'' hlt hjm e1 e2 e3
   ·have e:j=i:=by omega
    subst e
    rw[f1] at e1
    rw[f2] at e2
    rw[f3] at e3
    rw[← Option.some.inj e1,← Option.some.inj e2,← Option.some.inj e3]
    exact hS hjm
  rintro σ6 H6 ⟨v10,rfl,s6,hj⟩
  refine kT ⟨n,m,word,c,s,o,rfl,rfl,hw,hs,gm,gm1,hpw,by rw[eh,el,eab],?_,hst',fun i s' c' o' hi e1 e2 e3=>hj i s' c' o' (List.getElem?_eq_some_iff.mp e1).1 hi e1 e2 e3⟩ _ (s1.trans s6)
  rcases hn0 with z | z
  ·exact .inl z
  ·rw[eh,z];exact .inr rfl
def spDue:Sp:=fun vs H Q _=>∃(L:Int) (ru pa pp:Addr) (rs ps:List (List Int)) (qs:List Addr) (rows:List Rw),vs=[.int L,.ref ru,.ref pa,.ref pp]/\0 < L/\L < 10/\WordsAt H ru rs/\WordsAt H pa ps/\rs.length<=400/\ps.length<=400/\(∀ w∈rs++ps,StpL L w/\w.length<=900)/\H pp=some (.lst (qs.map V.ref))/\RowsOn H qs rows/\rows.length<=2000/\(Right L (rs++ps) rs.length AS0 rows->∀ H',Same H H'->Q (.int (-1)) H')/\
 ∀(i:Nat) (w:Rw),rows[i]?=some w->Right L (rs++ps) rs.length AS0 (rows.take i)->¬ okA L (rs++ps) rs.length ((rows.take i).foldl (nxA (rs++ps)) AS0) w->∀ H',Same H H'->Q (.int (i:Int)) H'
theorem ok__law_due (T:Txt K mg A):FnOk P w K mg base CX0 3 A.f__law_due A.d__law_due ["_law_letters","_law_rules","_law_part","_law_paper_here"] spDue:=by
 have G__law_tell:FnOk P w K mg base CX0 1 A.f__law_tell A.d__law_tell ["_law_known","_law_room","_law_step","_law_other"] spTell:=ok__law_tell T
 have G__law_new:FnOk P w K mg base CX0 2 A.f__law_new A.d__law_new ["_law_known","_law_made","_law_went","_law_letters","_law_row_here"] spLNew:=ok__law_new T
 have G__law_met:FnOk P w K mg base CX0 2 A.f__law_met A.d__law_met ["_law_known","_law_less","_law_more"] spMet:=ok__law_met T
 have G__law_rule:FnOk P w K mg base CX0 2 A.f__law_rule A.d__law_rule ["_law_known","_law_made","_law_went","_law_rules","_law_part","_law_row_here"] spLRule:=ok__law_rule T
 have G__law_meet:FnOk P w K mg base CX0 1 A.f__law_meet A.d__law_meet ["_law_known","_law_row_here"] spLMeet:=ok__law_meet T
 refine T._law_due.F.ok sc__law_due (fun vs H Q E h=>?_) (fun cdv AA outer s H vs Q E hr h=>?_)
 ·obtain⟨L,ru,pa,pp,rs,ps,qs,rows,rfl,_⟩:=h
  rfl
 ·obtain⟨L,ru,pa,pp,rs,ps,qs,rows,rfl,hL0,hL,hR,hP,hrl,hpl,hwd,hpp,hro,hrw,kR,kW⟩:=h
  refine⟨_,(pss_cons (ps_set (i:=4) sc__law_due.nd rfl (Or.inl rfl) pe_dnewT)
   (pss_cons (ps_set (i:=5) sc__law_due.nd rfl (Or.inl rfl) pe_int)
   (pss_cons (ps_set (i:=6) sc__law_due.nd rfl (Or.inl rfl) (pe_lst pa_nil))
   (pss_cons (ps_for PassesOwn.never rfl (pi_range1 rfl T.z_range (pa_cons (pe_callB call_len_seq rfl T.z_len PySem.boot_len (pa_cons (pv 3) pa_nil)) pa_nil)) (pg_name (i:=7) sc__law_due.nd rfl (Or.inl rfl))
    (pss_cons (ps_set (i:=8) sc__law_due.nd rfl (Or.inl rfl) (pe_ix ix_list (pv 3) (pv 7) (fun _ _=>rfl)))
    (pss_one (ps_cut (ps_if (pt_cmpR op_eq (pe_ix ix_tup (pv 8) pe_int (fun _ _=>rfl)) (pe_strX (l:=[110,101,119]) rfl) (nomark _))
     (pss_cons (ps_if (pt_not (pt_val (pe_call (G__law_new) (hr.mono (by decide)) rfl T._law_new.m T._law_new.F.kp T._law_new.b .nil pass0 (pa_cons (pv 4) (pa_cons (pv 5) (pa_cons (pv 6) (pa_cons (pv 0) (pa_cons (pv 8) pa_nil))))))))
      (pss_one (ps_ret (pv 7)))
      pss_nil)
     (pss_cons (ps_set (i:=5) sc__law_due.nd rfl (Or.inl rfl) (pe_op op_add (pv 5) pe_int))
     (pss_one (ps_expr (pe_call (G__law_tell) (hr.mono (by decide)) rfl T._law_tell.m T._law_tell.F.kp T._law_tell.b .nil pass0 (pa_cons (pv 4) (pa_cons (pe_ix ix_tup (pv 8) pe_int (fun _ _=>rfl)) (pa_cons (pe_ix ix_tup (pv 8) pe_int (fun _ _=>rfl)) (pa_cons (pe_ix ix_tup (pv 8) pe_int (fun _ _=>rfl)) pa_nil)))))))))
     (pss_one (ps_cut (ps_if (pt_cmpR op_eq (pe_ix ix_tup (pv 8) pe_int (fun _ _=>rfl)) (pe_strX (l:=[114,117,108,101]) rfl) (nomark _))
      (pss_cons (ps_if (pt_not (pt_val (pe_call (G__law_rule) (hr.mono (by decide)) rfl T._law_rule.m T._law_rule.F.kp T._law_rule.b .nil pass0 (pa_cons (pv 4) (pa_cons (pv 5) (pa_cons (pv 6) (pa_cons (pv 1) (pa_cons (pv 2) (pa_cons (pv 8) pa_nil)))))))))
       (pss_one (ps_ret (pv 7)))
       pss_nil)
      (pss_cons (ps_set (i:=9) sc__law_due.nd rfl (Or.inl rfl) (pe_ix ix_list (pe_op op_cat (pv 1) (pv 2)) (pe_ix ix_tup (pv 8) pe_int (fun _ _=>rfl)) (fun _ _=>rfl)))
      (pss_one (ps_expr (pe_call (G__law_tell) (hr.mono (by decide)) rfl T._law_tell.m T._law_tell.F.kp T._law_tell.b .nil pass0 (pa_cons (pv 4) (pa_cons (pe_ix ix_tup (pe_ix ix_tup (pv 8) pe_int (fun _ _=>rfl)) (pe_ix ix_tup (pv 8) pe_int (fun _ _=>rfl)) (fun _ _=>rfl)) (pa_cons (pe_ix ix_tup (pv 9) (pe_ix ix_tup (pv 8) pe_int (fun _ _=>rfl)) (fun _ _=>rfl)) (pa_cons (pe_ix ix_tup (pe_ix ix_tup (pv 8) pe_int (fun _ _=>rfl)) (pe_op op_add (pe_ix ix_tup (pv 8) pe_int (fun _ _=>rfl)) pe_int) (fun _ _=>rfl)) pa_nil)))))))))
      (pss_cons (ps_if (pt_not (pt_val (pe_call (G__law_meet) (hr.mono (by decide)) rfl T._law_meet.m T._law_meet.F.kp T._law_meet.b .nil pass0 (pa_cons (pv 4) (pa_cons (pv 8) pa_nil)))))
       (pss_one (ps_ret (pv 7)))
       pss_nil)
      (pss_cons (ps_set (i:=4) sc__law_due.nd rfl (Or.inl rfl) (pe_call (G__law_met) (hr.mono (by decide)) rfl T._law_met.m T._law_met.F.kp T._law_met.b .nil pass0 (pa_cons (pv 4) (pa_cons (pe_ix ix_tup (pv 8) pe_int (fun _ _=>rfl)) (pa_cons (pe_ix ix_tup (pv 8) pe_int (fun _ _=>rfl)) pa_nil)))))
      (pss_one (ps_expr (pe_bm PySem.F.plainAttrs_list PySem.F.slot_list_append PySem.F.type_list_append mt_append (pv 6) (pa_cons (pe_ix ix_tup (pv 8) pe_int (fun _ _=>rfl)) pa_nil))))))))))))))
   (pss_one (ps_ret (pe_un un_neg pe_int))))))),?_⟩
  try dsimp only[cx_noxK,cx_K]
  refine seq_let4 ?_
  intro u_4 u_3 u_2 u_1
  refine fun p0 np0=>?_
  have s1:=Same.upd (o:=.dT []) np0
  have q1:upd H p0 (.dT []) p0=some (.dT []):=upd_same
  generalize upd H p0 (.dT [])=H1 at s1 q1 ⊢
  refine⟨Nat.zero_le _,fun g ng=>?_⟩
  have s2:=Same.upd (o:=.lst []) ng
  have q2:upd H1 g (.lst []) g=some (.lst []):=upd_same
  generalize upd H1 g (.lst [])=H2 at s2 q2 ⊢
  have ngH:H g=none:=same_none s1 ng
  have hgl:g≠pp:=fun z=>by rw[z,hpp] at ngH;cases ngH
  have hlw:∀ w∈rs++ps,∀ s∈w,1<=s.natAbs/\(s.natAbs:Int)<=L:=fun w hw s hs=>(hwd w hw).1 s hs
  have s02:=s1.trans s2
  have hqr:=hro.1
  obtain⟨pR,hpR,tR⟩:=id hR
  obtain⟨pP,hpP,tP⟩:=id hP
  have htt:=tups_append tR tP
  have lR:(pR.map V.ref).length=rs.length:=by rw[List.length_map,tR.1]
  have lP:(pP.map V.ref).length=ps.length:=by rw[List.length_map,tP.1]
  have pi0:PI H H2 L g pp p0 AS0 [] qs rows:=⟨s02,np0,LAt.nil (s2 _ _ q1),fun kvs e kv hkv=>(by rw[s2 _ _ q1] at e;injection e with e;injection e with e;rw[← e] at hkv;cases hkv),q2,s02 _ _ hpp,hro.same s02,iv0 L,(fun c hc=>by cases hc),by show (1:Int)<=1;decide⟩
  refine⟨_,rfl,pp,_,rfl,.inl (SqL.of (s02 _ _ hpp)),_,rfl,by omega,by rw[List.length_map];omega,?_⟩
  rw[List.length_map,Int.toNat_natCast]
  refine for_range (lo:=0) (n:=qs.length) (fun i σ H4=>∃ p X went v7 v8 v9,σ=[some (.int L),some (.ref ru),some (.ref pa),some (.ref pp),some (.ref p),some (.int X.made),some (.ref g),v7,v8,v9]/\PI H H4 L g pp p X went qs rows/\X=(rows.take i).foldl (nxA (rs++ps)) AS0/\X.made<=1+ (i:Int)/\went.length<=i/\Right L (rs++ps) rs.length AS0 (rows.take i))
   ⟨p0,AS0,[],none,none,none,rfl,pi0,rfl,by show (1:Int)<=1+ 0;decide,Nat.le_refl _,trivial⟩ ?_ ?_
  ·rintro i σ H5 hil ⟨p,X,went,v7,v8,v9,rfl,h5,eX,hmd,hwn,hri⟩
   have g1:qs[i]?=some (qs[i]'hil):=List.getElem?_eq_getElem hil
   have g2:rows[i]?=some (rows[i]'(by omega)):=List.getElem?_eq_getElem (by omega)
   generalize qs[i]'hil=q at g1
   generalize rows[i]'(by omega)=w at g2
   have hq:=h5.ro.2 i q w g1 g2
   have hbd:=h5.iv.bd hL (by omega)
   refine⟨_,rfl,_,rfl,pp,_,_,.ref q,rfl,rfl,SqL.of h5.hl,(by rw[Int.zero_add];exact ref_at g1),?_⟩
   have kN:¬ okA L (rs++ps) rs.length X w->∀ H',Same H5 H'->Q (.int (0+ (i:Int))) H':=fun no H' s'=>by
    rw[Int.zero_add]
    exact kW i w g2 hri (by rw[← eX];exact no) H' (h5.sm.trans s')
   have hwl:=wentA_len went w
   refine⟨fun σ' H'=>∃ p' v9,σ'=[some (.int L),some (.ref ru),some (.ref pa),some (.ref pp),some (.ref p'),some (.int (nxA (rs++ps) X w).made),some (.ref g),some (.int (0+ (i:Int))),some (.ref q),v9]/\okA L (rs++ps) rs.length X w/\PI H H' L g pp p' (nxA (rs++ps) X w) (wentA went w) qs rows,?_,?_⟩
   ·cases w with
    | new c s n=>
      replace hq:H5 q=some (.tup [.str (tx [110,101,119]),.int c,.int s,.int n]):=hq
      refine⟨_,rfl,q,_,_,_,rfl,rfl,SqT.of hq,rfl,rfl,_,rfl,?_⟩
      refine ite2 (fun _=>?_) (fun z=>absurd (decide_eq_true rfl) z)
      refine⟨_,rfl,_,rfl,_,rfl,_,rfl,_,rfl,p,g,q,L,rs++ps,rs.length,X,went,c,s,n,rfl,h5.la,h5.hg,h5.iv,hq,fun ok H6 s6=>⟨true,rfl,iteF ?_⟩,fun no H6 s6=>⟨false,rfl,ite2 (fun _=>⟨_,rfl,kN no _ s6⟩) (fun z=>absurd rfl z)⟩⟩
      obtain⟨st1,st2,st3,st4⟩:=h5.iv.step hlw h5.wm h5.m1 ok
      obtain⟨o1,o2,o3,o4⟩:=id ok
      have bc:=((h5.iv.st c).mp o1).1
      replace hq:=s6 _ _ hq
      replace h5:=h5.same s6
      refine⟨_,rfl,_,_,rfl,rfl,?_⟩
      refine⟨_,rfl,_,rfl,q,_,_,_,rfl,rfl,SqT.of hq,rfl,_,rfl,q,_,_,_,rfl,rfl,SqT.of hq,rfl,_,rfl,q,_,_,_,rfl,rfl,SqT.of hq,rfl,?_⟩
      refine⟨p,X.S,c,s,n,rfl,h5.la,hbd,by omega,by omega,by omega,fun H7 b7 h7 n7=>?_⟩
      exact⟨p,_,rfl,ok,h5.told b7 h7 n7 st1 st2 (Int.le_trans h5.m1 st3)⟩
    | rule wh path kk=>
      obtain⟨t,hq,ht,hpl'⟩:=id hq
      rename_i hq0
      refine⟨_,rfl,q,_,_,_,rfl,rfl,SqT.of hq,rfl,rfl,_,rfl,?_⟩
      refine ite2 (fun z=>(str_ne (by decide) z).elim) (fun _=>?_)
      refine⟨_,?_,fun _ _ z=>z⟩
      refine⟨_,rfl,q,_,_,_,rfl,rfl,SqT.of hq,rfl,rfl,_,rfl,?_⟩
      refine ite2 (fun _=>?_) (fun z=>absurd (decide_eq_true rfl) z)
      refine⟨_,rfl,_,rfl,_,rfl,_,rfl,_,rfl,_,rfl,p,g,ru,pa,q,L,rs,ps,X,went,wh,path,kk,rfl,h5.la,h5.hg,h5.iv,hR.same h5.sm,hP.same h5.sm,hrl,hpl,fun x hx=>(hwd x hx).2,⟨t,hq,ht,hpl'⟩,fun ok H6 s6=>⟨true,rfl,iteF ?_⟩,fun no H6 s6=>⟨false,rfl,ite2 (fun _=>⟨_,rfl,kN no _ s6⟩) (fun z=>absurd rfl z)⟩⟩
      obtain⟨st1,st2,st3,st4⟩:=h5.iv.step hlw h5.wm h5.m1 ok
      obtain⟨n,m,word,c,s,o,e1,e2,o1,o2,o3,o4,o5,o6,o7,o8,o9⟩:=id ok
      subst e1 e2
      have eN:nxA (rs++ps) X (.rule n path m)=⟨X.made,X.st,learnS X.S c s o⟩:=by
       unfold nxA
       simp only[Int.toNat_natCast,List.getD_eq_getElem?_getD,o1,o2,o3,o4,Option.getD_some]
      have bc:=((h5.iv.st c).mp (o8 _ (List.mem_of_getElem? o3))).1
      have bo:=((h5.iv.st o).mp (o8 _ (List.mem_of_getElem? o4))).1
      have bs:=hlw _ (List.mem_of_getElem? o1) _ (List.mem_of_getElem? o2)
      have hnl:n < (pR++pP).length:=by rw[htt.1];exact(List.getElem?_eq_some_iff.mp o1).1
      have hpn:(pR++pP)[n]?=some ((pR++pP)[n]'hnl):=List.getElem?_eq_getElem hnl
      generalize (pR++pP)[n]'hnl=tw at hpn
      have s06:=h5.sm.trans s6
      refine⟨_,rfl,_,rfl,ru,pa,_,_,rfl,rfl,s06 _ _ hpR,s06 _ _ hpP,szI (by omega),fun aW nW=>?_⟩
      have s7:=Same.upd (o:=.lst (pR.map V.ref++pP.map V.ref)) nW
      have q7:upd H6 aW (.lst (pR.map V.ref++pP.map V.ref)) aW=some (.lst ((pR++pP).map V.ref)):=by rw[upd_same,List.map_append]
      generalize upd H6 aW (.lst (pR.map V.ref++pP.map V.ref))=H7 at s7 q7 ⊢
      have s57:=s6.trans s7
      have htw:=(h5.sm.trans s57) _ _ (htt.2 n tw word hpn o1)
      replace hq:=s57 _ _ hq
      replace ht:=s57 _ _ ht
      replace h5:=h5.same s57
      refine⟨_,rfl,q,_,_,_,rfl,rfl,SqT.of hq,rfl,aW,_,_,.ref tw,rfl,rfl,SqL.of q7,ref_at hpn,?_⟩
      refine⟨_,rfl,_,rfl,q,_,_,_,rfl,rfl,SqT.of hq,rfl,_,rfl,q,_,_,_,rfl,rfl,SqT.of hq,rfl,t,_,_,.int c,rfl,rfl,SqT.of ht,atI_nat (ints_at o3),_,rfl,_,rfl,q,_,_,_,rfl,rfl,SqT.of hq,rfl,tw,_,_,.int s,rfl,rfl,SqT.of htw,atI_nat (ints_at o2),_,rfl,q,_,_,_,rfl,rfl,SqT.of hq,rfl,_,rfl,q,_,_,_,rfl,rfl,SqT.of hq,rfl,_,_,rfl,rfl,t,_,_,.int o,rfl,rfl,SqT.of ht,atI_nat (j:=m+ 1) (ints_at o4),?_⟩
      refine⟨p,X.S,c,s,o,rfl,h5.la,hbd,by omega,by omega,by omega,fun H8 b8 h8 n8=>?_⟩
      rw[eN] at st1 st2 st3 ⊢
      exact⟨p,_,rfl,ok,h5.told (X':=⟨X.made,X.st,learnS X.S c s o⟩) b8 h8 n8 st1 st2 (Int.le_trans h5.m1 st3)⟩
    | meet c s x y=>
      replace hq:H5 q=some (.tup [.str (tx [109,101,101,116]),.int c,.int s,.int x,.int y]):=hq
      refine⟨_,rfl,q,_,_,_,rfl,rfl,SqT.of hq,rfl,rfl,_,rfl,?_⟩
      refine ite2 (fun z=>(str_ne (by decide) z).elim) (fun _=>?_)
      refine⟨_,?_,fun _ _ z=>z⟩
      refine⟨_,rfl,q,_,_,_,rfl,rfl,SqT.of hq,rfl,rfl,_,rfl,?_⟩
      refine ite2 (fun z=>(str_ne (by decide) z).elim) (fun _=>?_)
      refine⟨_,rfl,_,rfl,p,q,X.S,c,s,x,y,rfl,h5.la,hq,fun ok H6 s6=>⟨true,rfl,iteF ?_⟩,fun no H6 s6=>⟨false,rfl,ite2 (fun _=>⟨_,rfl,kN no _ s6⟩) (fun z=>absurd rfl z)⟩⟩
      obtain⟨st1,st2,st3,st4⟩:=h5.iv.step (ws:=rs++ps) (cm:=rs.length) (w:=.meet c s x y) hlw h5.wm h5.m1 ok
      obtain⟨o1,o2,o3⟩:=id ok
      have bx:=((h5.iv.st x).mp (h5.iv.cl.b o2)).1
      replace hq:=s6 _ _ hq
      replace h5:=h5.same s6
      refine⟨_,rfl,_,rfl,q,_,_,_,rfl,rfl,SqT.of hq,rfl,_,rfl,q,_,_,_,rfl,rfl,SqT.of hq,rfl,?_⟩
      refine⟨p,X.S,x,y,rfl,h5.la,h5.iv.cl.sy,hbd,by omega,by omega,fun f H7 s7 nf h7 n7=>?_⟩
      refine⟨_,rfl,.inl ⟨rfl,_,SqL.of (s7 _ _ h5.hg)⟩,_,rfl,q,_,_,_,rfl,rfl,SqT.of (s7 _ _ hq),rfl,g,_,_,rfl,rfl,s7 _ _ h5.hg,?_,?_⟩
      ·rw[ints_len]
       exact Nat.lt_of_le_of_lt (show went.length<=2000 by omega) (by decide)
      exact⟨f,_,rfl,ok,h5.met ngH hgl s7 nf h7 n7 st1 st2 (Int.le_trans h5.m1 st3)⟩
   rintro σ' H6 ⟨p',v9,rfl,ok,h6⟩
   obtain⟨_,_,st3,st4⟩:=h5.iv.step hlw h5.wm h5.m1 ok
   exact⟨p',nxA (rs++ps) X w,wentA went w,_,_,_,rfl,h6,by rw[List.take_succ,g2,List.foldl_append,← eX];rfl,by omega,by omega,by rw[List.take_succ,g2];exact right_sn hri (by rw[← eX];exact ok)⟩
  ·rintro σ H4 ⟨p,X,went,v7,v8,v9,rfl,h4,eX,hmd,hwn,hri⟩
   rw[hqr,List.take_length] at hri
   exact⟨_,rfl,kR hri _ h4.sm⟩
theorem wrong_one {L:Int}{ws:List (List Int)}{cm:Int}{rows:List Rw}{i i':Nat}{w w':Rw}(h:rows[i]?=some w)(r:Right L ws cm AS0 (rows.take i))(n:¬ okA L ws cm ((rows.take i).foldl (nxA ws) AS0) w)(h':rows[i']?=some w')(r':Right L ws cm AS0 (rows.take i'))(n':¬ okA L ws cm ((rows.take i').foldl (nxA ws) AS0) w'):i=i':=by
 have no:∀{a b:Nat} {x:Rw},a < b->rows[a]?=some x->Right L ws cm AS0 (rows.take b)->¬ okA L ws cm ((rows.take a).foldl (nxA ws) AS0) x->False:=fun{a b x} hab e r n=>by
  have:=right_at (i:=a) (w:=x) r (by rw[List.getElem?_take,if_pos hab];exact e)
  rw[List.take_take,Nat.min_eq_left (by omega)] at this
  exact n this
 rcases Nat.lt_trichotomy i i' with z | z | z
 ·exact(no z h r' n).elim
 ·exact z
 ·exact(no z h' r n').elim
theorem ok_law (T:Txt K mg A):FnOk P w K mg base CX0 9 A.f_law A.d_law ["_law_script"] (spLaw K):=by
 have G__law_mix:FnOk P w K mg base CX0 1 A.f__law_mix A.d__law_mix ["_law_number","_law_place"] spMix:=ok__law_mix T
 have G__law_paper:FnOk P w K mg base CX0 4 A.f__law_paper A.d__law_paper ["_law_words","_law_many","_law_cells"] spPaper:=ok__law_paper T
 have G__law_spoiled:FnOk P w K mg base CX0 6 A.f__law_spoiled A.d__law_spoiled ["_law_paper_here","_law_words","_law_many","_law_letters","_law_number"] spSpoiled:=ok__law_spoiled T
 have G__law_due:FnOk P w K mg base CX0 3 A.f__law_due A.d__law_due ["_law_letters","_law_rules","_law_part","_law_paper_here"] spDue:=ok__law_due T
 have G__law_at:FnOk P w K mg base CX0 1 A.f__law_at A.d__law_at ["_law_script","_law_k"] (spAt K):=ok__law_at T
 have G_judged:FnOk P w K mg base CX0 5 A.f_judged A.d_judged ["letters","rules","part","paper"] spJudged:=ok_judged T
 have G__law_word:FnOk P w K mg base CX0 2 A.f__law_word A.d__law_word ["_law_number","_law_letters","_law_least","_law_most"] spWord:=ok__law_word T
 refine T.law.F.ok sc_law (fun vs H Q E h=>?_) (fun cdv AA outer s H vs Q E hr h=>?_)
 ·obtain⟨a,ns,rfl,_⟩:=h
  rfl
 ·obtain⟨a,ns,rfl,ha,hnl,k⟩:=h
  have hu8:=Nat.lt_of_le_of_lt (Nat.add_le_add_left (by decide:8<=64) _) hr.units
  refine⟨_,(pss_cons (ps_set (i:=1) sc_law.nd rfl (Or.inl rfl) (pe_call (G__law_mix) (hr.mono (by decide)) rfl T._law_mix.m T._law_mix.F.kp T._law_mix.b .nil pass0 (pa_cons (pe_call (G__law_at) (hr.mono (by decide)) rfl T._law_at.m T._law_at.F.kp T._law_at.b .nil pass0 (pa_cons (pv 0) (pa_cons pe_int pa_nil))) (pa_cons pe_int pa_nil))))
   (pss_cons (ps_set (i:=2) sc_law.nd rfl (Or.inl rfl) (pe_op op_add pe_int (pe_op op_mod (pv 1) pe_int)))
   (pss_cons (ps_set (i:=3) sc_law.nd rfl (Or.inl rfl) (pe_lst pa_nil))
   (pss_cons (ps_for PassesOwn.never rfl (pi_range1 rfl T.z_range (pa_cons (pe_op op_add pe_int (pe_op op_mod (pe_op op_fdiv (pv 1) pe_int) pe_int)) pa_nil)) (pg_name (i:=4) sc_law.nd rfl (Or.inl rfl))
    (pss_one (ps_expr (pe_bm PySem.F.plainAttrs_list PySem.F.slot_list_append PySem.F.type_list_append mt_append (pv 3) (pa_cons (pe_call (G__law_word) (hr.mono (by decide)) rfl T._law_word.m T._law_word.F.kp T._law_word.b .nil pass0 (pa_cons (pe_call (G__law_mix) (hr.mono (by decide)) rfl T._law_mix.m T._law_mix.F.kp T._law_mix.b .nil pass0 (pa_cons (pe_call (G__law_at) (hr.mono (by decide)) rfl T._law_at.m T._law_at.F.kp T._law_at.b .nil pass0 (pa_cons (pv 0) (pa_cons pe_int pa_nil))) (pa_cons (pe_op op_add pe_int (pv 4)) pa_nil))) (pa_cons (pv 2) (pa_cons pe_int (pa_cons pe_int pa_nil))))) pa_nil)))))
   (pss_cons (ps_set (i:=5) sc_law.nd rfl (Or.inl rfl) (pe_lst pa_nil))
   (pss_cons (ps_for PassesOwn.never rfl (pi_range1 rfl T.z_range (pa_cons (pe_op op_mod (pe_op op_fdiv (pv 1) pe_int) pe_int) pa_nil)) (pg_name (i:=4) sc_law.nd rfl (Or.inl rfl))
    (pss_one (ps_expr (pe_bm PySem.F.plainAttrs_list PySem.F.slot_list_append PySem.F.type_list_append mt_append (pv 5) (pa_cons (pe_call (G__law_word) (hr.mono (by decide)) rfl T._law_word.m T._law_word.F.kp T._law_word.b .nil pass0 (pa_cons (pe_call (G__law_mix) (hr.mono (by decide)) rfl T._law_mix.m T._law_mix.F.kp T._law_mix.b .nil pass0 (pa_cons (pe_call (G__law_at) (hr.mono (by decide)) rfl T._law_at.m T._law_at.F.kp T._law_at.b .nil pass0 (pa_cons (pv 0) (pa_cons pe_int pa_nil))) (pa_cons (pe_op op_add pe_int (pv 4)) pa_nil))) (pa_cons (pv 2) (pa_cons pe_int (pa_cons pe_int pa_nil))))) pa_nil)))))
   (pss_cons (ps_set (i:=6) sc_law.nd rfl (Or.inl rfl) (pe_call (G__law_paper) (hr.mono (by decide)) rfl T._law_paper.m T._law_paper.F.kp T._law_paper.b .nil pass0 (pa_cons (pe_op op_cat (pv 3) (pv 5)) (pa_cons (pe_callB call_len_seq rfl T.z_len PySem.boot_len (pa_cons (pv 3) pa_nil)) (pa_cons (pe_slice sl_list (pv 0) (po_some pe_int) (po_some pe_int)) pa_nil)))))
   (pss_cons (ps_set (i:=6) sc_law.nd rfl (Or.inl rfl) (pe_call (G__law_spoiled) (hr.mono (by decide)) rfl T._law_spoiled.m T._law_spoiled.F.kp T._law_spoiled.b .nil pass0 (pa_cons (pv 6) (pa_cons (pe_op op_cat (pv 3) (pv 5)) (pa_cons (pe_callB call_len_seq rfl T.z_len PySem.boot_len (pa_cons (pv 3) pa_nil)) (pa_cons (pv 2) (pa_cons (pe_call (G__law_mix) (hr.mono (by decide)) rfl T._law_mix.m T._law_mix.F.kp T._law_mix.b .nil pass0 (pa_cons (pe_call (G__law_at) (hr.mono (by decide)) rfl T._law_at.m T._law_at.F.kp T._law_at.b .nil pass0 (pa_cons (pv 0) (pa_cons pe_int pa_nil))) (pa_cons pe_int pa_nil))) pa_nil)))))))
   (pss_cons (ps_cut (ps_if (pt_cmpR op_eq (pe_op op_mod (pe_op op_fdiv (pv 1) pe_int) pe_int) pe_int (nomark _))
    (pss_one (ps_expr (pe_bm PySem.F.plainAttrs_list PySem.F.slot_list_append PySem.F.type_list_append mt_append (pv 5) (pa_cons (pe_tup pa_nil) pa_nil))))
    pss_nil))
   (pss_cons (ps_set (i:=7) sc_law.nd rfl (Or.inl rfl) (pe_call (G__law_due) (hr.mono (by decide)) rfl T._law_due.m T._law_due.F.kp T._law_due.b .nil pass0 (pa_cons (pv 2) (pa_cons (pv 3) (pa_cons (pv 5) (pa_cons (pv 6) pa_nil))))))
   (pss_cons (ps_set (i:=8) sc_law.nd rfl (Or.inl rfl) (pe_lst (pa_cons (pe_callTy call_list_of rfl T.z_list PyProof.Rows.boot_list (pa_cons (pv 3) pa_nil)) (pa_cons (pe_callTy call_list_of rfl T.z_list PyProof.Rows.boot_list (pa_cons (pv 5) pa_nil)) (pa_cons (pe_callTy call_list_of rfl T.z_list PyProof.Rows.boot_list (pa_cons (pv 6) pa_nil)) pa_nil)))))
   (pss_cons (ps_for PassesOwn.never rfl (pi_range1 rfl T.z_range (pa_cons pe_int pa_nil)) (pg_name (i:=9) sc_law.nd rfl (Or.inl rfl))
    (pss_cons (ps_set (i:=10) sc_law.nd rfl (Or.inl rfl) (pe_call (G_judged) (hr.mono (by decide)) rfl T.judged.m T.judged.F.kp T.judged.b .nil pass0 (pa_cons (pv 2) (pa_cons (pe_ix ix_list (pv 8) pe_int (fun _ _=>rfl)) (pa_cons (pe_ix ix_list (pv 8) pe_int (fun _ _=>rfl)) (pa_cons (pe_ix ix_list (pv 8) pe_int (fun _ _=>rfl)) pa_nil))))))
    (pss_cons (ps_cut (ps_if (PW.pt (pw_and (pt_cmpR op_lt (pv 7) pe_int (nomark _)) (pw_and1 (pt_cmpR op_notN (pv 10) pe_non (nomark _)))))
     (pss_one (ps_ret pe_bl))
     pss_nil))
    (pss_one (ps_cut (ps_if (PW.pt (pw_and (pt_cmpR op_ge (pv 7) pe_int (nomark _)) (pw_and1 (PW.pt (pw_or (pt_not (pt_val (pe_callB call_isi rfl T.z_isinstance PyProof.Rows.boot_isinstance (pa_cons (pv 10) (pa_cons (pe_bltn (v:=.ty "int") rfl T.z_int PyProof.Rows.boot_int rfl) pa_nil))))) (pw_or (pt_val (pe_callB call_isi rfl T.z_isinstance PyProof.Rows.boot_isinstance (pa_cons (pv 10) (pa_cons (pe_bltn (v:=.ty "bool") rfl T.z_bool PyProof.Rows.boot_bool rfl) pa_nil)))) (pw_or1 (pt_cmpR op_ne (pv 10) (pv 7) (nomark _)))))))))
     (pss_one (ps_ret pe_bl))
     pss_nil))))))
   (pss_one (ps_ret (pe_cmpR (op_eqDt hu8) (pv 8) (pe_lst (pa_cons (pv 3) (pa_cons (pv 5) (pa_cons (pv 6) pa_nil)))) (nomark _)))))))))))))))),?_⟩
  try dsimp only[cx_noxK,cx_K]
  refine seq_let12 ?_
  intro u_12 u_11 u_10 u_9 u_8 u_7 u_6 u_5 u_4 u_3 u_2 u_1
  have ha:SqL K H a (intV ns):=ha
  refine⟨_,rfl,a,ns,0,rfl,ha,by decide,fun z0=>?_⟩
  refine⟨z0,0,rfl,by decide,by decide,fun r0 hr0=>?_⟩
  have e1:=Int.emod_nonneg r0 (show (3:Int)≠0 by decide)
  have e2:=Int.emod_lt_of_pos r0 (show (0:Int) < 3 by decide)
  refine⟨_,rfl,_,_,rfl,rfl,(by show (0:Int) < 3;decide),_,_,rfl,rfl,?_⟩
  generalize hL:1+ r0 % 3=L at *
  have eL:(fun(i j:Int)=>V.int (i+ j)) 1 (r0 % 3)=V.int L:=by show V.int (1+ r0 % 3)=_;rw[hL]
  rw[eL]
  have hL1:1<=L:=by omega
  have hL3:L<=3:=by omega
  refine⟨Nat.zero_le _,fun aR nR=>?_⟩
  have w0:WDr H (upd H aR (.lst [])) aR L [] 0:=⟨Same.upd nR,nR,⟨[],upd_same,rfl,(fun i p w e=>by simp at e)⟩,(fun w hw=>by cases hw),rfl⟩
  generalize upd H aR (.lst [])=H1 at w0 ⊢
  have c1:=Int.emod_nonneg (r0 / 3) (show (4:Int)≠0 by decide)
  have c2:=Int.emod_lt_of_pos (r0 / 3) (show (0:Int) < 4 by decide)
  refine⟨_,rfl,_,_,rfl,rfl,⟨by decide,by decide⟩,_,_,rfl,rfl,(by show (0:Int) < 4;decide),_,_,rfl,rfl,(1+ r0 / 3 % 4),rfl,by omega,by omega,?_⟩
  refine for_range (lo:=0) (n:=(1+ r0 / 3 % 4).toNat) (fun i σ H2=>∃ ws v4,σ=[some (.ref a),some (.int r0),some (.int L),some (.ref aR),v4,none,none,none,none,none,none]/\WDr H H2 aR L ws i)
   ⟨[],none,rfl,w0⟩ ?_ ?_
  ·rintro i σ H2 hi ⟨ws,v4,rfl,wd⟩
   obtain⟨ps,hp,_⟩:=id wd.wa
   refine⟨_,rfl,.inl ⟨rfl,_,SqL.of hp⟩,?_⟩
   refine⟨_,rfl,a,ns,0,rfl,wd.sm.seq ha,by decide,fun z1=>⟨_,rfl,_,_,rfl,rfl,z1,_,rfl,by omega,by omega,fun r hr1=>⟨_,rfl,r,L,1,5,rfl,hL1,by omega,by decide,by decide,by decide,fun t w H3 s3 ht hst h1 h20=>?_⟩⟩⟩
   refine⟨aR,_,_,rfl,rfl,s3 _ _ hp,?_,?_⟩
   ·have:=wd.wa
    obtain⟨ps',hp',hpt⟩:=this
    rw[hp] at hp'
    have e:ps=ps':=by injection hp' with h1;injection h1 with h1;exact refs_inj h1
    rw[List.length_map,e,hpt.1,wd.ln]
    exact Nat.lt_of_le_of_lt (show i<=1000 by omega) (by decide)
   ·exact⟨_,_,rfl,(wd.same s3).app (s3 _ _ hp) ht ⟨hst,h1,by omega⟩⟩
  rintro σ H2 ⟨rs,v4,rfl,wR⟩
  refine⟨Nat.zero_le _,fun aP nP=>?_⟩
  have s2:=Same.upd (o:=.lst []) nP
  have nPH:=same_none wR.sm nP
  have nRP:aR≠aP:=fun e=>by obtain⟨ps,hp,_⟩:=wR.wa;rw[e,nP] at hp;cases hp
  have w0:WDr H (upd H2 aP (.lst [])) aP L [] 0:=⟨wR.sm.trans s2,nPH,⟨[],upd_same,rfl,(fun i p w e=>by simp at e)⟩,(fun w hw=>by cases hw),rfl⟩
  replace wR:=wR.same s2
  generalize upd H2 aP (.lst [])=H3 at w0 wR ⊢
  have d1:=Int.emod_nonneg (r0 / 12) (show (3:Int)≠0 by decide)
  have d2:=Int.emod_lt_of_pos (r0 / 12) (show (0:Int) < 3 by decide)
  refine⟨_,rfl,_,_,rfl,rfl,⟨by decide,by decide⟩,_,_,rfl,rfl,(by show (0:Int) < 3;decide),(r0 / 12 % 3),rfl,by omega,by omega,?_⟩
  refine for_range (lo:=0) (n:=(r0 / 12 % 3).toNat) (fun i σ H2=>∃ ws v4,σ=[some (.ref a),some (.int r0),some (.int L),some (.ref aR),v4,some (.ref aP),none,none,none,none,none]/\WDr H H2 aP L ws i/\WDr H H2 aR L rs (1+ r0 / 3 % 4).toNat)
   ⟨[],_,rfl,w0,wR⟩ ?_ ?_
  ·rintro i σ H2 hi ⟨ws,v4,rfl,wd,wR⟩
   obtain⟨ps,hp,_⟩:=id wd.wa
   refine⟨_,rfl,.inl ⟨rfl,_,SqL.of hp⟩,?_⟩
   refine⟨_,rfl,a,ns,1,rfl,wd.sm.seq ha,by decide,fun z1=>⟨_,rfl,_,_,rfl,rfl,z1,_,rfl,by omega,by omega,fun r hr1=>⟨_,rfl,r,L,1,4,rfl,hL1,by omega,by decide,by decide,by decide,fun t w H3 s3 ht hst h1 h20=>?_⟩⟩⟩
   refine⟨aP,_,_,rfl,rfl,s3 _ _ hp,?_,?_⟩
   ·have:=wd.wa
    obtain⟨ps',hp',hpt⟩:=this
    rw[hp] at hp'
    have e:ps=ps':=by injection hp' with h1;injection h1 with h1;exact refs_inj h1
    rw[List.length_map,e,hpt.1,wd.ln]
    exact Nat.lt_of_le_of_lt (show i<=1000 by omega) (by decide)
   ·exact⟨_,_,rfl,(wd.same s3).app (s3 _ _ hp) ht ⟨hst,h1,by omega⟩,(wR.same s3).but nRP (s3 _ _ hp) nPH⟩
  rintro σ H4 ⟨ps,v4,rfl,wP,wR⟩
  obtain⟨pR,hpR,tR⟩:=wR.wa
  obtain⟨pP,hpP,tP⟩:=wP.wa
  have lR:rs.length<=4:=by rw[wR.ln];omega
  have lP:ps.length<=4:=by rw[wP.ln];omega
  have lR1:1<=rs.length:=by rw[wR.ln];omega
  refine⟨_,rfl,_,rfl,aR,aP,_,_,rfl,rfl,hpR,hpP,by rw[List.length_map,List.length_map,tR.1,tP.1];exact Nat.le_trans (show rs.length+ ps.length<=100 by omega) (by decide),fun aW nW=>?_⟩
  have s5:=Same.upd (o:=.lst (pR.map V.ref++pP.map V.ref)) nW
  have q5:upd H4 aW (.lst (pR.map V.ref++pP.map V.ref)) aW=some (.lst ((pR++pP).map V.ref)):=by rw[upd_same,List.map_append]
  generalize upd H4 aW (.lst (pR.map V.ref++pP.map V.ref))=H5 at s5 q5 ⊢
  refine⟨_,rfl,aR,_,rfl,.inl (SqL.of (s5 _ _ hpR)),_,rfl,_,rfl,_,rfl,a,_,rfl,(wR.sm.trans s5).seq ha,fun aC nC=>?_⟩
  rw[cut_ints]
  have hcl:((ns.drop (HT.sIx ns.length 0 (some 2))).take (HT.sIx ns.length ns.length (some 102) - HT.sIx ns.length 0 (some 2))).length<=63:=by rw[List.length_take,List.length_drop];omega
  generalize (ns.drop (HT.sIx ns.length 0 (some 2))).take (HT.sIx ns.length ns.length (some 102) - HT.sIx ns.length 0 (some 2))=cs at hcl ⊢
  have s6:=Same.upd (o:=.lst (intV cs)) nC
  have q6:upd H5 aC (.lst (intV cs)) aC=some (.lst (intV cs)):=upd_same
  generalize upd H5 aC (.lst (intV cs))=H6 at s6 q6 ⊢
  have s46:=s5.trans s6
  have okW:WsOk L (rs++ps):=fun w hw=>by
   rcases List.mem_append.mp hw with q | q
   ·have:=wR.ok w q;exact⟨this.1,this.2.1,by omega⟩
   ·have:=wP.ok w q;exact⟨this.1,this.2.1,by omega⟩
  have hcm:((pR.map V.ref).length:Int)=(rs.length:Int):=by rw[List.length_map,tR.1]
  refine⟨aW,aC,L,rs++ps,_,cs,rfl,by omega,⟨_,s6 _ _ q5,(tups_append tR tP).same s46⟩,by rw[List.length_append];omega,by rw[List.length_append];omega,okW,q6,by omega,fun lp qs rows H7 s7 hlp hro hri hrl=>?_⟩
  rw[hcm] at hri
  have s47:=s46.trans s7
  have szc:(pR.map V.ref).length+ (pP.map V.ref).length<=sizeLine:=by rw[List.length_map,List.length_map,tR.1,tP.1];exact szI (by omega)
  refine⟨_,rfl,_,rfl,_,rfl,aR,aP,_,_,rfl,rfl,s47 _ _ hpR,s47 _ _ hpP,szc,fun aW2 nW2=>?_⟩
  have s8:=Same.upd (o:=.lst (pR.map V.ref++pP.map V.ref)) nW2
  have q8:upd H7 aW2 (.lst (pR.map V.ref++pP.map V.ref)) aW2=some (.lst ((pR++pP).map V.ref)):=by rw[upd_same,List.map_append]
  generalize upd H7 aW2 (.lst (pR.map V.ref++pP.map V.ref))=H8 at s8 q8 ⊢
  have s48:=s47.trans s8
  refine⟨_,rfl,aR,_,rfl,.inl (SqL.of (s48 _ _ hpR)),_,rfl,_,rfl,a,ns,1,rfl,(wR.sm.trans s48).seq ha,by decide,fun z1=>⟨z1,1,rfl,by decide,by decide,fun r hr1=>?_⟩⟩
  refine⟨lp,aW2,L,rs++ps,(pR.map V.ref).length,qs,rows,r,rfl,by omega,by omega,⟨_,q8,(tups_append tR tP).same s48⟩,by rw[List.length_append];omega,by rw[List.length_append];omega,okW,s8 _ _ hlp,hro.same s8,by rw[hcm];exact hri,by omega,fun l H9 nl s9 hRL=>?_⟩
  obtain⟨qs',rows',hl9,hro9,hq5⟩:=hRL
  have s49:=s48.trans s9
  have hpR9:=s49 _ _ hpR
  have hpP9:=s49 _ _ hpP
  have tR9:=tR.same s49
  have tP9:=tP.same s49
  have nlP:l≠aP:=fun e=>by rw[e,s48 _ _ hpP] at nl;cases nl
  clear hlp hro hri hrl nl q8 nW2 s8 q5 nW s5 q6 nC s6 s46 s7 s47 s48
  refine⟨fun σ' H'=>∃ pP' ps',σ'=[some (.ref a),some (.int r0),some (.int L),some (.ref aR),v4,some (.ref aP),some (.ref l),none,none,none,none]/\H' aR=some (.lst (pR.map V.ref))/\TupsAt H' pR rs/\H' aP=some (.lst (pP'.map V.ref))/\TupsAt H' pP' ps'/\H' l=some (.lst (qs'.map V.ref))/\RowsOn H' qs' rows'/\ps'.length<=5/\∀ w∈rs++ps',StpL L w/\w.length<=900,?_,?_⟩
  ·have okw:∀ w∈rs++ps,StpL L w/\w.length<=900:=fun w hw=>⟨(okW w hw).1,(okW w hw).2.2⟩
   refine⟨_,rfl,_,_,rfl,rfl,⟨by decide,by decide⟩,_,_,rfl,rfl,(by show (0:Int) < 2;decide),rfl,_,rfl,?_⟩
   refine ite2 (fun _=>?_) (fun _=>⟨pP,ps,rfl,hpR9,tR9,hpP9,tP9,hl9,hro9,by omega,okw⟩)
   refine⟨_,rfl,.inl ⟨rfl,_,SqL.of hpP9⟩,Nat.zero_le _,fun e ne=>?_⟩
   have s10:=Same.upd (o:=.tup []) ne
   have q10:upd H9 e (.tup []) e=some (.tup (intV [])):=upd_same
   generalize upd H9 e (.tup [])=H10 at s10 q10 ⊢
   have kt:∀ b xs,H10 b=some (.tup xs)->upd H10 aP (.lst (pP.map V.ref++[.ref e])) b=some (.tup xs):=fun b xs e'=>by rw[upd_ne (fun z=>by rw[z,s10 _ _ hpP9] at e';cases e')];exact e'
   refine⟨aP,_,_,rfl,rfl,s10 _ _ hpP9,Nat.lt_of_le_of_lt (show (pP.map V.ref).length<=100 by rw[List.length_map,tP.1];omega) (by decide),?_⟩
   refine⟨pP++[e],ps++[[]],rfl,by rw[upd_ne nRP];exact s10 _ _ hpR9,(tR9.same s10).keep kt,by rw[upd_same,List.map_append];rfl,((tP9.same s10).keep kt).snoc (kt _ _ q10),by rw[upd_ne nlP];exact s10 _ _ hl9,(hro9.same s10).keep kt,by rw[List.length_append];show _+ 1<=_;omega,fun w hw=>?_⟩
   rw[← List.append_assoc] at hw
   rcases List.mem_append.mp hw with z | z
   ·exact okw w z
   ·rw[List.mem_singleton.mp z];exact⟨(fun s hs=>by cases hs),Nat.zero_le _⟩
  clear hpR9 hpP9 tR9 tP9 hl9 hro9 s9 s49 hpR hpP tR tP wR wP okW hcm szc lP
  rintro σ10 H10 ⟨pP',ps',rfl,hpR,tR,hpP,tP,hl,hro,hp5,okW⟩
  clear ps pP
  have hqr:=hro.1
  have W1:WordsAt H10 aR rs:=⟨pR,hpR,tR⟩
  have W2:WordsAt H10 aP ps':=⟨pP',hpP,tP⟩
  have jw:∀ x∈rs++ps',x.length<=1000/\∀ s∈x,-1000 < s/\s < 1000:=fun x hx=>by
   obtain⟨o1,o3⟩:=okW x hx
   exact⟨by omega,fun s hs=>by have:=o1 s hs;omega⟩
  have rest:∀(d:Int) (f:V) (H11:Hp),Same H10 H11->(d= -1/\f=.non\/∃ i:Nat,d=i/\f=.int i)->((Right L (rs++ps') rs.length AS0 rows'->f=.non)/\∀(i:Nat) (w:Rw),rows'[i]?=some w->Right L (rs++ps') rs.length AS0 (rows'.take i)->¬ okA L (rs++ps') rs.length ((rows'.take i).foldl (nxA (rs++ps')) AS0) w->f=.int i)->u_10 { nx:=fun x H'=>Q V.non H',rt:=Q } [some (.ref a),some (.int r0),some (.int L),some (.ref aR),v4,some (.ref aP),some (.ref l),some (.int d),none,none,none] H11:=fun d f H11 s11 hdf hJ=>by
   have hqs:qs'.length=rows'.length:=hqr
   refine⟨_,rfl,aR,_,rfl,.inl (SqL.of (s11 _ _ hpR)),fun b1 n1=>?_⟩
   have t1:=Same.upd (o:=.lst (pR.map V.ref)) n1
   have e1:upd H11 b1 (.lst (pR.map V.ref)) b1=some (.lst (pR.map V.ref)):=upd_same
   generalize upd H11 b1 (.lst (pR.map V.ref))=H12 at t1 e1 ⊢
   refine⟨_,rfl,aP,_,rfl,.inl (SqL.of (t1 _ _ (s11 _ _ hpP))),fun b2 n2=>?_⟩
   have t2:=Same.upd (o:=.lst (pP'.map V.ref)) n2
   have e2:upd H12 b2 (.lst (pP'.map V.ref)) b2=some (.lst (pP'.map V.ref)):=upd_same
   generalize upd H12 b2 (.lst (pP'.map V.ref))=H13 at t2 e2 ⊢
   refine⟨_,rfl,l,_,rfl,.inl (SqL.of (t2 _ _ (t1 _ _ (s11 _ _ hl)))),fun b3 n3=>?_⟩
   have t3:=Same.upd (o:=.lst (qs'.map V.ref)) n3
   have e3:upd H13 b3 (.lst (qs'.map V.ref)) b3=some (.lst (qs'.map V.ref)):=upd_same
   generalize upd H13 b3 (.lst (qs'.map V.ref))=H14 at t3 e3 ⊢
   refine⟨by show 3<=sizeLine;decide,fun hd n4=>?_⟩
   have t4:=Same.upd (o:=.lst [.ref b1,.ref b2,.ref b3]) n4
   have e4:upd H14 hd (.lst [.ref b1,.ref b2,.ref b3]) hd=some (.lst [.ref b1,.ref b2,.ref b3]):=upd_same
   generalize upd H14 hd (.lst [.ref b1,.ref b2,.ref b3])=H15 at t4 e4 ⊢
   have s15:=s11.trans (((t1.trans t2).trans t3).trans t4)
   have V1:WordsAt H15 b1 rs:=⟨pR,(t2.trans (t3.trans t4)) _ _ e1,tR.same s15⟩
   have V2:WordsAt H15 b2 ps':=⟨pP',(t3.trans t4) _ _ e2,tP.same s15⟩
   have V3:=t4 _ _ e3
   have ro15:=hro.same s15
   have U1:=W1.same s15
   have U2:=W2.same s15
   have U3:=s15 _ _ hl
   clear t1 e1 n1 t2 e2 n2 t3 e3 n3 t4 n4 s11 s15 W1 W2 hpR hpP tR tP hl hro
   refine⟨2,rfl,by decide,by decide,?_⟩
   refine for_range (lo:=0) (n:=2) (fun i σ H'=>∃ v9 v10,σ=[some (.ref a),some (.int r0),some (.int L),some (.ref aR),v4,some (.ref aP),some (.ref l),some (.int d),some (.ref hd),v9,v10]/\Same H15 H') ⟨none,none,rfl,Same.refl _⟩ ?_ ?_
   ·rintro i σ H' _ ⟨v9,v10,rfl,s'⟩
    have q':=s' _ _ e4
    refine⟨_,rfl,_,rfl,hd,_,_,_,rfl,rfl,SqL.of q',rfl,_,rfl,hd,_,_,_,rfl,rfl,SqL.of q',rfl,_,rfl,hd,_,_,_,rfl,rfl,SqL.of q',rfl,L,b1,b2,b3,rs,ps',qs',rows',rfl,by omega,by omega,V1.same s',V2.same s',by omega,by omega,jw,s' _ _ V3,hqs,(ro15.same s').2,by omega,?_⟩
    rcases hdf with ⟨rfl,rfl⟩ | ⟨j,rfl,rfl⟩
    ·refine⟨fun _ H2 s2=>?_,fun j w hw hr hno=>by cases hJ.2 j w hw hr hno⟩
     refine⟨fun σ' H3=>σ'=[some (.ref a),some (.int r0),some (.int L),some (.ref aR),v4,some (.ref aP),some (.ref l),some (.int (-1)),some (.ref hd),some (.int (0+ (i:Int))),some .non]/\H3=H2,?_,?_⟩
     ·refine⟨_,rfl,_,_,rfl,rfl,_,rfl,?_⟩
      refine ite2 (fun _=>?_) (fun z=>absurd (by decide) z)
      exact⟨_,rfl,rfl,_,rfl,rfl,rfl⟩
     rintro σ' H3 ⟨rfl,rfl⟩
     refine⟨fun σ' H4=>σ'=[some (.ref a),some (.int r0),some (.int L),some (.ref aR),v4,some (.ref aP),some (.ref l),some (.int (-1)),some (.ref hd),some (.int (0+ (i:Int))),some .non]/\H4=H3,?_,?_⟩
     ·refine⟨_,rfl,_,_,rfl,rfl,_,rfl,?_⟩
      exact ite2 (fun z=>absurd z (by decide)) (fun _=>⟨rfl,rfl⟩)
     rintro σ' H4 ⟨rfl,rfl⟩
     exact⟨_,_,rfl,s'.trans s2⟩
    ·refine⟨fun hr=>(by cases hJ.1 hr),fun j' w hw hr hno H2 s2=>?_⟩
     have ej:=V.int.inj (hJ.2 j' w hw hr hno)
     rw[← ej]
     refine⟨fun σ' H3=>σ'=[some (.ref a),some (.int r0),some (.int L),some (.ref aR),v4,some (.ref aP),some (.ref l),some (.int (j:Int)),some (.ref hd),some (.int (0+ (i:Int))),some (.int (j:Int))]/\H3=H2,?_,?_⟩
     ·refine⟨_,rfl,_,_,rfl,rfl,_,rfl,?_⟩
      exact ite2 (fun z=>absurd (of_decide_eq_true z) (by omega)) (fun _=>⟨rfl,rfl⟩)
     rintro σ' H3 ⟨rfl,rfl⟩
     refine⟨fun σ' H4=>σ'=[some (.ref a),some (.int r0),some (.int L),some (.ref aR),v4,some (.ref aP),some (.ref l),some (.int (j:Int)),some (.ref hd),some (.int (0+ (i:Int))),some (.int (j:Int))]/\H4=H3,?_,?_⟩
     ·refine⟨_,rfl,_,_,rfl,rfl,_,rfl,?_⟩
      refine ite2 (fun _=>?_) (fun z=>absurd (decide_eq_true (Int.natCast_nonneg j)) z)
      refine⟨_,rfl,_,_,_,_,rfl,.int (j:Int),kit_self _ _,true,rfl,?_⟩
      refine⟨_,rfl,_,_,_,_,rfl,.int (j:Int),kit_int_bool _,false,rfl,?_⟩
      refine⟨_,rfl,_,rfl,rfl,_,rfl,?_⟩
      exact iteNS' rfl ⟨rfl,rfl⟩
     rintro σ' H4 ⟨rfl,rfl⟩
     exact⟨_,_,rfl,s'.trans s2⟩
   ·rintro σ H' ⟨v9,v10,rfl,s'⟩
    refine⟨_,rfl,_,rfl,_,rfl,_,rfl,by show 3<=sizeLine;decide,fun e ne=>?_⟩
    have t1:=s'.trans (Same.upd (o:=.lst [.ref aR,.ref aP,.ref l]) ne)
    have q1:upd H' e (.lst [.ref aR,.ref aP,.ref l]) e=some (.lst [.ref aR,.ref aP,.ref l]):=upd_same
    generalize upd H' e (.lst [.ref aR,.ref aP,.ref l])=H2 at t1 q1 ⊢
    refine⟨_,hd,e,rfl,rfl,dt_three (t1 _ _ e4) ((dt_words (V1.same t1)).le (by decide)) ((dt_words (V2.same t1)).le (by decide)) ((dt_rows (t1 _ _ V3) (ro15.same t1)).le (by decide)),dt_three q1 ((dt_words (U1.same t1)).le (by decide)) ((dt_words (U2.same t1)).le (by decide)) ((dt_rows (t1 _ _ U3) (ro15.same t1)).le (by decide)),?_⟩
    exact k _
  refine⟨_,rfl,_,rfl,_,rfl,_,rfl,L,aR,aP,l,rs,ps',qs',rows',rfl,by omega,by omega,W1,W2,by omega,by omega,okW,hl,hro,by omega,fun hri H11 s11=>?_,fun i w hw hri hno H11 s11=>?_⟩
  ·refine rest (-1) .non H11 s11 (.inl ⟨rfl,rfl⟩) ⟨fun _=>rfl,fun i w hw _ hno=>absurd (right_at hri hw) hno⟩
  ·refine rest i (.int i) H11 s11 (.inr ⟨i,rfl,rfl⟩) ⟨fun hr=>absurd (right_at hr hw) hno,fun i' w' hw' hr' hno'=>?_⟩
   rw[wrong_one hw hri hno hw' hr' hno']
end
theorem all_mk {l:PySem.W.OpenLaw}{w:World}{K:PySem.W.Frag}{mg:Str->Option Value}{fa:Addr}(hfa:mg "law"=some (.ref fa))
 {C_Judge:Addr}
 {f1 f2 f3 f4 f5 f6 f7 f8 f9 f10 f11 f12 f13 f14 f15 f16 f17 f18 f19 f20 f21 f22 f23 f24 f25 f26 f27 f28 f29 f30 f31 f32 f33 f34 f35 f36 f37 f38 f39:Addr} {d1 d2 d3 d4 d5 d6 d7 d8 d9 d10 d11 d12 d13 d14 d15 d16 d17 d18 d19 d20 d21 d22 d23 d24 d25 d26 d27 d28 d29 d30 d31 d32 d33 d34 d35 d36 d37 d38 d39:FuncData}
 (y_Judge:mg "Judge"=some (.ref C_Judge))
 (D1:Def K mg "judged" s_judged ["letters","rules","part","paper"] f1 d1)
 (D2:Def K mg "_law_at" s__law_at ["_law_script","_law_k"] f2 d2)
 (D3:Def K mg "_law_mix" s__law_mix ["_law_number","_law_place"] f3 d3)
 (D4:Def K mg "_law_tell" s__law_tell ["_law_known","_law_room","_law_step","_law_other"] f4 d4)
 (D5:Def K mg "_law_met" s__law_met ["_law_known","_law_less","_law_more"] f5 d5)
 (D6:Def K mg "_law_word" s__law_word ["_law_number","_law_letters","_law_least","_law_most"] f6 d6)
 (D7:Def K mg "_law_walk" s__law_walk ["_law_known","_law_room","_law_word_here","_law_number"] f7 d7)
 (D8:Def K mg "_law_round" s__law_round ["_law_known","_law_made","_law_which","_law_word_here","_law_room","_law_number"] f8 d8)
 (D9:Def K mg "_law_clash" s__law_clash ["_law_known"] f9 d9)
 (D10:Def K mg "_law_row" s__law_row ["_law_known","_law_made","_law_went","_law_words","_law_many","_law_number"] f10 d10)
 (D11:Def K mg "_law_paper" s__law_paper ["_law_words","_law_many","_law_cells"] f11 d11)
 (D12:Def K mg "_law_state" s__law_state ["_law_words","_law_paper_here"] f12 d12)
 (D13:Def K mg "_law_ruled" s__law_ruled ["_law_known","_law_stand","_law_words","_law_low","_law_number"] f13 d13)
 (D14:Def K mg "_law_odd_new" s__law_odd_new ["_law_known","_law_made","_law_stand","_law_lost","_law_letters","_law_number"] f14 d14)
 (D15:Def K mg "_law_odd_rule" s__law_odd_rule ["_law_row_here","_law_words","_law_stand","_law_lost","_law_number"] f15 d15)
 (D16:Def K mg "_law_odd_meet" s__law_odd_meet ["_law_known","_law_stand","_law_number"] f16 d16)
 (D17:Def K mg "_law_odd" s__law_odd ["_law_words","_law_many","_law_letters","_law_paper_here","_law_number"] f17 d17)
 (D18:Def K mg "_law_bent_number" s__law_bent_number ["_law_old","_law_count","_law_lost","_law_number"] f18 d18)
 (D19:Def K mg "_law_bent_path" s__law_bent_path ["_law_row_here","_law_made","_law_lost","_law_number"] f19 d19)
 (D20:Def K mg "_law_bent_step" s__law_bent_step ["_law_old","_law_letters","_law_number"] f20 d20)
 (D21:Def K mg "_law_bent" s__law_bent ["_law_row_here","_law_made","_law_lost","_law_words","_law_letters","_law_number"] f21 d21)
 (D22:Def K mg "_law_bent_at" s__law_bent_at ["_law_paper_here","_law_place","_law_words","_law_letters","_law_number"] f22 d22)
 (D23:Def K mg "_law_spoiled" s__law_spoiled ["_law_paper_here","_law_words","_law_many","_law_letters","_law_number"] f23 d23)
 (D24:Def K mg "_law_stands" s__law_stands ["_law_room","_law_made","_law_went"] f24 d24)
 (D25:Def K mg "_law_new" s__law_new ["_law_known","_law_made","_law_went","_law_letters","_law_row_here"] f25 d25)
 (D26:Def K mg "_law_rule" s__law_rule ["_law_known","_law_made","_law_went","_law_rules","_law_part","_law_row_here"] f26 d26)
 (D27:Def K mg "_law_meet" s__law_meet ["_law_known","_law_row_here"] f27 d27)
 (D28:Def K mg "_law_due" s__law_due ["_law_letters","_law_rules","_law_part","_law_paper_here"] f28 d28)
 (D29:Def K mg "law" s_law ["_law_script"] f29 d29)
 (D30:MDef K C_Judge "__init__" "Judge.__init__" s_Judge___init__ ["self","letters","rules","part"] f30 d30)
 (D31:MDef K C_Judge "takes" "Judge.takes" s_Judge_takes ["self","row"] f31 d31)
 (D32:MDef K C_Judge "takes_new" "Judge.takes_new" s_Judge_takes_new ["self","room","step","number"] f32 d32)
 (D33:MDef K C_Judge "takes_rule" "Judge.takes_rule" s_Judge_takes_rule ["self","which","path","at"] f33 d33)
 (D34:MDef K C_Judge "takes_meet" "Judge.takes_meet" s_Judge_takes_meet ["self","room","step","less","more"] f34 d34)
 (D35:MDef K C_Judge "stands" "Judge.stands" s_Judge_stands ["self","room"] f35 d35)
 (D36:MDef K C_Judge "fits" "Judge.fits" s_Judge_fits ["self","which","path"] f36 d36)
 (D37:MDef K C_Judge "knows" "Judge.knows" s_Judge_knows ["self","room","step","other"] f37 d37)
 (D38:MDef K C_Judge "learn" "Judge.learn" s_Judge_learn ["self","room","step","other"] f38 d38)
 (D39:MDef K C_Judge "put_in_place" "Judge.put_in_place" s_Judge_put_in_place ["self","less","more"] f39 d39)
 (z1:mg "abs"=none)
 (z2:mg "min"=none)
 (z3:mg "max"=none)
 (z4:mg "range"=none)
 (z5:mg "len"=none)
 (z6:mg "tuple"=none)
 (z7:mg "list"=none)
 (z8:mg "all"=none)
 (z9:mg "int"=none)
 (z10:mg "enumerate"=none)
 (z11:mg "isinstance"=none)
 (z12:mg "bool"=none)
 (w_pg_Judge:PySem.W.plainGet K C_Judge Str.empty=true)
 (w_hd_Judge:PySem.W.hasDictIn K C_Judge=true)
 (w_po_Judge:PySem.W.plainOver K C_Judge=true)
 (w_sa_Judge:PySem.W.findIn K (.ref C_Judge) "__setattr__"=some (some (.builtin "object.__setattr__")))
 (w_mk_Judge:PySem.W.makesIn K C_Judge=true)
 (w_kc_Judge:PySem.W.keepIn K (.ref C_Judge)=true)
 (w_n_letters:PySem.W.findIn K (.ref C_Judge) "letters"=some none)
 (w_n_words:PySem.W.findIn K (.ref C_Judge) "words"=some none)
 (w_n_common:PySem.W.findIn K (.ref C_Judge) "common"=some none)
 (w_n_made:PySem.W.findIn K (.ref C_Judge) "made"=some none)
 (w_n_known:PySem.W.findIn K (.ref C_Judge) "known"=some none)
 :∃ fd:FuncData,(∀(s:Shared) (v:Value),BindsTo s fd ⟨[v],[]⟩ [("_law_script",v)])/\∀ base:Heap,K.In base->base.Ns mainGlobals mg->FnOk l.prog w K mg base CX0 9 fa fd ["_law_script"] (spLaw K):=by
 have e:=hfa.symm.trans D29.m
 cases e
 have T:Txt K mg ⟨f1,d1,f2,d2,f3,d3,f4,d4,f5,d5,f6,d6,f7,d7,f8,d8,f9,d9,f10,d10,f11,d11,f12,d12,f13,d13,f14,d14,f15,d15,f16,d16,f17,d17,f18,d18,f19,d19,f20,d20,f21,d21,f22,d22,f23,d23,f24,d24,f25,d25,f26,d26,f27,d27,f28,d28,fa,d29,f30,d30,f31,d31,f32,d32,f33,d33,f34,d34,f35,d35,f36,d36,f37,d37,f38,d38,f39,d39,C_Judge⟩:=⟨D1,D2,D3,D4,D5,D6,D7,D8,D9,D10,D11,D12,D13,D14,D15,D16,D17,D18,D19,D20,D21,D22,D23,D24,D25,D26,D27,D28,D29,D30,D31,D32,D33,D34,D35,D36,D37,D38,D39,z1,z2,z3,z4,z5,z6,z7,z8,z9,z10,z11,z12,y_Judge,w_pg_Judge,w_hd_Judge,w_po_Judge,w_sa_Judge,w_mk_Judge,w_kc_Judge,w_n_letters,w_n_words,w_n_common,w_n_made,w_n_known⟩
 obtain⟨kV,doc,pm,an,cdv,ct,e⟩:=D29.fd
 exact⟨_,fun s v=>by rw[e];exact .of_eq rfl,fun base _ _=>ok_law T⟩
theorem walk {l:PySem.W.OpenLaw}{q:Program}{loose:List Str}{XP:(Str->Option Value)->Heap->Prop}{YP:World->Heap->Prop}{d:DefRec}{K:Params->PySem.W.Frag}(hn:l.most=some 63)(hdf:d.params.defaults=[])
 (hY:∀(w:World) (h:Heap),YP w h->(K w.params).In h)
 (F:∀(w:World) (mg:Str->Option Value) (fa:Addr) (h:Heap),(K w.params).In h->h.Ns mainGlobals mg->mg d.name=some (.ref fa)->
  ∃ fd:FuncData,(∀(s:Shared) (u:Value),BindsTo s fd ⟨[u],[]⟩ [("_law_script",u)])/\∀ base:Heap,(K w.params).In base->base.Ns mainGlobals mg->FnOk l.prog w (K w.params) mg base CX0 9 fa fd ["_law_script"] (spLaw (K w.params))):
 PySem.W.WalkO q loose XP YP l.row.toRowW d [] (fun f vs=>PySem.call f vs):=
 L2.walk_of (n:=63) (k:=9) (x:="_law_script") (CX:=fun w=>CX0) (sp:=fun w=>spLaw (K w.params)) hn (by decide) hdf ⟨rfl,by decide,by decide⟩ hY F (fun _ _ a ns hl _ hS=>⟨a,ns,rfl,hS,hl,fun _=>rfl⟩) fun _ _ _ _ _ z=>z
end K42
open PySem PySem.W PyProof.Rows
def PySem.W.Fast.tw7059870285115112837:Unit:=()
def PySem.W.Fast.tw765236575143034154:Unit:=()
def PySem.W.Fast.tw7344053386658325581:Unit:=()
def PySem.W.Fast.tw3806658718727208250:Unit:=()
def PySem.W.Fast.tw17173824326989937408:Unit:=()
def PySem.W.Fast.tw15281696415944818106:Unit:=()
def PySem.W.Fast.tw1081989720153553179:Unit:=()
def PySem.W.Fast.tw17344282798356539798:Unit:=()
def PySem.W.Fast.tw2329889811464684357:Unit:=()
def PySem.W.Fast.tw5203791873287562359:Unit:=()
def PySem.W.Fast.tw8401604747674472423:Unit:=()
def PySem.W.Fast.tw5313679945655687553:Unit:=()
def PySem.W.Fast.tw730161486321480697:Unit:=()
def PySem.W.Fast.tw11786768648181400196:Unit:=()
def PySem.W.Fast.tw17851313818921782294:Unit:=()
def PySem.W.Fast.tw4771754863095363237:Unit:=()
def PySem.W.Fast.tw9482907027887514407:Unit:=()
def PySem.W.Fast.tw13354132453398653713:Unit:=()
def PySem.W.Fast.tw12747448815936504959:Unit:=()
def PySem.W.Fast.tw8599132583044711236:Unit:=()
def PySem.W.Fast.tw15919118046711167056:Unit:=()
def PySem.W.Fast.tw18283462979030370462:Unit:=()
def PySem.W.Fast.tw11592556791169054761:Unit:=()
def PySem.W.Fast.tw10068237894316240666:Unit:=()
def PySem.W.Fast.tw3497919046494540129:Unit:=()
def PySem.W.Fast.tw16136855808761703448:Unit:=()
def PySem.W.Fast.tw10046201506747010704:Unit:=()
def PySem.W.Fast.tw5020787347699954657:Unit:=()
def PySem.W.Fast.tw15279022528160653318:Unit:=()
def PySem.W.Fast.tw6158220625254163427:Unit:=()
def PySem.W.Fast.tw5373376590404685577:Unit:=()
def PySem.W.Fast.tw13669234719626660336:Unit:=()
def PySem.W.Fast.tw17832362334844554996:Unit:=()
def PySem.W.Fast.tw7691949900125431408:Unit:=()
def PySem.W.Fast.tw3469189660855451297:Unit:=()
def PySem.W.Fast.tw1058253527228425572:Unit:=()
def PySem.W.Fast.tw10303740616749388900:Unit:=()
def PySem.W.Fast.tw2418987009213006869:Unit:=()
def PySem.W.Fast.tw13557917694416540815:Unit:=()
def PySem.W.Fast.tw1953466059024970681:Unit:=()
def PySem.W.Fast.tw2742806250780530063:Unit:=()
def PySem.W.Fast.tw12871103217425683235:Unit:=()
def PySem.W.Fast.tw15465917364470932831:Unit:=()
def PySem.W.Fast.tw5742107135286152870:Unit:=()
def PySem.W.Fast.tw1709915985310583817:Unit:=()
def PySem.W.Fast.tw15166707035505641773:Unit:=()
def PySem.W.Fast.tw5342845893847537263:Unit:=()
def PySem.W.Fast.tw238257829400019145:Unit:=()
def PySem.W.Fast.tw12753495519469981198:Unit:=()
def PySem.W.Fast.tw2639996543492412676:Unit:=()
def PySem.W.Fast.tw9035732698739639278:Unit:=()
def PySem.W.Fast.tw10344966002513328601:Unit:=()
def PySem.W.Fast.tw2926766351140345384:Unit:=()
def PySem.W.Fast.tw12622984923713998872:Unit:=()
def PySem.W.Fast.tw11947344325645681394:Unit:=()
def PySem.W.Fast.tw1404418066291065059:Unit:=()
def PySem.W.Fast.tw2865015913744042805:Unit:=()
def PySem.W.Fast.tw17803892850963348788:Unit:=()
def PySem.W.Fast.tw4561990545376818932:Unit:=()
def PySem.W.Fast.tw2284954659060024977:Unit:=()
def PySem.W.Fast.tw634716765011671667:Unit:=()
def PySem.W.Fast.tw12865728834584978516:Unit:=()
def PySem.W.Fast.tw15591936082798911240:Unit:=()
def PySem.W.Fast.tw1889368872412068973:Unit:=()
def PySem.W.Fast.tw16388226524502605700:Unit:=()
def PySem.W.Fast.tw1391560459668606871:Unit:=()
def PySem.W.Fast.tw7264459720564473072:Unit:=()
def PySem.W.Fast.tw3756573167791697296:Unit:=()
def PySem.W.Fast.tw2435601697767695083:Unit:=()
def PySem.W.Fast.tw5791370054776171692:Unit:=()
def PySem.W.Fast.tw1522440565630499652:Unit:=()
def PySem.W.Fast.tw18102281486028334037:Unit:=()
def PySem.W.Fast.tw15224929629937795165:Unit:=()
def PySem.W.Fast.tw4451318600608423357:Unit:=()
def PySem.W.Fast.tw7800630601596892888:Unit:=()
def PySem.W.Fast.tw5961170292408878542:Unit:=()
def PySem.W.Fast.tw14612978279322032810:Unit:=()
def PySem.W.Fast.tw15706382654345105399:Unit:=()
def PySem.W.Fast.tw12882531742855749441:Unit:=()
def PySem.W.Fast.tw7371790377169224197:Unit:=()
set_option maxRecDepth 100000 in
set_option maxHeartbeats 0 in
theorem PySem.Challenge.cw_cosetyard_k42_first_wrong_row_holds : PySem.Challenge.rw_cosetyard_k42_first_wrong_row.Holds := by
  w_on; o_law; k_head; (case hw => w_witness2)
  k_fill
  refine K42.walk (l := PySem.Challenge.rw_cosetyard_k42_first_wrong_row) rfl rfl (fun w h Y => PySem.W.kIn_of Y) ?F
  case F =>
    intro w mg fa h KX G hmg
    refine' K42.all_mk hmg ?y_Judge ?D1 ?D2 ?D3 ?D4 ?D5 ?D6 ?D7 ?D8 ?D9 ?D10 ?D11 ?D12 ?D13 ?D14 ?D15 ?D16 ?D17 ?D18 ?D19 ?D20 ?D21 ?D22 ?D23 ?D24 ?D25 ?D26 ?D27 ?D28 ?D29 ?D30 ?D31 ?D32 ?D33 ?D34 ?D35 ?D36 ?D37 ?D38 ?D39 ?z1 ?z2 ?z3 ?z4 ?z5 ?z6 ?z7 ?z8 ?z9 ?z10 ?z11 ?z12 ?w_pg_Judge ?w_hd_Judge ?w_po_Judge ?w_sa_Judge ?w_mk_Judge ?w_kc_Judge ?w_n_letters ?w_n_words ?w_n_common ?w_n_made ?w_n_known
    (case y_Judge => refine' PySem.W.mg_of KX G ?a; (case a => k_is))
    (case D1 => refine' L2.Def.of KX G ?a ?l ?c ?k (fun _ _ _ _ _ _ _ hl => by obtain ⟨_, _, _, _, rfl⟩ := L2.args_is4 hl; rfl); (case a => k_is); (case l => k_is); (case c => k_is); (case k => k_is))
    (case D2 => refine' L2.Def.of KX G ?a ?l ?c ?k (fun _ _ _ _ _ _ _ hl => by obtain ⟨_, _, rfl⟩ := L2.args_is2 hl; rfl); (case a => k_is); (case l => k_is); (case c => k_is); (case k => k_is))
    (case D3 => refine' L2.Def.of KX G ?a ?l ?c ?k (fun _ _ _ _ _ _ _ hl => by obtain ⟨_, _, rfl⟩ := L2.args_is2 hl; rfl); (case a => k_is); (case l => k_is); (case c => k_is); (case k => k_is))
    (case D4 => refine' L2.Def.of KX G ?a ?l ?c ?k (fun _ _ _ _ _ _ _ hl => by obtain ⟨_, _, _, _, rfl⟩ := L2.args_is4 hl; rfl); (case a => k_is); (case l => k_is); (case c => k_is); (case k => k_is))
    (case D5 => refine' L2.Def.of KX G ?a ?l ?c ?k (fun _ _ _ _ _ _ _ hl => by obtain ⟨_, _, _, rfl⟩ := L2.args_is3 hl; rfl); (case a => k_is); (case l => k_is); (case c => k_is); (case k => k_is))
    (case D6 => refine' L2.Def.of KX G ?a ?l ?c ?k (fun _ _ _ _ _ _ _ hl => by obtain ⟨_, _, _, _, rfl⟩ := L2.args_is4 hl; rfl); (case a => k_is); (case l => k_is); (case c => k_is); (case k => k_is))
    (case D7 => refine' L2.Def.of KX G ?a ?l ?c ?k (fun _ _ _ _ _ _ _ hl => by obtain ⟨_, _, _, _, rfl⟩ := L2.args_is4 hl; rfl); (case a => k_is); (case l => k_is); (case c => k_is); (case k => k_is))
    (case D8 => refine' L2.Def.of KX G ?a ?l ?c ?k (fun _ _ _ _ _ _ _ hl => by obtain ⟨_, _, _, _, _, _, rfl⟩ := L2.args_is6 hl; rfl); (case a => k_is); (case l => k_is); (case c => k_is); (case k => k_is))
    (case D9 => refine' L2.Def.of KX G ?a ?l ?c ?k (fun _ _ _ _ _ _ _ hl => by obtain ⟨_, rfl⟩ := L2.args_is1 hl; rfl); (case a => k_is); (case l => k_is); (case c => k_is); (case k => k_is))
    (case D10 => refine' L2.Def.of KX G ?a ?l ?c ?k (fun _ _ _ _ _ _ _ hl => by obtain ⟨_, _, _, _, _, _, rfl⟩ := L2.args_is6 hl; rfl); (case a => k_is); (case l => k_is); (case c => k_is); (case k => k_is))
    (case D11 => refine' L2.Def.of KX G ?a ?l ?c ?k (fun _ _ _ _ _ _ _ hl => by obtain ⟨_, _, _, rfl⟩ := L2.args_is3 hl; rfl); (case a => k_is); (case l => k_is); (case c => k_is); (case k => k_is))
    (case D12 => refine' L2.Def.of KX G ?a ?l ?c ?k (fun _ _ _ _ _ _ _ hl => by obtain ⟨_, _, rfl⟩ := L2.args_is2 hl; rfl); (case a => k_is); (case l => k_is); (case c => k_is); (case k => k_is))
    (case D13 => refine' L2.Def.of KX G ?a ?l ?c ?k (fun _ _ _ _ _ _ _ hl => by obtain ⟨_, _, _, _, _, rfl⟩ := L2.args_is5 hl; rfl); (case a => k_is); (case l => k_is); (case c => k_is); (case k => k_is))
    (case D14 => refine' L2.Def.of KX G ?a ?l ?c ?k (fun _ _ _ _ _ _ _ hl => by obtain ⟨_, _, _, _, _, _, rfl⟩ := L2.args_is6 hl; rfl); (case a => k_is); (case l => k_is); (case c => k_is); (case k => k_is))
    (case D15 => refine' L2.Def.of KX G ?a ?l ?c ?k (fun _ _ _ _ _ _ _ hl => by obtain ⟨_, _, _, _, _, rfl⟩ := L2.args_is5 hl; rfl); (case a => k_is); (case l => k_is); (case c => k_is); (case k => k_is))
    (case D16 => refine' L2.Def.of KX G ?a ?l ?c ?k (fun _ _ _ _ _ _ _ hl => by obtain ⟨_, _, _, rfl⟩ := L2.args_is3 hl; rfl); (case a => k_is); (case l => k_is); (case c => k_is); (case k => k_is))
    (case D17 => refine' L2.Def.of KX G ?a ?l ?c ?k (fun _ _ _ _ _ _ _ hl => by obtain ⟨_, _, _, _, _, rfl⟩ := L2.args_is5 hl; rfl); (case a => k_is); (case l => k_is); (case c => k_is); (case k => k_is))
    (case D18 => refine' L2.Def.of KX G ?a ?l ?c ?k (fun _ _ _ _ _ _ _ hl => by obtain ⟨_, _, _, _, rfl⟩ := L2.args_is4 hl; rfl); (case a => k_is); (case l => k_is); (case c => k_is); (case k => k_is))
    (case D19 => refine' L2.Def.of KX G ?a ?l ?c ?k (fun _ _ _ _ _ _ _ hl => by obtain ⟨_, _, _, _, rfl⟩ := L2.args_is4 hl; rfl); (case a => k_is); (case l => k_is); (case c => k_is); (case k => k_is))
    (case D20 => refine' L2.Def.of KX G ?a ?l ?c ?k (fun _ _ _ _ _ _ _ hl => by obtain ⟨_, _, _, rfl⟩ := L2.args_is3 hl; rfl); (case a => k_is); (case l => k_is); (case c => k_is); (case k => k_is))
    (case D21 => refine' L2.Def.of KX G ?a ?l ?c ?k (fun _ _ _ _ _ _ _ hl => by obtain ⟨_, _, _, _, _, _, rfl⟩ := L2.args_is6 hl; rfl); (case a => k_is); (case l => k_is); (case c => k_is); (case k => k_is))
    (case D22 => refine' L2.Def.of KX G ?a ?l ?c ?k (fun _ _ _ _ _ _ _ hl => by obtain ⟨_, _, _, _, _, rfl⟩ := L2.args_is5 hl; rfl); (case a => k_is); (case l => k_is); (case c => k_is); (case k => k_is))
    (case D23 => refine' L2.Def.of KX G ?a ?l ?c ?k (fun _ _ _ _ _ _ _ hl => by obtain ⟨_, _, _, _, _, rfl⟩ := L2.args_is5 hl; rfl); (case a => k_is); (case l => k_is); (case c => k_is); (case k => k_is))
    (case D24 => refine' L2.Def.of KX G ?a ?l ?c ?k (fun _ _ _ _ _ _ _ hl => by obtain ⟨_, _, _, rfl⟩ := L2.args_is3 hl; rfl); (case a => k_is); (case l => k_is); (case c => k_is); (case k => k_is))
    (case D25 => refine' L2.Def.of KX G ?a ?l ?c ?k (fun _ _ _ _ _ _ _ hl => by obtain ⟨_, _, _, _, _, rfl⟩ := L2.args_is5 hl; rfl); (case a => k_is); (case l => k_is); (case c => k_is); (case k => k_is))
    (case D26 => refine' L2.Def.of KX G ?a ?l ?c ?k (fun _ _ _ _ _ _ _ hl => by obtain ⟨_, _, _, _, _, _, rfl⟩ := L2.args_is6 hl; rfl); (case a => k_is); (case l => k_is); (case c => k_is); (case k => k_is))
    (case D27 => refine' L2.Def.of KX G ?a ?l ?c ?k (fun _ _ _ _ _ _ _ hl => by obtain ⟨_, _, rfl⟩ := L2.args_is2 hl; rfl); (case a => k_is); (case l => k_is); (case c => k_is); (case k => k_is))
    (case D28 => refine' L2.Def.of KX G ?a ?l ?c ?k (fun _ _ _ _ _ _ _ hl => by obtain ⟨_, _, _, _, rfl⟩ := L2.args_is4 hl; rfl); (case a => k_is); (case l => k_is); (case c => k_is); (case k => k_is))
    (case D29 => refine' L2.Def.of KX G ?a ?l ?c ?k (fun _ _ _ _ _ _ _ hl => by obtain ⟨_, rfl⟩ := L2.args_is1 hl; rfl); (case a => k_is); (case l => k_is); (case c => k_is); (case k => k_is))
    (case D30 => refine' L2.MDef.of ?a ?i ?l ?c ?k (fun _ _ _ _ _ _ _ hl => by obtain ⟨_, _, _, _, rfl⟩ := L2.args_is4 hl; rfl); (case a => k_is); (case i => k_is); (case l => k_is); (case c => k_is); (case k => k_is))
    (case D31 => refine' L2.MDef.of ?a ?i ?l ?c ?k (fun _ _ _ _ _ _ _ hl => by obtain ⟨_, _, rfl⟩ := L2.args_is2 hl; rfl); (case a => k_is); (case i => k_is); (case l => k_is); (case c => k_is); (case k => k_is))
    (case D32 => refine' L2.MDef.of ?a ?i ?l ?c ?k (fun _ _ _ _ _ _ _ hl => by obtain ⟨_, _, _, _, rfl⟩ := L2.args_is4 hl; rfl); (case a => k_is); (case i => k_is); (case l => k_is); (case c => k_is); (case k => k_is))
    (case D33 => refine' L2.MDef.of ?a ?i ?l ?c ?k (fun _ _ _ _ _ _ _ hl => by obtain ⟨_, _, _, _, rfl⟩ := L2.args_is4 hl; rfl); (case a => k_is); (case i => k_is); (case l => k_is); (case c => k_is); (case k => k_is))
    (case D34 => refine' L2.MDef.of ?a ?i ?l ?c ?k (fun _ _ _ _ _ _ _ hl => by obtain ⟨_, _, _, _, _, rfl⟩ := L2.args_is5 hl; rfl); (case a => k_is); (case i => k_is); (case l => k_is); (case c => k_is); (case k => k_is))
    (case D35 => refine' L2.MDef.of ?a ?i ?l ?c ?k (fun _ _ _ _ _ _ _ hl => by obtain ⟨_, _, rfl⟩ := L2.args_is2 hl; rfl); (case a => k_is); (case i => k_is); (case l => k_is); (case c => k_is); (case k => k_is))
    (case D36 => refine' L2.MDef.of ?a ?i ?l ?c ?k (fun _ _ _ _ _ _ _ hl => by obtain ⟨_, _, _, rfl⟩ := L2.args_is3 hl; rfl); (case a => k_is); (case i => k_is); (case l => k_is); (case c => k_is); (case k => k_is))
    (case D37 => refine' L2.MDef.of ?a ?i ?l ?c ?k (fun _ _ _ _ _ _ _ hl => by obtain ⟨_, _, _, _, rfl⟩ := L2.args_is4 hl; rfl); (case a => k_is); (case i => k_is); (case l => k_is); (case c => k_is); (case k => k_is))
    (case D38 => refine' L2.MDef.of ?a ?i ?l ?c ?k (fun _ _ _ _ _ _ _ hl => by obtain ⟨_, _, _, _, rfl⟩ := L2.args_is4 hl; rfl); (case a => k_is); (case i => k_is); (case l => k_is); (case c => k_is); (case k => k_is))
    (case D39 => refine' L2.MDef.of ?a ?i ?l ?c ?k (fun _ _ _ _ _ _ _ hl => by obtain ⟨_, _, _, rfl⟩ := L2.args_is3 hl; rfl); (case a => k_is); (case i => k_is); (case l => k_is); (case c => k_is); (case k => k_is))
    (case z1 => refine' PySem.W.mg_none_of KX G ?a; (case a => k_is))
    (case z2 => refine' PySem.W.mg_none_of KX G ?a; (case a => k_is))
    (case z3 => refine' PySem.W.mg_none_of KX G ?a; (case a => k_is))
    (case z4 => refine' PySem.W.mg_none_of KX G ?a; (case a => k_is))
    (case z5 => refine' PySem.W.mg_none_of KX G ?a; (case a => k_is))
    (case z6 => refine' PySem.W.mg_none_of KX G ?a; (case a => k_is))
    (case z7 => refine' PySem.W.mg_none_of KX G ?a; (case a => k_is))
    (case z8 => refine' PySem.W.mg_none_of KX G ?a; (case a => k_is))
    (case z9 => refine' PySem.W.mg_none_of KX G ?a; (case a => k_is))
    (case z10 => refine' PySem.W.mg_none_of KX G ?a; (case a => k_is))
    (case z11 => refine' PySem.W.mg_none_of KX G ?a; (case a => k_is))
    (case z12 => refine' PySem.W.mg_none_of KX G ?a; (case a => k_is))
    (case w_pg_Judge => first | k_is | kit_is | kts_exm | kernel_rfl)
    (case w_hd_Judge => first | k_is | kit_is | kts_exm | kernel_rfl)
    (case w_po_Judge => first | k_is | kit_is | kts_exm | kernel_rfl)
    (case w_sa_Judge => first | k_is | kit_is | kts_exm | kernel_rfl)
    (case w_mk_Judge => first | k_is | kit_is | kts_exm | kernel_rfl)
    (case w_kc_Judge => first | k_is | kit_is | kts_exm | kernel_rfl)
    (case w_n_letters => first | k_is | kit_is | kts_exm | kernel_rfl)
    (case w_n_words => first | k_is | kit_is | kts_exm | kernel_rfl)
    (case w_n_common => first | k_is | kit_is | kts_exm | kernel_rfl)
    (case w_n_made => first | k_is | kit_is | kts_exm | kernel_rfl)
    (case w_n_known => first | k_is | kit_is | kts_exm | kernel_rfl)
