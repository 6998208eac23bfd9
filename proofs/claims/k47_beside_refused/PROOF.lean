import PyProof.Rows.All
import Wide.All
import Wide.FinOn
import PyProof.EqAt
import PyProof.EqKinds
import PyProof.TupleCall
import KE.KIsAll
import KE.KTryMore
import KE.KEqDeep
import KE.KEqSeq
import KE.KRegrown
import KE.KSortKey
import KE.KItem
import KE.KNestM
import OpenK.KOwn
import OpenK.KRaise
import OpenK.KWalk
import OpenK.KFacts
import OpenK.KMake
import OpenK.KExp
import OpenK.KDescr
import KE.KLam
import KE.KSortTup
import PyProof.Rows.SortRuns
import PyProof.Rows.SumAny
import PyProof.Rows.SeqJoint
import PySem.Challenge.RW_conekin_k47_beside_refused
set_option Elab.async false
set_option linter.all false
set_option maxRecDepth 100000
set_option genSizeOf false
noncomputable section
namespace L2
open PySem PySem.Spec PyProof.Rows
abbrev Key:=Sum Int Str
def Ug:Key->Value->Bool
 | .inl k,v=>Value.isInt k v
 | .inr x,v=>Value.isStrOf x v
def ZC(w:World):Key->Int
 | .inl k=>hashInt k
 | .inr x=>hashStr w x
theorem fW:∀{k:Key}{v:Value},Ug k v=true->(∃i t,k=Sum.inl i/\v=Value.int i t)∨(∃x t,k=Sum.inr x/\v=Value.str x t)
 | .inl i,v,h=>by
  obtain⟨t,e⟩:=Value.isInt_shape (k:=i) (v:=v) h
  exact .inl ⟨i,t,rfl,e⟩
 | .inr x,v,h=>by
  obtain⟨t,e⟩:=Value.isStrOf_shape (x:=x) (v:=v) h
  exact .inr ⟨x,t,rfl,e⟩
theorem UH(a b:Int):decide ((Sum.inl a:Key)=Sum.inl b)=(a==b):=by
 by_cases e:a=b
 ·subst e;simp
 ·have h:¬(Sum.inl a:Key)=Sum.inl b:=λq=>e (Sum.inl.inj q)
  rw[decide_eq_false h]
  exact(beq_eq_false_iff_ne.mpr e).symm
theorem UI(a b:Str):decide ((Sum.inr a:Key)=Sum.inr b)=decide (a=b):=by
 by_cases e:a=b
 ·subst e;simp
 ·have h:¬(Sum.inr a:Key)=Sum.inr b:=λq=>e (Sum.inr.inj q)
  rw[decide_eq_false h,decide_eq_false e]
theorem UJ(a:Int)(b:Str):decide ((Sum.inl a:Key)=Sum.inr b)=false:=decide_eq_false (λq=>nomatch q)
theorem UK(a:Str)(b:Int):decide ((Sum.inr a:Key)=Sum.inl b)=false:=decide_eq_false (λq=>nomatch q)
def BI(prog:Program)(w:World):PySem.KeyKind prog w Key where
 is:=Ug
 hash:=ZC w
 inj:=λv a b ha hb=>by
  rcases fW ha with⟨i,t,rfl,rfl⟩|⟨x,t,rfl,rfl⟩
  ·rcases fW hb with⟨j,u,rfl,e⟩|⟨y,u,rfl,e⟩
   ·injection e with e1 _;rw[e1]
   ·exact nomatch e
  ·rcases fW hb with⟨j,u,rfl,e⟩|⟨y,u,rfl,e⟩
   ·exact nomatch e
   ·injection e with e1 _;rw[e1]
 byValue:=λk v h=>by
  rcases fW h with⟨i,t,rfl,rfl⟩|⟨x,t,rfl,rfl⟩<;>rfl
 pyHash:=λhv h=>by
  rcases fW hv with⟨i,t,rfl,rfl⟩|⟨x,t,rfl,rfl⟩
  ·exact wpAny_pyHash_int h
  ·exact wpAny_pyHash_str h
 eqBool:=λhu hv h=>by
  rcases fW hu with⟨i,t,rfl,rfl⟩|⟨x,t,rfl,rfl⟩
  ·rcases fW hv with⟨j,u,rfl,rfl⟩|⟨y,u,rfl,rfl⟩
   ·rw[UH]at h;exact wpAny_eqBool_int h
   ·rw[UJ]at h;exact SeqAt.EqAt.int_str i t y u _ _ _ _ h
  ·rcases fW hv with⟨j,u,rfl,rfl⟩|⟨y,u,rfl,rfl⟩
   ·rw[UK]at h;exact SeqAt.EqAt.str_int x t j u _ _ _ _ h
   ·rw[UI]at h;exact wpAny_eqBool_str h
 «strs» :=λk x t v h=>by
  rcases fW h with⟨i,u,rfl,e⟩|⟨y,u,rfl,e⟩
  ·exact nomatch e
  ·injection e with e1 _
   subst e1
   cases v<;>rfl
inductive V where
 |fP|bl (b:Bool)|int (i:Int)|str (x:Str)|JN (b:Array UInt8)|JO (b:UInt64)|ref (a:Addr)|ty (n:String)
 deriving DecidableEq
def RelV:V->Value->Prop
 | .fP,u=>u=Value.none
 | .bl b,u=>u=Value.bool b
 | .int i,u=> ∃t,u=Value.int i t
 | .str x,u=> ∃t,u=Value.str x t
 | .JN b,u=> ∃t,u=Value.bytes b t
 | .JO b,u=> ∃t,u=Value.float b t
 | .ref a,u=>u=Value.ref a
 | .ty n,u=>u=Value.type n
abbrev Vals:List V->List Value->Prop:=Paired RelV
theorem Vals.length{xs:List V}{us:List Value}(r:Vals xs us):xs.length=us.length:=Paired.length r
theorem Vals.get:∀{xs:List V}{us:List Value}{i:Nat}{x:V},Vals xs us->xs[i]?=some x-> ∃u,us[i]?=some u/\RelV x u
 |_,_,_,_,.nil,e=>by simp at e
 |_,_,0,_,.cons r _,e=>by simp at e;subst e;exact⟨_,rfl,r⟩
 |_,_,i+1,x,.cons _ t,e=>by
  obtain⟨u,h1,h2⟩:=Vals.get (i:=i) (x:=x) t (by simpa using e)
  exact⟨u,by simpa using h1,h2⟩
theorem Vals.set{x:V}{u:Value}(r:RelV x u):∀{xs:List V}{us:List Value}(i:Nat),Vals xs us->Vals (xs.set i x) (us.set i u)
 |_,_,_,.nil=> .nil
 |_,_,0,.cons _ t=> .cons r t
 |_,_,i+1,.cons q t=> .cons q (Vals.set r i t)
theorem Vals.append:∀{xs ys:List V}{us ws:List Value},Vals xs us->Vals ys ws->Vals (xs++ys) (us++ws)
 |_,_,_,_,.nil,s=>s
 |_,_,_,_,.cons r t,s=> .cons r (Vals.append t s)
theorem Vals.take:∀{xs:List V}{us:List Value}(n:Nat),Vals xs us->Vals (xs.take n) (us.take n)
 |_,_,0,_=> .nil
 |_,_,_+1,.nil=> .nil
 |_,_,n+1,.cons r t=> .cons r (Vals.take n t)
theorem Vals.drop:∀{xs:List V}{us:List Value}(n:Nat),Vals xs us->Vals (xs.drop n) (us.drop n)
 |_,_,0,r=>r
 |_,_,_+1,.nil=> .nil
 |_,_,n+1,.cons _ t=>Vals.drop n t
def UL:Option V->Option Value->Prop
 |some v,some u=>RelV v u
 |none,none=>True
 |_,_=>False
def KV{κ:Type}:List (κ×V) ->List (κ×Value) ->Prop:=Paired λ(p:κ×V)(q:κ×Value)=>p.1=q.1/\RelV p.2 q.2
def kV:Key->V
 | .inl i=> .int i
 | .inr x=> .str x
inductive HO where
 |lst(xs:List V)
 |tup(xs:List V)
 |dK(kvs:List (Key×V))|dT (kvs:List (List Key×V))
 |set(S:Int->Bool)(n:Nat)
 |ins(C dx:Addr)(fs:List (Str×V))
 |own(x:Addr)
 |xd(fs:List (Str×V))
 |met(f x:Addr)
 |YF(lo hi:Int)
 |AY(o:Obj)(u:HO)
 |Uh(ps:Array Value)
 |ext(φ:Heap->Prop)
 |DH
abbrev Hp:=Addr->Option HO
def upd(H:Hp)(a:Addr)(o:HO):Hp:=λb=>if b=a then some o else H b
theorem aq{H:Hp}{a:Addr}{o:HO}:upd H a o a=some o:=by unfold upd;rw[if_pos rfl]
theorem aH{H:Hp}{a b:Addr}{o:HO}(h:b≠a):upd H a o b=H b:=by unfold upd;rw[if_neg h]
theorem cO{H:Hp}{a b:Addr}{o:HO}(h:H a=some o)(h':H b=none):a≠b:=by
 intro e;subst e;rw[h]at h';cases h'
section
variable(P:Program)(w:World)
def fX(H:Hp)(h:Heap)(a:Addr):HO->Prop
 | .lst xs=>xs.length<=sizeLine/\ ∃(its:List Value)(n:Nat),Vals xs its/\h.get? a=some {cls:= .type "list",data:= .seq its.toArray n}
 | .tup xs=>xs.length<=sizeLine/\ ∃its:List Value,Vals xs its/\IsTup h a its.toArray
 | .dK kvs=>kvs.length<=sizeLine/\(a==sysModules)=false/\ ∃vs,KV kvs vs/\h.DictOf (BI P w) a vs
 | .dT kvs=>kvs.length<=sizeLine/\(a==sysModules)=false/\ ∃xs:List (List Key×Addr×Value),
   Paired (λ(p:List Key×V)(q:List Key×Addr×Value)=>p.1=q.1/\H q.2.1=some (.tup (p.1.map kV))/\RelV p.2 q.2.2) kvs xs/\
   ∃o es ep,h.get? a=some o/\o.ExactDict/\o.data= .dict es ep/\es.toList=xs.map (entryOfKey (tupleKind (BI P w)))/\(xs.map (·.1)).Nodup
 | .set S n=>h.SetOf (intKind P w) a S n
 | .ins C dx fs=>H dx=some (.own a)/\fs.length<=1000/\dx≠a/\h.get? a=some (PySem.W.instObj C dx)/\
   ∃mA,h.Ns1 dx mA/\(∀f,UL (fs.lookup f) (mA f))/\PySem.Within mA (fs.map (·.1))
 | .own _=> ∃o,h.get? a=some o
 | .xd fs=> ∃mA,h.Ns1 a mA/\ ∀f,UL (fs.lookup f) (mA f)
 | .YF lo hi=> ∃t u v,h.get? a=some {cls:= .type "range",data:= .fields #[.int lo t,.int hi u,.int 1 v]}
 | .AY o u=>h.get? a=some o/\fX H h a u
 | .Uh ps=>h.get? a=some {cls:= .none,data:= .fields ps}
 | .met f x=>h.get? a=some (PySem.W.methodObj (.ref f) (.ref x))
 | .ext φ=>φ h/\(∃o,h.get? a=some o)/\ ∀h1 h2:Heap,φ h1->(∀o,h1.get? a=some o->h2.get? a=some o) ->φ h2
 | .DH=> ∃ps:Array Value,h.get? a=some {cls:= .none,data:= .fields ps}/\TriplesOk ps.toList/\ ∀(pos:Pos)(cv:Value),codeAmong pos ps.toList=some cv->
   ∃(c:Addr)(oc:Obj)(vs:Array Value)(q:Str)(t:Tok),cv= .ref c/\H c=some (.AY oc (.ext λ_=>True))/\oc.data= .fields vs/\vs[1]?=some (.str q t)
def vE(H:Hp)(h:Heap):Prop:=∀a o,H a=some o->fX P w H h a o
end
section
variable{P:Program}{w:World}{H H':Hp}{h h':Heap}{a:Addr}{o:HO}
theorem fX.lt(x:fX P w H h a o):a<h.objs.size:=by
 cases o with
 |lst xs=>obtain⟨_,_,_,_,e⟩:=x;exact Heap.lt_size e
 |tup xs=>obtain⟨_,_,_,p⟩:=x;exact p.lt
 |dK kvs=>obtain⟨_,_,_,_,o,_,_,e,_⟩:=x;exact Heap.lt_size e
 |dT kvs=>obtain⟨_,_,_,_,o,_,_,e,_⟩:=x;exact Heap.lt_size e
 |set S n=>obtain⟨o,_,_,_,e,_⟩:=x;exact Heap.lt_size e
 |ins C dx fs=>obtain⟨_,_,_,e,_⟩:=x;exact Heap.lt_size e
 |own y=>obtain⟨_,e⟩:=x;exact Heap.lt_size e
 |xd fs=>obtain⟨_,⟨_,_,_,e,_⟩,_⟩:=x;exact Heap.lt_size e
 |YF lo hi=>obtain⟨_,_,_,e⟩:=x;exact Heap.lt_size e
 |AY ob u=>obtain⟨e,_⟩:=x;exact Heap.lt_size e
 |Uh ps=>exact Heap.lt_size (show h.get? a=some _ from x)
 |met f y=>exact Heap.lt_size (show h.get? a=some _ from x)
 |ext φ=>obtain⟨_,⟨_,e⟩,_⟩:=x;exact Heap.lt_size e
 |DH=>obtain⟨_,e,_⟩:=x;exact Heap.lt_size e
theorem Paired.WQ{α β:Type}{F G:α->β->Prop}:∀{l₁:List α}{l₂:List β},Paired F l₁ l₂->(∀a b,F a b->G a b) ->Paired G l₁ l₂
 |_,_,.nil,_=> .nil
 |_,_,.cons r t,f=> .cons (f _ _ r) (Paired.WQ t f)
theorem fX.stay(x:fX P w H h a o)(k:∀b u,(b=a∨H b=some (.own a)) ->h.get? b=some u->h'.get? b=some u)
  (ho:∀b,H b=some (.own a) ->H' b=some (.own a))(ht:∀b xs,H b=some (.tup xs) ->H' b=some (.tup xs))(hz:∀b ob u,H b=some (.AY ob u) ->H' b=some (.AY ob u):=by first|exact λ_ _ _ q=>q|assumption):fX P w H' h' a o:=by
 induction o with
 |lst xs=>obtain⟨z,its,n,r,e⟩:=x;exact⟨z,its,n,r,k _ _ (.inl rfl) e⟩
 |tup xs=>obtain⟨z,its,r,ob,e,c⟩:=x;exact⟨z,its,r,ob,k _ _ (.inl rfl) e,c⟩
 |dK kvs=>obtain⟨z,y,vs,r,ob,es,ep,e,c⟩:=x;exact⟨z,y,vs,r,ob,es,ep,k _ _ (.inl rfl) e,c⟩
 |dT kvs=>
  obtain⟨z,y,xs,r,ob,es,ep,e,c⟩:=x
  exact⟨z,y,xs,Paired.WQ r λp q z=>⟨z.1,ht _ _ z.2.1,z.2.2⟩,ob,es,ep,k _ _ (.inl rfl) e,c⟩
 |set S n=>obtain⟨ob,es,ep,t,e,c⟩:=x;exact⟨ob,es,ep,t,k _ _ (.inl rfl) e,c⟩
 |ins C dx fs=>
  obtain⟨d,z,ne,e,mA,⟨od,es,ep,e2,c⟩,r⟩:=x
  exact⟨ho _ d,z,ne,k _ _ (.inl rfl) e,mA,⟨od,es,ep,k _ _ (.inr d) e2,c⟩,r⟩
 |own y=>obtain⟨ob,e⟩:=x;exact⟨ob,k _ _ (.inl rfl) e⟩
 |xd fs=>obtain⟨mA,⟨od,es,ep,e,c⟩,r⟩:=x;exact⟨mA,⟨od,es,ep,k _ _ (.inl rfl) e,c⟩,r⟩
 |YF lo hi=>obtain⟨t,u,v,e⟩:=x;exact⟨t,u,v,k _ _ (.inl rfl) e⟩
 |AY ob u ih=>obtain⟨e,q⟩:=x;exact⟨k _ _ (.inl rfl) e,ih q⟩
 |Uh ps=>
  have e:h.get? a=some {cls:= .none,data:= .fields ps}:=x
  show h'.get? a=some {cls:= .none,data:= .fields ps}
  exact k a _ (.inl rfl) e
 |met f y=>
  have e:h.get? a=some (PySem.W.methodObj (.ref f) (.ref y)):=x
  show h'.get? a=some (PySem.W.methodObj (.ref f) (.ref y))
  exact k a _ (.inl rfl) e
 |ext φ=>obtain⟨p,⟨o,e⟩,st⟩:=x;exact⟨st _ _ p λo q=>k _ _ (.inl rfl) q,⟨o,k _ _ (.inl rfl) e⟩,st⟩
 |DH=>obtain⟨ps,e,t,r⟩:=x;exact⟨ps,k _ _ (.inl rfl) e,t,λpos cv q=>let⟨c,oc,vs,q2,t2,e1,e2,e3⟩:=r pos cv q;⟨c,oc,vs,q2,t2,e1,hz _ _ _ e2,e3⟩⟩
theorem vE.lt(x:vE P w H h)(e:H a=some o):a<h.objs.size:=(x a o e).lt
theorem vE.fresh(x:vE P w H h)(e:h.objs.size<=a):H a=none:=by
 cases q:H a with
 |none=>rfl
 |some u=>exact absurd (Nat.lt_of_lt_of_le (x.lt q) e) (Nat.lt_irrefl _)
theorem vE.kept(x:vE P w H h)(k:∀b u,h.get? b=some u->h'.get? b=some u):vE P w H h':=λa o e=>
 (x a o e).stay (λb u _ q=>k b u q) (λ_ q=>q) λ_ _ q=>q
theorem vE.laid(x:vE P w H h)(k:∀b u,h.get? b=some u->h'.get? b=some u)(hp:h.objs.size<=a)(new:fX P w (upd H a o) h' a o):vE P w (upd H a o) h':=λb u e=>by
 have hn:=x.fresh hp
 by_cases hb:b=a
 ·subst hb;rw[aq]at e;cases e;exact new
 ·rw[aH hb]at e
  exact(x b u e).stay (λc v _ q=>k c v q) (λc q=>by rw[aH (cO q hn)];exact q) (λc xs q=>by rw[aH (cO q hn)];exact q) λc ob xs q=>by rw[aH (cO q hn)];exact q
end
def Rd(H:Hp)(a:Addr)(u:HO):Prop:=H a=some u∨ ∃o,H a=some (.AY o u)
theorem Rd.of{H:Hp}{a:Addr}{u:HO}(h:H a=some u):Rd H a u:= .inl h
theorem Rd.ok{P:Program}{w:World}{H:Hp}{h:Heap}{a:Addr}{u:HO}(r:Rd H a u)(x:vE P w H h):fX P w H h a u:=by
 rcases r with r|⟨o,r⟩
 ·exact x a u r
 ·obtain⟨_,q⟩:=x a _ r
  exact q
def YG:Option HO->Prop
 |some (.lst _)=>True
 |some (.dK _)=>True
 |some (.dT _)=>True
 |some (.set _ _)=>True
 |some (.ins _ _ _)=>True
 |some (.ext _)=>True
 |some .DH=>True
 |_=>False
section
variable{P:Program}{w:World}{H:Hp}{h h':Heap}{x e:Addr}{o':HO}
theorem vE.write(ok:vE P w H h)(mu:YG (H x))(he:e=x∨H e=some (.own x))(k:∀b u,b≠e->h.get? b=some u->h'.get? b=some u)(Wx:∃u,h'.get? e=some u)
  (new:fX P w (upd H x o') h' x o'):vE P w (upd H x o') h':=λb u q=>by
 have WR:∀c y,H c=some (.own y) ->c≠x:=λc y r z=>by subst z;rw[r]at mu;exact mu
 have ZD:∀c xs,H c=some (.tup xs) ->c≠x:=λc xs r z=>by subst z;rw[r]at mu;exact mu
 by_cases hb:b=x
 ·subst hb;rw[aq]at q;cases q;exact new
 ·rw[aH hb]at q
  by_cases UM:b=e
  ·have q':H b=some (.own x):=by
    rcases he with z|z
    ·exact absurd (UM.trans z) hb
    ·rw[UM];exact z
   rw[q]at q';cases q'
   obtain⟨v,hv⟩:=Wx
   exact⟨v,by rw[UM];exact hv⟩
  ·refine(ok b u q).stay (λc v hc r=>k c v ?_ r) (λc r=>by rw[aH (WR c b r)];exact r) (λc xs r=>by rw[aH (ZD c xs r)];exact r) λc ob xs r=>by rw[aH (λz=>by subst z;rw[r]at mu;exact mu)];exact r
   rcases hc with rfl|hc
   ·exact UM
   ·rintro rfl
    rcases he with z|z
    ·exact WR c b hc z
    ·rw[hc]at z;cases z;exact hb rfl
end
structure Un(fs ex:List Addr)(H H':Hp)(h h':Heap):Prop where
 keep:∀b o,h.get? b=some o->H b=none->b∉fs->b∉ex->h'.get? b=some o
 slot:∀b o,h.get? b=some o->H b=none->b∈fs->b∉ex-> ∃sl,h'.get? b=some {o with slots:=sl}
 free:∀b o,h.get? b=some o->H b=none->b∉ex->H' b=none
 there:∀b o,h.get? b=some o->b∉ex-> ∃o',h'.get? b=some o'
 tups:∀b xs,H b=some (.tup xs) ->H' b=some (.tup xs)
 uo:∀b o u,H b=some (.AY o u) ->H' b=some (.AY o u)
 vF:∀b ps,H b=some (.Uh ps) -> ∃more,H' b=some (.Uh (ps++more))
section
variable{fs fs' ex ex':List Addr}{H H1 H2:Hp}{h h1 h2 h':Heap}{a x e:Addr}{o:HO}
theorem Un.any(u:Un fs ex H H1 h h1){b:Addr}{ob:Obj}(q:h.get? b=some ob)(n:H b=none)(hx:b∉ex):∃sl,h1.get? b=some {ob with slots:=sl}:=by
 by_cases hb:b∈fs
 ·exact u.slot b ob q n hb hx
 ·exact⟨ob.slots,u.keep b ob q n hb hx⟩
theorem Un.trans(a:Un fs ex H H1 h h1)(b:Un fs ex H1 H2 h1 h2):Un fs ex H H2 h h2 where
 keep:=λc ob q n hc hx=>b.keep c ob (a.keep c ob q n hc hx) (a.free c ob q n hx) hc hx
 slot:=λc ob q n hc hx=>by
  obtain⟨sl,e1⟩:=a.slot c ob q n hc hx
  obtain⟨WS,e2⟩:=b.slot c _ e1 (a.free c ob q n hx) hc hx
  exact⟨WS,e2⟩
 free:=λc ob q n hx=>by
  obtain⟨o',e1⟩:=a.there c ob q hx
  exact b.free c o' e1 (a.free c ob q n hx) hx
 there:=λc ob q hx=>by
  obtain⟨o',e1⟩:=a.there c ob q hx
  exact b.there c o' e1 hx
 tups:=λc xs q=>b.tups c xs (a.tups c xs q)
 uo:=λc ob xs q=>b.uo c ob xs (a.uo c ob xs q)
 vF:=λc ps q=>by
  obtain⟨m1,e1⟩:=a.vF c ps q
  obtain⟨m2,e2⟩:=b.vF c _ e1
  exact⟨m1++m2,by rw[e2,Array.append_assoc]⟩
theorem Un.kept(k:∀b u,h.get? b=some u->h'.get? b=some u):Un fs ex H H h h':=
 ⟨λb ob q _ _ _=>k b ob q,λb ob q _ _ _=>⟨ob.slots,k b ob q⟩,λ_ _ _ n _=>n,λb ob q _=>⟨ob,k b ob q⟩,λ_ _ q=>q,λ_ _ _ q=>q,λ_ ps q=>⟨#[],by rw[q];simp⟩⟩
theorem Un.refl:Un fs ex H H h h:=Un.kept λ_ _ q=>q
theorem Un.laid(k:∀b u,h.get? b=some u->h'.get? b=some u)(hp:h.objs.size<=a)(hn:H a=none):Un fs ex H (upd H a o) h h' where
 keep:=λb u q _ _ _=>k b u q
 slot:=λb u q _ _ _=>⟨u.slots,k b u q⟩
 free:=λb u q n _=>by rw[aH (Nat.ne_of_lt (Nat.lt_of_lt_of_le (Heap.lt_size q) hp))];exact n
 there:=λb u q _=>⟨u,k b u q⟩
 tups:=λb xs q=>by rw[aH (cO q hn)];exact q
 uo:=λb u xs q=>by rw[aH (cO q hn)];exact q
 vF:=λb ps q=>⟨#[],by rw[aH (cO q hn),q];simp⟩
theorem Un.write(mu:YG (H x))(he:e=x∨H e=some (.own x))(k:∀b u,b≠e->h.get? b=some u->h'.get? b=some u)(Wx:∃u,h'.get? e=some u):Un fs ex H (upd H x o) h h':=by
 have hx:∀b,H b=none->b≠x:=λb n z=>by subst z;rw[n]at mu;exact mu
 have hb:∀b,H b=none->b≠e:=λb n z=>by
  subst z
  rcases he with r|r
  ·exact hx b n r
  ·rw[n]at r;cases r
 have hm:∀b u,H b=some u-> ¬YG (some u) ->b≠x:=λb u q nm z=>by subst z;rw[q]at mu;exact nm mu
 refine⟨λb u q n _ _=>k b u (hb b n) q,λb u q n _ _=>⟨u.slots,k b u (hb b n) q⟩,λb u q n _=>by rw[aH (hx b n)];exact n,λb u q _=> ?_,
  λb xs q=>by rw[aH (hm b _ q λz=>z)];exact q,λb u xs q=>by rw[aH (hm b _ q λz=>z)];exact q,λb ps q=>⟨#[],by rw[aH (hm b _ q λz=>z),q];simp⟩⟩
 by_cases UM:b=e
 ·subst UM;exact Wx
 ·exact⟨u,k b u UM q⟩
end
def YH(h:Heap)(H:Hp):List Addr:=(List.range h.objs.size).filter λa=>(H a).isSome
def Ai(h:Heap)(H:Hp):Heap:=PySem.W.hideAll h (YH h H)
theorem JP(h:Heap)(H:Hp):(Ai h H).objs.size=h.objs.size:=PySem.W.hideAll_size _ _
theorem MB{h:Heap}{H:Hp}{b:Addr}{o:Obj}(e:h.get? b=some o)(n:H b=none):(Ai h H).get? b=some o:=
 PySem.W.hideAll_get _ e λhm=>by
  have q:(H b).isSome=true:=(List.mem_filter.mp hm).2
  rw[n]at q;simp at q
theorem QZ{h:Heap}{H:Hp}{b:Addr}{o:Obj}(e:(Ai h H).get? b=some o):h.get? b=some o/\H b=none:=by
 have e':h.get? b=some o:=PySem.W.of_hideAll (YH h H) e
 refine⟨e',?_⟩
 cases q:H b with
 |none=>rfl
 |some x=>
  have hm:b∈YH h H:=List.mem_filter.mpr ⟨List.mem_range.mpr (Heap.lt_size e'),by simp[q]⟩
  have z:(Ai h H).get? b=none:=PySem.W.hideAll_none (YH h H) hm
  rw[z]at e;cases e
def Ra(g h:Heap)(L:Addr):List (Addr×Obj):=(List.range h.objs.size).filterMap λa=>if a=L∨(g.get? a).isSome=true then none else(h.get? a).map λo=>(a,o)
def rest(g h:Heap)(L d:Addr):List (Addr×Obj):=(Ra g h L).filter λp=>decide (p.1≠d)
structure Mod(K:PySem.W.Frag)(mg:Str->Option Value)(base:Heap):Prop where
 BJ:K.In base
 glob:base.Ns mainGlobals mg
 blt:∃mb,base.Ns builtinsNs mb/\ ∀x:Str,x≠ "__name__" ->mb x=bootBuiltins x
 nolimit:base.NoLimit
structure Cx where
 prog:Program
 w:World
 K:PySem.W.Frag
 mg:Str->Option Value
 base:Heap
 A:Around
 N:List Str
 s₀:Shared
 H₀:Hp
 env:Env
 outer:List Env
 stack:List Env
 ex:List Addr
 fn:Str->Bool
 calm:Bool
 pn:List (Addr×Obj)
 xe:Value->Shared->Prop
def frs(l:List Env):List Addr:=l.filterMap (·.frame)
abbrev Cx.fs(X:Cx):List Addr:=frs X.outer
def Ui(sc:Scope)(x:Str):Prop:=sc.names.lookup x=some .local∨sc.names.lookup x=some .cell∨sc.names.lookup x=some .free
def Loc(sc:Scope)(x:Str):Prop:=sc.names.lookup x=some .local∨sc.names.lookup x=some .cell
def Look(env:Env)(h:Heap)(m:Str->Option Value)(x:Str)(u:Value):Prop:=
 (env.kindOf x=some .local/\m x=some u)∨((env.kindOf x=some .cell∨env.kindOf x=some .free)/\ ∃c,env.cells.lookup x=some c/\h.IsCell c (some u))
structure Cx.Ok(X:Cx):Prop where
 mod:Mod X.K X.mg X.base
 kind:X.env.scope.kind= .function
 glob:X.env.globals=mainGlobals
 blt:X.env.builtins=builtinsNs
 above:X.s₀.heap.objs.size<=X.env.locals
 inj:∀x y c,X.env.cells.lookup x=some c->X.env.cells.lookup y=some c->x=y
 has:∀x,(X.env.kindOf x=some .cell∨X.env.kindOf x=some .free) -> ∃c,X.env.cells.lookup x=some c
 Uj:∀x c,X.fn x=true->X.env.cells.lookup x=some c->X.s₀.heap.objs.size<=c
 hd:X.calm=true->X.A.handled=none
 frames:X.A.frames=some X.stack
 stk:X.stack=X.outer∨(X.stack=X.env::X.outer/\X.env.frame=some X.env.locals)
 MC:∀b∈X.ex,b≠X.env.locals/\ ∀x c,X.env.cells.lookup x=some c->c≠b
 bs:∀b o,X.base.get? b=some o->X.s₀.heap.get? b=some o/\X.H₀ b=none
 ID:X.base.objs.size<=X.s₀.heap.objs.size
 BK:∀b o,X.base.get? b=some o->b∉X.ex
 Aj:∀b∈X.ex,b∉X.fs
 sr:X.s₀.heap.FunFrames X.base X.outer
 QN:∀b∈X.fs,X.H₀ b=none
structure Mw(a b:Array GenState):Prop where
 bare:AllBare b
 size:a.size<=b.size
 old:∀k,k<a.size->b[k]?=a[k]?
theorem Mw.refl{a:Array GenState}(h:AllBare a):Mw a a:=⟨h,Nat.le_refl _,λ_ _=>rfl⟩
theorem Mw.trans{a b c:Array GenState}(x:Mw a b)(y:Mw b c):Mw a c:=⟨y.bare,Nat.le_trans x.size y.size,λk h=>(y.old k (Nat.lt_of_lt_of_le h x.size)).trans (x.old k h)⟩
structure Inv(X:Cx)(pins:List (Addr×Obj))(σ:List (Option V))(H:Hp)(s:Shared):Prop where
 ok:X.Ok
 os:s.os=X.s₀.os
 bare:Mw X.s₀.gens s.gens
 base:Un X.fs X.ex X.H₀ H X.s₀.heap s.heap
 loc:∃m,s.heap.Ns X.env.locals m/\ ∀(i:Nat)(x:Str)(v:V),X.N[i]?=some x->σ[i]?=some (some v) ->Ui X.env.scope x-> ∃u,RelV v u/\Look X.env s.heap m x u
 cell:∀x c,X.env.cells.lookup x=some c-> ∃v,s.heap.IsCell c v
 free:H X.env.locals=none
 jO:∀x c,X.env.cells.lookup x=some c->H c=none
 pin:∀p∈X.pn++pins,s.heap.get? p.1=some p.2/\H p.1=none/\p.1≠X.env.locals/\p.1∉X.fs/\ ∀v,p.2.data≠ .cell v
 hok:vE X.prog X.w H s.heap
 len:σ.length=X.N.length
section
variable{X:Cx}{pins:List (Addr×Obj)}{σ:List (Option V)}{H H':Hp}{s:Shared}{h':Heap}
theorem Cx.Ok.ZE(ok:X.Ok){b:Addr}{o:Obj}(e:X.base.get? b=some o):b∉X.fs:=λhb=>by
 have:=(ok.sr.mem hb).1
 rw[e]at this;cases this
theorem Inv.bs(I:Inv X pins σ H s):∀b o,X.base.get? b=some o->s.heap.get? b=some o/\H b=none:=λb o e=>
 ⟨I.base.keep b o (I.ok.bs b o e).1 (I.ok.bs b o e).2 (I.ok.ZE e) (I.ok.BK b o e),I.base.free b o (I.ok.bs b o e).1 (I.ok.bs b o e).2 (I.ok.BK b o e)⟩
theorem Inv.bk(I:Inv X pins σ H s):∀b o,X.base.get? b=some o->s.heap.get? b=some o:=λb o e=>(I.bs b o e).1
theorem Inv.mod(I:Inv X pins σ H s):Mod X.K X.mg X.base:=I.ok.mod
theorem Inv.xh(I:Inv X pins σ H s):X.K.In s.heap:=I.ok.mod.BJ.keeps I.bk
theorem Inv.nolimit(I:Inv X pins σ H s):s.heap.NoLimit:=I.ok.mod.nolimit.keeps I.bk
theorem Inv.fr(I:Inv X pins σ H s):∃m,Fr X.base X.env.locals s.heap m:=
 let⟨m,hn,_⟩:=I.loc
 ⟨m,hn,I.bk,Nat.le_trans I.ok.ID I.ok.above⟩
theorem Inv.lt(I:Inv X pins σ H s):X.env.locals<s.heap.objs.size:=let⟨_,hn,_⟩:=I.loc;hn.lt
theorem Inv.sz(I:Inv X pins σ H s):X.s₀.heap.objs.size<=s.heap.objs.size:=Nat.le_trans I.ok.above (Nat.le_of_lt I.lt)
theorem Inv.WT(I:Inv X pins σ H s){a:Addr}(h:s.heap.objs.size<=a):a∉X.fs:=λhb=>by
 obtain⟨_,o,ho,_⟩:=I.ok.sr.mem hb
 exact absurd (Nat.lt_of_lt_of_le (Heap.lt_size ho) (Nat.le_trans I.sz h)) (Nat.lt_irrefl _)
theorem Inv.MD(I:Inv X pins σ H s):∀x c,X.env.cells.lookup x=some c->c≠X.env.locals:=λx c e z=>by
 obtain⟨v,o,ho,hd⟩:=I.cell x c e
 obtain⟨m,⟨o',es,ep,ho',hd',_⟩,_⟩:=I.loc
 rw[z,ho']at ho;cases ho;rw[hd']at hd;cases hd
theorem Inv.sr(I:Inv X pins σ H s):s.heap.FunFrames X.base X.outer:=by
 have all:∀(l:List Env),(∀b∈frs l,b∈X.fs) ->X.s₀.heap.FunFrames X.base l->s.heap.FunFrames X.base l:=by
  intro l
  induction l with
  |nil=>intro _ _;trivial
  |cons env r ih=>
   intro hs hl
   obtain⟨hk,⟨L,o,hf,hn,ho,hd⟩,hr⟩:=hl
   have hL:L∈X.fs:=hs L (by unfold frs;rw[List.filterMap_cons,hf];exact List.mem_cons_self)
   obtain⟨sl,e⟩:=I.base.slot L o ho (I.ok.QN L hL) hL λz=>I.ok.Aj L z hL
   exact⟨hk,⟨L,_,hf,hn,e,hd⟩,ih (λb hb=>hs b (by unfold frs;rw[List.filterMap_cons,hf];exact List.mem_cons_of_mem _ hb)) hr⟩
 exact all X.outer (λ_ hb=>hb) I.ok.sr
theorem Inv.stack(I:Inv X pins σ H s):s.heap.FunFrames X.base X.stack:=by
 rcases I.ok.stk with e|⟨e,hf⟩
 ·rw[e];exact I.sr
 ·rw[e]
  obtain⟨m,hn,_⟩:=I.loc
  refine .cons (by rw[I.ok.kind];decide) hf hn ?_ I.sr
  exact Heap.get?_none_of_le (Nat.le_trans I.ok.ID I.ok.above)
theorem Inv.sQ(I:Inv X pins σ H s):∀b∈frs X.stack,b∈X.env.locals::X.fs:=λb hb=>by
 rcases I.ok.stk with e|⟨e,hf⟩
 ·rw[e]at hb;exact List.mem_cons_of_mem _ hb
 ·rw[e]at hb
  unfold frs at hb
  rw[List.filterMap_cons,hf]at hb
  exact hb
theorem Inv.uq(I:Inv X pins σ H s):∀b∈frs X.stack,H b=none:=λb hb=>by
 rcases List.mem_cons.mp (I.sQ b hb)with e|hb
 ·rw[e];exact I.free
 ·obtain⟨_,o,ho,_⟩:=I.ok.sr.mem hb
  exact I.base.free b o ho (I.ok.QN b hb) λz=>I.ok.Aj b z hb
theorem Inv.step{g':Array GenState}{t':Nat}{d':Drawn}{ch:List Addr}(I:Inv X pins σ H s)
  (hch:∀b∈ch,(b∈X.ex∨X.s₀.heap.objs.size<=b)/\b≠X.env.locals/\(∀x c,X.env.cells.lookup x=some c->c≠b)/\ ∀p∈X.pn++pins,p.1≠b)
  (keep:∀b o,b≠X.env.locals->b∉X.fs->b∉ch->s.heap.get? b=some o->H b=none->h'.get? b=some o)
  (slot:∀b o,b≠X.env.locals->b∈X.fs->b∉ch->s.heap.get? b=some o->H b=none-> ∃sl,h'.get? b=some {o with slots:=sl})(free:∀b o,b∉ch->s.heap.get? b=some o->H b=none->H' b=none)
  (there:∀b o,b∉ch->s.heap.get? b=some o-> ∃o',h'.get? b=some o')
  (tups:∀b xs,H b=some (.tup xs) ->H' b=some (.tup xs))(uo:∀b o u,H b=some (.AY o u) ->H' b=some (.AY o u))(vF:∀b ps,H b=some (.Uh ps) -> ∃more,H' b=some (.Uh (ps++more)))
  (ns:∀m,s.heap.Ns X.env.locals m->h'.Ns X.env.locals m)(hok:vE X.prog X.w H' h')(hg:Mw s.gens g'):
  Inv X pins σ H' {s with heap:=h',gens:=g',drawn:=d',toks:=t'}:=by
 have neL:∀b o,X.s₀.heap.get? b=some o->b≠X.env.locals:=λb o e=>Nat.ne_of_lt (Nat.lt_of_lt_of_le (Heap.lt_size e) I.ok.above)
 have Uk:∀b o,X.s₀.heap.get? b=some o->b∉X.ex->b∉ch:=λb o e hx hb=>by
  rcases(hch b hb).1 with z|z
  ·exact hx z
  ·exact absurd (Nat.lt_of_lt_of_le (Heap.lt_size e) z) (Nat.lt_irrefl _)
 have cellK:∀x c,X.env.cells.lookup x=some c-> ∀v,s.heap.IsCell c v->h'.IsCell c v:=λx c e v ⟨o,ho,hd⟩=>by
  have WU:c∉ch:=λz=>(hch c z).2.2.1 x c e rfl
  by_cases hc:c∈X.fs
  ·obtain⟨sl,q⟩:=slot c o (I.MD x c e) hc WU ho (I.jO x c e)
   exact⟨_,q,hd⟩
  ·exact⟨o,keep c o (I.MD x c e) hc WU ho (I.jO x c e),hd⟩
 refine⟨I.ok,I.os,I.bare.trans hg,⟨λb o e n hb hx=> ?_,λb o e n hb hx=> ?_,λb o e n hx=> ?_,λb o e hx=> ?_,λb xs e=>tups b xs (I.base.tups b xs e),λb o xs e=>uo b o xs (I.base.uo b o xs e),λb ps e=> ?_⟩,?_,λx c e=> ?_,?_,λx c e=> ?_,λp hp=> ?_,hok,I.len⟩
 ·exact keep b o (neL b o e) hb (Uk b o e hx) (I.base.keep b o e n hb hx) (I.base.free b o e n hx)
 ·obtain⟨sl,e1⟩:=I.base.slot b o e n hb hx
  obtain⟨WS,e2⟩:=slot b _ (neL b o e) hb (Uk b o e hx) e1 (I.base.free b o e n hx)
  exact⟨WS,e2⟩
 ·obtain⟨o',e1⟩:=I.base.there b o e hx
  exact free b o' (Uk b o e hx) e1 (I.base.free b o e n hx)
 ·obtain⟨o',e1⟩:=I.base.there b o e hx
  exact there b o' (Uk b o e hx) e1
 ·obtain⟨m1,e1⟩:=I.base.vF b ps e
  obtain⟨m2,e2⟩:=vF b _ e1
  exact⟨m1++m2,by rw[e2,Array.append_assoc]⟩
 ·obtain⟨m,hn,hl⟩:=I.loc
  refine⟨m,ns m hn,λi x v e1 e2 e3=> ?_⟩
  obtain⟨u,r,l⟩:=hl i x v e1 e2 e3
  refine⟨u,r,?_⟩
  rcases l with l|⟨k,c,e,z⟩
  ·exact .inl l
  ·exact .inr ⟨k,c,e,cellK x c e _ z⟩
 ·obtain⟨v,z⟩:=I.cell x c e
  exact⟨v,cellK x c e v z⟩
 ·obtain⟨m,⟨o,_,_,ho,_⟩,_⟩:=I.loc
  exact free _ o (λz=>(hch _ z).2.1 rfl) ho I.free
 ·obtain⟨v,o,ho,hd⟩:=I.cell x c e
  exact free c o (λz=>(hch c z).2.2.1 x c e rfl) ho (I.jO x c e)
 ·obtain⟨e,n,ne,nf,d⟩:=I.pin p hp
  have WU:p.1∉ch:=λz=>(hch p.1 z).2.2.2 p hp rfl
  exact⟨keep p.1 p.2 ne nf WU e n,free p.1 p.2 WU e n,ne,nf,d⟩
theorem Inv.un{t':Nat}(I:Inv X pins σ H s)(u:Un X.fs [] H H' s.heap h')(hok:vE X.prog X.w H' h'):Inv X pins σ H' {s with heap:=h',toks:=t'}:=by
 obtain⟨m,⟨o,es,ep,ho,r⟩,_⟩:=id I.loc
 obtain⟨sl,hL⟩:=u.any ho I.free (by simp)
 exact I.step (g':=s.gens) (d':=s.drawn) (ch:=[]) (λ_ z=>nomatch z) (λb o _ hb _ e n=>u.keep b o e n hb (by simp)) (λb o _ hb _ e n=>u.slot b o e n hb (by simp)) (λb o _ e n=>u.free b o e n (by simp)) (λb o _ e=>u.there b o e (by simp)) u.tups u.uo u.vF (λm' hm=>by
  obtain⟨o',es',ZF,ho',r'⟩:=hm
  rw[ho]at ho';cases ho'
  exact⟨_,es',ZF,hL,r'⟩) hok (.refl I.bare.bare)
theorem Inv.call{g':Array GenState}{t':Nat}{d':Drawn}{ch:List Addr}(I:Inv X pins σ H s)(u:Un (frs X.stack) ch H H' s.heap h')(hok:vE X.prog X.w H' h')(hg:Mw s.gens g')
  (hch:∀b∈ch,(b∈X.ex∨X.s₀.heap.objs.size<=b)/\b≠X.env.locals/\(∀x c,X.env.cells.lookup x=some c->c≠b)/\ ∀p∈X.pn++pins,p.1≠b):
  Inv X pins σ H' {s with heap:=h',gens:=g',drawn:=d',toks:=t'}:=by
 obtain⟨m,⟨o,es,ep,ho,r⟩,_⟩:=id I.loc
 obtain⟨sl,hL⟩:=u.any ho I.free λz=>(hch _ z).2.1 rfl
 exact I.step (ch:=ch) hch (λb o hL hb hc e n=>u.keep b o e n (λz=>(List.mem_cons.mp (I.sQ b z)).elim hL hb) hc) (λb o _ _ hc e n=>u.any e n hc) (λb o hc e n=>u.free b o e n hc) (λb o hc e=>u.there b o e hc) u.tups u.uo u.vF (λm' hm=>by
  obtain⟨o',es',ZF,ho',r'⟩:=hm
  rw[ho]at ho';cases ho'
  exact⟨_,es',ZF,hL,r'⟩) hok hg
theorem Inv.turned{t':Nat}{it:Addr}(I:Inv X pins σ H s)(k:∀b o,b≠it->s.heap.get? b=some o->h'.get? b=some o)(hn:H it=none)(hL:it≠X.env.locals)
  (h1:it∈X.ex∨X.s₀.heap.objs.size<=it)(h2:∀x c,X.env.cells.lookup x=some c->c≠it)(h3:∀p∈X.pn++pins,p.1≠it):Inv X pins σ H {s with heap:=h',toks:=t'}:=by
 have WV:∀b u,H b=some u->b≠it:=λb u e z=>by rw[z,hn]at e;cases e
 refine I.step (g':=s.gens) (d':=s.drawn) (ch:=[it]) (λb hb=> ?_) (λb o _ _ hc e _=>k b o (λz=>hc (by simp[z])) e) (λb o _ _ hc e _=>⟨o.slots,k b o (λz=>hc (by simp[z])) e⟩) (λ_ _ _ _ n=>n)
  (λb o hc e=>⟨o,k b o (λz=>hc (by simp[z])) e⟩) (λ_ _ e=>e) (λ_ _ _ e=>e) (λb ps e=>⟨#[],by rw[e];simp⟩) (λm hm=> ?_) (λb u e=> ?_) (.refl I.bare.bare)
 ·have e:b=it:=by simpa using hb
  subst e
  exact⟨h1,hL,h2,h3⟩
 ·obtain⟨o,es,ep,ho,r⟩:=hm
  exact⟨o,es,ep,k _ o (Ne.symm hL) ho,r⟩
 ·refine(I.hok b u e).stay (λc v hc q=>k c v ?_ q) (λ_ q=>q) λ_ _ q=>q
  rcases hc with z|z
  ·rw[z];exact WV b u e
  ·exact WV c _ z
theorem Inv.tok(I:Inv X pins σ H s)(t:Nat):Inv X pins σ H {s with toks:=t}:=I.un (h':=s.heap) (t':=t) Un.refl I.hok
theorem Inv.kept{t':Nat}(I:Inv X pins σ H s)(k:∀b u,s.heap.get? b=some u->h'.get? b=some u):Inv X pins σ H {s with heap:=h',toks:=t'}:=I.un (Un.kept k) (I.hok.kept k)
theorem Inv.laid{a:Addr}{o:HO}{t':Nat}(I:Inv X pins σ H s)(k:∀b u,s.heap.get? b=some u->h'.get? b=some u)(hp:s.heap.objs.size<=a)(new:fX X.prog X.w (upd H a o) h' a o):
  Inv X pins σ (upd H a o) {s with heap:=h',toks:=t'}:=I.un (Un.laid k hp (I.hok.fresh hp)) (I.hok.laid k hp new)
theorem Inv.write{x e:Addr}{o:HO}{t':Nat}(I:Inv X pins σ H s)(mu:YG (H x))(he:e=x∨H e=some (.own x))(k:∀b u,b≠e->s.heap.get? b=some u->h'.get? b=some u)(Wx:∃u,h'.get? e=some u)
  (new:fX X.prog X.w (upd H x o) h' x o):Inv X pins σ (upd H x o) {s with heap:=h',toks:=t'}:=I.un (Un.write mu he k Wx) (I.hok.write mu he k Wx new)
theorem Inv.lC{ql:List (Addr×Obj)}(I:Inv X pins σ H s)(h:∀p∈ql,s.heap.get? p.1=some p.2/\H p.1=none/\p.1≠X.env.locals/\p.1∉X.fs/\ ∀v,p.2.data≠ .cell v):Inv X ql σ H s:=
 ⟨I.ok,I.os,I.bare,I.base,I.loc,I.cell,I.free,I.jO,λp hp=>(List.mem_append.mp hp).elim (λz=>I.pin p (List.mem_append_left _ z)) (h p),I.hok,I.len⟩
theorem yf{N:List Str}(hN:N.Nodup){i j:Nat}{x:Str}(a:N[i]?=some x)(b:N[j]?=some x):i=j:=by
 obtain⟨h1,e1⟩:=List.getElem?_eq_some_iff.mp a
 obtain⟨h2,e2⟩:=List.getElem?_eq_some_iff.mp b
 exact(List.getElem_inj hN).mp (e1.trans e2.symm)
theorem vG{M:Model}{A:Around}{E:Value->Shared->Prop}{i:Nat}{x:Str}{v:V}{u:Value}{Q:Unit->Shared->Prop}(I:Inv X pins σ H s)(hN:X.N.Nodup)(hi:X.N[i]?=some x)(hx:Loc X.env.scope x)(r:RelV v u)
  (h:∀s',Inv X pins (σ.set i (some v)) H s'->(∃a,Heap.SameBut a s.heap s'.heap/\(a=X.env.locals∨X.env.cells.lookup x=some a)) ->Q () s')(hf:X.fn x=true∨X.env.scope.names.lookup x=some .local:=by first|exact .inl rfl|exact .inr rfl|assumption):wpAny M A (storeName X.env x u) Q E s:=by
 obtain⟨m,hn,hl⟩:=id I.loc
 have hcls:(X.env.scope.kind== .class||(X.env.scope.kind== .module && X.env.locals !=X.env.globals))=false:=by rw[I.ok.kind];rfl
 have JQ:i<σ.length:=by rw[I.len];exact(List.getElem?_eq_some_iff.mp hi).1
 have MD:=I.MD
 have tracked:∀{a:Addr}{h':Heap},(∃o,s.heap.get? a=some o/\H a=none) ->Heap.SameBut a s.heap h'->vE X.prog X.w H h':=λ {a h'} ha hs b ob e=>by
  obtain⟨_,_,hfree⟩:=ha
  refine(I.hok b ob e).stay (λc w' hc q=>(hs.2 c ?_).trans q) (λ_ q=>q) λ_ _ q=>q
  rintro rfl
  rcases hc with rfl|hc
  ·rw[hfree]at e;cases e
  ·rw[hfree]at hc;cases hc
 rcases hx with hk|hk
 ·refine wpAny_storeName_local hk hn (λh' hn' hs=> ?_) hcls
  obtain⟨oL,_,_,Wy,_⟩:=id hn
  refine h _ ⟨I.ok,I.os,I.bare,⟨λb o e n hb hx=> ?_,λb o e n hb hx=> ?_,I.base.free,λb o e hx=> ?_,I.base.tups,I.base.uo,I.base.vF⟩,⟨_,hn',λj y v' e1 e2 e3=> ?_⟩,λy c e=> ?_,I.free,I.jO,λp hp=> ?_,tracked ⟨oL,Wy,I.free⟩ hs,by simpa using I.len⟩ ⟨_,hs,.inl rfl⟩
  ·exact(hs.2 b (Nat.ne_of_lt (Nat.lt_of_lt_of_le (Heap.lt_size e) I.ok.above))).trans (I.base.keep b o e n hb hx)
  ·obtain⟨sl,e1⟩:=I.base.slot b o e n hb hx
   exact⟨sl,(hs.2 b (Nat.ne_of_lt (Nat.lt_of_lt_of_le (Heap.lt_size e) I.ok.above))).trans e1⟩
  ·obtain⟨o',e1⟩:=I.base.there b o e hx
   exact⟨o',(hs.2 b (Nat.ne_of_lt (Nat.lt_of_lt_of_le (Heap.lt_size e) I.ok.above))).trans e1⟩
  ·by_cases hj:j=i
   ·subst hj
    rw[hi]at e1;cases e1
    rw[List.getElem?_set_self JQ]at e2
    cases e2
    exact⟨u,r,.inl ⟨hk,by simp⟩⟩
   ·rw[List.getElem?_set_ne (Ne.symm hj)]at e2
    obtain⟨u',r',q⟩:=hl j y v' e1 e2 e3
    refine⟨u',r',?_⟩
    rcases q with⟨k,e⟩|⟨k,c,e,z⟩
    ·refine .inl ⟨k,?_⟩
     have:y≠x:=λe=>hj (yf hN e1 (e▸hi))
     simp[this,e]
    ·exact .inr ⟨k,c,e,z.sameBut hs (MD y c e)⟩
  ·obtain⟨w',z⟩:=I.cell y c e
   exact⟨w',z.sameBut hs (MD y c e)⟩
  ·obtain⟨e,n,ne,nf,d⟩:=I.pin p hp
   exact⟨(hs.2 p.1 ne).trans e,n,ne,nf,d⟩
 ·have hfn:X.fn x=true:=by
   rcases hf with z|z
   ·exact z
   ·rw[z]at hk;cases hk
  obtain⟨c,hc⟩:=I.ok.has x (.inl hk)
  obtain⟨w',z⟩:=I.cell x c hc
  refine wpAny_storeName_cell I.ok.kind hk hc z (λh' hc' hs=> ?_)
  obtain⟨oc,hoc,ZG⟩:=id z
  refine h {s with heap:=h'} ⟨I.ok,I.os,I.bare,⟨λb o e n hb hx=> ?_,λb o e n hb hx=> ?_,I.base.free,λb o e hx=> ?_,I.base.tups,I.base.uo,I.base.vF⟩,⟨m,hn.sameBut hs (Ne.symm (MD x c hc)),λj y v' e1 e2 e3=> ?_⟩,λy c' e=> ?_,I.free,I.jO,λp hp=> ?_,tracked ⟨oc,hoc,I.jO x c hc⟩ hs,by simpa using I.len⟩ ⟨c,hs,.inr hc⟩
  ·exact(hs.2 b (Nat.ne_of_lt (Nat.lt_of_lt_of_le (Heap.lt_size e) (I.ok.Uj x c hfn hc)))).trans (I.base.keep b o e n hb hx)
  ·obtain⟨sl,e1⟩:=I.base.slot b o e n hb hx
   exact⟨sl,(hs.2 b (Nat.ne_of_lt (Nat.lt_of_lt_of_le (Heap.lt_size e) (I.ok.Uj x c hfn hc)))).trans e1⟩
  ·obtain⟨o',e1⟩:=I.base.there b o e hx
   exact⟨o',(hs.2 b (Nat.ne_of_lt (Nat.lt_of_lt_of_le (Heap.lt_size e) (I.ok.Uj x c hfn hc)))).trans e1⟩
  ·by_cases hj:j=i
   ·subst hj
    rw[hi]at e1;cases e1
    rw[List.getElem?_set_self JQ]at e2
    cases e2
    exact⟨u,r,.inr ⟨.inl hk,c,hc,hc'⟩⟩
   ·rw[List.getElem?_set_ne (Ne.symm hj)]at e2
    obtain⟨u',r',q⟩:=hl j y v' e1 e2 e3
    refine⟨u',r',?_⟩
    rcases q with q|⟨k,c',e,z'⟩
    ·exact .inl q
    ·refine .inr ⟨k,c',e,z'.sameBut hs ?_⟩
     rintro rfl
     exact hj (yf hN e1 (I.ok.inj _ _ _ e hc▸hi))
  ·by_cases hcc:c'=c
   ·subst hcc;exact⟨_,hc'⟩
   ·obtain⟨w2,z2⟩:=I.cell y c' e
    exact⟨w2,z2.sameBut hs hcc⟩
  ·obtain⟨e,n,ne,nf,d⟩:=I.pin p hp
   refine⟨(hs.2 p.1 ?_).trans e,n,ne,nf,d⟩
   intro q
   rw[q,hoc]at e
   have q':oc=p.2:=Option.some.inj e
   exact d w' (by rw[<-q'];exact ZG)
theorem oA{M:Model}{A:Around}{E:Value->Shared->Prop}{i:Nat}{x:Str}{v:V}{u:Value}{Q:Unit->Shared->Prop}(I:Inv X pins σ H s)(hN:X.N.Nodup)(hi:X.N[i]?=some x)(hx:Loc X.env.scope x)(r:RelV v u)
  (h:∀s',Inv X pins (σ.set i (some v)) H s'->Q () s')(hf:X.fn x=true∨X.env.scope.names.lookup x=some .local:=by first|exact .inl rfl|exact .inr rfl|assumption):wpAny M A (storeName X.env x u) Q E s:=
 vG I hN hi hx r (λs' I' _=>h s' I') hf
theorem Inv.AZ{s':Shared}{ch:List Addr}(I:Inv X pins σ H s)(ho:s'.os=s.os)(u:Un (frs X.stack) ch H H' s.heap s'.heap)(hok:vE X.prog X.w H' s'.heap)(hg:Mw s.gens s'.gens)
  (hch:∀b∈ch,(b∈X.ex∨X.s₀.heap.objs.size<=b)/\b≠X.env.locals/\(∀x c,X.env.cells.lookup x=some c->c≠b)/\ ∀p∈X.pn++pins,p.1≠b):Inv X pins σ H' s':=by
 obtain⟨h',g',d',t',o'⟩:=s'
 have e:o'=s.os:=ho
 subst e
 exact I.call (g':=g') (t':=t') (d':=d') u hok hg hch
end
abbrev XK:=Value->Option Addr->Hp->Prop
abbrev St:=List (Option V)
abbrev VK:=V->Hp->Prop
abbrev TE:=St->Hp->VK->Prop
abbrev TT:=St->Hp->(Bool->Hp->Prop) ->Prop
abbrev TA:=St->Hp->(List V->Hp->Prop) ->Prop
structure Ends where
 nx:St->Hp->Prop
 rt:VK
 bk:St->Hp->Prop:=λ_ _=>False
 ct:St->Hp->Prop:=λ_ _=>False
abbrev TS:=Ends->St->Hp->Prop
def EP(X:Cx)(pins:List (Addr×Obj))(σ:St)(Q:VK)(u:Value)(s':Shared):Prop:=∃v H',Inv X pins σ H' s'/\RelV v u/\Q v H'
def TP(X:Cx)(pins:List (Addr×Obj))(σ:St)(Q:Bool->Hp->Prop)(b:Bool)(s':Shared):Prop:=∃H',Inv X pins σ H' s'/\Q b H'
def AP(X:Cx)(pins:List (Addr×Obj))(σ:St)(Q:List V->Hp->Prop)(us:List Value)(s':Shared):Prop:=∃vs H',Inv X pins σ H' s'/\Vals vs us/\Q vs H'
def SP(X:Cx)(pins:List (Addr×Obj))(D:Ends)(f:Flow)(s':Shared):Prop:=
 match f with
 | .next=> ∃σ' H',Inv X pins σ' H' s'/\D.nx σ' H'
 | .brk=> ∃σ' H',Inv X pins σ' H' s'/\D.bk σ' H'
 | .cont=> ∃σ' H',Inv X pins σ' H' s'/\D.ct σ' H'
 | .ret u=> ∃v σ' H',Inv X pins σ' H' s'/\RelV v u/\D.rt v H'
def PE(X:Cx)(e:Expr)(t:TE):Prop:=
 ∀(pins:List (Addr×Obj))(s:Shared)(σ:St)(H:Hp)(Q:VK),Inv X pins σ H s->t σ H Q->wpAny (model X.prog X.w) X.A (eval e X.env) (EP X pins σ Q) X.xe s
def PT(X:Cx)(e:Expr)(t:TT):Prop:=
 ∀(pins:List (Addr×Obj))(s:Shared)(σ:St)(H:Hp)(Q:Bool->Hp->Prop),Inv X pins σ H s->t σ H Q->wpAny (model X.prog X.w) X.A (isTrue e X.env (eval e X.env)) (TP X pins σ Q) X.xe s
def PW(X:Cx)(e:Expr)(t:TT):Prop:=
 ∀(whole:Sem Value)(pins:List (Addr×Obj))(s:Shared)(σ:St)(H:Hp)(Q:Bool->Hp->Prop),Inv X pins σ H s->t σ H Q->wpAny (model X.prog X.w) X.A (isTrue e X.env whole) (TP X pins σ Q) X.xe s
theorem PW.pt{X:Cx}{e:Expr}{t:TT}(h:PW X e t):PT X e t:=h _
def PA(X:Cx)(es:List Expr)(t:TA):Prop:=
 ∀(pos:Pos)(pins:List (Addr×Obj))(s:Shared)(σ:St)(H:Hp)(Q:List V->Hp->Prop),Inv X pins σ H s->t σ H Q->wpAny (model X.prog X.w) X.A (spliced (backTo pos (starEach es X.env))) (AP X pins σ Q) X.xe s
def PS(X:Cx)(st:Stmt)(t:TS):Prop:=
 ∀(pins:List (Addr×Obj))(s:Shared)(σ:St)(H:Hp)(D:Ends),Inv X pins σ H s->t D σ H->wpAny (model X.prog X.w) X.A (exec st X.env) (SP X pins D) X.xe s
def vC(X:Cx)(st:List Stmt)(t:TS):Prop:=
 ∀(pins:List (Addr×Obj))(s:Shared)(σ:St)(H:Hp)(D:Ends),Inv X pins σ H s->t D σ H->wpAny (model X.prog X.w) X.A (execs st X.env) (SP X pins D) X.xe s
theorem gj{α:Type}{t:Sem α}{Q Q':α->Shared->Prop}{M:Model}{A:Around}{E:Value->Shared->Prop}{s:Shared}(h:wpAny M A t Q E s)(hQ:∀a s,Q a s->Q' a s):wpAny M A t Q' E s:=wpAny_mono h hQ λ_ _ x=>x
section
variable{X:Cx}
inductive ZH(σ:St)(i:Nat)(H:Hp)(Q:VK):Prop
 |mk(v:V)(e:σ[i]?=some (some v))(q:Q v H)
def aY(i:Nat):TE:=λσ H Q=>ZH σ i H Q
def tC(v:V):TE:=λ_ H Q=>Q v H
theorem UN{i:Nat}{x:Str}{pos:Pos}(hN:X.N[i]?=some x)(hv:Ui X.env.scope x)(hd:(x==("__debug__":Str))=false:=by decide)(hcd:(x==("__classdict__":Str))=false:=by decide):PE X (.Name x pos) (aY i):=by
 intro pins s σ H Q I h
 obtain⟨v,e,h⟩:=h
 obtain⟨m,hn,hl⟩:=I.loc
 obtain⟨u,r,l⟩:=hl i x v hN e hv
 have fin:EP X pins σ Q u s:=⟨v,H,I,r,h⟩
 rcases l with⟨hk,hm⟩|⟨hk,c,hc,hcell⟩
 ·exact wpAny_Name (wpAny_loadName_local I.ok.kind hk hn hm fin) hd
 ·rcases hk with hk|hk
  ·exact wpAny_Name (wpAny_loadName_cell I.ok.kind hk hc hcell fin) hd
  ·exact wpAny_Name (wpAny_loadName_free I.ok.kind hk hc hcell fin hcd) hd
theorem ak{i j pos}:PE X (.Constant (.int i) j pos) (tC (.int i)):=λ_ _ _ H _ I h=>wpAny_Constant_int ⟨.int i,H,I.tok _,⟨_,rfl⟩,h⟩
theorem sH{b j pos}:PE X (.Constant (.bool b) j pos) (tC (.bl b)):=λ_ _ _ H _ I h=>Constant_bool ⟨.bl b,H,I,rfl,h⟩
theorem vH{j pos}:PE X (.Constant .none j pos) (tC .fP):=λ_ _ _ H _ I h=>Constant_none ⟨.fP,H,I,rfl,h⟩
theorem gm{x j pos}:PE X (.Constant (.str x) j pos) (tC (.str x)):=λ_ _ _ H _ I h=>Calls.Constant_str ⟨.str x,H,I.tok _,⟨_,rfl⟩,h⟩
def Gl(X:Cx)(x:Str):Prop:=X.env.kindOf x=some .globalImplicit
theorem rR{E:Value->Shared->Prop}{pins:List (Addr×Obj)}{s:Shared}{σ:St}{H:Hp}{x:Str}{u:Value}{pos:Pos}{Q:Value->Shared->Prop}(I:Inv X pins σ H s)(hg:Gl X x)(hm:X.mg x=some u)(h:Q u s)
  (hd:(x==("__debug__":Str))=false:=by decide):wpAny (model X.prog X.w) X.A (eval (.Name x pos) X.env) Q E s:=
 Calls.Name_function_global I.ok.kind hg (Calls.loadGlobal_global (by rw[I.ok.glob];exact I.mod.glob.keeps I.bk) hm h) hd
theorem lQ{E:Value->Shared->Prop}{pins:List (Addr×Obj)}{s:Shared}{σ:St}{H:Hp}{x:Str}{u:Value}{pos:Pos}{Q:Value->Shared->Prop}(I:Inv X pins σ H s)(hg:Gl X x)(hm:X.mg x=none)(hv:bootBuiltins x=some u)(h:Q u s)
  (hn:x≠ "__name__":=by decide)(hd:(x==("__debug__":Str))=false:=by decide):wpAny (model X.prog X.w) X.A (eval (.Name x pos) X.env) Q E s:=by
 obtain⟨mb,h1,h2⟩:=I.mod.blt
 exact Calls.Name_function_global I.ok.kind hg (Calls.loadGlobal_builtin (by rw[I.ok.glob];exact I.mod.glob.keeps I.bk) hm (by rw[I.ok.blt];exact h1.keeps I.bk) ((h2 x hn).trans hv) h) hd
theorem iD{x:Str}{v:V}{u:Value}{pos:Pos}(hg:Gl X x)(hm:X.mg x=some u)(r:RelV v u)(hd:(x==("__debug__":Str))=false:=by decide):PE X (.Name x pos) (tC v):=
 λ_ _ _ H _ I h=>rR I hg hm ⟨v,H,I,r,h⟩ hd
theorem ur{x:Str}{v:V}{u:Value}{pos:Pos}(hg:Gl X x)(hm:X.mg x=none)(hv:bootBuiltins x=some u)(r:RelV v u)(hn:x≠ "__name__":=by decide)(hd:(x==("__debug__":Str))=false:=by decide):PE X (.Name x pos) (tC v):=
 λ_ _ _ H _ I h=>lQ I hg hm hv ⟨v,H,I,r,h⟩ hn hd
variable{a b:Expr}{ta tb:TE}{pos:Pos}
inductive ZBl(x:V)(Q:Bool->Prop):Prop
 |mk(k:Bool)(e:x= .bl k)(q:Q k)
def tB(t:TE):TT:=λσ H Q=>t σ H λx H1=>ZBl x λc=>Q c H1
theorem gQ{e:Expr}{t:TE}(h:PE X e t)(he:∀whole,isTrue e X.env whole=(do let v<-whole;standAt e.pos;holding [v] (truthy v)):=by intro _;rfl):PT X e (tB t):=by
 intro pins s σ H Q I hw
 refine isTrue_plain (gj (h pins s σ H _ I hw) λv s1 ⟨x,H1,I1,r1,q1⟩=> ?_) (he _)
 obtain⟨d,rfl,q⟩:=q1
 cases r1
 exact wpAny_truthy_bool ⟨H1,I1,q⟩
variable{tA YI:TT}{rest:List Expr}
def ZJ(t u:TT):TT:=λσ H Q=>t σ H λc H1=>if c=true then u σ H1 Q else Q false H1
def tOr(t u:TT):TT:=λσ H Q=>t σ H λc H1=>if c=true then Q true H1 else u σ H1 Q
def ZK(t:TT):TT:=λσ H Q=>t σ H λc H1=>Q (!c) H1
theorem Rb(ha:PT X a tA):PW X (.BoolOp .And [a] pos) tA:=by
 intro wh pins s σ H Q I h
 refine isTrue_and (gj (ha pins s σ H Q I h) λc s1 e=> ?_)
 cases c with
 |true=>exact isTrue_and_nil e
 |false=>exact e
theorem yg(ha:PT X a tA):PW X (.BoolOp .Or [a] pos) tA:=by
 intro wh pins s σ H Q I h
 refine isTrue_or (gj (ha pins s σ H Q I h) λc s1 e=> ?_)
 cases c with
 |false=>exact isTrue_or_nil e
 |true=>exact e
theorem UO(ha:PT X a tA)(hb:PW X (.BoolOp .And (b::rest) pos) YI):PW X (.BoolOp .And (a::b::rest) pos) (ZJ tA YI):=by
 intro wh pins s σ H Q I h
 refine isTrue_and (gj (ha pins s σ H _ I h) λc s1 ⟨H1,I1,q1⟩=> ?_)
 cases c with
 |true=>exact hb wh pins s1 σ H1 Q I1 q1
 |false=>exact⟨H1,I1,q1⟩
theorem DI(ha:PT X a tA)(hb:PW X (.BoolOp .Or (b::rest) pos) YI):PW X (.BoolOp .Or (a::b::rest) pos) (tOr tA YI):=by
 intro wh pins s σ H Q I h
 refine isTrue_or (gj (ha pins s σ H _ I h) λc s1 ⟨H1,I1,q1⟩=> ?_)
 cases c with
 |true=>exact⟨H1,I1,q1⟩
 |false=>exact hb wh pins s1 σ H1 Q I1 q1
theorem m8(ha:PT X a tA):PT X (.UnaryOp .Not a pos) (ZK tA):=by
 intro pins s σ H Q I h
 exact isTrue_not (ha pins s σ H (λc H1=>Q (!c) H1) I h)
def WW(ta tb:TE):TE:=λσ H Q=>ta σ H λx H1=> ∃c,x= .bl c/\if c=true then tb σ H1 Q else Q (.bl false) H1
def WX(ta:TE):TE:=λσ H Q=>ta σ H λx H1=> ∃c,x= .bl c/\Q (.bl (!c)) H1
theorem sR{op}{t:TE}(h:PE X a t):PE X (.BoolOp op [a] pos) t:=λpins s σ H Q I hw=>BoolOp_one (h pins s σ H Q I hw)
theorem qz(ha:PE X a ta)(hb:PE X (.BoolOp .And (b::rest) pos) tb):PE X (.BoolOp .And (a::b::rest) pos) (WW ta tb):=by
 intro pins s σ H Q I h
 refine BoolOp_and (gj (ha pins s σ H _ I h) λv s1 ⟨x,H1,I1,r1,q1⟩=> ?_)
 obtain⟨c,rfl,q1⟩:=q1
 cases r1
 refine wpAny_truthy_bool ?_
 cases c with
 |true=>exact hb pins s1 σ H1 Q I1 q1
 |false=>exact⟨.bl false,H1,I1,rfl,q1⟩
theorem UP(ha:PE X a ta):PE X (.UnaryOp .Not a pos) (WX ta):=by
 intro pins s σ H Q I h
 refine UnaryOp_ (gj (ha pins s σ H _ I h) λv s1 ⟨x,H1,I1,r1,q1⟩=> ?_)
 obtain⟨c,rfl,q1⟩:=q1
 cases r1
 exact not_of (wpAny_truthy_bool ⟨.bl (!c),H1,I1,rfl,q1⟩)
end
def aV(K:PySem.W.Frag)(H:Hp)(a:Addr)(xs:List V):Prop:=
 Rd H a (.lst xs)∨
  ∃(o:Obj)(its:Array Value)(n:Nat),K.lookup a=some o/\o.cls= .type "list"/\o.dict=none/\o.data= .seq its n/\its.size<=sizeLine/\Vals xs its.toList
def qA(K:PySem.W.Frag)(H:Hp)(a:Addr)(xs:List V):Prop:=
 Rd H a (.tup xs)∨
  ∃(o:Obj)(its:Array Value)(n:Nat),K.lookup a=some o/\o.cls= .type "tuple"/\o.data= .seq its n/\its.size<=sizeLine/\Vals xs its.toList
def ZL:Value->Option V
 | .none=>some .fP
 | .bool b=>some (.bl b)
 | .int i _=>some (.int i)
 | .str x _=>some (.str x)
 | .bytes b _=>some (.JN b)
 | .float b _=>some (.JO b)
 | .ref a=>some (.ref a)
 | .type n=>some (.ty n)
 |_=>none
theorem RelV.abs{x:V}{u:Value}(r:RelV x u):ZL u=some x:=by
 cases x with
 |fP=>cases r;rfl
 |bl _=>cases r;rfl
 |int _=>obtain⟨t,rfl⟩:=r;rfl
 |str _=>obtain⟨t,rfl⟩:=r;rfl
 |JN _=>obtain⟨t,rfl⟩:=r;rfl
 |JO _=>obtain⟨t,rfl⟩:=r;rfl
 |ref _=>cases r;rfl
 |ty _=>cases r;rfl
theorem RelV.inj{x y:V}{u:Value}(r:RelV x u)(q:RelV y u):x=y:=Option.some.inj (r.abs.symm.trans q.abs)
theorem Vals.inj:∀{xs ys:List V}{us:List Value},Vals xs us->Vals ys us->xs=ys
 |_,_,_,.nil,.nil=>rfl
 |_,_,_,.cons r t,.cons r' t'=>by rw[r.inj r',Vals.inj t t']
section
variable{X:Cx}{pins:List (Addr×Obj)}{σ:St}{H:Hp}{s:Shared}{a:Addr}{xs ys:List V}
theorem aV.of{K:PySem.W.Frag}(h:H a=some (.lst xs)):aV K H a xs:= .inl (.inl h)
theorem qA.of{K:PySem.W.Frag}(h:H a=some (.tup xs)):qA K H a xs:= .inl (.inl h)
theorem Inv.list(I:Inv X pins σ H s)(h:aV X.K H a xs):∃its:List Value,Vals xs its/\PlainL s.heap a its.toArray/\xs.length<=sizeLine:=by
 rcases h with h|⟨o,its,n,hk,hc,hd,hs,hz,r⟩
 ·obtain⟨z,its,n,r,e⟩:=h.ok I.hok
  exact⟨its,r,⟨_,n,e,rfl,rfl,rfl⟩,z⟩
 ·refine⟨its.toList,r,⟨o,n,I.xh a o hk,hc,hd,by simpa using hs⟩,?_⟩
  have e:=r.length
  simp only[Array.length_toList]at e
  omega
theorem Inv.tuple(I:Inv X pins σ H s)(h:qA X.K H a xs):∃its:List Value,Vals xs its/\IsTup s.heap a its.toArray/\xs.length<=sizeLine:=by
 rcases h with h|⟨o,its,n,hk,hc,hs,hz,r⟩
 ·obtain⟨z,its,r,p⟩:=h.ok I.hok
  exact⟨its,r,p,z⟩
 ·refine⟨its.toList,r,⟨o,I.xh a o hk,hc,n,by simpa using hs⟩,?_⟩
  have e:=r.length
  simp only[Array.length_toList]at e
  omega
theorem Inv.yh(I:Inv X pins σ H s)(h:aV X.K H a xs)(h':aV X.K H a ys):xs=ys:=by
 obtain⟨its,r,⟨o,n,e,_,_,d⟩,_⟩:=I.list h
 obtain⟨its',r',⟨o',n',e',_,_,d'⟩,_⟩:=I.list h'
 rw[e]at e';cases e'
 rw[d]at d'
 injection d' with d1 _
 have:its=its':=by simpa using congrArg Array.toList d1
 subst this
 exact r.inj r'
theorem Inv.JR(I:Inv X pins σ H s)(h:qA X.K H a xs)(h':qA X.K H a ys):xs=ys:=by
 obtain⟨its,r,⟨o,e,_,n,d⟩,_⟩:=I.tuple h
 obtain⟨its',r',⟨o',e',_,n',d'⟩,_⟩:=I.tuple h'
 rw[e]at e';cases e'
 rw[d]at d'
 injection d' with d1 _
 have:its=its':=by simpa using congrArg Array.toList d1
 subst this
 exact r.inj r'
end
abbrev Cx.Ak(X:Cx)(E:Value->Shared->Prop):Cx:={X with xe:=E}
abbrev Cx.Mx(X:Cx):Cx:=X.Ak λ_ _=>False
theorem Cx.Ok.Ak{X:Cx}(ok:X.Ok)(E:Value->Shared->Prop):(X.Ak E).Ok:=
 ⟨ok.mod,ok.kind,ok.glob,ok.blt,ok.above,ok.inj,ok.has,ok.Uj,ok.hd,ok.frames,ok.stk,ok.MC,ok.bs,ok.ID,ok.BK,ok.Aj,ok.sr,ok.QN⟩
theorem Cx.Ok.qB{X:Cx}{E:Value->Shared->Prop}(ok:(X.Ak E).Ok):X.Ok:=
 ⟨ok.mod,ok.kind,ok.glob,ok.blt,ok.above,ok.inj,ok.has,ok.Uj,ok.hd,ok.frames,ok.stk,ok.MC,ok.bs,ok.ID,ok.BK,ok.Aj,ok.sr,ok.QN⟩
section
variable{X:Cx}{pins:List (Addr×Obj)}{σ:St}{H:Hp}{s:Shared}{E:Value->Shared->Prop}
theorem Inv.Ak(I:Inv X pins σ H s)(E:Value->Shared->Prop):Inv (X.Ak E) pins σ H s:=⟨I.ok.Ak E,I.os,I.bare,I.base,I.loc,I.cell,I.free,I.jO,I.pin,I.hok,I.len⟩
theorem Inv.qB(I:Inv (X.Ak E) pins σ H s):Inv X pins σ H s:=⟨I.ok.qB,I.os,I.bare,I.base,I.loc,I.cell,I.free,I.jO,I.pin,I.hok,I.len⟩
theorem SP.qB{D:Ends}{f:Flow}{s':Shared}(h:SP (X.Ak E) pins D f s'):SP X pins D f s':=by
 cases f with
 |next=>obtain⟨σ',H',I,q⟩:=h;exact⟨σ',H',I.qB,q⟩
 |brk=>obtain⟨σ',H',I,q⟩:=h;exact⟨σ',H',I.qB,q⟩
 |cont=>obtain⟨σ',H',I,q⟩:=h;exact⟨σ',H',I.qB,q⟩
 |ret u=>obtain⟨v,σ',H',I,r,q⟩:=h;exact⟨v,σ',H',I.qB,r,q⟩
theorem vC.Mx{st:List Stmt}{t:TS}(h:vC X.Mx st t):vC X st t:=λpins s σ H D I hw=>
 wpAny_mono (h pins s σ H D (I.Ak _) hw) (λ_ _ q=>q.qB) λ_ _ z=>False.elim z
end
section
variable{X:Cx}{st:Stmt}{rest:List Stmt}{t u:TS}{e:Expr}{te:TE}{pos:Pos}
def Ul:TS:=λD σ H=>D.nx σ H
def Rc(t u:TS):TS:=λD σ H=>t {D with nx:=u D} σ H
theorem Rf:vC X [] Ul:=λ_ _ σ H _ I h=>wpAny_execs_nil ⟨σ,H,I,h⟩
theorem ME(h1:PS X st t)(h2:vC X rest u):vC X (st::rest) (Rc t u):=by
 intro pins s σ H D I h
 refine wpAny_execs_cons (gj (h1 pins s σ H {D with nx:=u D} I h) λf s1 q=> ?_)
 cases f with
 |next=>
  obtain⟨σ',H',I',q⟩:=q
  exact h2 pins s1 σ' H' D I' q
 |ret v=>exact q
 |brk=>exact q
 |cont=>exact q
theorem eH(h1:PS X st t):vC X [st] t:=by
 intro pins s σ H D I h
 refine wpAny_execs_cons (gj (h1 pins s σ H D I h) λf s1 q=> ?_)
 cases f with
 |next=>exact wpAny_execs_nil q
 |ret v=>exact q
 |brk=>exact q
 |cont=>exact q
theorem Inv.quiet{pins:List (Addr×Obj)}{σ:St}{H:Hp}{s:Shared}(I:Inv X pins σ H s):interactive X.env=false:=by simp[interactive,I.ok.kind]
def WY(te:TE):TS:=λD σ H=>te σ H λ_ H1=>D.nx σ H1
theorem iZ(he:PE X e te)(hs:swapsWith e none pos.line X.env=pure false:=by rfl):PS X (.Expr e pos) (WY te):=by
 intro pins s σ H D I h
 exact wpAny_Expr_any (gj (he pins s σ H _ I h) λv s1 ⟨x,H1,I1,r1,q1⟩=>⟨σ,H1,I1,q1⟩) I.quiet hs
def WZ(te:TE):TS:=λD σ H=>te σ H D.rt
theorem bA(he:PE X e te):PS X (.Return (some e) pos) (WZ te):=by
 intro pins s σ H D I h
 exact wpAny_Return_some (gj (he pins s σ H _ I h) λv s1 ⟨x,H1,I1,r1,q1⟩=>⟨x,σ,H1,I1,r1,q1⟩)
def Xa(c:TT)(t u:TS):TS:=λD σ H=>c σ H λb H1=>if b=true then t D σ H1 else u D σ H1
theorem Xb{c:Expr}{a b:List Stmt}{tc:TT}(hc:PT X c tc)(ha:vC X a t)(hb:vC X b u):PS X (.If c a b pos) (Xa tc t u):=by
 intro pins s σ H D I h
 refine wpAny_If (gj (hc pins s σ H _ I h) λd s1 ⟨H1,I1,q1⟩=> ?_)
 cases d with
 |true=>exact ha pins s1 σ H1 D I1 q1
 |false=>exact hb pins s1 σ H1 D I1 q1
def UQ:TS:=λ_ _ _=>False
theorem kg:PS X st UQ:=λ_ _ _ _ _ _ h=>h.elim
end
abbrev TG:=V->St->Hp->(St->Hp->Prop) ->Prop
abbrev Rg:=List V->St->Hp->(St->Hp->Prop) ->Prop
def PG(X:Cx)(target:Expr)(t:TG):Prop:=
 ∀(pins:List (Addr×Obj))(s:Shared)(σ:St)(H:Hp)(v:V)(u:Value)(Q:St->Hp->Prop),Inv X pins σ H s->RelV v u->t v σ H Q->
  wpAny (model X.prog X.w) X.A (assign target X.env u) (λ_ s'=> ∃σ' H',Inv X pins σ' H' s'/\Q σ' H') X.xe s
def Xc(X:Cx)(ts:List Expr)(t:Rg):Prop:=
 ∀(pins:List (Addr×Obj))(s:Shared)(σ:St)(H:Hp)(vs:List V)(us:List Value)(Q:St->Hp->Prop),Inv X pins σ H s->Vals vs us->t vs σ H Q->
  wpAny (model X.prog X.w) X.A (assignInOrder ((assignEach ts X.env).map (·.2)) us) (λ_ s'=> ∃σ' H',Inv X pins σ' H' s'/\Q σ' H') X.xe s
abbrev MF:=V->V->V->Hp->(Hp->Prop) ->Prop
def UR(X:Cx)(t:MF):Prop:=
 ∀(pins:List (Addr×Obj))(s:Shared)(σ:St)(H:Hp)(o i v:V)(ov iv u:Value)(Q:Hp->Prop),Inv X pins σ H s->RelV o ov->RelV i iv->RelV v u->t o i v H Q->
  wpAny (model X.prog X.w) X.A (setItem ov iv u) (λ_ s'=> ∃H',Inv X pins σ H' s'/\Q H') X.xe s
abbrev YJ:=V->V->Hp->VK->Prop
def PIp(X:Cx)(op:Operator)(t:YJ):Prop:=
 ∀(pins:List (Addr×Obj))(s:Shared)(σ:St)(H:Hp)(x y:V)(v u:Value)(Q:VK),Inv X pins σ H s->RelV x v->RelV y u->t x y H Q->
  wpAny (model X.prog X.w) X.A (inplaceOp op v u) (EP X pins σ Q) X.xe s
section
variable{X:Cx}{pos:Pos}
def dX(i:Nat):TG:=λv σ H Q=>Q (σ.set i (some v)) H
theorem cD{i:Nat}{x:Str}(hN:X.N.Nodup)(hi:X.N[i]?=some x)(hx:Loc X.env.scope x)(hf:X.fn x=true∨X.env.scope.names.lookup x=some .local:=by first|exact .inl rfl|exact .inr rfl|assumption):PG X (.Name x pos) (dX i):=by
 intro pins s σ H v u Q I r h
 exact wpAny_assign_Name (oA I hN hi hx r (λs' I'=>⟨_,H,I',h⟩) hf)
def Xd:Rg:=λvs σ H Q=>vs=[]/\Q σ H
inductive Xe(vs:List V)(Q:V->List V->Prop):Prop
 |mk(v:V)(r:List V)(e:vs=v::r)(q:Q v r)
def MG(t:TG)(u:Rg):Rg:=λvs σ H Q=>Xe vs λv r=>t v σ H λσ1 H1=>u r σ1 H1 Q
theorem mT:Xc X [] Xd:=by
 intro pins s σ H vs us Q I r h
 obtain⟨e,h⟩:=h
 subst e
 cases r
 exact assignInOrder_nil ⟨σ,H,I,h⟩
theorem dw{e:Expr}{es:List Expr}{t:TG}{u:Rg}(h1:PG X e t)(h2:Xc X es u)
  (hs:(assignEach (e::es) X.env).map (·.2)=assign e X.env::(assignEach es X.env).map (·.2):=by rfl):Xc X (e::es) (MG t u):=by
 intro pins s σ H vs us Q I r h
 obtain⟨v,vr,e1,h⟩:=h
 subst e1
 cases r with
 |cons r rr=>
  rw[hs]
  refine assignInOrder_cons (gj (h1 pins s σ H _ _ _ I r h) λ_ s1 ⟨σ1,H1,I1,q1⟩=> ?_)
  exact h2 pins s1 σ1 H1 _ _ Q I1 rr q1
inductive ZM(K:PySem.W.Frag)(n:Nat)(v:V)(H:Hp)(Q:List V->Prop):Prop
 |mk(a:Addr)(xs:List V)(e:v= .ref a)(s:qA K H a xs)(l:xs.length=n)(q:Q xs)
def Xf(K:PySem.W.Frag)(n:Nat)(t:Rg):TG:=λv σ H Q=>ZM K n v H λxs=>t xs σ H Q
theorem FZ{es:List Expr}{k:Nat}{t:Rg}{n:Nat}(hc:X.calm=true)(h:Xc X es t)
  (hn:(assignEach es X.env).length=n:=by rfl)(hst:(assignEach es X.env).findIdx? (·.1)=none:=by rfl):PG X (.Tuple es k pos) (Xf X.K n t):=by
 intro pins s σ H v u Q I r hw
 obtain⟨a,xs,e1,hq,hl,hw⟩:=hw
 subst e1
 cases r
 obtain⟨its,rv,ht,hz⟩:=I.tuple hq
 refine assign_Tuple_tuple (I.ok.hd hc) ht (by simp[hn,<-hl,rv.length]) hst λh' hx=> ?_
 have I1:Inv X pins σ H {s with heap:=h'}:=I.kept (t':=s.toks) λb o e=>hx b o (Nat.ne_of_lt (Heap.lt_size e)) e
 exact h pins _ σ H xs _ Q I1 (by simpa using rv) hw
def ZN(to ti:TE)(t:MF):TG:=λv σ H Q=>to σ H λo H1=>ti σ H1 λi H2=>t o i v H2 λH3=>Q σ H3
theorem jP{o i:Expr}{to ti:TE}{t:MF}(ho:PE X o to)(hi:PE X i ti)(hs:UR X t)
  (ha:∀v,assign (.Subscript o i pos) X.env v=(do
   let ov<-holding [v] (eval o X.env)
   let iv<-holding [v,ov] (eval i X.env)
   standAt pos
   holding [v,ov,iv] (setItem ov iv v)
   release [v,ov,iv] []):=by intro _;rfl):PG X (.Subscript o i pos) (ZN to ti t):=by
 intro pins s σ H v u Q I r h
 rw[ha]
 refine wpAny_bind (wpAny_holding (gj (ho pins s σ H _ I h) λov s1 ⟨x,H1,I1,r1,q1⟩=> ?_))
 refine wpAny_bind (wpAny_holding (gj (hi pins s1 σ H1 _ I1 q1) λiv s2 ⟨y,H2,I2,r2,q2⟩=> ?_))
 refine wpAny_bind (wpAny_standAt (wpAny_bind (wpAny_holding (gj (hs pins s2 σ H2 x y v ov iv u _ I2 r1 r2 r q2) λ_ s3 ⟨H3,I3,q3⟩=> ?_))))
 exact wpAny_release ⟨σ,H3,I3,q3⟩
def BL(te:TE)(g:TG):TS:=λD σ H=>te σ H λx H1=>g x σ H1 D.nx
theorem ju{tg e:Expr}{te:TE}{g:TG}(he:PE X e te)(hg:PG X tg g)(hs:swapsWithSole [tg] e pos.line X.env=pure false:=by rfl)(hw:swappedStores [tg] e X.env=pure none:=by rfl)
  (h1:(assignEach [tg] X.env).map (·.2)=[assign tg X.env]:=by rfl):PS X (.Assign [tg] e pos) (BL te g):=by
 intro pins s σ H D I h
 refine wpAny_Assign_stores (gj (he pins s σ H _ I h) λv s1 ⟨x,H1,I1,r1,q1⟩=> ?_) hs hw
 rw[h1]
 exact gj (hg pins s1 σ H1 x v _ I1 r1 q1) λ_ s2 q=>q
theorem aW{i:Nat}{x:Str}{e:Expr}{te:TE}{pos':Pos}(hN:X.N.Nodup)(hi:X.N[i]?=some x)(hx:Loc X.env.scope x)(he:PE X e te)(hs:swapsWith e (some (.Name x pos')) pos.line X.env=pure false:=by rfl)(hf:X.fn x=true∨X.env.scope.names.lookup x=some .local:=by first|exact .inl rfl|exact .inr rfl|assumption):
  PS X (.Assign [.Name x pos'] e pos) (BL te (dX i)):=by
 intro pins s σ H D I h
 refine wpAny_Assign_Name (gj (he pins s σ H _ I h) λv s1 ⟨y,H1,I1,r1,q1⟩=> ?_) hs
 exact oA I1 hN hi hx r1 (λs2 I2=>⟨_,H1,I2,q1⟩) hf
def ZO(i j:Nat)(ta:TA):TS:=λD σ H=>ta σ H λvs H1=> ∃v w,vs=[v,w]/\D.nx ((σ.set i (some v)).set j (some w)) H1
theorem MH{i j:Nat}{x y:Str}{a b:Expr}{ta:TA}{px py pt:Pos}{kt k2 ZP}(hc:X.calm=true)(hN:X.N.Nodup)(hi:X.N[i]?=some x)(hj:X.N[j]?=some y)(hij:i≠j)
  (hx:X.env.scope.names.lookup x=some .local)(hy:X.env.scope.names.lookup y=some .local)(ha:PA X [a,b] ta)
  (hw:swappedStores [.Tuple [.Name x px,.Name y py] kt pt] (.Tuple [a,b] k2 ZP) X.env=pure (some [x,y]))
  (hs:swapsWithSole [.Tuple [.Name x px,.Name y py] kt pt] (.Tuple [a,b] k2 ZP) pos.line X.env=pure false:=by rfl):
  PS X (.Assign [.Tuple [.Name x px,.Name y py] kt pt] (.Tuple [a,b] k2 ZP) pos) (ZO i j ta):=by
 intro pins s σ H D I h
 rw[exec_Assign_arm]
 refine wpAny_bind (wpAny_standAt ?_)
 rw[hs]
 refine wpAny_bind (wpAny_pure ?_)
 rw[if_neg (by decide)]
 refine wpAny_bind (Tuple_ (gj (ha _ pins s σ H _ I h) λus s1 ⟨vs,H1,I1,r1,q1⟩=> ?_))
 obtain⟨v,w,e1,q1⟩:=q1
 subst e1
 obtain⟨u1,u2,rfl,rv,rw'⟩:∃u1 u2,us=[u1,u2]/\RelV v u1/\RelV w u2:=by
  cases r1 with
  |cons p q=>
   cases q with
   |cons p' q'=>
    cases q'
    exact⟨_,_,rfl,p,p'⟩
 refine wpAny_newObj_type ?_ (by show 2<=sizeLine;decide)
 have I2:Inv X pins σ H1 {s1 with heap:=s1.heap.push {cls:= .type "tuple",data:= .seq [u1,u2].toArray}}:=I1.kept (t':=s1.toks) λb o e=>Heap.get?_push_of_some _ e
 rw[hw]
 refine wpAny_bind (wpAny_pure ?_)
 show wpAny (model X.prog X.w) X.A (do rule "assign.swapped-stores";let items<-unpackItems (.ref s1.heap.objs.size) 2 none;assignInOrder [λv=>bindName X.env y v,λv=>bindName X.env x v] items.reverse;pure Flow.next) _ _ _
 refine wpAny_bind (wpAny_rule (wpAny_bind (unpackItems_tuple (items:= #[u1,u2]) (I.ok.hd hc) (IsTup.new s1.heap _) λh' hx'=> ?_)))
 have I3:=I2.kept (h':=h') (t':=s1.toks) λb o e=>hx' b o (Nat.ne_of_lt (Heap.lt_size e)) e
 show wpAny _ _ (assignInOrder [λv=>bindName X.env y v,λv=>bindName X.env x v] [u2,u1]>>=λ_=>pure Flow.next) _ _ _
 refine wpAny_bind (assignInOrder_cons (wpAny_bindName (oA I3 hN hj (.inl hy) rw' (λs2 I4=> ?_) (.inr hy))))
 refine assignInOrder_cons (wpAny_bindName (oA I4 hN hi (.inl hx) rv (λs3 I5=>assignInOrder_nil (wpAny_pure ?_)) (.inr hx)))
 rw[List.set_comm _ _ (Ne.symm hij)]at I5
 exact⟨_,H1,I5,q1⟩
def Xg(to ti te:TE)(Rh:V->V->Hp->VK->Prop)(YK:YJ)(Ri:MF):TS:=λD σ H=>to σ H λo H1=>ti σ H1 λi H2=>Rh o i H2 λx H3=>te σ H3 λy H4=>YK x y H4 λz H5=>Ri o i z H5 λH6=>D.nx σ H6
def Xh(X:Cx)(t:V->V->Hp->VK->Prop):Prop:=
 ∀(pins:List (Addr×Obj))(s:Shared)(σ:St)(H:Hp)(o i:V)(ov iv:Value)(Q:VK),Inv X pins σ H s->RelV o ov->RelV i iv->t o i H Q->
  wpAny (model X.prog X.w) X.A (getItem ov iv) (EP X pins σ Q) X.xe s
theorem Rj{o i e:Expr}{to ti te:TE}{Rh:V->V->Hp->VK->Prop}{YK:YJ}{Ri:MF}{op:Operator}{tpos:Pos}(ho:PE X o to)(hi:PE X i ti)(hg:Xh X Rh)(he:PE X e te)(hp:PIp X op YK)(hs:UR X Ri)
  (ha:∀ov iv new,augStore i ov iv new=(do holding [new,ov,iv] (setItem ov iv new);release [new,ov,iv] [];pure .next):=by intros;rfl):PS X (.AugAssign (.Subscript o i tpos) op e pos) (Xg to ti te Rh YK Ri):=by
 intro pins s σ H D I h
 refine wpAny_AugAssign_SubscriptAny (gj (ho pins s σ H _ I h) λov s1 ⟨x1,H1,I1,r1,q1⟩=> ?_) ha
 refine gj (hi pins s1 σ H1 _ I1 q1) λiv s2 ⟨x2,H2,I2,r2,q2⟩=> ?_
 refine gj (hg pins s2 σ H2 x1 x2 ov iv _ I2 r1 r2 q2) λold s3 ⟨x3,H3,I3,r3,q3⟩=> ?_
 refine gj (he pins s3 σ H3 _ I3 q3) λv s4 ⟨x4,H4,I4,r4,q4⟩=> ?_
 refine gj (hp pins s4 σ H4 x3 x4 old v _ I4 r3 r4 q4) λnew s5 ⟨x5,H5,I5,r5,q5⟩=> ?_
 exact gj (hs pins s5 σ H5 x1 x2 x5 ov iv new _ I5 r1 r2 r5 q5) λ_ s6 ⟨H6,I6,q6⟩=>⟨σ,H6,I6,q6⟩
def ipI(f:Int->Int->Int):YJ:=λx y H Q=> ∃i j,x= .int i/\y= .int j/\Q (.int (f i j)) H
theorem US:PIp X .Add (ipI λi j=>i+j):=by
 intro pins s σ H x y v u Q I r1 r2 h
 obtain⟨i,j,e1,e2,q⟩:=h
 subst e1;subst e2
 obtain⟨t,rfl⟩:=r1
 obtain⟨t',rfl⟩:=r2
 exact iadd_int ⟨.int _,H,I.tok _,⟨_,rfl⟩,q⟩
end
section
variable{X:Cx}{pos:Pos}
def MI(c:TT)(tb:TS):TS:=λD σ H=> ∃W:Nat->St->Hp->Prop,(∃m,W m σ H)/\ ∀m σ H,W m σ H->
 c σ H λb H1=>if b=true then ∃N:St->Hp->Prop,(∀σ' H',N σ' H'-> ∃m',m'<m/\W m' σ' H')/\tb {D with nx:=N,ct:=N,bk:=D.nx} σ H1 else D.nx σ H1
theorem MJ{c:Expr}{body:List Stmt}{tc:TT}{tb:TS}(hp:PassesOwn (model X.prog X.w) X.A X.env X.xe)(hc:PT X c tc)(hb:vC X body tb):PS X (.While c body [] pos) (MI tc tb):=by
 intro pins s σ H D I h
 obtain⟨W,⟨m0,w0⟩,turn⟩:=h
 refine wpAny_While (codeAny_whileLoop (λn s'=> ∃σ' H',Inv X pins σ' H' s'/\W n σ' H') ?_ m0 ⟨σ,H,I,w0⟩)
 rintro n s1 ⟨σ1,H1,I1,w1⟩
 refine wpAny_passesOwn hp (gj (hc pins s1 σ1 H1 _ I1 (turn n σ1 H1 w1)) λb s2 ⟨H2,I2,q2⟩=> ?_)
 cases b with
 |true=>
  obtain⟨N,hN,q2⟩:=q2
  rw[if_pos rfl]
  refine wpAny_passesOwn hp (gj (hb pins s2 σ1 H2 _ I2 q2) λf s3 q3=> ?_)
  cases f with
  |next=>
   obtain⟨σ3,H3,I3,n3⟩:=q3
   obtain⟨m',hm,w3⟩:=hN σ3 H3 n3
   exact⟨m',hm,σ3,H3,I3,w3⟩
  |cont=>
   obtain⟨σ3,H3,I3,n3⟩:=q3
   obtain⟨m',hm,w3⟩:=hN σ3 H3 n3
   exact⟨m',hm,σ3,H3,I3,w3⟩
  |brk=>exact q3
  |ret v=>exact q3
 |false=>
  rw[if_neg Bool.false_ne_true]
  exact wpAny_execs_nil ⟨σ1,H2,I2,q2⟩
end
structure It where
 go:Nat->Hp->Prop
 Ba:Nat->Hp->V->Hp->Prop
 stop:Nat->Hp->Prop
def gn(X:Cx)(pins:List (Addr×Obj))(H:Hp)(b:Addr):Prop:=
 H b=none/\b≠X.env.locals/\b∉X.fs/\(b∈X.ex∨X.s₀.heap.objs.size<=b)/\(∀x c,X.env.cells.lookup x=some c->c≠b)/\ ∀p∈X.pn++pins,p.1≠b
theorem Inv.Ga{X:Cx}{pins:List (Addr×Obj)}{σ:St}{H H':Hp}{s:Shared}{b:Addr}(I:Inv X pins σ H s)(hb:s.heap.objs.size<=b)(hn:H' b=none):gn X pins H' b:=by
 refine⟨hn,Nat.ne_of_gt (Nat.lt_of_lt_of_le I.lt hb),I.WT hb,.inr (Nat.le_trans I.sz hb),λx c e z=> ?_,λp hp z=> ?_⟩
 ·obtain⟨v,q⟩:=I.cell x c e
  exact absurd (Nat.lt_of_lt_of_le q.lt (by rw[z];exact hb)) (Nat.lt_irrefl _)
 ·exact absurd (Nat.lt_of_lt_of_le (Heap.lt_size (I.pin p hp).1) (by rw[z];exact hb)) (Nat.lt_irrefl _)
structure Turn(P:Program)(w:World)(K:PySem.W.Frag)(tg:Expr)(J:It)(fp:List Addr)(it:Addr)(tn:Nat->Heap->Prop):Prop where
 mem:it∈fp
 obj:∀i h,tn i h-> ∀b∈fp,∃o,h.get? b=some o/\ ∀v,o.data≠ .cell v
 keep:∀i h h',tn i h->(∀b∈fp,∀o,h.get? b=some o->h'.get? b=some o) ->tn i h'
 item:∀(X:Cx),X.prog=P->X.w=w->X.K=K->X.calm=true-> ∀(i:Nat)(pins:List (Addr×Obj))(s:Shared)(σ:St)(H:Hp)(E:Value->Shared->Prop),Inv X pins σ H s->(∀b∈fp,gn X pins H b) ->tn i s.heap->J.go i H->
  wpAny (model P w) X.A (pyNext (.ref it)) (λr s1=> ∃u,r=some u/\
   wpAny (model P w) X.A (letOwnedTupleGo tg (.ref it) u) (λ_ s2=> ∃x H',Inv X pins σ H' s2/\RelV x u/\J.Ba i H x H'/\tn (i+1) s2.heap/\ ∀b∈fp,H' b=none) E s1) E s
 done:∀(X:Cx),X.prog=P->X.w=w->X.K=K->X.calm=true-> ∀(i:Nat)(pins:List (Addr×Obj))(s:Shared)(σ:St)(H:Hp)(E:Value->Shared->Prop),Inv X pins σ H s->(∀b∈fp,gn X pins H b) ->tn i s.heap->J.stop i H->
  wpAny (model P w) X.A (pyNext (.ref it)) (λr s1=>r=none/\Inv X pins σ H s1) E s
 self:∀(A:Around)(i:Nat)(s:Shared)(Q:Value->Shared->Prop)(E:Value->Shared->Prop),tn i s.heap->Q (.ref it) s->wpAny (model P w) A (pyIter (.ref it)) Q E s
abbrev TI:=St->Hp->(It->Hp->Prop) ->Prop
def PIE(X:Cx)(pins:List (Addr×Obj))(σ:St)(tg:Expr)(R:It->Hp->Prop)(itv:Value)(s2:Shared):Prop:=
 ∃(it:Addr)(fp:List Addr)(tn:Nat->Heap->Prop)(J:It)(H':Hp),itv= .ref it/\Inv X pins σ H' s2/\Turn X.prog X.w X.K tg J fp it tn/\tn 0 s2.heap/\(∀b∈fp,gn X pins H' b)/\R J H'
def PI(X:Cx)(tg iter:Expr)(wi:TI):Prop:=
 ∀(pins:List (Addr×Obj))(s:Shared)(σ:St)(H:Hp)(R:It->Hp->Prop),Inv X pins σ H s->wi σ H R->
  wpAny (model X.prog X.w) X.A (eval iter X.env) (λv s1=>wpAny (model X.prog X.w) X.A (pyIter v) (PIE X pins σ tg R) X.xe s1) X.xe s
theorem MK{M:Model}{A:Around}{E:Value->Shared->Prop}{s:Shared}{tg:Expr}{it:Addr}{u:Value}{o:Obj}{n:String}{vs:Array Value}{Q:Unit->Shared->Prop}(ho:s.heap.get? it=some o)(hc:o.cls= .type n)(hd:o.data= .fields vs)
  (hn: ["enumerate","zip","dict_itemiterator","dict_reverseitemiterator","odict_iterator","itertools.zip_longest","itertools.pairwise"].contains n=false)(hQ:Q () s):wpAny M A (letOwnedTupleGo tg (.ref it) u) Q E s:=by
 unfold letOwnedTupleGo
 cases tg<;>first
  |exact wpAny_pure hQ
  |(cases u<;>first
    |exact wpAny_pure hQ
    |(refine wpAny_bind (wpAny_load ho ?_)
      rw[hc,hd]
      show wpAny M A (if(["enumerate","zip","dict_itemiterator","dict_reverseitemiterator","odict_iterator","itertools.zip_longest","itertools.pairwise"].contains n && vs[0]?==some (rawInt _))=true then _ else _) Q E s
      rw[if_neg (by intro h;rw[hn,Bool.false_and]at h;cases h)]
      exact wpAny_pure hQ))
def YL(K:PySem.W.Frag)(a:Addr):It:=
 ⟨λi H=> ∃xs x,aV K H a xs/\xs[i]?=some x,λi H x H'=>H'=H/\ ∀xs,aV K H a xs->xs[i]?=some x,λi H=> ∃xs,aV K H a xs/\xs.length<=i⟩
def ZQ(K:PySem.W.Frag)(a:Addr):It:=
 ⟨λi H=> ∃xs x,qA K H a xs/\xs[i]?=some x,λi H x H'=>H'=H/\ ∀xs,qA K H a xs->xs[i]?=some x,λi H=> ∃xs,qA K H a xs/\xs.length<=i⟩
def My(lo:Int)(n:Nat):It:=⟨λi _=>i<n,λi H x H'=>H'=H/\x= .int (lo+i),λi _=>n<=i⟩
theorem JS{P:Program}{w:World}{K:PySem.W.Frag}{tg:Expr}(a it:Addr):Turn P w K tg (YL K a) [it] it (λi h=>h.IsListIter it a i) where
 mem:=by simp
 obj:=λi h st b hb=>by
  have e:b=it:=by simpa using hb
  subst e
  obtain⟨o,e,c,d⟩:=st
  exact⟨o,e,λv z=>by rw[d]at z;cases z⟩
 keep:=λi h h' st k=>st.at λo e=>k it (by simp) o e
 item:=by
  intro X hP hw hK hc i pins s σ H E I hf st hg
  subst hP hw hK
  obtain⟨xs,x,hq,hx⟩:=hg
  obtain⟨its,rv,p,hz⟩:=I.list hq
  obtain⟨u,hu,ru⟩:=rv.get hx
  obtain⟨f0,f1,f2,f3,f4,f5⟩:=hf it (by simp)
  refine wpAny_pyNext_list_item st p.isList (x:=u) (by simpa using hu) λh' st' sb=> ?_
  have I1:Inv X pins σ H {s with heap:=h'}:=I.turned (t':=s.toks) (λb o hb e=>(sb.2 b hb).trans e) f0 f1 f3 f4 f5
  obtain⟨o,e,c,d⟩:=id st'
  exact⟨u,rfl,MK (s:={s with heap:=h'}) e c d (by decide) ⟨x,H,I1,ru,⟨rfl,λys hy=>by rw[I.yh hy hq];exact hx⟩,st',λb hb=>(hf b hb).1⟩⟩
 done:=by
  intro X hP hw hK hc i pins s σ H E I hf st hg
  subst hP hw hK
  obtain⟨xs,hq,hx⟩:=hg
  obtain⟨its,rv,p,hz⟩:=I.list hq
  obtain⟨f0,f1,f2,f3,f4,f5⟩:=hf it (by simp)
  have hl:=rv.length
  exact wpAny_pyNext_list_end (I.ok.hd hc) st p.isList (by simp;omega) λh' eb=>⟨rfl,I.turned (t':=s.toks) (λb o hb e=>eb b o hb e) f0 f1 f3 f4 f5⟩
 self:=λ_ _ _ _ _ st h=>wpAny_pyIter_listiter st h
theorem Gb{P:Program}{w:World}{K:PySem.W.Frag}{tg:Expr}(a it:Addr):Turn P w K tg (ZQ K a) [it] it (λi h=>h.IsTupleIter it a i) where
 mem:=by simp
 obj:=λi h st b hb=>by
  have e:b=it:=by simpa using hb
  subst e
  obtain⟨o,e,c,d⟩:=st
  exact⟨o,e,λv z=>by rw[d]at z;cases z⟩
 keep:=λi h h' st k=>st.at λo e=>k it (by simp) o e
 item:=by
  intro X hP hw hK hc i pins s σ H E I hf st hg
  subst hP hw hK
  obtain⟨xs,x,hq,hx⟩:=hg
  obtain⟨its,rv,p,hz⟩:=I.tuple hq
  obtain⟨u,hu,ru⟩:=rv.get hx
  obtain⟨f0,f1,f2,f3,f4,f5⟩:=hf it (by simp)
  refine wpAny_pyNext_tuple_item st (show s.heap.IsTuple a its.toArray from p) (x:=u) (by simpa using hu) λh' st' sb=> ?_
  have I1:Inv X pins σ H {s with heap:=h'}:=I.turned (t':=s.toks) (λb o hb e=>(sb.2 b hb).trans e) f0 f1 f3 f4 f5
  obtain⟨o,e,c,d⟩:=id st'
  exact⟨u,rfl,MK (s:={s with heap:=h'}) e c d (by decide) ⟨x,H,I1,ru,⟨rfl,λys hy=>by rw[I.JR hy hq];exact hx⟩,st',λb hb=>(hf b hb).1⟩⟩
 done:=by
  intro X hP hw hK hc i pins s σ H E I hf st hg
  subst hP hw hK
  obtain⟨xs,hq,hx⟩:=hg
  obtain⟨its,rv,p,hz⟩:=I.tuple hq
  obtain⟨f0,f1,f2,f3,f4,f5⟩:=hf it (by simp)
  have hl:=rv.length
  exact wpAny_pyNext_tuple_end (I.ok.hd hc) st (show s.heap.IsTuple a its.toArray from p) (by simp;omega) λh' eb=>⟨rfl,I.turned (t':=s.toks) (λb o hb e=>eb b o hb e) f0 f1 f3 f4 f5⟩
 self:=λ_ _ _ _ _ st h=>wpAny_pyIter_tupleiter st h
theorem Gd{P:Program}{w:World}{K:PySem.W.Frag}{tg:Expr}(it:Addr)(lo:Int)(n:Nat):Turn P w K tg (My lo n) [it] it (λi h=>IsRangeIter h it (lo+(i:Nat)*1) ((n:Int) - (i:Nat)) 1) where
 mem:=by simp
 obj:=λi h st b hb=>by
  have e:b=it:=by simpa using hb
  subst e
  exact⟨_,st,λv z=>by
   have z':Data.fields _=Data.cell v:=z
   cases z'⟩
 keep:=λi h h' st k=>k it (by simp) _ st
 item:=by
  intro X hP hw hK hc i pins s σ H E I hf st hg
  subst hP hw hK
  obtain⟨f0,f1,f2,f3,f4,f5⟩:=hf it (by simp)
  have W:=Walks.range (prog:=X.prog) (w:=X.w) (I.ok.hd hc) it lo 1 n
  refine W.item i s _ _ hg st λv h' tk hv st' kk=> ?_
  obtain⟨t,rfl⟩:=hv
  have I1:Inv X pins σ H {s with heap:=h',toks:=tk}:=I.turned (λb o hb e=>kk b o (by simpa using hb) e) f0 f1 f3 f4 f5
  refine⟨_,rfl,MK (s:={s with heap:=h',toks:=tk}) (n:= "range_iterator") st' rfl rfl (by decide) ⟨.int (lo+i),H,I1,⟨t,?_⟩,⟨rfl,rfl⟩,st',λb hb=>(hf b hb).1⟩⟩
  rw[Int.mul_one]
 done:=by
  intro X hP hw hK hc i pins s σ H E I hf st hg
  subst hP hw hK
  obtain⟨f0,f1,f2,f3,f4,f5⟩:=hf it (by simp)
  exact wpAny_pyNext_range_end (I.ok.hd hc) st (by have:n<=i:=hg;omega) λh' eb=>⟨rfl,I.turned (t':=s.toks) (λb o hb e=>eb b o hb e) f0 f1 f3 f4 f5⟩
 self:=λ_ _ _ _ _ st h=>wpAny_pyIter_rangeiter st h
section
variable{X:Cx}{tg:Expr}
def DJ(K:PySem.W.Frag)(tl:TE):TI:=λσ H R=>tl σ H λx H1=> ∃a,x= .ref a/\(∃xs,aV K H1 a xs)/\R (YL K a) H1
def ZR(K:PySem.W.Frag)(tl:TE):TI:=λσ H R=>tl σ H λx H1=> ∃a,x= .ref a/\(∃xs,qA K H1 a xs)/\R (ZQ K a) H1
theorem di{l:Expr}{tl:TE}(hl:PE X l tl):PI X tg l (DJ X.K tl):=by
 intro pins s σ H R I h
 refine gj (hl pins s σ H _ I h) λv s1 ⟨x,H1,I1,r1,q1⟩=> ?_
 obtain⟨a,e,⟨xs,hq⟩,q⟩:=q1
 subst e
 cases r1
 obtain⟨its,rv,p,hz⟩:=I1.list hq
 refine wpAny_pyIter_list p.isList ?_
 refine⟨s1.heap.objs.size,[s1.heap.objs.size],_,_,H1,rfl,I1.kept (t':=s1.toks) λb o e=>Heap.get?_push_of_some _ e,JS a _,⟨_,Heap.get?_push_size _ rfl,rfl,rfl⟩,λb hb=> ?_,q⟩
 have e:b=s1.heap.objs.size:=by simpa using hb
 subst e
 exact I1.Ga (Nat.le_refl _) (I1.hok.fresh (Nat.le_refl _))
theorem ML{l:Expr}{tl:TE}(hl:PE X l tl):PI X tg l (ZR X.K tl):=by
 intro pins s σ H R I h
 refine gj (hl pins s σ H _ I h) λv s1 ⟨x,H1,I1,r1,q1⟩=> ?_
 obtain⟨a,e,⟨xs,hq⟩,q⟩:=q1
 subst e
 cases r1
 obtain⟨its,rv,p,hz⟩:=I1.tuple hq
 refine wpAny_pyIter_tuple (show s1.heap.IsTuple a its.toArray from p) ?_
 refine⟨s1.heap.objs.size,[s1.heap.objs.size],_,_,H1,rfl,I1.kept (t':=s1.toks) λb o e=>Heap.get?_push_of_some _ e,Gb a _,⟨_,Heap.get?_push_size _ rfl,rfl,rfl⟩,λb hb=> ?_,q⟩
 have e:b=s1.heap.objs.size:=by simpa using hb
 subst e
 exact I1.Ga (Nat.le_refl _) (I1.hok.fresh (Nat.le_refl _))
theorem DK{pins:List (Addr×Obj)}{σ:St}{H:Hp}{s:Shared}{R:It->Hp->Prop}{E:Value->Shared->Prop}{lo hi:Int}{t u v:Tok}{tk:Nat}(I:Inv X pins σ H s)(h1: -(2^62)<=lo)(h2:lo<2^62)(h3: -(2^62)<=hi)(h4:hi<2^62)
  (q:R (My lo (hi-lo).toNat) H):wpAny (model X.prog X.w) X.A (pyIter (.ref s.heap.objs.size)) (PIE X pins σ tg R) E {s with heap:=s.heap.push {cls:= .type "range",data:= .fields #[.int lo t,.int hi u,.int 1 v]},toks:=tk}:=by
 refine wpAny_pyIter_range (IsRange.new ..) (small_one h1 h2 h3 h4) ?_
 have I1:Inv X pins σ H {s with heap:=s.heap.push {cls:= .type "range",data:= .fields #[.int lo t,.int hi u,.int 1 v]},toks:=tk}:=I.kept λb o e=>Heap.get?_push_of_some _ e
 refine⟨(s.heap.push {cls:= .type "range",data:= .fields #[.int lo t,.int hi u,.int 1 v]}).objs.size,[(s.heap.push {cls:= .type "range",data:= .fields #[.int lo t,.int hi u,.int 1 v]}).objs.size],_,_,H,rfl,
  I1.kept (t':=tk) λb o e=>Heap.get?_push_of_some _ e,Gd _ lo (hi-lo).toNat,?_,λb hb=> ?_,q⟩
 ·have e1:lo+((0:Nat):Int)*1=lo:=by simp
  have e2:(((hi-lo).toNat:Nat):Int) - ((0:Nat):Int)=Builtin.Range.rangeSize lo hi 1:=by rw[rangeSize_one];split<;>omega
  show IsRangeIter _ _ (lo+((0:Nat):Int)*1) ((((hi-lo).toNat:Nat):Int) - ((0:Nat):Int)) 1
  rw[e1,e2]
  exact Heap.get?_push_size _ rfl
 ·have e:b=(s.heap.push {cls:= .type "range",data:= .fields #[.int lo t,.int hi u,.int 1 v]}).objs.size:=by simpa using hb
  subst e
  exact I1.Ga (Nat.le_refl _) (I1.hok.fresh (Nat.le_refl _))
def DL(ta:TA):TI:=λσ H R=>ta σ H λvs H1=> ∃j:Int,vs=[.int j]/\ -(2^62)<=j/\j<2^62/\R (My 0 j.toNat) H1
def Xi(ta:TA):TI:=λσ H R=>ta σ H λvs H1=> ∃i j:Int,vs=[.int i,.int j]/\(-(2^62)<=i/\i<2^62/\ -(2^62)<=j/\j<2^62)/\R (My i (j-i).toNat) H1
theorem b8{a:Expr}{ta:TA}{p pos:Pos}(hg:Gl X "range")(hm:X.mg "range"=none)(ha:PA X [a] ta)(hs:starEach [a] X.env=[(false,eval a X.env)]:=by rfl):PI X tg (.Call (.Name "range" p) [a] [] pos) (DL ta):=by
 intro pins s σ H R I h
 refine Call_ (lQ I hg hm boot_range (PyProof.Rows.callWith_type1 (gj (ha pos pins s σ H _ I h) λus s1 ⟨vs,H1,I1,r1,q1⟩=> ?_) hs rfl))
 obtain⟨j,e,q1,q2,q⟩:=q1
 subst e
 cases r1 with
 |cons r rr=>
  cases rr
  obtain⟨t,rfl⟩:=r
  exact call_range_1 (DK I1 (by omega) (by omega) q1 q2 (by simpa using q))
theorem Bb{a b:Expr}{ta:TA}{p pos:Pos}(hg:Gl X "range")(hm:X.mg "range"=none)(ha:PA X [a,b] ta)(hs:starEach [a,b] X.env=[(false,eval a X.env),(false,eval b X.env)]:=by rfl)(hs2:starEach [b] X.env=[(false,eval b X.env)]:=by rfl):
  PI X tg (.Call (.Name "range" p) [a,b] [] pos) (Xi ta):=by
 intro pins s σ H R I h
 refine Call_ (lQ I hg hm boot_range (PyProof.Rows.callWith_type1 (gj (ha pos pins s σ H _ I h) λus s1 ⟨vs,H1,I1,r1,q1⟩=> ?_) (by rw[hs,hs2]) (by rw[hs2];rfl)))
 obtain⟨i,j,e,⟨q1,q2,q3,q4⟩,q⟩:=q1
 subst e
 cases r1 with
 |cons r rr=>
  cases rr with
  |cons r' rr=>
   cases rr
   obtain⟨t,rfl⟩:=r
   obtain⟨t',rfl⟩:=r'
   exact call_range_2 (DK I1 q1 q2 q3 q4 q)
def ZS(wi:TI)(g:TG)(tb:TS):TS:=λD σ H=>wi σ H λJ H1=> ∃W:Nat->Nat->St->Hp->Prop,(∃m,W 0 m σ H1)/\ ∀i m σ H,W i m σ H->
 (J.stop i H/\D.nx σ H)∨(J.go i H/\ ∃N:St->Hp->Prop,(∀σ' H',N σ' H'-> ∃m',m'<m/\W (i+1) m' σ' H')/\ ∀x H',J.Ba i H x H'->g x σ H' λσ2 H2=>tb {D with nx:=N,ct:=N,bk:=D.nx} σ2 H2)
def cQ(fp:List Addr)(h:Heap):List (Addr×Obj):=fp.filterMap λb=>(h.get? b).map λo=>(b,o)
theorem bU{fp:List Addr}{h:Heap}{b:Addr}{o:Obj}(hb:b∈fp)(e:h.get? b=some o):(b,o)∈cQ fp h:=List.mem_filterMap.mpr ⟨b,hb,by rw[e];rfl⟩
theorem lJ{fp:List Addr}{h:Heap}{p:Addr×Obj}(hp:p∈cQ fp h):p.1∈fp/\h.get? p.1=some p.2:=by
 obtain⟨b,hb,e⟩:=List.mem_filterMap.mp hp
 cases q:h.get? b with
 |none=>rw[q]at e;cases e
 |some o=>
  rw[q]at e
  have e':(b,o)=p:=Option.some.inj e
  subst e'
  exact⟨hb,q⟩
theorem Inv.pinned{pins:List (Addr×Obj)}{σ:St}{H:Hp}{s:Shared}{fp:List Addr}(I:Inv X pins σ H s)(hf:∀b∈fp,gn X pins H b)(ho:∀b∈fp,∃o,s.heap.get? b=some o/\ ∀v,o.data≠ .cell v):Inv X (pins++cQ fp s.heap) σ H s:=
 I.lC λp hp=>(List.mem_append.mp hp).elim (λz=>I.pin p (List.mem_append_right _ z)) λz=>by
  obtain⟨hb,e⟩:=lJ z
  obtain⟨f0,f1,f2,_⟩:=hf p.1 hb
  obtain⟨o,e',d⟩:=ho p.1 hb
  rw[e]at e';cases e'
  exact⟨e,f0,f1,f2,d⟩
theorem Inv.jv{pins pl:List (Addr×Obj)}{σ:St}{H:Hp}{s:Shared}(I:Inv X (pins++pl) σ H s):Inv X pins σ H s:=I.lC λp hp=>I.pin p (List.mem_append_right _ (List.mem_append_left _ hp))
theorem lR{iter:Expr}{body:List Stmt}{wi:TI}{g:TG}{tb:TS}{pos:Pos}(hp:PassesOwn (model X.prog X.w) X.A X.env X.xe)(hc:X.calm=true)(hi:PI X tg iter wi)(hg:PG X tg g)(hb:vC X body tb)
  (hs:∀x,foldedSetIterable iter X.env x=pure x:=by intro _;rfl):PS X (.For tg iter body [] pos) (ZS wi g tb):=by
 intro pins s σ H D I h
 refine wpAny_For (gj (hi pins s σ H _ I h) λv s1 h1=>gj h1 λitv s2 h2=> ?_) hs
 obtain⟨it,fp,tn,J,H2,e,I2,T,st2,f2,W,⟨m0,w0⟩,turn⟩:=h2
 subst e
 have UT:∀{H':Hp},(∀b∈fp,H' b=none) -> ∀b∈fp,gn X pins H' b:=λhn b hb=>⟨hn b hb,(f2 b hb).2⟩
 refine codeAny_forLoop_any (λn s'=> ∃i σ' H',Inv X pins σ' H' s'/\tn i s'.heap/\(∀b∈fp,H' b=none)/\W i n σ' H') ?_ m0 ⟨0,σ,H2,I2,st2,λb hb=>(f2 b hb).1,w0⟩
 rintro n s3 ⟨i,σ3,H3,I3,st3,QO,w3⟩
 rcases turn i n σ3 H3 w3 with⟨stop,qn⟩|⟨go,N,hN,step⟩
 ·refine wpAny_passesOwn hp (gj (T.done X rfl rfl rfl hc i pins s3 σ3 H3 X.xe I3 (UT QO) st3 stop) λr s4 ⟨hr,I4⟩=> ?_)
  subst hr
  exact wpAny_execs_nil ⟨σ3,H3,I4,qn⟩
 ·refine wpAny_passesOwn hp (gj (T.item X rfl rfl rfl hc i pins s3 σ3 H3 X.xe I3 (UT QO) st3 go) λr s4 ⟨u,hr,h4⟩=> ?_)
  subst hr
  refine wpAny_passesOwn hp (gj h4 λ_ s5 ⟨x,H5,I5,r5,y5,JT,Xj⟩=> ?_)
  have Xk:=I5.pinned (UT Xj) (T.obj _ _ JT)
  refine wpAny_passesOwn hp (gj (hg _ s5 σ3 H5 x u _ Xk r5 (step x H5 y5)) λ_ s6 ⟨MM,H6,I6,q6⟩=> ?_)
  refine wpAny_passesOwn hp (gj (hb _ s6 MM H6 _ I6 q6) λf s7 q7=> ?_)
  have again:∀{MN:St}{H7:Hp},Inv X (pins++cQ fp s5.heap) MN H7 s7->N MN H7-> ∃m,m<n/\ ∃i σ' H',Inv X pins σ' H' s7/\tn i s7.heap/\(∀b∈fp,H' b=none)/\W i m σ' H':=λ {MN H7} I7 n7=>by
   obtain⟨m',hm,w7⟩:=hN MN H7 n7
   refine⟨m',hm,i+1,MN,H7,I7.jv,T.keep _ _ _ JT λb hb o e=>(I7.pin (b,o) (List.mem_append_right _ (List.mem_append_right _ (bU hb e)))).1,λb hb=> ?_,w7⟩
   obtain⟨o,e,d⟩:=T.obj _ _ JT b hb
   exact(I7.pin (b,o) (List.mem_append_right _ (List.mem_append_right _ (bU hb e)))).2.1
  cases f with
  |next=>obtain⟨MN,H7,I7,n7⟩:=q7;exact again I7 n7
  |cont=>obtain⟨MN,H7,I7,n7⟩:=q7;exact again I7 n7
  |brk=>obtain⟨MN,H7,I7,q7⟩:=q7;exact⟨MN,H7,I7.jv,q7⟩
  |ret v=>obtain⟨x7,MN,H7,I7,r7,q7⟩:=q7;exact⟨x7,MN,H7,I7.jv,r7,q7⟩
end
theorem gp{lo:Int}{n:Nat}{g:TG}{tb:TS}{D:Ends}{σ:St}{H:Hp}(Pv:Nat->St->Hp->Prop)(h0:Pv 0 σ H)
  (hs:∀i σ H,i<n->Pv i σ H->g (.int (lo+i)) σ H λσ2 H2=>tb {D with nx:=Pv (i+1),ct:=Pv (i+1),bk:=D.nx} σ2 H2)(hd:∀σ H,Pv n σ H->D.nx σ H):
  ∃W:Nat->Nat->St->Hp->Prop,(∃m,W 0 m σ H)/\ ∀i m σ H,W i m σ H->
   ((My lo n).stop i H/\D.nx σ H)∨((My lo n).go i H/\ ∃N:St->Hp->Prop,(∀σ' H',N σ' H'-> ∃m',m'<m/\W (i+1) m' σ' H')/\ ∀x H',(My lo n).Ba i H x H'->g x σ H' λσ2 H2=>tb {D with nx:=N,ct:=N,bk:=D.nx} σ2 H2):=by
 refine⟨λi m σ H=>m=n-i/\i<=n/\Pv i σ H,⟨n,by simp,Nat.zero_le _,h0⟩,?_⟩
 rintro i m σ H ⟨rfl,hi,p⟩
 by_cases hlt:i<n
 ·refine .inr ⟨hlt,Pv (i+1),λσ' H' p'=>⟨n- (i+1),by omega,rfl,hlt,p'⟩,λx H' y=> ?_⟩
  obtain⟨e,y⟩:=y
  subst e y
  exact hs i σ _ hlt p
 ·have e:i=n:=by omega
  subst e
  exact .inl ⟨Nat.le_refl _,hd σ H p⟩
theorem MO{c:TT}{tb:TS}{D:Ends}{σ:St}{H:Hp}(Pv:St->Hp->Prop)(μ:St->Hp->Nat)(h0:Pv σ H)
  (hs:∀σ H,Pv σ H->c σ H λb H1=>if b=true then tb {D with nx:=λσ' H'=>Pv σ' H'/\μ σ' H'<μ σ H,ct:=λσ' H'=>Pv σ' H'/\μ σ' H'<μ σ H,bk:=D.nx} σ H1 else D.nx σ H1)
  (mono:∀σ H Q Q',(∀b H1,Q b H1->Q' b H1) ->c σ H Q->c σ H Q'):MI c tb D σ H:=by
 refine⟨λm σ H=>m=μ σ H/\Pv σ H,⟨_,rfl,h0⟩,?_⟩
 rintro m σ H ⟨rfl,p⟩
 refine mono σ H _ _ (λb H1 q=> ?_) (hs σ H p)
 cases b with
 |true=>exact⟨_,λσ' H' ⟨p',l⟩=>⟨_,l,rfl,p'⟩,q⟩
 |false=>exact q
abbrev R2:=V->V->Hp->VK->Prop
def vD(X:Cx)(f:Value->Value->Sem Value)(r:R2):Prop:=
 ∀(pins:List (Addr×Obj))(s:Shared)(σ:St)(H:Hp)(x y:V)(v u:Value)(Q:VK),Inv X pins σ H s->RelV x v->RelV y u->r x y H Q->
  wpAny (model X.prog X.w) X.A (f v u) (EP X pins σ Q) X.xe s
def ZT(X:Cx)(f:Value->Sem Value)(r:V->Hp->VK->Prop):Prop:=
 ∀(pins:List (Addr×Obj))(s:Shared)(σ:St)(H:Hp)(x:V)(v:Value)(Q:VK),Inv X pins σ H s->RelV x v->r x H Q->
  wpAny (model X.prog X.w) X.A (f v) (EP X pins σ Q) X.xe s
def qC(X:Cx)(f:Value)(r:List V->Hp->VK->Prop):Prop:=
 ∀(pins:List (Addr×Obj))(s:Shared)(σ:St)(H:Hp)(xs:List V)(us:List Value)(Q:VK),Inv X pins σ H s->Vals xs us->r xs H Q->
  wpAny (model X.prog X.w) X.A (call f us) (EP X pins σ Q) X.xe s
def ZV(X:Cx)(r:V->Hp->(Bool->Hp->Prop) ->Prop):Prop:=
 ∀(pins:List (Addr×Obj))(s:Shared)(σ:St)(H:Hp)(x:V)(v:Value)(Q:Bool->Hp->Prop),Inv X pins σ H s->RelV x v->r x H Q->
  wpAny (model X.prog X.w) X.A (truthy v) (TP X pins σ Q) X.xe s
def fY(r:R2)(ta tb:TE):TE:=λσ H Q=>ta σ H λx H1=>tb σ H1 λy H2=>r x y H2 Q
def tUn(r:V->Hp->VK->Prop)(ta:TE):TE:=λσ H Q=>ta σ H λx H1=>r x H1 Q
inductive ZI(C:Int->Int->Prop)(g:Int->Int->V)(x y:V)(H:Hp)(Q:VK):Prop
 |mk(i j:Int)(ex:x= .int i)(ey:y= .int j)(c:C i j)(q:Q (g i j) H)
def rI(C:Int->Int->Prop)(g:Int->Int->V):R2:=ZI C g
inductive ZI0(g:Int->Int->V)(x y:V)(H:Hp)(Q:VK):Prop
 |mk(i j:Int)(ex:x= .int i)(ey:y= .int j)(q:Q (g i j) H)
def FU(g:Int->Int->V):R2:=ZI0 g
inductive ZU(g:Int->V)(x:V)(H:Hp)(Q:VK):Prop
 |mk(i:Int)(ex:x= .int i)(q:Q (g i) H)
def rU(g:Int->V):V->Hp->VK->Prop:=ZU g
section
variable{X:Cx}{a b c:Expr}{ta tb tc:TE}{pos:Pos}
theorem UU(ha:PE X a ta)(hb:PE X b tb){pins:List (Addr×Obj)}{s:Shared}{σ:St}{H:Hp}{R:V->V->Hp->Prop}(I:Inv X pins σ H s)
  (h:ta σ H λx H1=>tb σ H1 λy H2=>R x y H2){Q:Value->Shared->Prop}{f:Value->Value->Sem Value}
  (hf:∀v u s2 x y H2,Inv X pins σ H2 s2->RelV x v->RelV y u->R x y H2->wpAny (model X.prog X.w) X.A (f v u) Q X.xe s2):
  wpAny (model X.prog X.w) X.A (eval a X.env) (λv s₁=>wpAny (model X.prog X.w) X.A (eval b X.env) (λu s₂=>wpAny (model X.prog X.w) X.A (f v u) Q X.xe s₂) X.xe s₁) X.xe s:=by
 refine gj (ha pins s σ H _ I h) λv s1 ⟨x,H1,I1,r1,q1⟩=> ?_
 refine gj (hb pins s1 σ H1 _ I1 q1) λu s2 ⟨y,H2,I2,r2,q2⟩=> ?_
 exact hf v u s2 x y H2 I2 r1 r2 q2
theorem aB{op:Operator}{r:R2}(ho:vD X (binaryOp op) r)(ha:PE X a ta)(hb:PE X b tb):PE X (.BinOp a op b pos) (fY r ta tb):=by
 intro pins s σ H Q I h
 exact wpAny_BinOp (UU ha hb I h λv u s2 x y H2 I2 rx ry q=>ho pins s2 σ H2 x y v u Q I2 rx ry q)
theorem MP{op:UnaryOp}{r:V->Hp->VK->Prop}(ho:ZT X (unaryOp op) r)(ha:PE X a ta):PE X (.UnaryOp op a pos) (tUn r ta):=by
 intro pins s σ H Q I h
 exact UnaryOp_ (gj (ha pins s σ H _ I h) λv s1 ⟨x,H1,I1,r1,q1⟩=>ho pins s1 σ H1 x v Q I1 r1 q1)
theorem UW{f:Value->Value->Sem Value}{C:Int->Int->Prop}{g:Int->Int->Int}
  (rule:∀(i j:Int)(t u:Tok)(s:Shared)(Q:Value->Shared->Prop)(E:Value->Shared->Prop),C i j->Q (.int (g i j) s.toks) {s with toks:=s.toks+1} ->wpAny (model X.prog X.w) X.A (f (.int i t) (.int j u)) Q E s):
  vD X f (rI C λi j=> .int (g i j)):=by
 intro pins s σ H x y v u Q I rx ry h
 obtain⟨i,j,rfl,rfl,hc,q⟩:=h
 obtain⟨t,rfl⟩:=rx
 obtain⟨t',rfl⟩:=ry
 exact rule i j t t' s _ _ hc ⟨.int (g i j),H,I.tok _,⟨_,rfl⟩,q⟩
theorem Xl{f:Value->Value->Sem Value}{g:Int->Int->Int}
  (rule:∀(i j:Int)(t u:Tok)(s:Shared)(Q:Value->Shared->Prop)(E:Value->Shared->Prop),Q (.int (g i j) s.toks) {s with toks:=s.toks+1} ->wpAny (model X.prog X.w) X.A (f (.int i t) (.int j u)) Q E s):
  vD X f (FU λi j=> .int (g i j)):=by
 intro pins s σ H x y v u Q I rx ry h
 obtain⟨i,j,rfl,rfl,q⟩:=h
 obtain⟨t,rfl⟩:=rx
 obtain⟨t',rfl⟩:=ry
 exact rule i j t t' s _ _ ⟨.int (g i j),H,I.tok _,⟨_,rfl⟩,q⟩
theorem Rk{f:Value->Value->Sem Value}{g:Int->Int->Bool}
  (rule:∀(i j:Int)(t u:Tok)(s:Shared)(Q:Value->Shared->Prop)(E:Value->Shared->Prop),Q (.bool (g i j)) s->wpAny (model X.prog X.w) X.A (f (.int i t) (.int j u)) Q E s):
  vD X f (FU λi j=> .bl (g i j)):=by
 intro pins s σ H x y v u Q I rx ry h
 obtain⟨i,j,rfl,rfl,q⟩:=h
 obtain⟨t,rfl⟩:=rx
 obtain⟨t',rfl⟩:=ry
 exact rule i j t t' s _ _ ⟨.bl (g i j),H,I,rfl,q⟩
def ZW(i j:Int):Prop:=0<j/\j<1073741824
def ZX(i j:Int):Prop:=0<=j/\j<=1000000/\i.natAbs<2^64
def Al(i j:Int):Prop:=(-(2^64)<i/\i<2^64)∨(-(2^64)<j/\j<2^64)
theorem Al.ok{i j:Int}(h:Al i j):IntMulOk i j:=by
 rcases h with⟨h1,h2⟩|⟨h1,h2⟩
 ·exact .of_left (intBits_le_64 h1 h2)
 ·exact .of_right (intBits_le_64 h1 h2)
theorem b7:vD X (binaryOp .Add) (FU λi j=> .int (i+j)):=Xl λ_ _ _ _ _ _ _ q=>add_int q
theorem gq:vD X (binaryOp .Sub) (FU λi j=> .int (i-j)):=Xl λ_ _ _ _ _ _ _ q=>sub_int q
theorem cI:vD X (binaryOp .Mult) (rI Al λi j=> .int (i*j)):=UW λ_ _ _ _ _ _ _ hc q=>mul_int q hc.ok
theorem fq:vD X (binaryOp .FloorDiv) (rI ZW λi j=> .int (i/j)):=UW λi j _ _ _ _ _ hc q=>by
 have h1:(0:Int)<j:=hc.1
 have h2:j<1073741824:=hc.2
 exact floordiv_int (by omega) (by rw[Int.fdiv_eq_ediv_of_nonneg i (by omega)];exact q) (.inl (PyProof.noPylong_small (by omega)))
theorem dz:vD X (binaryOp .Mod) (rI (λ_ j=>0<j) λi j=> .int (i%j)):=UW λi j _ _ _ _ _ hc q=>by
 have h1:(0:Int)<j:=hc
 exact mod_int' (by omega) (by rw[Int.fmod_eq_emod_of_nonneg i (by omega)];exact q)
theorem Ge:vD X (binaryOp .Pow) (rI ZX λi j=> .int (i^j.toNat)):=UW λ_ _ _ _ _ _ _ hc q=>pow_int_small hc.1 hc.2.1 hc.2.2 q
theorem unI{f:Value->Sem Value}{g:Int->Int}
  (rule:∀(i:Int)(t:Tok)(s:Shared)(Q:Value->Shared->Prop)(E:Value->Shared->Prop),Q (.int (g i) s.toks) {s with toks:=s.toks+1} ->wpAny (model X.prog X.w) X.A (f (.int i t)) Q E s):
  ZT X f (rU λi=> .int (g i)):=by
 intro pins s σ H x v Q I rx h
 obtain⟨i,rfl,q⟩:=h
 obtain⟨t,rfl⟩:=rx
 exact rule i t s _ _ ⟨.int (g i),H,I.tok _,⟨_,rfl⟩,q⟩
theorem Gf:ZT X (unaryOp .USub) (rU λi=> .int (-i)):=unI λ_ _ _ _ _ q=>neg_int q
end
def Xm:V->V->Bool
 | .fP,.fP=>true| .fP,.int _=>true| .int _,.fP=>true| .fP,.bl _=>true| .bl _,.fP=>true| .fP,.str _=>true| .str _,.fP=>true
 | .int _,.int _=>true| .bl _,.bl _=>true| .str _,.str _=>true| .JN _,.JN _=>true
 | .int _,.str _=>true| .str _,.int _=>true| .bl _,.str _=>true| .str _,.bl _=>true
 |_,_=>false
def JU:R2:=λx y H Q=>Xm x y=true/\Q (.bl (decide (x=y))) H
def Um:R2:=λx y H Q=>Xm x y=true/\Q (.bl (!decide (x=y))) H
theorem IE{i j:Int}:decide (V.int i=V.int j)=(i==j):=by
 rw[Bool.eq_iff_iff]
 simp
theorem MQ{i j:Bool}:decide (V.bl i=V.bl j)=(i==j):=by
 rw[Bool.eq_iff_iff]
 simp
theorem IF{i j:Str}:decide (V.str i=V.str j)=(i==j):=by
 rw[Bool.eq_iff_iff]
 simp
theorem II{i j:Array UInt8}:decide (V.JN i=V.JN j)=(i.toList==j.toList):=by
 rw[Bool.eq_iff_iff]
 cases i
 cases j
 simp
section
variable{X:Cx}{a b c:Expr}{ta tb tc:TE}{pos:Pos}
theorem dO{pins:List (Addr×Obj)}{σ:St}{H:Hp}{s:Shared}{Q:VK}{k k':Bool}(I:Inv X pins σ H s)(q:Q (.bl k) H)(e:k=k'):EP X pins σ Q (.bool k') s:=by
 subst e
 exact⟨.bl k,H,I,rfl,q⟩
theorem fF:vD X (compareOp .Eq) JU:=by
 intro pins s σ H x y v u Q I rx ry h
 obtain⟨hs,q⟩:=h
 cases x with
 |fP=>
  cases rx
  cases y with
  |fP=>cases ry;exact PySem.EqNone.eq_none_none (dO I q (by simp))
  |bl j=>cases ry;exact PySem.EqNone.eq_none_bool (dO I q (by simp))
  |int j=>obtain⟨t',rfl⟩:=ry;exact PySem.EqNone.eq_none_int (dO I q (by simp))
  |str j=>obtain⟨t',rfl⟩:=ry;exact PySem.EqNone.eq_none_str (dO I q (by simp))
  |_=>exact absurd (show false=true from hs) Bool.false_ne_true
 |bl i=>
  cases rx
  cases y with
  |fP=>cases ry;exact PySem.EqNone.eq_bool_none (dO I q (by simp))
  |bl j=>cases ry;exact eq_bool (dO I q MQ)
  |str j=>obtain⟨t',rfl⟩:=ry;exact PySem.EqMixed.eq_bool_str (dO I q (by simp))
  |_=>exact absurd (show false=true from hs) Bool.false_ne_true
 |int i=>
  obtain⟨t,rfl⟩:=rx
  cases y with
  |fP=>cases ry;exact PySem.EqNone.eq_int_none (dO I q (by simp))
  |int j=>obtain⟨t',rfl⟩:=ry;exact eq_int (dO I q IE)
  |str j=>obtain⟨t',rfl⟩:=ry;exact PySem.EqMixed.eq_int_str (dO I q (by simp))
  |_=>exact absurd (show false=true from hs) Bool.false_ne_true
 |str i=>
  obtain⟨t,rfl⟩:=rx
  cases y with
  |fP=>cases ry;exact PySem.EqNone.eq_str_none (dO I q (by simp))
  |bl j=>cases ry;exact PySem.EqMixed.eq_str_bool (dO I q (by simp))
  |int j=>obtain⟨t',rfl⟩:=ry;exact PySem.EqMixed.eq_str_int (dO I q (by simp))
  |str j=>obtain⟨t',rfl⟩:=ry;exact eq_str (dO I q IF)
  |_=>exact absurd (show false=true from hs) Bool.false_ne_true
 |JN i=>
  obtain⟨t,rfl⟩:=rx
  cases y with
  |JN j=>obtain⟨t',rfl⟩:=ry;exact PySem.W.eq_bytes (dO I q II)
  |_=>exact absurd (show false=true from hs) Bool.false_ne_true
 |_=>cases y<;>exact absurd (show false=true from hs) Bool.false_ne_true
theorem ly:vD X (compareOp .NotEq) Um:=by
 intro pins s σ H x y v u Q I rx ry h
 obtain⟨hs,q⟩:=h
 cases x with
 |fP=>
  cases rx
  cases y with
  |fP=>cases ry;exact PySem.EqNone.ne_none_none (dO I q (by simp))
  |bl j=>cases ry;exact PySem.EqNone.ne_none_bool (dO I q (by simp))
  |int j=>obtain⟨t',rfl⟩:=ry;exact PySem.EqNone.ne_none_int (dO I q (by simp))
  |str j=>obtain⟨t',rfl⟩:=ry;exact PySem.EqNone.ne_none_str (dO I q (by simp))
  |_=>exact absurd (show false=true from hs) Bool.false_ne_true
 |bl i=>
  cases rx
  cases y with
  |fP=>cases ry;exact PySem.EqNone.ne_bool_none (dO I q (by simp))
  |bl j=>cases ry;exact ne_bool (dO I q (congrArg not MQ))
  |str j=>obtain⟨t',rfl⟩:=ry;exact PySem.EqMixed.ne_bool_str (dO I q (by simp))
  |_=>exact absurd (show false=true from hs) Bool.false_ne_true
 |int i=>
  obtain⟨t,rfl⟩:=rx
  cases y with
  |fP=>cases ry;exact PySem.EqNone.ne_int_none (dO I q (by simp))
  |int j=>obtain⟨t',rfl⟩:=ry;exact ne_int (dO I q (congrArg not IE))
  |str j=>obtain⟨t',rfl⟩:=ry;exact PySem.EqMixed.ne_int_str (dO I q (by simp))
  |_=>exact absurd (show false=true from hs) Bool.false_ne_true
 |str i=>
  obtain⟨t,rfl⟩:=rx
  cases y with
  |fP=>cases ry;exact PySem.EqNone.ne_str_none (dO I q (by simp))
  |bl j=>cases ry;exact PySem.EqMixed.ne_str_bool (dO I q (by simp))
  |int j=>obtain⟨t',rfl⟩:=ry;exact PySem.EqMixed.ne_str_int (dO I q (by simp))
  |str j=>obtain⟨t',rfl⟩:=ry;exact ne_str (dO I q (congrArg not IF))
  |_=>exact absurd (show false=true from hs) Bool.false_ne_true
 |JN i=>
  obtain⟨t,rfl⟩:=rx
  cases y with
  |JN j=>obtain⟨t',rfl⟩:=ry;exact PySem.W.ne_bytes (dO I q (congrArg not II))
  |_=>exact absurd (show false=true from hs) Bool.false_ne_true
 |_=>cases y<;>exact absurd (show false=true from hs) Bool.false_ne_true
theorem Uo:vD X (compareOp .Lt) (FU λi j=> .bl (decide (i<j))):=Rk λ_ _ _ _ _ _ _ q=>lt_int q
theorem IJ:vD X (compareOp .LtE) (FU λi j=> .bl (decide (i<=j))):=Rk λ_ _ _ _ _ _ _ q=>le_int q
theorem yi:vD X (compareOp .Gt) (FU λi j=> .bl (decide (j<i))):=Rk λ_ _ _ _ _ _ _ q=>gt_int q
theorem Xn:vD X (compareOp .GtE) (FU λi j=> .bl (decide (j<=i))):=Rk λ_ _ _ _ _ _ _ q=>ge_int q
theorem UX:vD X (compareOp .Is) (λx y H Q=>y= .fP/\Q (.bl (decide (x= .fP))) H):=by
 intro pins s σ H x y v u Q I rx ry h
 obtain⟨rfl,q⟩:=h
 cases ry
 refine is_none_gen (dO I q ?_)
 cases x<;>first
  |(cases rx;rfl)
  |(obtain⟨t,rfl⟩:=rx;rfl)
theorem bg(b:Expr){op:CmpOp}(h:op≠ .In:=by decide)(h2:op≠ .NotIn:=by decide):behindInMarks op b=false:=by
 have e1:(op==CmpOp.In)=false:=by cases op<;>first|rfl|exact absurd rfl h
 have e2:(op==CmpOp.NotIn)=false:=by cases op<;>first|rfl|exact absurd rfl h2
 cases b<;>simp[behindInMarks,e1,e2]
theorem fZ{op:CmpOp}{r:R2}(ho:vD X (compareOp op) r)(ha:PE X a ta)(hb:PE X b tb)(hm:behindInMarks op b=false):PE X (.Compare a [op] [b] pos) (fY r ta tb):=by
 intro pins s σ H Q I h
 exact wpAny_Compare1 (UU ha hb I h λv u s2 x y H2 I2 rx ry q=>ho pins s2 σ H2 x y v u Q I2 rx ry q) hm
def lA(t:TE):TT:=λσ H Q=>t σ H λx H1=>ZBl x λc=>Q c H1
theorem bB{op:CmpOp}{r:R2}(ho:vD X (compareOp op) r)(ha:PE X a ta)(hb:PE X b tb)(hm:behindInMarks op b=false):PT X (.Compare a [op] [b] pos) (lA (fY r ta tb)):=by
 intro pins s σ H Q I h
 refine wpAny_isTrue_Compare1 (gj (ha pins s σ H _ I h) λv s1 ⟨x,H1,I1,r1,q1⟩=>gj (hb pins s1 σ H1 _ I1 q1) λu s2 ⟨y,H2,I2,r2,q2⟩=>
  gj (ho pins s2 σ H2 x y v u _ I2 r1 r2 q2) λc s3 ⟨z,H3,I3,r3,k,e,q3⟩=> ?_) hm
 subst e
 cases r3
 exact wpAny_truthy_bool ⟨H3,I3,q3⟩
def Xo(K:PySem.W.Frag)(x:V)(H:Hp)(k:Bool):Prop:=
 match x with
 | .fP=>k=false
 | .bl b=>k=b
 | .int i=>k=(i !=0)
 | .str y=>y.length<=sizeLine/\k=((y.length:Int) !=0)
 | .JN y=>y.size<=sizeLine/\k=((y.size:Int) !=0)
 | .ref p=>(∃xs,aV K H p xs/\k= !xs.isEmpty)∨(∃xs,qA K H p xs/\k= !xs.isEmpty)∨ ∃kvs,H p=some (.dK kvs)/\k= !kvs.isEmpty
 |_=>False
theorem Gg{κ:Type}{kvs:List (κ×V)}{vs:List (κ×Value)}(r:KV kvs vs):(!vs.isEmpty)= !kvs.isEmpty:=by
 cases r<;>rfl
theorem yj{xs:List V}{its:List Value}(r:Vals xs its):(!its.toArray.isEmpty)= !xs.isEmpty:=by
 cases r<;>simp
theorem vI:(sizeLine:Nat)<2^63:=by rw[sizeLine_eq];decide
theorem UY:ZV X (λx H Q=> ∃k,Xo X.K x H k/\Q k H):=by
 intro pins s σ H x v Q I rx h
 obtain⟨k,e,q⟩:=h
 have hl:=vI
 have hs:sizeLine=16777216:=sizeLine_eq
 cases x with
 |fP=>
  cases rx
  have e':k=false:=e
  subst e'
  exact truthy_none ⟨H,I,q⟩
 |bl b=>
  cases rx
  have e':k=b:=e
  subst e'
  exact wpAny_truthy_bool ⟨H,I,q⟩
 |int i=>
  obtain⟨t,rfl⟩:=rx
  have e':k=(i !=0):=e
  subst e'
  exact PySem.P.truthy_int ⟨H,I,q⟩
 |str y=>
  obtain⟨t,rfl⟩:=rx
  obtain⟨hy,e'⟩:y.length<=sizeLine/\k=((y.length:Int) !=0):=e
  subst e'
  exact PySem.P.truthy_str (by omega) ⟨H,I.tok _,q⟩
 |JN y=>
  obtain⟨t,rfl⟩:=rx
  obtain⟨hy,e'⟩:y.size<=sizeLine/\k=((y.size:Int) !=0):=e
  subst e'
  exact PySem.W.truthy_bytes (by omega) ⟨H,I.tok _,q⟩
 |ref p=>
  cases rx
  have e':(∃xs,aV X.K H p xs/\k= !xs.isEmpty)∨(∃xs,qA X.K H p xs/\k= !xs.isEmpty)∨ ∃kvs,H p=some (.dK kvs)/\k= !kvs.isEmpty:=e
  rcases e' with⟨xs,hx,e'⟩|⟨xs,hx,e'⟩|⟨kvs,hx,e'⟩
  ·subst e'
   obtain⟨its,r,pl,hz⟩:=I.list hx
   have hlen:=r.length
   exact wpAny_truthy_list pl.isList (by simp only[List.size_toArray];omega) ⟨H,I.tok _,by rw[yj r];exact q⟩
  ·subst e'
   obtain⟨its,r,pl,hz⟩:=I.tuple hx
   have hlen:=r.length
   exact truthy_tuple pl (by simp only[List.size_toArray];omega) ⟨H,I.tok _,by rw[yj r];exact q⟩
  ·subst e'
   obtain⟨hz,hS,vs,r,m⟩:kvs.length<=sizeLine/\(p==sysModules)=false/\ ∃vs,KV kvs vs/\s.heap.DictOf (BI X.prog X.w) p vs:=I.hok p _ hx
   have hlen:kvs.length=vs.length:=Paired.length r
   exact wpAny_truthy_dict hS m (by omega) ⟨H,I.tok _,by rw[Gg r];exact q⟩
 |_=>exact(show False from e).elim
theorem MR(ha:PE X a ta)(he:∀whole,isTrue a X.env whole=(do let v<-whole;standAt a.pos;holding [v] (truthy v))):
  PT X a (λσ H Q=>ta σ H λx H'=> ∃k,Xo X.K x H' k/\Q k H'):=by
 intro pins s σ H Q I h
 exact isTrue_plain (gj (ha pins s σ H _ I h) λv s1 ⟨x,H1,I1,r1,q1⟩=>UY pins s1 σ H1 x v Q I1 r1 q1) (he _)
theorem jc:vD X (binaryOp .Add) (λx y H Q=> ∃i j,x= .str i/\y= .str j/\i.length+j.length<=sizeLine/\Q (.str (i++j)) H):=by
 intro pins s σ H x y v u Q I rx ry h
 obtain⟨i,j,rfl,rfl,hz,q⟩:=h
 obtain⟨t,rfl⟩:=rx
 obtain⟨t',rfl⟩:=ry
 exact add_str (λt' tk=>⟨.str (i++j),H,I.tok _,⟨_,rfl⟩,q⟩) hz
theorem vals1{x:V}{us:List Value}(r:Vals [x] us):∃u,us=[u]/\RelV x u:=by
 cases r with
 |cons r1 r2=>cases r2;exact⟨_,rfl,r1⟩
theorem uu:qC X (.builtin "abs") (λxs H Q=> ∃i,xs=[.int i]/\Q (.int (if i<0 then-i else i)) H):=by
 intro pins s σ H xs us Q I r h
 obtain⟨i,rfl,q⟩:=h
 obtain⟨u,rfl,t,rfl⟩:=vals1 r
 exact call_abs_int λu tk=>⟨.int (if i<0 then-i else i),H,I.tok _,⟨_,rfl⟩,q⟩
theorem rS:qC X (.type "int") (λxs H Q=>(∃i,xs=[.int i]/\Q (.int i) H)∨ ∃k,xs=[.bl k]/\Q (.int (if k then 1 else 0)) H):=by
 intro pins s σ H xs us Q I r h
 rcases h with⟨i,rfl,q⟩|⟨k,rfl,q⟩
 ·obtain⟨u,rfl,t,rfl⟩:=vals1 r
  exact call_int_int ⟨.int i,H,I,⟨_,rfl⟩,q⟩
 ·obtain⟨u,rfl,r1⟩:=vals1 r
  cases r1
  exact call_int_bool ⟨.int (if k then 1 else 0),H,I.tok _,⟨_,rfl⟩,q⟩
end
structure UZ(h:Heap)(x dx C:Addr)(mA:Str->Option Value):Prop where
 obj:h.get? x=some (PySem.W.instObj C dx)
 ns:h.Ns1 dx mA
 ne:dx≠x
theorem JV{h:Heap}{dx:Addr}{mA:Str->Option Value}(n:h.Ns1 dx mA):∃od,h.get? dx=some od/\ ∀name,PySem.W.lookIn name od=some (mA name):=by
 obtain⟨o,es,ep,ho,hd,hk,_,hm⟩:=n
 refine⟨o,ho,λname=> ?_⟩
 have e:=hm name
 unfold nsFind findBy at e
 rw[<-Array.find?_toList]at e
 unfold PySem.W.lookIn
 rw[hd]
 dsimp only
 split
 ·rename_i y q
  rw[q]at e
  exact congrArg some e
 ·rename_i q
  rw[q]at e
  have a:es.toList.any (·.refKey)=false:=by
   rw[List.any_eq_false]
   intro y hy
   obtain⟨z,t,hkey⟩:=hk y (Array.mem_toList_iff.mp hy)
   simp[DictEntry.refKey,hkey]
  have a':¬es.toList.any (·.refKey)=true:=by rw[a];exact Bool.false_ne_true
  rw[if_neg a']
  exact congrArg some e
theorem UZ.look{h:Heap}{x dx C:Addr}{mA:Str->Option Value}(I:UZ h x dx C mA):∃od,PySem.W.InstAt h x (PySem.W.instObj C dx) C (some od)/\ ∀name,PySem.W.lookIn name od=some (mA name):=
 let⟨od,ho,hl⟩:=JV I.ns
 ⟨od,⟨I.obj,rfl,rfl,ho⟩,hl⟩
section
variable{prog:Program}{w:World}{A:Around}{E:Value->Shared->Prop}{s:Shared}{K:PySem.W.Frag}{x dx C f:Addr}{mA:Str->Option Value}{name:Str}{v:Value}
end
section
variable{P:Program}{w:World}{H H':Hp}{h h':Heap}{a C dx:Addr}{fs fs':List (Str×V)}
theorem Rl(hok:vE P w H h)(e:H a=some (.ins C dx fs)):∃mA,UZ h a dx C mA/\(∀f,UL (fs.lookup f) (mA f))/\PySem.Within mA (fs.map (·.1))/\fs.length<=1000/\H dx=some (.own a):=by
 obtain⟨d,z,ne,ob,mA,n,r,q⟩:=(show fX P w H h a (.ins C dx fs)from hok a _ e)
 exact⟨mA,⟨ob,n,ne⟩,r,q,z,d⟩
end
structure ZY(K:PySem.W.Frag)(C:Addr):Prop where
 pg:PySem.W.plainGet K C Str.empty=true
 hd:PySem.W.hasDictIn K C=true
 po:PySem.W.plainOver K C=true
 sa:PySem.W.findIn K (.ref C) "__setattr__"=some (some (.builtin "object.__setattr__"))
theorem ZY.get{K:PySem.W.Frag}{C:Addr}(c:ZY K C)(f:Str):PySem.W.plainGet K C f=true:=c.pg
section
variable{X:Cx}{pins:List (Addr×Obj)}{σ:St}{H:Hp}{s:Shared}{a C dx:Addr}{fs:List (Str×V)}{f:Str}{v:V}{A:Around}{E:Value->Shared->Prop}
end
section
variable{X:Cx}{o e value:Expr}{f:Str}{pos pos' tpos:Pos}{ta tv:TE}
end
section
variable{X:Cx}{pins:List (Addr×Obj)}{σ:St}{H:Hp}{s:Shared}{A:Around}{E:Value->Shared->Prop}{Q:Value->Shared->Prop}{c:Value}{b:Bool}
inductive uv(K:PySem.W.Frag)(H:Hp):V->Value->Prop where
 |fP:uv K H .fP (.type "NoneType")
 |bl(x:Bool):uv K H (.bl x) (.type "bool")
 |int(i:Int):uv K H (.int i) (.type "int")
 |str(x:Str):uv K H (.str x) (.type "str")
 |JO(x:UInt64):uv K H (.JO x) (.type "float")
 |lst{a:Addr}{xs:List V}(e:H a=some (.lst xs)):uv K H (.ref a) (.type "list")
 |AY{a:Addr}{o:Obj}{xs:List V}(e:H a=some (.AY o (.lst xs))):uv K H (.ref a) (.type "list")
 |tup{a:Addr}{xs:List V}(e:H a=some (.tup xs)):uv K H (.ref a) (.type "tuple")
 |dK{a:Addr}{kvs:List (Key×V)}(e:H a=some (.dK kvs)):uv K H (.ref a) (.type "dict")
 |dT{a:Addr}{kvs:List (List Key×V)}(e:H a=some (.dT kvs)):uv K H (.ref a) (.type "dict")
 |ins{a C dx:Addr}{fs:List (Str×V)}(e:H a=some (.ins C dx fs))(cl:ZY K C)(ha:PySem.W.findIn K (.ref C) "__class__"=some (some (.builtin "object.__class__")))
   (hn:PySem.W.specialIn K (.builtin "object.__class__") "__get__"=some (some (.builtin "getset_descriptor.__get__"))) (htk:PySem.W.takesIn K (.builtin "object.__class__")=some true)
   (hm:PySem.W.mroIn K C (.type "object")=some true):uv K H (.ref a) (.ref C)
theorem JX{x:V}{u t:Value}(I:Inv X pins σ H s)(rx:RelV x u)(ty:uv X.K H x t)(e:PySem.W.kitOne X.K t c=some b)(h:∀tk,Q (.bool b) {s with toks:=tk}):
  wpAny (model X.prog X.w) A (call (.builtin "isinstance") [u,c]) Q E s:=by
 cases ty with
 |fP=>cases(show u=Value.none from rx);exact PySem.W.kia_one PySem.W.kitx_none I.xh True.intro e (λz=>nomatch z) h
 |bl y=>cases(show u=Value.bool y from rx);exact PySem.W.kia_one PySem.W.kitx_bool I.xh True.intro e (λz=>nomatch z) h
 |int i=>obtain⟨t,q⟩:=(show ∃t,u=Value.int i t from rx);cases q;exact PySem.W.kia_one PySem.W.kitx_int I.xh True.intro e (λz=>nomatch z) h
 |str y=>obtain⟨t,q⟩:=(show ∃t,u=Value.str y t from rx);cases q;exact PySem.W.kia_one PySem.W.kitx_str I.xh True.intro e (λz=>nomatch z) h
 |JO y=>obtain⟨t,q⟩:=(show ∃t,u=Value.float y t from rx);cases q;exact PySem.W.kia_one PySem.W.kitx_float I.xh True.intro e (λz=>nomatch z) h
 | @lst a xs ea=>
  cases(show u=Value.ref a from rx)
  obtain⟨_,_,n,_,h1⟩:=(show fX X.prog X.w H s.heap a (.lst xs)from I.hok a _ ea)
  exact PySem.W.kia_one PySem.W.kitx_list I.xh ⟨_,h1,rfl⟩ e (λz=>nomatch z) h
 | @AY a ob xs ea=>
  cases(show u=Value.ref a from rx)
  obtain⟨_,_,_,n,_,h1⟩:=(show fX X.prog X.w H s.heap a (.AY ob (.lst xs))from I.hok a _ ea)
  exact PySem.W.kia_one PySem.W.kitx_list I.xh ⟨_,h1,rfl⟩ e (λz=>nomatch z) h
 | @tup a xs ea=>
  cases(show u=Value.ref a from rx)
  obtain⟨_,_,_,p⟩:=(show fX X.prog X.w H s.heap a (.tup xs)from I.hok a _ ea)
  obtain⟨o,h1,h2,_⟩:=p
  exact PySem.W.kia_one PySem.W.kitx_tuple I.xh ⟨o,h1,h2⟩ e (λz=>nomatch z) h
 | @dK a kvs ea=>
  cases(show u=Value.ref a from rx)
  obtain⟨_,_,vs,_,p⟩:=(show fX X.prog X.w H s.heap a (.dK kvs)from I.hok a _ ea)
  obtain⟨o,es,ep,h1,h2,_⟩:=p
  exact PySem.W.kia_one PySem.W.kitx_dict I.xh ⟨o,h1,h2.1⟩ e (λz=>nomatch z) h
 | @dT a kvs ea=>
  cases(show u=Value.ref a from rx)
  obtain⟨_,_,xs,_,o,es,ep,h1,h2,_⟩:=(show fX X.prog X.w H s.heap a (.dT kvs)from I.hok a _ ea)
  exact PySem.W.kia_one PySem.W.kitx_dict I.xh ⟨o,h1,h2.1⟩ e (λz=>nomatch z) h
 | @ins a C dx fs ea cl ha hn htk hm=>
  cases(show u=Value.ref a from rx)
  obtain⟨mA,O,_⟩:=Rl I.hok ea
  obtain⟨od,J,_⟩:=O.look
  exact PySem.W.kia_one (PySem.W.kitx_own (cl.get _) cl.hd ha hn htk hm) I.xh J e (λz=>nomatch z) h
end
structure gr(k:Nat)(A:Around):Prop where
 hd:A.handled=none
 dp:A.depth+3*k+5<recursionLimit
 un:A.units+16*k+200<cLine
theorem gr.mono{j k:Nat}{A:Around}(r:gr k A)(h:j<=k):gr j A:=⟨r.hd,by have:=r.dp;omega,by have:=r.un;omega⟩
theorem gr.deeper{k:Nat}{A:Around}(r:gr (k+1) A)(env:Env):gr k (A.deeper env):=
 ⟨r.hd,by have:=r.dp;show A.depth+1+3*k+5<_;omega,by have:=r.un;show A.units+3+16*k+200<_;omega⟩
theorem gr.depth{k:Nat}{A:Around}(r:gr k A):A.depth<recursionLimit:=by have:=r.dp;omega
theorem gr.units{k:Nat}{A:Around}(r:gr k A):A.units+64<cLine:=by have:=r.un;omega
def lS:TA:=λ_ H Q=>Q [] H
def eE(ta:TE)(tr:TA):TA:=λσ H Q=>ta σ H λx H1=>tr σ H1 λxs H2=>Q (x::xs) H2
section
variable{X:Cx}{e:Expr}{es:List Expr}{te:TE}{t:TA}{pos:Pos}
theorem ao:PA X [] lS:=λ_ _ _ _ H Q I h=>Calls.spliced_nil ⟨[],H,I,.nil,h⟩
theorem ah(ha:PE X e te)(hr:PA X es t)(hs:starEach (e::es) X.env=(false,eval e X.env)::starEach es X.env:=by rfl):PA X (e::es) (eE te t):=by
 intro pos pins s σ H Q I h
 rw[hs]
 show wpAny _ _ (spliced ((false,eval e X.env)::backTo pos (starEach es X.env))) _ _ s
 refine Calls.spliced_cons (gj (ha pins s σ H _ I h) λu s1 ⟨x,H1,I1,r1,q1⟩=> ?_)
 exact gj (hr pos pins s1 σ H1 _ I1 q1) λus s2 ⟨xs,H2,I2,r2,q2⟩=>⟨x::xs,H2,I2,.cons r1 r2,q2⟩
def Xp(t:TA):TE:=λσ H Q=>t σ H λxs H1=>xs.length<=sizeLine/\ ∀p,H1 p=none->Q (.ref p) (upd H1 p (.tup xs))
def Xq(t:TA):TE:=λσ H Q=>t σ H λxs H1=>xs.length<=sizeLine/\ ∀p,H1 p=none->Q (.ref p) (upd H1 p (.lst xs))
theorem sS{x1}(h:PA X es t):PE X (.Tuple es x1 pos) (Xp t):=by
 intro pins s σ H Q I hq
 refine wpAny_Tuple_spliced (gj (h pos pins s σ H _ I hq) λus s1 ⟨xs,H1,I1,r,z,q⟩=>⟨by rw[<-r.length];exact z,?_⟩)
 have hf:H1 s1.heap.objs.size=none:=I1.hok.fresh (Nat.le_refl _)
 refine⟨.ref s1.heap.objs.size,upd H1 s1.heap.objs.size (.tup xs),I1.laid (t':=s1.toks) (λb u e=>Heap.get?_push_of_some _ e) (Nat.le_refl _) ?_,rfl,q _ hf⟩
 exact⟨z,us,r,⟨_,Heap.get?_push_size _ rfl,rfl,_,rfl⟩⟩
theorem gD(h:PA X es t):PE X (.List es pos) (Xq t):=by
 intro pins s σ H Q I hq
 refine wpAny_List_spliced (gj (h pos pins s σ H _ I hq) λus s1 ⟨xs,H1,I1,r,z,q⟩=>⟨by rw[<-r.length];exact z,?_⟩)
 have hf:H1 s1.heap.objs.size=none:=I1.hok.fresh (Nat.le_refl _)
 refine⟨.ref s1.heap.objs.size,upd H1 s1.heap.objs.size (.lst xs),I1.laid (t':=s1.toks) (λb u e=>Heap.get?_push_of_some _ e) (Nat.le_refl _) ?_,rfl,q _ hf⟩
 exact⟨z,us,0,r,Heap.get?_push_size _ rfl⟩
end
abbrev Sp:=List V->Hp->VK->XK->Prop
abbrev Gh:=List Env->Hp->Shared->XK->Value->Shared->Prop
structure JY(P:Program)(w:World)(K:PySem.W.Frag)(mg:Str->Option Value)(base:Heap)(A:Around)(outer:List Env)(s:Shared)(H:Hp):Prop where
 frames:A.frames=some outer
 mod:Mod K mg base
 bs:∀b o,base.get? b=some o->s.heap.get? b=some o/\H b=none
 ID:base.objs.size<=s.heap.objs.size
 sr:s.heap.FunFrames base outer
 QN:∀b∈frs outer,H b=none
 hok:vE P w H s.heap
 bare:AllBare s.gens
def CE(outer:List Env)(P:Program)(w:World)(H:Hp)(s:Shared)(Q:VK)(u:Value)(s':Shared):Prop:=
 ∃v H',s'.os=s.os/\Mw s.gens s'.gens/\Un (frs outer) [] H H' s.heap s'.heap/\vE P w H' s'.heap/\RelV v u/\Q v H'
def CR(CX:Gh)(outer:List Env)(P:Program)(w:World)(H:Hp)(s:Shared)(Q:VK)(E:XK)(r:Result)(s':Shared):Prop:=
 match r with
 | .ok (.ret u)=>CE outer P w H s Q u s'
 | .ok _=>False
 | .error e=>CX outer H s E e s'
structure qD(P:Program)(w:World)(K:PySem.W.Frag)(mg:Str->Option Value)(base:Heap)(CX:Gh)(k:Nat)(f:Addr)(fd:FuncData)(ps:List Str)(sp:Sp):Prop where
 len:∀vs H Q E,sp vs H Q E->vs.length=ps.length
 run:∀(A:Around)(outer:List Env)(s:Shared)(H:Hp)(args:Args)(us:List Value)(vs:List V)(Q:VK)(E:XK),gr k A->JY P w K mg base A outer s H->BindsTo s fd args (ps.zip us) ->Vals vs us->sp vs H Q E->
  codeAny (model P w) A (.call (.ref f) args) (CR CX outer P w H s Q E) s
theorem qD.mono{P:Program}{w:World}{K:PySem.W.Frag}{mg:Str->Option Value}{base:Heap}{CX:Gh}{j k:Nat}{f:Addr}{fd:FuncData}{ps:List Str}{sp:Sp}(F:qD P w K mg base CX j f fd ps sp)(h:j<=k):
  qD P w K mg base CX k f fd ps sp:=⟨F.len,λA outer s H args us vs Q E hr=>F.run A outer s H args us vs Q E (hr.mono h)⟩
section
variable{X:Cx}{pins:List (Addr×Obj)}{σ:St}{H:Hp}{s s':Shared}
theorem Inv.Va(I:Inv X pins σ H s):JY X.prog X.w X.K X.mg X.base X.A X.stack s H:=
 ⟨I.ok.frames,I.ok.mod,I.bs,Nat.le_trans I.ok.ID I.sz,I.stack,I.uq,I.hok,I.bare.bare⟩
theorem Inv.after{Q:VK}{u:Value}(I:Inv X pins σ H s)(h:CE X.stack X.prog X.w H s Q u s'):EP X pins σ Q u s':=by
 obtain⟨v,H',os,bare,un,hok,r,q⟩:=h
 obtain⟨hh,g,d,t,os'⟩:=s'
 obtain rfl:os'=s.os:=os
 exact⟨v,H',I.call (h':=hh) (g':=g) (d':=d) (t':=t) (ch:=[]) un hok bare (λb z=>absurd z (by simp)),r,q⟩
end
def qm(sp:Sp)(Up:List V)(E:XK)(t:TA):TE:=λσ H Q=>t σ H λvs H1=>sp (vs++Up) H1 Q E
def Binds(K:PySem.W.Frag)(fd:FuncData)(ps:List Str)(ds:List Value):Prop:=
 ∀(s:Shared)(us:List Value),K.In s.heap->(us++ds).length=ps.length->BindsTo s fd ⟨us,[]⟩ (ps.zip (us++ds))
theorem Binds.all{K:PySem.W.Frag}{fd:FuncData}{ps:List Str}(h:∀us:List Value,us.length=ps.length->bindArgs fd ⟨us,[]⟩=pure (ps.zip us)):Binds K fd ps []:=λs us _ hl=>by
 rw[List.append_nil]at hl ⊢
 exact .of_eq (h us hl)
def Passes(CX:Gh)(X:Cx)(E:XK):Prop:=∀(pins:List (Addr×Obj))(σ:St)(H:Hp)(s:Shared)(e:Value)(s':Shared),Inv X pins σ H s->CX X.stack H s E e s'->X.xe e s'
section
variable{X:Cx}{CX:Gh}{k:Nat}{f C:Addr}{fd:FuncData}{ps:List Str}{sp:Sp}{Up:List V}{ds:List Value}{E:XK}{x m:Str}{p pos apos:Pos}{e o:Expr}{es:List Expr}{ta:TE}{t:TA}
theorem Vb{pins:List (Addr×Obj)}{σ:St}{H:Hp}{s:Shared}{Q:VK}{us:List Value}{vs:List V}(F:qD X.prog X.w X.K X.mg X.base CX k f fd ps sp)(hr:gr k X.A)(hb:Binds X.K fd ps ds)(hd:Vals Up ds)(hx:Passes CX X E)
  (I:Inv X pins σ H s)(r:Vals vs us)(h:sp (vs++Up) H Q E):wpAny (model X.prog X.w) X.A (call (.ref f) us) (EP X pins σ Q) X.xe s:=by
 have r2:Vals (vs++Up) (us++ds):=r.append hd
 have hl:(us++ds).length=ps.length:=by rw[<-r2.length];exact F.len _ _ _ _ h
 refine wpAny_call (codeAny_mono (F.run X.A X.stack s H ⟨us,[]⟩ (us++ds) (vs++Up) Q E hr I.Va (hb s us I.xh hl) r2 h) λr s' hq=> ?_)
 cases r with
 |error e=>exact hx pins σ H s e s' I hq
 |ok fl=>
  cases fl with
  |ret u=>exact I.after hq
  |next=>exact False.elim hq
  |brk=>exact False.elim hq
  |cont=>exact False.elim hq
theorem Rm(F:qD X.prog X.w X.K X.mg X.base CX k f fd ps sp)(hr:gr k X.A)(hg:Gl X x)(hm:X.mg x=some (.ref f))(hk:PySem.W.keepIn X.K (.ref f)=true)(hb:Binds X.K fd ps ds)(hd:Vals Up ds)(hx:Passes CX X E)
  (ha:PA X (e::es) t)(hdb:(x==("__debug__":Str))=false:=by decide)(he:starEach (e::es) X.env=(false,eval e X.env)::starEach es X.env:=by rfl)(hpl:(backTo pos (starEach es X.env)).any (·.1)=false:=by rfl):
  PE X (.Call (.Name x p) (e::es) [] pos) (qm sp Up E t):=by
 intro pins s σ H Q I h
 refine wpAny_Call_Name_kw (rR I hg hm ?_ hdb)
 refine PySem.W.callWith_K (h₀:=X.base) I.ok.mod.BJ hk (gj (ha pos pins s σ H _ I h) λus s1 ⟨vs,H1,I1,r,q⟩=>⟨I1.xh,?_⟩) he hpl
 exact Vb F hr hb hd hx I1 r q
end
section
variable{X:Cx}{CX:Gh}{k:Nat}{f C:Addr}{fd:FuncData}{ps ks:List Str}{sp:Sp}{E:XK}{x m:Str}{p pos apos kpos:Pos}{e o:Expr}{es:List Expr}{kws:List Keyword}{te ta:TE}{t tk:TA}{nm:Option Str}
variable{g:List Value->List Value->List Value}{gV:List V->List V->List V}
end
structure aP(N P:List Str)(sc:Scope):Prop where
 kind:sc.kind= .function
 co:sc.isCoroutine=false
 gen:sc.isGenerator=false
 nd:N.Nodup
 pre:N.take P.length=P
 par:∀x∈P,sc.names.lookup x=some .local∨sc.names.lookup x=some .cell
 Vc:∀y∈sc.names,y.2≠ .free
theorem Bc{kindOf:Str->Option NameKind}{x:Str}:∀{binds:List (Str×Value)}{m:Str->Option Value},(∀v,(x,v)∉binds) ->bindL kindOf binds m x=m x
 | [],_,_=>rfl
 |(n,v)::r,m,h=>by
  unfold bindL
  rw[Bc λw hw=>h w (List.mem_cons_of_mem _ hw)]
  split
  ·have:x≠n:=by rintro rfl;exact h v List.mem_cons_self
   simp[this]
  ·rfl
theorem Be{kindOf:Str->Option NameKind}{x:Str}:∀{binds:List (Str×Value)}{m:Str->Option Value},(∀v,(x,v)∉binds) ->bindC kindOf binds m x=m x
 | [],_,_=>rfl
 |(n,v)::r,m,h=>by
  unfold bindC
  rw[Be λw hw=>h w (List.mem_cons_of_mem _ hw)]
  split
  ·rfl
  ·have:x≠n:=by rintro rfl;exact h v List.mem_cons_self
   simp[this]
theorem Bf{kindOf:Str->Option NameKind}{x:Str}{v:Value}:∀{P:List Str}{vs:List Value}{i:Nat}{m:Str->Option Value},P.Nodup->P[i]?=some x->vs[i]?=some v->kindOf x=some .local->
  bindL kindOf (P.zip vs) m x=some v
 | [],_,_,_,_,h,_,_=>by simp at h
 |_::_,[],_,_,_,_,h,_=>by simp at h
 |p::P,w::vs,0,m,nd,h1,h2,hk=>by
  simp at h1 h2;subst h1;subst h2
  show bindL kindOf ((p,w)::P.zip vs) m p=_
  unfold bindL
  rw[Bc λv hv=>(List.nodup_cons.mp nd).1 (List.of_mem_zip hv).1,if_pos hk]
  simp
 |p::P,w::vs,i+1,m,nd,h1,h2,hk=>by
  show bindL kindOf ((p,w)::P.zip vs) m x=_
  unfold bindL
  exact Bf (i:=i) (List.nodup_cons.mp nd).2 (by simpa using h1) (by simpa using h2) hk
theorem Bg{kindOf:Str->Option NameKind}{x:Str}{v:Value}:∀{P:List Str}{vs:List Value}{i:Nat}{m:Str->Option Value},P.Nodup->P[i]?=some x->vs[i]?=some v->kindOf x≠some .local->
  bindC kindOf (P.zip vs) m x=some v
 | [],_,_,_,_,h,_,_=>by simp at h
 |_::_,[],_,_,_,_,h,_=>by simp at h
 |p::P,w::vs,0,m,nd,h1,h2,hk=>by
  simp at h1 h2;subst h1;subst h2
  show bindC kindOf ((p,w)::P.zip vs) m p=_
  unfold bindC
  rw[Be λv hv=>(List.nodup_cons.mp nd).1 (List.of_mem_zip hv).1,if_neg hk]
  simp
 |p::P,w::vs,i+1,m,nd,h1,h2,hk=>by
  show bindC kindOf ((p,w)::P.zip vs) m x=_
  unfold bindC
  exact Bg (i:=i) (List.nodup_cons.mp nd).2 (by simpa using h1) (by simpa using h2) hk
def start(N:List Str)(vs:List V):St:=vs.map some++List.replicate (N.length-vs.length) none
def qx(CX:Gh)(P:Program)(w:World)(K:PySem.W.Frag)(mg:Str->Option Value)(base:Heap)(N:List Str)(qual:Str)(scope:Scope)(f:Addr)(cd:Value)(A:Around)(outer:List Env)(s:Shared)(H:Hp)(E:XK):Cx where
 prog:=P
 w:=w
 K:=K
 mg:=mg
 base:=base
 A:=A.deeper (envOfC qual scope s.heap.objs.size f cd)
 N:=N
 s₀:=s
 H₀:=H
 env:=envOfC qual scope s.heap.objs.size f cd
 outer:=outer
 stack:=envOfC qual scope s.heap.objs.size f cd::outer
 ex:=[]
 calm:=true
 fn:=λ_=>true
 pn:=[]
 xe:=λe s'=>wpAny (model P w) (A.deeper (envOfC qual scope s.heap.objs.size f cd)) (leaving (envOfC qual scope s.heap.objs.size f cd) e) (λ_ s''=>CX outer H s E e s'') (λe' s''=>CX outer H s E e' s'') s'
theorem DM{sc:Scope}{n:Nat}{x:Str}(h:sc.names.lookup x=some .cell):∃c,(cellsFrom n sc.names []).lookup x=some c:=by
 have q:=PySem.W.cellsFrom_some sc.names n [] (.inl h)
 exact Option.isSome_iff_exists.mp q
theorem Bh{CX:Gh}{P:Program}{w:World}{K:PySem.W.Frag}{mg:Str->Option Value}{base:Heap}{N ps:List Str}{qual:Str}{scope:Scope}{f:Addr}{cd:Value}{A:Around}{outer:List Env}{s s1:Shared}{H:Hp}{E:XK}{us:List Value}{vs:List V}
  (S:aP N ps scope)(hd:A.handled=none)(e0:JY P w K mg base A outer s H)(hl:vs.length=ps.length)(r:Vals vs us)
  (x:InCallC s s.heap.objs.size (bindL (envOfC qual scope s.heap.objs.size f cd).kindOf (ps.zip us) λ_=>none) (cellsFrom (s.heap.objs.size+1) scope.names []) (bindC (envOfC qual scope s.heap.objs.size f cd).kindOf (ps.zip us) λ_=>none) s1):
  Inv (qx CX P w K mg base N qual scope f cd A outer s H E) [] (start N vs) H s1:=by
 have hpl:ps.length<=N.length:=by have:=congrArg List.length S.pre;rw[List.length_take]at this;omega
 obtain⟨h1,tk,rfl,hk⟩:=x.done
 have ZZ:∀b:Addr,b∉(qx CX P w K mg base N qual scope f cd A outer s H E).ex:=λb z=>absurd (show b∈([]:List Addr)from z) (by simp)
 refine⟨⟨e0.mod,S.kind,rfl,rfl,Nat.le_refl _,λy z c h1 h2=> ?_,λy hy=> ?_,λy c _ h=> ?_,λ_=>hd,Around.frames_deeper e0.frames,.inr ⟨rfl,rfl⟩,λb z=>absurd z (ZZ b),e0.bs,e0.ID,λb _ _=>ZZ b,λb z=>absurd z (ZZ b),e0.sr,e0.QN⟩,
  rfl,.refl e0.bare,Un.kept hk,⟨_,x.toInCall.ns,λi y v h1 h2 h3=> ?_⟩,λy c h=>⟨_,x.cell y c h⟩,e0.hok.fresh (Nat.le_refl _),λy c h=> ?_,λp hp=>absurd (show p∈([]:List (Addr×Obj))from hp) (by simp),e0.hok.kept hk,?_⟩
 ·exact name_of_addr x.apart (PySem.mem_of_lookup h1) (PySem.mem_of_lookup h2)
 ·have hy:scope.names.lookup y=some .cell∨scope.names.lookup y=some .free:=hy
  rcases hy with hy|hy
  ·exact DM hy
  ·exact absurd rfl (S.Vc _ (PySem.mem_of_lookup hy))
 ·exact Nat.le_of_lt (x.above y c (PySem.mem_of_lookup h))
 ·have hi:i<vs.length:=by
   unfold start at h2
   by_cases hi:i<vs.length
   ·exact hi
   ·rw[List.getElem?_append_right (by simpa using hi)]at h2
    rw[List.getElem?_replicate]at h2
    split at h2<;>cases h2
  have ha:vs[i]?=some v:=by
   unfold start at h2
   rw[List.getElem?_append_left (by simpa using hi),List.getElem?_map]at h2
   cases e:vs[i]? with
   |none=>rw[e]at h2;cases h2
   |some a=>rw[e]at h2;cases h2;rfl
  obtain⟨u,hu,rv⟩:=r.get ha
  have hp:ps[i]?=some y:=by
   rw[<-S.pre,List.getElem?_take_of_lt (by omega)];exact h1
  have ndP:ps.Nodup:=by rw[<-S.pre];exact S.nd.sublist (List.take_sublist _ _)
  refine⟨u,rv,?_⟩
  rcases S.par y (List.mem_of_getElem? hp)with k|k
  ·exact .inl ⟨k,Bf ndP hp hu k⟩
  ·obtain⟨c,e⟩:=DM (n:=s.heap.objs.size+1) k
   refine .inr ⟨.inl k,c,e,?_⟩
   have q:=x.cell y c e
   rw[Bg ndP hp hu (by show scope.names.lookup y≠_;rw[k];decide)]at q
   exact q
 ·exact e0.hok.fresh (Nat.le_of_lt (x.above y c (PySem.mem_of_lookup h)))
 ·unfold start
  show _=N.length
  rw[List.length_append,List.length_map,List.length_replicate]
  omega
theorem MS{CX:Gh}{P:Program}{w:World}{K:PySem.W.Frag}{mg:Str->Option Value}{base:Heap}{k:Nat}{f:Addr}{name qual:Str}{params:Arguments}{body:List Stmt}{scope:Scope}{dV kV doc pm cdv ct oc:Value}{an od:Option Addr}
  {osl:Array (Option Value)}{N ps:List Str}{sp:Sp}(lk:K.lookup f=some ⟨oc,od,.func (PySem.W.fnOf name qual params body scope dV kV doc pm an cdv ct),osl⟩)(hcd:PySem.W.codeIn K cdv qual=true)(S:aP N ps scope)
  (len:∀vs H Q E,sp vs H Q E->vs.length=ps.length)
  (hbody:∀(A:Around)(outer:List Env)(s:Shared)(H:Hp)(vs:List V)(Q:VK)(E:XK),gr k (A.deeper (envOfC qual scope s.heap.objs.size f cdv)) ->sp vs H Q E->
   ∃t,vC (qx CX P w K mg base N qual scope f cdv A outer s H E) body t/\t {nx:=λ_ H'=>Q .fP H',rt:=Q} (start N vs) H):
  qD P w K mg base CX (k+1) f (PySem.W.fnOf name qual params body scope dV kV doc pm an cdv ct) ps sp:=by
 refine⟨len,λA outer s H args us vs Q E hr e0 hb r Gi=> ?_⟩
 have hl:=len _ _ _ _ Gi
 have KX:K.In s.heap:=e0.mod.BJ.keeps λb o e=>(e0.bs b o e).1
 have lim:s.heap.NoLimit:=e0.mod.nolimit.keeps λb o e=>(e0.bs b o e).1
 have hkind:∀y∈ps.zip us,scope.names.lookup y.1=some .local∨(scope.names.lookup y.1=some .cell/\((cellsFrom (s.heap.objs.size+1) scope.names []).lookup y.1).isSome=true):=λ ⟨n,v⟩ hy=>by
  rcases S.par n (List.of_mem_zip hy).1 with q|q
  ·exact .inl q
  ·exact .inr ⟨q,PySem.W.cellsFrom_some _ _ _ (.inl q)⟩
 refine codeAny_call_function hr.depth (KX _ _ lk) rfl S.co S.gen rfl (PySem.W.codeRec_of KX hcd) (hb _ _ _ _ ?_)
 refine wpAny_newFunctionEnv_cells S.kind hkind λenv he s1 x=> ?_
 subst he
 refine⟨lim.keeps x.toInCall.keep,codeAny_func ?_⟩
 obtain⟨t,ht,hq⟩:=hbody A outer s H vs Q E (hr.deeper _) Gi
 have I:Inv (qx CX P w K mg base N qual scope f cdv A outer s H E) [] (start N vs) H s1:=Bh S hr.hd e0 hl r x
 refine wpAny_mono (ht [] s1 (start N vs) H _ I hq) (λfl s' hs=> ?_) λe s' hs=>hs
 have fin:∀{σ':St}{H':Hp}{v:V}{u:Value},Inv (qx CX P w K mg base N qual scope f cdv A outer s H E) [] σ' H' s'->RelV v u->Q v H'->CE outer P w H s Q u s':=
  λ {σ' H' v u} J rv q=>⟨v,H',J.os,J.bare,J.base,J.hok,rv,q⟩
 cases fl with
 |ret u=>
  obtain⟨v,σ',H',J,rv,q⟩:=hs
  exact fin J rv q
 |next=>
  obtain⟨σ',H',J,q⟩:=hs
  exact fin (v:=V.fP) (u:=Value.none) J rfl q
 |brk=>
  obtain⟨_,_,_,q⟩:=hs
  exact False.elim q
 |cont=>
  obtain⟨_,_,_,q⟩:=hs
  exact False.elim q
section
variable{X:Cx}{x:Str}{p pos:Pos}{e:Expr}{es:List Expr}{t:TA}{id T:String}{r:List V->Hp->VK->Prop}
def QS(r:List V->Hp->VK->Prop)(t:TA):TE:=λσ H Q=>t σ H λvs H1=>r vs H1 Q
theorem bV(hc:qC X (.builtin id) r)(hg:Gl X x)(hm:X.mg x=none)(hv:bootBuiltins x=some (.builtin id))(ha:PA X (e::es) t)(hn:x≠ "__name__":=by decide)(hdb:(x==("__debug__":Str))=false:=by decide)
  (he:starEach (e::es) X.env=(false,eval e X.env)::starEach es X.env:=by rfl)(hpl:(backTo pos (starEach es X.env)).any (·.1)=false:=by rfl):PE X (.Call (.Name x p) (e::es) [] pos) (QS r t):=by
 intro pins s σ H Q I h
 refine wpAny_Call_Name_kw (lQ I hg hm hv ?_ hn hdb)
 exact PyProof.Rows.callWith_builtin1 (gj (ha pos pins s σ H _ I h) λus s1 ⟨vs,H1,I1,r1,q1⟩=>hc pins s1 σ H1 vs us Q I1 r1 q1) he hpl
theorem fQ(hc:qC X (.type T) r)(hg:Gl X x)(hm:X.mg x=none)(hv:bootBuiltins x=some (.type T))(ha:PA X (e::es) t)(hn:x≠ "__name__":=by decide)(hdb:(x==("__debug__":Str))=false:=by decide)
  (he:starEach (e::es) X.env=(false,eval e X.env)::starEach es X.env:=by rfl)(hpl:(backTo pos (starEach es X.env)).any (·.1)=false:=by rfl):PE X (.Call (.Name x p) (e::es) [] pos) (QS r t):=by
 intro pins s σ H Q I h
 refine wpAny_Call_Name_kw (lQ I hg hm hv ?_ hn hdb)
 exact PyProof.Rows.callWith_type1 (gj (ha pos pins s σ H _ I h) λus s1 ⟨vs,H1,I1,r1,q1⟩=>hc pins s1 σ H1 vs us Q I1 r1 q1) he hpl
end
end L2
namespace HT
open PySem PyProof.Rows
section
open PySem.SeqAt
open PySem.AutoSeq1 (wpAny_loadPart')
open PySem.MeetsSeq PySem.MeetsSeq2 PySem.MeetsSeq3
end
section
variable{prog:Program}{w:World}{A:Around}{E:Value->Shared->Prop}{s:Shared}
def Gj(n d:Nat):Option Int->Nat
 |none=>d
 |some v=>if v<0 then(v+(n:Int)).toNat else min v.toNat n
end
end HT
namespace L2
open PySem PySem.Spec PyProof.Rows
abbrev TO:=St->Hp->(Option Int->Hp->Prop) ->Prop
def PO(X:Cx)(e:Option Expr)(t:TO):Prop:=
 ∀(pins:List (Addr×Obj))(s:Shared)(σ:St)(H:Hp)(Q:Option Int->Hp->Prop),Inv X pins σ H s->t σ H Q->
  wpAny (model X.prog X.w) X.A (evalPart e X.env) (λu s'=> ∃o H',Inv X pins σ H' s'/\IsPart u o/\Q o H') X.xe s
def Rn:TO:=λ_ H Q=>Q none H
def Xr(t:TE):TO:=λσ H Q=>t σ H λx H1=> ∃i,x= .int i/\Q (some i) H1
section
variable{X:Cx}{e:Expr}{te:TE}{lo hi:Option Expr}{tl th:TO}{pos p2:Pos}
theorem Ro:PO X none Rn:=by
 intro pins s σ H Q I h
 rw[evalPart_none]
 exact wpAny_pure ⟨none,H,I,.none,h⟩
theorem Rp(h:PE X e te):PO X (some e) (Xr te):=by
 intro pins s σ H Q I hw
 rw[evalPart_some]
 refine gj (h pins s σ H _ I hw) λu s1 ⟨x,H1,I1,r1,q1⟩=> ?_
 obtain⟨i,rfl,q⟩:=q1
 obtain⟨t,rfl⟩:=r1
 exact⟨some i,H1,I1,.int i t,q⟩
def SlR(X:Cx)(r:V->Option Int->Option Int->Hp->VK->Prop):Prop:=
 ∀(pins:List (Addr×Obj))(s:Shared)(σ:St)(H:Hp)(x:V)(v vl vu:Value)(lo hi:Option Int)(sl:Addr)(Q:VK),Inv X pins σ H s->RelV x v->s.heap.IsSliceOf sl vl vu .none->IsPart vl lo->IsPart vu hi->r x lo hi H Q->
  ∃T id,typeLookup (.type T) "__getitem__"=pure (some (.builtin id))/\s.TypeIs v T/\wpAny (model X.prog X.w) X.A (getItem v (.ref sl)) (EP X pins σ Q) X.xe s
def tSl(r:V->Option Int->Option Int->Hp->VK->Prop)(te:TE)(tl th:TO):TE:=λσ H Q=>te σ H λx H1=>tl σ H1 λl H2=>th σ H2 λu H3=>r x l u H3 Q
theorem MT{r:V->Option Int->Option Int->Hp->VK->Prop}(hr:SlR X r)(he:PE X e te)(hl:PO X lo tl)(hu:PO X hi th):PE X (.Subscript e (.Slice lo hi none p2) pos) (tSl r te tl th):=by
 intro pins s σ H Q I h
 refine Subscript_ (gj (he pins s σ H _ I h) λv s1 ⟨x,H1,I1,r1,q1⟩=> ?_)
 refine wpAny_Slice (gj (hl pins s1 σ H1 _ I1 q1) λvl s2 ⟨l,H2,I2,pl,q2⟩=>gj (hu pins s2 σ H2 _ I2 q2) λvu s3 ⟨u,H3,I3,pu,q3⟩=> ?_)
 rw[evalPart_none]
 refine wpAny_pure ?_
 have I4:Inv X pins σ H3 {s3 with heap:=s3.heap.push {cls:= .type "slice",data:= .fields #[vl,vu,.none]}}:=I3.kept (t':=s3.toks) λb ob q=>Heap.get?_push_of_some _ q
 obtain⟨T,id,hT,ht,hg⟩:=hr pins {s3 with heap:=s3.heap.push {cls:= .type "slice",data:= .fields #[vl,vu,.none]}} σ H3 x v vl vu l u s3.heap.objs.size Q I4 r1 (Heap.IsSliceOf.new ..) pl pu q3
 show wpAny (model X.prog X.w) X.A (subscriptTail e (.Slice lo hi none p2) v (.ref s3.heap.objs.size)) (EP X pins σ Q) X.xe {s3 with heap:=s3.heap.push {cls:= .type "slice",data:= .fields #[vl,vu,.none]}}
 exact tail_any (ops:=[.ref s3.heap.objs.size,v]) ht hT hg (by with_unfolding_all rfl)
def JZ(xs:List V)(lo hi:Option Int):List V:=(xs.drop (HT.Gj xs.length 0 lo)).take (HT.Gj xs.length xs.length hi-HT.Gj xs.length 0 lo)
theorem DN(xs:List V)(lo hi:Option Int):(JZ xs lo hi).length<=xs.length:=by
 unfold JZ
 rw[List.length_take,List.length_drop]
 omega
end
def Rq(n:Nat)(i:Int):Option Nat:=if 0<=i then(if i<n then some i.toNat else none)else if-(n:Int)<=i then some (i+n).toNat else none
def Ae{α:Type}(xs:List α)(i:Int):Option α:=(Rq xs.length i).bind λj=>xs[j]?
theorem IK{n:Nat}{i:Int}{j:Nat}(h:Rq n i=some j):seqIndex? i n=some j/\j<n/\ -(n:Int)<=i/\i<n:=by
 unfold Rq at h
 by_cases h0:0<=i
 ·rw[if_pos h0]at h
  by_cases h1:i<n
  ·rw[if_pos h1]at h
   have e:i.toNat=j:=Option.some.inj h
   exact⟨by rw[seqIndex_of h0 h1,e],by omega,by omega,h1⟩
  ·rw[if_neg h1]at h;cases h
 ·rw[if_neg h0]at h
  by_cases h1: -(n:Int)<=i
  ·rw[if_pos h1]at h
   have e:(i+n).toNat=j:=Option.some.inj h
   exact⟨by rw[seqIndex_neg (by omega) h1,e],by omega,h1,by omega⟩
  ·rw[if_neg h1]at h;cases h
theorem IL{α:Type}{xs:List α}{i:Int}{v:α}(h:Ae xs i=some v):∃j,seqIndex? i xs.length=some j/\xs[j]?=some v/\j<xs.length/\ -(xs.length:Int)<=i/\i<xs.length:=by
 unfold Ae at h
 cases e:Rq xs.length i with
 |none=>rw[e]at h;cases h
 |some j=>
  rw[e]at h
  obtain⟨h1,h2,h3,h4⟩:=IK e
  exact⟨j,h1,h,h2,h3,h4⟩
theorem BN{α:Type}{xs:List α}{j:Nat}{v:α}(h:xs[j]?=some v):Ae xs (j:Int)=some v:=by
 have hj:j<xs.length:=(List.getElem?_eq_some_iff.mp h).1
 have e:Rq xs.length (j:Int)=some j:=by
  unfold Rq
  rw[if_pos (by omega),if_pos (by omega)];simp
 unfold Ae;rw[e];exact h
def Rt(b:Expr):Prop:=∀o i,subscripted b false o i=operate [o,i] (getItem o i)
def YM(X:Cx)(r:R2):Prop:=
 ∀(value slice:Expr)(pins:List (Addr×Obj))(s:Shared)(σ:St)(H:Hp)(x y:V)(v u:Value)(Q:VK),Inv X pins σ H s->RelV x v->RelV y u->r x y H Q->
  subscripted slice false v u=operate [v,u] (getItem v u) ->wpAny (model X.prog X.w) X.A (subscriptTail value slice v u) (EP X pins σ Q) X.xe s
def MtR(X:Cx)(id:String)(r:V->List V->Hp->VK->Prop):Prop:=
 ∀(pins:List (Addr×Obj))(s:Shared)(σ:St)(H:Hp)(x:V)(xs:List V)(v:Value)(us:List Value)(Q:VK),Inv X pins σ H s->RelV x v->Vals xs us->r x xs H Q->
  wpAny (model X.prog X.w) X.A (call (.builtin id) (v::us)) (EP X pins σ Q) X.xe s
section
variable{X:Cx}{a b:Expr}{ta tb:TE}{pos:Pos}
theorem aJ{r:R2}(hr:YM X r)(ha:PE X a ta)(hb:PE X b tb)(hs:Rt b):PE X (.Subscript a b pos) (fY r ta tb):=by
 intro pins s σ H Q I h
 exact Subscript_ (UU ha hb I h λv u s2 x y H2 I2 rx ry q=>hr a b pins s2 σ H2 x y v u Q I2 rx ry q (hs _ _))
inductive aaa(K:PySem.W.Frag)(x y:V)(H:Hp)(Q:VK):Prop
 |mk(p:Addr)(xs:List V)(i:Int)(v:V)(ex:x= .ref p)(ey:y= .int i)(s:aV K H p xs)(a:Ae xs i=some v)(q:Q v H)
def kG(K:PySem.W.Frag):R2:=aaa K
inductive aab(K:PySem.W.Frag)(x y:V)(H:Hp)(Q:VK):Prop
 |mk(p:Addr)(xs:List V)(i:Int)(v:V)(ex:x= .ref p)(ey:y= .int i)(s:qA K H p xs)(a:Ae xs i=some v)(q:Q v H)
def aac(K:PySem.W.Frag):R2:=aab K
theorem aA:YM X (kG X.K):=by
 intro value slice pins s σ H x y v u Q I rx ry h hs
 obtain⟨p,xs,i,z,rfl,rfl,hq,he,q⟩:=h
 cases rx
 obtain⟨t,rfl⟩:=ry
 obtain⟨its,r,pl,hz⟩:=I.list hq
 obtain⟨j,h1,h2,h3,h4,h5⟩:=IL he
 obtain⟨w,ew,rw'⟩:=r.get h2
 have hl:=r.length
 have hn:=vI
 have fin:EP X pins σ Q w s:=⟨z,H,I,rw',q⟩
 by_cases h0:0<=i
 ·have hj:i.toNat=j:=by
   rw[seqIndex_of h0 h5]at h1
   exact Option.some.inj h1
  exact item_listR pl.isList h0 (by omega) (by rw[hj];simpa using ew) fin hs
 ·have hj:(i+(its.toArray.size:Int)).toNat=j:=by
   rw[seqIndex_neg (by omega) h4]at h1
   rw[List.size_toArray,<-hl]
   exact Option.some.inj h1
  exact subscriptTail_builtinR (x:=w) pl.isList.typeIs slot_list_getitem.lookup
   (wpAny_getItem_list_neg (Q:=λr s'=>r=w/\EP X pins σ Q r s') pl.isList (by omega) (by rw[List.size_toArray]<;>omega) (by omega) (by rw[hj];simpa using ew) ⟨rfl,fin⟩) hs
theorem Gk:YM X (aac X.K):=by
 intro value slice pins s σ H x y v u Q I rx ry h hs
 obtain⟨p,xs,i,z,rfl,rfl,hq,he,q⟩:=h
 cases rx
 obtain⟨t,rfl⟩:=ry
 obtain⟨its,r,pl,hz⟩:=I.tuple hq
 obtain⟨j,h1,h2,h3,h4,h5⟩:=IL he
 obtain⟨w,ew,rw'⟩:=r.get h2
 have hl:=r.length
 have hn:=vI
 have fin:EP X pins σ Q w s:=⟨z,H,I,rw',q⟩
 exact subscriptTail_builtinR (x:=w) pl.typeIs slot_tuple_getitem.lookup
  (getItem_tuple (j:=j) (Q:=λr s'=>r=w/\EP X pins σ Q r s') pl (by omega) (by omega) (by rw[List.size_toArray,<-hl];exact h1) (by simpa using ew) ⟨rfl,fin⟩) hs
theorem Gm(its:List Value)(n j:Nat)(u:Value):Obj.mapSeq (·.setIfInBounds j u) {cls:= .type "list",data:= .seq its.toArray n}={cls:= .type "list",data:= .seq (its.set j u).toArray n}:=by
 simp[Obj.mapSeq]
theorem Inv.lst{pins:List (Addr×Obj)}{σ:St}{H:Hp}{s:Shared}{p:Addr}{xs:List V}(I:Inv X pins σ H s)(h:H p=some (.lst xs)):
  ∃(its:List Value)(n:Nat),Vals xs its/\s.heap.get? p=some {cls:= .type "list",data:= .seq its.toArray n}/\xs.length<=sizeLine:=by
 obtain⟨z,its,n,r,e⟩:=I.hok p _ h
 exact⟨its,n,r,e,z⟩
theorem Inv.Vd{pins:List (Addr×Obj)}{σ:St}{H:Hp}{s:Shared}{p:Addr}{xs ys:List V}{its its':List Value}{n n':Nat}{f:Obj->Obj}(I:Inv X pins σ H s)(h:H p=some (.lst xs))
  (ho:s.heap.get? p=some {cls:= .type "list",data:= .seq its.toArray n})(hf:f {cls:= .type "list",data:= .seq its.toArray n}={cls:= .type "list",data:= .seq its'.toArray n'})(r:Vals ys its')(hz:ys.length<=sizeLine)(t:Nat):
  Inv X pins σ (upd H p (.lst ys)) {s with heap:=s.heap.update p f,toks:=t}:=by
 have e:(s.heap.update p f).get? p=some {cls:= .type "list",data:= .seq its'.toArray n'}:=by
  rw[Heap.get?_update_self f ho (by rw[hf]<;>rfl),hf]
 refine I.write (x:=p) (e:=p) (by rw[h];trivial) (.inl rfl) (λb u hb q=>(Heap.get?_update_other _ _ (Ne.symm hb)).trans q) ⟨_,e⟩ ?_
 exact⟨hz,its',n',r,e⟩
def Xs:V->V->V->Hp->(Hp->Prop) ->Prop:=λo i v H Q=> ∃p xs k j,o= .ref p/\i= .int k/\H p=some (.lst xs)/\Rq xs.length k=some j/\Q (upd H p (.lst (xs.set j v)))
theorem set_list:UR X Xs:=by
 intro pins s σ H o i v ov iv u Q I ro ri rv h
 obtain⟨p,xs,k,j,rfl,rfl,hp,hj,q⟩:=h
 cases ro
 obtain⟨t,rfl⟩:=ri
 obtain⟨its,n,r,ho,hz⟩:=I.lst hp
 obtain⟨h1,h2,h3,h4⟩:=IK hj
 have hl:=r.length
 have hn:=vI
 have I':Inv X pins σ (upd H p (.lst (xs.set j v))) {s with heap:=s.heap.update p (Obj.mapSeq (·.setIfInBounds j u))}:=
  I.Vd hp ho (Gm its n j u) (r.set rv j) (by rw[List.length_set];exact hz) s.toks
 by_cases h0:0<=k
 ·have hk:k.toNat=j:=by
   rw[seqIndex_of h0 h4]at h1
   exact Option.some.inj h1
  exact PySem.W.ki_setAt ho h0 (by omega) (by rw[List.size_toArray,<-hl];exact h4) (by rw[hk];exact⟨_,I',q⟩)
 ·have hk:(k+(its.toArray.size:Int)).toNat=j:=by
   rw[seqIndex_neg (by omega) h3]at h1
   rw[List.size_toArray,<-hl]
   exact Option.some.inj h1
  exact PySem.W.ki_setBack ho (by omega) (by rw[List.size_toArray,<-hl];exact h3) (by omega) (by rw[hk];exact⟨_,I',q⟩)
theorem BO(lo hi:Option Int)(n:Nat):(sliceBounds lo hi none n).1=((HT.Gj n 0 lo:Nat):Int)/\(sliceBounds lo hi none n).2.1=((HT.Gj n n hi:Nat):Int)/\(sliceBounds lo hi none n).2.2=1:=by
 refine⟨?_,?_,rfl⟩
 ·cases lo with
  |none=>simp[sliceBounds,HT.Gj]
  |some i=>
   simp only[sliceBounds,HT.Gj,Option.getD_none,show(1:Int)>0 by decide,if_true]
   by_cases h:i<0
   ·simp only[h,if_true]<;>omega
   ·simp only[h,if_false]<;>omega
 ·cases hi with
  |none=>simp[sliceBounds,HT.Gj]
  |some i=>
   simp only[sliceBounds,HT.Gj,Option.getD_none,show(1:Int)>0 by decide,if_true]
   by_cases h:i<0
   ·simp only[h,if_true]<;>omega
   ·simp only[h,if_false]<;>omega
theorem Am(its:List Value)(lo hi:Option Int):slicePick its.toArray lo hi none=((its.drop (HT.Gj its.length 0 lo)).take (HT.Gj its.length its.length hi-HT.Gj its.length 0 lo)).toArray:=by
 obtain⟨h1,h2,h3⟩:=BO lo hi its.toArray.size
 unfold slicePick
 rw[h1,h2,h3]
 simp only[sliceRange_one,pick_run,List.size_toArray]<;>rfl
def aad(K:PySem.W.Frag):V->Option Int->Option Int->Hp->VK->Prop:=λx lo hi H Q=> ∃a xs,x= .ref a/\aV K H a xs/\ ∀p,H p=none->Q (.ref p) (upd H p (.lst (JZ xs lo hi)))
theorem Ru:SlR X (aad X.K):=by
 intro pins s σ H x v vl vu lo hi sl Q I rx hs pl pu h
 obtain⟨a,xs,rfl,hx,q⟩:=h
 cases rx
 obtain⟨its,r,ht,hz⟩:=I.list hx
 have hlen:=r.length
 refine⟨"list",_,slot_list_getitem.lookup,ht.isList.typeIs,?_⟩
 refine wpAny_getItem_list_slice ht.isList hs pl pu .none (by simp) ?_ (by rw[List.size_toArray]<;>omega)
 rw[Am,<-hlen]
 refine⟨.ref s.heap.objs.size,_,I.laid (t':=s.toks) (o:= .lst (JZ xs lo hi)) (λb ob q=>Heap.get?_push_of_some _ q) (Nat.le_refl _) ?_,rfl,q _ (I.hok.fresh (Nat.le_refl _))⟩
 exact⟨Nat.le_trans (DN xs lo hi) hz,_,0,(r.drop (HT.Gj xs.length 0 lo)).take (HT.Gj xs.length xs.length hi-HT.Gj xs.length 0 lo),Heap.get?_push_size _ rfl⟩
def sI:V->Bool
 | .fP=>true
 | .bl _=>true
 | .int _=>true
 | .str _=>true
 |_=>false
def Mz:V->V->Bool
 | .fP,.fP=>true
 | .bl a,.bl b=>a==b
 | .bl a,.int b=>(if a then 1 else 0)==b
 | .int a,.bl b=>a==(if b then 1 else 0)
 | .int a,.int b=>a==b
 | .str a,.str b=>a==b
 |_,_=>false
theorem Ve{A:Around}{s:Shared}{y x:V}{u v:Value}(ry:RelV y u)(rx:RelV x v)(fy:sI y=true)(fx:sI x=true):SeqAt.EqAt A s u v (Mz y x):=by
 cases y with
 |fP=>
  cases ry
  cases x with
  |fP=>cases rx;exact SeqAt.EqAt.same _
  |bl b=>cases rx;exact SeqAt.EqAt.none_bool b
  |int b=>obtain⟨t,rfl⟩:=rx;exact SeqAt.EqAt.none_int b t
  |str b=>obtain⟨t,rfl⟩:=rx;exact SeqAt.EqAt.none_str b t
  |_=>exact absurd (show false=true from fx) Bool.false_ne_true
 |bl a=>
  cases ry
  cases x with
  |fP=>cases rx;exact SeqAt.EqAt.bool_none a
  |bl b=>cases rx;exact SeqAt.EqAt.bool_bool a b
  |int b=>obtain⟨t,rfl⟩:=rx;exact SeqAt.EqAt.bool_int a b t
  |str b=>obtain⟨t,rfl⟩:=rx;exact SeqAt.EqAt.bool_str a b t
  |_=>exact absurd (show false=true from fx) Bool.false_ne_true
 |int a=>
  obtain⟨t',rfl⟩:=ry
  cases x with
  |fP=>cases rx;exact SeqAt.EqAt.int_none a t'
  |bl b=>cases rx;exact SeqAt.EqAt.int_bool a t' b
  |int b=>obtain⟨t,rfl⟩:=rx;exact SeqAt.EqAt.int_int a t' b t
  |str b=>obtain⟨t,rfl⟩:=rx;exact SeqAt.EqAt.int_str a t' b t
  |_=>exact absurd (show false=true from fx) Bool.false_ne_true
 |str a=>
  obtain⟨t',rfl⟩:=ry
  cases x with
  |fP=>cases rx;exact SeqAt.EqAt.str_none a t'
  |bl b=>cases rx;exact SeqAt.EqAt.str_bool a t' b
  |int b=>obtain⟨t,rfl⟩:=rx;exact SeqAt.EqAt.str_int a t' b t
  |str b=>obtain⟨t,rfl⟩:=rx;exact SeqAt.EqAt.str_str a t' b t
  |_=>exact absurd (show false=true from fx) Bool.false_ne_true
 |_=>exact absurd (show false=true from fy) Bool.false_ne_true
def Ka(x:V)(u:Value):Bool:=match u with
 | .none=>Mz .fP x
 | .bool b=>Mz (.bl b) x
 | .int i _=>Mz (.int i) x
 | .str z _=>Mz (.str z) x
 |_=>false
theorem Gn{x y:V}{u:Value}(r:RelV y u)(f:sI y=true):Ka x u=Mz y x:=by
 cases y with
 |fP=>cases r;rfl
 |bl b=>cases r;rfl
 |int i=>obtain⟨t,rfl⟩:=r;rfl
 |str z=>obtain⟨t,rfl⟩:=r;rfl
 |_=>exact absurd (show false=true from f) Bool.false_ne_true
theorem BP{x:V}:∀{xs:List V}{us:List Value},Vals xs us->xs.all sI=true->us.any (Ka x)=xs.any λy=>Mz y x
 |_,_,.nil,_=>rfl
 |y::xs,u::us,.cons r t,f=>by
  rw[List.all_cons,Bool.and_eq_true]at f
  rw[List.any_cons,List.any_cons,Gn r f.1,BP t f.2]
theorem uw{A:Around}{s:Shared}{x:V}{v:Value}(rx:RelV x v)(fx:sI x=true):∀{xs:List V}{us:List Value},Vals xs us->xs.all sI=true-> ∀u∈us,SeqAt.EqAt A s u v (Ka x u)
 |_,_,.nil,_=>λu hu=>by cases hu
 |y::xs,u::us,.cons r t,f=>λu' hu=>by
  rw[List.all_cons,Bool.and_eq_true]at f
  rcases List.mem_cons.mp hu with rfl|hu
  ·rw[Gn r f.1];exact Ve r rx f.1 fx
  ·exact uw rx fx t f.2 u' hu
def Xu(x:V)(xs:List V):Bool:=xs.any λy=>Mz y x
def rIn(K:PySem.W.Frag)(neg:Bool):R2:=λx y H Q=> ∃p xs,y= .ref p/\(aV K H p xs∨qA K H p xs)/\sI x=true/\xs.all sI=true/\Q (.bl (if neg then !Xu x xs else Xu x xs)) H
theorem Kc:vD X (compareOp .In) (rIn X.K false):=by
 intro pins s σ H x y v u Q I rx ry h
 obtain⟨p,xs,rfl,hq,fx,fs,q⟩:=h
 cases ry
 rcases hq with hq|hq
 ·obtain⟨its,r,pl,hz⟩:=I.list hq
  refine SeqAt.in_listAt (Ka x) pl.isList (λw hw=>uw rx fx r fs w (by simpa using hw)) ⟨.bl _,H,I,rfl,?_⟩
  rw[show its.toArray.any (Ka x)=its.any (Ka x)by simp,BP r fs]
  exact q
 ·obtain⟨its,r,pl,hz⟩:=I.tuple hq
  refine SeqAt.in_tupleAt (Ka x) pl (λw hw=>uw rx fx r fs w (by simpa using hw)) ⟨.bl _,H,I,rfl,?_⟩
  rw[show its.toArray.any (Ka x)=its.any (Ka x)by simp,BP r fs]
  exact q
theorem dJ:qC X (.builtin "len") (λxs H Q=> ∃p ys,xs=[.ref p]/\(aV X.K H p ys∨qA X.K H p ys)/\Q (.int ys.length) H):=by
 intro pins s σ H xs us Q I r h
 obtain⟨p,ys,rfl,hq,q⟩:=h
 obtain⟨u,rfl,rx⟩:=vals1 r
 cases rx
 have hn:=vI
 rcases hq with hq|hq
 ·obtain⟨its,r',pl,hz⟩:=I.list hq
  have hlen:=r'.length
  exact Calls.call_len_list pl.isList (by simp only[List.size_toArray]<;>omega) ⟨.int ys.length,H,I.tok _,⟨s.toks+1,by rw[List.size_toArray,hlen]⟩,q⟩
 ·obtain⟨its,r',pl,hz⟩:=I.tuple hq
  have hlen:=r'.length
  exact len_tuple pl (by simp only[List.size_toArray]<;>omega) ⟨.int ys.length,H,I.tok _,⟨s.toks+1,by rw[List.size_toArray,hlen]⟩,q⟩
theorem jx:qC X (.type "list") (λxs H Q=> ∃p ys,xs=[.ref p]/\(aV X.K H p ys∨qA X.K H p ys)/\ ∀l,H l=none->Q (.ref l) (upd H l (.lst ys))):=by
 intro pins s σ H xs us Q I r h
 obtain⟨p,ys,rfl,hq,q⟩:=h
 obtain⟨u,rfl,rx⟩:=vals1 r
 cases rx
 have fin:∀(its:List Value),Vals ys its->ys.length<=sizeLine-> ∀(h':Heap)(c':Nat),(∀b o',s.heap.get? b=some o'->h'.get? b=some o') ->
   h'.get? s.heap.objs.size=some {cls:= .type "list",dict:=none,data:= .seq its.toArray c',slots:= #[]} ->EP X pins σ Q (.ref s.heap.objs.size) {s with heap:=h'}:=λits r' hz h' c' kp e=>
  ⟨.ref s.heap.objs.size,_,I.laid (t':=s.toks) kp (Nat.le_refl _) (show fX X.prog X.w _ h' _ (.lst ys)from⟨hz,its,c',r',e⟩),rfl,q _ (I.hok.fresh (Nat.le_refl _))⟩
 rcases hq with hq|hq
 ·obtain⟨its,r',pl,hz⟩:=I.list hq
  have hlen:=r'.length
  obtain⟨o,ho,hc,n,hd⟩:=pl.isList
  exact call_list_seq p (.inl rfl) ho hc hd (λh' c' kp e=>fin its r' hz h' c' kp e) (by simp only[List.size_toArray]<;>omega)
 ·obtain⟨its,r',pl,hz⟩:=I.tuple hq
  have hlen:=r'.length
  obtain⟨o,ho,hc,n,hd⟩:=pl
  exact call_list_seq p (.inr rfl) ho hc hd (λh' c' kp e=>fin its r' hz h' c' kp e) (by simp only[List.size_toArray]<;>omega)
theorem m9:qC X (.type "tuple") (λxs H Q=> ∃p ys,xs=[.ref p]/\((aV X.K H p ys/\ ∀l,H l=none->Q (.ref l) (upd H l (.tup ys)))∨(qA X.K H p ys/\Q (.ref p) H))):=by
 intro pins s σ H xs us Q I r h
 obtain⟨p,ys,rfl,h⟩:=h
 obtain⟨u,rfl,rx⟩:=vals1 r
 cases rx
 rcases h with⟨hq,q⟩|⟨hq,q⟩
 ·obtain⟨its,r',pl,hz⟩:=I.list hq
  have hlen:=r'.length
  refine call_tuple_list pl.isList (λh' kp=> ?_) (by simp only[List.size_toArray]<;>omega)
  have I1:Inv X pins σ H {s with heap:=h'}:=I.kept (t':=s.toks) kp
  have I2:Inv X pins σ (upd H h'.objs.size (.tup ys)) {s with heap:=h'.push {cls:= .type "tuple",data:= .seq its.toArray}}:=
   I1.laid (t':=s.toks) (λb o e=>Heap.get?_push_of_some _ e) (Nat.le_refl _) (show fX X.prog X.w _ _ _ (.tup ys)from⟨hz,its,r',IsTup.new _ _⟩)
  exact⟨.ref h'.objs.size,_,I2,rfl,q _ (I1.hok.fresh (Nat.le_refl _))⟩
 ·obtain⟨its,r',pl,hz⟩:=I.tuple hq
  exact call_tuple_same pl ⟨.ref p,H,I,rfl,q⟩
def tyV(K:PySem.W.Frag)(T:String)(x:V)(H:Hp):Prop:=match x with
 | .str _=>T= "str"
 | .int _=>T= "int"
 | .ref p=>(T= "list"/\ ∃xs,aV K H p xs)∨(T= "tuple"/\ ∃o,K.lookup p=some o/\o.cls= .type "tuple"/\o.dict=none)∨
   (T= "dict"/\((∃kvs,H p=some (.dK kvs))∨ ∃kvs,H p=some (.dT kvs)))∨(T= "set"/\ ∃S n,H p=some (.set S n))
 |_=>False
theorem Vf{pins:List (Addr×Obj)}{σ:St}{H:Hp}{s:Shared}{T:String}{x:V}{v:Value}(I:Inv X pins σ H s)(r:RelV x v)(ty:tyV X.K T x H):
  s.TypeIs v T/\ ∀a,v= .ref a-> ∃ob,s.heap.get? a=some ob/\ob.dict=none:=by
 cases x with
 |str z=>
  obtain⟨t,rfl⟩:=r
  cases(show T= "str" from ty)
  exact⟨typeIs_str s z t,λ_ e=>nomatch e⟩
 |int i=>
  obtain⟨t,rfl⟩:=r
  cases(show T= "int" from ty)
  exact⟨typeIs_int s i t,λ_ e=>nomatch e⟩
 |ref p=>
  cases r
  rcases ty with⟨rfl,xs,hq⟩|⟨rfl,o,hk,hc,hd⟩|⟨rfl,hk⟩|⟨rfl,S,n,hk⟩
  ·obtain⟨its,_,pl,_⟩:=I.list hq
   refine⟨pl.isList.typeIs,λa e=> ?_⟩
   cases e
   obtain⟨o,n,e,c,hd,_⟩:=pl
   exact⟨o,e,hd⟩
  ·refine⟨⟨o,I.xh p o hk,hc⟩,λa e=> ?_⟩
   cases e
   exact⟨o,I.xh _ o hk,hd⟩
  ·have z:∃o,s.heap.get? p=some o/\o.ExactDict:=by
    rcases hk with⟨kvs,hk⟩|⟨kvs,hk⟩
    ·obtain⟨_,_,_,_,o,_,_,e,ex,_⟩:=I.hok p _ hk
     exact⟨o,e,ex⟩
    ·obtain⟨_,_,_,_,o,_,_,e,ex,_⟩:=I.hok p _ hk
     exact⟨o,e,ex⟩
   obtain⟨o,e,ex⟩:=z
   refine⟨⟨o,e,ex.1⟩,λa e2=> ?_⟩
   cases e2
   exact⟨o,e,ex.2.1⟩
  ·obtain⟨o,_,_,_,e,ex,_⟩:=I.hok p _ hk
   refine⟨⟨o,e,ex.1⟩,λa e2=> ?_⟩
   cases e2
   exact⟨o,e,ex.2.1⟩
 |_=>exact False.elim ty
def tBM(K:PySem.W.Frag)(T:String)(r:V->List V->Hp->VK->Prop)(to:TE)(t:TA):TE:=λσ H Q=>to σ H λx H1=>tyV K T x H1/\t σ H1 λxs H2=>r x xs H2 Q
variable{o e:Expr}{es:List Expr}{to:TE}{t:TA}{name:Str}{apos cpos:Pos}{T id:String}{r:V->List V->Hp->VK->Prop}
theorem Bj(pa:PlainAttrs T)(slot:Slot T name id)(hty:typeOf (.builtin id)=pure (.type "method_descriptor"))(hm:MtR X id r)(ho:PE X o to)(ha:PA X (e::es) t)
  (hbase:attributeBase o name X.env (eval o X.env)=eval o X.env:=by rfl)
  (hfew:((backTo cpos (starEach (e::es) X.env)).all (λx=> !x.1) && (backToKw cpos (keywordEach [] X.env)).all (λx=>x.1.isSome)
   && decide ((e::es).length+([]:List Keyword).length+(if([]:List Keyword).isEmpty then 0 else 1)<30))=true:=by rfl)
  (hline:(apos.endLine==cpos.line)=true:=by rfl)(hs:starEach (e::es) X.env=(false,eval e X.env)::starEach es X.env:=by rfl)(hplain:(backTo cpos (starEach es X.env)).any (·.1)=false:=by rfl):
  PE X (.Call (.Attribute o name apos) (e::es) [] cpos) (tBM X.K T r to t):=by
 intro pins s σ H Q I h
 refine wpAny_Call_method_late hbase hfew hline rfl (gj (ho pins s σ H _ I h) λv s1 ⟨x,H1,I1,r1,ty,q1⟩=> ?_)
 obtain⟨h1,h2⟩:=Vf I1 r1 ty
 refine⟨T,id,pa,slot,hty,h1,h2,?_⟩
 have hA:=ha cpos pins s1 σ H1 _ I1 q1
 rw[hs]at hA ⊢
 refine Calls.callWith_builtin (by show(false||(backTo cpos (starEach es X.env)).any (·.1))=false;rw[hplain]<;>rfl) (Calls.evalArgs_plain ?_)
 exact gj hA λus s2 ⟨vs,H2,I2,r2,q2⟩=>hm pins s2 σ H2 x vs v us Q I2 r1 r2 q2
end
def MtM(X:Cx)(id:String)(r:V->List V->Hp->VK->Prop):Prop:=
 ∀(pins:List (Addr×Obj))(s:Shared)(σ:St)(H:Hp)(x:V)(xs:List V)(v:Value)(us:List Value)(Q:VK),Inv X pins σ H s->RelV x v->Vals xs us->r x xs H Q->
  wpAny (model X.prog X.w) X.A (call (.builtin id) (v::us)) (EP X pins σ Q) X.xe s
theorem Vals.one:∀{x:V}{us:List Value},Vals [x] us-> ∃u,us=[u]/\RelV x u
 |_,_,.cons r .nil=>⟨_,rfl,r⟩
theorem Vals.reverse{xs:List V}{us:List Value}(h:Vals xs us):Vals xs.reverse us.reverse:=by
 induction h with
 |nil=>exact .nil
 |cons r t ih=>rw[List.reverse_cons,List.reverse_cons];exact Vals.append ih (.cons r .nil)
section
variable{X:Cx}{pins:List (Addr×Obj)}{σ:St}{H:Hp}{s:Shared}{l b:Addr}{xs ys zs:List V}
theorem Inv.aae{its its':List Value}{n:Nat}{f:Array Value->Array Value}{t':Nat}(I:Inv X pins σ H s)(hH:H l=some (.lst xs))
  (e:s.heap.get? l=some {cls:= .type "list",data:= .seq its.toArray n})(hf:f its.toArray=its'.toArray)(hv:Vals ys its')(hz:ys.length<=sizeLine):
  Inv X pins σ (upd H l (.lst ys)) {s with heap:=s.heap.update l (Obj.mapSeq f),toks:=t'}:=by
 have q:=PySem.IsL.update e f
 rw[hf]at q
 refine I.write (x:=l) (e:=l) (by rw[hH];exact trivial) (.inl rfl) (λb' u hb hu=>(Heap.get?_update_other s.heap (Obj.mapSeq f) (Ne.symm hb)).trans hu) ⟨_,q⟩ ?_
 exact⟨hz,its',_,hv,q⟩
theorem Inv.aaf{its:List Value}{t':Nat}(I:Inv X pins σ H s)(hv:Vals ys its)(hz:ys.length<=sizeLine):
  Inv X pins σ (upd H s.heap.objs.size (.lst ys)) {s with heap:=s.heap.push {cls:= .type "list",data:= .seq its.toArray},toks:=t'}:=
 I.laid (λ_ _ q=>Heap.get?_push_of_some _ q) (Nat.le_refl _) ⟨hz,its,0,hv,Heap.get?_push_size _ rfl⟩
theorem Inv.fresh(I:Inv X pins σ H s):H s.heap.objs.size=none:=I.hok.fresh (Nat.le_refl _)
theorem Inv.Vg(I:Inv X pins σ H s)(hH:H l=some (.lst xs)):xs.length<=sizeLine/\ ∃(its:List Value)(n:Nat),Vals xs its/\xs.length=its.length/\s.heap.get? l=some {cls:= .type "list",data:= .seq its.toArray n}:=by
 obtain⟨z,its,n,r,e⟩:=I.hok l _ hH
 exact⟨z,its,n,r,r.length,e⟩
end
section
variable{X:Cx}
def Rv:V->List V->Hp->VK->Prop:=λx vs H Q=> ∃l xs y,x= .ref l/\vs=[y]/\H l=some (.lst xs)/\xs.length<sizeLine/\Q .fP (upd H l (.lst (xs++ [y])))
theorem jQ:MtM X "list.append" Rv:=by
 intro pins s σ H x vs v us Q I rx rv h
 obtain⟨l,xs,y,rfl,rfl,hH,hz,q⟩:=h
 cases rx
 obtain⟨u,rfl,ru⟩:=rv.one
 obtain⟨z,its,n,r,hl,e⟩:=I.Vg hH
 refine call_meets F.slot_list_append ⟨_,e,rfl⟩ F.entry_list_append (F.args_list_append_2 _ _) (PySem.list_append l its.toArray n u (by rw[List.size_toArray];omega)) ⟨e,?_⟩
 refine⟨.fP,_,I.aae (its':=its++ [u]) hH e (by simp) (r.append (.cons ru .nil)) ?_,rfl,q⟩
 rw[List.length_append,List.length_singleton]
 omega
def aag:R2:=λx y H Q=> ∃l b xs zs,x= .ref l/\y= .ref b/\H l=some (.lst xs)/\H b=some (.lst zs)/\xs.length+zs.length<=sizeLine/\ ∀p,H p=none->Q (.ref p) (upd H p (.lst (xs++zs)))
theorem yk:vD X (binaryOp .Add) aag:=by
 intro pins s σ H x y v u Q I rx ry h
 obtain⟨l,b,xs,zs,rfl,rfl,hH,hB,hz,q⟩:=h
 cases rx
 cases ry
 obtain⟨z,its,n,r,hl,e⟩:=I.Vg hH
 obtain⟨z2,its2,n2,r2,hl2,e2⟩:=I.Vg hB
 refine PySem.P.add_list e e2 ?_ (by rw[List.size_toArray,List.size_toArray];omega)
 have ea:its.toArray++its2.toArray=(its++its2).toArray:=by simp
 rw[ea]
 exact⟨.ref _,_,I.aaf (t':=s.toks) (r.append r2) (by rw[List.length_append];omega),rfl,q _ I.fresh⟩
end
section
variable{prog:Program}{w:World}{A:Around}{E:Value->Shared->Prop}{s:Shared}
end
section
variable{X:Cx}
end
end L2
namespace Att
open PySem PySem.W PySem.Calls PyProof.Rows
theorem xB{P:Params}{h:Heap}:∀(ns:List Int)(vs:List Value),WellAll P h vs (ns.map WData.int) ->IntsAre vs ns:=by
 intro ns
 induction ns with
 |nil=>
  intro vs w
  rw[List.map_nil]at w
  cases w
  exact .nil
 |cons n ns ih=>
  intro vs w
  rw[List.map_cons]at w
  cases w with
  |cons a b=>
   cases a
   exact .cons _ _ (ih _ b)
theorem Kd{l:OpenLaw}{n:Nat}(hn:l.most=some n){P:Params}{h:Heap}{args:List WData}{vals:List Value}
  (hpre:l.row.toRowW.claim.pre args=true)(hwl:WellAll P h vals args):
  ∃a vs ns,vals=[Value.ref a]/\args=[WData.list (ns.map WData.int)]/\h.get? a=some {cls:= .type "list",data:= .seq vs.toArray}/\IntsAre vs ns/\ns.length<=n:=by
 have hsh:WShape.hasAll [] args [.list .int]=true:=(pre_splitW hpre).1
 have hc:l.pre.holds [] {args:=args}=true:=(pre_splitW hpre).2
 obtain⟨d,r,rfl,h1,h2⟩:=hasAllW_cons hsh
 obtain rfl:=hasAllW_nil h2
 obtain⟨xs,rfl,h3⟩:=hasW_list h1
 obtain⟨ns,rfl⟩:=items_int h3
 have hlen:ns.length<=n:=by
  unfold OpenLaw.pre at hc
  have h4:(WTm.not (.lt (.lit (.int (n:Int))) (.len (.arg 0)))).holds [] {args:=[.list (ns.map .int)]}=true:=by
   have h4:=(holds_andW hc).1
   rw[hn]at h4
   exact h4
  have h5:=condW_of h4 (w_not (w_lt w_lit (w_len_list (w_arg rfl))))
  rw[List.length_map]at h5
  refine Nat.le_of_not_lt λq=> ?_
  have q':(n:Int)<((ns.length:Nat):Int):=by omega
  first
   |(rw[decide_eq_true q']at h5;exact absurd h5 (by decide))
   |(simp at h5;omega)
 cases hwl with
 |cons w1 w2=>
  cases w2
  cases w1 with
  |list ho hall=>exact⟨_,_,ns,rfl,rfl,ho,xB ns _ hall,hlen⟩
theorem Ke(l:OpenLaw)(args:List WData):l.row.toRowW.claim.post args (.bool true) args=true:=
 postW_of (r:=l.row.toRowW) (X:=(true==true))
  (show WShape.has [] (.bool true) .bool=true by first|rfl|decide|simp[WShape.has,WShape.arms,WShape.armsAll])
  (show(WTm.eq .res (.lit (.bool true))).value [] {args:=args,res:=some (.bool true),after:=args}=some (.bool (true==true))from w_eq_bool (w_res rfl) w_lit) rfl
theorem DO{l:OpenLaw}{n:Nat}{q:Program}{loose:List Str}{XP:(Str->Option Value) ->Heap->Prop}{YP:World->Heap->Prop}{d:DefRec}
  (hn:l.most=some n)(hdf:d.params.defaults=[])
  (call:∀(w:World)(s₀ s₁:Shared)(mg mb:Str->Option Value)(fa:Addr)(o:Obj)(pm cd doc:Value)(a:Addr)(vs:List Value)(ns:List Int),
   Ground q loose [] XP w s₀ mg mb s₁.heap->YP w s₁.heap->
   s₁.heap.get? fa=some o->o.data= .func (docDef d.name d.params d.body d.scope pm cd doc) ->s₁.heap.CodeRec cd d.name->mg d.name=some (.ref fa) ->
   s₁.heap.get? a=some {cls:= .type "list",data:= .seq vs.toArray} ->IntsAre vs ns->ns.length<=n->s₁.gens= #[] ->
   codeAny (model l.prog w) callerA (.call (.ref fa) ⟨[.ref a],[]⟩) (λr s'=>r= .ok (.ret (.bool true))/\OldK s₁.heap s'.heap/\s'.os=s₁.os/\AllBare s'.gens) s₁):
  WalkO q loose XP YP l.row.toRowW d [] (λf vs=>PySem.call f vs):=by
 intro w s₀ s₁ mg mb G Y fa o pm cd doc dV kV ho hd hcd hD hmg hg args vals as hpre hlay hrd hwl hlo
 obtain rfl:dV= .none:=Dflts.none hD hdf
 obtain rfl:kV= .none:=Dflts.noKw hD
 obtain⟨a,vs,ns,rfl,rfl,hobj,hints,hlen⟩:=Kd hn hpre hwl
 refine enter_call (codeAny_mono (call w s₀ s₁ mg mb fa o pm cd doc a vs ns G Y ho (fd_plain hd) hcd hmg hobj hints hlen hg) λr s' hq=> ?_)
 obtain⟨rfl,h2,h3,h4⟩:=hq
 exact⟨.inl ⟨.bool true,.bool true,[],rfl,λ_=>rfl,.bool true,Ke l _,λ_=>⟨List.Pairwise.nil,λ_ hm=>(nomatch hm)⟩⟩,h2,h3,h4⟩
section
variable{prog:Program}{w:World}{A:Around}{E:Value->Shared->Prop}{s:Shared}{K:Frag}
def ledger(h:Heap)(L d:Addr):List (Addr×Obj):=(List.range h.objs.size).filterMap λa=>if a=L∨a=d then none else(h.get? a).map λo=>(a,o)
end
end Att
namespace L2
open PySem PySem.Spec PyProof.Rows
theorem Bl:∀{vs:List Value}{ns:List Int},IntsAre vs ns->Vals (ns.map V.int) vs
 |_,_,.nil=> .nil
 |_,_,.cons n t h=> .cons ⟨t,rfl⟩ (Bl h)
abbrev KOf{K:PySem.W.Frag}{h:Heap}(_:K.In h):PySem.W.Frag:=K
def iE(s:Stmt):Arguments:=match s with
 | .FunctionDef _ a _ _ _ _ _ _ _ _=>a
 |_=>{posonlyargs:=[],args:=[],vararg:=none,kwonlyargs:=[],kw_defaults:=[],kwarg:=none,defaults:=[]}
def fz(s:Stmt):List Stmt:=match s with
 | .FunctionDef _ _ b _ _ _ _ _ _ _=>b
 |_=>[]
def aC(s:Stmt):Scope:=match s with
 | .FunctionDef _ _ _ _ _ _ sc _ _ _=>sc
 |_=>{kind:= .function,names:=[],isGenerator:=false,isCoroutine:=false}
abbrev c8:Gh:=λ_ _ _ _ _ _=>False
abbrev E0:XK:=λ_ _ _=>False
theorem aU{X:Cx}:Passes c8 X E0:=λ_ _ _ _ _ _ _ h=>h.elim
structure Kf(K:PySem.W.Frag)(x qual:Str)(st:Stmt)(f:Addr)(fd:FuncData):Prop where
 ex:∃(oc:Value)(od:Option Addr)(kV doc pm:Value)(an:Option Addr)(cdv ct:Value)(osl:Array (Option Value)),
  fd=PySem.W.fnOf x qual (iE st) (fz st) (aC st) .none kV doc pm an cdv ct/\K.lookup f=some ⟨oc,od,.func fd,osl⟩/\PySem.W.codeIn K cdv qual=true
 kp:PySem.W.keepIn K (.ref f)=true
section
variable{P:Program}{w:World}{K:PySem.W.Frag}{mg:Str->Option Value}{base:Heap}
theorem Kf.ok{x qual:Str}{st:Stmt}{f:Addr}{fd:FuncData}{N ps:List Str}{k:Nat}{sp:Sp}(F:Kf K x qual st f fd)(S:aP N ps (aC st))(len:∀vs H Q E,sp vs H Q E->vs.length=ps.length)
  (hbody:∀(cdv:Value)(A:Around)(outer:List Env)(s:Shared)(H:Hp)(vs:List V)(Q:VK)(E:XK),gr k (A.deeper (envOfC qual (aC st) s.heap.objs.size f cdv)) ->sp vs H Q E->
   ∃t,vC (qx c8 P w K mg base N qual (aC st) f cdv A outer s H E).Mx (fz st) t/\t {nx:=λ_ H'=>Q .fP H',rt:=Q} (start N vs) H):qD P w K mg base c8 (k+1) f fd ps sp:=by
 obtain⟨oc,od,kV,doc,pm,an,cdv,ct,osl,rfl,lk,hcd⟩:=F.ex
 refine MS lk hcd S len λA outer s H vs Q E hr Gi=> ?_
 obtain⟨t,h,q⟩:=hbody cdv A outer s H vs Q E hr Gi
 exact⟨t,h.Mx,q⟩
theorem Kf.binds{x qual:Str}{st:Stmt}{f:Addr}{fd:FuncData}{ps:List Str}(F:Kf K x qual st f fd)
  (h:∀(kV doc pm:Value)(an:Option Addr)(cdv ct:Value)(us:List Value),us.length=ps.length->bindArgs (PySem.W.fnOf x qual (iE st) (fz st) (aC st) .none kV doc pm an cdv ct) ⟨us,[]⟩=pure (ps.zip us)):Binds K fd ps []:=by
 obtain⟨oc,od,kV,doc,pm,an,cdv,ct,osl,rfl,lk,hcd⟩:=F.ex
 exact .all (h kV doc pm an cdv ct)
theorem Gp{x qual:Str}{st:Stmt}{f:Addr}{oc:Value}{od an:Option Addr}{osl:Array (Option Value)}{kV doc pm cdv ct:Value}(l:K.lookup f=some ⟨oc,od,.func (PySem.W.fnOf x qual (iE st) (fz st) (aC st) .none kV doc pm an cdv ct),osl⟩)
  (c:PySem.W.codeIn K cdv qual=true)(k:PySem.W.keepIn K (.ref f)=true):Kf K x qual st f (PySem.W.fnOf x qual (iE st) (fz st) (aC st) .none kV doc pm an cdv ct):=⟨⟨oc,od,kV,doc,pm,an,cdv,ct,osl,rfl,l,c⟩,k⟩
end
theorem iF{n:Nat}(h:n<=1000):n<sizeLine:=Nat.lt_of_le_of_lt h (by decide)
section
variable{X:Cx}
theorem pv(i:Nat){x:Str}{pos:Pos}(hN:X.N[i]?=some x:=by rfl)(hv:Ui X.env.scope x:=by first|exact Or.inl rfl|exact Or.inr (Or.inl rfl)|exact Or.inr (Or.inr rfl))(hd:(x==("__debug__":Str))=false:=by decide)
  (hcd:(x==("__classdict__":Str))=false:=by decide):PE X (.Name x pos) (aY i):=UN hN hv hd hcd
end
theorem iO{A B:Prop}(h:B):if false=true then A else B:=by
 rw[if_neg Bool.false_ne_true]
 exact h
theorem mQ{A B:Prop}(h:A):if true=true then A else B:=by
 rw[if_pos rfl]
 exact h
theorem g9{c A B:Prop}[Decidable c](h1:c->A)(h2:¬c->B):if c then A else B:=by
 by_cases h:c
 ·rw[if_pos h]
  exact h1 h
 ·rw[if_neg h]
  exact h2 h
theorem IM{c A B:Prop}[Decidable c](hc:c)(h:B):if(!decide c)=true then A else B:=by
 rw[decide_eq_true hc]
 exact iO h
def av(H H':Hp):Prop:=∀b o,H b=some o->H' b=some o
theorem av.refl(H:Hp):av H H:=λ_ _ h=>h
theorem av.trans{H H1 H2:Hp}(a:av H H1)(b:av H1 H2):av H H2:=λc o h=>b c o (a c o h)
theorem av.free{H H':Hp}(e:av H H'){l:Addr}(h:H' l=Option.none):H l=Option.none:=by
 cases q:H l with
 |none=>rfl
 |some o=>
  rw[e l o q]at h
  cases h
theorem av.seq{K:PySem.W.Frag}{H H':Hp}{a:Addr}{xs:List V}(e:av H H')(h:aV K H a xs):aV K H' a xs:=by
 rcases h with(h|⟨o,h⟩)|h
 ·exact .inl (.inl (e _ _ h))
 ·exact .inl (.inr ⟨o,e _ _ h⟩)
 ·exact .inr h
def cJ(env:Env):List (Str×NameKind) ->List (Str×Addr) ->List (Str×Addr)
 | [],acc=>acc
 |(n,k)::r,acc=>if k== .free then cJ env r ((n,(env.cells.lookup n).getD 0)::acc)else cJ env r acc
theorem sU{env:Env}(f:Str×NameKind->List (Str×Addr) ->Sem (ForInStep (List (Str×Addr))))
  (hf:∀n k cs,f (n,k) cs=if k==NameKind.free then(do let a<-cellOf env n;pure (.yield ((n,a)::cs)))else pure (.yield cs)):
  ∀(ns:List (Str×NameKind))(acc:List (Str×Addr)),(∀y∈ns,y.2= .free->(env.cells.lookup y.1).isSome=true) ->forIn ns acc f=pure (cJ env ns acc)
 | [],acc,_=>by rw[List.forIn_nil];rfl
 |(n,k)::r,acc,h=>by
  rw[List.forIn_cons,hf]
  have hr:∀y∈r,y.2= .free->(env.cells.lookup y.1).isSome=true:=λy hy=>h y (List.mem_cons_of_mem _ hy)
  unfold cJ
  by_cases hk:(k==NameKind.free)=true
  ·rw[if_pos hk,if_pos hk]
   obtain⟨c,hc⟩:=Option.isSome_iff_exists.mp (h (n,k) List.mem_cons_self (beq_iff_eq.mp hk))
   have hc':env.cells.lookup n=some c:=hc
   have e:cellOf env n=pure c:=by unfold cellOf;rw[hc']
   rw[e,pure_bind,pure_bind,hc']
   exact sU f hf r _ hr
  ·rw[if_neg hk,if_neg hk,pure_bind]
   exact sU f hf r _ hr
theorem An{env:Env}{scope:Scope}(h:∀y∈scope.names,y.2= .free->(env.cells.lookup y.1).isSome=true):closureFor scope env=pure (cJ env scope.names []):=by
 simp only[closureFor]
 rw[sU (env:=env) _ (λn k cs=>by cases hk:k==NameKind.free<;>simp[hk]) _ _ h]
 rfl
theorem lT{env:Env}{y:Str}{c:Addr}:∀{ns:List (Str×NameKind)}{acc:List (Str×Addr)},(y,c)∈cJ env ns acc->(y,c)∈acc∨((y,NameKind.free)∈ns/\c=(env.cells.lookup y).getD 0)
 | [],acc,h=> .inl h
 |(n,k)::r,acc,h=>by
  unfold cJ at h
  split at h
  ·rename_i hk
   rcases lT h with h|⟨h,e⟩
   ·rcases List.mem_cons.mp h with e|h
    ·cases e
     exact .inr ⟨by rw[beq_iff_eq.mp hk];exact List.mem_cons_self,rfl⟩
    ·exact .inl h
   ·exact .inr ⟨List.mem_cons_of_mem _ h,e⟩
  ·rcases lT h with h|⟨h,e⟩
   ·exact .inl h
   ·exact .inr ⟨List.mem_cons_of_mem _ h,e⟩
theorem ng{env:Env}{y:Str}:∀{ns:List (Str×NameKind)}{acc:List (Str×Addr)},acc.lookup y=some ((env.cells.lookup y).getD 0)∨(y,NameKind.free)∈ns->(cJ env ns acc).lookup y=some ((env.cells.lookup y).getD 0)
 | [],acc,h=>by
  rcases h with h|h
  ·exact h
  ·cases h
 |(n,k)::r,acc,h=>by
  unfold cJ
  split
  ·rename_i hk
   refine ng ?_
   by_cases hy:y=n
   ·subst hy
    exact .inl (by simp[List.lookup])
   ·have hb:(y==n)=false:=by simpa using hy
    rcases h with h|h
    ·exact .inl (by rw[List.lookup_cons,hb];exact h)
    ·rcases List.mem_cons.mp h with e|h
     ·cases e;exact absurd rfl hy
     ·exact .inr h
  ·rename_i hk
   refine ng ?_
   rcases h with h|h
   ·exact .inl h
   ·rcases List.mem_cons.mp h with e|h
    ·cases e;exact absurd rfl hk
    ·exact .inr h
theorem ic{y:Str}:∀{ns:List (Str×NameKind)}{n:Nat}{acc:List (Str×Addr)},(y,NameKind.cell)∉ns->(cellsFrom n ns acc).lookup y=acc.lookup y
 | [],_,_,_=>rfl
 |(z,k)::r,n,acc,h=>by
  unfold cellsFrom
  have hr:(y,NameKind.cell)∉r:=λq=>h (List.mem_cons_of_mem _ q)
  split
  ·rename_i hk
   rw[ic hr]
   have hy:(y==z)=false:=by
    cases e:y==z with
    |false=>rfl
    |true=>exact absurd (by rw[beq_iff_eq.mp e,beq_iff_eq.mp hk];exact List.mem_cons_self) h
   rw[List.lookup_cons,hy]
  ·exact ic hr
theorem ni{y:Str}{c:Addr}:∀{ns:List (Str×NameKind)}{n:Nat}{acc:List (Str×Addr)},(y,c)∈cellsFrom n ns acc->(y,c)∈acc∨(n<=c/\(y,NameKind.cell)∈ns)
 | [],_,_,h=> .inl h
 |(z,k)::r,n,acc,h=>by
  unfold cellsFrom at h
  split at h
  ·rename_i hk
   rcases ni h with h|⟨h,e⟩
   ·rcases List.mem_cons.mp h with e|h
    ·cases e
     exact .inr ⟨Nat.le_refl _,by rw[beq_iff_eq.mp hk];exact List.mem_cons_self⟩
    ·exact .inl h
   ·exact .inr ⟨by omega,List.mem_cons_of_mem _ e⟩
  ·rcases ni h with h|⟨h,e⟩
   ·exact .inl h
   ·exact .inr ⟨h,List.mem_cons_of_mem _ e⟩
theorem nj:∀{ns:List (Str×NameKind)}{n:Nat}{acc:List (Str×Addr)},(∀x y c,(x,c)∈acc->(y,c)∈acc->x=y) ->(∀y c,(y,c)∈acc->c<n) ->
  ∀x y c,(x,c)∈cellsFrom n ns acc->(y,c)∈cellsFrom n ns acc->x=y
 | [],_,_,h,_=>h
 |(z,k)::r,n,acc,h,hl=>by
  unfold cellsFrom
  split
  ·refine nj (λx y c h1 h2=> ?_) (λy c h1=> ?_)
   ·rcases List.mem_cons.mp h1 with e1|h1<;>rcases List.mem_cons.mp h2 with e2|h2
    ·cases e1;cases e2;rfl
    ·cases e1;exact absurd (hl _ _ h2) (Nat.lt_irrefl _)
    ·cases e2;exact absurd (hl _ _ h1) (Nat.lt_irrefl _)
    ·exact h x y c h1 h2
   ·rcases List.mem_cons.mp h1 with e1|h1
    ·cases e1;exact Nat.lt_succ_self _
    ·exact Nat.lt_succ_of_lt (hl _ _ h1)
  ·exact nj h hl
theorem kH:∀(ns:List (Str×NameKind))(h:Heap)(acc:List (Str×Addr))(y:Str)(c:Addr),(y,c)∈cellsFrom h.objs.size ns acc->(y,c)∈acc∨(pushCells h ns).IsCell c none
 | [],_,_,_,_,hm=> .inl hm
 |(z,k)::r,h,acc,y,c,hm=>by
  unfold cellsFrom at hm
  unfold pushCells
  split at hm
  ·rename_i hk
   rw[if_pos hk]
   have hm':(y,c)∈cellsFrom (h.push {cls:= .type "cell",data:= .cell none}).objs.size r ((z,h.objs.size)::acc):=by rw[Heap.size_push];exact hm
   rcases kH r _ _ y c hm' with hm|hm
   ·rcases List.mem_cons.mp hm with e|hm
    ·cases e
     exact .inr ⟨_,pushCells_keeps _ _ _ _ (Heap.get?_push_size _ rfl),rfl⟩
    ·exact .inl hm
   ·exact .inr hm
  ·rename_i hk
   rw[if_neg hk]
   exact kH r h acc y c hm
def kindB(names:List (Str×NameKind))(y:Str)(k:NameKind):Bool:=names.lookup y==some k
def ym:List Str->Bool
 | []=>true
 |x::r=> !r.contains x && ym r
theorem sV:∀{l:List Str},ym l=true->l.Nodup
 | [],_=>List.nodup_nil
 |x::r,h=>by
  unfold ym at h
  rw[Bool.and_eq_true]at h
  refine List.nodup_cons.mpr ⟨λhm=> ?_,sV h.2⟩
  have:r.contains x=true:=List.contains_iff_mem.mpr hm
  rw[this]at h
  exact absurd h.1 (by decide)
def Gq:List Str->List Str->(Str->Str->Bool) ->Bool
 | [],[],_=>true
 |x::r,y::t,p=>p x y && Gq r t p
 |_,_,_=>false
theorem DP:∀{l m:List Str}{p:Str->Str->Bool},Gq l m p=true->l.length=m.length
 | [],[],_,_=>rfl
 | [],_::_,_,h=>by cases h
 |_::_,[],_,h=>by cases h
 |x::r,y::t,p,h=>by
  unfold Gq at h
  rw[Bool.and_eq_true]at h
  simp[DP h.2]
theorem DQ:∀{l m:List Str}{p:Str->Str->Bool},Gq l m p=true-> ∀(i:Nat)(x:Str),l[i]?=some x-> ∃y,m[i]?=some y/\p x y=true
 | [],[],_,_,i,x,h=>by simp at h
 | [],_::_,_,h,_,_,_=>by cases h
 |_::_,[],_,h,_,_,_=>by cases h
 |x::r,y::t,p,h,0,z,e=>by
  unfold Gq at h
  rw[Bool.and_eq_true]at h
  simp at e;subst e
  exact⟨y,rfl,h.1⟩
 |x::r,y::t,p,h,i+1,z,e=>by
  unfold Gq at h
  rw[Bool.and_eq_true]at h
  obtain⟨w,e1,e2⟩:=DQ h.2 i z (by simpa using e)
  exact⟨w,by simpa using e1,e2⟩
def BQ(names ks:List (Str×NameKind))(own N2 N:List Str):Bool:=
 names.all (λy=>y.2 != .free||kindB ks y.1 .cell||kindB ks y.1 .free) &&
 ym (names.map (·.1)) && ym (own++N2) &&
 names.all (λy=> !(y.2== .local||y.2== .cell)||own.contains y.1||y.1==(".0":Str)) &&
 Gq N2 N (λy z=>(y==z && y !=(".0":Str))||names.lookup y==none) &&
 own.all (λx=>kindB names x .local||kindB names x .cell)
structure uh(names ks:List (Str×NameKind))(own N2 N:List Str):Prop where
 fr:∀y,(y,NameKind.free)∈names->ks.lookup y=some .cell∨ks.lookup y=some .free
 nd:(names.map (·.1)).Nodup
 Rw:(own++N2).Nodup
 owns:∀y k,(y,k)∈names->k= .local∨k= .cell->y∈own∨y=(".0":Str)
 zip:∀(j:Nat)(y:Str),N2[j]?=some y->(N[j]?=some y/\y≠(".0":Str))∨names.lookup y=none
 len:N2.length=N.length
 own:∀x∈own,names.lookup x=some .local∨names.lookup x=some .cell
theorem kI{names ks:List (Str×NameKind)}{own N2 N:List Str}(h:BQ names ks own N2 N=true):uh names ks own N2 N:=by
 unfold BQ at h
 simp only[Bool.and_eq_true]at h
 obtain⟨⟨⟨⟨⟨h1,h2⟩,h3⟩,h4⟩,h5⟩,h6⟩:=h
 refine⟨λy hy=> ?_,sV h2,sV h3,λy k hy hk=> ?_,λj y e=> ?_,DP h5,λx hx=> ?_⟩
 ·have q:=List.all_eq_true.mp h1 _ hy
  simp only[Bool.or_eq_true]at q
  rcases q with(q|q)|q
  ·exact absurd q (by simp)
  ·exact .inl (by simpa [kindB]using q)
  ·exact .inr (by simpa [kindB]using q)
 ·have q:=List.all_eq_true.mp h4 _ hy
  simp only[Bool.or_eq_true]at q
  rcases q with(q|q)|q
  ·rcases hk with rfl|rfl<;>simp at q
  ·exact .inl (List.contains_iff_mem.mp q)
  ·exact .inr (by simpa using q)
 ·obtain⟨z,e1,e2⟩:=DQ h5 j y e
  simp only[Bool.or_eq_true,Bool.and_eq_true]at e2
  rcases e2 with⟨e2,e3⟩|e2
  ·exact .inl ⟨by rw[e1,beq_iff_eq.mp e2],by simpa using e3⟩
  ·exact .inr (by simpa using e2)
 ·have q:=List.all_eq_true.mp h6 _ hx
  simp only[Bool.or_eq_true]at q
  rcases q with q|q
  ·exact .inl (by simpa [kindB]using q)
  ·exact .inr (by simpa [kindB]using q)
theorem c6{α:Type}:∀{l:List (Str×α)}{y:Str}{k:α},(l.map (·.1)).Nodup->(y,k)∈l->l.lookup y=some k
 |(z,v)::r,y,k,nd,h=>by
  rw[List.map_cons,List.nodup_cons]at nd
  rw[List.lookup_cons]
  rcases List.mem_cons.mp h with e|h'
  ·cases e;simp
  ·have:(y==z)=false:=by
    cases e:y==z with
    |false=>rfl
    |true=>
     have e':y=z:=beq_iff_eq.mp e
     have q:y∈r.map (λx=>x.1):=List.mem_map.mpr ⟨(y,k),h',rfl⟩
     exact absurd (by rw[<-e'];exact q) nd.1
   rw[this]
   exact c6 nd.2 h'
theorem lD{sc:Scope}{env:Env}{y:Str}:∀{ns:List (Str×NameKind)},
  (ns.map λ (n,k)=>if(k==NameKind.free && env.scope.kind== .function && env.kindOf n==some .cell)then(n,NameKind.cell)else(n,k)).lookup y=
   (ns.lookup y).map λk=>if(k==NameKind.free && env.scope.kind== .function && env.kindOf y==some .cell)then .cell else k
 | []=>rfl
 |(n,k)::r=>by
  have ih:= @lD sc env y r
  rw[List.map_cons,List.lookup_cons]
  show List.lookup y ((if(k==NameKind.free && env.scope.kind== .function && env.kindOf n==some .cell)=true then(n,NameKind.cell)else(n,k))::_)=_
  cases hx:y==n with
  |true=>
   have e:y=n:=beq_iff_eq.mp hx
   subst e
   by_cases hc:(k==NameKind.free && env.scope.kind== .function && env.kindOf y==some .cell)=true
   ·rw[if_pos hc]
    simp only[List.lookup_cons,hx,Option.map_some,if_pos hc]
   ·rw[if_neg hc]
    simp only[List.lookup_cons,hx,Option.map_some,if_neg hc]
  |false=>
   by_cases hc:(k==NameKind.free && env.scope.kind== .function && env.kindOf n==some .cell)=true
   ·rw[if_pos hc];simp only[List.lookup_cons,hx];exact ih
   ·rw[if_neg hc];simp only[List.lookup_cons,hx];exact ih
def Cx.comp(X:Cx)(sc:Scope)(N':List Str)(s:Shared)(H:Hp)(fp:List Addr):Cx:=
 {X with
  N:=N'
  s₀:=s
  H₀:=H
  env:=compEnvC sc (cellsFrom (s.heap.objs.size+2) sc.names (cJ X.env sc.names [])) (s.heap.objs.size+1) X.env
  outer:=X.stack
  ex:=fp
  fn:=λy=>sc.names.lookup y==some .cell
  pn:=[]
  xe:=λ_ _=>False}
section
variable{X:Cx}{pins:List (Addr×Obj)}{σ:St}{H:Hp}{s:Shared}{sc:Scope}{own N2:List Str}{fp:List Addr}
theorem lU(I:Inv X pins σ H s)(B:uh sc.names X.env.scope.names own N2 X.N):∀y,(y,NameKind.free)∈sc.names-> ∃c,X.env.cells.lookup y=some c:=λy hy=>by
 rcases B.fr y hy with q|q
 ·exact I.ok.has y (.inl q)
 ·exact I.ok.has y (.inr q)
theorem ux(I:Inv X pins σ H s)(B:uh sc.names X.env.scope.names own N2 X.N):closureFor sc X.env=pure (cJ X.env sc.names []):=
 An λy hy hk=>by
  obtain⟨c,e⟩:=lU I B y.1 (by rw[<-hk];exact hy)
  rw[e];rfl
theorem kh(I:Inv X pins σ H s)(B:uh sc.names X.env.scope.names own N2 X.N){n:Nat}{y:Str}{c:Addr}(h:(y,c)∈cellsFrom n sc.names (cJ X.env sc.names [])):
  (n<=c/\(y,NameKind.cell)∈sc.names)∨((y,NameKind.free)∈sc.names/\X.env.cells.lookup y=some c):=by
 rcases ni h with h|h
 ·rcases lT h with h|⟨h,e⟩
  ·cases h
  ·obtain⟨c',e'⟩:=lU I B y h
   rw[e']at e
   exact .inr ⟨h,by rw[e',e];rfl⟩
 ·exact .inl h
theorem pC(I:Inv X pins σ H s)(B:uh sc.names X.env.scope.names own N2 X.N){n:Nat}{y:Str}{c:Addr}(hy:(y,NameKind.free)∈sc.names)(hc:X.env.cells.lookup y=some c):
  (cellsFrom n sc.names (cJ X.env sc.names [])).lookup y=some c:=by
 rw[ic,ng (.inr hy),hc]
 ·rfl
 ·intro q
  have e1:=c6 B.nd hy
  rw[c6 B.nd q]at e1
  cases e1
theorem Kg(I:Inv X pins σ H s)(B:uh sc.names X.env.scope.names own N2 X.N){n:Nat}(hn:s.heap.objs.size<=n){x y:Str}{c:Addr}(h1:(x,c)∈cellsFrom n sc.names (cJ X.env sc.names []))
  (h2:(y,c)∈cellsFrom n sc.names (cJ X.env sc.names [])):x=y:=by
 have old:∀z c,(z,c)∈cJ X.env sc.names [] ->X.env.cells.lookup z=some c:=λz c hm=>by
  rcases lT hm with h|⟨h,e⟩
  ·cases h
  ·obtain⟨c',e'⟩:=lU I B z h
   rw[e']at e
   rw[e',e];rfl
 refine nj (λx y c h1 h2=>I.ok.inj x y c (old _ _ h1) (old _ _ h2)) (λz c hm=> ?_) x y c h1 h2
 obtain⟨v,q⟩:=I.cell z c (old _ _ hm)
 exact Nat.lt_of_lt_of_le q.lt hn
theorem BR(I:Inv X pins σ H s)(B:uh sc.names X.env.scope.names own N2 X.N){n:Nat}{env':Env}{h':Heap}{m:Str->Option Value}{j:Nat}{y:Str}{v:V}(hN:N2[j]?=some y)(hs:σ[j]?=some (some v))
  (hcl:env'.cells=cellsFrom n sc.names (cJ X.env sc.names []))(hkd:∀y,(y,NameKind.free)∈sc.names->env'.kindOf y=some .cell∨env'.kindOf y=some .free)
  (hin:Ui env'.scope y-> ∃k,sc.names.lookup y=some k)(hown:y∉own)
  (keep:∀b o,s.heap.get? b=some o->h'.get? b=some o)(hv:Ui env'.scope y)(hk2:∀k,sc.names.lookup y=some k->k= .local∨k= .cell∨k= .free):∃u,RelV v u/\Look env' h' m y u:=by
 obtain⟨k,hk⟩:=hin hv
 rcases B.zip j y hN with⟨e,n0⟩|e
 ·have hm:=mem_of_lookup hk
  have kf:k= .free:=by
   rcases hk2 k hk with z|z|z
   ·rcases B.owns y k hm (.inl z)with q|q
    ·exact absurd q hown
    ·exact absurd q n0
   ·rcases B.owns y k hm (.inr z)with q|q
    ·exact absurd q hown
    ·exact absurd q n0
   ·exact z
  subst kf
  have hX:Ui X.env.scope y:=by
   rcases B.fr y hm with q|q
   ·exact .inr (.inl q)
   ·exact .inr (.inr q)
  obtain⟨m0,_,hl⟩:=I.loc
  obtain⟨u,r,l⟩:=hl j y v e hs hX
  refine⟨u,r,.inr ⟨hkd y hm,?_⟩⟩
  rcases l with⟨kl,_⟩|⟨_,c,hc,z⟩
  ·rcases B.fr y hm with q|q
   ·have Xv:X.env.scope.names.lookup y=some .local:=kl
    rw[q]at Xv;cases Xv
   ·have Xv:X.env.scope.names.lookup y=some .local:=kl
    rw[q]at Xv;cases Xv
  ·exact⟨c,by rw[hcl];exact pC I B hm hc,z.keeps keep⟩
 ·rw[hk]at e;cases e
end
theorem mU{M:Model}{A:Around}{E:Value->Shared->Prop}{s:Shared}{sc:Scope}{g:Addr}{cl:List (Str×Addr)}{qual:Str}{env:Env}{Q:Env->Shared->Prop}
  (h:Q {scope:=sc,locals:=s.heap.objs.size,globals:=g,cells:=cellsFrom (s.heap.objs.size+1) sc.names cl,qual:=qual,func:=none,code:=env.code,frame:=env.frame,builtins:=env.builtins}
   {s with heap:=pushCells (s.heap.push {cls:= .type "dict",data:= .dict #[]}) sc.names}):
  wpAny M A (newFunctionEnv sc g cl [] qual none .none (some env)) Q E s:=by
 simp only[newFunctionEnv,Option.isSome_some,if_true]
 refine wpAny_bind (wpAny_alloc ?_)
 refine wpAny_bind (wpAny_layCells _ (λname kind cells=>by cases hkc:kind==NameKind.cell<;>simp[hkc]) _ _ _ _ ?_)
 rw[show({s with heap:=s.heap.push {cls:= .type "dict",data:= .dict #[]}}:Shared).heap.objs.size=s.heap.objs.size+1 from Heap.size_push ..]
 simp only[List.forIn_nil]
 exact wpAny_bind (wpAny_pure (wpAny_pure h))
section
variable{X:Cx}{pins:List (Addr×Obj)}{σ:St}{H:Hp}{s:Shared}{sc:Scope}{own N2:List Str}{fp:List Addr}
theorem yo{env:Env}{y:Str}(hv:Ui (relabel sc env) y):∃k,sc.names.lookup y=some k/\(k= .local∨k= .cell∨k= .free):=by
 have q:∀k,(relabel sc env).names.lookup y=some k->(k= .local∨k= .cell∨k= .free) -> ∃k,sc.names.lookup y=some k/\(k= .local∨k= .cell∨k= .free):=λk e hk=>by
  have e':=(lD (sc:=sc) (env:=env) (y:=y) (ns:=sc.names)).symm.trans e
  cases z:sc.names.lookup y with
  |none=>rw[z]at e';cases e'
  |some k0=>
   rw[z]at e'
   simp only[Option.map_some,Option.some.injEq]at e'
   refine⟨k0,rfl,?_⟩
   split at e'
   ·rename_i hc
    simp only[Bool.and_eq_true]at hc
    exact .inr (.inr (by simpa using hc.1.1))
   ·rw[e'];exact hk
 rcases hv with e|e|e
 ·exact q _ e (.inl rfl)
 ·exact q _ e (.inr (.inl rfl))
 ·exact q _ e (.inr (.inr rfl))
theorem kind_free(B:uh sc.names X.env.scope.names own N2 X.N){env:Env}{y:Str}(hy:(y,NameKind.free)∈sc.names):(relabel sc env).names.lookup y=some .cell∨(relabel sc env).names.lookup y=some .free:=by
 have e:=lD (sc:=sc) (env:=env) (y:=y) (ns:=sc.names)
 rw[c6 B.nd hy]at e
 simp only[Option.map_some]at e
 split at e
 ·exact .inl e
 ·exact .inr e
theorem lV{env:Env}{y:Str}{k:NameKind}(hy:sc.names.lookup y=some k)(hk:k= .local∨k= .cell):(relabel sc env).names.lookup y=some k:=by
 have e:=lD (sc:=sc) (env:=env) (y:=y) (ns:=sc.names)
 rw[hy]at e
 simp only[Option.map_some]at e
 rcases hk with rfl|rfl
 ·exact e
 ·exact e
theorem Rx(I:Inv X pins σ H s)(B:uh sc.names X.env.scope.names own N2 X.N)(hk:sc.kind= .function)(hf:∀b∈fp,gn X pins H b)(ho:∀b∈fp,∃o,s.heap.get? b=some o):(X.comp sc (own++N2) s H fp).Ok:=by
 have lt:∀b∈fp,b<s.heap.objs.size:=λb hb=>let⟨o,e⟩:=ho b hb;Heap.lt_size e
 have lB:∀y c,(cellsFrom (s.heap.objs.size+2) sc.names (cJ X.env sc.names [])).lookup y=some c->(s.heap.objs.size+2<=c/\(y,NameKind.cell)∈sc.names)∨((y,NameKind.free)∈sc.names/\X.env.cells.lookup y=some c):=
  λy c h=>kh I B (mem_of_lookup h)
 refine⟨I.ok.mod,hk,I.ok.glob,I.ok.blt,Nat.le_succ _,λx y c h1 h2=> ?_,λy hy=> ?_,λy c hy hc=> ?_,I.ok.hd,I.ok.frames,.inl rfl,λb hb=>⟨?_,λy c hc=> ?_⟩,I.bs,Nat.le_trans I.ok.ID I.sz,λb o e hb=> ?_,λb hb hs=> ?_,I.stack,I.uq⟩
 ·exact Kg I B (by omega) (mem_of_lookup h1) (mem_of_lookup h2)
 ·have hy':(relabel sc X.env).names.lookup y=some .cell∨(relabel sc X.env).names.lookup y=some .free:=hy
  obtain⟨k,e,Uq⟩:=yo (env:=X.env) (y:=y) (sc:=sc) (by rcases hy' with q|q;exact .inr (.inl q);exact .inr (.inr q))
  rcases Uq with rfl|rfl|rfl
  ·have:=lV (env:=X.env) e (.inl rfl)
   rcases hy' with q|q
   ·rw[q]at this;cases this
   ·rw[q]at this;cases this
  ·exact Option.isSome_iff_exists.mp (PySem.W.cellsFrom_some sc.names _ _ (.inl e))
  ·obtain⟨c,hc⟩:=lU I B y (mem_of_lookup e)
   exact⟨c,pC I B (mem_of_lookup e) hc⟩
 ·have hy':sc.names.lookup y=some .cell:=by
   have q:(sc.names.lookup y==some NameKind.cell)=true:=hy
   simpa using q
  rcases lB y c hc with⟨q,_⟩|⟨q,_⟩
  ·show s.heap.objs.size<=c
   omega
  ·rw[c6 B.nd q]at hy';cases hy'
 ·exact Nat.ne_of_lt (Nat.lt_succ_of_lt (lt b hb))
 ·have hl:=lt b hb
  rcases lB y c hc with⟨q,_⟩|⟨_,q⟩
  ·exact Nat.ne_of_gt (Nat.lt_of_lt_of_le hl (Nat.le_trans (Nat.le_add_right _ 2) q))
  ·exact(hf b hb).2.2.2.2.1 y c q
 ·rcases(hf b hb).2.2.2.1 with z|z
  ·exact I.ok.BK b o e z
  ·exact absurd (Nat.lt_of_lt_of_le (Heap.lt_size (I.ok.bs b o e).1) z) (Nat.lt_irrefl _)
 ·rcases List.mem_cons.mp (I.sQ b hs)with e|e
  ·exact(hf b hb).2.1 e
  ·exact(hf b hb).2.2.1 e
theorem DR(I:Inv X pins σ H s)(B:uh sc.names X.env.scope.names own N2 X.N)(hk:sc.kind= .function)(hf:∀b∈fp,gn X pins H b)(ho:∀b∈fp,∃o,s.heap.get? b=some o):
  Inv (X.comp sc (own++N2) s H fp) [] (List.replicate own.length none++σ) (upd H s.heap.objs.size (.lst []))
   {s with heap:=pushCells ((s.heap.push {cls:= .type "list",dict:=none,data:= .seq ([]:List Value).toArray}).push {cls:= .type "dict",data:= .dict #[]}) sc.names}:=by
 have k1:∀b o,(s.heap.push {cls:= .type "list",dict:=none,data:= .seq ([]:List Value).toArray}).get? b=some o->
   (pushCells ((s.heap.push {cls:= .type "list",dict:=none,data:= .seq ([]:List Value).toArray}).push {cls:= .type "dict",data:= .dict #[]}) sc.names).get? b=some o:=
  λb o e=>pushCells_keeps _ _ b o (Heap.get?_push_of_some _ e)
 have k0:∀b o,s.heap.get? b=some o->
   (pushCells ((s.heap.push {cls:= .type "list",dict:=none,data:= .seq ([]:List Value).toArray}).push {cls:= .type "dict",data:= .dict #[]}) sc.names).get? b=some o:=
  λb o e=>k1 b o (Heap.get?_push_of_some _ e)
 have sz:((s.heap.push {cls:= .type "list",dict:=none,data:= .seq ([]:List Value).toArray}).push {cls:= .type "dict",data:= .dict #[]}).objs.size=s.heap.objs.size+2:=by rw[Heap.size_push,Heap.size_push]
 have lB:∀y c,(cellsFrom (s.heap.objs.size+2) sc.names (cJ X.env sc.names [])).lookup y=some c->(s.heap.objs.size+2<=c/\(y,NameKind.cell)∈sc.names)∨((y,NameKind.free)∈sc.names/\X.env.cells.lookup y=some c):=
  λy c h=>kh I B (mem_of_lookup h)
 have MU:∀b,s.heap.objs.size<b->upd H s.heap.objs.size (.lst []) b=none:=λb hb=>by
  rw[aH (Nat.ne_of_gt hb)]
  exact I.hok.fresh (Nat.le_of_lt hb)
 refine⟨Rx I B hk hf ho,rfl,.refl I.bare.bare,Un.laid k0 (Nat.le_refl _) I.fresh,⟨λ_=>none,?_,λi y v e1 e2 e3=> ?_⟩,λy c hc=> ?_,MU _ (Nat.lt_succ_self _),λy c hc=> ?_,λp hp=> ?_,I.hok.laid k0 (Nat.le_refl _) ?_,?_⟩
 ·have:=Heap.Ns.new (s.heap.push {cls:= .type "list",dict:=none,data:= .seq ([]:List Value).toArray}) (.type "dict")
  rw[Heap.size_push]at this
  exact this.keeps (pushCells_keeps _ _)
 ·by_cases hi:i<own.length
  ·rw[List.getElem?_append_left (by simpa using hi),List.getElem?_replicate]at e2
   split at e2<;>cases e2
  ·have Kh:(own++N2)[i]?=some y:=e1
   have hi':own.length<=i:=by omega
   rw[List.getElem?_append_right (by simpa using hi'),List.length_replicate]at e2
   rw[List.getElem?_append_right hi']at Kh
   have hown:y∉own:=λhm=>by
    have nd:=B.Rw
    rw[List.nodup_append]at nd
    exact nd.2.2 y hm y (List.mem_of_getElem? Kh) rfl
   refine BR I B (n:=s.heap.objs.size+2) Kh e2 rfl (λz hz=>kind_free B hz) (λhv=>let⟨k,e,_⟩:=yo hv;⟨k,e⟩) hown k0 e3 (λk e=> ?_)
   obtain⟨k',e',hk'⟩:=yo (sc:=sc) e3
   rw[e]at e';cases e'
   exact hk'
 ·rcases kH sc.names ((s.heap.push {cls:= .type "list",dict:=none,data:= .seq ([]:List Value).toArray}).push {cls:= .type "dict",data:= .dict #[]}) (cJ X.env sc.names []) y c (by rw[sz];exact mem_of_lookup hc)with q|q
  ·rcases lT q with z|⟨z,e⟩
   ·cases z
   ·obtain⟨c',e'⟩:=lU I B y z
    rw[e']at e
    have e2:c=c':=e
    subst e2
    obtain⟨v,w⟩:=I.cell y c e'
    exact⟨v,w.keeps k0⟩
  ·exact⟨none,q⟩
 ·rcases lB y c hc with⟨q,_⟩|⟨_,q⟩
  ·exact MU c (by omega)
  ·obtain⟨v,w⟩:=I.cell y c q
   rw[aH (Nat.ne_of_lt w.lt)]
   exact I.jO y c q
 ·have Af:p∈([]:List (Addr×Obj)):=hp
  cases Af
 ·exact⟨Nat.zero_le _,[],0,.nil,k1 _ _ (Heap.get?_push_size _ rfl)⟩
 ·show(List.replicate own.length none++σ).length=(own++N2).length
  rw[List.length_append,List.length_append,List.length_replicate,I.len,B.len]
theorem Inv.BS{σ':St}{H':Hp}{s':Shared}{N':List Str}(I:Inv X pins σ H s)(hf:∀b∈fp,gn X pins H b)(J:Inv (X.comp sc N' s H fp) [] σ' H' s'):Inv X pins σ H' s':=
 I.AZ (ch:=fp) J.os J.base J.hok J.bare λb hb=>⟨(hf b hb).2.2.2.1,(hf b hb).2.1,(hf b hb).2.2.2.2.1,(hf b hb).2.2.2.2.2⟩
end
section
variable{prog:Program}{w:World}{A:Around}{R:Result->Shared->Prop}{s:Shared}
theorem qE{elt target iter:Expr}{scope:Scope}{pos:Pos}{it acc:Value}{env:Env}(I:Nat->Shared->Prop)
  (turn:∀n s,I n s->wpAny (model prog w) A (pyNext it) (λr s₁=>match r with
   |none=>R (.ok .next) s₁
   |some v=>wpAny (model prog w) A (letOwnedTupleGo target it v) (λ_ s₁'=>wpAny (model prog w) A (assign target env v) (λ_ s₂=>wpAny (model prog w) A (eval elt env) (λx s₃=>
     wpAny (model prog w) A (call (.builtin "list.append") [acc,x]) (λ_ s₄=> ∃m,m<n/\I m s₄) (λ_ _=>False) s₃)
     (λ_ _=>False) s₂) (λ_ _=>False) s₁') (λ_ _=>False) s₁) (λ_ _=>False) s)
  (n:Nat)(h:I n s):
  codeAny (model prog w) A (.compLoop (.ListComp elt [⟨target,iter,[],0⟩] scope pos) 0 it acc env) R s:=by
 refine codeAny_loop rfl I (λn s hI=> ?_) n h
 show wpAny _ _ ((compTurn (.ListComp elt [⟨target,iter,[],0⟩] scope pos) 0 it acc env).onRaise (λx=>do noteFrame x env;theTreesLotGoes x)) _ _ s
 refine wpAny_noted ?_
 rw[compTurn_list1]
 refine wpAny_bind (wpAny_standAt (wpAny_bind (wpAny_mono (turn n s hI) (λr s₁ h₁=> ?_) λ_ _ h'=>h'.elim)))
 cases r with
 |none=>exact wpAny_pure h₁
 |some v=>
  exact wpAny_bind (wpAny_mono h₁ (λ_ s₁' h₁'=>wpAny_bind (wpAny_mono h₁' (λ_ s₂ h₂=>wpAny_bind (wpAny_bind (wpAny_mono h₂ (λx s₃ h₃=>wpAny_bind (wpAny_mono h₃
   (λ_ s₄ h₄=>wpAny_pure (wpAny_pure ⟨rfl,h₄⟩)) λ_ _ h'=>h'.elim)) λ_ _ h'=>h'.elim))) λ_ _ h'=>h'.elim)) λ_ _ h'=>h'.elim)
end
def qF(k:Nat)(g:TG)(te:TE)(σ:St)(J:It)(H1:Hp)(D:Addr)(Q:VK):Prop:=∃W:Nat->Nat->List V->St->Hp->Prop,(∃m,W 0 m [] (List.replicate k none++σ) (upd H1 D (.lst [])))/\
 ∀i m acc σ' H',W i m acc σ' H'->(J.stop i H'/\H' D=some (.lst acc)/\Q (.ref D) H')∨
  (J.go i H'/\acc.length<sizeLine/\ ∀x H2,J.Ba i H' x H2->g x σ' H2 λσ3 H3=>te σ3 H3 λv H4=>H4 D=some (.lst acc)/\ ∃m',m'<m/\W (i+1) m' (acc++ [v]) σ3 (upd H4 D (.lst (acc++ [v]))))
def oB(k:Nat)(wi:TI)(g:TG)(te:TE):TE:=λσ H Q=>wi σ H λJ H1=> ∀D,H1 D=none->qF k g te σ J H1 D Q
section
variable{X:Cx}{sc:Scope}{own N2:List Str}
theorem yp{elt iter tg:Expr}{pos Vh:Pos}{wi:TI}{g:TG}{te:TE}{use:Option (Value->Sem Unit)}{Qf:Value->Shared->Prop}(hc:X.calm=true)(hi:PI X tg iter wi)(B:uh sc.names X.env.scope.names own N2 X.N)(hk:sc.kind= .function)
  (hg:∀s H fp,PG (X.comp sc (own++N2) s H fp) tg g)(he:∀s H fp,PE (X.comp sc (own++N2) s H fp) elt te)
  (hs:∀x,foldedSetIterable iter X.env x=pure x){pins:List (Addr×Obj)}{s0:Shared}{σ:St}{H0:Hp}{Q:VK}(I0:Inv X pins σ H0 s0)(h0:oB own.length wi g te σ H0 Q)
  (Vi:∀s H fp,Inv X pins σ H s->(∀b∈fp,gn X pins H b) -> ∀(σ':St)(H':Hp)(s':Shared),Inv (X.comp sc (own++N2) s H fp) [] σ' H' s'->Q (.ref s.heap.objs.size) H'->
   compPost (model X.prog X.w) X.A X.xe use Qf (.ref s.heap.objs.size) (s.heap.objs.size+1) (.ok .next) s'):
  wpAny (model X.prog X.w) X.A (comprehension (.ListComp elt [⟨tg,iter,[],0⟩] sc pos) sc X.env Vh (newList []) false (eval iter X.env) use) Qf X.xe s0:=by
 refine wpAny_comprehension_free (use:=use) rfl hs (ux I0 B) hk (λy hy hl=>c6 B.nd (by rw[<-hl];exact hy)) ?_
 refine wpAny_mono (hi pins s0 σ H0 _ I0 h0) (λv s1 h1=>wpAny_mono h1 (λitv s h2=> ?_) λ_ _ e=>e) λ_ _ e=>e
 obtain⟨it,fp,tn,J,H,e,I,T,st,hf,rd⟩:=h2
 subst e
 have ho:∀b∈fp,∃o,s.heap.get? b=some o:=λb hb=>let⟨o,e,_⟩:=T.obj 0 _ st b hb;⟨o,e⟩
 obtain⟨W,⟨m0,w0⟩,turn⟩:=rd s.heap.objs.size I.fresh
 refine wpAny_newObj_type ?_
 refine mU ?_
 have IB:=DR I B hk hf ho
 have Vj:∀{H':Hp},(∀b∈fp,H' b=none) -> ∀b∈fp,gn (X.comp sc (own++N2) s H fp) [] H' b:=λhn b hb=>by
  have ok:=IB.ok
  refine⟨hn b hb,(ok.MC b hb).1,ok.Aj b hb,.inl hb,λy c hc=>(ok.MC b hb).2 y c hc,λp hp=> ?_⟩
  have Af:p∈([]:List (Addr×Obj)):=hp
  cases Af
 have lt:∀b∈fp,b≠s.heap.objs.size:=λb hb=>let⟨o,e⟩:=ho b hb;Nat.ne_of_lt (Heap.lt_size e)
 have fin:=Vi s H fp I hf
 have loop:∀s3:Shared,s3={s with heap:=pushCells ((s.heap.push {cls:= .type "list",dict:=none,data:= .seq ([]:List Value).toArray}).push {cls:= .type "dict",data:= .dict #[]}) sc.names} ->
   codeAny (model X.prog X.w) X.A (.compLoop (.ListComp elt [⟨tg,iter,[],0⟩] sc pos) 0 (.ref it) (.ref s.heap.objs.size) (X.comp sc (own++N2) s H fp).env)
    (compPost (model X.prog X.w) X.A X.xe use Qf (.ref s.heap.objs.size) (s.heap.objs.size+1)) s3:=by
  rintro s3 rfl
  refine qE (λn s'=> ∃i acc σ' H',Inv (X.comp sc (own++N2) s H fp) [] σ' H' s'/\tn i s'.heap/\(∀b∈fp,H' b=none)/\W i n acc σ' H') ?_ m0
   ⟨0,[],_,_,IB,T.keep _ _ _ st λb _ o e=>pushCells_keeps _ _ b o (Heap.get?_push_of_some _ (Heap.get?_push_of_some _ e)),λb hb=> ?_,w0⟩
  ·rintro n s3 ⟨i,acc,σ3,H3,I3,st3,QO,w3⟩
   rcases turn i n acc σ3 H3 w3 with⟨stop,hD,qn⟩|⟨go,hz,step⟩
   ·refine gj (T.done (X.comp sc (own++N2) s H fp) rfl rfl rfl hc i [] s3 σ3 H3 _ I3 (Vj QO) st3 stop) λr s4 ⟨hr,I4⟩=> ?_
    subst hr
    exact fin σ3 H3 s4 I4 qn
   ·refine gj (T.item (X.comp sc (own++N2) s H fp) rfl rfl rfl hc i [] s3 σ3 H3 _ I3 (Vj QO) st3 go) λr s4 ⟨u,hr,h4⟩=> ?_
    subst hr
    refine gj h4 λ_ s5 ⟨x,H5,I5,r5,y5,JT,Xj⟩=> ?_
    have Xk:=I5.pinned (Vj Xj) (T.obj _ _ JT)
    refine gj (hg s H fp _ s5 σ3 H5 x u _ Xk r5 (step x H5 y5)) λ_ s6 ⟨MM,H6,I6,q6⟩=> ?_
    refine gj (he s H fp _ s6 MM H6 _ I6 q6) λv s7 ⟨y,H7,I7,r7,Wz,m',hm',w7⟩=> ?_
    refine gj (jQ _ s7 MM H7 (.ref s.heap.objs.size) [y] (.ref s.heap.objs.size) [v] (λz H8=>z= .fP/\H8=upd H7 s.heap.objs.size (.lst (acc++ [y]))) I7 rfl (.cons r7 .nil) ⟨s.heap.objs.size,acc,y,rfl,rfl,Wz,hz,rfl,rfl⟩) λz s8 ⟨zz,H8,I8,_,_,e8⟩=> ?_
    subst e8
    refine⟨m',hm',i+1,acc++ [y],MM,_,I8.jv,T.keep _ _ _ JT λb hb o e=>(I8.pin (b,o) (List.mem_append_right _ (List.mem_append_right _ (bU hb e)))).1,λb hb=> ?_,w7⟩
    obtain⟨o,e,d⟩:=T.obj _ _ JT b hb
    exact(I8.pin (b,o) (List.mem_append_right _ (List.mem_append_right _ (bU hb e)))).2.1
  ·rw[aH (lt b hb)]
   exact(hf b hb).1
 have e1:(s.heap.push {cls:= .type "list",dict:=none,data:= .seq ([]:List Value).toArray}).objs.size=s.heap.objs.size+1:=Heap.size_push ..
 dsimp only
 rw[e1]
 exact codeAny_compStart_list (loop _ rfl) (T.self _ 0 _ _ _ (T.keep _ _ _ st λb _ o e=>pushCells_keeps _ _ b o (Heap.get?_push_of_some _ (Heap.get?_push_of_some _ e))) (loop _ rfl))
theorem Inv.IP{pins:List (Addr×Obj)}{σ σ1:St}{H H1:Hp}{s s1:Shared}{h':Heap}(I:Inv X pins σ H s)(I1:Inv X pins σ1 H1 s1)(hn:H1 (s.heap.objs.size+1)=none)(sb:Heap.SameBut (s.heap.objs.size+1) s1.heap h'):Inv X pins σ1 H1 {s1 with heap:=h'}:=by
 have ne:∀b o,s.heap.get? b=some o->b≠s.heap.objs.size+1:=λb o e=>Nat.ne_of_lt (Nat.lt_succ_of_lt (Heap.lt_size e))
 refine I1.turned (it:=s.heap.objs.size+1) (t':=s1.toks) (λb o hb e=>(sb.2 b hb).trans e) hn (Nat.ne_of_gt (Nat.lt_succ_of_lt I.lt)) (.inr (Nat.le_succ_of_le I.sz)) (λy c e=> ?_) (λp hp=>ne _ _ (I.pin p hp).1)
 obtain⟨v,w⟩:=I.cell y c e
 exact Nat.ne_of_lt (Nat.lt_succ_of_lt w.lt)
theorem DS{elt iter tg:Expr}{pos:Pos}{wi:TI}{g:TG}{te:TE}(hc:X.calm=true)(hi:PI X tg iter wi)(B:uh sc.names X.env.scope.names own N2 X.N)(hk:sc.kind= .function)
  (hg:∀s H fp,PG (X.comp sc (own++N2) s H fp) tg g)(he:∀s H fp,PE (X.comp sc (own++N2) s H fp) elt te)
  (hs:∀x,foldedSetIterable iter X.env x=pure x:=by intro _;rfl):PE X (.ListComp elt [⟨tg,iter,[],0⟩] sc pos) (oB own.length wi g te):=by
 intro pins s0 σ H0 Q I0 h0
 rw[eval_ListComp]
 refine yp (use:=none) hc hi B hk hg he hs I0 h0 λs H fp I hf σ' H' s' JB q=> ?_
 obtain⟨m,hn,_⟩:=JB.loc
 exact⟨m,hn,λh' sb=>⟨.ref s.heap.objs.size,H',I.IP (I.BS hf JB) JB.free sb,rfl,q⟩⟩
theorem MV{i:Nat}{y:Str}{py spos:Pos}{elt iter tg:Expr}{pos:Pos}{wi:TI}{g:TG}{te:TE}(hN:X.N.Nodup)(hi':X.N[i]?=some y)(hy:X.env.scope.names.lookup y=some .local)(hc:X.calm=true)(hi:PI X tg iter wi)(B:uh sc.names X.env.scope.names own N2 X.N)(hk:sc.kind= .function)
  (hg:∀s H fp,PG (X.comp sc (own++N2) s H fp) tg g)(he:∀s H fp,PE (X.comp sc (own++N2) s H fp) elt te)
  (hsw:swapsWith (.ListComp elt [⟨tg,iter,[],0⟩] sc pos) (some (.Name y py)) spos.line X.env=pure true:=by rfl)(hs:∀x,foldedSetIterable iter X.env x=pure x:=by intro _;rfl):
  PS X (.Assign [.Name y py] (.ListComp elt [⟨tg,iter,[],0⟩] sc pos) spos) (BL (oB own.length wi g te) (dX i)):=by
 intro pins s0 σ H0 D I0 h0
 rw[exec_Assign_Name_used _ _ _ _ hsw]
 refine wpAny_bind (wpAny_standAt (wpAny_bind ?_))
 show wpAny _ X.A (do let _<-comprehension (.ListComp elt [⟨tg,iter,[],0⟩] sc pos) sc X.env _ (newList []) false (eval iter X.env) (some (assign (.Name y py) X.env))) _ _ s0
 refine wpAny_bind (wpAny_mono (yp (use:=some (assign (.Name y py) X.env)) (Qf:=λ_ s'=>SP X pins D .next s') hc hi B hk hg he hs I0 h0 λs H fp I hf σ' H' s' JB q=> ?_) (λ_ s' hq=>wpAny_pure (wpAny_pure hq)) λ_ _ e=>e)
 have IX:=I.BS hf JB
 refine wpAny_assign_Name (vG IX hN hi' (.inl hy) (v:= .ref s.heap.objs.size) rfl (λs2 I2 ⟨a,WA,ha⟩=> ?_) (.inr hy))
 obtain⟨m,hn,_⟩:=JB.loc
 have ea:a=X.env.locals∨a<s.heap.objs.size:=by
  rcases ha with z|z
  ·exact .inl z
  ·obtain⟨v,w⟩:=I.cell y a z
   exact .inr w.lt
 have Uk:s.heap.objs.size+1≠a:=by
  rcases ea with z|z
  ·rw[z];exact Nat.ne_of_gt (Nat.lt_succ_of_lt I.lt)
  ·exact Nat.ne_of_gt (Nat.lt_succ_of_lt z)
 refine⟨m,hn.sameBut WA Uk,λh' sb=>⟨_,H',I.IP I2 JB.free sb,q⟩⟩
end
def cj(P:Addr):HO:= .ext λh=> ∃ps:Array Value,h.get? P=some {cls:= .none,data:= .fields ps}/\TriplesOk ps.toList
structure gR(K:PySem.W.Frag)(cd:Value)(P:Addr):Prop where
 ex:∃(c:Addr)(o:Obj)(vs:Array Value)(file:Str)(tf:Tok)(flags:Int)(tg:Tok)(MW:Bool)(text:Int)(tt:Tok),cd= .ref c/\K.lookup c=some o/\o.cls= .type "code"/\o.data= .fields vs/\vs[11]?=some (.ref P)/\
  vs.getD 18 .none= .str file tf/\vs.getD 7 .none= .int flags tg/\vs.getD 9 .none= .bool MW/\vs.getD 10 .none= .int text tt
theorem MX{P:Program}{w:World}{H:Hp}{h:Heap}{T:Addr}{ps:Array Value}(e:h.get? T=some {cls:= .none,data:= .fields ps})(t:TriplesOk ps.toList):fX P w H h T (cj T):=
 ⟨⟨ps,e,t⟩,⟨_,e⟩,λh1 h2 ⟨qs,e1,t1⟩ k=>⟨qs,k _ e1,t1⟩⟩
theorem MY{H:Hp}{a:Addr}{o:HO}(h:H a=some o):upd H a o=H:=by
 funext b
 unfold upd
 split
 ·rename_i e;rw[e,h]
 ·rfl
section
variable{X:Cx}{pins:List (Addr×Obj)}{σ:St}{H:Hp}{s:Shared}{P:Addr}
theorem Gr{pos:Pos}{qn:Str}{sc:Scope}{Q:Value->Shared->Prop}{E:Value->Shared->Prop}{M:Model}{A:Around}(I:Inv X pins σ H s)(hcd:gR X.K X.env.code P)(hP:H P=some (cj P))
  (h:∀code h' tk,Inv X pins σ H {s with heap:=h',toks:=tk} ->Heap.ExtBut P s.heap h'->Q code {s with heap:=h',toks:=tk}):wpAny M A (genexprCode X.env pos qn sc) Q E s:=by
 obtain⟨c,o,vs,file,tf,flags,tg,MW,text,tt,ec,hc,hcl,hd,h11,Xw,h7,h9,Xx⟩:=hcd.ex
 obtain⟨⟨ps,eP,tr⟩,_,_⟩:=I.hok P _ hP
 have hcs:s.heap.get? c=some o:=I.xh c o hc
 have hcn:H c=none:=(I.bs c o (I.ok.mod.BJ c o hc)).2
 have ne:c≠P:=λe=>by rw[e,hP]at hcn;cases hcn
 have Vk:vs.getD 11 .none= .ref P:=by
  have:vs.getD 11 .none=(vs[11]?).getD .none:=by simp
  rw[this,h11];rfl
 have code:s.heap.IsCode c P ps:=⟨o,vs,file,tf,flags,tg,MW,text,tt,_,hcs,hd,Vk,Xw,h7,h9,Xx,eP,rfl,tr,ne⟩
 have tab:s.heap.TableAt c P ps:=⟨⟨o,vs,hcs,hcl,hd,h11⟩,eP⟩
 cases q:codeAmong pos ps.toList with
 |some c'=>exact wpAny_genexprCode_hit ec code q (h c' s.heap s.toks I (λ_ _ _ e=>e))
 |none=>
  refine wpAny_genexprCodeX ec code tab q λc' h' tk hx _ _ Vl _ MZ _=>h _ h' tk ?_ hx
  have I':=I.write (x:=P) (e:=P) (o:=cj P) (h':=h') (t':=tk) (by rw[hP];exact trivial) (.inl rfl) (λb u hb e=>hx b u hb e) ⟨_,MZ.2⟩
   (MX MZ.2 (by obtain⟨_,_,_,_,_,_,_,_,_,op,_,_,_,_,_,_,_,e1,e2,e3,_⟩:=Vl;rw[MZ.2]at e1;cases e1;exact e3))
  rw[MY hP]at I'
  exact I'
end
def BM(mg:Str->Option Value)(base:Heap):Prop:=∃bm ob,mg "__builtins__"=some (.ref bm)/\bm≠builtinsNs/\base.get? bm=some ob/\ob.cls= .type "module"/\ob.dict=some builtinsNs/\ob.data= .plain
def Ry(B:Around)(cenv:Env):Around:={handled:=B.handled,depth:=B.depth+1,frames:=B.frames.map (cenv:: ·),guards:=B.guards,units:=B.units+3}
def Cx.gen(X:Cx)(B:Around)(sc:Scope)(N':List Str)(code:Value)(s:Shared)(H:Hp)(fp:List Addr):Cx:=
 {X with
  N:=N'
  s₀:={s with gens:=s.gens.push .running}
  H₀:=H
  A:=Ry B (genEnv sc (cJ X.env sc.names []) s.heap.objs.size code builtinsNs X.env)
  env:=genEnv sc (cJ X.env sc.names []) s.heap.objs.size code builtinsNs X.env
  outer:=X.stack
  stack:=genEnv sc (cJ X.env sc.names []) s.heap.objs.size code builtinsNs X.env::X.stack
  ex:=fp
  fn:=λ_=>false
  pn:=[]
  xe:=λ_ _=>False}
section
variable{X:Cx}{pins:List (Addr×Obj)}{σ:St}{H:Hp}{s:Shared}{sc:Scope}{own N2:List Str}{fp:List Addr}{B:Around}{code:Value}
theorem rT{sc:Scope}{y:Str}(hv:Ui sc y):∃k,sc.names.lookup y=some k/\(k= .local∨k= .cell∨k= .free):=by
 rcases hv with e|e|e
 ·exact⟨_,e,.inl rfl⟩
 ·exact⟨_,e,.inr (.inl rfl)⟩
 ·exact⟨_,e,.inr (.inr rfl)⟩
theorem f6{n:Nat}:∀{ns:List (Str×NameKind)}{acc:List (Str×Addr)},(∀y∈ns,y.2≠ .cell) ->cellsFrom n ns acc=acc
 | [],_,_=>rfl
 |(y,k)::r,acc,h=>by
  unfold cellsFrom
  have hk:(k==NameKind.cell)=false:=by simpa using h (y,k) List.mem_cons_self
  rw[hk]
  exact f6 λz hz=>h z (List.mem_cons_of_mem _ hz)
theorem Vm(I:Inv X pins σ H s)(Bk:uh sc.names X.env.scope.names own N2 X.N)(hk:sc.kind= .function)(hnc:∀y∈sc.names,y.2≠ .cell)(hf:∀b∈fp,gn X pins H b)(ho:∀b∈fp,∃o,s.heap.get? b=some o)
  (hB:B.frames=some X.stack)(hh:B.handled=none):(X.gen B sc (own++N2) code s H fp).Ok:=by
 have lt:∀b∈fp,b<s.heap.objs.size:=λb hb=>let⟨o,e⟩:=ho b hb;Heap.lt_size e
 have lB:∀y c,(cJ X.env sc.names []).lookup y=some c->(y,NameKind.free)∈sc.names/\X.env.cells.lookup y=some c:=λy c h=>by
  have h':(cellsFrom 0 sc.names (cJ X.env sc.names [])).lookup y=some c:=by rw[f6 hnc];exact h
  rcases kh I Bk (mem_of_lookup h')with⟨_,q⟩|q
  ·exact absurd rfl (hnc _ q)
  ·exact q
 refine⟨I.ok.mod,hk,I.ok.glob,rfl,Nat.le_refl _,λx y c h1 h2=> ?_,λy hy=> ?_,λy c hy hc=>absurd hy (by show ¬(false=true);decide),λ_=>hh,?_,.inr ⟨rfl,rfl⟩,λb hb=>⟨?_,λy c hc=> ?_⟩,I.bs,Nat.le_trans I.ok.ID I.sz,λb o e hb=> ?_,λb hb hs=> ?_,I.stack,I.uq⟩
 ·exact I.ok.inj x y c (lB x c h1).2 (lB y c h2).2
 ·have hy':sc.names.lookup y=some .cell∨sc.names.lookup y=some .free:=hy
  rcases hy' with e|e
  ·exact absurd rfl (hnc _ (mem_of_lookup e))
  ·obtain⟨c,hc⟩:=lU I Bk y (mem_of_lookup e)
   have:=pC (n:=0) I Bk (mem_of_lookup e) hc
   rw[f6 hnc]at this
   exact⟨c,this⟩
 ·show B.frames.map _=_
  rw[hB];rfl
 ·exact Nat.ne_of_lt (lt b hb)
 ·exact(hf b hb).2.2.2.2.1 y c (lB y c hc).2
 ·rcases(hf b hb).2.2.2.1 with z|z
  ·exact I.ok.BK b o e z
  ·exact absurd (Nat.lt_of_lt_of_le (Heap.lt_size (I.ok.bs b o e).1) z) (Nat.lt_irrefl _)
 ·rcases List.mem_cons.mp (I.sQ b hs)with e|e
  ·exact(hf b hb).2.1 e
  ·exact(hf b hb).2.2.1 e
theorem Rz{h':Heap}{tk:Nat}{m:Str->Option Value}(I:Inv X pins σ H s)(Bk:uh sc.names X.env.scope.names own N2 X.N)(hk:sc.kind= .function)(hnc:∀y∈sc.names,y.2≠ .cell)(hf:∀b∈fp,gn X pins H b)(ho:∀b∈fp,∃o,s.heap.get? b=some o)
  (hB:B.frames=some X.stack)(hh:B.handled=none)(hn:h'.Ns s.heap.objs.size m)(keep:∀b o,s.heap.get? b=some o->h'.get? b=some o):
  Inv (X.gen B sc (own++N2) code s H fp) [] (List.replicate own.length none++σ) H {s with heap:=h',toks:=tk,gens:=s.gens.push .running}:=by
 have lB:∀y c,(cJ X.env sc.names []).lookup y=some c->(y,NameKind.free)∈sc.names/\X.env.cells.lookup y=some c:=λy c h=>by
  have h':(cellsFrom 0 sc.names (cJ X.env sc.names [])).lookup y=some c:=by rw[f6 hnc];exact h
  rcases kh I Bk (mem_of_lookup h')with⟨_,q⟩|q
  ·exact absurd rfl (hnc _ q)
  ·exact q
 refine⟨Vm I Bk hk hnc hf ho hB hh,rfl,.refl (I.bare.bare.push rfl),Un.kept keep,⟨m,hn,λi y v e1 e2 e3=> ?_⟩,λy c hc=> ?_,I.fresh,λy c hc=>I.jO y c (lB y c hc).2,λp hp=> ?_,I.hok.kept keep,?_⟩
 ·by_cases hi:i<own.length
  ·rw[List.getElem?_append_left (by simpa using hi),List.getElem?_replicate]at e2
   split at e2<;>cases e2
  ·have Kh:(own++N2)[i]?=some y:=e1
   have hi':own.length<=i:=by omega
   rw[List.getElem?_append_right (by simpa using hi'),List.length_replicate]at e2
   rw[List.getElem?_append_right hi']at Kh
   have hown:y∉own:=λhm=>by
    have nd:=Bk.Rw
    rw[List.nodup_append]at nd
    exact nd.2.2 y hm y (List.mem_of_getElem? Kh) rfl
   refine BR I Bk (n:=0) Kh e2 (f6 hnc).symm (λz hz=> .inr (c6 Bk.nd hz)) (λhv=>let⟨k,e,_⟩:=rT hv;⟨k,e⟩) hown keep e3 (λk e=> ?_)
   obtain⟨k',e',hk'⟩:=rT e3
   have Vn:sc.names.lookup y=some k':=e'
   rw[e]at Vn;cases Vn
   exact hk'
 ·obtain⟨v,w⟩:=I.cell y c (lB y c hc).2
  exact⟨v,w.keeps keep⟩
 ·have Af:p∈([]:List (Addr×Obj)):=hp
  cases Af
 ·show(List.replicate own.length none++σ).length=(own++N2).length
  rw[List.length_append,List.length_append,List.length_replicate,I.len,Bk.len]
theorem Inv.Nb{σ':St}{H':Hp}{s':Shared}{N':List Str}{pl:List (Addr×Obj)}{gs:GenState}(I:Inv X pins σ H s)(hf:∀b∈fp,gn X pins H b)(hb:gs.bare=true)(J:Inv (X.gen B sc N' code s H fp) pl σ' H' s'):
  Inv X pins σ H' (s'.setGen s.gens.size gs):=by
 have sz:s.gens.size+1<=s'.gens.size:=by
  have:=J.bare.size
  simpa [Cx.gen]using this
 refine I.AZ (ch:=fp) J.os J.base J.hok ⟨?_,?_,λk hk=> ?_⟩ λb hb=>⟨(hf b hb).2.2.2.1,(hf b hb).2.1,(hf b hb).2.2.2.2.1,(hf b hb).2.2.2.2.2⟩
 ·intro y hy
  simp only[Shared.setGen]at hy
  rcases Array.mem_or_eq_of_mem_setIfInBounds hy with q|q
  ·exact J.bare.bare y q
  ·rw[q];exact hb
 ·simp only[Shared.setGen,Array.size_setIfInBounds]
  omega
 ·have e:=J.bare.old k (by simp[Cx.gen];omega)
  simp only[Shared.setGen]
  rw[Array.getElem?_setIfInBounds_ne (by omega),e]
  show(s.gens.push .running)[k]?=s.gens[k]?
  rw[Array.getElem?_push_lt (by omega)]
  simp[hk]
end
theorem gu{B:Around}{elt:Expr}{gens:List Comprehension}{sc:Scope}{pos:Pos}{it acc:Value}{cenv:Env}:
  B.over (.compLoop (.GeneratorExp elt gens sc pos) 0 it acc cenv) []=Ry B cenv:=by
 unfold Around.over Ry
 congr 1
section
variable(X:Cx)(B:Around)(sc:Scope)(N':List Str)(code:Value)(sC:Shared)(HC:Hp)(fp Ss:List Addr)(tn:Nat->Heap->Prop)(cnt:Nat)(R:Nat->V->Prop)(W:Nat->St->Hp->Prop)
def vJ:Protocol:=λn s₀ v s kap=> ∃pl σ' H' x,(∀p∈pl,p.1∉Ss)/\Inv (X.gen B sc N' code sC HC fp) (cQ Ss s₀.heap++pl) σ' H' s/\tn (cnt-n) s.heap/\(∀b∈fp,H' b=none)/\RelV x v/\R (cnt-n-1) x/\W (cnt-n) σ' H'/\
 ∀s'':Shared,(∀b∈Ss,∃o,s''.heap.get? b=some o) ->Inv (X.gen B sc N' code sC HC fp) (cQ Ss s''.heap++pl) σ' H' s''->tn (cnt-n) s''.heap->kap (.send .none) s''
def Kl:GenEnd:=λn s₀ r s₁=>r= .ok .next/\n=0/\ ∃σ' H',Inv (X.gen B sc N' code sC HC fp) (cQ Ss s₀.heap) σ' H' s₁/\W cnt σ' H'
end
section
variable{X:Cx}{B:Around}{sc:Scope}{N':List Str}{code:Value}{sC:Shared}{HC:Hp}{fp Ss:List Addr}{tn:Nat->Heap->Prop}{cnt:Nat}{R:Nat->V->Prop}{W:Nat->St->Hp->Prop}
variable{elt iter tg:Expr}{pos:Pos}{it:Addr}{J:It}{g:TG}{te:TE}
theorem xj{Ss:List Addr}{h:Heap}{p:Addr×Obj}(hp:p∈cQ Ss h):p.1∈Ss:=(lJ hp).1
theorem vK{pl:List (Addr×Obj)}{σ':St}{H' H2:Hp}{s:Shared}(I:Inv (X.gen B sc N' code sC HC fp) pl σ' H2 s)(hn:∀b∈fp,H' b=none)(hd:∀p∈pl,p.1∉fp):∀b∈fp,gn (X.gen B sc N' code sC HC fp) pl H' b:=λb hb=>by
 have ok:=I.ok
 refine⟨hn b hb,(ok.MC b hb).1,ok.Aj b hb,.inl hb,λy c hc=>(ok.MC b hb).2 y c hc,λp hp e=> ?_⟩
 have Af:p∈pl:=by simpa [Cx.gen]using hp
 exact hd p Af (by rw[e];exact hb)
theorem RA(hco:sc.isCoroutine=false)(hc:X.calm=true)(T:Turn X.prog X.w X.K tg J fp it tn)(hg:PG (X.gen B sc N' code sC HC fp) tg g)(he:PE (X.gen B sc N' code sC HC fp) elt te)(BU:∀b∈fp,b∉Ss)
  (turn:∀i σ' H',i<cnt->W i σ' H'->J.go i H'/\ ∀x H2,J.Ba i H' x H2->g x σ' H2 λσ3 H3=>te σ3 H3 λv H4=>R i v/\W (i+1) σ3 H4)
  (stop:∀σ' H',W cnt σ' H'->J.stop cnt H'):
  ∀(n i:Nat)(σ':St)(H':Hp)(s₀ s:Shared),n+i=cnt->W i σ' H'->Inv (X.gen B sc N' code sC HC fp) (cQ Ss s₀.heap) σ' H' s->tn i s.heap->(∀b∈fp,H' b=none) ->
   Seg (model X.prog X.w) B (Kl X B sc N' code sC HC fp Ss cnt W) (vJ X B sc N' code sC HC fp Ss tn cnt R W) n s₀ (.compLoop (.GeneratorExp elt [⟨tg,iter,[],0⟩] sc pos) 0 (.ref it) .none (X.gen B sc N' code sC HC fp).env)
    ((model X.prog X.w).den (.compLoop (.GeneratorExp elt [⟨tg,iter,[],0⟩] sc pos) 0 (.ref it) .none (X.gen B sc N' code sC HC fp).env)) [] s:=by
 have IQ:∀{h:Heap},∀p∈cQ Ss h,p.1∉fp:=λp hp hb=>BU p.1 hb (xj hp)
 intro n
 induction n with
 |zero=>
  intro i σ' H' s₀ s hn w I st fr
  obtain rfl:i=cnt:=by omega
  show Seg _ B _ _ _ s₀ _ ((compTurn (.GeneratorExp elt [⟨tg,iter,[],0⟩] sc pos) 0 (.ref it) .none (X.gen B sc N' code sC HC fp).env).onRaise (leaving (X.gen B sc N' code sC HC fp).env)) [] s
  rw[compTurn_gen,Sem.onRaise_eq_wrap]
  refine seg_bind_wrap (wpAny_standAt ?_)
  refine seg_bind_wrap ?_
  rw[gu]
  refine gj (T.done (X.gen B sc N' code sC HC fp) rfl rfl rfl hc i _ s σ' H' _ I (vK I fr IQ) st (stop σ' H' w)) λr s1 ⟨hr,I1⟩=> ?_
  subst hr
  exact seg_end (.ok .next) ⟨rfl,rfl,σ',H',I1,w⟩
 |succ n ih=>
  intro i σ' H' s₀ s hn w I st fr
  have hi:i<cnt:=by omega
  obtain⟨go,step⟩:=turn i σ' H' hi w
  show Seg _ B _ _ _ s₀ _ ((compTurn (.GeneratorExp elt [⟨tg,iter,[],0⟩] sc pos) 0 (.ref it) .none (X.gen B sc N' code sC HC fp).env).onRaise (leaving (X.gen B sc N' code sC HC fp).env)) [] s
  rw[compTurn_gen,Sem.onRaise_eq_wrap]
  refine seg_bind_wrap (wpAny_standAt ?_)
  refine seg_bind_wrap ?_
  rw[gu]
  refine gj (T.item (X.gen B sc N' code sC HC fp) rfl rfl rfl hc i _ s σ' H' _ I (vK I fr IQ) st go) λr s1 ⟨u,hr,h1⟩=> ?_
  subst hr
  refine seg_bind_wrap ?_
  rw[gu]
  refine wpAny_mono h1 (λ_ s2 ⟨x,H2,I2,r2,y2,st2,Vo⟩=> ?_) λ_ _ z=>z
  have I2':=I2.pinned (vK I2 Vo IQ) (T.obj _ _ st2)
  refine seg_bind_wrap ?_
  rw[gu]
  refine wpAny_mono (hg _ s2 σ' H2 x u _ I2' r2 (step x H2 y2)) (λ_ s3 ⟨σ3,H3,I3,q3⟩=> ?_) λ_ _ z=>z.elim
  simp only[List.forIn_nil,if_true]
  refine seg_bind_wrap (wpAny_pure ?_)
  have hy:∀v,yieldOut (X.gen B sc N' code sC HC fp).env v=yieldValue v:=λv=>by
   have q:(X.gen B sc N' code sC HC fp).env.scope.isCoroutine=false:=hco
   simp only[yieldOut,q,Bool.false_eq_true,if_false]
  simp only[if_true,hy]
  rw[Sem.bind_eq_wrap',Sem.bind_eq_wrap',Sem.wrap_wrap,Sem.wrap_wrap]
  refine seg_wrap ?_
  rw[gu]
  refine wpAny_mono (he _ s3 σ3 H3 _ I3 q3) (λv s4 ⟨y,H4,I4,r4,hR,w4⟩=> ?_) λ_ _ z=>z.elim
  have Xy:tn (i+1) s4.heap:=T.keep _ _ _ st2 λb hb o e=>(I4.pin (b,o) (List.mem_append_right _ (List.mem_append_right _ (bU hb e)))).1
  have Vp:∀b∈fp,H4 b=none:=λb hb=>by
   obtain⟨o,e,d⟩:=T.obj _ _ st2 b hb
   exact(I4.pin (b,o) (List.mem_append_right _ (List.mem_append_right _ (bU hb e)))).2.1
  have ei:cnt-n=i+1:=by omega
  refine seg_at (seg_yield rfl rfl rfl ⟨[],σ3,H4,y,(λ_ h=>nomatch h),(by rw[List.append_nil];exact I4.jv),by rw[ei];exact Xy,Vp,r4,by rw[ei];exact hR,by rw[ei];exact w4,λs'' _ MA st''=> ?_⟩)
  rw[ei]at st''
  rw[List.append_nil]at MA
  exact seg_again rfl (ih (i+1) σ3 H4 s'' s'' (by omega) w4 MA st'' Vp)
end
theorem Nc{s:Shared}{g:Nat}{gs:GenState}(h:s.gens[g]?=some .running):(s.setGen g gs).setGen g .running=s:=by
 obtain⟨hh,gens,d,t,os⟩:=s
 have hlt:g<gens.size:=by
  rcases Nat.lt_or_ge g gens.size with q|q
  ·exact q
  ·have z:gens[g]?=none:=Array.getElem?_eq_none q
   have h':gens[g]?=some .running:=h
   rw[z]at h';cases h'
 have q:(gens.setIfInBounds g gs).setIfInBounds g .running=gens:=by
  apply Array.ext_getElem?
  intro i
  by_cases e:g=i
  ·subst e
   rw[Array.getElem?_setIfInBounds_self_of_lt (by simpa using hlt)]
   exact h.symm
  ·rw[Array.getElem?_setIfInBounds_ne e,Array.getElem?_setIfInBounds_ne e]
 show({heap:=hh,gens:=(gens.setIfInBounds g gs).setIfInBounds g .running,drawn:=d,toks:=t,os:=os}:Shared)=_
 rw[q]
theorem lE:∀{Ss:List Addr}{h h':Heap},(∀b∈Ss,∃o,h.get? b=some o/\h'.get? b=some o) ->cQ Ss h'=cQ Ss h
 | [],_,_,_=>rfl
 |b::r,h,h',k=>by
  obtain⟨o,e1,e2⟩:=k b List.mem_cons_self
  unfold cQ
  rw[List.filterMap_cons,List.filterMap_cons,e1,e2]
  show(b,o)::cQ r h'=(b,o)::cQ r h
  rw[lE λc hc=>k c (List.mem_cons_of_mem _ hc)]
section
variable(X:Cx)(B:Around)(sc:Scope)(N':List Str)(code:Value)(sC:Shared)(HC:Hp)(fp Ss:List Addr)(tn:Nat->Heap->Prop)(cnt:Nat)(R:Nat->V->Prop)(W:Nat->St->Hp->Prop)
structure yq(a:Addr)(i:Nat)(s:Shared):Prop where
 gen:s.heap.IsGen a sC.gens.size
 ex:∃gs pl σ' H',(∀p∈pl,p.1∉Ss)/\s.gens[sC.gens.size]?=some gs/\gs.bare=true/\Inv (X.gen B sc N' code sC HC fp) (cQ Ss s.heap++pl) σ' H' (s.setGen sC.gens.size .running)/\tn i s.heap/\(∀b∈fp,H' b=none)/\W i σ' H'/\
  ∀s'':Shared,(∀b∈Ss,∃o,s''.heap.get? b=some o) ->Inv (X.gen B sc N' code sC HC fp) (cQ Ss s''.heap++pl) σ' H' s''->tn i s''.heap->gs.Goes (model X.prog X.w) B (Kl X B sc N' code sC HC fp Ss cnt W) (vJ X B sc N' code sC HC fp Ss tn cnt R W) (cnt-i) (.send .none) s''
end
section
variable{X:Cx}{D:Around}{sc:Scope}{N':List Str}{code:Value}{sC:Shared}{HC:Hp}{fp Ss:List Addr}{tn:Nat->Heap->Prop}{cnt:Nat}{R:Nat->V->Prop}{W:Nat->St->Hp->Prop}{a:Addr}{i:Nat}{s:Shared}
theorem Inv.DT{pl:List (Addr×Obj)}{σ':St}{H':Hp}{s':Shared}(I:Inv X pl σ' H' s'):s'.heap.NoLimit:=I.nolimit
theorem Gs{B:Around}{pl:List (Addr×Obj)}{σ':St}{H':Hp}{s':Shared}(I:Inv (X.gen B sc N' code sC HC fp) pl σ' H' s'):s'.gens[sC.gens.size]?=some .running:=by
 have e:=I.bare.old sC.gens.size (by simp[Cx.gen])
 rw[e]
 show(sC.gens.push .running)[sC.gens.size]?=_
 simp
theorem yq.item{Q:Option Value->Shared->Prop}{E:Value->Shared->Prop}(G:yq X D.in1 sc N' code sC HC fp Ss tn cnt R W a i s)(hh:D.handled=none)(hroom:D.depth<recursionLimit)(ha:a∈Ss)(hs:∀b∈Ss,∃o,s.heap.get? b=some o)(hi:i<cnt)
  (hQ:∀v x s',RelV x v->R i x->yq X D.in1 sc N' code sC HC fp Ss tn cnt R W a (i+1) s'->(∀b∈Ss,∀o,s.heap.get? b=some o->s'.heap.get? b=some o) ->Q (some v) s'):
  wpAny (model X.prog X.w) D (pyNext (.ref a)) Q E s:=by
 obtain⟨gs,pl,σ',H',hpl,e1,e2,I,st,fr,w,go⟩:=G.ex
 have gg:=go (s.setGen sC.gens.size .running) hs I st
 obtain⟨m,hm⟩:∃m,cnt-i=m+1:=⟨cnt-i-1,by omega⟩
 rw[hm]at gg
 refine wpAny_pyNext_genexpQ (P:=λn s₀ s₁=>n=0/\ ∃σ' H',Inv (X.gen D.in1 sc N' code sC HC fp) (cQ Ss s₀.heap) σ' H' s₁/\W cnt σ' H') hh I.DT hroom G.gen e1 gg (λv s1 gs' hb hy=> ?_) (λs1 hp=> ?_)
 ·obtain⟨YN,σ1,H1,x,Vq,I1,st1,Vr,r1,hR,w1,WB⟩:=hy
  have ei:cnt- (m+1-1)=i+1:=by omega
  rw[ei]at st1 w1 WB hR
  have kp:∀b∈Ss,∀o,s.heap.get? b=some o->s1.heap.get? b=some o:=λb hb o e=>(I1.pin (b,o) (List.mem_append_right _ (List.mem_append_left _ (bU hb e)))).1
  have eq:cQ Ss s1.heap=cQ Ss s.heap:=lE λb hb=>let⟨o,e⟩:=hs b hb;⟨o,e,kp b hb o e⟩
  have run:=Gs I1
  refine hQ v x _ r1 hR ⟨?_,gs',YN,σ1,H1,Vq,setGen_self run,hb,?_,st1,Vr,w1,?_⟩ kp
  ·obtain⟨o,nm,qn,eo,r⟩:=G.gen
   exact⟨o,nm,qn,kp a ha o eo,r⟩
  ·rw[Nc run]
   show Inv _ (cQ Ss s1.heap++YN) σ1 H1 s1
   rw[eq]
   exact I1
  ·have e3:cnt- (i+1)=m:=by omega
   rw[e3]
   exact WB
 ·exact absurd hp.1 (by omega)
theorem yq.done{pins:List (Addr×Obj)}{σ:St}{Q:Option Value->Shared->Prop}{E:Value->Shared->Prop}(G:yq X D.in1 sc N' code sC HC fp Ss tn cnt R W a cnt s)(IC:Inv X pins σ HC sC)(hf:∀b∈fp,gn X pins HC b)(hh:D.handled=none)(hroom:D.depth<recursionLimit)(hs:∀b∈Ss,∃o,s.heap.get? b=some o)
  (hQ:∀s' σ' H',Inv X pins σ H' s'->W cnt σ' H'->Q none s'):
  wpAny (model X.prog X.w) D (pyNext (.ref a)) Q E s:=by
 obtain⟨gs,pl,σ',H',hpl,e1,e2,I,st,fr,w,go⟩:=G.ex
 have gg:=go (s.setGen sC.gens.size .running) hs I st
 rw[Nat.sub_self]at gg
 refine wpAny_pyNext_genexpQ (P:=λn s₀ s₁=>n=0/\ ∃σ' H',Inv (X.gen D.in1 sc N' code sC HC fp) (cQ Ss s₀.heap) σ' H' s₁/\W cnt σ' H') hh I.DT hroom G.gen e1 gg (λv s1 gs' hb hy=> ?_) (λs1 hp h' k=> ?_)
 ·obtain⟨YN,σ1,H1,x,Vq,I1,st1,Vr,r1,hR,w1,WB⟩:=hy
  have kp:∀b∈Ss,∀o,s.heap.get? b=some o->s1.heap.get? b=some o:=λb hb o e=>(I1.pin (b,o) (List.mem_append_right _ (List.mem_append_left _ (bU hb e)))).1
  have eq:cQ Ss s1.heap=cQ Ss s.heap:=lE λb hb=>let⟨o,e⟩:=hs b hb;⟨o,e,kp b hb o e⟩
  exact False.elim (WB s1 (λb hb=>let⟨o,e⟩:=hs b hb;⟨o,kp b hb o e⟩) (by rw[eq];exact I1) st1)
 ·obtain⟨_,σ1,H1,I1,w1⟩:=hp
  have I2:=Inv.Nb (gs:= .finished) IC hf rfl I1
  exact hQ _ σ1 H1 (I2.kept (t':=s1.toks) k) w1
end
section
variable{X:Cx}{B:Around}{sc:Scope}{N':List Str}{code:Value}{sC:Shared}{HC:Hp}{fp Ss:List Addr}{tn:Nat->Heap->Prop}{cnt:Nat}{R:Nat->V->Prop}{W:Nat->St->Hp->Prop}
variable{elt iter tg:Expr}{pos:Pos}{it:Addr}{J:It}{g:TG}{te:TE}
theorem Nd(hco:sc.isCoroutine=false)(hc:X.calm=true)(T:Turn X.prog X.w X.K tg J fp it tn)(hg:PG (X.gen B sc N' code sC HC fp) tg g)(he:PE (X.gen B sc N' code sC HC fp) elt te)(BU:∀b∈fp,b∉Ss)
  (turn:∀i σ' H',i<cnt->W i σ' H'->J.go i H'/\ ∀x H2,J.Ba i H' x H2->g x σ' H2 λσ3 H3=>te σ3 H3 λv H4=>R i v/\W (i+1) σ3 H4)
  (stop:∀σ' H',W cnt σ' H'->J.stop cnt H'){σ':St}{H':Hp}{s:Shared}(w:W 0 σ' H')(I:Inv (X.gen B sc N' code sC HC fp) (cQ Ss s.heap) σ' H' s)(st:tn 0 s.heap)(fr:∀b∈fp,H' b=none):
  Seg (model X.prog X.w) B (Kl X B sc N' code sC HC fp Ss cnt W) (vJ X B sc N' code sC HC fp Ss tn cnt R W) cnt s (.compStart (.GeneratorExp elt [⟨tg,iter,[],0⟩] sc pos) 0 (.ref it) .none (X.gen B sc N' code sC HC fp).env)
   ((model X.prog X.w).den (.compStart (.GeneratorExp elt [⟨tg,iter,[],0⟩] sc pos) 0 (.ref it) .none (X.gen B sc N' code sC HC fp).env)) [] s:=by
 have lp:=RA (iter:=iter) (pos:=pos) hco hc T hg he BU turn stop cnt 0 σ' H' s s (Nat.add_zero _) w I st fr
 show Seg _ B _ _ _ s _ ((compStart (.GeneratorExp elt [⟨tg,iter,[],0⟩] sc pos) 0 (.ref it) .none (X.gen B sc N' code sC HC fp).env).onRaise (leaving (X.gen B sc N' code sC HC fp).env)) [] s
 unfold compStart
 rw[Sem.onRaise_eq_wrap]
 show Seg _ B _ _ _ s _ ((ask>>=_).wrap _ _ _ _) [] s
 refine seg_bind_wrap (wpAny_askSetting ?_)
 split
 ·exact seg_again rfl lp
 ·first
   |exact seg_bind_wrap (wpAny_rule (seg_bind_wrap (wpAny_standAt (seg_bind_wrap (T.self _ 0 s _ _ st (seg_again rfl lp))))))
   |(refine seg_bind_wrap (wpAny_rule ?_);(show Seg _ B _ _ _ s _ ((standAt iter.pos>>=_).wrap _ _ _ _) [] s);exact seg_bind_wrap (wpAny_standAt (seg_bind_wrap (T.self _ 0 s _ _ st (seg_again rfl lp)))))
end
def yr(k:Nat)(g:TG)(te:TE)(σ:St)(F:Nat->(Nat->V->Prop) ->(Nat->St->Hp->Prop) ->Prop)(J:It)(H:Hp):Prop:=∃(cnt:Nat)(R:Nat->V->Prop)(W:Nat->St->Hp->Prop),W 0 (List.replicate k none++σ) H/\
 (∀i σ' H',i<cnt->W i σ' H'->J.go i H'/\ ∀x H2,J.Ba i H' x H2->g x σ' H2 λσ3 H3=>te σ3 H3 λv H4=>R i v/\W (i+1) σ3 H4)/\(∀σ' H',W cnt σ' H'->J.stop cnt H')/\F cnt R W
theorem sW(elt target iter:Expr)(ifs:List Expr)(cls:List Comprehension)(scope:Scope)(pos:Pos)(env:Env)(hco:scope.isCoroutine=false):
  eval (.GeneratorExp elt (⟨target,iter,ifs,0⟩::cls) scope pos) env=(do
   let x<-eval iter env
   standAt iter.pos
   let x<-genFold iter env x
   let it<-holding [x] (pyIter x)
   enterFrame
   let cl<-closureFor scope env
   let code<-genexprCode env pos (env.qual++ "<genexpr>") scope
   let bi<-builtinsFor env.globals env.builtins
   let cenv<-newFunctionEnv scope env.globals cl [(".0",it)] (env.qual++ "<genexpr>.") none code none bi
   newGenerator (.compStart (.GeneratorExp elt (⟨target,iter,ifs,0⟩::cls) scope pos) 0 it .none cenv) "<genexpr>" (env.qual++ "<genexpr>")):=by
 rw[arm_eval_GeneratorExp]
 simp only[hco,Bool.false_eq_true,if_false]
 cases iter<;>rfl
section
variable{M:Model}{A:Around}{E:Value->Shared->Prop}{s:Shared}
theorem nk{env:Env}{elt target iter:Expr}{ifs:List Expr}{cls:List Comprehension}{scope:Scope}{cl:List (Str×Addr)}{pos:Pos}{Q:Value->Shared->Prop}
  (hco:scope.isCoroutine=false)(hclos:closureFor scope env=pure cl)(hcell:∀y∈scope.names,y.2≠ .cell)(h0:scope.names.lookup (".0":Str)=some NameKind.local)(hkind:scope.kind= .function)
  (hroom:A.depth<recursionLimit)
  (h:wpAny M A (eval iter env) (λxv s₁=>wpAny M A (pyIter xv) (λit s₂=>s₂.heap.NoLimit/\
   wpAny M A (genexprCode env pos (env.qual++ "<genexpr>") scope) (λcode s₃=>wpAny M A (builtinsFor env.globals env.builtins) (λbi s₄=>
    ∀h',h'.Ns s₄.heap.objs.size (λy=>if y= ".0" then some it else none) ->Heap.SameBut s₄.heap.objs.size (s₄.heap.push {cls:= .type "frame",data:= .dict #[]}) h'->
     Q (.ref h'.objs.size) {s₄ with
      gens:=s₄.gens.push (.fresh (.compStart (.GeneratorExp elt (⟨target,iter,ifs,0⟩::cls) scope pos) 0 it .none (genEnv scope cl s₄.heap.objs.size code bi env))),
      toks:=s₄.toks+1+1+1,
      heap:=h'.push {cls:= .type "generator",data:= .fields #[.int s₄.gens.size 0,.str "<genexpr>" (s₄.toks+1),.str (env.qual++ "<genexpr>") (s₄.toks+1+1)]}}) E s₃) E s₂) E s₁) E s)
  (hs:∀x,genFold iter env x=pure x):
  wpAny M A (eval (.GeneratorExp elt (⟨target,iter,ifs,0⟩::cls) scope pos) env) Q E s:=by
 rw[sW _ _ _ _ _ _ _ _ hco,hclos]
 refine wpAny_bind (wpAny_mono h (λxv s₁ h₁=> ?_) λ_ _ e=>e)
 refine wpAny_bind (wpAny_standAt ?_)
 refine wpAny_bind (wpAny_of_eq (hs xv) ?_)
 refine wpAny_bind (wpAny_holding (wpAny_mono h₁ (λit s₂ h₂=> ?_) λ_ _ e=>e))
 refine wpAny_bind (wpAny_enterFrame h₂.1 hroom ?_)
 refine wpAny_bind (wpAny_pure ?_)
 refine wpAny_bind (wpAny_mono h₂.2 (λcode s₃ h₃=> ?_) λ_ _ e=>e)
 refine wpAny_bind (wpAny_mono h₃ (λbi s₄ h₄=> ?_) λ_ _ e=>e)
 have Vs:∀y∈([((".0":Str),it)]:List (Str×Value)),scope.names.lookup y.1=some NameKind.local:=by
  intro y hy
  rcases List.mem_cons.mp hy with rfl|hy
  ·exact h0
  ·cases hy
 refine wpAny_bind (wpAny_newFunctionEnv hcell Vs (λh' hn' hs'=> ?_) hkind)
 have e:(λy:Str=>([((".0":Str),it)]:List (Str×Value)).reverse.lookup y)=λy:Str=>if y=(".0":Str)then some it else none:=by
  funext y
  by_cases hy:y= ".0"
  ·subst hy;simp
  ·have:(y==(".0":Str))=false:=by simpa using hy
   simp[List.lookup,this,hy]
 rw[e]at hn'
 simp only[newGenerator,newFields]
 refine wpAny_bind (wpAny_newGen (wpAny_bind (wpAny_mkText (wpAny_bind (wpAny_mkText (wpAny_newObj_type ?_ (by size_fits)))))))
 exact h₄ h' hn' hs'
end
section
variable{X:Cx}{sc:Scope}{own N2:List Str}{elt iter tg:Expr}{pos:Pos}{wi:TI}{g:TG}{te:TE}{P:Addr}
theorem DU{ifs:List Expr}{cls:List Comprehension}{Rd:It->Hp->Prop}{pins:List (Addr×Obj)}{σ:St}{H0:Hp}{s0:Shared}{F:Nat->(Nat->V->Prop) ->(Nat->St->Hp->Prop) ->Prop}(more:Nat->List Addr)(hmore:∀a,∀b∈more a,a<b)
  (hc:X.calm=true)(hroom:X.A.depth<recursionLimit)(hi:PI X tg iter wi)(Bk:uh sc.names X.env.scope.names own N2 X.N)(hk:sc.kind= .function)(hco:sc.isCoroutine=false)(hnc:∀y∈sc.names,y.2≠ .cell)(h00:sc.names.lookup (".0":Str)=some NameKind.local)
  (hcd:gR X.K X.env.code P)(bm:BM X.mg X.base)
  (hs:∀x,genFold iter X.env x=pure x)
  (aah:∀code s H fp it QT J,Turn X.prog X.w X.K tg J fp it QT->(∀b∈fp,H b=none) ->Rd J H-> ∃cnt R W tn,F cnt R W/\W 0 (List.replicate own.length none++σ) H/\(∀h,QT 0 h↔tn 0 h)/\(∀i h h',tn i h->(∀b∈fp,∀o,h.get? b=some o->h'.get? b=some o) ->tn i h')/\
   ∀Ss:List Addr,(∀b∈fp,b∉Ss) -> ∀s'':Shared,(∀b∈Ss,∃o,s''.heap.get? b=some o) ->Inv (X.gen X.A.in1.in1 sc (own++N2) code s H fp) (cQ Ss s''.heap) (List.replicate own.length none++σ) H s''->QT 0 s''.heap->
    Seg (model X.prog X.w) X.A.in1.in1 (Kl X X.A.in1.in1 sc (own++N2) code s H fp Ss cnt W) (vJ X X.A.in1.in1 sc (own++N2) code s H fp Ss tn cnt R W) cnt s'' (.compStart (.GeneratorExp elt (⟨tg,iter,ifs,0⟩::cls) sc pos) 0 (.ref it) .none (X.gen X.A.in1.in1 sc (own++N2) code s H fp).env)
     ((model X.prog X.w).den (.compStart (.GeneratorExp elt (⟨tg,iter,ifs,0⟩::cls) sc pos) 0 (.ref it) .none (X.gen X.A.in1.in1 sc (own++N2) code s H fp).env)) [] s'')
  (I0:Inv X pins σ H0 s0)(h:wi σ H0 λJ H=>H P=some (cj P)/\Rd J H):
  wpAny (model X.prog X.w) X.A (eval (.GeneratorExp elt (⟨tg,iter,ifs,0⟩::cls) sc pos) X.env) (λu s5=> ∃a cnt R W sC HC fp code tn,u= .ref a/\s5.heap.objs.size=a+1/\
   yq X X.A.in1.in1 sc (own++N2) code sC HC fp (a::more a) tn cnt R W a 0 s5/\Inv X pins σ HC sC/\(∀b∈fp,gn X pins HC b)/\sC.heap.objs.size<a/\(∀b∈fp,b<sC.heap.objs.size)/\(∀i h h',tn i h->(∀b∈fp,∀o,h.get? b=some o->h'.get? b=some o) ->tn i h')/\F cnt R W) X.xe s0:=by
 refine nk hco (ux I0 Bk) hnc h00 hk hroom ?_ hs
 refine wpAny_mono (hi pins s0 σ H0 _ I0 h) (λxv s1 h1=>wpAny_mono h1 (λitv s2 h2=> ?_) λ_ _ e=>e) λ_ _ e=>e
 obtain⟨it,fp,QT,J,H,e,I,T,st,hf,hP,hRd⟩:=h2
 subst e
 refine⟨I.DT,Gr I hcd hP λcode h3 tk3 I3 ext=> ?_⟩
 obtain⟨YO,ob,b1,b2,b3,b4,b5,b6⟩:=bm
 refine wpAny_builtinsFor (m:=X.mg) (by rw[I3.ok.glob];exact I3.mod.glob.keeps I3.bk) b1 b2 (I3.bk _ _ b3) b4 b5 b6 ?_
 intro h' hn' hs'
 have st3:QT 0 h3:=T.keep _ _ _ st λb hb o e=>ext b o (λz=>by have:=(hf b hb).1;rw[z,hP]at this;cases this) e
 have ho3:∀b∈fp,∃o,h3.get? b=some o:=λb hb=>let⟨o,e,_⟩:=T.obj 0 _ st3 b hb;⟨o,e⟩
 have Ur:∀b o,h3.get? b=some o->h'.get? b=some o:=λb o e=>hs'.extBut b o (Nat.ne_of_lt (Heap.lt_size e)) (Heap.get?_push_of_some _ e)
 have sz':h'.objs.size=h3.objs.size+1:=by rw[hs'.1,Heap.size_push]
 have IG:=λ(hx:Heap)(tk:Nat)(m:Str->Option Value)(hn:hx.Ns h3.objs.size m)(kp:∀b o,h3.get? b=some o->hx.get? b=some o)=>
  Rz (B:=X.A.in1.in1) (code:=code) (fp:=fp) (h':=hx) (tk:=tk) I3 Bk hk hnc hf ho3 I3.ok.frames (I3.ok.hd hc) hn kp
 obtain⟨cnt,R,W,tn,hF,w0,htn,Bm,sg⟩:=aah code {s2 with heap:=h3,toks:=tk3} H fp it QT J T (λb hb=>(hf b hb).1) hRd
 refine⟨h'.objs.size,cnt,R,W,{s2 with heap:=h3,toks:=tk3},H,fp,code,tn,rfl,by rw[Heap.size_push],⟨⟨_,_,_,Heap.get?_push_size _ rfl,rfl,rfl,rfl⟩,.fresh _,[],List.replicate own.length none++σ,H,(λ_ h=>nomatch h),Array.getElem?_push_size ..,rfl,?_,?_,λb hb=>(hf b hb).1,w0,?_⟩,I3,hf,by show h3.objs.size<h'.objs.size;omega,λb hb=>let⟨o,e⟩:=ho3 b hb;Heap.lt_size e,Bm,hF⟩
 ·have eg:(s2.gens.push (GenState.fresh (.compStart (.GeneratorExp elt (⟨tg,iter,ifs,0⟩::cls) sc pos) 0 (.ref it) .none (genEnv sc (cJ X.env sc.names []) h3.objs.size code builtinsNs X.env)))).setIfInBounds s2.gens.size .running=s2.gens.push .running:=by
   apply Array.ext_getElem?
   intro i
   by_cases e:s2.gens.size=i
   ·subst e
    rw[Array.getElem?_setIfInBounds_self_of_lt (by simp)]
    simp
   ·rw[Array.getElem?_setIfInBounds_ne e,Array.getElem?_push,Array.getElem?_push]
    simp[Ne.symm e]
  simp only[Shared.setGen]
  rw[eg,List.append_nil]
  refine Inv.lC (pins:=[]) (IG _ _ _ (hn'.push _) (λb o e=>Heap.get?_push_of_some _ (Ur b o e))) λp hp=> ?_
  obtain⟨q1,q2⟩:=lJ hp
  have ep:p.1=h'.objs.size:=by
   rcases List.mem_cons.mp q1 with z|z
   ·exact z
   ·have l1:=hmore _ _ z
    have l2:=Heap.lt_size q2
    rw[Heap.size_push]at l2
    exact absurd (Nat.lt_of_lt_of_le l1 (Nat.le_of_lt_succ l2)) (Nat.lt_irrefl _)
  have big:h3.objs.size<=p.1:=by rw[ep,sz'];exact Nat.le_succ _
  have Vt:h3.objs.size<p.1:=by rw[ep,sz'];exact Nat.lt_succ_self _
  refine⟨q2,I3.hok.fresh big,Nat.ne_of_gt Vt,λz=> ?_,λv=> ?_⟩
  ·rcases List.mem_cons.mp (I3.sQ p.1 z)with y|y
   ·have l:X.env.locals<h3.objs.size:=I3.lt
    rw[y]at Vt
    exact absurd (Nat.lt_trans l Vt) (Nat.lt_irrefl _)
   ·exact I3.WT big y
  ·rw[ep]at q2
   rw[Heap.get?_push_size _ rfl]at q2
   intro z
   rw[<-Option.some.inj q2]at z
   cases z
 ·exact(htn _).1 (T.keep _ _ _ st3 λb hb o e=>Heap.get?_push_of_some _ (Ur b o e))
 ·intro s'' aai MA st''
  rw[List.append_nil]at MA
  refine⟨rfl,?_⟩
  rw[Nat.sub_zero]
  refine sg _ (λb hb z=> ?_) s'' aai MA ((htn _).2 st'')
  have l:b<h3.objs.size:=let⟨o,e⟩:=ho3 b hb;Heap.lt_size e
  rcases List.mem_cons.mp z with y|y
  ·rw[y,sz']at l
   exact absurd (Nat.lt_of_succ_lt l) (Nat.lt_irrefl _)
  ·have l2:=hmore _ _ y
   rw[sz']at l2
   exact absurd (Nat.lt_trans (Nat.lt_trans l (Nat.lt_succ_self _)) l2) (Nat.lt_irrefl _)
theorem BV{pins:List (Addr×Obj)}{σ:St}{H0:Hp}{s0:Shared}{F:Nat->(Nat->V->Prop) ->(Nat->St->Hp->Prop) ->Prop}(more:Nat->List Addr)(hmore:∀a,∀b∈more a,a<b)
  (hc:X.calm=true)(hroom:X.A.depth<recursionLimit)(hi:PI X tg iter wi)(Bk:uh sc.names X.env.scope.names own N2 X.N)(hk:sc.kind= .function)(hco:sc.isCoroutine=false)(hnc:∀y∈sc.names,y.2≠ .cell)(h00:sc.names.lookup (".0":Str)=some NameKind.local)
  (hcd:gR X.K X.env.code P)(bm:BM X.mg X.base)
  (hg:∀code s H fp,PG (X.gen X.A.in1.in1 sc (own++N2) code s H fp) tg g)(he:∀code s H fp,PE (X.gen X.A.in1.in1 sc (own++N2) code s H fp) elt te)
  (hs:∀x,genFold iter X.env x=pure x)(I0:Inv X pins σ H0 s0)(h:wi σ H0 λJ H=>H P=some (cj P)/\yr own.length g te σ F J H):
  wpAny (model X.prog X.w) X.A (eval (.GeneratorExp elt [⟨tg,iter,[],0⟩] sc pos) X.env) (λu s5=> ∃a cnt R W sC HC fp code tn,u= .ref a/\s5.heap.objs.size=a+1/\
   yq X X.A.in1.in1 sc (own++N2) code sC HC fp (a::more a) tn cnt R W a 0 s5/\Inv X pins σ HC sC/\(∀b∈fp,gn X pins HC b)/\sC.heap.objs.size<a/\(∀b∈fp,b<sC.heap.objs.size)/\(∀i h h',tn i h->(∀b∈fp,∀o,h.get? b=some o->h'.get? b=some o) ->tn i h')/\F cnt R W) X.xe s0:=
 DU (cls:=[]) (Rd:=λJ H=>yr own.length g te σ F J H) more hmore hc hroom hi Bk hk hco hnc h00 hcd bm hs (λcode s H fp it QT J T hfr ⟨cnt,R,W,w0,turn,stop,hF⟩=>
  ⟨cnt,R,W,QT,hF,w0,λ_=>Iff.rfl,T.keep,λSs hd s'' _ MA st''=>Nd hco hc T (hg code s H fp) (he code s H fp) hd turn stop w0 MA st'' hfr⟩) I0 h
end
section
variable{X:Cx}{B:Around}{sc:Scope}{N':List Str}{code:Value}{sC:Shared}{HC:Hp}{fp:List Addr}{tn:Nat->Heap->Prop}{cnt:Nat}{R:Nat->V->Prop}{W:Nat->St->Hp->Prop}{a S:Addr}{i:Nat}{s:Shared}
theorem yq.frame{h':Heap}{tk:Nat}{o':Obj}(G:yq X B sc N' code sC HC fp [a,S] tn cnt R W a i s)(IS:a≠S)(hC:sC.heap.objs.size<S)(hfp:∀b∈fp,b≠S)
  (Bm:∀i h h',tn i h->(∀b∈fp,∀o,h.get? b=some o->h'.get? b=some o) ->tn i h')(hS:(∃o,s.heap.get? S=some o)∨s.heap.objs.size<=S)
  (keep:∀b o,b≠S->s.heap.get? b=some o->h'.get? b=some o)(e':h'.get? S=some o')(nc:∀v,o'.data≠ .cell v):
  yq X B sc N' code sC HC fp [a,S] tn cnt R W a i {s with heap:=h',toks:=tk}:=by
 obtain⟨gs,pl,σ',H',hpl,e1,e2,I,st,fr,w,go⟩:=G.ex
 have I1:Inv (X.gen B sc N' code sC HC fp) (cQ [a] s.heap++pl) σ' H' (s.setGen sC.gens.size .running):=I.lC λp hp=>by
  rcases List.mem_append.mp hp with hp|hp
  ·obtain⟨q1,q2⟩:=lJ hp
   exact I.pin p (List.mem_append_right _ (List.mem_append_left _ (bU (fp:=[a,S]) (by rw[List.mem_singleton.mp q1];simp) q2)))
  ·exact I.pin p (List.mem_append_right _ (List.mem_append_right _ hp))
 have nfs:S∉(X.gen B sc N' code sC HC fp).fs:=λhb=>by
  obtain⟨_,o,ho,_⟩:=I.ok.sr.mem hb
  exact absurd (Nat.lt_trans (Heap.lt_size ho) hC) (Nat.lt_irrefl _)
 have ea:∃oa,s.heap.get? a=some oa:=let⟨o,_,_,q,_⟩:=G.gen;⟨o,q⟩
 obtain⟨oa,ea⟩:=ea
 have I2:Inv (X.gen B sc N' code sC HC fp) (cQ [a] s.heap++pl) σ' H' {s.setGen sC.gens.size .running with heap:=h',toks:=tk}/\H' S=none:=by
  rcases hS with⟨o,eo⟩|hS
  ·have pS:=I.pin (S,o) (List.mem_append_right _ (List.mem_append_left _ (bU (fp:=[a,S]) (by simp) eo)))
   refine⟨I1.turned (it:=S) (h':=h') (t':=tk) keep pS.2.1 (Nat.ne_of_gt hC) (.inr (Nat.le_of_lt hC)) (λy c hc z=> ?_) (λp hp z=> ?_),pS.2.1⟩
   ·obtain⟨v,oc,q1,q2⟩:=I.cell y c hc
    rw[z]at q1
    have q1':s.heap.get? S=some oc:=q1
    rw[eo]at q1'
    have q3:o=oc:=Option.some.inj q1'
    exact pS.2.2.2.2 v (by rw[q3];exact q2)
   ·have Af:p∈cQ [a] s.heap++pl:=hp
    rcases List.mem_append.mp Af with Af|Af
    ·exact IS (by rw[<-z,List.mem_singleton.mp (lJ Af).1])
    ·exact hpl p Af (by rw[z];simp)
  ·refine⟨I1.kept (h':=h') (t':=tk) λb o e=>keep b o (λz=> ?_) e,I.hok.fresh hS⟩
   exact absurd (Nat.lt_of_lt_of_le (Heap.lt_size e) (by rw[z];exact hS)) (Nat.lt_irrefl _)
 obtain⟨I2,hHS⟩:=I2
 refine⟨(let⟨o,nm,qn,q,r⟩:=G.gen;⟨o,nm,qn,keep a o IS q,r⟩),gs,pl,σ',H',hpl,e1,e2,I2.lC λp hp=> ?_,Bm _ _ _ st λb hb o e=>keep b o (hfp b hb) e,fr,w,go⟩
 refine(List.mem_append.mp hp).elim (λhp=> ?_) (λhp=>I2.pin p (List.mem_append_right _ (List.mem_append_right _ hp)))
 obtain⟨q1,q2⟩:=lJ hp
 rcases List.mem_cons.mp q1 with z|z
 ·have q:=I2.pin (a,oa) (List.mem_append_right _ (List.mem_append_left _ (bU (fp:=[a]) (by simp) ea)))
  have Xz:h'.get? p.1=some p.2:=q2
  rw[z,keep a oa IS ea]at Xz
  have q3:oa=p.2:=Option.some.inj Xz
  have ep:p=(a,oa):=by rw[<-z,q3]
  rw[ep]
  exact q
 ·have z':p.1=S:=List.mem_singleton.mp z
  have Xz:h'.get? p.1=some p.2:=q2
  rw[z',e']at Xz
  have q3:o'=p.2:=Option.some.inj Xz
  refine⟨q2,by rw[z'];exact hHS,by rw[z'];exact Nat.ne_of_gt hC,by rw[z'];exact nfs,by rw[<-q3];exact nc⟩
end
section
variable{X:Cx}{sc:Scope}{N':List Str}{code:Value}{sC:Shared}{HC:Hp}{fp:List Addr}{tn:Nat->Heap->Prop}{cnt:Nat}{R:Nat->V->Prop}{W:Nat->St->Hp->Prop}{a S:Addr}{pins:List (Addr×Obj)}{σ:St}{Rr:Result->Shared->Prop}
theorem Km(IC:Inv X pins σ HC sC)(hf:∀b∈fp,gn X pins HC b)(hh:X.A.handled=none)(hroom:X.A.depth<recursionLimit)(IS:a≠S)(hC:sC.heap.objs.size<S)(hfp:∀b∈fp,b≠S)
  (Bm:∀i h h',tn i h->(∀b∈fp,∀o,h.get? b=some o->h'.get? b=some o) ->tn i h')(val:Nat->Int)(hval:∀i v,i<cnt->R i v->v= .int (val i)):∀(k i:Nat)(s:Shared)(tA:Tok)(c:Nat)(st:Int),(st=0∨st=2) ->cnt-i=k->i<=cnt->
  yq X X.A.in1.in1 sc N' code sC HC fp [a,S] tn cnt R W a i s->s.heap.get? S=some {cls:= .type "list",dict:=none,data:= .seq #[.int (preSum val i) tA] c,slots:= #[]} ->
  (∀s' t' σ' H',Inv X pins σ H' s'->W cnt σ' H'->Rr (.ok (.ret (.int (preSum val cnt) t'))) s') ->codeAny (model X.prog X.w) X.A (.builtin "sum.loop" ⟨[.ref a,.ref S,rawInt st,rawInt 0],[]⟩) Rr s:=by
 intro k
 induction k with
 |zero=>
  intro i s tA c st hst hk hi G hS hR
  obtain rfl:i=cnt:=by omega
  refine codeAny_builtin PySem.F.entry_sum_loop (by
   rw[Around.under_plainId PySem.F.plain_sum_loop _]
   show wpAny _ X.A.in1 (seqItems? (.ref S)>>=_) _ _ s
   refine wpAny_bind (wpAny_seqItems hS rfl ?_)
   show wpAny _ X.A.in1 (tryCatch (pyNext (.ref a)) _>>=_) _ _ s
   have ex:∀b∈ [a,S],∃o,s.heap.get? b=some o:=λb hb=>by
    rcases List.mem_cons.mp hb with z|z
    ·obtain⟨o,_,_,q,_⟩:=G.gen;rw[z];exact⟨o,q⟩
    ·rw[List.mem_singleton.mp z];exact⟨_,hS⟩
   exact wpAny_bind (wpAny_tryCatch (G.done (D:=X.A.in1) IC hf hh hroom ex λs' σ' H' I' w'=>wpAny_pure (hR s' tA σ' H' I' w'))))
 |succ k ih=>
  intro i s tA c st hst hk hi G hS hR
  have hlt:i<cnt:=by omega
  have ex:∀b∈ [a,S],∃o,s.heap.get? b=some o:=λb hb=>by
   rcases List.mem_cons.mp hb with z|z
   ·obtain⟨o,_,_,q,_⟩:=G.gen;rw[z];exact⟨o,q⟩
   ·rw[List.mem_singleton.mp z];exact⟨_,hS⟩
  refine codeAny_builtin PySem.F.entry_sum_loop (by
   rw[Around.under_plainId PySem.F.plain_sum_loop _]
   show wpAny _ X.A.in1 (seqItems? (.ref S)>>=_) _ _ s
   refine wpAny_bind (wpAny_seqItems hS rfl ?_)
   show wpAny _ X.A.in1 (tryCatch (pyNext (.ref a)) _>>=_) _ _ s
   refine wpAny_bind (wpAny_tryCatch (G.item (D:=X.A.in1) hh hroom (by simp) ex hlt λv x s' rx RB G' kp=> ?_))
   obtain rfl:=hval i x hlt RB
   obtain⟨t,rfl⟩:=rx
   have hS':=kp S (by simp) _ hS
   have again:∀(h':Heap)(tk:Nat)(c':Nat)(tB:Tok)(st':Int),(st'=0∨st'=2) ->(∀b o,b≠S->s'.heap.get? b=some o->h'.get? b=some o) ->h'.get? S=some {cls:= .type "list",dict:=none,data:= .seq #[.int (preSum val i+val i) tB] c',slots:= #[]} ->
     codeAny (model X.prog X.w) X.A (.builtin "sum.loop" ⟨[.ref a,.ref S,rawInt st',rawInt 0],[]⟩) Rr {s' with heap:=h',toks:=tk}:=λh' tk c' tB st' aaj kp' e'=>
    ih (i+1) _ tB c' st' aaj (by omega) hlt (G'.frame IS hC hfp Bm (.inl ⟨_,hS'⟩) kp' e' (λv z=>by cases z)) e' hR
   rcases hst with rfl|rfl
   ·show wpAny _ X.A.in1 (if(_:Bool)=true then(mkInt (preSum val i+val i)>>=_)else _) _ _ _
    split
    ·refine wpAny_bind (wpAny_mkInt ?_)
     show wpAny _ X.A.in1 (updateSeq S (λ_=> #[.int (preSum val i+val i) s'.toks])>>=_) _ _ _
     exact wpAny_bind (wpAny_updateSeq hS' rfl (wpAny_pure ⟨plainId_quiet PySem.F.plain_sum_loop _,again _ _ _ _ 0 (.inl rfl) (λb o hb e=>(Heap.get?_update_other _ _ (Ne.symm hb)).trans e) (Heap.get?_update_self _ hS' rfl)⟩))
    ·refine wpAny_bind (wpAny_rule (wpAny_bind (wpAny_attempt (wpAny_holding (wpAny_add_int ?_)))))
     show wpAny _ X.A.in1 (updateSeq S (λ_=> #[.int (preSum val i+val i) s'.toks])>>=_) _ _ _
     refine wpAny_bind (wpAny_updateSeq hS' rfl ?_)
     have Nf:=Heap.get?_update_self (Obj.mapSeq λ_=> #[Value.int (preSum val i+val i) s'.toks]) hS' rfl
     exact wpAny_bind (wpAny_letGo (wpAny_bind (wpAny_updateSeq Nf rfl (wpAny_pure ⟨plainId_quiet PySem.F.plain_sum_loop _,again _ _ _ _ 2 (.inr rfl) (λb o hb e=>(Heap.get?_update_other _ _ (Ne.symm hb)).trans ((Heap.get?_update_other _ _ (Ne.symm hb)).trans e)) (Heap.get?_update_self _ Nf rfl)⟩))))
   ·show wpAny _ X.A.in1 ((holding [Value.int (val i) t] (binaryOp .Add (.int (preSum val i) tA) (.int (val i) t))).attempt>>=_) _ _ _
    refine wpAny_bind (wpAny_attempt (wpAny_holding (wpAny_add_int ?_)))
    show wpAny _ X.A.in1 (updateSeq S (λ_=> #[.int (preSum val i+val i) s'.toks])>>=_) _ _ _
    refine wpAny_bind (wpAny_updateSeq hS' rfl ?_)
    have Nf:=Heap.get?_update_self (Obj.mapSeq λ_=> #[Value.int (preSum val i+val i) s'.toks]) hS' rfl
    exact wpAny_bind (wpAny_letGo (wpAny_bind (wpAny_updateSeq Nf rfl (wpAny_pure ⟨plainId_quiet PySem.F.plain_sum_loop _,again _ _ _ _ 2 (.inr rfl) (λb o hb e=>(Heap.get?_update_other _ _ (Ne.symm hb)).trans ((Heap.get?_update_other _ _ (Ne.symm hb)).trans e)) (Heap.get?_update_self _ Nf rfl)⟩)))))
theorem Kn{Q:Value->Shared->Prop}{E:Value->Shared->Prop}{s:Shared}(IC:Inv X pins σ HC sC)(hf:∀b∈fp,gn X pins HC b)(hh:X.A.handled=none)(hroom:X.A.depth<recursionLimit)(hsz:s.heap.objs.size=a+1)(hC:sC.heap.objs.size<a)(hlt:∀b∈fp,b<sC.heap.objs.size)
  (Bm:∀i h h',tn i h->(∀b∈fp,∀o,h.get? b=some o->h'.get? b=some o) ->tn i h')(val:Nat->Int)(hval:∀i v,i<cnt->R i v->v= .int (val i))(G:yq X X.A.in1.in1 sc N' code sC HC fp [a,a+1] tn cnt R W a 0 s)
  (hQ:∀s' t' σ' H',Inv X pins σ H' s'->W cnt σ' H'->Q (.int (preSum val cnt) t') s'):wpAny (model X.prog X.w) X.A (call (.builtin "sum") [.ref a]) Q E s:=by
 refine call_function_tree PySem.F.kind_sum PySem.F.plain_sum PySem.F.entry_sum (PySem.F.args_sum1 _) ?_
 unfold Builtin.«sum»
 simp only[List.length_cons,List.length_nil]
 rw[if_neg (by decide)]
 refine wpAny_bind (wpAny_of_eq (a:=[none]) rfl ?_)
 refine wpAny_bind (wpAny_pyIter_gen G.gen ?_)
 refine wpAny_bind (wpAny_mkInt (wpAny_bind (wpAny_pure ?_)))
 simp only[List.forIn_cons,List.forIn_nil]
 refine wpAny_bind (wpAny_bind (wpAny_bind (wpAny_isInstance (T:= "int") (b:=false) (typeIs_int _ _ _) PySem.sub_int_str ?_)))
 simp only[Bool.false_eq_true,if_false]
 refine wpAny_pure (wpAny_bind (wpAny_bind (wpAny_isInstance (T:= "int") (b:=false) (typeIs_int _ _ _) PySem.sub_int_bytes ?_)))
 simp only[Bool.false_eq_true,if_false]
 refine wpAny_pure (wpAny_bind (wpAny_bind (wpAny_isInstance (T:= "int") (b:=false) (typeIs_int _ _ _) PySem.sub_int_bytearray ?_)))
 simp only[Bool.false_eq_true,if_false]
 refine wpAny_pure (wpAny_pure (wpAny_bind (wpAny_newObj_type ?_)))
 have IS:a≠a+1:=Nat.ne_of_lt (Nat.lt_succ_self _)
 have Us:sC.heap.objs.size<a+1:=Nat.lt_succ_of_lt hC
 have WC:∀b∈fp,b≠a+1:=λb hb=>Nat.ne_of_lt (Nat.lt_trans (hlt b hb) Us)
 refine wpAny_pure ⟨plainId_quiet PySem.F.plain_sum_loop _,?_⟩
 have e0:({s with toks:=s.toks+1}:Shared).heap.objs.size=a+1:=hsz
 dsimp only
 rw[hsz]
 have eS:(s.heap.push {cls:= .type "list",dict:=none,data:= .seq #[Value.int 0 s.toks]}).get? (a+1)=some {cls:= .type "list",dict:=none,data:= .seq #[Value.int 0 s.toks]}:=by
  rw[<-hsz];exact Heap.get?_push_size _ rfl
 refine Km IC hf hh hroom IS Us WC Bm val hval cnt 0 _ s.toks 0 0 (.inl rfl) rfl (Nat.zero_le _) (G.frame IS Us WC Bm (.inr (Nat.le_of_eq hsz)) (λb o _ e=>Heap.get?_push_of_some _ e) eS (λv z=>by cases z)) eS λs' t' σ' H' I' w'=> ?_
 exact hQ s' t' σ' H' I' w'
end
theorem set_same{s:Shared}{g:Nat}{x y:GenState}(h:s.gens[g]?=some x):(s.setGen g y).setGen g x=s:=by
 obtain⟨hh,gens,d,t,os⟩:=s
 have hlt:g<gens.size:=by
  rcases Nat.lt_or_ge g gens.size with q|q
  ·exact q
  ·have z:gens[g]?=none:=Array.getElem?_eq_none q
   have h':gens[g]?=some x:=h
   rw[z]at h';cases h'
 have q:(gens.setIfInBounds g y).setIfInBounds g x=gens:=by
  apply Array.ext_getElem?
  intro i
  by_cases e:g=i
  ·subst e
   rw[Array.getElem?_setIfInBounds_self_of_lt (by simpa using hlt)]
   exact h.symm
  ·rw[Array.getElem?_setIfInBounds_ne e,Array.getElem?_setIfInBounds_ne e]
 show({heap:=hh,gens:=(gens.setIfInBounds g y).setIfInBounds g x,drawn:=d,toks:=t,os:=os}:Shared)=_
 rw[q]
section
variable{X:Cx}{sc:Scope}{N':List Str}{code:Value}{sC:Shared}{HC:Hp}{fp Ss:List Addr}{tn:Nat->Heap->Prop}{cnt:Nat}{R:Nat->V->Prop}{W:Nat->St->Hp->Prop}{a:Addr}{pins:List (Addr×Obj)}{σ:St}{Rr:Result->Shared->Prop}
theorem yq.out{B:Around}{i:Nat}{s:Shared}(G:yq X B sc N' code sC HC fp Ss tn cnt R W a i s)(IC:Inv X pins σ HC sC)(hf:∀b∈fp,gn X pins HC b):∃σ' H',Inv X pins σ H' s/\W i σ' H':=by
 obtain⟨gs,pl,σ',H',hpl,e1,e2,I,st,fr,w,go⟩:=G.ex
 have q:=Inv.Nb (gs:=gs) IC hf e2 I
 rw[set_same e1]at q
 exact⟨σ',H',q,w⟩
theorem Ko(IC:Inv X pins σ HC sC)(hf:∀b∈fp,gn X pins HC b)(hh:X.A.handled=none)(hroom:X.A.depth<recursionLimit)(bv:Nat->Bool)(hval:∀i v,i<cnt->R i v->v= .bl (bv i)):∀(k i:Nat)(s:Shared),cnt-i=k->i<=cnt->
  yq X X.A.in1.in1 sc N' code sC HC fp [a] tn cnt R W a i s->(∀j,j<i->bv j=true) ->
  ((∀j,j<cnt->bv j=true) -> ∀s' σ' H',Inv X pins σ H' s'->W cnt σ' H'->Rr (.ok (.ret (.bool true))) s') ->
  (∀j,j<cnt->bv j=false->(∀l,l<j->bv l=true) -> ∀s' σ' H',Inv X pins σ H' s'->W (j+1) σ' H'->Rr (.ok (.ret (.bool false))) s') ->codeAny (model X.prog X.w) X.A (.builtin "all.loop" ⟨[.ref a],[]⟩) Rr s:=by
 intro k
 induction k with
 |zero=>
  intro i s hk hi G hp hT hF
  obtain rfl:i=cnt:=by omega
  have ex:∀b∈ [a],∃o,s.heap.get? b=some o:=λb hb=>by
   obtain⟨o,_,_,q,_⟩:=G.gen;rw[List.mem_singleton.mp hb];exact⟨o,q⟩
  refine codeAny_builtin PySem.F.entry_all_loop (by
   rw[Around.under_plainId PySem.F.plain_all_loop _]
   show wpAny _ X.A.in1 (pyNext (.ref a)>>=_) _ _ s
   exact wpAny_bind (G.done (D:=X.A.in1) IC hf hh hroom ex λs' σ' H' I' w'=>wpAny_bind (wpAny_rule (wpAny_pure (hT hp s' σ' H' I' w')))))
 |succ k ih=>
  intro i s hk hi G hp hT hF
  have hlt:i<cnt:=by omega
  have ex:∀b∈ [a],∃o,s.heap.get? b=some o:=λb hb=>by
   obtain⟨o,_,_,q,_⟩:=G.gen;rw[List.mem_singleton.mp hb];exact⟨o,q⟩
  refine codeAny_builtin PySem.F.entry_all_loop (by
   rw[Around.under_plainId PySem.F.plain_all_loop _]
   show wpAny _ X.A.in1 (pyNext (.ref a)>>=_) _ _ s
   refine wpAny_bind (G.item (D:=X.A.in1) hh hroom (by simp) ex hlt λv x s' rx RB G' kp=> ?_)
   obtain rfl:=hval i x hlt RB
   cases rx
   refine wpAny_bind (wpAny_holding (wpAny_truthy_bool (wpAny_bind (wpAny_letGo ?_))))
   cases hb:bv i with
   |true=>
    simp only[if_true]
    exact wpAny_pure ⟨plainId_quiet PySem.F.plain_all_loop _,ih (i+1) _ (by omega) hlt G' (λj hj=>by
     rcases Nat.lt_or_ge j i with q|q
     ·exact hp j q
     ·rw[show j=i by omega];exact hb) hT hF⟩
   |false=>
    simp only[Bool.false_eq_true,if_false]
    obtain⟨σ',H',I',w'⟩:=G'.out IC hf
    exact wpAny_bind (wpAny_rule (wpAny_pure (hF i hlt hb hp s' σ' H' I' w'))))
theorem Kp{Q:Value->Shared->Prop}{E:Value->Shared->Prop}{s:Shared}(IC:Inv X pins σ HC sC)(hf:∀b∈fp,gn X pins HC b)(hh:X.A.handled=none)(hroom:X.A.depth<recursionLimit)(bv:Nat->Bool)(hval:∀i v,i<cnt->R i v->v= .bl (bv i))(G:yq X X.A.in1.in1 sc N' code sC HC fp [a] tn cnt R W a 0 s)
  (hT:(∀j,j<cnt->bv j=true) -> ∀s' σ' H',Inv X pins σ H' s'->W cnt σ' H'->Q (.bool true) s')
  (hF:∀j,j<cnt->bv j=false->(∀l,l<j->bv l=true) -> ∀s' σ' H',Inv X pins σ H' s'->W (j+1) σ' H'->Q (.bool false) s'):wpAny (model X.prog X.w) X.A (call (.builtin "all") [.ref a]) Q E s:=by
 refine call_function_tree PySem.F.kind_all PySem.F.plain_all PySem.F.entry_all (PySem.F.args_all1 _) ?_
 unfold Builtin.«all»
 refine wpAny_bind (m:=oneArg "all" _) (wpAny_pure (wpAny_bind (wpAny_pyIter_gen G.gen ?_)))
 exact wpAny_pure ⟨plainId_quiet PySem.F.plain_all_loop _,Ko IC hf hh hroom bv hval cnt 0 s rfl (Nat.zero_le _) G (λj hj=>absurd hj (Nat.not_lt_zero _)) hT hF⟩
theorem Kq(IC:Inv X pins σ HC sC)(hf:∀b∈fp,gn X pins HC b)(hh:X.A.handled=none)(hroom:X.A.depth<recursionLimit)(bv:Nat->Bool)(hval:∀i v,i<cnt->R i v->v= .bl (bv i)):∀(k i:Nat)(s:Shared),cnt-i=k->i<=cnt->
  yq X X.A.in1.in1 sc N' code sC HC fp [a] tn cnt R W a i s->(∀j,j<i->bv j=false) ->
  ((∀j,j<cnt->bv j=false) -> ∀s' σ' H',Inv X pins σ H' s'->W cnt σ' H'->Rr (.ok (.ret (.bool false))) s') ->
  (∀j,j<cnt->bv j=true->(∀l,l<j->bv l=false) -> ∀s' σ' H',Inv X pins σ H' s'->W (j+1) σ' H'->Rr (.ok (.ret (.bool true))) s') ->codeAny (model X.prog X.w) X.A (.builtin "any.loop" ⟨[.ref a],[]⟩) Rr s:=by
 intro k
 induction k with
 |zero=>
  intro i s hk hi G hp hT hF
  obtain rfl:i=cnt:=by omega
  have ex:∀b∈ [a],∃o,s.heap.get? b=some o:=λb hb=>by
   obtain⟨o,_,_,q,_⟩:=G.gen;rw[List.mem_singleton.mp hb];exact⟨o,q⟩
  refine codeAny_builtin PySem.F.entry_any_loop (by
   rw[Around.under_plainId PySem.F.plain_any_loop _]
   show wpAny _ X.A.in1 (pyNext (.ref a)>>=_) _ _ s
   exact wpAny_bind (G.done (D:=X.A.in1) IC hf hh hroom ex λs' σ' H' I' w'=>wpAny_bind (wpAny_rule (wpAny_pure (hT hp s' σ' H' I' w')))))
 |succ k ih=>
  intro i s hk hi G hp hT hF
  have hlt:i<cnt:=by omega
  have ex:∀b∈ [a],∃o,s.heap.get? b=some o:=λb hb=>by
   obtain⟨o,_,_,q,_⟩:=G.gen;rw[List.mem_singleton.mp hb];exact⟨o,q⟩
  refine codeAny_builtin PySem.F.entry_any_loop (by
   rw[Around.under_plainId PySem.F.plain_any_loop _]
   show wpAny _ X.A.in1 (pyNext (.ref a)>>=_) _ _ s
   refine wpAny_bind (G.item (D:=X.A.in1) hh hroom (by simp) ex hlt λv x s' rx RB G' kp=> ?_)
   obtain rfl:=hval i x hlt RB
   cases rx
   refine wpAny_bind (wpAny_holding (wpAny_truthy_bool (wpAny_bind (wpAny_letGo ?_))))
   cases hb:bv i with
   |false=>
    simp only[Bool.false_eq_true,if_false]
    exact wpAny_pure ⟨plainId_quiet PySem.F.plain_any_loop _,ih (i+1) _ (by omega) hlt G' (λj hj=>by
     rcases Nat.lt_or_ge j i with q|q
     ·exact hp j q
     ·rw[show j=i by omega];exact hb) hT hF⟩
   |true=>
    simp only[if_true]
    obtain⟨σ',H',I',w'⟩:=G'.out IC hf
    exact wpAny_bind (wpAny_rule (wpAny_pure (hF i hlt hb hp s' σ' H' I' w'))))
theorem Kr{Q:Value->Shared->Prop}{E:Value->Shared->Prop}{s:Shared}(IC:Inv X pins σ HC sC)(hf:∀b∈fp,gn X pins HC b)(hh:X.A.handled=none)(hroom:X.A.depth<recursionLimit)(bv:Nat->Bool)(hval:∀i v,i<cnt->R i v->v= .bl (bv i))(G:yq X X.A.in1.in1 sc N' code sC HC fp [a] tn cnt R W a 0 s)
  (hT:(∀j,j<cnt->bv j=false) -> ∀s' σ' H',Inv X pins σ H' s'->W cnt σ' H'->Q (.bool false) s')
  (hF:∀j,j<cnt->bv j=true->(∀l,l<j->bv l=false) -> ∀s' σ' H',Inv X pins σ H' s'->W (j+1) σ' H'->Q (.bool true) s'):wpAny (model X.prog X.w) X.A (call (.builtin "any") [.ref a]) Q E s:=by
 refine call_function_tree PySem.F.kind_any PySem.F.plain_any PySem.F.entry_any (PySem.F.args_any1 _) ?_
 unfold Builtin.«any»
 refine wpAny_bind (m:=oneArg "any" _) (wpAny_pure (wpAny_bind (wpAny_pyIter_gen G.gen ?_)))
 exact wpAny_pure ⟨plainId_quiet PySem.F.plain_any_loop _,Kq IC hf hh hroom bv hval cnt 0 s rfl (Nat.zero_le _) G (λj hj=>absurd hj (Nat.not_lt_zero _)) hT hF⟩
end
def Ng(k:Nat)(P:Addr)(g:TG)(te:TE)(σ:St)(J:It)(H1:Hp)(Q:VK):Prop:=H1 P=some (cj P)/\yr k g te σ (λcnt R W=> ∃val:Nat->Int,(∀i v,i<cnt->R i v->v= .int (val i))/\ ∀σ' H',W cnt σ' H'->Q (.int (preSum val cnt)) H') J H1
def IT(k:Nat)(P:Addr)(wi:TI)(g:TG)(te:TE):TE:=λσ H Q=>wi σ H λJ H1=>Ng k P g te σ J H1 Q
def Ut(k:Nat)(P:Addr)(g:TG)(te:TE)(σ:St)(J:It)(H1:Hp)(Q:VK):Prop:=H1 P=some (cj P)/\yr k g te σ (λcnt R W=> ∃bv:Nat->Bool,(∀i v,i<cnt->R i v->v= .bl (bv i))/\
 ((∀j,j<cnt->bv j=true) -> ∀σ' H',W cnt σ' H'->Q (.bl true) H')/\(∀j,j<cnt->bv j=false->(∀l,l<j->bv l=true) -> ∀σ' H',W (j+1) σ' H'->Q (.bl false) H')) J H1
def Uu(k:Nat)(P:Addr)(wi:TI)(g:TG)(te:TE):TE:=λσ H Q=>wi σ H λJ H1=>Ut k P g te σ J H1 Q
def Uv(k:Nat)(P:Addr)(g:TG)(te:TE)(σ:St)(J:It)(H1:Hp)(Q:VK):Prop:=H1 P=some (cj P)/\yr k g te σ (λcnt R W=> ∃bv:Nat->Bool,(∀i v,i<cnt->R i v->v= .bl (bv i))/\
 ((∀j,j<cnt->bv j=false) -> ∀σ' H',W cnt σ' H'->Q (.bl false) H')/\(∀j,j<cnt->bv j=true->(∀l,l<j->bv l=false) -> ∀σ' H',W (j+1) σ' H'->Q (.bl true) H')) J H1
def Uw(k:Nat)(P:Addr)(wi:TI)(g:TG)(te:TE):TE:=λσ H Q=>wi σ H λJ H1=>Uv k P g te σ J H1 Q
section
variable{X:Cx}{sc:Scope}{own N2:List Str}{elt iter tg:Expr}{g7 p pos:Pos}{wi:TI}{g:TG}{te:TE}{P:Addr}
structure DW(X:Cx)(sc:Scope)(own N2:List Str)(P:Addr):Prop where
 calm:X.calm=true
 room:X.A.depth<recursionLimit
 RC:uh sc.names X.env.scope.names own N2 X.N
 kind:sc.kind= .function
 co:sc.isCoroutine=false
 nc:∀y∈sc.names,y.2≠ .cell
 YQ:sc.names.lookup (".0":Str)=some NameKind.local
 code:gR X.K X.env.code P
 bm:BM X.mg X.base
theorem IU(K:DW X sc own N2 P)(DX:Gl X "sum")(hm:X.mg "sum"=none)(hi:PI X tg iter wi)
  (hg:∀code s H fp,PG (X.gen X.A.in1.in1 sc (own++N2) code s H fp) tg g)(he:∀code s H fp,PE (X.gen X.A.in1.in1 sc (own++N2) code s H fp) elt te)
  (hs:∀x,genFold iter X.env x=pure x:=by intro _;rfl)(hst:starEach [.GeneratorExp elt [⟨tg,iter,[],0⟩] sc g7] X.env=[(false,eval (.GeneratorExp elt [⟨tg,iter,[],0⟩] sc g7) X.env)]:=by rfl):
  PE X (.Call (.Name "sum" p) [.GeneratorExp elt [⟨tg,iter,[],0⟩] sc g7] [] pos) (IT own.length P wi g te):=by
 intro pins s σ H Q I h
 refine wpAny_Call_Name_kw (lQ I DX hm PyProof.Rows.boot_sum ?_)
 refine PyProof.Rows.callWith_builtin1 ?_ hst rfl
 rw[hst]
 refine Calls.spliced_cons (gj (BV (pos:=g7) (λa=>[a+1]) (λa b hb=>by rw[List.mem_singleton.mp hb];exact Nat.lt_succ_self _) K.calm K.room hi K.RC K.kind K.co K.nc K.YQ K.code K.bm hg he hs I h) λu s5 h5=> ?_)
 obtain⟨a,cnt,R,W,sC,HC,fp,code,tn,rfl,hsz,G,IC,hf,hC,hlt,Bm,val,hval,hq⟩:=h5
 exact Calls.spliced_nil (Kn IC hf (I.ok.hd K.calm) K.room hsz hC hlt Bm val hval G λs' t' σ' H' I' w'=>⟨.int (preSum val cnt),H',I',⟨_,rfl⟩,hq σ' H' w'⟩)
theorem RD(K:DW X sc own N2 P)(DX:Gl X "all")(hm:X.mg "all"=none)(hi:PI X tg iter wi)
  (hg:∀code s H fp,PG (X.gen X.A.in1.in1 sc (own++N2) code s H fp) tg g)(he:∀code s H fp,PE (X.gen X.A.in1.in1 sc (own++N2) code s H fp) elt te)
  (hs:∀x,genFold iter X.env x=pure x:=by intro _;rfl)(hst:starEach [.GeneratorExp elt [⟨tg,iter,[],0⟩] sc g7] X.env=[(false,eval (.GeneratorExp elt [⟨tg,iter,[],0⟩] sc g7) X.env)]:=by rfl):
  PE X (.Call (.Name "all" p) [.GeneratorExp elt [⟨tg,iter,[],0⟩] sc g7] [] pos) (Uu own.length P wi g te):=by
 intro pins s σ H Q I h
 refine wpAny_Call_Name_kw (lQ I DX hm PyProof.Rows.boot_all ?_)
 refine PyProof.Rows.callWith_builtin1 ?_ hst rfl
 rw[hst]
 refine Calls.spliced_cons (gj (BV (pos:=g7) (λa=>[]) (λa b hb=>by cases hb) K.calm K.room hi K.RC K.kind K.co K.nc K.YQ K.code K.bm hg he hs I h) λu s5 h5=> ?_)
 obtain⟨a,cnt,R,W,sC,HC,fp,code,tn,rfl,hsz,G,IC,hf,hC,hlt,Bm,bv,hval,hT,hF⟩:=h5
 exact Calls.spliced_nil (Kp IC hf (I.ok.hd K.calm) K.room bv hval G (λhb s' σ' H' I' w'=>⟨.bl true,H',I',rfl,hT hb σ' H' w'⟩) (λj hj hb hp s' σ' H' I' w'=>⟨.bl false,H',I',rfl,hF j hj hb hp σ' H' w'⟩))
theorem RE(K:DW X sc own N2 P)(DX:Gl X "any")(hm:X.mg "any"=none)(hi:PI X tg iter wi)
  (hg:∀code s H fp,PG (X.gen X.A.in1.in1 sc (own++N2) code s H fp) tg g)(he:∀code s H fp,PE (X.gen X.A.in1.in1 sc (own++N2) code s H fp) elt te)
  (hs:∀x,genFold iter X.env x=pure x:=by intro _;rfl)(hst:starEach [.GeneratorExp elt [⟨tg,iter,[],0⟩] sc g7] X.env=[(false,eval (.GeneratorExp elt [⟨tg,iter,[],0⟩] sc g7) X.env)]:=by rfl):
  PE X (.Call (.Name "any" p) [.GeneratorExp elt [⟨tg,iter,[],0⟩] sc g7] [] pos) (Uw own.length P wi g te):=by
 intro pins s σ H Q I h
 refine wpAny_Call_Name_kw (lQ I DX hm PyProof.Rows.boot_any ?_)
 refine PyProof.Rows.callWith_builtin1 ?_ hst rfl
 rw[hst]
 refine Calls.spliced_cons (gj (BV (pos:=g7) (λa=>[]) (λa b hb=>by cases hb) K.calm K.room hi K.RC K.kind K.co K.nc K.YQ K.code K.bm hg he hs I h) λu s5 h5=> ?_)
 obtain⟨a,cnt,R,W,sC,HC,fp,code,tn,rfl,hsz,G,IC,hf,hC,hlt,Bm,bv,hval,hT,hF⟩:=h5
 exact Calls.spliced_nil (Kr IC hf (I.ok.hd K.calm) K.room bv hval G (λhb s' σ' H' I' w'=>⟨.bl false,H',I',rfl,hT hb σ' H' w'⟩) (λj hj hb hp s' σ' H' I' w'=>⟨.bl true,H',I',rfl,hF j hj hb hp σ' H' w'⟩))
end
section
variable{X:Cx}{B:Around}{sc:Scope}{N':List Str}{code:Value}{sC:Shared}{HC:Hp}{fp Ss:List Addr}{tn:Nat->Heap->Prop}{R:Nat->V->Prop}{W:Nat->St->Hp->Prop}
variable{elt iter tg IV tg2:Expr}{pos:Pos}{it:Addr}{J:It}{g g':TG}{te:TE}{YR:TI}{c1 c2:Nat}
end
section
variable{X:Cx}{B:Around}{sc:Scope}{N':List Str}{code:Value}{sC:Shared}{HC:Hp}{fp Ss:List Addr}{tn:Nat->Heap->Prop}{R:Nat->V->Prop}{W:Nat->St->Hp->Prop}
variable{elt iter tg IV tg2:Expr}{pos:Pos}{it:Addr}{J:It}{g g':TG}{te:TE}{YR:TI}{c1 c2:Nat}
end
section
variable{X:Cx}{sc:Scope}{own N2:List Str}{elt iter tg IV tg2:Expr}{g7 p pos:Pos}{wi YR:TI}{g g':TG}{te:TE}{P:Addr}
end
mutual
inductive DY(K:PySem.W.Frag)(H:Hp):V->PyData->Prop
 |fP:DY K H .fP .none
 |bl(b:Bool):DY K H (.bl b) (.bool b)
 |int(i:Int):DY K H (.int i) (.int i)
 |str(x:Str):DY K H (.str x) (.str x)
 |lst{a:Addr}{xs:List V}{ds:List PyData}:aV K H a xs->Ao K H xs ds->DY K H (.ref a) (.list ds)
 |tup{a:Addr}{xs:List V}{ds:List PyData}:qA K H a xs->Ao K H xs ds->DY K H (.ref a) (.tuple ds)
inductive Ao(K:PySem.W.Frag)(H:Hp):List V->List PyData->Prop
 |nil:Ao K H [] []
 |cons{x:V}{d:PyData}{xs:List V}{ds:List PyData}:DY K H x d->Ao K H xs ds->Ao K H (x::xs) (d::ds)
end
section
variable{X:Cx}{pins:List (Addr×Obj)}{σ:St}{H:Hp}{s:Shared}
mutual
theorem lW(I:Inv X pins σ H s):∀{x:V}{d:PyData}{u:Value},DY X.K H x d->RelV x u-> ∃as,Reads s.heap u d as
 |_,_,_,.fP,r=>by cases r;exact⟨_,.none⟩
 |_,_,_,.bl b,r=>by cases r;exact⟨_,.bool b⟩
 |_,_,_,.int i,r=>by obtain⟨t,rfl⟩:=r;exact⟨_,.int i t⟩
 |_,_,_,.str x,r=>by obtain⟨t,rfl⟩:=r;exact⟨_,.str x t⟩
 |_,_,_,.lst hq hs,r=>by
  cases r
  obtain⟨its,rv,⟨o,n,e,c,_,dd⟩,_⟩:=I.list hq
  obtain⟨as,q⟩:=qG I hs rv
  exact⟨_,.list e c dd (by simpa using q)⟩
 |_,_,_,.tup hq hs,r=>by
  cases r
  obtain⟨its,rv,⟨o,e,c,n,dd⟩,_⟩:=I.tuple hq
  obtain⟨as,q⟩:=qG I hs rv
  exact⟨_,.tuple e c dd (by simpa using q)⟩
theorem qG(I:Inv X pins σ H s):∀{xs:List V}{ds:List PyData}{us:List Value},Ao X.K H xs ds->Vals xs us-> ∃as,ReadsAll s.heap us ds as
 |_,_,_,.nil,r=>by cases r;exact⟨_,.nil⟩
 |_,_,_,.cons h t,r=>by
  cases r with
  |cons r1 r2=>
   obtain⟨as,q1⟩:=lW I h r1
   obtain⟨bs,q2⟩:=qG I t r2
   exact⟨_,.cons q1 q2⟩
end
end
def Ks(K:PySem.W.Frag)(neg:Bool):R2:=λx y H Q=> ∃da db,DY K H x da/\DY K H y db/\SeqAt.shaped da=true/\SeqAt.shaped db=true/\Q (.bl (if neg then !PyData.eqv da db else PyData.eqv da db)) H
section
variable{X:Cx}
theorem Gu(hu:X.A.units+64<cLine):vD X (compareOp .Eq) (Ks X.K false):=by
 intro pins s σ H x y v u Q I rx ry h
 obtain⟨da,db,h1,h2,s1,s2,q⟩:=h
 obtain⟨as,r1⟩:=lW I h1 rx
 obtain⟨bs,r2⟩:=lW I h2 ry
 exact eq_dataH r1 r2 s1 s2 hu ⟨.bl _,H,I,rfl,q⟩
theorem Vu(hu:X.A.units+64<cLine):vD X (compareOp .NotEq) (Ks X.K true):=by
 intro pins s σ H x y v u Q I rx ry h
 obtain⟨da,db,h1,h2,s1,s2,q⟩:=h
 obtain⟨as,r1⟩:=lW I h1 rx
 obtain⟨bs,r2⟩:=lW I h2 ry
 exact ne_dataH r1 r2 s1 s2 hu ⟨.bl _,H,I,rfl,q⟩
theorem mV:qC X (.builtin "isinstance") (λxs H Q=> ∃x n t b,xs=[x,.ty n]/\uv X.K H x t/\PySem.W.kitOne X.K t (.type n)=some b/\Q (.bl b) H):=by
 intro pins s σ H xs us Q I r h
 obtain⟨x,n,t,b,rfl,ty,e,q⟩:=h
 cases r with
 |cons r1 r2=>
  cases r2 with
  |cons r2 r3=>
   cases r3
   cases r2
   exact JX I r1 ty e λtk=>⟨.bl b,H,I.tok _,rfl,q⟩
end
abbrev jN(r:List Int):PyData:= .list (r.map .int)
abbrev qH(m:List (List Int)):PyData:= .list (m.map jN)
theorem qI:∀m:List (List Int),PyData.canLayAll0 (m.map jN)=true
 | []=>rfl
 |r::m=>by simp[PyData.canLayAll0,PyData.canLay0,PySem.W.ke_canLayAll0,qI m]
theorem pD:∀m:List (List Int),PyData.depthAll (m.map jN)<=1
 | []=>by simp[PyData.depthAll]
 |r::m=>by
  have:=pD m
  simp only[List.map_cons,PyData.depthAll,PyData.depth,PySem.W.ke_depthAll]
  omega
theorem yt(m:List (List Int)):SeqAt.shaped (qH m)=true:=by
 have q:=pD m
 simp only[SeqAt.shaped,PyData.canLay0,PyData.depth,qI,Bool.true_and,decide_eq_true_eq]
 exact decide_eq_true (show PyData.depthAll (m.map jN)+1<=64 by omega)
theorem jd(r:List Int):SeqAt.shaped (jN r)=true:=PySem.W.ke_shaped_ints r
theorem uy(r t:List Int):PyData.eqv (jN r) (jN t)=decide (r=t):=by
 simp only[PyData.eqv]
 exact PySem.W.ked_eqvAll r t
theorem xm:∀m n:List (List Int),PyData.eqvAll (m.map jN) (n.map jN)=decide (m=n)
 | [],[]=>by simp[PyData.eqvAll]
 | [],_::_=>by simp[PyData.eqvAll]
 |_::_,[]=>by simp[PyData.eqvAll]
 |a::r,b::t=>by
  have e:=uy a b
  simp only[jN]at e
  simp only[List.map_cons,PyData.eqvAll,xm r t,jN,e]
  by_cases h:a=b<;>by_cases h':r=t<;>simp[h,h']
theorem RG(m n:List (List Int)):PyData.eqv (qH m) (qH n)=decide (m=n):=by
 simp only[PyData.eqv]
 exact xm m n
structure Vv(tz:Addr->HO):Prop where
 new:∀{P:Program}{w:World}{H:Hp}{h:Heap}{T:Addr},h.get? T=some {cls:= .none,data:= .fields #[]} ->fX P w H h T (tz T)
 get:∀{P:Program}{w:World}{H:Hp}{h:Heap}{T:Addr},fX P w H h T (tz T) -> ∃ps:Array Value,h.get? T=some {cls:= .none,data:= .fields ps}
theorem IW:Vv cj:=⟨λe=>MX e (by simp[TriplesOk]),λh=>let⟨⟨ps,e,_⟩,_⟩:=h;⟨ps,e⟩⟩
theorem Vw(je:List Addr):Vv (λT=>if T∈je then .DH else cj T):=by
 refine⟨λ {P w H h T} e=> ?_,λ {P w H h T} x=> ?_⟩
 ·by_cases c:T∈je
  ·rw[if_pos c]
   exact⟨#[],e,trivial,λpos cv z=>nomatch z⟩
  ·rw[if_neg c]
   exact IW.new e
 ·by_cases c:T∈je
  ·rw[if_pos c]at x
   obtain⟨ps,e,_⟩:=x
   exact⟨ps,e⟩
  ·rw[if_neg c]at x
   exact IW.get x
theorem Ku{P:Program}{w:World}{K:PySem.W.Frag}{mg mb:Str->Option Value}{k:Nat}{fa a:Addr}{fd:FuncData}{x:Str}{sp:Sp}{s₁:Shared}{vs:List Value}{ns:List Int}{tabs:List Addr}{tz:Addr->HO}(TZ:Vv tz)
  (KX:K.In s₁.heap)(hns:s₁.heap.Ns mainGlobals mg)(hb:s₁.heap.Ns builtinsNs mb)(hbb:∀x:Str,x≠ "__name__" ->mb x=bootBuiltins x)(hlim:s₁.heap.NoLimit)(hbm:BM mg s₁.heap)(hg:s₁.gens= #[])
  (htab:∀T∈tabs,isCodeTable s₁.heap T/\s₁.heap.get? T=some {cls:= .none,data:= .fields #[]})
  (ha:s₁.heap.get? a=some {cls:= .type "list",data:= .seq vs.toArray})(hi:IntsAre vs ns)(hl:ns.length<=sizeLine)(hr:gr k callerA)(hcl:PySem.W.kb_classed K=true)
  (F:∀base:Heap,K.In base->base.Ns mainGlobals mg->BM mg base->qD P w K mg base c8 k fa fd [x] sp)(hbind:∀(s:Shared)(u:Value),BindsTo s fd ⟨[u],[]⟩ [(x,u)])
  (Gi:∀H:Hp,(∀T∈tabs,H T=some (tz T)) ->aV K H a (ns.map V.int) ->sp [.ref a] H (λv H'=>v= .bl true/\ ∀T∈tabs,H' T=some (tz T)) λ_ _ _=>False):
  codeAny (model P w) callerA (.call (.ref fa) ⟨[.ref a],[]⟩) (λr s'=>r= .ok (.ret (.bool true))/\OldK s₁.heap s'.heap/\s'.os=s₁.os/\AllBare s'.gens) s₁:=by
 have rv:=Bl hi
 have aak:=hi.length
 have naT:a∉tabs:=λz=>by
  have e:=(htab a z).2
  rw[ha]at e
  cases e
 have core:∀H:Hp,(∀T∈tabs,H T=some (tz T)) ->(∀b u,H b=some u->b∈tabs∨(b=a/\ ∃o xs,u= .AY o (.lst xs))) ->aV K H a (ns.map V.int) ->vE P w H s₁.heap->(H a≠none->K.lookup a=none) ->
   codeAny (model P w) callerA (.call (.ref fa) ⟨[.ref a],[]⟩) (λr s'=>r= .ok (.ret (.bool true))/\OldK s₁.heap s'.heap/\s'.os=s₁.os/\AllBare s'.gens) s₁:=by
  intro H hT hO hS hok hK
  have free:∀{b:Addr}{o:Obj},s₁.heap.get? b=some o->o.cls≠ .none->b≠a->H b=none:=λ {b o} e hc hba=>by
   cases q:H b with
   |none=>rfl
   |some u=>
    rcases hO b u q with z|⟨z,_⟩
    ·have e':=(htab b z).2
     rw[e]at e'
     cases e'
     exact absurd rfl hc
    ·exact absurd z hba
  have BW:∀{b:Addr}{o:Obj},s₁.heap.get? b=some o->H b=none->(Ai s₁.heap H).get? b=some o:=λe n=>MB e n
  have noD:∀{b:Addr}{o:Obj}{es:Array DictEntry}{ep:Nat},s₁.heap.get? b=some o->o.data= .dict es ep->H b=none:=λ {b o es ep} e d=>by
   cases q:H b with
   |none=>rfl
   |some u=>
    rcases hO b u q with z|⟨z,_⟩
    ·have e':=(htab b z).2
     rw[e]at e'
     cases e'
     cases d
    ·rw[z,ha]at e
     cases e
     cases d
  have YS:∀{b:Addr}{m:Str->Option Value},s₁.heap.Ns b m->(Ai s₁.heap H).Ns b m:=λ {b m} ⟨o,es,ep,e,d,r⟩=>⟨o,es,ep,BW e (noD e d),d,r⟩
  have hKb:K.In (Ai s₁.heap H):=λb o e=>BW (KX b o e) (by
   by_cases hba:b=a
   ·cases q:H b with
    |none=>rfl
    |some u=>
     subst hba
     rw[hK (by rw[q];simp)]at e
     cases e
   ·have q:=List.all_eq_true.mp hcl (b,o) (PySem.W.kb_mem e)
    simp only[Bool.or_eq_true,decide_eq_true_eq,beq_iff_eq]at q
    rcases q with(q|q)|q
    ·exact free (KX b o e) q hba
    ·obtain⟨mc,⟨oc,es,ep,z1,z2,_⟩,_⟩:=hlim
     rw[q];exact noD z1 z2
    ·obtain⟨oc,es,ep,z1,z2,_⟩:=hns
     rw[q];exact noD z1 z2)
  have hM:Mod K mg (Ai s₁.heap H):=⟨hKb,YS hns,⟨mb,YS hb,hbb⟩,let⟨mc,h1,h2⟩:=hlim;⟨mc,YS h1,h2⟩⟩
  have hBM:BM mg (Ai s₁.heap H):=by
   obtain⟨bm,ob,q1,q2,q3,q4,q5,q6⟩:=hbm
   refine⟨bm,ob,q1,q2,BW q3 (free q3 (by rw[q4];simp) λz=> ?_),q4,q5,q6⟩
   rw[z,ha]at q3
   rw[<-Option.some.inj q3]at q4
   exact absurd q4 (by simp)
  have e0:JY P w K mg (Ai s₁.heap H) callerA [] s₁ H:=⟨rfl,hM,λb o e=>QZ e,Nat.le_of_eq (JP _ _),trivial,λb hb=>absurd (show b∈([]:List Addr)from hb) (by simp),hok,.of_eq hg⟩
  refine codeAny_mono ((F _ hKb (YS hns) hBM).run callerA [] s₁ H ⟨[.ref a],[]⟩ [.ref a] [.ref a] _ _ hr e0 (hbind s₁ (.ref a)) (.cons rfl .nil) (Gi H hT hS)) λr s' h=> ?_
  cases r with
  |error e=>exact False.elim h
  |ok fl=>
   cases fl with
   |next=>exact False.elim h
   |brk=>exact False.elim h
   |cont=>exact False.elim h
   |ret u=>
    obtain⟨v,H',os,bare,un,XA,r',q⟩:=h
    obtain⟨q',hT'⟩:=q
    have q':v= .bl true:=q'
    subst q'
    obtain rfl:u=Value.bool true:=r'
    refine⟨rfl,⟨λb o e=> ?_,λb o e=>un.there b o e (by simp)⟩,os,bare.bare⟩
    cases q:H b with
    |none=>exact .inl (un.keep b o e q (by intro z;exact absurd (show b∈([]:List Addr)from z) (by simp)) (by simp))
    |some u=>
     rcases hO b u q with z|⟨z,ob,xs,eu⟩
     ·obtain⟨ct,e'⟩:=htab b z
      obtain⟨ps,ep⟩:=TZ.get (XA b _ (hT' b z))
      rw[e]at e'
      cases e'
      exact .inr (.inl ⟨ct,rfl, #[],ps,rfl,by simpa using ep⟩)
     ·subst eu
      have z2:=un.uo b ob _ q
      obtain⟨e1,_⟩:=hok b _ q
      obtain⟨e2,_⟩:=XA b _ z2
      rw[e]at e1;cases e1
      exact .inl e2
 have tzk:∀(H:Hp)(T:Addr),T∈tabs->fX P w H s₁.heap T (tz T):=λH T hT=>TZ.new (htab T hT).2
 cases hk:K.lookup a with
 |some o=>
  have e:=KX a o hk
  rw[ha]at e
  cases e
  refine core (λb=>if b∈tabs then some (tz b)else none) (λT hT=>if_pos hT) (λb u z=> ?_) (.inr ⟨_,vs.toArray,_,hk,rfl,rfl,rfl,by rw[List.size_toArray,aak];exact hl,by simpa using rv⟩) (λb u z=> ?_) (λz=>absurd (if_neg naT) z)
  ·by_cases hb:b∈tabs
   ·exact .inl hb
   ·have z':=(if_neg hb).symm.trans z;cases z'
  ·by_cases hb:b∈tabs
   ·have z':=(if_pos hb).symm.trans z;cases z';exact tzk _ b hb
   ·have z':=(if_neg hb).symm.trans z;cases z'
 |none=>
  have q1:∀{b:Addr},b∈tabs->(if b=a then some (HO.AY {cls:= .type "list",data:= .seq vs.toArray} (.lst (ns.map V.int)))else if b∈tabs then some (tz b)else none)=some (tz b):=λ {b} hb=>by
   rw[if_neg (λ(z:b=a)=>naT (by rw[<-z];exact hb)),if_pos hb]
  refine core (λb=>if b=a then some (.AY {cls:= .type "list",data:= .seq vs.toArray} (.lst (ns.map V.int)))else if b∈tabs then some (tz b)else none) (λT hT=>q1 hT) (λb u z=> ?_) (.inl (.inr ⟨{cls:= .type "list",data:= .seq vs.toArray},if_pos rfl⟩)) (λb u z=> ?_) λ_=>hk
  ·by_cases hb:b=a
   ·have z':=(if_pos hb).symm.trans z
    cases z'
    exact .inr ⟨hb,_,_,rfl⟩
   ·by_cases hb2:b∈tabs
    ·exact .inl hb2
    ·have z':=((if_neg hb).trans (if_neg hb2)).symm.trans z;cases z'
  ·by_cases hb:b=a
   ·have z':=(if_pos hb).symm.trans z
    cases z'
    subst hb
    exact⟨ha,by rw[List.length_map];exact hl,vs,_,rv,ha⟩
   ·by_cases hb2:b∈tabs
    ·have z':=(q1 hb2).symm.trans z
     cases z'
     exact tzk _ b hb2
    ·have z':=((if_neg hb).trans (if_neg hb2)).symm.trans z;cases z'
theorem Gv{p:Program}{loose:List Str}{mean:ExcName->Option Value}{mg mb:Str->Option Value}{h:Heap}(T:Top p loose mean mg mb h){d:DefRec}{x qual:Str}(hf:(recsOf p).find? (λe=>e.name==x)=some d){K:PySem.W.Frag}(KX:K.In h){f:Addr}
  (hm:mg x=some (.ref f)){oc:Value}{od:Option Addr}{sl:Array (Option Value)}{fd:FuncData}(l:K.lookup f=some ⟨oc,od,.func fd,sl⟩)(c:PySem.W.codeIn K fd.code qual=true):
  ∃P,gR K fd.code P/\isCodeTable h P/\h.get? P=some {cls:= .none,data:= .fields #[]}:=by
 have hn:d.name=x:=beq_iff_eq.mp (List.find?_some (p:=λe:DefRec=>e.name==x) hf)
 obtain⟨a',o',fd',cc,P,h1,h2,h3,h4,h5,h6⟩:=T.tab d (List.mem_of_find?_eq_some hf)
 rw[hn,hm]at h1;cases h1
 rw[KX f _ l]at h2;cases h2
 cases h3
 refine⟨P,?_,h6.isCodeTable,h6.2⟩
 obtain⟨o,vs,file,tf,flags,tg,MW,text,tt,op,ho,hd,h11,Xw,h7,h9,Xx,_⟩:=h5
 obtain⟨⟨o2,vs2,g1,g2,g3,g4⟩,_⟩:=h6
 rw[ho]at g1;cases g1
 rw[hd]at g3;cases g3
 rw[h4]at c
 cases q:K.lookup cc with
 |none=>unfold PySem.W.codeIn at c;simp[q]at c
 |some o3=>
  have e3:=KX cc o3 q
  rw[ho]at e3
  have e4:o=o3:=Option.some.inj e3
  subst e4
  exact⟨cc,o,vs,file,tf,flags,tg,MW,text,tt,h4,q,g2,hd,g4,Xw,h7,h9,Xx⟩
def tabOf(K:PySem.W.Frag)(f:Addr):Option Value:=match K.lookup f with
 |some ⟨_,_,.func fd,_⟩=>match fd.code with
  | .ref c=>match K.lookup c with
   |some o=>match o.data with
    | .fields vs=>vs[11]?
    |_=>none
   |none=>none
  |_=>none
 |_=>none
def Nh(K:PySem.W.Frag)(fs gs:List Addr):Bool:=fs.all λf=>gs.all λg=>tabOf K f !=tabOf K g
theorem DZ{K:PySem.W.Frag}{f P:Addr}{oc:Value}{od:Option Addr}{sl:Array (Option Value)}{fd:FuncData}(l:K.lookup f=some ⟨oc,od,.func fd,sl⟩)(c:gR K fd.code P):tabOf K f=some (.ref P):=by
 obtain⟨cc,o,vs,_,_,_,_,_,_,_,e1,e2,e3,e4,e5,_⟩:=c.ex
 unfold tabOf
 rw[l]
 simp only[e1,e2,e4,e5]
theorem ki{K:PySem.W.Frag}{fs gs:List Addr}(h:Nh K fs gs=true){f g P Q:Addr}(hf:f∈fs)(hg:g∈gs)(a:tabOf K f=some (.ref P))(b:tabOf K g=some (.ref Q)):P≠Q:=λe=>by
 have h1:=List.all_eq_true.mp (List.all_eq_true.mp h f hf) g hg
 rw[a,b,e]at h1
 simp at h1
theorem Ni{l:PySem.W.OpenLaw}{n k:Nat}{q:Program}{loose:List Str}{XP:(Str->Option Value) ->Heap->Prop}{YP:World->Heap->Prop}{d:DefRec}{K:Params->PySem.W.Frag}{x:Str}{sp:PySem.W.Frag->List Addr->List Addr->Sp}
  (hn:l.most=some n)(hn2:n<=sizeLine)(hdf:d.params.defaults=[])(hr:gr k callerA)
  (hY:∀(w:World)(h:Heap),YP w h->(K w.params).In h)
  (hcl:∀(w:World),PySem.W.kb_classed (K w.params)=true)
  (F:∀(w:World)(mg mb:Str->Option Value)(mean:ExcName->Option Value)(fa:Addr)(h:Heap),(K w.params).In h->Top q (PySem.W.looseW q loose) mean mg mb h->mg d.name=some (.ref fa) ->
   ∃(fd:FuncData)(tabs je:List Addr),(∀(s:Shared)(u:Value),BindsTo s fd ⟨[u],[]⟩ [(x,u)])/\(∀T∈tabs++je,isCodeTable h T/\h.get? T=some {cls:= .none,data:= .fields #[]})/\(∀T∈tabs,T∉je)/\
    ∀base:Heap,(K w.params).In base->base.Ns mainGlobals mg->BM mg base->qD l.prog w (K w.params) mg base c8 k fa fd [x] (sp (K w.params) tabs je))
  (Gi:∀(K:PySem.W.Frag)(tabs je:List Addr)(H:Hp)(a:Addr)(ns:List Int),ns.length<=n->(∀T∈tabs,H T=some (cj T)) ->(∀T∈je,H T=some .DH) ->aV K H a (ns.map V.int) -> ∀Q:VK,(∀H',av H H'->Q (.bl true) H') ->sp K tabs je [.ref a] H Q λ_ _ _=>False):
  PySem.W.WalkO q loose XP YP l.row.toRowW d [] (λf vs=>PySem.call f vs):=by
 refine Att.DO hn hdf λw s₀ s₁ mg mb fa o pm cd doc a vs ns G Y ho hd hcd hmg hobj hints hlen hg=> ?_
 have KX:=hY w _ Y
 obtain⟨fd,tabs,je,hb,ht,BU,hF⟩:=F w mg mb _ fa _ KX G.T hmg
 have e1:∀T∈tabs,(if T∈je then HO.DH else cj T)=cj T:=λT hT=>if_neg (BU T hT)
 have e2:∀T∈je,(if T∈je then HO.DH else cj T)= .DH:=λT hT=>if_pos hT
 refine Ku (Vw je) KX G.T.g G.T.b G.T.builtins G.T.nolimit G.T.bmain hg ht hobj hints (Nat.le_trans hlen hn2) hr (hcl w) hF hb (λH hO hS=> ?_)
 refine Gi _ tabs je H a ns hlen (λT hT=>by rw[hO T (List.mem_append_left _ hT),e1 T hT]) (λT hT=>by rw[hO T (List.mem_append_right _ hT),e2 T hT]) hS _ λH' s=>⟨rfl,λT hT=>s _ _ (hO T hT)⟩
theorem av.up{H:Hp}{D:Addr}{o:HO}(h:H D=none):av H (upd H D o):=λb u q=>by rw[aH (cO q h)];exact q
theorem av.upd{H H':Hp}{D:Addr}{o:HO}(s:av H H')(h:H D=none):av H (upd H' D o):=λb u q=>by rw[aH (cO q h)];exact s b u q
theorem av.none{H H':Hp}(s:av H H'){D:Addr}(h:H' D=Option.none):H D=Option.none:=s.free h
theorem av.sqt{K:PySem.W.Frag}{H H':Hp}{a:Addr}{xs:List V}(e:av H H')(h:qA K H a xs):qA K H' a xs:=by
 rcases h with(h|⟨o,h⟩)|h
 ·exact .inl (.inl (e _ _ h))
 ·exact .inl (.inr ⟨o,e _ _ h⟩)
 ·exact .inr h
theorem _root_.PySem.Paired.xC{α β:Type}{F F':α->β->Prop}:∀{l:List α}{m:List β},Paired F l m->(∀a b,b∈m->F a b->F' a b) ->Paired F' l m
 |_,_,.nil,_=> .nil
 |_,_,.cons h t,k=> .cons (k _ _ List.mem_cons_self h) (t.xC λa b hb q=>k a b (List.mem_cons_of_mem _ hb) q)
structure JW(J:It)(H1:Hp)(xs:List V):Prop where
 go:∀i H',av H1 H'->i<xs.length->J.go i H'
 Ba:∀i H' x H2,av H1 H'->i<xs.length->J.Ba i H' x H2->H2=H'/\xs[i]?=some x
 stop:∀H',av H1 H'->J.stop xs.length H'
theorem dM{K:PySem.W.Frag}{H1:Hp}{a:Addr}{xs:List V}(h:aV K H1 a xs):JW (YL K a) H1 xs where
 go:=λi H' s hi=>⟨xs,xs[i],s.seq h,by simp[hi]⟩
 Ba:=λi H' x H2 s hi ⟨e,y⟩=>⟨e,y xs (s.seq h)⟩
 stop:=λH' s=>⟨xs,s.seq h,Nat.le_refl _⟩
theorem Nj{K:PySem.W.Frag}{H1:Hp}{a:Addr}{xs:List V}(h:qA K H1 a xs):JW (ZQ K a) H1 xs where
 go:=λi H' s hi=>⟨xs,xs[i],s.sqt h,by simp[hi]⟩
 Ba:=λi H' x H2 s hi ⟨e,y⟩=>⟨e,y xs (s.sqt h)⟩
 stop:=λH' s=>⟨xs,s.sqt h,Nat.le_refl _⟩
def lX(n:Nat):List V:=(List.range n).map λ(i:Nat)=>V.int (i:Int)
theorem gw{H1:Hp}{n:Nat}:JW (My 0 n) H1 (lX n) where
 go:=λi H' s hi=>by simpa [lX,My]using hi
 Ba:=λi H' x H2 s hi ⟨e,y⟩=>⟨e,by
  have hi':i<n:=by simpa [lX]using hi
  subst y
  simp[lX,hi']⟩
 stop:=λH' s=>by simp[lX,My]
theorem xV{J:It}{H1:Hp}{xs:List V}{σ:St}{te:TE}{Q:VK}(jw:JW J H1 xs)(hz:xs.length<=sizeLine){D:Addr}(hD:H1 D=none)(P:List V->List V->Hp->Prop)(h0:P [] [] (upd H1 D (.lst [])))
  (hs:∀pre x post acc H' (Q':VK),xs=pre++x::post->acc.length=pre.length->av H1 H'->H' D=some (.lst acc) ->P pre acc H'->(∀v H4,av H' H4->P (pre++ [x]) (acc++ [v]) (upd H4 D (.lst (acc++ [v]))) ->Q' v H4) ->te (some x::σ) H' Q')
  (hq:∀acc H',acc.length=xs.length->av H1 H'->H' D=some (.lst acc) ->P xs acc H'->Q (.ref D) H'):
  qF 1 (dX 0) te σ J H1 D Q:=by
 refine⟨λi m acc σ' H'=>m=xs.length-i/\i<=xs.length/\acc.length=i/\(∃o,σ'=o::σ)/\av H1 H'/\H' D=some (.lst acc)/\P (xs.take i) acc H',⟨xs.length,rfl,Nat.zero_le _,rfl,⟨none,rfl⟩,av.up hD,aq,h0⟩,?_⟩
 rintro i m acc σ' H' ⟨rfl,hi,hl,⟨o,rfl⟩,sm,eD,p⟩
 by_cases hlt:i<xs.length
 ·refine .inr ⟨jw.go i H' sm hlt,by omega,λx H2 y=> ?_⟩
  obtain⟨rfl,ex⟩:=jw.Ba i H' x H2 sm hlt y
  have hx:xs[i]=x:=by rw[List.getElem?_eq_getElem hlt]at ex;exact Option.some.inj ex
  have sp:xs=xs.take i++x::xs.drop (i+1):=by
   rw[<-hx,<-List.drop_eq_getElem_cons hlt,List.take_append_drop]
  have tk:xs.take (i+1)=xs.take i++ [x]:=by rw[List.take_succ,ex];rfl
  show te (some x::σ) H2 _
  refine hs (xs.take i) x (xs.drop (i+1)) acc H2 _ sp (by rw[hl,List.length_take];omega) sm eD p λv H4 s4 p4=> ?_
  refine⟨s4 _ _ eD,xs.length- (i+1),by omega,rfl,hlt,by simp[hl],⟨_,rfl⟩,(sm.trans s4).upd hD,aq,?_⟩
  rw[tk]
  exact p4
 ·have e:i=xs.length:=by omega
  subst e
  refine .inl ⟨jw.stop H' sm,eD,hq acc H' hl sm eD ?_⟩
  rw[List.take_length]at p
  exact p
section
variable{X:Cx}{sc:Scope}{N2:List Str}{x:Str}{px:Pos}{elt iter:Expr}{g7 p pos:Pos}{wi:TI}{te:TE}{P:Addr}
theorem xW(B:uh sc.names X.env.scope.names [x] N2 X.N)(s:Shared)(H:Hp)(fp:List Addr):PG (X.comp sc ([x]++N2) s H fp) (.Name x px) (dX 0):=by
 rcases B.own x (by simp)with e|e
 ·exact cD (i:=0) B.Rw rfl (.inl (lV (env:=X.env) e (.inl rfl))) (.inr (lV (env:=X.env) e (.inl rfl)))
 ·refine cD (i:=0) B.Rw rfl (.inr (lV (env:=X.env) e (.inr rfl))) (.inl ?_)
  show(sc.names.lookup x==some NameKind.cell)=true
  rw[e];rfl
theorem gT(hc:X.calm=true)(hi:PI X (.Name x px) iter wi)(hB:BQ sc.names X.env.scope.names [x] N2 X.N=true)(hk:sc.kind= .function)(he:∀s H fp,PE (X.comp sc ([x]++N2) s H fp) elt te)
  (hs:∀x,foldedSetIterable iter X.env x=pure x:=by intro _;rfl):PE X (.ListComp elt [⟨.Name x px,iter,[],0⟩] sc pos) (oB 1 wi (dX 0) te):=
 DS (own:=[x]) hc hi (kI hB) hk (λs H fp=>xW (kI hB) s H fp) he hs
theorem yu{i:Nat}{y:Str}{py spos:Pos}(hN:X.N.Nodup)(hi':X.N[i]?=some y)(hy:X.env.scope.names.lookup y=some .local)(hc:X.calm=true)(hi:PI X (.Name x px) iter wi)(hB:BQ sc.names X.env.scope.names [x] N2 X.N=true)(hk:sc.kind= .function)(he:∀s H fp,PE (X.comp sc ([x]++N2) s H fp) elt te)
  (hsw:swapsWith (.ListComp elt [⟨.Name x px,iter,[],0⟩] sc pos) (some (.Name y py)) spos.line X.env=pure true:=by rfl)(hs:∀x,foldedSetIterable iter X.env x=pure x:=by intro _;rfl):
  PS X (.Assign [.Name y py] (.ListComp elt [⟨.Name x px,iter,[],0⟩] sc pos) spos) (BL (oB 1 wi (dX 0) te) (dX i)):=
 MV (own:=[x]) hN hi' hy hc hi (kI hB) hk (λs H fp=>xW (kI hB) s H fp) he hsw hs
theorem Gw{B:Around}(Bk:uh sc.names X.env.scope.names [x] N2 X.N)(hnc:∀y∈sc.names,y.2≠ .cell)(code:Value)(s:Shared)(H:Hp)(fp:List Addr):PG (X.gen B sc ([x]++N2) code s H fp) (.Name x px) (dX 0):=by
 rcases Bk.own x (by simp)with e|e
 ·exact cD (i:=0) Bk.Rw rfl (.inl e) (.inr e)
 ·exact absurd rfl (hnc _ (mem_of_lookup e))
def Gx(sc:Scope)(ks:List (Str×NameKind))(own N2 N:List Str):Bool:=
 BQ sc.names ks own N2 N && (sc.kind== .function) && !sc.isCoroutine && sc.names.all (λy=>y.2 != .cell) && (sc.names.lookup (".0":Str)==some NameKind.local)
theorem qJ{own:List Str}(hc:X.calm=true)(hr:X.A.depth<recursionLimit)(cd:gR X.K X.env.code P)(bm:BM X.mg X.base)(h:Gx sc X.env.scope.names own N2 X.N=true):DW X sc own N2 P:=by
 unfold Gx at h
 simp only[Bool.and_eq_true]at h
 obtain⟨⟨⟨⟨h1,h2⟩,h3⟩,h4⟩,h5⟩:=h
 refine⟨hc,hr,kI h1,by simpa using h2,by simpa using h3,λy hy=> ?_,by simpa using h5,cd,bm⟩
 have q:=List.all_eq_true.mp h4 y hy
 simpa using q
theorem RH(hc:X.calm=true)(hr:X.A.depth<recursionLimit)(cd:gR X.K X.env.code P)(bm:BM X.mg X.base)(DX:Gl X "sum")(hm:X.mg "sum"=none)(hi:PI X (.Name x px) iter wi)(hB:Gx sc X.env.scope.names [x] N2 X.N=true)
  (he:∀code s H fp,PE (X.gen X.A.in1.in1 sc ([x]++N2) code s H fp) elt te)
  (hs:∀x,genFold iter X.env x=pure x:=by intro _;rfl)(hst:starEach [.GeneratorExp elt [⟨.Name x px,iter,[],0⟩] sc g7] X.env=[(false,eval (.GeneratorExp elt [⟨.Name x px,iter,[],0⟩] sc g7) X.env)]:=by rfl):
  PE X (.Call (.Name "sum" p) [.GeneratorExp elt [⟨.Name x px,iter,[],0⟩] sc g7] [] pos) (IT 1 P wi (dX 0) te):=
 have K:=qJ hc hr cd bm hB
 IU (own:=[x]) K DX hm hi (λcode s H fp=>Gw K.RC K.nc code s H fp) he hs hst
theorem xX(hc:X.calm=true)(hr:X.A.depth<recursionLimit)(cd:gR X.K X.env.code P)(bm:BM X.mg X.base)(DX:Gl X "all")(hm:X.mg "all"=none)(hi:PI X (.Name x px) iter wi)(hB:Gx sc X.env.scope.names [x] N2 X.N=true)
  (he:∀code s H fp,PE (X.gen X.A.in1.in1 sc ([x]++N2) code s H fp) elt te)
  (hs:∀x,genFold iter X.env x=pure x:=by intro _;rfl)(hst:starEach [.GeneratorExp elt [⟨.Name x px,iter,[],0⟩] sc g7] X.env=[(false,eval (.GeneratorExp elt [⟨.Name x px,iter,[],0⟩] sc g7) X.env)]:=by rfl):
  PE X (.Call (.Name "all" p) [.GeneratorExp elt [⟨.Name x px,iter,[],0⟩] sc g7] [] pos) (Uu 1 P wi (dX 0) te):=
 have K:=qJ hc hr cd bm hB
 RD (own:=[x]) K DX hm hi (λcode s H fp=>Gw K.RC K.nc code s H fp) he hs hst
theorem yv{k:Nat}{A:Around}{e:Env}(r:gr (k+1) A):gr k (Ry A.in1.in1 e):=
 ⟨r.hd,by have:=r.dp;show A.depth+1+3*k+5<_;omega,by have:=r.un;show A.units+1+1+3+16*k+200<_;omega⟩
end
theorem Nk{J:It}{H1:Hp}{xs:List V}{σ:St}{te:TE}{F:Nat->(Nat->V->Prop) ->(Nat->St->Hp->Prop) ->Prop}(jw:JW J H1 xs)(R:Nat->V->Prop)
  (hs:∀i x,xs[i]?=some x-> ∀H' (Q':VK),av H1 H'->(∀v H2,R i v->av H' H2->Q' v H2) ->te (some x::σ) H' Q')
  (hF:F xs.length R (λ_ σ' H'=>(∃o,σ'=o::σ)/\av H1 H')):yr 1 (dX 0) te σ F J H1:=by
 refine⟨xs.length,R,_,⟨⟨none,rfl⟩,av.refl _⟩,λi σ' H' hi w=> ?_,λσ' H' w=>jw.stop H' w.2,hF⟩
 obtain⟨⟨o,rfl⟩,sm⟩:=w
 refine⟨jw.go i H' sm hi,λx H2 y=> ?_⟩
 obtain⟨rfl,ex⟩:=jw.Ba i H' x H2 sm hi y
 show te (some x::σ) H2 _
 exact hs i x ex H2 _ sm λv H3 r s3=>⟨r,⟨_,rfl⟩,sm.trans s3⟩
theorem Vx{J:It}{H1:Hp}{xs:List V}{σ:St}{te:TE}{Q:VK}{P:Addr}(jw:JW J H1 xs)(hP:H1 P=some (cj P))(val:Nat->Int)
  (hs:∀i x,xs[i]?=some x-> ∀H' (Q':VK),av H1 H'->(∀H2,av H' H2->Q' (.int (val i)) H2) ->te (some x::σ) H' Q')
  (hq:∀H',av H1 H'->Q (.int (preSum val xs.length)) H'):
  Ng 1 P (dX 0) te σ J H1 Q:=
 ⟨hP,Nk jw (λi v=>v= .int (val i)) (λi x ex H' Q' sm k=>hs i x ex H' Q' sm λH2 s2=>k _ _ rfl s2) ⟨val,λi v _ r=>r,λσ' H' w=>hq H' w.2⟩⟩
theorem BX{J:It}{H1:Hp}{xs:List V}{σ:St}{te:TE}{Q:VK}{P:Addr}(jw:JW J H1 xs)(hP:H1 P=some (cj P))(bv:Nat->Bool)
  (hs:∀i x,xs[i]?=some x-> ∀H' (Q':VK),av H1 H'->(∀H2,av H' H2->Q' (.bl (bv i)) H2) ->te (some x::σ) H' Q')
  (hq:∀b H',av H1 H'->(b=true↔ ∀j,j<xs.length->bv j=true) ->Q (.bl b) H'):
  Ut 1 P (dX 0) te σ J H1 Q:=
 ⟨hP,Nk jw (λi v=>v= .bl (bv i)) (λi x ex H' Q' sm k=>hs i x ex H' Q' sm λH2 s2=>k _ _ rfl s2) ⟨bv,λi v _ r=>r,λhb σ' H' w=>hq _ H' w.2 ⟨λ_=>hb,λ_=>rfl⟩,
  λj hj hb _ σ' H' w=>hq _ H' w.2 ⟨λz=>(by cases z),λz=>by rw[z j hj]at hb;cases hb⟩⟩⟩
structure Kv(K:PySem.W.Frag)(x qual:Str)(st:Stmt)(f:Addr)(fd:FuncData)(T:Addr):Prop where
 ex:∃(oc:Value)(od:Option Addr)(kV doc pm:Value)(an:Option Addr)(cdv ct:Value)(osl:Array (Option Value)),
  fd=PySem.W.fnOf x qual (iE st) (fz st) (aC st) .none kV doc pm an cdv ct/\K.lookup f=some ⟨oc,od,.func fd,osl⟩/\PySem.W.codeIn K cdv qual=true/\gR K cdv T
 kp:PySem.W.keepIn K (.ref f)=true
theorem Kv.ok{P:Program}{w:World}{K:PySem.W.Frag}{mg:Str->Option Value}{base:Heap}{x qual:Str}{st:Stmt}{f T:Addr}{fd:FuncData}{N ps:List Str}{k:Nat}{sp:Sp}(F:Kv K x qual st f fd T)(S:aP N ps (aC st))(len:∀vs H Q E,sp vs H Q E->vs.length=ps.length)
  (hbody:∀(cdv:Value)(A:Around)(outer:List Env)(s:Shared)(H:Hp)(vs:List V)(Q:VK)(E:XK),gR K cdv T->gr k (A.deeper (envOfC qual (aC st) s.heap.objs.size f cdv)) ->sp vs H Q E->
   ∃t,vC (qx c8 P w K mg base N qual (aC st) f cdv A outer s H E).Mx (fz st) t/\t {nx:=λ_ H'=>Q .fP H',rt:=Q} (start N vs) H):qD P w K mg base c8 (k+1) f fd ps sp:=by
 obtain⟨oc,od,kV,doc,pm,an,cdv,ct,osl,rfl,lk,hcd,cd⟩:=F.ex
 refine MS lk hcd S len λA outer s H vs Q E hr Gi=> ?_
 obtain⟨t,h,q⟩:=hbody cdv A outer s H vs Q E cd hr Gi
 exact⟨t,h.Mx,q⟩
theorem Kv.fn{K:PySem.W.Frag}{x qual:Str}{st:Stmt}{f T:Addr}{fd:FuncData}(F:Kv K x qual st f fd T):Kf K x qual st f fd:=by
 obtain⟨oc,od,kV,doc,pm,an,cdv,ct,osl,e,lk,hcd,cd⟩:=F.ex
 exact⟨⟨oc,od,kV,doc,pm,an,cdv,ct,osl,e,lk,hcd⟩,F.kp⟩
abbrev BY(K:PySem.W.Frag):List V->Hp->VK->Prop:=λxs H Q=> ∃p ys,xs=[.ref p]/\(aV K H p ys∨qA K H p ys)/\ ∀l,H l=none->Q (.ref l) (upd H l (.lst ys))
abbrev aal:List V->Hp->VK->Prop:=λxs H Q=> ∃i,xs=[.int i]/\Q (.int (if i<0 then-i else i)) H
theorem fJ{X:Cx}{e:Expr}{t:TE}(h:PE X e t):PE X e t:=h
theorem bits_le{k:Int}{n:Nat}(h:k.natAbs<2^n):Builtin.Int.intBits k<=n:=by
 unfold Builtin.Int.intBits
 split
 ·exact Nat.zero_le _
 ·rename_i h0
  have h1:k.natAbs≠0:=λz=>h0 (by have:k=0:=Int.natAbs_eq_zero.mp z;rw[this];rfl)
  exact(Nat.log2_lt h1).mpr h
def mW(i j:Int):Prop:=i.natAbs<2^4096/\j.natAbs<2^4096
theorem mW.ok{i j:Int}(h:mW i j):IntMulOk i j:=by
 have h1:=bits_le h.1
 have h2:=bits_le h.2
 have h3:Builtin.Int.intTooBig (Builtin.Int.intBits i+Builtin.Int.intBits j)=false:=by
  unfold Builtin.Int.intTooBig
  refine decide_eq_false ?_
  have:((Builtin.Int.intBits i+Builtin.Int.intBits j:Nat):Int)<=8192:=by omega
  have e:(8192:Int)<=((bitsLine:Nat):Int):=by decide
  omega
 unfold IntMulOk
 rw[h3]
 simp
section
variable{X:Cx}
theorem bX:vD X (binaryOp .Mult) (rI mW λi j=> .int (i*j)):=UW λ_ _ _ _ _ _ _ hc q=>mul_int q hc.ok
def XD(i j:Int):Prop:=0<j/\j.natAbs.log2<9000
theorem Nl:vD X (binaryOp .FloorDiv) (rI XD λi j=> .int (i/j)):=UW λi j _ _ _ _ _ hc q=>by
 have h1:(0:Int)<j:=hc.1
 exact floordiv_int (by omega) (by rw[Int.fdiv_eq_ediv_of_nonneg i (by omega)];exact q) (.inl (PyProof.noPylong_of_log2 hc.2))
end
def Tab(H:Hp)(t:Addr)(bs:List Addr)(m:List (List Int)):Prop:=H t=some (.lst (bs.map V.ref))/\Paired (λrow b=>H b=some (.lst (row.map V.int))) m bs
theorem Tab.same{H H':Hp}{t:Addr}{bs:List Addr}{m:List (List Int)}(s:av H H')(h:Tab H t bs m):Tab H' t bs m:=⟨s _ _ h.1,h.2.xC λ_ _ _ q=>s _ _ q⟩
def cu(m:List (List Int)):Prop:=m.length=3/\ ∀r∈m,r.length=3
theorem qK{H:Hp}{m:List (List Int)}{bs:List Addr}(pr:Paired (λrow b=>H b=some (.lst (row.map V.int))) m bs){b:Addr}(hb:b∈bs):∃row,row∈m/\H b=some (.lst (row.map V.int)):=by
 induction pr with
 |nil=>cases hb
 | @cons r c m bs h t ih=>
  rcases List.mem_cons.mp hb with e|hb
  ·exact⟨r,List.mem_cons_self,by rw[e];exact h⟩
  ·obtain⟨row,q1,q2⟩:=ih hb
   exact⟨row,List.mem_cons_of_mem _ q1,q2⟩
theorem Tab.upd{H:Hp}{t x:Addr}{bs:List Addr}{m:List (List Int)}{o:HO}(h:Tab H t bs m)(h1:t≠x)(h2:x∉bs):Tab (upd H x o) t bs m:=
 ⟨by rw[aH h1];exact h.1,h.2.xC λr b hb e=>by rw[aH (λz=>h2 (by rw[<-z];exact hb))];exact e⟩
theorem IY{K:PySem.W.Frag}{H:Hp}:∀r:List Int,Ao K H (r.map V.int) (r.map PyData.int)
 | []=> .nil
 |x::r=> .cons (.int x) (IY r)
theorem IZ{K:PySem.W.Frag}{H:Hp}{t:Addr}{bs:List Addr}{m:List (List Int)}(h:Tab H t bs m):DY K H (.ref t) (qH m):=by
 obtain⟨e,pr⟩:=h
 refine .lst (aV.of e) ?_
 clear e
 induction pr with
 |nil=>exact .nil
 | @cons r b m bs h t ih=>exact .cons (.lst (aV.of h) (IY r)) ih
theorem jy{bs:List Addr}{x:V}(h:x∈bs.map V.ref):∃b,x= .ref b/\b∈bs:=by
 obtain⟨b,hb,e⟩:=List.mem_map.mp h
 exact⟨b,e.symm,hb⟩
def itemsOf(H:Hp)(g:V->V)(x:V):List V:=match x with
 | .ref b=>(match H b with|some (.lst xs)=>xs.map g|_=>[])
 |_=>[]
theorem xo{H:Hp}{g:V->V}{b:Addr}{xs:List V}(h:H b=some (.lst xs)):itemsOf H g (.ref b)=xs.map g:=by
 show(match H b with|some (.lst xs)=>xs.map g|_=>[])=_
 rw[h]
theorem Bo{H H':Hp}{f:V->List V}{g:List Int->List Int}:∀{m:List (List Int)}{bs bs':List Addr},Paired (λrow b=>H b=some (.lst (row.map V.int))) m bs->Paired (λx b'=>H' b'=some (.lst (f x))) (bs.map V.ref) bs'->
  (∀row b,H b=some (.lst (row.map V.int)) ->f (.ref b)=(g row).map V.int) ->Paired (λrow b'=>H' b'=some (.lst (row.map V.int))) (m.map g) bs'
 |_,_,_,.nil,h2,_=>by cases h2;exact .nil
 |_,_,_,.cons h t,h2,k=>by
  cases h2 with
  |cons h' t'=>exact .cons (by rw[h',k _ _ h]) (Bo t t' k)
def ent(m:List (List Int))(i j:Nat):Int:=(m.getD i []).getD j 0
def mk3(g:Nat->Nat->Int):List (List Int):=[[g 0 0,g 0 1,g 0 2],[g 1 0,g 1 1,g 1 2],[g 2 0,g 2 1,g 2 2]]
theorem bH(g:Nat->Nat->Int):cu (mk3 g):=⟨rfl,λr hr=>by
 simp only[mk3,List.mem_cons,List.not_mem_nil,or_false]at hr
 rcases hr with rfl|rfl|rfl<;>rfl⟩
theorem aG{i:Nat}(h:i<3):i=0∨i=1∨i=2:=by omega
theorem bQ(g:Nat->Nat->Int){i j:Nat}(hi:i<3)(hj:j<3):ent (mk3 g) i j=g i j:=by
 rcases aG hi with rfl|rfl|rfl<;>rcases aG hj with rfl|rfl|rfl<;>rfl
theorem yw{m:List (List Int)}(h:cu m):m=mk3 (ent m):=by
 obtain⟨h1,h2⟩:=h
 match m,h1,h2 with
 | [r0,r1,r2],_,h2=>
  have l0:=h2 r0 (by simp)
  have l1:=h2 r1 (by simp)
  have l2:=h2 r2 (by simp)
  match r0,r1,r2,l0,l1,l2 with
  | [a,b,c],[d,e,f],[g,h,i],_,_,_=>rfl
theorem iG{xs:List V}{i:Nat}{v:V}(h:xs[i]?=some v):Ae xs (i:Int)=some v:=BN h
theorem Ja{H:Hp}{t:Addr}{bs:List Addr}{m:List (List Int)}(h:Tab H t bs m){i:Nat}(hi:i<m.length):∃b row,Ae (bs.map V.ref) (i:Int)=some (.ref b)/\H b=some (.lst (row.map V.int))/\m[i]?=some row/\b∈bs:=by
 obtain⟨_,pr⟩:=h
 have q:∀{m:List (List Int)}{bs:List Addr}{i:Nat},Paired (λrow b=>H b=some (.lst (row.map V.int))) m bs->i<m.length-> ∃b row,bs[i]?=some b/\H b=some (.lst (row.map V.int))/\m[i]?=some row:=by
  intro m bs i pr
  induction pr generalizing i with
  |nil=>intro hi;exact absurd hi (Nat.not_lt_zero _)
  | @cons r b m bs h t ih=>
   intro hi
   cases i with
   |zero=>exact⟨b,r,rfl,h,rfl⟩
   |succ i=>
    obtain⟨b',r',e1,e2,e3⟩:=ih (i:=i) (by simpa using hi)
    exact⟨b',r',by simpa using e1,e2,by simpa using e3⟩
 obtain⟨b,row,e1,e2,e3⟩:=q pr hi
 exact⟨b,row,iG (by rw[List.getElem?_map,e1];rfl),e2,e3,List.mem_of_getElem? e1⟩
theorem xY{H:Hp}{t:Addr}{bs:List Addr}{m:List (List Int)}(h:Tab H t bs m)(dD:cu m){i j:Nat}(hi:i<3)(hj:j<3):
  ∃(b:Addr)(row:List Int),Ae (bs.map V.ref) (i:Int)=some (.ref b)/\H b=some (.lst (row.map V.int))/\Ae (row.map V.int) (j:Int)=some (.int (ent m i j)):=by
 obtain⟨b,row,e1,e2,e3,_⟩:=Ja h (i:=i) (by rw[dD.1];exact hi)
 refine⟨b,row,e1,e2,iG ?_⟩
 have rl:row.length=3:=dD.2 row (List.mem_of_getElem? e3)
 have e4:m.getD i []=row:=by rw[List.getD_eq_getElem?_getD,e3];rfl
 rw[List.getElem?_map,List.getElem?_eq_getElem (by rw[rl];exact hj)]
 unfold ent
 rw[e4,List.getD_eq_getElem?_getD,List.getElem?_eq_getElem (by rw[rl];exact hj)]
 rfl
theorem bJ{H:Hp}{t:Addr}{bs:List Addr}{m:List (List Int)}(h:Tab H t bs m)(dD:cu m){i:Nat}(hi:i<3):
  ∃b,Ae (bs.map V.ref) (i:Int)=some (.ref b)/\H b=some (.lst [.int (ent m i 0),.int (ent m i 1),.int (ent m i 2)])/\b∈bs:=by
 obtain⟨b,row,e1,e2,e3,e5⟩:=Ja h (i:=i) (by rw[dD.1];exact hi)
 refine⟨b,e1,?_,e5⟩
 have rl:row.length=3:=dD.2 row (List.mem_of_getElem? e3)
 have e4:m.getD i []=row:=by rw[List.getD_eq_getElem?_getD,e3];rfl
 rw[e2]
 unfold ent
 rw[e4]
 match row,rl with
 | [a,b,c],_=>rfl
def Bd(n:Nat)(m:List (List Int)):Prop:=∀i j,i<3->j<3->(ent m i j).natAbs<2^n
theorem Bd.mono{a b:Nat}{m:List (List Int)}(h:Bd a m)(hab:a<=b):Bd b m:=λi j hi hj=>Nat.lt_of_lt_of_le (h i j hi hj) (Nat.pow_le_pow_right (by decide) hab)
theorem fE{x y:Int}{a b:Nat}(hx:x.natAbs<2^a)(hy:y.natAbs<2^b):(x*y).natAbs<2^(a+b):=by
 rw[Int.natAbs_mul,Nat.pow_add]
 exact Nat.mul_lt_mul_of_lt_of_lt hx hy
theorem qL{x y:Int}{a:Nat}(hx:x.natAbs<2^a)(hy:y.natAbs<2^a):(x+y).natAbs<2^(a+1):=by
 have e:2^(a+1)=2^a+2^a:=by rw[Nat.pow_succ];omega
 omega
theorem sX{x y:Int}{a:Nat}(hx:x.natAbs<2^a)(hy:y.natAbs<2^a):(x-y).natAbs<2^(a+1):=by
 have e:2^(a+1)=2^a+2^a:=by rw[Nat.pow_succ];omega
 omega
theorem aX{x:Int}{a b:Nat}(hx:x.natAbs<2^a)(h:a<=b):x.natAbs<2^b:=Nat.lt_of_lt_of_le hx (Nat.pow_le_pow_right (by decide) h)
def iR(a b:List (List Int)):List (List Int):=mk3 λi j=>ent a i 0*ent b 0 j+ent a i 1*ent b 1 j+ent a i 2*ent b 2 j
def dN(a:List (List Int)):List (List Int):=mk3 λi j=>ent a j i
theorem rV{a b:List (List Int)}{p q:Nat}(ha:Bd p a)(hb:Bd q b):Bd (p+q+2) (iR a b):=λi j hi hj=>by
 unfold iR
 rw[bQ _ hi hj]
 exact qL (qL (fE (ha i 0 hi (by decide)) (hb 0 j (by decide) hj)) (fE (ha i 1 hi (by decide)) (hb 1 j (by decide) hj))) (aX (fE (ha i 2 hi (by decide)) (hb 2 j (by decide) hj)) (Nat.le_succ _))
theorem yx{a:List (List Int)}{p:Nat}(ha:Bd p a):Bd p (dN a):=λi j hi hj=>by
 unfold dN
 rw[bQ _ hi hj]
 exact ha j i hj hi
theorem uz(K:PySem.W.Frag)(n:String):PySem.W.kitOne K (.type n) (.type n)=some true:=by
 unfold PySem.W.kitOne
 rw[if_pos (by simp)]
theorem BZ(K:PySem.W.Frag):PySem.W.kitOne K (.type "int") (.type "bool")=some false:=by kernel_rfl
theorem nq{xs:List V}{k:Int}(h0:0<=k)(h:k<(xs.length:Int)):∃v,Ae xs k=some v/\xs[k.toNat]?=some v:=by
 have hk:k.toNat<xs.length:=by omega
 have ek:k=((k.toNat:Nat):Int):=by omega
 have q:Ae xs ((k.toNat:Nat):Int)=some xs[k.toNat]:=BN (by rw[List.getElem?_eq_getElem hk])
 rw[<-ek]at q
 exact⟨xs[k.toNat],q,by rw[List.getElem?_eq_getElem hk]⟩
theorem RI{ns:List Int}{k:Int}(h0:0<=k)(h:k<(ns.length:Int)):∃z:Int,Ae (ns.map V.int) k=some (.int z):=by
 obtain⟨v,h1,h2⟩:=nq (xs:=ns.map V.int) h0 (by rw[List.length_map];exact h)
 rw[List.getElem?_map]at h2
 cases q:ns[k.toNat]? with
 |none=>rw[q]at h2;cases h2
 |some z=>rw[q]at h2;cases h2;exact⟨z,h1⟩
theorem small{n:Nat}(h:n<=1000):n<=sizeLine:=Nat.le_of_lt (iF h)
theorem at2{x y:V}{i:Int}(h0:0<=i)(h:i<2):∃v,Ae [x,y] i=some v/\(v=x∨v=y):=by
 have c:i=0∨i=1:=by omega
 rcases c with rfl|rfl
 ·exact⟨x,rfl,.inl rfl⟩
 ·exact⟨y,rfl,.inr rfl⟩
section
variable{X:Cx}
end
theorem gE{J:It}{xs:List V}{H1:Hp}{σ:St}{te:TE}{Q:VK}{D:Addr}(jw:JW J H1 xs)(h3:xs.length=3)(hD:H1 D=none)(g:Nat->Int)(hs:∀j x,j<3->xs[j]?=some x-> ∀H' (Q':VK),av H1 H'->(∀H2,av H' H2->Q' (.int (g j)) H2) ->te (some x::σ) H' Q')
  (hq:∀H',av H1 H'->H' D=some (.lst [.int (g 0),.int (g 1),.int (g 2)]) ->Q (.ref D) H'):qF 1 (dX 0) te σ J H1 D Q:=by
 refine xV jw (by rw[h3];decide) hD (λpre acc H'=>acc=(List.range pre.length).map λj=>V.int (g j)) rfl (λpre x post acc H' Q' e hl sm eD p k=> ?_) (λacc H' hl sm eD p=> ?_)
 ·have hlen:pre.length<3:=by
   have:=congrArg List.length e
   rw[h3]at this
   simp at this
   omega
  refine hs pre.length x hlen (by rw[e];simp) H' Q' sm λH2 s2=>k _ H2 s2 ?_
  rw[p]
  simp[List.range_succ]
 ·refine hq H' sm ?_
  rw[eD,p,h3]
  rfl
theorem Ca{J:It}{xs:List V}{H1:Hp}{σ:St}{te:TE}{Q:VK}{D:Addr}(jw:JW J H1 xs)(h3:xs.length=3)(hD:H1 D=none)(g:Nat->Nat->Int)
  (hs:∀i x,i<3->xs[i]?=some x-> ∀H' (Q':VK),av H1 H'->(∀b H2,H' b=none->av H' H2->H2 b=some (.lst [.int (g i 0),.int (g i 1),.int (g i 2)]) ->Q' (.ref b) H2) ->te (some x::σ) H' Q')
  (hq:∀bs H',av H1 H'->(∀b∈bs,H1 b=none) ->D∉bs->Tab H' D bs (mk3 g) ->Q (.ref D) H'):qF 1 (dX 0) te σ J H1 D Q:=by
 refine xV jw (by rw[h3];decide) hD (λpre acc H'=> ∃bs:List Addr,acc=bs.map V.ref/\(∀b∈bs,H1 b=none)/\D∉bs/\Paired (λi b=>H' b=some (.lst [.int (g i 0),.int (g i 1),.int (g i 2)])) (List.range pre.length) bs) ⟨[],rfl,λ_ h=>(nomatch h),by simp,.nil⟩ (λpre x post acc H' Q' e hl sm eD p k=> ?_) (λacc H' hl sm eD p=> ?_)
 ·obtain⟨bs,rfl,fr,nD,pr⟩:=p
  have hlen:pre.length<3:=by
   have:=congrArg List.length e
   rw[h3]at this
   simp at this
   omega
  refine hs pre.length x hlen (by rw[e];simp) H' _ sm λb H2 hb s2 eb=>k _ _ s2 ⟨bs++ [b],by simp,?_,?_,?_⟩
  ·intro c hc
   rcases List.mem_append.mp hc with z|z
   ·exact fr c z
   ·rw[List.mem_singleton.mp z];exact sm.none hb
  ·intro z
   rcases List.mem_append.mp z with z|z
   ·exact nD z
   ·rw[<-List.mem_singleton.mp z,eD]at hb;cases hb
  ·have nb:b≠D:=λz=>by rw[z,eD]at hb;cases hb
   have er:List.range (pre++ [x]).length=List.range pre.length++ [pre.length]:=by simp[List.range_succ]
   rw[er]
   refine Paired.snoc (pr.xC λy c hc q=> ?_) (by rw[aH nb];exact eb)
   rw[aH (λz=>nD (by rw[<-z];exact hc))]
   exact s2 _ _ q
 ·obtain⟨bs,rfl,fr,nD,pr⟩:=p
  refine hq bs H' sm fr nD ⟨eD,?_⟩
  rw[h3]at pr
  have pr':Paired (λi b=>H' b=some (.lst [.int (g i 0),.int (g i 1),.int (g i 2)])) [0,1,2] bs:=pr
  cases pr' with
  |cons h0 t0=>cases t0 with
   |cons h1 t1=>cases t1 with
    |cons h2 t2=>
     cases t2
     exact .cons h0 (.cons h1 (.cons h2 .nil))
theorem eK{n k:Nat}{x:V}(h:(lX n)[k]?=some x):k<n/\x= .int (k:Int):=by
 unfold lX at h
 rw[List.getElem?_map]at h
 cases q:(List.range n)[k]? with
 |none=>rw[q]at h;cases h
 |some z=>
  rw[q]at h
  have hz:=List.getElem?_eq_some_iff.mp q
  obtain⟨h1,h2⟩:=hz
  have h1':k<n:=by simpa using h1
  rw[List.getElem_range]at h2
  subst h2
  cases h
  exact⟨h1',rfl⟩
theorem aam(val:Nat->Int):preSum val 3=val 0+val 1+val 2:=by simp[preSum]
theorem Nm{d:PyData}(h:SeqAt.shaped d=true):PyData.eqv d d=true:=SeqAt.eqv_refl d (SeqAt.canLay_of_shaped h)
theorem RJ{K:PySem.W.Frag}{H:Hp}{x y:V}{Q:VK}(d:PyData)(hx:DY K H x d)(hy:DY K H y d)(hs:SeqAt.shaped d=true)(q:Q (.bl true) H):Ks K false x y H Q:=
 ⟨d,d,hx,hy,hs,hs,by rw[Nm hs];exact q⟩
theorem jk{f g:Nat->Nat->Int}(h:∀i j,i<3->j<3->f i j=g i j):mk3 f=mk3 g:=by
 simp only[mk3,h 0 0 (by decide) (by decide),h 0 1 (by decide) (by decide),h 0 2 (by decide) (by decide),h 1 0 (by decide) (by decide),h 1 1 (by decide) (by decide),h 1 2 (by decide) (by decide),h 2 0 (by decide) (by decide),h 2 1 (by decide) (by decide),h 2 2 (by decide) (by decide)]
theorem bq(a b:List (List Int)){i j:Nat}(hi:i<3)(hj:j<3):ent (iR a b) i j=ent a i 0*ent b 0 j+ent a i 1*ent b 1 j+ent a i 2*ent b 2 j:=bQ _ hi hj
theorem bE(a:List (List Int)){i j:Nat}(hi:i<3)(hj:j<3):ent (dN a) i j=ent a j i:=bQ _ hi hj
theorem Gy(a b c:List (List Int)):iR (iR a b) c=iR a (iR b c):=by
 refine jk λi j hi hj=> ?_
 rw[bq a b hi (by decide),bq a b hi (by decide),bq a b hi (by decide),bq b c (by decide) hj,bq b c (by decide) hj,bq b c (by decide) hj]
 grind
theorem yy(a b:List (List Int)):dN (iR a b)=iR (dN b) (dN a):=by
 refine jk λi j hi hj=> ?_
 rw[bq a b hj hi,bE b hi (by decide),bE b hi (by decide),bE b hi (by decide),bE a (by decide) hj,bE a (by decide) hj,bE a (by decide) hj]
 grind
theorem Ea{a:List (List Int)}(h:cu a):dN (dN a)=a:=by
 rw[yw h]
 refine jk λi j hi hj=> ?_
 rw[bE _ hj hi,bQ _ hi hj]
def oE(m b:List (List Int)):List (List Int):=iR (iR b m) (dN b)
theorem Bp{m:List (List Int)}(b:List (List Int))(hb:cu b):dN (oE m b)=oE (dN m) b:=by
 unfold oE
 rw[yy,yy,Ea hb,Gy]
def lF(m:List (List Int))(i j:Nat):Int:=ent m ((i+1)%3) ((j+1)%3)*ent m ((i+2)%3) ((j+2)%3) -ent m ((i+1)%3) ((j+2)%3)*ent m ((i+2)%3) ((j+1)%3)
def aN(m:List (List Int)):Int:=ent m 0 0*lF m 0 0+ent m 0 1*lF m 0 1+ent m 0 2*lF m 0 2
theorem cN(m:List (List Int)):aN m=ent m 0 0*(ent m 1 1*ent m 2 2-ent m 1 2*ent m 2 1)+ent m 0 1*(ent m 1 2*ent m 2 0-ent m 1 0*ent m 2 2)+ent m 0 2*(ent m 1 0*ent m 2 1-ent m 1 1*ent m 2 0):=rfl
theorem rW(a b:List (List Int)):aN (iR a b)=aN a*aN b:=by
 rw[cN,cN,cN]
 simp only[bq a b (show 0<3 by decide) (show 0<3 by decide),bq a b (show 0<3 by decide) (show 1<3 by decide),bq a b (show 0<3 by decide) (show 2<3 by decide),bq a b (show 1<3 by decide) (show 0<3 by decide),bq a b (show 1<3 by decide) (show 1<3 by decide),bq a b (show 1<3 by decide) (show 2<3 by decide),bq a b (show 2<3 by decide) (show 0<3 by decide),bq a b (show 2<3 by decide) (show 1<3 by decide),bq a b (show 2<3 by decide) (show 2<3 by decide)]
 grind
theorem m3(i:Nat)(k:Nat):((i:Int)+(k:Int))%3=(((i+k)%3:Nat):Int):=by omega
theorem ow(i:Nat):i%3<3:=Nat.mod_lt _ (by decide)
theorem mR(f:Nat->Int){c:Nat}(h:c<3):Ae [V.int (f 0),.int (f 1),.int (f 2)] (c:Int)=some (.int (f c)):=by
 rcases aG h with rfl|rfl|rfl<;>rfl
theorem RK{m:List (List Int)}{n:Nat}(h:Bd n m)(i j:Nat):(lF m i j).natAbs<2^(n+n+1):=
 sX (fE (h _ _ (ow _) (ow _)) (h _ _ (ow _) (ow _))) (fE (h _ _ (ow _) (ow _)) (h _ _ (ow _) (ow _)))
theorem gk{H:Hp}{t b0 b1 b2:Addr}(g:Nat->Nat->Int)(e:H t=some (.lst [.ref b0,.ref b1,.ref b2]))(h0:H b0=some (.lst [.int (g 0 0),.int (g 0 1),.int (g 0 2)]))(h1:H b1=some (.lst [.int (g 1 0),.int (g 1 1),.int (g 1 2)]))
  (h2:H b2=some (.lst [.int (g 2 0),.int (g 2 1),.int (g 2 2)])):Tab H t [b0,b1,b2] (mk3 g):=⟨e,.cons h0 (.cons h1 (.cons h2 .nil))⟩
def iH(m:List (List Int)):List (List Int):=mk3 λi j=>lF m j i
def oF(d:Int):List (List Int):=mk3 λi j=>if i=j then d else 0
theorem cR(m:List (List Int)){i j:Nat}(hi:i<3)(hj:j<3):ent (iH m) i j=lF m j i:=bQ _ hi hj
theorem Eb(m:List (List Int)):iR (iH m) m=oF (aN m):=by
 refine jk λi j hi hj=> ?_
 rw[cR m hi (by decide),cR m hi (by decide),cR m hi (by decide),cN]
 rcases aG hi with rfl|rfl|rfl<;>rcases aG hj with rfl|rfl|rfl<;>simp only[lF,Nat.reduceAdd,Nat.reduceMod,Nat.reduceEqDiff,if_true,if_false]<;>grind
theorem Kw(m:List (List Int)):iR m (iH m)=oF (aN m):=by
 refine jk λi j hi hj=> ?_
 rw[cR m (by decide) hj,cR m (by decide) hj,cR m (by decide) hj,cN]
 rcases aG hi with rfl|rfl|rfl<;>rcases aG hj with rfl|rfl|rfl<;>simp only[lF,Nat.reduceAdd,Nat.reduceMod,Nat.reduceEqDiff,if_true,if_false]<;>grind
structure Jb(X:Cx)(st:List Stmt)(t:TS):Prop where
 h:vC X st t
theorem mS{X:Cx}{st:List Stmt}{t:TS}(h:Jb X st t):vC X st t:=h.h
theorem ay{X:Cx}{a:Stmt}{b:List Stmt}{ta tb:TS}(ha:PS X a ta)(hb:Jb X b tb):Jb X (a::b) (Rc ta tb):=⟨ME ha hb.h⟩
theorem aI{X:Cx}{a:Stmt}{ta:TS}(ha:PS X a ta):Jb X [a] ta:=⟨eH ha⟩
section
variable{X:Cx}{pins:List (Addr×Obj)}{σ:St}{H:Hp}{s:Shared}{h':Heap}
theorem Inv.uB{t':Nat}{ch:List Addr}(I:Inv X pins σ H s)(k:∀b o,b∉ch->s.heap.get? b=some o->h'.get? b=some o)(hf:∀b∈ch,gn X pins H b):Inv X pins σ H {s with heap:=h',toks:=t'}:=by
 have WV:∀b u,H b=some u->b∉ch:=λb u e z=>by have:=(hf b z).1;rw[e]at this;cases this
 refine I.step (g':=s.gens) (d':=s.drawn) (ch:=ch) (λb hb=> ?_) (λb o _ _ hc e _=>k b o hc e) (λb o _ _ hc e _=>⟨o.slots,k b o hc e⟩) (λ_ _ _ _ n=>n)
  (λb o hc e=>⟨o,k b o hc e⟩) (λ_ _ e=>e) (λ_ _ _ e=>e) (λb ps e=>⟨#[],by rw[e];simp⟩) (λm hm=> ?_) (λb u e=> ?_) (.refl I.bare.bare)
 ·obtain⟨f0,f1,f2,f3,f4,f5⟩:=hf b hb
  exact⟨f3,f1,f4,f5⟩
 ·obtain⟨o,es,ep,ho,r⟩:=hm
  exact⟨o,es,ep,k _ o (λz=>(hf _ z).2.1 rfl) ho,r⟩
 ·refine(I.hok b u e).stay (λc v hc q=>k c v ?_ q) (λ_ q=>q) λ_ _ q=>q
  rcases hc with z|z
  ·rw[z];exact WV b u e
  ·exact WV c _ z
theorem Inv.Ux{T:Addr}{o:HO}(I:Inv X pins σ H s)(hf:gn X pins H T)(new:fX X.prog X.w (upd H T o) s.heap T o):Inv X pins σ (upd H T o) s:=by
 obtain⟨f0,f1,f2,f3,f4,f5⟩:=hf
 have ne:∀{b u},H b=some u->b≠T:=λ {b u} e z=>by rw[z,f0]at e;cases e
 refine I.step (g':=s.gens) (d':=s.drawn) (t':=s.toks) (h':=s.heap) (ch:=[T]) (λb hb=> ?_) (λb o _ _ _ e _=>e) (λb o _ _ _ e _=>⟨o.slots,e⟩) (λb o hc _ n=> ?_)
  (λb o _ e=>⟨o,e⟩) (λb xs e=>by rw[aH (ne e)];exact e) (λb _ _ e=>by rw[aH (ne e)];exact e) (λb ps e=>⟨#[],by rw[aH (ne e),e];simp⟩) (λm hm=>hm) (λb u e=> ?_) (.refl I.bare.bare)
 ·have e:b=T:=by simpa using hb
  subst e
  exact⟨f3,f1,f4,f5⟩
 ·rw[aH (λz=>hc (by simp[z]))];exact n
 ·by_cases hb:b=T
  ·subst hb;rw[aq]at e;cases e;exact new
  ·rw[aH hb]at e
   exact(I.hok b u e).stay (λc v _ q=>q) (λc q=>by rw[aH (ne q)];exact q) (λc xs q=>by rw[aH (ne q)];exact q) λc ob xs q=>by rw[aH (ne q)];exact q
end
def WD(K:PySem.W.Frag)(a b:Addr):It:=
 ⟨λi H=> ∃xs ys x y,aV K H a xs/\aV K H b ys/\xs[i]?=some x/\ys[i]?=some y,
  λi H v H'=> ∃T x y,v= .ref T/\H T=none/\(∀xs,aV K H a xs->xs[i]?=some x)/\(∀ys,aV K H b ys->ys[i]?=some y)/\H'=upd H T (.tup [x,y]),
  λi H=> ∃xs ys,aV K H a xs/\aV K H b ys/\(xs.length<=i∨ys.length<=i)⟩
def XE(z TI TO i1 i2 a b:Addr)(i:Nat)(h:Heap):Prop:=
 IsZip h z TI TO .none/\IsPair h TI (.ref i1) (.ref i2)/\(∃p q,IsPair h TO p q)/\h.IsListIter i1 a i/\h.IsListIter i2 b i
theorem Nn{P:Program}{w:World}{K:PySem.W.Frag}{elts:List Expr}{x1}{pos:Pos}(z TI TO i1 i2 a b:Addr)(D:ZipApart z TI TO i1 i2 a b):Turn P w K (.Tuple elts x1 pos) (WD K a b) [z,TI,TO,i1,i2] z (XE z TI TO i1 i2 a b) where
 mem:=by simp
 obj:=λi h st c hc=>by
  obtain⟨hz,hTI,⟨p,q,hTO⟩,⟨o1,e1,c1,d1⟩,⟨o2,e2,c2,d2⟩⟩:=st
  simp only[List.mem_cons,List.not_mem_nil,or_false]at hc
  rcases hc with rfl|rfl|rfl|rfl|rfl
  ·exact⟨_,hz,λv e=>by cases e⟩
  ·exact⟨_,hTI,λv e=>by cases e⟩
  ·exact⟨_,hTO,λv e=>by cases e⟩
  ·exact⟨_,e1,λv e=>by rw[d1]at e;cases e⟩
  ·exact⟨_,e2,λv e=>by rw[d2]at e;cases e⟩
 keep:=λi h h' st k=>by
  obtain⟨hz,hTI,⟨p,q,hTO⟩,h1,h2⟩:=st
  exact⟨k z (by simp) _ hz,k TI (by simp) _ hTI,⟨p,q,k TO (by simp) _ hTO⟩,h1.at λo e=>k i1 (by simp) o e,h2.at λo e=>k i2 (by simp) o e⟩
 item:=by
  intro X hP hw hK hc i pins s σ H E I hf st hg
  subst hP hw hK
  obtain⟨xs,ys,x,y,YT,YU,hx,hy⟩:=hg
  obtain⟨hz,hTI,⟨p,q,hTO⟩,h1,h2⟩:=st
  obtain⟨ia,ra,pa,za⟩:=I.list YT
  obtain⟨ib,rb,pb,zb⟩:=I.list YU
  obtain⟨u,hu,ru⟩:=ra.get hx
  obtain⟨v,hv,rv⟩:=rb.get hy
  refine wpAny_pyNext_zip_item D hz hTI hTO h1 h2 pa.isList pb.isList (x:=u) (y:=v) (by simpa using hu) (by simpa using hv) λh' a1 a2 a3 a4 a5 a6 hk=> ?_
  refine⟨_,rfl,?_⟩
  have aan:=hk _ _ D.TIz D.TITO D.TIi1 D.TIi2 hTI
  have f4:∀c∈ [z,TO,i1,i2],gn X pins H c:=λc hc=>hf c (by simp only[List.mem_cons,List.not_mem_nil,or_false]at hc ⊢;rcases hc with rfl|rfl|rfl|rfl<;>simp)
  have I1:Inv X pins σ H {s with heap:=h'}:=I.uB (t':=s.toks) (ch:=[z,TO,i1,i2]) (λc o hc e=>hk c o (λq=>hc (by simp[q])) (λq=>hc (by simp[q])) (λq=>hc (by simp[q])) (λq=>hc (by simp[q])) e) f4
  have hn:H s.heap.objs.size=none:=I.hok.fresh (Nat.le_refl _)
  have fT:=I.Ga (b:=s.heap.objs.size) (Nat.le_refl _) hn
  have I2:Inv X pins σ (upd H s.heap.objs.size (.tup [x,y])) {s with heap:=h'}:=I1.Ux fT ⟨by show 2<=sizeLine;decide,[u,v],.cons ru (.cons rv .nil),⟨_,a5,rfl,_,rfl⟩⟩
  refine wpAny_letOwnedTupleGo_zip (s:={s with heap:=h'}) a1 λh2' hz' hs'=> ?_
  have lt:∀{c o},s.heap.get? c=some o->c≠s.heap.objs.size:=λe=>Nat.ne_of_lt (Heap.lt_size e)
  obtain⟨o1,e1,_⟩:=id h1
  obtain⟨o2,e2,_⟩:=id h2
  have neT:∀c∈ [z,TI,TO,i1,i2],c≠s.heap.objs.size:=λc hc=>by
   simp only[List.mem_cons,List.not_mem_nil,or_false]at hc
   rcases hc with rfl|rfl|rfl|rfl|rfl
   ·exact lt hz
   ·exact lt hTI
   ·exact lt hTO
   ·exact lt e1
   ·exact lt e2
  obtain⟨g0,g1,g2,g3,g4,g5⟩:=hf z (by simp)
  have I3:Inv X pins σ (upd H s.heap.objs.size (.tup [x,y])) {s with heap:=h2'}:=Inv.turned (s:={s with heap:=h'}) (h':=h2') I2 (it:=z) (t':=s.toks) (λc o hc e=>hs'.extBut _ _ hc e) (by rw[aH (neT z (by simp))];exact g0) g1 g3 g4 g5
  refine⟨.ref s.heap.objs.size,_,I3,rfl,⟨_,x,y,rfl,hn,λzs hzs=>by rw[I.yh hzs YT];exact hx,λzs hzs=>by rw[I.yh hzs YU];exact hy,rfl⟩,?_,λc hc=> ?_⟩
  ·exact⟨hz',hs'.extBut _ _ D.TIz aan,⟨_,_,hs'.extBut _ _ D.TOz a2⟩,a3.extBut hs'.extBut D.i1z,a4.extBut hs'.extBut D.i2z⟩
  ·rw[aH (neT c hc)];exact(hf c hc).1
 done:=by
  intro X hP hw hK hc i pins s σ H E I hf st hg
  subst hP hw hK
  obtain⟨xs,ys,YT,YU,hend⟩:=hg
  obtain⟨hz,hTI,⟨p,q,hTO⟩,h1,h2⟩:=st
  obtain⟨ia,ra,pa,za⟩:=I.list YT
  obtain⟨ib,rb,pb,zb⟩:=I.list YU
  have la:=ra.length
  have lb:=rb.length
  have f4:∀c∈ [z,TO,i1,i2],gn X pins H c:=λc hc=>hf c (by simp only[List.mem_cons,List.not_mem_nil,or_false]at hc ⊢;rcases hc with rfl|rfl|rfl|rfl<;>simp)
  refine wpAny_pyNext_zip_end (I.ok.hd hc) D hz hTI hTO h1 h2 pa.isList pb.isList (hend.imp (λq=>by simp;omega) (λq=>by simp;omega)) λh' hk=>⟨rfl,?_⟩
  exact I.uB (t':=s.toks) (ch:=[z,TO,i1,i2]) (λc o hc e=>hk c o (λq=>hc (by simp[q])) (λq=>hc (by simp[q])) (λq=>hc (by simp[q])) (λq=>hc (by simp[q])) e) f4
 self:=λ_ _ _ _ _ st h=>wpAny_pyIter_zip st.1 h
def aao(K:PySem.W.Frag)(ta:TA):TI:=λσ H R=>ta σ H λvs H1=> ∃a b xs ys,vs=[.ref a,.ref b]/\aV K H1 a xs/\aV K H1 b ys/\R (WD K a b) H1
section
variable{X:Cx}
theorem Cb{elts:List Expr}{x1}{tpos:Pos}{a b:Expr}{ta:TA}{p pos:Pos}(hg:Gl X "zip")(hm:X.mg "zip"=none)(ha:PA X [a,b] ta)(hs:starEach [a,b] X.env=[(false,eval a X.env),(false,eval b X.env)]:=by rfl)(hs2:starEach [b] X.env=[(false,eval b X.env)]:=by rfl):
  PI X (.Tuple elts x1 tpos) (.Call (.Name "zip" p) [a,b] [] pos) (aao X.K ta):=by
 intro pins s σ H R I h
 refine Call_ (lQ I hg hm boot_zip (PyProof.Rows.callWith_type1 (gj (ha pos pins s σ H _ I h) λus s1 ⟨vs,H1,I1,r1,q1⟩=> ?_) (by rw[hs,hs2]) (by rw[hs2];rfl)))
 obtain⟨l1,l2,xs,ys,e,q1,q2,q⟩:=q1
 subst e
 cases r1 with
 |cons r rr=>
  cases rr with
  |cons r' rr=>
   cases rr
   cases r
   cases r'
   obtain⟨ia,ra,pa,za⟩:=I1.list q1
   obtain⟨ib,rb,pb,zb⟩:=I1.list q2
   have lt1:l1<s1.heap.objs.size:=by obtain⟨o,e,_⟩:=pa.isList;exact Heap.lt_size e
   have YV:l2<s1.heap.objs.size:=by obtain⟨o,e,_⟩:=pb.isList;exact Heap.lt_size e
   refine call_zip_2 pa.isList pb.isList λh' hz hTI hTO hi1 hi2 hsz hk=> ?_
   refine wpAny_pyIter_zip hz ?_
   refine⟨_,[s1.heap.objs.size+4,s1.heap.objs.size+2,s1.heap.objs.size+3,s1.heap.objs.size,s1.heap.objs.size+1],_,_,H1,rfl,I1.kept (t':=s1.toks) hk,Nn _ _ _ _ _ l1 l2 (zipApart_new lt1 YV),⟨hz,hTI,⟨_,_,hTO⟩,hi1,hi2⟩,λc hc=> ?_,q⟩
   have hc':s1.heap.objs.size<=c:=by
    simp only[List.mem_cons,List.not_mem_nil,or_false]at hc
    rcases hc with rfl|rfl|rfl|rfl|rfl<;>first|exact Nat.le_refl _|exact Nat.le_add_right _ _
   exact I1.Ga hc' (I1.hok.fresh hc')
end
section
variable{X:Cx}{sc:Scope}{N2:List Str}{x y:Str}{px FW tpos:Pos}{x1:Nat}{elt iter:Expr}{g7 p pos:Pos}{wi:TI}{te:TE}{P:Addr}
theorem Ec{own:List Str}{i:Nat}{z:Str}(B:uh sc.names X.env.scope.names own N2 X.N)(hz:own[i]?=some z)(s:Shared)(H:Hp)(fp:List Addr):PG (X.comp sc (own++N2) s H fp) (.Name z px) (dX i):=by
 have hi:(X.comp sc (own++N2) s H fp).N[i]?=some z:=by
  show(own++N2)[i]?=some z
  rw[List.getElem?_append_left (List.getElem?_eq_some_iff.mp hz).1];exact hz
 rcases B.own z (List.mem_of_getElem? hz)with e|e
 ·exact cD (i:=i) B.Rw hi (.inl (lV (env:=X.env) e (.inl rfl))) (.inr (lV (env:=X.env) e (.inl rfl)))
 ·refine cD (i:=i) B.Rw hi (.inr (lV (env:=X.env) e (.inr rfl))) (.inl ?_)
  show(sc.names.lookup z==some NameKind.cell)=true
  rw[e];rfl
def g2(K:PySem.W.Frag):TG:=Xf K 2 (MG (dX 0) (MG (dX 1) Xd))
theorem Np(hc:X.calm=true)(B:uh sc.names X.env.scope.names [x,y] N2 X.N)(s:Shared)(H:Hp)(fp:List Addr):PG (X.comp sc ([x,y]++N2) s H fp) (.Tuple [.Name x px,.Name y FW] x1 tpos) (g2 X.K):=
 FZ (X:=X.comp sc ([x,y]++N2) s H fp) hc (dw (Ec (i:=0) B rfl s H fp) (dw (Ec (i:=1) B rfl s H fp) mT))
theorem Nq(hc:X.calm=true)(hi:PI X (.Tuple [.Name x px,.Name y FW] x1 tpos) iter wi)(hB:BQ sc.names X.env.scope.names [x,y] N2 X.N=true)(hk:sc.kind= .function)(he:∀s H fp,PE (X.comp sc ([x,y]++N2) s H fp) elt te)
  (hs:∀x,foldedSetIterable iter X.env x=pure x:=by intro _;rfl):PE X (.ListComp elt [⟨.Tuple [.Name x px,.Name y FW] x1 tpos,iter,[],0⟩] sc pos) (oB 2 wi (g2 X.K) te):=
 DS (own:=[x,y]) hc hi (kI hB) hk (λs H fp=>Np hc (kI hB) s H fp) he hs
end
theorem Ed{K:PySem.W.Frag}{H1:Hp}{a b:Addr}{xs ys:List V}{σ:St}{te:TE}{Q:VK}(ha:aV K H1 a xs)(hb:aV K H1 b ys)(hl:xs.length=ys.length)(hz:xs.length<=sizeLine){D:Addr}(hD:H1 D=none)(f:V->V->V)
  (hs:∀(i:Nat) x y,xs[i]?=some x->ys[i]?=some y-> ∀H' (Q':VK),av H1 H'->Q' (f x y) H'->te (some x::some y::σ) H' Q')
  (hq:∀H',av H1 H'->H' D=some (.lst (List.zipWith f xs ys)) ->Q (.ref D) H'):qF 2 (g2 K) te σ (WD K a b) H1 D Q:=by
 refine⟨λi m acc σ' H'=>m=xs.length-i/\i<=xs.length/\acc=(List.zipWith f xs ys).take i/\(∃o o',σ'=o::o'::σ)/\av H1 H'/\H' D=some (.lst acc),⟨xs.length,rfl,Nat.zero_le _,by simp,⟨none,none,rfl⟩,av.up hD,aq⟩,?_⟩
 rintro i m acc σ' H' ⟨rfl,hi,hacc,⟨o,o',rfl⟩,sm,eD⟩
 have aaz:acc.length=i:=by rw[hacc];simp;omega
 by_cases hlt:i<xs.length
 ·have hlt':i<ys.length:=by omega
  refine .inr ⟨⟨xs,ys,xs[i],ys[i],sm.seq ha,sm.seq hb,by simp[hlt],by simp[hlt']⟩,by omega,λv H2 yl=> ?_⟩
  obtain⟨T,x,y,rfl,hT,hx,hy,rfl⟩:=yl
  have ex:=hx xs (sm.seq ha)
  have ey:=hy ys (sm.seq hb)
  have s2:av H' (upd H' T (.tup [x,y])):=av.up hT
  refine⟨T,[x,y],rfl,qA.of aq,rfl,x,[y],rfl,y,[],rfl,rfl,?_⟩
  show te (some x::some y::σ) _ _
  refine hs i x y ex ey _ _ (sm.trans s2) ?_
  refine⟨s2 _ _ eD,xs.length- (i+1),by omega,rfl,hlt,?_,⟨_,_,rfl⟩,(sm.trans s2).upd hD,aq⟩
  rw[hacc,List.take_succ,List.getElem?_zipWith,ex,ey]
  rfl
 ·have e:i=xs.length:=by omega
  subst e
  refine .inl ⟨⟨xs,ys,sm.seq ha,sm.seq hb,.inl (Nat.le_refl _)⟩,eD,hq H' sm ?_⟩
  rw[eD,hacc]
  rw[List.take_of_length_le (by rw[List.length_zipWith];exact Nat.min_le_left ..)]
section
variable{X:Cx}{sc:Scope}{N2:List Str}{x y:Str}{px FW:Pos}{elt iter IV:Expr}{g7 p pos:Pos}{wi YR:TI}{te:TE}{P:Addr}
theorem Jc{B:Around}{own:List Str}{i:Nat}{z:Str}(Bk:uh sc.names X.env.scope.names own N2 X.N)(hnc:∀y∈sc.names,y.2≠ .cell)(hz:own[i]?=some z)(code:Value)(s:Shared)(H:Hp)(fp:List Addr):PG (X.gen B sc (own++N2) code s H fp) (.Name z px) (dX i):=by
 have hi:(X.gen B sc (own++N2) code s H fp).N[i]?=some z:=by
  show(own++N2)[i]?=some z
  rw[List.getElem?_append_left (List.getElem?_eq_some_iff.mp hz).1];exact hz
 rcases Bk.own z (List.mem_of_getElem? hz)with e|e
 ·exact cD (i:=i) Bk.Rw hi (.inl e) (.inr e)
 ·exact absurd rfl (hnc _ (mem_of_lookup e))
end
section
variable{prog:Program}{w:World}{A:Around}{E:Value->Shared->Prop}{s:Shared}
theorem Bq{it t:Addr}{items:Array Value}(hne:t≠it):∀(n i:Nat)(s:Shared)(Q:List Value->Shared->Prop),s.heap.IsListIter it t i->s.heap.IsList t items->i+n<=items.size->
  (∀h',h'.IsListIter it t (i+n) ->Heap.SameBut it s.heap h'->Q ((items.toList.drop i).take n) {s with heap:=h'}) ->wpAny (model prog w) A (draw (.ref it) n) Q E s
 |0,i,s,Q,hit,_,_,hQ=>by
  show wpAny _ _ (pure []) Q E s
  exact wpAny_pure (by simpa using hQ s.heap hit (Heap.SameBut.refl ..))
 |n+1,i,s,Q,hit,ht,hle,hQ=>by
  have hlt:i<items.size:=by omega
  show wpAny _ _ (pyNext (.ref it)>>=_) Q E s
  refine wpAny_bind (wpAny_pyNext_list_item hit ht (x:=items[i]) (by simp[hlt]) λh₁ Gz hs₁=> ?_)
  refine wpAny_bind (wpAny_holding (Bq hne n (i+1) _ _ Gz (ht.extBut hs₁.extBut hne) (by omega) λh₂ Vy hs₂=>wpAny_pure ?_))
  have hd:items.toList.drop i=items[i]::items.toList.drop (i+1):=by simp[List.drop_eq_getElem_cons,hlt]
  have:=hQ h₂ (by rw[show i+(n+1)=i+1+n by omega];exact Vy) (hs₁.trans hs₂)
  rw[hd,List.take_succ_cons]at this
  exact this
theorem Cc{t:Addr}{items:Array Value}{targets:List (Bool×(Value->Sem Unit))}{Q:Unit->Shared->Prop}(hh:A.handled=none)(ht:s.heap.IsList t items)
  (hn:targets.length=items.size)(hstar:targets.findIdx? (·.1)=none)
  (h:∀h',Heap.ExtBut s.heap.objs.size s.heap h'->wpAny (model prog w) A (assignInOrder (targets.map (·.2)) items.toList) Q E {s with heap:=h'}):
  wpAny (model prog w) A (unpack (.ref t) targets) Q E s:=by
 have hlt:t≠s.heap.objs.size:=by obtain⟨o,ho,_⟩:=ht;exact Nat.ne_of_lt (Heap.lt_size ho)
 unfold unpack
 rw[hn,hstar]
 refine wpAny_bind (wpAny_holding ?_)
 unfold unpackItems
 refine wpAny_bind ?_
 unfold notIterableAtAll
 refine wpAny_bind (wpAny_specialOf ht.typeIs PySem.F.slot_list_iter.lookup ?_)
 refine wpAny_pure ?_
 simp only[Bool.false_eq_true,if_false]
 refine wpAny_bind (wpAny_holding (wpAny_pyIter_list ht ?_))
 refine wpAny_bind (wpAny_holding (Bq hlt items.size 0 _ _ ⟨_,Heap.get?_push_size _ rfl,rfl,rfl⟩ (Heap.IsList.push ht _) (by omega) λh₁ Gz hs₁=> ?_))
 have hall:List.take items.size (List.drop 0 items.toList)=items.toList:=by
  rw[List.drop_zero];exact List.take_of_length_le (by simp)
 rw[hall]
 rw[if_neg (by simp)]
 have ht₁:h₁.IsList t items:=(Heap.IsList.push ht _).extBut hs₁.extBut hlt
 refine wpAny_bind (wpAny_holding (wpAny_pyNext_list_end hh Gz ht₁ (by simp) λh₂ XF=> ?_))
 simp only[Option.isSome_none,Bool.false_eq_true,if_false]
 refine wpAny_pure (h h₂ λb o hb e=>XF b o hb (hs₁.extBut b o hb (Heap.get?_push_of_some _ e)))
end
section
variable{X:Cx}
def XG(K:PySem.W.Frag)(n:Nat)(t:Rg):TG:=λv σ H Q=> ∃a xs,v= .ref a/\aV K H a xs/\xs.length=n/\t xs σ H Q
theorem uC{es:List Expr}{k:Nat}{t:Rg}{n:Nat}{pos:Pos}(hc:X.calm=true)(h:Xc X es t)
  (hn:(assignEach es X.env).length=n:=by rfl)(hst:(assignEach es X.env).findIdx? (·.1)=none:=by rfl):PG X (.Tuple es k pos) (XG X.K n t):=by
 intro pins s σ H v u Q I r hw
 obtain⟨a,xs,e1,hq,hl,hw⟩:=hw
 subst e1
 cases r
 obtain⟨its,rv,ht,hz⟩:=I.list hq
 rw[PyProof.Rows.assign_Tuple]
 refine wpAny_bind (wpAny_standAt (Cc (I.ok.hd hc) ht.isList (by simp[hn,<-hl,rv.length]) hst λh' hx=> ?_))
 have I1:Inv X pins σ H {s with heap:=h'}:=I.kept (t':=s.toks) λb o e=>hx b o (Nat.ne_of_lt (Heap.lt_size e)) e
 exact h pins _ σ H xs _ Q I1 (by simpa using rv) hw
end
def dR(H:Hp)(a:Addr)(x:Nat->Int):Prop:=H a=some (.lst [.int (x 0),.int (x 1),.int (x 2)])
theorem dR.same{H H':Hp}{a:Addr}{x:Nat->Int}(h:dR H a x)(s:av H H'):dR H' a x:=s _ _ h
def pairF(m:List (List Int))(x y:Nat->Int)(t:Nat):Int:=x (t/3)*ent m (t/3) (t%3)*y (t%3)
def cz(m:List (List Int))(x y:Nat->Int):Int:=PySem.preSum (pairF m x y) 9
theorem dh(m:List (List Int))(x y:Nat->Int):cz m x y=
  x 0*ent m 0 0*y 0+x 0*ent m 0 1*y 1+x 0*ent m 0 2*y 2+x 1*ent m 1 0*y 0+x 1*ent m 1 1*y 1+x 1*ent m 1 2*y 2+x 2*ent m 2 0*y 0+x 2*ent m 2 1*y 1+x 2*ent m 2 2*y 2:=by
 show PySem.preSum (pairF m x y) 9=_
 simp only[PySem.preSum,pairF,Nat.reduceDiv,Nat.reduceMod]
 omega
structure cC(m:List (List Int)):Prop where
 sym:ent m 1 0=ent m 0 1/\ent m 2 0=ent m 0 2/\ent m 2 1=ent m 1 2
 aaA:∃a b c,ent m 0 0=2*a/\ent m 1 1=2*b/\ent m 2 2=2*c
def aR(m:List (List Int))(x:Nat->Int):Int:=cz m x x/2
theorem iI{m:List (List Int)}(h:cC m)(x:Nat->Int):cz m x x=2*aR m x:=by
 obtain⟨⟨s1,s2,s3⟩,a,b,c,e1,e2,e3⟩:=h
 have q:cz m x x=2*(x 0*a*x 0+x 1*b*x 1+x 2*c*x 2+x 0*ent m 0 1*x 1+x 0*ent m 0 2*x 2+x 1*ent m 1 2*x 2):=by
  rw[dh,s1,s2,s3,e1,e2,e3];grind
 unfold aR
 rw[q,Int.mul_ediv_cancel_left _ (by decide)]
section
variable{X:Cx}{pos:Pos}
end
def g8(a b c p q r:Int):List (List Int):=mk3 λi j=>match i,j with|0,0=>a|0,1=>p|0,_=>q|1,0=>p|1,1=>b|1,_=>r|_,0=>q|_,1=>r|_,_=>c
theorem qM(a b c p q r:Int):aN (g8 a b c p q r)=a*b*c+2*(p*q*r) -a*(r*r) -b*(q*q) -c*(p*p):=by
 rw[cN]
 show a*(b*c-r*r)+p*(r*q-p*c)+q*(p*r-b*q)=_
 grind
theorem rX{n:Nat}{a b c p q r:Int}(ha:a.natAbs<2^n)(hb:b.natAbs<2^n)(hc:c.natAbs<2^n)(hp:p.natAbs<2^n)(hq:q.natAbs<2^n)(hr:r.natAbs<2^n):Bd n (g8 a b c p q r):=λi j hi hj=>by
 unfold g8
 rw[bQ _ hi hj]
 rcases aG hi with rfl|rfl|rfl<;>rcases aG hj with rfl|rfl|rfl<;>assumption
theorem jR(a b c p q r:Int):cC (g8 (2*a) (2*b) (2*c) p q r):=⟨⟨rfl,rfl,rfl⟩,a,b,c,rfl,rfl,rfl⟩
theorem XH{p a:Int}(h: -a<=p)(h':p<=a):p*p<=a*a:=by
 have h1:0<=a-p:=by omega
 have h2:0<=a+p:=by omega
 have:=Int.mul_nonneg h1 h2
 grind
theorem qN{H:Hp}{a b c d:Addr}{x y z:HO}(h0:H a=none)(h1:upd H a x b=none)(h2:upd (upd H a x) b y c=none)(h3:upd (upd (upd H a x) b y) c z d=none):H d=none/\(∀e∈ [a,b,c],H e=none)/\d∉ [a,b,c]:=by
 have s0:av H (upd H a x):=av.up h0
 have s1:av (upd H a x) (upd (upd H a x) b y):=av.up h1
 have s2:av (upd (upd H a x) b y) (upd (upd (upd H a x) b y) c z):=av.up h2
 refine⟨(s0.trans (s1.trans s2)).none h3,λe he=> ?_,λhd=> ?_⟩
 ·simp only[List.mem_cons,List.not_mem_nil,or_false]at he
  rcases he with rfl|rfl|rfl
  ·exact h0
  ·exact s0.none h1
  ·exact(s0.trans s1).none h2
 ·simp only[List.mem_cons,List.not_mem_nil,or_false]at hd
  rcases hd with rfl|rfl|rfl
  ·have:=(s1.trans s2) _ _ (aq (H:=H) (a:=d) (o:=x));rw[h3]at this;cases this
  ·have:=s2 _ _ (aq (H:=upd H a x) (a:=d) (o:=y));rw[h3]at this;cases this
  ·rw[aq]at h3;cases h3
def Aq(m:List (List Int))(i:Nat)(g:Nat->Int):List (List Int):=mk3 λr s=>if r=i then g s else ent m r s
theorem Cd{H:Hp}{D R:Addr}{bs:List Addr}{m:List (List Int)}{i:Nat}{g:Nat->Int}(hT:Tab H D bs m)(dD:cu m)(hi:i<3)(hR:H R=some (.lst [.int (g 0),.int (g 1),.int (g 2)]))(nR:R≠D)(nD:D∉bs):
  Tab (upd H D (.lst ((bs.map V.ref).set i (.ref R)))) D (bs.set i R) (Aq m i g):=by
 obtain⟨b0,x1,x2,_⟩:=bJ hT dD (i:=0) (by decide)
 obtain⟨b1,y1,y2,_⟩:=bJ hT dD (i:=1) (by decide)
 obtain⟨b2,w1,w2,_⟩:=bJ hT dD (i:=2) (by decide)
 have hl3:bs.length=3:=by rw[<-hT.2.length,dD.1]
 obtain⟨a0,a1,a2,rfl⟩:∃a0 a1 a2,bs=[a0,a1,a2]:=by
  match bs,hl3 with
  | [a,b,c],_=>exact⟨a,b,c,rfl⟩
 obtain rfl:a0=b0:=V.ref.inj (Option.some.inj x1)
 obtain rfl:a1=b1:=V.ref.inj (Option.some.inj y1)
 obtain rfl:a2=b2:=V.ref.inj (Option.some.inj w1)
 have n0:a0≠D:=λz=>nD (by rw[<-z];simp)
 have n1:a1≠D:=λz=>nD (by rw[<-z];simp)
 have n2:a2≠D:=λz=>nD (by rw[<-z];simp)
 rcases aG hi with rfl|rfl|rfl
 ·exact gk _ aq (by rw[aH nR];exact hR) (by rw[aH n1];exact y2) (by rw[aH n2];exact w2)
 ·exact gk _ aq (by rw[aH n0];exact x2) (by rw[aH nR];exact hR) (by rw[aH n2];exact w2)
 ·exact gk _ aq (by rw[aH n0];exact x2) (by rw[aH n1];exact y2) (by rw[aH nR];exact hR)
theorem dH(m:List (List Int)){i r s:Nat}(g:Nat->Int)(hr:r<3)(hs:s<3):ent (Aq m i g) r s=if r=i then g s else ent m r s:=bQ _ hr hs
theorem RL(m:List (List Int)){i j:Nat}(hi:i<3)(hj:j<3)(hij:i≠j)(o:Int):aN (Aq m i λs=>ent m i s+o*ent m j s)=aN m:=by
 rw[cN,cN]
 simp only[dH m _ (show 0<3 by decide) (show 0<3 by decide),dH m _ (show 0<3 by decide) (show 1<3 by decide),dH m _ (show 0<3 by decide) (show 2<3 by decide),dH m _ (show 1<3 by decide) (show 0<3 by decide),dH m _ (show 1<3 by decide) (show 1<3 by decide),dH m _ (show 1<3 by decide) (show 2<3 by decide),dH m _ (show 2<3 by decide) (show 0<3 by decide),dH m _ (show 2<3 by decide) (show 1<3 by decide),dH m _ (show 2<3 by decide) (show 2<3 by decide)]
 rcases aG hi with rfl|rfl|rfl<;>rcases aG hj with rfl|rfl|rfl<;>first|(exact absurd rfl hij)|(simp only[Nat.reduceEqDiff,if_true,if_false];grind)
structure FE(X:Cx)(e:Expr)(t:TE):Prop where
 h:PE X e t
structure FA(X:Cx)(es:List Expr)(t:TA):Prop where
 h:PA X es t
variable{X:Cx}
theorem aL{i j pos}:FE X (.Constant (.int i) j pos) (tC (.int i)):=⟨ak⟩
theorem fe{e t}(h:PE X e t):FE X e t:=⟨h⟩
theorem bK:FA X [] lS:=⟨ao⟩
theorem au{e es te t}(ha:FE X e te)(hr:FA X es t)(hs:starEach (e::es) X.env=(false,eval e X.env)::starEach es X.env):FA X (e::es) (eE te t):=⟨ah ha.h hr.h hs⟩
theorem bN{es t pos}(h:FA X es t):FE X (.List es pos) (Xq t):=⟨gD h.h⟩
theorem yz{i:Nat}{x:Str}{e:Expr}{te:TE}{pos' pos:Pos}{b:List Stmt}{tb:TS}(hN:X.N.Nodup)(hi:X.N[i]?=some x)(hx:Loc X.env.scope x)(he:FE X e te)(hs:swapsWith e (some (.Name x pos')) pos.line X.env=pure false)(hf:X.fn x=true∨X.env.scope.names.lookup x=some .local)(hb:Jb X b tb):
  Jb X (.Assign [.Name x pos'] e pos::b) (Rc (BL te (dX i)) tb):=ay (aW hN hi hx he.h hs hf) hb
theorem Ce{e:Expr}{te:TE}{pos:Pos}(he:FE X e te):Jb X [.Return (some e) pos] (WZ te):=aI (bA he.h)
theorem toF{st:List Stmt}{R:TS->Prop}(h:∃t,Jb X st t/\R t):∃t,vC X st t/\R t:=by
 obtain⟨t,a,b⟩:=h
 exact⟨t,a.h,b⟩
def d7(m:List (List Int)):Bool:=decide (0<ent m 0 0) && (decide (ent m 0 1*ent m 0 1<ent m 0 0*ent m 1 1) && decide (0<aN m))
theorem gX{m:List (List Int)}(h:dN m=m){i j:Nat}(hi:i<3)(hj:j<3):ent m j i=ent m i j:=by
 rw[<-bE m hi hj,h]
theorem XI(m:List (List Int)):cz m (λi=>if i=0 then 1 else 0) (λi=>if i=0 then 1 else 0)=ent m 0 0:=by
 rw[dh]
 simp
theorem XJ{m:List (List Int)}(h:dN m=m)(x:Nat->Int)(h0:x 0= -ent m 0 1)(h1:x 1=ent m 0 0)(h2:x 2=0):cz m x x=ent m 0 0*(ent m 0 0*ent m 1 1-ent m 0 1*ent m 0 1):=by
 rw[dh,h0,h1,h2,gX h (i:=0) (j:=1) (by decide) (by decide)]
 grind
theorem XM(m:List (List Int)):cz m (λj=>ent (iH m) 2 j) (λj=>ent (iH m) 2 j)=aN m*ent (iH m) 2 2:=by
 have e:∀j,j<3->ent (iH m) 2 0*ent m 0 j+ent (iH m) 2 1*ent m 1 j+ent (iH m) 2 2*ent m 2 j=if 2=j then aN m else 0:=λj hj=>by
  rw[<-bq _ _ (by decide) hj,Eb,oF,bQ _ (by decide) hj]
 have e0:=e 0 (by decide)
 have e1:=e 1 (by decide)
 have e2:=e 2 (by decide)
 rw[if_neg (by decide)]at e0 e1
 rw[if_pos rfl]at e2
 rw[dh,<-e2]
 grind
theorem Uy(m:List (List Int)):ent (iH m) 2 2=ent m 0 0*ent m 1 1-ent m 0 1*ent m 1 0:=by
 rw[cR m (by decide) (by decide)]
 rfl
theorem Nr{H:Hp}{a b c:Addr}{x y:HO}(h0:H a=none)(h1:upd H a x b=none)(h2:upd (upd H a x) b y c=none): [a,b,c].Nodup:=by
 have n1:a≠b:=λe=>by rw[e,aq]at h1;cases h1
 have n2:b≠c:=λe=>by rw[e,aq]at h2;cases h2
 have n3:a≠c:=λe=>by rw[aH (λz=>n2 z.symm),e,aq]at h2;cases h2
 simp[n1,n2,n3]
theorem Vz{a:Bool}{X A B:Prop}(hB:B)(h:a=true->B->X):if a=true then X else(if false=true then A else B):=by
 cases a with
 |false=>exact iO (iO hB)
 |true=>exact mQ (h rfl hB)
section
variable{X:Cx}
end
def Ar(x:Nat->Int)(b:List (List Int)):Nat->Int:=λj=>x 0*ent b 0 j+x 1*ent b 1 j+x 2*ent b 2 j
theorem Kx(b m:List (List Int))(x y:Nat->Int):cz (iR b m) x y=cz m (Ar x b) y:=by
 rw[dh,dh]
 unfold Ar
 simp only[bq b m (show 0<3 by decide) (show 0<3 by decide),bq b m (show 0<3 by decide) (show 1<3 by decide),bq b m (show 0<3 by decide) (show 2<3 by decide),bq b m (show 1<3 by decide) (show 0<3 by decide),bq b m (show 1<3 by decide) (show 1<3 by decide),bq b m (show 1<3 by decide) (show 2<3 by decide),bq b m (show 2<3 by decide) (show 0<3 by decide),bq b m (show 2<3 by decide) (show 1<3 by decide),bq b m (show 2<3 by decide) (show 2<3 by decide)]
 grind
theorem GA(b m:List (List Int))(x y:Nat->Int):cz (iR m (dN b)) x y=cz m x (Ar y b):=by
 rw[dh,dh]
 unfold Ar
 simp only[bq m (dN b) (show 0<3 by decide) (show 0<3 by decide),bq m (dN b) (show 0<3 by decide) (show 1<3 by decide),bq m (dN b) (show 0<3 by decide) (show 2<3 by decide),bq m (dN b) (show 1<3 by decide) (show 0<3 by decide),bq m (dN b) (show 1<3 by decide) (show 1<3 by decide),bq m (dN b) (show 1<3 by decide) (show 2<3 by decide),bq m (dN b) (show 2<3 by decide) (show 0<3 by decide),bq m (dN b) (show 2<3 by decide) (show 1<3 by decide),bq m (dN b) (show 2<3 by decide) (show 2<3 by decide),
  bE b (show 0<3 by decide) (show 0<3 by decide),bE b (show 0<3 by decide) (show 1<3 by decide),bE b (show 0<3 by decide) (show 2<3 by decide),bE b (show 1<3 by decide) (show 0<3 by decide),bE b (show 1<3 by decide) (show 1<3 by decide),bE b (show 1<3 by decide) (show 2<3 by decide),bE b (show 2<3 by decide) (show 0<3 by decide),bE b (show 2<3 by decide) (show 1<3 by decide),bE b (show 2<3 by decide) (show 2<3 by decide)]
 grind
theorem Ky(m b:List (List Int))(x y:Nat->Int):cz (oE m b) x y=cz m (Ar x b) (Ar y b):=by
 unfold oE
 rw[GA,Kx]
theorem Cf{a b:Int}(h:0<a*b)(ha:0<a):0<b:=by
 rcases Int.lt_or_le 0 b with z|z
 ·exact z
 ·have:=Int.mul_nonpos_of_nonneg_of_nonpos (show 0<=a by omega) z
  omega
def RM(m:List (List Int)):Prop:=∀x:Nat->Int,¬(x 0=0/\x 1=0/\x 2=0) ->0<cz m x x
theorem Kz{m:List (List Int)}(hS:dN m=m)(h:RM m):d7 m=true:=by
 have c1:0<ent m 0 0:=by
  have:=h (λi=>if i=0 then 1 else 0) (λz=>by simp at z)
  rw[XI]at this
  exact this
 have c2:ent m 0 1*ent m 0 1<ent m 0 0*ent m 1 1:=by
  have:=h (λi=>match i with|0=> -ent m 0 1|1=>ent m 0 0|_=>0) (λz=>by have y:ent m 0 0=0:=z.2.1;omega)
  rw[XJ hS _ rfl rfl rfl]at this
  have:=Cf this c1
  omega
 have p22:0<ent (iH m) 2 2:=by
  rw[Uy,gX hS (i:=0) (j:=1) (by decide) (by decide)]
  omega
 have c3:0<aN m:=by
  have:=h (λj=>ent (iH m) 2 j) (λz=>by have y:ent (iH m) 2 2=0:=z.2.2;omega)
  rw[XM]at this
  exact Cf (by rw[Int.mul_comm];exact this) p22
 unfold d7
 rw[decide_eq_true c1,decide_eq_true c2,decide_eq_true c3]
 rfl
theorem oG{m:List (List Int)}(h:d7 m=true):0<ent m 0 0/\ent m 0 1*ent m 0 1<ent m 0 0*ent m 1 1/\0<aN m:=by
 unfold d7 at h
 simp only[Bool.and_eq_true,decide_eq_true_eq]at h
 exact⟨h.1,h.2.1,h.2.2⟩
theorem pF(a:Int):0<=a*a:=by
 rcases Int.le_total 0 a with h|h
 ·exact Int.mul_nonneg h h
 ·have:=Int.mul_nonneg (show 0<= -a by omega) (show 0<= -a by omega)
  rwa [Int.neg_mul_neg]at this
theorem Cg{a:Int}(h:a*a<=0):a=0:=by
 have:=pF a
 have:a*a=0:=by omega
 rcases Int.mul_eq_zero.mp this with z|z<;>exact z
theorem VA{m:List (List Int)}(hS:dN m=m)(x:Nat->Int):ent m 0 0*(ent m 0 0*ent m 1 1-ent m 0 1*ent m 0 1)*cz m x x=
  (ent m 0 0*ent m 1 1-ent m 0 1*ent m 0 1)*((ent m 0 0*x 0+ent m 0 1*x 1+ent m 0 2*x 2)*(ent m 0 0*x 0+ent m 0 1*x 1+ent m 0 2*x 2))
  +((ent m 0 0*ent m 1 1-ent m 0 1*ent m 0 1)*x 1+(ent m 0 0*ent m 1 2-ent m 0 1*ent m 0 2)*x 2)*((ent m 0 0*ent m 1 1-ent m 0 1*ent m 0 1)*x 1+(ent m 0 0*ent m 1 2-ent m 0 1*ent m 0 2)*x 2)
  +ent m 0 0*aN m*(x 2*x 2):=by
 rw[dh,cN,gX hS (i:=0) (j:=1) (by decide) (by decide),gX hS (i:=0) (j:=2) (by decide) (by decide),gX hS (i:=1) (j:=2) (by decide) (by decide)]
 generalize ent m 0 0=a,ent m 0 1=p,ent m 0 2=q,ent m 1 1=b,ent m 1 2=r,ent m 2 2=c
 generalize x 0=u,x 1=v,x 2=w
 grind
theorem KA{m:List (List Int)}(hS:dN m=m)(h:d7 m=true):RM m:=by
 intro x n0
 obtain⟨c1,c2,c3⟩:=oG h
 have e:=VA hS x
 have f1:0<ent m 0 0*ent m 1 1-ent m 0 1*ent m 0 1:=by omega
 generalize ent m 0 0*ent m 1 1-ent m 0 1*ent m 0 1=fl at e f1
 have q1:=pF (ent m 0 0*x 0+ent m 0 1*x 1+ent m 0 2*x 2)
 have q2:=pF (fl*x 1+(ent m 0 0*ent m 1 2-ent m 0 1*ent m 0 2)*x 2)
 have q3:=pF (x 2)
 have r1:=Int.mul_nonneg (show 0<=fl by omega) q1
 have d1:=Int.mul_pos c1 c3
 have r3:=Int.mul_nonneg (show 0<=ent m 0 0*aN m by omega) q3
 have g1:=Int.mul_pos c1 f1
 refine Cf ?_ g1
 rcases Int.lt_or_le 0 (ent m 0 0*fl*cz m x x)with z|z
 ·exact z
 ·exfalso
  have s3:ent m 0 0*aN m*(x 2*x 2)<=0:=by omega
  have s2:=Cg (a:=fl*x 1+(ent m 0 0*ent m 1 2-ent m 0 1*ent m 0 2)*x 2) (by omega)
  have s1:fl*((ent m 0 0*x 0+ent m 0 1*x 1+ent m 0 2*x 2)*(ent m 0 0*x 0+ent m 0 1*x 1+ent m 0 2*x 2))<=0:=by omega
  have x2:x 2=0:=by
   refine Cg ?_
   rcases Int.lt_or_le 0 (x 2*x 2)with y|y
   ·have:=Int.mul_pos d1 y
    omega
   ·exact y
  rw[x2,Int.mul_zero,Int.add_zero]at s2
  have x1:x 1=0:=by
   rcases Int.mul_eq_zero.mp s2 with y|y
   ·omega
   ·exact y
  rw[x1,x2,Int.mul_zero,Int.mul_zero,Int.add_zero,Int.add_zero]at s1
  have x0:x 0=0:=by
   have:ent m 0 0*x 0=0:=by
    refine Cg ?_
    rcases Int.lt_or_le 0 (ent m 0 0*x 0*(ent m 0 0*x 0))with y|y
    ·have:=Int.mul_pos f1 y
     omega
    ·exact y
   rcases Int.mul_eq_zero.mp this with y|y
   ·omega
   ·exact y
  exact n0 ⟨x0,x1,x2⟩
theorem GB(b:List (List Int)):aN (dN b)=aN b:=by
 rw[cN,cN]
 simp only[bE b (show 0<3 by decide) (show 0<3 by decide),bE b (show 0<3 by decide) (show 1<3 by decide),bE b (show 0<3 by decide) (show 2<3 by decide),bE b (show 1<3 by decide) (show 0<3 by decide),bE b (show 1<3 by decide) (show 1<3 by decide),bE b (show 1<3 by decide) (show 2<3 by decide),bE b (show 2<3 by decide) (show 0<3 by decide),bE b (show 2<3 by decide) (show 1<3 by decide),bE b (show 2<3 by decide) (show 2<3 by decide)]
 grind
def Jd(d:Int):Prop:=d=1∨d= -1
theorem yC{m b:List (List Int)}(hb:Jd (aN b)):aN (oE m b)=aN m:=by
 unfold oE
 rw[rW,rW,GB]
 rcases hb with h|h<;>rw[h]<;>omega
theorem Nt{b:List (List Int)}(hb:Jd (aN b))(x:Nat->Int)(h:Ar x b 0=0/\Ar x b 1=0/\Ar x b 2=0):x 0=0/\x 1=0/\x 2=0:=by
 obtain⟨h0,h1,h2⟩:=h
 unfold Ar at h0 h1 h2
 have d0:aN b≠0:=by rcases hb with z|z<;>rw[z]<;>decide
 have k:∀z:Int,aN b*z=0->z=0:=λz e=>by
  rcases Int.mul_eq_zero.mp e with y|y
  ·exact absurd y d0
  ·exact y
 refine⟨k _ ?_,k _ ?_,k _ ?_⟩<;>rw[cN]<;>grind
theorem Nu{m b:List (List Int)}(h:RM m)(hb:Jd (aN b)):RM (oE m b):=λx n0=>by
 rw[Ky]
 exact h _ λz=>n0 (Nt hb x z)
theorem sY{m b:List (List Int)}(hS:dN m=m)(h:d7 m=true)(cb:cu b)(hb:Jd (aN b)):d7 (oE m b)=true:=
 Kz ((Bp b cb).trans (congrArg (oE · b) hS)) (Nu (KA hS h) hb)
theorem jS{m:List (List Int)}(h:cC m)(c:cu m):dN m=m:=by
 obtain⟨⟨s1,s2,s3⟩,_⟩:=h
 conv=>rhs;rw[yw c]
 refine jk λi j hi hj=> ?_
 rcases aG hi with rfl|rfl|rfl<;>rcases aG hj with rfl|rfl|rfl<;>first|rfl|assumption|(symm;assumption)
theorem Ef(m b:List (List Int)){i j:Nat}(hi:i<3)(hj:j<3):ent (oE m b) i j=cz m (λk=>ent b i k) (λk=>ent b j k):=by
 unfold oE
 rw[bq _ _ hi hj,bq _ _ hi (by decide),bq _ _ hi (by decide),bq _ _ hi (by decide),bE b (by decide) hj,bE b (by decide) hj,bE b (by decide) hj,dh]
 grind
theorem vL{m b:List (List Int)}(h:cC m)(c:cu m)(cb:cu b):cC (oE m b):=by
 have hS:=(Bp b cb).trans (congrArg (oE · b) (jS h c))
 refine⟨⟨gX hS (i:=0) (j:=1) (by decide) (by decide),gX hS (i:=0) (j:=2) (by decide) (by decide),gX hS (i:=1) (j:=2) (by decide) (by decide)⟩,aR m (λk=>ent b 0 k),aR m (λk=>ent b 1 k),aR m (λk=>ent b 2 k),?_,?_,?_⟩<;>rw[Ef m b (by decide) (by decide),iI h]
theorem jT{a b c p q r:Int}(ha:0<a)(hab:a<=b)(hp: -a<=p)(Af:p<=a)(hd:0<aN (g8 (2*a) (2*b) (2*c) p q r)):d7 (g8 (2*a) (2*b) (2*c) p q r)=true:=by
 have h1:=XH hp Af
 have h2:a*a<=a*b:=Int.mul_le_mul_of_nonneg_left hab (by omega)
 have h3:0<a*b:=Int.mul_pos ha (by omega)
 have h4:p*p<2*a*(2*b):=by
  have:2*a*(2*b)=4*(a*b):=by grind
  omega
 unfold d7
 rw[decide_eq_true hd,decide_eq_true (p:=0<ent (g8 (2*a) (2*b) (2*c) p q r) 0 0) (by show 0<2*a;omega),decide_eq_true (p:=ent (g8 (2*a) (2*b) (2*c) p q r) 0 1*ent (g8 (2*a) (2*b) (2*c) p q r) 0 1<ent (g8 (2*a) (2*b) (2*c) p q r) 0 0*ent (g8 (2*a) (2*b) (2*c) p q r) 1 1) h4]
 rfl
section
variable{X:Cx}{sc:Scope}{N2:List Str}{x y:Str}{px FW tpos:Pos}{x1:Nat}{elt iter:Expr}{g7 p pos:Pos}{wi:TI}{te:TE}{P:Addr}
end
mutual
inductive DV(H:Hp):V->PyData->Prop
 |fP:DV H .fP .none
 |bl(b:Bool):DV H (.bl b) (.bool b)
 |int(i:Int):DV H (.int i) (.int i)
 |str(x:Str):DV H (.str x) (.str x)
 |lst{a:Addr}{xs:List V}{ds:List PyData}:H a=some (.lst xs) ->xq H xs ds->DV H (.ref a) (.list ds)
 |tup{a:Addr}{xs:List V}{ds:List PyData}:H a=some (.tup xs) ->xq H xs ds->DV H (.ref a) (.tuple ds)
inductive xq(H:Hp):List V->List PyData->Prop
 |nil:xq H [] []
 |cons{x:V}{d:PyData}{xs:List V}{ds:List PyData}:DV H x d->xq H xs ds->xq H (x::xs) (d::ds)
end
mutual
theorem DV.same{H H':Hp}(s:av H H'):∀{x:V}{d:PyData},DV H x d->DV H' x d
 |_,_,.fP=> .fP
 |_,_,.bl b=> .bl b
 |_,_,.int i=> .int i
 |_,_,.str x=> .str x
 |_,_,.lst e q=> .lst (s _ _ e) (xq.same s q)
 |_,_,.tup e q=> .tup (s _ _ e) (xq.same s q)
theorem xq.same{H H':Hp}(s:av H H'):∀{xs:List V}{ds:List PyData},xq H xs ds->xq H' xs ds
 |_,_,.nil=> .nil
 |_,_,.cons a q=> .cons (DV.same s a) (xq.same s q)
end
theorem xq.length{H:Hp}:∀{xs:List V}{ds:List PyData},xq H xs ds->xs.length=ds.length
 |_,_,.nil=>rfl
 |_,_,.cons _ q=>congrArg (· +1) (xq.length q)
theorem xq.get{H:Hp}:∀{xs:List V}{ds:List PyData}{i:Nat}{x:V},xq H xs ds->xs[i]?=some x-> ∃d,ds[i]?=some d/\DV H x d
 |_,_,0,_,.cons a q,e=>by cases e;exact⟨_,rfl,a⟩
 |_,_,i+1,_,.cons a q,e=>xq.get (i:=i) q (by simpa using e)
def sZ:PyData->Bool
 | .int _=>true
 |_=>false
def qO:PyData->Bool
 | .list ds=>ds.length==3 && ds.all sZ
 |_=>false
def uE:PyData->Bool
 | .list ds=>ds.length==3 && ds.all qO
 |_=>false
theorem Eg(K:PySem.W.Frag):PySem.W.kitOne K (.type "NoneType") (.type "int")=some false:=by kernel_rfl
theorem Eh(K:PySem.W.Frag):PySem.W.kitOne K (.type "str") (.type "int")=some false:=by kernel_rfl
theorem Ci(K:PySem.W.Frag):PySem.W.kitOne K (.type "list") (.type "int")=some false:=by kernel_rfl
theorem Ei(K:PySem.W.Frag):PySem.W.kitOne K (.type "tuple") (.type "int")=some false:=by kernel_rfl
theorem Cj(K:PySem.W.Frag):PySem.W.kitOne K (.type "bool") (.type "int")=some true:=by kernel_rfl
theorem Ck(K:PySem.W.Frag):PySem.W.kitOne K (.type "NoneType") (.type "list")=some false:=by kernel_rfl
theorem Cm(K:PySem.W.Frag):PySem.W.kitOne K (.type "str") (.type "list")=some false:=by kernel_rfl
theorem Cn(K:PySem.W.Frag):PySem.W.kitOne K (.type "int") (.type "list")=some false:=by kernel_rfl
theorem As(K:PySem.W.Frag):PySem.W.kitOne K (.type "bool") (.type "list")=some false:=by kernel_rfl
theorem Co(K:PySem.W.Frag):PySem.W.kitOne K (.type "tuple") (.type "list")=some false:=by kernel_rfl
theorem DV.Nv(K:PySem.W.Frag){H:Hp}{x:V}{d:PyData}(h:DV H x d)(hn:∀ds,d≠ .list ds):∃t,uv K H x t/\PySem.W.kitOne K t (.type "list")=some false:=by
 cases h with
 |fP=>exact⟨_,.fP,Ck K⟩
 |bl b=>exact⟨_,.bl b,As K⟩
 |int i=>exact⟨_,.int i,Cn K⟩
 |str s=>exact⟨_,.str s,Cm K⟩
 |lst e _=>exact absurd rfl (hn _)
 |tup e _=>exact⟨_,.tup e,Co K⟩
theorem Nx{H:Hp}:∀r:List Int,xq H (r.map V.int) (r.map PyData.int)
 | []=> .nil
 |x::r=> .cons (.int x) (Nx r)
theorem RN{H:Hp}{m:List (List Int)}{bs:List Addr}(pr:Paired (λrow b=>H b=some (.lst (row.map V.int))) m bs):xq H (bs.map V.ref) (m.map jN):=by
 induction pr with
 |nil=>exact .nil
 |cons a _ ih=>exact .cons (.lst a (Nx _)) ih
theorem Ny{H:Hp}{t:Addr}{bs:List Addr}{m:List (List Int)}(h:Tab H t bs m):DV H (.ref t) (qH m):= .lst h.1 (RN h.2)
theorem Nz(r:List Int)(h:r.length=3):qO (jN r)=true:=by
 simp[qO,h,sZ]
theorem Ej{m:List (List Int)}(h:cu m):uE (qH m)=true:=by
 unfold uE qH
 simp only[List.length_map,h.1,BEq.rfl,Bool.true_and,List.all_map,List.all_eq_true]
 intro r hr
 exact Nz r (h.2 r hr)
theorem NB{ds:List PyData}{f:PyData->Bool}{b:Bool}{n:Nat}(hn:n=ds.length)(h:b=true↔ ∀j,j<n->(match ds[j]? with|some d=>f d|none=>true)=true):b=ds.all f:=by
 have e:(ds.all f=true)↔ ∀j,j<n->(match ds[j]? with|some d=>f d|none=>true)=true:=by
  rw[List.all_eq_true]
  constructor
  ·intro q j hj
   rw[hn]at hj
   rw[List.getElem?_eq_getElem hj]
   exact q _ (List.getElem_mem hj)
  ·intro q d hd
   obtain⟨j,hj,e⟩:=List.mem_iff_getElem.mp hd
   have:=q j (by rw[hn];exact hj)
   rw[List.getElem?_eq_getElem hj,e]at this
   exact this
 cases b with
 |true=>exact(e.mpr (h.mp rfl)).symm
 |false=>
  cases e2:ds.all f with
  |false=>rfl
  |true=>exact absurd (h.mpr (e.mp e2)) (by decide)
theorem uF{m:List (List Int)}(c:cu m):cC m↔m=dN m/\ ∀j,j<3->ent m j j%2=0:=by
 constructor
 ·intro h
  refine⟨(jS h c).symm,λj hj=> ?_⟩
  obtain⟨_,a,b,d,p1,p2,p3⟩:=h
  rcases aG hj with rfl|rfl|rfl<;>omega
 ·rintro⟨h,e⟩
  have e0:=e 0 (by decide)
  have e1:=e 1 (by decide)
  have e2:=e 2 (by decide)
  exact⟨⟨gX h.symm (i:=0) (j:=1) (by decide) (by decide),gX h.symm (i:=0) (j:=2) (by decide) (by decide),gX h.symm (i:=1) (j:=2) (by decide) (by decide)⟩,ent m 0 0/2,ent m 1 1/2,ent m 2 2/2,by omega,by omega,by omega⟩
theorem GC{J:It}{H1:Hp}{xs:List V}{σ:St}{te:TE}{Q:VK}(jw:JW J H1 xs)(hz:xs.length<=sizeLine){D:Addr}(hD:H1 D=none)(f:V->HO)
  (hs:∀x∈xs,∀H' (Q':VK),av H1 H'->(∀b H2,H' b=none->av H' H2->H2 b=some (f x) ->Q' (.ref b) H2) ->te (some x::σ) H' Q')
  (hq:∀bs H',av H1 H'->H' D=some (.lst (bs.map V.ref)) ->(∀b∈bs,H1 b=none) ->D∉bs->bs.Nodup->Paired (λx b=>H' b=some (f x)) xs bs->Q (.ref D) H'):
  qF 1 (dX 0) te σ J H1 D Q:=by
 refine xV jw hz hD (λpre acc H'=> ∃bs:List Addr,acc=bs.map V.ref/\(∀b∈bs,H1 b=none/\H' b≠none)/\D∉bs/\bs.Nodup/\Paired (λx b=>H' b=some (f x)) pre bs) ⟨[],rfl,λ_ h=>(nomatch h),by simp,List.nodup_nil,.nil⟩ (λpre x post acc H' Q' e hl sm eD p k=> ?_) (λacc H' hl sm eD p=> ?_)
 ·obtain⟨bs,rfl,fr,nD,nn,pr⟩:=p
  refine hs x (by rw[e];simp) H' _ sm λb H2 hb s2 eb=> ?_
  have nb:b≠D:=λz=>by rw[z,eD]at hb;cases hb
  refine k _ _ s2 ⟨bs++ [b],by simp,?_,?_,?_,?_⟩
  ·intro c hc
   rcases List.mem_append.mp hc with z|z
   ·refine⟨(fr c z).1,λy=> ?_⟩
    rw[aH (λw=>nD (by rw[<-w];exact z))]at y
    exact(fr c z).2 (s2.none y)
   ·rw[List.mem_singleton.mp z]
    refine⟨sm.none hb,λy=> ?_⟩
    rw[aH nb,eb]at y
    cases y
  ·intro z
   rcases List.mem_append.mp z with z|z
   ·exact nD z
   ·exact nb (List.mem_singleton.mp z).symm
  ·rw[List.nodup_append]
   refine⟨nn,by simp,λc hc d hd z=> ?_⟩
   rw[List.mem_singleton.mp hd]at z
   exact(fr c hc).2 (by rw[z];exact hb)
  ·refine Paired.snoc (pr.xC λy c hc q=> ?_) (by rw[aH nb];exact eb)
   rw[aH (λz=>nD (by rw[<-z];exact hc))]
   exact s2 _ _ q
 ·obtain⟨bs,rfl,fr,nD,nn,pr⟩:=p
  exact hq bs H' sm eD (λb hb=>(fr b hb).1) nD nn pr
theorem Ek{K:PySem.W.Frag}{H:Hp}{t:Addr}{bs:List Addr}{m:List (List Int)}{σ:St}{Q:VK}(h:Tab H t bs m)(hz:m.length<=sizeLine){D:Addr}(hD:H D=none)
  (hq:∀bs' H',av H H'->(∀b∈bs',H b=none) ->D∉bs'->bs'.Nodup->Tab H' D bs' m->Q (.ref D) H'):qF 1 (dX 0) (QS (BY K) (eE (aY 0) lS)) σ (YL K t) H D Q:=by
 refine GC (dM (aV.of h.1)) (by rw[List.length_map,<-h.2.length];exact hz) hD (λx=> .lst (itemsOf H id x)) (λx hx H' Q' sm k=> ?_) (λbs' H' sm eD fr nD nn pr=> ?_)
 ·obtain⟨b,rfl,hb⟩:=jy hx
  obtain⟨row,aaB,eb⟩:=qK h.2 hb
  refine⟨_,rfl,b,_,rfl,.inl (aV.of (sm _ _ eb)),λl hl=>k l _ hl (av.up hl) ?_⟩
  rw[aq,xo eb,List.map_id]
 ·refine hq bs' H' sm fr nD nn ⟨eD,?_⟩
  have:=Bo (g:=id) h.2 pr λrow b e=>by rw[xo e,List.map_id];rfl
  rwa [List.map_id]at this
theorem Br{H:Hp}{t:Addr}{bs:List Addr}{m:List (List Int)}(h:Tab H t bs m)(dD:cu m):∃a0 a1 a2,bs=[a0,a1,a2]/\H t=some (.lst [.ref a0,.ref a1,.ref a2])/\ ∀k,k<3-> ∃b,[a0,a1,a2][k]?=some b/\dR H b (ent m k):=by
 have hl3:bs.length=3:=by rw[<-h.2.length,dD.1]
 obtain⟨a0,a1,a2,rfl⟩:∃a0 a1 a2,bs=[a0,a1,a2]:=by
  match bs,hl3 with
  | [a,b,c],_=>exact⟨a,b,c,rfl⟩
 refine⟨a0,a1,a2,rfl,h.1,λk hk=> ?_⟩
 obtain⟨b,x1,x2,_⟩:=bJ h dD hk
 refine⟨b,?_,x2⟩
 rcases aG hk with rfl|rfl|rfl<;>exact congrArg some (V.ref.inj (Option.some.inj x1))
def El(m:List (List Int))(k l:Nat)(z:Int):List (List Int):=mk3 λi j=>if i=k/\j=l then z else ent m i j
theorem KC(m:List (List Int)){k l i j:Nat}(z:Int)(hi:i<3)(hj:j<3):ent (El m k l z) i j=if i=k/\j=l then z else ent m i j:=bQ _ hi hj
theorem Em{m:List (List Int)}{n:Nat}(h:Bd n m)(k l:Nat){z:Int}(hz:z.natAbs<2^n):Bd n (El m k l z):=λi j hi hj=>by
 rw[KC m z hi hj]
 split
 ·exact hz
 ·exact h i j hi hj
theorem Bs{H:Hp}{t b:Addr}{bs:List Addr}{m:List (List Int)}{k l:Nat}{z:Int}(hT:Tab H t bs m)(dD:cu m)(hk:k<3)(hl:l<3)(hn:bs.Nodup)(nt:t∉bs)(hb:Ae (bs.map V.ref) (k:Int)=some (.ref b)):
  Tab (upd H b (.lst ([V.int (ent m k 0),.int (ent m k 1),.int (ent m k 2)].set l (.int z)))) t bs (El m k l z):=by
 obtain⟨a0,a1,a2,rfl,e,rw'⟩:=Br hT dD
 simp only[List.nodup_cons,List.mem_cons,List.not_mem_nil,or_false,not_or,not_false_eq_true,List.nodup_nil,and_true]at hn nt
 obtain⟨⟨n01,n02⟩,n12⟩:=hn
 obtain⟨t0,t1,t2⟩:=nt
 obtain⟨_,q0,x2⟩:=rw' 0 (by decide)
 obtain⟨_,q1,y2⟩:=rw' 1 (by decide)
 obtain⟨_,q2,w2⟩:=rw' 2 (by decide)
 cases q0
 cases q1
 cases q2
 rcases aG hk with rfl|rfl|rfl
 ·obtain rfl:a0=b:=V.ref.inj (Option.some.inj hb)
  rcases aG hl with rfl|rfl|rfl<;>exact gk _ (by rw[aH t0];exact e) aq (by rw[aH (Ne.symm n01)];exact y2) (by rw[aH (Ne.symm n02)];exact w2)
 ·obtain rfl:a1=b:=V.ref.inj (Option.some.inj hb)
  rcases aG hl with rfl|rfl|rfl<;>exact gk _ (by rw[aH t1];exact e) (by rw[aH n01];exact x2) aq (by rw[aH (Ne.symm n12)];exact w2)
 ·obtain rfl:a2=b:=V.ref.inj (Option.some.inj hb)
  rcases aG hl with rfl|rfl|rfl<;>exact gk _ (by rw[aH t2];exact e) (by rw[aH n02];exact x2) (by rw[aH n12];exact y2) aq
theorem qo{H:Hp}{b:Addr}{x:Nat->Int}(h:dR H b x):DV H (.ref b) (.list [.int (x 0),.int (x 1),.int (x 2)]):= .lst h (.cons (.int _) (.cons (.int _) (.cons (.int _) .nil)))
theorem NC{X:Cx}:Xh X (λo i H Q=> ∃(p:Addr)(xs:List V)(k:Nat)(v:V),o= .ref p/\i= .int (k:Int)/\aV X.K H p xs/\xs[k]?=some v/\Q v H):=by
 intro pins s σ H o i ov iv Q I ro ri h
 obtain⟨p,xs,k,v,rfl,rfl,hq,he,q⟩:=h
 cases ro
 obtain⟨t,rfl⟩:=ri
 obtain⟨its,r,pl,hz⟩:=I.list hq
 obtain⟨w,ew,rw'⟩:=r.get he
 have hl:=r.length
 have hk:k<xs.length:=(List.getElem?_eq_some_iff.mp he).1
 have hn:=vI
 exact wpAny_getItem_list pl.isList (by omega) (by omega) (by simpa using ew) ⟨v,H,I,rw',q⟩
section
variable{X:Cx}
theorem GD{j pos}:FE X (.Constant .none j pos) (tC .fP):=⟨vH⟩
theorem Uz{b j pos}:FE X (.Constant (.bool b) j pos) (tC (.bl b)):=⟨sH⟩
theorem GF{x j pos}:FE X (.Constant (.str x) j pos) (tC (.str x)):=⟨gm⟩
theorem ND{es:List Expr}{t:TA}{k:Nat}{pos:Pos}(h:FA X es t):FE X (.Tuple es k pos) (Xp t):=⟨sS h.h⟩
theorem NF{r:R2}{e i:Expr}{te ti:TE}{pos:Pos}(hr:YM X r)(he:FE X e te)(hi:PE X i ti)(hs:∀v u,subscripted i false v u=operate [v,u] (getItem v u)):FE X (.Subscript e i pos) (fY r te ti):=⟨aJ hr he.h hi hs⟩
theorem cy:Jb X [] Ul:=⟨Rf⟩
theorem VB{tg e:Expr}{te:TE}{g:TG}{pos:Pos}{b:List Stmt}{tb:TS}(he:FE X e te)(hg:PG X tg g)(hs:swapsWithSole [tg] e pos.line X.env=pure false)(hw:swappedStores [tg] e X.env=pure none)
  (h1:(assignEach [tg] X.env).map (·.2)=[assign tg X.env])(hb:Jb X b tb):Jb X (.Assign [tg] e pos::b) (Rc (BL te g) tb):=ay (ju he.h hg hs hw h1) hb
end
theorem bI{X:Cx}{c:Expr}{a b:List Stmt}{tc:TT}{t u:TS}{pos:Pos}(hc:PT X c tc)(ha:Jb X a t)(hb:Jb X b u):PS X (.If c a b pos) (Xa tc t u):=Xb hc ha.h hb.h
theorem yD{J:It}{xs:List V}{H1:Hp}{σ:St}{te:TE}{Q:VK}{D:Addr}(jw:JW J H1 xs)(h3:xs.length=3)(hD:H1 D=none)(g:Nat->Nat->Int)
  (hs:∀i x,i<3->xs[i]?=some x-> ∀H' (Q':VK),av H1 H'->(∀b H2,H' b=none->av H' H2->H2 b=some (.lst [.int (g i 0),.int (g i 1),.int (g i 2)]) ->Q' (.ref b) H2) ->te (some x::σ) H' Q')
  (hq:∀bs H',av H1 H'->(∀b∈bs,H1 b=none) ->D∉bs->bs.Nodup->Tab H' D bs (mk3 g) ->Q (.ref D) H'):qF 1 (dX 0) te σ J H1 D Q:=by
 refine xV jw (by rw[h3];decide) hD (λpre acc H'=> ∃bs:List Addr,acc=bs.map V.ref/\(∀b∈bs,H1 b=none/\H' b≠none)/\D∉bs/\bs.Nodup/\Paired (λi b=>H' b=some (.lst [.int (g i 0),.int (g i 1),.int (g i 2)])) (List.range pre.length) bs) ⟨[],rfl,λ_ h=>(nomatch h),by simp,List.nodup_nil,.nil⟩ (λpre x post acc H' Q' e hl sm eD p k=> ?_) (λacc H' hl sm eD p=> ?_)
 ·obtain⟨bs,rfl,fr,nD,nn,pr⟩:=p
  have hlen:pre.length<3:=by
   have:=congrArg List.length e
   rw[h3]at this
   simp at this
   omega
  refine hs pre.length x hlen (by rw[e];simp) H' _ sm λb H2 hb s2 eb=> ?_
  have nb:b≠D:=λz=>by rw[z,eD]at hb;cases hb
  refine k _ _ s2 ⟨bs++ [b],by simp,?_,?_,?_,?_⟩
  ·intro c hc
   rcases List.mem_append.mp hc with z|z
   ·refine⟨(fr c z).1,λy=> ?_⟩
    rw[aH (λw=>nD (by rw[<-w];exact z))]at y
    exact(fr c z).2 (s2.none y)
   ·rw[List.mem_singleton.mp z]
    refine⟨sm.none hb,λy=> ?_⟩
    rw[aH nb,eb]at y
    cases y
  ·intro z
   rcases List.mem_append.mp z with z|z
   ·exact nD z
   ·exact nb (List.mem_singleton.mp z).symm
  ·rw[List.nodup_append]
   refine⟨nn,by simp,λc hc d hd z=> ?_⟩
   rw[List.mem_singleton.mp hd]at z
   exact(fr c hc).2 (by rw[z];exact hb)
  ·have er:List.range (pre++ [x]).length=List.range pre.length++ [pre.length]:=by simp[List.range_succ]
   rw[er]
   refine Paired.snoc (pr.xC λy c hc q=> ?_) (by rw[aH nb];exact eb)
   rw[aH (λz=>nD (by rw[<-z];exact hc))]
   exact s2 _ _ q
 ·obtain⟨bs,rfl,fr,nD,nn,pr⟩:=p
  refine hq bs H' sm (λb hb=>(fr b hb).1) nD nn ⟨eD,?_⟩
  rw[h3]at pr
  have pr':Paired (λi b=>H' b=some (.lst [.int (g i 0),.int (g i 1),.int (g i 2)])) [0,1,2] bs:=pr
  cases pr' with
  |cons h0 t0=>cases t0 with
   |cons h1 t1=>cases t1 with
    |cons h2 t2=>
     cases t2
     exact .cons h0 (.cons h1 (.cons h2 .nil))
theorem yE{c:Bool}{K:St->Hp->Prop}{A:Prop}{σ:St}{H:Hp}(P:St->Hp->Prop)(hK:∀σ' H',P σ' H'->K σ' H')(hA:c=true->(∀σ' H',P σ' H'->K σ' H') ->A)(hB:P σ H):if c=true then A else K σ H:=by
 cases c with
 |true=>exact mQ (hA rfl hK)
 |false=>exact iO (hK _ _ hB)
theorem En(elt target iter c:Expr)(scope:Scope)(pos:Pos)(it acc:Value)(env:Env):
  compTurn (.ListComp elt [⟨target,iter,[c],0⟩] scope pos) 0 it acc env=(standAt iter.pos>>=λ_=>pyNext it>>=λr=>match r with
   |none=>pure (.done .next)
   |some v=>letOwnedTupleGo target it v>>=λ_=>assign target env v>>=λ_=>
    (forIn [c] true λc r=>if r=true then(do let ok<-isTrue c env (eval c env);pure (ForInStep.yield ok))else pure (ForInStep.yield r))>>=λok=>
     if ok=true then(eval elt env>>=λx=>call (.builtin "list.append") [acc,x]>>=λ_=>pure ())>>=λ_=>again (.compLoop (.ListComp elt [⟨target,iter,[c],0⟩] scope pos) 0 it acc env)
     else again (.compLoop (.ListComp elt [⟨target,iter,[c],0⟩] scope pos) 0 it acc env)):=by rfl
section
variable{prog:Program}{w:World}{A:Around}{R:Result->Shared->Prop}{s:Shared}
theorem su{elt target iter c:Expr}{scope:Scope}{pos:Pos}{it acc:Value}{env:Env}(I:Nat->Shared->Prop)
  (turn:∀n s,I n s->wpAny (model prog w) A (pyNext it) (λr s₁=>match r with
   |none=>R (.ok .next) s₁
   |some v=>wpAny (model prog w) A (letOwnedTupleGo target it v) (λ_ s₁'=>wpAny (model prog w) A (assign target env v) (λ_ s₂=>wpAny (model prog w) A (isTrue c env (eval c env)) (λok s₂'=>
     if ok=true then wpAny (model prog w) A (eval elt env) (λx s₃=>wpAny (model prog w) A (call (.builtin "list.append") [acc,x]) (λ_ s₄=> ∃m,m<n/\I m s₄) (λ_ _=>False) s₃) (λ_ _=>False) s₂'
     else ∃m,m<n/\I m s₂') (λ_ _=>False) s₂) (λ_ _=>False) s₁') (λ_ _=>False) s₁) (λ_ _=>False) s)
  (n:Nat)(h:I n s):
  codeAny (model prog w) A (.compLoop (.ListComp elt [⟨target,iter,[c],0⟩] scope pos) 0 it acc env) R s:=by
 refine codeAny_loop rfl I (λn s hI=> ?_) n h
 show wpAny _ _ ((compTurn (.ListComp elt [⟨target,iter,[c],0⟩] scope pos) 0 it acc env).onRaise (λx=>do noteFrame x env;theTreesLotGoes x)) _ _ s
 refine wpAny_noted ?_
 rw[En]
 refine wpAny_bind (wpAny_standAt (wpAny_bind (wpAny_mono (turn n s hI) (λr s₁ h₁=> ?_) λ_ _ h'=>h'.elim)))
 cases r with
 |none=>exact wpAny_pure h₁
 |some v=>
  refine wpAny_bind (wpAny_mono h₁ (λ_ s₁' h₁'=>wpAny_bind (wpAny_mono h₁' (λ_ s₂ h₂=> ?_) λ_ _ h'=>h'.elim)) λ_ _ h'=>h'.elim)
  refine wpAny_bind ?_
  simp only[List.forIn_cons,List.forIn_nil,if_true]
  refine wpAny_bind (wpAny_bind (wpAny_mono h₂ (λok s₂' h₂'=>wpAny_pure (wpAny_pure ?_)) λ_ _ h'=>h'.elim))
  cases ok with
  |true=>
   rw[if_pos rfl]at h₂'
   show wpAny _ _ _ _ _ _
   refine wpAny_bind (wpAny_bind (wpAny_mono h₂' (λx s₃ h₃=>wpAny_bind (wpAny_mono h₃ (λ_ s₄ h₄=>wpAny_pure (wpAny_pure ⟨rfl,h₄⟩)) λ_ _ h'=>h'.elim)) λ_ _ h'=>h'.elim))
  |false=>
   rw[if_neg Bool.false_ne_true]at h₂'
   exact wpAny_pure ⟨rfl,h₂'⟩
end
def Je(k:Nat)(g:TG)(tt:TT)(te:TE)(σ:St)(J:It)(H1:Hp)(D:Addr)(Q:VK):Prop:=∃W:Nat->Nat->List V->St->Hp->Prop,(∃m,W 0 m [] (List.replicate k none++σ) (upd H1 D (.lst [])))/\
 ∀i m acc σ' H',W i m acc σ' H'->(J.stop i H'/\H' D=some (.lst acc)/\Q (.ref D) H')∨
  (J.go i H'/\acc.length<sizeLine/\ ∀x H2,J.Ba i H' x H2->g x σ' H2 λσ3 H3=>tt σ3 H3 λb H4=>if b=true then te σ3 H4 λv H5=>H5 D=some (.lst acc)/\ ∃m',m'<m/\W (i+1) m' (acc++ [v]) σ3 (upd H5 D (.lst (acc++ [v])))else ∃m',m'<m/\W (i+1) m' acc σ3 H4)
def yF(k:Nat)(wi:TI)(g:TG)(tt:TT)(te:TE):TE:=λσ H Q=>wi σ H λJ H1=> ∀D,H1 D=none->Je k g tt te σ J H1 D Q
section
variable{X:Cx}{sc:Scope}{own N2:List Str}
theorem xr{elt iter tg c:Expr}{pos Vh:Pos}{wi:TI}{g:TG}{tt:TT}{te:TE}{use:Option (Value->Sem Unit)}{Qf:Value->Shared->Prop}(hc:X.calm=true)(hi:PI X tg iter wi)(B:uh sc.names X.env.scope.names own N2 X.N)(hk:sc.kind= .function)
  (hg:∀s H fp,PG (X.comp sc (own++N2) s H fp) tg g)(ht:∀s H fp,PT (X.comp sc (own++N2) s H fp) c tt)(he:∀s H fp,PE (X.comp sc (own++N2) s H fp) elt te)
  (hs:∀x,foldedSetIterable iter X.env x=pure x){pins:List (Addr×Obj)}{s0:Shared}{σ:St}{H0:Hp}{Q:VK}(I0:Inv X pins σ H0 s0)(h0:yF own.length wi g tt te σ H0 Q)
  (Vi:∀s H fp,Inv X pins σ H s->(∀b∈fp,gn X pins H b) -> ∀(σ':St)(H':Hp)(s':Shared),Inv (X.comp sc (own++N2) s H fp) [] σ' H' s'->Q (.ref s.heap.objs.size) H'->
   compPost (model X.prog X.w) X.A X.xe use Qf (.ref s.heap.objs.size) (s.heap.objs.size+1) (.ok .next) s'):
  wpAny (model X.prog X.w) X.A (comprehension (.ListComp elt [⟨tg,iter,[c],0⟩] sc pos) sc X.env Vh (newList []) false (eval iter X.env) use) Qf X.xe s0:=by
 refine wpAny_comprehension_free (use:=use) rfl hs (ux I0 B) hk (λy hy hl=>c6 B.nd (by rw[<-hl];exact hy)) ?_
 refine wpAny_mono (hi pins s0 σ H0 _ I0 h0) (λv s1 h1=>wpAny_mono h1 (λitv s h2=> ?_) λ_ _ e=>e) λ_ _ e=>e
 obtain⟨it,fp,tn,J,H,e,I,T,st,hf,rd⟩:=h2
 subst e
 have ho:∀b∈fp,∃o,s.heap.get? b=some o:=λb hb=>let⟨o,e,_⟩:=T.obj 0 _ st b hb;⟨o,e⟩
 obtain⟨W,⟨m0,w0⟩,turn⟩:=rd s.heap.objs.size I.fresh
 refine wpAny_newObj_type ?_
 refine mU ?_
 have IB:=DR I B hk hf ho
 have Vj:∀{H':Hp},(∀b∈fp,H' b=none) -> ∀b∈fp,gn (X.comp sc (own++N2) s H fp) [] H' b:=λhn b hb=>by
  have ok:=IB.ok
  refine⟨hn b hb,(ok.MC b hb).1,ok.Aj b hb,.inl hb,λy c hc=>(ok.MC b hb).2 y c hc,λp hp=> ?_⟩
  have Af:p∈([]:List (Addr×Obj)):=hp
  cases Af
 have lt:∀b∈fp,b≠s.heap.objs.size:=λb hb=>let⟨o,e⟩:=ho b hb;Nat.ne_of_lt (Heap.lt_size e)
 have fin:=Vi s H fp I hf
 have loop:∀s3:Shared,s3={s with heap:=pushCells ((s.heap.push {cls:= .type "list",dict:=none,data:= .seq ([]:List Value).toArray}).push {cls:= .type "dict",data:= .dict #[]}) sc.names} ->
   codeAny (model X.prog X.w) X.A (.compLoop (.ListComp elt [⟨tg,iter,[c],0⟩] sc pos) 0 (.ref it) (.ref s.heap.objs.size) (X.comp sc (own++N2) s H fp).env)
    (compPost (model X.prog X.w) X.A X.xe use Qf (.ref s.heap.objs.size) (s.heap.objs.size+1)) s3:=by
  rintro s3 rfl
  refine su (λn s'=> ∃i acc σ' H',Inv (X.comp sc (own++N2) s H fp) [] σ' H' s'/\tn i s'.heap/\(∀b∈fp,H' b=none)/\W i n acc σ' H') ?_ m0
   ⟨0,[],_,_,IB,T.keep _ _ _ st λb _ o e=>pushCells_keeps _ _ b o (Heap.get?_push_of_some _ (Heap.get?_push_of_some _ e)),λb hb=> ?_,w0⟩
  ·rintro n s3 ⟨i,acc,σ3,H3,I3,st3,QO,w3⟩
   rcases turn i n acc σ3 H3 w3 with⟨stop,hD,qn⟩|⟨go,hz,step⟩
   ·refine gj (T.done (X.comp sc (own++N2) s H fp) rfl rfl rfl hc i [] s3 σ3 H3 _ I3 (Vj QO) st3 stop) λr s4 ⟨hr,I4⟩=> ?_
    subst hr
    exact fin σ3 H3 s4 I4 qn
   ·refine gj (T.item (X.comp sc (own++N2) s H fp) rfl rfl rfl hc i [] s3 σ3 H3 _ I3 (Vj QO) st3 go) λr s4 ⟨u,hr,h4⟩=> ?_
    subst hr
    refine gj h4 λ_ s5 ⟨x,H5,I5,r5,y5,JT,Xj⟩=> ?_
    have Xk:=I5.pinned (Vj Xj) (T.obj _ _ JT)
    refine gj (hg s H fp _ s5 σ3 H5 x u _ Xk r5 (step x H5 y5)) λ_ s6 ⟨MM,H6,I6,q6⟩=> ?_
    refine gj (ht s H fp _ s6 MM H6 _ I6 q6) λok s6' ⟨H6',YW,YX⟩=> ?_
    cases ok with
    |false=>
     rw[if_neg Bool.false_ne_true]at YX ⊢
     obtain⟨m',hm',w7⟩:=YX
     refine⟨m',hm',i+1,acc,MM,_,YW.jv,T.keep _ _ _ JT λb hb o e=>(YW.pin (b,o) (List.mem_append_right _ (List.mem_append_right _ (bU hb e)))).1,λb hb=> ?_,w7⟩
     obtain⟨o,e,d⟩:=T.obj _ _ JT b hb
     exact(YW.pin (b,o) (List.mem_append_right _ (List.mem_append_right _ (bU hb e)))).2.1
    |true=>
    rw[if_pos rfl]at YX ⊢
    refine gj (he s H fp _ s6' MM H6' _ YW YX) λv s7 ⟨y,H7,I7,r7,Wz,m',hm',w7⟩=> ?_
    refine gj (jQ _ s7 MM H7 (.ref s.heap.objs.size) [y] (.ref s.heap.objs.size) [v] (λz H8=>z= .fP/\H8=upd H7 s.heap.objs.size (.lst (acc++ [y]))) I7 rfl (.cons r7 .nil) ⟨s.heap.objs.size,acc,y,rfl,rfl,Wz,hz,rfl,rfl⟩) λz s8 ⟨zz,H8,I8,_,_,e8⟩=> ?_
    subst e8
    refine⟨m',hm',i+1,acc++ [y],MM,_,I8.jv,T.keep _ _ _ JT λb hb o e=>(I8.pin (b,o) (List.mem_append_right _ (List.mem_append_right _ (bU hb e)))).1,λb hb=> ?_,w7⟩
    obtain⟨o,e,d⟩:=T.obj _ _ JT b hb
    exact(I8.pin (b,o) (List.mem_append_right _ (List.mem_append_right _ (bU hb e)))).2.1
  ·rw[aH (lt b hb)]
   exact(hf b hb).1
 have e1:(s.heap.push {cls:= .type "list",dict:=none,data:= .seq ([]:List Value).toArray}).objs.size=s.heap.objs.size+1:=Heap.size_push ..
 dsimp only
 rw[e1]
 exact codeAny_compStart_list (loop _ rfl) (T.self _ 0 _ _ _ (T.keep _ _ _ st λb _ o e=>pushCells_keeps _ _ b o (Heap.get?_push_of_some _ (Heap.get?_push_of_some _ e))) (loop _ rfl))
theorem KD{elt iter tg c:Expr}{pos:Pos}{wi:TI}{g:TG}{tt:TT}{te:TE}(hc:X.calm=true)(hi:PI X tg iter wi)(B:uh sc.names X.env.scope.names own N2 X.N)(hk:sc.kind= .function)
  (hg:∀s H fp,PG (X.comp sc (own++N2) s H fp) tg g)(ht:∀s H fp,PT (X.comp sc (own++N2) s H fp) c tt)(he:∀s H fp,PE (X.comp sc (own++N2) s H fp) elt te)
  (hs:∀x,foldedSetIterable iter X.env x=pure x:=by intro _;rfl):PE X (.ListComp elt [⟨tg,iter,[c],0⟩] sc pos) (yF own.length wi g tt te):=by
 intro pins s0 σ H0 Q I0 h0
 rw[eval_ListComp]
 refine xr (use:=none) hc hi B hk hg ht he hs I0 h0 λs H fp I hf σ' H' s' JB q=> ?_
 obtain⟨m,hn,_⟩:=JB.loc
 exact⟨m,hn,λh' sb=>⟨.ref s.heap.objs.size,H',I.IP (I.BS hf JB) JB.free sb,rfl,q⟩⟩
theorem KG{i:Nat}{y:Str}{py spos:Pos}{elt iter tg c:Expr}{pos:Pos}{wi:TI}{g:TG}{tt:TT}{te:TE}(hN:X.N.Nodup)(hi':X.N[i]?=some y)(hy:X.env.scope.names.lookup y=some .local)(hc:X.calm=true)(hi:PI X tg iter wi)(B:uh sc.names X.env.scope.names own N2 X.N)(hk:sc.kind= .function)
  (hg:∀s H fp,PG (X.comp sc (own++N2) s H fp) tg g)(ht:∀s H fp,PT (X.comp sc (own++N2) s H fp) c tt)(he:∀s H fp,PE (X.comp sc (own++N2) s H fp) elt te)
  (hsw:swapsWith (.ListComp elt [⟨tg,iter,[c],0⟩] sc pos) (some (.Name y py)) spos.line X.env=pure true:=by rfl)(hs:∀x,foldedSetIterable iter X.env x=pure x:=by intro _;rfl):
  PS X (.Assign [.Name y py] (.ListComp elt [⟨tg,iter,[c],0⟩] sc pos) spos) (BL (yF own.length wi g tt te) (dX i)):=by
 intro pins s0 σ H0 D I0 h0
 rw[exec_Assign_Name_used _ _ _ _ hsw]
 refine wpAny_bind (wpAny_standAt (wpAny_bind ?_))
 show wpAny _ X.A (do let _<-comprehension (.ListComp elt [⟨tg,iter,[c],0⟩] sc pos) sc X.env _ (newList []) false (eval iter X.env) (some (assign (.Name y py) X.env))) _ _ s0
 refine wpAny_bind (wpAny_mono (xr (use:=some (assign (.Name y py) X.env)) (Qf:=λ_ s'=>SP X pins D .next s') hc hi B hk hg ht he hs I0 h0 λs H fp I hf σ' H' s' JB q=> ?_) (λ_ s' hq=>wpAny_pure (wpAny_pure hq)) λ_ _ e=>e)
 have IX:=I.BS hf JB
 refine wpAny_assign_Name (vG IX hN hi' (.inl hy) (v:= .ref s.heap.objs.size) rfl (λs2 I2 ⟨a,WA,ha⟩=> ?_) (.inr hy))
 obtain⟨m,hn,_⟩:=JB.loc
 have ea:a=X.env.locals∨a<s.heap.objs.size:=by
  rcases ha with z|z
  ·exact .inl z
  ·obtain⟨v,w⟩:=I.cell y a z
   exact .inr w.lt
 have Uk:s.heap.objs.size+1≠a:=by
  rcases ea with z|z
  ·rw[z];exact Nat.ne_of_gt (Nat.lt_succ_of_lt I.lt)
  ·exact Nat.ne_of_gt (Nat.lt_succ_of_lt z)
 refine⟨m,hn.sameBut WA Uk,λh' sb=>⟨_,H',I.IP I2 JB.free sb,q⟩⟩
end
section
variable{X:Cx}{sc:Scope}{N2:List Str}{x:Str}{px:Pos}{elt iter c:Expr}{pos:Pos}{wi:TI}{tt:TT}{te:TE}
theorem rY(hc:X.calm=true)(hi:PI X (.Name x px) iter wi)(hB:BQ sc.names X.env.scope.names [x] N2 X.N=true)(hk:sc.kind= .function)(ht:∀s H fp,PT (X.comp sc ([x]++N2) s H fp) c tt)(he:∀s H fp,PE (X.comp sc ([x]++N2) s H fp) elt te)
  (hs:∀x,foldedSetIterable iter X.env x=pure x:=by intro _;rfl):PE X (.ListComp elt [⟨.Name x px,iter,[c],0⟩] sc pos) (yF 1 wi (dX 0) tt te):=
 KD (own:=[x]) hc hi (kI hB) hk (λs H fp=>xW (kI hB) s H fp) ht he hs
theorem mX{i:Nat}{y:Str}{py spos:Pos}(hN:X.N.Nodup)(hi':X.N[i]?=some y)(hy:X.env.scope.names.lookup y=some .local)(hc:X.calm=true)(hi:PI X (.Name x px) iter wi)(hB:BQ sc.names X.env.scope.names [x] N2 X.N=true)(hk:sc.kind= .function)(ht:∀s H fp,PT (X.comp sc ([x]++N2) s H fp) c tt)(he:∀s H fp,PE (X.comp sc ([x]++N2) s H fp) elt te)
  (hsw:swapsWith (.ListComp elt [⟨.Name x px,iter,[c],0⟩] sc pos) (some (.Name y py)) spos.line X.env=pure true:=by rfl)(hs:∀x,foldedSetIterable iter X.env x=pure x:=by intro _;rfl):
  PS X (.Assign [.Name y py] (.ListComp elt [⟨.Name x px,iter,[c],0⟩] sc pos) spos) (BL (yF 1 wi (dX 0) tt te) (dX i)):=
 KG (own:=[x]) hN hi' hy hc hi (kI hB) hk (λs H fp=>xW (kI hB) s H fp) ht he hsw hs
end
theorem dj{J:It}{H1:Hp}{xs:List V}{σ:St}{tt:TT}{te:TE}{Q:VK}(jw:JW J H1 xs)(hz:xs.length<=sizeLine){D:Addr}(hD:H1 D=none)(p:V->Bool)(f:V->V)
  (ht:∀x∈xs,∀H' (R:Bool->Hp->Prop),av H1 H'->(∀H2,av H' H2->R (p x) H2) ->tt (some x::σ) H' R)
  (hs:∀x∈xs,p x=true-> ∀H' (Q':VK),av H1 H'->(∀H2,av H' H2->Q' (f x) H2) ->te (some x::σ) H' Q')
  (hq:∀H',av H1 H'->H' D=some (.lst ((xs.filter p).map f)) ->Q (.ref D) H'):Je 1 (dX 0) tt te σ J H1 D Q:=by
 refine⟨λi m acc σ' H'=>m=xs.length-i/\i<=xs.length/\acc=((xs.take i).filter p).map f/\(∃o,σ'=o::σ)/\av H1 H'/\H' D=some (.lst acc),⟨xs.length,rfl,Nat.zero_le _,by simp,⟨none,rfl⟩,av.up hD,aq⟩,?_⟩
 rintro i m acc σ' H' ⟨rfl,hi,rfl,⟨o,rfl⟩,sm,eD⟩
 by_cases hlt:i<xs.length
 ·refine .inr ⟨jw.go i H' sm hlt,?_,λx H2 y=> ?_⟩
  ·rw[List.length_map]
   have:=List.length_filter_le p (xs.take i)
   rw[List.length_take]at this
   omega
  ·obtain⟨e2,ex⟩:=jw.Ba i H' x H2 sm hlt y
   subst e2
   have hx:x∈xs:=List.mem_of_getElem? ex
   have tk:xs.take (i+1)=xs.take i++ [x]:=by rw[List.take_add_one,ex];rfl
   refine ht x hx H2 _ sm λH3 s3=> ?_
   cases hp:p x with
   |false=>
    rw[if_neg Bool.false_ne_true]
    exact⟨xs.length- (i+1),by omega,rfl,by omega,by rw[tk,List.filter_append];simp[hp],⟨_,rfl⟩,sm.trans s3,s3 _ _ eD⟩
   |true=>
    rw[if_pos rfl]
    refine hs x hx hp H3 _ (sm.trans s3) λH4 s4=>⟨s4 _ _ (s3 _ _ eD),xs.length- (i+1),by omega,rfl,by omega,by rw[tk,List.filter_append];simp[hp],⟨_,rfl⟩,((sm.trans s3).trans s4).upd hD,aq⟩
 ·obtain rfl:i=xs.length:=by omega
  rw[List.take_length]at eD ⊢
  exact .inl ⟨jw.stop H' sm,eD,hq H' sm eD⟩
end L2
namespace L2
theorem tu{X:Cx}{e:PySem.Expr}{t:TT}(h:PT X e t):PT X e t:=h
end L2
namespace L2
open PySem PySem.Spec PyProof.Rows
def iN(H:Hp)(B:Addr):Prop:=∃g s:Int,H B=some (.lst [.int g,.int s])/\0<=g/\0<=s
def SB(B:Addr)(H H':Hp):Prop:=(∀a o,a≠B->H a=some o->H' a=some o)/\iN H' B
theorem SB.refl{B:Addr}{H:Hp}(h:iN H B):SB B H H:=⟨λ_ _ _ e=>e,h⟩
theorem SB.trans{B:Addr}{H H' H'':Hp}(h:SB B H H')(h':SB B H' H''):SB B H H'':=⟨λa o n e=>h'.1 a o n (h.1 a o n e),h'.2⟩
theorem iN.same{H H':Hp}{B:Addr}(h:iN H B)(s:av H H'):iN H' B:=by
 obtain⟨g,t,e,r⟩:=h
 exact⟨g,t,s _ _ e,r⟩
theorem SB.of{B:Addr}{H H':Hp}(b:iN H B)(s:av H H'):SB B H H':=⟨λa o _ e=>s _ _ e,b.same s⟩
theorem SB.gone{B:Addr}{H H':Hp}(h:SB B H H'){r:Addr}(e:H' r=none):H r=none:=by
 cases q:H r with
 |none=>rfl
 |some o=>
  by_cases z:r=B
  ·obtain⟨g,t,e2,_⟩:=h.2
   rw[<-z,e]at e2
   cases e2
  ·rw[h.1 r o z q]at e
   cases e
theorem SB.ne{B:Addr}{H H':Hp}(h:SB B H H'){r:Addr}(e:H' r=none):r≠B:=λz=>by
 obtain⟨g,t,e2,_⟩:=h.2
 rw[<-z,e]at e2
 cases e2
theorem iN.ne{H:Hp}{B r:Addr}(h:iN H B)(e:H r=none):r≠B:=(SB.refl h).ne e
theorem Tab.sb{B:Addr}{H H':Hp}{t:Addr}{bs:List Addr}{m:List (List Int)}(h:Tab H t bs m)(s:SB B H H')(nt:t≠B)(nb:B∉bs):Tab H' t bs m:=
 ⟨s.1 _ _ nt h.1,h.2.xC λr b hb e=>s.1 _ _ (λz=>nb (by rw[<-z];exact hb)) e⟩
theorem NG{B:Addr}{H:Hp}{g s:Int}(hg:0<=g)(hs:0<=s):SB B H (upd H B (.lst [.int g,.int s])):=
 ⟨λa o n e=>by rw[aH n];exact e,g,s,aq,hg,hs⟩
end L2
namespace L2
theorem log2_small{z:Int}(h0:0<=z)(h:z<2^60):z.natAbs.log2<9000:=by
 by_cases hz:z.natAbs=0
 ·rw[hz];decide
 ·have:z.natAbs<2^60:=by omega
  exact Nat.lt_trans ((Nat.log2_lt hz).mpr this) (by decide)
end L2
namespace L2
open PySem PySem.Spec PyProof.Rows
theorem NH(m:List (List Int)){i j:Nat}(hi:i<3)(hj:j<3)(hij:i≠j):aN (Aq (Aq m i λs=>ent m j s) j λs=>0-ent m i s)=aN m:=by
 rw[cN,cN]
 simp only[dH _ _ (show 0<3 by decide) (show 0<3 by decide),dH _ _ (show 0<3 by decide) (show 1<3 by decide),dH _ _ (show 0<3 by decide) (show 2<3 by decide),dH _ _ (show 1<3 by decide) (show 0<3 by decide),dH _ _ (show 1<3 by decide) (show 1<3 by decide),dH _ _ (show 1<3 by decide) (show 2<3 by decide),dH _ _ (show 2<3 by decide) (show 0<3 by decide),dH _ _ (show 2<3 by decide) (show 1<3 by decide),dH _ _ (show 2<3 by decide) (show 2<3 by decide)]
 rcases aG hi with rfl|rfl|rfl<;>rcases aG hj with rfl|rfl|rfl<;>first|(exact absurd rfl hij)|(simp only[Nat.reduceEqDiff,if_true,if_false];grind)
theorem SB.Au{B D:Addr}{H H':Hp}{o:HO}(h:SB B H H')(f:H D=none)(n:D≠B):SB B H (upd H' D o):=by
 refine⟨λa u na e=> ?_,?_⟩
 ·rw[aH (λz=>by rw[z,f]at e;cases e)]
  exact h.1 a u na e
 ·obtain⟨g,s,e,r⟩:=h.2
  exact⟨g,s,by rw[aH (Ne.symm n)];exact e,r⟩
theorem KH{X:Cx}(hc:X.calm=true):qC X (.builtin "min") (λxs H Q=> ∃i j k,xs=[.int i,.int j,.int k]/\Q (.int (if j<i then(if k<j then k else j)else(if k<i then k else i))) H):=by
 intro pins s σ H xs us Q I r h
 obtain⟨i,j,k,rfl,q⟩:=h
 cases r with
 |cons r1 r=>cases r with
  |cons r2 r=>cases r with
   |cons r3 r=>
    cases r
    obtain⟨t1,rfl⟩:=r1
    obtain⟨t2,rfl⟩:=r2
    obtain⟨t3,rfl⟩:=r3
    refine min_three_ints (I.ok.hd hc) λh' tk kp=>⟨_,H,I.kept kp,?_,q⟩
    by_cases h1:j<i<;>by_cases h2:k<j<;>by_cases h3:k<i<;>simp only[h1,h2,h3,if_true,if_false]<;>exact⟨_,rfl⟩
theorem Eo{m:List (List Int)}(h:cC m):∃k,aN m=2*k:=by
 obtain⟨⟨s1,s2,s3⟩,a,b,c,e1,e2,e3⟩:=h
 refine⟨4*(a*b*c)+ent m 0 1*ent m 0 2*ent m 1 2-a*(ent m 1 2*ent m 1 2) -b*(ent m 0 2*ent m 0 2) -c*(ent m 0 1*ent m 0 1),?_⟩
 rw[cN,s1,s2,s3,e1,e2,e3]
 grind
theorem Ep{H:Hp}{t r:Addr}{bs:List Addr}{m:List (List Int)}{row:List Int}(h:Tab H t bs m)(nt:t∉bs)(hr:H r=some (.lst (row.map V.int)))(nr:r≠t):Tab (upd H t (.lst (bs.map V.ref++ [.ref r]))) t (bs++ [r]) (m++ [row]):=by
 refine⟨by rw[aq];simp,Paired.snoc (h.2.xC λy b hb e=> ?_) (by rw[aH nr];exact hr)⟩
 rw[aH (λz=>nt (by rw[<-z];exact hb))]
 exact e
def oH(k:Nat):List (List Int):=[0,0,1]::(List.range k).map λ(a:Nat)=>[0,1,(a:Int)]
def eX(p k:Nat):List (List Int):=oH p++(List.range k).map λ(a:Nat)=>[1,((a/p:Nat):Int),((a%p:Nat):Int)]
theorem GG(k:Nat):oH (k+1)=oH k++ [[0,1,(k:Int)]]:=by simp[oH,List.range_succ]
theorem GH(p k:Nat):eX p (k+1)=eX p k++ [[1,((k/p:Nat):Int),((k%p:Nat):Int)]]:=by simp[eX,List.range_succ]
theorem vM(k:Nat):(oH k).length=k+1:=by simp[oH]
theorem lK(p k:Nat):(eX p k).length=p+1+k:=by simp[eX,vM]
theorem mY{H:Hp}{pf:V->Bool}{g:List Int->Bool}:∀{m:List (List Int)}{bs:List Addr},Paired (λrow b=>H b=some (.lst (row.map V.int))) m bs->(∀row b,row∈m->H b=some (.lst (row.map V.int)) ->pf (.ref b)=g row) ->
  ∃bs':List Addr,(bs.map V.ref).filter pf=bs'.map V.ref/\(∀b∈bs',b∈bs)/\Paired (λrow b=>H b=some (.lst (row.map V.int))) (m.filter g) bs'
 |_,_,.nil,_=>⟨[],rfl,λ_ h=>h,.nil⟩
 |_,_,.cons (a:=row) (b:=b) h t,k=>by
  obtain⟨bs',e,i,pr⟩:=mY t λrow b hm=>k row b (List.mem_cons_of_mem _ hm)
  have q:=k row b List.mem_cons_self h
  rw[List.map_cons,List.filter_cons,List.filter_cons,q]
  cases g row with
  |true=>
   refine⟨b::bs',by simp[e],λc hc=> ?_,by simpa using .cons h pr⟩
   rcases List.mem_cons.mp hc with z|z
   ·rw[z];exact List.mem_cons_self
   ·exact List.mem_cons_of_mem _ (i c z)
  |false=>exact⟨bs',by simpa using e,λc hc=>List.mem_cons_of_mem _ (i c hc),by simpa using pr⟩
def ko(m:List (List Int))(p:Int):List (List Int):=mk3 λi j=>ent m i j%p
theorem KI{m:List (List Int)}(h:cC m){p:Int}(hp:0<p):cC (ko m (2*p)):=by
 obtain⟨⟨s1,s2,s3⟩,a,b,c,e1,e2,e3⟩:=h
 have k:∀z:Int,2*z%(2*p)=2*(z%p):=λz=>Int.mul_emod_mul_of_pos (a:=2) z p (by decide)
 refine⟨⟨?_,?_,?_⟩,a%p,b%p,c%p,?_,?_,?_⟩
 ·unfold ko;rw[bQ _ (by decide) (by decide),bQ _ (by decide) (by decide),s1]
 ·unfold ko;rw[bQ _ (by decide) (by decide),bQ _ (by decide) (by decide),s2]
 ·unfold ko;rw[bQ _ (by decide) (by decide),bQ _ (by decide) (by decide),s3]
 ·unfold ko;rw[bQ _ (by decide) (by decide),e1,k]
 ·unfold ko;rw[bQ _ (by decide) (by decide),e2,k]
 ·unfold ko;rw[bQ _ (by decide) (by decide),e3,k]
theorem KJ{m:List (List Int)}(h:cC m){p:Int}(hp:0<p)(x:Nat->Int):aR (ko m (2*p)) x%p=aR m x%p:=by
 have e1:=iI (KI h hp) x
 have e2:=iI h x
 have d:∀i j,i<3->j<3-> ∃q,ent m i j=ent (ko m (2*p)) i j+2*p*q:=λi j hi hj=>by
  unfold ko
  rw[bQ _ hi hj]
  exact⟨ent m i j/(2*p),(Int.emod_add_mul_ediv _ _).symm⟩
 obtain⟨YY,d00⟩:=d 0 0 (by decide) (by decide)
 obtain⟨q01,d01⟩:=d 0 1 (by decide) (by decide)
 obtain⟨XN,d02⟩:=d 0 2 (by decide) (by decide)
 obtain⟨q10,d10⟩:=d 1 0 (by decide) (by decide)
 obtain⟨YZ,d11⟩:=d 1 1 (by decide) (by decide)
 obtain⟨XO,d12⟩:=d 1 2 (by decide) (by decide)
 obtain⟨q20,d20⟩:=d 2 0 (by decide) (by decide)
 obtain⟨q21,d21⟩:=d 2 1 (by decide) (by decide)
 obtain⟨Za,d22⟩:=d 2 2 (by decide) (by decide)
 have e:cz m x x=cz (ko m (2*p)) x x+2*(p*(x 0*YY*x 0+x 0*q01*x 1+x 0*XN*x 2+x 1*q10*x 0+x 1*YZ*x 1+x 1*XO*x 2+x 2*q20*x 0+x 2*q21*x 1+x 2*Za*x 2)):=by
  rw[dh,dh,d00,d01,d02,d10,d11,d12,d20,d21,d22]
  grind
 have f:aR m x=aR (ko m (2*p)) x+p*(x 0*YY*x 0+x 0*q01*x 1+x 0*XN*x 2+x 1*q10*x 0+x 1*YZ*x 1+x 1*XO*x 2+x 2*q20*x 0+x 2*q21*x 1+x 2*Za*x 2):=by omega
 rw[f,Int.add_mul_emod_self_left]
def az(r:List Int):Nat->Int:=λi=>r.getD i 0
theorem jU{p k:Nat}(hp:p<14)(hk:k<=169){r:List Int}(h:r∈eX p k):r=[az r 0,az r 1,az r 2]/\ ∀i,(az r i).natAbs<2^10:=by
 unfold eX oH at h
 simp only[List.mem_append,List.mem_cons,List.mem_map,List.mem_range]at h
 rcases h with(rfl|⟨a,ha,rfl⟩)|⟨a,ha,rfl⟩
 ·refine⟨rfl,λi=> ?_⟩
  match i with
  |0=>show(0:Int).natAbs<2^10;decide
  |1=>show(0:Int).natAbs<2^10;decide
  |2=>show(1:Int).natAbs<2^10;decide
  |_+3=>show(0:Int).natAbs<2^10;decide
 ·refine⟨rfl,λi=> ?_⟩
  match i with
  |0=>show(0:Int).natAbs<2^10;decide
  |1=>show(1:Int).natAbs<2^10;decide
  |2=>show((a:Int)).natAbs<2^10;omega
  |_+3=>show(0:Int).natAbs<2^10;decide
 ·refine⟨rfl,λi=> ?_⟩
  have h1:a/p<=a:=Nat.div_le_self _ _
  have h2:a%p<=a:=Nat.mod_le _ _
  match i with
  |0=>show(1:Int).natAbs<2^10;decide
  |1=>
   show(((a/p:Nat):Int)).natAbs<2^10
   rw[Int.natAbs_natCast]
   exact Nat.lt_of_le_of_lt h1 (by omega)
  |2=>
   show(((a%p:Nat):Int)).natAbs<2^10
   rw[Int.natAbs_natCast]
   exact Nat.lt_of_le_of_lt h2 (by omega)
  |_+3=>show(0:Int).natAbs<2^10;decide
section
variable{X:Cx}{sc:Scope}{N2:List Str}{x y:Str}{px FW tpos:Pos}{x1:Nat}{elt iter:Expr}{g7 p pos:Pos}{wi:TI}{te:TE}{P:Addr}
theorem Jf{B:Around}(hc:X.calm=true)(Bk:uh sc.names X.env.scope.names [x,y] N2 X.N)(hnc:∀y∈sc.names,y.2≠ .cell)(code:Value)(s:Shared)(H:Hp)(fp:List Addr):PG (X.gen B sc ([x,y]++N2) code s H fp) (.Tuple [.Name x px,.Name y FW] x1 tpos) (g2 X.K):=
 FZ (X:=X.gen B sc ([x,y]++N2) code s H fp) hc (dw (Jc (i:=0) Bk hnc rfl code s H fp) (dw (Jc (i:=1) Bk hnc rfl code s H fp) mT))
theorem RO(hc:X.calm=true)(hr:X.A.depth<recursionLimit)(cd:gR X.K X.env.code P)(bm:BM X.mg X.base)(DX:Gl X "sum")(hm:X.mg "sum"=none)(hi:PI X (.Tuple [.Name x px,.Name y FW] x1 tpos) iter wi)(hB:Gx sc X.env.scope.names [x,y] N2 X.N=true)
  (he:∀code s H fp,PE (X.gen X.A.in1.in1 sc ([x,y]++N2) code s H fp) elt te)
  (hs:∀x,genFold iter X.env x=pure x:=by intro _;rfl)(hst:starEach [.GeneratorExp elt [⟨.Tuple [.Name x px,.Name y FW] x1 tpos,iter,[],0⟩] sc g7] X.env=[(false,eval (.GeneratorExp elt [⟨.Tuple [.Name x px,.Name y FW] x1 tpos,iter,[],0⟩] sc g7) X.env)]:=by rfl):
  PE X (.Call (.Name "sum" p) [.GeneratorExp elt [⟨.Tuple [.Name x px,.Name y FW] x1 tpos,iter,[],0⟩] sc g7] [] pos) (IT 2 P wi (g2 X.K) te):=
 have K:=qJ hc hr cd bm hB
 IU (own:=[x,y]) K DX hm hi (λcode s H fp=>Jf hc K.RC K.nc code s H fp) he hs hst
theorem RP(hc:X.calm=true)(hr:X.A.depth<recursionLimit)(cd:gR X.K X.env.code P)(bm:BM X.mg X.base)(DX:Gl X "any")(hm:X.mg "any"=none)(hi:PI X (.Tuple [.Name x px,.Name y FW] x1 tpos) iter wi)(hB:Gx sc X.env.scope.names [x,y] N2 X.N=true)
  (he:∀code s H fp,PE (X.gen X.A.in1.in1 sc ([x,y]++N2) code s H fp) elt te)
  (hs:∀x,genFold iter X.env x=pure x:=by intro _;rfl)(hst:starEach [.GeneratorExp elt [⟨.Tuple [.Name x px,.Name y FW] x1 tpos,iter,[],0⟩] sc g7] X.env=[(false,eval (.GeneratorExp elt [⟨.Tuple [.Name x px,.Name y FW] x1 tpos,iter,[],0⟩] sc g7) X.env)]:=by rfl):
  PE X (.Call (.Name "any" p) [.GeneratorExp elt [⟨.Tuple [.Name x px,.Name y FW] x1 tpos,iter,[],0⟩] sc g7] [] pos) (Uw 2 P wi (g2 X.K) te):=
 have K:=qJ hc hr cd bm hB
 RE (own:=[x,y]) K DX hm hi (λcode s H fp=>Jf hc K.RC K.nc code s H fp) he hs hst
end
theorem Jg{K:PySem.W.Frag}{H1:Hp}{a b:Addr}{xs ys:List V}{σ:St}{te:TE}{F:Nat->(Nat->V->Prop) ->(Nat->St->Hp->Prop) ->Prop}(ha:aV K H1 a xs)(hb:aV K H1 b ys)(hl:xs.length=ys.length)(R:Nat->V->Prop)
  (hs:∀(i:Nat) x y,xs[i]?=some x->ys[i]?=some y-> ∀H' (Q':VK),av H1 H'->(∀v H2,R i v->av H' H2->Q' v H2) ->te (some x::some y::σ) H' Q')
  (hF:F xs.length R (λ_ σ' H'=>(∃o o',σ'=o::o'::σ)/\av H1 H')):yr 2 (g2 K) te σ F (WD K a b) H1:=by
 refine⟨xs.length,R,_,⟨⟨none,none,rfl⟩,av.refl _⟩,λi σ' H' hi w=> ?_,λσ' H' w=>⟨xs,ys,w.2.seq ha,w.2.seq hb,.inl (Nat.le_refl _)⟩,hF⟩
 obtain⟨⟨o,o',rfl⟩,sm⟩:=w
 have hi':i<ys.length:=by omega
 refine⟨⟨xs,ys,xs[i],ys[i],sm.seq ha,sm.seq hb,by simp[hi],by simp[hi']⟩,λv H2 yl=> ?_⟩
 obtain⟨T,x,y,rfl,hT,hx,hy,rfl⟩:=yl
 have ex:=hx xs (sm.seq ha)
 have ey:=hy ys (sm.seq hb)
 have s2:av H' (upd H' T (.tup [x,y])):=av.up hT
 refine⟨T,[x,y],rfl,qA.of aq,rfl,x,[y],rfl,y,[],rfl,rfl,?_⟩
 show te (some x::some y::σ) _ _
 exact hs i x y ex ey _ _ (sm.trans s2) λv H3 r s3=>⟨r,⟨_,_,rfl⟩,(sm.trans s2).trans s3⟩
theorem RQ{K:PySem.W.Frag}{H1:Hp}{a b:Addr}{xs ys:List V}{σ:St}{te:TE}{Q:VK}{P:Addr}(ha:aV K H1 a xs)(hb:aV K H1 b ys)(hl:xs.length=ys.length)(hP:H1 P=some (cj P))(val:Nat->Int)
  (hs:∀(i:Nat) x y,xs[i]?=some x->ys[i]?=some y-> ∀H' (Q':VK),av H1 H'->(∀H2,av H' H2->Q' (.int (val i)) H2) ->te (some x::some y::σ) H' Q')
  (hq:∀H',av H1 H'->Q (.int (preSum val xs.length)) H'):Ng 2 P (g2 K) te σ (WD K a b) H1 Q:=
 ⟨hP,Jg ha hb hl (λi v=>v= .int (val i)) (λi x y ex ey H' Q' sm k=>hs i x y ex ey H' Q' sm λH2 s2=>k _ _ rfl s2) ⟨val,λi v _ r=>r,λσ' H' w=>hq H' w.2⟩⟩
theorem GI{c A B:Prop}[Decidable c](hc:c)(h:A):if c then A else B:=by
 rw[if_pos hc]
 exact h
theorem jf{c A B:Prop}[Decidable c](hc:¬c)(h:B):if c then A else B:=by
 rw[if_neg hc]
 exact h
section
variable{X:Cx}{sc:Scope}{N2:List Str}{x:Str}{px:Pos}{elt iter:Expr}{g7 p pos:Pos}{wi:TI}{te:TE}{P:Addr}
end
theorem RS{K:PySem.W.Frag}{H1:Hp}{a b:Addr}{xs ys:List V}{σ:St}{te:TE}{Q:VK}{P:Addr}(ha:aV K H1 a xs)(hb:aV K H1 b ys)(hl:xs.length=ys.length)(hP:H1 P=some (cj P))(bv:Nat->Bool)
  (hs:∀(i:Nat) x y,xs[i]?=some x->ys[i]?=some y-> ∀H' (Q':VK),av H1 H'->(∀H2,av H' H2->Q' (.bl (bv i)) H2) ->te (some x::some y::σ) H' Q')
  (hq:∀b H',av H1 H'->(b=true↔ ∃j,j<xs.length/\bv j=true) ->Q (.bl b) H'):Uv 2 P (g2 K) te σ (WD K a b) H1 Q:=
 ⟨hP,Jg ha hb hl (λi v=>v= .bl (bv i)) (λi x y ex ey H' Q' sm k=>hs i x y ex ey H' Q' sm λH2 s2=>k _ _ rfl s2) ⟨bv,λi v _ r=>r,λhb σ' H' w=>hq _ H' w.2 ⟨λz=>(by cases z),λ ⟨j,hj,z⟩=>by rw[hb j hj]at z;cases z⟩,
  λj hj hb _ σ' H' w=>hq _ H' w.2 ⟨λ_=>⟨j,hj,hb⟩,λ_=>rfl⟩⟩⟩
def tw(lo:Int)(n:Nat):List V:=(List.range n).map λ(i:Nat)=>V.int (lo+(i:Int))
theorem pG{lo:Int}{n:Nat}:(tw lo n).length=n:=by simp[tw]
theorem yG{lo:Int}{n k:Nat}{x:V}(h:(tw lo n)[k]?=some x):k<n/\x= .int (lo+(k:Int)):=by
 unfold tw at h
 rw[List.getElem?_map]at h
 have hk:k<n:=by
  rcases Nat.lt_or_ge k n with z|z
  ·exact z
  ·rw[List.getElem?_eq_none (by simpa using z)]at h;cases h
 rw[List.getElem?_range hk]at h
 exact⟨hk,(Option.some.inj h).symm⟩
theorem KL{H1:Hp}{lo:Int}{n:Nat}:JW (My lo n) H1 (tw lo n) where
 go:=λi H' s hi=>by rw[pG]at hi;exact hi
 Ba:=λi H' x H2 s hi ⟨e,y⟩=>⟨e,by
  rw[pG]at hi
  subst y
  unfold tw
  rw[List.getElem?_map,List.getElem?_range hi]
  rfl⟩
 stop:=λH' s=>by rw[pG];exact Nat.le_refl _
theorem oJ{p:Int}(hp:p∈([3,5,7,11,13]:List Int)){n h:Int}(hh:h%p≠0):(n*h)%p=0↔n%p=0:=by
 have key:∀q∈([3,5,7,11,13]:List Nat),∀a<q,∀b<q,b≠0->(a*b)%q=0->a=0:=by decide
 have p0:0<p:=by
  simp only[List.mem_cons,List.not_mem_nil,or_false]at hp
  omega
 obtain⟨q,rfl⟩:∃q:Nat,p=(q:Int):=⟨p.toNat,by omega⟩
 have hq:q∈([3,5,7,11,13]:List Nat):=by
  simp only[List.mem_cons,List.not_mem_nil,or_false]at hp ⊢
  omega
 constructor
 ·intro e
  rw[Int.mul_emod]at e
  have a0:=Int.emod_nonneg n (show(q:Int)≠0 by omega)
  have b0:=Int.emod_nonneg h (show(q:Int)≠0 by omega)
  have a1:=Int.emod_lt_of_pos n p0
  have b1:=Int.emod_lt_of_pos h p0
  obtain⟨a,ea⟩:∃a:Nat,n%(q:Int)=(a:Int):=⟨(n%(q:Int)).toNat,by omega⟩
  obtain⟨b,eb⟩:∃b:Nat,h%(q:Int)=(b:Int):=⟨(h%(q:Int)).toNat,by omega⟩
  rw[ea,eb]at e
  have e':(a*b)%q=0:=by exact_mod_cast e
  have:=key q hq a (by omega) b (by omega) (by omega) e'
  rw[ea,this]
  rfl
 ·intro e
  rw[Int.mul_emod,e,Int.zero_mul]
  rfl
theorem oK{v:V}{r:List V}:Ae (v::r) 0=some v:=iG (i:=0) rfl
theorem lG{a b p k:Int}(h:a=b+p*k):a%p=b%p:=by rw[h,Int.add_mul_emod_self_left]
theorem gY{a b p:Int}(h:a%p=b%p):∃k,a=b+p*k:=by
 have h1:=Int.emod_add_mul_ediv a p
 have h2:=Int.emod_add_mul_ediv b p
 exact⟨a/p-b/p,by rw[Int.mul_sub];omega⟩
theorem oM{m:List (List Int)}(h:cC m):∃a b c d e f:Int,(ent m 0 0=2*a/\ent m 1 1=2*b/\ent m 2 2=2*c/\ent m 0 1=d/\ent m 0 2=e/\ent m 1 2=f)/\ ∀x:Nat->Int,aR m x=a*(x 0*x 0)+b*(x 1*x 1)+c*(x 2*x 2)+d*(x 0*x 1)+e*(x 0*x 2)+f*(x 1*x 2):=by
 have h':=h
 obtain⟨⟨s1,s2,s3⟩,a,b,c,e1,e2,e3⟩:=h
 refine⟨a,b,c,ent m 0 1,ent m 0 2,ent m 1 2,⟨e1,e2,e3,rfl,rfl,rfl⟩,λx=> ?_⟩
 have q:=iI h' x
 rw[dh,s1,s2,s3,e1,e2,e3]at q
 have:2*aR m x=2*(a*(x 0*x 0)+b*(x 1*x 1)+c*(x 2*x 2)+ent m 0 1*(x 0*x 1)+ent m 0 2*(x 0*x 2)+ent m 1 2*(x 1*x 2)):=by
  rw[<-q]
  grind
 omega
theorem KN{m:List (List Int)}(h:cC m){p:Int}{x y:Nat->Int}(e:∀i,i<3->x i%p=y i%p):aR m x%p=aR m y%p:=by
 obtain⟨a,b,c,d,ee,f,_,q⟩:=oM h
 obtain⟨k0,h0⟩:=gY (e 0 (by decide))
 obtain⟨k1,h1⟩:=gY (e 1 (by decide))
 obtain⟨k2,h2⟩:=gY (e 2 (by decide))
 rw[q,q,h0,h1,h2]
 refine lG (k:=a*(2*y 0*k0+p*(k0*k0))+b*(2*y 1*k1+p*(k1*k1))+c*(2*y 2*k2+p*(k2*k2))+d*(y 0*k1+y 1*k0+p*(k0*k1))+ee*(y 0*k2+y 2*k0+p*(k0*k2))+f*(y 1*k2+y 2*k1+p*(k1*k2))) ?_
 grind
theorem GJ{m:List (List Int)}(h:cC m)(u:Int)(x:Nat->Int):aR m (λi=>u*x i)=u*u*aR m x:=by
 obtain⟨a,b,c,d,ee,f,_,q⟩:=oM h
 rw[q,q]
 grind
theorem NI{m:List (List Int)}(h:cC m){x y:Nat->Int}(e:∀i,i<3->x i=y i):aR m x=aR m y:=by
 obtain⟨a,b,c,d,ee,f,_,q⟩:=oM h
 rw[q,q,e 0 (by decide),e 1 (by decide),e 2 (by decide)]
def mZ(p:Int)(x:Nat->Int):Int:=if x 0%p≠0 then x 0%p else if x 1%p≠0 then x 1%p else x 2%p
def lY(p:Int)(x:Nat->Int):Prop:=x 0%p=0/\x 1%p=0/\x 2%p=0
def GK(m:List (List Int))(p:Int)(x:Nat->Int):Prop:=¬lY p x/\aR m (λi=>x i%p)%p=0
structure gZ(p:Int)(y:Nat->Int):Prop where
 lo:∀i,i<3->0<=y i
 hi:∀i,i<3->y i<p
 one:(y 0=1)∨(y 0=0/\y 1=1)∨(y 0=0/\y 1=0/\y 2=1)
theorem Er{p:Int}{x:Nat->Int}(h:¬lY p x):mZ p x≠0:=by
 unfold mZ
 unfold lY at h
 split
 ·assumption
 ·split
  ·assumption
  ·omega
theorem yH{p:Int}{x:Nat->Int}(h:0<p):0<=mZ p x/\mZ p x<p:=by
 unfold mZ
 have a:=λi=>Int.emod_nonneg (x i) (show p≠0 by omega)
 have b:=λi=>Int.emod_lt_of_pos (x i) h
 split
 ·exact⟨a 0,b 0⟩
 ·split
  ·exact⟨a 1,b 1⟩
  ·exact⟨a 2,b 2⟩
theorem pH(a b p:Int):a*(b%p)%p=a*b%p:=by rw[Int.mul_emod,Int.emod_emod_of_dvd _ (Int.dvd_refl p),<-Int.mul_emod]
theorem GL(a b p:Int):(a%p)*b%p=a*b%p:=by rw[Int.mul_emod,Int.emod_emod_of_dvd _ (Int.dvd_refl p),<-Int.mul_emod]
theorem bL{a p:Int}(h0:0<=a)(h1:a<p):a%p=a:=Int.emod_eq_of_lt h0 h1
theorem KO{p u:Int}{x:Nat->Int}(hp:1<p)(hu:u*mZ p x%p=1)(hr:¬lY p x):gZ p (λi=>u*(x i%p)%p):=by
 refine⟨λi _=>Int.emod_nonneg _ (by omega),λi _=>Int.emod_lt_of_pos _ (by omega),?_⟩
 unfold mZ at hu
 unfold lY at hr
 split at hu
 ·exact .inl hu
 ·rename_i h0
  have h0:x 0%p=0:=by omega
  split at hu
  ·exact .inr (.inl ⟨by show u*(x 0%p)%p=0;rw[h0,Int.mul_zero];exact Int.zero_emod p,hu⟩)
  ·rename_i h1
   have h1:x 1%p=0:=by omega
   exact .inr (.inr ⟨by show u*(x 0%p)%p=0;rw[h0,Int.mul_zero];exact Int.zero_emod p,by show u*(x 1%p)%p=0;rw[h1,Int.mul_zero];exact Int.zero_emod p,hu⟩)
theorem xZ{p t:Int}{x y:Nat->Int}(hp:1<p)(L:gZ p y)(t0:0<t)(t1:t<p)(e:∀i,i<3->t*y i%p=x i%p):mZ p x=t/\ ¬lY p x:=by
 have tt:t%p=t:=bL (by omega) t1
 unfold mZ lY
 rcases L.one with z|⟨z,z1⟩|⟨z,z1,z2⟩
 ·have e0:=e 0 (by decide)
  rw[z,Int.mul_one,tt]at e0
  rw[<-e0,if_pos (by omega)]
  exact⟨rfl,by omega⟩
 ·have e0:=e 0 (by decide)
  rw[z,Int.mul_zero,Int.zero_emod]at e0
  have e1:=e 1 (by decide)
  rw[z1,Int.mul_one,tt]at e1
  rw[<-e0,if_neg (by omega),<-e1,if_pos (by omega)]
  exact⟨rfl,by omega⟩
 ·have e0:=e 0 (by decide)
  rw[z,Int.mul_zero,Int.zero_emod]at e0
  have e1:=e 1 (by decide)
  rw[z1,Int.mul_zero,Int.zero_emod]at e1
  have e2:=e 2 (by decide)
  rw[z2,Int.mul_one,tt]at e2
  rw[<-e0,if_neg (by omega),<-e1,if_neg (by omega),<-e2]
  exact⟨rfl,by omega⟩
theorem vN{p t u:Int}{x y:Nat->Int}(hp:1<p)(L:gZ p y)(t0:0<t)(t1:t<p)(e:∀i,i<3->t*y i%p=x i%p)(hu:u*mZ p x%p=1)(i:Nat)(hi:i<3):u*(x i%p)%p=y i:=by
 rw[(xZ hp L t0 t1 e).1]at hu
 rw[<-e i hi,pH,<-Int.mul_assoc,<-GL,hu,Int.one_mul]
 exact bL (L.lo i hi) (L.hi i hi)
theorem RT{m:List (List Int)}(ev:cC m){p t:Int}{x y:Nat->Int}(h:aR m y%p=0)(e:∀i,i<3->t*y i%p=x i%p):aR m (λi=>x i%p)%p=0:=by
 have e':aR m (λi=>x i%p)%p=aR m (λi=>t*y i)%p:=KN ev λi hi=>by rw[e i hi];exact Int.emod_emod_of_dvd _ (Int.dvd_refl p)
 rw[e',GJ ev t y,<-pH,h,Int.mul_zero,Int.zero_emod]
theorem KP{n:Nat}(hn:0<n){r:List Int}:r∈eX n (n*n)↔r=[az r 0,az r 1,az r 2]/\gZ (n:Int) (az r)/\1<n∨(r∈eX n (n*n)/\n<=1):=by
 constructor
 ·intro h
  by_cases h1:1<n
  ·refine .inl ?_
   unfold eX oH at h
   simp only[List.mem_append,List.mem_cons,List.mem_map,List.mem_range]at h
   rcases h with(rfl|⟨a,ha,rfl⟩)|⟨a,ha,rfl⟩
   ·refine⟨rfl,⟨λi hi=> ?_,λi hi=> ?_,.inr (.inr ⟨rfl,rfl,rfl⟩)⟩,h1⟩
    ·rcases aG hi with rfl|rfl|rfl<;>decide
    ·rcases aG hi with rfl|rfl|rfl
     ·show(0:Int)<n;omega
     ·show(0:Int)<n;omega
     ·show(1:Int)<n;omega
   ·refine⟨rfl,⟨λi hi=> ?_,λi hi=> ?_,.inr (.inl ⟨rfl,rfl⟩)⟩,h1⟩
    ·rcases aG hi with rfl|rfl|rfl
     ·show(0:Int)<=0;decide
     ·show(0:Int)<=1;decide
     ·show(0:Int)<=(a:Int);omega
    ·rcases aG hi with rfl|rfl|rfl
     ·show(0:Int)<n;omega
     ·show(1:Int)<n;omega
     ·show(a:Int)<n;omega
   ·have d1:a/n<n:=by rw[Nat.div_lt_iff_lt_mul hn];exact ha
    have d2:a%n<n:=Nat.mod_lt _ hn
    refine⟨rfl,⟨λi hi=> ?_,λi hi=> ?_,.inl rfl⟩,h1⟩
    ·rcases aG hi with rfl|rfl|rfl
     ·show(0:Int)<=1;decide
     ·show(0:Int)<=((a/n:Nat):Int);exact Int.natCast_nonneg _
     ·show(0:Int)<=((a%n:Nat):Int);exact Int.natCast_nonneg _
    ·rcases aG hi with rfl|rfl|rfl
     ·show(1:Int)<n;omega
     ·show((a/n:Nat):Int)<n;exact Int.ofNat_lt.mpr d1
     ·show((a%n:Nat):Int)<n;exact Int.ofNat_lt.mpr d2
  ·exact .inr ⟨h,by omega⟩
 ·rintro(⟨e,L,h1⟩|⟨h,_⟩)
  ·unfold eX oH
   simp only[List.mem_append,List.mem_cons,List.mem_map,List.mem_range]
   have l1:=L.lo 1 (by decide)
   have l2:=L.lo 2 (by decide)
   have g1:=L.hi 1 (by decide)
   have g2:=L.hi 2 (by decide)
   rcases L.one with z|⟨z,z1⟩|⟨z,z1,z2⟩
   ·refine .inr ⟨(az r 1).toNat*n+(az r 2).toNat,?_,?_⟩
    ·have a1:(az r 1).toNat+1<=n:=by omega
     have a2:=Nat.mul_le_mul_right n a1
     rw[Nat.succ_mul]at a2
     have a3:(az r 2).toNat<n:=by omega
     exact Nat.lt_of_lt_of_le (Nat.add_lt_add_left a3 _) a2
    ·have a3:(az r 2).toNat<n:=by omega
     have d1:((az r 1).toNat*n+(az r 2).toNat)/n=(az r 1).toNat:=by
      rw[Nat.add_comm,Nat.add_mul_div_right _ _ hn,Nat.div_eq_of_lt a3,Nat.zero_add]
     have d2:((az r 1).toNat*n+(az r 2).toNat)%n=(az r 2).toNat:=by
      rw[Nat.add_comm,Nat.add_mul_mod_self_right,Nat.mod_eq_of_lt a3]
     rw[d1,d2,e]
     show [1,(((az r 1).toNat:Nat):Int),(((az r 2).toNat:Nat):Int)]=[az r 0,az r 1,az r 2]
     rw[z,Int.toNat_of_nonneg l1,Int.toNat_of_nonneg l2]
   ·refine .inl (.inr ⟨(az r 2).toNat,by omega,?_⟩)
    rw[e]
    show [0,1,(((az r 2).toNat:Nat):Int)]=[az r 0,az r 1,az r 2]
    rw[z,z1,Int.toNat_of_nonneg l2]
   ·refine .inl (.inl ?_)
    rw[e,z,z1,z2]
  ·exact h
theorem tD{n:Nat}(hn:1<n){r:List Int}(h:r∈eX n (n*n)):r=[az r 0,az r 1,az r 2]/\gZ (n:Int) (az r):=by
 rcases(KP (by omega)).mp h with⟨a,b,_⟩|⟨_,z⟩
 ·exact⟨a,b⟩
 ·omega
theorem pI{p:Int}(hp:p∈([3,5,7,11,13]:List Int)){a:Int}(ha:a%p≠0):∃t:Nat,t<(p-1).toNat/\(1+(t:Int))*a%p=1:=by
 have key:∀q∈([3,5,7,11,13]:List Nat),∀b<q,b≠0-> ∃t<q-1,((1+t)*b)%q=1:=by decide
 have p0:2<p:=by
  simp only[List.mem_cons,List.not_mem_nil,or_false]at hp
  omega
 obtain⟨q,rfl⟩:∃q:Nat,p=(q:Int):=⟨p.toNat,by omega⟩
 have hq:q∈([3,5,7,11,13]:List Nat):=by
  simp only[List.mem_cons,List.not_mem_nil,or_false]at hp ⊢
  omega
 have a0:=Int.emod_nonneg a (show(q:Int)≠0 by omega)
 have a1:=Int.emod_lt_of_pos a (show(0:Int)<q by omega)
 obtain⟨b,eb⟩:∃b:Nat,a%(q:Int)=(b:Int):=⟨(a%(q:Int)).toNat,by omega⟩
 obtain⟨t,ht,e⟩:=key q hq b (by omega) (by omega)
 refine⟨t,by omega,?_⟩
 rw[<-pH,eb]
 exact_mod_cast e
def XQ(h base:Heap)(e:Addr)(cls a0 fl:Value):Prop:=
 ∃ob ws tb ot us,h.get? e=some ob/\ob.data= .fields ws/\ob.cls=cls/\ws[0]?=some a0/\ws[2]?=some .none/\ws[1]?=some (.ref tb)/\tb≠e/\base.get? tb=none/\h.get? tb=some ot/\ot.data= .fields us/\us[3]?=some fl
structure Fl(base:Heap)(l:List Env)(e:Addr)(cls a0 fl:Value)(h:Heap):Prop where
 stay:base.StaysIn h
 new:base.get? e=none
 frm:h.FunFrames base l
 VC:XQ h base e cls a0 fl
section
variable{M:Model}{A:Around}{E:Value->Shared->Prop}{s:Shared}{base:Heap}{env:Env}{outer:List Env}{L e:Addr}{cls a0:Value}
theorem oN{h1 h2:Heap}{p:Addr}{op:Obj}{xs:Array Value}{f:Obj->Obj}(hp:h1.get? p=some op)(hx:op.data= .fields xs)(k:h2=h1.update p f){b:Addr}{o:Obj}(hb:h1.get? b=some o)(hn:∀vs,o.data≠ .fields vs):h2.get? b=some o:=by
 subst k
 rw[Heap.get?_update_other _ _ (λz=> ?_)]
 ·exact hb
 ·rw[z,hb]at hp
  cases hp
  exact hn xs hx
theorem Es{ob:Obj}{ws:Array Value}{head:Value}{hn:Bool}{Q:Unit->Shared->Prop}(hfr:A.frames=some (env::outer))(hf:env.frame=some L)(st:base.StaysIn s.heap)(nw:base.get? e=none)(fr:s.heap.FunFrames base (env::outer))
  (x1:s.heap.get? e=some ob)(x2:ob.data= .fields ws)(x3:ob.cls=cls)(x4:ws[0]?=some a0)(x5:ws[2]?=some .none)(k:∀h',Fl base (env::outer) e cls a0 (rawInt L) h'->s.heap.UpToSlots h'->Q () {s with heap:=h'}):
  wpAny M A (do let a<-frameOf env;let pl<-entryPlaceOf L hn;let b<-EntryCells.newEntry head a .none (rawInt L) .none pl;setField (.ref e) 1 b) Q E s:=by
 have sz2:2<ws.size:=(Array.getElem?_eq_some_iff.mp x5).1
 have out:e∉(env::outer).filterMap (·.frame):=λz=>by
  obtain⟨_,o,q1,q2⟩:=fr.mem z
  rw[x1]at q1
  cases q1
  exact q2 ws x2
 refine wpAny_bind (wpAny_frameOf_fun hfr fr hf λg so=>wpAny_bind (wpAny_entryPlaceOf λpl hpl=> ?_))
 unfold EntryCells.newEntry newFields
 refine wpAny_bind (wpAny_newObj_type ?_ (hpl.sizeOk5 _ _ _ _ _))
 have y1:g.get? e=some ob:=(so.2.1 e out).trans x1
 generalize hnt:({cls:= .type "traceback",dict:=none,data:= .fields ([head,.ref L,.none,rawInt L,.none]++(if pl.isEmpty then List.replicate 6 Value.none else pl)).toArray}:Obj)=nt
 have d1:nt.data= .fields ([head,.ref L,.none,rawInt L,.none]++(if pl.isEmpty then List.replicate 6 Value.none else pl)).toArray:=by rw[<-hnt]
 have d2:([head,.ref L,.none,rawInt L,.none]++(if pl.isEmpty then List.replicate 6 Value.none else pl)).toArray[3]?=some (rawInt L):=by simp
 generalize([head,.ref L,.none,rawInt L,.none]++(if pl.isEmpty then List.replicate 6 Value.none else pl)).toArray=us at d1 d2
 have y2:=Heap.get?_push_of_some (h:=g) nt y1
 refine wpAny_setField y2 x2 (show 1<ws.size by omega) (k _ ?_ ?_)
 ·have ne:g.objs.size≠e:=Nat.ne_of_gt (Heap.lt_size y1)
  have z2:=Obj.data_mapFields x2 (·.setIfInBounds 1 (Value.ref g.objs.size))
  have gS:base.StaysIn g:=λb o q=>by
   by_cases m:b∈(env::outer).filterMap (·.frame)
   ·rw[(fr.mem m).1]at q;cases q
   ·exact(so.2.1 b m).trans (st b o q)
  refine⟨λb o q=> ?_,nw,?_,⟨_,_,g.objs.size,nt,us,Heap.get?_update_self _ y2 (Obj.isFreed_of_fields z2),z2,(Obj.cls_mapFields _ _).trans x3,?_,?_,?_,ne,gS.fresh,?_,d1,d2⟩⟩
  ·rw[Heap.get?_update_other _ _ (λz=>by rw[<-z,nw]at q;cases q)]
   exact Heap.get?_push_of_some _ (gS b o q)
  ·refine fr.of_keeps λb o q hn=> ?_
   obtain⟨sl,q1⟩:=so.2.2 b o q
   exact⟨_,oN y2 x2 rfl (Heap.get?_push_of_some _ q1) hn,rfl⟩
  ·rw[Array.getElem?_setIfInBounds_ne (by decide)];exact x4
  ·rw[Array.getElem?_setIfInBounds_ne (by decide)];exact x5
  ·simp[show 1<ws.size by omega]
  ·rw[Heap.get?_update_other _ _ (Ne.symm ne)]
   exact Heap.get?_push_size g (by rw[<-hnt];rfl)
 ·intro b o q hn
  obtain⟨sl,q1⟩:=so.2.2 b o q
  exact⟨sl,oN y2 x2 rfl (Heap.get?_push_of_some _ q1) hn⟩
theorem GN{ob:Obj}{ws:Array Value}{Q:Unit->Shared->Prop}(hfr:A.frames=some (env::outer))(hf:env.frame=some L)(st:base.StaysIn s.heap)(nw:base.get? e=none)(fr:s.heap.FunFrames base (env::outer))
  (x1:s.heap.get? e=some ob)(x2:ob.data= .fields ws)(x3:ob.cls=cls)(x4:ws[0]?=some a0)(x5:ws[2]?=some .none)(x6:ws[1]?=some .none)(k:∀h',Fl base (env::outer) e cls a0 (rawInt L) h'->s.heap.UpToSlots h'->Q () {s with heap:=h'}):
  wpAny M A (noteFrame (.ref e) env) Q E s:=by
 unfold noteFrame
 simp only[hf]
 refine wpAny_bind (wpAny_field x1 x2 x6 ?_)
 exact Es hfr hf st nw fr x1 x2 x3 x4 x5 k
theorem Bt{Q:Unit->Shared->Prop}(hfr:A.frames=some (env::outer))(hf:env.frame=some L)(F:Fl base (env::outer) e cls a0 .none s.heap)(k:∀h',Fl base (env::outer) e cls a0 (rawInt L) h'->s.heap.UpToSlots h'->Q () {s with heap:=h'}):
  wpAny M A (noteFrame (.ref e) env) Q E s:=by
 obtain⟨st,nw,fr,ob,ws,tb,ot,us,x1,x2,x3,x4,x5,x6,n1,n2,t1,t2,t3⟩:=F
 unfold noteFrame
 simp only[hf]
 refine wpAny_bind (wpAny_field x1 x2 x6 ?_)
 rw[if_pos (show(Value.ref tb !=Value.none)=true by simp)]
 refine wpAny_bind (wpAny_field t1 t2 t3 ?_)
 rw[if_neg (show ¬((Value.none==rawInt L)=true)by simp[rawInt])]
 refine wpAny_bind (wpAny_setField t1 t2 (Array.getElem?_eq_some_iff.mp t3).1 ?_)
 have XR:∀b,b≠tb->(s.heap.update tb (Obj.mapFields (·.setIfInBounds 3 Value.none))).get? b=s.heap.get? b:=λb z=>Heap.get?_update_other _ _ (Ne.symm z)
 refine Es (s:={s with heap:=s.heap.update tb (Obj.mapFields (·.setIfInBounds 3 Value.none))}) hfr hf (λb o q=>(XR b λz=>by rw[z,n2]at q;cases q).trans (st b o q)) nw (fr.of_keeps λb o q hn=>⟨o,oN t1 t2 rfl q hn,rfl⟩) ((XR e (Ne.symm n1)).trans x1) x2 x3 x4 x5 λh' F' u=>k h' F' λb o q hn=>u b o (oN t1 t2 rfl q hn) hn
theorem pJ{l:List Env}{fl:Value}{Q:Unit->Shared->Prop}(F:Fl base l e cls a0 fl s.heap)(k:∀h',Fl base l e cls a0 .none h'->s.heap.UpToSlots h'->Q () {s with heap:=h'}):wpAny M A (setFlight (.ref e) none) Q E s:=by
 obtain⟨st,nw,fr,ob,ws,tb,ot,us,x1,x2,x3,x4,x5,x6,n1,n2,t1,t2,t3⟩:=F
 have z3:3<us.size:=(Array.getElem?_eq_some_iff.mp t3).1
 unfold setFlight
 refine wpAny_bind (wpAny_field x1 x2 x6 ?_)
 rw[if_pos (show(Value.ref tb !=Value.none)=true by simp)]
 have XR:∀b,b≠tb->(s.heap.update tb (Obj.mapFields (·.setIfInBounds 3 ((none:Option Addr).elim Value.none λf=>rawInt f)))).get? b=s.heap.get? b:=λb z=>Heap.get?_update_other _ _ (Ne.symm z)
 refine wpAny_setField t1 t2 z3 (k _ ⟨λb o q=>(XR b λz=>by rw[z,n2]at q;cases q).trans (st b o q),nw,fr.of_keeps λb o q hn=>⟨o,oN t1 t2 rfl q hn,rfl⟩,ob,ws,tb,_,_,(XR e (Ne.symm n1)).trans x1,x2,x3,x4,x5,x6,n1,n2,Heap.get?_update_self _ t1 (Obj.isFreed_of_fields (Obj.data_mapFields t2 _)),Obj.data_mapFields t2 _,by simp[z3]⟩ λb o q hn=>⟨o.slots,oN t1 t2 rfl q hn⟩)
theorem Fl.out{fl:Value}{h:Heap}(F:Fl base (env::outer) e cls a0 fl h):Fl base outer e cls a0 fl h:=⟨F.stay,F.new,F.frm.2.2,F.VC⟩
theorem GO{Q:Unit->Shared->Prop}(hfr:A.frames=some (env::outer))(hf:env.frame=some L)(F:Fl base (env::outer) e cls a0 .none s.heap)(k:∀h',Fl base outer e cls a0 .none h'->s.heap.UpToSlots h'->Q () {s with heap:=h'}):
  wpAny M A (leaving env (.ref e)) Q E s:=by
 unfold leaving
 exact wpAny_bind (Bt hfr hf F λh1 F1 u1=>pJ F1 λh2 F2 u2=>k h2 F2.out (u1.trans u2))
theorem GP{h:Heap}{args:List Value}{Q:Unit->Shared->Prop}(hfr:A.frames=some (env::outer))(hf:env.frame=some L)(st:base.StaysIn h)(fr:h.FunFrames base (env::outer))(X:Heap.MadeExcOf h s.heap e cls args)
  (k:∀h' t,Fl base outer e cls (.ref t) .none h'->s.heap.UpToSlots h'->Q () {s with heap:=h'}):wpAny M A (leaving env (.ref e)) Q E s:=by
 obtain⟨t,x1,_,_⟩:=X.there
 have nw:base.get? e=none:=by
  cases q:base.get? e with
  |none=>rfl
  |some o=>have:=st e o q;rw[X.new]at this;cases this
 unfold leaving
 exact wpAny_bind (GN hfr hf (λb o q=>X.keeps b o (st b o q)) nw (fr.of_keeps λb o q _=>⟨o,X.keeps b o q,rfl⟩) x1 rfl rfl rfl rfl rfl λh1 F1 u1=>pJ F1 λh2 F2 u2=>k h2 t F2.out (u1.trans u2))
end
theorem fX.here{P:Program}{w:World}{H:Hp}{h:Heap}{a:Addr}{o:HO}(x:fX P w H h a o):∃u,h.get? a=some u:=by
 cases o with
 |lst xs=>obtain⟨_,_,_,_,e⟩:=x;exact⟨_,e⟩
 |tup xs=>obtain⟨_,_,_,ob,e,_⟩:=x;exact⟨_,e⟩
 |dK kvs=>obtain⟨_,_,_,_,o,_,_,e,_⟩:=x;exact⟨_,e⟩
 |dT kvs=>obtain⟨_,_,_,_,o,_,_,e,_⟩:=x;exact⟨_,e⟩
 |set S n=>obtain⟨o,_,_,_,e,_⟩:=x;exact⟨_,e⟩
 |ins C dx fs=>obtain⟨_,_,_,e,_⟩:=x;exact⟨_,e⟩
 |own y=>obtain⟨_,e⟩:=x;exact⟨_,e⟩
 |xd fs=>obtain⟨_,⟨_,_,_,e,_⟩,_⟩:=x;exact⟨_,e⟩
 |YF lo hi=>obtain⟨_,_,_,e⟩:=x;exact⟨_,e⟩
 |AY ob u=>obtain⟨e,_⟩:=x;exact⟨_,e⟩
 |Uh ps=>exact⟨_,(show h.get? a=some _ from x)⟩
 |met f y=>exact⟨_,(show h.get? a=some _ from x)⟩
 |ext φ=>obtain⟨_,⟨_,e⟩,_⟩:=x;exact⟨_,e⟩
 |DH=>obtain⟨_,e,_⟩:=x;exact⟨_,e⟩
def vO(P:Program)(w:World):Gh:=λouter H s E e s''=> ∃(a:Addr)(C:Value)(t:Addr)(B:Heap)(H':Hp),e= .ref a/\s''.os=s.os/\Mw s.gens s''.gens/\Fl B outer a C (.ref t) .none s''.heap/\H' a=none/\E C none H'/\
 ∀h',B.StaysIn h'->s''.heap.UpToSlots h'->Un (frs outer) [] H H' s.heap h'/\vE P w H' h'
section
variable{P:Program}{w:World}{K:PySem.W.Frag}{mg:Str->Option Value}{base:Heap}{N:List Str}{qual:Str}{scope:Scope}{f:Addr}{cd:Value}{A:Around}{outer:List Env}{s:Shared}{H:Hp}{E:XK}
theorem NJ{X:Cx}{pins:List (Addr×Obj)}{σ:St}{H1:Hp}{s2:Shared}{h':Heap}(I:Inv X pins σ H1 s2)(hex:X.ex=[])(k:(PySem.W.hideAll s2.heap (frs X.stack)).StaysIn h')(u:∀b∈frs X.outer,∀o,s2.heap.get? b=some o-> ∃sl,h'.get? b=some {o with slots:=sl}):
  Un (frs X.outer) [] X.H₀ H1 X.s₀.heap h'/\vE X.prog X.w H1 h':=by
 have keep:∀b o,s2.heap.get? b=some o->b∉frs X.stack->h'.get? b=some o:=λb o e n=>k b o (PySem.W.hideAll_get _ e n)
 have Zb:∀b,b∉X.ex:=λb=>by rw[hex];simp
 have Zc:∀b o,X.s₀.heap.get? b=some o->b∉frs X.outer->b∉frs X.stack:=λb o e n z=>by
  rcases List.mem_cons.mp (I.sQ b z)with q|q
  ·exact absurd (Heap.lt_size e) (by rw[q];exact Nat.not_lt.mpr I.ok.above)
  ·exact n q
 refine⟨⟨λb o e n hb _=> ?_,λb o e n hb _=> ?_,λb o e n _=>I.base.free b o e n (Zb b),λb o e _=> ?_,I.base.tups,I.base.uo,I.base.vF⟩,?_⟩
 ·exact keep b o (I.base.keep b o e n hb (Zb b)) (Zc b o e hb)
 ·obtain⟨sl,e2⟩:=I.base.slot b o e n hb (Zb b)
  obtain⟨WS,e3⟩:=u b hb _ e2
  exact⟨WS,e3⟩
 ·obtain⟨o',e2⟩:=I.base.there b o e (Zb b)
  by_cases hb:b∈frs X.outer
  ·obtain⟨sl,e3⟩:=u b hb _ e2
   exact⟨_,e3⟩
  ·exact⟨o',keep b o' e2 (Zc b o e hb)⟩
 ·refine λa o e=>(I.hok a o e).stay (λb v hb q=>keep b v q λz=> ?_) (λ_ q=>q) λ_ _ q=>q
  have n:=I.uq b z
  rcases hb with rfl|hb
  ·rw[e]at n;cases n
  ·rw[hb]at n;cases n
theorem qP{x:Str}{C:Addr}{B newId initId:String}{bm:List Value}{np cpos pos:Pos}{e:Expr}{es:List Expr}{ta:TA}
  (O:OwnCls x C bm newId mg base)(FB:ExcBaseFacts B newId initId bm)
  (hg:Gl (qx (vO P w) P w K mg base N qual scope f cd A outer s H E) x)
  (ha:PA (qx (vO P w) P w K mg base N qual scope f cd A outer s H E) (e::es) ta)
  (he:starEach (e::es) (envOfC qual scope s.heap.objs.size f cd)=(false,eval e (envOfC qual scope s.heap.objs.size f cd))::starEach es (envOfC qual scope s.heap.objs.size f cd):=by rfl)
  (hplain:(backTo cpos (starEach es (envOfC qual scope s.heap.objs.size f cd))).any (·.1)=false:=by rfl)(hdb:(x==("__debug__":Str))=false:=by decide):
  PS (qx (vO P w) P w K mg base N qual scope f cd A outer s H E) (.Raise (some (.Call (.Name x np) (e::es) [] cpos)) none pos) (λD σ H1=>ta σ H1 λvs H2=>vs.length<=sizeLine/\E (.ref C) none H2):=by
 intro pins s1 σ H1 D I h
 obtain⟨tl,Na,nm,q,bs,hdct,sn,sub,ab,col,dd,k0,k1,k2,k3,k5,mN,hC,hN,hni,T⟩:=O.obj
 have hst:=I.stack
 refine wpAny_Raise_call_subT (C:=C) (nm:=nm) (q:=q) (N:=Na) (bs:=bs) (bm:=tl) (hdct:=hdct) (sn:=sn) (sub:=sub) (ab:=ab) (col:=col) (dd:=dd) (k0:=k0) (k1:=k1) (k2:=k2) (k3:=k3) (k5:=k5)
  FB (mN:=mN) (T.hasType FB.hasBase) (I.ok.hd rfl) (by show(backTo cpos (starEach (e::es) (envOfC qual scope s.heap.objs.size f cd))).any (·.1)=false;rw[he];show(false||(backTo cpos (starEach es (envOfC qual scope s.heap.objs.size f cd))).any (·.1))=false;rw[hplain];rfl) hni (rR I hg O.bound ⟨rfl,?_⟩ hdb)
 have hp:=ha cpos pins s1 σ H1 _ I h
 have kb:∀{s2:Shared}{σ2:St}{H2:Hp} {p2},Inv (qx (vO P w) P w K mg base N qual scope f cd A outer s H E) p2 σ2 H2 s2-> ∀b o,base.get? b=some o->s2.heap.get? b=some o:=λI2=>I2.bk
 show wpAny _ _ (evalArgs (.ref C) true (backTo cpos (starEach (e::es) (envOfC qual scope s.heap.objs.size f cd))) []) _ _ _
 rw[he]
 have hp:wpAny (model P w) (A.deeper (envOfC qual scope s.heap.objs.size f cd)) (spliced (backTo cpos (starEach (e::es) (envOfC qual scope s.heap.objs.size f cd)))) _ _ s1:=hp
 rw[he]at hp
 refine Calls.evalArgs_plain (wpAny_mono hp (λus s2 h2=> ?_) λ_ _ y=>y)
 obtain⟨vs,H2,I2,r2,hl,q2⟩:=h2
 have kb:=I2.bk
 refine⟨rfl,by rw[<-r2.length];exact hl,kb _ _ hC,hN.keeps kb,T.keeps kb,λh' a hx=> ?_⟩
 have XS:=I2.stack
 have hin:∀env∈(envOfC qual scope s.heap.objs.size f cd::outer),∀b,env.frame=some b->b∈frs (envOfC qual scope s.heap.objs.size f cd::outer):=λenv he b hb=>List.mem_filterMap.mpr ⟨env,he,hb⟩
 refine GP (base:=PySem.W.hideAll s2.heap (frs (envOfC qual scope s.heap.objs.size f cd::outer))) I2.ok.frames rfl (λb o q=>PySem.W.of_hideAll _ q) (PySem.W.funFrames_hide XS hin) hx λh4 t x1 x4=> ?_
 refine⟨a,.ref C,t,_,H2,rfl,I2.os,I2.bare,x1,?_,q2,λh5 k5 u5=> ?_⟩
 ·cases e:H2 a with
  |none=>rfl
  |some o=>
   obtain⟨u,hu⟩:=(I2.hok a o e).here
   rw[hx.new]at hu
   cases hu
 ·refine NJ I2 rfl k5 λb hb o e=> ?_
  obtain⟨_,o',e',nf⟩:=XS.mem (show b∈frs (envOfC qual scope s.heap.objs.size f cd::outer)from by
   obtain⟨env,h1,h2⟩:=List.mem_filterMap.mp hb
   exact List.mem_filterMap.mpr ⟨env,List.mem_cons_of_mem _ h1,h2⟩)
  obtain rfl:o'=o:=Option.some.inj (e'.symm.trans e)
  obtain⟨sl,e4⟩:=x4 b o' (hx.keeps b o' e) nf
  obtain⟨sl2,e5⟩:=u5 b _ e4 nf
  exact⟨sl2,e5⟩
end
section
variable{X:Cx}{pins:List (Addr×Obj)}{σ:St}{H:Hp}{s:Shared}
theorem KQ{M:Model}{A:Around}{E:Value->Shared->Prop}{i:Nat}{x:Str}{v:V}{Q:Unit->Shared->Prop}(I:Inv X pins σ H s)(hN:X.N.Nodup)(hi:X.N[i]?=some x)(hk:X.env.scope.names.lookup x=some .local)(hv:σ[i]?=some (some v))
  (h:∀s',Inv X pins (σ.set i none) H s'->Q () s'):wpAny M A (unbindName X.env x) Q E s:=by
 obtain⟨m,hn,hl⟩:=id I.loc
 have hcls:(X.env.scope.kind== .class||(X.env.scope.kind== .module && X.env.locals !=X.env.globals))=false:=by rw[I.ok.kind];rfl
 have JQ:i<σ.length:=by rw[I.len];exact(List.getElem?_eq_some_iff.mp hi).1
 have MD:=I.MD
 have tracked:∀{a:Addr}{h':Heap},(∃o,s.heap.get? a=some o/\H a=none) ->Heap.SameBut a s.heap h'->vE X.prog X.w H h':=λ {a h'} ha hs b ob e=>by
  obtain⟨_,_,hfree⟩:=ha
  refine(I.hok b ob e).stay (λc w' hc q=>(hs.2 c ?_).trans q) (λ_ q=>q) λ_ _ q=>q
  rintro rfl
  rcases hc with rfl|hc
  ·rw[hfree]at e;cases e
  ·rw[hfree]at hc;cases hc
 obtain⟨u0,r0,lk⟩:=hl i x v hi hv (.inl hk)
 have em:m x=some u0:=by
  rcases lk with⟨_,e⟩|⟨k,_⟩
  ·exact e
  ·have hk':X.env.kindOf x=some .local:=hk
   rcases k with k|k<;>(rw[hk']at k;cases k)
 refine wpAny_unbindName_local hk hn em hcls (λh' u hn' hs=> ?_)
 obtain⟨oL,_,_,Wy,_⟩:=id hn
 refine h _ ⟨I.ok,I.os,I.bare,⟨λb o e n hb hx=> ?_,λb o e n hb hx=> ?_,I.base.free,λb o e hx=> ?_,I.base.tups,I.base.uo,I.base.vF⟩,⟨_,hn',λj y v' e1 e2 e3=> ?_⟩,λy c e=> ?_,I.free,I.jO,λp hp=> ?_,tracked ⟨oL,Wy,I.free⟩ hs,by simpa using I.len⟩
 ·exact(hs.2 b (Nat.ne_of_lt (Nat.lt_of_lt_of_le (Heap.lt_size e) I.ok.above))).trans (I.base.keep b o e n hb hx)
 ·obtain⟨sl,e1⟩:=I.base.slot b o e n hb hx
  exact⟨sl,(hs.2 b (Nat.ne_of_lt (Nat.lt_of_lt_of_le (Heap.lt_size e) I.ok.above))).trans e1⟩
 ·obtain⟨o',e1⟩:=I.base.there b o e hx
  exact⟨o',(hs.2 b (Nat.ne_of_lt (Nat.lt_of_lt_of_le (Heap.lt_size e) I.ok.above))).trans e1⟩
 ·by_cases hj:j=i
  ·subst hj
   rw[List.getElem?_set_self JQ]at e2
   cases e2
  ·rw[List.getElem?_set_ne (Ne.symm hj)]at e2
   obtain⟨u',r',q⟩:=hl j y v' e1 e2 e3
   refine⟨u',r',?_⟩
   rcases q with⟨k,e⟩|⟨k,c,e,z⟩
   ·refine .inl ⟨k,?_⟩
    have:y≠x:=λe=>hj (yf hN e1 (e▸hi))
    simp[this,e]
   ·exact .inr ⟨k,c,e,z.sameBut hs (MD y c e)⟩
 ·obtain⟨w',z⟩:=I.cell y c e
  exact⟨w',z.sameBut hs (MD y c e)⟩
 ·obtain⟨e,n,ne,nf,d⟩:=I.pin p hp
  exact⟨(hs.2 p.1 ne).trans e,n,ne,nf,d⟩
def Cx.hand(X:Cx)(a:Addr)(oe:Obj):Cx:={X with A:=X.A.mark (some (.ref a)),calm:=false,pn:=(a,oe)::X.pn,xe:=λ_ _=>False}
theorem Cx.Ok.hand(ok:X.Ok)(a:Addr)(oe:Obj):(X.hand a oe).Ok:=
 ⟨ok.mod,ok.kind,ok.glob,ok.blt,ok.above,ok.inj,ok.has,ok.Uj,(λz=>by cases z),ok.frames,ok.stk,ok.MC,ok.bs,ok.ID,ok.BK,ok.Aj,ok.sr,ok.QN⟩
theorem Inv.hand(I:Inv X pins σ H s){a:Addr}{oe:Obj}(e:s.heap.get? a=some oe)(n:H a=none)(nl:a≠X.env.locals)(nf:a∉X.fs)(d:∀v,oe.data≠ .cell v):Inv (X.hand a oe) pins σ H s:=
 ⟨I.ok.hand a oe,I.os,I.bare,I.base,I.loc,I.cell,I.free,I.jO,λp hp=>by
  rcases List.mem_cons.mp (show p∈(a,oe)::(X.pn++pins)from hp)with rfl|hp
  ·exact⟨e,n,nl,nf,d⟩
  ·exact I.pin p hp,I.hok,I.len⟩
theorem Inv.VD{a:Addr}{oe:Obj}(ok:X.Ok)(I:Inv (X.hand a oe) pins σ H s):Inv X pins σ H s:=
 ⟨ok,I.os,I.bare,I.base,I.loc,I.cell,I.free,I.jO,λp hp=>I.pin p (show p∈(a,oe)::(X.pn++pins)from List.mem_cons_of_mem _ hp),I.hok,I.len⟩
def GQ(sp:Sp)(E:XK)(Et:St)(t:TA):TE:=λσ H Q=>σ=Et/\t σ H λvs H1=>sp vs H1 Q E
theorem NK{CX:Gh}{k:Nat}{f:Addr}{fd:FuncData}{ps:List Str}{sp:Sp}{x:Str}{E:XK}{e:Expr}{es:List Expr}{t:TA}{p pos:Pos}{Et:St}(F:qD X.prog X.w X.K X.mg X.base CX k f fd ps sp)(hr:gr k X.A)(hg:Gl X x)(hm:X.mg x=some (.ref f))(hk:PySem.W.keepIn X.K (.ref f)=true)(hb:Binds X.K fd ps [])
  (hx:∀pins H s e s',Inv X pins Et H s->CX X.stack H s E e s'->X.xe e s')
  (ha:PA X (e::es) t)(hdb:(x==("__debug__":Str))=false)(he:starEach (e::es) X.env=(false,eval e X.env)::starEach es X.env)(hpl:(backTo pos (starEach es X.env)).any (·.1)=false):
  PE X (.Call (.Name x p) (e::es) [] pos) (GQ sp E Et t):=by
 intro pins s σ H Q I h
 obtain⟨rfl,h⟩:=h
 refine wpAny_Call_Name_kw (rR I hg hm ?_ hdb)
 refine PySem.W.callWith_K (h₀:=X.base) I.ok.mod.BJ hk (gj (ha pos pins s σ H _ I h) λus s1 ⟨vs,H1,I1,r,q⟩=>⟨I1.xh,?_⟩) he hpl
 have hl:us.length=ps.length:=by rw[<-r.length];exact F.len _ _ _ _ q
 have hb':=hb s1 us I1.xh (by rw[List.append_nil];exact hl)
 rw[List.append_nil]at hb'
 refine wpAny_call (codeAny_mono (F.run X.A X.stack s1 H1 ⟨us,[]⟩ us vs Q E hr I1.Va hb' r q) λr s' hq=> ?_)
 cases r with
 |error e=>exact hx pins H1 s1 e s' I1 hq
 |ok fl=>
  cases fl with
  |ret u=>exact I1.after hq
  |next=>exact False.elim hq
  |brk=>exact False.elim hq
  |cont=>exact False.elim hq
def NL(oe:Obj):Prop:=∃ws:Array Value,oe.data= .fields ws/\ws[2]?=some .none
def Ends.behind(D:Ends)(i:Nat):Ends:={nx:=λσ H=>D.nx (σ.set i none) H,rt:=D.rt,bk:=λσ H=>D.bk (σ.set i none) H,ct:=λσ H=>D.ct (σ.set i none) H}
theorem VE{H0:Hp}{s0 s':Shared}{E:XK}{e:Value}{D:Ends}{i:Nat}{n kx:Str}{CK:Addr}{b₀:Stmt}{suite:List Stmt}{np hpos:Pos}{th:Addr->Obj->TS}{EE:Value->Shared->Prop}
  (I0:Inv X pins σ H0 s0)(hst:X.stack=X.env::X.outer)(hfr:X.env.frame=some X.env.locals)(hN:X.N.Nodup)(hi:X.N[i]?=some n)(hn:X.env.scope.names.lookup n=some .local)
  (hgk:Gl X kx)(hmk:X.mg kx=some (.ref CK))(hdb:(kx==("__debug__":Str))=false)
  (hE:∀C o H2,E C o H2->PySem.W.exmOne X.K C (.ref CK)=some true/\ ∀(a:Addr)(oe:Obj),oe.cls=C->NL oe->H2 a=none->th a oe (D.behind i) (σ.set i (some (.ref a))) H2)
  (hs:∀a oe,vC (X.hand a oe) (b₀::suite) (th a oe))
  (hq:vO X.prog X.w X.stack H0 s0 E e s'):
  wpAny (model X.prog X.w) X.A (noteFrame e X.env) (λ_ s₂=>wpAny (model X.prog X.w) X.A (setFlight e none) (λ_ s₃=>wpAny (model X.prog X.w) X.A (handleBy e X.env [.ExceptHandler (some (.Name kx np)) (some n) (b₀::suite) hpos]) (SP X pins D) EE s₃) EE s₂) EE s':=by
 obtain⟨a,C,t,B,H',rfl,hos,hgo,hfl,ha,hq,after⟩:=hq
 obtain⟨hm,hth⟩:=hE _ _ _ hq
 have RU:=hfl
 rw[hst]at RU
 refine Bt (by rw[I0.ok.frames,hst]) hfr RU λh₄ NN VF=> ?_
 refine pJ NN λh₅ NO VG=> ?_
 have Zd:=VF.trans VG
 have I5:Inv X pins σ H' {s' with heap:=h₅}:=I0.AZ hos (after h₅ NO.stay Zd).1 (after h₅ NO.stay Zd).2 hgo (λb hb=>by cases hb)
 obtain⟨oe,Ze,hcl⟩:∃o,h₅.get? a=some o/\o.cls=C:=by
  obtain⟨ob,ws,tb,ot,us,x1,x2,x3,x4⟩:=NO.VC
  exact⟨ob,x1,x3⟩
 have I5h:∀{h:Heap} {tk},Fl B (X.env::X.outer) a C (.ref t) .none h->s'.heap.UpToSlots h-> ∃oe,oe.cls=C/\NL oe/\Inv (X.hand a oe) pins σ H' {s' with heap:=h,toks:=tk}:=λ {h tk} hf sm=>by
  obtain⟨oe,ws,tb,ot,us,e1,e3,e2,e4,e5',_⟩:=hf.VC
  have I6:Inv X pins σ H' {s' with heap:=h,toks:=tk}:=I0.AZ hos (after h hf.stay sm).1 (after h hf.stay sm).2 hgo (λb hb=>by cases hb)
  have nf:∀b∈frs (X.env::X.outer),a≠b:=λb hb z=>by
   obtain⟨_,o,e5,e6⟩:=hf.frm.mem hb
   rw[<-z]at e5
   have q:h.get? a=some oe:=e1
   rw[q]at e5
   cases e5
   exact e6 ws e3
  refine⟨oe,e2,⟨ws,e3,e5'⟩,I6.hand e1 ha ?_ ?_ (λv z=>by rw[e3]at z;cases z)⟩
  ·exact nf _ (List.mem_filterMap.mpr ⟨X.env,List.mem_cons_self,hfr⟩)
  ·intro z
   obtain⟨env,h1,h2⟩:=List.mem_filterMap.mp z
   exact nf a (List.mem_filterMap.mpr ⟨env,List.mem_cons_of_mem _ h1,h2⟩) rfl
 obtain⟨oe5,Zf,_,Ih5⟩:=I5h (tk:=s'.toks) NO Zd
 refine wpAny_handleBy_cons (codeAny_handlers_test (rR Ih5 hgk hmk ?_ hdb)) (by intro q;cases q)
 have LT:PySem.W.Looks (model X.prog X.w) h₅ (typeOf (.ref a)) C:=by
  rw[<-hcl]
  exact(PySem.W.Looks.ld Ze).andThen .now
 refine(PySem.W.exm_one (K:=X.K) I5.xh LT hm).here ?_
 refine codeAny_handlers_suite_as ?_
 refine pJ NO λh₆ aap aaq=> ?_
 obtain⟨Zg,ec6,nc6,I6⟩:=I5h (tk:=s'.toks) aap (Zd.trans aaq)
 refine oA (X:=X.hand a Zg) I6 hN hi (.inl hn) (v:= .ref a) rfl (λs7 I7=> ?_) (.inr hn)
 have r7:=hs a Zg pins s7 _ H' (D.behind i) I7 (hth a Zg ec6 nc6 ha)
 refine wpAny_mono r7 (λfl s8 q8=> ?_) (λ_ _ z=>False.elim z)
 have fin:∀{σ':St}{H2:Hp},Inv (X.hand a Zg) pins σ' H2 s8->(∀s9,Inv X pins (σ'.set i none) H2 s9->SP X pins D fl s9) ->wpAny (model X.prog X.w) X.A (do bindName X.env n .none;unbindBehindTheSuite X.env n hpos) (λ_ s₃=>SP X pins D fl s₃) EE s8:=λ {σ' H2} J k=>by
  have J:=J.VD I0.ok
  refine wpAny_bind (wpAny_bindName (oA J hN hi (.inl hn) (v:= .fP) rfl (λs9 I9=> ?_) (.inr hn)))
  have JQ:i<σ'.length:=by rw[J.len];exact(List.getElem?_eq_some_iff.mp hi).1
  unfold unbindBehindTheSuite
  refine wpAny_onRaise (KQ I9 hN hi hn (List.getElem?_set_self JQ) λs10 I10=> ?_)
  rw[List.set_set]at I10
  exact k s10 I10
 show wpAny (model X.prog X.w) X.A (do bindName X.env n .none;unbindBehindTheSuite X.env n hpos) (λ_ s₃=>SP X pins D fl s₃) EE s8
 cases fl with
 |next=>obtain⟨σ',H2,J,q⟩:=q8;exact fin J λs9 I9=>⟨_,H2,I9,q⟩
 |brk=>obtain⟨σ',H2,J,q⟩:=q8;exact fin J λs9 I9=>⟨_,H2,I9,q⟩
 |cont=>obtain⟨σ',H2,J,q⟩:=q8;exact fin J λs9 I9=>⟨_,H2,I9,q⟩
 |ret u=>obtain⟨v,σ',H2,J,r,q⟩:=q8;exact fin J λs9 I9=>⟨v,_,H2,I9,r,q⟩
def Cx.tried(X:Cx)(pn:List (Addr×Obj))(xe:Value->Shared->Prop):Cx:={X with pn:=pn,xe:=xe}
theorem Cx.Ok.tried(ok:X.Ok)(pn:List (Addr×Obj))(xe:Value->Shared->Prop):(X.tried pn xe).Ok:=
 ⟨ok.mod,ok.kind,ok.glob,ok.blt,ok.above,ok.inj,ok.has,ok.Uj,ok.hd,ok.frames,ok.stk,ok.MC,ok.bs,ok.ID,ok.BK,ok.Aj,ok.sr,ok.QN⟩
theorem Inv.tried(I:Inv X pins σ H s)(xe:Value->Shared->Prop):Inv (X.tried (X.pn++pins) xe) [] σ H s:=
 ⟨I.ok.tried _ _,I.os,I.bare,I.base,I.loc,I.cell,I.free,I.jO,λp hp=>I.pin p (by rcases List.mem_append.mp hp with z|z;exact z;cases z),I.hok,I.len⟩
theorem Inv.uH{ql:List (Addr×Obj)}{xe:Value->Shared->Prop}(ok:X.Ok)(I:Inv (X.tried (X.pn++pins) xe) ql σ H s):Inv X pins σ H s:=
 ⟨ok,I.os,I.bare,I.base,I.loc,I.cell,I.free,I.jO,λp hp=>I.pin p (List.mem_append_left _ hp),I.hok,I.len⟩
end
end L2
namespace L2
open PySem PySem.Spec PyProof.Rows PySem.W Builtin Builtin.ObjectAttr Builtin.Getset_descriptor
def ExcAt(x D:Addr)(h:Heap):Prop:=∃o,h.get? x=some o/\o.cls= .ref D
theorem ExcAt.ty{x D:Addr}{h:Heap}{M:Model}(p:ExcAt x D h):Looks M h (typeOf (.ref x)) (.ref D):=by
 obtain⟨o,e,c⟩:=p
 rw[<-c]
 exact(Looks.ld e).andThen .now
section
variable{K:Frag}{x D:Addr}
theorem NP{M:Model}{h:Heap}(X:K.In h)(ha:findIn K (.ref D) "__class__"=some (some (.builtin "object.__class__")))(hn:specialIn K (.builtin "object.__class__") "__get__"=some (some (.builtin "getset_descriptor.__get__")))(htk:takesIn K (.builtin "object.__class__")=some true):
  Looks M h (find (.ref x) (.ref D) "__class__") (.bind (.builtin "getset_descriptor.__get__") (.builtin "object.__class__")):=by
 have q1:=looks_findIn (M:=M) X ha
 have q2:Looks M h (getOf (some (.builtin "object.__class__"))) (some (.builtin "getset_descriptor.__get__")):=looks_specialIn X hn
 have q3:Looks M h (dataDescriptor? (some (.builtin "object.__class__")) (some (.builtin "getset_descriptor.__get__"))) (some (.builtin "getset_descriptor.__get__",.builtin "object.__class__")):=(looks_takesIn (M:=M) X htk).andThen .now
 exact q1.andThen (q2.andThen (q3.andThen (Looks.tag .now)))
theorem RV{prog:Program}{w:World}{A:Around}{R:Result->Shared->Prop}{s:Shared}{tp:Value}(X:K.In s.heap)(p:ExcAt x D s.heap)(hm:mroIn K D (.type "object")=some true)(h:R (.ok (.ret (.ref D))) s):
  codeAny (model prog w) A (.call (.builtin "getset_descriptor.__get__") ⟨[.builtin "object.__class__",.ref x,tp],[]⟩) R s:=by
 obtain⟨h0,g0,d0,t0,o0⟩:=s
 have q0:=p.ty (M:=model prog w)
 have q1:=looks_mroIn (M:=model prog w) X hm
 refine codeAny_call_builtin KF.slot_gs.plain KF.entry_gs (KF.slot_gs.check _ _ _ _ _ _ _ _ KF.type_class (KF.args_gs _ _ _) (?_:wpAny _ _ _ _ _ _))
 unfold Builtin.«getset_descriptor.__get__» descrGet;rw[dga_obj];refine wpAny_bind (wpAny_pure ?_)
 unfold descrGetter descrCheckInstance descrNameAndClass isInstance;simp only[KF.owner_class];repeat lk
 refine⟨Code.quiet_builtin _ (by decide+kernel),codeAny_builtin KF.entry_class (?_:wpAny _ _ _ _ _ _)⟩;unfold Builtin.«object.__class__» shownTypeOf;repeat lk
 exact h
theorem RW:builtinKind "BaseException.__getattribute__"=some .slot:=by decide+kernel
theorem NQ:splitId "BaseException.__getattribute__"=some ("BaseException","__getattribute__"):=by decide+kernel
theorem VH:(Value.builtin "BaseException.__getattribute__"==Value.builtin "object.__getattribute__")=false:=by decide+kernel
theorem KR{M:Model}{A:Around}{E:Value->Shared->Prop}{Q:Unit->Shared->Prop}{s:Shared}{nv:Value}(X:K.In s.heap)(p:ExcAt x D s.heap)(hb:mroIn K D (.type "BaseException")=some true)(k:Q () s):wpAny M A (checkBuiltinCall "BaseException.__getattribute__" ⟨[.ref x,nv],[]⟩) Q E s:=by
 obtain⟨h0,g0,d0,t0,o0⟩:=s
 have q0:=p.ty (M:=M)
 have q1:=looks_mroIn (M:=M) X hb
 have ha:=F.args_bexc_ga (.ref x) nv
 simp only[checkBuiltinCall,RW,NQ]
 refine wpAny_bind ?_
 unfold isInstance
 repeat (first|lk|wp_step)
 exact k
theorem KS{prog:Program}{w:World}{A:Around}{E:Value->Shared->Prop}{Q:Fin->Shared->Prop}{s:Shared}{tk:Tok}(X:K.In s.heap)(p:ExcAt x D s.heap)(ha:findIn K (.ref D) "__class__"=some (some (.builtin "object.__class__")))(hn:specialIn K (.builtin "object.__class__") "__get__"=some (some (.builtin "getset_descriptor.__get__")))
  (htk:takesIn K (.builtin "object.__class__")=some true)(hm:mroIn K D (.type "object")=some true)(k:Q (.done (.ret (.ref D))) s):wpAny (model prog w) A (Builtin.«object.__getattribute__» ⟨[.ref x,.str "__class__" tk],[]⟩) Q E s:=by
 obtain⟨h0,g0,d0,t0,o0⟩:=s
 have q0:=p.ty (M:=model prog w)
 have q2:=NP (M:=model prog w) (x:=x) X ha hn htk
 unfold Builtin.«object.__getattribute__»
 repeat (first|lk|wp_step)
 refine wpAny_run (RV (s:=⟨h0,g0,d0,t0,o0⟩) X p hm ?_)
 exact wpAny_pure (wpAny_pure k)
theorem KU{prog:Program}{w:World}{A:Around}{E:Value->Shared->Prop}{Q:Option Value->Shared->Prop}{s:Shared}(h1:findIn K (.ref D) "__getattribute__"=some (some (.builtin "BaseException.__getattribute__")))(h2:findIn K (.ref D) "__getattr__"=some none)(hb:mroIn K D (.type "BaseException")=some true)(ha:findIn K (.ref D) "__class__"=some (some (.builtin "object.__class__")))(hn:specialIn K (.builtin "object.__class__") "__get__"=some (some (.builtin "getset_descriptor.__get__")))
  (htk:takesIn K (.builtin "object.__class__")=some true)(hm:mroIn K D (.type "object")=some true)(X:K.In s.heap)(p:ExcAt x D s.heap)(h:Q (some (.ref D)) {s with toks:=s.toks+1}):wpAny (model prog w) A (getAttr? (.ref x) "__class__") Q E s:=by
 obtain⟨h0,g0,d0,t0,o0⟩:=s
 have q0:=p.ty (M:=model prog w)
 have q1:=looks_findIn (M:=model prog w) X h1
 have q3:=looks_findIn (M:=model prog w) X h2
 unfold getAttr?;unfold getAttrBy?;unfold getAttrBy
 refine wpAny_bind (wpAny_mkText (wpAny_bind (wpAny_attempt (wpAny_holding (wpAny_bind (q0.at (wpAny_bind (q1.at ?_))))))))
 dsimp only
 rw[if_neg (show ¬((onTheHeap (Value.ref D) && Value.builtin "BaseException.__getattribute__"==Value.builtin "object.__getattribute__")=true)by rw[VH,Bool.and_false];exact Bool.false_ne_true)]
 unfold getAttrByItsOwn hookBefore
 refine wpAny_bind ?_
 rw[if_pos (show onTheHeap (Value.ref D)=true from rfl)]
 refine q3.at ?_
 refine wpAny_bind (wpAny_attempt (wpAny_holding ?_))
 show wpAny _ _ (boundAndCalled (.builtin "BaseException.__getattribute__") (.ref x) _) _ _ _
 unfold boundAndCalled
 rw[F.attr_ValueError.ga.bind (.ref x)]
 refine wpAny_bind (wpAny_pure ?_)
 refine wpAny_call (codeAny_call_builtin F.attr_ValueError.ga.plain F.entry_bexc_ga (KR (s:=⟨h0,g0,d0,t0+1,o0⟩) X p hb (KS (s:=⟨h0,g0,d0,t0+1,o0⟩) X p ha hn htk hm ?_)))
 show wpAny _ _ (handedOut (Value.ref D)) _ _ _
 exact handed_on rfl (wpAny_pure h)
theorem Eu{oD:Obj}(h1:findIn K (.ref D) "__getattribute__"=some (some (.builtin "BaseException.__getattribute__")))(h2:findIn K (.ref D) "__getattr__"=some none)(hb:mroIn K D (.type "BaseException")=some true)(ha:findIn K (.ref D) "__class__"=some (some (.builtin "object.__class__")))(hn:specialIn K (.builtin "object.__class__") "__get__"=some (some (.builtin "getset_descriptor.__get__")))
  (htk:takesIn K (.builtin "object.__class__")=some true)(hm:mroIn K D (.type "object")=some true)(hl:K.lookup D=some oD)(hc:oD.cls= .type "type")(hi:kitCls K (.ref D) (.ref D)=some true):KitX K (.ref x) (.ref D) (ExcAt x D):=
 ⟨λ_ _ _ p=>p.ty,λM h X _=>(kit_cls (M:=M) X hi).2.1,λh tp dd its n sl X e=>by
  rcases Nat.decEq D tp with z|z
  ·exact Bool.eq_false_iff.mpr λq=>z (Value.ref.inj (beq_iff_eq.mp q))
  ·subst z
   have:=(X _ _ hl).symm.trans e
   cases this
   exact absurd (Value.type.inj hc) (by decide),λX p k=>KU h1 h2 hb ha hn htk hm X p k⟩
structure Cp(K:Frag)(D:Addr):Prop where
 ga:findIn K (.ref D) "__getattribute__"=some (some (.builtin "BaseException.__getattribute__"))
 gh:findIn K (.ref D) "__getattr__"=some none
 mb:mroIn K D (.type "BaseException")=some true
 at_:findIn K (.ref D) "__class__"=some (some (.builtin "object.__class__"))
 spc:specialIn K (.builtin "object.__class__") "__get__"=some (some (.builtin "getset_descriptor.__get__"))
 tak:takesIn K (.builtin "object.__class__")=some true
 mro:mroIn K D (.type "object")=some true
 lk:∃oD,K.lookup D=some oD/\oD.cls= .type "type"
 slf:kitCls K (.ref D) (.ref D)=some true
def VI:V->Value
 | .ref C=> .ref C
 | .ty n=> .type n
 |_=> .none
theorem lZ{X:Cx}:qC X (.builtin "isinstance") (λxs H Q=> ∃(a D:Addr)(oe:Obj)(c:V)(b:Bool),xs=[.ref a,c]/\(a,oe)∈X.pn/\oe.cls= .ref D/\Cp X.K D/\kitOne X.K (.ref D) (VI c)=some b/\VI c≠ .none/\Q (.bl b) H):=by
 intro pins s σ H xs us Q I r h
 obtain⟨a,D,oe,c,b,rfl,hp,hc,⟨y1,y2,y3,z2,z3,z4,z5,⟨oD,z6,z7⟩,z8⟩,e,nn,q⟩:=h
 cases r with
 |cons r1 r2=>
  cases r2 with
  |cons r2 r3=>
   cases r3
   cases r1
   have hh:=(I.pin (a,oe) (List.mem_append_left _ hp)).1
   have go:∀v,v=VI c->wpAny (model X.prog X.w) X.A (call (.builtin "isinstance") [.ref a,v]) (EP X pins σ Q) X.xe s:=λv ev=>by
    subst ev
    exact kia_one (Eu y1 y2 y3 z2 z3 z4 z5 z6 z7 z8) I.xh ⟨oe,hh,hc⟩ e (λz=>nomatch z) λtk=>⟨.bl b,H,I.tok _,rfl,q⟩
   cases c with
   |ref C=>cases r2;exact go _ rfl
   |ty n=>cases r2;exact go _ rfl
   |_=>exact absurd rfl nn
end
end L2
namespace L2
open PySem PySem.Spec PyProof.Rows
section
variable{P:Program}{w:World}{K:PySem.W.Frag}{mg:Str->Option Value}{base:Heap}
theorem Kf.QU{x qual:Str}{st:Stmt}{f:Addr}{fd:FuncData}{N ps:List Str}{k:Nat}{sp:Sp}(F:Kf K x qual st f fd)(S:aP N ps (aC st))(len:∀vs H Q E,sp vs H Q E->vs.length=ps.length)
  (hbody:∀(cdv:Value)(A:Around)(outer:List Env)(s:Shared)(H:Hp)(vs:List V)(Q:VK)(E:XK),gr k (A.deeper (envOfC qual (aC st) s.heap.objs.size f cdv)) ->sp vs H Q E->
   ∃t,vC (qx (vO P w) P w K mg base N qual (aC st) f cdv A outer s H E) (fz st) t/\t {nx:=λ_ H'=>Q .fP H',rt:=Q} (start N vs) H):qD P w K mg base (vO P w) (k+1) f fd ps sp:=by
 obtain⟨oc,od,kV,doc,pm,an,cdv,ct,osl,rfl,lk,hcd⟩:=F.ex
 exact MS lk hcd S len λA outer s H vs Q E hr Gi=>hbody cdv A outer s H vs Q E hr Gi
theorem Ew{N:List Str}{qual:Str}{scope:Scope}{f:Addr}{cd:Value}{A:Around}{outer:List Env}{s:Shared}{H:Hp}{E:XK}:
  Passes (vO P w) (qx (vO P w) P w K mg base N qual scope f cd A outer s H E) E:=by
 intro pins σ H1 s1 e s' I h
 obtain⟨a,C,t,B,H',rfl,hos,hgo,hfl,ha,hq,after⟩:=h
 refine GO (outer:=outer) I.ok.frames rfl hfl λh' RU sm=> ?_
 refine⟨a,C,t,B,H',rfl,hos.trans I.os,I.bare.trans hgo,RU,ha,hq,λh5 k5 u5=> ?_⟩
 have af:=after h5 k5 (sm.trans u5)
 have J:Inv _ pins σ H' {s' with heap:=h5}:=I.AZ (s':={s' with heap:=h5}) hos af.1 af.2 hgo (λb hb=>by cases hb)
 exact⟨J.base,J.hok⟩
theorem nu{x:Str}{C:Addr}{bmB:List Value}{newId:String}(X:K.In base)(hm:mg x=some (.ref C))(q:PySem.W.excIn K C bmB newId=true):OwnCls x C bmB newId mg base:=by
 refine⟨hm,?_⟩
 unfold PySem.W.excIn at q
 split at q
 rotate_left
 ·cases q
 rename_i dd cd sl ho
 split at q
 rotate_left
 ·cases q
 rename_i C1 bm k0 k1 k2 k3 n k5 hm1 hs1
 simp only[Bool.and_eq_true,beq_iff_eq,Bool.not_eq_true']at q;obtain⟨⟨⟨⟨⟨z1,z2⟩,z3⟩,z4⟩,z5⟩,z6⟩:=q
 subst z1 z2
 obtain⟨nm,bs,mro,ns,qn,hd,sn,sub,ab,col,del⟩:=cd
 dsimp only at hm1 z3 z5 z6;subst hm1 z3
 obtain⟨sll⟩:=sl
 have e:sll=[k0,k1,k2,k3,some (.builtin n),k5]:=hs1
 subst e
 exact⟨bm,ns,nm,qn,bs,hd,sn,sub,ab,col,dd,k0,k1,k2,k3,k5,_,X _ _ ho,.of_isNs (PySem.W.isNs_of_in X z5),PySem.W.nsMap_none_of_in X z5 z6,PySem.W.tail_of_in X z4⟩
end
section
variable{X:Cx}{pins:List (Addr×Obj)}{σ:St}{H:Hp}{s:Shared}
def HX(X:Cx)(CK:Addr)(i:Nat)(th:Addr->Obj->TS)(D:Ends)(σ:St):XK:=λC _ H2=>PySem.W.exmOne X.K C (.ref CK)=some true/\ ∀(a:Addr)(oe:Obj),oe.cls=C->NL oe->H2 a=none->th a oe (D.behind i) (σ.set i (some (.ref a))) H2
abbrev XW(X:Cx)(kx:Str)(np:Pos)(n:Str)(suite:List Stmt)(hpos:Pos)(pins:List (Addr×Obj))(D:Ends):Value->Shared->Prop:=λe s1=>wpAny (model X.prog X.w) X.A (noteFrame e X.env) (λ_ s₂=>wpAny (model X.prog X.w) X.A (setFlight e none) (λ_ s₃=>wpAny (model X.prog X.w) X.A (handleBy e X.env [.ExceptHandler (some (.Name kx np)) (some n) suite hpos]) (SP X pins D) X.xe s₃) X.xe s₂) X.xe s1
structure Jh(X:Cx)(CK:Addr)(i:Nat)(n kx:Str):Prop where
 stk:X.stack=X.env::X.outer
 fr:X.env.frame=some X.env.locals
 nd:X.N.Nodup
 at_:X.N[i]?=some n
 loc:X.env.scope.names.lookup n=some .local
 gl:Gl X kx
 glo:X.mg kx=some (.ref CK)
 db:(kx==("__debug__":Str))=false
theorem NR{i:Nat}{n kx fx:Str}{CK f:Addr}{b₀:Stmt}{suite:List Stmt}{np hpos p cpos:Pos}{th:Addr->Obj->TS}{k:Nat}{fd:FuncData}{ps:List Str}{sp:Sp}{e:Expr}{es:List Expr}{ta:TA}{D:Ends}{Et:St}
  (ok:X.Ok)(T:Jh X CK i n kx)
  (F:qD X.prog X.w X.K X.mg X.base (vO X.prog X.w) k f fd ps sp)(hr:gr k X.A)(hg:Gl X fx)(hm:X.mg fx=some (.ref f))(hk:PySem.W.keepIn X.K (.ref f)=true)(hb:Binds X.K fd ps [])
  (hs:∀a oe,vC (X.hand a oe) (b₀::suite) (th a oe))
  (ha:PA (X.tried (X.pn++pins) (XW X kx np n (b₀::suite) hpos pins D)) (e::es) ta)
  (hdf:(fx==("__debug__":Str))=false:=by decide)(he:starEach (e::es) X.env=(false,eval e X.env)::starEach es X.env:=by rfl)(hpl:(backTo cpos (starEach es X.env)).any (·.1)=false:=by rfl):
  PE (X.tried (X.pn++pins) (XW X kx np n (b₀::suite) hpos pins D)) (.Call (.Name fx p) (e::es) [] cpos) (GQ sp (HX X CK i th D Et) Et ta):=
 NK (p:=p) (Et:=Et) F hr hg hm hk hb (λql H0 s0 e s' I0 hq=>VE (I0.uH ok) T.stk T.fr T.nd T.at_ T.loc T.gl T.glo T.db (λC o H2 z=>z) hs hq) ha hdf he hpl
theorem VJ{CK:Addr}{i:Nat}{n kx:Str}{suite body:List Stmt}{np hpos pos:Pos}{th:Addr->Obj->TS}{tb:Ends->St->TS}(T:Jh X CK i n kx)(hs:∀a oe,vC (X.hand a oe) suite (th a oe))
  (hb:X.Ok->Jh X CK i n kx->(∀a oe,vC (X.hand a oe) suite (th a oe)) -> ∀(pins:List (Addr×Obj))(D:Ends)(σ:St),vC (X.tried (X.pn++pins) (XW X kx np n suite hpos pins D)) body (tb D σ)):
  PS X (.Try body [.ExceptHandler (some (.Name kx np)) (some n) suite hpos] [] [] pos) (λD σ H=>tb D σ D σ H):=by
 intro pins s σ H D I h
 refine wpAny_Try_except ?_
 refine wpAny_mono (hb I.ok T hs pins D σ [] s σ H D (I.tried _) h) (λfl s1 q=> ?_) (λe s1 q=>q)
 cases fl with
 |next=>
  obtain⟨σ',H',J,q⟩:=q
  exact wpAny_execs_nil ⟨σ',H',J.uH I.ok,q⟩
 |brk=>obtain⟨σ',H',J,q⟩:=q;exact⟨σ',H',J.uH I.ok,q⟩
 |cont=>obtain⟨σ',H',J,q⟩:=q;exact⟨σ',H',J.uH I.ok,q⟩
 |ret u=>
  obtain⟨v,σ',H',J,r,q⟩:=q
  exact⟨v,σ',H',J.uH I.ok,r,q⟩
end
structure m5(k:Nat)(A:Around):Prop where
 dp:A.depth+3*k+5<recursionLimit
 un:A.units+16*k+200<cLine
theorem m5.of{k:Nat}{A:Around}(r:gr k A):m5 k A:=⟨r.dp,r.un⟩
theorem m5.mark{k:Nat}{A:Around}{h:Option Value}(r:m5 k A):m5 k (A.mark h):=⟨r.dp,r.un⟩
theorem m5.mono{j k:Nat}{A:Around}(r:m5 k A)(h:j<=k):m5 j A:=⟨by have:=r.dp;omega,by have:=r.un;omega⟩
def cxH(P:Program)(w:World)(K:PySem.W.Frag)(mg:Str->Option Value)(base:Heap)(N:List Str)(qual:Str)(scope:Scope)(f:Addr)(cd:Value)(A:Around)(outer:List Env)(s:Shared)(H:Hp)(a:Addr)(oe:Obj):Cx:=
 {qx c8 P w K mg base N qual scope f cd A outer s H E0 with calm:=false,pn:=[(a,oe)],xe:=λ_ _=>False}
structure yI(P:Program)(w:World)(K:PySem.W.Frag)(mg:Str->Option Value)(base:Heap)(k:Nat)(f:Addr)(fd:FuncData)(ps:List Str)(sp:Addr->Obj->Sp):Prop where
 len:∀a oe vs H Q E,sp a oe vs H Q E->vs.length=ps.length
 run:∀(a:Addr)(oe:Obj)(A:Around)(outer:List Env)(s:Shared)(H:Hp)(args:Args)(us:List Value)(vs:List V)(Q:VK),m5 k A->JY P w K mg base A outer s H->BindsTo s fd args (ps.zip us) ->Vals vs us->
  s.heap.get? a=some oe->H a=none->a∉frs outer->(∀v,oe.data≠ .cell v) ->sp a oe vs H Q E0->codeAny (model P w) A (.call (.ref f) args) (CR c8 outer P w H s Q E0) s
theorem yI.mono{P:Program}{w:World}{K:PySem.W.Frag}{mg:Str->Option Value}{base:Heap}{j k:Nat}{f:Addr}{fd:FuncData}{ps:List Str}{sp:Addr->Obj->Sp}(F:yI P w K mg base j f fd ps sp)(h:j<=k):
  yI P w K mg base k f fd ps sp:=⟨F.len,λa oe A outer s H args us vs Q hr=>F.run a oe A outer s H args us vs Q (hr.mono h)⟩
theorem Kf.okH{P:Program}{w:World}{K:PySem.W.Frag}{mg:Str->Option Value}{base:Heap}{x qual:Str}{st:Stmt}{f:Addr}{fd:FuncData}{N ps:List Str}{k:Nat}{sp:Addr->Obj->Sp}(F:Kf K x qual st f fd)(S:aP N ps (aC st))(len:∀a oe vs H Q E,sp a oe vs H Q E->vs.length=ps.length)
  (hbody:∀(a:Addr)(oe:Obj)(cdv:Value)(A:Around)(outer:List Env)(s:Shared)(H:Hp)(vs:List V)(Q:VK),m5 k (A.deeper (envOfC qual (aC st) s.heap.objs.size f cdv)) ->sp a oe vs H Q E0->
   ∃t,vC (cxH P w K mg base N qual (aC st) f cdv A outer s H a oe) (fz st) t/\t {nx:=λ_ H'=>Q .fP H',rt:=Q} (start N vs) H):yI P w K mg base (k+1) f fd ps sp:=by
 obtain⟨oc,od,kV,doc,pm,an,cdv,ct,osl,rfl,lk,hcd⟩:=F.ex
 refine⟨len,λa oe A outer s H args us vs Q hr e0 hb r Ze hna hnf hnc Gi=> ?_⟩
 have hl:=len _ _ _ _ _ _ Gi
 have KX:K.In s.heap:=e0.mod.BJ.keeps λb o e=>(e0.bs b o e).1
 have lim:s.heap.NoLimit:=e0.mod.nolimit.keeps λb o e=>(e0.bs b o e).1
 have hkind:∀y∈ps.zip us,(aC st).names.lookup y.1=some .local∨((aC st).names.lookup y.1=some .cell/\((cellsFrom (s.heap.objs.size+1) (aC st).names []).lookup y.1).isSome=true):=λ ⟨n,v⟩ hy=>
  (S.par n (List.of_mem_zip hy).1).elim .inl λq=> .inr ⟨q,PySem.W.cellsFrom_some _ _ _ (.inl q)⟩
 refine codeAny_call_function (show A.depth<recursionLimit by have:=hr.dp;omega) (KX _ _ lk) rfl S.co S.gen rfl (PySem.W.codeRec_of KX hcd) (hb _ _ _ _ ?_)
 refine wpAny_newFunctionEnv_cells S.kind hkind λenv he s1 x=> ?_
 subst he
 refine⟨lim.keeps x.toInCall.keep,codeAny_func ?_⟩
 have hr':m5 k (A.deeper (envOfC qual (aC st) s.heap.objs.size f cdv)):=⟨by have:=hr.dp;show A.depth+1+3*k+5<_;omega,by have:=hr.un;show A.units+3+16*k+200<_;omega⟩
 obtain⟨t,ht,hq⟩:=hbody a oe cdv A outer s H vs Q hr' Gi
 have e1:JY P w K mg base {A with handled:=none} outer s H:=⟨e0.frames,e0.mod,e0.bs,e0.ID,e0.sr,e0.QN,e0.hok,e0.bare⟩
 have I0:Inv (qx c8 P w K mg base N qual (aC st) f cdv {A with handled:=none} outer s H E0) [] (start N vs) H s1:=Bh S rfl e1 hl r x
 have ok:=I0.ok
 have I:Inv (cxH P w K mg base N qual (aC st) f cdv A outer s H a oe) [] (start N vs) H s1:=by
  refine⟨⟨ok.mod,ok.kind,ok.glob,ok.blt,ok.above,ok.inj,ok.has,ok.Uj,(λz=>by cases z),ok.frames,ok.stk,ok.MC,ok.bs,ok.ID,ok.BK,ok.Aj,ok.sr,ok.QN⟩,I0.os,I0.bare,I0.base,I0.loc,I0.cell,I0.free,I0.jO,λp hp=> ?_,I0.hok,I0.len⟩
  have e:p=(a,oe):=List.mem_singleton.mp (show p∈ [(a,oe)]from hp)
  subst e
  refine⟨I0.base.keep a oe Ze hna hnf (λz=>by cases z),hna,λz=> ?_,hnf,hnc⟩
  have lt:=Heap.lt_size Ze
  have z':a=s.heap.objs.size:=z
  rw[z']at lt
  exact Nat.lt_irrefl _ lt
 refine wpAny_mono (ht [] s1 (start N vs) H _ I hq) (λfl s' hs=> ?_) λe s' hs=>hs.elim
 have fin:∀{σ':St}{H':Hp}{v:V}{u:Value},Inv (cxH P w K mg base N qual (aC st) f cdv A outer s H a oe) [] σ' H' s'->RelV v u->Q v H'->CE outer P w H s Q u s':=
  λ {σ' H' v u} J rv q=>⟨v,H',J.os,J.bare,J.base,J.hok,rv,q⟩
 cases fl with
 |ret u=>obtain⟨v,σ',H',J,rv,q⟩:=hs;exact fin J rv q
 |next=>obtain⟨σ',H',J,q⟩:=hs;exact fin (v:=V.fP) (u:=Value.none) J rfl q
 |brk=>obtain⟨_,_,_,q⟩:=hs;exact q.elim
 |cont=>obtain⟨_,_,_,q⟩:=hs;exact q.elim
theorem NS{X:Cx}{k:Nat}{f:Addr}{fd:FuncData}{ps:List Str}{sp:Addr->Obj->Sp}{x:Str}{a:Addr}{oe:Obj}{e:Expr}{es:List Expr}{t:TA}{p pos:Pos}(F:yI X.prog X.w X.K X.mg X.base k f fd ps sp)(hr:m5 k X.A)(hg:Gl X x)(hm:X.mg x=some (.ref f))(hk:PySem.W.keepIn X.K (.ref f)=true)(hb:Binds X.K fd ps [])
  (hp:(a,oe)∈X.pn)(ha:PA X (e::es) t)(hdb:(x==("__debug__":Str))=false:=by decide)(he:starEach (e::es) X.env=(false,eval e X.env)::starEach es X.env:=by rfl)(hpl:(backTo pos (starEach es X.env)).any (·.1)=false:=by rfl):
  PE X (.Call (.Name x p) (e::es) [] pos) (qm (sp a oe) [] E0 t):=by
 intro pins s σ H Q I h
 refine wpAny_Call_Name_kw (rR I hg hm ?_ hdb)
 refine PySem.W.callWith_K (h₀:=X.base) I.ok.mod.BJ hk (gj (ha pos pins s σ H _ I h) λus s1 ⟨vs,H1,I1,r,q⟩=>⟨I1.xh,?_⟩) he hpl
 have q:sp a oe (vs++ []) H1 Q E0:=q
 rw[List.append_nil]at q
 have hl:us.length=ps.length:=by rw[<-r.length];exact F.len _ _ _ _ _ _ q
 have hb':=hb s1 us I1.xh (by rw[List.append_nil];exact hl)
 rw[List.append_nil]at hb'
 obtain⟨q1,q2,q3,q4,q5⟩:=I1.pin (a,oe) (List.mem_append_left _ hp)
 have Zc:a∉frs X.stack:=λz=>by
  rcases List.mem_cons.mp (I1.sQ a z)with y|y
  ·exact q3 y
  ·exact q4 y
 refine wpAny_call (codeAny_mono (F.run a oe X.A X.stack s1 H1 ⟨us,[]⟩ us vs Q hr I1.Va hb' r q1 q2 Zc q5 q) λr s' hq=> ?_)
 cases r with
 |error e=>exact False.elim hq
 |ok fl=>
  cases fl with
  |ret u=>exact I1.after hq
  |next=>exact False.elim hq
  |brk=>exact False.elim hq
  |cont=>exact False.elim hq
theorem Bu:∀{cs:List Addr}{us:List Value},Vals (cs.map V.ref) us->us=cs.map Value.ref
 | [],_,.nil=>rfl
 |c::cs,_,.cons a1 a2=>by
  cases a1
  rw[Bu a2]
  rfl
theorem KW{X:Cx}:qC X (.builtin "isinstance") (λxs H Q=> ∃(a D tp:Addr)(oe:Obj)(cs:List Addr)(b:Bool),xs=[.ref a,.ref tp]/\(a,oe)∈X.pn/\oe.cls= .ref D/\Cp X.K D/\H tp=some (.tup (cs.map V.ref))/\PySem.W.kitAny X.K (.ref D) (cs.map Value.ref)=some b/\Q (.bl b) H):=by
 intro pins s σ H xs us Q I r h
 obtain⟨a,D,tp,oe,cs,b,rfl,hp,hc,⟨y1,y2,y3,z2,z3,z4,z5,⟨oD,z6,z7⟩,z8⟩,et,e,q⟩:=h
 cases r with
 |cons r1 r2=>
  cases r2 with
  |cons r2 r3=>
   cases r3
   cases r1
   cases r2
   have hh:=(I.pin (a,oe) (List.mem_append_left _ hp)).1
   obtain⟨_,us,ru,ob,eo,ec,n,ed⟩:=(show fX X.prog X.w H s.heap tp (.tup (cs.map V.ref))from I.hok tp _ et)
   have eu:us=cs.map Value.ref:=Bu ru
   obtain⟨oc,od,dt,sl⟩:=ob
   dsimp only at ec ed
   subst ec ed eu
   exact PySem.W.kia_tup (Eu y1 y2 y3 z2 z3 z4 z5 z6 z7 z8) I.xh ⟨oe,hh,hc⟩ eo e (λz=>nomatch z) λtk=>⟨.bl b,H,I.tok _,rfl,q⟩
section
variable{X:Cx}
abbrev TJ:=Str->St->Hp->VK->Prop
def PJ(X:Cx)(es:List Expr)(t:TJ):Prop:=
 ∀(out:Str)(pins:List (Addr×Obj))(s:Shared)(σ:St)(H:Hp)(Q:VK),Inv X pins σ H s->t out σ H Q->wpAny (model X.prog X.w) X.A (joinParts out (evalEach es X.env)) (EP X pins σ Q) X.xe s
theorem VL:PJ X [] (λout _ H Q=>out.length<=sizeLine/\Q (.str out) H):=λout pins s σ H Q I h=>joinParts_nil ⟨.str out,H,I.tok _,⟨_,rfl⟩,h.2⟩ h.1
theorem VM{y:Str}{k:Nat}{p:Pos}{es:List Expr}{t:TJ}(hr:PJ X es t)(he:evalEach (.Constant (.str y) k p::es) X.env=eval (.Constant (.str y) k p) X.env::evalEach es X.env:=by rfl):
  PJ X (.Constant (.str y) k p::es) (λout σ H Q=>(out++y).length<=sizeLine/\t (out++y) σ H Q):=by
 intro out pins s σ H Q I h
 rw[he]
 exact joinParts_cons (Calls.Constant_str ⟨h.1,hr _ pins _ σ H Q (I.tok _) h.2⟩)
theorem VN{e:Expr}{p:Pos}{te:TE}{es:List Expr}{t:TJ}(ha:PE X e te)(hr:PJ X es t)(he:evalEach (.FormattedValue e (-1) none p::es) X.env=eval (.FormattedValue e (-1) none p) X.env::evalEach es X.env:=by rfl):
  PJ X (.FormattedValue e (-1) none p::es) (λout σ H Q=>te σ H λv H1=> ∃i:Int,v= .int i/\i.natAbs.log2<1920/\(out++Str.ofString (toString i)).length<=sizeLine/\t (out++Str.ofString (toString i)) σ H1 Q):=by
 intro out pins s σ H Q I h
 rw[he]
 refine joinParts_cons (FormattedValue_plain (gj (ha pins s σ H _ I h) λu s1 ⟨x,H1,I1,r1,i,e1,hl,hz,q⟩=> ?_))
 subst e1
 obtain⟨tk,rfl⟩:=r1
 exact formatField_int_small hl ⟨hz,hr _ pins _ σ H1 Q (I1.tok _) q⟩
def tFs(t:TJ):TE:=λσ H Q=>t Str.empty σ H Q
theorem RX{v1 v2:Expr}{rest:List Expr}{pos:Pos}{t:TJ}(h:PJ X (v1::v2::rest) t):PE X (.JoinedStr (v1::v2::rest) pos) (tFs t):=λpins s σ H Q I hq=>JoinedStr_many (h Str.empty pins s σ H Q I hq)
end
def GR:List Value:=[.type "ValueError",.type "Exception",.type "BaseException",.type "object"]
def Cq(K:PySem.W.Frag)(D:Addr):Bool:=
 PySem.W.findIn K (.ref D) "__getattribute__"==some (some (.builtin "BaseException.__getattribute__")) && PySem.W.findIn K (.ref D) "__getattr__"==some none && PySem.W.mroIn K D (.type "BaseException")==some true && PySem.W.findIn K (.ref D) "__class__"==some (some (.builtin "object.__class__")) && PySem.W.specialIn K (.builtin "object.__class__") "__get__"==some (some (.builtin "getset_descriptor.__get__")) &&
 PySem.W.takesIn K (.builtin "object.__class__")==some true && PySem.W.mroIn K D (.type "object")==some true && (match K.lookup D with|some oD=>oD.cls== .type "type"|none=>false) && PySem.W.kitCls K (.ref D) (.ref D)==some true
theorem KY{K:PySem.W.Frag}{D:Addr}(h:Cq K D=true):Cp K D:=by
 unfold Cq at h
 simp only[Bool.and_eq_true,beq_iff_eq]at h
 obtain⟨⟨⟨⟨⟨⟨⟨⟨g1,g2⟩,h1⟩,h2⟩,h3⟩,h4⟩,h5⟩,h6⟩,h7⟩:=h
 refine⟨g1,g2,h1,h2,h3,h4,h5,?_,h7⟩
 split at h6
 ·rename_i oD e
  exact⟨oD,e,beq_iff_eq.mp h6⟩
 ·cases h6
def GS(K:PySem.W.Frag)(CK:Addr)(Cs:List Addr):Bool:=
 decide Cs.Nodup && Cs.all λD=>Cq K D && PySem.W.exmOne K (.ref D) (.ref CK)==some true && PySem.W.kitOne K (.ref D) (.type "ValueError")==some true && PySem.W.excIn K D GR "ValueError.__new__" && Cs.all λC=>PySem.W.kitOne K (.ref D) (.ref C)==some (decide (D=C))
structure NT(K:PySem.W.Frag)(CK:Addr)(Cs:List Addr)(D:Addr):Prop where
 cls:Cp K D
 KZ:PySem.W.exmOne K (.ref D) (.ref CK)=some true
 val:PySem.W.kitOne K (.ref D) (.type "ValueError")=some true
 exc:PySem.W.excIn K D GR "ValueError.__new__"=true
 kit:∀C∈Cs,PySem.W.kitOne K (.ref D) (.ref C)=some (decide (D=C))
structure GU(K:PySem.W.Frag)(CK:Addr)(Cs:List Addr):Prop where
 nd:Cs.Nodup
 one:∀D∈Cs,NT K CK Cs D
theorem RY{K:PySem.W.Frag}{CK:Addr}{Cs:List Addr}(h:GS K CK Cs=true):GU K CK Cs:=by
 unfold GS at h
 rw[Bool.and_eq_true,decide_eq_true_eq,List.all_eq_true]at h
 refine⟨h.1,λD hD=> ?_⟩
 have q:=h.2 D hD
 simp only[Bool.and_eq_true,beq_iff_eq,List.all_eq_true]at q
 exact⟨KY q.1.1.1.1,q.1.1.1.2,q.1.1.2,q.1.2,q.2⟩
theorem GU.at{K:PySem.W.Frag}{CK:Addr}{Cs:List Addr}(X:GU K CK Cs)(i:Nat){D:Addr}(h:Cs[i]?=some D):NT K CK Cs D:=X.one D (List.mem_of_getElem? h)
theorem GU.kit{K:PySem.W.Frag}{CK:Addr}{Cs:List Addr}(X:GU K CK Cs)(i j:Nat){D C:Addr}(h:Cs[i]?=some D)(g:Cs[j]?=some C):PySem.W.kitOne K (.ref D) (.ref C)=some (decide (i=j)):=by
 rw[(X.at i h).kit C (List.mem_of_getElem? g)]
 congr 1
 rw[decide_eq_decide]
 constructor
 ·rintro rfl
  exact(List.getElem?_inj (List.getElem?_eq_some_iff.mp h).1 X.nd).mp (h.trans g.symm)
 ·rintro rfl
  exact Option.some.inj (h.symm.trans g)
theorem ie{K:PySem.W.Frag}{t:Value}:∀{cs:List Addr},(∀C∈cs,PySem.W.kitOne K t (.ref C)=some false) ->PySem.W.kitAny K t (cs.map Value.ref)=some false
 | [],_=>rfl
 |C::cs,h=>by
  show(match PySem.W.kitOne K t (.ref C)with|some true=>some true|some false=>PySem.W.kitAny K t (cs.map Value.ref)|none=>none)=_
  rw[h C List.mem_cons_self]
  exact ie λD hD=>h D (List.mem_cons_of_mem _ hD)
theorem xD:bootBuiltins "ValueError"=some (.type "ValueError"):=by decide+kernel
def hide(B:Addr)(H:Hp):Hp:=λa=>if a=B then none else H a
theorem gx(B:Addr)(H:Hp):av (hide B H) H:=λa o e=>by
 unfold hide at e
 split at e
 ·cases e
 ·exact e
theorem bR{B a:Addr}{H:Hp}{o:HO}(n:a≠B)(e:H a=some o):hide B H a=some o:=by
 unfold hide
 rw[if_neg n]
 exact e
theorem SB.hide{B:Addr}{H H':Hp}(h:SB B H H'):av (hide B H) (hide B H'):=λa o e=>by
 unfold L2.hide at e
 split at e
 ·cases e
 ·rename_i n
  exact bR n (h.1 a o n e)
theorem av.hide{B:Addr}{H H':Hp}(h:av H H'):av (hide B H) (hide B H'):=λa o e=>by
 unfold L2.hide at e
 split at e
 ·cases e
 ·rename_i n
  exact bR n (h a o e)
theorem oO{B t:Addr}{H:Hp}{bs:List Addr}{m:List (List Int)}(h:Tab H t bs m)(n:t≠B)(nb:B∉bs):Tab (hide B H) t bs m:=
 ⟨bR n h.1,h.2.xC λy b hb e=>bR (λz=>nb (by rw[<-z];exact hb)) e⟩
def NU(H:Hp)(v:V):Prop:=(∃d,DV H v d/\uE d=false)∨ ∃t bs m,v= .ref t/\Tab H t bs m/\cu m/\Bd 440 m/\ ¬(cC m/\d7 m=true)
theorem NU.same{H H':Hp}{v:V}(h:NU H v)(s:av H H'):NU H' v:=by
 rcases h with⟨d,h,e⟩|⟨t,bs,m,e,T,q⟩
 ·exact .inl ⟨d,h.same s,e⟩
 ·exact .inr ⟨t,bs,m,e,T.same s,q⟩
def jg(H:Hp)(v:V)(m:List (List Int)):Prop:=∃t bs,v= .ref t/\Tab H t bs m/\cu m/\Bd 440 m/\cC m/\d7 m=true
theorem jg.same{H H':Hp}{v:V}{m:List (List Int)}(h:jg H v m)(s:av H H'):jg H' v m:=by
 obtain⟨t,bs,e,T,q⟩:=h
 exact⟨t,bs,e,T.same s,q⟩
def gF(h:Int):PyData->Bool
 | .int p=>decide (p∈([3,5,7,11,13]:List Int)) && !decide (h%p=0)
 |_=>false
theorem Bv{h p:Int}(hp:p∈([3,5,7,11,13]:List Int))(n:h%p≠0):gF h (.int p)=true:=by
 show(decide (p∈([3,5,7,11,13]:List Int)) && !decide (h%p=0))=true
 rw[decide_eq_true hp,decide_eq_false n]
 rfl
theorem GV{h:Int}{d:PyData}(q:gF h d=true):∃p,d= .int p/\p∈([3,5,7,11,13]:List Int)/\h%p≠0:=by
 cases d with
 |int p=>
  have q:(decide (p∈([3,5,7,11,13]:List Int)) && !decide (h%p=0))=true:=q
  rw[Bool.and_eq_true,decide_eq_true_eq,Bool.not_eq_true',decide_eq_false_iff_not]at q
  exact⟨p,rfl,q.1,q.2⟩
 |_=>cases q
theorem yJ(p:Int):Xu (.int p) [.int 3,.int 5,.int 7,.int 11,.int 13]=decide (p∈([3,5,7,11,13]:List Int)):=by
 rw[Bool.eq_iff_iff,decide_eq_true_eq]
 simp only[Xu,List.any_cons,List.any_nil,Bool.or_eq_true,decide_eq_true_eq,List.mem_cons,List.not_mem_nil,or_false,V.int.injEq,Bool.false_eq_true]
 have e:∀z:Int,(Mz (V.int z) (V.int p)=true)↔p=z:=λz=>by
  show((decide (z=p))=true)↔_
  rw[decide_eq_true_eq]
  exact eq_comm
 rw[e,e,e,e,e]
theorem xq.append{H:Hp}:∀{xs ys:List V}{ds es:List PyData},xq H xs ds->xq H ys es->xq H (xs++ys) (ds++es)
 |_,_,_,_,.nil,q=>q
 |_,_,_,_,.cons a p,q=> .cons a (xq.append p q)
theorem Ex{H:Hp}{a0 a1 a2:Addr}{x0 x1 x2:Nat->Int}(h0:dR H a0 x0)(h1:dR H a1 x1)(h2:dR H a2 x2):xq H [.ref a0,.ref a1,.ref a2] [.list [.int (x0 0),.int (x0 1),.int (x0 2)],.list [.int (x1 0),.int (x1 1),.int (x1 2)],.list [.int (x2 0),.int (x2 1),.int (x2 2)]]:=
 .cons (qo h0) (.cons (qo h1) (.cons (qo h2) .nil))
theorem NV{ds:List PyData}(h:ds.length≠3):uE (.list ds)=false:=by
 unfold uE
 simp[h]
theorem yK{ds:List PyData}{d:PyData}(hd:d∈ds)(h:qO d=false):uE (.list ds)=false:=by
 have e:ds.all qO=false:=by
  rw[Bool.eq_false_iff]
  intro z
  rw[List.all_eq_true]at z
  rw[z d hd]at h
  cases h
 show(ds.length==3 && ds.all qO)=false
 rw[e,Bool.and_false]
theorem jl{h p:Int}(hn:p∉([3,5,7,11,13]:List Int)):gF h (.int p)=false:=by
 show(decide (p∈([3,5,7,11,13]:List Int)) && !decide (h%p=0))=false
 rw[decide_eq_false hn]
 rfl
theorem GW{h p:Int}(hn:h%p=0):gF h (.int p)=false:=by
 show(decide (p∈([3,5,7,11,13]:List Int)) && !decide (h%p=0))=false
 rw[decide_eq_true hn]
 exact Bool.and_false _
theorem uI{X:Cx}{i:Nat}{x:Str}{e:Expr}{te:TE}{pos' pos:Pos}(hN:X.N.Nodup)(hi:X.N[i]?=some x)(hx:Loc X.env.scope x)(he:FE X e te)(hs:swapsWith e (some (.Name x pos')) pos.line X.env=pure false)(hf:X.fn x=true∨X.env.scope.names.lookup x=some .local):
  Jb X [.Assign [.Name x pos'] e pos] (BL te (dX i)):=aI (aW hN hi hx he.h hs hf)
def l6:Nat->(Nat->Nat) ->Nat
 |0,_=>0
 |k+1,f=>l6 k f+f k
theorem l7{f g:Nat->Nat}:∀{k:Nat},(∀y,y<k->f y=g y) ->l6 k f=l6 k g
 |0,_=>rfl
 |k+1,h=>by
  show l6 k f+f k=l6 k g+g k
  rw[l7 λy hy=>h y (by omega),h k (by omega)]
theorem xu{n:Nat}(hn:0<n)(f:Nat->Nat->Bool):∀a,(List.range (a*n)).countP (λk=>f (k/n) (k%n))=l6 a λy=>(List.range n).countP (f y)
 |0=>by simp[l6]
 |a+1=>by
  rw[Nat.succ_mul,List.range_add,List.countP_append,xu hn f a,List.countP_map]
  show _=l6 a _+_
  congr 1
  refine List.countP_congr λk hk=> ?_
  rw[List.mem_range]at hk
  have e1:(a*n+k)/n=a:=by rw[Nat.add_comm,Nat.add_mul_div_right _ _ hn,Nat.div_eq_of_lt hk,Nat.zero_add]
  have e2:(a*n+k)%n=k:=by rw[Nat.add_comm,Nat.add_mul_mod_self_right,Nat.mod_eq_of_lt hk]
  show f ((a*n+k)/n) ((a*n+k)%n)=true↔f a k=true
  rw[e1,e2]
def Ji(q r:Nat):Nat:=(List.range q).countP λs=>s*s%q==r%q
def vP(q a b c:Nat):Nat:=(List.range q).countP λz=>(c*(z*z)+b*z+a)%q==0
def dY(q a:Nat):Bool:=(List.range q).all λb=>(List.range q).all λc=>c==0||vP q a b c==Ji q (b*b+4*(q-1)*(a*c))
def La(q:Nat):Bool:=(List.range q).all (dY q)
def aar(q:Nat):Bool:=(List.range q).all λa=>(List.range q).all λb=>vP q a b 0==if b==0 then(if a==0 then q else 0)else 1
def dZ(q a:Nat):Bool:=(List.range q).all λb=>(List.range q).all λc=>(b*b+4*(q-1)*(a*c))%q==0||Ji q c+l6 q (λy=>Ji q (a+b*y+c*(y*y)))==q+1
def Lb(q:Nat):Bool:=(List.range q).all (dZ q)
def aas(q:Nat):Bool:=(List.range q).all λe=>(List.range q).all λf=>f==0||l6 q (λy=>if(e+f*y)%q==0 then 0 else 1)==q-1
theorem NW:([3,5,7,11,13].all aar)=true:=by decide+kernel
theorem NX:([3,5,7,11,13].all aas)=true:=by decide+kernel
theorem RZ:dY 3 0=true:=by decide+kernel
theorem Sa:dY 3 1=true:=by decide+kernel
theorem Sb:dY 3 2=true:=by decide+kernel
theorem XT:La 3=true:=by
 refine List.all_eq_true.mpr λa ha=> ?_
 match a,List.mem_range.mp ha with
 |0,_=>exact RZ
 |1,_=>exact Sa
 |2,_=>exact Sb
theorem Sd:dY 5 0=true:=by decide+kernel
theorem Se:dY 5 1=true:=by decide+kernel
theorem Sf:dY 5 2=true:=by decide+kernel
theorem Sg:dY 5 3=true:=by decide+kernel
theorem Sh:dY 5 4=true:=by decide+kernel
theorem XU:La 5=true:=by
 refine List.all_eq_true.mpr λa ha=> ?_
 match a,List.mem_range.mp ha with
 |0,_=>exact Sd
 |1,_=>exact Se
 |2,_=>exact Sf
 |3,_=>exact Sg
 |4,_=>exact Sh
theorem Sj:dY 7 0=true:=by decide+kernel
theorem Sk:dY 7 1=true:=by decide+kernel
theorem Sl:dY 7 2=true:=by decide+kernel
theorem Sm:dY 7 3=true:=by decide+kernel
theorem Sn:dY 7 4=true:=by decide+kernel
theorem Sq:dY 7 5=true:=by decide+kernel
theorem Su:dY 7 6=true:=by decide+kernel
theorem XX:La 7=true:=by
 refine List.all_eq_true.mpr λa ha=> ?_
 match a,List.mem_range.mp ha with
 |0,_=>exact Sj
 |1,_=>exact Sk
 |2,_=>exact Sl
 |3,_=>exact Sm
 |4,_=>exact Sn
 |5,_=>exact Sq
 |6,_=>exact Su
theorem NY:dY 11 0=true:=by decide+kernel
theorem NZ:dY 11 1=true:=by decide+kernel
theorem Oa:dY 11 2=true:=by decide+kernel
theorem Ob:dY 11 3=true:=by decide+kernel
theorem Oc:dY 11 4=true:=by decide+kernel
theorem Od:dY 11 5=true:=by decide+kernel
theorem Oe:dY 11 6=true:=by decide+kernel
theorem Of:dY 11 7=true:=by decide+kernel
theorem Og:dY 11 8=true:=by decide+kernel
theorem Oh:dY 11 9=true:=by decide+kernel
theorem Lc:dY 11 10=true:=by decide+kernel
theorem VO:La 11=true:=by
 refine List.all_eq_true.mpr λa ha=> ?_
 match a,List.mem_range.mp ha with
 |0,_=>exact NY
 |1,_=>exact NZ
 |2,_=>exact Oa
 |3,_=>exact Ob
 |4,_=>exact Oc
 |5,_=>exact Od
 |6,_=>exact Oe
 |7,_=>exact Of
 |8,_=>exact Og
 |9,_=>exact Oh
 |10,_=>exact Lc
theorem Oi:dY 13 0=true:=by decide+kernel
theorem Oj:dY 13 1=true:=by decide+kernel
theorem Ol:dY 13 2=true:=by decide+kernel
theorem Om:dY 13 3=true:=by decide+kernel
theorem Oo:dY 13 4=true:=by decide+kernel
theorem Oq:dY 13 5=true:=by decide+kernel
theorem Ot:dY 13 6=true:=by decide+kernel
theorem Ou:dY 13 7=true:=by decide+kernel
theorem Ov:dY 13 8=true:=by decide+kernel
theorem Ow:dY 13 9=true:=by decide+kernel
theorem Ld:dY 13 10=true:=by decide+kernel
theorem Le:dY 13 11=true:=by decide+kernel
theorem Lf:dY 13 12=true:=by decide+kernel
theorem VP:La 13=true:=by
 refine List.all_eq_true.mpr λa ha=> ?_
 match a,List.mem_range.mp ha with
 |0,_=>exact Oi
 |1,_=>exact Oj
 |2,_=>exact Ol
 |3,_=>exact Om
 |4,_=>exact Oo
 |5,_=>exact Oq
 |6,_=>exact Ot
 |7,_=>exact Ou
 |8,_=>exact Ov
 |9,_=>exact Ow
 |10,_=>exact Ld
 |11,_=>exact Le
 |12,_=>exact Lf
theorem Ox:([3,5,7,11,13].all La)=true:=by
 simp only[List.all_cons,List.all_nil,XT,XU,XX,VO,VP,Bool.and_true]
theorem Sv:dZ 3 0=true:=by decide+kernel
theorem Sx:dZ 3 1=true:=by decide+kernel
theorem Sy:dZ 3 2=true:=by decide+kernel
theorem XY:Lb 3=true:=by
 refine List.all_eq_true.mpr λa ha=> ?_
 match a,List.mem_range.mp ha with
 |0,_=>exact Sv
 |1,_=>exact Sx
 |2,_=>exact Sy
theorem Sz:dZ 5 0=true:=by decide+kernel
theorem SA:dZ 5 1=true:=by decide+kernel
theorem SD:dZ 5 2=true:=by decide+kernel
theorem SE:dZ 5 3=true:=by decide+kernel
theorem SG:dZ 5 4=true:=by decide+kernel
theorem XZ:Lb 5=true:=by
 refine List.all_eq_true.mpr λa ha=> ?_
 match a,List.mem_range.mp ha with
 |0,_=>exact Sz
 |1,_=>exact SA
 |2,_=>exact SD
 |3,_=>exact SE
 |4,_=>exact SG
theorem SH:dZ 7 0=true:=by decide+kernel
theorem SI:dZ 7 1=true:=by decide+kernel
theorem SJ:dZ 7 2=true:=by decide+kernel
theorem SK:dZ 7 3=true:=by decide+kernel
theorem SM:dZ 7 4=true:=by decide+kernel
theorem SN:dZ 7 5=true:=by decide+kernel
theorem SO:dZ 7 6=true:=by decide+kernel
theorem Yb:Lb 7=true:=by
 refine List.all_eq_true.mpr λa ha=> ?_
 match a,List.mem_range.mp ha with
 |0,_=>exact SH
 |1,_=>exact SI
 |2,_=>exact SJ
 |3,_=>exact SK
 |4,_=>exact SM
 |5,_=>exact SN
 |6,_=>exact SO
theorem Oz:dZ 11 0=true:=by decide+kernel
theorem OA:dZ 11 1=true:=by decide+kernel
theorem OB:dZ 11 2=true:=by decide+kernel
theorem OC:dZ 11 3=true:=by decide+kernel
theorem OD:dZ 11 4=true:=by decide+kernel
theorem OE:dZ 11 5=true:=by decide+kernel
theorem OF:dZ 11 6=true:=by decide+kernel
theorem OG:dZ 11 7=true:=by decide+kernel
theorem OH:dZ 11 8=true:=by decide+kernel
theorem OI:dZ 11 9=true:=by decide+kernel
theorem Lg:dZ 11 10=true:=by decide+kernel
theorem VQ:Lb 11=true:=by
 refine List.all_eq_true.mpr λa ha=> ?_
 match a,List.mem_range.mp ha with
 |0,_=>exact Oz
 |1,_=>exact OA
 |2,_=>exact OB
 |3,_=>exact OC
 |4,_=>exact OD
 |5,_=>exact OE
 |6,_=>exact OF
 |7,_=>exact OG
 |8,_=>exact OH
 |9,_=>exact OI
 |10,_=>exact Lg
theorem OJ:dZ 13 0=true:=by decide+kernel
theorem OL:dZ 13 1=true:=by decide+kernel
theorem OM:dZ 13 2=true:=by decide+kernel
theorem ON:dZ 13 3=true:=by decide+kernel
theorem OO:dZ 13 4=true:=by decide+kernel
theorem OP:dZ 13 5=true:=by decide+kernel
theorem OQ:dZ 13 6=true:=by decide+kernel
theorem OR:dZ 13 7=true:=by decide+kernel
theorem OS:dZ 13 8=true:=by decide+kernel
theorem OT:dZ 13 9=true:=by decide+kernel
theorem Lh:dZ 13 10=true:=by decide+kernel
theorem Li:dZ 13 11=true:=by decide+kernel
theorem Lj:dZ 13 12=true:=by decide+kernel
theorem VR:Lb 13=true:=by
 refine List.all_eq_true.mpr λa ha=> ?_
 match a,List.mem_range.mp ha with
 |0,_=>exact OJ
 |1,_=>exact OL
 |2,_=>exact OM
 |3,_=>exact ON
 |4,_=>exact OO
 |5,_=>exact OP
 |6,_=>exact OQ
 |7,_=>exact OR
 |8,_=>exact OS
 |9,_=>exact OT
 |10,_=>exact Lh
 |11,_=>exact Li
 |12,_=>exact Lj
theorem OU:([3,5,7,11,13].all Lb)=true:=by
 simp only[List.all_cons,List.all_nil,XY,XZ,Yb,VQ,VR,Bool.and_true]
theorem Cr{f:Nat->Bool}(h:([3,5,7,11,13].all f)=true){q:Nat}(hq:q∈([3,5,7,11,13]:List Nat)):f q=true:=List.all_eq_true.mp h q hq
theorem all_range{q:Nat}{f:Nat->Bool}(h:(List.range q).all f=true){a:Nat}(ha:a<q):f a=true:=List.all_eq_true.mp h a (List.mem_range.mpr ha)
theorem SQ{q:Nat}(hq:q∈([3,5,7,11,13]:List Nat)){a b c:Nat}(ha:a<q)(hb:b<q)(hc:c<q)(h0:c≠0):vP q a b c=Ji q (b*b+4*(q-1)*(a*c)):=by
 have h:=all_range (all_range (all_range (Cr Ox hq) ha) hb) hc
 rw[Bool.or_eq_true]at h
 rcases h with h|h
 ·exact absurd (eq_of_beq h) h0
 ·exact eq_of_beq h
theorem uJ{q:Nat}(hq:q∈([3,5,7,11,13]:List Nat)){a b:Nat}(ha:a<q)(hb:b<q):vP q a b 0=if b=0 then(if a=0 then q else 0)else 1:=by
 have h:=eq_of_beq (all_range (all_range (Cr NW hq) ha) hb)
 rw[h]
 simp only[beq_iff_eq]
theorem SR{q:Nat}(hq:q∈([3,5,7,11,13]:List Nat)){a b c:Nat}(ha:a<q)(hb:b<q)(hc:c<q)(h0:(b*b+4*(q-1)*(a*c))%q≠0):Ji q c+l6 q (λy=>Ji q (a+b*y+c*(y*y)))=q+1:=by
 have h:=all_range (all_range (all_range (Cr OU hq) ha) hb) hc
 rw[Bool.or_eq_true]at h
 rcases h with h|h
 ·exact absurd (eq_of_beq h) h0
 ·exact eq_of_beq h
theorem SS{q:Nat}(hq:q∈([3,5,7,11,13]:List Nat)){e f:Nat}(he:e<q)(hf:f<q)(h0:f≠0):l6 q (λy=>if(e+f*y)%q=0 then 0 else 1)=q-1:=by
 have h:=all_range (all_range (Cr NX hq) he) hf
 rw[Bool.or_eq_true]at h
 rcases h with h|h
 ·exact absurd (eq_of_beq h) h0
 ·rw[<-eq_of_beq h]
  refine l7 λy _=> ?_
  simp only[beq_iff_eq]
theorem Jj(q r:Nat):Ji q (r%q)=Ji q r:=by
 unfold Ji
 simp only[Nat.mod_mod]
theorem OV(q a b c:Nat):vP q (a%q) (b%q) (c%q)=vP q a b c:=by
 unfold vP
 congr 1
 funext z
 congr 1
 simp only[Nat.add_mod,Nat.mul_mod,Nat.mod_mod]
def uK(a b c d e f x y z:Nat):Nat:=a*(x*x)+b*(y*y)+c*(z*z)+d*(x*y)+e*(x*z)+f*(y*z)
def yL(q a b c d e f x y:Nat):Nat:=(List.range q).countP λz=>uK a b c d e f x y z%q==0
theorem Jk(q a b c d e f x y:Nat):yL q a b c d e f x y=vP q ((a*(x*x)+d*(x*y)+b*(y*y))%q) ((e*x+f*y)%q) (c%q):=by
 rw[OV]
 unfold yL vP uK
 congr 1
 funext z
 congr 2
 grind
theorem GX{q:Nat}{x:Int}(n:Nat)(h:(n:Int)=x):(n%q=0)↔x%(q:Int)=0:=by
 rw[<-h]
 constructor
 ·intro z;exact_mod_cast z
 ·intro z;exact_mod_cast z
theorem OW{q:Nat}(hq:q∈([3,5,7,11,13]:List Nat)):((q:Int))∈([3,5,7,11,13]:List Int)/\2<q/\q<14:=by
 simp only[List.mem_cons,List.not_mem_nil,or_false]at hq ⊢
 omega
theorem GY{q:Nat}(hq:q∈([3,5,7,11,13]:List Nat)){a b c d e f:Nat}(ha:a<q)(hb:b<q)(hc:c<q)(hd:d<q)(he:e<q)(hf:f<q)
  (h0:(4*((a:Int)*b*c)+d*e*f-a*(f*f) -b*(e*e) -c*(d*d))%(q:Int)≠0):
  (if c=0 then 1 else 0)+yL q a b c d e f 0 1+l6 q (λy=>yL q a b c d e f 1 y)=q+1:=by
 obtain⟨hp,q2,q14⟩:=OW hq
 have vQ:0<q:=by omega
 by_cases c0:c=0
 ·subst c0
  rw[if_pos rfl]
  simp only[Jk,Nat.zero_mod]
  by_cases f0:f=0
  ·subst f0
   have e0:e≠0:=λz=>h0 (by subst z;simp)
   have b0:b≠0:=λz=>h0 (by subst z;simp)
   have n1:vP q ((a*(0*0)+d*(0*1)+b*(1*1))%q) ((e*0+0*1)%q) 0=0:=by
    rw[uJ hq (Nat.mod_lt _ vQ) (Nat.mod_lt _ vQ)]
    simp only[Nat.mul_zero,Nat.zero_mul,Nat.zero_add,Nat.mul_one,Nat.zero_mod,if_true,Nat.mod_eq_of_lt hb,if_neg b0]
   have n2:l6 q (λy=>vP q ((a*(1*1)+d*(1*y)+b*(y*y))%q) ((e*1+0*y)%q) 0)=l6 q λy=>if(1+0*y)%q=0 then 0 else 1:=l7 λy _=>by
    rw[uJ hq (Nat.mod_lt _ vQ) (Nat.mod_lt _ vQ)]
    simp only[Nat.mul_one,Nat.zero_mul,Nat.add_zero,Nat.mod_eq_of_lt he,if_neg e0]
    rw[if_neg (by rw[Nat.mod_eq_of_lt (by omega)];decide)]
   have n3:l6 q (λy=>if(1+0*y)%q=0 then 0 else 1)=q:=by
    have k:∀n,l6 n (λy=>if(1+0*y)%q=0 then 0 else 1)=n:=λn=>by
     induction n with
     |zero=>rfl
     |succ n ih=>
      show l6 n _+(if(1+0*n)%q=0 then 0 else 1)=_
      rw[ih,if_neg (by rw[Nat.zero_mul,Nat.add_zero,Nat.mod_eq_of_lt (by omega)];decide)]
    exact k q
   rw[n1,n2,n3]
   omega
  ·have n1:vP q ((a*(0*0)+d*(0*1)+b*(1*1))%q) ((e*0+f*1)%q) 0=1:=by
    rw[uJ hq (Nat.mod_lt _ vQ) (Nat.mod_lt _ vQ)]
    simp only[Nat.mul_zero,Nat.zero_add,Nat.mul_one,Nat.mod_eq_of_lt hf,if_neg f0]
   have n2:l6 q (λy=>vP q ((a*(1*1)+d*(1*y)+b*(y*y))%q) ((e*1+f*y)%q) 0)=l6 q λy=>if(e+f*y)%q=0 then 0 else 1:=l7 λy _=>by
    rw[uJ hq (Nat.mod_lt _ vQ) (Nat.mod_lt _ vQ)]
    simp only[Nat.mul_one]
    by_cases z:(e+f*y)%q=0
    ·rw[if_pos z,if_pos z,if_neg]
     intro w
     apply h0
     have z':=(GX (x:=(e:Int)+f*y) (e+f*y) (by push_cast;rfl)).mp z
     have w':=(GX (x:=(a:Int)+d*(1*y)+b*(y*y)) (a+d*(1*y)+b*(y*y)) (by push_cast;rfl)).mp w
     obtain⟨u,hu⟩:=Int.dvd_of_emod_eq_zero z'
     obtain⟨v,hv⟩:=Int.dvd_of_emod_eq_zero w'
     refine Int.emod_eq_zero_of_dvd ⟨d*f*u-b*e*u+b*f*y*u-f*f*v,?_⟩
     have hu':(e:Int)=q*u-f*y:=by omega
     have hv':(a:Int)=q*v-d*(1*y) -b*(y*y):=by omega
     rw[hv',hu']
     grind
    ·rw[if_neg z,if_neg z]
   rw[n1,n2,SS hq he hf f0]
   omega
 ·rw[if_neg c0,Nat.zero_add]
  have N:∀x y,yL q a b c d e f x y=Ji q ((e*x+f*y)%q*((e*x+f*y)%q)+4*(q-1)*((a*(x*x)+d*(x*y)+b*(y*y))%q*c)):=λx y=>by
   rw[Jk,Nat.mod_eq_of_lt hc,SQ hq (Nat.mod_lt _ vQ) (Nat.mod_lt _ vQ) hc c0]
  have key:∀x y,Ji q ((e*x+f*y)%q*((e*x+f*y)%q)+4*(q-1)*((a*(x*x)+d*(x*y)+b*(y*y))%q*c))=
    Ji q ((e*e+4*(q-1)*(a*c))%q*(x*x)+(2*(e*f)+4*(q-1)*(c*d))%q*(x*y)+(f*f+4*(q-1)*(b*c))%q*(y*y)):=λx y=>by
   rw[<-Jj q ((e*x+f*y)%q*_+_),<-Jj q (_*(x*x)+_+_)]
   congr 1
   have cm:∀n:Nat,∃k:Int,((n%q:Nat):Int)=(n:Int) -q*k:=λn=>⟨(n:Int)/q,by
    have:=Int.emod_add_mul_ediv (n:Int) q
    rw[Int.natCast_emod]
    omega⟩
   obtain⟨k1,h1⟩:=cm (e*x+f*y)
   obtain⟨k2,h2⟩:=cm (a*(x*x)+d*(x*y)+b*(y*y))
   obtain⟨k3,h3⟩:=cm (e*e+4*(q-1)*(a*c))
   obtain⟨k4,h4⟩:=cm (2*(e*f)+4*(q-1)*(c*d))
   obtain⟨k5,h5⟩:=cm (f*f+4*(q-1)*(b*c))
   generalize(e*x+f*y)%q=U at h1 ⊢
   generalize(a*(x*x)+d*(x*y)+b*(y*y))%q=W at h2 ⊢
   generalize(e*e+4*(q-1)*(a*c))%q=A at h3 ⊢
   generalize(2*(e*f)+4*(q-1)*(c*d))%q=B at h4 ⊢
   generalize(f*f+4*(q-1)*(b*c))%q=C at h5 ⊢
   obtain⟨r,hr⟩:∃r,q-1=r:=⟨_,rfl⟩
   rw[hr]at h3 h4 h5 ⊢
   push_cast at h1 h2 h3 h4 h5
   apply Int.ofNat.inj
   show((U*U+4*r*(W*c):Nat):Int)%((q:Nat):Int)=((A*(x*x)+B*(x*y)+C*(y*y):Nat):Int)%((q:Nat):Int)
   push_cast
   rw[h1,h2,h3,h4,h5]
   refine lG (k:= -2*((e:Int)*x+f*y)*k1+q*(k1*k1) -4*r*c*k2+k3*(x*x)+k4*(x*y)+k5*(y*y)) ?_
   grind
  have n0:yL q a b c d e f 0 1=Ji q ((f*f+4*(q-1)*(b*c))%q):=by
   rw[N,key]
   simp only[Nat.mul_zero,Nat.zero_mul,Nat.zero_add,Nat.mul_one]
  have n1:l6 q (λy=>yL q a b c d e f 1 y)=l6 q λy=>Ji q ((e*e+4*(q-1)*(a*c))%q+(2*(e*f)+4*(q-1)*(c*d))%q*y+(f*f+4*(q-1)*(b*c))%q*(y*y)):=l7 λy _=>by
   rw[N,key]
   simp only[Nat.mul_one,Nat.one_mul]
  rw[n0,n1]
  refine SR hq (Nat.mod_lt _ vQ) (Nat.mod_lt _ vQ) (Nat.mod_lt _ vQ) ?_
  intro z
  have cm:∀n:Nat,∃k:Int,((n%q:Nat):Int)=(n:Int) -q*k:=λn=>⟨(n:Int)/q,by
   have:=Int.emod_add_mul_ediv (n:Int) q
   rw[Int.natCast_emod]
   omega⟩
  obtain⟨k3,h3⟩:=cm (e*e+4*(q-1)*(a*c))
  obtain⟨k4,h4⟩:=cm (2*(e*f)+4*(q-1)*(c*d))
  obtain⟨k5,h5⟩:=cm (f*f+4*(q-1)*(b*c))
  generalize(e*e+4*(q-1)*(a*c))%q=A at h3 z
  generalize(2*(e*f)+4*(q-1)*(c*d))%q=B at h4 z
  generalize(f*f+4*(q-1)*(b*c))%q=C at h5 z
  obtain⟨r,hr⟩:∃r:Nat,q=r+1:=⟨q-1,by omega⟩
  have hr1:q-1=r:=by omega
  rw[hr1]at h3 h4 h5 z
  push_cast at h3 h4 h5
  have hq':(r:Int)=q-1:=by omega
  have z':=(GX (x:=(B:Int)*B+4*r*(A*C)) _ (by push_cast;rfl)).mp z
  rw[h3,h4,h5,hq']at z'
  have z2:((16*(4*((a:Int)*b*c)+d*e*f-a*(f*f) -b*(e*e) -c*(d*d)))*c)%(q:Int)=0:=by
   obtain⟨w,hw⟩:=Int.dvd_of_emod_eq_zero z'
   obtain⟨B0,hB0⟩:∃B0:Int,B0=2*((e:Int)*f) -4*(c*d):=⟨_,rfl⟩
   obtain⟨A0,hA0⟩:∃A0:Int,A0=(e:Int)*e-4*(a*c):=⟨_,rfl⟩
   obtain⟨C0,hC0⟩:∃C0:Int,C0=(f:Int)*f-4*(b*c):=⟨_,rfl⟩
   obtain⟨b1,hb1⟩:∃b1:Int,b1=4*((c:Int)*d) -k4:=⟨_,rfl⟩
   obtain⟨a1,ha1⟩:∃a1:Int,a1=4*((a:Int)*c) -k3:=⟨_,rfl⟩
   obtain⟨c1,hc1⟩:∃c1:Int,c1=4*((b:Int)*c) -k5:=⟨_,rfl⟩
   have eB:2*((e:Int)*f)+4*((q:Int) -1)*(c*d) -q*k4=B0+q*b1:=by rw[hB0,hb1];grind
   have eA:(e:Int)*e+4*((q:Int) -1)*(a*c) -q*k3=A0+q*a1:=by rw[hA0,ha1];grind
   have eC:(f:Int)*f+4*((q:Int) -1)*(b*c) -q*k5=C0+q*c1:=by rw[hC0,hc1];grind
   rw[eB,eA,eC]at hw
   refine Int.emod_eq_zero_of_dvd ⟨2*B0*b1+q*(b1*b1)+4*(A0*C0)+4*((q:Int) -1)*(A0*c1+a1*C0+q*(a1*c1)) -w,?_⟩
   have e1:16*(4*((a:Int)*b*c)+d*e*f-a*(f*f) -b*(e*e) -c*(d*d))*c=4*(A0*C0) -B0*B0:=by rw[hA0,hB0,hC0];grind
   rw[e1]
   grind
  have z3:=(oJ hp (by rw[bL (Int.natCast_nonneg c) (Int.ofNat_lt.mpr hc)];omega)).mp z2
  rw[Int.mul_comm]at z3
  have z4:=(oJ hp (show(16:Int)%q≠0 by
   simp only[List.mem_cons,List.not_mem_nil,or_false]at hq
   rcases hq with rfl|rfl|rfl|rfl|rfl<;>decide)).mp z3
  exact h0 z4
theorem OX{m:List (List Int)}(h:cC m){a b c d e f:Int}(q:ent m 0 0=2*a/\ent m 1 1=2*b/\ent m 2 2=2*c/\ent m 0 1=d/\ent m 0 2=e/\ent m 1 2=f):aN m/2=4*(a*b*c)+d*e*f-a*(f*f) -b*(e*e) -c*(d*d):=by
 obtain⟨⟨s1,s2,s3⟩,_⟩:=h
 obtain⟨q1,q2,q3,q4,q5,q6⟩:=q
 have:aN m=2*(4*(a*b*c)+d*e*f-a*(f*f) -b*(e*e) -c*(d*d)):=by
  rw[cN,s1,s2,s3,q1,q2,q3,q4,q5,q6]
  grind
 omega
theorem GZ{m:List (List Int)}(ev:cC m){q:Nat}(hq:q∈([3,5,7,11,13]:List Nat))(hd:aN m/2%(q:Int)≠0):((eX q (q*q)).filter λr=>decide (aR m (az r)%(q:Int)=0)).length=q+1:=by
 obtain⟨hp,q2,q14⟩:=OW hq
 obtain⟨a,b,c,d,e,f,ent,hQ⟩:=oM ev
 rw[OX ev ent]at hd
 have rs:∀z:Int,∃n:Nat,n<q/\ ∃k:Int,z=(n:Int)+q*k:=λz=>by
  have z0:=Int.emod_nonneg z (show(q:Int)≠0 by omega)
  have z1:=Int.emod_lt_of_pos z (show(0:Int)<q by omega)
  have z2:=Int.emod_add_mul_ediv z q
  exact⟨(z%q).toNat,by omega,z/q,by omega⟩
 obtain⟨a',ha,ka,ea⟩:=rs a
 obtain⟨b',hb,kb,eb⟩:=rs b
 obtain⟨c',hc,kc,ec⟩:=rs c
 obtain⟨d',hd',kd,ed⟩:=rs d
 obtain⟨e',he,ke,ee⟩:=rs e
 obtain⟨f',hf,kf,ef⟩:=rs f
 have h0:(4*((a':Int)*b'*c')+d'*e'*f'-a'*(f'*f') -b'*(e'*e') -c'*(d'*d'))%(q:Int)≠0:=λz=>hd (by
  rw[<-z]
  have M:∀x y:Int,(x+q*y)%q=x%q:=λx y=>Int.add_mul_emod_self_left ..
  have ca:a%(q:Int)=(a':Int)%q:=by rw[ea,M]
  have cb:b%(q:Int)=(b':Int)%q:=by rw[eb,M]
  have cc:c%(q:Int)=(c':Int)%q:=by rw[ec,M]
  have cd:d%(q:Int)=(d':Int)%q:=by rw[ed,M]
  have ce:e%(q:Int)=(e':Int)%q:=by rw[ee,M]
  have cf:f%(q:Int)=(f':Int)%q:=by rw[ef,M]
  have mm:∀{x y x' y':Int},x%(q:Int)=x'%q->y%(q:Int)=y'%q->(x*y)%(q:Int)=(x'*y')%q:=λh1 h2=>by rw[Int.mul_emod,h1,h2,<-Int.mul_emod]
  have pp:∀{x y x' y':Int},x%(q:Int)=x'%q->y%(q:Int)=y'%q->(x+y)%(q:Int)=(x'+y')%q:=λh1 h2=>by rw[Int.add_emod,h1,h2,<-Int.add_emod]
  have ss:∀{x y x' y':Int},x%(q:Int)=x'%q->y%(q:Int)=y'%q->(x-y)%(q:Int)=(x'-y')%q:=λh1 h2=>by rw[Int.sub_emod,h1,h2,<-Int.sub_emod]
  exact ss (ss (ss (pp (mm rfl (mm (mm ca cb) cc)) (mm (mm cd ce) cf)) (mm ca (mm cf cf))) (mm cb (mm ce ce))) (mm cc (mm cd cd)))
 have key:∀x y z:Nat,decide (aR m (az [(x:Int),(y:Int),(z:Int)])%(q:Int)=0)=(uK a' b' c' d' e' f' x y z%q==0):=λx y z=>by
  rw[hQ]
  show decide ((a*((x:Int)*x)+b*((y:Int)*y)+c*((z:Int)*z)+d*((x:Int)*y)+e*((x:Int)*z)+f*((y:Int)*z))%(q:Int)=0)=_
  have e1:(a*((x:Int)*x)+b*((y:Int)*y)+c*((z:Int)*z)+d*((x:Int)*y)+e*((x:Int)*z)+f*((y:Int)*z))%(q:Int)=((uK a' b' c' d' e' f' x y z:Nat):Int)%(q:Int):=by
   unfold uK
   push_cast
   refine lG (k:=ka*((x:Int)*x)+kb*((y:Int)*y)+kc*((z:Int)*z)+kd*((x:Int)*y)+ke*((x:Int)*z)+kf*((y:Int)*z)) ?_
   rw[ea,eb,ec,ed,ee,ef]
   grind
  rw[e1,Bool.eq_iff_iff,decide_eq_true_eq,beq_iff_eq]
  constructor
  ·intro z;exact_mod_cast z
  ·intro z;exact_mod_cast z
 rw[<-GY hq ha hb hc hd' he hf h0,<-List.countP_eq_length_filter]
 unfold eX oH
 rw[List.countP_append,List.countP_cons,List.countP_map,List.countP_map]
 have k0:=key 0 0 1
 have q0:(uK a' b' c' d' e' f' 0 0 1%q==0)=decide (c'=0):=by
  unfold uK
  simp only[Nat.mul_zero,Nat.zero_mul,Nat.zero_add,Nat.mul_one,Nat.add_zero,Nat.mod_eq_of_lt hc]
  rfl
 rw[q0]at k0
 have e1:(if(decide (aR m (az [0,0,1])%(q:Int)=0))=true then 1 else 0)=if c'=0 then 1 else 0:=by
  have:decide (aR m (az [0,0,1])%(q:Int)=0)=decide (c'=0):=k0
  rw[this]
  simp only[decide_eq_true_eq]
 rw[e1]
 have e2:List.countP ((λr=>decide (aR m (az r)%(q:Int)=0)) ∘ λ(a:Nat)=>[0,1,(a:Int)]) (List.range q)=yL q a' b' c' d' e' f' 0 1:=by
  unfold yL
  refine List.countP_congr λz _=> ?_
  rw[<-key 0 1 z]
  exact Iff.rfl
 have e3:List.countP ((λr=>decide (aR m (az r)%(q:Int)=0)) ∘ λ(a:Nat)=>[1,((a/q:Nat):Int),((a%q:Nat):Int)]) (List.range (q*q))=l6 q λy=>yL q a' b' c' d' e' f' 1 y:=by
  rw[show(λy=>yL q a' b' c' d' e' f' 1 y)=λy=>(List.range q).countP ((λy z=>uK a' b' c' d' e' f' 1 y z%q==0) y)from rfl,<-xu (show 0<q by omega) (λy z=>uK a' b' c' d' e' f' 1 y z%q==0) q]
  refine List.countP_congr λz _=> ?_
  show decide (aR m (az [1,((z/q:Nat):Int),((z%q:Nat):Int)])%(q:Int)=0)=true↔_
  rw[show([1,((z/q:Nat):Int),((z%q:Nat):Int)]:List Int)=[((1:Nat):Int),((z/q:Nat):Int),((z%q:Nat):Int)]from rfl,key 1 (z/q) (z%q)]
 rw[e2,e3]
 omega
theorem tE{K:PySem.W.Frag}{H:Hp}{a:Addr}{xs:List Int}(h:aV K H a (xs.map V.int)):DY K H (.ref a) (jN xs):= .lst h (IY xs)
theorem OY{K:PySem.W.Frag}{H:Hp}{a b:Addr}{xs ys:List Int}{Q:VK}(ha:aV K H a (xs.map V.int))(hb:aV K H b (ys.map V.int))(q:Q (.bl (decide (xs=ys))) H):Ks K false (.ref a) (.ref b) H Q:=
 ⟨jN xs,jN ys,tE ha,tE hb,jd _,jd _,by rw[uy];exact q⟩
theorem VS{K:PySem.W.Frag}{H:Hp}{a b:Addr}{xs ys:List Int}{Q:VK}(ha:aV K H a (xs.map V.int))(hb:aV K H b (ys.map V.int))(q:Q (.bl (!decide (xs=ys))) H):Ks K true (.ref a) (.ref b) H Q:=
 ⟨jN xs,jN ys,tE ha,tE hb,jd _,jd _,by rw[uy];exact q⟩
def rk(sel:Nat->Bool)(k:Nat):Nat:=(List.range k).countP sel
theorem m6(sel:Nat->Bool)(k:Nat):rk sel (k+1)=rk sel k+if sel k=true then 1 else 0:=by
 unfold rk
 rw[List.range_succ,List.countP_append]
 simp[List.countP_cons]
theorem Ct(sel:Nat->Bool){j k:Nat}(h:j<=k):rk sel j<=rk sel k:=by
 induction h with
 |refl=>exact Nat.le_refl _
 |step _ ih=>rw[m6];omega
def tnF(sel:Nat->Bool)(N:Nat)(tn:Nat->Heap->Prop)(i:Nat)(h:Heap):Prop:=∃k,k<=N/\rk sel k=i/\(k=0∨sel (k-1)=true)/\tn k h
theorem SV{sel:Nat->Bool}{j k:Nat}(hk:sel k=true)(e:rk sel j=rk sel (k+1))(hj:j=0∨sel (j-1)=true):j=k+1:=by
 have r1:=m6 sel k
 rw[if_pos hk]at r1
 rcases hj with rfl|hj
 ·have:rk sel 0=0:=rfl
  omega
 ·rcases Nat.lt_or_ge j (k+1)with z|z
  ·have:=Ct sel (show j<=k by omega)
   omega
  ·rcases Nat.lt_or_ge (k+1) j with y|y
   ·have r2:=m6 sel (j-1)
    rw[if_pos hj,show j-1+1=j by omega]at r2
    have:=Ct sel (show k+1<=j-1 by omega)
    omega
   ·omega
section
variable{X:Cx}{B:Around}{sc:Scope}{N':List Str}{code:Value}{sC:Shared}{HC:Hp}{fp Ss:List Addr}{tn:Nat->Heap->Prop}{N:Nat}{sel:Nat->Bool}{R:Nat->V->Prop}{W:St->Hp->Prop}
variable{elt iter tg c:Expr}{pos:Pos}{it:Addr}{J:It}{g:TG}{tt:TT}{te:TE}
theorem OZ(hco:sc.isCoroutine=false)(hc:X.calm=true)(T:Turn X.prog X.w X.K tg J fp it tn)(hg:PG (X.gen B sc N' code sC HC fp) tg g)(ht:PT (X.gen B sc N' code sC HC fp) c tt)(he:PE (X.gen B sc N' code sC HC fp) elt te)(BU:∀b∈fp,b∉Ss)
  (turn:∀k σ' H',k<N->W σ' H'->J.go k H'/\ ∀x H2,J.Ba k H' x H2->g x σ' H2 λσ3 H3=>tt σ3 H3 λb H4=>b=sel k/\if b=true then te σ3 H4 λv H5=>R (rk sel k) v/\W σ3 H5 else W σ3 H4)
  (stop:∀σ' H',W σ' H'->J.stop N H'):
  ∀(d k n:Nat)(σ':St)(H':Hp)(s₀ s:Shared),d+k=N->n+rk sel k=rk sel N->W σ' H'->Inv (X.gen B sc N' code sC HC fp) (cQ Ss s₀.heap) σ' H' s->tn k s.heap->(∀b∈fp,H' b=none) ->
   Seg (model X.prog X.w) B (Kl X B sc N' code sC HC fp Ss (rk sel N) λ_=>W) (vJ X B sc N' code sC HC fp Ss (tnF sel N tn) (rk sel N) R λ_=>W) n s₀ (.compLoop (.GeneratorExp elt [⟨tg,iter,[c],0⟩] sc pos) 0 (.ref it) .none (X.gen B sc N' code sC HC fp).env)
    ((model X.prog X.w).den (.compLoop (.GeneratorExp elt [⟨tg,iter,[c],0⟩] sc pos) 0 (.ref it) .none (X.gen B sc N' code sC HC fp).env)) [] s:=by
 have IQ:∀{h:Heap},∀p∈cQ Ss h,p.1∉fp:=λp hp hb=>BU p.1 hb (xj hp)
 intro d
 induction d with
 |zero=>
  intro k n σ' H' s₀ s hd hn w I st fr
  obtain rfl:k=N:=by omega
  obtain rfl:n=0:=by omega
  show Seg _ B _ _ _ s₀ _ ((compTurn (.GeneratorExp elt [⟨tg,iter,[c],0⟩] sc pos) 0 (.ref it) .none (X.gen B sc N' code sC HC fp).env).onRaise (leaving (X.gen B sc N' code sC HC fp).env)) [] s
  rw[compTurn_gen,Sem.onRaise_eq_wrap]
  refine seg_bind_wrap (wpAny_standAt ?_)
  refine seg_bind_wrap ?_
  rw[gu]
  refine gj (T.done (X.gen B sc N' code sC HC fp) rfl rfl rfl hc k _ s σ' H' _ I (vK I fr IQ) st (stop σ' H' w)) λr s1 ⟨hr,I1⟩=> ?_
  subst hr
  exact seg_end (.ok .next) ⟨rfl,rfl,σ',H',I1,w⟩
 |succ d ih=>
  intro k n σ' H' s₀ s hd hn w I st fr
  have hk:k<N:=by omega
  obtain⟨go,step⟩:=turn k σ' H' hk w
  show Seg _ B _ _ _ s₀ _ ((compTurn (.GeneratorExp elt [⟨tg,iter,[c],0⟩] sc pos) 0 (.ref it) .none (X.gen B sc N' code sC HC fp).env).onRaise (leaving (X.gen B sc N' code sC HC fp).env)) [] s
  rw[compTurn_gen,Sem.onRaise_eq_wrap]
  refine seg_bind_wrap (wpAny_standAt ?_)
  refine seg_bind_wrap ?_
  rw[gu]
  refine gj (T.item (X.gen B sc N' code sC HC fp) rfl rfl rfl hc k _ s σ' H' _ I (vK I fr IQ) st go) λr s1 ⟨u,hr,h1⟩=> ?_
  subst hr
  refine seg_bind_wrap ?_
  rw[gu]
  refine wpAny_mono h1 (λ_ s2 ⟨x,H2,I2,r2,y2,st2,Vo⟩=> ?_) λ_ _ z=>z
  have I2':=I2.pinned (vK I2 Vo IQ) (T.obj _ _ st2)
  refine seg_bind_wrap ?_
  rw[gu]
  refine wpAny_mono (hg _ s2 σ' H2 x u _ I2' r2 (step x H2 y2)) (λ_ s3 ⟨σ3,H3,I3,q3⟩=> ?_) λ_ _ z=>z.elim
  simp only[List.forIn_cons,List.forIn_nil,if_true]
  refine seg_bind_wrap ?_
  rw[gu]
  refine wpAny_bind (wpAny_bind (wpAny_mono (ht _ s3 σ3 H3 _ I3 q3) (λok WE ⟨Zh,Zi,ek,WG⟩=>wpAny_pure (wpAny_pure ?_)) λ_ _ z=>z.elim))
  subst ek
  have r1:=m6 sel k
  cases hs:sel k with
  |false=>
   rw[hs]at WG r1
   rw[if_neg Bool.false_ne_true]at WG r1
   have Xy:tn (k+1) WE.heap:=T.keep _ _ _ st2 λb hb o e=>(Zi.pin (b,o) (List.mem_append_right _ (List.mem_append_right _ (bU hb e)))).1
   have Vp:∀b∈fp,Zh b=none:=λb hb=>by
    obtain⟨o,e,d⟩:=T.obj _ _ st2 b hb
    exact(Zi.pin (b,o) (List.mem_append_right _ (List.mem_append_right _ (bU hb e)))).2.1
   simp only[Bool.false_eq_true,if_false]
   exact seg_again rfl (ih (k+1) n σ3 Zh s₀ WE (by omega) (by omega) WG Zi.jv Xy Vp)
  |true=>
  rw[hs]at WG r1
  rw[if_pos rfl]at WG r1
  have mono:=Ct sel (show k+1<=N by omega)
  obtain⟨n,rfl⟩:∃n',n=n'+1:=⟨n-1,by omega⟩
  have hy:∀v,yieldOut (X.gen B sc N' code sC HC fp).env v=yieldValue v:=λv=>by
   have q:(X.gen B sc N' code sC HC fp).env.scope.isCoroutine=false:=hco
   simp only[yieldOut,q,Bool.false_eq_true,if_false]
  simp only[if_true,hy]
  rw[Sem.bind_eq_wrap',Sem.bind_eq_wrap',Sem.wrap_wrap,Sem.wrap_wrap]
  refine seg_wrap ?_
  rw[gu]
  refine wpAny_mono (he _ WE σ3 Zh _ Zi WG) (λv s4 ⟨y,H4,I4,r4,hR,w4⟩=> ?_) λ_ _ z=>z.elim
  have Xy:tn (k+1) s4.heap:=T.keep _ _ _ st2 λb hb o e=>(I4.pin (b,o) (List.mem_append_right _ (List.mem_append_right _ (bU hb e)))).1
  have Vp:∀b∈fp,H4 b=none:=λb hb=>by
   obtain⟨o,e,d⟩:=T.obj _ _ st2 b hb
   exact(I4.pin (b,o) (List.mem_append_right _ (List.mem_append_right _ (bU hb e)))).2.1
  have ei:rk sel N-n=rk sel k+1:=by omega
  have ei':rk sel (k+1)=rk sel k+1:=r1
  refine seg_at (seg_yield rfl rfl rfl ⟨[],σ3,H4,y,(λ_ h=>nomatch h),(by rw[List.append_nil];exact I4.jv),⟨k+1,by omega,by rw[ei,ei'],.inr hs,Xy⟩,Vp,r4,by rw[ei];exact hR,w4,λs'' _ MA st''=> ?_⟩)
  rw[ei]at st''
  rw[List.append_nil]at MA
  obtain⟨k',hk',ek',h0',st''⟩:=st''
  obtain rfl:k'=k+1:=SV hs (by rw[ek',ei']) h0'
  exact seg_again rfl (ih (k+1) n σ3 H4 s'' s'' (by omega) (by omega) w4 MA st'' Vp)
theorem Lk(hco:sc.isCoroutine=false)(hc:X.calm=true)(T:Turn X.prog X.w X.K tg J fp it tn)(hg:PG (X.gen B sc N' code sC HC fp) tg g)(ht:PT (X.gen B sc N' code sC HC fp) c tt)(he:PE (X.gen B sc N' code sC HC fp) elt te)(BU:∀b∈fp,b∉Ss)
  (turn:∀k σ' H',k<N->W σ' H'->J.go k H'/\ ∀x H2,J.Ba k H' x H2->g x σ' H2 λσ3 H3=>tt σ3 H3 λb H4=>b=sel k/\if b=true then te σ3 H4 λv H5=>R (rk sel k) v/\W σ3 H5 else W σ3 H4)
  (stop:∀σ' H',W σ' H'->J.stop N H'){σ':St}{H':Hp}{s:Shared}(w:W σ' H')(I:Inv (X.gen B sc N' code sC HC fp) (cQ Ss s.heap) σ' H' s)(st:tn 0 s.heap)(fr:∀b∈fp,H' b=none):
  Seg (model X.prog X.w) B (Kl X B sc N' code sC HC fp Ss (rk sel N) λ_=>W) (vJ X B sc N' code sC HC fp Ss (tnF sel N tn) (rk sel N) R λ_=>W) (rk sel N) s (.compStart (.GeneratorExp elt [⟨tg,iter,[c],0⟩] sc pos) 0 (.ref it) .none (X.gen B sc N' code sC HC fp).env)
   ((model X.prog X.w).den (.compStart (.GeneratorExp elt [⟨tg,iter,[c],0⟩] sc pos) 0 (.ref it) .none (X.gen B sc N' code sC HC fp).env)) [] s:=by
 have lp:=OZ (iter:=iter) (pos:=pos) hco hc T hg ht he BU turn stop N 0 (rk sel N) σ' H' s s (Nat.add_zero _) (Nat.add_zero _) w I st fr
 show Seg _ B _ _ _ s _ ((compStart (.GeneratorExp elt [⟨tg,iter,[c],0⟩] sc pos) 0 (.ref it) .none (X.gen B sc N' code sC HC fp).env).onRaise (leaving (X.gen B sc N' code sC HC fp).env)) [] s
 unfold compStart
 rw[Sem.onRaise_eq_wrap]
 show Seg _ B _ _ _ s _ ((ask>>=_).wrap _ _ _ _) [] s
 refine seg_bind_wrap (wpAny_askSetting ?_)
 split
 ·exact seg_again rfl lp
 ·first
   |exact seg_bind_wrap (wpAny_rule (seg_bind_wrap (wpAny_standAt (seg_bind_wrap (T.self _ 0 s _ _ st (seg_again rfl lp))))))
   |(refine seg_bind_wrap (wpAny_rule ?_);(show Seg _ B _ _ _ s _ ((standAt iter.pos>>=_).wrap _ _ _ _) [] s);exact seg_bind_wrap (wpAny_standAt (seg_bind_wrap (T.self _ 0 s _ _ st (seg_again rfl lp)))))
end
def Hj(k:Nat)(g:TG)(tt:TT)(te:TE)(σ:St)(F:Nat->(Nat->V->Prop) ->(Nat->St->Hp->Prop) ->Prop)(J:It)(H:Hp):Prop:=∃(N:Nat)(sel:Nat->Bool)(R:Nat->V->Prop)(W:St->Hp->Prop),W (List.replicate k none++σ) H/\
 (∀i σ' H',i<N->W σ' H'->J.go i H'/\ ∀x H2,J.Ba i H' x H2->g x σ' H2 λσ3 H3=>tt σ3 H3 λb H4=>b=sel i/\if b=true then te σ3 H4 λv H5=>R (rk sel i) v/\W σ3 H5 else W σ3 H4)/\(∀σ' H',W σ' H'->J.stop N H')/\F (rk sel N) R λ_=>W
section
variable{X:Cx}{sc:Scope}{own N2:List Str}{elt iter tg c:Expr}{pos:Pos}{wi:TI}{g:TG}{tt:TT}{te:TE}{P:Addr}
theorem Pa{pins:List (Addr×Obj)}{σ:St}{H0:Hp}{s0:Shared}{F:Nat->(Nat->V->Prop) ->(Nat->St->Hp->Prop) ->Prop}(more:Nat->List Addr)(hmore:∀a,∀b∈more a,a<b)(K:DW X sc own N2 P)(hi:PI X tg iter wi)
  (hg:∀code s H fp,PG (X.gen X.A.in1.in1 sc (own++N2) code s H fp) tg g)(ht:∀code s H fp,PT (X.gen X.A.in1.in1 sc (own++N2) code s H fp) c tt)(he:∀code s H fp,PE (X.gen X.A.in1.in1 sc (own++N2) code s H fp) elt te)
  (hs:∀x,genFold iter X.env x=pure x)(I0:Inv X pins σ H0 s0)(h:wi σ H0 λJ H=>H P=some (cj P)/\Hj own.length g tt te σ F J H):
  wpAny (model X.prog X.w) X.A (eval (.GeneratorExp elt [⟨tg,iter,[c],0⟩] sc pos) X.env) (λu s5=> ∃a cnt R W sC HC fp code tn,u= .ref a/\s5.heap.objs.size=a+1/\
   yq X X.A.in1.in1 sc (own++N2) code sC HC fp (a::more a) tn cnt R W a 0 s5/\Inv X pins σ HC sC/\(∀b∈fp,gn X pins HC b)/\sC.heap.objs.size<a/\(∀b∈fp,b<sC.heap.objs.size)/\(∀i h h',tn i h->(∀b∈fp,∀o,h.get? b=some o->h'.get? b=some o) ->tn i h')/\F cnt R W) X.xe s0:=
 DU (ifs:=[c]) (cls:=[]) (Rd:=λJ H=>Hj own.length g tt te σ F J H) more hmore K.calm K.room hi K.RC K.kind K.co K.nc K.YQ K.code K.bm hs (λcode s H fp it QT J T hfr ⟨N,sel,R,W,w0,turn,stop,hF⟩=>
  ⟨rk sel N,R,λ_=>W,tnF sel N QT,hF,w0,λh=>⟨λz=>⟨0,Nat.zero_le _,rfl,.inl rfl,z⟩,λ ⟨k,hk,e,h0,z⟩=>by
   rcases h0 with rfl|h0
   ·exact z
   ·by_cases k0:k=0
    ·subst k0;exact z
    ·have r:=m6 sel (k-1)
     rw[if_pos h0,show k-1+1=k by omega]at r
     omega⟩,λi h h' ⟨k,hk,e,h0,z⟩ kp=>⟨k,hk,e,h0,T.keep _ _ _ z kp⟩,λSs hd s'' _ MA st''=>Lk K.co K.calm T (hg code s H fp) (ht code s H fp) (he code s H fp) hd turn stop w0 MA st'' hfr⟩) I0 h
end
def mx(val:Nat->Int):Nat->Int
 |0=>val 0
 |k+1=>if val (k+1)>mx val k then val (k+1)else mx val k
section
variable{X:Cx}{sc:Scope}{N':List Str}{code:Value}{sC:Shared}{HC:Hp}{fp:List Addr}{tn:Nat->Heap->Prop}{cnt:Nat}{R:Nat->V->Prop}{W:Nat->St->Hp->Prop}{a S:Addr}{pins:List (Addr×Obj)}{σ:St}{Rr:Result->Shared->Prop}
theorem yq.Yc{Ss:List Addr}{D:Around}{s:Shared}{Q:Option Value->Shared->Prop}{E:Value->Shared->Prop}(G:yq X D.in1 sc N' code sC HC fp Ss tn cnt R W a cnt s)(IC:Inv X pins σ HC sC)(hf:∀b∈fp,gn X pins HC b)(hh:D.handled=none)(hroom:D.depth<recursionLimit)(hs:∀b∈Ss,∃o,s.heap.get? b=some o)
  (hQ:∀s' σ' H',Inv X pins σ H' s'->W cnt σ' H'->(∀b∈Ss,H' b=none/\ ∀o,s.heap.get? b=some o->s'.heap.get? b=some o) ->Q none s'):
  wpAny (model X.prog X.w) D (pyNext (.ref a)) Q E s:=by
 obtain⟨gs,pl,σ',H',hpl,e1,e2,I,st,fr,w,go⟩:=G.ex
 have gg:=go (s.setGen sC.gens.size .running) hs I st
 rw[Nat.sub_self]at gg
 refine wpAny_pyNext_genexpQ (P:=λn s₀ s₁=>n=0/\ ∃σ' H',Inv (X.gen D.in1 sc N' code sC HC fp) (cQ Ss s₀.heap) σ' H' s₁/\W cnt σ' H') hh I.DT hroom G.gen e1 gg (λv s1 gs' hb hy=> ?_) (λs1 hp h' k=> ?_)
 ·obtain⟨YN,σ1,H1,x,Vq,I1,st1,Vr,r1,hR,w1,WB⟩:=hy
  have kp:∀b∈Ss,∀o,s.heap.get? b=some o->s1.heap.get? b=some o:=λb hb o e=>(I1.pin (b,o) (List.mem_append_right _ (List.mem_append_left _ (bU hb e)))).1
  have eq:cQ Ss s1.heap=cQ Ss s.heap:=lE λb hb=>let⟨o,e⟩:=hs b hb;⟨o,e,kp b hb o e⟩
  exact False.elim (WB s1 (λb hb=>let⟨o,e⟩:=hs b hb;⟨o,kp b hb o e⟩) (by rw[eq];exact I1) st1)
 ·obtain⟨_,σ1,H1,I1,w1⟩:=hp
  have I2:=Inv.Nb (gs:= .finished) IC hf rfl I1
  refine hQ _ σ1 H1 (I2.kept (t':=s1.toks) k) w1 λb hb=>⟨?_,λo e=> ?_⟩
  ·obtain⟨o,e⟩:=hs b hb
   exact(I1.pin (b,o) (List.mem_append_right _ (bU hb e))).2.1
  ·exact k _ _ (I1.pin (b,o) (List.mem_append_right _ (bU hb e))).1
theorem Lm(IC:Inv X pins σ HC sC)(hf:∀b∈fp,gn X pins HC b)(hh:X.A.handled=none)(hroom:X.A.depth<recursionLimit)(IS:a≠S)(hC:sC.heap.objs.size<S)(hfp:∀b∈fp,b≠S)
  (Bm:∀i h h',tn i h->(∀b∈fp,∀o,h.get? b=some o->h'.get? b=some o) ->tn i h')(val:Nat->Int)(hval:∀i v,i<cnt->R i v->v= .int (val i)):∀(k j:Nat)(s:Shared)(tA:Tok)(c:Nat),cnt- (j+1)=k->j+1<=cnt->
  yq X X.A.in1.in1 sc N' code sC HC fp [a,S] tn cnt R W a (j+1) s->s.heap.get? S=some {cls:= .type "list",dict:=none,data:= .seq #[.int (mx val j) tA,.int (mx val j) tA] c,slots:= #[]} ->
  (∀s' t' σ' H',Inv X pins σ H' s'->W cnt σ' H'->Rr (.ok (.ret (.int (mx val (cnt-1)) t'))) s') ->codeAny (model X.prog X.w) X.A (.builtin "max.loop" ⟨[.ref a,.none,.ref S],[]⟩) Rr s:=by
 have hname:(toString "max"++toString ".loop":String)= "max.loop":=by decide
 intro k
 induction k with
 |zero=>
  intro j s tA c hk hj G hS hR
  have ej:j+1=cnt:=by omega
  rw[ej]at G
  refine codeAny_builtin PySem.F.entry_max_loop (by
   rw[Around.under_plainId PySem.F.plain_max_loop _]
   show wpAny _ X.A.in1 (seqItems? (.ref S)>>=_) _ _ s
   refine wpAny_bind (wpAny_seqItems hS rfl ?_)
   show wpAny _ X.A.in1 (tryCatch (pyNext (.ref a)) _>>=_) _ _ s
   have ex:∀b∈ [a,S],∃o,s.heap.get? b=some o:=λb hb=>by
    rcases List.mem_cons.mp hb with z|z
    ·obtain⟨o,_,_,q,_⟩:=G.gen;rw[z];exact⟨o,q⟩
    ·rw[List.mem_singleton.mp z];exact⟨_,hS⟩
   refine wpAny_bind (wpAny_tryCatch (G.Yc (D:=X.A.in1) IC hf hh hroom ex λs' σ' H' I' w' kp=> ?_))
   have hS':=(kp S (by simp)).2 _ hS
   show wpAny _ X.A.in1 (updateSeq S (λ_=> #[])>>=_) _ _ _
   refine wpAny_bind (wpAny_updateSeq hS' rfl (wpAny_bind (wpAny_letGo (wpAny_pure ?_))))
   have ec:cnt-1=j:=by omega
   have q:=hR _ tA σ' H' (I'.turned (it:=S) (t':=s'.toks) (h':=s'.heap.update S (Obj.mapSeq λ_=> #[])) (λb o hb e=>(Heap.get?_update_other _ _ (Ne.symm hb)).trans e) (kp S (by simp)).1 (Ne.symm (Nat.ne_of_lt (Nat.lt_trans IC.lt hC))) (.inr (Nat.le_trans IC.sz (Nat.le_of_lt hC)))
    (λy c hc z=>by obtain⟨v,q⟩:=IC.cell y c hc;rw[z]at q;exact absurd (Nat.lt_trans q.lt hC) (Nat.lt_irrefl _))
    (λp hp z=>by have q:=(IC.pin p hp).1;rw[z]at q;exact absurd (Nat.lt_trans (Heap.lt_size q) hC) (Nat.lt_irrefl _))) w'
   rw[ec]at q
   exact q)
 |succ k ih=>
  intro j s tA c hk hj G hS hR
  have hlt:j+1<cnt:=by omega
  have ex:∀b∈ [a,S],∃o,s.heap.get? b=some o:=λb hb=>by
   rcases List.mem_cons.mp hb with z|z
   ·obtain⟨o,_,_,q,_⟩:=G.gen;rw[z];exact⟨o,q⟩
   ·rw[List.mem_singleton.mp z];exact⟨_,hS⟩
  refine codeAny_builtin PySem.F.entry_max_loop (by
   rw[Around.under_plainId PySem.F.plain_max_loop _]
   show wpAny _ X.A.in1 (seqItems? (.ref S)>>=_) _ _ s
   refine wpAny_bind (wpAny_seqItems hS rfl ?_)
   show wpAny _ X.A.in1 (tryCatch (pyNext (.ref a)) _>>=_) _ _ s
   refine wpAny_bind (wpAny_tryCatch (G.item (D:=X.A.in1) hh hroom (by simp) ex hlt λv x s' rx RB G' kp=> ?_))
   obtain rfl:=hval (j+1) x hlt RB
   obtain⟨t,rfl⟩:=rx
   have hS':=kp S (by simp) _ hS
   show wpAny _ X.A.in1 (tryCatch (holding [Value.int (val (j+1)) t,Value.int (val (j+1)) t] (richCompare .Gt (Value.int (val (j+1)) t) (Value.int (mx val j) tA)>>=_)) _>>=_) _ _ _
   refine wpAny_bind (wpAny_tryCatch (wpAny_holding (wpAny_bind (PySem.CmpOf.ints_gt (P:=λi v=>(i=0/\v=Value.int (val (j+1)) t)∨(i=1/\v=Value.int (mx val j) tA)) (λi=>if i=0 then val (j+1)else mx val j) (λi v h=>by
    rcases h with⟨rfl,rfl⟩|⟨rfl,rfl⟩
    ·exact⟨_,rfl⟩
    ·exact⟨_,rfl⟩) 0 1 _ _ _ _ _ (.inl ⟨rfl,rfl⟩) (.inr ⟨rfl,rfl⟩) ?_))))
   refine wpAny_bind (wpAny_holding (wpAny_truthy_bool ?_))
   refine wpAny_bind (wpAny_letGo (wpAny_pure ?_))
   show wpAny _ X.A.in1 (if decide (val (j+1)>mx val j)=true then _ else _) _ _ _
   by_cases hb:val (j+1)>mx val j
   ·rw[if_pos (decide_eq_true hb)]
    refine wpAny_bind ?_
    refine wpAny_updateSeq hS' rfl (wpAny_bind (wpAny_letGo ?_))
    rw[hname]
    have e1:mx val (j+1)=val (j+1):=by show(if _ then _ else _)=_;rw[if_pos hb]
    have Nf:=Heap.get?_update_self (Obj.mapSeq λ_=> #[Value.int (val (j+1)) t,Value.int (val (j+1)) t]) hS' rfl
    obtain⟨c',hS3⟩:∃c',(s'.heap.update S (Obj.mapSeq λ_=> #[Value.int (val (j+1)) t,Value.int (val (j+1)) t])).get? S=some {cls:= .type "list",dict:=none,data:= .seq #[.int (val (j+1)) t,.int (val (j+1)) t] c',slots:= #[]}:=⟨_,Nf⟩
    exact wpAny_pure ⟨plainId_quiet PySem.F.plain_max_loop _,ih (j+1) _ t c' (by omega) hlt (G'.frame (tk:=s'.toks) IS hC hfp Bm (.inl ⟨_,hS'⟩) (λb o hb e=>(Heap.get?_update_other _ _ (Ne.symm hb)).trans e) Nf (λv z=>by cases z)) (by rw[e1];exact hS3) hR⟩
   ·rw[if_neg (λz=>hb (of_decide_eq_true z))]
    refine wpAny_bind (wpAny_letGo ?_)
    rw[hname]
    have e1:mx val (j+1)=mx val j:=by show(if _ then _ else _)=_;rw[if_neg hb]
    refine wpAny_pure ⟨plainId_quiet PySem.F.plain_max_loop _,ih (j+1) _ tA c (by omega) hlt G' ?_ hR⟩
    rw[e1]
    exact hS')
theorem Ln{Q:Value->Shared->Prop}{E:Value->Shared->Prop}{s:Shared}(IC:Inv X pins σ HC sC)(hf:∀b∈fp,gn X pins HC b)(hh:X.A.handled=none)(hroom:X.A.depth<recursionLimit)(hsz:s.heap.objs.size=a+1)(hC:sC.heap.objs.size<a)(hlt:∀b∈fp,b<sC.heap.objs.size)
  (Bm:∀i h h',tn i h->(∀b∈fp,∀o,h.get? b=some o->h'.get? b=some o) ->tn i h')(hn:0<cnt)(val:Nat->Int)(hval:∀i v,i<cnt->R i v->v= .int (val i))(G:yq X X.A.in1.in1 sc N' code sC HC fp [a,a+1] tn cnt R W a 0 s)
  (hQ:∀s' t' σ' H',Inv X pins σ H' s'->W cnt σ' H'->Q (.int (mx val (cnt-1)) t') s'):wpAny (model X.prog X.w) X.A (call (.builtin "max") [.ref a]) Q E s:=by
 have hname:(toString "max"++toString ".loop":String)= "max.loop":=by decide
 refine call_function_tree PySem.F.kind_max PySem.F.plain_max PySem.F.entry_max (PySem.F.args_max1 _) ?_
 show wpAny _ X.A.in1 (Builtin.Builtins.bindParams "max" ["key","default"] 0 ⟨[],[]⟩>>=_) _ _ s
 refine wpAny_bind (wpAny_of_eq (show Builtin.Builtins.bindParams "max" ["key","default"] 0 ⟨[],[]⟩=pure [none,none]from rfl) ?_)
 refine wpAny_bind (wpAny_pure ?_)
 refine wpAny_bind (wpAny_pyIter_gen G.gen ?_)
 refine wpAny_bind (wpAny_newObj_type ?_)
 rw[hname]
 have IS:a≠a+1:=Nat.ne_of_lt (Nat.lt_succ_self _)
 have Us:sC.heap.objs.size<a+1:=Nat.lt_succ_of_lt hC
 have WC:∀b∈fp,b≠a+1:=λb hb=>Nat.ne_of_lt (Nat.lt_trans (hlt b hb) Us)
 refine wpAny_pure ⟨plainId_quiet PySem.F.plain_max_loop _,?_⟩
 rw[hsz]
 have eS:(s.heap.push {cls:= .type "list",dict:=none,data:= .seq #[]}).get? (a+1)=some {cls:= .type "list",dict:=none,data:= .seq #[]}:=by
  rw[<-hsz];exact Heap.get?_push_size _ rfl
 have G1:=G.frame (tk:=s.toks) IS Us WC Bm (.inr (Nat.le_of_eq hsz)) (λb o _ e=>Heap.get?_push_of_some _ e) eS (λv z=>by cases z)
 refine codeAny_builtin PySem.F.entry_max_loop (by
  rw[Around.under_plainId PySem.F.plain_max_loop _]
  show wpAny _ X.A.in1 (seqItems? (.ref (a+1))>>=_) _ _ _
  refine wpAny_bind (wpAny_seqItems eS rfl ?_)
  show wpAny _ X.A.in1 (tryCatch (pyNext (.ref a)) _>>=_) _ _ _
  have ex:∀b∈ [a,a+1],∃o,(s.heap.push {cls:= .type "list",dict:=none,data:= .seq #[]}).get? b=some o:=λb hb=>by
   rcases List.mem_cons.mp hb with z|z
   ·obtain⟨o,_,_,q,_⟩:=G1.gen;rw[z];exact⟨o,q⟩
   ·rw[List.mem_singleton.mp z];exact⟨_,eS⟩
  refine wpAny_bind (wpAny_tryCatch (G1.item (D:=X.A.in1) hh hroom (by simp) ex hn λv x s' rx RB G' kp=> ?_))
  obtain rfl:=hval 0 x hn RB
  obtain⟨t,rfl⟩:=rx
  have hS':=kp (a+1) (by simp) _ eS
  show wpAny _ X.A.in1 (updateSeq (a+1) (λ_=> #[Value.int (val 0) t,Value.int (val 0) t])>>=_) _ _ _
  refine wpAny_bind ?_
  refine wpAny_updateSeq hS' rfl ?_
  rw[hname]
  have Nf:=Heap.get?_update_self (Obj.mapSeq λ_=> #[Value.int (val 0) t,Value.int (val 0) t]) hS' rfl
  exact wpAny_pure ⟨plainId_quiet PySem.F.plain_max_loop _,Lm IC hf hh hroom IS Us WC Bm val hval _ 0 _ t _ rfl hn (G'.frame (tk:=s'.toks) IS Us WC Bm (.inl ⟨_,hS'⟩) (λb o hb e=>(Heap.get?_update_other _ _ (Ne.symm hb)).trans e) Nf (λv z=>by cases z)) Nf hQ⟩)
end
def Pb(k:Nat)(P:Addr)(g:TG)(tt:TT)(te:TE)(σ:St)(J:It)(H1:Hp)(Q:VK):Prop:=H1 P=some (cj P)/\Hj k g tt te σ (λcnt R W=>0<cnt/\ ∃val:Nat->Int,(∀i v,i<cnt->R i v->v= .int (val i))/\ ∀σ' H',W cnt σ' H'->Q (.int (mx val (cnt-1))) H') J H1
def VT(k:Nat)(P:Addr)(wi:TI)(g:TG)(tt:TT)(te:TE):TE:=λσ H Q=>wi σ H λJ H1=>Pb k P g tt te σ J H1 Q
section
variable{X:Cx}{sc:Scope}{N2:List Str}{x:Str}{px:Pos}{elt iter c:Expr}{g7 p pos:Pos}{wi:TI}{tt:TT}{te:TE}{P:Addr}
theorem Pc(hc:X.calm=true)(hr:X.A.depth<recursionLimit)(cd:gR X.K X.env.code P)(bm:BM X.mg X.base)(DX:Gl X "max")(hm:X.mg "max"=none)(hi:PI X (.Name x px) iter wi)(hB:Gx sc X.env.scope.names [x] N2 X.N=true)
  (ht:∀code s H fp,PT (X.gen X.A.in1.in1 sc ([x]++N2) code s H fp) c tt)(he:∀code s H fp,PE (X.gen X.A.in1.in1 sc ([x]++N2) code s H fp) elt te)
  (hs:∀x,genFold iter X.env x=pure x:=by intro _;rfl)(hst:starEach [.GeneratorExp elt [⟨.Name x px,iter,[c],0⟩] sc g7] X.env=[(false,eval (.GeneratorExp elt [⟨.Name x px,iter,[c],0⟩] sc g7) X.env)]:=by rfl):
  PE X (.Call (.Name "max" p) [.GeneratorExp elt [⟨.Name x px,iter,[c],0⟩] sc g7] [] pos) (VT 1 P wi (dX 0) tt te):=by
 have K:=qJ hc hr cd bm hB
 intro pins s σ H Q I h
 refine wpAny_Call_Name_kw (lQ I DX hm PyProof.Rows.boot_max ?_)
 refine PyProof.Rows.callWith_builtin1 ?_ hst rfl
 rw[hst]
 refine Calls.spliced_cons (gj (Pa (own:=[x]) (pos:=g7) (λa=>[a+1]) (λa b hb=>by rw[List.mem_singleton.mp hb];exact Nat.lt_succ_self _) K hi (λcode s H fp=>Gw K.RC K.nc code s H fp) ht he hs I h) λu s5 h5=> ?_)
 obtain⟨a,cnt,R,W,sC,HC,fp,code,tn,rfl,hsz,G,IC,hf,hC,hlt,Bm,hn,val,hval,hq⟩:=h5
 exact Calls.spliced_nil (Ln IC hf (I.ok.hd K.calm) K.room hsz hC hlt Bm hn val hval G λs' t' σ' H' I' w'=>⟨.int (mx val (cnt-1)),H',I',⟨_,rfl⟩,hq σ' H' w'⟩)
end
section
variable{X:Cx}
end
section
variable{X:Cx}{sc:Scope}{own N2:List Str}
variable{x y:Str}{px FW:Pos}{elt iter IV:Expr}{pos:Pos}{wi YR:TI}{te:TE}
end
theorem SW{σ:St}{tt:TT}{te:TE}{Q:VK}{H1:Hp}{P:Addr}(hP:H1 P=some (cj P))(sel:Nat->Bool)(ex:sel 0=true∨sel 1=true∨sel 2=true)
  (ht:∀j:Nat,j<3-> ∀H' (R:Bool->Hp->Prop),av H1 H'->(∀H2,av H' H2->R (sel j) H2) ->tt (some (.int (0+(j:Int)))::σ) H' R)
  (he:∀j:Nat,j<3-> ∀H' (Q':VK),av H1 H'->Q' (.int (0+(j:Int))) H'->te (some (.int (0+(j:Int)))::σ) H' Q')
  (hq:∀(i:Nat) H',av H1 H'->i<3->sel i=true->(∀j,i<j->j<3->sel j=false) ->Q (.int (i:Int)) H'):Pb 1 P (dX 0) tt te σ (My 0 3) H1 Q:=by
 have r0:rk sel 0=0:=rfl
 have r1:=m6 sel 0
 have r2:=m6 sel 1
 have r3:=m6 sel 2
 refine⟨hP,3,sel,λi v=>v= .int (if i=0 then(if sel 0=true then 0 else if sel 1=true then 1 else 2)else if i=1 then(if sel 0=true then(if sel 1=true then 1 else 2)else 2)else 2),λσ' H'=>(∃o,σ'=o::σ)/\av H1 H',⟨⟨none,rfl⟩,av.refl _⟩,λk σ' H' hk w=> ?_,λσ' H' w=>Nat.le_refl _,?_,_,λi v _ r=>r,λσ' H' w=> ?_⟩
 ·obtain⟨⟨o,rfl⟩,sm⟩:=w
  refine⟨hk,λx H2 yl=> ?_⟩
  obtain⟨e,exx⟩:=yl
  subst e exx
  show tt (some (.int (0+(k:Int)))::σ) H2 _
  refine ht k hk H2 _ sm λH3 s3=>⟨rfl,?_⟩
  cases hs:sel k with
  |false=>exact iO ⟨⟨_,rfl⟩,sm.trans s3⟩
  |true=>
   refine mQ (he k hk H3 _ (sm.trans s3) ⟨?_,⟨_,rfl⟩,sm.trans s3⟩)
   congr 1
   rcases aG hk with rfl|rfl|rfl
   ·rw[r0]
    simp[hs]
   ·rw[r1,r0]
    cases h0:sel 0<;>simp[hs]
   ·rw[r2,r1,r0]
    cases h0:sel 0<;>cases h1:sel 1<;>simp
 ·rw[r3,r2,r1,r0]
  rcases ex with z|z|z<;>rw[z]<;>simp<;>omega
 ·rw[r3,r2,r1,r0]
  have:=λi h1 h2 h3=>hq i H' w.2 h1 h2 h3
  cases h0:sel 0<;>cases h1:sel 1<;>cases h2:sel 2<;>simp[mx,h0,h1,h2]at ex ⊢
  ·exact this 2 (by decide) h2 (λj a b=>by omega)
  ·exact this 1 (by decide) h1 (λj a b=>by rw[show j=2 by omega];exact h2)
  ·exact this 2 (by decide) h2 (λj a b=>by omega)
  ·exact this 0 (by decide) h0 (λj a b=>by rcases aG b with rfl|rfl|rfl<;>first|omega|assumption)
  ·exact this 2 (by decide) h2 (λj a b=>by omega)
  ·exact this 1 (by decide) h1 (λj a b=>by rw[show j=2 by omega];exact h2)
  ·exact this 2 (by decide) h2 (λj a b=>by omega)
def aD(m:List (List Int))(x:Nat->Int)(j:Nat):Int:=x 0*ent m 0 j+x 1*ent m 1 j+x 2*ent m 2 j
theorem Lo{m:List (List Int)}(h:cC m)(p:Int)(x a:Nat->Int):aR m (λj=>x j+a j*p)=aR m x+p*(a 0*aD m x 0+a 1*aD m x 1+a 2*aD m x 2)+p*p*aR m a:=by
 obtain⟨aa,b,c,d,e,f,⟨q1,q2,q3,q4,q5,q6⟩,q⟩:=oM h
 obtain⟨⟨s1,s2,s3⟩,_⟩:=h
 rw[q,q,q]
 unfold aD
 rw[q1,q2,q3,s1,s2,s3,q4,q5,q6]
 grind
theorem uM{m:List (List Int)}(ev:cC m){p:Int}(hp:p∈([3,5,7,11,13]:List Int))(hd:aN m/2%p≠0){x:Nat->Int}(L:gZ p x):¬(aD m x 0%p=0/\aD m x 1%p=0/\aD m x 2%p=0):=by
 rintro⟨h0,h1,h2⟩
 have p0:2<p:=by
  simp only[List.mem_cons,List.not_mem_nil,or_false]at hp
  omega
 obtain⟨k0,e0⟩:=Int.dvd_of_emod_eq_zero h0
 obtain⟨k1,e1⟩:=Int.dvd_of_emod_eq_zero h1
 obtain⟨k2,e2⟩:=Int.dvd_of_emod_eq_zero h2
 have key:∀j,j<3->x j*aN m=aD m x 0*ent (iH m) 0 j+aD m x 1*ent (iH m) 1 j+aD m x 2*ent (iH m) 2 j:=λj hj=>by
  unfold aD
  rw[cN]
  rcases aG hj with rfl|rfl|rfl<;>simp only[cR m (show 0<3 by decide) (show 0<3 by decide),cR m (show 0<3 by decide) (show 1<3 by decide),cR m (show 0<3 by decide) (show 2<3 by decide),cR m (show 1<3 by decide) (show 0<3 by decide),cR m (show 1<3 by decide) (show 1<3 by decide),cR m (show 1<3 by decide) (show 2<3 by decide),cR m (show 2<3 by decide) (show 0<3 by decide),cR m (show 2<3 by decide) (show 1<3 by decide),cR m (show 2<3 by decide) (show 2<3 by decide),lF]<;>grind
 have dv:∀j,j<3->x j%p=0:=λj hj=>by
  have k:=key j hj
  rw[e0,e1,e2]at k
  obtain⟨kd,ek⟩:=Eo ev
  have ek2:aN m/2=kd:=by omega
  rw[ek2]at hd
  have z:(x j*2*kd)%p=0:=Int.emod_eq_zero_of_dvd ⟨k0*ent (iH m) 0 j+k1*ent (iH m) 1 j+k2*ent (iH m) 2 j,by rw[Int.mul_assoc,<-ek,k];grind⟩
  have z2:=(oJ hp hd).mp z
  exact(oJ hp (show(2:Int)%p≠0 by rw[bL (by decide) p0];decide)).mp z2
 rcases L.one with z|⟨z,z1⟩|⟨z,z1,z2⟩
 ·have:=dv 0 (by decide)
  rw[z,bL (by decide) (by omega)]at this
  cases this
 ·have:=dv 1 (by decide)
  rw[z1,bL (by decide) (by omega)]at this
  cases this
 ·have:=dv 2 (by decide)
  rw[z2,bL (by decide) (by omega)]at this
  cases this
structure pK(m:List (List Int))(p:Int)(x:Nat->Int)(i:Nat)(t:Int):Prop where
 hi:i<3
 sl:aD m x i%p≠0
 flat:∀j,i<j->j<3->aD m x j%p=0
 lo:0<=t
 up:t<p
 eq:(aR m x/p+t*aD m x i)%p=0
def cH(p:Int)(x:Nat->Int)(i:Nat)(t:Int):Nat->Int:=λj=>if j=i then x j+t*p else x j
def digit(n k j:Nat):Nat:=if j=0 then k/(n*n)else if j=1 then k/n%n else k%n
def gU(n:Nat)(x:Nat->Int)(k:Nat):Nat->Int:=λj=>x j+(digit n k j:Int)*n
theorem Ey{m:List (List Int)}(ev:cC m){n:Nat}(hn:0<n){x:Nat->Int}(hx:aR m x%(n:Int)=0)(k:Nat):
  aR m (gU n x k)%((n:Int)*n)=0↔(aR m x/n+(digit n k 0*aD m x 0+digit n k 1*aD m x 1+digit n k 2*aD m x 2))%(n:Int)=0:=by
 have e:=Lo ev (n:Int) x (λj=>(digit n k j:Int))
 have e':aR m (gU n x k)=n*(aR m x/n+(digit n k 0*aD m x 0+digit n k 1*aD m x 1+digit n k 2*aD m x 2))+n*n*aR m (λj=>(digit n k j:Int)):=by
  show aR m (λj=>x j+(digit n k j:Int)*n)=_
  rw[e]
  have h:=Int.emod_add_mul_ediv (aR m x) n
  rw[hx]at h
  have h':aR m x=n*(aR m x/n):=by omega
  generalize aR m x/n=w at h' ⊢
  rw[h']
  grind
 rw[e',Int.add_mul_emod_self_left]
 have n0:(n:Int)≠0:=by omega
 constructor
 ·intro z
  obtain⟨c,hc⟩:=Int.dvd_of_emod_eq_zero z
  refine Int.emod_eq_zero_of_dvd ⟨c,?_⟩
  rw[Int.mul_assoc]at hc
  exact Int.eq_of_mul_eq_mul_left n0 hc
 ·intro z
  obtain⟨c,hc⟩:=Int.dvd_of_emod_eq_zero z
  exact Int.emod_eq_zero_of_dvd ⟨c,by rw[hc,Int.mul_assoc]⟩
theorem Lp{p:Int}(hp:p∈([3,5,7,11,13]:List Int)){w s a t:Int}(hs:s%p≠0)(ha:(w+a*s)%p=0)(ht:(w+t*s)%p=0)(a0:0<=a)(a1:a<p)(t0:0<=t)(t1:t<p):a=t:=by
 obtain⟨c,hc⟩:=Int.dvd_of_emod_eq_zero ha
 obtain⟨d,hd⟩:=Int.dvd_of_emod_eq_zero ht
 have z:((a-t)*s)%p=0:=Int.emod_eq_zero_of_dvd ⟨c-d,by rw[Int.sub_mul,Int.mul_sub,<-hc,<-hd];omega⟩
 have z2:=(oJ hp hs).mp z
 have e1:a%p=t%p:=Int.emod_eq_emod_iff_emod_sub_eq_zero.mpr z2
 rw[bL a0 a1,bL t0 t1]at e1
 exact e1
def jh(n i:Nat)(t:Nat):Nat:=if i=0 then t*(n*n)else if i=1 then t*n else t
theorem Ez{n i t:Nat}(hn:0<n)(hi:i<3)(ht:t<n)(j:Nat)(hj:j<3):digit n (jh n i t) j=if j=i then t else 0:=by
 have nn:0<n*n:=Nat.mul_pos hn hn
 unfold digit jh
 rcases aG hi with rfl|rfl|rfl<;>rcases aG hj with rfl|rfl|rfl<;>simp
 ·exact Nat.mul_div_cancel _ nn
 ·rw[show t*(n*n)=t*n*n by rw[Nat.mul_assoc],Nat.mul_div_cancel _ hn,Nat.mul_mod_left]
 ·rw[show t*(n*n)=t*n*n by rw[Nat.mul_assoc]];exact Nat.mul_mod_left _ _
 ·exact .inr (Nat.mul_lt_mul_of_pos_right ht hn)
 ·rw[Nat.mul_div_cancel _ hn,Nat.mod_eq_of_lt ht]
 ·exact .inr (Nat.lt_of_lt_of_le ht (Nat.le_mul_of_pos_left n hn))
 ·rw[Nat.div_eq_of_lt ht];exact Nat.zero_mod _
 ·exact Nat.mod_eq_of_lt ht
theorem EA{n i t k:Nat}(hn:0<n)(hi:i<3)(ht:t<n)(hk:k<jh n i t):digit n k i<t/\ ∀j,j<i->digit n k j=0:=by
 have nn:0<n*n:=Nat.mul_pos hn hn
 unfold jh at hk
 unfold digit
 rcases aG hi with rfl|rfl|rfl
 ·simp at hk ⊢
  exact(Nat.div_lt_iff_lt_mul nn).mpr hk
 ·simp at hk ⊢
  have h1:k/n<t:=(Nat.div_lt_iff_lt_mul hn).mpr hk
  have h2:k<n*n:=Nat.lt_trans hk (Nat.mul_lt_mul_of_pos_right ht hn)
  refine⟨by rw[Nat.mod_eq_of_lt (by omega)];exact h1,?_⟩
  exact .inr h2
 ·simp at hk ⊢
  have h2:k<n*n:=Nat.lt_of_lt_of_le (Nat.lt_trans hk ht) (Nat.le_mul_of_pos_left n hn)
  have h3:k<n:=Nat.lt_trans hk ht
  refine⟨by rw[Nat.mod_eq_of_lt h3];exact hk,λj hj=> ?_⟩
  have:j=0∨j=1:=by omega
  rcases this with rfl|rfl
  ·simp;exact .inr h2
  ·simp;rw[Nat.div_eq_of_lt h3];exact Nat.zero_mod _
theorem yM{m:List (List Int)}(ev:cC m){n:Nat}(hp:(n:Int)∈([3,5,7,11,13]:List Int)){x:Nat->Int}(hx:aR m x%(n:Int)=0){i t:Nat}(F:pK m n x i t):
  jh n i t<n*n*n/\(∀j,j<3->gU n x (jh n i t) j=cH n x i t j)/\aR m (gU n x (jh n i t))%((n:Int)*n)=0/\ ∀k,k<jh n i t-> ¬aR m (gU n x k)%((n:Int)*n)=0:=by
 have n2:2<n:=by
  simp only[List.mem_cons,List.not_mem_nil,or_false]at hp
  omega
 have hn:0<n:=by omega
 have ht:t<n:=by have:=F.up;omega
 have hi:=F.hi
 have D:=λj hj=>Ez hn hi ht j hj
 have nn:0<n*n:=Nat.mul_pos hn hn
 refine⟨?_,λj hj=> ?_,?_,λk hk z=> ?_⟩
 ·unfold jh
  have h1:t*(n*n)<n*(n*n):=Nat.mul_lt_mul_of_pos_right ht nn
  have e1:n*n*n=n*(n*n):=Nat.mul_assoc ..
  have h2:t*n<=t*(n*n):=Nat.mul_le_mul_left t (Nat.le_mul_of_pos_left n hn)
  have h3:t<=t*n:=Nat.le_mul_of_pos_right t hn
  split
  ·omega
  ·split<;>omega
 ·unfold gU cH
  rw[D j hj]
  split
  ·rfl
  ·simp
 ·rw[Ey ev hn hx,D 0 (by decide),D 1 (by decide),D 2 (by decide)]
  have e:=F.eq
  rcases aG hi with rfl|rfl|rfl<;>simpa using e
 ·rw[Ey ev hn hx]at z
  obtain⟨h1,h2⟩:=EA hn hi ht hk
  have z':(aR m x/n+(digit n k i:Int)*aD m x i)%(n:Int)=0:=by
   rw[<-z]
   rcases aG hi with rfl|rfl|rfl
   ·obtain⟨c,hc⟩:=Int.dvd_of_emod_eq_zero (F.flat 1 (by decide) (by decide))
    obtain⟨d,hd⟩:=Int.dvd_of_emod_eq_zero (F.flat 2 (by decide) (by decide))
    rw[hc,hd]
    symm
    refine lG (k:=digit n k 1*c+digit n k 2*d) ?_
    grind
   ·obtain⟨d,hd⟩:=Int.dvd_of_emod_eq_zero (F.flat 2 (by decide) (by decide))
    rw[hd,h2 0 (by decide)]
    symm
    refine lG (k:=digit n k 2*d) ?_
    grind
   ·rw[h2 0 (by decide),h2 1 (by decide)]
    simp
  have:=Lp hp F.sl z' F.eq (by omega) (by omega) (by omega) (by omega)
  omega
theorem Jl{m:List (List Int)}(ev:cC m){p:Int}(hp:p∈([3,5,7,11,13]:List Int))(hd:aN m/2%p≠0){x:Nat->Int}(L:gZ p x):∃(i t:Nat),pK m p x i t:=by
 have p0:2<p:=by
  simp only[List.mem_cons,List.not_mem_nil,or_false]at hp
  omega
 have ex:=uM ev hp hd L
 obtain⟨i,hi,si,fl⟩:∃i,i<3/\aD m x i%p≠0/\ ∀j,i<j->j<3->aD m x j%p=0:=by
  by_cases z2:aD m x 2%p=0
  ·by_cases z1:aD m x 1%p=0
   ·exact⟨0,by decide,λz0=>ex ⟨z0,z1,z2⟩,λj a b=>by rcases aG b with rfl|rfl|rfl<;>first|omega|assumption⟩
   ·exact⟨1,by decide,z1,λj a b=>by rw[show j=2 by omega];exact z2⟩
  ·exact⟨2,by decide,z2,λj a b=>by omega⟩
 obtain⟨u,hu,eu⟩:=pI hp si
 have t0:=Int.emod_nonneg (-(aR m x/p)*(1+(u:Int))) (show p≠0 by omega)
 have t1:=Int.emod_lt_of_pos (-(aR m x/p)*(1+(u:Int))) (show 0<p by omega)
 refine⟨i,(-(aR m x/p)*(1+(u:Int))%p).toNat,hi,si,fl,by omega,by omega,?_⟩
 rw[Int.toNat_of_nonneg t0]
 obtain⟨k,hk⟩:=gY (show(1+(u:Int))*aD m x i%p=1%p by rw[eu];exact(bL (by decide) (by omega)).symm)
 have e2:=Int.emod_add_mul_ediv (-(aR m x/p)*(1+(u:Int))) p
 generalize(1+(u:Int))=u' at hk e2 ⊢
 generalize aR m x/p=w at e2 ⊢
 generalize-w*u'%p=y at e2 ⊢
 refine Int.emod_eq_zero_of_dvd ⟨-(w*k) - (-w*u'/p)*aD m x i,?_⟩
 generalize-w*u'/p=v at e2 ⊢
 have e3:y= -w*u'-p*v:=by omega
 have e4:w+y*aD m x i=w-w*(u'*aD m x i) -p*(v*aD m x i):=by rw[e3];grind
 rw[e4,hk]
 grind
theorem EB{P:Nat->Prop}{j k:Nat}(hj:P j)(fj:∀i,i<j-> ¬P i)(hk:P k)(fk:∀i,i<k-> ¬P i):j=k:=by
 rcases Nat.lt_trichotomy j k with z|z|z
 ·exact absurd hj (fk j z)
 ·exact z
 ·exact absurd hk (fj k z)
section
variable{X:Cx}
def VU(K:PySem.W.Frag):V->List V->Hp->VK->Prop:=λx vs H Q=> ∃l xs y,∃j:Nat,x= .ref l/\vs=[y]/\aV K H l xs/\sI y=true/\xs.all sI=true/\(∃z,xs[j]?=some z/\Mz z y=true)/\(∀(i:Nat) z,i<j->xs[i]?=some z->Mz z y=false)/\Q (.int (j:Int)) H
theorem Pd:MtM X "list.index" (VU X.K):=by
 intro pins s σ H x vs v us Q I rx rv h
 obtain⟨l,xs,y,j,rfl,rfl,hq,fy,fs,⟨z,ez,hz1⟩,hno,q⟩:=h
 cases rx
 obtain⟨u,rfl,ru⟩:=rv.one
 obtain⟨its,r,pl,hz⟩:=I.list hq
 obtain⟨⟨cls,dd,data,sl⟩,ho,hc,n,hd⟩:=id pl.isList
 simp only at hc hd
 subst hc hd
 have hlen:=r.length
 have hj:j<xs.length:=(List.getElem?_eq_some_iff.mp ez).1
 have at_:∀(i:Nat)(hi:i<its.length),∃w,xs[i]?=some w/\Ka y its[i]=Mz w y:=λi hi=>by
  obtain⟨u',h1,h2⟩:=r.get (i:=i) (x:=xs[i]'(by omega)) (List.getElem?_eq_getElem _)
  rw[List.getElem?_eq_getElem hi]at h1
  cases h1
  exact⟨_,List.getElem?_eq_getElem _,Gn h2 (List.all_eq_true.mp fs _ (List.getElem_mem _))⟩
 refine call_meets PySem.F.slot_list_index ⟨_,ho,rfl⟩ PySem.F.entry_list_index (PySem.F.args_list_index_2 _ _)
  (SeqAt.list_indexAt l its.toArray n dd sl u (Ka y) j (by simpa using(by omega:j<its.length)) (by have:=sizeLine_eq;omega) ?_ ?_) ⟨ho,λw hw=>uw ru fy r fs w (by simpa using hw),.int (j:Int),H,I.tok _,⟨_,rfl⟩,q⟩
 ·obtain⟨w,e1,e2⟩:=at_ j (by omega)
  rw[ez]at e1
  cases e1
  show Ka y its[j]=true
  rw[e2,hz1]
 ·intro i hi hlt
  have hi':i<its.length:=by simpa using hi
  obtain⟨w,e1,e2⟩:=at_ i hi'
  show Ka y its[i]=false
  rw[e2]
  exact hno i w hlt e1
end
section
variable{prog:Program}{w:World}{A:Around}{E:Value->Shared->Prop}{s:Shared}
end
section
variable{X:Cx}
end
def Yd(K:PySem.W.Frag)(neg:Bool):R2:=λx y H Q=> ∃p xs d ds,y= .ref p/\aV K H p xs/\DY K H x d/\SeqAt.shaped d=true/\Ao K H xs ds/\ds.all SeqAt.shaped=true/\Q (.bl (if neg then !(ds.any λe=>PyData.eqv e d)else ds.any λe=>PyData.eqv e d)) H
section
variable{X:Cx}{pins:List (Addr×Obj)}{σ:St}{H:Hp}{s:Shared}
open Classical in
theorem SX(I:Inv X pins σ H s)(hu:X.A.units+65<cLine){x:V}{v:Value}{d:PyData}(rx:RelV x v)(hx:DY X.K H x d)(sd:SeqAt.shaped d=true):∃e:Value->Bool,∀{xs:List V}{us:List Value}{ds:List PyData},Vals xs us->Ao X.K H xs ds->ds.all SeqAt.shaped=true->
  (∀u∈us,SeqAt.EqAt X.A.in1 s u v (e u))/\us.any e=ds.any λe=>PyData.eqv e d:=by
 obtain⟨as,ra⟩:=lW I hx rx
 refine⟨λu=>if h:∃du,(∃bs,Reads s.heap u du bs)/\SeqAt.shaped du=true then PyData.eqv h.choose d else false,?_⟩
 have val:∀{u:Value}{du:PyData}{bs:List Addr},Reads s.heap u du bs->SeqAt.shaped du=true->(if h:∃du,(∃bs,Reads s.heap u du bs)/\SeqAt.shaped du=true then PyData.eqv h.choose d else false)=PyData.eqv du d:=λ {u du bs} r sh=>by
  have h:∃du,(∃bs,Reads s.heap u du bs)/\SeqAt.shaped du=true:=⟨du,⟨bs,r⟩,sh⟩
  rw[dif_pos h]
  obtain⟨⟨bs',r'⟩,sh'⟩:=h.choose_spec
  rw[SeqAt.Reads.unique h.choose du u bs' bs (SeqAt.canLay_of_shaped sh') r' r]
 intro xs us ds r
 induction r generalizing ds with
 |nil=>
  intro hd _
  cases hd
  exact⟨λu hu=>(by cases hu),rfl⟩
 |cons a r ih=>
  intro hd sh
  cases hd with
  |cons h1 h2=>
   rw[List.all_cons,Bool.and_eq_true]at sh
   obtain⟨bs,r1⟩:=lW I h1 a
   obtain⟨i1,i2⟩:=ih h2 sh.2
   refine⟨λu hu'=> ?_,?_⟩
   ·rcases List.mem_cons.mp hu' with rfl|z
    ·dsimp only
     rw[val r1 sh.1]
     exact SeqAt.eqAt_reads _ _ X.A.in1 s _ _ _ _ r1 ra (SeqAt.canLay_of_shaped sh.1) (SeqAt.canLay_of_shaped sd) (SeqAt.room_of_shaped sh.1 (show X.A.units+1+64<cLine by omega))
    ·exact i1 u z
   ·rw[List.any_cons,List.any_cons,i2,val r1 sh.1]
theorem Lq(hu:X.A.units+65<cLine):vD X (compareOp .NotIn) (Yd X.K true):=by
 intro pins s σ H x y v u Q I rx ry h
 obtain⟨p,xs,d,ds,rfl,hq,hx,sd,hd,sh,q⟩:=h
 cases ry
 obtain⟨its,r,pl,hz⟩:=I.list hq
 obtain⟨e,he⟩:=SX I hu rx hx sd
 obtain⟨h1,h2⟩:=he r hd sh
 refine SeqAt.notIn_listAt e pl.isList (λw hw=>h1 w (by simpa using hw)) ⟨.bl _,H,I,rfl,?_⟩
 rw[show its.toArray.any e=its.any e by simp,h2]
 exact q
end
theorem gr.VV{k:Nat}{A:Around}(r:gr k A):A.units+65<cLine:=by have:=r.un;omega
structure cZ(P:Program)(w:World)(K:PySem.W.Frag)(mg:Str->Option Value)(base:Heap)(C:Gh)(k:Nat)(x:Str)(ps:List Str)(sp:Sp):Prop where
 ex:∃f fd,qD P w K mg base C k f fd ps sp/\Binds K fd ps []/\PySem.W.keepIn K (.ref f)=true/\mg x=some (.ref f)
structure fK(K:PySem.W.Frag)(mg:Str->Option Value)(x:Str)(st:Stmt)(ps:List Str):Prop where
 ex:∃f fd,Kf K x x st f fd/\Binds K fd ps []/\mg x=some (.ref f)
structure qp(K:PySem.W.Frag)(mg:Str->Option Value)(x:Str)(st:Stmt)(ps:List Str)(T:Addr):Prop where
 ex:∃f fd,Kv K x x st f fd T/\Binds K fd ps []/\mg x=some (.ref f)
section
variable{P:Program}{w:World}{K:PySem.W.Frag}{mg:Str->Option Value}{base:Heap}{C:Gh}{x:Str}{st:Stmt}{N ps:List Str}{j k:Nat}{sp:Sp}{T:Addr}
theorem cZ.mono(F:cZ P w K mg base C j x ps sp)(h:j<=k:=by decide):cZ P w K mg base C k x ps sp:=by
 obtain⟨f,fd,a,b⟩:=F.ex
 exact⟨f,fd,a.mono h,b⟩
theorem fK.ok(F:fK K mg x st ps)(S:aP N ps (aC st))(len:∀vs H Q E,sp vs H Q E->vs.length=ps.length)
  (hbody:∀f (cdv:Value) (A:Around) (outer:List Env) (s:Shared) (H:Hp) (vs:List V) (Q:VK) (E:XK),gr k (A.deeper (envOfC x (aC st) s.heap.objs.size f cdv)) ->sp vs H Q E->
   ∃t,vC (qx c8 P w K mg base N x (aC st) f cdv A outer s H E).Mx (fz st) t/\t {nx:=λ_ H'=>Q .fP H',rt:=Q} (start N vs) H):cZ P w K mg base c8 (k+1) x ps sp:=by
 obtain⟨f,fd,a,b,m⟩:=F.ex
 exact⟨f,fd,a.ok S len (hbody f),b,a.kp,m⟩
theorem qp.ok(F:qp K mg x st ps T)(S:aP N ps (aC st))(len:∀vs H Q E,sp vs H Q E->vs.length=ps.length)
  (hbody:∀f (cdv:Value) (A:Around) (outer:List Env) (s:Shared) (H:Hp) (vs:List V) (Q:VK) (E:XK),gR K cdv T->gr k (A.deeper (envOfC x (aC st) s.heap.objs.size f cdv)) ->sp vs H Q E->
   ∃t,vC (qx c8 P w K mg base N x (aC st) f cdv A outer s H E).Mx (fz st) t/\t {nx:=λ_ H'=>Q .fP H',rt:=Q} (start N vs) H):cZ P w K mg base c8 (k+1) x ps sp:=by
 obtain⟨f,fd,a,b,m⟩:=F.ex
 exact⟨f,fd,a.ok S len (hbody f),b,a.kp,m⟩
theorem fK.QU(F:fK K mg x st ps)(S:aP N ps (aC st))(len:∀vs H Q E,sp vs H Q E->vs.length=ps.length)
  (hbody:∀f (cdv:Value) (A:Around) (outer:List Env) (s:Shared) (H:Hp) (vs:List V) (Q:VK) (E:XK),gr k (A.deeper (envOfC x (aC st) s.heap.objs.size f cdv)) ->sp vs H Q E->
   ∃t,vC (qx (vO P w) P w K mg base N x (aC st) f cdv A outer s H E) (fz st) t/\t {nx:=λ_ H'=>Q .fP H',rt:=Q} (start N vs) H):cZ P w K mg base (vO P w) (k+1) x ps sp:=by
 obtain⟨f,fd,a,b,m⟩:=F.ex
 exact⟨f,fd,a.QU S len (hbody f),b,a.kp,m⟩
end
theorem aQ{X:Cx}{CX:Gh}{k:Nat}{ps:List Str}{sp:Sp}{E:XK}{x:Str}{p pos:Pos}{e:Expr}{es:List Expr}{t:TA}(F:cZ X.prog X.w X.K X.mg X.base CX k x ps sp)(hr:gr k X.A)(hg:Gl X x)(hx:Passes CX X E)(ha:PA X (e::es) t)
  (hdb:(x==("__debug__":Str))=false:=by decide)(he:starEach (e::es) X.env=(false,eval e X.env)::starEach es X.env:=by rfl)(hpl:(backTo pos (starEach es X.env)).any (·.1)=false:=by rfl):
  PE X (.Call (.Name x p) (e::es) [] pos) (qm sp [] E t):=by
 obtain⟨f,fd,a,b,kp,m⟩:=F.ex
 exact Rm a hr hg m kp b .nil hx ha hdb he hpl
theorem Pe{X:Cx}{pins:List (Addr×Obj)}{i:Nat}{n kx fx:Str}{CK:Addr}{b₀:Stmt}{suite:List Stmt}{np hpos p cpos:Pos}{th:Addr->Obj->TS}{k:Nat}{ps:List Str}{sp:Sp}{e:Expr}{es:List Expr}{ta:TA}{D:Ends}{Et:St}
  (ok:X.Ok)(T:Jh X CK i n kx)(F:cZ X.prog X.w X.K X.mg X.base (vO X.prog X.w) k fx ps sp)(hr:gr k X.A)(hg:Gl X fx)
  (hs:∀a oe,vC (X.hand a oe) (b₀::suite) (th a oe))
  (ha:PA (X.tried (X.pn++pins) (XW X kx np n (b₀::suite) hpos pins D)) (e::es) ta)
  (hdf:(fx==("__debug__":Str))=false:=by decide)(he:starEach (e::es) X.env=(false,eval e X.env)::starEach es X.env:=by rfl)(hpl:(backTo cpos (starEach es X.env)).any (·.1)=false:=by rfl):
  PE (X.tried (X.pn++pins) (XW X kx np n (b₀::suite) hpos pins D)) (.Call (.Name fx p) (e::es) [] cpos) (GQ sp (HX X CK i th D Et) Et ta):=by
 obtain⟨f,fd,a,b,kp,m⟩:=F.ex
 exact NR (p:=p) (Et:=Et) ok T a hr hg m kp b hs ha hdf he hpl
def FnAt(K:PySem.W.Frag)(x:Str)(st:Stmt)(f:Addr):Prop:=∃(oc:Value)(od an:Option Addr)(sl:Array (Option Value))(kV dc pm cd ct:Value),PySem.W.nsIn K mainGlobals x=some (some (.ref f))/\
 K.lookup f=some ⟨oc,od,.func (PySem.W.fnOf x x (iE st) (fz st) (aC st) .none kV dc pm an cd ct),sl⟩/\PySem.W.codeIn K cd x=true/\PySem.W.keepIn K (.ref f)=true
theorem fnAt{K:PySem.W.Frag}{x:Str}{st:Stmt}{f:Addr}{oc:Value}{od an:Option Addr}{sl:Array (Option Value)}{kV dc pm cd ct:Value}(a:PySem.W.nsIn K mainGlobals x=some (some (.ref f)):=by k_is)
  (l:K.lookup f=some ⟨oc,od,.func (PySem.W.fnOf x x (iE st) (fz st) (aC st) .none kV dc pm an cd ct),sl⟩:=by k_is)(c:PySem.W.codeIn K cd x=true:=by k_is)(k:PySem.W.keepIn K (.ref f)=true:=by k_is):FnAt K x st f:=
 ⟨oc,od,an,sl,kV,dc,pm,cd,ct,a,l,c,k⟩
section
variable{q:Program}{loose:List Str}{mean:ExcName->Option Value}{mg mb:Str->Option Value}{h:Heap}{K:PySem.W.Frag}{x:Str}{st:Stmt}{f:Addr}{ps:List Str}
theorem FnAt.fun(Tp:Top q loose mean mg mb h)(X:K.In h)(A:FnAt K x st f)
  (hb:∀(kV doc pm:Value)(an:Option Addr)(cdv ct:Value)(us:List Value),us.length=ps.length->bindArgs (PySem.W.fnOf x x (iE st) (fz st) (aC st) .none kV doc pm an cdv ct) ⟨us,[]⟩=pure (ps.zip us):=by exact λ_ _ _ _ _ _ us hl=>by first|(match us,hl with| [_],_=>rfl)|(match us,hl with| [_,_],_=>rfl)|(match us,hl with| [_,_,_],_=>rfl)|(match us,hl with| [_,_,_,_],_=>rfl)|(match us,hl with| [_,_,_,_,_],_=>rfl)|(match us,hl with| [_,_,_,_,_,_],_=>rfl)):fK K mg x st ps:=by
 obtain⟨oc,od,an,sl,kV,dc,pm,cd,ct,a,l,c,k⟩:=A
 have F:=Gp (st:=st) l c k
 exact⟨f,_,F,F.binds hb,PySem.W.mg_of X Tp.g a⟩
theorem FnAt.Cu(Tp:Top q loose mean mg mb h)(X:K.In h)(A:FnAt K x st f){d:DefRec}(r:(recsOf q).find? (λe=>e.name==x)=some d)
  (hb:∀(kV doc pm:Value)(an:Option Addr)(cdv ct:Value)(us:List Value),us.length=ps.length->bindArgs (PySem.W.fnOf x x (iE st) (fz st) (aC st) .none kV doc pm an cdv ct) ⟨us,[]⟩=pure (ps.zip us):=by exact λ_ _ _ _ _ _ us hl=>by first|(match us,hl with| [_],_=>rfl)|(match us,hl with| [_,_],_=>rfl)|(match us,hl with| [_,_,_],_=>rfl)|(match us,hl with| [_,_,_,_],_=>rfl)|(match us,hl with| [_,_,_,_,_],_=>rfl)|(match us,hl with| [_,_,_,_,_,_],_=>rfl)):
  ∃T,qp K mg x st ps T/\isCodeTable h T/\h.get? T=some {cls:= .none,data:= .fields #[]}/\tabOf K f=some (.ref T):=by
 obtain⟨oc,od,an,sl,kV,dc,pm,cd,ct,a,l,c,k⟩:=A
 have m:=PySem.W.mg_of X Tp.g a
 obtain⟨T,cA,cT,cE⟩:=Gv Tp r X m l (show PySem.W.codeIn K (PySem.W.fnOf x x (iE st) (fz st) (aC st) .none kV dc pm an cd ct).code x=true from c)
 have F:Kv K x x st f _ T:=⟨⟨oc,od,kV,dc,pm,an,cd,ct,sl,rfl,l,c,cA⟩,k⟩
 exact⟨T,⟨f,_,F,F.fn.binds hb,m⟩,cT,cE,DZ l cA⟩
end
end L2
set_option maxHeartbeats 1000000
namespace CB
open PySem L2
def top(i:Nat):Stmt:=PySem.Challenge.pw_conekin_k47_beside_refused.main.body.getD i (.Pass ⟨0,0,0,0⟩)
abbrev tF:Stmt:=top 13
abbrev jV:List Str:=["thing"]
theorem EC:aP ["thing"] jV (aC tF):=⟨rfl,rfl,rfl,by decide+kernel,rfl,by decide+kernel,by decide+kernel⟩
abbrev yN:Stmt:=top 14
abbrev oQ:List Str:=["thing"]
theorem Lr:aP ["thing"] oQ (aC yN):=⟨rfl,rfl,rfl,by decide+kernel,rfl,by decide+kernel,by decide+kernel⟩
abbrev tG:Stmt:=top 15
abbrev jW:List Str:=["thing"]
theorem ED:aP ["thing"] jW (aC tG):=⟨rfl,rfl,rfl,by decide+kernel,rfl,by decide+kernel,by decide+kernel⟩
abbrev nE:Stmt:=top 17
abbrev iS:List Str:=["table"]
theorem yO:aP ["table"] iS (aC nE):=⟨rfl,rfl,rfl,by decide+kernel,rfl,by decide+kernel,by decide+kernel⟩
abbrev l8:Stmt:=top 18
abbrev ig:List Str:=["table","i","j"]
theorem kJ:aP ["table","i","j","row","next_row","column","next_column"] ig (aC l8):=⟨rfl,rfl,rfl,by decide+kernel,rfl,by decide+kernel,by decide+kernel⟩
abbrev nF:Stmt:=top 19
abbrev gc:List Str:=["table"]
theorem dI:aP ["table","a","b","c","d","e","f","g","h","i"] gc (aC nF):=⟨rfl,rfl,rfl,by decide+kernel,rfl,by decide+kernel,by decide+kernel⟩
abbrev Cv:Stmt:=top 20
abbrev uN:List Str:=["table"]
theorem Pf:aP ["table"] uN (aC Cv):=⟨rfl,rfl,rfl,by decide+kernel,rfl,by decide+kernel,by decide+kernel⟩
abbrev kK:Stmt:=top 24
abbrev gH:List Str:=["thing"]
theorem vR:aP ["thing"] gH (aC kK):=⟨rfl,rfl,rfl,by decide+kernel,rfl,by decide+kernel,by decide+kernel⟩
abbrev vS:Stmt:=top 25
abbrev oR:List Str:=["thing"]
theorem Hl:aP ["thing"] oR (aC vS):=⟨rfl,rfl,rfl,by decide+kernel,rfl,by decide+kernel,by decide+kernel⟩
abbrev vU:Stmt:=top 26
abbrev lM:List Str:=["table","one","other"]
theorem pL:aP ["table","one","other","x","y","z"] lM (aC vU):=⟨rfl,rfl,rfl,by decide+kernel,rfl,by decide+kernel,by decide+kernel⟩
abbrev Cw:Stmt:=top 27
abbrev rZ:List Str:=["table","row"]
theorem Pg:aP ["table","row"] rZ (aC Cw):=⟨rfl,rfl,rfl,by decide+kernel,rfl,by decide+kernel,by decide+kernel⟩
abbrev vV:Stmt:=top 28
abbrev oS:List Str:=["table"]
theorem tH:aP ["table","first","mixed"] oS (aC vV):=⟨rfl,rfl,rfl,by decide+kernel,rfl,by decide+kernel,by decide+kernel⟩
abbrev Ho:Stmt:=top 29
abbrev yP:List Str:=["form"]
theorem Jm:aP ["form","told"] yP (aC Ho):=⟨rfl,rfl,rfl,by decide+kernel,rfl,by decide+kernel,by decide+kernel⟩
abbrev nH:Stmt:=top 32
abbrev iT:List Str:=["halved","thing"]
theorem yQ:aP ["halved","thing"] iT (aC nH):=⟨rfl,rfl,rfl,by decide+kernel,rfl,by decide+kernel,by decide+kernel⟩
abbrev jz:Stmt:=top 33
abbrev f7:List Str:=["form","p"]
theorem tK:aP ["form","p"] f7 (aC jz):=⟨rfl,rfl,rfl,by decide+kernel,rfl,by decide+kernel,by decide+kernel⟩
abbrev tL:Stmt:=top 34
abbrev jX:List Str:=["number","p"]
theorem EF:aP ["number","p"] jX (aC tL):=⟨rfl,rfl,rfl,by decide+kernel,rfl,by decide+kernel,by decide+kernel⟩
abbrev pM:Stmt:=top 35
abbrev jA:List Str:=["form","p","row"]
theorem j9:aP ["form","p","row","rests","leading","times"] jA (aC pM):=⟨rfl,rfl,rfl,by decide+kernel,rfl,by decide+kernel,by decide+kernel⟩
abbrev vW:Stmt:=top 36
abbrev oU:List Str:=["form","p","thing"]
theorem Hq:aP ["form","p","thing"] oU (aC vW):=⟨rfl,rfl,rfl,by decide+kernel,rfl,by decide+kernel,by decide+kernel⟩
abbrev yR:Stmt:=top 37
abbrev qQ:List Str:=["form","p","line"]
theorem Lu:aP ["form","p","line"] qQ (aC yR):=⟨rfl,rfl,rfl,by decide+kernel,rfl,by decide+kernel,by decide+kernel⟩
abbrev pN:Stmt:=top 38
abbrev jB:List Str:=["told"]
theorem Av:aP ["told"] jB (aC pN):=⟨rfl,rfl,rfl,by decide+kernel,rfl,by decide+kernel,by decide+kernel⟩
abbrev pO:Stmt:=top 39
abbrev jC:List Str:=["form","p","line"]
theorem iU:aP ["form","p","line","slants","at","times","told"] jC (aC pO):=⟨rfl,rfl,rfl,by decide+kernel,rfl,by decide+kernel,by decide+kernel⟩
abbrev jY:Stmt:=top 40
abbrev eO:List Str:=["form","p","line"]
theorem uO:aP ["form","p","line"] eO (aC jY):=⟨rfl,rfl,rfl,by decide+kernel,rfl,by decide+kernel,by decide+kernel⟩
abbrev vX:Stmt:=top 44
abbrev oV:List Str:=["form","p","line","lifted","row"]
theorem yS:aP ["form","p","line","lifted","row","times"] oV (aC vX):=⟨rfl,rfl,rfl,by decide+kernel,rfl,by decide+kernel,by decide+kernel⟩
abbrev nI:Stmt:=top 45
abbrev iV:List Str:=["form","p","line","table"]
theorem qR:aP ["form","p","line","table","lifted"] iV (aC nI):=⟨rfl,rfl,rfl,by decide+kernel,rfl,by decide+kernel,by decide+kernel⟩
abbrev yT:Stmt:=top 46
abbrev qS:List Str:=["form","p","line"]
theorem Lv:aP ["form","p","line","step"] qS (aC yT):=⟨rfl,rfl,rfl,by decide+kernel,rfl,by decide+kernel,by decide+kernel⟩
abbrev vY:Stmt:=top 47
abbrev oW:List Str:=["form","p","line","table"]
theorem Hr:aP ["form","p","line","table"] oW (aC vY):=⟨rfl,rfl,rfl,by decide+kernel,rfl,by decide+kernel,by decide+kernel⟩
abbrev tM:Stmt:=top 48
abbrev l9:List Str:=["form","p","line","step"]
theorem EG:aP ["form","p","line","step","signed","homeward","made","told"] l9 (aC tM):=⟨rfl,rfl,rfl,by decide+kernel,rfl,by decide+kernel,by decide+kernel⟩
abbrev tN:Stmt:=top 50
abbrev mh:List Str:=["_law_script","_law_at"]
theorem kq:aP ["_law_script","_law_at","_law_cell","_law_great"] mh (aC tN):=⟨rfl,rfl,rfl,by decide+kernel,rfl,by decide+kernel,by decide+kernel⟩
abbrev qT:Stmt:=top 51
abbrev cU:List Str:=["_law_bag_here","_law_many"]
theorem uQ:aP ["_law_bag_here","_law_many","_law_digit"] cU (aC qT):=⟨rfl,rfl,rfl,by decide+kernel,rfl,by decide+kernel,by decide+kernel⟩
abbrev ji:Stmt:=top 52
abbrev cV:List Str:=["_law_t"]
theorem iP:aP ["_law_t","_law_first","_law_second"] cV (aC ji):=⟨rfl,rfl,rfl,by decide+kernel,rfl,by decide+kernel,by decide+kernel⟩
abbrev mj:Stmt:=top 53
abbrev fM:List Str:=["_law_form_here","_law_one","_law_other"]
theorem gJ:aP ["_law_form_here","_law_one","_law_other","_law_total","_law_i","_law_j"] fM (aC mj):=⟨rfl,rfl,rfl,by decide+kernel,rfl,by decide+kernel,by decide+kernel⟩
abbrev pP:Stmt:=top 54
abbrev iJ:List Str:=["_law_form_here","_law_row"]
theorem Aw:aP ["_law_form_here","_law_row"] iJ (aC pP):=⟨rfl,rfl,rfl,by decide+kernel,rfl,by decide+kernel,by decide+kernel⟩
abbrev mq:Stmt:=top 55
abbrev gy:List Str:=["_law_form_here","_law_by"]
theorem xE:aP ["_law_form_here","_law_by"] gy (aC mq):=⟨rfl,rfl,rfl,by decide+kernel,rfl,by decide+kernel,by decide+kernel⟩
abbrev qU:Stmt:=top 56
abbrev jm:List Str:=["_law_table"]
theorem Cy:aP ["_law_table"] jm (aC qU):=⟨rfl,rfl,rfl,by decide+kernel,rfl,by decide+kernel,by decide+kernel⟩
abbrev jD:Stmt:=top 57
abbrev f9:List Str:=["_law_bag_here","_law_most"]
theorem dP:aP ["_law_bag_here","_law_most","_law_a","_law_b","_law_c","_law_one","_law_other","_law_third"] f9 (aC jD):=⟨rfl,rfl,rfl,by decide+kernel,rfl,by decide+kernel,by decide+kernel⟩
abbrev kL:Stmt:=top 58
abbrev gK:List Str:=["_law_form_here"]
theorem vZ:aP ["_law_form_here"] gK (aC kL):=⟨rfl,rfl,rfl,by decide+kernel,rfl,by decide+kernel,by decide+kernel⟩
abbrev mw:Stmt:=top 59
abbrev ir:List Str:=["_law_bag_here","_law_most"]
theorem ja:aP ["_law_bag_here","_law_most","_law_turn","_law_form_here","_law_last"] ir (aC mw):=⟨rfl,rfl,rfl,by decide+kernel,rfl,by decide+kernel,by decide+kernel⟩
abbrev pQ:Stmt:=top 60
abbrev iK:List Str:=["_law_bag_here","_law_far"]
theorem gP:aP ["_law_bag_here","_law_far","_law_made","_law_turn","_law_i","_law_j","_law_times"] iK (aC pQ):=⟨rfl,rfl,rfl,by decide+kernel,rfl,by decide+kernel,by decide+kernel⟩
abbrev qV:Stmt:=top 61
abbrev kr:List Str:=["_law_bag_here","_law_most"]
theorem pR:aP ["_law_bag_here","_law_most","_law_form_here","_law_way"] kr (aC qV):=⟨rfl,rfl,rfl,by decide+kernel,rfl,by decide+kernel,by decide+kernel⟩
abbrev pT:Stmt:=top 62
abbrev jE:List Str:=["_law_bag_here","_law_form_here"]
theorem nJ:aP ["_law_bag_here","_law_form_here","_law_halved","_law_some"] jE (aC pT):=⟨rfl,rfl,rfl,by decide+kernel,rfl,by decide+kernel,by decide+kernel⟩
abbrev qW:Stmt:=top 63
abbrev jn:List Str:=["_law_p"]
theorem lH:aP ["_law_p","_law_found","_law_a"] jn (aC qW):=⟨rfl,rfl,rfl,by decide+kernel,rfl,by decide+kernel,by decide+kernel⟩
abbrev pU:Stmt:=top 64
abbrev jF:List Str:=["_law_form_here","_law_p"]
theorem sJ:aP ["_law_form_here","_law_p","_law_small"] jF (aC pU):=⟨rfl,rfl,rfl,by decide+kernel,rfl,by decide+kernel,by decide+kernel⟩
abbrev qX:Stmt:=top 65
abbrev ku:List Str:=["_law_form_here","_law_p","_law_line"]
theorem pV:aP ["_law_form_here","_law_p","_law_line","_law_at","_law_row"] ku (aC qX):=⟨rfl,rfl,rfl,by decide+kernel,rfl,by decide+kernel,by decide+kernel⟩
abbrev nK:Stmt:=top 66
abbrev iW:List Str:=["_law_form_here","_law_p","_law_up"]
theorem eZ:aP ["_law_form_here","_law_p","_law_up","_law_pairings","_law_place","_law_unmade","_law_made","_law_k","_law_row"] iW (aC nK):=⟨rfl,rfl,rfl,by decide+kernel,rfl,by decide+kernel,by decide+kernel⟩
abbrev nM:Stmt:=top 67
abbrev iX:List Str:=["_law_rows_here"]
theorem cX:aP ["_law_rows_here","_law_left","_law_found","_law_k","_law_some","_law_at","_law_q"] iX (aC nM):=⟨rfl,rfl,rfl,by decide+kernel,rfl,by decide+kernel,by decide+kernel⟩
abbrev qY:Stmt:=top 68
abbrev kB:List Str:=["_law_form_here","_law_p","_law_line"]
theorem uR:aP ["_law_form_here","_law_p","_law_line","_law_up"] kB (aC qY):=⟨rfl,rfl,rfl,by decide+kernel,rfl,by decide+kernel,by decide+kernel⟩
abbrev jo:Stmt:=top 69
abbrev EH:List Str:=["_law_e"]
theorem fH:aP ["_law_e","_law_names"] EH (aC jo):=⟨rfl,rfl,rfl,by decide+kernel,rfl,by decide+kernel,by decide+kernel⟩
abbrev kM:Stmt:=top 70
abbrev gM:List Str:=["_law_bag_here","_law_form_here"]
theorem eT:aP ["_law_bag_here","_law_form_here","_law_way","_law_odd"] gM (aC kM):=⟨rfl,rfl,rfl,by decide+kernel,rfl,by decide+kernel,by decide+kernel⟩
abbrev jG:Stmt:=top 71
abbrev gb:List Str:=["_law_bag_here","_law_most"]
theorem dQ:aP ["_law_bag_here","_law_most","_law_way","_law_more","_law_form_here"] gb (aC jG):=⟨rfl,rfl,rfl,by decide+kernel,rfl,by decide+kernel,by decide+kernel⟩
abbrev jZ:Stmt:=top 72
abbrev gz:List Str:=["_law_bag_here","_law_form_here"]
theorem g6:aP ["_law_bag_here","_law_form_here","_law_halved","_law_some","_law_odd"] gz (aC jZ):=⟨rfl,rfl,rfl,by decide+kernel,rfl,by decide+kernel,by decide+kernel⟩
abbrev qZ:Stmt:=top 73
abbrev kC:List Str:=["_law_way","_law_form_here","_law_p","_law_line","_law_table"]
theorem uS:aP ["_law_way","_law_form_here","_law_p","_law_line","_law_table","_law_e"] kC (aC qZ):=⟨rfl,rfl,rfl,by decide+kernel,rfl,by decide+kernel,by decide+kernel⟩
abbrev kN:Stmt:=top 74
abbrev gO:List Str:=["_law_bag_here","_law_p","_law_some"]
theorem gA:aP ["_law_bag_here","_law_p","_law_some","_law_off","_law_line","_law_bent"] gO (aC kN):=⟨rfl,rfl,rfl,by decide+kernel,rfl,by decide+kernel,by decide+kernel⟩
abbrev mz:Stmt:=top 75
abbrev iu:List Str:=["_law_bag_here","_law_form_here","_law_p","_law_some","_law_line"]
theorem kO:aP ["_law_bag_here","_law_form_here","_law_p","_law_some","_law_line","_law_others","_law_way"] iu (aC mz):=⟨rfl,rfl,rfl,by decide+kernel,rfl,by decide+kernel,by decide+kernel⟩
abbrev uU:Stmt:=top 76
abbrev Ye:List Str:=["_law_script"]
theorem mC:aP ["_law_script","_law_bag_here","_law_form_here","_law_p","_law_some","_law_line","_law_table","_law_great","_law_way","_law_odd","_law_handed"] Ye (aC uU):=⟨rfl,rfl,rfl,by decide+kernel,rfl,by decide+kernel,by decide+kernel⟩
section
variable{P:Program}{w:World}{K:PySem.W.Frag}{mg:Str->Option Value}{base:Heap}
inductive UA(K:PySem.W.Frag)(vs:List V)(H:Hp)(Q:VK)(E:XK):Prop
 |mk(a:Addr)(ns:List Int)(k:Int)(_:vs=[.ref a,.int k])(_:aV K H a (ns.map V.int))(_:ns.length<=63)(_:0<=k)(_:k<1000)(_:∀B H',av H H'->H B=none->iN H' B->Q (.ref B) H')
theorem EI(F:fK K mg "_law_bag" tN mh)(fO:mg "len"=none)(sL:mg "abs"=none):cZ P w K mg base c8 1 "_law_bag" mh (UA K):=by
 refine F.ok kq (λvs H Q E h=> ?_) (λf cdv A outer s H vs Q E hr h=> ?_)
 ·obtain⟨a,ns,k,rfl,hS,h63,h0,hk,q⟩:=h
  rfl
 obtain⟨a,ns,k,rfl,hS,h63,h0,hk,q⟩:=h
 have hu:=hr.units
 refine⟨_,(mS (@ay _ _ _ _ _ (aW (i:=2) kq.nd rfl (Or.inl rfl) ak)
  (@ay _ _ _ _ _ (bI (bB Uo (pv 1) (bV dJ rfl fO PySem.boot_len (ah (pv 0) ao)) (bg _)) (@aI _ _ _ (aW (i:=2) kq.nd rfl (Or.inl rfl) (aJ aA (pv 0) (pv 1) (λ_ _=>rfl)))) cy)
  (@ay _ _ _ _ _ (aW (i:=3) kq.nd rfl (Or.inl rfl) ak)
  (@ay _ _ _ _ _ (bI (bB Xn (bV uu rfl sL PyProof.Rows.boot_abs (ah (pv 2) ao)) (aB Ge ak ak) (bg _)) (@aI _ _ _ (aW (i:=3) kq.nd rfl (Or.inl rfl) (bV uu rfl sL PyProof.Rows.boot_abs (ah (pv 2) ao)))) cy)
  (@aI _ _ _ (bA (gD (ah (pv 3) (ah (aB b7 (aB dz (aB cI (aB b7 (aB b7 (aB dz (pv 2) ak) (aB cI ak (pv 1))) ak) ak) ak) ak) ao)))))))))),?_⟩
 have hl:(ns.map V.int).length=ns.length:=List.length_map _
 refine⟨_,rfl,_,rfl,a,_,rfl,.inl hS,_,_,rfl,rfl,_,rfl,yE (λσ' H'=> ∃c:Int,H'=H/\σ'=[some (.ref a),some (.int k),some (.int c),none]) ?_ (λc hK=> ?_) ⟨0,rfl,rfl⟩⟩
 rotate_left
 ·have c':k<(((ns.map V.int).length:Nat):Int):=of_decide_eq_true c
  rw[hl]at c'
  obtain⟨z,hz⟩:=RI h0 c'
  exact⟨_,rfl,_,rfl,a,_,_,_,rfl,rfl,hS,hz,hK _ _ ⟨z,rfl,rfl⟩⟩
 rintro σ' H' ⟨c,rfl,rfl⟩
 refine⟨_,rfl,c,rfl,_,_,rfl,rfl,⟨by decide,by decide,by decide⟩,_,_,rfl,rfl,_,rfl,yE (λσ' H2=> ∃g:Int,0<=g/\H2=H'/\σ'=[some (.ref a),some (.int k),some (.int c),some (.int g)]) ?_ (λ_ hK=> ?_) ⟨0,Int.le_refl 0,rfl,rfl⟩⟩
 rotate_left
 ·exact⟨_,rfl,c,rfl,hK _ _ ⟨_,by split<;>omega,rfl,rfl⟩⟩
 rintro σ' H2 ⟨g,hg,rfl,rfl⟩
 refine⟨_,rfl,_,rfl,_,_,rfl,rfl,(by show(0:Int)<2147483629;decide),_,rfl,_,_,rfl,rfl,.inl ⟨by decide,by decide⟩,_,_,rfl,rfl,_,_,rfl,rfl,_,_,rfl,rfl,.inr ⟨by decide,by decide⟩,_,_,rfl,rfl,(by show(0:Int)<2147483629;decide),_,_,rfl,rfl,(by show 2<=sizeLine;decide),λB hB=> ?_⟩
 exact q B _ (av.up hB) hB ⟨g,_,aq,hg,by have:=Int.emod_nonneg ((c%2147483629+7919*k+13)*69621) (show(2147483629:Int)≠0 by decide);omega⟩
inductive kP(vs:List V)(H:Hp)(Q:VK)(E:XK):Prop
 |mk(B:Addr)(many:Int)(_:vs=[.ref B,.int many])(_:iN H B)(_:0<many)(_:many.natAbs.log2<9000)(_:∀(d:Int) H',0<=d->d<many->SB B H H'->Q (.int d) H')
theorem Cz(F:fK K mg "_law_take" qT cU):cZ P w K mg base c8 1 "_law_take" cU kP:=by
 refine F.ok uQ (λvs H Q E h=> ?_) (λf cdv A outer s H vs Q E hr h=> ?_)
 ·obtain⟨B,many,rfl,⟨g,s,eB,hg,hs⟩,hm,hm2,q⟩:=h
  rfl
 obtain⟨B,many,rfl,⟨g,s,eB,hg,hs⟩,hm,hm2,q⟩:=h
 have hu:=hr.units
 refine⟨_,(mS (@ay _ _ _ _ _ (bI (bB yi (aJ aA (pv 0) ak (λ_ _=>rfl)) ak (bg _)) (@ay _ _ _ _ _ (aW (i:=2) uQ.nd rfl (Or.inl rfl) (aB dz (aJ aA (pv 0) ak (λ_ _=>rfl)) (pv 1)))
  (@ay _ _ _ _ _ (ju (aB Nl (aJ aA (pv 0) ak (λ_ _=>rfl)) (pv 1)) (jP (pv 0) ak set_list))
  (@aI _ _ _ (bA (pv 2))))) cy)
  (@ay _ _ _ _ _ (ju (aB dz (aB b7 (aB cI (aJ aA (pv 0) ak (λ_ _=>rfl)) ak) ak) ak) (jP (pv 0) ak set_list))
  (@aI _ _ _ (bA (aB dz (aB fq (aB dz (aB cI (aB fq (aJ aA (pv 0) ak (λ_ _=>rfl)) ak) ak) ak) ak) (pv 1))))))),?_⟩
 refine⟨_,rfl,B,_,_,_,rfl,rfl,aV.of eB,rfl,_,_,rfl,rfl,_,rfl,g9 (λc=> ?_) (λc=> ?_)⟩
 ·refine⟨_,rfl,B,_,_,_,rfl,rfl,aV.of eB,rfl,_,rfl,_,_,rfl,rfl,hm,?_⟩
  refine⟨_,rfl,B,_,_,_,rfl,rfl,aV.of eB,rfl,_,rfl,_,_,rfl,rfl,⟨hm,hm2⟩,_,rfl,B,_,_,0,rfl,rfl,eB,rfl,?_⟩
  exact⟨_,rfl,q (g%many) _ (Int.emod_nonneg _ (by omega)) (Int.emod_lt_of_pos _ hm) (NG (Int.ediv_nonneg hg (by omega)) hs)⟩
 ·refine⟨_,rfl,B,_,_,_,rfl,rfl,aV.of eB,rfl,_,_,rfl,rfl,.inr ⟨by decide,by decide⟩,_,_,rfl,rfl,_,_,rfl,rfl,(by show(0:Int)<2147483647;decide),_,rfl,B,_,_,1,rfl,rfl,eB,rfl,?_⟩
  have eB2:upd H B (.lst ([V.int g,.int s].set 1 (.int ((s*48271+11)%2147483647)))) B=some (.lst [.int g,.int ((s*48271+11)%2147483647)]):=aq
  refine⟨_,rfl,B,_,_,_,rfl,rfl,aV.of eB2,rfl,_,_,rfl,rfl,⟨by decide,by decide⟩,_,_,rfl,rfl,.inr ⟨by decide,by decide⟩,_,_,rfl,rfl,(by show(0:Int)<2147483629;decide),_,_,rfl,rfl,⟨by decide,by decide⟩,_,rfl,_,_,rfl,rfl,hm,?_⟩
  exact q _ _ (Int.emod_nonneg _ (by omega)) (Int.emod_lt_of_pos _ hm) (NG hg (Int.emod_nonneg _ (by decide)))
inductive yU(vs:List V)(H:Hp)(Q:VK)(E:XK):Prop
 |mk(t:Addr)(bs:List Addr)(m:List (List Int))(_:vs=[.ref t])(_:Tab H t bs m)(_:cu m)(_:Bd 1000 m)(_:Q (.int (aN m)) H)
theorem sD(F:fK K mg "_law_determinant" ji cV):cZ P w K mg base c8 1 "_law_determinant" cV yU:=by
 refine F.ok iP (λvs H Q E h=> ?_) (λf cdv A outer s H vs Q E hr h=> ?_)
 ·obtain⟨t,bs,m,rfl,hT,dD,hB,q⟩:=h
  rfl
 obtain⟨t,bs,m,rfl,hT,dD,hB,q⟩:=h
 have hu:=hr.units
 refine⟨_,(mS (@ay _ _ _ _ _ (aW (i:=1) iP.nd rfl (Or.inl rfl) (aB bX (aJ aA (aJ aA (pv 0) ak (λ_ _=>rfl)) ak (λ_ _=>rfl)) (aB gq (aB bX (aJ aA (aJ aA (pv 0) ak (λ_ _=>rfl)) ak (λ_ _=>rfl)) (aJ aA (aJ aA (pv 0) ak (λ_ _=>rfl)) ak (λ_ _=>rfl))) (aB bX (aJ aA (aJ aA (pv 0) ak (λ_ _=>rfl)) ak (λ_ _=>rfl)) (aJ aA (aJ aA (pv 0) ak (λ_ _=>rfl)) ak (λ_ _=>rfl))))))
  (@ay _ _ _ _ _ (aW (i:=2) iP.nd rfl (Or.inl rfl) (aB bX (aJ aA (aJ aA (pv 0) ak (λ_ _=>rfl)) ak (λ_ _=>rfl)) (aB gq (aB bX (aJ aA (aJ aA (pv 0) ak (λ_ _=>rfl)) ak (λ_ _=>rfl)) (aJ aA (aJ aA (pv 0) ak (λ_ _=>rfl)) ak (λ_ _=>rfl))) (aB bX (aJ aA (aJ aA (pv 0) ak (λ_ _=>rfl)) ak (λ_ _=>rfl)) (aJ aA (aJ aA (pv 0) ak (λ_ _=>rfl)) ak (λ_ _=>rfl))))))
  (@aI _ _ _ (bA (aB b7 (aB gq (pv 1) (pv 2)) (aB bX (aJ aA (aJ aA (pv 0) ak (λ_ _=>rfl)) ak (λ_ _=>rfl)) (aB gq (aB bX (aJ aA (aJ aA (pv 0) ak (λ_ _=>rfl)) ak (λ_ _=>rfl)) (aJ aA (aJ aA (pv 0) ak (λ_ _=>rfl)) ak (λ_ _=>rfl))) (aB bX (aJ aA (aJ aA (pv 0) ak (λ_ _=>rfl)) ak (λ_ _=>rfl)) (aJ aA (aJ aA (pv 0) ak (λ_ _=>rfl)) ak (λ_ _=>rfl))))))))))),?_⟩
 obtain⟨c0,x1,x2,_⟩:=bJ hT dD (i:=0) (by decide)
 obtain⟨c1,y1,y2,_⟩:=bJ hT dD (i:=1) (by decide)
 obtain⟨c2,w1,w2,_⟩:=bJ hT dD (i:=2) (by decide)
 refine⟨_,rfl,t,_,_,_,rfl,rfl,aV.of hT.1,x1,c0,_,_,_,rfl,rfl,aV.of x2,rfl,_,rfl,t,_,_,_,rfl,rfl,aV.of hT.1,y1,c1,_,_,_,rfl,rfl,aV.of y2,rfl,_,rfl,t,_,_,_,rfl,rfl,aV.of hT.1,w1,c2,_,_,_,rfl,rfl,aV.of w2,rfl,_,_,rfl,rfl,⟨aX (hB 1 1 (by decide) (by decide)) (by decide),aX (hB 2 2 (by decide) (by decide)) (by decide)⟩,_,rfl,t,_,_,_,rfl,rfl,aV.of hT.1,y1,c1,_,_,_,rfl,rfl,aV.of y2,rfl,_,rfl,t,_,_,_,rfl,rfl,aV.of hT.1,w1,c2,_,_,_,rfl,rfl,aV.of w2,rfl,_,_,rfl,rfl,⟨aX (hB 1 2 (by decide) (by decide)) (by decide),aX (hB 2 1 (by decide) (by decide)) (by decide)⟩,_,_,rfl,rfl,_,_,rfl,rfl,⟨aX (hB 0 0 (by decide) (by decide)) (by decide),aX (sX (fE (hB 1 1 (by decide) (by decide)) (hB 2 2 (by decide) (by decide))) (fE (hB 1 2 (by decide) (by decide)) (hB 2 1 (by decide) (by decide)))) (by decide)⟩,?_⟩
 refine⟨_,rfl,t,_,_,_,rfl,rfl,aV.of hT.1,x1,c0,_,_,_,rfl,rfl,aV.of x2,rfl,_,rfl,t,_,_,_,rfl,rfl,aV.of hT.1,y1,c1,_,_,_,rfl,rfl,aV.of y2,rfl,_,rfl,t,_,_,_,rfl,rfl,aV.of hT.1,w1,c2,_,_,_,rfl,rfl,aV.of w2,rfl,_,_,rfl,rfl,⟨aX (hB 1 0 (by decide) (by decide)) (by decide),aX (hB 2 2 (by decide) (by decide)) (by decide)⟩,_,rfl,t,_,_,_,rfl,rfl,aV.of hT.1,y1,c1,_,_,_,rfl,rfl,aV.of y2,rfl,_,rfl,t,_,_,_,rfl,rfl,aV.of hT.1,w1,c2,_,_,_,rfl,rfl,aV.of w2,rfl,_,_,rfl,rfl,⟨aX (hB 1 2 (by decide) (by decide)) (by decide),aX (hB 2 0 (by decide) (by decide)) (by decide)⟩,_,_,rfl,rfl,_,_,rfl,rfl,⟨aX (hB 0 1 (by decide) (by decide)) (by decide),aX (sX (fE (hB 1 0 (by decide) (by decide)) (hB 2 2 (by decide) (by decide))) (fE (hB 1 2 (by decide) (by decide)) (hB 2 0 (by decide) (by decide)))) (by decide)⟩,?_⟩
 refine⟨_,rfl,_,rfl,_,_,rfl,rfl,_,rfl,t,_,_,_,rfl,rfl,aV.of hT.1,x1,c0,_,_,_,rfl,rfl,aV.of x2,rfl,_,rfl,t,_,_,_,rfl,rfl,aV.of hT.1,y1,c1,_,_,_,rfl,rfl,aV.of y2,rfl,_,rfl,t,_,_,_,rfl,rfl,aV.of hT.1,w1,c2,_,_,_,rfl,rfl,aV.of w2,rfl,_,_,rfl,rfl,⟨aX (hB 1 0 (by decide) (by decide)) (by decide),aX (hB 2 1 (by decide) (by decide)) (by decide)⟩,_,rfl,t,_,_,_,rfl,rfl,aV.of hT.1,y1,c1,_,_,_,rfl,rfl,aV.of y2,rfl,_,rfl,t,_,_,_,rfl,rfl,aV.of hT.1,w1,c2,_,_,_,rfl,rfl,aV.of w2,rfl,_,_,rfl,rfl,⟨aX (hB 1 1 (by decide) (by decide)) (by decide),aX (hB 2 0 (by decide) (by decide)) (by decide)⟩,_,_,rfl,rfl,_,_,rfl,rfl,⟨aX (hB 0 2 (by decide) (by decide)) (by decide),aX (sX (fE (hB 1 0 (by decide) (by decide)) (hB 2 1 (by decide) (by decide))) (fE (hB 1 1 (by decide) (by decide)) (hB 2 0 (by decide) (by decide)))) (by decide)⟩,_,_,rfl,rfl,?_⟩
 have e:ent m 0 0*(ent m 1 1*ent m 2 2-ent m 1 2*ent m 2 1) -ent m 0 1*(ent m 1 0*ent m 2 2-ent m 1 2*ent m 2 0)+ent m 0 2*(ent m 1 0*ent m 2 1-ent m 1 1*ent m 2 0)=aN m:=by
  rw[cN]
  grind
 rw[<-e]at q
 exact q
inductive pW(vs:List V)(H:Hp)(Q:VK)(E:XK):Prop
 |mk(t:Addr)(bs:List Addr)(m:List (List Int))(a b:Addr)(x y:Nat->Int)(_:vs=[.ref t,.ref a,.ref b])(_:Tab H t bs m)(_:cu m)(_:Bd 1000 m)(_:dR H a x)(_:dR H b y)(_:∀i,i<3->(x i).natAbs<2^1000)(_:∀i,i<3->(y i).natAbs<2^1000)(_:Q (.int (cz m x y)) H)
theorem xF(F:fK K mg "_law_pairing" mj fM)(bw:mg "range"=none):cZ P w K mg base c8 1 "_law_pairing" fM pW:=by
 refine F.ok gJ (λvs H Q E h=> ?_) (λf cdv A outer s H vs Q E hr h=> ?_)
 ·obtain⟨t,bs,m,a,b,x,y,rfl,hT,dD,hB,hx,hy,bx,bY,q⟩:=h
  rfl
 obtain⟨t,bs,m,a,b,x,y,rfl,hT,dD,hB,hx,hy,bx,bY,q⟩:=h
 have hu:=hr.units
 refine⟨_,(mS (@ay _ _ _ _ _ (aW (i:=3) gJ.nd rfl (Or.inl rfl) ak)
  (@ay _ _ _ _ _ (lR PassesOwn.never rfl (b8 rfl bw (ah ak ao)) (cD (i:=4) gJ.nd rfl (Or.inl rfl)) (eH (lR PassesOwn.never rfl (b8 rfl bw (ah ak ao)) (cD (i:=5) gJ.nd rfl (Or.inl rfl)) (eH (aW (i:=3) gJ.nd rfl (Or.inl rfl) (aB b7 (pv 3) (aB bX (aB bX (aJ aA (pv 1) (pv 4) (λ_ _=>rfl)) (aJ aA (aJ aA (pv 0) (pv 4) (λ_ _=>rfl)) (pv 5) (λ_ _=>rfl))) (aJ aA (pv 2) (pv 5) (λ_ _=>rfl)))))))))
  (@aI _ _ _ (bA (pv 3)))))),?_⟩
 refine⟨3,rfl,by decide,by decide,gp (n:=3) (λi σ H'=> ∃(oi oj:Option V),H=H'/\σ=[some (.ref t),some (.ref a),some (.ref b),some (.int (preSum (pairF m x y) (i*3))),oi,oj]) ⟨_,_,rfl,rfl⟩ (λi σ H' hi h=> ?_) (λσ H' h=> ?_)⟩
 ·obtain⟨oi,oj,rfl,rfl⟩:=h
  refine⟨3,rfl,by decide,by decide,gp (n:=3) (λj σ H'=> ∃(oj:Option V),H=H'/\σ=[some (.ref t),some (.ref a),some (.ref b),some (.int (preSum (pairF m x y) (i*3+j))),some (.int (0+i)),oj]) ⟨_,rfl,rfl⟩ (λj σ H' hj h=> ?_) (λσ H' h=> ?_)⟩
  ·obtain⟨oj,rfl,rfl⟩:=h
   have e1:(i*3+j)/3=i:=by omega
   have e2:(i*3+j)%3=j:=by omega
   obtain⟨c,row,f1,f2,f3⟩:=xY hT dD hi hj
   simp only[Int.zero_add]
   refine⟨_,rfl,_,rfl,_,rfl,a,_,_,_,rfl,rfl,aV.of hx,mR x hi,_,rfl,_,rfl,t,_,_,_,rfl,rfl,aV.of hT.1,f1,_,rfl,c,_,_,_,rfl,rfl,aV.of f2,f3,_,_,rfl,rfl,⟨aX (bx i hi) (by decide),aX (hB i j hi hj) (by decide)⟩,_,rfl,_,rfl,b,_,_,_,rfl,rfl,aV.of hy,mR y hj,_,_,rfl,rfl,⟨aX (fE (bx i hi) (hB i j hi hj)) (by decide),aX (bY j hj) (by decide)⟩,_,_,rfl,rfl,?_⟩
   refine⟨some (.int j),rfl,?_⟩
   have e:preSum (pairF m x y) (i*3+(j+1))=preSum (pairF m x y) (i*3+j)+x i*ent m i j*y j:=by
    show preSum (pairF m x y) (i*3+j)+pairF m x y (i*3+j)=_
    unfold pairF
    rw[e1,e2]
   rw[e]
   rfl
  ·obtain⟨oj,rfl,rfl⟩:=h
   exact⟨some (.int (0+i)),oj,rfl,by rw[Nat.succ_mul]⟩
 ·obtain⟨oi,oj,rfl,rfl⟩:=h
  exact⟨_,rfl,q⟩
inductive uV(vs:List V)(H:Hp)(Q:VK)(E:XK):Prop
 |mk(t:Addr)(bs:List Addr)(m:List (List Int))(a:Addr)(x:Nat->Int)(_:vs=[.ref t,.ref a])(_:Tab H t bs m)(_:cu m)(_:Bd 1000 m)(_:dR H a x)(_:∀i,i<3->(x i).natAbs<2^1000)(_:Q (.int (aR m x)) H)
theorem Ax(F:fK K mg "_law_worth" pP iJ)(d8:cZ P w K mg base c8 1 "_law_pairing" fM pW):cZ P w K mg base c8 2 "_law_worth" iJ uV:=by
 refine F.ok Aw (λvs H Q E h=> ?_) (λf cdv A outer s H vs Q E hr h=> ?_)
 ·obtain⟨t,bs,m,a,x,rfl,hT,dD,hB,hx,bx,q⟩:=h
  rfl
 obtain⟨t,bs,m,a,x,rfl,hT,dD,hB,hx,bx,q⟩:=h
 have hu:=hr.units
 refine⟨_,(eH (bA (aB fq (aQ d8 hr rfl aU (ah (pv 0) (ah (pv 1) (ah (pv 1) ao)))) ak))),?_⟩
 exact⟨_,rfl,_,rfl,_,rfl,t,bs,m,a,a,x,x,rfl,hT,dD,hB,hx,hx,bx,bx,_,_,rfl,rfl,⟨by decide,by decide⟩,q⟩
inductive Ht(vs:List V)(H:Hp)(Q:VK)(E:XK):Prop
 |mk(t1:Addr)(b1:List Addr)(m1:List (List Int))(t2:Addr)(b2:List Addr)(m2:List (List Int))(_:vs=[.ref t1,.ref t2])(_:Tab H t1 b1 m1)(_:Tab H t2 b2 m2)(_:cu m1)(_:cu m2)(_:Bd 1000 m1)(_:Bd 1000 m2)(_:∀r bs H',av H H'->H r=none->(∀b∈bs,H b=none) ->r∉bs->bs.Nodup->Tab H' r bs (oE m1 m2) ->Q (.ref r) H')
theorem xG(F:fK K mg "_law_carried" mq gy)(d8:cZ P w K mg base c8 1 "_law_pairing" fM pW):cZ P w K mg base c8 2 "_law_carried" gy Ht:=by
 refine F.ok xE (λvs H Q E h=> ?_) (λf cdv A outer s H vs Q E hr h=> ?_)
 ·obtain⟨t1,b1,m1,t2,b2,m2,rfl,h1,h2,c1,c2,d1,d2,q⟩:=h
  rfl
 obtain⟨t1,b1,m1,t2,b2,m2,rfl,h1,h2,c1,c2,d1,d2,q⟩:=h
 have hu:=hr.units
 refine⟨_,(eH (bA (gT (N2:=["_law_form_here","_law_by"]) (te:=(oB 1 (DJ K (aY 2)) (dX 0) (qm pW [] E0 (eE (aY 2) (eE (aY 1) (eE (aY 0) lS)))))) rfl (di (pv 1)) (by kernel_rfl) rfl (λ_ _ _=>by exact fJ (gT (N2:=["_law_one","_law_form_here","_law_by"]) (te:=(qm pW [] E0 (eE (aY 2) (eE (aY 1) (eE (aY 0) lS))))) rfl (di (pv 2)) (by kernel_rfl) rfl (λ_ _ _=>by exact fJ (aQ d8 hr rfl aU (ah (pv 2) (ah (pv 1) (ah (pv 0) ao)))))))))),?_⟩
 have l2:(b2.map V.ref).length=3:=by rw[List.length_map,<-h2.2.length,c2.1]
 have e:mk3 (λi j=>cz m1 (ent m2 i) (ent m2 j))=oE m1 m2:=by
  rw[yw (show cu (oE m1 m2)from(show cu (iR (iR m2 m1) (dN m2))from bH _))]
  exact jk λi j hi hj=>(Ef m1 m2 hi hj).symm
 refine⟨_,rfl,t2,rfl,⟨_,aV.of h2.1⟩,λD hD=>yD (dM (aV.of h2.1)) l2 hD (λi j=>cz m1 (ent m2 i) (ent m2 j)) (λi x hi ex H1 Q1 s1 k1=> ?_) (λbs' H1 s1 fr nD nn hT=>q D bs' H1 s1 hD fr nD nn (by rw[<-e];exact hT))⟩
 obtain⟨b,e1,e2,_⟩:=bJ (h2.same s1) c2 hi
 have ex':x= .ref b:=by
  have q1:=iG ex
  rw[e1]at q1
  exact(Option.some.inj q1).symm
 subst ex'
 refine⟨_,rfl,t2,rfl,⟨_,aV.of (h2.same s1).1⟩,λD2 Ag=>gE (dM (aV.of (h2.same s1).1)) l2 Ag (λj=>cz m1 (ent m2 i) (ent m2 j)) (λj x hj SY H2 Q2 s2 k2=> ?_) (λH2 s2 e2=>k1 D2 H2 Ag s2 e2)⟩
 obtain⟨b',f1,f2,_⟩:=bJ ((h2.same s1).same s2) c2 hj
 have ex':x= .ref b':=by
  have q1:=iG SY
  rw[f1]at q1
  exact(Option.some.inj q1).symm
 subst ex'
 exact⟨_,rfl,_,rfl,_,rfl,t1,b1,m1,b,b',ent m2 i,ent m2 j,rfl,(h1.same s1).same s2,c1,d1,s2 _ _ e2,f2,λk hk=>d2 i k hi hk,λk hk=>d2 j k hj hk,k2 H2 (av.refl _)⟩
def VW(a b c p q r:Int):Prop:=0<a/\a<=b/\b<=c/\c<1000000/\ -a<=p/\p<=a/\ -a<=q/\q<=a/\ -b<=r/\r<=b
inductive EJ(vs:List V)(H:Hp)(Q:VK)(E:XK):Prop
 |mk(B:Addr)(most:Int)(_:vs=[.ref B,.int most])(_:iN H B)(_:0<=most)(_:most<=1000)(_:∀a b c p q r t bs H',VW a b c p q r->SB B H H'->H t=none->(∀b∈bs,H b=none) ->t∉bs->bs.Nodup->Tab H' t bs (g8 (2*a) (2*b) (2*c) p q r) ->Q (.ref t) H')
theorem tO(F:fK K mg "_law_drawn_form" jD f9)(aF:cZ P w K mg base c8 1 "_law_take" cU kP):cZ P w K mg base c8 2 "_law_drawn_form" f9 EJ:=by
 refine F.ok dP (λvs H Q E h=> ?_) (λf cdv A outer s H vs Q E hr h=> ?_)
 ·obtain⟨B,most,rfl,hb,m0,m1,q⟩:=h
  rfl
 obtain⟨B,most,rfl,hb,m0,m1,q⟩:=h
 have hu:=hr.units
 refine⟨_,(mS (@ay _ _ _ _ _ (aW (i:=2) dP.nd rfl (Or.inl rfl) (aB b7 ak (aB cI ak (aQ aF hr rfl aU (ah (pv 0) (ah ak ao))))))
  (@ay _ _ _ _ _ (aW (i:=3) dP.nd rfl (Or.inl rfl) (aB b7 (pv 2) (aB cI ak (aQ aF hr rfl aU (ah (pv 0) (ah ak ao))))))
  (@ay _ _ _ _ _ (aW (i:=4) dP.nd rfl (Or.inl rfl) (aB b7 (pv 3) (aB cI ak (aQ aF hr rfl aU (ah (pv 0) (ah (aB b7 ak (aB fq (aB cI ak (pv 1)) (aB cI (pv 2) (pv 3)))) ao))))))
  (@ay _ _ _ _ _ (aW (i:=5) dP.nd rfl (Or.inl rfl) (aB gq (aQ aF hr rfl aU (ah (pv 0) (ah (aB b7 (pv 2) ak) ao))) (aB fq (pv 2) ak)))
  (@ay _ _ _ _ _ (aW (i:=6) dP.nd rfl (Or.inl rfl) (aB gq (aQ aF hr rfl aU (ah (pv 0) (ah (aB b7 (pv 2) ak) ao))) (aB fq (pv 2) ak)))
  (@ay _ _ _ _ _ (aW (i:=7) dP.nd rfl (Or.inl rfl) (aB gq (aQ aF hr rfl aU (ah (pv 0) (ah (aB b7 (pv 3) ak) ao))) (aB fq (pv 3) ak)))
  (@aI _ _ _ (bA (gD (ah (gD (ah (pv 2) (ah (pv 5) (ah (pv 6) ao)))) (ah (gD (ah (pv 5) (ah (pv 3) (ah (pv 7) ao)))) (ah (gD (ah (pv 6) (ah (pv 7) (ah (pv 4) ao)))) ao))))))))))))),?_⟩
 refine⟨_,rfl,B,_,rfl,hb,by decide,by decide,λd0 H1 l0 u0 s1=>⟨_,_,rfl,rfl,.inl ⟨by decide,by decide⟩,_,_,rfl,rfl,?_⟩⟩
 obtain⟨a,ea,a1,a4⟩:∃a,2+2*d0=2*a/\0<a/\a<=4:=⟨1+d0,by omega,by omega,by omega⟩
 simp only[ea]
 refine⟨_,rfl,_,rfl,B,_,rfl,s1.2,by decide,by decide,λd1 H2 l1 u1 s2=>⟨_,_,rfl,rfl,.inl ⟨by decide,by decide⟩,_,_,rfl,rfl,?_⟩⟩
 obtain⟨b,eb,ab,b9⟩:∃b,2*a+2*d1=2*b/\a<=b/\b<=9:=⟨a+d1,by omega,by omega,by omega⟩
 simp only[eb]
 have pab:0<2*a*(2*b):=Int.mul_pos (by omega) (by omega)
 have lab:2*a*(2*b)<=8*18:=Int.mul_le_mul (by omega) (by omega) (by omega) (by decide)
 have g0:0<=2*most/(2*a*(2*b)):=Int.ediv_nonneg (by omega) (by omega)
 have g1:2*most/(2*a*(2*b))<=2*most:=Int.ediv_le_self _ (by omega)
 refine⟨_,rfl,_,rfl,_,rfl,_,_,rfl,rfl,.inl ⟨by decide,by decide⟩,_,rfl,_,rfl,_,_,rfl,rfl,.inl ⟨by omega,by omega⟩,_,_,rfl,rfl,⟨pab,by omega⟩,_,_,rfl,rfl,B,_,rfl,s2.2,by omega,log2_small (by omega) (by omega),λd2 H3 l2 u2 s3=>⟨_,_,rfl,rfl,.inl ⟨by decide,by decide⟩,_,_,rfl,rfl,?_⟩⟩
 obtain⟨c,ec,bc,c9⟩:∃c,2*b+2*d2=2*c/\b<=c/\c<1000000:=⟨b+d2,by omega,by omega,by omega⟩
 simp only[ec]
 refine⟨_,rfl,_,rfl,_,_,rfl,rfl,B,_,rfl,s3.2,by omega,log2_small (by omega) (by omega),λd3 H4 l3 u3 s4=>⟨_,rfl,_,_,rfl,rfl,⟨by decide,by decide⟩,_,_,rfl,rfl,?_⟩⟩
 refine⟨_,rfl,_,rfl,_,_,rfl,rfl,B,_,rfl,s4.2,by omega,log2_small (by omega) (by omega),λd4 H5 l4 u4 s5=>⟨_,rfl,_,_,rfl,rfl,⟨by decide,by decide⟩,_,_,rfl,rfl,?_⟩⟩
 refine⟨_,rfl,_,rfl,_,_,rfl,rfl,B,_,rfl,s5.2,by omega,log2_small (by omega) (by omega),λd5 H6 l5 u5 s6=>⟨_,rfl,_,_,rfl,rfl,⟨by decide,by decide⟩,_,_,rfl,rfl,?_⟩⟩
 obtain⟨p,ep,hp,Af⟩:∃p,d3-2*a/2=p/\ -a<=p/\p<=a:=⟨_,rfl,by omega,by omega⟩
 obtain⟨qq,eq,hq,hq'⟩:∃p,d4-2*a/2=p/\ -a<=p/\p<=a:=⟨_,rfl,by omega,by omega⟩
 obtain⟨r,er,hr',aat⟩:∃p,d5-2*b/2=p/\ -b<=p/\p<=b:=⟨_,rfl,by omega,by omega⟩
 simp only[ep,eq,er]
 have QV:=s1.trans (s2.trans (s3.trans (s4.trans (s5.trans s6))))
 refine⟨_,rfl,_,rfl,_,rfl,(by show 3<=sizeLine;decide),λp0 h0=>⟨_,rfl,_,rfl,_,rfl,(by show 3<=sizeLine;decide),λp1 h1=>⟨_,rfl,_,rfl,_,rfl,(by show 3<=sizeLine;decide),λp2 h2=>⟨(by show 3<=sizeLine;decide),λt ht=> ?_⟩⟩⟩⟩
 have v0:=av.up (o:= .lst [.int (2*a),.int p,.int qq]) h0
 have v1:=av.up (o:= .lst [.int p,.int (2*b),.int r]) h1
 have v2:=av.up (o:= .lst [.int qq,.int r,.int (2*c)]) h2
 have v3:=av.up (o:= .lst [.ref p0,.ref p1,.ref p2]) ht
 have T:Tab _ t [p0,p1,p2] (g8 (2*a) (2*b) (2*c) p qq r):=gk _ aq (v3 _ _ (v2 _ _ (v1 _ _ aq))) (v3 _ _ (v2 _ _ aq)) (v3 _ _ aq)
 obtain⟨f1,f2,f3⟩:=qN h0 h1 h2 ht
 exact q a b c p qq r t _ _ ⟨a1,ab,bc,c9,hp,Af,hq,hq',hr',aat⟩ (QV.trans (SB.of QV.2 (v0.trans (v1.trans (v2.trans v3))))) (QV.gone f1) (λx hx=>QV.gone (f2 x hx)) f3 (Nr h0 h1 h2) T
inductive EK(vs:List V)(H:Hp)(Q:VK)(E:XK):Prop
 |mk(t:Addr)(bs:List Addr)(m:List (List Int))(_:vs=[.ref t])(_:Tab H t bs m)(_:cu m)(_:Bd 1000 m)(_:Q (.bl (decide (ent m 0 1*ent m 0 1<ent m 0 0*ent m 1 1) && decide (0<aN m))) H)
theorem v7(F:fK K mg "_law_is_above" kL gK)(bG:cZ P w K mg base c8 1 "_law_determinant" cV yU):cZ P w K mg base c8 2 "_law_is_above" gK EK:=by
 refine F.ok vZ (λvs H Q E h=> ?_) (λf cdv A outer s H vs Q E hr h=> ?_)
 ·obtain⟨t,bs,m,rfl,hT,dD,hB,q⟩:=h
  rfl
 obtain⟨t,bs,m,rfl,hT,dD,hB,q⟩:=h
 have hu:=hr.units
 refine⟨_,(eH (bA (qz (fZ yi (aB bX (aJ aA (aJ aA (pv 0) ak (λ_ _=>rfl)) ak (λ_ _=>rfl)) (aJ aA (aJ aA (pv 0) ak (λ_ _=>rfl)) ak (λ_ _=>rfl))) (aB bX (aJ aA (aJ aA (pv 0) ak (λ_ _=>rfl)) ak (λ_ _=>rfl)) (aJ aA (aJ aA (pv 0) ak (λ_ _=>rfl)) ak (λ_ _=>rfl))) (bg _)) (sR (fZ yi (aQ bG hr rfl aU (ah (pv 0) ao)) ak (bg _)))))),?_⟩
 obtain⟨c0,x1,x2,_⟩:=bJ hT dD (i:=0) (by decide)
 obtain⟨c1,y1,y2,_⟩:=bJ hT dD (i:=1) (by decide)
 obtain⟨c2,w1,w2,_⟩:=bJ hT dD (i:=2) (by decide)
 refine⟨_,rfl,t,_,_,_,rfl,rfl,aV.of hT.1,x1,c0,_,_,_,rfl,rfl,aV.of x2,rfl,_,rfl,t,_,_,_,rfl,rfl,aV.of hT.1,y1,c1,_,_,_,rfl,rfl,aV.of y2,rfl,_,_,rfl,rfl,⟨aX (hB 0 0 (by decide) (by decide)) (by decide),aX (hB 1 1 (by decide) (by decide)) (by decide)⟩,_,rfl,t,_,_,_,rfl,rfl,aV.of hT.1,x1,c0,_,_,_,rfl,rfl,aV.of x2,rfl,_,rfl,t,_,_,_,rfl,rfl,aV.of hT.1,x1,c0,_,_,_,rfl,rfl,aV.of x2,rfl,_,_,rfl,rfl,⟨aX (hB 0 1 (by decide) (by decide)) (by decide),aX (hB 0 1 (by decide) (by decide)) (by decide)⟩,_,_,rfl,rfl,_,rfl,g9 (λd=> ?_) (λd=> ?_)⟩
 ·have d:ent m 0 1*ent m 0 1<ent m 0 0*ent m 1 1:=of_decide_eq_true d
  rw[decide_eq_true d,Bool.true_and]at q
  exact⟨_,rfl,t,bs,m,rfl,hT,dD,hB,_,_,rfl,rfl,q⟩
 ·have d:¬ent m 0 1*ent m 0 1<ent m 0 0*ent m 1 1:=λz=>d (decide_eq_true z)
  rw[decide_eq_false d,Bool.false_and]at q
  exact q
inductive Bw(vs:List V)(H:Hp)(Q:VK)(E:XK):Prop
 |mk(B:Addr)(most:Int)(_:vs=[.ref B,.int most])(_:iN H B)(_:4<=most)(_:most<=1000)(_:∀m t bs H',cu m->Bd 30 m->cC m->d7 m=true->aN m/2<=most->SB B H H'->H t=none->(∀b∈bs,H b=none) ->t∉bs->bs.Nodup->Tab H' t bs m->Q (.ref t) H')
theorem xH(F:fK K mg "_law_reduced" mw ir)(bw:mg "range"=none)(jH:cZ P w K mg base c8 2 "_law_drawn_form" f9 EJ)(kQ:cZ P w K mg base c8 2 "_law_is_above" gK EK)(bG:cZ P w K mg base c8 2 "_law_determinant" cV yU)(aF:cZ P w K mg base c8 2 "_law_take" cU kP):cZ P w K mg base c8 3 "_law_reduced" ir Bw:=by
 refine F.ok ja (λvs H Q E h=> ?_) (λf cdv A outer s H vs Q E hr h=> ?_)
 ·obtain⟨B,most,rfl,hb,m0,m1,q⟩:=h
  rfl
 obtain⟨B,most,rfl,hb,m0,m1,q⟩:=h
 have hu:=hr.units
 refine⟨_,(mS (@ay _ _ _ _ _ (lR PassesOwn.never rfl (b8 rfl bw (ah ak ao)) (cD (i:=2) ja.nd rfl (Or.inl rfl)) (mS (@ay _ _ _ _ _ (aW (i:=3) ja.nd rfl (Or.inl rfl) (aQ jH hr rfl aU (ah (pv 0) (ah (pv 1) ao))))
  (@aI _ _ _ (bI (PW.pt (UO (gQ (aQ kQ hr rfl aU (ah (pv 3) ao))) (Rb (bB IJ (aQ bG hr rfl aU (ah (pv 3) ao)) (aB cI ak (pv 1)) (bg _))))) (@aI _ _ _ (bA (pv 3))) cy)))))
  (@ay _ _ _ _ _ (aW (i:=4) ja.nd rfl (Or.inl rfl) (aB b7 ak (aB cI ak (aQ aF hr rfl aU (ah (pv 0) (ah (aB fq (pv 1) ak) ao))))))
  (Ce (bN (au (bN (au aL (au aL (au aL bK (by kernel_rfl)) (by kernel_rfl)) (by kernel_rfl))) (au (bN (au aL (au aL (au aL bK (by kernel_rfl)) (by kernel_rfl)) (by kernel_rfl))) (au (bN (au aL (au aL (au (fe (pv 4)) bK (by kernel_rfl)) (by kernel_rfl)) (by kernel_rfl))) bK (by kernel_rfl)) (by kernel_rfl)) (by kernel_rfl))))))),?_⟩
 refine⟨12,rfl,by decide,by decide,gp (n:=12) (λi σ H'=> ∃(o2 o3:Option V),SB B H H'/\σ=[some (.ref B),some (.int most),o2,o3,none]) ⟨_,_,SB.refl hb,rfl⟩ (λi σ H1 hi h=> ?_) (λσ H1 h=> ?_)⟩
 ·obtain⟨o2,o3,s1,rfl⟩:=h
  refine⟨_,rfl,_,rfl,B,most,rfl,s1.2,by omega,m1,λa b c p qq r t bs H2 hD s2 ft fb nt nn T=> ?_⟩
  obtain⟨i1,i2,i3,i4,i5,i6,i7,i8,i9,i10⟩:=hD
  have bM:Bd 30 (g8 (2*a) (2*b) (2*c) p qq r):=rX (by omega) (by omega) (by omega) (by omega) (by omega) (by omega)
  have s12:=s1.trans s2
  refine⟨_,rfl,t,bs,_,rfl,T,bH _,bM.mono (by decide),_,rfl,?_⟩
  refine Vz ⟨_,_,s12,rfl⟩ (λca hE=>⟨_,rfl,t,bs,_,rfl,T,bH _,bM.mono (by decide),_,rfl,_,_,rfl,rfl,.inl ⟨by decide,by decide⟩,_,_,rfl,rfl,_,rfl,g9 (λcd=> ?_) (λ_=>hE)⟩)
  rw[Bool.and_eq_true]at ca
  have hd:=of_decide_eq_true ca.2
  have cd:aN (g8 (2*a) (2*b) (2*c) p qq r)<=2*most:=of_decide_eq_true cd
  exact⟨_,rfl,q (g8 (2*a) (2*b) (2*c) p qq r) t bs H2 (bH _) bM (jR _ _ _ _ _ _) (jT i1 i2 i5 i6 hd) (by omega) s12 (s1.gone ft) (λx hx=>s1.gone (fb x hx)) nt nn T⟩
 ·obtain⟨o2,o3,s1,rfl⟩:=h
  refine⟨_,rfl,_,rfl,_,_,rfl,rfl,⟨by decide,by decide⟩,B,_,rfl,s1.2,by omega,log2_small (by omega) (by omega),λd H2 l0 u0 s2=>⟨_,_,rfl,rfl,.inl ⟨by decide,by decide⟩,_,_,rfl,rfl,?_⟩⟩
  obtain⟨c,ec,c1,c2⟩:∃c,2+2*d=2*c/\0<c/\4*c<=most:=⟨1+d,by omega,by omega,by omega⟩
  simp only[ec]
  have s12:=s1.trans s2
  refine⟨(by show 3<=sizeLine;decide),λp0 h0=>⟨(by show 3<=sizeLine;decide),λp1 h1=>⟨_,rfl,(by show 3<=sizeLine;decide),λp2 h2=>⟨(by show 3<=sizeLine;decide),λt ht=> ?_⟩⟩⟩⟩
  have v0:=av.up (o:= .lst [.int (2*1),.int 0,.int 0]) h0
  have v1:=av.up (o:= .lst [.int 0,.int (2*1),.int 0]) h1
  have v2:=av.up (o:= .lst [.int 0,.int 0,.int (2*c)]) h2
  have v3:=av.up (o:= .lst [.ref p0,.ref p1,.ref p2]) ht
  have T:Tab _ t [p0,p1,p2] (g8 (2*1) (2*1) (2*c) 0 0 0):=gk _ aq (v3 _ _ (v2 _ _ (v1 _ _ aq))) (v3 _ _ (v2 _ _ aq)) (v3 _ _ aq)
  obtain⟨f1,f2,f3⟩:=qN h0 h1 h2 ht
  have ed:aN (g8 (2*1) (2*1) (2*c) 0 0 0)=8*c:=by
   rw[qM]
   omega
  exact q (g8 (2*1) (2*1) (2*c) 0 0 0) t _ _ (bH _) (rX (by omega) (by omega) (by omega) (by omega) (by omega) (by omega)) (jR 1 1 c 0 0 0) (jT (by decide) (by decide) (by decide) (by decide) (by rw[ed];omega)) (by rw[ed];omega) (s12.trans (SB.of s12.2 (v0.trans (v1.trans (v2.trans v3))))) (s12.gone f1) (λx hx=>s12.gone (f2 x hx)) f3 (Nr h0 h1 h2) T
inductive yV(vs:List V)(H:Hp)(Q:VK)(E:XK):Prop
 |mk(B:Addr)(Ph:Int)(_:vs=[.ref B,.int Ph])(_:iN H B)(_:0<=Ph)(_:Ph<=10000)(_:∀m t bs H',cu m->Bd 100 m->aN m=1->SB B H H'->H t=none->(∀b∈bs,H b=none) ->t∉bs->Tab H' t bs m->Q (.ref t) H')
theorem Ay(F:fK K mg "_law_basis" pQ iK)(bw:mg "range"=none)(qt:mg "zip"=none)(q9:mg "int"=none)(aF:cZ P w K mg base c8 1 "_law_take" cU kP):cZ P w K mg base c8 2 "_law_basis" iK yV:=by
 refine F.ok gP (λvs H Q E h=> ?_) (λf cdv A outer s H vs Q E hr h=> ?_)
 ·obtain⟨B,Ph,rfl,hb,f0,f1,K0⟩:=h
  rfl
 obtain⟨B,Ph,rfl,hb,f0,f1,K0⟩:=h
 have hu:=hr.units
 refine toF ?_
 refine⟨_,(yz (i:=2) gP.nd rfl (Or.inl rfl) (bN (au (bN (au aL (au aL (au aL bK (by kernel_rfl)) (by kernel_rfl)) (by kernel_rfl))) (au (bN (au aL (au aL (au aL bK (by kernel_rfl)) (by kernel_rfl)) (by kernel_rfl))) (au (bN (au aL (au aL (au aL bK (by kernel_rfl)) (by kernel_rfl)) (by kernel_rfl))) bK (by kernel_rfl)) (by kernel_rfl)) (by kernel_rfl))) (by kernel_rfl) (by first|exact .inl rfl|exact .inr rfl)
  (@ay _ _ _ _ _ (lR PassesOwn.never rfl (b8 rfl bw (ah (aQ aF hr rfl aU (ah (pv 0) (ah (aJ aA (gD (ah ak (ah ak ao))) (fQ rS rfl q9 PyProof.Rows.boot_int (ah (fZ yi (pv 1) ak (bg _)) ao)) (λ_ _=>rfl)) ao))) ao)) (cD (i:=3) gP.nd rfl (Or.inl rfl)) (mS (@ay _ _ _ _ _ (aW (i:=4) gP.nd rfl (Or.inl rfl) (aQ aF hr rfl aU (ah (pv 0) (ah ak ao))))
  (@ay _ _ _ _ _ (aW (i:=5) gP.nd rfl (Or.inl rfl) (aB dz (aB b7 (aB b7 (pv 4) ak) (aQ aF hr rfl aU (ah (pv 0) (ah ak ao)))) ak))
  (@ay _ _ _ _ _ (aW (i:=6) gP.nd rfl (Or.inr rfl) (aB gq (aQ aF hr rfl aU (ah (pv 0) (ah (aB b7 (aB cI ak (pv 1)) ak) ao))) (pv 1)))
  (@ay _ _ _ _ _ (ju (Nq (N2:=["_law_bag_here","_law_far","_law_made","_law_turn","_law_i","_law_j","_law_times"]) (te:=(fY (FU λi j=> .int (i+j)) (aY 0) (fY (rI mW λi j=> .int (i*j)) (aY 8) (aY 1)))) rfl (Cb rfl qt (ah (aJ aA (pv 2) (pv 4) (λ_ _=>rfl)) (ah (aJ aA (pv 2) (pv 5) (λ_ _=>rfl)) ao))) (by kernel_rfl) rfl (λ_ _ _=>by exact fJ (aB b7 (pv 0) (aB bX (pv 8) (pv 1))))) (jP (pv 2) (pv 4) set_list))
  (@aI _ _ _ (bI (bB fF (aQ aF hr rfl aU (ah (pv 0) (ah ak ao))) ak (bg _)) (@aI _ _ _ (ju (sS (ah (aJ aA (pv 2) (pv 5) (λ_ _=>rfl)) (ah (gT (N2:=["_law_bag_here","_law_far","_law_made","_law_turn","_law_i","_law_j","_law_times"]) (te:=(fY (FU λi j=> .int (i-j)) (tC (.int 0)) (aY 0))) rfl (di (aJ aA (pv 2) (pv 4) (λ_ _=>rfl))) (by kernel_rfl) rfl (λ_ _ _=>by exact fJ (aB gq ak (pv 0)))) ao))) (FZ rfl (dw (jP (pv 2) (pv 4) set_list) (dw (jP (pv 2) (pv 5) set_list) mT))))) cy))))))))
  (@aI _ _ _ (bA (pv 2))))),?_⟩
 refine⟨(by show 3<=sizeLine;decide),λp0 g0=>⟨(by show 3<=sizeLine;decide),λp1 g1=>⟨(by show 3<=sizeLine;decide),λp2 g2=>⟨(by show 3<=sizeLine;decide),λD hD=> ?_⟩⟩⟩⟩
 have u0:=av.up (o:= .lst [.int 1,.int 0,.int 0]) g0
 have u1:=av.up (o:= .lst [.int 0,.int 1,.int 0]) g1
 have u2:=av.up (o:= .lst [.int 0,.int 0,.int 1]) g2
 have u3:=av.up (o:= .lst [.ref p0,.ref p1,.ref p2]) hD
 have T:Tab _ D [p0,p1,p2] (oF 1):=gk _ aq (u3 _ _ (u2 _ _ (u1 _ _ aq))) (u3 _ _ (u2 _ _ aq)) (u3 _ _ aq)
 have us:=u0.trans (u1.trans (u2.trans u3))
 obtain⟨fD,fb,nD⟩:=qN g0 g1 g2 hD
 have EL:D≠B:=hb.ne fD
 have nB:∀bs:List Addr,(∀b∈bs,H b=none) ->B∉bs:=λbs f z=>hb.ne (f B z) rfl
 refine⟨_,rfl,(by show 2<=sizeLine;decide),λLx hL=> ?_⟩
 have u4:=av.up (o:= .lst [.int 6,.int 4]) hL
 refine⟨_,rfl,_,_,rfl,rfl,.inr ⟨_,rfl,?_⟩⟩
 obtain⟨v,hv,hv2⟩:=at2 (x:= .int 6) (y:= .int 4) (i:=if decide ((3:Int)<Ph)=true then 1 else 0) (by split<;>decide) (by split<;>decide)
 obtain⟨w,rfl,w0,w6⟩:∃w:Int,v= .int w/\0<w/\w<=6:=by
  rcases hv2 with rfl|rfl
  ·exact⟨_,rfl,by decide,by decide⟩
  ·exact⟨_,rfl,by decide,by decide⟩
 have sb0:=SB.of hb (us.trans u4)
 refine⟨Lx,_,_,_,rfl,rfl,aV.of aq,hv,B,w,rfl,sb0.2,w0,log2_small (by omega) (by omega),λd H2 l0 d6 s2=> ?_⟩
 have T2:=(T.same u4).sb s2 EL (nB _ fb)
 have Zj:=sb0.trans s2
 refine⟨_,rfl,by omega,by omega,gp (n:=d.toNat) (λk σ H'=> ∃(o3 o4 o5 o6:Option V)(bs:List Addr)(m:List (List Int)),σ=[some (.ref B),some (.int Ph),some (.ref D),o3,o4,o5,o6]/\SB B H H'/\Tab H' D bs m/\cu m/\Bd (15*k+1) m/\aN m=1/\(∀b∈bs,H b=none)/\D∉bs) ⟨_,_,_,_,_,_,rfl,Zj,T2,bH _,λi j hi hj=> ?_,rfl,fb,nD⟩ (λk σ H1 hk h=> ?_) (λσ H1 h=> ?_)⟩
 ·rw[oF,bQ _ hi hj]
  split<;>decide
 ·obtain⟨o3,o4,o5,o6,bs,m,rfl,s1,T1,lN,dm,VX,fb,nD⟩:=h
  have nBb:=nB bs fb
  refine⟨_,rfl,B,_,rfl,s1.2,by decide,by decide,λd1 H2 l1 u1 s2=> ?_⟩
  refine⟨_,rfl,_,_,rfl,rfl,_,rfl,B,_,rfl,s2.2,by decide,by decide,λd2 H3 l2 u2 s3=>⟨_,_,rfl,rfl,_,_,rfl,rfl,(by show(0:Int)<3;decide),?_⟩⟩
  refine⟨_,rfl,_,rfl,_,_,rfl,rfl,.inl ⟨by decide,by decide⟩,_,_,rfl,rfl,B,_,rfl,s3.2,by omega,log2_small (by omega) (by omega),λd3 H4 l3 u3 s4=>⟨_,rfl,_,_,rfl,rfl,?_⟩⟩
  obtain⟨i,ei,hi⟩:∃i:Nat,d1=(i:Int)/\i<3:=⟨d1.toNat,by omega,by omega⟩
  obtain⟨j,ej,hj⟩:∃j:Nat,((i:Int)+1+d2)%3=(j:Int)/\j<3:=⟨(((i:Int)+1+d2)%3).toNat,by omega,by omega⟩
  have hij:i≠j:=by omega
  obtain⟨o,eo,ho⟩:∃o:Int,o=d3-Ph/\o.natAbs<2^14:=⟨_,rfl,by omega⟩
  simp only[ei,ej,<-eo]
  have Yg:=s2.trans (s3.trans s4)
  have T4:=T1.sb Yg EL nBb
  have Ah:=s1.trans Yg
  obtain⟨bi,x1,x2,x3⟩:=bJ T4 lN hi
  obtain⟨bj,y1,y2,y3⟩:=bJ T4 lN hj
  refine⟨_,rfl,_,rfl,D,_,_,_,rfl,rfl,aV.of T4.1,x1,_,rfl,_,rfl,D,_,_,_,rfl,rfl,aV.of T4.1,y1,bi,bj,_,_,rfl,aV.of x2,aV.of y2,λR hR=> ?_⟩
  have bk:∀s,s<3->(ent m i s+o*ent m j s).natAbs<2^(15*(k+1)+1):=λs hs=>aX (qL (aX (dm i s hi hs) (show 15*k+1<=14+(15*k+1)by omega)) (fE ho (dm j s hj hs))) (by omega)
  have k6:k<6:=by omega
  refine Ed (aV.of x2) (aV.of y2) rfl (by show 3<=sizeLine;decide) hR (λu v=>match u,v with| .int i,.int j=> .int (i+o*j)|_,_=> .fP) (λn u v eu ev G Q' sm kk=> ?_) (λH5 s5 e5=> ?_)
  ·have hn:n<3:=(List.getElem?_eq_some_iff.mp eu).1
   rcases aG hn with rfl|rfl|rfl<;>cases eu<;>cases ev<;>exact⟨_,rfl,_,rfl,_,rfl,_,_,rfl,rfl,⟨aX ho (by decide),aX (dm j _ hj (by decide)) (by omega)⟩,_,_,rfl,rfl,kk⟩
  have nR:R≠D:=Ne.symm (cO T4.1 hR)
  have l3:bs.length=3:=by rw[<-T4.2.length,lN.1]
  have fR:H R=none:=Ah.gone hR
  refine⟨_,rfl,_,rfl,D,_,_,i,rfl,rfl,s5 _ _ T4.1,(by rw[List.length_map,l3];rcases aG hi with rfl|rfl|rfl<;>rfl),?_⟩
  have T5:=Cd (g:=λs=>ent m i s+o*ent m j s) (T4.same s5) lN hi e5 nR nD
  have Az:SB B H _:=(Ah.trans (SB.of Ah.2 s5)).Au (o:= .lst ((bs.map V.ref).set i (.ref R))) fD EL
  have WH:∀b∈bs.set i R,H b=none:=λb hb=>by
   rcases List.mem_or_eq_of_mem_set hb with z|z
   ·exact fb b z
   ·rw[z];exact fR
  have Yh:D∉bs.set i R:=λhb=>by
   rcases List.mem_or_eq_of_mem_set hb with z|z
   ·exact nD z
   ·exact nR z.symm
  have Yi:Bd (15*(k+1)+1) (Aq m i λs=>ent m i s+o*ent m j s):=λr s hr hs=>by
   rw[dH m _ hr hs]
   split
   ·exact bk s hs
   ·exact aX (dm r s hr hs) (by omega)
  have VY:=(RL m hi hj hij o).trans VX
  have c5:cu (Aq m i λs=>ent m i s+o*ent m j s):=bH _
  generalize Aq m i (λs=>ent m i s+o*ent m j s)=M at T5 Yi VY c5
  generalize bs.set i R=bS at T5 WH Yh
  refine⟨_,rfl,B,_,rfl,Az.2,by decide,by decide,λd4 H6 l4 u4 s6=>⟨rfl,_,rfl,g9 (λ_=> ?_) (λ_=> ?_)⟩⟩
  ·have T6:=T5.sb s6 EL (nB _ WH)
   have QV:=Az.trans s6
   obtain⟨ai,q1,q2,q3⟩:=bJ T6 c5 hi
   obtain⟨aj,r1,r2,r3⟩:=bJ T6 c5 hj
   refine⟨_,rfl,_,rfl,D,_,_,_,rfl,rfl,aV.of T6.1,r1,_,rfl,_,rfl,D,_,_,_,rfl,rfl,aV.of T6.1,q1,ai,rfl,⟨_,aV.of q2⟩,λR2 hR2=> ?_⟩
   refine gE (dM (aV.of q2)) rfl hR2 (λs=>0-ent M i s) (λn y hn ey G Q' sm kk=> ?_) (λH7 s7 e7=> ?_)
   ·rcases aG hn with rfl|rfl|rfl<;>cases ey<;>exact⟨_,rfl,_,_,rfl,rfl,kk G (av.refl _)⟩
   refine⟨(by show 2<=sizeLine;decide),λPt hP=> ?_⟩
   have u8:=av.up (o:= .tup [.ref aj,.ref R2]) hP
   have s68:=s7.trans u8
   have T8:=T6.same s68
   have l5:bS.length=3:=by rw[<-T6.2.length,c5.1]
   have naj:aj≠D:=λz=>Yh (by rw[<-z];exact r3)
   have T9:=Cd (g:=λs=>ent M j s) T8 c5 hi (s68 _ _ r2) naj Yh
   have nD9:D∉bS.set i aj:=λhb=>by
    rcases List.mem_or_eq_of_mem_set hb with z|z
    ·exact Yh z
    ·exact naj z.symm
   have nR2:R2≠D:=Ne.symm (cO T6.1 hR2)
   have e9:upd (upd H7 Pt (.tup [.ref aj,.ref R2])) D (.lst ((bS.map V.ref).set i (.ref aj))) R2=some (.lst [.int (0-ent M i 0),.int (0-ent M i 1),.int (0-ent M i 2)]):=by rw[aH nR2];exact u8 _ _ e7
   have Ta:=Cd (g:=λs=>0-ent M i s) T9 (bH _) hj e9 nR2 nD9
   have ix:∀(r:Nat)(l:List V),r<3->l.length=3->Rq l.length (r:Int)=some r:=λr l hr hl=>by rw[hl];rcases aG hr with rfl|rfl|rfl<;>rfl
   refine⟨Pt,_,rfl,qA.of aq,rfl,_,_,rfl,_,rfl,_,rfl,D,_,_,i,rfl,rfl,T8.1,ix i _ hi (by rw[List.length_map,l5]),_,_,rfl,_,rfl,_,rfl,D,_,_,j,rfl,rfl,aq,ix j _ hj (by rw[List.length_set,List.length_map,l5]),rfl,?_⟩
   have sa:SB B H _:=((QV.trans (SB.of QV.2 s68)).Au (o:= .lst ((bS.map V.ref).set i (.ref aj))) fD EL).Au (o:= .lst (((bS.map V.ref).set i (.ref aj)).set j (.ref R2))) fD EL
   have ea:((bS.set i aj).map V.ref).set j (.ref R2)=((bS.map V.ref).set i (.ref aj)).set j (.ref R2):=by rw[List.map_set]
   refine⟨_,_,_,_,(bS.set i aj).set j R2,Aq (Aq M i λs=>ent M j s) j λs=>0-ent M i s,rfl,sa,(by rw[<-ea];exact Ta),bH _,λr s hr hs=> ?_,(NH M hi hj hij).trans VY,λb hb=> ?_,λhb=> ?_⟩
   ·rw[dH _ _ hr hs]
    split
    ·have:=Yi i s hi hs
     show(0-ent M i s).natAbs<_
     rw[Int.zero_sub,Int.natAbs_neg]
     exact this
    ·rw[dH M _ hr hs]
     split
     ·exact Yi j s hj hs
     ·exact Yi r s hr hs
   ·rcases List.mem_or_eq_of_mem_set hb with z|z
    ·rcases List.mem_or_eq_of_mem_set z with y|y
     ·exact WH b y
     ·rw[y];exact WH aj r3
    ·rw[z];exact QV.gone hR2
   ·rcases List.mem_or_eq_of_mem_set hb with z|z
    ·exact nD9 z
    ·exact nR2 z.symm
  ·exact⟨_,_,_,_,_,M,rfl,Az.trans s6,T5.sb s6 EL (nB _ WH),c5,Yi,VY,WH,Yh⟩
 ·obtain⟨o3,o4,o5,o6,bs,m,rfl,s1,T1,lN,dm,VX,fb,nD⟩:=h
  exact⟨_,rfl,K0 m D bs H1 lN (dm.mono (by omega)) VX s1 fD fb nD T1⟩
inductive Jo(vs:List V)(H:Hp)(Q:VK)(E:XK):Prop
 |mk(B:Addr)(most:Int)(_:vs=[.ref B,.int most])(_:iN H B)(_:4<=most)(_:most<=1000)(_:∀m t bs H',cu m->Bd 400 m->cC m->d7 m=true->aN m/2<=most->SB B H H'->H t=none->(∀b∈bs,H b=none) ->t∉bs->bs.Nodup->Tab H' t bs m->Q (.ref t) H')
theorem CA(F:fK K mg "_law_form" qV kr)(mD:cZ P w K mg base c8 3 "_law_reduced" ir Bw)(aF:cZ P w K mg base c8 3 "_law_take" cU kP)(fN:cZ P w K mg base c8 3 "_law_carried" gy Ht)(gG:cZ P w K mg base c8 3 "_law_basis" iK yV):cZ P w K mg base c8 4 "_law_form" kr Jo:=by
 refine F.ok pR (λvs H Q E h=> ?_) (λf cdv A outer s H vs Q E hr h=> ?_)
 ·obtain⟨B,most,rfl,hb,m0,m1,q⟩:=h
  rfl
 obtain⟨B,most,rfl,hb,m0,m1,q⟩:=h
 have hu:=hr.units
 refine⟨_,(mS (@ay _ _ _ _ _ (aW (i:=2) pR.nd rfl (Or.inl rfl) (aQ mD hr rfl aU (ah (pv 0) (ah (pv 1) ao))))
  (@ay _ _ _ _ _ (aW (i:=3) pR.nd rfl (Or.inl rfl) (aQ aF hr rfl aU (ah (pv 0) (ah ak ao))))
  (@ay _ _ _ _ _ (bI (bB fF (pv 3) ak (bg _)) (@aI _ _ _ (bA (aQ fN hr rfl aU (ah (pv 2) (ah (aQ gG hr rfl aU (ah (pv 0) (ah (aB Ge ak ak) ao))) ao))))) cy)
  (@ay _ _ _ _ _ (bI (bB Uo (pv 3) ak (bg _)) (@aI _ _ _ (bA (aQ fN hr rfl aU (ah (pv 2) (ah (aQ gG hr rfl aU (ah (pv 0) (ah ak ao))) ao))))) cy)
  (@aI _ _ _ (bA (pv 2)))))))),?_⟩
 refine⟨_,rfl,_,rfl,B,most,rfl,hb,m0,m1,λm t bs H1 lN dm ev ab le s1 ft fb nt nn T=> ?_⟩
 have CC:t≠B:=hb.ne ft
 have xw:B∉bs:=λz=>hb.ne (fb B z) rfl
 refine⟨_,rfl,B,_,rfl,s1.2,by decide,by decide,λd H2 l0 u0 s2=> ?_⟩
 have T2:=T.sb s2 CC xw
 have s12:=s1.trans s2
 refine⟨_,rfl,rfl,_,rfl,g9 (λ_=> ?_) (λ_=> ?_)⟩
 ·refine⟨_,rfl,_,rfl,_,_,rfl,rfl,⟨by decide,by decide,by decide⟩,B,_,rfl,s12.2,by decide,by decide,λmb tb Yj H3 cb dB CD s3 ftb fbb ntb Tb=> ?_⟩
  have Tm:=T2.sb s3 CC xw
  refine⟨t,bs,m,tb,Yj,mb,rfl,Tm,Tb,lN,cb,dm.mono (by decide),dB.mono (by decide),λr rs H4 s4 fr frs nr nn Tr=> ?_⟩
  have qy:=s12.trans s3
  exact q (oE m mb) r rs H4 (show cu (iR (iR mb m) (dN mb))from bH _) ((rV (rV dB dm) (yx dB)).mono (by decide)) (vL ev lN cb) (sY (jS ev lN) ab cb (.inl CD)) (by rw[yC (.inl CD)];exact le) (qy.trans (SB.of qy.2 s4)) (qy.gone fr) (λb hb=>qy.gone (frs b hb)) nr nn Tr
 refine⟨_,rfl,_,_,rfl,rfl,_,rfl,g9 (λ_=> ?_) (λ_=> ?_)⟩
 ·refine⟨_,rfl,_,rfl,B,_,rfl,s12.2,by decide,by decide,λmb tb Yj H3 cb dB CD s3 ftb fbb ntb Tb=> ?_⟩
  have Tm:=T2.sb s3 CC xw
  refine⟨t,bs,m,tb,Yj,mb,rfl,Tm,Tb,lN,cb,dm.mono (by decide),dB.mono (by decide),λr rs H4 s4 fr frs nr nn Tr=> ?_⟩
  have qy:=s12.trans s3
  exact q (oE m mb) r rs H4 (show cu (iR (iR mb m) (dN mb))from bH _) ((rV (rV dB dm) (yx dB)).mono (by decide)) (vL ev lN cb) (sY (jS ev lN) ab cb (.inl CD)) (by rw[yC (.inl CD)];exact le) (qy.trans (SB.of qy.2 s4)) (qy.gone fr) (λb hb=>qy.gone (frs b hb)) nr nn Tr
 ·exact⟨_,rfl,q m t bs H2 lN (dm.mono (by decide)) ev ab le s12 ft fb nt nn T2⟩
inductive EM(vs:List V)(H:Hp)(Q:VK)(E:XK):Prop
 |mk(B t:Addr)(bs:List Addr)(m:List (List Int))(_:vs=[.ref B,.ref t])(_:iN H B)(_:Tab H t bs m)(_:cu m)(_:Bd 440 m)(_:cC m)(_:d7 m=true)(_:aN m/2<=200)(_:∀(p:Int) H',p∈([3,5,7,11,13]:List Int) ->aN m/2%p≠0->SB B H H'->Q (.int p) H')
theorem AA(F:fK K mg "_law_prime" pT jE)(fO:mg "len"=none)(Pj:mg "min"=none)(bG:cZ P w K mg base c8 1 "_law_determinant" cV yU)(aF:cZ P w K mg base c8 1 "_law_take" cU kP):cZ P w K mg base c8 2 "_law_prime" jE EM:=by
 refine F.ok nJ (λvs H Q E h=> ?_) (λf cdv A outer s H vs Q E hr h=> ?_)
 ·obtain⟨B,t,bs,m,rfl,hb,hT,dD,hB,ev,ab,le,q⟩:=h
  rfl
 obtain⟨B,t,bs,m,rfl,hb,hT,dD,hB,ev,ab,le,q⟩:=h
 have hu:=hr.units
 refine⟨_,(mS (@ay _ _ _ _ _ (aW (i:=2) nJ.nd rfl (Or.inr rfl) (aB fq (aQ bG hr rfl aU (ah (pv 1) ao)) ak))
  (@ay _ _ _ _ _ (mX (i:=3) nJ.nd rfl rfl (N2:=["_law_bag_here","_law_form_here","_law_halved","_law_some"]) (tt:=(lA (fY Um (fY (rI (λ_ j=>0<j) λi j=> .int (i%j)) (aY 3) (aY 0)) (tC (.int 0))))) (te:=(aY 0)) rfl (ML (sS (ah ak (ah ak (ah ak (ah ak (ah ak ao))))))) (by kernel_rfl) rfl (λ_ _ _=>by exact tu (bB ly (aB dz (pv 3) (pv 0)) ak (bg _))) (λ_ _ _=>by exact fJ (pv 0)))
  (@aI _ _ _ (bA (aJ aA (pv 3) (bV (KH rfl) rfl Pj PyProof.Rows.boot_min (ah (aQ aF hr rfl aU (ah (pv 0) (ah ak ao))) (ah (aQ aF hr rfl aU (ah (pv 0) (ah ak ao))) (ah (aB gq (bV dJ rfl fO PySem.boot_len (ah (pv 3) ao)) ak) ao)))) (λ_ _=>rfl))))))),?_⟩
 obtain⟨kd,ek⟩:=Eo ev
 have hp:=(oG ab).2.2
 refine⟨_,rfl,t,bs,m,rfl,hT,dD,hB.mono (by decide),_,_,rfl,rfl,⟨by decide,by decide⟩,?_⟩
 obtain⟨h,eh,h1,h2⟩:∃h,aN m/2=h/\0<h/\h<=200:=⟨_,rfl,by omega,le⟩
 simp only[eh]
 rw[eh]at q
 refine⟨(by show 5<=sizeLine;decide),λP hP=>⟨P,rfl,⟨_,qA.of aq⟩,λD hD=>dj (Nj (qA.of aq)) (by show 5<=sizeLine;decide) hD (λv=>match v with| .int p=> !decide (V.int (h%p)=V.int 0)|_=>false) id (λx hx H2 R s2 kk=> ?_) (λx hx px H2 Q' s2 kk=>⟨_,rfl,kk H2 (av.refl _)⟩) (λH2 s2 e2=> ?_)⟩⟩
 ·simp only[List.mem_cons,List.not_mem_nil,or_false]at hx
  rcases hx with rfl|rfl|rfl|rfl|rfl<;>exact⟨_,rfl,_,rfl,_,_,rfl,rfl,(by show(0:Int)<_;decide),rfl,_,rfl,kk H2 (av.refl _)⟩
 have u1:=av.up (o:= .tup [V.int 3,.int 5,.int 7,.int 11,.int 13]) hP
 have s12:=SB.of hb (u1.trans s2)
 have nD:D≠B:=hb.ne (u1.none hD)
 refine⟨_,rfl,_,rfl,B,_,rfl,s12.2,by decide,by decide,λd1 H3 l1 g1 s3=>⟨_,rfl,B,_,rfl,s3.2,by decide,by decide,λd2 H4 l2 g2 s4=> ?_⟩⟩
 have e4:=s4.1 _ _ nD (s3.1 _ _ nD e2)
 refine⟨_,rfl,D,_,rfl,.inl (aV.of e4),_,_,rfl,rfl,_,_,_,rfl,?_⟩
 have ne:0<(([V.int 3,.int 5,.int 7,.int 11,.int 13].filter (λv=>match v with| .int p=> !decide (V.int (h%p)=V.int 0)|_=>false)).map id).length:=by
  rw[List.length_map]
  refine List.length_pos_iff.mpr λz=> ?_
  rw[List.filter_eq_nil_iff]at z
  have z3:=z (.int 3) (by simp)
  have z5:=z (.int 5) (by simp)
  have z7:=z (.int 7) (by simp)
  simp only[Bool.not_eq_true,Bool.not_eq_false',decide_eq_true_eq,V.int.injEq]at z3 z5 z7
  have z11:=z (.int 11) (by simp)
  simp only[Bool.not_eq_true,Bool.not_eq_false',decide_eq_true_eq,V.int.injEq]at z11
  omega
 generalize WI:([V.int 3,.int 5,.int 7,.int 11,.int 13].filter (λv=>match v with| .int p=> !decide (V.int (h%p)=V.int 0)|_=>false)).map id=Ls at e4 ne
 obtain⟨v,hv,hv2⟩:=nq (xs:=Ls) (k:=if d2<d1 then(if((Ls.length:Nat):Int) -1<d2 then((Ls.length:Nat):Int) -1 else d2)else(if((Ls.length:Nat):Int) -1<d1 then((Ls.length:Nat):Int) -1 else d1)) (by split<;>split<;>omega) (by split<;>split<;>omega)
 have hm:=List.mem_of_getElem? hv2
 rw[<-WI,List.map_id,List.mem_filter]at hm
 obtain⟨hm,hpv⟩:=hm
 refine⟨D,_,_,_,rfl,rfl,aV.of e4,hv,?_⟩
 simp only[List.mem_cons,List.not_mem_nil,or_false]at hm
 have Ah:=s12.trans (s3.trans s4)
 rcases hm with rfl|rfl|rfl|rfl|rfl<;>exact q _ H4 (by decide) (λz=>by simp[z]at hpv) Ah
inductive Hu(vs:List V)(H:Hp)(Q:VK)(E:XK):Prop
 |mk(t:Addr)(bs:List Addr)(m:List (List Int))(_:vs=[.ref t])(_:Tab H t bs m)(_:cu m)(_:∀r rs H',av H H'->H r=none->(∀b∈rs,H b=none) ->r∉rs->rs.Nodup->Tab H' r rs m->Q (.ref r) H')
theorem CF(F:fK K mg "_law_copy" qU jm)(gf:mg "list"=none):cZ P w K mg base c8 1 "_law_copy" jm Hu:=by
 refine F.ok Cy (λvs H Q E h=> ?_) (λf cdv A outer s H vs Q E hr h=> ?_)
 ·obtain⟨t,bs,m,rfl,hT,dD,q⟩:=h
  rfl
 obtain⟨t,bs,m,rfl,hT,dD,q⟩:=h
 have hu:=hr.units
 refine⟨_,(eH (bA (gT (N2:=["_law_table"]) (te:=(QS (BY K) (eE (aY 0) lS))) rfl (di (pv 0)) (by kernel_rfl) rfl (λ_ _ _=>by exact fJ (fQ jx rfl gf PyProof.Rows.boot_list (ah (pv 0) ao)))))),?_⟩
 exact⟨_,rfl,t,rfl,⟨_,aV.of hT.1⟩,λD hD=>Ek hT (by rw[dD.1];decide) hD λbs' H' s fr nD nn T=>q D bs' H' s hD fr nD nn T⟩
inductive CG(vs:List V)(H:Hp)(Q:VK)(E:XK):Prop
 |mk(p:Int)(_:vs=[.int p])(_:0<p)(_:p<14)(_:∀t bs H',av H H'->H t=none->(∀b∈bs,H b=none) ->t∉bs->Tab H' t bs (eX p.toNat (p.toNat*p.toNat)) ->Q (.ref t) H')
theorem CH(F:fK K mg "_law_rows" qW jn)(bw:mg "range"=none):cZ P w K mg base c8 1 "_law_rows" jn CG:=by
 refine F.ok lH (λvs H Q E h=> ?_) (λf cdv A outer s H vs Q E hr h=> ?_)
 ·obtain⟨p,rfl,p0,Zk,q⟩:=h
  rfl
 obtain⟨p,rfl,p0,Zk,q⟩:=h
 have hu:=hr.units
 refine toF ?_
 refine⟨_,(yz (i:=1) lH.nd rfl (Or.inl rfl) (bN (au (bN (au aL (au aL (au aL bK (by kernel_rfl)) (by kernel_rfl)) (by kernel_rfl))) bK (by kernel_rfl))) (by kernel_rfl) (by first|exact .inl rfl|exact .inr rfl)
  (@ay _ _ _ _ _ (lR PassesOwn.never rfl (b8 rfl bw (ah (pv 0) ao)) (cD (i:=2) lH.nd rfl (Or.inl rfl)) (eH (iZ (Bj PySem.F.plainAttrs_list PySem.F.slot_list_append PySem.F.type_list_append jQ (pv 1) (ah (gD (ah ak (ah ak (ah (pv 2) ao)))) ao)))))
  (@ay _ _ _ _ _ (lR PassesOwn.never rfl (b8 rfl bw (ah (aB cI (pv 0) (pv 0)) ao)) (cD (i:=2) lH.nd rfl (Or.inl rfl)) (eH (iZ (Bj PySem.F.plainAttrs_list PySem.F.slot_list_append PySem.F.type_list_append jQ (pv 1) (ah (gD (ah ak (ah (aB fq (pv 2) (pv 0)) (ah (aB dz (pv 2) (pv 0)) ao)))) ao)))))
  (@aI _ _ _ (bA (pv 1)))))),?_⟩
 refine⟨(by show 3<=sizeLine;decide),λa0 h0=>⟨(by show 1<=sizeLine;decide),λD hD=> ?_⟩⟩
 have v0:=av.up (o:= .lst [.int 0,.int 0,.int 1]) h0
 have v1:=av.up (o:= .lst [.ref a0]) hD
 have fD:H D=none:=v0.none hD
 have nDa:D≠a0:=λz=>by rw[z,aq]at hD;cases hD
 obtain⟨n,rfl⟩:∃n:Nat,p=(n:Int):=⟨p.toNat,by omega⟩
 have T0:Tab (upd (upd H a0 (.lst [.int 0,.int 0,.int 1])) D (.lst [.ref a0])) D [a0] (oH 0):=⟨aq,.cons (v1 _ _ aq) .nil⟩
 refine⟨_,rfl,_,rfl,by omega,by omega,gp (n:=((n:Int)).toNat) (λi σ H'=> ∃(o2:Option V)(bs:List Addr),σ=[some (.int (n:Int)),some (.ref D),o2]/\av H H'/\(∀b∈bs,H b=none)/\D∉bs/\Tab H' D bs (oH i)) ⟨_,[a0],rfl,v0.trans v1,λb hb=>by rw[List.mem_singleton.mp hb];exact h0,λhb=>nDa (List.mem_singleton.mp hb),T0⟩ (λi σ H1 hi h=> ?_) (λσ H1 h=> ?_)⟩
 ·obtain⟨o2,bs,rfl,s1,fb,nD,T⟩:=h
  have hl:bs.length=_:=T.2.length.symm
  refine⟨_,rfl,.inl ⟨rfl,_,aV.of T.1⟩,_,rfl,(by show 3<=sizeLine;decide),λr hr=> ?_⟩
  have u:=av.up (o:= .lst ([.int 0,.int 1,.int (0+(i:Int))]:List V)) hr
  have nr:r≠D:=Ne.symm (cO T.1 hr)
  refine⟨D,_,_,rfl,rfl,u _ _ T.1,(by rw[List.length_map,hl];(first|rw[vM]|rw[lK]);exact iF (by omega)),?_⟩
  refine⟨_,bs++ [r],rfl,(s1.trans u).upd fD,λb hb=> ?_,λhb=> ?_,?_⟩
  ·rcases List.mem_append.mp hb with z|z
   ·exact fb b z
   ·rw[List.mem_singleton.mp z];exact s1.none hr
  ·rcases List.mem_append.mp hb with z|z
   ·exact nD z
   ·exact nr (List.mem_singleton.mp z).symm
  ·rw[GG];exact Ep (T.same u) nD (by rw[aq,Int.zero_add];rfl) nr
 obtain⟨o2,bs,rfl,s1,fb,nD,T⟩:=h
 have T:Tab H1 D bs (eX n 0):=by
  have e:eX n 0=oH n:=by simp[eX]
  rw[e]
  exact T
 have nn:(n:Int)*n<2^40:=Int.lt_of_le_of_lt (Int.mul_le_mul (show(n:Int)<=13 by omega) (show(n:Int)<=13 by omega) (by omega) (by decide)) (by decide)
 have n0:(0:Int)<=(n:Int)*n:=Int.mul_nonneg (by omega) (by omega)
 have nn':n*n<=169:=Nat.mul_le_mul (show n<=13 by omega) (show n<=13 by omega)
 have en:((n:Int)*n).toNat=n*n:=by omega
 refine⟨_,rfl,_,rfl,_,_,rfl,rfl,.inl ⟨by omega,by omega⟩,_,rfl,by omega,by omega,gp (n:=((n:Int)*n).toNat) (λi σ H'=> ∃(o2:Option V)(bs:List Addr),σ=[some (.int (n:Int)),some (.ref D),o2]/\av H H'/\(∀b∈bs,H b=none)/\D∉bs/\Tab H' D bs (eX n i)) ⟨_,bs,rfl,s1,fb,nD,T⟩ (λi σ H1 hi h=> ?_) (λσ H1 h=> ?_)⟩
 ·have i9:i<169:=by omega
  obtain⟨o2,bs,rfl,s1,fb,nD,T⟩:=h
  have hl:bs.length=_:=T.2.length.symm
  refine⟨_,rfl,.inl ⟨rfl,_,aV.of T.1⟩,_,rfl,_,rfl,_,_,rfl,rfl,⟨by omega,by omega⟩,_,rfl,_,rfl,_,_,rfl,rfl,(by show(0:Int)<_;omega),(by show 3<=sizeLine;decide),λr hr=> ?_⟩
  have u:=av.up (o:= .lst ([.int 1,.int ((0+(i:Int))/n),.int ((0+(i:Int))%n)]:List V)) hr
  have nr:r≠D:=Ne.symm (cO T.1 hr)
  refine⟨D,_,_,rfl,rfl,u _ _ T.1,(by rw[List.length_map,hl];(first|rw[vM]|rw[lK]);exact iF (by omega)),?_⟩
  refine⟨_,bs++ [r],rfl,(s1.trans u).upd fD,λb hb=> ?_,λhb=> ?_,?_⟩
  ·rcases List.mem_append.mp hb with z|z
   ·exact fb b z
   ·rw[List.mem_singleton.mp z];exact s1.none hr
  ·rcases List.mem_append.mp hb with z|z
   ·exact nD z
   ·exact nr (List.mem_singleton.mp z).symm
  ·rw[GH];exact Ep (T.same u) nD (by rw[aq,Int.zero_add];rfl) nr
 ·obtain⟨o2,bs,rfl,s1,fb,nD,T⟩:=h
  rw[en]at T
  exact⟨_,rfl,q D bs H1 s1 fD fb nD T⟩
inductive EN(vs:List V)(H:Hp)(Q:VK)(E:XK):Prop
 |mk(t:Addr)(bs:List Addr)(m:List (List Int))(p:Int)(_:vs=[.ref t,.int p])(_:Tab H t bs m)(_:cu m)(_:Bd 440 m)(_:cC m)(_:0<p)(_:p<14)(_:∀t bs H',av H H'->H t=none->(∀b∈bs,H b=none) ->t∉bs->Tab H' t bs ((eX p.toNat (p.toNat*p.toNat)).filter λr=>decide (aR m (az r)%p=0)) ->Q (.ref t) H')
theorem AB(F:fK K mg "_law_lines" pU jF)(jq:cZ P w K mg base c8 2 "_law_rows" jn CG)(iL:cZ P w K mg base c8 2 "_law_worth" iJ uV):cZ P w K mg base c8 3 "_law_lines" jF EN:=by
 refine F.ok sJ (λvs H Q E h=> ?_) (λf cdv A outer s H vs Q E hr h=> ?_)
 ·obtain⟨t,bs,m,p,rfl,hT,dD,hB,ev,p0,Zk,q⟩:=h
  rfl
 obtain⟨t,bs,m,p,rfl,hT,dD,hB,ev,p0,Zk,q⟩:=h
 have hu:=hr.units
 refine⟨_,(mS (@ay _ _ _ _ _ (aW (i:=2) sJ.nd rfl (Or.inr rfl) (gT (N2:=["_law_form_here","_law_p","_law_small"]) (te:=(oB 1 (DJ K (aY 0)) (dX 0) (fY (rI (λ_ j=>0<j) λi j=> .int (i%j)) (aY 0) (fY (rI Al λi j=> .int (i*j)) (tC (.int 2)) (aY 3))))) rfl (di (pv 0)) (by kernel_rfl) rfl (λ_ _ _=>by exact fJ (gT (N2:=["_law_row","_law_form_here","_law_p","_law_small"]) (te:=(fY (rI (λ_ j=>0<j) λi j=> .int (i%j)) (aY 0) (fY (rI Al λi j=> .int (i*j)) (tC (.int 2)) (aY 3)))) rfl (di (pv 0)) (by kernel_rfl) rfl (λ_ _ _=>by exact fJ (aB dz (pv 0) (aB cI ak (pv 3))))))))
  (@aI _ _ _ (bA (rY (N2:=["_law_form_here","_law_p","_law_small"]) (tt:=(lA (fY JU (fY (rI (λ_ j=>0<j) λi j=> .int (i%j)) (qm uV [] E0 (eE (aY 3) (eE (aY 0) lS))) (aY 2)) (tC (.int 0))))) (te:=(aY 0)) rfl (di (aQ jq hr rfl aU (ah (pv 1) ao))) (by kernel_rfl) rfl (λ_ _ _=>by exact tu (bB fF (aB dz (aQ iL hr rfl aU (ah (pv 3) (ah (pv 0) ao))) (pv 2)) ak (bg _))) (λ_ _ _=>by exact fJ (pv 0))))))),?_⟩
 obtain⟨n,rfl⟩:∃n:Nat,p=(n:Int):=⟨p.toNat,by omega⟩
 have l1:(bs.map V.ref).length=3:=by rw[List.length_map,<-hT.2.length,dD.1]
 refine⟨_,rfl,t,rfl,⟨_,aV.of hT.1⟩,λS hS=>Ca (dM (aV.of hT.1)) l1 hS (λi j=>ent m i j%(2*(n:Int))) (λi x hi ex H1 Q1 s1 k1=> ?_) (λss H1 s1 fs nS TS=> ?_)⟩
 ·obtain⟨b,e1,e2,_⟩:=bJ (hT.same s1) dD hi
  have ex':x= .ref b:=by
   have q1:=iG ex
   rw[e1]at q1
   exact(Option.some.inj q1).symm
  subst ex'
  refine⟨_,rfl,b,rfl,⟨_,aV.of e2⟩,λD2 Ag=>gE (dM (aV.of e2)) rfl Ag (λj=>ent m i j%(2*(n:Int))) (λj x hj SY H2 Q2 s2 k2=> ?_) (λH2 s2 e2=>k1 D2 H2 Ag s2 e2)⟩
  have ex':x= .int (ent m i j):=by
   rcases aG hj with rfl|rfl|rfl<;>exact(Option.some.inj SY).symm
  subst ex'
  exact⟨_,rfl,_,rfl,_,_,rfl,rfl,.inl ⟨by decide,by decide⟩,_,_,rfl,rfl,(by show(0:Int)<2*n;omega),k2 H2 (av.refl _)⟩
 have TS:Tab H1 S ss (ko m (2*(n:Int))):=TS
 have bS:Bd 1000 (ko m (2*(n:Int))):=λi j hi hj=>by
  unfold ko
  rw[bQ _ hi hj]
  have:=Int.emod_nonneg (ent m i j) (show 2*(n:Int)≠0 by omega)
  have:=Int.emod_lt_of_pos (ent m i j) (show 0<2*(n:Int)by omega)
  exact aX (a:=10) (by omega) (by decide)
 refine⟨_,rfl,(n:Int),rfl,p0,Zk,λL ls H2 s2 fL fls nL TL=> ?_⟩
 rw[Int.toNat_natCast]at TL
 have nn:n*n<=169:=Nat.mul_le_mul (show n<=13 by omega) (show n<=13 by omega)
 have mem:∀b∈ls,∃r,r∈eX n (n*n)/\H2 b=some (.lst [.int (az r 0),.int (az r 1),.int (az r 2)])/\(∀i,(az r i).natAbs<2^10)/\r=[az r 0,az r 1,az r 2]:=λb hb=>by
  obtain⟨r,hr,e⟩:=qK TL.2 hb
  obtain⟨e3,bd⟩:=jU (by omega) nn hr
  refine⟨r,hr,?_,bd,e3⟩
  rw[e]
  conv=>lhs;rw[e3]
  rfl
 have len:(ls.map V.ref).length<=sizeLine:=by rw[List.length_map,<-TL.2.length,lK];exact Nat.le_of_lt (iF (by omega))
 refine⟨L,rfl,⟨_,aV.of TL.1⟩,λD hD=>dj (dM (aV.of TL.1)) len hD (λv=>match v with| .ref b=>(match H2 b with|some (.lst [.int r0,.int r1,.int r2])=>decide (V.int (aR (ko m (2*(n:Int))) (az [r0,r1,r2])%(n:Int))=V.int 0)|_=>false)|_=>false) id (λx hx H3 R s3 kk=> ?_) (λx hx px H3 Q' s3 kk=>⟨_,rfl,kk H3 (av.refl _)⟩) (λH3 s3 e3=> ?_)⟩
 ·obtain⟨b,rfl,hb⟩:=jy hx
  obtain⟨r,hr,e,bd,er⟩:=mem b hb
  have kk:=kk H3 (av.refl _)
  simp only[e]at kk
  exact⟨_,rfl,_,rfl,S,ss,_,b,az r,rfl,(TS.same s2).same s3,bH _,bS,s3 _ _ e,λi _=>aX (bd i) (by decide),_,rfl,_,_,rfl,rfl,(by show(0:Int)<n;omega),rfl,_,rfl,kk⟩
 ·obtain⟨ls',el,il,pr⟩:=mY (pf:=(λv=>match v with| .ref b=>(match H2 b with|some (.lst [.int r0,.int r1,.int r2])=>decide (V.int (aR (ko m (2*(n:Int))) (az [r0,r1,r2])%(n:Int))=V.int 0)|_=>false)|_=>false)) (g:=λr=>decide (aR m (az r)%(n:Int)=0)) TL.2 (λrow b hm e=>by
   obtain⟨er,_⟩:=jU (by omega) nn hm
   have e':H2 b=some (.lst [.int (az row 0),.int (az row 1),.int (az row 2)]):=by
    rw[e]
    conv=>lhs;rw[er]
    rfl
   simp only[e',<-er,KJ ev p0]
   simp)
  have Zj:=s1.trans s2
  have nD:D∉ls':=λz=>by
   obtain⟨r,_,e,_⟩:=mem D (il D z)
   rw[hD]at e
   cases e
  refine q D ls' H3 (Zj.trans s3) (Zj.none hD) (λb hb=>s1.none (fls b (il b hb))) nD ⟨by rw[e3,List.map_id,el],?_⟩
  rw[Int.toNat_natCast]
  exact pr.xC λr b hb e=>s3 _ _ e
inductive Jp(vs:List V)(H:Hp)(Q:VK)(E:XK):Prop
 |mk(t:Addr)(bs:List Addr)(m:List (List Int))(n:Nat)(b:Addr)(x:Nat->Int)(_:vs=[.ref t,.int (n:Int),.ref b])(_:Tab H t bs m)(_:cu m)(_:Bd 440 m)(_:0<n)(_:n<14)(_:dR H b x)(_:∀i,i<3->(x i).natAbs<2^400)(_:∃k,k<n*n*n/\aR m (gU n x k)%((n:Int)*n)=0)(_:∀(k:Nat) r H',k<n*n*n->aR m (gU n x k)%((n:Int)*n)=0->(∀j,j<k-> ¬aR m (gU n x j)%((n:Int)*n)=0) ->av H H'->H r=none->dR H' r (gU n x k) ->Q (.ref r) H')
theorem CI(F:fK K mg "_law_lift" qX ku)(bw:mg "range"=none)(iL:cZ P w K mg base c8 2 "_law_worth" iJ uV):cZ P w K mg base c8 3 "_law_lift" ku Jp:=by
 refine F.ok pV (λvs H Q E h=> ?_) (λf cdv A outer s H vs Q E hr h=> ?_)
 ·obtain⟨t,bs,m,n,b,x,rfl,hT,dD,hB,n0,n14,hx,bx,exk,q⟩:=h
  rfl
 obtain⟨t,bs,m,n,b,x,rfl,hT,dD,hB,n0,n14,hx,bx,exk,q⟩:=h
 have hu:=hr.units
 refine⟨_,(mS (@ay _ _ _ _ _ (lR PassesOwn.never rfl (b8 rfl bw (ah (aB cI (aB cI (pv 1) (pv 1)) (pv 1)) ao)) (cD (i:=3) pV.nd rfl (Or.inl rfl)) (mS (@ay _ _ _ _ _ (aW (i:=4) pV.nd rfl (Or.inl rfl) (gD (ah (aB b7 (aJ aA (pv 2) ak (λ_ _=>rfl)) (aB cI (aB fq (pv 3) (aB cI (pv 1) (pv 1))) (pv 1))) (ah (aB b7 (aJ aA (pv 2) ak (λ_ _=>rfl)) (aB cI (aB dz (aB fq (pv 3) (pv 1)) (pv 1)) (pv 1))) (ah (aB b7 (aJ aA (pv 2) ak (λ_ _=>rfl)) (aB cI (aB dz (pv 3) (pv 1)) (pv 1))) ao)))))
  (@aI _ _ _ (bI (bB fF (aB dz (aQ iL hr rfl aU (ah (pv 0) (ah (pv 4) ao))) (aB cI (pv 1) (pv 1))) ak (bg _)) (@aI _ _ _ (bA (pv 4))) cy)))))
  (@aI _ _ _ (bA vH)))),?_⟩
 have nn9:n*n<=169:=Nat.mul_le_mul (show n<=13 by omega) (show n<=13 by omega)
 have nn0:0<n*n:=Nat.mul_pos n0 n0
 have nnn:n*n*n<=169*13:=Nat.mul_le_mul nn9 (show n<=13 by omega)
 have e2:(n:Int)*n=((n*n:Nat):Int):=by push_cast;rfl
 have e3:(n:Int)*n*n=((n*n*n:Nat):Int):=by push_cast;rfl
 have c2:(n:Int)*n<2^20:=by omega
 have c0:(0:Int)<(n:Int)*n:=by omega
 have c3:(n:Int)*n*n<2^20:=by omega
 refine⟨_,rfl,_,rfl,_,_,rfl,rfl,.inl ⟨by omega,by omega⟩,_,rfl,_,_,rfl,rfl,.inl ⟨by omega,by omega⟩,_,rfl,by omega,by omega,gp (n:=((n:Int)*n*n).toNat) (λk σ H'=>(∃o3 o4,σ=[some (.ref t),some (.int (n:Int)),some (.ref b),o3,o4])/\av H H'/\ ∀j,j<k-> ¬aR m (gU n x j)%((n:Int)*n)=0) ⟨⟨_,_,rfl⟩,av.refl _,λj hj=>absurd hj (Nat.not_lt_zero _)⟩ (λk σ H1 hk hh=> ?_) (λσ H1 hh=> ?_)⟩
 ·obtain⟨⟨o3,o4,rfl⟩,s1,hn⟩:=hh
  have hx1:=s1 _ _ hx
  have hk':k<n*n*n:=by omega
  have d0:(0+(k:Int))/((n:Int)*n)=((k/(n*n):Nat):Int):=by rw[Int.zero_add,e2];exact(Int.natCast_ediv ..).symm
  have d1:(0+(k:Int))/(n:Int)%n=((k/n%n:Nat):Int):=by rw[Int.zero_add];push_cast;rfl
  have d2:(0+(k:Int))%(n:Int)=((k%n:Nat):Int):=by rw[Int.zero_add];push_cast;rfl
  have q0:k/(n*n)<=k:=Nat.div_le_self _ _
  have q1:k/n%n<=k:=Nat.le_trans (Nat.mod_le _ _) (Nat.div_le_self _ _)
  have q2:k%n<=k:=Nat.mod_le _ _
  refine⟨_,rfl,b,_,_,_,rfl,rfl,aV.of hx1,rfl,_,rfl,_,rfl,_,rfl,_,_,rfl,rfl,.inl ⟨by omega,by omega⟩,_,_,rfl,rfl,⟨c0,by omega⟩,_,rfl,_,_,rfl,rfl,.inr ⟨by omega,by omega⟩,_,_,rfl,rfl,?_⟩
  refine⟨_,rfl,b,_,_,_,rfl,rfl,aV.of hx1,rfl,_,rfl,_,rfl,_,_,rfl,rfl,⟨by omega,by omega⟩,_,rfl,_,_,rfl,rfl,(by show(0:Int)<n;omega),_,rfl,_,_,rfl,rfl,.inr ⟨by omega,by omega⟩,_,_,rfl,rfl,?_⟩
  refine⟨_,rfl,b,_,_,_,rfl,rfl,aV.of hx1,rfl,_,rfl,_,rfl,_,_,rfl,rfl,(by show(0:Int)<n;omega),_,rfl,_,_,rfl,rfl,.inr ⟨by omega,by omega⟩,_,_,rfl,rfl,(by show 3<=sizeLine;decide),λD hD=> ?_⟩
  have eD:upd H1 D (.lst [.int (x 0+(0+(k:Int))/((n:Int)*n)*n),.int (x 1+(0+(k:Int))/(n:Int)%n*n),.int (x 2+(0+(k:Int))%(n:Int)*n)]) D=some (.lst [.int (gU n x k 0),.int (gU n x k 1),.int (gU n x k 2)]):=by
   rw[aq,d0,d1,d2]
   rfl
  have uD:=av.up (o:= .lst [.int (x 0+(0+(k:Int))/((n:Int)*n)*n),.int (x 1+(0+(k:Int))/(n:Int)%n*n),.int (x 2+(0+(k:Int))%(n:Int)*n)]) hD
  have bv:∀i,i<3->(gU n x k i).natAbs<2^1000:=λi hi=>by
   have dg:digit n k i<=k:=by
    unfold digit
    split
    ·exact q0
    ·split
     ·exact q1
     ·exact q2
   have c1:((digit n k i:Int)*n).natAbs<2^(20+4):=fE (by omega) (by omega)
   exact aX (qL (bx i hi) (aX c1 (by decide))) (by decide)
  have s2:=s1.trans uD
  refine⟨_,rfl,_,rfl,t,bs,m,D,gU n x k,rfl,hT.same s2,dD,hB.mono (by decide),eD,bv,_,rfl,_,rfl,_,_,rfl,rfl,.inl ⟨by omega,by omega⟩,_,_,rfl,rfl,c0,rfl,_,rfl,g9 (λz=> ?_) (λz=> ?_)⟩
  ·have z:=V.int.inj (of_decide_eq_true z)
   exact⟨_,rfl,q k D _ hk' z (λj hj=>hn j hj) s2 (s1.none hD) eD⟩
  ·refine⟨⟨_,_,rfl⟩,s2,λj hj=> ?_⟩
   by_cases w:j=k
   ·subst w
    exact λw=>z (decide_eq_true (congrArg V.int w))
   ·exact hn j (by omega)
 ·obtain⟨⟨o3,o4,rfl⟩,s1,hn⟩:=hh
  obtain⟨k,hk,ek⟩:=exk
  exact absurd ek (hn k (by omega))
inductive Pk(vs:List V)(H:Hp)(Q:VK)(E:XK):Prop
 |mk(t1:Addr)(b1:List Addr)(m1:List (List Int))(_:vs=[.ref t1])(_:Tab H t1 b1 m1)(_:cu m1)(_:∀r bs H',av H H'->H r=none->(∀b∈bs,H b=none) ->r∉bs->Tab H' r bs (dN m1) ->Q (.ref r) H')
theorem yW(F:fK K mg "turned_over" nE iS)(bw:mg "range"=none):cZ P w K mg base c8 1 "turned_over" iS Pk:=by
 refine F.ok yO (λvs H Q E h=> ?_) (λf cdv A outer s H vs Q E hr h=> ?_)
 ·obtain⟨t1,b1,m1,rfl,h1,c1,q⟩:=h
  rfl
 obtain⟨t1,b1,m1,rfl,h1,c1,q⟩:=h
 have hu:=hr.units
 refine⟨_,(eH (bA (gT (N2:=["table"]) (te:=(oB 1 (DL (eE (tC (.int 3)) lS)) (dX 0) (fY (kG K) (fY (kG K) (aY 2) (aY 0)) (aY 1)))) rfl (b8 rfl bw (ah ak ao)) (by kernel_rfl) rfl (λ_ _ _=>by exact fJ (gT (N2:=["i","table"]) (te:=(fY (kG K) (fY (kG K) (aY 2) (aY 0)) (aY 1))) rfl (b8 rfl bw (ah ak ao)) (by kernel_rfl) rfl (λ_ _ _=>by exact fJ (aJ aA (aJ aA (pv 2) (pv 0) (λ_ _=>rfl)) (pv 1) (λ_ _=>rfl)))))))),?_⟩
 refine⟨3,rfl,by decide,by decide,λD hD=>Ca (gw (n:=3)) rfl hD _ (λi x hi ex H1 Q1 s1 k1=> ?_) (λbs H1 s1 fr nD hT=>q D bs H1 s1 hD fr nD hT)⟩
 obtain⟨_,rfl⟩:=eK ex
 refine⟨3,rfl,by decide,by decide,λD2 Ag=>gE (gw (n:=3)) rfl Ag (λj=>ent m1 j i) (λj x hj SY H2 Q2 s2 k2=> ?_) (λH2 s2 e2=>k1 D2 H2 Ag s2 e2)⟩
 obtain⟨_,rfl⟩:=eK SY
 have sm:=s1.trans s2
 obtain⟨b,row,e1,e2,e3⟩:=xY (h1.same sm) c1 hj hi
 exact⟨_,rfl,_,rfl,t1,_,_,_,rfl,rfl,aV.of (h1.same sm).1,e1,_,rfl,b,_,_,_,rfl,rfl,aV.of e2,e3,k2 H2 (av.refl _)⟩
inductive x8(K:PySem.W.Frag)(vs:List V)(H:Hp)(Q:VK)(E:XK):Prop
 |mk(t:Addr)(bs:List Addr)(m:List (List Int))(i j:Nat)(_:vs=[.ref t,.int (i:Int),.int (j:Int)])(_:Tab H t bs m)(_:cu m)(_:i<3)(_:j<3)(_:Bd 4096 m)(_:Q (.int (lF m i j)) H)
theorem xJ(F:fK K mg "signed_minor" l8 ig):cZ P w K mg base c8 1 "signed_minor" ig (x8 K):=by
 refine F.ok kJ (λvs H Q E h=> ?_) (λf cdv A outer s H vs Q E hr h=> ?_)
 ·obtain⟨t,bs,m,i,j,rfl,hT,dD,hi,hj,hB,q⟩:=h
  rfl
 obtain⟨t,bs,m,i,j,rfl,hT,dD,hi,hj,hB,q⟩:=h
 have hu:=hr.units
 refine⟨_,(mS (@ay _ _ _ _ _ (MH (i:=3) (j:=4) rfl kJ.nd rfl rfl (by decide) rfl rfl (ah (aJ aA (pv 0) (aB dz (aB b7 (pv 1) ak) ak) (λ_ _=>rfl)) (ah (aJ aA (pv 0) (aB dz (aB b7 (pv 1) ak) ak) (λ_ _=>rfl)) ao)) rfl)
  (@ay _ _ _ _ _ (MH (i:=5) (j:=6) rfl kJ.nd rfl rfl (by decide) rfl rfl (ah (aB dz (aB b7 (pv 2) ak) ak) (ah (aB dz (aB b7 (pv 2) ak) ak) ao)) rfl)
  (@aI _ _ _ (bA (aB gq (aB bX (aJ aA (pv 3) (pv 5) (λ_ _=>rfl)) (aJ aA (pv 4) (pv 6) (λ_ _=>rfl))) (aB bX (aJ aA (pv 3) (pv 6) (λ_ _=>rfl)) (aJ aA (pv 4) (pv 5) (λ_ _=>rfl))))))))),?_⟩
 obtain⟨b,e1,e2,_⟩:=bJ hT dD (i:=(i+1)%3) (ow _)
 obtain⟨b',Kh,Vn,_⟩:=bJ hT dD (i:=(i+2)%3) (ow _)
 rw[<-m3 i 1]at e1
 rw[<-m3 i 2]at Kh
 refine⟨_,rfl,_,rfl,_,_,rfl,rfl,_,_,rfl,rfl,(by show(0:Int)<3;decide),t,_,_,_,rfl,rfl,aV.of hT.1,e1,?_⟩
 refine⟨_,rfl,_,rfl,_,_,rfl,rfl,_,_,rfl,rfl,(by show(0:Int)<3;decide),t,_,_,_,rfl,rfl,aV.of hT.1,Kh,_,_,rfl,?_⟩
 refine⟨_,rfl,_,_,rfl,rfl,_,_,rfl,rfl,(by show(0:Int)<3;decide),_,rfl,_,_,rfl,rfl,_,_,rfl,rfl,(by show(0:Int)<3;decide),_,_,rfl,?_⟩
 have a1:=mR (λc=>ent m ((i+1)%3) c) (c:=(j+1)%3) (ow _)
 have a2:=mR (λc=>ent m ((i+2)%3) c) (c:=(j+2)%3) (ow _)
 have a3:=mR (λc=>ent m ((i+1)%3) c) (c:=(j+2)%3) (ow _)
 have a4:=mR (λc=>ent m ((i+2)%3) c) (c:=(j+1)%3) (ow _)
 rw[<-m3 j 1]at a1 a4
 rw[<-m3 j 2]at a2 a3
 refine⟨_,rfl,_,rfl,b,_,_,_,rfl,rfl,aV.of e2,a1,_,rfl,_,rfl,b',_,_,_,rfl,rfl,aV.of Vn,a2,_,_,rfl,rfl,⟨hB _ _ (ow _) (ow _),hB _ _ (ow _) (ow _)⟩,?_⟩
 exact⟨_,rfl,_,rfl,b,_,_,_,rfl,rfl,aV.of e2,a3,_,rfl,_,rfl,b',_,_,_,rfl,rfl,aV.of Vn,a4,_,_,rfl,rfl,⟨hB _ _ (ow _) (ow _),hB _ _ (ow _) (ow _)⟩,_,_,rfl,rfl,q⟩
theorem Pn{H:Hp}{t:Addr}{bs:List Addr}{m:List (List Int)}(hT:Tab H t bs m)(dD:cu m):∃c0 c1 c2,bs=[c0,c1,c2]/\dR H c0 (λc=>ent m 0 c)/\dR H c1 (λc=>ent m 1 c)/\dR H c2 (λc=>ent m 2 c):=by
 have l3:bs.length=3:=by rw[<-hT.2.length,dD.1]
 match bs,l3,hT with
 | [c0,c1,c2],_,hT=>
  obtain⟨b0,x1,x2,_⟩:=bJ hT dD (i:=0) (by decide)
  obtain⟨b1,y1,y2,_⟩:=bJ hT dD (i:=1) (by decide)
  obtain⟨b2,w1,w2,_⟩:=bJ hT dD (i:=2) (by decide)
  cases x1;cases y1;cases w1
  exact⟨c0,c1,c2,rfl,x2,y2,w2⟩
inductive Jq(vs:List V)(H:Hp)(Q:VK)(E:XK):Prop
 |mk(t:Addr)(bs:List Addr)(m:List (List Int))(_:vs=[.ref t])(_:Tab H t bs m)(_:cu m)(_:Bd 1000 m)(_:True)(_:∀H',av H H'->Q (.int (aN m)) H')
theorem yX(F:fK K mg "determinant" nF gc):cZ P w K mg base c8 3 "determinant" gc Jq:=by
 refine F.ok dI (λvs H Q E h=> ?_) (λf cdv A outer s H vs Q E hr h=> ?_)
 ·obtain⟨t,bs,m,rfl,hT,dD,hB,hP,q⟩:=h
  rfl
 obtain⟨t,bs,m,rfl,hT,dD,hB,hP,q⟩:=h
 have hu:=hr.units
 refine⟨_,(mS (@ay _ _ _ _ _ (ju (pv 0) (uC rfl (dw (uC rfl (dw (cD (i:=1) dI.nd rfl (Or.inl rfl)) (dw (cD (i:=2) dI.nd rfl (Or.inl rfl)) (dw (cD (i:=3) dI.nd rfl (Or.inl rfl)) mT)))) (dw (uC rfl (dw (cD (i:=4) dI.nd rfl (Or.inl rfl)) (dw (cD (i:=5) dI.nd rfl (Or.inl rfl)) (dw (cD (i:=6) dI.nd rfl (Or.inl rfl)) mT)))) (dw (uC rfl (dw (cD (i:=7) dI.nd rfl (Or.inl rfl)) (dw (cD (i:=8) dI.nd rfl (Or.inl rfl)) (dw (cD (i:=9) dI.nd rfl (Or.inl rfl)) mT)))) mT)))))
  (@aI _ _ _ (bA (aB b7 (aB b7 (aB bX (pv 1) (aB gq (aB bX (pv 5) (pv 9)) (aB bX (pv 6) (pv 8)))) (aB bX (pv 2) (aB gq (aB bX (pv 6) (pv 7)) (aB bX (pv 4) (pv 9))))) (aB bX (pv 3) (aB gq (aB bX (pv 4) (pv 8)) (aB bX (pv 5) (pv 7))))))))),?_⟩
 obtain⟨c0,c1,c2,rfl,x2,y2,w2⟩:=Pn hT dD
 refine⟨_,rfl,t,_,rfl,aV.of hT.1,rfl,_,_,rfl,c0,_,rfl,aV.of x2,rfl,_,_,rfl,_,_,rfl,_,_,rfl,rfl,_,_,rfl,c1,_,rfl,aV.of y2,rfl,_,_,rfl,_,_,rfl,_,_,rfl,rfl,_,_,rfl,c2,_,rfl,aV.of w2,rfl,_,_,rfl,_,_,rfl,_,_,rfl,rfl,rfl,?_⟩
 refine⟨_,rfl,_,rfl,_,rfl,_,_,rfl,rfl,⟨aX (hB 1 1 (by decide) (by decide)) (by decide),aX (hB 2 2 (by decide) (by decide)) (by decide)⟩,_,rfl,_,rfl,_,_,rfl,rfl,⟨aX (hB 1 2 (by decide) (by decide)) (by decide),aX (hB 2 1 (by decide) (by decide)) (by decide)⟩,_,_,rfl,rfl,_,_,rfl,rfl,⟨aX (hB 0 0 (by decide) (by decide)) (by decide),aX (sX (fE (hB 1 1 (by decide) (by decide)) (hB 2 2 (by decide) (by decide))) (fE (hB 1 2 (by decide) (by decide)) (hB 2 1 (by decide) (by decide)))) (by decide)⟩,_,rfl,_,rfl,_,rfl,_,_,rfl,rfl,⟨aX (hB 1 2 (by decide) (by decide)) (by decide),aX (hB 2 0 (by decide) (by decide)) (by decide)⟩,_,rfl,_,rfl,_,_,rfl,rfl,⟨aX (hB 1 0 (by decide) (by decide)) (by decide),aX (hB 2 2 (by decide) (by decide)) (by decide)⟩,_,_,rfl,rfl,_,_,rfl,rfl,⟨aX (hB 0 1 (by decide) (by decide)) (by decide),aX (sX (fE (hB 1 2 (by decide) (by decide)) (hB 2 0 (by decide) (by decide))) (fE (hB 1 0 (by decide) (by decide)) (hB 2 2 (by decide) (by decide)))) (by decide)⟩,_,_,rfl,rfl,_,rfl,_,rfl,_,rfl,_,_,rfl,rfl,⟨aX (hB 1 0 (by decide) (by decide)) (by decide),aX (hB 2 1 (by decide) (by decide)) (by decide)⟩,_,rfl,_,rfl,_,_,rfl,rfl,⟨aX (hB 1 1 (by decide) (by decide)) (by decide),aX (hB 2 0 (by decide) (by decide)) (by decide)⟩,_,_,rfl,rfl,_,_,rfl,rfl,⟨aX (hB 0 2 (by decide) (by decide)) (by decide),aX (sX (fE (hB 1 0 (by decide) (by decide)) (hB 2 1 (by decide) (by decide))) (fE (hB 1 1 (by decide) (by decide)) (hB 2 0 (by decide) (by decide)))) (by decide)⟩,_,_,rfl,rfl,?_⟩
 have e:ent m 0 0*(ent m 1 1*ent m 2 2-ent m 1 2*ent m 2 1)+ent m 0 1*(ent m 1 2*ent m 2 0-ent m 1 0*ent m 2 2)+ent m 0 2*(ent m 1 0*ent m 2 1-ent m 1 1*ent m 2 0)=aN m:=by
  rw[cN]
 have q:=q H (av.refl _)
 rw[<-e]at q
 exact q
inductive Jr(vs:List V)(H:Hp)(Q:VK)(E:XK):Prop
 |mk(t1:Addr)(b1:List Addr)(m1:List (List Int))(_:vs=[.ref t1])(_:Tab H t1 b1 m1)(_:cu m1)(_:Bd 4096 m1)(_:∀r bs H',av H H'->H r=none->(∀b∈bs,H b=none) ->r∉bs->Tab H' r bs (iH m1) ->Q (.ref r) H')
theorem Po(F:fK K mg "cover" Cv uN)(bw:mg "range"=none)(mE:cZ P w K mg base c8 1 "signed_minor" ig (x8 K)):cZ P w K mg base c8 2 "cover" uN Jr:=by
 refine F.ok Pf (λvs H Q E h=> ?_) (λf cdv A outer s H vs Q E hr h=> ?_)
 ·obtain⟨t1,b1,m1,rfl,h1,c1,d1,q⟩:=h
  rfl
 obtain⟨t1,b1,m1,rfl,h1,c1,d1,q⟩:=h
 have hu:=hr.units
 refine⟨_,(eH (bA (gT (N2:=["table"]) (te:=(oB 1 (DL (eE (tC (.int 3)) lS)) (dX 0) (qm (x8 K) [] E0 (eE (aY 2) (eE (aY 0) (eE (aY 1) lS)))))) rfl (b8 rfl bw (ah ak ao)) (by kernel_rfl) rfl (λ_ _ _=>by exact fJ (gT (N2:=["i","table"]) (te:=(qm (x8 K) [] E0 (eE (aY 2) (eE (aY 0) (eE (aY 1) lS))))) rfl (b8 rfl bw (ah ak ao)) (by kernel_rfl) rfl (λ_ _ _=>by exact fJ (aQ mE hr rfl aU (ah (pv 2) (ah (pv 0) (ah (pv 1) ao)))))))))),?_⟩
 refine⟨3,rfl,by decide,by decide,λD hD=>Ca (gw (n:=3)) rfl hD (λi j=>lF m1 j i) (λi x hi ex H1 Q1 s1 k1=> ?_) (λbs H1 s1 fr nD hT=>q D bs H1 s1 hD fr nD hT)⟩
 obtain⟨_,rfl⟩:=eK ex
 refine⟨3,rfl,by decide,by decide,λD2 Ag=>gE (gw (n:=3)) rfl Ag (λj=>lF m1 j i) (λj x hj SY H2 Q2 s2 k2=> ?_) (λH2 s2 e2=>k1 D2 H2 Ag s2 e2)⟩
 obtain⟨_,rfl⟩:=eK SY
 exact⟨_,rfl,_,rfl,_,rfl,t1,b1,m1,j,i,rfl,h1.same (s1.trans s2),c1,hj,hi,d1,k2 H2 (av.refl _)⟩
inductive UB(vs:List V)(H:Hp)(Q:VK)(E:XK):Prop
 |mk(t:Addr)(bs:List Addr)(m:List (List Int))(_:vs=[.ref t])(_:Tab H t bs m)(_:cu m)(_:Bd 440 m)(_:dN m=m)(_:True)(_:d7 m=true-> ∀H',av H H'->Q .fP H')(_:d7 m=false-> ∀(x:Nat->Int) a H',av H H'->H a=none->dR H' a x-> ¬(x 0=0/\x 1=0/\x 2=0) ->cz m x x<=0->(∀i,i<3->(x i).natAbs<2^1000) ->Q (.ref a) H')
theorem Hv(F:fK K mg "low_row" vV oS)(eY:cZ P w K mg base c8 3 "determinant" gc Jq)(CJ:cZ P w K mg base c8 3 "cover" uN Jr):cZ P w K mg base c8 4 "low_row" oS UB:=by
 refine F.ok tH (λvs H Q E h=> ?_) (λf cdv A outer s H vs Q E hr h=> ?_)
 ·obtain⟨t,bs,m,rfl,hT,dD,hB,hS,hP,q1,q2⟩:=h
  rfl
 obtain⟨t,bs,m,rfl,hT,dD,hB,hS,hP,q1,q2⟩:=h
 have hu:=hr.units
 refine⟨_,(mS (@ay _ _ _ _ _ (aW (i:=1) tH.nd rfl (Or.inl rfl) (aJ aA (aJ aA (pv 0) ak (λ_ _=>rfl)) ak (λ_ _=>rfl)))
  (@ay _ _ _ _ _ (bI (bB IJ (pv 1) ak (bg _)) (Ce (bN (au aL (au aL (au aL bK (by kernel_rfl)) (by kernel_rfl)) (by kernel_rfl)))) cy)
  (@ay _ _ _ _ _ (aW (i:=2) tH.nd rfl (Or.inl rfl) (aJ aA (aJ aA (pv 0) ak (λ_ _=>rfl)) ak (λ_ _=>rfl)))
  (@ay _ _ _ _ _ (bI (bB IJ (aB gq (aB bX (pv 1) (aJ aA (aJ aA (pv 0) ak (λ_ _=>rfl)) ak (λ_ _=>rfl))) (aB bX (pv 2) (pv 2))) ak (bg _)) (@aI _ _ _ (bA (gD (ah (MP Gf (pv 2)) (ah (pv 1) (ah ak ao)))))) cy)
  (@ay _ _ _ _ _ (bI (bB IJ (aQ eY hr rfl aU (ah (pv 0) ao)) ak (bg _)) (@aI _ _ _ (bA (aJ aA (aQ CJ hr rfl aU (ah (pv 0) ao)) ak (λ_ _=>rfl)))) cy)
  (@aI _ _ _ (bA vH)))))))),?_⟩
 obtain⟨c0,x1,x2,_⟩:=bJ hT dD (i:=0) (by decide)
 obtain⟨c1,y1,y2,_⟩:=bJ hT dD (i:=1) (by decide)
 obtain⟨c2,w1,w2,_⟩:=bJ hT dD (i:=2) (by decide)
 have b0:=hB 0 0 (by decide) (by decide)
 have b1:=hB 0 1 (by decide) (by decide)
 refine⟨_,rfl,t,_,_,_,rfl,rfl,aV.of hT.1,x1,c0,_,_,_,rfl,rfl,aV.of x2,rfl,?_⟩
 refine⟨_,rfl,_,_,rfl,rfl,_,rfl,g9 (λc=> ?_) (λc=> ?_)⟩
 ·have c:ent m 0 0<=0:=of_decide_eq_true c
  have ab:d7 m=false:=by
   unfold d7
   rw[decide_eq_false (by omega),Bool.false_and]
  refine⟨(by show 3<=sizeLine;decide),λr hr=> ?_⟩
  refine q2 ab (λi=>if i=0 then 1 else 0) r _ (av.up hr) hr aq (λz=>by simp at z) (by rw[XI];exact c) (λi _=> ?_)
  show(if i=0 then(1:Int)else 0).natAbs<_
  exact aX (a:=1) (by split<;>decide) (by decide)
 have c:0<ent m 0 0:=by
  have:¬ent m 0 0<=0:=λz=>c (decide_eq_true z)
  omega
 refine⟨_,rfl,t,_,_,_,rfl,rfl,aV.of hT.1,x1,c0,_,_,_,rfl,rfl,aV.of x2,rfl,?_⟩
 refine⟨_,rfl,_,rfl,t,_,_,_,rfl,rfl,aV.of hT.1,y1,c1,_,_,_,rfl,rfl,aV.of y2,rfl,_,_,rfl,rfl,⟨aX (hB 0 0 (by decide) (by decide)) (by decide),aX (hB 1 1 (by decide) (by decide)) (by decide)⟩,_,rfl,_,rfl,_,_,rfl,rfl,⟨aX (hB 0 1 (by decide) (by decide)) (by decide),aX (hB 0 1 (by decide) (by decide)) (by decide)⟩,_,_,rfl,rfl,_,_,rfl,rfl,_,rfl,g9 (λd=> ?_) (λd=> ?_)⟩
 ·have d:ent m 0 0*ent m 1 1-ent m 0 1*ent m 0 1<=0:=of_decide_eq_true d
  have ab:d7 m=false:=by
   unfold d7
   rw[decide_eq_false (p:=ent m 0 1*ent m 0 1<ent m 0 0*ent m 1 1) (by omega),Bool.false_and,Bool.and_false]
  refine⟨_,rfl,_,rfl,_,rfl,(by show 3<=sizeLine;decide),λr hr=> ?_⟩
  refine q2 ab (λi=>match i with|0=> -ent m 0 1|1=>ent m 0 0|_=>0) r _ (av.up hr) hr aq (λz=>by have y:ent m 0 0=0:=z.2.1;omega) ?_ (λi hi=> ?_)
  ·rw[XJ hS _ rfl rfl rfl]
   exact Int.mul_nonpos_of_nonneg_of_nonpos (by omega) d
  ·rcases aG hi with rfl|rfl|rfl
   ·show(-ent m 0 1).natAbs<_
    exact aX (a:=440) (by omega) (by decide)
   ·exact aX b0 (by decide)
   ·show(0:Int).natAbs<_
    exact Nat.two_pow_pos _
 have d:0<ent m 0 0*ent m 1 1-ent m 0 1*ent m 0 1:=by
  have:¬ent m 0 0*ent m 1 1-ent m 0 1*ent m 0 1<=0:=λz=>d (decide_eq_true z)
  omega
 refine⟨_,rfl,t,bs,m,rfl,hT,dD,hB.mono (by decide),hP,λH1 s1=>⟨_,_,rfl,rfl,_,rfl,g9 (λe=> ?_) (λe=> ?_)⟩⟩
 ·have e:aN m<=0:=of_decide_eq_true e
  have ab:d7 m=false:=by
   unfold d7
   rw[decide_eq_false (p:=0<aN m) (by omega),Bool.and_false,Bool.and_false]
  refine⟨_,rfl,t,bs,m,rfl,hT.same s1,dD,hB.mono (by decide),λr rs H2 s2 fr frs nr T2=> ?_⟩
  obtain⟨k,k1,k2,k3⟩:=bJ T2 (bH _) (i:=2) (by decide)
  refine⟨r,_,_,_,rfl,rfl,aV.of T2.1,k1,?_⟩
  have p22:0<ent (iH m) 2 2:=by
   rw[Uy,gX hS (i:=0) (j:=1) (by decide) (by decide)]
   exact d
  refine q2 ab (λj=>ent (iH m) 2 j) k H2 (s1.trans s2) (s1.none (frs k k3)) k2 (λz=>by have y:ent (iH m) 2 2=0:=z.2.2;omega) ?_ (λj hj=> ?_)
  ·rw[XM]
   exact Int.mul_nonpos_of_nonpos_of_nonneg e (by omega)
  ·show(ent (iH m) 2 j).natAbs<_
   rw[cR m (by decide) hj]
   exact aX (RK hB j 2) (by decide)
 ·have e:0<aN m:=by
   have:¬aN m<=0:=λz=>e (decide_eq_true z)
   omega
  refine q1 ?_ H1 s1
  unfold d7
  rw[decide_eq_true c,decide_eq_true e,decide_eq_true (p:=ent m 0 1*ent m 0 1<ent m 0 0*ent m 1 1) (by omega)]
  rfl
inductive uW(vs:List V)(H:Hp)(Q:VK)(E:XK):Prop
 |mk(v:V)(d:PyData)(_:vs=[v])(_:DV H v d)(_:Q (.bl (sZ d)) H)
theorem EO(F:fK K mg "is_whole" tF jV)(bF:mg "isinstance"=none)(q9:mg "int"=none)(Hw:mg "bool"=none):cZ P w K mg base c8 1 "is_whole" jV uW:=by
 refine F.ok EC (λvs H Q E h=> ?_) (λf cdv A outer s H vs Q E hr h=> ?_)
 ·obtain⟨v,d,rfl,hv,q⟩:=h
  rfl
 obtain⟨v,d,rfl,hv,q⟩:=h
 have hu:=hr.units
 refine⟨_,(eH (bA (qz (bV mV rfl bF PyProof.Rows.boot_isinstance (ah (pv 0) (ah (ur (v:= .ty "int") rfl q9 PyProof.Rows.boot_int rfl) ao))) (sR (UP (bV mV rfl bF PyProof.Rows.boot_isinstance (ah (pv 0) (ah (ur (v:= .ty "bool") rfl Hw PyProof.Rows.boot_bool rfl) ao)))))))),?_⟩
 cases hv with
 |fP=>exact⟨_,rfl,_,_,_,_,rfl,.fP,Eg K,_,rfl,iO q⟩
 |bl b=>exact⟨_,rfl,_,_,_,_,rfl,.bl b,Cj K,_,rfl,mQ ⟨_,rfl,_,_,_,_,rfl,.bl b,uz K "bool",_,rfl,q⟩⟩
 |int i=>exact⟨_,rfl,_,_,_,_,rfl,.int i,uz K "int",_,rfl,mQ ⟨_,rfl,_,_,_,_,rfl,.int i,BZ K,_,rfl,q⟩⟩
 |str x=>exact⟨_,rfl,_,_,_,_,rfl,.str x,Eh K,_,rfl,iO q⟩
 |lst e _=>exact⟨_,rfl,_,_,_,_,rfl,.lst e,Ci K,_,rfl,iO q⟩
 |tup e _=>exact⟨_,rfl,_,_,_,_,rfl,.tup e,Ei K,_,rfl,iO q⟩
inductive CL(T0:Addr)(vs:List V)(H:Hp)(Q:VK)(E:XK):Prop
 |mk(v:V)(d:PyData)(_:vs=[v])(_:DV H v d)(_:H T0=some (cj T0)/\(∀H',av H H'->Q (.bl (qO d)) H'))
theorem Lz{aS:Addr}(F:qp K mg "is_row" yN oQ aS)(bm:BM mg base)(bF:mg "isinstance"=none)(gf:mg "list"=none)(fO:mg "len"=none)(qu:mg "all"=none)(j0:cZ P w K mg base c8 1 "is_whole" jV uW):cZ P w K mg base c8 3 "is_row" oQ (CL aS):=by
 refine F.ok Lr (λvs H Q E h=> ?_) (λf cdv A outer s H vs Q E cd hr h=> ?_)
 ·obtain⟨v,d,rfl,hv,q⟩:=h
  rfl
 obtain⟨v,d,rfl,hv,q⟩:=h
 have hu:=hr.units
 refine⟨_,(mS (@ay _ _ _ _ _ (bI (PW.pt (DI (m8 (gQ (bV mV rfl bF PyProof.Rows.boot_isinstance (ah (pv 0) (ah (ur (v:= .ty "list") rfl gf PyProof.Rows.boot_list rfl) ao))))) (yg (bB ly (bV dJ rfl fO PySem.boot_len (ah (pv 0) ao)) ak (bg _))))) (@aI _ _ _ (bA sH)) cy)
  (@aI _ _ _ (bA (xX (N2:=["thing"]) (te:=(qm uW [] E0 (eE (aY 0) lS))) rfl (gr.depth hr) cd bm rfl qu (di (pv 0)) (by kernel_rfl) (λ_ _ _ _=>by exact fJ (aQ j0 (yv hr) rfl aU (ah (pv 0) ao)))))))),?_⟩
 by_cases hd:∃ds,d= .list ds
 ·obtain⟨ds,rfl⟩:=hd
  cases hv with
  |lst e hs=>
   have hl:=hs.length
   refine⟨_,rfl,_,_,_,_,rfl,.lst e,uz K "list",_,rfl,iO ⟨_,rfl,_,_,rfl,.inl (aV.of e),rfl,_,rfl,g9 (λc=> ?_) (λc=> ?_)⟩⟩
   ·have c':¬ds.length=3:=λz=>by
     rw[hl,z]at c
     exact absurd c (by decide)
    have e0:qO (.list ds)=false:=by
     unfold qO
     simp[c']
    rw[e0]at q
    exact q.2 H (av.refl _)
   ·have c':ds.length=3:=by
     rcases Nat.decEq ds.length 3 with z|z
     ·exact absurd (by rw[hl,decide_eq_false (λy=>z (by have:=V.int.inj y;omega))];rfl) c
     ·exact z
    refine⟨_,rfl,_,rfl,⟨_,aV.of e⟩,BX (dM (aV.of e)) q.1 (λj=>match ds[j]? with|some d=>sZ d|none=>true) (λj y ey H1 Q1 s1 k1=> ?_) (λb H1 s1 hb=> ?_)⟩
    ·obtain⟨d,ed,hy⟩:=hs.get ey
     rw[ed]at k1
     exact⟨_,rfl,y,d,rfl,hy.same s1,k1 H1 (av.refl _)⟩
    ·have e1:=NB (f:=sZ) hl hb
     have e2:b=qO (.list ds):=by
      rw[e1]
      unfold qO
      simp[c']
     rw[e2]
     exact q.2 H1 s1
 ·have e0:qO d=false:=by
   cases d<;>first|rfl|exact absurd ⟨_,rfl⟩ hd
  rw[e0]at q
  obtain⟨t,ty,kt⟩:=hv.Nv K λds z=>hd ⟨ds,z⟩
  exact⟨_,rfl,_,_,_,_,rfl,ty,kt,_,rfl,mQ (mQ (q.2 H (av.refl _)))⟩
inductive yY(T1 T0:Addr)(vs:List V)(H:Hp)(Q:VK)(E:XK):Prop
 |mk(v:V)(d:PyData)(_:vs=[v])(_:DV H v d)(_:H T1=some (cj T1))(_:H T0=some (cj T0)/\(∀H',av H H'->Q (.bl (uE d)) H'))
theorem ER{aS aM:Addr}(F:qp K mg "is_table" tG jW aM)(bm:BM mg base)(bF:mg "isinstance"=none)(gf:mg "list"=none)(fO:mg "len"=none)(qu:mg "all"=none)(oX:cZ P w K mg base c8 3 "is_row" oQ (CL aS)):cZ P w K mg base c8 5 "is_table" jW (yY aS aM):=by
 refine F.ok ED (λvs H Q E h=> ?_) (λf cdv A outer s H vs Q E cd hr h=> ?_)
 ·obtain⟨v,d,rfl,hv,hR,q⟩:=h
  rfl
 obtain⟨v,d,rfl,hv,hR,q⟩:=h
 have hu:=hr.units
 refine⟨_,(mS (@ay _ _ _ _ _ (bI (PW.pt (DI (m8 (gQ (bV mV rfl bF PyProof.Rows.boot_isinstance (ah (pv 0) (ah (ur (v:= .ty "list") rfl gf PyProof.Rows.boot_list rfl) ao))))) (yg (bB ly (bV dJ rfl fO PySem.boot_len (ah (pv 0) ao)) ak (bg _))))) (@aI _ _ _ (bA sH)) cy)
  (@aI _ _ _ (bA (xX (N2:=["thing"]) (te:=(qm (CL aS) [] E0 (eE (aY 0) lS))) rfl (gr.depth hr) cd bm rfl qu (di (pv 0)) (by kernel_rfl) (λ_ _ _ _=>by exact fJ (aQ oX (yv hr) rfl aU (ah (pv 0) ao)))))))),?_⟩
 by_cases hd:∃ds,d= .list ds
 ·obtain⟨ds,rfl⟩:=hd
  cases hv with
  |lst e hs=>
   have hl:=hs.length
   refine⟨_,rfl,_,_,_,_,rfl,.lst e,uz K "list",_,rfl,iO ⟨_,rfl,_,_,rfl,.inl (aV.of e),rfl,_,rfl,g9 (λc=> ?_) (λc=> ?_)⟩⟩
   ·have c':¬ds.length=3:=λz=>by
     rw[hl,z]at c
     exact absurd c (by decide)
    have e0:uE (.list ds)=false:=by
     unfold uE
     simp[c']
    rw[e0]at q
    exact q.2 H (av.refl _)
   ·have c':ds.length=3:=by
     rcases Nat.decEq ds.length 3 with z|z
     ·exact absurd (by rw[hl,decide_eq_false (λy=>z (by have:=V.int.inj y;omega))];rfl) c
     ·exact z
    refine⟨_,rfl,_,rfl,⟨_,aV.of e⟩,BX (dM (aV.of e)) q.1 (λj=>match ds[j]? with|some d=>qO d|none=>true) (λj y ey H1 Q1 s1 k1=> ?_) (λb H1 s1 hb=> ?_)⟩
    ·obtain⟨d,ed,hy⟩:=hs.get ey
     rw[ed]at k1
     exact⟨_,rfl,y,d,rfl,hy.same s1,s1 _ _ hR,k1⟩
    ·have e1:=NB (f:=qO) hl hb
     have e2:b=uE (.list ds):=by
      rw[e1]
      unfold uE
      simp[c']
     rw[e2]
     exact q.2 H1 s1
 ·have e0:uE d=false:=by
   cases d<;>first|rfl|exact absurd ⟨_,rfl⟩ hd
  rw[e0]at q
  obtain⟨t,ty,kt⟩:=hv.Nv K λds z=>hd ⟨ds,z⟩
  exact⟨_,rfl,_,_,_,_,rfl,ty,kt,_,rfl,mQ (mQ (q.2 H (av.refl _)))⟩
inductive Js(T1 T2 T0:Addr)(vs:List V)(H:Hp)(Q:VK)(E:XK):Prop
 |mk(v:V)(_:vs=[v])(_:H T1=some (cj T1))(_:H T2=some (cj T2))(_:H T0=some (cj T0))(_:(∃d,DV H v d/\uE d=false/\ ∀H',av H H'->Q (.bl false) H')∨(∃t bs m,v= .ref t/\Tab H t bs m/\cu m/\ ∀b H',(b=true↔cC m) ->av H H'->Q (.bl b) H'))
theorem v8{aS aM aE:Addr}(F:qp K mg "is_even_table" kK gH aE)(bm:BM mg base)(qu:mg "all"=none)(bw:mg "range"=none)(j3:cZ P w K mg base c8 6 "is_table" jW (yY aS aM))(nN:cZ P w K mg base c8 6 "turned_over" iS Pk):cZ P w K mg base c8 7 "is_even_table" gH (Js aS aM aE):=by
 refine F.ok vR (λvs H Q E h=> ?_) (λf cdv A outer s H vs Q E cd hr h=> ?_)
 ·obtain⟨v,rfl,hR,hU,hP,hv⟩:=h
  rfl
 obtain⟨v,rfl,hR,hU,hP,hv⟩:=h
 have hu:=hr.units
 refine⟨_,(mS (@ay _ _ _ _ _ (bI (m8 (gQ (aQ j3 hr rfl aU (ah (pv 0) ao)))) (@aI _ _ _ (bA sH)) cy)
  (@aI _ _ _ (bA (qz (fZ (Gu hu) (pv 0) (aQ nN hr rfl aU (ah (pv 0) ao)) (bg _)) (sR (xX (N2:=["thing"]) (te:=(fY JU (fY (rI (λ_ j=>0<j) λi j=> .int (i%j)) (fY (kG K) (fY (kG K) (aY 1) (aY 0)) (aY 0)) (tC (.int 2))) (tC (.int 0)))) rfl (gr.depth hr) cd bm rfl qu (b8 rfl bw (ah ak ao)) (by kernel_rfl) (λ_ _ _ _=>by exact fJ (fZ fF (aB dz (aJ aA (aJ aA (pv 1) (pv 0) (λ_ _=>rfl)) (pv 0) (λ_ _=>rfl)) ak) ak (bg _)))))))))),?_⟩
 rcases hv with⟨d,hd,e0,q⟩|⟨t,bs,m,rfl,hT,dD,q⟩
 ·refine⟨_,rfl,v,d,rfl,hd,hR,hU,λH1 s1=> ?_⟩
  rw[e0]
  exact⟨_,rfl,mQ (q H1 s1)⟩
 refine⟨_,rfl,_,_,rfl,Ny hT,hR,hU,λH1 s1=> ?_⟩
 rw[Ej dD]
 refine⟨_,rfl,iO ?_⟩
 refine⟨_,rfl,_,rfl,t,bs,m,rfl,hT.same s1,dD,λr rs H2 s2 fr frs nr Tr=> ?_⟩
 have s12:=s1.trans s2
 refine⟨_,_,IZ (hT.same s12),IZ Tr,yt m,yt _,_,rfl,?_⟩
 rw[show(if false=true then !PyData.eqv (qH m) (qH (dN m))else PyData.eqv (qH m) (qH (dN m)))=decide (m=dN m)from RG m (dN m)]
 refine g9 (λc=> ?_) (λc=> ?_)
 ·have c:m=dN m:=of_decide_eq_true c
  refine⟨3,rfl,by decide,by decide,BX (gw (n:=3)) (s12 _ _ hP) (λj=>decide (ent m j j%2=0)) (λj y ey H3 Q3 s3 k3=> ?_) (λb H3 s3 hb=> ?_)⟩
  ·obtain⟨hj,rfl⟩:=eK ey
   obtain⟨b,row,e1,e2,e3⟩:=xY (hT.same (s12.trans s3)) dD hj hj
   refine⟨_,rfl,_,rfl,t,_,_,_,rfl,rfl,aV.of (hT.same (s12.trans s3)).1,e1,_,rfl,b,_,_,_,rfl,rfl,aV.of e2,e3,_,_,rfl,rfl,(by show(0:Int)<2;decide),rfl,?_⟩
   have e:decide (V.int (ent m j j%2)=V.int 0)=decide (ent m j j%2=0):=by simp
   rw[e]
   exact k3 H3 (av.refl _)
  ·refine q b H3 ?_ (s12.trans s3)
   rw[uF dD,hb]
   constructor
   ·intro z
    exact⟨c,λj hj=>of_decide_eq_true (z j hj)⟩
   ·intro z j hj
    exact decide_eq_true (z.2 j hj)
 ·have c:¬m=dN m:=λz=>c (decide_eq_true z)
  exact q false H2 ⟨λz=>(nomatch z),λz=>absurd (jS z dD).symm c⟩ s12
inductive Jt(T1 T2 T3:Addr)(vs:List V)(H:Hp)(Q:VK)(E:XK):Prop
 |mk(v:V)(_:vs=[v])(_:H T1=some (cj T1))(_:H T2=some (cj T2))(_:H T3=some (cj T3))(_:True)(_:(∃d,DV H v d/\uE d=false/\ ∀H',av H H'->Q (.bl false) H')∨(∃t bs m,v= .ref t/\Tab H t bs m/\cu m/\Bd 440 m/\ ∀b H',(b=true↔(cC m/\d7 m=true)) ->av H H'->Q (.bl b) H'))
theorem HA{aS aM aE:Addr}(F:fK K mg "is_form" vS oR)(kR:cZ P w K mg base c8 7 "is_even_table" gH (Js aS aM aE))(v9:cZ P w K mg base c8 7 "low_row" oS UB):cZ P w K mg base c8 8 "is_form" oR (Jt aS aM aE):=by
 refine F.ok Hl (λvs H Q E h=> ?_) (λf cdv A outer s H vs Q E hr h=> ?_)
 ·obtain⟨v,rfl,h1,h2,h3,h4,hv⟩:=h
  rfl
 obtain⟨v,rfl,h1,h2,h3,h4,hv⟩:=h
 have hu:=hr.units
 refine⟨_,(eH (bA (qz (aQ kR hr rfl aU (ah (pv 0) ao)) (sR (fZ UX (aQ v9 hr rfl aU (ah (pv 0) ao)) vH (bg _)))))),?_⟩
 rcases hv with⟨d,hd,e0,q⟩|⟨t,bs,m,rfl,hT,dD,hB,q⟩
 ·exact⟨_,rfl,v,rfl,h1,h2,h3,.inl ⟨d,hd,e0,λH1 s1=>⟨_,rfl,iO (q H1 s1)⟩⟩⟩
 ·refine⟨_,rfl,_,rfl,h1,h2,h3,.inr ⟨t,bs,m,rfl,hT,dD,λb H1 hb s1=>⟨_,rfl,?_⟩⟩⟩
  cases b with
  |false=>exact iO (q false H1 ⟨λz=>(nomatch z),λz=>hb.mpr z.1⟩ s1)
  |true=>
   have ev:=hb.mp rfl
   refine mQ ⟨_,rfl,t,bs,m,rfl,hT.same s1,dD,hB,jS ev dD,trivial,λab H2 s2=>⟨rfl,q _ H2 ⟨λ_=>⟨ev,ab⟩,λ_=>rfl⟩ (s1.trans s2)⟩,λab x a H2 s2 fa hx n0 lo bx=>⟨rfl,?_⟩⟩
   have e:decide (V.ref a=V.fP)=false:=decide_eq_false λz=>(nomatch z)
   rw[e]
   exact q false H2 ⟨λz=>(nomatch z),λz=>by rw[z.2]at ab;cases ab⟩ (s1.trans s2)
theorem LA{H:Hp}{t:Addr}{bs:List Addr}{m:List (List Int)}(hT:Tab H t bs m)(dD:cu m):∃c0 c1 c2,bs=[c0,c1,c2]/\dR H c0 (λc=>ent m 0 c)/\dR H c1 (λc=>ent m 1 c)/\dR H c2 (λc=>ent m 2 c):=by
 have l3:bs.length=3:=by rw[<-hT.2.length,dD.1]
 match bs,l3,hT with
 | [c0,c1,c2],_,hT=>
  obtain⟨b0,x1,x2,_⟩:=bJ hT dD (i:=0) (by decide)
  obtain⟨b1,y1,y2,_⟩:=bJ hT dD (i:=1) (by decide)
  obtain⟨b2,w1,w2,_⟩:=bJ hT dD (i:=2) (by decide)
  cases x1;cases y1;cases w1
  exact⟨c0,c1,c2,rfl,x2,y2,w2⟩
inductive HB(T0:Addr)(vs:List V)(H:Hp)(Q:VK)(E:XK):Prop
 |mk(t:Addr)(bs:List Addr)(m:List (List Int))(a b:Addr)(x y:Nat->Int)(_:vs=[.ref t,.ref a,.ref b])(_:Tab H t bs m)(_:cu m)(_:Bd 1000 m)(_:dR H a x)(_:dR H b y)(_:∀i,i<3->(x i).natAbs<2^1000)(_:∀i,i<3->(y i).natAbs<2^1000)(_:H T0=some (cj T0))(_:∀H',av H H'->Q (.int (cz m x y)) H')
theorem HD{aO:Addr}(F:qp K mg "pairing" vU lM aO)(bm:BM mg base)(Bx:mg "sum"=none)(qt:mg "zip"=none):cZ P w K mg base c8 1 "pairing" lM (HB aO):=by
 refine F.ok pL (λvs H Q E h=> ?_) (λf cdv A outer s H vs Q E cd hr h=> ?_)
 ·obtain⟨t,bs,m,a,b,x,y,rfl,hT,dD,hB,hx,hy,bx,bY,hP,q⟩:=h
  rfl
 obtain⟨t,bs,m,a,b,x,y,rfl,hT,dD,hB,hx,hy,bx,bY,hP,q⟩:=h
 have hu:=hr.units
 refine⟨_,(mS (@ay _ _ _ _ _ (ju (pv 2) (uC rfl (dw (cD (i:=3) pL.nd rfl (Or.inr rfl)) (dw (cD (i:=4) pL.nd rfl (Or.inr rfl)) (dw (cD (i:=5) pL.nd rfl (Or.inr rfl)) mT)))))
  (@aI _ _ _ (bA (RO (N2:=["table","one","other","x","y","z"]) (te:=(fY (rI mW λi j=> .int (i*j)) (aY 0) (fY (FU λi j=> .int (i+j)) (fY (FU λi j=> .int (i+j)) (fY (rI mW λi j=> .int (i*j)) (fY (kG K) (aY 1) (tC (.int 0))) (aY 5)) (fY (rI mW λi j=> .int (i*j)) (fY (kG K) (aY 1) (tC (.int 1))) (aY 6))) (fY (rI mW λi j=> .int (i*j)) (fY (kG K) (aY 1) (tC (.int 2))) (aY 7))))) rfl (gr.depth hr) cd bm rfl Bx (Cb rfl qt (ah (pv 1) (ah (pv 0) ao))) (by kernel_rfl) (λ_ _ _ _=>by exact fJ (aB bX (pv 0) (aB b7 (aB b7 (aB bX (aJ aA (pv 1) ak (λ_ _=>rfl)) (pv 5)) (aB bX (aJ aA (pv 1) ak (λ_ _=>rfl)) (pv 6))) (aB bX (aJ aA (pv 1) ak (λ_ _=>rfl)) (pv 7)))))))))),?_⟩
 obtain⟨c0,c1,c2,rfl,x2,y2,w2⟩:=LA hT dD
 refine⟨_,rfl,b,_,rfl,aV.of hy,rfl,_,_,rfl,_,_,rfl,_,_,rfl,rfl,?_⟩
 refine⟨_,rfl,_,rfl,a,t,_,_,rfl,aV.of hx,aV.of hT.1,RQ (aV.of hx) (aV.of hT.1) rfl hP (λi=>x i*(ent m i 0*y 0+ent m i 1*y 1+ent m i 2*y 2)) (λi u v eu ev H' Q' sm k=> ?_) (λH' sm=> ?_)⟩
 ·have hi:i<3:=(List.getElem?_eq_some_iff.mp eu).1
  obtain⟨c,e1,e2,_⟩:=bJ (hT.same sm) dD hi
  have Yk:u= .int (x i):=by
   rcases aG hi with rfl|rfl|rfl<;>exact(Option.some.inj eu).symm
  have ev':v= .ref c:=by
   have q1:=iG ev
   rw[e1]at q1
   exact(Option.some.inj q1).symm
  subst Yk ev'
  have b0:=fE (hB i 0 hi (by decide)) (bY 0 (by decide))
  have b1:=fE (hB i 1 hi (by decide)) (bY 1 (by decide))
  have b2:=fE (hB i 2 hi (by decide)) (bY 2 (by decide))
  have bs:=qL (qL b0 b1) (aX b2 (by decide))
  exact⟨_,rfl,_,rfl,c,_,_,_,rfl,rfl,aV.of e2,rfl,_,rfl,_,_,rfl,rfl,⟨aX (hB i 0 hi (by decide)) (by decide),aX (bY 0 (by decide)) (by decide)⟩,_,rfl,c,_,_,_,rfl,rfl,aV.of e2,rfl,_,rfl,_,_,rfl,rfl,⟨aX (hB i 1 hi (by decide)) (by decide),aX (bY 1 (by decide)) (by decide)⟩,_,_,rfl,rfl,_,rfl,c,_,_,_,rfl,rfl,aV.of e2,rfl,_,rfl,_,_,rfl,rfl,⟨aX (hB i 2 hi (by decide)) (by decide),aX (bY 2 (by decide)) (by decide)⟩,_,_,rfl,rfl,_,_,rfl,rfl,⟨aX (bx i hi) (by decide),aX bs (by decide)⟩,k H' (av.refl _)⟩
 ·have e:PySem.preSum (λi=>x i*(ent m i 0*y 0+ent m i 1*y 1+ent m i 2*y 2)) 3=cz m x y:=by
   rw[dh]
   show 0+x 0*(ent m 0 0*y 0+ent m 0 1*y 1+ent m 0 2*y 2)+x 1*(ent m 1 0*y 0+ent m 1 1*y 1+ent m 1 2*y 2)+x 2*(ent m 2 0*y 0+ent m 2 1*y 1+ent m 2 2*y 2)=_
   grind
  have q:=q H' sm
  rw[<-e]at q
  exact q
inductive CM(T0:Addr)(vs:List V)(H:Hp)(Q:VK)(E:XK):Prop
 |mk(t:Addr)(bs:List Addr)(m:List (List Int))(a:Addr)(x:Nat->Int)(_:vs=[.ref t,.ref a])(_:Tab H t bs m)(_:cu m)(_:Bd 1000 m)(_:dR H a x)(_:∀i,i<3->(x i).natAbs<2^1000)(_:H T0=some (cj T0))(_:∀H',av H H'->Q (.int (aR m x)) H')
theorem Pp{aO:Addr}(F:fK K mg "worth" Cw rZ)(lO:cZ P w K mg base c8 1 "pairing" lM (HB aO)):cZ P w K mg base c8 2 "worth" rZ (CM aO):=by
 refine F.ok Pg (λvs H Q E h=> ?_) (λf cdv A outer s H vs Q E hr h=> ?_)
 ·obtain⟨t,bs,m,a,x,rfl,hT,dD,hB,hx,bx,hP,q⟩:=h
  rfl
 obtain⟨t,bs,m,a,x,rfl,hT,dD,hB,hx,bx,hP,q⟩:=h
 have hu:=hr.units
 refine⟨_,(eH (bA (aB fq (aQ lO hr rfl aU (ah (pv 0) (ah (pv 1) (ah (pv 1) ao)))) ak))),?_⟩
 exact⟨_,rfl,_,rfl,_,rfl,t,bs,m,a,a,x,x,rfl,hT,dD,hB,hx,hx,bx,bx,hP,λH' sm=>⟨_,_,rfl,rfl,⟨by decide,by decide⟩,q H' sm⟩⟩
inductive Ju(T1 T2 T3 cF cG:Addr)(vs:List V)(H:Hp)(Q:VK)(E:XK):Prop
 |mk(v:V)(_:vs=[v])(_:H T1=some (cj T1))(_:H T2=some (cj T2))(_:H T3=some (cj T3))(_:True)(_:(NU H v/\ ∀H',av H H'->E (.ref cF) none H')∨ ∃m,jg H v m/\ ∀H',av H H'->if 200<aN m/2 then E (.ref cG) none H' else Q (.int (aN m/2)) H')
theorem Tc{aS aM aE:Addr}{aZ aK:Addr}(F:fK K mg "half" Ho yP){kT:_}(jb:mg "GREATEST_HALF"=some (Value.int 200 kT))(oY:mg "NoForm"=some (.ref aZ))(yZ:PyProof.Rows.OwnCls "NoForm" aZ GR "ValueError.__new__" mg base)(j4:mg "TooGreat"=some (.ref aK))(tP:PyProof.Rows.OwnCls "TooGreat" aK GR "ValueError.__new__" mg base)(wc:cZ P w K mg base c8 8 "is_form" oR (Jt aS aM aE))(eY:cZ P w K mg base c8 8 "determinant" gc Jq):cZ P w K mg base (vO P w) 9 "half" yP (Ju aS aM aE aZ aK):=by
 refine F.QU Jm (λvs H Q E h=> ?_) (λf cdv A outer s H vs Q E hr h=> ?_)
 ·obtain⟨v,rfl,h1,h2,h3,h4,hv⟩:=h
  rfl
 obtain⟨v,rfl,h1,h2,h3,h4,hv⟩:=h
 have hu:=hr.units
 refine⟨_,(mS (@ay _ _ _ _ _ (bI (m8 (gQ (aQ wc hr rfl aU (ah (pv 0) ao)))) (@aI _ _ _ (qP yZ PySem.F.excBase_ValueError rfl (ah gm ao))) cy)
  (@ay _ _ _ _ _ (aW (i:=1) Jm.nd rfl (Or.inl rfl) (aB fq (aQ eY hr rfl aU (ah (pv 0) ao)) ak))
  (@ay _ _ _ _ _ (bI (bB yi (pv 1) (iD (v:= .int 200) rfl jb ⟨_,rfl⟩) (bg _)) (@aI _ _ _ (qP tP PySem.F.excBase_ValueError rfl (ah (RX (VM (VN (iD (v:= .int 200) rfl jb ⟨_,rfl⟩) VL))) ao))) cy)
  (@aI _ _ _ (bA (pv 1))))))),?_⟩
 rcases hv with⟨hb,q⟩|⟨m,hf,q⟩
 ·refine⟨_,rfl,v,rfl,h1,h2,h3,trivial,?_⟩
  rcases hb with⟨d,hd,e⟩|⟨t,bs,m,rfl,hT,dD,hB,nf⟩
  ·exact .inl ⟨d,hd,e,λH1 s1=>⟨_,rfl,mQ ⟨(by show 1<=sizeLine;decide),q H1 s1⟩⟩⟩
  ·refine .inr ⟨t,bs,m,rfl,hT,dD,hB,λb H1 hb s1=> ?_⟩
   obtain rfl:b=false:=by
    cases b with
    |false=>rfl
    |true=>exact absurd (hb.mp rfl) nf
   exact⟨_,rfl,mQ ⟨(by show 1<=sizeLine;decide),q H1 s1⟩⟩
 ·obtain⟨t,bs,rfl,hT,dD,hB,ev,ab⟩:=hf
  refine⟨_,rfl,_,rfl,h1,h2,h3,trivial,.inr ⟨t,bs,m,rfl,hT,dD,hB,λb H1 hb s1=> ?_⟩⟩
  obtain rfl:b=true:=hb.mpr ⟨ev,ab⟩
  refine⟨_,rfl,iO ?_⟩
  refine⟨_,rfl,t,bs,m,rfl,hT.same s1,dD,hB.mono (by decide),trivial,λH2 s2=>⟨_,_,rfl,rfl,⟨by decide,by decide⟩,?_⟩⟩
  have q:=q H2 (s1.trans s2)
  refine⟨_,rfl,_,_,rfl,rfl,_,rfl,g9 (λc=> ?_) (λc=> ?_)⟩
  ·have c:(200:Int)<aN m/2:=of_decide_eq_true c
   rw[if_pos c]at q
   exact⟨(by decide+kernel),200,rfl,(by decide),(by decide+kernel),(by decide+kernel),(by show 1<=sizeLine;decide),q⟩
  ·have c:¬(200:Int)<aN m/2:=λz=>c (decide_eq_true z)
   rw[if_neg c]at q
   exact⟨_,rfl,q⟩
inductive ES(vs:List V)(H:Hp)(Q:VK)(E:XK):Prop
 |mk(h:Int)(p:V)(d:PyData)(_:vs=[.int h,p])(_:DV H p d)(_:Q (.bl (gF h d)) H)
theorem y9(F:fK K mg "is_prime_by" nH iT){kD:Addr}(zc:mg "PRIMES"=some (Value.ref kD))(zd:∀H:Hp,qA K H kD [.int 3,.int 5,.int 7,.int 11,.int 13])(j0:cZ P w K mg base c8 1 "is_whole" jV uW):cZ P w K mg base c8 2 "is_prime_by" iT ES:=by
 refine F.ok yQ (λvs H Q E h=> ?_) (λf cdv A outer s H vs Q E hr h=> ?_)
 ·obtain⟨h,p,d,rfl,hd,q⟩:=h
  rfl
 obtain⟨h,p,d,rfl,hd,q⟩:=h
 have hu:=hr.units
 refine⟨_,(eH (bA (qz (aQ j0 hr rfl aU (ah (pv 1) ao)) (qz (fZ Kc (pv 1) (iD (v:= .ref kD) rfl zc rfl) (by rfl)) (sR (fZ ly (aB dz (pv 0) (pv 1)) ak (bg _))))))),?_⟩
 refine⟨_,rfl,p,d,rfl,hd,_,rfl,?_⟩
 cases hd with
 |int p=>
  refine mQ ⟨_,rfl,kD,_,rfl,.inr (zd H),rfl,rfl,_,rfl,?_⟩
  show if(Xu (.int p) [.int 3,.int 5,.int 7,.int 11,.int 13])=true then _ else _
  rw[yJ]
  have q:Q (.bl (decide (p∈([3,5,7,11,13]:List Int)) && !decide (h%p=0))) H:=q
  refine g9 (λc=> ?_) (λc=> ?_)
  ·have hp:p∈([3,5,7,11,13]:List Int):=of_decide_eq_true c
   have p0:0<p:=by
    simp only[List.mem_cons,List.not_mem_nil,or_false]at hp
    omega
   refine⟨_,rfl,_,rfl,_,_,rfl,rfl,p0,rfl,?_⟩
   rw[decide_eq_true hp,Bool.true_and]at q
   have e:decide (V.int (h%p)=V.int 0)=decide (h%p=0):=by simp
   rw[e]
   exact q
  ·rw[Bool.eq_false_iff.mpr c,Bool.false_and]at q
   first|exact q|(rw[yJ,Bool.eq_false_iff.mpr c];exact q)|(rw[Bool.eq_false_iff.mpr c];exact q)
 |_=>exact iO q
inductive Jv(T1 T2 T3 cF cG cP:Addr)(vs:List V)(H:Hp)(Q:VK)(E:XK):Prop
 |mk(v p:V)(d:PyData)(_:vs=[v,p])(_:DV H p d)(_:H T1=some (cj T1))(_:H T2=some (cj T2))(_:H T3=some (cj T3))(_:True)(_:(NU H v/\ ∀H',av H H'->E (.ref cF) none H')∨ ∃m,jg H v m/\ ∀H',av H H'->if 200<aN m/2 then E (.ref cG) none H' else if gF (aN m/2) d=true then Q .fP H' else E (.ref cP) none H')
theorem tQ{aS aM aE:Addr}{aZ aK aT:Addr}(F:fK K mg "refuse_no_prime" jz f7)(lP:mg "NoPrime"=some (.ref aT))(we:PyProof.Rows.OwnCls "NoPrime" aT GR "ValueError.__new__" mg base)(nO:cZ P w K mg base c8 9 "is_prime_by" iT ES)(HE:cZ P w K mg base (vO P w) 9 "half" yP (Ju aS aM aE aZ aK)):cZ P w K mg base (vO P w) 10 "refuse_no_prime" f7 (Jv aS aM aE aZ aK aT):=by
 refine F.QU tK (λvs H Q E h=> ?_) (λf cdv A outer s H vs Q E hr h=> ?_)
 ·obtain⟨v,p,d,rfl,hd,h1,h2,h3,h4,hv⟩:=h
  rfl
 obtain⟨v,p,d,rfl,hd,h1,h2,h3,h4,hv⟩:=h
 have hu:=hr.units
 refine⟨_,(eH (bI (m8 (gQ (aQ nO hr rfl aU (ah (aQ HE hr rfl Ew (ah (pv 0) ao)) (ah (pv 1) ao))))) (@aI _ _ _ (qP we PySem.F.excBase_ValueError rfl (ah gm ao))) cy)),?_⟩
 refine⟨_,rfl,v,rfl,h1,h2,h3,trivial,?_⟩
 rcases hv with⟨hb,q⟩|⟨m,hf,q⟩
 ·exact .inl ⟨hb,q⟩
 ·refine .inr ⟨m,hf,λH1 s1=> ?_⟩
  have q:=q H1 s1
  refine g9 (λc=> ?_) (λc=> ?_)
  ·rw[if_pos c]at q
   exact q
  ·rw[if_neg c]at q
   refine⟨_,rfl,_,p,d,rfl,hd.same s1,_,rfl,?_⟩
   cases e:gF (aN m/2) d with
   |true=>
    rw[if_pos e]at q
    exact iO q
   |false=>
    rw[if_neg (by rw[e];decide)]at q
    exact mQ ⟨(by show 1<=sizeLine;decide),q⟩
inductive VZ(vs:List V)(H:Hp)(Q:VK)(E:XK):Prop
 |mk(n p:Int)(_:vs=[.int n,.int p])(_:p∈([3,5,7,11,13]:List Int))(_:n%p≠0)(_:∀(u:Int) H',0<u->u<p->u*n%p=1->av H H'->Q (.int u) H')
theorem ET(F:fK K mg "upturned" tL jX)(bw:mg "range"=none):cZ P w K mg base c8 1 "upturned" jX VZ:=by
 refine F.ok EF (λvs H Q E h=> ?_) (λf cdv A outer s H vs Q E hr h=> ?_)
 ·obtain⟨n,p,rfl,hp,hn,q⟩:=h
  rfl
 obtain⟨n,p,rfl,hp,hn,q⟩:=h
 have hu:=hr.units
 refine⟨_,(eH (bA (aJ aA (rY (N2:=["number","p"]) (tt:=(lA (fY JU (fY (rI (λ_ j=>0<j) λi j=> .int (i%j)) (fY (rI Al λi j=> .int (i*j)) (aY 0) (aY 1)) (aY 2)) (tC (.int 1))))) (te:=(aY 0)) rfl (Bb rfl bw (ah ak (ah (pv 1) ao))) (by kernel_rfl) rfl (λ_ _ _=>by exact tu (bB fF (aB dz (aB cI (pv 0) (pv 1)) (pv 2)) ak (bg _))) (λ_ _ _=>by exact fJ (pv 0))) ak (λ_ _=>rfl)))),?_⟩
 have p0:2<p/\p<14:=by
  simp only[List.mem_cons,List.not_mem_nil,or_false]at hp
  omega
 refine⟨_,rfl,1,p,rfl,⟨by decide,by decide,by omega,by omega⟩,λD hD=>dj KL (by rw[pG];exact Nat.le_of_lt (iF (by omega))) hD (λv=>match v with| .int t=>decide (V.int (t*n%p)=V.int 1)|_=>false) id (λx hx H2 R s2 kk=> ?_) (λx hx px H2 Q' s2 kk=>⟨_,rfl,kk H2 (av.refl _)⟩) (λH2 s2 e2=> ?_)⟩
 ·obtain⟨i,hi⟩:=List.mem_iff_getElem?.mp hx
  obtain⟨hj,rfl⟩:=yG hi
  exact⟨_,rfl,_,rfl,_,_,rfl,rfl,.inl ⟨by omega,by omega⟩,_,rfl,_,_,rfl,rfl,(by show(0:Int)<p;omega),rfl,_,rfl,kk H2 (av.refl _)⟩
 ·obtain⟨t,ht,et⟩:=pI hp hn
  generalize WI:((tw 1 (p-1).toNat).filter (λv=>match v with| .int t=>decide (V.int (t*n%p)=V.int 1)|_=>false)).map id=Ls at e2
  have mem:∀v∈Ls,∃u:Int,v= .int u/\0<u/\u<p/\u*n%p=1:=λv hv=>by
   rw[<-WI,List.map_id,List.mem_filter]at hv
   obtain⟨i,hi⟩:=List.mem_iff_getElem?.mp hv.1
   obtain⟨hj,rfl⟩:=yG hi
   exact⟨_,rfl,by omega,by omega,V.int.inj (of_decide_eq_true hv.2)⟩
  have ne:Ls≠ []:=λz=>by
   have:V.int (1+(t:Int))∈Ls:=by
    rw[<-WI,List.map_id,List.mem_filter]
    refine⟨List.mem_map.mpr ⟨t,List.mem_range.mpr ht,rfl⟩,decide_eq_true (congrArg V.int et)⟩
   rw[z]at this
   cases this
  match Ls,ne,mem,e2 with
  |v::r,_,mem,e2=>
   obtain⟨u,rfl,u0,u1,eu⟩:=mem v List.mem_cons_self
   exact⟨D,_,_,_,rfl,rfl,aV.of e2,oK,q u H2 u0 u1 eu s2⟩
inductive Jw(T0:Addr)(vs:List V)(H:Hp)(Q:VK)(E:XK):Prop
 |mk(t:Addr)(bs:List Addr)(m:List (List Int))(p:Int)(b:Addr)(x:Nat->Int)(_:vs=[.ref t,.int p,.ref b])(_:Tab H t bs m)(_:cu m)(_:Bd 440 m)(_:p∈([3,5,7,11,13]:List Int))(_:dR H b x)(_:H T0=some (cj T0))(_:¬GK m p x-> ∀H',av H H'->Q .fP H')(_:GK m p x-> ∀(u:Int) (a:Addr) H',0<u->u<p->u*mZ p x%p=1->av H H'->H a=none->dR H' a (λi=>u*(x i%p)%p) ->Q (.ref a) H')
theorem AD{aO:Addr}(F:fK K mg "line_under" pM jA)(r6:cZ P w K mg base c8 3 "worth" rZ (CM aO))(j5:cZ P w K mg base c8 3 "upturned" jX VZ):cZ P w K mg base c8 4 "line_under" jA (Jw aO):=by
 refine F.ok j9 (λvs H Q E h=> ?_) (λf cdv A outer s H vs Q E hr h=> ?_)
 ·obtain⟨t,bs,m,p,b,x,rfl,hT,dD,hB,hp,hx,hP,q1,q2⟩:=h
  rfl
 obtain⟨t,bs,m,p,b,x,rfl,hT,dD,hB,hp,hx,hP,q1,q2⟩:=h
 have hu:=hr.units
 refine⟨_,(mS (@ay _ _ _ _ _ (yu (i:=3) j9.nd rfl rfl (N2:=["form","p","row","rests","leading","times"]) (te:=(fY (rI (λ_ j=>0<j) λi j=> .int (i%j)) (aY 0) (aY 2))) rfl (di (pv 2)) (by kernel_rfl) rfl (λ_ _ _=>by exact fJ (aB dz (pv 0) (pv 2))))
  (@ay _ _ _ _ _ (mX (i:=4) j9.nd rfl rfl (N2:=["form","p","row","rests","leading","times"]) (tt:=(lA (fY Um (aY 0) (tC (.int 0))))) (te:=(aY 0)) rfl (di (pv 3)) (by kernel_rfl) rfl (λ_ _ _=>by exact tu (bB ly (pv 0) ak (bg _))) (λ_ _ _=>by exact fJ (pv 0)))
  (@ay _ _ _ _ _ (bI (PW.pt (DI (m8 (MR (pv 4) (λ_=>rfl))) (yg (bB ly (aB dz (aQ r6 hr rfl aU (ah (pv 0) (ah (pv 3) ao))) (pv 1)) ak (bg _))))) (@aI _ _ _ (bA vH)) cy)
  (@ay _ _ _ _ _ (aW (i:=5) j9.nd rfl (Or.inr rfl) (aQ j5 hr rfl aU (ah (aJ aA (pv 4) ak (λ_ _=>rfl)) (ah (pv 1) ao))))
  (@aI _ _ _ (bA (gT (N2:=["form","p","row","rests","leading","times"]) (te:=(fY (rI (λ_ j=>0<j) λi j=> .int (i%j)) (fY (rI Al λi j=> .int (i*j)) (aY 6) (aY 0)) (aY 2))) rfl (di (pv 3)) (by kernel_rfl) rfl (λ_ _ _=>by exact fJ (aB dz (aB cI (pv 6) (pv 0)) (pv 2))))))))))),?_⟩
 have p0:2<p/\p<14:=by
  simp only[List.mem_cons,List.not_mem_nil,or_false]at hp
  omega
 have r0:∀i,0<=x i%p:=λi=>Int.emod_nonneg _ (by omega)
 have r1:∀i,x i%p<p:=λi=>Int.emod_lt_of_pos _ (by omega)
 refine⟨_,rfl,b,rfl,⟨_,aV.of hx⟩,λR hR=>gE (dM (aV.of hx)) rfl hR (λi=>x i%p) (λj y hj ey H1 Q1 s1 k1=> ?_) (λH1 s1 e1=> ?_)⟩
 ·have Wa:y= .int (x j):=by
   rcases aG hj with rfl|rfl|rfl<;>exact(Option.some.inj ey).symm
  subst Wa
  exact⟨_,rfl,_,rfl,_,_,rfl,rfl,(by show(0:Int)<p;omega),k1 H1 (av.refl _)⟩
 refine⟨_,rfl,R,rfl,⟨_,aV.of e1⟩,λD hD=>dj (dM (aV.of e1)) (by show 3<=sizeLine;decide) hD (λv=>match v with| .int z=> !decide (V.int z=V.int 0)|_=>false) id (λy hy H2 R2 s2 kk=> ?_) (λy hy px H2 Q' s2 kk=>⟨_,rfl,kk H2 (av.refl _)⟩) (λH2 s2 e2=> ?_)⟩
 ·simp only[List.mem_cons,List.not_mem_nil,or_false]at hy
  rcases hy with rfl|rfl|rfl<;>exact⟨_,rfl,rfl,_,rfl,kk H2 (av.refl _)⟩
 have s12:=s1.trans s2
 obtain⟨Ls,WI,hL1,hL2⟩:∃Ls:List V,([V.int (x 0%p),.int (x 1%p),.int (x 2%p)].filter (λv=>match v with| .int z=> !decide (V.int z=V.int 0)|_=>false)).map id=Ls/\(lY p x->Ls=[])/\(¬lY p x-> ∃r,Ls= .int (mZ p x)::r):=by
  refine⟨_,rfl,λz=> ?_,λz=> ?_⟩
  ·obtain⟨z0,z1,z2⟩:=z
   simp[z0,z1,z2]
  ·unfold mZ
   unfold lY at z
   by_cases z0:x 0%p=0
   ·by_cases z1:x 1%p=0
    ·have z2:¬x 2%p=0:=by omega
     simp[z0,z1,z2]
    ·simp[z0,z1,List.filter_cons]
   ·simp[z0,List.filter_cons]
 rw[WI]at e2
 refine⟨_,rfl,!Ls.isEmpty,.inl ⟨Ls,aV.of e2,rfl⟩,?_⟩
 by_cases z:lY p x
 ·rw[hL1 z]
  exact mQ (mQ (q1 (λc=>c.1 z) H2 s12))
 obtain⟨r,er⟩:=hL2 z
 subst er
 refine iO ⟨_,rfl,_,rfl,t,bs,m,R,(λi=>x i%p),rfl,hT.same s12,dD,hB.mono (by decide),s2 _ _ e1,(λi _=>aX (a:=4) (by have:=r0 i;have:=r1 i;show(x i%p).natAbs<2^4;omega) (by decide)),s12 _ _ hP,λH3 s3=>⟨_,rfl,_,_,rfl,rfl,(by show(0:Int)<p;omega),rfl,_,rfl,?_⟩⟩
 have qy:=s12.trans s3
 by_cases w:aR m (λi=>x i%p)%p=0
 ·refine jf (by simp[w]) ?_
  have lt:=yH (x:=x) (show 0<p by omega)
  refine⟨_,rfl,D,_,_,_,rfl,rfl,aV.of (s3 _ _ e2),oK,_,rfl,_,p,rfl,hp,(by rw[bL lt.1 lt.2];exact Er z),λu H4 u0 u1 eu s4=> ?_⟩
  have Ah:=qy.trans s4
  have e4:=s4 _ _ (s3 _ _ (s2 _ _ e1))
  refine⟨_,rfl,R,rfl,⟨_,aV.of e4⟩,λD2 Ag=>gE (dM (aV.of e4)) rfl Ag (λi=>u*(x i%p)%p) (λj y hj ey H5 Q5 s5 k5=> ?_) (λH5 s5 e5=>q2 ⟨z,w⟩ u D2 H5 u0 u1 eu (Ah.trans s5) (Ah.none Ag) e5)⟩
  have Wa:y= .int (x j%p):=by
   rcases aG hj with rfl|rfl|rfl<;>exact(Option.some.inj ey).symm
  subst Wa
  exact⟨_,rfl,_,rfl,_,_,rfl,rfl,.inl ⟨by omega,by omega⟩,_,rfl,_,_,rfl,rfl,(by show(0:Int)<p;omega),k5 H5 (av.refl _)⟩
 ·exact GI (by simp[w]) (q1 (λc=>w c.2) H3 qy)
inductive EU(T0:Addr)(vs:List V)(H:Hp)(Q:VK)(E:XK):Prop
 |mk(t:Addr)(bs:List Addr)(m:List (List Int))(p:Int)(b:Addr)(x:Nat->Int)(_:vs=[.ref t,.int p,.ref b])(_:Tab H t bs m)(_:cu m)(_:Bd 440 m)(_:0<p)(_:dR H b x)(_:∀i,i<3->(x i).natAbs<2^400)(_:H T0=some (cj T0))(_:∀r H',av H H'->H r=none->dR H' r (λj=>aD m x j%p) ->Q (.ref r) H')
theorem LB{cY:Addr}(F:qp K mg "slopes" yR qQ cY)(bm:BM mg base)(Bx:mg "sum"=none)(bw:mg "range"=none):cZ P w K mg base c8 1 "slopes" qQ (EU cY):=by
 refine F.ok Lu (λvs H Q E h=> ?_) (λf cdv A outer s H vs Q E cd hr h=> ?_)
 ·obtain⟨t,bs,m,p,b,x,rfl,hT,dD,hB,hp0,hx,bx,hP,q⟩:=h
  rfl
 obtain⟨t,bs,m,p,b,x,rfl,hT,dD,hB,hp0,hx,bx,hP,q⟩:=h
 have hu:=hr.units
 refine⟨_,(eH (bA (gT (N2:=["form","p","line"]) (te:=(fY (rI (λ_ j=>0<j) λi j=> .int (i%j)) (IT 1 cY (DL (eE (tC (.int 3)) lS)) (dX 0) (fY (rI mW λi j=> .int (i*j)) (fY (kG K) (aY 4) (aY 0)) (fY (kG K) (fY (kG K) (aY 2) (aY 0)) (aY 1)))) (aY 2))) rfl (b8 rfl bw (ah ak ao)) (by kernel_rfl) rfl (λ_ _ _=>by exact fJ (aB dz (RH (N2:=["j","form","p","line"]) (te:=(fY (rI mW λi j=> .int (i*j)) (fY (kG K) (aY 4) (aY 0)) (fY (kG K) (fY (kG K) (aY 2) (aY 0)) (aY 1)))) rfl (gr.depth hr) cd bm rfl Bx (b8 rfl bw (ah ak ao)) (by kernel_rfl) (λ_ _ _ _=>by exact fJ (aB bX (aJ aA (pv 4) (pv 0) (λ_ _=>rfl)) (aJ aA (aJ aA (pv 2) (pv 0) (λ_ _=>rfl)) (pv 1) (λ_ _=>rfl))))) (pv 2)))))),?_⟩
 refine⟨3,rfl,by decide,by decide,λD hD=>gE (gw (n:=3)) rfl hD (λj=>aD m x j%p) (λj y hj ey H1 Q1 s1 k1=> ?_) (λH1 s1 e1=>q D H1 s1 hD e1)⟩
 obtain⟨_,rfl⟩:=eK ey
 refine⟨3,rfl,by decide,by decide,Vx (gw (n:=3)) (s1 _ _ hP) (λi=>x i*ent m i j) (λi z ez H2 Q2 s2 k2=> ?_) (λH2 s2=> ?_)⟩
 ·obtain⟨hi,rfl⟩:=eK ez
  have sm:=s1.trans s2
  obtain⟨c,row,f1,f2,f3⟩:=xY (hT.same sm) dD hi hj
  exact⟨_,rfl,_,rfl,b,_,_,_,rfl,rfl,aV.of (sm _ _ hx),mR x hi,_,rfl,_,rfl,t,_,_,_,rfl,rfl,aV.of (hT.same sm).1,f1,_,rfl,c,_,_,_,rfl,rfl,aV.of f2,f3,_,_,rfl,rfl,⟨aX (bx i hi) (by decide),aX (hB i j hi hj) (by decide)⟩,k2 H2 (av.refl _)⟩
 ·have k:=k1 H2 s2
  have e:preSum (λi=>x i*ent m i j) (lX 3).length=aD m x j:=aam _
  rw[e]
  exact⟨_,rfl,_,_,rfl,rfl,hp0,k⟩
inductive Pq(T0:Addr)(vs:List V)(H:Hp)(Q:VK)(E:XK):Prop
 |mk(b:Addr)(s:Nat->Int)(_:vs=[.ref b])(_:dR H b s)(_:H T0=some (cj T0))(_:¬(s 0=0/\s 1=0/\s 2=0))(_:∀(i:Nat) H',av H H'->i<3->s i≠0->(∀j,i<j->j<3->s j=0) ->Q (.int (i:Int)) H')
theorem AE{bD:Addr}(F:qp K mg "last_slope" pN jB bD)(bm:BM mg base)(Pr:mg "max"=none)(bw:mg "range"=none):cZ P w K mg base c8 1 "last_slope" jB (Pq bD):=by
 refine F.ok Av (λvs H Q E h=> ?_) (λf cdv A outer s H vs Q E cd hr h=> ?_)
 ·obtain⟨b,s,rfl,hx,hP,ex,q⟩:=h
  rfl
 obtain⟨b,s,rfl,hx,hP,ex,q⟩:=h
 have hu:=hr.units
 refine⟨_,(eH (bA (Pc (N2:=["told"]) (tt:=(lA (fY Um (fY (kG K) (aY 1) (aY 0)) (tC (.int 0))))) (te:=(aY 0)) rfl (gr.depth hr) cd bm rfl Pr (b8 rfl bw (ah ak ao)) (by kernel_rfl) (λ_ _ _ _=>by exact tu (bB ly (aJ aA (pv 1) (pv 0) (λ_ _=>rfl)) ak (bg _))) (λ_ _ _ _=>by exact fJ (pv 0))))),?_⟩
 refine⟨3,rfl,by decide,by decide,SW hP (λj=> !decide (V.int (s j)=V.int 0)) ?_ (λj hj H1 R s1 k1=> ?_) (λj hj H1 Q1 s1 k1=>⟨_,rfl,k1⟩) (λi H1 s1 hi h1 h2=>q i H1 s1 hi (λz=>by simp[z]at h1) (λj a b=>by have:=h2 j a b;simpa using this))⟩
 ·rcases Classical.em (s 0=0)with z0|z0
  ·rcases Classical.em (s 1=0)with z1|z1
   ·exact .inr (.inr (by simpa using λz2=>ex ⟨z0,z1,z2⟩))
   ·exact .inr (.inl (by simpa using z1))
  ·exact .inl (by simpa using z0)
 ·exact⟨_,rfl,_,rfl,b,_,_,_,rfl,rfl,aV.of (s1 _ _ hx),(by rw[Int.zero_add];exact mR s hj),rfl,_,rfl,k1 H1 (av.refl _)⟩
inductive Jx(T1 T2 T3:Addr)(vs:List V)(H:Hp)(Q:VK)(E:XK):Prop
 |mk(t:Addr)(bs:List Addr)(m:List (List Int))(p:Int)(b:Addr)(x:Nat->Int)(_:vs=[.ref t,.int p,.ref b])(_:Tab H t bs m)(_:cu m)(_:Bd 440 m)(_:cC m)(_:p∈([3,5,7,11,13]:List Int))(_:aN m/2%p≠0)(_:dR H b x)(_:gZ p x)(_:aR m x%p=0)(_:H T1=some (cj T1))(_:H T2=some (cj T2))(_:H T3=some (cj T3))(_:∀(i:Nat) (tm:Int) r H',pK m p x i tm->av H H'->H r=none->dR H' r (cH p x i tm) ->Q (.ref r) H')
theorem AF{cY bD aO:Addr}(F:fK K mg "first_lift" pO jC)(gf:mg "list"=none)(zf:cZ P w K mg base c8 5 "slopes" qQ (EU cY))(pX:cZ P w K mg base c8 5 "last_slope" jB (Pq bD))(r6:cZ P w K mg base c8 5 "worth" rZ (CM aO))(j5:cZ P w K mg base c8 5 "upturned" jX VZ):cZ P w K mg base c8 6 "first_lift" jC (Jx cY bD aO):=by
 refine F.ok iU (λvs H Q E h=> ?_) (λf cdv A outer s H vs Q E hr h=> ?_)
 ·obtain⟨t,bs,m,p,b,x,rfl,hT,dD,hB,ev,hp,hd,hx,L,hc,h1,h2,h3,q⟩:=h
  rfl
 obtain⟨t,bs,m,p,b,x,rfl,hT,dD,hB,ev,hp,hd,hx,L,hc,h1,h2,h3,q⟩:=h
 have hu:=hr.units
 refine⟨_,(mS (@ay _ _ _ _ _ (aW (i:=3) iU.nd rfl (Or.inl rfl) (aQ zf hr rfl aU (ah (pv 0) (ah (pv 1) (ah (pv 2) ao)))))
  (@ay _ _ _ _ _ (aW (i:=4) iU.nd rfl (Or.inl rfl) (aQ pX hr rfl aU (ah (pv 3) ao)))
  (@ay _ _ _ _ _ (aW (i:=5) iU.nd rfl (Or.inl rfl) (aB dz (aB cI (MP Gf (aB fq (aQ r6 hr rfl aU (ah (pv 0) (ah (pv 2) ao))) (pv 1))) (aQ j5 hr rfl aU (ah (aJ aA (pv 3) (pv 4) (λ_ _=>rfl)) (ah (pv 1) ao)))) (pv 1)))
  (@ay _ _ _ _ _ (aW (i:=6) iU.nd rfl (Or.inl rfl) (fQ jx rfl gf PyProof.Rows.boot_list (ah (pv 2) ao)))
  (@ay _ _ _ _ _ (Rj (pv 6) (pv 4) NC (aB cI (pv 5) (pv 1)) US set_list)
  (@aI _ _ _ (bA (pv 6))))))))),?_⟩
 have p0:2<p/\p<14:=by
  simp only[List.mem_cons,List.not_mem_nil,or_false]at hp
  omega
 have bx:∀i,i<3->(x i).natAbs<2^400:=λi hi=>aX (a:=4) (by have:=L.lo i hi;have:=L.hi i hi;omega) (by decide)
 refine⟨_,rfl,_,rfl,_,rfl,t,bs,m,p,b,x,rfl,hT,dD,hB,by omega,hx,bx,h1,λr H1 s1 fr er=> ?_⟩
 refine⟨_,rfl,r,_,rfl,er,s1 _ _ h2,uM ev hp hd L,λi H2 s2 hi si fl=> ?_⟩
 have s12:=s1.trans s2
 refine⟨_,rfl,_,rfl,t,bs,m,b,x,rfl,hT.same s12,dD,hB.mono (by decide),s12 _ _ hx,λi hi=>aX (bx i hi) (by decide),s12 _ _ h3,λH3 s3=> ?_⟩
 have qy:=s12.trans s3
 have er3:=s3 _ _ (s2 _ _ er)
 refine⟨_,rfl,_,_,rfl,rfl,⟨by omega,by omega⟩,_,rfl,_,rfl,_,rfl,r,_,_,.int (aD m x i%p),rfl,rfl,aV.of er3,mR (λj=>aD m x j%p) hi,_,rfl,_,p,rfl,hp,(by rw[Int.emod_emod_of_dvd _ (Int.dvd_refl p)];exact si),λu H4 u0 u1 eu s4=> ?_⟩
 refine⟨_,_,rfl,rfl,.inr ⟨by omega,by omega⟩,_,rfl,_,_,rfl,rfl,(by show(0:Int)<p;omega),?_⟩
 have Ah:=qy.trans s4
 have t0:=Int.emod_nonneg (-(aR m x/p)*u) (show p≠0 by omega)
 have t1:=Int.emod_lt_of_pos (-(aR m x/p)*u) (show 0<p by omega)
 have te:(aR m x/p+ -(aR m x/p)*u%p*aD m x i)%p=0:=by
  rw[pH]at eu
  obtain⟨k,hk⟩:=gY (show u*aD m x i%p=1%p by rw[eu];exact(bL (by decide) (by omega)).symm)
  have e2:=Int.emod_add_mul_ediv (-(aR m x/p)*u) p
  generalize aR m x/p=w at e2 ⊢
  generalize-w*u%p=y at e2 ⊢
  refine Int.emod_eq_zero_of_dvd ⟨-(w*k) - (-w*u/p)*aD m x i,?_⟩
  generalize-w*u/p=v at e2 ⊢
  have e3:y= -w*u-p*v:=by omega
  have e4:w+y*aD m x i=w-w*(u*aD m x i) -p*(v*aD m x i):=by rw[e3];grind
  rw[e4,hk]
  grind
 have hx4:=Ah _ _ hx
 refine⟨_,rfl,b,_,rfl,.inl (aV.of hx4),λD hD=> ?_⟩
 have uD:=av.up (o:= .lst [.int (x 0),.int (x 1),.int (x 2)]) hD
 have xi: [V.int (x 0),.int (x 1),.int (x 2)][i]?=some (.int (x i)):=by rcases aG hi with rfl|rfl|rfl<;>rfl
 refine⟨_,rfl,_,rfl,D,_,i,_,rfl,rfl,aV.of aq,xi,_,rfl,_,rfl,_,_,rfl,rfl,.inl ⟨Int.lt_of_lt_of_le (by decide) t0,Int.lt_trans t1 (by omega)⟩,_,_,rfl,rfl,D,_,_,i,rfl,rfl,aq,(by rcases aG hi with rfl|rfl|rfl<;>rfl),?_⟩
 refine⟨_,rfl,q i (-(aR m x/p)*u%p) D _ ⟨hi,si,fl,t0,t1,te⟩ ((Ah.trans uD).upd (Ah.none hD)) (Ah.none hD) ?_⟩
 show upd _ D _ D=_
 rw[aq]
 unfold cH
 rcases aG hi with rfl|rfl|rfl<;>rfl
def Pu(c0 c1 c2 c3 c4 c5:Addr)(cls:Value)(a:Addr):Sp:=λvs H Q _=>vs=[.ref a]/\((cls= .ref c0/\ ∀H',av H H'->Q (.str "form") H')∨(cls= .ref c1/\ ∀H',av H H'->Q (.str "great") H')∨(cls= .ref c2/\ ∀H',av H H'->Q (.str "prime") H')∨(cls= .ref c3/\ ∀H',av H H'->Q (.str "line") H')∨(cls= .ref c4/\ ∀H',av H H'->Q (.str "step") H')∨(cls= .ref c5/\ ∀H',av H H'->Q (.str "worth") H'))
theorem CN{f:Addr}{fd:FuncData}{aZ aK aT bC bZ cg iw cK dU fC dW:Addr}(F:Kf K "_law_kind" "_law_kind" jo f fd)(bF:mg "isinstance"=none)(pY:mg "ValueError"=none)(XC:GU K iw [cK,aZ,aK,cg,aT,bC,bZ,dU,fC,dW])(r8:mg "NoBasis"=some (.ref cK))(oY:mg "NoForm"=some (.ref aZ))(j4:mg "TooGreat"=some (.ref aK))(r9:mg "NoWorth"=some (.ref cg))(lP:mg "NoPrime"=some (.ref aT))(oZ:mg "NoLine"=some (.ref bC))(pe:mg "NoStep"=some (.ref bZ))(uX:mg "NoText"=some (.ref dU))(x9:mg "NoRow"=some (.ref fC))(uY:mg "NoName"=some (.ref dW)):yI P w K mg base 1 f fd ["_law_e"] (λa oe=>Pu aZ aK aT bC bZ cg oe.cls a):=by
 refine F.okH fH (λa oe vs H Q E h=> ?_) (λa oe cdv A outer s H vs Q hr h=> ?_)
 ·obtain⟨rfl,h⟩:=h
  rfl
 obtain⟨rfl,h⟩:=h
 refine⟨_,(mS (@ay _ _ _ _ _ (aW (i:=1) fH.nd rfl (Or.inl rfl) gm)
  (@ay _ _ _ _ _ (bI (gQ (bV lZ rfl bF PyProof.Rows.boot_isinstance (ah (pv 0) (ah (iD (v:= .ref aZ) rfl oY rfl) ao)))) (@aI _ _ _ (aW (i:=1) fH.nd rfl (Or.inl rfl) (aB jc (pv 1) gm))) cy)
  (@ay _ _ _ _ _ (bI (gQ (bV lZ rfl bF PyProof.Rows.boot_isinstance (ah (pv 0) (ah (iD (v:= .ref aK) rfl j4 rfl) ao)))) (@aI _ _ _ (aW (i:=1) fH.nd rfl (Or.inl rfl) (aB jc (pv 1) gm))) cy)
  (@ay _ _ _ _ _ (bI (gQ (bV lZ rfl bF PyProof.Rows.boot_isinstance (ah (pv 0) (ah (iD (v:= .ref aT) rfl lP rfl) ao)))) (@aI _ _ _ (aW (i:=1) fH.nd rfl (Or.inl rfl) (aB jc (pv 1) gm))) cy)
  (@ay _ _ _ _ _ (bI (gQ (bV lZ rfl bF PyProof.Rows.boot_isinstance (ah (pv 0) (ah (iD (v:= .ref bC) rfl oZ rfl) ao)))) (@aI _ _ _ (aW (i:=1) fH.nd rfl (Or.inl rfl) (aB jc (pv 1) gm))) cy)
  (@ay _ _ _ _ _ (bI (gQ (bV lZ rfl bF PyProof.Rows.boot_isinstance (ah (pv 0) (ah (iD (v:= .ref bZ) rfl pe rfl) ao)))) (@aI _ _ _ (aW (i:=1) fH.nd rfl (Or.inl rfl) (aB jc (pv 1) gm))) cy)
  (@ay _ _ _ _ _ (bI (gQ (bV lZ rfl bF PyProof.Rows.boot_isinstance (ah (pv 0) (ah (iD (v:= .ref cg) rfl r9 rfl) ao)))) (@aI _ _ _ (aW (i:=1) fH.nd rfl (Or.inl rfl) (aB jc (pv 1) gm))) cy)
  (@ay _ _ _ _ _ (bI (PW.pt (DI (gQ (bV KW rfl bF PyProof.Rows.boot_isinstance (ah (pv 0) (ah (sS (ah (iD (v:= .ref cK) rfl r8 rfl) (ah (iD (v:= .ref dU) rfl uX rfl) (ah (iD (v:= .ref fC) rfl x9 rfl) (ah (iD (v:= .ref dW) rfl uY rfl) ao))))) ao)))) (yg (m8 (gQ (bV lZ rfl bF PyProof.Rows.boot_isinstance (ah (pv 0) (ah (ur (v:= .ty "ValueError") rfl pY xD rfl) ao)))))))) (@aI _ _ _ (aW (i:=1) fH.nd rfl (Or.inl rfl) (aB jc (pv 1) gm))) cy)
  (@aI _ _ _ (bA (pv 1)))))))))))),?_⟩
 rcases h with⟨hc,q⟩|⟨hc,q⟩|⟨hc,q⟩|⟨hc,q⟩|⟨hc,q⟩|⟨hc,q⟩
 ·refine⟨_,rfl,a,aZ,oe,.ref aZ,_,rfl,List.mem_cons_self,hc,(XC.at 1 rfl).cls,XC.kit 1 1 rfl rfl,(λz=>nomatch z),_,rfl,GI (by decide) ⟨_,rfl,_,_,rfl,rfl,(by decide+kernel),⟨_,rfl,a,aZ,oe,.ref aK,_,rfl,List.mem_cons_self,hc,(XC.at 1 rfl).cls,XC.kit 1 2 rfl rfl,(λz=>nomatch z),_,rfl,jf (by decide) ⟨_,rfl,a,aZ,oe,.ref aT,_,rfl,List.mem_cons_self,hc,(XC.at 1 rfl).cls,XC.kit 1 4 rfl rfl,(λz=>nomatch z),_,rfl,jf (by decide) ⟨_,rfl,a,aZ,oe,.ref bC,_,rfl,List.mem_cons_self,hc,(XC.at 1 rfl).cls,XC.kit 1 5 rfl rfl,(λz=>nomatch z),_,rfl,jf (by decide) ⟨_,rfl,a,aZ,oe,.ref bZ,_,rfl,List.mem_cons_self,hc,(XC.at 1 rfl).cls,XC.kit 1 6 rfl rfl,(λz=>nomatch z),_,rfl,jf (by decide) ⟨_,rfl,a,aZ,oe,.ref cg,_,rfl,List.mem_cons_self,hc,(XC.at 1 rfl).cls,XC.kit 1 3 rfl rfl,(λz=>nomatch z),_,rfl,jf (by decide) ?_⟩⟩⟩⟩⟩⟩⟩
  refine⟨_,rfl,(by show 4<=sizeLine;decide),λtp htp=>⟨a,aZ,tp,oe,[cK,dU,fC,dW],false,rfl,List.mem_cons_self,hc,(XC.at 1 rfl).cls,aq,ie (λC hC=> ?_),_,rfl,iO ⟨_,rfl,a,aZ,oe,.ty "ValueError",_,rfl,List.mem_cons_self,hc,(XC.at 1 rfl).cls,(XC.at 1 rfl).val,(λz=>nomatch z),_,rfl,iO ⟨_,rfl,?_⟩⟩⟩⟩
  ·simp only[List.mem_cons,List.not_mem_nil,or_false]at hC
   rcases hC with rfl|rfl|rfl|rfl
   ·exact XC.kit 1 0 rfl rfl
   ·exact XC.kit 1 7 rfl rfl
   ·exact XC.kit 1 8 rfl rfl
   ·exact XC.kit 1 9 rfl rfl
  ·have e:(Str.ofString ""++Str.ofString "form")=Str.ofString "form":=by decide+kernel
   have q:=q _ (av.up (o:= .tup [V.ref cK,.ref dU,.ref fC,.ref dW]) htp)
   rw[<-e]at q
   exact q
 ·refine⟨_,rfl,a,aK,oe,.ref aZ,_,rfl,List.mem_cons_self,hc,(XC.at 2 rfl).cls,XC.kit 2 1 rfl rfl,(λz=>nomatch z),_,rfl,jf (by decide) ⟨_,rfl,a,aK,oe,.ref aK,_,rfl,List.mem_cons_self,hc,(XC.at 2 rfl).cls,XC.kit 2 2 rfl rfl,(λz=>nomatch z),_,rfl,GI (by decide) ⟨_,rfl,_,_,rfl,rfl,(by decide+kernel),⟨_,rfl,a,aK,oe,.ref aT,_,rfl,List.mem_cons_self,hc,(XC.at 2 rfl).cls,XC.kit 2 4 rfl rfl,(λz=>nomatch z),_,rfl,jf (by decide) ⟨_,rfl,a,aK,oe,.ref bC,_,rfl,List.mem_cons_self,hc,(XC.at 2 rfl).cls,XC.kit 2 5 rfl rfl,(λz=>nomatch z),_,rfl,jf (by decide) ⟨_,rfl,a,aK,oe,.ref bZ,_,rfl,List.mem_cons_self,hc,(XC.at 2 rfl).cls,XC.kit 2 6 rfl rfl,(λz=>nomatch z),_,rfl,jf (by decide) ⟨_,rfl,a,aK,oe,.ref cg,_,rfl,List.mem_cons_self,hc,(XC.at 2 rfl).cls,XC.kit 2 3 rfl rfl,(λz=>nomatch z),_,rfl,jf (by decide) ?_⟩⟩⟩⟩⟩⟩⟩
  refine⟨_,rfl,(by show 4<=sizeLine;decide),λtp htp=>⟨a,aK,tp,oe,[cK,dU,fC,dW],false,rfl,List.mem_cons_self,hc,(XC.at 2 rfl).cls,aq,ie (λC hC=> ?_),_,rfl,iO ⟨_,rfl,a,aK,oe,.ty "ValueError",_,rfl,List.mem_cons_self,hc,(XC.at 2 rfl).cls,(XC.at 2 rfl).val,(λz=>nomatch z),_,rfl,iO ⟨_,rfl,?_⟩⟩⟩⟩
  ·simp only[List.mem_cons,List.not_mem_nil,or_false]at hC
   rcases hC with rfl|rfl|rfl|rfl
   ·exact XC.kit 2 0 rfl rfl
   ·exact XC.kit 2 7 rfl rfl
   ·exact XC.kit 2 8 rfl rfl
   ·exact XC.kit 2 9 rfl rfl
  ·have e:(Str.ofString ""++Str.ofString "great")=Str.ofString "great":=by decide+kernel
   have q:=q _ (av.up (o:= .tup [V.ref cK,.ref dU,.ref fC,.ref dW]) htp)
   rw[<-e]at q
   exact q
 ·refine⟨_,rfl,a,aT,oe,.ref aZ,_,rfl,List.mem_cons_self,hc,(XC.at 4 rfl).cls,XC.kit 4 1 rfl rfl,(λz=>nomatch z),_,rfl,jf (by decide) ⟨_,rfl,a,aT,oe,.ref aK,_,rfl,List.mem_cons_self,hc,(XC.at 4 rfl).cls,XC.kit 4 2 rfl rfl,(λz=>nomatch z),_,rfl,jf (by decide) ⟨_,rfl,a,aT,oe,.ref aT,_,rfl,List.mem_cons_self,hc,(XC.at 4 rfl).cls,XC.kit 4 4 rfl rfl,(λz=>nomatch z),_,rfl,GI (by decide) ⟨_,rfl,_,_,rfl,rfl,(by decide+kernel),⟨_,rfl,a,aT,oe,.ref bC,_,rfl,List.mem_cons_self,hc,(XC.at 4 rfl).cls,XC.kit 4 5 rfl rfl,(λz=>nomatch z),_,rfl,jf (by decide) ⟨_,rfl,a,aT,oe,.ref bZ,_,rfl,List.mem_cons_self,hc,(XC.at 4 rfl).cls,XC.kit 4 6 rfl rfl,(λz=>nomatch z),_,rfl,jf (by decide) ⟨_,rfl,a,aT,oe,.ref cg,_,rfl,List.mem_cons_self,hc,(XC.at 4 rfl).cls,XC.kit 4 3 rfl rfl,(λz=>nomatch z),_,rfl,jf (by decide) ?_⟩⟩⟩⟩⟩⟩⟩
  refine⟨_,rfl,(by show 4<=sizeLine;decide),λtp htp=>⟨a,aT,tp,oe,[cK,dU,fC,dW],false,rfl,List.mem_cons_self,hc,(XC.at 4 rfl).cls,aq,ie (λC hC=> ?_),_,rfl,iO ⟨_,rfl,a,aT,oe,.ty "ValueError",_,rfl,List.mem_cons_self,hc,(XC.at 4 rfl).cls,(XC.at 4 rfl).val,(λz=>nomatch z),_,rfl,iO ⟨_,rfl,?_⟩⟩⟩⟩
  ·simp only[List.mem_cons,List.not_mem_nil,or_false]at hC
   rcases hC with rfl|rfl|rfl|rfl
   ·exact XC.kit 4 0 rfl rfl
   ·exact XC.kit 4 7 rfl rfl
   ·exact XC.kit 4 8 rfl rfl
   ·exact XC.kit 4 9 rfl rfl
  ·have e:(Str.ofString ""++Str.ofString "prime")=Str.ofString "prime":=by decide+kernel
   have q:=q _ (av.up (o:= .tup [V.ref cK,.ref dU,.ref fC,.ref dW]) htp)
   rw[<-e]at q
   exact q
 ·refine⟨_,rfl,a,bC,oe,.ref aZ,_,rfl,List.mem_cons_self,hc,(XC.at 5 rfl).cls,XC.kit 5 1 rfl rfl,(λz=>nomatch z),_,rfl,jf (by decide) ⟨_,rfl,a,bC,oe,.ref aK,_,rfl,List.mem_cons_self,hc,(XC.at 5 rfl).cls,XC.kit 5 2 rfl rfl,(λz=>nomatch z),_,rfl,jf (by decide) ⟨_,rfl,a,bC,oe,.ref aT,_,rfl,List.mem_cons_self,hc,(XC.at 5 rfl).cls,XC.kit 5 4 rfl rfl,(λz=>nomatch z),_,rfl,jf (by decide) ⟨_,rfl,a,bC,oe,.ref bC,_,rfl,List.mem_cons_self,hc,(XC.at 5 rfl).cls,XC.kit 5 5 rfl rfl,(λz=>nomatch z),_,rfl,GI (by decide) ⟨_,rfl,_,_,rfl,rfl,(by decide+kernel),⟨_,rfl,a,bC,oe,.ref bZ,_,rfl,List.mem_cons_self,hc,(XC.at 5 rfl).cls,XC.kit 5 6 rfl rfl,(λz=>nomatch z),_,rfl,jf (by decide) ⟨_,rfl,a,bC,oe,.ref cg,_,rfl,List.mem_cons_self,hc,(XC.at 5 rfl).cls,XC.kit 5 3 rfl rfl,(λz=>nomatch z),_,rfl,jf (by decide) ?_⟩⟩⟩⟩⟩⟩⟩
  refine⟨_,rfl,(by show 4<=sizeLine;decide),λtp htp=>⟨a,bC,tp,oe,[cK,dU,fC,dW],false,rfl,List.mem_cons_self,hc,(XC.at 5 rfl).cls,aq,ie (λC hC=> ?_),_,rfl,iO ⟨_,rfl,a,bC,oe,.ty "ValueError",_,rfl,List.mem_cons_self,hc,(XC.at 5 rfl).cls,(XC.at 5 rfl).val,(λz=>nomatch z),_,rfl,iO ⟨_,rfl,?_⟩⟩⟩⟩
  ·simp only[List.mem_cons,List.not_mem_nil,or_false]at hC
   rcases hC with rfl|rfl|rfl|rfl
   ·exact XC.kit 5 0 rfl rfl
   ·exact XC.kit 5 7 rfl rfl
   ·exact XC.kit 5 8 rfl rfl
   ·exact XC.kit 5 9 rfl rfl
  ·have e:(Str.ofString ""++Str.ofString "line")=Str.ofString "line":=by decide+kernel
   have q:=q _ (av.up (o:= .tup [V.ref cK,.ref dU,.ref fC,.ref dW]) htp)
   rw[<-e]at q
   exact q
 ·refine⟨_,rfl,a,bZ,oe,.ref aZ,_,rfl,List.mem_cons_self,hc,(XC.at 6 rfl).cls,XC.kit 6 1 rfl rfl,(λz=>nomatch z),_,rfl,jf (by decide) ⟨_,rfl,a,bZ,oe,.ref aK,_,rfl,List.mem_cons_self,hc,(XC.at 6 rfl).cls,XC.kit 6 2 rfl rfl,(λz=>nomatch z),_,rfl,jf (by decide) ⟨_,rfl,a,bZ,oe,.ref aT,_,rfl,List.mem_cons_self,hc,(XC.at 6 rfl).cls,XC.kit 6 4 rfl rfl,(λz=>nomatch z),_,rfl,jf (by decide) ⟨_,rfl,a,bZ,oe,.ref bC,_,rfl,List.mem_cons_self,hc,(XC.at 6 rfl).cls,XC.kit 6 5 rfl rfl,(λz=>nomatch z),_,rfl,jf (by decide) ⟨_,rfl,a,bZ,oe,.ref bZ,_,rfl,List.mem_cons_self,hc,(XC.at 6 rfl).cls,XC.kit 6 6 rfl rfl,(λz=>nomatch z),_,rfl,GI (by decide) ⟨_,rfl,_,_,rfl,rfl,(by decide+kernel),⟨_,rfl,a,bZ,oe,.ref cg,_,rfl,List.mem_cons_self,hc,(XC.at 6 rfl).cls,XC.kit 6 3 rfl rfl,(λz=>nomatch z),_,rfl,jf (by decide) ?_⟩⟩⟩⟩⟩⟩⟩
  refine⟨_,rfl,(by show 4<=sizeLine;decide),λtp htp=>⟨a,bZ,tp,oe,[cK,dU,fC,dW],false,rfl,List.mem_cons_self,hc,(XC.at 6 rfl).cls,aq,ie (λC hC=> ?_),_,rfl,iO ⟨_,rfl,a,bZ,oe,.ty "ValueError",_,rfl,List.mem_cons_self,hc,(XC.at 6 rfl).cls,(XC.at 6 rfl).val,(λz=>nomatch z),_,rfl,iO ⟨_,rfl,?_⟩⟩⟩⟩
  ·simp only[List.mem_cons,List.not_mem_nil,or_false]at hC
   rcases hC with rfl|rfl|rfl|rfl
   ·exact XC.kit 6 0 rfl rfl
   ·exact XC.kit 6 7 rfl rfl
   ·exact XC.kit 6 8 rfl rfl
   ·exact XC.kit 6 9 rfl rfl
  ·have e:(Str.ofString ""++Str.ofString "step")=Str.ofString "step":=by decide+kernel
   have q:=q _ (av.up (o:= .tup [V.ref cK,.ref dU,.ref fC,.ref dW]) htp)
   rw[<-e]at q
   exact q
 ·refine⟨_,rfl,a,cg,oe,.ref aZ,_,rfl,List.mem_cons_self,hc,(XC.at 3 rfl).cls,XC.kit 3 1 rfl rfl,(λz=>nomatch z),_,rfl,jf (by decide) ⟨_,rfl,a,cg,oe,.ref aK,_,rfl,List.mem_cons_self,hc,(XC.at 3 rfl).cls,XC.kit 3 2 rfl rfl,(λz=>nomatch z),_,rfl,jf (by decide) ⟨_,rfl,a,cg,oe,.ref aT,_,rfl,List.mem_cons_self,hc,(XC.at 3 rfl).cls,XC.kit 3 4 rfl rfl,(λz=>nomatch z),_,rfl,jf (by decide) ⟨_,rfl,a,cg,oe,.ref bC,_,rfl,List.mem_cons_self,hc,(XC.at 3 rfl).cls,XC.kit 3 5 rfl rfl,(λz=>nomatch z),_,rfl,jf (by decide) ⟨_,rfl,a,cg,oe,.ref bZ,_,rfl,List.mem_cons_self,hc,(XC.at 3 rfl).cls,XC.kit 3 6 rfl rfl,(λz=>nomatch z),_,rfl,jf (by decide) ⟨_,rfl,a,cg,oe,.ref cg,_,rfl,List.mem_cons_self,hc,(XC.at 3 rfl).cls,XC.kit 3 3 rfl rfl,(λz=>nomatch z),_,rfl,GI (by decide) ⟨_,rfl,_,_,rfl,rfl,(by decide+kernel),?_⟩⟩⟩⟩⟩⟩⟩
  refine⟨_,rfl,(by show 4<=sizeLine;decide),λtp htp=>⟨a,cg,tp,oe,[cK,dU,fC,dW],false,rfl,List.mem_cons_self,hc,(XC.at 3 rfl).cls,aq,ie (λC hC=> ?_),_,rfl,iO ⟨_,rfl,a,cg,oe,.ty "ValueError",_,rfl,List.mem_cons_self,hc,(XC.at 3 rfl).cls,(XC.at 3 rfl).val,(λz=>nomatch z),_,rfl,iO ⟨_,rfl,?_⟩⟩⟩⟩
  ·simp only[List.mem_cons,List.not_mem_nil,or_false]at hC
   rcases hC with rfl|rfl|rfl|rfl
   ·exact XC.kit 3 0 rfl rfl
   ·exact XC.kit 3 7 rfl rfl
   ·exact XC.kit 3 8 rfl rfl
   ·exact XC.kit 3 9 rfl rfl
  ·have e:(Str.ofString ""++Str.ofString "worth")=Str.ofString "worth":=by decide+kernel
   have q:=q _ (av.up (o:= .tup [V.ref cK,.ref dU,.ref fC,.ref dW]) htp)
   rw[<-e]at q
   exact q
inductive By(vs:List V)(H:Hp)(Q:VK)(E:XK):Prop
 |mk(B t:Addr)(bs:List Addr)(m:List (List Int))(_:vs=[.ref B,.ref t])(_:iN H B)(_:Tab H t bs m)(_:cu m)(_:Bd 400 m)(_:cC m)(_:d7 m=true)(_:t≠B)(_:B∉bs)(_:∀v H',SB B H H'->NU (hide B H') v->Q v H')
theorem wg(F:fK K mg "_law_odd_form" kM gM)(pZ:mg "tuple"=none)(aF:cZ P w K mg base c8 1 "_law_take" cU kP)(iy:cZ P w K mg base c8 1 "_law_copy" jm Hu):cZ P w K mg base c8 2 "_law_odd_form" gM By:=by
 refine F.ok eT (λvs H Q E h=> ?_) (λf cdv A outer s H vs Q E hr h=> ?_)
 ·obtain⟨B,t,bs,m,rfl,hb,T,lN,hB,ev,ab,nt,nb,q⟩:=h
  rfl
 obtain⟨B,t,bs,m,rfl,hb,T,lN,hB,ev,ab,nt,nb,q⟩:=h
 have hu:=hr.units
 refine⟨_,(mS (@ay _ _ _ _ _ (aW (i:=2) eT.nd rfl (Or.inl rfl) (aQ aF hr rfl aU (ah (pv 0) (ah ak ao))))
  (@ay _ _ _ _ _ (aW (i:=3) eT.nd rfl (Or.inl rfl) (aQ iy hr rfl aU (ah (pv 1) ao)))
  (@ay _ _ _ _ _ (bI (bB fF (pv 2) ak (bg _)) (@aI _ _ _ (ju (aB b7 (aJ aA (aJ aA (pv 3) ak (λ_ _=>rfl)) ak (λ_ _=>rfl)) ak) (jP (aJ aA (pv 3) ak (λ_ _=>rfl)) ak set_list))) (@aI _ _ _ (bI (bB fF (pv 2) ak (bg _)) (@aI _ _ _ (ju (aB b7 (aJ aA (aJ aA (pv 3) ak (λ_ _=>rfl)) ak (λ_ _=>rfl)) ak) (jP (aJ aA (pv 3) ak (λ_ _=>rfl)) ak set_list))) (@aI _ _ _ (bI (bB fF (pv 2) ak (bg _)) (@aI _ _ _ (yu (i:=3) eT.nd rfl rfl (N2:=["_law_bag_here","_law_form_here","_law_way","_law_odd"]) (te:=(oB 1 (DJ K (aY 0)) (dX 0) (fY (FU λi j=> .int (i-j)) (tC (.int 0)) (aY 0)))) rfl (di (pv 3)) (by kernel_rfl) rfl (λ_ _ _=>by exact fJ (gT (N2:=["_law_row","_law_bag_here","_law_form_here","_law_way","_law_odd"]) (te:=(fY (FU λi j=> .int (i-j)) (tC (.int 0)) (aY 0))) rfl (di (pv 0)) (by kernel_rfl) rfl (λ_ _ _=>by exact fJ (aB gq ak (pv 0))))))) (@aI _ _ _ (bI (bB fF (pv 2) ak (bg _)) (@aI _ _ _ (iZ (Bj PySem.F.plainAttrs_list PySem.F.slot_list_append PySem.F.type_list_append jQ (pv 3) (ah (gD (ah ak (ah ak (ah ak ao)))) ao)))) (@aI _ _ _ (bI (bB fF (pv 2) ak (bg _)) (@aI _ _ _ (ju (aB yk (aJ aA (pv 3) ak (λ_ _=>rfl)) (gD (ah ak ao))) (jP (pv 3) ak set_list))) (@aI _ _ _ (bI (bB fF (pv 2) ak (bg _)) (@aI _ _ _ (ju (fQ m9 rfl pZ PyProof.Rows.boot_tuple (ah (aJ aA (pv 3) ak (λ_ _=>rfl)) ao)) (jP (pv 3) ak set_list))) (@aI _ _ _ (bI (bB fF (pv 2) ak (bg _)) (@aI _ _ _ (aW (i:=3) eT.nd rfl (Or.inl rfl) (fQ m9 rfl pZ PyProof.Rows.boot_tuple (ah (pv 3) ao)))) (@aI _ _ _ (bI (bB fF (pv 2) ak (bg _)) (@aI _ _ _ (ju (fZ yi (aJ aA (aJ aA (pv 3) ak (λ_ _=>rfl)) ak (λ_ _=>rfl)) ak (bg _)) (jP (aJ aA (pv 3) ak (λ_ _=>rfl)) ak set_list))) (@aI _ _ _ (bI (bB fF (pv 2) ak (bg _)) (uI (i:=3) eT.nd rfl (Or.inl rfl) (bN (au (bN (au aL (au aL (au aL bK (by kernel_rfl)) (by kernel_rfl)) (by kernel_rfl))) (au (bN (au aL (au aL (au aL bK (by kernel_rfl)) (by kernel_rfl)) (by kernel_rfl))) (au (bN (au aL (au aL (au aL bK (by kernel_rfl)) (by kernel_rfl)) (by kernel_rfl))) bK (by kernel_rfl)) (by kernel_rfl)) (by kernel_rfl))) (by kernel_rfl) (by first|exact .inl rfl|exact .inr rfl)) (uI (i:=3) eT.nd rfl (Or.inl rfl) (NF aA (bN (au GD (au GF (au (bN bK) bK (by kernel_rfl)) (by kernel_rfl)) (by kernel_rfl))) (aB gq (pv 2) ak) (λ_ _=>rfl)) (by kernel_rfl) (by first|exact .inl rfl|exact .inr rfl)))))))))))))))))))
  (@aI _ _ _ (bA (pv 3))))))),?_⟩
 refine⟨_,rfl,B,_,rfl,hb,by decide,by decide,λd H1 l0 u0 s1=> ?_⟩
 have T1:=T.sb s1 nt nb
 refine⟨_,rfl,t,bs,m,rfl,T1,lN,λD bs' H2 s2 fD fb nD nn hC=> ?_⟩
 have s12:=s1.trans (SB.of s1.2 s2)
 have EL:D≠B:=s1.2.ne fD
 have xw:B∉bs':=λz=>s1.2.ne (fb B z) rfl
 have fDH:H D=none:=s1.gone fD
 have fbH:∀b∈bs',H b=none:=λb z=>s1.gone (fb b z)
 obtain⟨sy,dg⟩:=(uF lN).mp ev
 have sy:=sy.symm
 have ab0:=(oG ab).1
 have b1:(1:Int).natAbs<2^400:=aX (a:=1) (by decide) (by decide)
 obtain⟨a0,a1,a2,rfl,eD,rows⟩:=Br hC lN
 obtain⟨_,q0,r0⟩:=rows 0 (by decide)
 obtain⟨_,q1,r1⟩:=rows 1 (by decide)
 obtain⟨_,q2,r2⟩:=rows 2 (by decide)
 cases q0
 cases q1
 cases q2
 have m0:a0∈ [a0,a1,a2]:=List.mem_cons_self
 have m1:a1∈ [a0,a1,a2]:=List.mem_cons_of_mem _ List.mem_cons_self
 have m2:a2∈ [a0,a1,a2]:=List.mem_cons_of_mem _ (List.mem_cons_of_mem _ List.mem_cons_self)
 have nB:∀b∈ [a0,a1,a2],b≠B:=λb hb' z=>xw (by rw[<-z];exact hb')
 have UC:∀b∈ [a0,a1,a2],b≠D:=λb hb' z=>nD (by rw[<-z];exact hb')
 refine⟨_,rfl,rfl,_,rfl,g9 (λ_=> ?_) (λn0=> ?_)⟩
 ·refine⟨_,rfl,D,_,_,_,rfl,rfl,aV.of eD,rfl,a0,_,_,_,rfl,rfl,aV.of r0,rfl,_,_,rfl,rfl,_,rfl,D,_,_,_,rfl,rfl,aV.of eD,rfl,a0,_,_,1,rfl,rfl,r0,rfl,_,rfl,q _ _ (s12.Au (fbH a0 m0) (nB a0 m0)) (.inr ⟨D,_,El m 0 1 (ent m 0 1+1),rfl,oO (Bs hC lN (by decide) (by decide) nn nD rfl) EL xw,bH _,(Em (hB.mono (show 400<=401 by decide)) 0 1 (aX (qL (hB 0 1 (by decide) (by decide)) b1) (by decide))).mono (by decide),λe=> ?_⟩)⟩
  have z:=gX ((uF (bH _)).mp e.1).1.symm (i:=0) (j:=1) (by decide) (by decide)
  rw[bQ _ (by decide) (by decide),bQ _ (by decide) (by decide),if_neg (by decide),if_pos ⟨rfl,rfl⟩,gX sy (i:=0) (j:=1) (by decide) (by decide)]at z
  omega
 refine⟨_,rfl,rfl,_,rfl,g9 (λ_=> ?_) (λn1=> ?_)⟩
 ·refine⟨_,rfl,D,_,_,_,rfl,rfl,aV.of eD,rfl,a1,_,_,_,rfl,rfl,aV.of r1,rfl,_,_,rfl,rfl,_,rfl,D,_,_,_,rfl,rfl,aV.of eD,rfl,a1,_,_,1,rfl,rfl,r1,rfl,_,rfl,q _ _ (s12.Au (fbH a1 m1) (nB a1 m1)) (.inr ⟨D,_,El m 1 1 (ent m 1 1+1),rfl,oO (Bs hC lN (by decide) (by decide) nn nD rfl) EL xw,bH _,(Em (hB.mono (show 400<=401 by decide)) 1 1 (aX (qL (hB 1 1 (by decide) (by decide)) b1) (by decide))).mono (by decide),λe=> ?_⟩)⟩
  have z:=((uF (bH _)).mp e.1).2 1 (by decide)
  rw[bQ _ (by decide) (by decide),if_pos ⟨rfl,rfl⟩]at z
  have:=dg 1 (by decide)
  omega
 refine⟨_,rfl,rfl,_,rfl,g9 (λ_=> ?_) (λn2=> ?_)⟩
 ·refine⟨_,rfl,D,rfl,⟨_,aV.of eD⟩,λD2 Ag=>yD (dM (aV.of eD)) rfl Ag (λi j=>0-ent m i j) (λi x hi ex H3 Q3 s3 k3=> ?_) (λbs2 H3 s3 fr nD2 nn2 hT=>⟨_,rfl,q _ _ (s12.trans (SB.of s12.2 s3)) (.inr ⟨D2,bs2,mk3 (λi j=>0-ent m i j),rfl,oO hT (s12.2.ne Ag) (λz=>s12.2.ne (fr B z) rfl),bH _,(λi j hi hj=> ?_),λe=> ?_⟩)⟩)⟩
  ·obtain⟨b,e1,e2,_⟩:=bJ (hC.same s3) lN hi
   have ex':x= .ref b:=by
    have q1:=iG ex
    exact Option.some.inj (q1.symm.trans e1)
   subst ex'
   refine⟨_,rfl,b,rfl,⟨_,aV.of e2⟩,λD3 WJ=>gE (dM (aV.of e2)) rfl WJ (λj=>0-ent m i j) (λj x hj SY H4 Q4 s4 k4=> ?_) (λH4 s4 e4=>k3 D3 H4 WJ s4 e4)⟩
   have ex':x= .int (ent m i j):=by
    rcases aG hj with rfl|rfl|rfl<;>exact(Option.some.inj SY).symm
   subst ex'
   exact⟨_,rfl,_,_,rfl,rfl,k4 H4 (av.refl _)⟩
  ·rw[bQ _ hi hj]
   have:=aX (hB i j hi hj) (show 400<=440 by decide)
   omega
  ·have z:=(oG e.2).1
   rw[bQ _ (by decide) (by decide)]at z
   omega
 refine⟨_,rfl,rfl,_,rfl,g9 (λ_=> ?_) (λn3=> ?_)⟩
 ·refine⟨_,rfl,.inl ⟨rfl,_,aV.of eD⟩,(by show 3<=sizeLine;decide),λr hr=> ?_⟩
  have u:=av.up (o:= .lst [V.int 0,.int 0,.int 0]) hr
  have nr:r≠D:=Ne.symm (cO eD hr)
  have Wb:r≠B:=s12.2.ne hr
  refine⟨D,_,_,rfl,rfl,u _ _ eD,(by show 3<sizeLine;decide),_,rfl,q _ _ ((s12.trans (SB.of s12.2 u)).Au fDH EL) (.inl ⟨_,.lst (bR EL aq) (xq.append (Ex (x0:=ent m 0) (x1:=ent m 1) (x2:=ent m 2) (bR (nB a0 m0) (by rw[aH (UC a0 m0)];exact u _ _ r0)) (bR (nB a1 m1) (by rw[aH (UC a1 m1)];exact u _ _ r1)) (bR (nB a2 m2) (by rw[aH (UC a2 m2)];exact u _ _ r2))) (.cons (.lst (bR Wb (by rw[aH nr];exact aq)) (.cons (.int 0) (.cons (.int 0) (.cons (.int 0) .nil)))) .nil)),NV (by show 4≠3;decide)⟩)⟩
 refine⟨_,rfl,rfl,_,rfl,g9 (λ_=> ?_) (λn4=> ?_)⟩
 ·refine⟨_,rfl,D,_,_,_,rfl,rfl,aV.of eD,rfl,(by show 1<=sizeLine;decide),λp hp=> ?_⟩
  have u:=av.up (o:= .lst [V.int 0]) hp
  refine⟨a2,p,_,_,rfl,rfl,u _ _ r2,aq,(by show 4<=sizeLine;decide),λr hr=> ?_⟩
  have u2:=u.trans (av.up (o:= .lst ([V.int (ent m 2 0),.int (ent m 2 1),.int (ent m 2 2)]++ [.int 0])) hr)
  have nr:r≠D:=Ne.symm (cO (u _ _ eD) hr)
  have Wb:r≠B:=(SB.of s12.2 u).ne hr
  refine⟨_,rfl,D,_,_,2,rfl,rfl,u2 _ _ eD,rfl,_,rfl,q _ _ ((s12.trans (SB.of s12.2 u2)).Au fDH EL) (.inl ⟨_,.lst (bR EL aq) (.cons (qo (x:=ent m 0) (bR (nB a0 m0) (by rw[aH (UC a0 m0)];exact u2 _ _ r0))) (.cons (qo (x:=ent m 1) (bR (nB a1 m1) (by rw[aH (UC a1 m1)];exact u2 _ _ r1))) (.cons (.lst (bR Wb (by rw[aH nr];exact aq)) (.cons (.int _) (.cons (.int _) (.cons (.int _) (.cons (.int _) .nil))))) .nil))),yK (List.mem_cons_of_mem _ (List.mem_cons_of_mem _ List.mem_cons_self)) rfl⟩)⟩
 refine⟨_,rfl,rfl,_,rfl,g9 (λ_=> ?_) (λn5=> ?_)⟩
 ·refine⟨_,rfl,D,_,_,_,rfl,rfl,aV.of eD,rfl,a2,_,rfl,.inl ⟨aV.of r2,λr hr=> ?_⟩⟩
  have u2:=av.up (o:= .tup [V.int (ent m 2 0),.int (ent m 2 1),.int (ent m 2 2)]) hr
  have nr:r≠D:=Ne.symm (cO eD hr)
  have Wb:r≠B:=s12.2.ne hr
  refine⟨_,rfl,D,_,_,2,rfl,rfl,u2 _ _ eD,rfl,_,rfl,q _ _ ((s12.trans (SB.of s12.2 u2)).Au fDH EL) (.inl ⟨_,.lst (bR EL aq) (.cons (qo (x:=ent m 0) (bR (nB a0 m0) (by rw[aH (UC a0 m0)];exact u2 _ _ r0))) (.cons (qo (x:=ent m 1) (bR (nB a1 m1) (by rw[aH (UC a1 m1)];exact u2 _ _ r1))) (.cons (.tup (bR Wb (by rw[aH nr];exact aq)) (.cons (.int _) (.cons (.int _) (.cons (.int _) .nil)))) .nil))),yK (List.mem_cons_of_mem _ (List.mem_cons_of_mem _ List.mem_cons_self)) rfl⟩)⟩
 refine⟨_,rfl,rfl,_,rfl,g9 (λ_=> ?_) (λn6=> ?_)⟩
 ·refine⟨_,rfl,D,_,rfl,.inl ⟨aV.of eD,λr hr=> ?_⟩⟩
  have u2:=av.up (o:= .tup [V.ref a0,.ref a1,.ref a2]) hr
  have Wb:r≠B:=s12.2.ne hr
  exact⟨_,rfl,q _ _ (s12.trans (SB.of s12.2 u2)) (.inl ⟨_,.tup (bR Wb aq) (Ex (x0:=ent m 0) (x1:=ent m 1) (x2:=ent m 2) (bR (nB a0 m0) (u2 _ _ r0)) (bR (nB a1 m1) (u2 _ _ r1)) (bR (nB a2 m2) (u2 _ _ r2))),rfl⟩)⟩
 refine⟨_,rfl,rfl,_,rfl,g9 (λ_=> ?_) (λn7=> ?_)⟩
 ·have n1:a1≠a0:=λz=>by rw[z]at nn;exact(List.nodup_cons.mp nn).1 List.mem_cons_self
  have n2:a2≠a0:=λz=>by rw[z]at nn;exact(List.nodup_cons.mp nn).1 (List.mem_cons_of_mem _ List.mem_cons_self)
  refine⟨_,rfl,D,_,_,_,rfl,rfl,aV.of eD,rfl,a0,_,_,_,rfl,rfl,aV.of r0,rfl,_,_,rfl,rfl,_,rfl,D,_,_,_,rfl,rfl,aV.of eD,rfl,a0,_,_,0,rfl,rfl,r0,rfl,_,rfl,q _ _ (s12.Au (fbH a0 m0) (nB a0 m0)) (.inl ⟨_,.lst (bR EL (by rw[aH (Ne.symm (UC a0 m0))];exact eD)) (.cons (.lst (bR (nB a0 m0) aq) (.cons (.bl _) (.cons (.int _) (.cons (.int _) .nil)))) (.cons (qo (x:=ent m 1) (bR (nB a1 m1) (by rw[aH n1];exact r1))) (.cons (qo (x:=ent m 2) (bR (nB a2 m2) (by rw[aH n2];exact r2))) .nil))),yK List.mem_cons_self rfl⟩)⟩
 refine⟨_,rfl,rfl,_,rfl,g9 (λ_=> ?_) (λn8=> ?_)⟩
 ·refine⟨(by show 3<=sizeLine;decide),λp0 h0=>⟨(by show 3<=sizeLine;decide),λp1 h1=>⟨(by show 3<=sizeLine;decide),λp2 h2=>⟨(by show 3<=sizeLine;decide),λt' ht=> ?_⟩⟩⟩⟩
  have v0:=av.up (o:= .lst [.int 0,.int 0,.int 0]) h0
  have v1:=av.up (o:= .lst [.int 0,.int 0,.int 0]) h1
  have v2:=av.up (o:= .lst [.int 0,.int 0,.int 0]) h2
  have v3:=av.up (o:= .lst [.ref p0,.ref p1,.ref p2]) ht
  have T0:Tab _ t' [p0,p1,p2] (mk3 λ_ _=>0):=gk _ aq (v3 _ _ (v2 _ _ (v1 _ _ aq))) (v3 _ _ (v2 _ _ aq)) (v3 _ _ aq)
  obtain⟨f1,f2,f3⟩:=qN h0 h1 h2 ht
  refine⟨_,rfl,q _ _ (s12.trans (SB.of s12.2 (v0.trans (v1.trans (v2.trans v3))))) (.inr ⟨t',_,_,rfl,oO T0 (s12.2.ne f1) (λz=>s12.2.ne (f2 B z) rfl),bH _,(λi j hi hj=> ?_),λe=> ?_⟩)⟩
  ·rw[bQ _ hi hj]
   exact aX (a:=1) (by decide) (by decide)
  ·have z:=(oG e.2).1
   rw[bQ _ (by decide) (by decide)]at z
   omega
 have k0:d≠0:=λz=>n0 (decide_eq_true (by rw[z]))
 have k1:d≠1:=λz=>n1 (decide_eq_true (by rw[z]))
 have k2:d≠2:=λz=>n2 (decide_eq_true (by rw[z]))
 have k3:d≠3:=λz=>n3 (decide_eq_true (by rw[z]))
 have k4:d≠4:=λz=>n4 (decide_eq_true (by rw[z]))
 have k5:d≠5:=λz=>n5 (decide_eq_true (by rw[z]))
 have k6:d≠6:=λz=>n6 (decide_eq_true (by rw[z]))
 have k7:d≠7:=λz=>n7 (decide_eq_true (by rw[z]))
 have k8:d≠8:=λz=>n8 (decide_eq_true (by rw[z]))
 refine⟨(by show 0<=sizeLine;decide),λp hp=>⟨(by show 3<=sizeLine;decide),λL hL=>⟨_,rfl,_,_,rfl,rfl,?_⟩⟩⟩
 have u1:=av.up (o:= .lst []) hp
 have u2:=av.up (o:= .lst [V.fP,.str "2 0 0",.ref p]) hL
 obtain⟨v,hv,hv2⟩:=nq (xs:=[V.fP,.str "2 0 0",.ref p]) (k:=d-9) (by omega) (by show d-9<(3:Int);omega)
 refine⟨L,_,_,_,rfl,rfl,aV.of aq,hv,_,rfl,q _ _ (s12.trans (SB.of s12.2 (u1.trans u2))) (.inl ?_)⟩
 have hm:=List.mem_of_getElem? hv2
 simp only[List.mem_cons,List.not_mem_nil,or_false]at hm
 rcases hm with rfl|rfl|rfl
 ·exact⟨_,.fP,rfl⟩
 ·exact⟨_,.str _,rfl⟩
 ·exact⟨_,.lst (bR (s12.2.ne hp) (u2 _ _ aq)) .nil,rfl⟩
inductive Jy(vs:List V)(H:Hp)(Q:VK)(E:XK):Prop
 |mk(B:Addr)(most:Int)(_:vs=[.ref B,.int most])(_:iN H B)(_:most=100∨most=200)(_:∀m v H',SB B H H'->jg (hide B H') v m->most<aN m/2->Q v H')
theorem tR(F:fK K mg "_law_great_form" jG gb)(aF:cZ P w K mg base c8 2 "_law_take" cU kP)(fN:cZ P w K mg base c8 2 "_law_carried" gy Ht)(gG:cZ P w K mg base c8 2 "_law_basis" iK yV):cZ P w K mg base c8 3 "_law_great_form" gb Jy:=by
 refine F.ok dQ (λvs H Q E h=> ?_) (λf cdv A outer s H vs Q E hr h=> ?_)
 ·obtain⟨B,most,rfl,hb,hm,q⟩:=h
  rfl
 obtain⟨B,most,rfl,hb,hm,q⟩:=h
 have hu:=hr.units
 refine⟨_,(mS (@ay _ _ _ _ _ (aW (i:=2) dQ.nd rfl (Or.inl rfl) (aQ aF hr rfl aU (ah (pv 0) (ah ak ao))))
  (yz (i:=3) dQ.nd rfl (Or.inl rfl) (NF aA (bN (au aL (au (fe (aQ aF hr rfl aU (ah (pv 0) (ah ak ao)))) bK (by kernel_rfl)) (by kernel_rfl))) (aQ aF hr rfl aU (ah (pv 0) (ah ak ao))) (λ_ _=>rfl)) (by kernel_rfl) (by first|exact .inl rfl|exact .inr rfl)
  (yz (i:=4) dQ.nd rfl (Or.inl rfl) (bN (au (bN (au aL (au aL (au aL bK (by kernel_rfl)) (by kernel_rfl)) (by kernel_rfl))) (au (bN (au aL (au aL (au aL bK (by kernel_rfl)) (by kernel_rfl)) (by kernel_rfl))) (au (bN (au aL (au aL (au (fe (aB cI ak (aB b7 (aB b7 (aB fq (pv 1) ak) ak) (pv 3)))) bK (by kernel_rfl)) (by kernel_rfl)) (by kernel_rfl))) bK (by kernel_rfl)) (by kernel_rfl)) (by kernel_rfl))) (by kernel_rfl) (by first|exact .inl rfl|exact .inr rfl)
  (@ay _ _ _ _ _ (bI (bB fF (pv 2) ak (bg _)) (uI (i:=4) dQ.nd rfl (Or.inl rfl) (bN (au (bN (au aL (au aL (au aL bK (by kernel_rfl)) (by kernel_rfl)) (by kernel_rfl))) (au (bN (au aL (au aL (au aL bK (by kernel_rfl)) (by kernel_rfl)) (by kernel_rfl))) (au (bN (au aL (au aL (au (fe (aB cI ak (aB b7 (aB b7 (aB fq (pv 1) ak) ak) (pv 3)))) bK (by kernel_rfl)) (by kernel_rfl)) (by kernel_rfl))) bK (by kernel_rfl)) (by kernel_rfl)) (by kernel_rfl))) (by kernel_rfl) (by first|exact .inl rfl|exact .inr rfl)) cy)
  (@ay _ _ _ _ _ (bI (bB fF (pv 2) ak (bg _)) (uI (i:=4) dQ.nd rfl (Or.inl rfl) (bN (au (bN (au aL (au aL (au aL bK (by kernel_rfl)) (by kernel_rfl)) (by kernel_rfl))) (au (bN (au aL (au aL (au aL bK (by kernel_rfl)) (by kernel_rfl)) (by kernel_rfl))) (au (bN (au aL (au aL (au (fe (aB cI ak (aB b7 (aB b7 (aB fq (pv 1) ak) ak) (pv 3)))) bK (by kernel_rfl)) (by kernel_rfl)) (by kernel_rfl))) bK (by kernel_rfl)) (by kernel_rfl)) (by kernel_rfl))) (by kernel_rfl) (by first|exact .inl rfl|exact .inr rfl)) cy)
  (@ay _ _ _ _ _ (bI (bB fF (pv 2) ak (bg _)) (uI (i:=4) dQ.nd rfl (Or.inl rfl) (bN (au (bN (au aL (au aL (au aL bK (by kernel_rfl)) (by kernel_rfl)) (by kernel_rfl))) (au (bN (au aL (au aL (au aL bK (by kernel_rfl)) (by kernel_rfl)) (by kernel_rfl))) (au (bN (au aL (au aL (au (fe (aB cI ak (aB b7 (aB b7 (aB fq (aB b7 (pv 1) ak) ak) ak) (pv 3)))) bK (by kernel_rfl)) (by kernel_rfl)) (by kernel_rfl))) bK (by kernel_rfl)) (by kernel_rfl)) (by kernel_rfl))) (by kernel_rfl) (by first|exact .inl rfl|exact .inr rfl)) cy)
  (@aI _ _ _ (bA (aQ fN hr rfl aU (ah (pv 4) (ah (aQ gG hr rfl aU (ah (pv 0) (ah ak ao))) ao)))))))))))),?_⟩
 refine⟨_,rfl,B,_,rfl,hb,by decide,by decide,λd H1 l0 u0 s1=> ?_⟩
 refine⟨_,rfl,B,_,rfl,s1.2,by decide,by decide,λd1 H2 l1 u1 s2=>⟨(by show 2<=sizeLine;decide),λL hL=> ?_⟩⟩
 have uL:=av.up (o:= .lst [V.int 0,.int d1]) hL
 have nL:L≠B:=s2.2.ne hL
 have s2L:=SB.of s2.2 uL
 refine⟨_,rfl,B,_,rfl,s2L.2,by decide,by decide,λd2 H3 l2 u2 s3=> ?_⟩
 obtain⟨v,hv,hv2⟩:=at2 (x:= .int 0) (y:= .int d1) (i:=d2) l2 u2
 obtain⟨more,rfl,g0,g1⟩:∃more:Int,v= .int more/\0<=more/\more<50:=by
  rcases hv2 with rfl|rfl
  ·exact⟨_,rfl,by decide,by decide⟩
  ·exact⟨_,rfl,l1,u1⟩
 refine⟨L,_,_,_,rfl,rfl,aV.of (s3.1 _ _ nL aq),hv,?_⟩
 have sN:=s1.trans (s2.trans (s2L.trans s3))
 refine⟨(by show 3<=sizeLine;decide),λp0 h0=>⟨(by show 3<=sizeLine;decide),λp1 h1=>⟨_,rfl,_,_,rfl,rfl,⟨by decide,by decide⟩,_,_,rfl,rfl,_,rfl,_,_,rfl,rfl,_,_,rfl,rfl,.inl ⟨by decide,by decide⟩,(by show 3<=sizeLine;decide),λp2 h2=>⟨(by show 3<=sizeLine;decide),λt ht=> ?_⟩⟩⟩⟩
 obtain⟨c,ec,c0,c1,c2⟩:∃c,most/4+1+more=c/\0<c/\c<1000/\most<4*c:=⟨_,rfl,by omega,by omega,by omega⟩
 have ht:=ht
 rw[ec]at ht
 have v0:=av.up (o:= .lst [.int (2*1),.int 0,.int 0]) h0
 have v1:=av.up (o:= .lst [.int 0,.int (2*1),.int 0]) h1
 have v2:=av.up (o:= .lst [.int 0,.int 0,.int (2*c)]) h2
 have v3:=av.up (o:= .lst [.ref p0,.ref p1,.ref p2]) ht
 have T:Tab _ t [p0,p1,p2] (g8 (2*1) (2*1) (2*c) 0 0 0):=gk _ aq (v3 _ _ (v2 _ _ (v1 _ _ aq))) (v3 _ _ (v2 _ _ aq)) (v3 _ _ aq)
 obtain⟨f1,f2,f3⟩:=qN h0 h1 h2 ht
 have ed:aN (g8 (2*1) (2*1) (2*c) 0 0 0)=2*(4*c):=by
  rw[qM]
  omega
 rw[ec]
 have sN':=sN.trans (SB.of sN.2 (v0.trans (v1.trans (v2.trans v3))))
 have nt:t≠B:=sN.2.ne f1
 have nb:B∉ [p0,p1,p2]:=λz=>sN.2.ne (f2 B z) rfl
 have lN:cu (g8 (2*1) (2*1) (2*c) 0 0 0):=bH _
 have dm:Bd 30 (g8 (2*1) (2*1) (2*c) 0 0 0):=rX (by omega) (by omega) (by omega) (by omega) (by omega) (by omega)
 have ev:=jR 1 1 c 0 0 0
 have ab:d7 (g8 (2*1) (2*1) (2*c) 0 0 0)=true:=jT (by decide) (by decide) (by decide) (by decide) (by rw[ed];omega)
 have gt:most<aN (g8 (2*1) (2*1) (2*c) 0 0 0)/2:=by rw[ed];omega
 clear sN
 have sN:=sN'
 generalize g8 (2*1) (2*1) (2*c) 0 0 0=m at T lN dm ev ab gt
 generalize [p0,p1,p2]=bs at T nb
 clear ed f3
 refine⟨_,rfl,rfl,_,rfl,yE (λσ' H'=> ∃(t:Addr)(bs:List Addr)(m:List (List Int)),σ'=[some (.ref B),some (.int most),some (.int d),some (.int more),some (.ref t)]/\SB B H H'/\t≠B/\B∉bs/\Tab H' t bs m/\cu m/\Bd 30 m/\cC m/\d7 m=true/\most<aN m/2) ?_ (λ_ hK=> ?_) ⟨t,bs,m,rfl,sN,nt,nb,T,lN,dm,ev,ab,gt⟩⟩
 rotate_left
 ·refine⟨(by show 3<=sizeLine;decide),λp0 h0=>⟨(by show 3<=sizeLine;decide),λp1 h1=>⟨_,rfl,_,_,rfl,rfl,⟨by decide,by decide⟩,_,_,rfl,rfl,_,rfl,_,_,rfl,rfl,_,_,rfl,rfl,.inl ⟨by decide,by decide⟩,(by show 3<=sizeLine;decide),λp2 h2=>⟨(by show 3<=sizeLine;decide),λt ht=> ?_⟩⟩⟩⟩
  obtain⟨c,ec,c0,c1,c2⟩:∃c,most/4+1+more=c/\0<c/\c<1000/\most<4*c-1:=⟨_,rfl,by omega,by omega,by omega⟩
  have ht:=ht
  rw[ec]at ht
  have v0:=av.up (o:= .lst [.int (2*1),.int 0,.int 1]) h0
  have v1:=av.up (o:= .lst [.int 0,.int (2*1),.int 0]) h1
  have v2:=av.up (o:= .lst [.int 1,.int 0,.int (2*c)]) h2
  have v3:=av.up (o:= .lst [.ref p0,.ref p1,.ref p2]) ht
  have T:Tab _ t [p0,p1,p2] (g8 (2*1) (2*1) (2*c) 0 1 0):=gk _ aq (v3 _ _ (v2 _ _ (v1 _ _ aq))) (v3 _ _ (v2 _ _ aq)) (v3 _ _ aq)
  obtain⟨f1,f2,f3⟩:=qN h0 h1 h2 ht
  have ed:aN (g8 (2*1) (2*1) (2*c) 0 1 0)=2*(4*c-1):=by
   rw[qM]
   omega
  rw[ec]
  exact hK _ _ ⟨t,_,g8 (2*1) (2*1) (2*c) 0 1 0,rfl,sN.trans (SB.of sN.2 (v0.trans (v1.trans (v2.trans v3)))),sN.2.ne f1,(λz=>sN.2.ne (f2 B z) rfl),T,bH _,rX (by omega) (by omega) (by omega) (by omega) (by omega) (by omega),jR 1 1 c 0 1 0,jT (by decide) (by decide) (by decide) (by decide) (by rw[ed];omega),by rw[ed];omega⟩
 clear T lN dm ev ab gt nt nb sN
 rintro σ' H' ⟨t,bs,m,rfl,sN,nt,nb,T,lN,dm,ev,ab,gt⟩
 refine⟨_,rfl,rfl,_,rfl,yE (λσ' H'=> ∃(t:Addr)(bs:List Addr)(m:List (List Int)),σ'=[some (.ref B),some (.int most),some (.int d),some (.int more),some (.ref t)]/\SB B H H'/\t≠B/\B∉bs/\Tab H' t bs m/\cu m/\Bd 30 m/\cC m/\d7 m=true/\most<aN m/2) ?_ (λ_ hK=> ?_) ⟨t,bs,m,rfl,sN,nt,nb,T,lN,dm,ev,ab,gt⟩⟩
 rotate_left
 ·refine⟨(by show 3<=sizeLine;decide),λp0 h0=>⟨(by show 3<=sizeLine;decide),λp1 h1=>⟨_,rfl,_,_,rfl,rfl,⟨by decide,by decide⟩,_,_,rfl,rfl,_,rfl,_,_,rfl,rfl,_,_,rfl,rfl,.inl ⟨by decide,by decide⟩,(by show 3<=sizeLine;decide),λp2 h2=>⟨(by show 3<=sizeLine;decide),λt ht=> ?_⟩⟩⟩⟩
  obtain⟨c,ec,c0,c1,c2⟩:∃c,most/3+1+more=c/\0<c/\c<1000/\most<3*c:=⟨_,rfl,by omega,by omega,by omega⟩
  have ht:=ht
  rw[ec]at ht
  have v0:=av.up (o:= .lst [.int (2*1),.int 1,.int 0]) h0
  have v1:=av.up (o:= .lst [.int 1,.int (2*1),.int 0]) h1
  have v2:=av.up (o:= .lst [.int 0,.int 0,.int (2*c)]) h2
  have v3:=av.up (o:= .lst [.ref p0,.ref p1,.ref p2]) ht
  have T:Tab _ t [p0,p1,p2] (g8 (2*1) (2*1) (2*c) 1 0 0):=gk _ aq (v3 _ _ (v2 _ _ (v1 _ _ aq))) (v3 _ _ (v2 _ _ aq)) (v3 _ _ aq)
  obtain⟨f1,f2,f3⟩:=qN h0 h1 h2 ht
  have ed:aN (g8 (2*1) (2*1) (2*c) 1 0 0)=2*(3*c):=by
   rw[qM]
   omega
  rw[ec]
  exact hK _ _ ⟨t,_,g8 (2*1) (2*1) (2*c) 1 0 0,rfl,sN.trans (SB.of sN.2 (v0.trans (v1.trans (v2.trans v3)))),sN.2.ne f1,(λz=>sN.2.ne (f2 B z) rfl),T,bH _,rX (by omega) (by omega) (by omega) (by omega) (by omega) (by omega),jR 1 1 c 1 0 0,jT (by decide) (by decide) (by decide) (by decide) (by rw[ed];omega),by rw[ed];omega⟩
 clear T lN dm ev ab gt nt nb sN
 rintro σ' H' ⟨t,bs,m,rfl,sN,nt,nb,T,lN,dm,ev,ab,gt⟩
 refine⟨_,rfl,rfl,_,rfl,yE (λσ' H'=> ∃(t:Addr)(bs:List Addr)(m:List (List Int)),σ'=[some (.ref B),some (.int most),some (.int d),some (.int more),some (.ref t)]/\SB B H H'/\t≠B/\B∉bs/\Tab H' t bs m/\cu m/\Bd 30 m/\cC m/\d7 m=true/\most<aN m/2) ?_ (λ_ hK=> ?_) ⟨t,bs,m,rfl,sN,nt,nb,T,lN,dm,ev,ab,gt⟩⟩
 rotate_left
 ·refine⟨(by show 3<=sizeLine;decide),λp0 h0=>⟨(by show 3<=sizeLine;decide),λp1 h1=>⟨_,rfl,_,_,rfl,rfl,_,_,rfl,rfl,⟨by decide,by decide⟩,_,_,rfl,rfl,_,rfl,_,_,rfl,rfl,_,_,rfl,rfl,.inl ⟨by decide,by decide⟩,(by show 3<=sizeLine;decide),λp2 h2=>⟨(by show 3<=sizeLine;decide),λt ht=> ?_⟩⟩⟩⟩
  obtain⟨c,ec,c0,c1,c2⟩:∃c,(most+1)/3+1+more=c/\0<c/\c<1000/\most<3*c-1:=⟨_,rfl,by omega,by omega,by omega⟩
  have ht:=ht
  rw[ec]at ht
  have v0:=av.up (o:= .lst [.int (2*1),.int 1,.int 0]) h0
  have v1:=av.up (o:= .lst [.int 1,.int (2*1),.int 1]) h1
  have v2:=av.up (o:= .lst [.int 0,.int 1,.int (2*c)]) h2
  have v3:=av.up (o:= .lst [.ref p0,.ref p1,.ref p2]) ht
  have T:Tab _ t [p0,p1,p2] (g8 (2*1) (2*1) (2*c) 1 0 1):=gk _ aq (v3 _ _ (v2 _ _ (v1 _ _ aq))) (v3 _ _ (v2 _ _ aq)) (v3 _ _ aq)
  obtain⟨f1,f2,f3⟩:=qN h0 h1 h2 ht
  have ed:aN (g8 (2*1) (2*1) (2*c) 1 0 1)=2*(3*c-1):=by
   rw[qM]
   omega
  rw[ec]
  exact hK _ _ ⟨t,_,g8 (2*1) (2*1) (2*c) 1 0 1,rfl,sN.trans (SB.of sN.2 (v0.trans (v1.trans (v2.trans v3)))),sN.2.ne f1,(λz=>sN.2.ne (f2 B z) rfl),T,bH _,rX (by omega) (by omega) (by omega) (by omega) (by omega) (by omega),jR 1 1 c 1 0 1,jT (by decide) (by decide) (by decide) (by decide) (by rw[ed];omega),by rw[ed];omega⟩
 clear T lN dm ev ab gt nt nb sN
 rintro σ' H' ⟨t,bs,m,rfl,sN,nt,nb,T,lN,dm,ev,ab,gt⟩
 refine⟨_,rfl,_,rfl,B,_,rfl,sN.2,by decide,by decide,λmb tb Yj Zh cb dB CD WE ftb fbb ntb Tb=> ?_⟩
 have Tm:=T.sb WE nt nb
 refine⟨t,bs,m,tb,Yj,mb,rfl,Tm,Tb,lN,cb,dm.mono (by decide),dB.mono (by decide),λr rs H4 s4 fr frs nr nn Tr=> ?_⟩
 have qy:=sN.trans WE
 exact q (oE m mb) _ H4 (qy.trans (SB.of qy.2 s4)) ⟨r,rs,rfl,oO Tr (qy.2.ne fr) (λz=>qy.2.ne (frs B z) rfl),(show cu (iR (iR mb m) (dN mb))from bH _),((rV (rV dB dm) (yx dB)).mono (by decide)),vL ev lN cb,sY (jS ev lN) ab cb (.inl CD)⟩ (by rw[yC (.inl CD)];exact gt)
inductive zg(vs:List V)(H:Hp)(Q:VK)(E:XK):Prop
 |mk(B t:Addr)(bs:List Addr)(m:List (List Int))(_:vs=[.ref B,.ref t])(_:iN H B)(_:Tab H t bs m)(_:cu m)(_:Bd 440 m)(_:∀v d H',SB B H H'->DV (hide B H') v d->gF (aN m/2) d=false->Q v H')
theorem uZ(F:fK K mg "_law_odd_prime" jZ gz)(fO:mg "len"=none)(bG:cZ P w K mg base c8 1 "_law_determinant" cV yU)(aF:cZ P w K mg base c8 1 "_law_take" cU kP):cZ P w K mg base c8 2 "_law_odd_prime" gz zg:=by
 refine F.ok g6 (λvs H Q E h=> ?_) (λf cdv A outer s H vs Q E hr h=> ?_)
 ·obtain⟨B,t,bs,m,rfl,hb,hT,dD,hB,q⟩:=h
  rfl
 obtain⟨B,t,bs,m,rfl,hb,hT,dD,hB,q⟩:=h
 have hu:=hr.units
 refine⟨_,(mS (@ay _ _ _ _ _ (aW (i:=2) g6.nd rfl (Or.inr rfl) (aB fq (aQ bG hr rfl aU (ah (pv 1) ao)) ak))
  (@ay _ _ _ _ _ (mX (i:=3) g6.nd rfl rfl (N2:=["_law_bag_here","_law_form_here","_law_halved","_law_some","_law_odd"]) (tt:=(lA (fY JU (fY (rI (λ_ j=>0<j) λi j=> .int (i%j)) (aY 3) (aY 0)) (tC (.int 0))))) (te:=(aY 0)) rfl (ML (sS (ah ak (ah ak (ah ak (ah ak (ah ak ao))))))) (by kernel_rfl) rfl (λ_ _ _=>by exact tu (bB fF (aB dz (pv 3) (pv 0)) ak (bg _))) (λ_ _ _=>by exact fJ (pv 0)))
  (yz (i:=4) g6.nd rfl (Or.inl rfl) (bN (au aL (au aL (au aL (au (fe (MP Gf ak)) (au aL (au aL (au aL (au Uz (au GD (au GF (au (bN (au aL bK (by kernel_rfl))) (au (ND (au aL bK (by kernel_rfl))) (au (fe (aB b7 (aB Ge ak ak) ak)) bK (by kernel_rfl)) (by kernel_rfl)) (by kernel_rfl)) (by kernel_rfl)) (by kernel_rfl)) (by kernel_rfl)) (by kernel_rfl)) (by kernel_rfl)) (by kernel_rfl)) (by kernel_rfl)) (by kernel_rfl)) (by kernel_rfl)) (by kernel_rfl))) (by kernel_rfl) (by first|exact .inl rfl|exact .inr rfl)
  (@aI _ _ _ (bA (aJ aA (aB yk (pv 3) (pv 4)) (aQ aF hr rfl aU (ah (pv 0) (ah (aB b7 (bV dJ rfl fO PySem.boot_len (ah (pv 3) ao)) (bV dJ rfl fO PySem.boot_len (ah (pv 4) ao))) ao))) (λ_ _=>rfl)))))))),?_⟩
 refine⟨_,rfl,t,bs,m,rfl,hT,dD,hB.mono (by decide),_,_,rfl,rfl,⟨by decide,by decide⟩,?_⟩
 obtain⟨h,eh⟩:∃h,aN m/2=h:=⟨_,rfl⟩
 simp only[eh]
 rw[eh]at q
 refine⟨(by show 5<=sizeLine;decide),λP hP=>⟨P,rfl,⟨_,qA.of aq⟩,λD hD=>dj (Nj (qA.of aq)) (by show 5<=sizeLine;decide) hD (λv=>match v with| .int p=>decide (V.int (h%p)=V.int 0)|_=>false) id (λx hx H2 R s2 kk=> ?_) (λx hx px H2 Q' s2 kk=>⟨_,rfl,kk H2 (av.refl _)⟩) (λH2 s2 e2=> ?_)⟩⟩
 ·simp only[List.mem_cons,List.not_mem_nil,or_false]at hx
  rcases hx with rfl|rfl|rfl|rfl|rfl<;>exact⟨_,rfl,_,rfl,_,_,rfl,rfl,(by show(0:Int)<_;decide),rfl,_,rfl,kk H2 (av.refl _)⟩
 have u1:=av.up (o:= .tup [V.int 3,.int 5,.int 7,.int 11,.int 13]) hP
 have s12:=SB.of hb (u1.trans s2)
 have nD:D≠B:=hb.ne (u1.none hD)
 have ll:(([V.int 3,.int 5,.int 7,.int 11,.int 13].filter (λv=>match v with| .int p=>decide (V.int (h%p)=V.int 0)|_=>false)).map id).length<=5:=by
  rw[List.length_map]
  exact List.length_filter_le _ _
 have mem:∀v∈(([V.int 3,.int 5,.int 7,.int 11,.int 13].filter (λv=>match v with| .int p=>decide (V.int (h%p)=V.int 0)|_=>false)).map id),∃p:Int,v= .int p/\h%p=0:=λv hv=>by
  rw[List.map_id,List.mem_filter]at hv
  obtain⟨hm,hpv⟩:=hv
  simp only[List.mem_cons,List.not_mem_nil,or_false]at hm
  rcases hm with rfl|rfl|rfl|rfl|rfl<;>exact⟨_,rfl,V.int.inj (of_decide_eq_true hpv)⟩
 generalize(([V.int 3,.int 5,.int 7,.int 11,.int 13].filter (λv=>match v with| .int p=>decide (V.int (h%p)=V.int 0)|_=>false)).map id)=Ls at e2 ll mem
 refine⟨_,rfl,(by show 1<=sizeLine;decide),λp1 h1=>⟨(by show 1<=sizeLine;decide),λp2 h2=>⟨_,_,rfl,rfl,⟨by decide,by decide,by decide⟩,_,_,rfl,rfl,(by show 13<=sizeLine;decide),λL hL=> ?_⟩⟩⟩
 have v1:=av.up (o:= .lst [V.int 3]) h1
 have v2:=av.up (o:= .tup [V.int 3]) h2
 have v3:=av.up (o:= .lst [V.int 2,.int 1,.int 0,.int (-3),.int 9,.int 17,.int 15,.bl true,.fP,.str "3",.ref p1,.ref p2,.int (10^(29:Int).toNat+3)]) hL
 have v13:=v1.trans (v2.trans v3)
 refine⟨_,rfl,_,rfl,D,L,_,_,rfl,rfl,v13 _ _ e2,aq,(by show Ls.length+13<=sizeLine;exact Nat.le_of_lt (iF (by omega))),λC hC=> ?_⟩
 have v4:=av.up (o:= .lst (Ls++ [V.int 2,.int 1,.int 0,.int (-3),.int 9,.int 17,.int 15,.bl true,.fP,.str "3",.ref p1,.ref p2,.int (10^(29:Int).toNat+3)])) hC
 have v14:=v13.trans v4
 have Ah:=s12.trans (SB.of s12.2 v14)
 refine⟨_,rfl,_,rfl,D,_,rfl,.inl (aV.of (v14 _ _ e2)),_,rfl,L,_,rfl,.inl (aV.of (v4 _ _ aq)),_,_,rfl,rfl,B,_,rfl,Ah.2,(by show(0:Int)<(Ls.length:Int)+13;omega),log2_small (by show(0:Int)<=(Ls.length:Int)+13;omega) (by show(Ls.length:Int)+13<_;omega),λk H5 k0 k1 s5=> ?_⟩
 have nC:C≠B:=(SB.of s12.2 v13).ne hC
 obtain⟨v,hv,hv2⟩:=nq (xs:=Ls++ [V.int 2,.int 1,.int 0,.int (-3),.int 9,.int 17,.int 15,.bl true,.fP,.str "3",.ref p1,.ref p2,.int (10^(29:Int).toNat+3)]) (k:=k) k0 (by rw[List.length_append];show k<((Ls.length+13:Nat):Int);have k1:k<(Ls.length:Int)+13:=k1;omega)
 refine⟨C,_,_,_,rfl,rfl,aV.of (s5.1 _ _ nC aq),hv,?_⟩
 have Az:=Ah.trans s5
 have n1:p1≠B:=s12.2.ne h1
 have n2:p2≠B:=(SB.of s12.2 v1).ne h2
 rcases List.mem_append.mp (List.mem_of_getElem? hv2)with hm|hm
 ·obtain⟨p,rfl,hp⟩:=mem v hm
  exact q _ _ H5 Az (.int p) (GW hp)
 ·simp only[List.mem_cons,List.not_mem_nil,or_false]at hm
  rcases hm with rfl|rfl|rfl|rfl|rfl|rfl|rfl|rfl|rfl|rfl|rfl|rfl|rfl
  ·exact q _ _ H5 Az (.int _) (jl (by decide))
  ·exact q _ _ H5 Az (.int _) (jl (by decide))
  ·exact q _ _ H5 Az (.int _) (jl (by decide))
  ·exact q _ _ H5 Az (.int _) (jl (by decide))
  ·exact q _ _ H5 Az (.int _) (jl (by decide))
  ·exact q _ _ H5 Az (.int _) (jl (by decide))
  ·exact q _ _ H5 Az (.int _) (jl (by decide))
  ·exact q _ _ H5 Az (.bl _) rfl
  ·exact q _ _ H5 Az .fP rfl
  ·exact q _ _ H5 Az (.str _) rfl
  ·exact q _ _ H5 Az (.lst (bR n1 (s5.1 _ _ n1 (v4 _ _ (v3 _ _ (v2 _ _ aq))))) (.cons (.int 3) .nil)) rfl
  ·exact q _ _ H5 Az (.tup (bR n2 (s5.1 _ _ n2 (v4 _ _ (v3 _ _ aq)))) (.cons (.int 3) .nil)) rfl
  ·exact q _ _ H5 Az (.int _) (jl (by decide))
end
end CB
namespace L2
open PySem PySem.Spec PyProof.Rows
theorem gi(m:List (List Int))(x y:Nat->Int):cz m x y=aD m x 0*y 0+aD m x 1*y 1+aD m x 2*y 2:=by
 rw[dh]
 unfold aD
 grind
theorem j6{m:List (List Int)}{p:Int}{x y:Nat->Int}(e:∀i,i<3->x i%p=y i%p)(j:Nat):aD m x j%p=aD m y j%p:=by
 obtain⟨k0,h0⟩:=gY (e 0 (by decide))
 obtain⟨k1,h1⟩:=gY (e 1 (by decide))
 obtain⟨k2,h2⟩:=gY (e 2 (by decide))
 unfold aD
 rw[h0,h1,h2]
 refine lG (k:=k0*ent m 0 j+k1*ent m 1 j+k2*ent m 2 j) ?_
 grind
theorem pq(p:Int)(x:Nat->Int)(i:Nat)(t:Int)(j:Nat):cH p x i t j%p=x j%p:=by
 unfold cH
 split
 ·exact lG (k:=t) (by rw[Int.mul_comm])
 ·rfl
theorem zh{m:List (List Int)}(ev:cC m){p:Int}{x:Nat->Int}(L:gZ p x)(hc:aR m x%p=0){i:Nat}{t:Int}(F:pK m p x i t):∃l,l<3/\l≠i/\x l=1/\ ∀j,j<l->x j=0:=by
 have e:=iI ev x
 rw[gi]at e
 have hi:=F.hi
 have done:∀l,l<3->x l=1->(∀j,j<l->x j=0) ->l≠i:=λl hl h1 h0 z=>by
  subst z
  apply F.sl
  obtain⟨c,hc'⟩:=Int.dvd_of_emod_eq_zero hc
  rw[hc']at e
  rcases aG hl with rfl|rfl|rfl
  ·obtain⟨c1,d1⟩:=Int.dvd_of_emod_eq_zero (F.flat 1 (by decide) (by decide))
   obtain⟨c2,d2⟩:=Int.dvd_of_emod_eq_zero (F.flat 2 (by decide) (by decide))
   rw[h1,d1,d2]at e
   exact Int.emod_eq_zero_of_dvd ⟨2*c-c1*x 1-c2*x 2,by grind⟩
  ·obtain⟨c2,d2⟩:=Int.dvd_of_emod_eq_zero (F.flat 2 (by decide) (by decide))
   rw[h1,h0 0 (by decide),d2]at e
   exact Int.emod_eq_zero_of_dvd ⟨2*c-c2*x 2,by grind⟩
  ·rw[h1,h0 0 (by decide),h0 1 (by decide)]at e
   exact Int.emod_eq_zero_of_dvd ⟨2*c,by grind⟩
 rcases L.one with z|⟨z,z1⟩|⟨z,z1,z2⟩
 ·exact⟨0,by decide,done 0 (by decide) z (λj hj=>by omega),z,λj hj=>by omega⟩
 ·have h0:∀j,j<1->x j=0:=λj hj=>by rw[show j=0 by omega];exact z
  exact⟨1,by decide,done 1 (by decide) z1 h0,z1,h0⟩
 ·have h0:∀j,j<2->x j=0:=λj hj=>by
   have:j=0∨j=1:=by omega
   rcases this with rfl|rfl
   ·exact z
   ·exact z1
  exact⟨2,by decide,done 2 (by decide) z2 h0,z2,h0⟩
structure rf(m:List (List Int))(p:Int)(x:Nat->Int)(i l o:Nat)(t c:Int):Prop where
 F:pK m p x i t
 L:gZ p x
 hc:aR m x%p=0
 w:aR m (cH p x i t)%(p*p)=0
 hl:l<3
 ho:o<3
 sum:i+l+o=3
 li:l≠i
 oi:o≠i
 ol:o≠l
 one:x l=1
 lo:0<=c
 up:c<p
 eq:(aD m x o+c*aD m x i)%p=0
def gW(p:Int)(x:Nat->Int)(i o:Nat)(t c:Int)(k:Nat):Nat->Int:=match k with
 |0=>cH p x i t
 |1=>λj=>if j=i then c*p else if j=o then p else 0
 |_=>λj=>if j=i then p*p else 0
def stepT(p:Int)(x:Nat->Int)(i o:Nat)(t c:Int):List (List Int):=mk3 λk j=>gW p x i o t c k j
theorem fV(p:Int)(x:Nat->Int)(i o:Nat)(t c:Int){k j:Nat}(hk:k<3)(hj:j<3):ent (stepT p x i o t c) k j=gW p x i o t c k j:=bQ _ hk hj
theorem zj{m:List (List Int)}{p:Int}{x:Nat->Int}{i l o:Nat}{t c:Int}(S:rf m p x i l o t c):aN (stepT p x i o t c)=p*p*p∨aN (stepT p x i o t c)= -(p*p*p):=by
 rw[cN]
 simp only[fV p x i o t c (show 0<3 by decide) (show 0<3 by decide),fV p x i o t c (show 0<3 by decide) (show 1<3 by decide),fV p x i o t c (show 0<3 by decide) (show 2<3 by decide),fV p x i o t c (show 1<3 by decide) (show 0<3 by decide),fV p x i o t c (show 1<3 by decide) (show 1<3 by decide),fV p x i o t c (show 1<3 by decide) (show 2<3 by decide),fV p x i o t c (show 2<3 by decide) (show 0<3 by decide),fV p x i o t c (show 2<3 by decide) (show 1<3 by decide),fV p x i o t c (show 2<3 by decide) (show 2<3 by decide),gW,cH]
 have one:=S.one
 have li:=S.li
 have hs:=S.sum
 have hi:=S.F.hi
 rcases aG hi with rfl|rfl|rfl<;>rcases aG S.hl with rfl|rfl|rfl<;>rcases aG S.ho with rfl|rfl|rfl<;>first|(exfalso;omega)|(simp[one];grind)|(simp[one])
theorem rg(m:List (List Int))(a b:Int)(x y:Nat->Int):cz m (λj=>a*x j) (λj=>b*y j)=a*b*cz m x y:=by
 rw[dh,dh]
 grind
theorem wj{m:List (List Int)}(h:cC m)(x y:Nat->Int):cz m x y=cz m y x:=by
 obtain⟨⟨s1,s2,s3⟩,_⟩:=h
 rw[dh,dh,s1,s2,s3]
 grind
theorem rj{m:List (List Int)}{x y x' y':Nat->Int}(h:∀i,i<3->x i=x' i)(k:∀i,i<3->y i=y' i):cz m x y=cz m x' y':=by
 rw[dh,dh,h 0 (by decide),h 1 (by decide),h 2 (by decide),k 0 (by decide),k 1 (by decide),k 2 (by decide)]
theorem LC{m:List (List Int)}(ev:cC m){p:Int}{x:Nat->Int}{i l o:Nat}{t c:Int}(S:rf m p x i l o t c):∃M:List (List Int),cu M/\cC M/\ ∀a b,a<3->b<3->cz m (gW p x i o t c a) (gW p x i o t c b)=p*p*ent M a b:=by
 obtain⟨w,hw⟩:=Int.dvd_of_emod_eq_zero S.w
 have hi:=S.F.hi
 have ho:=S.ho
 have k01:∃k,cz m (gW p x i o t c 0) (gW p x i o t c 1)=p*p*k:=by
  have e1:=j6 (m:=m) (p:=p) (x:=cH p x i t) (y:=x) (λj _=>pq p x i t j) o
  have e2:=j6 (m:=m) (p:=p) (x:=cH p x i t) (y:=x) (λj _=>pq p x i t j) i
  obtain⟨k1,h1⟩:=gY e1
  obtain⟨k2,h2⟩:=gY e2
  obtain⟨k3,h3⟩:=Int.dvd_of_emod_eq_zero S.eq
  refine⟨k1+c*k2+k3,?_⟩
  rw[gi]
  have e:aD m (gW p x i o t c 0) 0*gW p x i o t c 1 0+aD m (gW p x i o t c 0) 1*gW p x i o t c 1 1+aD m (gW p x i o t c 0) 2*gW p x i o t c 1 2=p*(aD m (cH p x i t) o+c*aD m (cH p x i t) i):=by
   show aD m (cH p x i t) 0*_+aD m (cH p x i t) 1*_+aD m (cH p x i t) 2*_=_
   have oi:=S.oi
   simp only[gW]
   rcases aG hi with rfl|rfl|rfl<;>rcases aG ho with rfl|rfl|rfl<;>first|(exact absurd rfl oi)|(simp;grind)
  rw[e,h1,h2]
  have:aD m x o+p*k1+c*(aD m x i+p*k2)=(aD m x o+c*aD m x i)+p*(k1+c*k2):=by grind
  rw[this,h3]
  grind
 obtain⟨k,hk⟩:=k01
 obtain⟨z1,hz1⟩:∃z1:Nat->Int,z1=λj=>if j=i then c else if j=o then 1 else 0:=⟨_,rfl⟩
 obtain⟨z2,hz2⟩:∃z2:Nat->Int,z2=λj=>if j=i then p else 0:=⟨_,rfl⟩
 have r1:∀j,gW p x i o t c 1 j=p*z1 j:=λj=>by
  rw[hz1]
  simp only[gW]
  split
  ·exact Int.mul_comm ..
  ·split<;>simp
 have r2:∀j,gW p x i o t c 2 j=p*z2 j:=λj=>by
  rw[hz2]
  simp only[gW]
  split<;>simp
 have YY:cz m (gW p x i o t c 0) (gW p x i o t c 0)=p*p*(2*w):=by
  have e:=iI ev (cH p x i t)
  show cz m (cH p x i t) (cH p x i t)=_
  rw[e,hw]
  grind
 have XN:cz m (gW p x i o t c 0) (gW p x i o t c 2)=p*p*aD m (cH p x i t) i:=by
  rw[gi]
  show aD m (cH p x i t) 0*_+aD m (cH p x i t) 1*_+aD m (cH p x i t) 2*_=_
  simp only[gW]
  rcases aG hi with rfl|rfl|rfl<;>simp<;>grind
 have YZ:cz m (gW p x i o t c 1) (gW p x i o t c 1)=p*p*(2*aR m z1):=by
  rw[<-iI ev z1,<-rg]
  exact rj (λj _=>r1 j) (λj _=>r1 j)
 have XO:cz m (gW p x i o t c 1) (gW p x i o t c 2)=p*p*cz m z1 z2:=by
  rw[<-rg]
  exact rj (λj _=>r1 j) (λj _=>r2 j)
 have Za:cz m (gW p x i o t c 2) (gW p x i o t c 2)=p*p*(2*aR m z2):=by
  rw[<-iI ev z2,<-rg]
  exact rj (λj _=>r2 j) (λj _=>r2 j)
 refine⟨g8 (2*w) (2*aR m z1) (2*aR m z2) k (aD m (cH p x i t) i) (cz m z1 z2),bH _,jR _ _ _ _ _ _,λa b ha hb=> ?_⟩
 rcases aG ha with rfl|rfl|rfl<;>rcases aG hb with rfl|rfl|rfl
 ·exact YY
 ·exact hk
 ·exact XN
 ·exact(wj ev _ _).trans hk
 ·exact YZ
 ·exact XO
 ·exact(wj ev _ _).trans XN
 ·exact(wj ev _ _).trans XO
 ·exact Za
theorem LD{m:List (List Int)}(ev:cC m){n:Nat}{x:Nat->Int}{i l o:Nat}{t c:Int}(S:rf m (n:Int) x i l o t c)(hp:(n:Int)∈([3,5,7,11,13]:List Int)){k:Nat}(hk:aR m (gU n x k)%((n:Int)*n)=0)(fk:∀j,j<k-> ¬aR m (gU n x j)%((n:Int)*n)=0){a:Nat}(ha:a<3):
  cz m (gU n x k) (gW n x i o t c a)%((n:Int)*n)=0/\ ∃d:Nat,d<n/\ ∀j,j<3->(gW n x i o t c a j- (d:Int)*x j)%(n:Int)=0:=by
 have n2:2<n:=by
  simp only[List.mem_cons,List.not_mem_nil,or_false]at hp
  omega
 obtain⟨tn,rfl⟩:∃tn:Nat,t=(tn:Int):=⟨t.toNat,by have:=S.F.lo;omega⟩
 obtain⟨_,k2,k3,k4⟩:=yM ev hp S.hc S.F
 have ek:jh n i tn=k:=EB (P:=λk=>aR m (gU n x k)%((n:Int)*n)=0) k3 k4 hk fk
 rw[ek]at k2
 obtain⟨M,_,_,hM⟩:=LC ev S
 refine⟨?_,?_⟩
 ·have e:cz m (gU n x k) (gW n x i o tn c a)=cz m (gW n x i o tn c 0) (gW n x i o tn c a):=rj k2 (λ_ _=>rfl)
  rw[e,hM 0 a (by decide) ha]
  exact Int.mul_emod_right _ _
 ·rcases aG ha with rfl|rfl|rfl
  ·refine⟨1,by omega,λj hj=> ?_⟩
   have:=pq (n:Int) x i tn j
   show(cH n x i tn j-1*x j)%(n:Int)=0
   rw[Int.one_mul]
   exact Int.emod_eq_emod_iff_emod_sub_eq_zero.mp this
  ·refine⟨0,by omega,λj hj=> ?_⟩
   show((if j=i then c*(n:Int)else if j=o then(n:Int)else 0) - ((0:Nat):Int)*x j)%(n:Int)=0
   split
   ·exact Int.emod_eq_zero_of_dvd ⟨c,by rw[Int.mul_comm];simp⟩
   ·split
    ·exact Int.emod_eq_zero_of_dvd ⟨1,by simp⟩
    ·simp
  ·refine⟨0,by omega,λj hj=> ?_⟩
   show((if j=i then(n:Int)*n else 0) - ((0:Nat):Int)*x j)%(n:Int)=0
   split
   ·exact Int.emod_eq_zero_of_dvd ⟨n,by simp⟩
   ·simp
structure Cl(M:(Nat->Int) ->Prop):Prop where
 zero:M λ_=>0
 add:∀x y c,M x->M y->M λj=>x j+c*y j
 ext:∀x y,M x->(∀j,j<3->x j=y j) ->M y
theorem Cl.mul{M:(Nat->Int) ->Prop}(h:Cl M){x:Nat->Int}(c:Int)(hx:M x):M λj=>c*x j:=h.ext _ _ (h.add _ _ c h.zero hx) λj _=>by simp
def In(M:(Nat->Int) ->Prop)(L:List (List Int)):Prop:=∀r∈L,M (az r)
def CO(A B:List (List Int)):Prop:=∀M,Cl M->(In M A↔In M B)
theorem CO.refl(A:List (List Int)):CO A A:=λ_ _=>Iff.rfl
theorem CO.trans{A B C:List (List Int)}(h:CO A B)(k:CO B C):CO A C:=λM c=>(h M c).trans (k M c)
theorem eV{M:(Nat->Int) ->Prop}{A B:List (List Int)}:In M (A++B)↔In M A/\In M B:=by
 unfold In
 constructor
 ·exact λh=>⟨λr hr=>h r (List.mem_append_left _ hr),λr hr=>h r (List.mem_append_right _ hr)⟩
 ·rintro⟨h1,h2⟩ r hr
  rcases List.mem_append.mp hr with z|z
  ·exact h1 r z
  ·exact h2 r z
theorem Td{M:(Nat->Int) ->Prop}{A B:List (List Int)}(p:A.Perm B):In M A↔In M B:=⟨λh r hr=>h r (p.mem_iff.mpr hr),λh r hr=>h r (p.mem_iff.mp hr)⟩
def HF(q:Int)(r y:List Int):List Int:=[az r 0-q*az y 0,az r 1-q*az y 1,az r 2-q*az y 2]
theorem iM(q:Int)(r y:List Int){j:Nat}(h:j<3):az (HF q r y) j=az r j-q*az y j:=by
 rcases aG h with rfl|rfl|rfl<;>rfl
def ff(k:Nat)(y:List Int)(L:List (List Int)):List (List Int):=L.map λr=>HF ((az r k).fdiv (az y k)) r y
theorem Pw{M:(Nat->Int) ->Prop}(c:Cl M){k:Nat}{y:List Int}{L:List (List Int)}(hy:M (az y)):In M (ff k y L)↔In M L:=by
 unfold In ff
 constructor
 ·intro h r hr
  have:=h _ (List.mem_map.mpr ⟨r,hr,rfl⟩)
  exact c.ext _ _ (c.add _ _ ((az r k).fdiv (az y k)) this hy) λj hj=>by rw[iM _ _ _ hj];omega
 ·intro h r hr
  obtain⟨r',hr',rfl⟩:=List.mem_map.mp hr
  exact c.ext _ _ (c.add _ _ (-((az r' k).fdiv (az y k))) (h r' hr') hy) λj hj=>by rw[iM _ _ _ hj,Int.neg_mul];omega
def tS(k:Nat)(L:List (List Int)):List (List Int):=L.filter λr=> !decide (az r k=0)
def xK(k:Nat)(L:List (List Int)):List (List Int):=L.filter λr=>decide (az r k=0)
theorem EV{M:(Nat->Int) ->Prop}(k:Nat)(L:List (List Int)):In M L↔In M (xK k L)/\In M (tS k L):=by
 unfold In xK tS
 constructor
 ·exact λh=>⟨λr hr=>h r (List.mem_filter.mp hr).1,λr hr=>h r (List.mem_filter.mp hr).1⟩
 ·rintro⟨h1,h2⟩ r hr
  by_cases e:az r k=0
  ·exact h1 r (List.mem_filter.mpr ⟨hr,by simp[e]⟩)
  ·exact h2 r (List.mem_filter.mpr ⟨hr,by simp[e]⟩)
theorem Px{x y:Int}(h:0<y):x-x.fdiv y*y=x%y/\x.fdiv y=x/y:=by
 have e:x.fdiv y=x/y:=Int.fdiv_eq_ediv_of_nonneg x (by omega)
 have:=Int.emod_add_mul_ediv x y
 rw[Int.mul_comm]at this
 exact⟨by rw[e];omega,e⟩
theorem jr{x y:Int}(hy:y≠0):(x-x.fdiv y*y).natAbs<y.natAbs/\(0<y->0<=x-x.fdiv y*y)/\(y<0->x-x.fdiv y*y<=0)/\(x.fdiv y).natAbs*y.natAbs<=x.natAbs+y.natAbs/\
  (((0<x/\0<y)∨(x<0/\y<0)) ->(x.fdiv y).natAbs*y.natAbs<=x.natAbs/\(y.natAbs<=x.natAbs->2*(x-x.fdiv y*y).natAbs<=x.natAbs)):=by
 have core:∀x y:Int,0<y->(x-x.fdiv y*y).natAbs<y.natAbs/\0<=x-x.fdiv y*y/\(x.fdiv y).natAbs*y.natAbs<=x.natAbs+y.natAbs/\(0<x->(x.fdiv y).natAbs*y.natAbs<=x.natAbs/\(y.natAbs<=x.natAbs->2*(x-x.fdiv y*y).natAbs<=x.natAbs)):=by
  intro x y h
  obtain⟨e1,e2⟩:=Px (x:=x) h
  have m0:=Int.emod_nonneg x (show y≠0 by omega)
  have m1:=Int.emod_lt_of_pos x h
  have e3:(x.fdiv y).natAbs*y.natAbs=(x.fdiv y*y).natAbs:=(Int.natAbs_mul _ _).symm
  rw[e3]
  generalize hq:x.fdiv y*y=q at e1 ⊢
  refine⟨by omega,by omega,by omega,λhx=>⟨?_,λhyx=> ?_⟩⟩
  ·have d0:0<=x/y:=Int.ediv_nonneg (by omega) (by omega)
   have:0<=q:=by rw[<-hq,e2];exact Int.mul_nonneg d0 (by omega)
   omega
  ·have d1:1<=x/y:=by
    rw[Int.le_ediv_iff_mul_le h]
    omega
   have:y<=q:=by
    rw[<-hq,e2]
    have:=Int.mul_le_mul_of_nonneg_right d1 (show 0<=y by omega)
    omega
   omega
 rcases Int.lt_or_gt_of_ne hy with h|h
 ·have e:x.fdiv y=(-x).fdiv (-y):=(Int.neg_fdiv_neg x y).symm
  obtain⟨a1,a2,a3,a4⟩:=core (-x) (-y) (by omega)
  rw[e]
  have e5: -x- (-x).fdiv (-y)* -y= -(x- (-x).fdiv (-y)*y):=by grind
  rw[e5]at a1 a2 a4
  rw[Int.natAbs_neg,Int.natAbs_neg]at a1 a4
  rw[Int.natAbs_neg,Int.natAbs_neg]at a3
  refine⟨a1,λz=>by omega,λ_=>by omega,a3,λz=> ?_⟩
  have hx:x<0:=by omega
  obtain⟨b1,b2⟩:=a4 (by omega)
  rw[Int.natAbs_neg]at b2
  exact⟨b1,b2⟩
 ·obtain⟨a1,a2,a3,a4⟩:=core x y h
  exact⟨a1,λ_=>a2,λz=>by omega,a3,λz=>a4 (by omega)⟩
structure Wk(k:Nat)(S:List (List Int))(E M m:Nat)(same:Bool)(Z:Nat):Prop where
 nz:∀r∈S,az r k≠0
 off:∀r∈S,∀j,j<3->j≠k->(az r j).natAbs<=E
 hi:∀r∈S,(az r k).natAbs<=M
 lo:∀r∈S,m<=(az r k).natAbs
 ex:∃r∈S,(az r k).natAbs=m
 sg:same=true->(∀r∈S,0<az r k)∨(∀r∈S,az r k<0)
 Zl:E*2^S.length*(M*M)*m*(if same then 1 else 3)<=Z
theorem HG(k:Nat):∀{S:List (List Int)},S≠ [] -> ∃r∈S,∀x∈S,(az r k).natAbs<=(az x k).natAbs
 | [],h=>absurd rfl h
 | [r],_=>⟨r,List.mem_cons_self,λx hx=>by rw[List.mem_singleton.mp hx];exact Nat.le_refl _⟩
 |r::s::S,_=>by
  obtain⟨z,hz,h⟩:=HG k (S:=s::S) (by simp)
  by_cases c:(az r k).natAbs<=(az z k).natAbs
  ·refine⟨r,List.mem_cons_self,λx hx=> ?_⟩
   rcases List.mem_cons.mp hx with rfl|hx
   ·exact Nat.le_refl _
   ·exact Nat.le_trans c (h x hx)
  ·refine⟨z,List.mem_cons_of_mem _ hz,λx hx=> ?_⟩
   rcases List.mem_cons.mp hx with rfl|hx
   ·omega
   ·exact h x hx
theorem Wk.start{k:Nat}{S:List (List Int)}{B E:Nat}(h0:S≠ [])(hl:S.length<=4)(nz:∀r∈S,az r k≠0)(off:∀r∈S,∀j,j<3->j≠k->(az r j).natAbs<=E)(hi:∀r∈S,(az r k).natAbs<=B):
  ∃m,Wk k S E B m false (48*(E*(B*B)*B)):=by
 obtain⟨r,hr,h⟩:=HG k h0
 refine⟨(az r k).natAbs,nz,off,hi,h,⟨r,hr,rfl⟩,λz=>by simp at z,?_⟩
 have p:2^S.length<=2^4:=Nat.pow_le_pow_right (by decide) hl
 have mb:=hi r hr
 simp only[Bool.false_eq_true,if_false]
 generalize(az r k).natAbs=m at mb ⊢
 generalize 2^S.length=t at p ⊢
 have e1:E*t*(B*B)*m*3=t*(E*(B*B)*m)*3:=by grind
 have e2:E*(B*B)*m<=E*(B*B)*B:=Nat.mul_le_mul_left _ mb
 have e3:t*(E*(B*B)*m)<=16*(E*(B*B)*B):=Nat.mul_le_mul p e2
 rw[e1]
 omega
theorem Te{k:Nat}{y r:List Int}{E M m Q:Nat}(hy:az y k≠0)(my:(az y k).natAbs=m)(oy:∀j,j<3->j≠k->(az y j).natAbs<=E)(orr:∀j,j<3->j≠k->(az r j).natAbs<=E)
  (hQ:((az r k).fdiv (az y k)).natAbs<=Q){j:Nat}(hj:j<3)(hk:j≠k):(az (HF ((az r k).fdiv (az y k)) r y) j).natAbs<=E*(1+Q):=by
 rw[iM _ _ _ hj]
 have h1:=orr j hj hk
 have h2:((az r k).fdiv (az y k)*az y j).natAbs<=Q*E:=by
  rw[Int.natAbs_mul]
  exact Nat.mul_le_mul hQ (oy j hj hk)
 have h3:E*(1+Q)=E+Q*E:=by grind
 omega
theorem Wk.step{k:Nat}{y:List Int}{rest:List (List Int)}{E M m Z:Nat}{same:Bool}(hk:k<3)(W:Wk k (y::rest) E M m same Z)(hr:rest≠ [])(Wc:∀r∈rest,(az y k).natAbs<=(az r k).natAbs):
  ∃E' m',Wk k (y::tS k (ff k y rest)) E' m m' true Z/\m<=M/\(∀r∈ff k y rest,∀j,j<3->j≠k->(az r j).natAbs<=E')/\(∀r∈ff k y rest,(az r k).natAbs<m):=by
 have ny:=W.nz y List.mem_cons_self
 have my:(az y k).natAbs=m:=by
  obtain⟨z,hz,e⟩:=W.ex
  have h1:=W.lo y List.mem_cons_self
  rcases List.mem_cons.mp hz with rfl|hz
  ·exact e
  ·have:=Wc z hz
   omega
 have m0:0<m:=by omega
 have mM:m<=M:=by have:=W.hi y List.mem_cons_self;omega
 obtain⟨Q,hQ,hQ2⟩:∃Q:Nat,(∀r∈rest,((az r k).fdiv (az y k)).natAbs<=Q)/\(1+Q)*m<=(if same then 2 else 3)*M:=by
  cases same with
  |true=>
   refine⟨M/m,λr hr=> ?_,?_⟩
   ·obtain⟨_,_,_,_,a5⟩:=jr (x:=az r k) ny
    have sg:(0<az r k/\0<az y k)∨(az r k<0/\az y k<0):=by
     rcases W.sg rfl with z|z
     ·exact .inl ⟨z r (List.mem_cons_of_mem _ hr),z y List.mem_cons_self⟩
     ·exact .inr ⟨z r (List.mem_cons_of_mem _ hr),z y List.mem_cons_self⟩
    have b1:=(a5 sg).1
    rw[my]at b1
    rw[Nat.le_div_iff_mul_le m0]
    exact Nat.le_trans b1 (W.hi r (List.mem_cons_of_mem _ hr))
   ·have:=Nat.div_mul_le_self M m
    rw[Nat.add_mul]
    simp only[if_true]
    omega
  |false=>
   refine⟨M/m+1,λr hr=> ?_,?_⟩
   ·obtain⟨_,_,_,a4,_⟩:=jr (x:=az r k) ny
    rw[my]at a4
    have hM:=W.hi r (List.mem_cons_of_mem _ hr)
    have:((az r k).fdiv (az y k)).natAbs*m<=M+m:=by omega
    have e:(M+m)/m=M/m+1:=Nat.add_div_right M m0
    rw[<-e,Nat.le_div_iff_mul_le m0]
    exact this
   ·have:=Nat.div_mul_le_self M m
    have e:(1+(M/m+1))*m=2*m+M/m*m:=by grind
    rw[e]
    simp only[Bool.false_eq_true,if_false]
    omega
 have off':∀r∈ff k y rest,∀j,j<3->j≠k->(az r j).natAbs<=E*(1+Q):=λr hr j hj hjk=>by
  obtain⟨r0,hr0,rfl⟩:=List.mem_map.mp hr
  exact Te (m:=m) (M:=M) ny my (W.off y List.mem_cons_self) (W.off r0 (List.mem_cons_of_mem _ hr0)) (hQ r0 hr0) hj hjk
 have lt':∀r∈ff k y rest,(az r k).natAbs<m:=λr hr=>by
  obtain⟨r0,hr0,rfl⟩:=List.mem_map.mp hr
  rw[iM _ _ _ hk,<-my]
  exact(jr ny).1
 have E0:E<=E*(1+Q):=by
  have:E*1<=E*(1+Q):=Nat.mul_le_mul_left _ (by omega)
  omega
 obtain⟨z,hz,hmin⟩:=HG k (S:=y::tS k (ff k y rest)) (by simp)
 have inr:∀{r},r∈tS k (ff k y rest) ->r∈ff k y rest/\az r k≠0:=λ {r} h=>by
  obtain⟨a,b⟩:=List.mem_filter.mp h
  exact⟨a,by simpa using b⟩
 have zm:(az z k).natAbs<=m:=by rw[<-my];exact hmin y List.mem_cons_self
 refine⟨E*(1+Q),(az z k).natAbs,⟨λr hr=> ?_,λr hr j hj hjk=> ?_,λr hr=> ?_,hmin,⟨z,hz,rfl⟩,λ_=> ?_,?_⟩,mM,off',lt'⟩
 ·rcases List.mem_cons.mp hr with rfl|hr
  ·exact ny
  ·exact(inr hr).2
 ·rcases List.mem_cons.mp hr with rfl|hr
  ·exact Nat.le_trans (W.off r List.mem_cons_self j hj hjk) E0
  ·exact off' r (inr hr).1 j hj hjk
 ·rcases List.mem_cons.mp hr with rfl|hr
  ·omega
  ·exact Nat.le_of_lt (lt' r (inr hr).1)
 ·rcases Int.lt_or_gt_of_ne ny with c|c
  ·refine .inr λr hr=> ?_
   rcases List.mem_cons.mp hr with rfl|hr
   ·exact c
   ·obtain⟨a,b⟩:=inr hr
    obtain⟨r0,hr0,rfl⟩:=List.mem_map.mp a
    rw[iM _ _ _ hk]at b ⊢
    have:=(jr (x:=az r0 k) ny).2.2.1 c
    omega
  ·refine .inl λr hr=> ?_
   rcases List.mem_cons.mp hr with rfl|hr
   ·exact c
   ·obtain⟨a,b⟩:=inr hr
    obtain⟨r0,hr0,rfl⟩:=List.mem_map.mp a
    rw[iM _ _ _ hk]at b ⊢
    have:=(jr (x:=az r0 k) ny).2.1 c
    omega
 ·--the WK
  have len:(tS k (ff k y rest)).length<=rest.length:=by
   have:=List.length_filter_le (λr=> !decide (az r k=0)) (ff k y rest)
   have e:(ff k y rest).length=rest.length:=List.length_map _
   show(List.filter _ _).length<=_
   omega
  have key:(if same then 2 else 3)*2^(tS k (ff k y rest)).length*(az z k).natAbs<=2^rest.length*M*(if same then 1 else 3):=by
   have p1:2^(tS k (ff k y rest)).length<=2^rest.length:=Nat.pow_le_pow_right (by decide) len
   cases same with
   |false=>
    simp only[Bool.false_eq_true,if_false]
    have:=Nat.mul_le_mul p1 (Nat.le_trans zm mM)
    generalize 2^(tS k (ff k y rest)).length=u at this ⊢
    generalize 2^rest.length=v at this ⊢
    have e1:3*u*(az z k).natAbs=3*(u*(az z k).natAbs):=Nat.mul_assoc _ _ _
    omega
   |true=>
    simp only[if_true]
    rw[Nat.mul_one]
    rcases Nat.lt_or_ge (tS k (ff k y rest)).length rest.length with c|c
    ·have p2:2*2^(tS k (ff k y rest)).length<=2^rest.length:=by
      rw[Nat.mul_comm,<-Nat.pow_succ]
      exact Nat.pow_le_pow_right (by decide) c
     exact Nat.mul_le_mul p2 (Nat.le_trans zm mM)
    ·cases rest with
     |nil=>exact absurd rfl hr
     |cons r1 rest=>
      have full:(ff k y (r1::rest)).length<=(tS k (ff k y (r1::rest))).length:=by
       have e:(ff k y (r1::rest)).length=(r1::rest).length:=List.length_map _
       omega
      have hm:HF ((az r1 k).fdiv (az y k)) r1 y∈ff k y (r1::rest):=List.mem_map.mpr ⟨r1,List.mem_cons_self,rfl⟩
      have keep:HF ((az r1 k).fdiv (az y k)) r1 y∈tS k (ff k y (r1::rest)):=by
       have e:List.filter (λr=> !decide (az r k=0)) (ff k y (r1::rest))=ff k y (r1::rest):=List.filter_sublist.eq_of_length_le full
       show _∈List.filter _ _
       rw[e]
       exact hm
      have h1:=hmin _ (List.mem_cons_of_mem _ keep)
      rw[iM _ _ _ hk]at h1
      have sg:(0<az r1 k/\0<az y k)∨(az r1 k<0/\az y k<0):=by
       rcases W.sg rfl with z|z
       ·exact .inl ⟨z r1 (by simp),z y (by simp)⟩
       ·exact .inr ⟨z r1 (by simp),z y (by simp)⟩
      have h2:=((jr (x:=az r1 k) ny).2.2.2.2 sg).2 (Wc r1 List.mem_cons_self)
      have h3:=W.hi r1 (by simp)
      have:2*(az z k).natAbs<=M:=by omega
      have e3:=Nat.mul_le_mul p1 this
      have e4:2*2^(tS k (ff k y (r1::rest))).length*(az z k).natAbs=2^(tS k (ff k y (r1::rest))).length*(2*(az z k).natAbs):=by rw[Nat.mul_comm 2,Nat.mul_assoc]
      omega
  have P:=W.Zl
  rw[List.length_cons,Nat.pow_succ]at P ⊢
  simp only[if_true,Nat.mul_one]
  generalize 2^(tS k (ff k y rest)).length=u at key ⊢
  generalize 2^rest.length=v at key P ⊢
  generalize(az z k).natAbs=m' at key ⊢
  generalize(if same then 2 else 3)=c2 at key hQ2
  generalize(if same then 1 else 3)=c1 at key P
  have s1:E*(1+Q)*(u*2)*(m*m)*m'=(E*2*m)*(((1+Q)*m)*(u*m')):=by grind
  have s2:((1+Q)*m)*(u*m')<=(c2*M)*(u*m'):=Nat.mul_le_mul_right _ hQ2
  have s3:(c2*M)*(u*m')=M*(c2*u*m'):=by grind
  have s4:M*(c2*u*m')<=M*(v*M*c1):=Nat.mul_le_mul_left _ key
  have s5:(E*2*m)*(M*(v*M*c1))=E*(v*2)*(M*M)*m*c1:=by grind
  rw[s1]
  refine Nat.le_trans (Nat.mul_le_mul_left _ (Nat.le_trans s2 (by rw[s3];exact s4))) ?_
  rw[s5]
  exact P
theorem Wk.bound{k:Nat}{S:List (List Int)}{E M m Z:Nat}{same:Bool}(W:Wk k S E M m same Z):E<=Z:=by
 obtain⟨r,hr,e⟩:=W.ex
 have m0:0<m:=by have:=W.nz r hr;omega
 have M0:0<M:=by have:=W.hi r hr;omega
 have c0:0<(if same then 1 else 3):=by cases same<;>decide
 have p:0<2^S.length*(M*M)*m*(if same then 1 else 3):=Nat.mul_pos (Nat.mul_pos (Nat.mul_pos (Nat.pow_pos (by decide)) (Nat.mul_pos M0 M0)) m0) c0
 have h:=W.Zl
 have e2:E*2^S.length*(M*M)*m*(if same then 1 else 3)=E*(2^S.length*(M*M)*m*(if same then 1 else 3)):=by
  simp only[Nat.mul_assoc]
 rw[e2]at h
 exact Nat.le_trans (Nat.le_mul_of_pos_right E p) h
end L2
namespace CP
open PySem PyProof.Rows
section
variable{M:Model}{A:Around}{E:Value->Shared->Prop}{s:Shared}{st:SortSt}{b:Nat->Bool}{n:Nat}{bd:Nat->StateT SortSt Sem (Option Bool)}
end
def LF(prog:Program)(w:World)(A:Around)(E:Value->Shared->Prop)(s:Shared)(κ:SortKind)(K:Keyed->Int)(D:Keyed->Prop):Prop:=
 ∀(st:SortSt)(x y:Keyed)(Q:Option Bool->SortSt->Prop),kindOf st=κ->D x->D y->Q (some (decide (K x<K y))) st->wpS (model prog w) A E s (lt' x y) Q st
section
variable{prog:Program}{w:World}{A:Around}{E:Value->Shared->Prop}{s:Shared}{κ:SortKind}{K:Keyed->Int}{D:Keyed->Prop}{st:SortSt}
theorem Py{ar:Array Keyed}{i:Nat}{x:Keyed}{Q:Keyed->SortSt->Prop}{M:Model}(h:ar[i]?=some x)(hq:Q x st):wpS M A E s (elem' ar i) Q st:=by
 rw[elem'_eq,h]
 exact wpS_pure hq
abbrev rv(a:Array Keyed)(i:Nat):List Keyed:=(a.toList.take i).reverse
end
def kA(K:Keyed->Int)(xs:Array Keyed)(i:Nat):Int:=match xs[i]? with
 |some p=>K p
 |none=>0
theorem rm{K:Keyed->Int}{xs ys:Array Keyed}{i j:Nat}(h:xs[i]?=ys[j]?):kA K xs i=kA K ys j:=by unfold kA;rw[h]
def So(K:Keyed->Int)(xs:Array Keyed)(lo n:Nat):Prop:=∀i j,i<=j->j<n->kA K xs (lo+i)<=kA K xs (lo+j)
def Si(K:Keyed->Int)(xs:Array Keyed)(lo n:Nat):Prop:=∀i j,i<=j->j<n->kA K xs (lo+j)<=kA K xs (lo+i)
theorem wm{K:Keyed->Int}{xs:Array Keyed}{i j:Nat}(hj:j<=xs.size)(k:Nat):
  kA K (mirror xs i j ((j-i)/2)) k=if i<=k/\k<j then kA K xs (i+j-1-k)else kA K xs k:=by
 have e:=getElem?_mirror_all (i:=i) hj k
 by_cases h1:i<=k/\k<j
 ·rw[if_pos h1]at e ⊢;exact rm e
 ·rw[if_neg h1]at e ⊢;exact rm e
theorem CQ{K:Keyed->Int}{xs:Array Keyed}{i j:Nat}(hj:j<=xs.size)(heq:∀k,i<=k->k<j->kA K xs k=kA K xs (j-1))(k:Nat):kA K (mirror xs i j ((j-i)/2)) k=kA K xs k:=by
 rw[wm hj]
 split
 ·rw[heq _ (by omega) (by omega),heq k (by omega) (by omega)]
 ·rfl
theorem LG{K:Keyed->Int}{xs:Array Keyed}{src d:Nat}(hs:src<xs.size)(hd:d<=src)(k:Nat):
  kA K (bubble xs src d) k=if k=src-d then kA K xs src else if src-d<k/\k<=src then kA K xs (k-1)else kA K xs k:=by
 have e:=getElem?_bubble hs d hd k
 by_cases h1:k=src-d
 ·rw[if_pos h1]at e ⊢;exact rm e
 ·rw[if_neg h1]at e ⊢
  by_cases h2:src-d<k/\k<=src
  ·rw[if_pos h2]at e ⊢;exact rm e
  ·rw[if_neg h2]at e ⊢;exact rm e
structure SC(lo:Nat)(s0 st:SortSt):Prop where
 perm:(arrOf st).Perm (arrOf s0)
 kind:kindOf st=kindOf s0
 failed:failedOf st=failedOf s0
 pend:pendingOf st=pendingOf s0
 low:∀i,i<lo->(arrOf st)[i]?=(arrOf s0)[i]?
theorem SC.refl(lo:Nat)(st:SortSt):SC lo st st:=⟨Array.Perm.refl _,rfl,rfl,rfl,λ_ _=>rfl⟩
theorem SC.trans{lo:Nat}{a b c:SortSt}(x:SC lo a b)(y:SC lo b c):SC lo a c:=⟨y.perm.trans x.perm,y.kind.trans x.kind,y.failed.trans x.failed,y.pend.trans x.pend,λi h=>(y.low i h).trans (x.low i h)⟩
theorem SC.size{lo:Nat}{a b:SortSt}(x:SC lo a b):(arrOf b).size=(arrOf a).size:=x.perm.size_eq
theorem SC.mirror{lo:Nat}{s0 st:SortSt}(x:SC lo s0 st){i j:Nat}(hi:lo<=i)(hj:j<=(arrOf st).size):SC lo s0 (setArr st (mirror (arrOf st) i j ((j-i)/2))):=
 x.trans ⟨mirror_perm _ _ _ _,rfl,rfl,rfl,λk hk=>by
  show(PyProof.Rows.mirror (arrOf st) i j ((j-i)/2))[k]?=_
  rw[getElem?_mirror_all hj,if_neg (by omega)]⟩
theorem SC.bubble{lo:Nat}{s0 st:SortSt}(x:SC lo s0 st){src d:Nat}(hs:src<(arrOf st).size)(hd:lo+d<=src):SC lo s0 (setArr st (bubble (arrOf st) src d)):=
 x.trans ⟨bubble_perm _ _ _,rfl,rfl,rfl,λk hk=>by
  show(PyProof.Rows.bubble (arrOf st) src d)[k]?=_
  rw[getElem?_bubble hs d (by omega),if_neg (by omega),if_neg (by omega)]⟩
structure SB(κ:SortKind)(D:Keyed->Prop)(st:SortSt):Prop where
 kind:kindOf st=κ
 failed:failedOf st=none
 all:∀x∈(arrOf st).toList,D x
theorem SB.sc{κ:SortKind}{D:Keyed->Prop}{lo:Nat}{s0 st:SortSt}(b:SB κ D s0)(x:SC lo s0 st):SB κ D st:=
 ⟨x.kind.trans b.kind,x.failed.trans b.failed,λy hy=>b.all y ((Array.perm_iff_toList_perm.mp x.perm).mem_iff.mp hy)⟩
section
variable{prog:Program}{w:World}{A:Around}{E:Value->Shared->Prop}{s:Shared}{κ:SortKind}{K:Keyed->Int}{D:Keyed->Prop}{st:SortSt}
theorem wo(hL:LF prog w A E s κ K D){i j:Nat}{Q:Option Bool->SortSt->Prop}(hB:SB κ D st)(hi:i<(arrOf st).size)(hj:j<(arrOf st).size)
  (h:Q (some (decide (kA K (arrOf st) i<kA K (arrOf st) j))) st):wpS (model prog w) A E s (ltAt' i j) Q st:=by
 rw[ltAt'_eq]
 refine wpS_bind (wpS_get ?_)
 show wpS _ _ _ _ (do let x<-elem' (arrOf st) i;let y<-elem' (arrOf st) j;lt' x y) Q st
 have e1:(arrOf st)[i]?=some (arrOf st)[i]:=getElem?_pos _ i hi
 have e2:(arrOf st)[j]?=some (arrOf st)[j]:=getElem?_pos _ j hj
 refine wpS_bind (Py e1 (wpS_bind (Py e2 ?_)))
 refine hL st _ _ _ hB.kind (hB.all _ (by simp)) (hB.all _ (by simp)) ?_
 unfold kA at h
 rw[e1,e2]at h
 exact h
theorem w_rev{M:Model}{i j:Nat}{Q:Unit->SortSt->Prop}(h:Q ⟨⟩ (setArr st (mirror (arrOf st) i j ((j-i)/2)))):wpS M A E s (reverseSlice' i j) Q st:=by
 rw[reverseSlice'_eq]
 exact wpS_modify h
theorem w_count(hL:LF prog w A E s κ K D){lo nrem:Nat}{Q:Option Nat->SortSt->Prop}(hB:SB κ D st)(h1:1<=nrem)(hz:lo+nrem<=(arrOf st).size)
  (hq:∀n st',SC lo st st'->1<=n->n<=nrem->So K (arrOf st') lo n->Q (some n) st'):wpS (model prog w) A E s (countRun' lo nrem) Q st:=by
 rw[countRun'_eq]
 refine wpS_bind (wpS_mono (wpS_forRange (I:=λx c st'=>st'=st/\c=(none,x)/\So K (arrOf st) lo x)
  (Q:=λc st'=>st'=st/\ ∃n,c=(none,n)/\1<=n/\n<=nrem/\So K (arrOf st) lo n/\(n=nrem∨kA K (arrOf st) (lo+n)<kA K (arrOf st) (lo+n-1))) ?_ ?_ ⟨rfl,rfl,λi j hij hj=> ?_⟩) ?_)
 ·rintro x c st' ha hx ⟨rfl,rfl,hs⟩
  dsimp only
  refine wpS_bind (wo hL hB (by omega) (by omega) ?_)
  dsimp only
  by_cases lt:kA K (arrOf st') (lo+x)<kA K (arrOf st') (lo+x-1)
  ·rw[decide_eq_true lt,if_pos rfl]
   exact wpS_pure ⟨rfl,x,rfl,ha,by omega,hs,.inr lt⟩
  ·rw[decide_eq_false lt,if_neg (by simp)]
   refine wpS_pure ⟨rfl,rfl,λi j hij hj=> ?_⟩
   by_cases c:j=x
   ·subst c
    by_cases c2:i=j
    ·subst c2;exact Int.le_refl _
    ·have:=hs i (j-1) (by omega) (by omega)
     rw[show lo+(j-1)=lo+j-1 by omega]at this
     omega
   ·exact hs i j hij (by omega)
 ·rintro c st' ⟨rfl,rfl,hs⟩
  rw[Nat.max_eq_right h1]at hs ⊢
  exact⟨rfl,nrem,rfl,h1,Nat.le_refl _,hs,.inl rfl⟩
 ·have:i=j:=by omega
  subst this
  exact Int.le_refl _
 rintro c st' ⟨rfl,n,rfl,n1,n2,hs,hend⟩
 dsimp only
 by_cases c1:(n==nrem)=true
 ·rw[if_pos c1]
  exact wpS_pure (hq n st' (.refl _ _) n1 n2 hs)
 rw[if_neg c1]
 have nn:n<nrem:=by
  have:n≠nrem:=λe=>c1 (by rw[e];simp)
  omega
 have hlt:kA K (arrOf st') (lo+n)<kA K (arrOf st') (lo+n-1):=hend.resolve_left (by omega)
 have part:∀s1:SortSt,SC lo st' s1->(∀k,kA K (arrOf s1) k=kA K (arrOf st') k) ->Si K (arrOf st') lo (n+1) -> ∀F:StateT SortSt Sem (Option Nat),F=(do
   rule "list.sort.descending-run"
   let mut n:=n
   n:=n+1
   let mut q:=0
   for _ in [n:nrem] do
    let some m<-ltAt' (lo+n) (lo+n-1)|return none
    if m then
     if q>0 then reverseSlice' (lo+n- (q+1)) (lo+n)
     q:=0
    else
     let some g<-ltAt' (lo+n-1) (lo+n)|return none
     if g then break
     q:=q+1
    n:=n+1
   if q>0 then reverseSlice' (lo+n- (q+1)) (lo+n)
   reverseSlice' lo (lo+n)
   for _ in [n:nrem] do
    let some m<-ltAt' (lo+n) (lo+n-1)|return none
    if m then break
    n:=n+1
   return some n) ->wpS (model prog w) A E s F Q s1:=by
  intro s1 S1 hk1 hd F hF
  subst hF
  refine wpS_bind (wpS_lift (wpAny_rule ⟨rfl,?_⟩))
  dsimp only
  have rest:∀(s2:SortSt)(m:Nat),SC lo st' s2->n+1<=m->m<=nrem->Si K (arrOf s2) lo m-> ∀F:StateT SortSt Sem (Option Nat),F=(do
    reverseSlice' lo (lo+m)
    let mut n:=m
    for _ in [n:nrem] do
     let some m<-ltAt' (lo+n) (lo+n-1)|return none
     if m then break
     n:=n+1
    return some n) ->wpS (model prog w) A E s F Q s2:=by
   intro s2 m S2 m1 m2 hd2 F hF
   subst hF
   have z2:=S2.size
   refine wpS_bind (w_rev ?_)
   have S3:=S2.mirror (i:=lo) (j:=lo+m) (Nat.le_refl _) (by omega)
   have hs3:So K (arrOf (setArr s2 (mirror (arrOf s2) lo (lo+m) ((lo+m-lo)/2)))) lo m:=by
    intro i j hij hj
    show kA K (mirror (arrOf s2) lo (lo+m) ((lo+m-lo)/2)) (lo+i)<=kA K (mirror (arrOf s2) lo (lo+m) ((lo+m-lo)/2)) (lo+j)
    rw[wm (by omega),wm (by omega),if_pos (by omega),if_pos (by omega)]
    have:=hd2 (m-1-j) (m-1-i) (by omega) (by omega)
    rw[show lo+(m-1-i)=lo+(lo+m) -1- (lo+i)by omega,show lo+(m-1-j)=lo+(lo+m) -1- (lo+j)by omega]at this
    exact this
   generalize setArr s2 (mirror (arrOf s2) lo (lo+m) ((lo+m-lo)/2))=s3 at S3 hs3 ⊢
   have z3:=S3.size
   have hB3:=hB.sc S3
   refine wpS_bind (wpS_mono (wpS_forRange (I:=λx c st''=>st''=s3/\c=(none,x)/\So K (arrOf s3) lo x)
    (Q:=λc st''=>st''=s3/\ ∃n,c=(none,n)/\1<=n/\n<=nrem/\So K (arrOf s3) lo n) ?_ ?_ ⟨rfl,rfl,hs3⟩) ?_)
   ·rintro x c st'' ha hx ⟨rfl,rfl,hs⟩
    dsimp only
    refine wpS_bind (wo hL hB3 (by omega) (by omega) ?_)
    dsimp only
    by_cases lt:kA K (arrOf st'') (lo+x)<kA K (arrOf st'') (lo+x-1)
    ·rw[decide_eq_true lt,if_pos rfl]
     exact wpS_pure ⟨rfl,x,rfl,by omega,by omega,hs⟩
    ·rw[decide_eq_false lt,if_neg (by simp)]
     refine wpS_pure ⟨rfl,rfl,λi j hij hj=> ?_⟩
     by_cases c:j=x
     ·subst c
      by_cases c2:i=j
      ·subst c2;exact Int.le_refl _
      ·have:=hs i (j-1) (by omega) (by omega)
       rw[show lo+(j-1)=lo+j-1 by omega]at this
       omega
     ·exact hs i j hij (by omega)
   ·rintro c st'' ⟨rfl,rfl,hs⟩
    rw[Nat.max_eq_right m2]at hs ⊢
    exact⟨rfl,nrem,rfl,by omega,Nat.le_refl _,hs⟩
   ·rintro c st'' ⟨rfl,n',rfl,a1,a2,a3⟩
    exact wpS_pure (hq n' st'' S3 a1 a2 a3)
  refine wpS_bind (wpS_mono (wpS_forRange (I:=λx c s2=> ∃q,c=(none,x,q)/\SC lo st' s2/\Si K (arrOf s2) lo x/\q+1<=x/\ ∀i,x- (q+1)<=i->i<x->kA K (arrOf s2) (lo+i)=kA K (arrOf s2) (lo+x-1))
   (Q:=λc s2=> ∃x q,c=(none,x,q)/\n+1<=x/\x<=nrem/\SC lo st' s2/\Si K (arrOf s2) lo x/\q+1<=x/\ ∀i,x- (q+1)<=i->i<x->kA K (arrOf s2) (lo+i)=kA K (arrOf s2) (lo+x-1)) ?_ ?_ ⟨0,rfl,S1,λi j hij hj=> ?_,by omega,λi h1 h2=> ?_⟩) ?_)
  ·rintro x c s2 ha hx ⟨q,rfl,S2,hd2,hq1,heq⟩
   dsimp only
   have z2:=S2.size
   have hB2:=hB.sc S2
   refine wpS_bind (wo hL hB2 (by omega) (by omega) ?_)
   dsimp only
   by_cases lt:kA K (arrOf s2) (lo+x)<kA K (arrOf s2) (lo+x-1)
   ·rw[decide_eq_true lt,if_pos rfl]
    have nxt:∀s3:SortSt,SC lo st' s3->(∀k,kA K (arrOf s3) k=kA K (arrOf s2) k) -> ∃q,((none,x+1,0):Option (Option Nat)×Nat×Nat)=(none,x+1,q)/\SC lo st' s3/\Si K (arrOf s3) lo (x+1)/\q+1<=x+1/\ ∀i,x+1- (q+1)<=i->i<x+1->kA K (arrOf s3) (lo+i)=kA K (arrOf s3) (lo+(x+1) -1):=by
     intro s3 S3 Uq
     refine⟨0,rfl,S3,λi j hij hj=> ?_,by omega,λi h1 h2=> ?_⟩
     ·rw[Uq,Uq]
      by_cases c:j=x
      ·subst c
       by_cases c2:i=j
       ·subst c2;exact Int.le_refl _
       ·have:=hd2 i (j-1) (by omega) (by omega)
        rw[show lo+(j-1)=lo+j-1 by omega]at this
        omega
      ·exact hd2 i j hij (by omega)
     ·have:i=x:=by omega
      subst this
      rfl
    by_cases LH:q>0
    ·rw[if_pos LH]
     refine wpS_bind (w_rev (wpS_pure (nxt _ (S2.mirror (by omega) (by omega)) λk=> ?_)))
     refine CQ (by omega) (λk k1 k2=> ?_) k
     have:=heq (k-lo) (by omega) (by omega)
     rw[show lo+(k-lo)=k by omega]at this
     exact this
    ·rw[if_neg LH]
     exact wpS_pure (nxt s2 S2 λ_=>rfl)
   ·rw[decide_eq_false lt,if_neg (by simp)]
    refine wpS_bind (wo hL hB2 (by omega) (by omega) ?_)
    dsimp only
    by_cases YV:kA K (arrOf s2) (lo+x-1)<kA K (arrOf s2) (lo+x)
    ·rw[decide_eq_true YV,if_pos rfl]
     exact wpS_pure ⟨x,q,rfl,ha,by omega,S2,hd2,hq1,heq⟩
    ·rw[decide_eq_false YV,if_neg (by simp)]
     have e:kA K (arrOf s2) (lo+x)=kA K (arrOf s2) (lo+x-1):=by omega
     refine wpS_pure ⟨q+1,rfl,S2,λi j hij hj=> ?_,by omega,λi h1 h2=> ?_⟩
     ·by_cases c:j=x
      ·subst c
       by_cases c2:i=j
       ·subst c2;exact Int.le_refl _
       ·have:=hd2 i (j-1) (by omega) (by omega)
        rw[show lo+(j-1)=lo+j-1 by omega]at this
        omega
      ·exact hd2 i j hij (by omega)
     ·rw[show lo+(x+1) -1=lo+x by omega,e]
      by_cases c:i=x
      ·subst c;exact e
      ·exact heq i (by omega) (by omega)
  ·rintro c s2 ⟨q,rfl,S2,hd2,hq1,heq⟩
   rw[Nat.max_eq_right (show n+1<=nrem by omega)]at hd2 hq1 heq ⊢
   exact⟨nrem,q,rfl,by omega,Nat.le_refl _,S2,hd2,hq1,heq⟩
  ·rw[hk1,hk1]
   exact hd i j hij hj
  ·have:i=n:=by omega
   subst this
   rfl
  ·rintro c s2 ⟨x,q,rfl,x1,x2,S2,hd2,hq1,heq⟩
   dsimp only
   have z2:=S2.size
   by_cases LH:q>0
   ·rw[if_pos LH]
    refine wpS_bind (w_rev ?_)
    have hk:∀k,kA K (arrOf (setArr s2 (mirror (arrOf s2) (lo+x- (q+1)) (lo+x) ((lo+x- (lo+x- (q+1)))/2)))) k=kA K (arrOf s2) k:=λk=>by
     refine CQ (by omega) (λk k1 k2=> ?_) k
     have:=heq (k-lo) (by omega) (by omega)
     rw[show lo+(k-lo)=k by omega]at this
     exact this
    exact rest _ x (S2.mirror (by omega) (by omega)) x1 x2 (λi j hij hj=>by rw[hk,hk];exact hd2 i j hij hj) _ rfl
   ·rw[if_neg LH]
    exact rest s2 x S2 x1 x2 hd2 _ rfl
 by_cases gt:n>1
 ·rw[if_pos gt]
  refine wpS_bind (wo hL hB (by omega) (by omega) ?_)
  dsimp only
  by_cases Yl:kA K (arrOf st') lo<kA K (arrOf st') (lo+n-1)
  ·rw[decide_eq_true Yl,if_pos rfl]
   exact wpS_pure (hq n st' (.refl _ _) n1 n2 hs)
  ·rw[decide_eq_false Yl,if_neg (by simp)]
   have hall:∀k,lo<=k->k<lo+n->kA K (arrOf st') k=kA K (arrOf st') (lo+n-1):=λk k1 k2=>by
    have a1:=hs 0 (k-lo) (by omega) (by omega)
    have a2:=hs (k-lo) (n-1) (by omega) (by omega)
    rw[show lo+(k-lo)=k by omega]at a1 a2
    rw[show lo+(n-1)=lo+n-1 by omega]at a2
    rw[Nat.add_zero]at a1
    omega
   refine wpS_bind (w_rev (part _ ((SC.refl lo st').mirror (Nat.le_refl _) (by omega)) (λk=>CQ (by omega) hall k) (λi j hij hj=> ?_) _ rfl))
   by_cases c:j=n
   ·subst c
    by_cases c2:i=j
    ·subst c2;exact Int.le_refl _
    ·rw[hall (lo+i) (by omega) (by omega)]
     omega
   ·rw[hall (lo+i) (by omega) (by omega),hall (lo+j) (by omega) (by omega)]
    exact Int.le_refl _
 ·rw[if_neg gt]
  have e1:n=1:=by omega
  subst e1
  refine part st' (.refl _ _) (λ_=>rfl) (λi j hij hj=> ?_) _ rfl
  by_cases c2:i=j
  ·subst c2;exact Int.le_refl _
  ·have:i=0:=by omega
   have:j=1:=by omega
   subst_vars
   rw[show lo+1-1=lo+0 by omega]at hlt
   omega
theorem Ym(hL:LF prog w A E s κ K D){lo n ok:Nat}{Q:Bool->SortSt->Prop}(hB:SB κ D st)(hok:ok<=n)(hz:lo+n<=(arrOf st).size)(hs:So K (arrOf st) lo ok)
  (h:∀st',SC lo st st'->So K (arrOf st') lo n->Q true st'):wpS (model prog w) A E s (binarySort' lo n ok) Q st:=by
 rw[binarySort'_eq]
 refine wpS_bind (wpS_mono (wpS_forRange (I:=λk c st'=>c=(none,())/\SC lo st st'/\So K (arrOf st') lo (min k n))
  (Q:=λc st'=>c=(none,())/\SC lo st st'/\So K (arrOf st') lo n) ?_ ?_ ⟨rfl,.refl _ _,λi j hij hj=> ?_⟩) ?_)
 ·rintro k c st' hak hkn ⟨rfl,S,hs'⟩
  rw[show min k n=k by omega]at hs'
  have z:=S.size
  have hk:lo+k<(arrOf st').size:=by omega
  have hB':=hB.sc S
  refine wpS_bind (wpS_mono (wpS_forRange (I:=λx c s2=>s2=st'/\ ∃l r,c=(none,l,r)/\l<=r/\r<=k/\r-l<=k-x/\
    (∀i,i<l->kA K (arrOf st') (lo+i)<=kA K (arrOf st') (lo+k))/\(∀i,r<=i->i<k->kA K (arrOf st') (lo+k)<kA K (arrOf st') (lo+i)))
   (Q:=λc s2=>s2=st'/\ ∃l r,c=(none,l,r)/\l<=k/\
    (∀i,i<l->kA K (arrOf st') (lo+i)<=kA K (arrOf st') (lo+k))/\(∀i,l<=i->i<k->kA K (arrOf st') (lo+k)<kA K (arrOf st') (lo+i))) ?_ ?_ ⟨rfl,0,k,rfl,by omega,by omega,by omega,λi hi=>by omega,λi h1 h2=>by omega⟩) ?_)
  ·rintro x c s2 _ hxk ⟨rfl,l,r,rfl,hlr,hrk,hm,hlo,hhi⟩
   dsimp only
   by_cases hge:l≥r
   ·rw[if_pos hge]
    have:l=r:=by omega
    subst this
    exact wpS_pure ⟨rfl,l,l,rfl,hrk,hlo,hhi⟩
   ·rw[if_neg hge]
    refine wpS_bind (wo hL hB' hk (by omega) ?_)
    by_cases less:kA K (arrOf s2) (lo+k)<kA K (arrOf s2) (lo+(l+r)/2)
    ·simp only[less,decide_true,if_true]
     refine wpS_pure ⟨rfl,l,(l+r)/2,rfl,by omega,by omega,by omega,hlo,λi h1 h2=> ?_⟩
     exact Int.lt_of_lt_of_le less (hs' _ _ h1 h2)
    ·simp only[less,decide_false,Bool.false_eq_true,if_false]
     refine wpS_pure ⟨rfl,(l+r)/2+1,r,rfl,by omega,by omega,by omega,λi h1=> ?_,hhi⟩
     exact Int.le_trans (hs' i ((l+r)/2) (by omega) (by omega)) (Int.not_lt.mp less)
  ·rintro c s2 ⟨rfl,l,r,rfl,hlr,hrk,hm,hlo,hhi⟩
   have:l=r:=by omega
   subst this
   exact⟨rfl,l,l,rfl,hrk,hlo,hhi⟩
  ·rintro c s2 ⟨rfl,l,r,rfl,hlk,hlo,hhi⟩
   dsimp only
   rw[moveDown'_eq,show lo+k- (lo+l)=k-l by omega]
   refine wpS_bind (wpS_modify (wpS_pure ⟨rfl,S.bubble hk (by omega),?_⟩))
   rw[show min (k+1) n=k+1 by omega]
   intro i j hij hj
   show kA K (bubble (arrOf s2) (lo+k) (k-l)) (lo+i)<=kA K (bubble (arrOf s2) (lo+k) (k-l)) (lo+j)
   have e:∀t,t<k+1->kA K (bubble (arrOf s2) (lo+k) (k-l)) (lo+t)=if t=l then kA K (arrOf s2) (lo+k)else if l<t then kA K (arrOf s2) (lo+(t-1))else kA K (arrOf s2) (lo+t):=by
    intro t ht
    rw[LG hk (by omega)]
    by_cases c1:t=l
    ·rw[if_pos (by omega),if_pos c1]
    ·rw[if_neg (by omega),if_neg c1]
     by_cases c2:l<t
     ·rw[if_pos (by omega),if_pos c2,show lo+t-1=lo+(t-1)by omega]
     ·rw[if_neg (by omega),if_neg c2]
   rw[e i (by omega),e j hj]
   repeat' split
   all_goals first
    |(exfalso;omega)
    |exact Int.le_refl _
    |exact hlo _ (by omega)
    |exact Int.le_of_lt (hhi _ (by omega) (by omega))
    |exact hs' _ _ (by omega) (by omega)
 ·rintro c st' ⟨hc,S,hs'⟩
  refine⟨hc,S,?_⟩
  rwa [show min (max (max ok 1) n) n=n by omega]at hs'
 ·by_cases h1:ok=0
  ·have:i=j:=by omega
   subst this;exact Int.le_refl _
  ·exact hs i j hij (by omega)
 ·rintro c st' ⟨rfl,S,hs'⟩
  exact wpS_pure (h st' S hs')
abbrev sl(a:Array Keyed)(lo n:Nat):List Keyed:=(a.toList.drop lo).take n
theorem Wd{a:Array Keyed}{lo n:Nat}(h:lo+n<=a.size):So K a lo n↔(sl a lo n).Pairwise λx y=>K x<=K y:=by
 have len:(sl a lo n).length=n:=by simp[sl];omega
 have at':∀i (hi:i<n),∃x,(sl a lo n)[i]'(by omega)=x/\kA K a (lo+i)=K x:=λi hi=>by
  refine⟨_,rfl,?_⟩
  have e:a[lo+i]?=some ((sl a lo n)[i]'(by omega)):=by
   rw[<-List.getElem?_eq_getElem]
   simp[sl,List.getElem?_take_of_lt hi]
  unfold kA
  rw[e]
 constructor
 ·intro hs
  rw[List.pairwise_iff_getElem]
  intro i j hi hj hij
  obtain⟨x,ex,kx⟩:=at' i (by omega)
  obtain⟨y,ey,ky⟩:=at' j (by omega)
  have:=hs i j (by omega) (by omega)
  rw[ex,ey,<-kx,<-ky]
  exact this
 ·intro hs i j hij hj
  by_cases c:i=j
  ·subst c;exact Int.le_refl _
  obtain⟨x,ex,kx⟩:=at' i (by omega)
  obtain⟨y,ey,ky⟩:=at' j hj
  have:=List.pairwise_iff_getElem.mp hs i j (by omega) (by omega) (by omega)
  rw[ex,ey,<-kx,<-ky]at this
  exact this
theorem CS{M:Model}{α:Type}{c:Prop}[Decidable c]{x y:StateT SortSt Sem α}{Q:α->SortSt->Prop}(h1:c->wpS M A E s x Q st)(h2:¬c->wpS M A E s y Q st):wpS M A E s (if c then x else y) Q st:=by
 split
 ·exact h1 ‹_›
 ·exact h2 ‹_›
end
theorem We:sortRuns'=(do
 let zz:=(arrOf (<-get)).size
 let mr:=minRun' zz zz 0
 let mut lo:=0
 for _ in [0:zz] do
  if lo≥zz then break
  let some f<-countRun' lo (zz-lo)|return
  let mut n:=f
  if n<mr then
   rule "list.sort.binary-insertion"
   let fo:=min (zz-lo) mr
   if !(<-binarySort' lo fo n)then return
   n:=fo
  if let some (a1,b1,_):=(pendingOf (<-get)).back? then
   let pw:=power' zz (2*a1+b1) (2*a1+b1+b1+n) zz
   for _ in [0:zz] do
    let p:=pendingOf (<-get)
    let some (_,_,od):=(if p.size>1 then p[p.size-2]? else none)|break
    if od<=pw then break
    if !(<-mergeAt' (p.size-2))then return
   modify λy=>setPending y ((pendingOf y).modify ((pendingOf y).size-1) λ (c,d,_)=>(c,d,pw))
  modify λy=>setPending y ((pendingOf y).push (lo,n,0))
  lo:=lo+n
 for _ in [0:zz] do
  let p:=pendingOf (<-get)
  if p.size<=1 then break
  let i:=p.size-2
  let be:=if i>0 then p[i-1]?.map (·.2.1)else none
  let i:=if be.any (· <(p[i+1]?.elim 0 (·.2.1)))then i-1 else i
  if !(<-mergeAt' i)then return):=rfl
section
variable{prog:Program}{w:World}{A:Around}{E:Value->Shared->Prop}{s:Shared}{κ:SortKind}{K:Keyed->Int}{D:Keyed->Prop}{st:SortSt}{a₀:Array Keyed}
end
end CP
namespace L2
open PySem PySem.Spec PyProof.Rows PySem.SeqAt
open AutoSeq1 (wpAny_loadPart')
open MeetsSeq MeetsSeq2 MeetsSeq3 SeqRoads2
mutual
inductive Wf:PyData->PyData->Prop
 |int(a b:Int):Wf (.int a) (.int b)
 |lst{xs ys:List PyData}:BA xs ys->Wf (.list xs) (.list ys)
inductive BA:List PyData->List PyData->Prop
 |nil:BA [] []
 |cons{x y:PyData}{xs ys:List PyData}:Wf x y->BA xs ys->BA (x::xs) (y::ys)
end
section
variable{A:Around}{s:Shared}
end
theorem BA.length:∀{xs ys:List PyData},BA xs ys->xs.length=ys.length
 |_,_,.nil=>rfl
 |_,_,.cons _ cs=>congrArg (· +1) cs.length
section
variable{prog:Program}{w:World}{A:Around}{E:Value->Shared->Prop}{s:Shared}
end
end L2
namespace L2
open PySem PySem.Spec PyProof.Rows PySem.SeqAt CP
section
variable{prog:Program}{w:World}{A:Around}{E:Value->Shared->Prop}{s:Shared}
theorem Tf{κ:SortKind}{K:Keyed->Int}{D:Keyed->Prop}(h:∀x y:Keyed,D x->D y-> ∀(E:Value->Shared->Prop) (Q:Bool->Shared->Prop),Q (decide (K x<K y)) s->wpAny (model prog w) A (keyLt' κ x.1 y.1) Q E s):LF prog w A E s κ K D:=by
 intro st x y Q hk hx hy hq
 rw[lt'_eq]
 refine wpS_bind (wpS_get ?_)
 rw[hk]
 refine wpS_bind (wpS_lift (wpAny_attempt (h x y hx hy _ _ ⟨rfl,?_⟩)))
 exact wpS_pure hq
end
section
variable{X:Cx}
end
end L2
namespace L2
open PySem PySem.Spec PyProof.Rows PySem.W PySem.Calls
abbrev kn(o:Obj):HO:= .AY o (.ext λ_=>True)
theorem Pz{P:Program}{w:World}{H:Hp}{h:Heap}{a:Addr}{o:Obj}(e:h.get? a=some o):fX P w H h a (kn o):=⟨e,trivial,⟨o,e⟩,λ_ _ _ _=>trivial⟩
theorem zk{pos pos2:Pos}{c:Value}:∀{l:List Value},TriplesOk l-> ∀{cv:Value},codeAmong pos (l++ [rawInt pos2.line,rawInt pos2.col,c])=some cv->codeAmong pos l=some cv∨cv=c
 | [],_,cv,h=>by
  simp only[List.nil_append,rawInt,codeAmong]at h
  split at h
  ·exact .inr (Option.some.inj h).symm
  ·cases h
 | .int x t:: .int y u::d::r,ht,cv,h=>by
  simp only[List.cons_append,codeAmong]at h ⊢
  split at h
  ·rename_i q
   rw[if_pos q]
   exact .inl h
  ·rename_i q
   rw[if_neg q]
   exact zk (l:=r) ht h
theorem vd{pos:Pos}{c:Value}:∀{l:List Value},TriplesOk l->TriplesOk (l++ [rawInt pos.line,rawInt pos.col,c])
 | [],_=>trivial
 | .int _ _:: .int _ _::_::r,h=>vd (l:=r) h
structure EW(X:Cx)(args:Arguments)(body:Expr)(sc:Scope)(H:Hp)(f:Addr):Prop where
 ex:∃(qual:Str)(pm ctv:Value)(c:Addr)(oc:Obj)(vs:Array Value)(q:Str)(t:Tok),
  H f=some (kn {cls:= .type "function",data:= .func (kla_fn "<lambda>" qual args body sc (cJ X.env sc.names []) pm (.ref c) ctv)})/\H c=some (kn oc)/\oc.data= .fields vs/\vs[1]?=some (.str q t)
theorem EW.same{X:Cx}{args:Arguments}{body:Expr}{sc:Scope}{H H':Hp}{f:Addr}(L:EW X args body sc H f)(s:av H H'):EW X args body sc H' f:=by
 obtain⟨qual,pm,ctv,c,oc,vs,q,t,e1,e2,e3,e4⟩:=L.ex
 exact⟨qual,pm,ctv,c,oc,vs,q,t,s _ _ e1,s _ _ e2,e3,e4⟩
section
variable{X:Cx}{pins:List (Addr×Obj)}{σ:St}{H:Hp}{s:Shared}{P:Addr}{args:Arguments}{body:Expr}{sc:Scope}{pos:Pos}{own N2:List Str}
theorem LI(I:Inv X pins σ H s)(hcd:gR X.K X.env.code P)(hP:(H P).isSome=true):∃c,X.env.code= .ref c/\CodeHd s.heap c P:=by
 obtain⟨c,o,vs,file,tf,flags,tg,MW,text,tt,ec,hc,hcl,hd,h11,Xw,h7,h9,Xx⟩:=hcd.ex
 have hcs:s.heap.get? c=some o:=I.xh c o hc
 have hcn:H c=none:=(I.bs c o (I.ok.mod.BJ c o hc)).2
 have ne:c≠P:=λe=>by rw[<-e,hcn]at hP;cases hP
 have Vk:vs.getD 11 .none= .ref P:=by
  have:vs.getD 11 .none=(vs[11]?).getD .none:=by simp
  rw[this,h11];rfl
 exact⟨c,ec,o,vs,file,tf,flags,tg,MW,text,tt,hcs,hcl,hd,h11,Vk,Xw,h7,h9,Xx,ne⟩
theorem LJ{Q:Value->Shared->Prop}{E:Value->Shared->Prop}{M:Model}{A:Around}(I:Inv X pins σ H s)(hcd:gR X.K X.env.code P)(hP:H P=some .DH)(bm:BM X.mg X.base)
  (Bk:uh sc.names X.env.scope.names own N2 X.N)(hdef:defaultsOf args X.env=([],[]))
  (h:∀f H' s',Inv X pins σ H' s'->av H H'->H f=none->EW X args body sc H' f->Q (.ref f) s'):wpAny M A (eval (.Lambda args body sc pos) X.env) Q E s:=by
 obtain⟨c,ec,C⟩:=LI I hcd (by rw[hP];rfl)
 obtain⟨ps,eP,tr,cs⟩:=I.hok P _ hP
 obtain⟨YO,ob,b1,b2,b3,b4,b5,b6⟩:=bm
 have hg:s.heap.Ns mainGlobals X.mg:=by have:=I.mod.glob.keeps I.bk;exact this
 have hgP:mainGlobals≠P:=λq=>by
  obtain⟨o,es,ep,e,hd,_⟩:=hg
  rw[q,eP]at e;cases e;cases hd
 have hbG:YO≠mainGlobals:=λq=>by
  obtain⟨o,es,ep,e,hd,_⟩:=I.mod.glob
  rw[q,e]at b3;cases b3;rw[hd]at b6;cases b6
 have hbP:YO≠P:=λq=>by
  have:=(I.bs _ _ b3).2
  rw[q,hP]at this;cases this
 have ba:s.heap.BuiltinsAt X.mg P:=⟨YO,ob,b1,b2,hbG,hbP,I.bk _ _ b3,b4,b5,b6⟩
 refine kla_eval hdef ?_
 cases q:codeAmong pos ps.toList with
 |some cv=>
  obtain⟨c',oc,vs,q',t',rfl,e2,e3,e4⟩:=cs pos cv q
  refine kla_makeFunctionHit (mg:=X.mg) (ux I Bk) I.ok.glob hg ec C eP tr q ba λctv h' tk hk hsz=> ?_
  have I1:Inv X pins σ H {s with heap:=h',toks:=tk}:=I.kept hk
  have I2:=I1.laid (a:=h'.objs.size) (o:=kn {cls:= .type "function",data:= .func (kla_fn "<lambda>" (X.env.qual++ "<lambda>") args body sc (cJ X.env sc.names []) ((X.mg "__name__").getD .none) (.ref c') ctv)}) (h':=h'.push _) (t':=tk) (λb o e=>Heap.get?_push_of_some _ e) (Nat.le_refl _) (Pz (Heap.get?_push_size _ rfl))
  have fr:H h'.objs.size=none:=I1.hok.fresh (Nat.le_refl _)
  exact h _ _ _ I2 (av.up fr) fr ⟨_,_,_,c',oc,vs,q',t',aq,(av.up fr) _ _ e2,e3,e4⟩
 |none=>
  refine kla_makeFunction (mg:=X.mg) (ux I Bk) I.ok.glob hg ec C eP tr q hgP ba λc' ctv h' tk hx hge hlt hrec htb=> ?_
  obtain⟨c2,oc,vs,t,e2,hoc,hd,hv⟩:=hrec
  cases e2
  have Vr:H c'=none:=I.hok.fresh hge
  have nP:P≠c':=λz=>by rw[z,Vr]at hP;cases hP
  have I1:Inv X pins σ (upd H c' (kn oc)) {s with heap:=h',toks:=tk}:=by
   have ne:∀{b u},H b=some u->b≠c':=λ {b u} e z=>by rw[z,Vr]at e;cases e
   have nP':∀{b},H b=none->b≠P:=λ {b} e z=>by rw[z,hP]at e;cases e
   refine I.un (t':=tk) ⟨λb o e n _ _=>hx b o (nP' n) e,λb o e n _ _=>⟨o.slots,hx b o (nP' n) e⟩,λb o e n _=>by rw[aH (Nat.ne_of_lt (Nat.lt_of_lt_of_le (Heap.lt_size e) hge))];exact n,λb o e _=> ?_,
    λb xs e=>by rw[aH (ne e)];exact e,λb o u e=>by rw[aH (ne e)];exact e,λb ps e=>⟨#[],by rw[aH (ne e),e];simp⟩⟩ (λb u e=> ?_)
   ·by_cases hb:b=P
    ·subst hb;exact⟨_,htb⟩
    ·exact⟨o,hx b o hb e⟩
   ·by_cases hb:b=c'
    ·subst hb
     rw[aq]at e
     cases e
     exact Pz hoc
    ·rw[aH hb]at e
     by_cases hb2:b=P
     ·subst hb2
      rw[hP]at e
      cases e
      refine⟨_,htb,by simpa using vd tr,λpos2 cv e2=> ?_⟩
      have e3:codeAmong pos2 (ps.toList++ [rawInt pos.line,rawInt pos.col,.ref c'])=some cv:=by simpa using e2
      rcases zk tr e3 with z|z
      ·obtain⟨c3,oc3,vs3,q3,t3,f1,f2,f3,f4⟩:=cs pos2 cv z
       exact⟨c3,oc3,vs3,q3,t3,f1,by rw[aH (ne f2)];exact f2,f3,f4⟩
      ·exact⟨c',oc,vs,_,t,z,aq,hd,hv⟩
     ·refine(I.hok b u e).stay (λd v hc2 q2=>hx d v (λz=> ?_) q2) (λd q2=>by rw[aH (ne q2)];exact q2) (λd xs q2=>by rw[aH (ne q2)];exact q2) (λd ob xs q2=>by rw[aH (ne q2)];exact q2)
      subst z
      rcases hc2 with z|z
      ·exact hb2 z.symm
      ·rw[hP]at z;cases z
  have I2:=I1.laid (a:=h'.objs.size) (o:=kn (kla_obj "<lambda>" (X.env.qual++ "<lambda>") args body sc (cJ X.env sc.names []) ((X.mg "__name__").getD .none) c' ctv)) (h':=h'.push _) (t':=tk) (λb o e=>Heap.get?_push_of_some _ e) (Nat.le_refl _) (Pz (Heap.get?_push_size _ rfl))
  have Vo:upd H c' (kn oc) h'.objs.size=none:=I1.hok.fresh (Nat.le_refl _)
  have QO:H h'.objs.size=none:=by
   have:=Vo
   rwa [aH (Nat.ne_of_gt hlt)]at this
  exact h _ _ _ I2 ((av.up Vr).trans (av.up Vo)) QO ⟨_,_,_,c',oc,vs,_,t,aq,(av.up Vo) _ _ aq,hd,hv⟩
end
section
variable{prog:Program}{w:World}{A:Around}{R:Result->Shared->Prop}{s:Shared}
theorem HH{a:Addr}{ar:Args}{o:Obj}{fd:FuncData}{bd:Expr}{q:Str}(room:A.depth<recursionLimit)(ho:s.heap.get? a=some o)(hfd:o.data= .func fd)
  (co:fd.scope.isCoroutine=false)(gen:fd.scope.isGenerator=false)(hbd:fd.body= .expr bd)(cd:s.heap.CodeRec fd.code q)
  (h:wpAny (model prog w) A.in1 (bindArgs fd ar) (λbs s1=>
   wpAny (model prog w) A.in1 (newFunctionEnv fd.scope fd.globals fd.closure bs (q++ ".<locals>.") (some a) fd.code none fd.builtins)
    (λev s2=>s2.heap.NoLimit/\codeAny (model prog w) A (.expr bd ev) R s2) (λe s'=>R (.error e) s') s1) (λe s'=>R (.error e) s') s):
  codeAny (model prog w) A (.call (.ref a) ar) R s:=by
 refine codeAny_of_tree ?_
 show wpAny _ A.in1 (callAny (.ref a) ar) _ _ s
 simp only[callAny]
 refine wpAny_bind (wpAny_load ho ?_)
 obtain⟨c,oc,vs,tq,hc,hoc,hdc,hq⟩:=cd
 simp only[hfd,callFunction,co,gen,hbd,hc]
 rw[hc]at h
 refine wpAny_bind (m:=field (.ref c) 1) (wpAny_field hoc hdc hq (wpAny_bind (wpAny_pure ?_)))
 refine wpAny_bind (wpAny_mono h (λbs s1 h1=>wpAny_bind (wpAny_mono h1 (λev s2 h2=> ?_) λ_ _ e=>e)) λ_ _ e=>e)
 exact wpAny_bind (wpAny_enterFrame h2.1 room (wpAny_pure (And.intro rfl h2.2)))
end
def Cx.lam(X:Cx)(B:Around)(sc:Scope)(N':List Str)(q:Str)(f:Addr)(cd:Value)(s:Shared)(H:Hp):Cx:=
 {X with
  N:=N'
  s₀:=s
  H₀:=H
  A:=B.deeper (envX q sc s.heap.objs.size f cd (cJ X.env sc.names []))
  env:=envX q sc s.heap.objs.size f cd (cJ X.env sc.names [])
  outer:=X.stack
  stack:=envX q sc s.heap.objs.size f cd (cJ X.env sc.names [])::X.stack
  ex:=[]
  fn:=λ_=>false
  calm:=true
  pn:=[]
  xe:=λ_ _=>False}
section
variable{X:Cx}{pins:List (Addr×Obj)}{σ:St}{H:Hp}{s:Shared}{sc:Scope}{x:Str}{N2:List Str}{B:Around}{q:Str}{f:Addr}{cd:Value}
theorem Tg{h':Heap}{tk:Nat}{v:V}{u:Value}(I:Inv X pins σ H s)(Bk:uh sc.names X.env.scope.names [x] N2 X.N)(hk:sc.kind= .function)(hnc:∀y∈sc.names,y.2≠ .cell)(hx:sc.names.lookup x=some .local)
  (hB:B.frames=some X.stack)(hh:B.handled=none)(hn:h'.Ns s.heap.objs.size (λy=>([(x,u)]:List (Str×Value)).reverse.lookup y))(keep:∀b o,s.heap.get? b=some o->h'.get? b=some o)(rv:RelV v u):
  Inv (X.lam B sc ([x]++N2) q f cd s H) [] (some v::σ) H {s with heap:=h',toks:=tk}:=by
 have lB:∀y c,(cJ X.env sc.names []).lookup y=some c->(y,NameKind.free)∈sc.names/\X.env.cells.lookup y=some c:=λy c h=>by
  have h2:(cellsFrom 0 sc.names (cJ X.env sc.names [])).lookup y=some c:=by rw[f6 hnc];exact h
  rcases kh I Bk (mem_of_lookup h2)with⟨_,z⟩|z
  ·exact absurd rfl (hnc _ z)
  ·exact z
 have Mx:∀b:Addr,b∉(X.lam B sc ([x]++N2) q f cd s H).ex:=λb z=>absurd (show b∈([]:List Addr)from z) (by simp)
 have ok:(X.lam B sc ([x]++N2) q f cd s H).Ok:=by
  refine⟨I.ok.mod,hk,rfl,rfl,Nat.le_refl _,λy z c h1 h2=>I.ok.inj y z c (lB y c h1).2 (lB z c h2).2,λy hy=> ?_,λy c hy _=>absurd hy (by show ¬(false=true);decide),λ_=>hh,Around.frames_deeper hB,.inr ⟨rfl,rfl⟩,λb hb=>absurd hb (Mx b),I.bs,Nat.le_trans I.ok.ID I.sz,λb _ _=>Mx b,λb hb=>absurd hb (Mx b),I.stack,I.uq⟩
  have hy':sc.names.lookup y=some .cell∨sc.names.lookup y=some .free:=hy
  rcases hy' with e|e
  ·exact absurd rfl (hnc _ (mem_of_lookup e))
  ·obtain⟨c,hc⟩:=lU I Bk y (mem_of_lookup e)
   have:=pC (n:=0) I Bk (mem_of_lookup e) hc
   rw[f6 hnc]at this
   exact⟨c,this⟩
 refine⟨ok,rfl,.refl I.bare.bare,Un.kept keep,⟨_,hn,λi y w e1 e2 e3=> ?_⟩,λy c hc=> ?_,I.fresh,λy c hc=>I.jO y c (lB y c hc).2,λp hp=>absurd (show p∈([]:List (Addr×Obj))from hp) (by simp),I.hok.kept keep,?_⟩
 ·cases i with
  |zero=>
   have ey:x=y:=Option.some.inj e1
   have ew:v=w:=by
    have:some (some v)=some (some w):=e2
    cases this;rfl
   subst ey ew
   refine⟨u,rv,.inl ⟨hx,?_⟩⟩
   simp[List.lookup]
  |succ i=>
   have Kh:N2[i]?=some y:=e1
   have Vn:σ[i]?=some (some w):=e2
   have hown:y∉([x]:List Str):=λhm=>by
    have nd:=Bk.Rw
    rw[List.nodup_append]at nd
    exact nd.2.2 y hm y (List.mem_of_getElem? Kh) rfl
   refine BR I Bk (n:=0) Kh Vn (f6 hnc).symm (λz hz=> .inr (c6 Bk.nd hz)) (λhv=>let⟨k,e,_⟩:=rT hv;⟨k,e⟩) hown keep e3 (λk e=> ?_)
   obtain⟨k',e',hk'⟩:=rT e3
   have e4:sc.names.lookup y=some k':=e'
   rw[e]at e4;cases e4
   exact hk'
 ·obtain⟨w,z⟩:=I.cell y c (lB y c hc).2
  exact⟨w,z.keeps keep⟩
 ·show(some v::σ).length=([x]++N2).length
  rw[List.length_cons,I.len,<-Bk.len]
  rfl
theorem Ti{args:Arguments}{body:Expr}{tb:TE}{v:V}{u:Value}{Q:VK}{E:Value->Shared->Prop}(I:Inv X pins σ H s)(L:EW X args body sc H f)(Bk:uh sc.names X.env.scope.names [x] N2 X.N)
  (hk:sc.kind= .function)(hco:sc.isCoroutine=false)(hgen:sc.isGenerator=false)(hnc:∀y∈sc.names,y.2≠ .cell)(hx:sc.names.lookup x=some .local)
  (hbind:∀qual cl pm c ctv u,bindArgs (kla_fn "<lambda>" qual args body sc cl pm c ctv) ⟨[u],[]⟩=pure [(x,u)])(hB:B.frames=some X.stack)(hh:B.handled=none)(hroom:B.depth<recursionLimit)
  (hbody:∀q cd,PE (X.lam B sc ([x]++N2) q f cd s H) body tb)(rv:RelV v u)(h:tb (some v::σ) H Q):wpAny (model X.prog X.w) B (call (.ref f) [u]) (EP X pins σ Q) E s:=by
 obtain⟨qual,pm,ctv,c,oc,vs,q,t,e1,e2,e3,e4⟩:=L.ex
 obtain⟨g1,_⟩:s.heap.get? f=some _/\_:=I.hok f _ e1
 obtain⟨g2,_⟩:s.heap.get? c=some oc/\_:=I.hok c _ e2
 refine wpAny_call (HH (q:=q) hroom g1 rfl hco hgen rfl ⟨c,oc,vs,t,rfl,g2,e3,e4⟩ ?_)
 rw[hbind]
 refine wpAny_pure (wpAny_newFunctionEnv hnc (λy hy=> ?_) (λh1 hns hsb=>⟨(I.DT).fresh _ hsb,?_⟩) hk)
 ·rw[List.mem_singleton.mp hy]
  exact hx
 have keep:∀b o,s.heap.get? b=some o->h1.get? b=some o:=λb o e=>hsb.extBut b o (Nat.ne_of_lt (Heap.lt_size e)) (Heap.get?_push_of_some _ e)
 have J:=Tg (q:=q) (f:=f) (cd:= .ref c) (tk:=s.toks+1) I Bk hk hnc hx hB hh hns keep rv
 refine kla_codeExpr (wpAny_mono (hbody q (.ref c) [] _ _ H Q J h) (λu' s' hs=> ?_) λ_ _ z=>False.elim z)
 obtain⟨v',H',J',r',q'⟩:=hs
 have I':Inv X pins σ H' s':=I.AZ (ch:=[]) J'.os J'.base J'.hok J'.bare λb z=>nomatch z
 exact⟨v',H',I',r',q'⟩
end
end L2
namespace L2
open PySem PySem.Spec PyProof.Rows PySem.Calls CP
theorem BB{α β:Type}{f:α->β}:∀{m n:List β},m.Perm n-> ∀l:List α,n=l.map f-> ∃l':List α,l'.Perm l/\m=l'.map f:=by
 intro m n p
 induction p with
 |nil=>
  intro l e
  exact⟨l,.refl _,e⟩
 |cons x _ ih=>
  intro l e
  cases l with
  |nil=>cases e
  |cons a l=>
   injection e with e1 e2
   obtain⟨l',p',e'⟩:=ih l e2
   exact⟨a::l',p'.cons a,by rw[List.map_cons,e1,e']⟩
 |swap x y r=>
  intro l e
  match l,e with
  |a::b::l,e=>
   injection e with e1 e2
   injection e2 with e2 e3
   exact⟨b::a::l,List.Perm.swap _ _ _,by simp[e1,e2,e3]⟩
 |trans _ _ ih1 ih2=>
  intro l e
  obtain⟨l2,p2,e2⟩:=ih2 l e
  obtain⟨l1,p1,e1⟩:=ih1 l2 e2
  exact⟨l1,p1.trans p2,e1⟩
inductive ve(kf:V->Int):List V->List Value->List Value->Prop
 |nil:ve kf [] [] []
 |cons{y:V}{u:Value}{ys:List V}{us ks:List Value}(t:Tok)(r:RelV y u):ve kf ys us ks->ve kf (y::ys) (u::us) (.int (kf y) t::ks)
theorem ve.out{kf:V->Int}{ys:List V}{us ks:List Value}(h:ve kf ys us ks):∃tr:List (Keyed×V),ks.zip us=tr.map Prod.fst/\ys=tr.map Prod.snd/\ ∀t∈tr,RelV t.2 t.1.2/\ ∃k,t.1.1= .int (kf t.2) k:=by
 induction h with
 |nil=>exact⟨[],rfl,rfl,λt h=>nomatch h⟩
 | @cons y u ys us ks t r _ ih=>
  obtain⟨tr,e1,e2,h⟩:=ih
  refine⟨((.int (kf y) t,u),y)::tr,by rw[List.zip_cons_cons,e1];rfl,by rw[e2];rfl,λz hz=> ?_⟩
  rcases List.mem_cons.mp hz with rfl|hz
  ·exact⟨r,t,rfl⟩
  ·exact h z hz
theorem ve.ints{kf:V->Int}{ys:List V}{us ks:List Value}(h:ve kf ys us ks):IntsAre ks (ys.map kf):=by
 induction h with
 |nil=>exact .nil
 |cons t r _ ih=>exact .cons _ t ih
theorem ve.snoc{kf:V->Int}{ys:List V}{us ks:List Value}{y:V}{u:Value}(h:ve kf ys us ks)(t:Tok)(r:RelV y u):ve kf (ys++ [y]) (us++ [u]) (ks++ [.int (kf y) t]):=by
 induction h with
 |nil=>exact .cons t r .nil
 |cons t' r' _ ih=>exact .cons t' r' ih
section
variable{prog:Program}{w:World}{A:Around}{E:Value->Shared->Prop}{s:Shared}
theorem LK:LF prog w A E s oneType' (λp=>numOf p.1) (λp=> ∃n t,p.1= .int n t):=
 Tf λx y hx hy E' Q hq=>by
  obtain⟨n,t,e1⟩:=hx
  obtain⟨m,u,e2⟩:=hy
  rw[keyLt'_oneType,e1,e2]
  rw[e1,e2]at hq
  exact oneLt_int hq
end
section
variable{X:Cx}{pins:List (Addr×Obj)}{σ:St}{H:Hp}{s:Shared}{B:Around}{a:Addr}{f:Value}{kf:V->Int}{ys:List V}{us:List Value}
theorem Vals.at{ys:List V}{us:List Value}(r:Vals ys us){j:Nat}{x:Value}(h:us[j]?=some x):∃v,ys[j]?=some v/\RelV v x:=by
 induction r generalizing j with
 |nil=>cases h
 |cons a _ ih=>
  cases j with
  |zero=>cases h;exact⟨_,rfl,a⟩
  |succ j=>exact ih h
abbrev Jz(pins:List (Addr×Obj))(a:Addr)(e1:Nat)(kS:Addr)(ks:Array Value)(e:Nat):List (Addr×Obj):=pins++ [(a,seqObj "list" #[] e1),(kS,seqObj "list" ks e)]
theorem CT{a:Addr}{o:Obj}(fa:gn X pins H a)(h:s.heap.get? a=some o)(hd:∀v,o.data≠ .cell v):s.heap.get? a=some o/\H a=none/\a≠X.env.locals/\a∉X.fs/\ ∀v,o.data≠ .cell v:=⟨h,fa.1,fa.2.1,fa.2.2.1,hd⟩
theorem BC{H':Hp}(fa:gn X pins H a)(h:H' a=none):gn X pins H' a:=⟨h,fa.2⟩
end
theorem PB{K:PySem.W.Frag}{H H':Hp}{a:Addr}{xs:List V}(h:aV K H a xs)(s:av H H'):aV K H' a xs:=by
 rcases h with h|h
 ·rcases h with h|⟨o,h⟩
  ·exact .inl (.inl (s _ _ h))
  ·exact .inl (.inr ⟨o,s _ _ h⟩)
 ·exact .inr h
def Yn(sc:Scope)(ks:List (Str×NameKind))(own N2 N:List Str):Bool:=
 BQ sc.names ks own N2 N && (sc.kind== .function) && !sc.isCoroutine && !sc.isGenerator && sc.names.all (λy=>y.2 != .cell) && own.all (λx=>sc.names.lookup x==some NameKind.local)
section
variable{X:Cx}{P:Addr}{te tb:TE}{e body:Expr}{args:Arguments}{sc:Scope}{x:Str}{N2:List Str}{p pos PC kpos:Pos}
end
end L2
namespace L2
open PySem PySem.Spec PyProof.Rows
def Zm(k:Nat)(F:List (List Int)):Prop:=F.length=k/\ ∀i,i<k-> ∃f,F[i]?=some f/\az f i≠0/\ ∀j,j<i->az f j=0
def WL(k:Nat)(L:List (List Int)):Prop:=∀r∈L,∀j,j<k->az r j=0
theorem PD(w0 w1 w2:Int):Cl λv=>w0*v 0+w1*v 1+w2*v 2=0 where
 zero:=by simp
 add x y c hx hy:=by
  have e:w0*(x 0+c*y 0)+w1*(x 1+c*y 1)+w2*(x 2+c*y 2)=(w0*x 0+w1*x 1+w2*x 2)+c*(w0*y 0+w1*y 1+w2*y 2):=by grind
  show w0*(x 0+c*y 0)+w1*(x 1+c*y 1)+w2*(x 2+c*y 2)=0
  rw[e,hx,hy]
  simp
 ext x y h e:=by rw[<-e 0 (by decide),<-e 1 (by decide),<-e 2 (by decide)];exact h
theorem JA(a b c:Nat->Int):Cl λv=> ∃x y z:Int,∀j,j<3->v j=x*a j+y*b j+z*c j where
 zero:=⟨0,0,0,λj _=>by simp⟩
 add u v k:=by
  rintro⟨x,y,z,h⟩ ⟨x',y',z',h'⟩
  exact⟨x+k*x',y+k*y',z+k*z',λj hj=>by show u j+k*v j=_;rw[h j hj,h' j hj];grind⟩
 ext u v:=by
  rintro⟨x,y,z,h⟩ e
  exact⟨x,y,z,λj hj=>by rw[<-e j hj];exact h j hj⟩
theorem PF{T:List (List Int)}{w0 w1 w2:Int}(h:∀a,a<3->w0*ent T a 0+w1*ent T a 1+w2*ent T a 2=0)(n:w0≠0∨w1≠0∨w2≠0):aN T=0:=by
 have h0:=h 0 (by decide)
 have h1:=h 1 (by decide)
 have h2:=h 2 (by decide)
 have e0:aN T*w0=0:=by
  rw[cN]
  have:(ent T 0 0*(ent T 1 1*ent T 2 2-ent T 1 2*ent T 2 1)+ent T 0 1*(ent T 1 2*ent T 2 0-ent T 1 0*ent T 2 2)+ent T 0 2*(ent T 1 0*ent T 2 1-ent T 1 1*ent T 2 0))*w0=
   (ent T 1 1*ent T 2 2-ent T 1 2*ent T 2 1)*(w0*ent T 0 0+w1*ent T 0 1+w2*ent T 0 2) - (ent T 0 1*ent T 2 2-ent T 0 2*ent T 2 1)*(w0*ent T 1 0+w1*ent T 1 1+w2*ent T 1 2)+(ent T 0 1*ent T 1 2-ent T 0 2*ent T 1 1)*(w0*ent T 2 0+w1*ent T 2 1+w2*ent T 2 2):=by grind
  rw[this,h0,h1,h2]
  simp
 have e1:aN T*w1=0:=by
  rw[cN]
  have:(ent T 0 0*(ent T 1 1*ent T 2 2-ent T 1 2*ent T 2 1)+ent T 0 1*(ent T 1 2*ent T 2 0-ent T 1 0*ent T 2 2)+ent T 0 2*(ent T 1 0*ent T 2 1-ent T 1 1*ent T 2 0))*w1=
   -(ent T 1 0*ent T 2 2-ent T 1 2*ent T 2 0)*(w0*ent T 0 0+w1*ent T 0 1+w2*ent T 0 2)+(ent T 0 0*ent T 2 2-ent T 0 2*ent T 2 0)*(w0*ent T 1 0+w1*ent T 1 1+w2*ent T 1 2) - (ent T 0 0*ent T 1 2-ent T 0 2*ent T 1 0)*(w0*ent T 2 0+w1*ent T 2 1+w2*ent T 2 2):=by grind
  rw[this,h0,h1,h2]
  simp
 have e2:aN T*w2=0:=by
  rw[cN]
  have:(ent T 0 0*(ent T 1 1*ent T 2 2-ent T 1 2*ent T 2 1)+ent T 0 1*(ent T 1 2*ent T 2 0-ent T 1 0*ent T 2 2)+ent T 0 2*(ent T 1 0*ent T 2 1-ent T 1 1*ent T 2 0))*w2=
   (ent T 1 0*ent T 2 1-ent T 1 1*ent T 2 0)*(w0*ent T 0 0+w1*ent T 0 1+w2*ent T 0 2) - (ent T 0 0*ent T 2 1-ent T 0 1*ent T 2 0)*(w0*ent T 1 0+w1*ent T 1 1+w2*ent T 1 2)+(ent T 0 0*ent T 1 1-ent T 0 1*ent T 1 0)*(w0*ent T 2 0+w1*ent T 2 1+w2*ent T 2 2):=by grind
  rw[this,h0,h1,h2]
  simp
 rcases n with n|n|n
 ·exact(Int.mul_eq_zero.mp e0).resolve_right n
 ·exact(Int.mul_eq_zero.mp e1).resolve_right n
 ·exact(Int.mul_eq_zero.mp e2).resolve_right n
def sj(T:List (List Int))(R:List (List Int)):Prop:=∀M,Cl M->(In M R↔ ∀a,a<3->M λj=>ent T a j)
theorem Tj{k:Nat}(hk:k<3){F L R T:List (List Int)}(tr:Zm k F)(ze:WL k L)(sp:CO (F++L) R)(bs:sj T R)(nd:aN T≠0):∃r∈L,az r k≠0:=by
 refine Classical.byContradiction λno=>nd ?_
 have z:∀r∈L,∀j,j<k+1->az r j=0:=λr hr j hj=>by
  by_cases c:j=k
  ·subst c
   exact Classical.byContradiction λn=>no ⟨r,hr,n⟩
  ·exact ze r hr j (by omega)
 have go:∀w0 w1 w2:Int,(∀f∈F,w0*az f 0+w1*az f 1+w2*az f 2=0) ->(∀r∈L,w0*az r 0+w1*az r 1+w2*az r 2=0) ->(w0≠0∨w1≠0∨w2≠0) ->aN T=0:=λw0 w1 w2 h1 h2 n=>
  PF (λa ha=>((bs _ (PD w0 w1 w2)).mp ((sp _ (PD w0 w1 w2)).mp (eV.mpr ⟨h1,h2⟩))) a ha) n
 obtain⟨len,tr⟩:=tr
 rcases aG hk with rfl|rfl|rfl
 ·have:F=[]:=List.length_eq_zero_iff.mp len
  subst this
  exact go 1 0 0 (λf hf=>nomatch hf) (λr hr=>by rw[z r hr 0 (by decide)];simp) (.inl (by decide))
 ·obtain⟨f0,e0,n0,_⟩:=tr 0 (by decide)
  have:F=[f0]:=by
   match F,len,e0 with
   | [a],_,e0=>rw[Option.some.inj e0]
  subst this
  refine go (-(az f0 1)) (az f0 0) 0 (λf hf=> ?_) (λr hr=>by rw[z r hr 0 (by decide),z r hr 1 (by decide)];simp) (.inr (.inl n0))
  rw[List.mem_singleton.mp hf]
  grind
 ·obtain⟨f0,e0,n0,_⟩:=tr 0 (by decide)
  obtain⟨f1,e1,n1,z1⟩:=tr 1 (by decide)
  have:F=[f0,f1]:=by
   match F,len,e0,e1 with
   | [a,b],_,e0,e1=>rw[Option.some.inj e0,Option.some.inj e1]
  subst this
  have z10:=z1 0 (by decide)
  refine go (az f0 1*az f1 2-az f0 2*az f1 1) (az f0 2*az f1 0-az f0 0*az f1 2) (az f0 0*az f1 1-az f0 1*az f1 0) (λf hf=> ?_) (λr hr=>by rw[z r hr 0 (by decide),z r hr 1 (by decide),z r hr 2 (by decide)];simp) (.inr (.inr ?_))
  ·simp only[List.mem_cons,List.not_mem_nil,or_false]at hf
   rcases hf with rfl|rfl<;>grind
  ·rw[z10,Int.mul_zero,Int.sub_zero]
   intro c
   rcases Int.mul_eq_zero.mp c with c|c
   ·exact n0 c
   ·exact n1 c
theorem HJ{a b:Int}(h:a*b=1):a=1∨a= -1:=by
 have h1:a.natAbs*b.natAbs=1:=by rw[<-Int.natAbs_mul,h];rfl
 have:=Nat.eq_one_of_mul_eq_one_right h1
 omega
theorem EX{F T:List (List Int)}(h:∀a,a<3-> ∃x y z:Int,∀j,j<3->ent F a j=x*ent T 0 j+y*ent T 1 j+z*ent T 2 j):∃k,aN F=k*aN T:=by
 obtain⟨x0,y0,z0,h0⟩:=h 0 (by decide)
 obtain⟨x1,y1,z1,h1⟩:=h 1 (by decide)
 obtain⟨x2,y2,z2,h2⟩:=h 2 (by decide)
 refine⟨x0*(y1*z2-z1*y2) -y0*(x1*z2-z1*x2)+z0*(x1*y2-y1*x2),?_⟩
 rw[cN,cN,h0 0 (by decide),h0 1 (by decide),h0 2 (by decide),h1 0 (by decide),h1 1 (by decide),h1 2 (by decide),h2 0 (by decide),h2 1 (by decide),h2 2 (by decide)]
 grind
theorem PK{F R T:List (List Int)}(hF:cu F)(sp:CO F R)(bs:sj T R)(nd:aN T≠0):aN F=aN T∨aN F= -(aN T):=by
 have row:∀a,a<3-> ∃r∈F,∀j,j<3->az r j=ent F a j:=λa ha=>by
  have l:a<F.length:=by rw[hF.1];exact ha
  refine⟨F[a],List.getElem_mem l,λj hj=> ?_⟩
  unfold az ent
  simp[l]
 have MW:∀M,Cl M->(∀a,a<3->M λj=>ent F a j) ->In M F:=λM c h r hr=>by
  obtain⟨a,ha,rfl⟩:=List.mem_iff_getElem.mp hr
  refine c.ext _ _ (h a (by rw[hF.1]at ha;exact ha)) λj hj=> ?_
  unfold az ent
  simp[ha]
 obtain⟨k1,e1⟩:∃k,aN T=k*aN F:=by
  refine EX λa ha=> ?_
  have c:=JA (λj=>ent F 0 j) (λj=>ent F 1 j) (λj=>ent F 2 j)
  refine(bs _ c).mp ((sp _ c).mp (MW _ c λb hb=> ?_)) a ha
  rcases aG hb with rfl|rfl|rfl
  ·exact⟨1,0,0,λj _=>by simp⟩
  ·exact⟨0,1,0,λj _=>by simp⟩
  ·exact⟨0,0,1,λj _=>by simp⟩
 obtain⟨k2,e2⟩:∃k,aN F=k*aN T:=by
  refine EX λa ha=> ?_
  have c:=JA (λj=>ent T 0 j) (λj=>ent T 1 j) (λj=>ent T 2 j)
  obtain⟨r,hr,er⟩:=row a ha
  have:=(sp _ c).mpr ((bs _ c).mpr λb hb=>by
   rcases aG hb with rfl|rfl|rfl
   ·exact⟨1,0,0,λj _=>by simp⟩
   ·exact⟨0,1,0,λj _=>by simp⟩
   ·exact⟨0,0,1,λj _=>by simp⟩) r hr
  obtain⟨x,y,z,h⟩:=this
  exact⟨x,y,z,λj hj=>by rw[<-er j hj];exact h j hj⟩
 have e3:k1*k2=1:=by
  have:(k1*k2)*aN T=1*aN T:=by rw[Int.one_mul,Int.mul_assoc,<-e2,<-e1]
  exact Int.eq_of_mul_eq_mul_right nd this
 rw[Int.mul_comm]at e3
 rcases HJ e3 with z|z<;>rw[e2,z]
 ·exact .inl (by simp)
 ·exact .inr (by simp)
def Wg(i j:Int):Prop:=j≠0/\j.natAbs<2^4096
section
variable{X:Cx}
theorem LL:vD X (binaryOp .FloorDiv) (rI Wg λi j=> .int (i.fdiv j)):=UW λi j _ _ _ _ _ hc q=>by
 refine floordiv_int hc.1 q (.inl (PyProof.noPylong_of_log2 ?_))
 have:=(Nat.log2_lt (by have:=hc.1;omega)).mpr hc.2
 omega
end
def iQ(H:Hp)(b:Addr):List Int:=match H b with
 |some (.lst xs)=>xs.map λv=>match v with| .int i=>i|_=>0
 |_=>[]
def HK(H:Hp)(b:Addr):Prop:=H b=some (.lst [.int (az (iQ H b) 0),.int (az (iQ H b) 1),.int (az (iQ H b) 2)])/\(iQ H b).length=3
theorem PL{H:Hp}{b:Addr}{x y z:Int}(e:H b=some (.lst [.int x,.int y,.int z])):HK H b/\iQ H b=[x,y,z]:=by
 have h:iQ H b=[x,y,z]:=by
  unfold iQ
  rw[e]
  rfl
 refine⟨⟨?_,by rw[h];rfl⟩,h⟩
 rw[h,e]
 rfl
theorem HK.keep{H H':Hp}{b:Addr}(h:HK H b)(s:∀o,H b=some o->H' b=some o):HK H' b/\iQ H' b=iQ H b:=by
 have e:iQ H' b=iQ H b:=by
  have e1:=s _ h.1
  have e2:=h.1
  unfold iQ at *
  rw[e1]
  conv=>rhs;rw[e2]
 exact⟨⟨by rw[e];exact s _ h.1,by rw[e];exact h.2⟩,e⟩
theorem PM{r:List Int}(h:r.length=3):r=[az r 0,az r 1,az r 2]:=by
 match r,h with
 | [a,b,c],_=>rfl
def iz(H:Hp)(as:List Addr):Prop:=∀b∈as,HK H b
def rws(H:Hp)(as:List Addr):List (List Int):=as.map (iQ H)
theorem iz.keep{H H':Hp}{as:List Addr}(h:iz H as)(s:∀b∈as,∀o,H b=some o->H' b=some o):iz H' as/\rws H' as=rws H as:=
 ⟨λb hb=>((h b hb).keep (s b hb)).1,List.map_congr_left λb hb=>((h b hb).keep (s b hb)).2⟩
theorem iz.same{H H':Hp}{as:List Addr}(h:iz H as)(s:av H H'):iz H' as/\rws H' as=rws H as:=h.keep λb _ o e=>s b o e
theorem yb{H:Hp}{t:Addr}{as:List Addr}{m:List (List Int)}(T:Tab H t as m)(h3:∀r∈m,r.length=3):iz H as/\rws H as=m:=by
 obtain⟨ht,pr⟩:=T
 clear ht
 induction pr with
 |nil=>exact⟨λb hb=>(nomatch hb),rfl⟩
 | @cons r b m as e _ ih=>
  have l:=h3 r List.mem_cons_self
  have e':H b=some (.lst [.int (az r 0),.int (az r 1),.int (az r 2)]):=by
   rw[e]
   conv=>lhs;rw[PM l]
   rfl
  obtain⟨o1,o2⟩:=PL e'
  obtain⟨i1,i2⟩:=ih λr hr=>h3 r (List.mem_cons_of_mem _ hr)
  refine⟨λc hc=> ?_,?_⟩
  ·rcases List.mem_cons.mp hc with rfl|hc
   ·exact o1
   ·exact i1 c hc
  ·show iQ H b::rws H as=_
   rw[o2,i2,<-PM l]
theorem JC{H:Hp}{t:Addr}{as:List Addr}(ht:H t=some (.lst (as.map V.ref)))(h:iz H as):Tab H t as (rws H as):=by
 refine⟨ht,?_⟩
 clear ht
 induction as with
 |nil=>exact .nil
 |cons b as ih=>
  refine .cons ?_ (ih λc hc=>h c (List.mem_cons_of_mem _ hc))
  have:=h b List.mem_cons_self
  rw[this.1]
  conv=>rhs;rw[PM this.2]
  rfl
def FY(H:Hp)(k:Nat)(as:List Addr):List Addr:=as.filter λb=>decide (az (iQ H b) k=0)
def BD(H:Hp)(k:Nat)(as:List Addr):List Addr:=as.filter λb=> !decide (az (iQ H b) k=0)
theorem wu(H:Hp)(k:Nat)(as:List Addr):rws H (FY H k as)=xK k (rws H as):=by
 unfold rws FY xK
 rw[List.filter_map]
 rfl
theorem HL(H:Hp)(k:Nat)(as:List Addr):rws H (BD H k as)=tS k (rws H as):=by
 unfold rws BD tS
 rw[List.filter_map]
 rfl
theorem p5(H:Hp)(as bs:List Addr):rws H (as++bs)=rws H as++rws H bs:=List.map_append
def vz(H:Hp)(k:Nat):V->Bool
 | .ref b=>decide (az (iQ H b) k=0)
 |_=>false
theorem JD(H:Hp)(k:Nat)(as:List Addr):((as.map V.ref).filter (vz H k)).map id=(FY H k as).map V.ref:=by
 rw[List.map_id,List.filter_map]
 rfl
theorem JE(H:Hp)(k:Nat)(as:List Addr):((as.map V.ref).filter λv=> !vz H k v).map id=(BD H k as).map V.ref:=by
 rw[List.map_id,List.filter_map]
 rfl
theorem zp{α:Type}(p:α->Bool):∀l:List α,(l.filter p).length+(l.filter λx=> !p x).length=l.length
 | []=>rfl
 |a::l=>by
  have ih:=zp p l
  rw[List.filter_cons,List.filter_cons]
  cases p a<;>simp<;>omega
theorem EY(a:Int):decide (V.int a=V.int 0)=decide (a=0):=by simp
def kW(H:Hp)(k:Nat):V->Nat
 | .ref b=>(az (iQ H b) k).natAbs
 |_=>0
def sumK(k:Nat)(S:List (List Int)):Nat:=(S.map λr=>(az r k).natAbs).sum
def muS(k:Nat)(σ:St)(H:Hp):Nat:=match(σ[4]?:Option (Option V))with
 |some (some (V.ref S))=>match H S with
  |some (.lst xs)=>(xs.map (kW H k)).sum
  |_=>0
 |_=>0
theorem PN{k:Nat}{a b c d:Option V}{S:Addr}{r:St}{H:Hp}{as:List Addr}(e:H S=some (.lst (as.map V.ref))):muS k (a::b::c::d::some (.ref S)::r) H=sumK k (rws H as):=by
 unfold muS sumK rws
 simp only[List.getElem?_cons_succ,List.getElem?_cons_zero,e,List.map_map]
 rfl
theorem LM{k:Nat}{A B:List (List Int)}(p:A.Perm B):sumK k A=sumK k B:=(p.map _).sum_nat
theorem xx(k:Nat)(p:List Int->Bool):∀L:List (List Int),sumK k (L.filter p)<=sumK k L
 | []=>Nat.le_refl _
 |r::L=>by
  have ih:=xx k p L
  unfold sumK at *
  rw[List.filter_cons]
  split
  ·simp only[List.map_cons,List.sum_cons]
   omega
  ·simp only[List.map_cons,List.sum_cons]
   omega
theorem EZ{k:Nat}(hk:k<3){y:List Int}(ny:az y k≠0):∀{rest:List (List Int)},(∀r∈rest,(az y k).natAbs<=(az r k).natAbs) ->sumK k (ff k y rest)+rest.length<=sumK k rest
 | [],_=>Nat.le_refl _
 |r::rest,h=>by
  have ih:=EZ hk ny (rest:=rest) λx hx=>h x (List.mem_cons_of_mem _ hx)
  have h1:=h r List.mem_cons_self
  have h2:(az (HF ((az r k).fdiv (az y k)) r y) k).natAbs<(az y k).natAbs:=by
   rw[iM _ _ _ hk]
   exact(jr ny).1
  unfold sumK ff at *
  simp only[List.map_cons,List.sum_cons,List.length_cons]
  omega
theorem LN{zs:List V}{as:List Addr}(p:zs.Perm (as.map V.ref)):∃bs:List Addr,zs=bs.map V.ref/\bs.Perm as:=by
 obtain⟨l,p',e⟩:=BB p as rfl
 exact⟨l,e,p'⟩
theorem m7{H:Hp}{b l:Addr}{as:List Addr}(h:HK H b)(e:H l=some (.lst (as.map V.ref))):b≠l:=by
 rintro rfl
 have e1:=h.1
 rw[e]at e1
 cases as with
 |nil=>cases e1
 |cons a as=>cases e1
def Ent(L:List (List Int))(B:Nat):Prop:=∀x∈L,∀j,j<3->(az x j).natAbs<=B
theorem Wk.perm{k:Nat}{S S':List (List Int)}{E M m Z:Nat}{same:Bool}(W:Wk k S E M m same Z)(p:S.Perm S'):Wk k S' E M m same Z where
 nz:=λr hr=>W.nz r (p.mem_iff.mpr hr)
 off:=λr hr=>W.off r (p.mem_iff.mpr hr)
 hi:=λr hr=>W.hi r (p.mem_iff.mpr hr)
 lo:=λr hr=>W.lo r (p.mem_iff.mpr hr)
 ex:=by
  obtain⟨r,hr,e⟩:=W.ex
  exact⟨r,p.mem_iff.mp hr,e⟩
 sg:=λh=>(W.sg h).imp (λz r hr=>z r (p.mem_iff.mpr hr)) λz r hr=>z r (p.mem_iff.mpr hr)
 Zl:=by rw[<-p.length_eq];exact W.Zl
structure Mid(k:Nat)(FA L S R:List (List Int))(Z B B1:Nat):Prop where
 cn:(xK k L).length+S.length<=4
 ll:L.length<=4
 zl:WL k L
 zs:WL k S
 sp:CO (FA++(xK k L++S)) R
 en:Ent (xK k L) B1
 wk:∃E M m same,Wk k S E M m same Z/\M<=B
theorem sq(k:Nat)(L:List (List Int)):xK k (xK k L)=xK k L:=by unfold xK;rw[List.filter_filter];simp
theorem CU(k:Nat)(A B:List (List Int)):xK k (A++B)=xK k A++xK k B:=List.filter_append ..
theorem yc{k:Nat}{L:List (List Int)}{x:List Int}:x∈xK k L↔x∈L/\az x k=0:=by
 unfold xK
 rw[List.mem_filter]
 simp
theorem Tn{k:Nat}{L:List (List Int)}{x:List Int}:x∈tS k L↔x∈L/\az x k≠0:=by
 unfold tS
 rw[List.mem_filter]
 simp
theorem Mid.step{k:Nat}(hk:k<3){FA L S R:List (List Int)}{Z B B1:Nat}(h:Mid k FA L S R Z B B1)(hz:Z<=B1){y:List Int}{rest:List (List Int)}(p:S.Perm (y::rest))(hr:rest≠ [])(Wc:∀r∈rest,(az y k).natAbs<=(az r k).natAbs):
  Mid k FA (xK k L++xK k (y::ff k y rest)) (tS k (y::ff k y rest)) R Z B B1/\sumK k (tS k (y::ff k y rest))<sumK k S:=by
 obtain⟨E,M,m,same,W,mB⟩:=h.wk
 have W1:=W.perm p
 have ny:az y k≠0:=W1.nz y List.mem_cons_self
 obtain⟨E',m',W2,mM,off,lt⟩:=W1.step hk hr Wc
 have zy:xK k (y::ff k y rest)=xK k (ff k y rest):=by
  unfold xK
  rw[List.filter_cons_of_neg (by simpa using ny)]
 have nzy:tS k (y::ff k y rest)=y::tS k (ff k y rest):=by
  unfold tS
  rw[List.filter_cons_of_pos (by simpa using ny)]
 have ls:S.length=rest.length+1:=p.length_eq
 have lr:(ff k y rest).length=rest.length:=List.length_map _
 have lz:(xK k (ff k y rest)).length+(tS k (ff k y rest)).length=rest.length:=by
  rw[<-lr]
  exact zp _ _
 have cn:=h.cn
 rw[zy,nzy]
 have zS:∀r∈y::rest,∀j,j<k->az r j=0:=λr hr=>h.zs r (p.mem_iff.mpr hr)
 have zR:∀r∈ff k y rest,∀j,j<k->az r j=0:=λr hr j hj=>by
  obtain⟨r0,h0,rfl⟩:=List.mem_map.mp hr
  rw[iM _ _ _ (by omega),zS r0 (List.mem_cons_of_mem _ h0) j hj,zS y List.mem_cons_self j hj]
  simp
 refine⟨⟨?_,?_,?_,?_,?_,?_,⟨E',m,m',true,W2,Nat.le_trans mM mB⟩⟩,?_⟩
 ·rw[CU,sq,sq,List.length_append,List.length_cons]
  omega
 ·rw[List.length_append]
  omega
 ·intro r hr
  rcases List.mem_append.mp hr with hr|hr
  ·exact h.zl r (yc.mp hr).1
  ·exact zR r (yc.mp hr).1
 ·intro r hr
  rcases List.mem_cons.mp hr with rfl|hr
  ·exact zS _ List.mem_cons_self
  ·exact zR r (Tn.mp hr).1
 ·refine CO.trans (λMm c=> ?_) h.sp
  rw[CU,sq,sq,eV,eV,eV,eV,eV,Td p]
  have e1:In Mm (y::tS k (ff k y rest))↔Mm (az y)/\In Mm (tS k (ff k y rest)):=by
   unfold In
   simp
  have e2:In Mm (y::rest)↔Mm (az y)/\In Mm rest:=by
   unfold In
   simp
  have e3:=EV (M:=Mm) k (ff k y rest)
  rw[e1,e2]
  constructor
  ·rintro⟨a,⟨b,d⟩,e,f⟩
   exact⟨a,b,e,(Pw c e).mp (e3.mpr ⟨d,f⟩)⟩
  ·rintro⟨a,b,e,f⟩
   have:=e3.mp ((Pw c e).mpr f)
   exact⟨a,⟨b,this.1⟩,e,this.2⟩
 ·rw[CU,sq,sq]
  intro r hr j hj
  rcases List.mem_append.mp hr with hr|hr
  ·exact h.en r hr j hj
  ·obtain⟨hr,e0⟩:=yc.mp hr
   by_cases c:j=k
   ·rw[c,e0]
    exact Nat.zero_le _
   ·have:=off r hr j hj c
    have:=W2.bound
    omega
 ·have e1:sumK k S=(az y k).natAbs+sumK k rest:=by
   rw[LM p]
   rfl
  have e2:sumK k (y::tS k (ff k y rest))=(az y k).natAbs+sumK k (tS k (ff k y rest)):=rfl
  have e3:sumK k (tS k (ff k y rest))<=sumK k (ff k y rest):=xx k _ _
  have e4:=EZ hk ny Wc
  have:0<rest.length:=List.length_pos_iff.mpr hr
  omega
theorem Mid.done{k:Nat}(hk:k<3){FA L S R:List (List Int)}{Z B B1:Nat}(h:Mid k FA L S R Z B B1)(tr:Zm k FA)(l:¬1<S.length):
  ∃x,S=[x]/\Zm (k+1) (FA++ [x])/\WL (k+1) (xK k L)/\CO (FA++ [x]++xK k L) R/\(∀j,j<3->(az x j).natAbs<=max Z B):=by
 obtain⟨E,M,m,same,W,mB⟩:=h.wk
 obtain⟨x,hx,_⟩:=W.ex
 have eS:S=[x]:=by
  match S,hx,l with
  | [a],hx,_=>rw[List.mem_singleton.mp hx]
  |a::b::S,_,l=>exact absurd (by simp:1<(a::b::S).length) l
 subst eS
 have nx:=W.nz x List.mem_cons_self
 have zx:=h.zs x List.mem_cons_self
 refine⟨x,rfl,⟨by rw[List.length_append,tr.1];rfl,λi hi=> ?_⟩,λr hr j hj=> ?_,CO.trans (λMm c=> ?_) h.sp,λj hj=> ?_⟩
 ·by_cases c:i=k
  ·refine⟨x,?_,by rw[c];exact nx,λj hj=>zx j (by omega)⟩
   rw[List.getElem?_append_right (by rw[tr.1,c];exact Nat.le_refl _),tr.1,c,Nat.sub_self]
   rfl
  ·obtain⟨f,e,n,z⟩:=tr.2 i (by omega)
   refine⟨f,?_,n,z⟩
   rw[List.getElem?_append_left (by rw[tr.1];omega)]
   exact e
 ·obtain⟨h1,h2⟩:=yc.mp hr
  by_cases c:j=k
  ·rw[c]
   exact h2
  ·exact h.zl r h1 j (by omega)
 ·rw[eV,eV,eV,eV]
  constructor
  ·rintro⟨⟨a,b⟩,d⟩
   exact⟨a,d,b⟩
  ·rintro⟨a,d,b⟩
   exact⟨⟨a,b⟩,d⟩
 ·by_cases c:j=k
  ·rw[c]
   have:=W.hi x List.mem_cons_self
   have:=Nat.le_max_right Z B
   omega
  ·have:=W.off x List.mem_cons_self j hj c
   have:=W.bound
   have:=Nat.le_max_left Z B
   omega
theorem Mid.small{k:Nat}{FA L S R:List (List Int)}{Z B B1:Nat}(h:Mid k FA L S R Z B B1):∀x∈S,az x k≠0/\ ∀j,j<3->(az x j).natAbs<=max Z B:=by
 obtain⟨E,M,m,same,W,mB⟩:=h.wk
 refine λx hx=>⟨W.nz x hx,λj hj=> ?_⟩
 by_cases c:j=k
 ·rw[c]
  have:=W.hi x hx
  have:=Nat.le_max_right Z B
  omega
 ·have:=W.off x hx j hj c
  have:=W.bound
  have:=Nat.le_max_left Z B
  omega
theorem LO(k:Nat)(y:List Int)(L:List (List Int))(i:Nat)(hi:i<L.length):ff k y (L.take (i+1))=ff k y (L.take i)++ [HF ((az L[i] k).fdiv (az y k)) L[i] y]:=by
 unfold ff
 rw[List.take_succ_eq_append_getElem hi,List.map_append]
 rfl
def QW(p:Int)(s:Nat->Int)(y:Nat->Int):Prop:=(s 0*y 0+s 1*y 1+s 2*y 2)%p=0
theorem Fb{p:Int}{s y:Nat->Int}:QW p (λk=>s k%p) y↔QW p s y:=by
 unfold QW
 have e0:=Int.emod_add_mul_ediv (s 0) p
 have e1:=Int.emod_add_mul_ediv (s 1) p
 have e2:=Int.emod_add_mul_ediv (s 2) p
 have e:(s 0%p*y 0+s 1%p*y 1+s 2%p*y 2)%p=(s 0*y 0+s 1*y 1+s 2*y 2)%p:=by
  refine lG (k:= -(s 0/p*y 0+s 1/p*y 1+s 2/p*y 2)) ?_
  generalize s 0%p=a0 at e0 ⊢
  generalize s 1%p=a1 at e1 ⊢
  generalize s 2%p=a2 at e2 ⊢
  generalize s 0/p=b0 at e0 ⊢
  generalize s 1/p=b1 at e1 ⊢
  generalize s 2/p=b2 at e2 ⊢
  rw[<-e0,<-e1,<-e2]
  grind
 rw[e]
def um(p:Int)(q:Nat)(w:Nat->Int)(k j:Nat):Int:=if k=q then(if j=q then p else 0)else(if j=k then 1 else if j=q then-(w k)else 0)
theorem Wh{p u:Int}{s:Nat->Int}{q:Nat}(hp:1<p)(hq:q<3)(hu:u*s q%p=1){k:Nat}(hk:k<3):QW p s (um p q (λk=>s k*u%p) k):=by
 obtain⟨k1,h1⟩:=gY (show u*s q%p=1%p by rw[hu];exact(bL (by decide) hp).symm)
 have e:=Int.emod_add_mul_ediv (s k*u) p
 unfold QW
 by_cases c:k=q
 ·subst c
  refine Int.emod_eq_zero_of_dvd ⟨s k,?_⟩
  unfold um
  rcases aG hk with rfl|rfl|rfl<;>simp[Int.mul_comm]
 ·have e2:s 0*um p q (λk=>s k*u%p) k 0+s 1*um p q (λk=>s k*u%p) k 1+s 2*um p q (λk=>s k*u%p) k 2=s k-s q*(s k*u%p):=by
   unfold um
   rw[if_neg c]
   rcases aG hk with rfl|rfl|rfl<;>rcases aG hq with rfl|rfl|rfl<;>first|(exact absurd rfl c)|(simp;rw[Int.mul_neg];omega)
  rw[e2]
  refine Int.emod_eq_zero_of_dvd ⟨s q*(s k*u/p) -s k*k1,?_⟩
  generalize s k*u%p=w at e ⊢
  generalize s k*u/p=v at e ⊢
  have e3:w=s k*u-p*v:=by omega
  rw[e3]
  have e4:s k-s q*(s k*u-p*v)=s k-s k*(u*s q)+p*(s q*v):=by grind
  rw[e4,h1]
  grind
theorem To{M:(Nat->Int) ->Prop}(c:Cl M){p u:Int}{s:Nat->Int}{q:Nat}(hp:1<p)(hq:q<3)(hu:u*s q%p=1)(h:∀k,k<3->M λj=>p*um p q (λk=>s k*u%p) k j){y:Nat->Int}(hy:QW p s y):M λj=>p*y j:=by
 obtain⟨k1,h1⟩:=gY (show u*s q%p=1%p by rw[hu];exact(bL (by decide) hp).symm)
 obtain⟨z,hz⟩:=Int.dvd_of_emod_eq_zero hy
 have go:∀a b:Nat,a<3->b<3->a≠q->b≠q->a≠b->s q*y q+s a*y a+s b*y b=p*z->M λj=>p*y j:=λa b ha hb na nb nab e=>by
  have ea:=Int.emod_add_mul_ediv (s a*u) p
  have eb:=Int.emod_add_mul_ediv (s b*u) p
  have dv:y q+y a*(s a*u%p)+y b*(s b*u%p)=p*(u*z-k1*y q-s a*u/p*y a-s b*u/p*y b):=by
   generalize s a*u%p=wa at ea ⊢
   generalize s a*u/p=va at ea ⊢
   generalize s b*u%p=wb at eb ⊢
   generalize s b*u/p=vb at eb ⊢
   have e3:wa=s a*u-p*va:=by omega
   have e4:wb=s b*u-p*vb:=by omega
   rw[e3,e4]
   have e5:y q=u*s q*y q-p*k1*y q:=by rw[h1];grind
   have e6:y q+y a*(s a*u-p*va)+y b*(s b*u-p*vb)=(u*s q*y q-p*k1*y q)+y a*(s a*u-p*va)+y b*(s b*u-p*vb):=by rw[<-e5]
   rw[e6]
   have e7:(u*s q*y q-p*k1*y q)+y a*(s a*u-p*va)+y b*(s b*u-p*vb)=u*(s q*y q+s a*y a+s b*y b) -p*(k1*y q+va*y a+vb*y b):=by grind
   rw[e7,e]
   clear e7 e6 e5 e3 e4 ea eb e hz h1 hy h hu
   grind
  generalize u*z-k1*y q-s a*u/p*y a-s b*u/p*y b=d at dv
  refine c.ext _ _ (c.add _ _ d (c.add _ _ (y b) (c.mul (y a) (h a ha)) (h b hb)) (h q hq)) λj hj=> ?_
  unfold um
  rw[if_neg na,if_neg nb,if_pos rfl]
  have cases:j=q∨j=a∨j=b:=by omega
  rcases cases with rfl|rfl|rfl
  ·rw[if_neg (Ne.symm na),if_pos rfl,if_neg (Ne.symm nb),if_pos rfl,if_pos rfl]
   dsimp only
   generalize s a*u%p=wa at dv ⊢
   generalize s b*u%p=wb at dv ⊢
   have:y j=p*d-y a*wa-y b*wb:=by omega
   rw[this]
   grind
  ·rw[if_pos rfl,if_neg nab,if_neg na,if_neg na]
   grind
  ·rw[if_neg (Ne.symm nab),if_neg nb,if_pos rfl,if_neg nb]
   grind
 rcases aG hq with rfl|rfl|rfl
 ·exact go 1 2 (by decide) (by decide) (by decide) (by decide) (by decide) hz
 ·exact go 0 2 (by decide) (by decide) (by decide) (by decide) (by decide) (by rw[<-hz];omega)
 ·exact go 0 1 (by decide) (by decide) (by decide) (by decide) (by decide) (by rw[<-hz];omega)
theorem Tq{m:List (List Int)}(ev:cC m){p:Int}{x:Nat->Int}{i l o:Nat}{t c:Int}(S:rf m p x i l o t c)(hp:p∈([3,5,7,11,13]:List Int)){M:(Nat->Int) ->Prop}(cl:Cl M)(h:∀a,a<3->M λj=>gW p x i o t c a j){y:Nat->Int}(hy:QW p (aD m x) y):M λj=>p*y j:=by
 have p1:1<p:=by
  simp only[List.mem_cons,List.not_mem_nil,or_false]at hp
  omega
 obtain⟨v,_,hv⟩:=pI hp S.F.sl
 obtain⟨k1,h1⟩:=gY (show(1+(v:Int))*aD m x i%p=1%p by rw[hv];exact(bL (by decide) p1).symm)
 obtain⟨k2,h2⟩:=Int.dvd_of_emod_eq_zero S.eq
 obtain⟨k0,h0⟩:=Int.dvd_of_emod_eq_zero S.hc
 obtain⟨k4,h4⟩:=Int.dvd_of_emod_eq_zero hy
 have ex:=gi m x x
 rw[iI ev x,h0]at ex
 have hi:=S.F.hi
 have hl:=S.hl
 have ho:=S.ho
 have li:=S.li
 have oi:=S.oi
 have ol:=S.ol
 have one:=S.one
 have sum:=S.sum
 generalize hs:aD m x=s at *
 have hz:s i*(y i-y l*cH p x i t i)+s o*(y o-y l*x o)=p*(k4-y l*(2*k0+t*s i)):=by
  have e:s i*(y i-y l*cH p x i t i)+s o*(y o-y l*x o)=(s 0*y 0+s 1*y 1+s 2*y 2) -y l*(s 0*x 0+s 1*x 1+s 2*x 2) -y l*(t*p*s i):=by
   unfold cH
   rw[if_pos rfl]
   rcases aG hi with rfl|rfl|rfl<;>rcases aG hl with rfl|rfl|rfl<;>rcases aG ho with rfl|rfl|rfl<;>first|(exfalso;omega)|(rw[one];grind)
  rw[e,h4,<-ex]
  grind
 have dv:(y i-y l*cH p x i t i) -c*(y o-y l*x o)=p*((1+v)*(k4-y l*(2*k0+t*s i)) - (1+v)*k2*(y o-y l*x o) -k1*((y i-y l*cH p x i t i) -c*(y o-y l*x o))):=by
  generalize y i-y l*cH p x i t i=zi at hz ⊢
  generalize y o-y l*x o=zo at hz ⊢
  have e1:zi-c*zo=(1+v)*s i*(zi-c*zo) -p*k1*(zi-c*zo):=by rw[h1];grind
  have e2:(1+v)*s i*(zi-c*zo) -p*k1*(zi-c*zo)=(1+v)*(s i*zi+s o*zo) - (1+v)*(s o+c*s i)*zo-p*(k1*(zi-c*zo)):=by grind
  rw[hz,h2]at e2
  have e3:=e1.trans e2
  generalize zi-c*zo=A at e3 ⊢
  refine e3.trans ?_
  clear e1 e2 e3
  grind
 generalize(1+v)*(k4-y l*(2*k0+t*s i)) - (1+v)*k2*(y o-y l*x o) -k1*((y i-y l*cH p x i t i) -c*(y o-y l*x o))=d at dv
 refine cl.ext _ _ (cl.add _ _ d (cl.add _ _ (y o-y l*x o) (cl.mul (p*y l) (h 0 (by decide))) (h 1 (by decide))) (h 2 (by decide))) λj hj=> ?_
 show p*y l*cH p x i t j+(y o-y l*x o)*(if j=i then c*p else if j=o then p else 0)+d*(if j=i then p*p else 0)=p*y j
 have cases:j=i∨j=l∨j=o:=by omega
 rcases cases with rfl|rfl|rfl
 ·rw[if_pos rfl,if_pos rfl]
  have:y j=y l*cH p x j t j+c*(y o-y l*x o)+p*d:=by omega
  rw[this]
  grind
 ·rw[if_neg li,if_neg (Ne.symm ol),if_neg li]
  unfold cH
  rw[if_neg li,one]
  grind
 ·rw[if_neg oi,if_pos rfl,if_neg oi]
  unfold cH
  rw[if_neg oi]
  grind
theorem HM{m:List (List Int)}(ev:cC m){p u:Int}{x:Nat->Int}{i l o q:Nat}{t c:Int}(S:rf m p x i l o t c)(hp:p∈([3,5,7,11,13]:List Int))(hq:q<3)(hu:u*(aD m x q%p)%p=1){R:List (List Int)}
  (hR:∀M,Cl M->(In M R↔(M λj=>cH p x i t j)/\ ∀k,k<3->M λj=>p*um p q (λk=>aD m x k%p*u%p) k j)):sj (stepT p x i o t c) R:=λM cl=>by
 have p1:1<p:=by
  simp only[List.mem_cons,List.not_mem_nil,or_false]at hp
  omega
 rw[hR M cl]
 have row:∀a,a<3->((M λj=>ent (stepT p x i o t c) a j)↔M λj=>gW p x i o t c a j):=λa ha=>
  ⟨λh=>cl.ext _ _ h λj hj=>fV _ _ _ _ _ _ ha hj,λh=>cl.ext _ _ h λj hj=>(fV _ _ _ _ _ _ ha hj).symm⟩
 constructor
 ·rintro⟨h0,h1⟩ a ha
  rw[row a ha]
  have all:∀y,QW p (aD m x) y->M λj=>p*y j:=λy hy=>To cl p1 hq (s:=λk=>aD m x k%p) hu h1 (Fb.mpr hy)
  have hi:=S.F.hi
  have ho:=S.ho
  have oi:=S.oi
  have se:=S.eq
  rcases aG ha with rfl|rfl|rfl
  ·exact h0
  ·refine cl.ext _ _ (all (λj=>if j=i then c else if j=o then 1 else 0) ?_) λj hj=> ?_
   ·unfold QW
    rw[<-se]
    congr 1
    rcases aG hi with rfl|rfl|rfl<;>rcases aG ho with rfl|rfl|rfl<;>first|(exact absurd rfl oi)|(simp<;>grind)
   ·show p*(if j=i then c else if j=o then 1 else 0)=if j=i then c*p else if j=o then p else 0
    split
    ·exact Int.mul_comm ..
    ·split<;>simp
  ·refine cl.ext _ _ (all (λj=>if j=i then p else 0) ?_) λj hj=> ?_
   ·unfold QW
    refine Int.emod_eq_zero_of_dvd ⟨aD m x i,?_⟩
    rcases aG hi with rfl|rfl|rfl<;>simp[Int.mul_comm]
   ·show p*(if j=i then p else 0)=if j=i then p*p else 0
    split<;>simp
 ·intro h
  have h':∀a,a<3->M λj=>gW p x i o t c a j:=λa ha=>(row a ha).mp (h a ha)
  exact⟨h' 0 (by decide),λk hk=>Tq ev S hp cl h' (Fb.mp (Wh p1 hq (s:=λk=>aD m x k%p) hu hk))⟩
def qv(m:List (List Int))(n:Nat)(x up y:Nat->Int):Prop:=cz m up y%((n:Int)*n)=0/\ ∃d:Nat,d<n/\ ∀j,j<3->(y j- (d:Int)*x j)%(n:Int)=0
theorem Tt(m:List (List Int)){n:Nat}(n0:0<n)(x up:Nat->Int):Cl λy=>qv m n x up y where
 zero:=⟨by rw[gi];simp,0,n0,λj _=>by simp⟩
 add y z c:=by
  rintro⟨h1,d,hd,h2⟩ ⟨h3,d',hd',h4⟩
  refine⟨?_,(((d:Int)+c*d')%n).toNat,by have:=Int.emod_lt_of_pos ((d:Int)+c*d') (show(0:Int)<n by omega);omega,λj hj=> ?_⟩
  ·obtain⟨a,ha⟩:=Int.dvd_of_emod_eq_zero h1
   obtain⟨b,hb⟩:=Int.dvd_of_emod_eq_zero h3
   refine Int.emod_eq_zero_of_dvd ⟨a+c*b,?_⟩
   have e:cz m up (λj=>y j+c*z j)=cz m up y+c*cz m up z:=by
    rw[gi,gi,gi]
    grind
   rw[e,ha,hb]
   grind
  ·obtain⟨a,ha⟩:=Int.dvd_of_emod_eq_zero (h2 j hj)
   obtain⟨b,hb⟩:=Int.dvd_of_emod_eq_zero (h4 j hj)
   have e0:=Int.emod_nonneg ((d:Int)+c*d') (show(n:Int)≠0 by omega)
   have e1:=Int.emod_add_mul_ediv ((d:Int)+c*d') (n:Int)
   rw[Int.toNat_of_nonneg e0]
   generalize((d:Int)+c*d')%(n:Int)=r at e1 ⊢
   generalize((d:Int)+c*d')/(n:Int)=v at e1
   refine Int.emod_eq_zero_of_dvd ⟨a+c*b+v*x j,?_⟩
   have e3:r=(d:Int)+c*d'-n*v:=by omega
   have e4:y j=(d:Int)*x j+n*a:=by omega
   have e5:z j=(d':Int)*x j+n*b:=by omega
   show y j+c*z j-r*x j=_
   rw[e3,e4,e5]
   grind
 ext y z:=by
  rintro⟨h1,d,hd,h2⟩ e
  refine⟨by rw[<-h1];congr 1;exact rj (λ_ _=>rfl) λj hj=>(e j hj).symm,d,hd,λj hj=>by rw[<-e j hj];exact h2 j hj⟩
def kE(m:List (List Int))(n:Nat)(x up:Nat->Int)(S:List (List Int)):Prop:=(aN S=(n:Int)*n*n∨aN S= -((n:Int)*n*n))/\ ∀a,a<3->qv m n x up λj=>ent S a j
theorem LP{m:List (List Int)}{n:Nat}(n0:0<n){x up y:Nat->Int}{l:Nat}(hl:l<3)(one:x l=1):qv m n x up y↔(∀j,j<3->(y j-y l*x j)%(n:Int)=0)/\cz m up y%((n:Int)*n)=0:=by
 unfold qv
 constructor
 ·rintro⟨h,d,hd,k⟩
  refine⟨λj hj=> ?_,h⟩
  obtain⟨a,ha⟩:=Int.dvd_of_emod_eq_zero (k j hj)
  obtain⟨b,hb⟩:=Int.dvd_of_emod_eq_zero (k l hl)
  rw[one]at hb
  refine Int.emod_eq_zero_of_dvd ⟨a-b*x j,?_⟩
  have e1:y l=d+n*b:=by omega
  have e2:y j=d*x j+n*a:=by omega
  rw[e1,e2]
  grind
 ·rintro⟨k,h⟩
  refine⟨h,(y l%(n:Int)).toNat,by have:=Int.emod_lt_of_pos (y l) (show(0:Int)<n by omega);omega,λj hj=> ?_⟩
  obtain⟨a,ha⟩:=Int.dvd_of_emod_eq_zero (k j hj)
  have e0:=Int.emod_nonneg (y l) (show(n:Int)≠0 by omega)
  have e1:=Int.emod_add_mul_ediv (y l) (n:Int)
  rw[Int.toNat_of_nonneg e0]
  generalize y l%(n:Int)=r at e1 ⊢
  generalize y l/(n:Int)=v at e1
  refine Int.emod_eq_zero_of_dvd ⟨a+v*x j,?_⟩
  have e3:r=y l-n*v:=by omega
  have e4:y j=y l*x j+n*a:=by omega
  rw[e3]
  have e5:y j- (y l-n*v)*x j=(y j-y l*x j)+n*(v*x j):=by grind
  rw[e5,ha]
  grind
theorem LQ{m:List (List Int)}(ev:cC m){n:Nat}{x:Nat->Int}{i l o:Nat}{t c:Int}(S:rf m (n:Int) x i l o t c)(hp:(n:Int)∈([3,5,7,11,13]:List Int)){k:Nat}(hk:aR m (gU n x k)%((n:Int)*n)=0)(fk:∀j,j<k-> ¬aR m (gU n x j)%((n:Int)*n)=0)
  {F R B:List (List Int)}(hF:cu F)(sp:CO F R)(bs:sj (stepT n x i o t c) R)(hB:aN B=1):kE m n x (gU n x k) F/\kE m n x (gU n x k) (iR B F):=by
 have n2:2<n:=by
  simp only[List.mem_cons,List.not_mem_nil,or_false]at hp
  omega
 have nd:aN (stepT n x i o t c)≠0:=by
  have:0<(n:Int)*n*n:=Int.mul_pos (Int.mul_pos (by omega) (by omega)) (by omega)
  rcases zj S with z|z<;>rw[z]<;>omega
 have dF:aN F=(n:Int)*n*n∨aN F= -((n:Int)*n*n):=by
  rcases PK hF sp bs nd with z|z<;>rcases zj S with y|y<;>rw[z,y]
  ·exact .inl rfl
  ·exact .inr rfl
  ·exact .inr rfl
  ·exact .inl (Int.neg_neg _)
 have cl:=Tt m (show 0<n by omega) x (gU n x k)
 have MW:In (λy=>qv m n x (gU n x k) y) F:=(sp _ cl).mpr ((bs _ cl).mpr λa ha=>by
  have g:=LD ev S hp hk fk ha
  exact cl.ext _ _ g λj hj=>(fV _ _ _ _ _ _ ha hj).symm)
 have row:∀a,a<3->qv m n x (gU n x k) λj=>ent F a j:=λa ha=>by
  have la:a<F.length:=by rw[hF.1];exact ha
  refine cl.ext _ _ (MW F[a] (List.getElem_mem la)) λj hj=> ?_
  unfold az ent
  simp[la]
 refine⟨⟨dF,row⟩,by rw[rW,hB,Int.one_mul];exact dF,λa ha=> ?_⟩
 refine cl.ext _ _ (cl.add _ _ (ent B a 2) (cl.add _ _ (ent B a 1) (cl.mul (ent B a 0) (row 0 (by decide))) (row 1 (by decide))) (row 2 (by decide))) λj hj=> ?_
 exact(bq B F ha hj).symm
noncomputable def Fc(m:List (List Int))(n:Nat)(x up:Nat->Int)(r:List Int):Bool:= @decide (qv m n x up (az r)) (Classical.propDecidable _)
theorem wz{m:List (List Int)}{n:Nat}{x up:Nat->Int}{r:List Int}:Fc m n x up r=true↔qv m n x up (az r):=by
 unfold Fc
 exact @decide_eq_true_iff _ (Classical.propDecidable _)
theorem CV{S:List (List Int)}{a:Nat}(h:a<S.length)(j:Nat):az S[a] j=ent S a j:=by
 unfold az ent
 simp[h]
theorem LR{m:List (List Int)}{n:Nat}{x up:Nat->Int}{S:List (List Int)}(h:cu S):(∀a,a<3->qv m n x up λj=>ent S a j)↔ ∀r∈S,qv m n x up (az r):=by
 have e:∀(a:Nat)(l:a<S.length),az S[a]=λj=>ent S a j:=λa l=>funext (CV l)
 constructor
 ·intro g r hr
  obtain⟨a,ha,rfl⟩:=List.mem_iff_getElem.mp hr
  rw[e a ha]
  exact g a (by rw[h.1]at ha;exact ha)
 ·intro g a ha
  have l:a<S.length:=by rw[h.1];exact ha
  rw[<-e a l]
  exact g _ (List.getElem_mem l)
theorem Tu{S:List (List Int)}{k:Nat}(h:cu S)(b:Bd k S):∀r∈S,∀j,j<3->(az r j).natAbs<2^k:=λr hr j hj=>by
 obtain⟨a,ha,rfl⟩:=List.mem_iff_getElem.mp hr
 rw[CV ha]
 exact b a j (by rw[h.1]at ha;exact ha) hj
theorem Wi{S:List (List Int)}{B k:Nat}(h:cu S)(e:Ent S B)(hB:B<2^k):Bd k S:=λa j ha hj=>by
 have l:a<S.length:=by rw[h.1];exact ha
 have:=e _ (List.getElem_mem l) j hj
 rw[CV l]at this
 omega
def fB(H:Hp)(bo:List Int->Bool):V->V
 | .ref d=> .bl (bo (iQ H d))
 |_=> .fP
theorem PR{m:List (List Int)}{n:Nat}{x up:Nat->Int}{S:List (List Int)}(h:cu S)(d:aN S=(n:Int)*n*n∨aN S= -((n:Int)*n*n)):((S.map (Fc m n x up)).all id=true)↔kE m n x up S:=by
 unfold kE
 rw[LR h,List.all_eq_true]
 constructor
 ·exact λg=>⟨d,λr hr=>wz.mp (g _ (List.mem_map_of_mem hr))⟩
 ·rintro⟨_,g⟩ v hv
  obtain⟨r,hr,rfl⟩:=List.mem_map.mp hv
  exact wz.mpr (g r hr)
theorem yd{M:(Nat->Int) ->Prop}{r:List Int}{L:List (List Int)}:In M (r::L)↔M (az r)/\In M L:=by
 unfold In
 simp
theorem PU{M:(Nat->Int) ->Prop}(c:Cl M)(g:Nat->Nat->Int):In M (mk3 g)↔ ∀k,k<3->M λj=>g k j:=by
 have e:∀k,k<3-> ∀j,j<3->az [g k 0,g k 1,g k 2] j=g k j:=λk _ j hj=>by
  rcases aG hj with rfl|rfl|rfl<;>rfl
 have m:mk3 g=[[g 0 0,g 0 1,g 0 2],[g 1 0,g 1 1,g 1 2],[g 2 0,g 2 1,g 2 2]]:=rfl
 rw[m,yd,yd,yd]
 constructor
 ·rintro⟨h0,h1,h2,_⟩ k hk
  rcases aG hk with rfl|rfl|rfl
  ·exact c.ext _ _ h0 (e 0 (by decide))
  ·exact c.ext _ _ h1 (e 1 (by decide))
  ·exact c.ext _ _ h2 (e 2 (by decide))
 ·intro h
  exact⟨c.ext _ _ (h 0 (by decide)) λj hj=>(e 0 (by decide) j hj).symm,c.ext _ _ (h 1 (by decide)) λj hj=>(e 1 (by decide) j hj).symm,c.ext _ _ (h 2 (by decide)) λj hj=>(e 2 (by decide) j hj).symm,λr hr=>nomatch hr⟩
def AG(n:Int)(q:Nat)(w up:Nat->Int):List (List Int):=[up 0,up 1,up 2]::mk3 λk j=>n*um n q w k j
theorem Tv{M:(Nat->Int) ->Prop}(c:Cl M)(n:Int)(q:Nat)(w up:Nat->Int):In M (AG n q w up)↔(M λj=>up j)/\ ∀k,k<3->M λj=>n*um n q w k j:=by
 unfold AG
 rw[yd,PU c]
 have e:∀j,j<3->az [up 0,up 1,up 2] j=up j:=λj hj=>by
  rcases aG hj with rfl|rfl|rfl<;>rfl
 exact and_congr ⟨λh=>c.ext _ _ h e,λh=>c.ext _ _ h λj hj=>(e j hj).symm⟩ Iff.rfl
theorem LS{m:List (List Int)}(ev:cC m){p u:Int}{x up w:Nat->Int}{i l o q:Nat}{t c:Int}(S:rf m p x i l o t c)(hp:p∈([3,5,7,11,13]:List Int))(hq:q<3)(hu:u*(aD m x q%p)%p=1)(hw:(λk=>aD m x k%p*u%p)=w)(hup:∀j,j<3->up j=cH p x i t j):sj (stepT p x i o t c) (AG p q w up):=by
 subst hw
 refine HM ev S hp hq hu λM cl=> ?_
 rw[Tv cl]
 exact and_congr ⟨λh=>cl.ext _ _ h hup,λh=>cl.ext _ _ h λj hj=>(hup j hj).symm⟩ Iff.rfl
theorem Tz{n:Int}(hn:0<n/\n<14){q:Nat}{w up:Nat->Int}(hw:∀k,0<=w k/\w k<n)(hup:∀j,j<3->(up j).natAbs<2^8):Ent (AG n q w up) 256:=by
 have a:∀k j,(um n q w k j).natAbs<=13:=λk j=>by
  have:=hw k
  unfold um
  split
  ·split<;>omega
  ·split
   ·omega
   ·split<;>omega
 have g:∀k j,(n*um n q w k j).natAbs<=256:=λk j=>by
  rw[Int.natAbs_mul]
  have:=Nat.mul_le_mul (show n.natAbs<=13 by omega) (a k j)
  omega
 intro r hr j hj
 unfold AG mk3 at hr
 simp only[List.mem_cons,List.not_mem_nil,or_false]at hr
 rcases hr with rfl|rfl|rfl|rfl
 ·have:=hup j hj
  rcases aG hj with rfl|rfl|rfl<;>exact Nat.le_of_lt this
 ·rcases aG hj with rfl|rfl|rfl<;>exact g _ _
 ·rcases aG hj with rfl|rfl|rfl<;>exact g _ _
 ·rcases aG hj with rfl|rfl|rfl<;>exact g _ _
theorem PV{H:Hp}{p U D:Addr}{ds:List Addr}{n:Int}{q:Nat}{w up:Nat->Int}(e:H p=some (.lst (V.ref U::ds.map V.ref)))(eU:dR H U up)(T:Tab H D ds (mk3 λk j=>n*um n q w k j)):Tab H p (U::ds) (AG n q w up):=⟨e,.cons eU T.2⟩
theorem Fd(n:Int)(q:Nat)(w up:Nat->Int):(AG n q w up).length=4/\ ∀x∈AG n q w up,x.length=3:=by
 refine⟨rfl,λx hx=> ?_⟩
 unfold AG mk3 at hx
 simp only[List.mem_cons,List.not_mem_nil,or_false]at hx
 rcases hx with rfl|rfl|rfl|rfl<;>rfl
end L2
set_option maxHeartbeats 1000000
namespace CB
open PySem L2
section
variable{P:Program}{w:World}{K:PySem.W.Frag}{mg:Str->Option Value}{base:Heap}
def lI(m:List (List Int))(p:Int)(d:PyData):Prop:=qO d=false∨ ∃x:Nat->Int,d= .list [.int (x 0),.int (x 1),.int (x 2)]/\ ¬(gZ p x/\aR m x%p=0)
theorem CW{H:Hp}{v:V}{x:Nat->Int}(h:DV H v (.list [.int (x 0),.int (x 1),.int (x 2)])):∃b,v= .ref b/\dR H b x:=by
 cases h with
 |lst e hs=>
  cases hs with
  |cons h0 hs=>
   cases hs with
   |cons h1 hs=>
    cases hs with
    |cons h2 hs=>
     cases hs
     cases h0
     cases h1
     cases h2
     exact⟨_,rfl,e⟩
inductive BE(T1 T2:Addr)(vs:List V)(H:Hp)(Q:VK)(E:XK):Prop
 |mk(t:Addr)(bs:List Addr)(m:List (List Int))(p:Int)(v:V)(d:PyData)(_:vs=[.ref t,.int p,v])(_:Tab H t bs m)(_:cu m)(_:Bd 440 m)(_:p∈([3,5,7,11,13]:List Int))(_:DV H v d)(_:H T1=some (cj T1))(_:H T2=some (cj T2))(_:(lI m p d/\ ∀H',av H H'->Q (.bl false) H')∨(∃x:Nat->Int,d= .list [.int (x 0),.int (x 1),.int (x 2)]/\cC m/\gZ p x/\aR m x%p=0/\ ∀H',av H H'->Q (.bl true) H'))
theorem HN{aS aO:Addr}(F:fK K mg "is_line" vW oU)(oX:cZ P w K mg base c8 4 "is_row" oQ (CL aS))(p6:cZ P w K mg base c8 4 "line_under" jA (Jw aO)):cZ P w K mg base c8 5 "is_line" oU (BE aS aO):=by
 refine F.ok Hq (λvs H Q E h=> ?_) (λf cdv A outer s H vs Q E hr h=> ?_)
 ·obtain⟨t,bs,m,p,v,d,rfl,hT,dD,hB,hp,hv,h1,h2,nl⟩:=h
  rfl
 obtain⟨t,bs,m,p,v,d,rfl,hT,dD,hB,hp,hv,h1,h2,nl⟩:=h
 have hu:=hr.units
 refine⟨_,(eH (bA (qz (aQ oX hr rfl aU (ah (pv 2) ao)) (sR (fZ (Gu hu) (aQ p6 hr rfl aU (ah (pv 0) (ah (pv 1) (ah (pv 2) ao)))) (pv 2) (bg _)))))),?_⟩
 have p0:2<p/\p<14:=by
  simp only[List.mem_cons,List.not_mem_nil,or_false]at hp
  omega
 refine⟨_,rfl,v,d,rfl,hv,h1,λH1 s1=> ?_⟩
 rcases nl with⟨e|⟨x,rfl,nx⟩,q⟩|⟨x,rfl,ev,L,hc,q⟩
 ·rw[e]
  exact⟨_,rfl,iO (q H1 s1)⟩
 ·obtain⟨b,rfl,hx⟩:=CW hv
  refine⟨_,rfl,mQ ?_⟩
  refine⟨_,rfl,_,rfl,_,rfl,t,bs,m,p,b,x,rfl,hT.same s1,dD,hB,hp,s1 _ _ hx,s1 _ _ h2,λz H2 s2=> ?_,λoc u a H2 u0 u1 eu s2 fa ea=> ?_⟩
  ·refine⟨_,rfl,.none,jN [x 0,x 1,x 2],.fP,tE (aV.of (s2 _ _ (s1 _ _ hx))),rfl,jd _,?_⟩
   exact q H2 (s1.trans s2)
  ·refine⟨_,rfl,OY (xs:=[u*(x 0%p)%p,u*(x 1%p)%p,u*(x 2%p)%p]) (ys:=[x 0,x 1,x 2]) (aV.of ea) (aV.of (s2 _ _ (s1 _ _ hx))) ?_⟩
   rw[decide_eq_false (λz=>nx ?_)]
   ·exact q H2 (s1.trans s2)
   ·simp only[List.cons.injEq,and_true]at z
    have L:=KO (show 1<p by omega) eu oc.1
    have e:∀i,i<3->u*(x i%p)%p=x i:=λi hi=>by
     rcases aG hi with rfl|rfl|rfl
     ·exact z.1
     ·exact z.2.1
     ·exact z.2.2
    have L':gZ p x:=⟨λi hi=>by have:=L.lo i hi;rw[<-e i hi];exact this,λi hi=>by have:=L.hi i hi;rw[<-e i hi];exact this,by have:=L.one;rw[<-z.1,<-z.2.1,<-z.2.2];exact this⟩
    have em:∀i,i<3->x i%p=x i:=λi hi=>Int.emod_eq_of_lt (L'.lo i hi) (L'.hi i hi)
    refine⟨L',?_⟩
    have w:=oc.2
    unfold aR at w ⊢
    simp only[dh,em 0 (by decide),em 1 (by decide),em 2 (by decide)]at w ⊢
    exact w
 ·obtain⟨b,rfl,hx⟩:=CW hv
  have e1:∀i,i<3->1*x i%p=x i%p:=λi _=>by rw[Int.one_mul]
  have lo:=xZ (show 1<p by omega) L (by decide) (by omega) e1
  have oc:GK m p x:=⟨lo.2,RT ev hc e1⟩
  refine⟨_,rfl,mQ ?_⟩
  refine⟨_,rfl,_,rfl,_,rfl,t,bs,m,p,b,x,rfl,hT.same s1,dD,hB,hp,s1 _ _ hx,s1 _ _ h2,λz=>absurd oc z,λ_ u a H2 u0 u1 eu s2 fa ea=> ?_⟩
  have eqy:∀i,i<3->u*(x i%p)%p=x i:=λi hi=>vN (show 1<p by omega) L (by decide) (by omega) e1 eu i hi
  have ea:H2 a=some (.lst [.int (x 0),.int (x 1),.int (x 2)]):=by
   rw[<-eqy 0 (by decide),<-eqy 1 (by decide),<-eqy 2 (by decide)]
   exact ea
  refine⟨_,rfl,OY (xs:=[x 0,x 1,x 2]) (ys:=[x 0,x 1,x 2]) (aV.of ea) (aV.of (s2 _ _ (s1 _ _ hx))) ?_⟩
  rw[decide_eq_true rfl]
  exact q H2 (s1.trans s2)
inductive ye(T1 T2 T3 T4 cF cG cP cL:Addr)(vs:List V)(H:Hp)(Q:VK)(E:XK):Prop
 |mk(v p:V)(d:PyData)(ln:V)(e:PyData)(_:vs=[v,p,ln])(_:DV H p d)(_:DV H ln e)(_:H T1=some (cj T1))(_:H T2=some (cj T2))(_:H T3=some (cj T3))(_:True)(_:H T4=some (cj T4))(_:(NU H v/\ ∀H',av H H'->E (.ref cF) none H')∨(∃m,jg H v m/\(∀p,d= .int p->gF (aN m/2) d=true->aN m/2<=200->lI m p e)/\ ∀H',av H H'->if 200<aN m/2 then E (.ref cG) none H' else if gF (aN m/2) d=true then E (.ref cL) none H' else E (.ref cP) none H')∨(∃(m:List (List Int)) (x:Nat->Int),jg H v m/\aN m/2<=200/\ ∃n:Int,d= .int n/\n∈([3,5,7,11,13]:List Int)/\aN m/2%n≠0/\e= .list [.int (x 0),.int (x 1),.int (x 2)]/\gZ n x/\aR m x%n=0/\ ∀H',av H H'->Q .fP H'))
theorem vf{aS aM aE aO:Addr}{aZ aK aT bC:Addr}(F:fK K mg "refuse_no_line" jY eO)(oZ:mg "NoLine"=some (.ref bC))(zq:PyProof.Rows.OwnCls "NoLine" bC GR "ValueError.__new__" mg base)(jI:cZ P w K mg base (vO P w) 10 "refuse_no_prime" f7 (Jv aS aM aE aZ aK aT))(wA:cZ P w K mg base c8 10 "is_line" oU (BE aS aO)):cZ P w K mg base (vO P w) 11 "refuse_no_line" eO (ye aS aM aE aO aZ aK aT bC):=by
 refine F.QU uO (λvs H Q E h=> ?_) (λf cdv A outer s H vs Q E hr h=> ?_)
 ·obtain⟨v,p,d,ln,e,rfl,hd,he,h1,h2,h3,_,h4,hv⟩:=h
  rfl
 obtain⟨v,p,d,ln,e,rfl,hd,he,h1,h2,h3,_,h4,hv⟩:=h
 have hu:=hr.units
 refine⟨_,(mS (@ay _ _ _ _ _ (iZ (aQ jI hr rfl Ew (ah (pv 0) (ah (pv 1) ao))))
  (@aI _ _ _ (bI (m8 (gQ (aQ wA hr rfl aU (ah (pv 0) (ah (pv 1) (ah (pv 2) ao)))))) (@aI _ _ _ (qP zq PySem.F.excBase_ValueError rfl (ah gm ao))) cy)))),?_⟩
 refine⟨_,rfl,_,rfl,v,p,d,rfl,hd,h1,h2,h3,trivial,?_⟩
 rcases hv with⟨hb,q⟩|⟨m,hf,nl,q⟩|⟨m,x,hf,le,n,rfl,hp,IQ,rfl,L,hc,q⟩
 ·exact .inl ⟨hb,q⟩
 ·refine .inr ⟨m,hf,λH1 s1=> ?_⟩
  refine g9 (λc=> ?_) (λc=>g9 (λc2=> ?_) (λc2=> ?_))
  ·have q:=q H1 s1
   rw[if_pos c]at q
   exact q
  ·obtain⟨x,rfl,hx,_⟩:=GV c2
   have nl:=nl x rfl c2 (by omega)
   cases hd
   obtain⟨t,bs,rfl,hT,dD,hB,ev,ab⟩:=hf
   refine⟨_,rfl,_,rfl,_,rfl,t,bs,m,x,ln,e,rfl,hT.same s1,dD,hB,hx,he.same s1,s1 _ _ h1,s1 _ _ h4,.inl ⟨nl,λH2 s2=>⟨_,rfl,mQ ⟨(by show 1<=sizeLine;decide),?_⟩⟩⟩⟩
   have q:=q H2 (s1.trans s2)
   rw[if_neg c,if_pos c2]at q
   exact q
  ·have q:=q H1 s1
   rw[if_neg c,if_neg c2]at q
   exact q
 ·refine .inr ⟨m,hf,λH1 s1=> ?_⟩
  rw[if_neg (by omega),if_pos (Bv hp IQ)]
  cases hd
  obtain⟨t,bs,rfl,hT,dD,hB,ev,ab⟩:=hf
  exact⟨_,rfl,_,rfl,_,rfl,t,bs,m,n,ln,_,rfl,hT.same s1,dD,hB,hp,he.same s1,s1 _ _ h1,s1 _ _ h4,.inr ⟨x,rfl,ev,L,hc,λH2 s2=>⟨_,rfl,iO (q H2 (s1.trans s2))⟩⟩⟩
inductive PX(T1 T2 T3 T4 cF cG cP cL:Addr)(vs:List V)(H:Hp)(Q:VK)(E:XK):Prop
 |mk(v p:V)(d:PyData)(ln:V)(e:PyData)(_:vs=[v,p,ln])(_:DV H p d)(_:DV H ln e)(_:H T1=some (cj T1))(_:H T2=some (cj T2))(_:H T3=some (cj T3))(_:True)(_:H T4=some (cj T4))(_:(NU H v/\ ∀H',av H H'->E (.ref cF) none H')∨(∃m,jg H v m/\(∀p,d= .int p->gF (aN m/2) d=true->aN m/2<=200->lI m p e)/\ ∀H',av H H'->if 200<aN m/2 then E (.ref cG) none H' else if gF (aN m/2) d=true then E (.ref cL) none H' else E (.ref cP) none H'))
theorem LU{aS aM aE aO:Addr}{aZ aK aT bC:Addr}(F:fK K mg "beside" yT qS)(c7:cZ P w K mg base (vO P w) 11 "refuse_no_line" eO (ye aS aM aE aO aZ aK aT bC)):cZ P w K mg base (vO P w) 12 "beside" qS (PX aS aM aE aO aZ aK aT bC):=by
 refine F.QU Lv (λvs H Q E h=> ?_) (λf cdv A outer s H vs Q E hr h=> ?_)
 ·obtain⟨v,p,d,ln,e,rfl,hd,he,h1,h2,h3,_,h4,hv⟩:=h
  rfl
 obtain⟨v,p,d,ln,e,rfl,hd,he,h1,h2,h3,_,h4,hv⟩:=h
 have hu:=hr.units
 refine⟨_,(mS (@ay _ _ _ _ _ (iZ (aQ c7 hr rfl Ew (ah (pv 0) (ah (pv 1) (ah (pv 2) ao)))))
  (@ay _ _ _ _ _ kg
  (@aI _ _ _ kg)))),?_⟩
 exact⟨_,rfl,_,rfl,_,rfl,v,p,d,ln,e,rfl,hd,he,h1,h2,h3,trivial,h4,hv.imp id .inl⟩
inductive JF(T1 T2 T3 T4 cF cG cP cL:Addr)(vs:List V)(H:Hp)(Q:VK)(E:XK):Prop
 |mk(v p:V)(d:PyData)(ln:V)(e:PyData)(tb:V)(_:vs=[v,p,ln,tb])(_:DV H p d)(_:DV H ln e)(_:H T1=some (cj T1))(_:H T2=some (cj T2))(_:H T3=some (cj T3))(_:True)(_:H T4=some (cj T4))(_:(NU H v/\ ∀H',av H H'->E (.ref cF) none H')∨(∃m,jg H v m/\(∀p,d= .int p->gF (aN m/2) d=true->aN m/2<=200->lI m p e)/\ ∀H',av H H'->if 200<aN m/2 then E (.ref cG) none H' else if gF (aN m/2) d=true then E (.ref cL) none H' else E (.ref cP) none H'))
theorem HP{aS aM aE aO:Addr}{aZ aK aT bC:Addr}(F:fK K mg "is_step" vY oW)(c7:cZ P w K mg base (vO P w) 11 "refuse_no_line" eO (ye aS aM aE aO aZ aK aT bC)):cZ P w K mg base (vO P w) 12 "is_step" oW (JF aS aM aE aO aZ aK aT bC):=by
 refine F.QU Hr (λvs H Q E h=> ?_) (λf cdv A outer s H vs Q E hr h=> ?_)
 ·obtain⟨v,p,d,ln,e,tb,rfl,hd,he,h1,h2,h3,_,h4,hv⟩:=h
  rfl
 obtain⟨v,p,d,ln,e,tb,rfl,hd,he,h1,h2,h3,_,h4,hv⟩:=h
 have hu:=hr.units
 refine⟨_,(mS (@ay _ _ _ _ _ (iZ (aQ c7 hr rfl Ew (ah (pv 0) (ah (pv 1) (ah (pv 2) ao)))))
  (@aI _ _ _ kg))),?_⟩
 exact⟨_,rfl,_,rfl,_,rfl,v,p,d,ln,e,rfl,hd,he,h1,h2,h3,trivial,h4,hv.imp id .inl⟩
inductive CY(T1 T0:Addr)(vs:List V)(H:Hp)(Q:VK)(E:XK):Prop
 |mk(t:Addr)(bs:List Addr)(m:List (List Int))(n:Nat)(b:Addr)(x:Nat->Int)(c0:Addr)(up:Nat->Int)(r:Addr)(y:Nat->Int)(l:Nat)(_:vs=[.ref t,.int (n:Int),.ref b,.ref c0,.ref r])(_:Tab H t bs m)(_:cu m)(_:Bd 440 m)(_:dR H b x)(_:dR H c0 up)(_:dR H r y)(_:∀i,i<3->(x i).natAbs<2^400)(_:∀i,i<3->(up i).natAbs<2^400)(_:∀i,i<3->(y i).natAbs<2^400)(_:0<n)(_:n<14)(_:l<3)(_:x l=1)(_:∀j,j<l->x j=0)(_:H T1=some (cj T1))(_:H T0=some (cj T0))(_:∀(bo:Bool) H',(bo=true↔qv m n x up y) ->av H H'->Q (.bl bo) H')
theorem HQ{aO cM:Addr}(F:qp K mg "is_good" vX oV cM)(bm:BM mg base)(PY:mg "any"=none)(qt:mg "zip"=none)(lO:cZ P w K mg base c8 2 "pairing" lM (HB aO)):cZ P w K mg base c8 3 "is_good" oV (CY aO cM):=by
 refine F.ok yS (λvs H Q E h=> ?_) (λf cdv A outer s H vs Q E cd hr h=> ?_)
 ·obtain⟨t,bs,m,n,b,x,c0,up,r,y,l,rfl,hT,dD,hB,hx,h0,hy,bx,b0,bY,n0,n14,hl,one,l0,h1,h2,q⟩:=h
  rfl
 obtain⟨t,bs,m,n,b,x,c0,up,r,y,l,rfl,hT,dD,hB,hx,h0,hy,bx,b0,bY,n0,n14,hl,one,l0,h1,h2,q⟩:=h
 have hu:=hr.units
 refine⟨_,(mS (@ay _ _ _ _ _ (aW (i:=5) yS.nd rfl (Or.inr rfl) (aJ aA (pv 4) (Bj PySem.F.plainAttrs_list PySem.F.slot_list_index PySem.F.type_list_index Pd (pv 2) (ah ak ao)) (λ_ _=>rfl)))
  (@ay _ _ _ _ _ (bI (gQ (RP (N2:=["form","p","line","lifted","row","times"]) (te:=(fY Um (fY (rI (λ_ j=>0<j) λi j=> .int (i%j)) (fY (FU λi j=> .int (i-j)) (aY 0) (fY (rI mW λi j=> .int (i*j)) (aY 7) (aY 1))) (aY 3)) (tC (.int 0)))) rfl (gr.depth hr) cd bm rfl PY (Cb rfl qt (ah (pv 4) (ah (pv 2) ao))) (by kernel_rfl) (λ_ _ _ _=>by exact fJ (fZ ly (aB dz (aB gq (pv 0) (aB bX (pv 7) (pv 1))) (pv 3)) ak (bg _))))) (@aI _ _ _ (bA sH)) cy)
  (@aI _ _ _ (bA (fZ fF (aB dz (aQ lO hr rfl aU (ah (pv 0) (ah (pv 3) (ah (pv 4) ao)))) (aB cI (pv 1) (pv 1))) ak (bg _))))))),?_⟩
 have nn:n*n<=169:=Nat.mul_le_mul (show n<=13 by omega) (show n<=13 by omega)
 have e2:(n:Int)*n=((n*n:Nat):Int):=by push_cast;rfl
 have nn0:0<n*n:=Nat.mul_pos n0 n0
 have gl:=LP (m:=m) (n:=n) n0 (x:=x) (up:=up) (y:=y) hl one
 refine⟨_,rfl,_,rfl,.inl ⟨rfl,_,aV.of hx⟩,b,_,_,l,rfl,rfl,aV.of hx,rfl,rfl,⟨.int (x l),(by rcases aG hl with rfl|rfl|rfl<;>rfl),(by rw[one];rfl)⟩,(λj z hj ez=> ?_),r,_,_,_,rfl,rfl,aV.of hy,mR y hl,?_⟩
 ·have ez':z= .int (x j):=by
   have Yo:j<3:=by omega
   rcases aG Yo with rfl|rfl|rfl<;>exact(Option.some.inj ez).symm
  rw[ez',l0 j hj]
  rfl
 refine⟨_,rfl,_,rfl,r,b,_,_,rfl,aV.of hy,aV.of hx,RS (aV.of hy) (aV.of hx) rfl h2 (λj=> !decide (V.int ((y j-y l*x j)%(n:Int))=V.int 0)) (λj u v eu ev Ha Q' sa kk=> ?_) (λbo Ha sa Yp=> ?_)⟩
 ·have Yo:j<3:=(List.getElem?_eq_some_iff.mp eu).1
  have Yk:u= .int (y j):=by
   rcases aG Yo with rfl|rfl|rfl<;>exact(Option.some.inj eu).symm
  have ev':v= .int (x j):=by
   rcases aG Yo with rfl|rfl|rfl<;>exact(Option.some.inj ev).symm
  subst Yk ev'
  exact⟨_,rfl,_,rfl,_,rfl,_,_,rfl,rfl,⟨aX (bY l hl) (by decide),aX (bx j Yo) (by decide)⟩,_,_,rfl,rfl,_,rfl,_,_,rfl,rfl,(by show(0:Int)<n;omega),rfl,kk Ha (av.refl _)⟩
 have no:bo=true↔ ¬ ∀j,j<3->(y j-y l*x j)%(n:Int)=0:=by
  rw[Yp]
  constructor
  ·rintro⟨j,hj,e⟩ h
   have:=h j hj
   simp[this]at e
  ·intro h
   refine Classical.byContradiction λno=>h λj hj=>Classical.byContradiction λz=>no ⟨j,hj,?_⟩
   simpa using z
 refine⟨_,rfl,g9 (λc=> ?_) (λc=> ?_)⟩
 ·exact q false Ha ⟨λz=>(nomatch z),λz=>absurd (gl.mp z).1 (no.mp c)⟩ sa
 have al:∀j,j<3->(y j-y l*x j)%(n:Int)=0:=Classical.byContradiction λz=>c (no.mpr z)
 refine⟨_,rfl,_,rfl,_,rfl,t,bs,m,c0,r,up,y,rfl,hT.same sa,dD,hB.mono (by decide),sa _ _ h0,sa _ _ hy,(λi hi=>aX (b0 i hi) (by decide)),(λi hi=>aX (bY i hi) (by decide)),sa _ _ h1,λHb sb=>⟨_,rfl,_,rfl,_,_,rfl,rfl,.inl ⟨by omega,by omega⟩,_,_,rfl,rfl,(by show(0:Int)<(n:Int)*n;omega),rfl,?_⟩⟩
 refine q _ Hb ?_ (sa.trans sb)
 rw[gl]
 simp only[decide_eq_true_eq,V.int.injEq]
 exact⟨λh=>⟨al,h⟩,λh=>h.2⟩
inductive JG(T1 T2 T3 T4 T5 T6 T0:Addr)(vs:List V)(H:Hp)(Q:VK)(E:XK):Prop
 |mk(t:Addr)(bs:List Addr)(m:List (List Int))(n:Nat)(b:Addr)(x:Nat->Int)(r:Addr)(rs:List Addr)(S:List (List Int))(_:vs=[.ref t,.int (n:Int),.ref b,.ref r])(_:Tab H t bs m)(_:cu m)(_:Bd 440 m)(_:cC m)(_:(n:Int)∈([3,5,7,11,13]:List Int))(_:aN m/2%(n:Int)≠0)(_:dR H b x)(_:gZ (n:Int) x)(_:aR m x%(n:Int)=0)(_:Tab H r rs S)(_:cu S)(_:Bd 330 S)(_:H T1=some (cj T1))(_:H T2=some (cj T2))(_:H T3=some (cj T3))(_:H T4=some (cj T4))(_:H T5=some (cj T5))(_:H T6=some (cj T6))(_:H T0=some (cj T0))(_:∀(i:Nat) (tm:Int) (bo:Bool) H',pK m (n:Int) x i tm->(bo=true↔kE m n x (cH n x i tm) S) ->av H H'->Q (.bl bo) H')
theorem zu{aS aM cY bD aO cM bO:Addr}(F:qp K mg "steps_along" nI iV bO)(bm:BM mg base)(sL:mg "abs"=none)(qu:mg "all"=none)(j3:cZ P w K mg base c8 7 "is_table" jW (yY aS aM))(eY:cZ P w K mg base c8 7 "determinant" gc Jq)(p7:cZ P w K mg base c8 7 "first_lift" jC (Jx cY bD aO))(wB:cZ P w K mg base c8 6 "is_good" oV (CY aO cM)):cZ P w K mg base c8 8 "steps_along" iV (JG aS aM cY bD aO cM bO):=by
 refine F.ok qR (λvs H Q E h=> ?_) (λf cdv A outer s H vs Q E cd hr h=> ?_)
 ·obtain⟨t,bs,m,n,b,x,r,rs,S,rfl,hT,dD,hB,ev,hp,hd,hx,L,hc,hR,cS,bS,h1,h2,h3,h4,h5,h6,h7,q⟩:=h
  rfl
 obtain⟨t,bs,m,n,b,x,r,rs,S,rfl,hT,dD,hB,ev,hp,hd,hx,L,hc,hR,cS,bS,h1,h2,h3,h4,h5,h6,h7,q⟩:=h
 have hu:=hr.units
 refine⟨_,(mS (@ay _ _ _ _ _ (bI (PW.pt (DI (m8 (gQ (aQ j3 hr rfl aU (ah (pv 3) ao)))) (yg (bB ly (bV uu rfl sL PyProof.Rows.boot_abs (ah (aQ eY hr rfl aU (ah (pv 3) ao)) ao)) (aB cI (aB cI (pv 1) (pv 1)) (pv 1)) (bg _))))) (@aI _ _ _ (bA sH)) cy)
  (@ay _ _ _ _ _ (aW (i:=4) qR.nd rfl (Or.inr rfl) (aQ p7 hr rfl aU (ah (pv 0) (ah (pv 1) (ah (pv 2) ao)))))
  (@aI _ _ _ (bA (xX (N2:=["form","p","line","table","lifted"]) (te:=(qm (CY aO cM) [] E0 (eE (aY 1) (eE (aY 2) (eE (aY 3) (eE (aY 5) (eE (aY 0) lS))))))) rfl (gr.depth hr) cd bm rfl qu (di (pv 3)) (by kernel_rfl) (λ_ _ _ _=>by exact fJ (aQ wB (yv hr) rfl aU (ah (pv 1) (ah (pv 2) (ah (pv 3) (ah (pv 5) (ah (pv 0) ao))))))))))))),?_⟩
 have p0:2<n/\n<14:=by
  simp only[List.mem_cons,List.not_mem_nil,or_false]at hp
  omega
 have nn:n*n<=169:=Nat.mul_le_mul (show n<=13 by omega) (show n<=13 by omega)
 have nnn:n*n*n<=169*13:=Nat.mul_le_mul nn (show n<=13 by omega)
 have e2:(n:Int)*n=((n*n:Nat):Int):=by push_cast;rfl
 have e3:(n:Int)*n*n=((n*n*n:Nat):Int):=by push_cast;rfl
 obtain⟨i0,t0,F0⟩:=Jl ev hp hd L
 obtain⟨l,hl,li,one,l0⟩:=zh ev L hc F0
 refine⟨_,rfl,.ref r,_,rfl,Ny hR,h1,h2,λH1 s1=> ?_⟩
 rw[Ej cS]
 refine⟨_,rfl,iO ?_⟩
 refine⟨_,rfl,r,rs,S,rfl,hR.same s1,cS,bS.mono (by decide),trivial,λH2 s2=>⟨_,rfl,_,rfl,_,rfl,_,_,rfl,rfl,.inl ⟨by omega,by omega⟩,_,rfl,_,_,rfl,rfl,.inl ⟨by omega,by omega⟩,rfl,_,rfl,g9 (λc=> ?_) (λc=> ?_)⟩⟩
 ·refine q i0 t0 false H2 F0 ⟨λz=>(nomatch z),λz=> ?_⟩ (s1.trans s2)
  exfalso
  have h1:=z.1
  have h2:¬(V.int (if aN S<0 then-(aN S)else aN S)=V.int ((n:Int)*n*n)):=by simpa using c
  apply h2
  congr 1
  split<;>omega
 have dS:aN S=(n:Int)*n*n∨aN S= -((n:Int)*n*n):=by
  have h2:V.int (if aN S<0 then-(aN S)else aN S)=V.int ((n:Int)*n*n):=Classical.byContradiction λz=>c (by simpa using z)
  injection h2 with h2
  split at h2<;>omega
 have s12:=s1.trans s2
 refine⟨_,rfl,_,rfl,_,rfl,t,bs,m,n,b,x,rfl,hT.same s12,dD,hB,ev,hp,hd,s12 _ _ hx,L,hc,s12 _ _ h3,s12 _ _ h4,s12 _ _ h5,λi tm u H3 F s3 fu eu=> ?_⟩
 have qy:=s12.trans s3
 have bx:∀i,i<3->(x i).natAbs<2^4:=λi hi=>by have:=L.lo i hi;have:=L.hi i hi;omega
 have bu:∀j,j<3->(cH (n:Int) x i tm j).natAbs<2^9:=λj hj=>by
  have h1:=bx j hj
  have h2:=F.lo
  have h3:=F.up
  have c1:(tm*(n:Int)).natAbs<2^(4+4):=fE (by omega) (by omega)
  unfold cH
  split<;>omega
 have l3:(rs.map V.ref).length=3:=by rw[List.length_map,<-hR.2.length,cS.1]
 obtain⟨QU,rwR⟩:=yb (hR.same qy) cS.2
 refine⟨_,rfl,r,rfl,⟨_,aV.of (hR.same qy).1⟩,BX (dM (aV.of (hR.same qy).1)) (qy _ _ h7) (λa=>Fc m n x (cH n x i tm) ((rws H3 rs).getD a [])) (λa v ea H4 Q4 s4 k4=> ?_) (λbo H4 s4 Yp=> ?_)⟩
 ·obtain⟨d,rfl,hdm⟩:=jy (List.mem_of_getElem? ea)
  have sm:=qy.trans s4
  have ed:(rws H3 rs).getD a []=iQ H3 d:=by
   rw[List.getElem?_map]at ea
   unfold rws
   rw[List.getD_eq_getElem?_getD,List.getElem?_map]
   cases h:rs[a]? with
   |none=>rw[h]at ea;cases ea
   |some z=>
    rw[h]at ea
    cases ea
    rfl
  have br:=Tu cS bS _ (show iQ H3 d∈S by rw[<-rwR];exact List.mem_map_of_mem hdm)
  rw[ed]at k4
  refine⟨_,rfl,_,rfl,_,rfl,_,rfl,_,rfl,t,bs,m,n,b,x,u,cH n x i tm,d,az (iQ H3 d),l,rfl,hT.same sm,dD,hB,sm _ _ hx,s4 _ _ eu,s4 _ _ (QU d hdm).1,(λi hi=>aX (bx i hi) (by decide)),(λi hi=>aX (bu i hi) (by decide)),(λi hi=>aX (br i hi) (by decide)),by omega,p0.2,hl,one,l0,sm _ _ h5,sm _ _ h6,λb' H5 hb' s5=> ?_⟩
  have:b'=Fc m n x (cH n x i tm) (iQ H3 d):=by rw[Bool.eq_iff_iff,hb',wz]
  rw[this]
  exact k4 H5 s5
 ·refine q i tm bo H4 F ?_ (qy.trans s4)
  rw[Yp,<-PR cS dS,List.all_eq_true,l3,rwR]
  constructor
  ·intro h v hv
   obtain⟨z,hz,rfl⟩:=List.mem_map.mp hv
   obtain⟨a,ha,rfl⟩:=List.mem_iff_getElem.mp hz
   have:=h a (by rw[cS.1]at ha;exact ha)
   rw[List.getD_eq_getElem?_getD,List.getElem?_eq_getElem ha]at this
   exact this
  ·intro h a ha
   have la:a<S.length:=by rw[cS.1];exact ha
   rw[List.getD_eq_getElem?_getD,List.getElem?_eq_getElem la]
   exact h _ (List.mem_map_of_mem (List.getElem_mem la))
inductive PZ(T1 T2 T3 T4 T5 T6 T7 T8 cF cG cP cL cS:Addr)(vs:List V)(H:Hp)(Q:VK)(E:XK):Prop
 |mk(v p:V)(d:PyData)(ln:V)(e:PyData)(tb:V)(_:vs=[v,p,ln,tb])(_:DV H p d)(_:DV H ln e)(_:H T1=some (cj T1))(_:H T2=some (cj T2))(_:H T3=some (cj T3))(_:H T4=some (cj T4))(_:H T5=some (cj T5))(_:H T6=some (cj T6))(_:H T7=some (cj T7))(_:H T8=some (cj T8))(_:((NU H v/\ ∀H',av H H'->E (.ref cF) none H')∨(∃m,jg H v m/\(∀p,d= .int p->gF (aN m/2) d=true->aN m/2<=200->lI m p e)/\ ∀H',av H H'->if 200<aN m/2 then E (.ref cG) none H' else if gF (aN m/2) d=true then E (.ref cL) none H' else E (.ref cP) none H'))∨(∃(m:List (List Int)) (x:Nat->Int),jg H v m/\aN m/2<=200/\ ∃n:Nat,d= .int (n:Int)/\(n:Int)∈([3,5,7,11,13]:List Int)/\aN m/2%(n:Int)≠0/\e= .list [.int (x 0),.int (x 1),.int (x 2)]/\gZ (n:Int) x/\aR m x%(n:Int)=0/\ ∃(r:Addr) (rs:List Addr) (S:List (List Int)),tb= .ref r/\Tab H r rs S/\cu S/\Bd 330 S/\(∀(i:Nat) (tm:Int),pK m (n:Int) x i tm-> ¬kE m n x (cH (n:Int) x i tm) S)/\ ∀H',av H H'->E (.ref cS) none H'))
theorem Fe{aS aM aE aO cY bD cM bO:Addr}{aZ aK aT bC bZ:Addr}(F:fK K mg "way_back" tM l9)(pe:mg "NoStep"=some (.ref bZ))(zv:PyProof.Rows.OwnCls "NoStep" bZ GR "ValueError.__new__" mg base)(c7:cZ P w K mg base (vO P w) 11 "refuse_no_line" eO (ye aS aM aE aO aZ aK aT bC))(nQ:cZ P w K mg base c8 11 "steps_along" iV (JG aS aM cY bD aO cM bO)):cZ P w K mg base (vO P w) 12 "way_back" l9 (PZ aS aM aE aO cY bD cM bO aZ aK aT bC bZ):=by
 refine F.QU EG (λvs H Q E h=> ?_) (λf cdv A outer s H vs Q E hr h=> ?_)
 ·obtain⟨v,p,d,ln,e,tb,rfl,hd,he,h1,h2,h3,h4,h5,h6,h7,h8,hv⟩:=h
  rfl
 obtain⟨v,p,d,ln,e,tb,rfl,hd,he,h1,h2,h3,h4,h5,h6,h7,h8,hv⟩:=h
 have hu:=hr.units
 refine⟨_,(mS (@ay _ _ _ _ _ (iZ (aQ c7 hr rfl Ew (ah (pv 0) (ah (pv 1) (ah (pv 2) ao)))))
  (@ay _ _ _ _ _ (bI (m8 (gQ (aQ nQ hr rfl aU (ah (pv 0) (ah (pv 1) (ah (pv 2) (ah (pv 3) ao))))))) (@aI _ _ _ (qP zv PySem.F.excBase_ValueError rfl (ah gm ao))) cy)
  (@ay _ _ _ _ _ kg
  (@ay _ _ _ _ _ kg
  (@ay _ _ _ _ _ kg
  (@ay _ _ _ _ _ kg
  (@aI _ _ _ kg)))))))),?_⟩
 refine⟨_,rfl,_,rfl,_,rfl,v,p,d,ln,e,rfl,hd,he,h1,h2,h3,trivial,h4,?_⟩
 rcases hv with hv|⟨m,x,hf,le,n,rfl,hp,IQ,rfl,L,hc,r,rs,S,rfl,hR,cS,bS,hst,q⟩
 ·exact hv.imp id .inl
 refine .inr (.inr ⟨m,x,hf,le,(n:Int),rfl,hp,IQ,rfl,L,hc,λH1 s1=> ?_⟩)
 cases hd
 obtain⟨b,rfl,hx⟩:=CW he
 obtain⟨t,bs,rfl,hT,dD,hB,ev,ab⟩:=hf
 refine⟨_,rfl,_,rfl,_,rfl,_,rfl,t,bs,m,n,b,x,r,rs,S,rfl,hT.same s1,dD,hB,ev,hp,IQ,s1 _ _ hx,L,hc,hR.same s1,cS,bS,s1 _ _ h1,s1 _ _ h2,s1 _ _ h5,s1 _ _ h6,s1 _ _ h4,s1 _ _ h7,s1 _ _ h8,λi tm bo H2 F Yp s2=> ?_⟩
 obtain rfl:bo=false:=by
  cases bo with
  |false=>rfl
  |true=>exact absurd (Yp.mp rfl) (hst i tm F)
 exact⟨_,rfl,mQ ⟨(by show 1<=sizeLine;decide),q H2 (s1.trans s2)⟩⟩
inductive Qc(T1 T2 T3 T4 T5 T6 T7 T8:Addr)(vs:List V)(H:Hp)(Q:VK)(E:XK):Prop
 |mk(way:Int)(v p:V)(d:PyData)(ln:V)(e:PyData)(tb:V)(_:vs=[.int way,v,p,ln,tb])(_:DV H p d)(_:DV H ln e)(_:H T1=some (cj T1))(_:H T2=some (cj T2))(_:H T3=some (cj T3))(_:H T4=some (cj T4))(_:H T5=some (cj T5))(_:H T6=some (cj T6))(_:H T7=some (cj T7))(_:H T8=some (cj T8))(_:(NU H v/\ ∀H',av H H'->Q (.str "form") H')∨(∃m,jg H v m/\((200<aN m/2/\ ∀H',av H H'->Q (.str "great") H')∨(aN m/2<=200/\gF (aN m/2) d=false/\ ∀H',av H H'->Q (.str "prime") H')∨(aN m/2<=200/\gF (aN m/2) d=true/\(∀p,d= .int p->lI m p e)/\ ∀H',av H H'->Q (.str "line") H')))∨(way=2/\ ∃(m:List (List Int)) (x:Nat->Int),jg H v m/\aN m/2<=200/\ ∃n:Nat,d= .int (n:Int)/\(n:Int)∈([3,5,7,11,13]:List Int)/\aN m/2%(n:Int)≠0/\e= .list [.int (x 0),.int (x 1),.int (x 2)]/\gZ (n:Int) x/\aR m x%(n:Int)=0/\ ∃(r:Addr) (rs:List Addr) (S:List (List Int)),tb= .ref r/\Tab H r rs S/\cu S/\Bd 330 S/\(∀(i:Nat) (tm:Int),pK m (n:Int) x i tm-> ¬kE m n x (cH (n:Int) x i tm) S)/\ ∀H',av H H'->Q (.str "step") H'))
theorem CZ{aS aM aE aO cY bD cM bO:Addr}{aZ aK aT bC bZ cg iw cK dU fC dW:Addr}(F:fK K mg "_law_told" qZ kC)(tT:mg "KinError"=some (.ref iw))(XC:GU K iw [cK,aZ,aK,cg,aT,bC,bZ,dU,fC,dW])(zw:cZ P w K mg base (vO P w) 12 "beside" qS (PX aS aM aE aO aZ aK aT bC))(wC:cZ P w K mg base (vO P w) 12 "is_step" oW (JF aS aM aE aO aZ aK aT bC))(tU:cZ P w K mg base (vO P w) 12 "way_back" l9 (PZ aS aM aE aO cY bD cM bO aZ aK aT bC bZ)){iA:Addr}{vg:FuncData}(rq:yI P w K mg base 12 iA vg ["_law_e"] (λa oe=>Pu aZ aK aT bC bZ cg oe.cls a))(rz:Binds K vg ["_law_e"] [])(jt:PySem.W.keepIn K (.ref iA)=true)(rA:mg "_law_kind"=some (.ref iA)):cZ P w K mg base c8 13 "_law_told" kC (Qc aS aM aE aO cY bD cM bO):=by
 refine F.ok uS (λvs H Q E h=> ?_) (λf cdv A outer s H vs Q E hr h=> ?_)
 ·obtain⟨way,v,p,d,ln,e,tb,rfl,hd,he,h1,h2,h3,h4,h5,h6,h7,h8,hv⟩:=h
  rfl
 obtain⟨way,v,p,d,ln,e,tb,rfl,hd,he,h1,h2,h3,h4,h5,h6,h7,h8,hv⟩:=h
 have hu:=hr.units
 refine⟨_,(mS (@ay _ _ _ _ _ (VJ (CK:=iw) (i:=5) ⟨rfl,rfl,uS.nd,rfl,rfl,rfl,tT,by decide⟩ (λa oe=>(eH (bA (NS rq (m5.mark (m5.of hr)) rfl rA jt rz List.mem_cons_self (ah (pv 5) ao))))) (λok T hs pins D σ=>(eH (bI (bB fF (pv 0) ak (bg _)) (@aI _ _ _ (iZ (Pe (Et:=σ) ok T zw hr rfl hs (ah (pv 1) (ah (pv 2) (ah (pv 3) ao)))))) (@aI _ _ _ (bI (bB fF (pv 0) ak (bg _)) (@aI _ _ _ (iZ (Pe (Et:=σ) ok T wC hr rfl hs (ah (pv 1) (ah (pv 2) (ah (pv 3) (ah (pv 4) ao))))))) (@aI _ _ _ (iZ (Pe (Et:=σ) ok T tU hr rfl hs (ah (pv 1) (ah (pv 2) (ah (pv 3) (ah (pv 4) ao)))))))))))))
  (@aI _ _ _ (bA gm)))),?_⟩
 refine⟨_,rfl,rfl,_,rfl,g9 (λc=> ?_) (λc=> ?_)⟩
 ·have c:=V.int.inj (of_decide_eq_true c)
  refine⟨rfl,_,rfl,_,rfl,_,rfl,v,p,d,ln,e,rfl,hd,he,h1,h2,h3,trivial,h4,?_⟩
  rcases hv with⟨hb,q⟩|⟨m,hf,⟨g,q⟩|⟨g,pd,q⟩|⟨g,pd,nl,q⟩⟩|gd
  ·exact(.inl ⟨hb,λH1 s1=>⟨(XC.at 1 rfl).KZ,λa oe hc nc ha=>⟨_,rfl,rfl,.inl ⟨hc,λH3 s3=>q H3 (s1.trans s3)⟩⟩⟩⟩)
  ·refine(.inr ⟨m,hf,λp _ _ z=>absurd g (by omega),λH1 s1=> ?_⟩)
   rw[if_pos g]
   exact⟨(XC.at 2 rfl).KZ,λa oe hc nc ha=>⟨_,rfl,rfl,.inr (.inl ⟨hc,λH3 s3=>q H3 (s1.trans s3)⟩)⟩⟩
  ·refine(.inr ⟨m,hf,λp ep hp z=>absurd hp (by rw[pd];decide),λH1 s1=> ?_⟩)
   rw[if_neg (by omega),if_neg (by rw[pd];decide)]
   exact⟨(XC.at 4 rfl).KZ,λa oe hc nc ha=>⟨_,rfl,rfl,.inr (.inr (.inl ⟨hc,λH3 s3=>q H3 (s1.trans s3)⟩))⟩⟩
  ·refine(.inr ⟨m,hf,λp ep _ _=>nl p ep,λH1 s1=> ?_⟩)
   rw[if_neg (by omega),if_pos pd]
   exact⟨(XC.at 5 rfl).KZ,λa oe hc nc ha=>⟨_,rfl,rfl,.inr (.inr (.inr (.inl ⟨hc,λH3 s3=>q H3 (s1.trans s3)⟩)))⟩⟩
  ·exact absurd (gd.1.symm.trans c) (by decide)
 have c:¬way=0:=λz=>c (decide_eq_true (congrArg V.int z))
 refine⟨_,rfl,rfl,_,rfl,g9 (λc2=> ?_) (λc2=> ?_)⟩
 ·have c2:=V.int.inj (of_decide_eq_true c2)
  refine⟨rfl,_,rfl,_,rfl,_,rfl,_,rfl,v,p,d,ln,e,tb,rfl,hd,he,h1,h2,h3,trivial,h4,?_⟩
  rcases hv with⟨hb,q⟩|⟨m,hf,⟨g,q⟩|⟨g,pd,q⟩|⟨g,pd,nl,q⟩⟩|gd
  ·exact(.inl ⟨hb,λH1 s1=>⟨(XC.at 1 rfl).KZ,λa oe hc nc ha=>⟨_,rfl,rfl,.inl ⟨hc,λH3 s3=>q H3 (s1.trans s3)⟩⟩⟩⟩)
  ·refine(.inr ⟨m,hf,λp _ _ z=>absurd g (by omega),λH1 s1=> ?_⟩)
   rw[if_pos g]
   exact⟨(XC.at 2 rfl).KZ,λa oe hc nc ha=>⟨_,rfl,rfl,.inr (.inl ⟨hc,λH3 s3=>q H3 (s1.trans s3)⟩)⟩⟩
  ·refine(.inr ⟨m,hf,λp ep hp z=>absurd hp (by rw[pd];decide),λH1 s1=> ?_⟩)
   rw[if_neg (by omega),if_neg (by rw[pd];decide)]
   exact⟨(XC.at 4 rfl).KZ,λa oe hc nc ha=>⟨_,rfl,rfl,.inr (.inr (.inl ⟨hc,λH3 s3=>q H3 (s1.trans s3)⟩))⟩⟩
  ·refine(.inr ⟨m,hf,λp ep _ _=>nl p ep,λH1 s1=> ?_⟩)
   rw[if_neg (by omega),if_pos pd]
   exact⟨(XC.at 5 rfl).KZ,λa oe hc nc ha=>⟨_,rfl,rfl,.inr (.inr (.inr (.inl ⟨hc,λH3 s3=>q H3 (s1.trans s3)⟩)))⟩⟩
  ·exact absurd (gd.1.symm.trans c2) (by decide)
 ·refine⟨rfl,_,rfl,_,rfl,_,rfl,_,rfl,v,p,d,ln,e,tb,rfl,hd,he,h1,h2,h3,h4,h5,h6,h7,h8,?_⟩
  rcases hv with⟨hb,q⟩|⟨m,hf,⟨g,q⟩|⟨g,pd,q⟩|⟨g,pd,nl,q⟩⟩|gd
  ·exact .inl (.inl ⟨hb,λH1 s1=>⟨(XC.at 1 rfl).KZ,λa oe hc nc ha=>⟨_,rfl,rfl,.inl ⟨hc,λH3 s3=>q H3 (s1.trans s3)⟩⟩⟩⟩)
  ·refine .inl (.inr ⟨m,hf,λp _ _ z=>absurd g (by omega),λH1 s1=> ?_⟩)
   rw[if_pos g]
   exact⟨(XC.at 2 rfl).KZ,λa oe hc nc ha=>⟨_,rfl,rfl,.inr (.inl ⟨hc,λH3 s3=>q H3 (s1.trans s3)⟩)⟩⟩
  ·refine .inl (.inr ⟨m,hf,λp ep hp z=>absurd hp (by rw[pd];decide),λH1 s1=> ?_⟩)
   rw[if_neg (by omega),if_neg (by rw[pd];decide)]
   exact⟨(XC.at 4 rfl).KZ,λa oe hc nc ha=>⟨_,rfl,rfl,.inr (.inr (.inl ⟨hc,λH3 s3=>q H3 (s1.trans s3)⟩))⟩⟩
  ·refine .inl (.inr ⟨m,hf,λp ep _ _=>nl p ep,λH1 s1=> ?_⟩)
   rw[if_neg (by omega),if_pos pd]
   exact⟨(XC.at 5 rfl).KZ,λa oe hc nc ha=>⟨_,rfl,rfl,.inr (.inr (.inr (.inl ⟨hc,λH3 s3=>q H3 (s1.trans s3)⟩)))⟩⟩
  ·obtain⟨_,m,x,hf,le,n,rfl,hp,IQ,rfl,L,hc,r,rs,S,rfl,hR,cS,bS,hst,q⟩:=gd
   exact .inr ⟨m,x,hf,le,n,rfl,hp,IQ,rfl,L,hc,r,rs,S,rfl,hR,cS,bS,hst,λH1 s1=>⟨(XC.at 6 rfl).KZ,λa oe hc nc ha=>⟨_,rfl,rfl,.inr (.inr (.inr (.inr (.inl ⟨hc,λH3 s3=>q H3 (s1.trans s3)⟩))))⟩⟩⟩
end
end CB
namespace L2
open PySem PySem.Spec PyProof.Rows
theorem Ff{p:Int}{y x:Nat->Int}{d:Int}(h:∀j,j<3->(y j-d*x j)%p=0):∃a:Nat->Int,∀j,j<3->y j=d*x j+p*a j:=
 ⟨λj=>(y j-d*x j)/p,λj hj=>by
  have e:=Int.emod_add_mul_ediv (y j-d*x j) p
  rw[h j hj]at e
  show y j=d*x j+p*((y j-d*x j)/p)
  generalize p*((y j-d*x j)/p)=w at e ⊢
  omega⟩
theorem HR{m:List (List Int)}{n:Nat}{x up:Nat->Int}{S:List (List Int)}(St:kE m n x up S){i j:Nat}:∃c,lF S i j=(n:Int)*c:=by
 have go:∀a b,a<3->b<3-> ∀u v,u<3->v<3-> ∃c,ent S a u*ent S b v-ent S a v*ent S b u=(n:Int)*c:=λa b ha hb u v hu hv=>by
  obtain⟨_,d,_,h1⟩:=St.2 a ha
  obtain⟨_,e,_,h2⟩:=St.2 b hb
  obtain⟨y,hy⟩:=Ff h1
  obtain⟨z,hz⟩:=Ff h2
  refine⟨(d:Int)*x u*z v+y u*e*x v+n*y u*z v- ((d:Int)*x v*z u+y v*e*x u+n*y v*z u),?_⟩
  have a1:=hy u hu
  have a2:=hy v hv
  have a3:=hz u hu
  have a4:=hz v hv
  rw[a1,a2,a3,a4]
  grind
 exact go _ _ (ow _) (ow _) _ _ (ow _) (ow _)
theorem TH(S:List (List Int)){i j:Nat}(hi:i<3)(hj:j<3):lF (iH S) i j=aN S*ent S j i:=by
 rw[cN]
 unfold lF
 rcases aG hi with rfl|rfl|rfl<;>rcases aG hj with rfl|rfl|rfl<;>simp only[Nat.reduceAdd,Nat.reduceMod]<;>rw[cR _ (by decide) (by decide),cR _ (by decide) (by decide),cR _ (by decide) (by decide),cR _ (by decide) (by decide)]<;>unfold lF<;>simp only[Nat.reduceAdd,Nat.reduceMod]<;>grind
theorem Qd(d:Int):aN (oF d)=d*d*d:=by
 rw[cN]
 show d*(d*d-0*0)+0*(0*0-0*d)+0*(0*0-d*0)=_
 grind
structure Yq(n:Nat)(S:List (List Int))(sg:Int)(B:List (List Int)):Prop where
 one:sg=(n:Int)∨sg= -(n:Int)
 det:aN S=sg*((n:Int)*n)
 lN:cu B
 cov:∀i j,i<3->j<3->ent (iH S) i j=sg*ent B i j
 left:iR B S=oF ((n:Int)*n)
 right:iR S B=oF ((n:Int)*n)
 CD:aN B=sg*((n:Int)*n)
 minor:∀i j,i<3->j<3-> ∃c,lF B i j=(n:Int)*c
theorem JH{A B:List (List Int)}(ca:cu A)(cb:cu B)(h:∀i j,i<3->j<3->ent A i j=ent B i j):A=B:=by
 rw[yw ca,yw cb]
 exact jk h
theorem TM{m:List (List Int)}{n:Nat}(n0:0<n){x up:Nat->Int}{S:List (List Int)}(St:kE m n x up S):
  Yq n S (aN S/((n:Int)*n)) (mk3 λi j=>ent (iH S) i j/(aN S/((n:Int)*n))):=by
 have np:(0:Int)<n:=by omega
 have nn:(n:Int)*n≠0:=Int.ne_of_gt (Int.mul_pos np np)
 have es:aN S/((n:Int)*n)=(n:Int)∨aN S/((n:Int)*n)= -(n:Int):=by
  rcases St.1 with z|z
  ·left
   rw[z,Int.mul_assoc,Int.mul_comm,Int.mul_ediv_cancel_left _ nn]
  ·right
   rw[z,show-((n:Int)*n*n)=(n:Int)*n* -(n:Int)by grind,Int.mul_ediv_cancel_left _ nn]
 have ed:aN S=aN S/((n:Int)*n)*((n:Int)*n):=by
  rcases es with e|e<;>rw[e]<;>rcases St.1 with z|z<;>rw[z]at e ⊢
  ·grind
  ·exfalso
   rw[show-((n:Int)*n*n)=(n:Int)*n* -(n:Int)by grind,Int.mul_ediv_cancel_left _ nn]at e
   omega
  ·exfalso
   rw[Int.mul_assoc,Int.mul_comm,Int.mul_ediv_cancel_left _ nn]at e
   omega
  ·grind
 generalize aN S/((n:Int)*n)=sg at es ed ⊢
 have s0:sg≠0:=by omega
 have cv:∀i j,i<3->j<3->ent (iH S) i j=sg*ent (mk3 λi j=>ent (iH S) i j/sg) i j:=λi j hi hj=>by
  rw[bQ _ hi hj,cR _ hi hj]
  obtain⟨c,e⟩:=HR St (i:=j) (j:=i)
  rw[e]
  rcases es with z|z<;>rw[z]
  ·rw[Int.mul_ediv_cancel_left _ (by omega)]
  ·rw[show(n:Int)*c= -(n:Int)* -c by grind,Int.mul_ediv_cancel_left _ (by omega)]
 generalize hB:(mk3 λi j=>ent (iH S) i j/sg)=B at cv ⊢
 have cB:cu B:=by rw[<-hB];exact bH _
 have un:∀i j,i<3->j<3-> ∀d:Int,ent (oF d) i j=if i=j then d else 0:=λi j hi hj d=>bQ _ hi hj
 have lf:iR B S=oF ((n:Int)*n):=JH (bH _) (bH _) λi j hi hj=>by
  have e:ent (iR (iH S) S) i j=ent (oF (aN S)) i j:=by rw[Eb]
  rw[bq _ _ hi hj,cv i 0 hi (by decide),cv i 1 hi (by decide),cv i 2 hi (by decide),un i j hi hj,ed]at e
  refine Int.eq_of_mul_eq_mul_left s0 ?_
  rw[bq _ _ hi hj,un i j hi hj]
  have e2:sg*(ent B i 0*ent S 0 j+ent B i 1*ent S 1 j+ent B i 2*ent S 2 j)=sg*ent B i 0*ent S 0 j+sg*ent B i 1*ent S 1 j+sg*ent B i 2*ent S 2 j:=by grind
  rw[e2,e]
  split<;>simp
 have rt:iR S B=oF ((n:Int)*n):=JH (bH _) (bH _) λi j hi hj=>by
  have e:ent (iR S (iH S)) i j=ent (oF (aN S)) i j:=by rw[Kw]
  rw[bq _ _ hi hj,cv 0 j (by decide) hj,cv 1 j (by decide) hj,cv 2 j (by decide) hj,un i j hi hj,ed]at e
  refine Int.eq_of_mul_eq_mul_left s0 ?_
  rw[bq _ _ hi hj,un i j hi hj]
  have e2:sg*(ent S i 0*ent B 0 j+ent S i 1*ent B 1 j+ent S i 2*ent B 2 j)=ent S i 0*(sg*ent B 0 j)+ent S i 1*(sg*ent B 1 j)+ent S i 2*(sg*ent B 2 j):=by grind
  rw[e2,e]
  split<;>simp
 have dB:aN B=sg*((n:Int)*n):=by
  have e:=congrArg aN lf
  rw[rW]at e
  have e2:=Qd ((n:Int)*n)
  rw[e2]at e
  have dS0:aN S≠0:=by
   rw[ed]
   exact Int.mul_ne_zero s0 nn
  refine Int.eq_of_mul_eq_mul_right dS0 ?_
  rw[e,ed]
  rcases es with z|z<;>rw[z]<;>grind
 refine⟨es,ed,cB,cv,lf,rt,dB,λi j hi hj=> ?_⟩
 have e:=TH S hi hj
 have e2:lF (iH S) i j=sg*sg*lF B i j:=by
  unfold lF
  rw[cv _ _ (ow _) (ow _),cv _ _ (ow _) (ow _),cv _ _ (ow _) (ow _),cv _ _ (ow _) (ow _)]
  grind
 rw[e2,ed]at e
 have e3:sg*lF B i j=(n:Int)*n*ent S j i:=Int.eq_of_mul_eq_mul_left s0 (by rw[<-Int.mul_assoc,e];grind)
 rcases es with z|z<;>rw[z]at e3
 ·exact⟨ent S j i,Int.eq_of_mul_eq_mul_left (show(n:Int)≠0 by omega) (by rw[e3];grind)⟩
 ·exact⟨-ent S j i,Int.eq_of_mul_eq_mul_left (show(n:Int)≠0 by omega) (by rw[show(n:Int)*lF B i j= -(-(n:Int)*lF B i j)by grind,e3];grind)⟩
theorem Qe{m S B:List (List Int)}(ev:cC m){n:Nat}(hp:(n:Int)∈([3,5,7,11,13]:List Int))(hd:aN m/2%(n:Int)≠0){x up:Nat->Int}(L:gZ (n:Int) x)(uc:∀i,i<3->up i%(n:Int)=x i%n)(St:kE m n x up S){sg:Int}(h:Yq n S sg B):
  ∃a,a<3/\ ¬lY (n:Int) (λj=>ent B a j):=by
 have n0:(0:Int)<n:=by
  simp only[List.mem_cons,List.not_mem_nil,or_false]at hp
  omega
 have nn:(n:Int)*n≠0:=Int.ne_of_gt (Int.mul_pos n0 n0)
 refine Classical.byContradiction λno=> ?_
 have al:∀a,a<3-> ∀j,j<3-> ∃c,ent B a j=(n:Int)*c:=λa ha j hj=>by
  have r:lY (n:Int) (λj=>ent B a j):=Classical.byContradiction λz=>no ⟨a,ha,z⟩
  refine Int.dvd_of_emod_eq_zero ?_
  rcases aG hj with rfl|rfl|rfl
  ·exact r.1
  ·exact r.2.1
  ·exact r.2.2
 have sl:∀k,k<3->aD m up k%(n:Int)=0:=λk hk=>by
  obtain⟨b0,h0⟩:=al k hk 0 (by decide)
  obtain⟨b1,h1⟩:=al k hk 1 (by decide)
  obtain⟨b2,h2⟩:=al k hk 2 (by decide)
  have g:=λa ha=>Int.dvd_of_emod_eq_zero (St.2 a ha).1
  obtain⟨t0,g0⟩:=g 0 (by decide)
  obtain⟨t1,g1⟩:=g 1 (by decide)
  obtain⟨t2,g2⟩:=g 2 (by decide)
  rw[gi]at g0 g1 g2
  have e:∀j,j<3->ent B k 0*ent S 0 j+ent B k 1*ent S 1 j+ent B k 2*ent S 2 j=if k=j then(n:Int)*n else 0:=λj hj=>by
   rw[<-bq _ _ hk hj,h.left]
   exact bQ _ hk hj
  have e0:=e 0 (by decide)
  have e1:=e 1 (by decide)
  have e2:=e 2 (by decide)
  have sum:(n:Int)*n*aD m up k=ent B k 0*((n:Int)*n*t0)+ent B k 1*((n:Int)*n*t1)+ent B k 2*((n:Int)*n*t2):=by
   rw[<-g0,<-g1,<-g2]
   have e3:ent B k 0*(aD m up 0*ent S 0 0+aD m up 1*ent S 0 1+aD m up 2*ent S 0 2)+ent B k 1*(aD m up 0*ent S 1 0+aD m up 1*ent S 1 1+aD m up 2*ent S 1 2)+ent B k 2*(aD m up 0*ent S 2 0+aD m up 1*ent S 2 1+aD m up 2*ent S 2 2)=aD m up 0*(ent B k 0*ent S 0 0+ent B k 1*ent S 1 0+ent B k 2*ent S 2 0)+aD m up 1*(ent B k 0*ent S 0 1+ent B k 1*ent S 1 1+ent B k 2*ent S 2 1)+aD m up 2*(ent B k 0*ent S 0 2+ent B k 1*ent S 1 2+ent B k 2*ent S 2 2):=by grind
   rw[e3,e0,e1,e2]
   rcases aG hk with rfl|rfl|rfl<;>simp<;>grind
  rw[h0,h1,h2]at sum
  have fin:aD m up k=(n:Int)*(b0*t0+b1*t1+b2*t2):=Int.eq_of_mul_eq_mul_left nn (by rw[sum];grind)
  rw[fin]
  exact Int.mul_emod_right _ _
 refine uM ev hp hd L ⟨?_,?_,?_⟩
 ·rw[<-j6 uc];exact sl 0 (by decide)
 ·rw[<-j6 uc];exact sl 1 (by decide)
 ·rw[<-j6 uc];exact sl 2 (by decide)
theorem Qg{m S:List (List Int)}(ev:cC m){n:Nat}(hp:(n:Int)∈([3,5,7,11,13]:List Int))(hd:aN m/2%(n:Int)≠0){x up:Nat->Int}(L:gZ (n:Int) x)(uc:∀i,i<3->up i%(n:Int)=x i%n)(St:kE m n x up S):
  ∃a,a<3/\ ¬lY (n:Int) (λj=>ent S a j):=by
 have n0:(0:Int)<n:=by
  simp only[List.mem_cons,List.not_mem_nil,or_false]at hp
  omega
 have h:=TM (m:=m) (by omega) St
 generalize aN S/((n:Int)*n)=sg at h
 generalize(mk3 λi j=>ent (iH S) i j/sg)=B at h
 obtain⟨b,hb,hr⟩:=Qe ev hp hd L uc St h
 refine Classical.byContradiction λno=>hr ?_
 have al:∀a,a<3-> ∀j,j<3-> ∃c,ent S a j=(n:Int)*c:=λa ha j hj=>by
  have r:lY (n:Int) (λj=>ent S a j):=Classical.byContradiction λz=>no ⟨a,ha,z⟩
  refine Int.dvd_of_emod_eq_zero ?_
  rcases aG hj with rfl|rfl|rfl
  ·exact r.1
  ·exact r.2.1
  ·exact r.2.2
 have bz:∀j,j<3->ent B b j%(n:Int)=0:=λj hj=>by
  have e:=h.cov b j hb hj
  rw[cR _ hb hj]at e
  unfold lF at e
  obtain⟨c1,e1⟩:=al _ (ow (j+1)) _ (ow (b+1))
  obtain⟨c2,e2⟩:=al _ (ow (j+2)) _ (ow (b+2))
  obtain⟨c3,e3⟩:=al _ (ow (j+1)) _ (ow (b+2))
  obtain⟨c4,e4⟩:=al _ (ow (j+2)) _ (ow (b+1))
  rw[e1,e2,e3,e4]at e
  have e5:(n:Int)*(n*(c1*c2-c3*c4))=sg*ent B b j:=by rw[<-e];grind
  rcases h.one with z|z<;>rw[z]at e5
  ·have:=Int.eq_of_mul_eq_mul_left (Int.ne_of_gt n0) e5
   rw[<-this]
   exact Int.mul_emod_right _ _
  ·have e6:(n:Int)*(n*(c1*c2-c3*c4))=n* -(ent B b j):=by rw[e5];grind
   have:=Int.eq_of_mul_eq_mul_left (Int.ne_of_gt n0) e6
   have e7:ent B b j=n*(-(c1*c2-c3*c4)):=by
    have:ent B b j= -(n*(c1*c2-c3*c4)):=by omega
    rw[this]
    grind
   rw[e7]
   exact Int.mul_emod_right _ _
 exact⟨bz 0 (by decide),bz 1 (by decide),bz 2 (by decide)⟩
theorem LV{m S:List (List Int)}(ev:cC m){n:Nat}(hp:(n:Int)∈([3,5,7,11,13]:List Int))(hd:aN m/2%(n:Int)≠0){x x' up up':Nat->Int}(L:gZ (n:Int) x)(L':gZ (n:Int) x')(uc:∀i,i<3->up i%(n:Int)=x i%n)(St:kE m n x up S)(St':kE m n x' up' S):
  ∀j,j<3->x j=x' j:=by
 have n1:(1:Int)<n:=by
  simp only[List.mem_cons,List.not_mem_nil,or_false]at hp
  omega
 obtain⟨a,ha,hr⟩:=Qg ev hp hd L uc St
 have told:∀{y v:Nat->Int},gZ (n:Int) y->qv m n y v (λj=>ent S a j) -> ∃d:Int,0<d/\d<n/\ ∀j,j<3->d*y j%(n:Int)=ent S a j%n:=λ {y v} Ly g=>by
  obtain⟨_,d,hd,h⟩:=g
  have e:∀j,j<3->(d:Int)*y j%(n:Int)=ent S a j%n:=λj hj=>by
   obtain⟨c,hc⟩:=Int.dvd_of_emod_eq_zero (h j hj)
   have hc:ent S a j- (d:Int)*y j=n*c:=hc
   exact(lG (k:=c) (by omega)).symm
  refine⟨d,?_,by omega,e⟩
  rcases Nat.eq_zero_or_pos d with z|z
  ·exfalso
   subst z
   refine hr ⟨?_,?_,?_⟩
   ·have:=e 0 (by decide);simpa using this.symm
   ·have:=e 1 (by decide);simpa using this.symm
   ·have:=e 2 (by decide);simpa using this.symm
  ·omega
 obtain⟨d,d0,d1,e⟩:=told L (St.2 a ha)
 obtain⟨d',d0',d1',e'⟩:=told L' (St'.2 a ha)
 have k:=xZ n1 L d0 d1 (x:=λj=>ent S a j) e
 have k':=xZ n1 L' d0' d1' (x:=λj=>ent S a j) e'
 have dd:d=d':=k.1.symm.trans k'.1
 subst dd
 obtain⟨t,ht,hu⟩:=pI hp (a:=mZ (n:Int) λj=>ent S a j) (by
  rw[bL (yH (by omega)).1 (yH (by omega)).2]
  exact Er hr)
 intro j hj
 rw[<-vN n1 L d0 d1 e hu j hj,<-vN n1 L' d0' d1' e' hu j hj]
theorem xy{m S:List (List Int)}{n:Nat}{x up:Nat->Int}(h1:aN S≠(n:Int)*n*n)(h2:aN S≠ -((n:Int)*n*n)):¬kE m n x up S:=λh=>by
 rcases h.1 with z|z
 ·exact h1 z
 ·exact h2 z
theorem Fg{n:Nat}(hq:n∈([3,5,7,11,13]:List Nat)):(eX n (n*n)).Nodup:=by
 simp only[List.mem_cons,List.not_mem_nil,or_false]at hq
 rcases hq with rfl|rfl|rfl|rfl|rfl<;>decide+kernel
end L2
set_option maxHeartbeats 1000000
namespace CB
open PySem L2
section
variable{P:Program}{w:World}{K:PySem.W.Frag}{mg:Str->Option Value}{base:Heap}
theorem TN{K:PySem.W.Frag}{H:Hp}{bs:List Addr}{m:List (List Int)}(pr:Paired (λrow b=>H b=some (.lst (row.map V.int))) m bs):Ao K H (bs.map V.ref) (m.map jN):=by
 induction pr with
 |nil=>exact .nil
 | @cons r b m bs h t ih=>exact .cons (.lst (aV.of h) (IY r)) ih
theorem HS(F:List (List Int)):(F.map jN).all SeqAt.shaped=true:=by
 rw[List.all_map,List.all_eq_true]
 exact λr _=>jd r
theorem TQ(F:List (List Int))(r:List Int):((F.map jN).any λe=>PyData.eqv e (jN r))=decide (r∈F):=by
 rw[Bool.eq_iff_iff,List.any_eq_true,decide_eq_true_eq]
 constructor
 ·rintro⟨d,hd,e⟩
  obtain⟨t,ht,rfl⟩:=List.mem_map.mp hd
  rw[uy]at e
  rw[<-of_decide_eq_true e]
  exact ht
 ·intro h
  exact⟨_,List.mem_map.mpr ⟨r,h,rfl⟩,by rw[uy];exact decide_eq_true rfl⟩
theorem Dc{ds:List PyData}(h:∃d,d∈ds/\sZ d=false):qO (.list ds)=false:=by
 obtain⟨d,hd,e⟩:=h
 unfold qO
 rw[Bool.eq_false_iff]
 intro z
 rw[Bool.and_eq_true,List.all_eq_true]at z
 rw[z.2 d hd]at e
 cases e
inductive BF(vs:List V)(H:Hp)(Q:VK)(E:XK):Prop
 |mk(B A:Addr)(ls:List Addr)(F:List (List Int))(n:Nat)(m:List (List Int))(_:vs=[.ref B,.int (n:Int),.ref A])(_:iN H B)(_:Tab H A ls F)(_:A≠B)(_:B∉ls)(_:(eX n (n*n)).filter (λr=>decide (aR m (az r)%(n:Int)=0))=F)(_:F.length=n+1)(_:(n:Int)∈([3,5,7,11,13]:List Int))(_:∀v d H',SB B H H'->DV (hide B H') v d->lI m n d->Q v H')
theorem wD(F:fK K mg "_law_odd_line" kN gO)(fO:mg "len"=none)(pZ:mg "tuple"=none)(gf:mg "list"=none)(aF:cZ P w K mg base c8 3 "_law_take" cU kP)(jq:cZ P w K mg base c8 3 "_law_rows" jn CG):cZ P w K mg base c8 4 "_law_odd_line" gO BF:=by
 refine F.ok gA (λvs H Q E h=> ?_) (λf cdv A outer s H vs Q E hr h=> ?_)
 ·obtain⟨B,A,ls,F,n,m,rfl,hb,TS,nA,JI,eF,cL,hp,q⟩:=h
  rfl
 obtain⟨B,A,ls,F,n,m,rfl,hb,TS,nA,JI,eF,cL,hp,q⟩:=h
 have hu:=hr.units
 refine⟨_,(mS (@ay _ _ _ _ _ (mX (i:=3) gA.nd rfl rfl (N2:=["_law_bag_here","_law_p","_law_some","_law_off","_law_line","_law_bent"]) (tt:=(lA (fY (Yd K true) (aY 0) (aY 3)))) (te:=(aY 0)) rfl (di (aQ jq hr rfl aU (ah (pv 1) ao))) (by kernel_rfl) rfl (λ_ _ _=>by exact tu (bB (Lq (gr.VV hr)) (pv 0) (pv 3) (by rfl))) (λ_ _ _=>by exact fJ (pv 0)))
  (@ay _ _ _ _ _ (aW (i:=4) gA.nd rfl (Or.inl rfl) (aJ aA (pv 2) (aQ aF hr rfl aU (ah (pv 0) (ah (bV dJ rfl fO PySem.boot_len (ah (pv 2) ao)) ao))) (λ_ _=>rfl)))
  (@ay _ _ _ _ _ (aW (i:=5) gA.nd rfl (Or.inl rfl) (fQ jx rfl gf PyProof.Rows.boot_list (ah (pv 4) ao)))
  (VB (NF aA (bN (au GD (au GF (au (ND (au aL bK (by kernel_rfl))) (au (bN (au aL bK (by kernel_rfl))) (au Uz bK (by kernel_rfl)) (by kernel_rfl)) (by kernel_rfl)) (by kernel_rfl)) (by kernel_rfl))) (aQ aF hr rfl aU (ah (pv 0) (ah ak ao))) (λ_ _=>rfl)) (jP (pv 5) (aQ aF hr rfl aU (ah (pv 0) (ah ak ao))) set_list) (by kernel_rfl) (by kernel_rfl) (by kernel_rfl) (@ay _ _ _ _ _ (aW (i:=2) gA.nd rfl (Or.inr rfl) (gD (ah (aJ aA (pv 3) (aQ aF hr rfl aU (ah (pv 0) (ah (bV dJ rfl fO PySem.boot_len (ah (pv 3) ao)) ao))) (λ_ _=>rfl)) (ah (gT (N2:=["_law_bag_here","_law_p","_law_some","_law_off","_law_line","_law_bent"]) (te:=(fY (rI Al λi j=> .int (i*j)) (tC (.int 2)) (aY 0))) rfl (di (pv 4)) (by kernel_rfl) rfl (λ_ _ _=>by exact fJ (aB cI ak (pv 0)))) (ah (fQ m9 rfl pZ PyProof.Rows.boot_tuple (ah (pv 4) ao)) (ah vH (ah (pv 5) (ah (MT Ru (pv 4) Ro (Rp ak)) (ah (gD ao) ao)))))))))
  (@aI _ _ _ (bA (aJ aA (aB yk (pv 2) (gD (ah gm (ah ak (ah (pv 5) ao))))) (aQ aF hr rfl aU (ah (pv 0) (ah ak ao))) (λ_ _=>rfl)))))))))),?_⟩
 have p0:2<n/\n<14:=by
  simp only[List.mem_cons,List.not_mem_nil,or_false]at hp
  omega
 have nn:n*n<=169:=Nat.mul_le_mul (show n<=13 by omega) (show n<=13 by omega)
 have ll:(ls.map V.ref).length=n+1:=by rw[List.length_map,<-cL];exact TS.2.length.symm
 refine⟨_,rfl,(n:Int),rfl,by omega,by omega,λR rs H3 s3 fR frs nR TR=> ?_⟩
 rw[Int.toNat_natCast]at TR
 have TS3:=TS.same s3
 have mem:∀c∈rs,∃r,r∈eX n (n*n)/\H3 c=some (.lst [.int (az r 0),.int (az r 1),.int (az r 2)])/\r=[az r 0,az r 1,az r 2]:=λc hc=>by
  obtain⟨r,hr,e⟩:=qK TR.2 hc
  obtain⟨e3,_⟩:=jU (by omega) nn hr
  refine⟨r,hr,?_,e3⟩
  rw[e]
  conv=>lhs;rw[e3]
  rfl
 have len:(rs.map V.ref).length<=sizeLine:=by rw[List.length_map,<-TR.2.length,lK];exact Nat.le_of_lt (iF (by omega))
 refine⟨R,rfl,⟨_,aV.of TR.1⟩,λD hD=>dj (dM (aV.of TR.1)) len hD (λv=>match v with| .ref b=>(match H3 b with|some (.lst [.int r0,.int r1,.int r2])=> !decide ([r0,r1,r2]∈F)|_=>false)|_=>false) id (λy hy H4 R4 s4 kk=> ?_) (λy hy py H4 Q' s4 kk=>⟨_,rfl,kk H4 (av.refl _)⟩) (λH4 s4 e4=> ?_)⟩
 ·obtain⟨c,rfl,hc⟩:=jy hy
  obtain⟨r,hr,e,er⟩:=mem c hc
  have kk:=kk H4 (av.refl _)
  simp only[e]at kk
  have Yr:=TS3.same s4
  refine⟨_,rfl,_,rfl,A,_,jN [az r 0,az r 1,az r 2],F.map jN,rfl,aV.of Yr.1,tE (xs:=[az r 0,az r 1,az r 2]) (aV.of (s4 _ _ e)),jd _,TN Yr.2,HS F,_,rfl,?_⟩
  rw[if_pos rfl,TQ]
  exact kk
 obtain⟨os,eo,io,pr⟩:=mY (pf:=(λv=>match v with| .ref b=>(match H3 b with|some (.lst [.int r0,.int r1,.int r2])=> !decide ([r0,r1,r2]∈F)|_=>false)|_=>false)) (g:=λr=> !decide (r∈F)) TR.2 (λrow c hm e=>by
  obtain⟨er,_⟩:=jU (by omega) nn hm
  have e':H3 c=some (.lst [.int (az row 0),.int (az row 1),.int (az row 2)]):=by
   rw[e]
   conv=>lhs;rw[er]
   rfl
  simp only[e',<-er])
 have TO:Tab H4 D os ((eX n (n*n)).filter λr=> !decide (r∈F)):=⟨by rw[e4,List.map_id,eo],pr.xC λr c hc e=>s4 _ _ e⟩
 have off:∀r∈(eX n (n*n)).filter (λr=> !decide (r∈F)),r∈eX n (n*n)/\ ¬aR m (az r)%(n:Int)=0:=λr hr=>by
  obtain⟨h1,h2⟩:=List.mem_filter.mp hr
  refine⟨h1,λz=> ?_⟩
  have:r∈F:=by rw[<-eF];exact List.mem_filter.mpr ⟨h1,decide_eq_true z⟩
  simp[this]at h2
 have Qh:0<((eX n (n*n)).filter λr=> !decide (r∈F)).length:=List.length_pos_iff.mpr λz=>by
  rw[List.filter_eq_nil_iff]at z
  have:F=eX n (n*n):=by
   rw[<-eF]
   refine List.filter_eq_self.mpr λr hr=> ?_
   have:=z r hr
   simp only[Bool.not_eq_true,Bool.not_eq_false',decide_eq_true_eq]at this
   rw[<-eF]at this
   exact(List.mem_filter.mp this).2
  rw[this,lK]at cL
  have:3*3<=n*n:=Nat.mul_le_mul (by omega) (by omega)
  omega
 have few:((eX n (n*n)).filter λr=> !decide (r∈F)).length<=200:=Nat.le_trans (List.length_filter_le _ _) (by rw[lK];omega)
 generalize(eX n (n*n)).filter (λr=> !decide (r∈F))=O at TO off Qh few
 have lo:(os.map V.ref).length=O.length:=by rw[List.length_map];exact TO.2.length.symm
 have sb4:=SB.of hb (s3.trans s4)
 have nD:D≠B:=(SB.of hb s3).2.ne hD
 have Wj:B∉os:=λz=>hb.ne (frs B (io B z)) rfl
 have Yr:=TS3.same s4
 refine⟨_,rfl,_,rfl,_,rfl,A,_,rfl,.inl (aV.of Yr.1),B,_,rfl,sb4.2,(by rw[ll];omega),log2_small (by rw[ll];omega) (by rw[ll];omega),λk H5 k0 k1 s5=> ?_⟩
 have Wl:=Yr.sb s5 nA JI
 obtain⟨v,hv,hv2⟩:=nq (xs:=ls.map V.ref) (k:=k) k0 k1
 obtain⟨b,rfl,hbm⟩:=jy (List.mem_of_getElem? hv2)
 have xw:b≠B:=λz=>JI (by rw[<-z];exact hbm)
 obtain⟨r,hr,er⟩:=qK Wl.2 hbm
 rw[<-eF]at hr
 have hr':=List.mem_filter.mp hr
 obtain⟨e3,L1⟩:=tD (show 1<n by omega) hr'.1
 have eb:H5 b=some (.lst [.int (az r 0),.int (az r 1),.int (az r 2)]):=by
  rw[er]
  conv=>lhs;rw[e3]
  rfl
 refine⟨A,_,_,_,rfl,rfl,aV.of Wl.1,hv,?_⟩
 generalize az r=x at eb L1
 clear hr hr' er e3 hv hv2
 have h1:∃i,i<3/\x i=1:=by
  rcases L1.one with z|z|z
  ·exact⟨0,by decide,z⟩
  ·exact⟨1,by decide,z.2⟩
  ·exact⟨2,by decide,z.2.2⟩
 have lo3:=λi hi=>L1.lo i hi
 have hi3:=λi hi=>L1.hi i hi
 have sN:=sb4.trans s5
 have TO5:=TO.sb s5 nD Wj
 refine⟨_,rfl,b,_,rfl,.inl (aV.of eb),λG hG=> ?_⟩
 have uG:=av.up (o:= .lst [.int (x 0),.int (x 1),.int (x 2)]) hG
 have nG:G≠B:=sN.2.ne hG
 have Zn:=SB.of sN.2 uG
 refine⟨(by show 1<=sizeLine;decide),λq1 g1=>⟨(by show 1<=sizeLine;decide),λq2 g2=>⟨(by show 5<=sizeLine;decide),λL gL=> ?_⟩⟩⟩
 have u1:=av.up (o:= .tup [V.int 1]) g1
 have u2:=av.up (o:= .lst [V.int 1]) g2
 have u3:=av.up (o:= .lst [V.fP,.str "1",.ref q1,.ref q2,.bl true]) gL
 have u13:=u1.trans (u2.trans u3)
 have qy:=SB.of Zn.2 u13
 have nq1:q1≠B:=Zn.2.ne g1
 have nq2:q2≠B:=(SB.of Zn.2 u1).2.ne g2
 refine⟨_,rfl,B,_,rfl,qy.2,by decide,by decide,λkv H6 kv0 kv1 s6=> ?_⟩
 obtain⟨v,hv,hv2⟩:=nq (xs:=[V.fP,.str "1",.ref q1,.ref q2,.bl true]) (k:=kv) kv0 kv1
 refine⟨L,_,_,_,rfl,rfl,aV.of (s6.1 _ _ ((SB.of (SB.of Zn.2 u1).2 u2).2.ne gL) aq),hv,_,rfl,_,rfl,B,_,rfl,s6.2,by decide,by decide,λkj H7 kj0 kj1 s7=> ?_⟩
 obtain⟨j,rfl⟩:∃j:Nat,kj=(j:Int):=⟨kj.toNat,by omega⟩
 have hj:j<3:=by omega
 have UD:=s6.trans s7
 have eG:=UD.1 _ _ nG (u13 _ _ (aq (H:=H5) (a:=G) (o:= .lst [.int (x 0),.int (x 1),.int (x 2)])))
 have eq1:=UD.1 _ _ nq1 (u3 _ _ (u2 _ _ (aq (a:=q1) (o:= .tup [V.int 1]))))
 have eq2:=UD.1 _ _ nq2 (u3 _ _ (aq (a:=q2) (o:= .lst [V.int 1])))
 have ng1:q1≠G:=Ne.symm (cO (aq (H:=H5) (a:=G) (o:= .lst [.int (x 0),.int (x 1),.int (x 2)])) g1)
 have ng2:q2≠G:=Ne.symm (cO (u1 _ _ (aq (H:=H5) (a:=G) (o:= .lst [.int (x 0),.int (x 1),.int (x 2)]))) g2)
 refine⟨G,_,_,j,rfl,rfl,eG,(by rcases aG hj with rfl|rfl|rfl<;>rfl),?_⟩
 have hid:hide B (upd H7 G (.lst ([V.int (x 0),.int (x 1),.int (x 2)].set j v)))=hide B (upd H7 G (.lst ([V.int (x 0),.int (x 1),.int (x 2)].set j v))):=rfl
 obtain⟨d,hd,nd⟩:∃d,DV (hide B (upd H7 G (.lst ([V.int (x 0),.int (x 1),.int (x 2)].set j v)))) v d/\sZ d=false:=by
  have hm:=List.mem_of_getElem? hv2
  simp only[List.mem_cons,List.not_mem_nil,or_false]at hm
  rcases hm with rfl|rfl|rfl|rfl|rfl
  ·exact⟨_,.fP,rfl⟩
  ·exact⟨_,.str _,rfl⟩
  ·exact⟨_,.tup (bR nq1 (by rw[aH ng1];exact eq1)) (.cons (.int _) .nil),rfl⟩
  ·exact⟨_,.lst (bR nq2 (by rw[aH ng2];exact eq2)) (.cons (.int _) .nil),rfl⟩
  ·exact⟨_,.bl _,rfl⟩
 have sG:SB B H5 (upd H7 G (.lst ([V.int (x 0),.int (x 1),.int (x 2)].set j v))):=(SB.of sN.2 (uG.trans u13)).trans UD|>.Au hG nG
 have eN:=bR (B:=B) nG (aq (H:=H7) (a:=G) (o:= .lst ([V.int (x 0),.int (x 1),.int (x 2)].set j v)))
 obtain⟨dG,hdG,noG⟩:∃d,DV (hide B (upd H7 G (.lst ([V.int (x 0),.int (x 1),.int (x 2)].set j v)))) (.ref G) d/\lI m n d:=by
  rcases aG hj with rfl|rfl|rfl
  ·exact⟨_,.lst eN (.cons hd (.cons (.int _) (.cons (.int _) .nil))),.inl (Dc ⟨_,List.mem_cons_self,nd⟩)⟩
  ·exact⟨_,.lst eN (.cons (.int _) (.cons hd (.cons (.int _) .nil))),.inl (Dc ⟨_,List.mem_cons_of_mem _ List.mem_cons_self,nd⟩)⟩
  ·exact⟨_,.lst eN (.cons (.int _) (.cons (.int _) (.cons hd .nil))),.inl (Dc ⟨_,List.mem_cons_of_mem _ (List.mem_cons_of_mem _ List.mem_cons_self),nd⟩)⟩
 have sM:=sN.trans sG
 have TO8:=TO5.sb sG nD Wj
 have eb8:=sG.1 _ _ xw eb
 generalize upd H7 G (.lst ([V.int (x 0),.int (x 1),.int (x 2)].set j v))=H8 at hdG sM TO8 eb8 sG
 clear hd eN hid eG eq1 eq2
 refine⟨_,rfl,_,rfl,_,rfl,D,_,rfl,.inl (aV.of TO8.1),B,_,rfl,sM.2,(by rw[lo];omega),log2_small (by rw[lo];omega) (by rw[lo];omega),λkc H9 kc0 kc1 s9=> ?_⟩
 have TO9:=TO8.sb s9 nD Wj
 obtain⟨vc,hvc,Wm⟩:=nq (xs:=os.map V.ref) (k:=kc) kc0 kc1
 obtain⟨c,rfl,Zo⟩:=jy (List.mem_of_getElem? Wm)
 obtain⟨rc,Ys,erc⟩:=qK TO9.2 Zo
 obtain⟨Zp,_⟩:=jU (by omega) nn (off rc Ys).1
 have ec:H9 c=some (.lst [.int (az rc 0),.int (az rc 1),.int (az rc 2)]):=by
  rw[erc]
  conv=>lhs;rw[Zp]
  rfl
 have ncB:c≠B:=λz=>Wj (by rw[<-z];exact Zo)
 have hdc:DV (hide B H9) (.ref c) (.list [.int (az rc 0),.int (az rc 1),.int (az rc 2)]):=qo (x:=az rc) (bR ncB ec)
 have noc:lI m n (.list [.int (az rc 0),.int (az rc 1),.int (az rc 2)]):= .inr ⟨_,rfl,λz=>(off rc Ys).2 z.2⟩
 generalize PyData.list [.int (az rc 0),.int (az rc 1),.int (az rc 2)]=dc at hdc noc
 have Yt:=s9.1 _ _ xw eb8
 refine⟨D,_,_,_,rfl,rfl,aV.of TO9.1,hvc,?_⟩
 refine⟨_,rfl,b,rfl,⟨_,aV.of Yt⟩,λP hP=>gE (dM (aV.of Yt)) rfl hP (λj=>2*x j) (λj y hj ey Ha Qa sa ka=> ?_) (λHa sa ea=> ?_)⟩
 ·have Wa:y= .int (x j):=by
   rcases aG hj with rfl|rfl|rfl<;>exact(Option.some.inj ey).symm
  subst Wa
  have:=lo3 j hj
  have:=hi3 j hj
  exact⟨_,rfl,_,_,rfl,rfl,.inl ⟨by decide,by omega⟩,ka Ha (av.refl _)⟩
 have sMa:=sM.trans (s9.trans (SB.of s9.2 sa))
 have nP:P≠B:=(sM.trans s9).2.ne hP
 have eba:=sa _ _ Yt
 refine⟨_,rfl,b,_,rfl,.inl ⟨aV.of eba,λT hT=> ?_⟩⟩
 have uT:=av.up (o:= .tup [.int (x 0),.int (x 1),.int (x 2)]) hT
 have nT:T≠B:=sMa.2.ne hT
 have bT:=SB.of sMa.2 uT
 refine⟨_,rfl,_,rfl,_,rfl,b,_,rfl,aV.of (uT _ _ eba),λw2 g2'=>⟨(by show 0<=sizeLine;decide),λw3 g3=>⟨(by show 7<=sizeLine;decide),λL2 gL2=> ?_⟩⟩⟩
 have v2:=av.up (o:= .lst (JZ [.int (x 0),.int (x 1),.int (x 2)] none (some 2))) g2'
 have v3:=av.up (o:= .lst []) g3
 have v4:=av.up (o:= .lst [V.ref c,.ref P,.ref T,.fP,.ref G,.ref w2,.ref w3]) gL2
 have b2:=SB.of bT.2 v2
 have b3:=SB.of b2.2 v3
 have b4:=SB.of b3.2 v4
 have m2:w2≠B:=bT.2.ne g2'
 have m3:w3≠B:=b2.2.ne g3
 refine⟨_,rfl,_,rfl,(by show 3<=sizeLine;decide),λL3 gL3=> ?_⟩
 have v5:=av.up (o:= .lst [V.str "1 0 0",.int 1,.ref G]) gL3
 have b5:=SB.of b4.2 v5
 have v25:=v2.trans (v3.trans (v4.trans v5))
 refine⟨L2,L3,_,_,rfl,rfl,v5 _ _ aq,aq,(by show 10<=sizeLine;decide),λL4 gL4=> ?_⟩
 have v6:=av.up (o:= .lst ([V.ref c,.ref P,.ref T,.fP,.ref G,.ref w2,.ref w3]++ [V.str "1 0 0",.int 1,.ref G])) gL4
 have b6:=SB.of b5.2 v6
 have n4:L4≠B:=b5.2.ne gL4
 refine⟨_,rfl,B,_,rfl,b6.2,by decide,by decide,λkz Hz kz0 kz1 sz=> ?_⟩
 obtain⟨z,hz,hz2⟩:=nq (xs:=[V.ref c,.ref P,.ref T,.fP,.ref G,.ref w2,.ref w3]++ [V.str "1 0 0",.int 1,.ref G]) (k:=kz) kz0 kz1
 refine⟨L4,_,_,_,rfl,rfl,aV.of (sz.1 _ _ n4 aq),hz,?_⟩
 have Yu:=((b2.trans b3).trans (b4.trans b5)).trans (b6.trans sz)
 have QX:=(sMa.trans bT).trans Yu
 have hm:=List.mem_of_getElem? hz2
 simp only[List.cons_append,List.nil_append,List.mem_cons,List.not_mem_nil,or_false]at hm
 have hG':=hdG.same (s9.trans ((SB.of s9.2 sa).trans (bT.trans Yu))).hide
 rcases hm with rfl|rfl|rfl|rfl|rfl|rfl|rfl|rfl|rfl|rfl
 ·exact q _ _ _ QX (hdc.same ((SB.of s9.2 sa).trans (bT.trans Yu)).hide) noc
 ·refine q _ _ _ QX (qo (x:=λj=>2*x j) (bR nP ((bT.trans Yu).1 _ _ nP ea))) (.inr ⟨λj=>2*x j,rfl,λz=> ?_⟩)
  have:=z.1.one
  have:∀i,¬(2*x i=1):=λi=>by omega
  have g0:=this 0
  have g1:=this 1
  have g2:=this 2
  omega
 ·exact q _ _ _ QX (.tup (bR nT (Yu.1 _ _ nT aq)) (.cons (.int _) (.cons (.int _) (.cons (.int _) .nil)))) (.inl rfl)
 ·exact q _ _ _ QX .fP (.inl rfl)
 ·exact q _ _ _ QX hG' noG
 ·exact q _ _ _ QX (.lst (bR m2 ((b6.trans sz).1 _ _ m2 (v5 _ _ (v4 _ _ (v3 _ _ (aq (a:=w2) (o:= .lst (JZ [.int (x 0),.int (x 1),.int (x 2)] none (some 2))))))))) (.cons (.int _) (.cons (.int _) .nil))) (.inl rfl)
 ·exact q _ _ _ QX (.lst (bR m3 ((b6.trans sz).1 _ _ m3 (v5 _ _ (v4 _ _ (aq (a:=w3) (o:= .lst [])))))) .nil) (.inl rfl)
 ·exact q _ _ _ QX (.str _) (.inl rfl)
 ·exact q _ _ _ QX (.int _) (.inl rfl)
 ·exact q _ _ _ QX hG' noG
end
end CB
namespace L2
open PySem PySem.Spec PyProof.Rows
section
variable{X:Cx}
end
end L2
set_option maxHeartbeats 1000000
namespace CB
open PySem L2
section
variable{P:Program}{w:World}{K:PySem.W.Frag}{mg:Str->Option Value}{base:Heap}
inductive UE(vs:List V)(H:Hp)(Q:VK)(E:XK):Prop
 |mk(t:Addr)(bs:List Addr)(m:List (List Int))(n:Nat)(b:Addr)(x:Nat->Int)(_:vs=[.ref t,.int (n:Int),.ref b])(_:Tab H t bs m)(_:cu m)(_:Bd 440 m)(_:(n:Int)∈([3,5,7,11,13]:List Int))(_:dR H b x)(_:∀i,i<3->(x i).natAbs<2^400)(_:¬(aD m x 0%(n:Int)=0/\aD m x 1%(n:Int)=0/\aD m x 2%(n:Int)=0))(_:∀(q:Nat) (u:Int) r rs H',q<3->u*(aD m x q%(n:Int))%(n:Int)=1->av H H'->H r=none->Tab H' r rs (mk3 λk j=>um n q (λk=>aD m x k%(n:Int)*u%(n:Int)) k j) ->Q (.ref r) H')
theorem zA(F:fK K mg "_law_across" nK iW)(q9:mg "int"=none)(bw:mg "range"=none)(d8:cZ P w K mg base c8 1 "_law_pairing" fM pW):cZ P w K mg base c8 2 "_law_across" iW UE:=by
 refine F.ok eZ (λvs H Q E h=> ?_) (λf cdv A outer s H vs Q E hr h=> ?_)
 ·obtain⟨t,bs,m,n,b,x,rfl,hT,dD,hB,hp,hx,bx,nz,q⟩:=h
  rfl
 obtain⟨t,bs,m,n,b,x,rfl,hT,dD,hB,hp,hx,bx,nz,q⟩:=h
 have hu:=hr.units
 refine⟨_,(mS (@ay _ _ _ _ _ (aW (i:=3) eZ.nd rfl (Or.inr rfl) (gT (N2:=["_law_form_here","_law_p","_law_up","_law_pairings","_law_place","_law_unmade","_law_made","_law_k'","_law_row"]) (te:=(fY (rI (λ_ j=>0<j) λi j=> .int (i%j)) (qm pW [] E0 (eE (aY 1) (eE (aY 3) (eE (oB 1 (DL (eE (tC (.int 3)) lS)) (dX 0) (QS (λxs H Q=>(∃i,xs=[.int i]/\Q (.int i) H)∨ ∃k,xs=[.bl k]/\Q (.int (if k then 1 else 0)) H) (eE (fY JU (aY 0) (aY 1)) lS))) lS)))) (aY 2))) rfl (b8 rfl bw (ah ak ao)) (by kernel_rfl) rfl (λ_ _ _=>by exact fJ (aB dz (aQ d8 hr rfl aU (ah (pv 1) (ah (pv 3) (ah (gT (N2:=["_law_k","_law_form_here","_law_p","_law_up","_law_pairings","_law_place","_law_unmade","_law_made","_law_k'","_law_row"]) (te:=(QS (λxs H Q=>(∃i,xs=[.int i]/\Q (.int i) H)∨ ∃k,xs=[.bl k]/\Q (.int (if k then 1 else 0)) H) (eE (fY JU (aY 0) (aY 1)) lS))) rfl (b8 rfl bw (ah ak ao)) (by kernel_rfl) rfl (λ_ _ _=>by exact fJ (fQ rS rfl q9 PyProof.Rows.boot_int (ah (fZ fF (pv 0) (pv 1) (bg _)) ao)))) ao)))) (pv 2)))))
  (@ay _ _ _ _ _ (aW (i:=4) eZ.nd rfl (Or.inr rfl) (aJ aA (rY (N2:=["_law_form_here","_law_p","_law_up","_law_pairings","_law_place","_law_unmade","_law_made","_law_k'","_law_row"]) (tt:=(lA (fY Um (fY (kG K) (aY 4) (aY 0)) (tC (.int 0))))) (te:=(aY 0)) rfl (b8 rfl bw (ah ak ao)) (by kernel_rfl) rfl (λ_ _ _=>by exact tu (bB ly (aJ aA (pv 4) (pv 0) (λ_ _=>rfl)) ak (bg _))) (λ_ _ _=>by exact fJ (pv 0))) ak (λ_ _=>rfl)))
  (@ay _ _ _ _ _ (aW (i:=5) eZ.nd rfl (Or.inl rfl) (aJ aA (rY (N2:=["_law_form_here","_law_p","_law_up","_law_pairings","_law_place","_law_unmade","_law_made","_law_k","_law_row"]) (tt:=(lA (fY JU (fY (rI (λ_ j=>0<j) λi j=> .int (i%j)) (fY (rI Al λi j=> .int (i*j)) (aY 0) (fY (kG K) (aY 4) (aY 5))) (aY 2)) (tC (.int 1))))) (te:=(aY 0)) rfl (b8 rfl bw (ah (pv 1) ao)) (by kernel_rfl) rfl (λ_ _ _=>by exact tu (bB fF (aB dz (aB cI (pv 0) (aJ aA (pv 4) (pv 5) (λ_ _=>rfl))) (pv 2)) ak (bg _))) (λ_ _ _=>by exact fJ (pv 0))) ak (λ_ _=>rfl)))
  (@ay _ _ _ _ _ (aW (i:=6) eZ.nd rfl (Or.inl rfl) (gD ao))
  (@ay _ _ _ _ _ (lR PassesOwn.never rfl (b8 rfl bw (ah ak ao)) (cD (i:=7) eZ.nd rfl (Or.inr rfl)) (mS (@ay _ _ _ _ _ (yu (i:=8) eZ.nd rfl rfl (N2:=["_law_form_here","_law_p","_law_up","_law_pairings","_law_place","_law_unmade","_law_made","_law_k","_law_row"]) (te:=(QS (λxs H Q=>(∃i,xs=[.int i]/\Q (.int i) H)∨ ∃k,xs=[.bl k]/\Q (.int (if k then 1 else 0)) H) (eE (fY JU (aY 0) (aY 8)) lS))) rfl (b8 rfl bw (ah ak ao)) (by kernel_rfl) rfl (λ_ _ _=>by exact fJ (fQ rS rfl q9 PyProof.Rows.boot_int (ah (fZ fF (pv 0) (pv 8) (bg _)) ao))))
  (@ay _ _ _ _ _ (ju (aB gq (aJ aA (pv 8) (pv 4) (λ_ _=>rfl)) (aB dz (aB cI (aJ aA (pv 3) (pv 7) (λ_ _=>rfl)) (pv 5)) (pv 1))) (jP (pv 8) (pv 4) set_list))
  (@ay _ _ _ _ _ (bI (bB fF (pv 7) (pv 4) (bg _)) (@aI _ _ _ (yu (i:=8) eZ.nd rfl rfl (N2:=["_law_form_here","_law_p","_law_up","_law_pairings","_law_place","_law_unmade","_law_made","_law_k","_law_row"]) (te:=(fY (rI Al λi j=> .int (i*j)) (aY 2) (QS (λxs H Q=>(∃i,xs=[.int i]/\Q (.int i) H)∨ ∃k,xs=[.bl k]/\Q (.int (if k then 1 else 0)) H) (eE (fY JU (aY 0) (aY 8)) lS)))) rfl (b8 rfl bw (ah ak ao)) (by kernel_rfl) rfl (λ_ _ _=>by exact fJ (aB cI (pv 2) (fQ rS rfl q9 PyProof.Rows.boot_int (ah (fZ fF (pv 0) (pv 8) (bg _)) ao)))))) cy)
  (@aI _ _ _ (iZ (Bj PySem.F.plainAttrs_list PySem.F.slot_list_append PySem.F.type_list_append jQ (pv 6) (ah (pv 8) ao)))))))))
  (@aI _ _ _ (bA (pv 6))))))))),?_⟩
 have p0:2<n/\n<14:=by
  simp only[List.mem_cons,List.not_mem_nil,or_false]at hp
  omega
 have np:(0:Int)<n:=by omega
 obtain⟨s,hs⟩:∃s:Nat->Int,s=λk=>aD m x k%(n:Int):=⟨_,rfl⟩
 have s0:∀k,0<=s k/\s k<n:=λk=>by rw[hs];exact⟨Int.emod_nonneg _ (by omega),Int.emod_lt_of_pos _ np⟩
 have sE:∀k,s k=aD m x k%(n:Int):=λk=>by rw[hs]
 refine⟨3,rfl,by decide,by decide,λP hP=>gE (gw (n:=3)) rfl hP s (λk y hk ey H1 Q1 s1 k1=> ?_) (λH1 s1 eP=> ?_)⟩
 ·obtain⟨_,rfl⟩:=eK ey
  refine⟨_,rfl,_,rfl,3,rfl,by decide,by decide,λE hE=>gE (gw (n:=3)) rfl hE (λi=>if i=k then 1 else 0) (λi z hi ez H2 Q2 s2 k2=> ?_) (λH2 s2 e2=> ?_)⟩
  ·obtain⟨_,rfl⟩:=eK ez
   have:=k2 H2 (av.refl _)
   refine⟨_,rfl,_,rfl,rfl,.inr ⟨_,rfl,?_⟩⟩
   rcases aG hi with rfl|rfl|rfl<;>rcases aG hk with rfl|rfl|rfl<;>exact this
  ·have sm:=s1.trans s2
   refine⟨t,bs,m,b,E,x,(λi=>if i=k then 1 else 0),rfl,hT.same sm,dD,hB.mono (by decide),sm _ _ hx,e2,(λi hi=>aX (bx i hi) (by decide)),(λi hi=>by show(if i=k then 1 else 0:Int).natAbs<2^1000;split<;>decide),_,rfl,_,_,rfl,rfl,np,?_⟩
   have e:cz m x (λi=>if i=k then 1 else 0)%(n:Int)=s k:=by
    rw[sE,gi]
    rcases aG hk with rfl|rfl|rfl<;>simp
   rw[e]
   exact k1 H2 s2
 obtain⟨qk,hqk,hsq⟩:∃k,k<3/\s k≠0:=by
  refine Classical.byContradiction λno=>nz ⟨?_,?_,?_⟩
  ·rw[<-sE];exact Classical.byContradiction λz=>no ⟨0,by decide,z⟩
  ·rw[<-sE];exact Classical.byContradiction λz=>no ⟨1,by decide,z⟩
  ·rw[<-sE];exact Classical.byContradiction λz=>no ⟨2,by decide,z⟩
 refine⟨3,rfl,by decide,by decide,λD hD=>dj (gw (n:=3)) (by decide) hD (λv=>match v with| .int k=> !decide (V.int (s k.toNat)=V.int 0)|_=>false) id (λv hv Ha R sa kk=> ?_) (λv hv pv Ha Q' sa kk=>⟨_,rfl,kk Ha (av.refl _)⟩) (λH2 s2 e2=> ?_)⟩
 ·obtain⟨j,hj'⟩:=List.mem_iff_getElem?.mp hv
  obtain⟨hj,rfl⟩:=eK hj'
  exact⟨_,rfl,_,rfl,P,_,_,_,rfl,rfl,aV.of (sa _ _ eP),mR s hj,rfl,_,rfl,kk Ha (av.refl _)⟩
 generalize hF:List.map id (List.filter (λv=>match v with| .int k=> !decide (V.int (s k.toNat)=V.int 0)|_=>false) (lX 3))=Fs at e2
 obtain⟨q0,LH,sq0,Zq⟩:∃q0,q0<3/\s q0≠0/\Ae Fs 0=some (.int ((q0:Nat):Int)):=by
  have mem:V.int (qk:Int)∈Fs:=by
   rw[<-hF,List.map_id,List.mem_filter]
   refine⟨List.mem_map.mpr ⟨qk,List.mem_range.mpr hqk,rfl⟩,?_⟩
   simpa using hsq
  cases Fs with
  |nil=>cases mem
  |cons v r=>
   have hv:v∈v::r:=List.mem_cons_self
   rw[<-hF,List.map_id,List.mem_filter]at hv
   obtain⟨hv1,hv2⟩:=hv
   obtain⟨j,hj'⟩:=List.mem_iff_getElem?.mp hv1
   obtain⟨hj,rfl⟩:=eK hj'
   exact⟨j,hj,by simpa using hv2,oK⟩
 have s12:=s1.trans s2
 have eP2:=s2 _ _ eP
 refine⟨D,_,_,_,rfl,rfl,aV.of e2,Zq,?_⟩
 refine⟨_,rfl,(n:Int),rfl,by omega,by omega,λD3 WJ=>dj (gw (n:=((n:Int)).toNat)) (by simp only[lX,List.length_map,List.length_range];exact Nat.le_of_lt (iF (by omega))) WJ (λv=>match v with| .int c=>decide (V.int (c*s q0%(n:Int))=V.int 1)|_=>false) id (λv hv Ha R sa kk=> ?_) (λv hv pv Ha Q' sa kk=>⟨_,rfl,kk Ha (av.refl _)⟩) (λH3 s3 e3=> ?_)⟩
 ·obtain⟨j,hj'⟩:=List.mem_iff_getElem?.mp hv
  obtain⟨hj,rfl⟩:=eK hj'
  have b1:=s0 q0
  exact⟨_,rfl,_,rfl,_,rfl,P,_,_,_,rfl,rfl,aV.of (sa _ _ eP2),mR s LH,_,_,rfl,rfl,.inl ⟨by omega,by omega⟩,_,rfl,_,_,rfl,rfl,np,rfl,_,rfl,kk Ha (av.refl _)⟩
 generalize hF3:List.map id (List.filter (λv=>match v with| .int c=>decide (V.int (c*s q0%(n:Int))=V.int 1)|_=>false) (lX ((n:Int)).toNat))=Fs3 at e3
 obtain⟨u,hu0,hun,hu1,at3⟩:∃u:Nat,0<=u/\u<n/\(u:Int)*s q0%(n:Int)=1/\Ae Fs3 0=some (.int (u:Int)):=by
  obtain⟨v0,hv0,hv1⟩:=pI hp (a:=s q0) (by rw[bL (s0 q0).1 (s0 q0).2];exact sq0)
  have mem:V.int (((1+v0:Nat)):Int)∈Fs3:=by
   rw[<-hF3,List.map_id,List.mem_filter]
   refine⟨List.mem_map.mpr ⟨1+v0,List.mem_range.mpr (by omega),rfl⟩,?_⟩
   refine decide_eq_true ?_
   congr 1
  cases Fs3 with
  |nil=>cases mem
  |cons v r=>
   have hv:v∈v::r:=List.mem_cons_self
   rw[<-hF3,List.map_id,List.mem_filter]at hv
   obtain⟨hv1,hv2⟩:=hv
   obtain⟨j,hj'⟩:=List.mem_iff_getElem?.mp hv1
   obtain⟨hj,rfl⟩:=eK hj'
   exact⟨j,Nat.zero_le _,by omega,by simpa using hv2,oK⟩
 have qy:=s12.trans s3
 have eP3:=s3 _ _ eP2
 refine⟨D3,_,_,_,rfl,rfl,aV.of e3,at3,?_⟩
 refine⟨(by show 0<=sizeLine;decide),λG hG=> ?_⟩
 have uG:=av.up (o:= .lst []) hG
 have fG:H G=none:=qy.none hG
 obtain⟨w,hw⟩:∃w:Nat->Int,w=λk=>aD m x k%(n:Int)*u%(n:Int):=⟨_,rfl⟩
 have wE:∀k,s k*u%(n:Int)=w k:=λk=>by rw[hw,sE]
 refine⟨3,rfl,by decide,by decide,gp (n:=3) (λk σ H'=> ∃o7 o8 cs,σ=[some (.ref t),some (.int (n:Int)),some (.ref b),some (.ref P),some (.int (q0:Int)),some (.int (u:Int)),some (.ref G),o7,o8]/\av H3 H'/\H' G=some (.lst (cs.map V.ref))/\cs.length=k/\iz H' cs/\rws H' cs=(mk3 λk j=>um n q0 w k j).take k) ⟨_,_,[],rfl,uG,aq,rfl,(λb hb=>nomatch hb),rfl⟩ (λk σ H' hk hh=> ?_) (λσ H' hh=> ?_)⟩
 rotate_left
 ·obtain⟨o7,o8,cs,rfl,s4,eG,lc,Zr,rc⟩:=hh
  refine⟨_,rfl,q q0 u G cs H' LH (by rw[<-sE];exact hu1) (qy.trans s4) fG ?_⟩
  have T:=JC eG Zr
  rw[rc,hw]at T
  exact T
 obtain⟨o7,o8,cs,rfl,s4,eG,lc,Zr,rc⟩:=hh
 rw[Int.zero_add]
 have app:∀(Hz:Hp)(D:Addr)(o8:Option V),av H' Hz->H' D=none->dR Hz D (um n q0 w k) -> ∃o7 o8' cs',[some (.ref t),some (.int (n:Int)),some (.ref b),some (.ref P),some (.int (q0:Int)),some (.int (u:Int)),some (.ref G),some (.int (k:Int)),o8]=[some (.ref t),some (.int (n:Int)),some (.ref b),some (.ref P),some (.int (q0:Int)),some (.int (u:Int)),some (.ref G),o7,o8']/\av H3 (upd Hz G (.lst (cs.map V.ref++ [.ref D])))/\upd Hz G (.lst (cs.map V.ref++ [.ref D])) G=some (.lst (List.map V.ref cs'))/\cs'.length=k+1/\iz (upd Hz G (.lst (cs.map V.ref++ [.ref D]))) cs'/\rws (upd Hz G (.lst (cs.map V.ref++ [.ref D]))) cs'=(mk3 λk j=>um n q0 w k j).take (k+1):=λHz D o8 sz hD eD=>by
  obtain⟨Zs,rwD⟩:=PL (b:=D) eD
  have nDG:D≠G:=λz=>by rw[z,eG]at hD;cases hD
  have keep:∀b∈cs,∀o,H' b=some o->upd Hz G (.lst (cs.map V.ref++ [.ref D])) b=some o:=λb hb o e=>by
   rw[aH (m7 (Zr b hb) eG)]
   exact sz _ _ e
  obtain⟨k1,k2⟩:=Zr.keep keep
  obtain⟨k3,k4⟩:=Zs.keep (H':=upd Hz G (.lst (cs.map V.ref++ [.ref D]))) λo e=>by rw[aH nDG];exact e
  refine⟨_,_,cs++ [D],rfl,(s4.trans sz).upd hG,by rw[List.map_append];exact aq,by rw[List.length_append,lc];rfl,λb hb=> ?_,?_⟩
  ·rcases List.mem_append.mp hb with hb|hb
   ·exact k1 b hb
   ·rw[List.mem_singleton.mp hb]
    exact k3
  ·rw[p5,k2,rc]
   show _++ [iQ _ D]=_
   rw[k4,rwD]
   rcases aG hk with rfl|rfl|rfl<;>rfl
 refine⟨3,rfl,by decide,by decide,λD4 hD4=>gE (gw (n:=3)) rfl hD4 (λi=>if i=k then 1 else 0) (λi z hi ez H5 Q5 s5 k5=> ?_) (λH5 s5 e5=> ?_)⟩
 ·obtain⟨_,rfl⟩:=eK ez
  have:=k5 H5 (av.refl _)
  refine⟨_,rfl,_,rfl,rfl,.inr ⟨_,rfl,?_⟩⟩
  rcases aG hi with rfl|rfl|rfl<;>rcases aG hk with rfl|rfl|rfl<;>exact this
 have s35:=s4.trans s5
 have b1:=s0 k
 refine⟨_,rfl,_,rfl,D4,_,_,_,rfl,rfl,aV.of e5,mR (λi=>if i=k then 1 else 0) LH,_,rfl,_,rfl,P,_,_,_,rfl,rfl,aV.of (s35 _ _ eP3),mR s hk,_,rfl,_,_,rfl,rfl,.inl ⟨by omega,by omega⟩,_,rfl,_,_,rfl,rfl,np,_,_,rfl,rfl,_,rfl,_,rfl,D4,_,_,q0,rfl,rfl,e5,(by rcases aG LH with rfl|rfl|rfl<;>rfl),?_⟩
 rw[wE k]
 have s6:av H' (upd H5 D4 (.lst ([V.int (if 0=k then 1 else 0),.int (if 1=k then 1 else 0),.int (if 2=k then 1 else 0)].set q0 (.int ((if q0=k then 1 else 0) -w k))))):=s5.upd hD4
 refine⟨_,rfl,_,rfl,rfl,_,rfl,g9 (λc=> ?_) (λc=> ?_)⟩
 ·have ck:k=q0:=by have:=of_decide_eq_true c;injection this;omega
  refine⟨3,rfl,by decide,by decide,λD7 Wz=>gE (gw (n:=3)) rfl Wz (um n q0 w k) (λi z hi ez H7 Q7 s7 k7=> ?_) (λH7 s7 e7=> ?_)⟩
  ·obtain⟨_,rfl⟩:=eK ez
   have kk:=k7 H7 (av.refl _)
   subst ck
   have e:um n k w k i=(n:Int)*(if i=k then 1 else 0):=by
    unfold um
    rw[if_pos rfl]
    split<;>simp
   rw[e]at kk
   refine⟨_,rfl,_,rfl,_,rfl,rfl,.inr ⟨_,rfl,_,_,rfl,rfl,?_,?_⟩⟩
   ·exact .inl ⟨by omega,by omega⟩
   ·rcases aG hi with rfl|rfl|rfl<;>rcases aG hk with rfl|rfl|rfl<;>exact kk
  ·have UD:=s6.trans s7
   refine⟨_,rfl,.inl ⟨rfl,_,aV.of (UD _ _ eG)⟩,_,rfl,G,_,_,rfl,rfl,UD _ _ eG,(by rw[List.length_map,lc];exact Nat.lt_of_lt_of_le hk (by decide)),?_⟩
   exact app H7 D7 _ UD (s6.none Wz) e7
 ·have ck:k≠q0:=λz=>c (decide_eq_true (by rw[z]))
  refine⟨_,rfl,.inl ⟨rfl,_,aV.of (s6 _ _ eG)⟩,_,rfl,G,_,_,rfl,rfl,s6 _ _ eG,(by rw[List.length_map,lc];exact Nat.lt_of_lt_of_le hk (by decide)),?_⟩
  refine app _ D4 _ s6 hD4 ?_
  unfold dR
  rw[aq]
  unfold um
  rw[if_neg ck]
  rcases aG LH with rfl|rfl|rfl<;>rcases aG hk with rfl|rfl|rfl<;>first|(exact absurd rfl ck)|simp
end
end CB
namespace CP
open PySem PyProof.Rows
section
variable{prog:Program}{w:World}{A:Around}{E:Value->Shared->Prop}{s:Shared}{κ:SortKind}{K:Keyed->Int}{D:Keyed->Prop}{st:SortSt}
theorem TU(hL:LF prog w A E s κ K D){Q:Unit->SortSt->Prop}(B:SB κ D st)(hp:pendingOf st= #[])(h64:(arrOf st).size<64)
  (hq:∀st',(arrOf st').Perm (arrOf st) ->failedOf st'=none->So K (arrOf st') 0 (arrOf st).size->Q () st'):wpS (model prog w) A E s sortRuns' Q st:=by
 rw[We]
 refine wpS_bind (wpS_get ?_)
 dsimp only
 have mr:minRun' (arrOf st).size (arrOf st).size 0=(arrOf st).size:=by
  cases h:(arrOf st).size with
  |zero=>rfl
  |succ k=>
   rw[minRun'_succ,if_pos (by omega)]
 rw[mr]
 refine wpS_bind (wpS_mono (wpS_forRange (I:=λx c s1=>(x=0/\c=(none,0)/\s1=st)∨(c=(none,(arrOf st).size)/\(arrOf s1).Perm (arrOf st)/\failedOf s1=none/\So K (arrOf s1) 0 (arrOf st).size/\(pendingOf s1).size=1))
  (Q:=λc s1=>c=(none,(arrOf st).size)/\(arrOf s1).Perm (arrOf st)/\failedOf s1=none/\So K (arrOf s1) 0 (arrOf st).size/\(pendingOf s1).size<=1) ?_ ?_ (.inl ⟨rfl,rfl,rfl⟩)) ?_)
 ·rintro x c s1 _ hx (⟨rfl,rfl,rfl⟩|⟨rfl,h⟩)
  ·dsimp only
   refine CS (λc=>by omega) (λ_=> ?_)
   refine wpS_bind (w_count hL B (by omega) (by omega) λn s2 S2 n1 n2 so2=> ?_)
   dsimp only
   have sz2:=S2.size
   have note:∀s3:SortSt,SC 0 s1 s3->So K (arrOf s3) 0 (arrOf s1).size-> ∀m,m=(arrOf s1).size-> ∀Q:ForInStep (Option Unit×Nat) ->SortSt->Prop,(∀s5,(arrOf s5).Perm (arrOf s1) ->failedOf s5=none->So K (arrOf s5) 0 (arrOf s1).size->(pendingOf s5).size=1->Q (.yield (none,(arrOf s1).size)) s5) ->wpS (model prog w) A E s (do
     modify λy=>setPending y ((pendingOf y).push (0,m,0))
     pure (ForInStep.yield ((none,0+m):Option Unit×Nat))) Q s3:=λs3 S3 Zt m em Q hQ=>by
    subst em
    rw[Nat.zero_add]
    refine wpS_bind (wpS_modify (wpS_pure (hQ _ S3.perm (S3.failed.trans B.failed) Zt ?_)))
    show((pendingOf s3).push _).size=1
    rw[S3.pend,hp]
    rfl
   by_cases hm:n<(arrOf s1).size
   ·rw[if_pos hm]
    refine wpS_bind (wpS_lift (wpAny_rule ⟨rfl,?_⟩))
    refine wpS_bind (Ym hL (B.sc S2) (by omega) (by omega) so2 λs3 S3 Zt=> ?_)
    simp only[Bool.not_true,Bool.false_eq_true,if_false]
    refine wpS_bind (wpS_get ?_)
    rw[(S2.trans S3).pend,hp]
    have em:min ((arrOf s1).size-0) (arrOf s1).size=(arrOf s1).size:=by omega
    rw[em]at Zt
    exact note s3 (S2.trans S3) Zt _ em _ λs5 p f o q=> .inr ⟨rfl,p,f,o,q⟩
   ·rw[if_neg hm]
    have en:n=(arrOf s1).size:=by omega
    rw[en]at so2
    refine wpS_bind (wpS_get ?_)
    rw[S2.pend,hp]
    exact note s2 S2 so2 _ en _ λs5 p f o q=> .inr ⟨rfl,p,f,o,q⟩
  ·dsimp only
   exact CS (λ_=>wpS_pure ⟨rfl,h.1,h.2.1,h.2.2.1,Nat.le_of_eq h.2.2.2⟩) (λc=>absurd (Nat.le_refl _) c)
 ·rintro c s1 (⟨h0,rfl,rfl⟩|⟨rfl,h⟩)
  ·have z:(arrOf s1).size=0:=by omega
   rw[z]
   exact⟨rfl,Array.Perm.refl _,B.failed,λi j _ h=>absurd h (Nat.not_lt_zero _),by rw[hp];decide⟩
  ·exact⟨rfl,h.1,h.2.1,h.2.2.1,Nat.le_of_eq h.2.2.2⟩
 ·rintro c s1 ⟨rfl,h1,h2,h3,h4⟩
  dsimp only
  refine wpS_bind (wpS_mono (wpS_forRange (I:=λ_ c s2=>c=(none,())/\s2=s1) (Q:=λc s2=>c=(none,())/\s2=s1) ?_ (λ_ _ h=>h) ⟨rfl,rfl⟩) ?_)
  ·rintro x c s2 _ hx ⟨rfl,rfl⟩
   refine wpS_bind (wpS_get ?_)
   exact CS (λc=>wpS_pure ⟨rfl,rfl⟩) (λc=>absurd h4 c)
  ·rintro c s2 ⟨rfl,rfl⟩
   exact wpS_pure (hq _ h1 h2 h3)
end
end CP
namespace L2
open PySem PySem.Spec PyProof.Rows PySem.Calls CP
section
variable{prog:Program}{w:World}{A:Around}{E:Value->Shared->Prop}{s:Shared}
theorem TV{a kS:Addr}{P:PySem.Fin->Shared->Prop}{kf:V->Int}{ys:List V}{us:List Value}{keys:Array Value}{e1 e:Nat}(hk:ve kf ys us keys.toList)(hn:kS≠a)(hz:us.length<=sizeLine)(h64:us.length<64)
  (ha:s.heap.get? a=some (seqObj "list" #[] e1))(hS:s.heap.get? kS=some (seqObj "list" keys e))
  (h:∀(zs:List V)(out:List Value) h' tk,zs.Perm ys->zs.Pairwise (λx y=>kf x<=kf y) ->Vals zs out->out.length=us.length->(∀b o,b≠a->b≠kS->s.heap.get? b=some o->h'.get? b=some o) ->(∃c,h'.get? a=some (seqObj "list" out.toArray c)) ->(∃o,h'.get? kS=some o) ->
   P (.done (.ret .none)) {s with heap:=h',toks:=tk}):wpAny (model prog w) A (ksk_end a false us.toArray e1 (.ref kS) keys) P E s:=by
 have kl:keys.toList.length=us.length:=by
  have:∀{ys:List V}{us ks:List Value},ve kf ys us ks->ks.length=us.length:=λh=>by
   induction h with
   |nil=>rfl
   |cons t r _ ih=>simp[ih]
  exact this hk
 have kz:keys.size=us.length:=by rw[<-kl];exact(Array.length_toList ..).symm
 have szz:(keys.zip us.toArray).size=us.length:=by rw[Array.size_zip,kz,List.size_toArray,Nat.min_self]
 have zl:(keys.zip us.toArray).toList=keys.toList.zip us:=ksk_zip keys us
 have tail:∀st:SortSt,(arrOf st).Perm (keys.zip us.toArray) ->failedOf st=none->So (λp=>numOf p.1) (arrOf st) 0 us.length->wpAny (model prog w) A (ksk_tail a false e1 (.ref kS) st) P E s:=by
  intro st hp hf hs
  have pl:(arrOf st).toList.Perm (keys.toList.zip us):=by rw[<-zl];exact Array.perm_iff_toList_perm.mp hp
  obtain⟨tr,t1,t2,t3⟩:=hk.out
  obtain⟨WM,p',e'⟩:=BB pl tr t1
  have len:(arrOf st).toList.length=us.length:=by rw[pl.length_eq,List.length_zip,kl,Nat.min_self]
  have oz:((arrOf st).map (·.2)).size=us.length:=by rw[Array.size_map,<-len,Array.length_toList]
  have oe:((arrOf st).map (·.2)).toList=WM.map λt=>t.1.2:=by
   rw[Array.toList_map,e',List.map_map]
   rfl
  unfold ksk_tail
  try dsimp only
  generalize(arrOf st).map (·.2)=ov at oz oe ⊢
  refine wpAny_bind (listUpdate_at hS rfl ?_ (by omega) (Nat.zero_le _))
  refine wpAny_bind (wpAny_letGo ?_)
  have Yv:=Heap.SameBut.update s.heap kS (Obj.mapSeq λ_=>(#[]:Array Value))
  have ha1:(s.heap.update kS (Obj.mapSeq λ_=>(#[]:Array Value))).get? a=some (seqObj "list" #[] e1):=(Yv.2 a hn.symm).trans ha
  have WA:=Heap.SameBut.update (s.heap.update kS (Obj.mapSeq λ_=>(#[]:Array Value))) a (Obj.mapSeq λ_=>ov)
  refine wpAny_bind (seqEpoch_at ha1 rfl ?_)
  refine wpAny_bind (listUpdate_at ha1 rfl ?_ (Nat.zero_le _) (Nat.le_trans (Nat.le_of_eq oz) (Nat.le_succ_of_le hz)))
  rw[hf]
  simp only[bne_self_eq_false,Bool.false_eq_true,if_false]
  refine wpAny_pure (h (WM.map Prod.snd) (WM.map λt=>t.1.2) _ _ (by rw[t2];exact p'.map _) ?_ ?_ ?_ (λb o h1 h2 q=> ?_) ?_ ?_)
  ·have h2:=(Wd (K:=λp=>numOf p.1) (a:=arrOf st) (lo:=0) (n:=us.length) (by rw[Nat.zero_add,<-len,Array.length_toList];exact Nat.le_refl _)).mp hs
   have e2:sl (arrOf st) 0 us.length=(arrOf st).toList:=by
    show((arrOf st).toList.drop 0).take us.length=_
    rw[List.drop_zero,List.take_of_length_le (by omega)]
   rw[e2,e',List.pairwise_map]at h2
   rw[List.pairwise_map]
   refine h2.imp_of_mem λ {x y} mx my q=> ?_
   obtain⟨_,k1,q1⟩:=t3 x (p'.mem_iff.mp mx)
   obtain⟨_,k2,q2⟩:=t3 y (p'.mem_iff.mp my)
   rw[q1,q2]at q
   exact q
  ·have:∀l:List (Keyed×V),(∀t∈l,RelV t.2 t.1.2) ->Vals (l.map Prod.snd) (l.map λt=>t.1.2):=λl=>by
    induction l with
    |nil=>intro _;exact .nil
    |cons t l ih=>intro hl;exact .cons (hl t List.mem_cons_self) (ih λz hz=>hl z (List.mem_cons_of_mem _ hz))
   exact this WM λt ht=>(t3 t (p'.mem_iff.mp ht)).1
  ·rw[<-oe,<-oz,Array.length_toList]
  ·exact(WA.2 b h1).trans ((Yv.2 b h2).trans q)
  ·rw[<-oe,Array.toArray_toList]
   exact⟨_,get?_update_seq ha1 λ_=>ov⟩
  ·exact⟨_,(WA.2 kS hn).trans (get?_update_seq hS λ_=> #[])⟩
 unfold ksk_end
 try dsimp only
 simp only[Bool.false_eq_true,if_false]
 by_cases h2:us.toArray.size<2
 ·rw[if_pos h2,if_pos h2]
  refine wpAny_bind (wpAny_pure ?_)
  rw[StateT.run_pure]
  refine wpAny_bind (wpAny_pure ?_)
  try dsimp only
  refine tail (SortSt.mk' general' (keys.zip us.toArray) #[] 7 none) (Array.Perm.refl _) rfl (λi j hij hj=> ?_)
  rw[List.size_toArray]at h2
  have:i=j:=by omega
  subst this
  exact Int.le_refl _
 ·rw[if_neg h2,if_neg h2]
  rw[List.size_toArray]at h2
  rw[ksk_kind hk.ints (by omega)]
  refine wpAny_bind (wpAny_pure ?_)
  have R:CP.SB oneType' (λp=> ∃n t,p.1= .int n t) (SortSt.mk' oneType' (keys.zip us.toArray) #[] 7 none):=by
   refine⟨rfl,rfl,λp hp=> ?_⟩
   have Af:p∈(keys.zip us.toArray).toList:=hp
   rw[zl]at Af
   exact hk.ints.all p.1 (List.of_mem_zip (a:=p.1) (b:=p.2) Af).1
  refine wpAny_bind (wpAny_mono (TU LK (Q:=λ_ st'=>(arrOf st').Perm (keys.zip us.toArray)/\failedOf st'=none/\So (λp=>numOf p.1) (arrOf st') 0 (keys.zip us.toArray).size) R rfl (show(keys.zip us.toArray).size<64 by rw[szz];exact h64) λst' a1 a2 a3=>⟨a1,a2,a3⟩) ?_ λ_ _ e=>e)
  rintro⟨⟨⟩,st'⟩ s' ⟨rfl,hp,hf,hs⟩
  rw[szz]at hs
  try dsimp only
  exact tail st' hp hf hs
end
section
variable{X:Cx}{pins:List (Addr×Obj)}{σ:St}{H:Hp}{s:Shared}{B:Around}{a:Addr}{f:Value}{kf:V->Int}{ys:List V}{us:List Value}
theorem LW(I:Inv X pins σ H s)(fa:gn X pins H a){n:Nat}(ha:s.heap.get? a=some (seqObj "list" us.toArray n))(r:Vals ys us)(hz:us.length<=sizeLine)(h64:us.length<64){E:Value->Shared->Prop}{P:PySem.Fin->Shared->Prop}
  (turn:∀(ql:List (Addr×Obj))(v:V)(Hi:Hp)(u:Value)(si:Shared),v∈ys->av H Hi->RelV v u->Inv X ql σ Hi si->wpAny (model X.prog X.w) B (call f [u]) (EP X ql σ (λv' H'=>v'= .int (kf v)/\av Hi H')) (λ_ _=>False) si)
  (done:∀(Hn:Hp)(s':Shared)(zs:List V),Inv X pins σ (upd Hn a (.lst zs)) s'->av H Hn->Hn a=none->zs.Perm ys->zs.Pairwise (λx y=>kf x<=kf y) ->P (.done (.ret .none)) s'):
  wpAny (model X.prog X.w) B (ksk_tree a f false) P E s:=by
 have rl:=r.length
 unfold ksk_tree
 refine wpAny_bind (listItems_at ha rfl ?_)
 refine wpAny_bind (listUpdate_at ha rfl ?_ (by simpa using hz) (Nat.zero_le _))
 obtain⟨e1,ha1⟩:∃e1,(s.heap.update a (Obj.mapSeq λ_=> #[])).get? a=some (seqObj "list" #[] e1):=⟨_,get?_update_seq ha (λ_=> #[])⟩
 refine wpAny_bind (seqEpoch_at ha1 rfl ?_)
 refine wpAny_bind (wpAny_newTuple ?_ (by simpa using hz))
 refine wpAny_bind (wpAny_newList ?_ (Nat.zero_le _))
 refine wpAny_holding ?_
 have I1:Inv X pins σ H {s with heap:=s.heap.update a (Obj.mapSeq λ_=> #[])}:=I.uB (ch:=[a]) (t':=s.toks) (λb o hb e=>(Heap.get?_update_ne _ _ _ _ (by simpa using hb)).trans e) (λb hb=>by rw[List.mem_singleton.mp hb];exact fa)
 have I2:Inv X pins σ H {s with heap:=((s.heap.update a (Obj.mapSeq λ_=> #[])).push (seqObj "tuple" us.toArray 0))}:=I1.kept (t':=s.toks) λb o e=>Heap.get?_push_of_some _ e
 have I3:Inv X pins σ H {s with heap:=((s.heap.update a (Obj.mapSeq λ_=> #[])).push (seqObj "tuple" us.toArray 0)).push (seqObj "list" #[] 0)}:=I2.kept (t':=s.toks) λb o e=>Heap.get?_push_of_some _ e
 have fk:gn X pins H ((s.heap.update a (Obj.mapSeq λ_=> #[])).push (seqObj "tuple" us.toArray 0)).objs.size:=I2.Ga (Nat.le_refl _) I2.fresh
 have ha3:(((s.heap.update a (Obj.mapSeq λ_=> #[])).push (seqObj "tuple" us.toArray 0)).push (seqObj "list" #[] 0)).get? a=some (seqObj "list" #[] e1):=Heap.get?_push_of_some _ (Heap.get?_push_of_some _ ha1)
 have Uq:(((s.heap.update a (Obj.mapSeq λ_=> #[])).push (seqObj "tuple" us.toArray 0)).push (seqObj "list" #[] 0)).get? ((s.heap.update a (Obj.mapSeq λ_=> #[])).push (seqObj "tuple" us.toArray 0)).objs.size=some (seqObj "list" #[] 0):=Heap.get?_push_size _ rfl
 have nka:((s.heap.update a (Obj.mapSeq λ_=> #[])).push (seqObj "tuple" us.toArray 0)).objs.size≠a:=by
  have:=Heap.lt_size ha
  rw[size_push',Heap.size_update]
  exact Nat.ne_of_gt (Nat.lt_succ_of_lt this)
 generalize((s.heap.update a (Obj.mapSeq λ_=> #[])).push (seqObj "tuple" us.toArray 0)).objs.size=kS at fk Uq nka ⊢
 generalize((s.heap.update a (Obj.mapSeq λ_=> #[])).push (seqObj "tuple" us.toArray 0)).push (seqObj "list" #[] 0)=h3 at I3 ha3 Uq ⊢
 show wpAny _ B (ksk_rest a f false us.toArray e1 (.ref kS)) P E {s with heap:=h3}
 have nc:∀(xs:Array Value)(m:Nat)(v:Option Value),(seqObj "list" xs m).data≠ .cell v:=λxs m v z=>nomatch z
 have I4:Inv X (Jz pins a e1 kS #[] 0) σ H {s with heap:=h3}:=I3.lC λp hp=>by
  rcases List.mem_append.mp hp with hp|hp
  ·exact I3.pin p (List.mem_append_right _ hp)
  ·rcases List.mem_cons.mp hp with rfl|hp
   ·exact CT fa ha3 (nc _ _)
   ·rw[List.mem_singleton.mp hp]
    exact CT fk Uq (nc _ _)
 unfold ksk_rest
 refine wpAny_bind (wpAny_rule ?_)
 first
  |rw[List.forIn_toArray]
  |(rw[<-Array.forIn_toList];simp only[List.toList_toArray])
 refine wpAny_bind (ksk_fold (λi s'=> ∃Hi ks e,Inv X (Jz pins a e1 kS ks e) σ Hi s'/\av H Hi/\ve kf (ys.take i) (us.take i) ks.toList) us 0 {s with heap:=h3} ⟨H, #[],0,I4,av.refl _,by simpa using ve.nil⟩ ?_ ?_)
 ·rintro j x s' hx ⟨Hi,ks,e,J,sm,hk⟩
  simp only[Nat.zero_add]at hk ⊢
  obtain⟨v,hv,rv⟩:=Vals.at r hx
  have hj:j<us.length:=(List.getElem?_eq_some_iff.mp hx).1
  refine wpAny_bind (wpAny_attempt (wpAny_mono (turn _ v Hi x s' (List.mem_of_getElem? hv) sm rv J) (λu s2 he=> ?_) λ_ _ hF=>hF.elim))
  obtain⟨v',H',J',ru,rfl,sm'⟩:=he
  obtain⟨t,rfl⟩:∃t,u= .int (kf v) t:=ru
  have pa:=J'.pin (a,seqObj "list" #[] e1) (by simp)
  have pk:=J'.pin (kS,seqObj "list" ks e) (by simp)
  have kl:ks.size=j:=by
   have h1:=hk.ints.length
   rw[Array.length_toList,List.length_map,List.length_take,rl]at h1
   omega
  try dsimp only
  refine wpAny_bind (listUpdate_at pk.1 rfl ?_ (by omega) (Nat.le_trans (Nat.le_of_eq (Array.size_push ..)) (by omega)))
  obtain⟨c2,hc2⟩:∃c2,(s2.heap.update kS (Obj.mapSeq (·.push (.int (kf v) t)))).get? kS=some (seqObj "list" (ks.push (.int (kf v) t)) c2):=⟨_,get?_update_seq pk.1 (·.push (.int (kf v) t))⟩
  have ya:ys.take (j+1)=ys.take j++ [v]:=by rw[List.take_add_one,hv];simp
  have ua:us.take (j+1)=us.take j++ [x]:=by rw[List.take_add_one,hx];simp
  have ea:(ks.push (Value.int (kf v) t)).toList=ks.toList++ [Value.int (kf v) t]:=by simp
  have J1:Inv X pins σ H' s2:=J'.lC λp hp=>J'.pin p (List.mem_append_right _ (List.mem_append_left _ hp))
  have J2:Inv X pins σ H' {s2 with heap:=s2.heap.update kS (Obj.mapSeq (·.push (.int (kf v) t)))}:=J1.uB (ch:=[kS]) (t':=s2.toks) (λb o hb e=>(Heap.get?_update_ne _ _ _ _ (by simpa using hb)).trans e) (λb hb=>by rw[List.mem_singleton.mp hb];exact BC fk pk.2.1)
  refine wpAny_pure ⟨rfl,H',ks.push (.int (kf v) t),c2,J2.lC λp hp=> ?_,sm.trans sm',by rw[ya,ua,ea];exact hk.snoc t rv⟩
  rcases List.mem_append.mp hp with hp|hp
  ·exact J2.pin p (List.mem_append_right _ hp)
  ·rcases List.mem_cons.mp hp with rfl|hp
   ·exact CT (BC fa pa.2.1) ((Heap.get?_update_ne _ _ _ _ nka.symm).trans pa.1) (nc _ _)
   ·rw[List.mem_singleton.mp hp]
    exact CT (BC fk pk.2.1) hc2 (nc _ _)
 ·rintro s' ⟨Hi,ks,e,J,sm,hk⟩
  rw[Nat.zero_add,List.take_of_length_le (Nat.le_of_eq rl),List.take_of_length_le (Nat.le_refl _)]at hk
  have pa:=J.pin (a,seqObj "list" #[] e1) (by simp)
  have pk:=J.pin (kS,seqObj "list" ks e) (by simp)
  have J1:Inv X pins σ Hi s':=J.lC λp hp=>J.pin p (List.mem_append_right _ (List.mem_append_left _ hp))
  try dsimp only
  refine wpAny_bind (listItems_at pk.1 rfl ?_)
  refine TV hk nka hz h64 pa.1 pk.1 λzs out h' tk pz so vo ol keep hA hS=> ?_
  have J2:Inv X pins σ Hi {s' with heap:=h',toks:=tk}:=J1.uB (ch:=[a,kS]) (t':=tk) (λb o hb e=>keep b o (λz=>hb (by simp[z])) (λz=>hb (by simp[z])) e) (λb hb=>by
   rcases List.mem_cons.mp hb with rfl|hb
   ·exact BC fa pa.2.1
   ·rw[List.mem_singleton.mp hb];exact BC fk pk.2.1)
  obtain⟨c,hc⟩:=hA
  exact done Hi _ zs (J2.Ux (BC fa pa.2.1) ⟨by rw[vo.length,ol];exact hz,out,c,vo,hc⟩) sm pa.2.1 pz so
theorem Fj{l:Addr}{fa:Addr}(I:Inv X pins σ H s)(hq:aV X.K H l ys)(h64:ys.length<64){Q:VK}
  (turn:∀(ql:List (Addr×Obj))(v:V)(Hi:Hp)(u:Value)(si:Shared),v∈ys->av H Hi->RelV v u->Inv X ql σ Hi si->wpAny (model X.prog X.w) X.A.in1.in1 (call (.ref fa) [u]) (EP X ql σ (λv' H'=>v'= .int (kf v)/\av Hi H')) (λ_ _=>False) si)
  (done:∀(Hn:Hp)(zs:List V),av H Hn->zs.Perm ys->zs.Pairwise (λx y=>kf x<=kf y) -> ∀p,Hn p=none->Q (.ref p) (upd Hn p (.lst zs))):
  wpAny (model X.prog X.w) X.A (call (.builtin "sorted") [.ref l] [(Str.ofString "key",.ref fa)]) (EP X pins σ Q) X.xe s:=by
 obtain⟨us,r,pl,hz⟩:=I.list hq
 have hz':us.length<=sizeLine:=by rw[<-r.length];exact hz
 refine call_function_entry_kw kind_sorted plain_sorted entry_sorted (ksk_s1 _ _) ?_
 unfold Builtin.«sorted»
 refine wpAny_bind (m:=checkCount "sorted" 1 1 _) (wpAny_pure ?_)
 refine wpAny_bind (collect_list pl.isList ?_ hz')
 refine wpAny_bind (wpAny_newList ?_ (by simpa using hz'))
 have z1:((s.heap.push (seqObj "list" #[] 0)).update s.heap.objs.size (Obj.mapSeq (· ++us.toArray))).objs.size=s.heap.objs.size+1:=by
  rw[Heap.size_update,size_push']
 generalize hg:((s.heap.push (seqObj "list" #[] 0)).update s.heap.objs.size (Obj.mapSeq (· ++us.toArray)))=h1 at z1
 have keep:∀b o,s.heap.get? b=some o->(h1.push (seqObj "list" us.toArray 0)).get? b=some o:=λb o e=>by
  have lb:=Heap.lt_size e
  refine Heap.get?_push_of_some _ ?_
  rw[<-hg,Heap.get?_update_ne _ _ _ _ (Nat.ne_of_lt lb)]
  exact Heap.get?_push_of_some _ e
 have Wy:(h1.push (seqObj "list" us.toArray 0)).get? (s.heap.objs.size+1)=some (seqObj "list" us.toArray 0):=by
  rw[<-z1];exact Heap.get?_push_size _ rfl
 have I1:Inv X pins σ H {s with heap:=h1.push (seqObj "list" us.toArray 0)}:=I.kept (t':=s.toks) keep
 have fa1:gn X pins H (s.heap.objs.size+1):=I.Ga (Nat.le_succ _) (I.hok.fresh (Nat.le_succ _))
 show wpAny _ _ _ _ _ {s with heap:=h1.push (seqObj "list" us.toArray 0)}
 rw[z1]
 refine wpAny_bind (wpAny_holding (wpAny_call_entry_kw slot_list_sort ⟨_,Wy,rfl⟩ entry_list_sort ?_ (ksk_l1 _ _)))
 show wpAny (model X.prog X.w) X.A.in1.in1 (Builtin.«list.sort» ⟨[.ref (s.heap.objs.size+1)],[(Str.ofString "key",.ref fa)]⟩) _ _ _
 rw[ksk_t1]
 refine LW I1 fa1 Wy r hz' (by rw[<-r.length];exact h64) turn λHn s' zs J sm hn pz so=>⟨_,rfl,?_⟩
 exact wpAny_pure ⟨_,rfl,.ref (s.heap.objs.size+1),_,J,rfl,done Hn zs sm pz so _ hn⟩
end
def JJ(tb:TE)(K:PySem.W.Frag)(P:Addr)(σ:St)(x:V)(H1:Hp)(Q:VK):Prop:=∃(l:Addr)(ys:List V)(kf:V->Int),x= .ref l/\aV K H1 l ys/\ys.length<64/\H1 P=some .DH/\
 (∀v∈ys,∀Hi,av H1 Hi->tb (some v::σ) Hi λv' H'=>v'= .int (kf v)/\av Hi H')/\
 ∀(Hn:Hp)(zs:List V),av H1 Hn->zs.Perm ys->zs.Pairwise (λx y=>kf x<=kf y) -> ∀p,Hn p=none->Q (.ref p) (upd Hn p (.lst zs))
def TX(tb:TE)(K:PySem.W.Frag)(P:Addr)(te:TE):TE:=λσ H Q=>te σ H λx H1=>JJ tb K P σ x H1 Q
section
variable{X:Cx}{P:Addr}{te tb:TE}{e body:Expr}{args:Arguments}{sc:Scope}{x:Str}{N2:List Str}{p pos PC kpos:Pos}
theorem LX(hc:X.calm=true){k:Nat}(hr:gr (k+3) X.A)(cd:gR X.K X.env.code P)(bm:BM X.mg X.base)(DX:Gl X "sorted")(hm:X.mg "sorted"=none)(he:PE X e te)(hB:Yn sc X.env.scope.names [x] N2 X.N=true)
  (hbind:∀qual cl pm c ctv u,bindArgs (PySem.W.kla_fn "<lambda>" qual args body sc cl pm c ctv) ⟨[u],[]⟩=pure [(x,u)])
  (hbody:∀q f cd s H,PE (X.lam X.A.in1.in1 sc ([x]++N2) q f cd s H) body tb)
  (hdef:defaultsOf args X.env=([],[]):=by rfl)
  (hkw:keywordEach [⟨some "key",.Lambda args body sc PC,kpos⟩] X.env=[(some (Str.ofString "key"),eval (.Lambda args body sc PC) X.env)]:=by rfl)
  (hse:starEach [e] X.env=(false,eval e X.env)::starEach [] X.env:=by rfl)(hst:backTo pos (starEach [e] X.env)=(false,eval e X.env)::backTo pos (starEach [] X.env):=by rfl)
  (hpl:(backTo pos (starEach [e] X.env)).any (·.1)=false:=by rfl):PE X (.Call (.Name "sorted" p) [e] [⟨some "key",.Lambda args body sc PC,kpos⟩] pos) (TX tb X.K P te):=by
 intro pins s σ H Q I h
 unfold Yn at hB
 simp only[Bool.and_eq_true]at hB
 obtain⟨⟨⟨⟨⟨h1,h2⟩,h3⟩,h4⟩,h5⟩,h6⟩:=hB
 have Bk:=kI h1
 have nc:∀y∈sc.names,y.2≠ .cell:=λy hy=>by
  have q:=List.all_eq_true.mp h5 y hy
  simpa using q
 have hx:sc.names.lookup x=some .local:=by
  have q:=List.all_eq_true.mp h6 x (by simp)
  simpa using q
 refine wpAny_Call_Name_kw (lQ I DX hm PyProof.Rows.boot_sorted ?_)
 refine PyProof.Rows.callWith_kw (gj ((ah he ao hse) pos pins s σ H (λvs H1=>match vs with| [v]=>JJ tb X.K P σ v H1 Q|_=>False) I h) λus s1 ⟨vs,H1,I1,r,q⟩=> ?_) hst hpl
 match vs,r,q with
 | [v],r,q=>
  obtain⟨l,ys,kf,rfl,hq,h64,hP,step,fin⟩:=q
  obtain⟨u,rfl,ru⟩:=vals1 r
  cases ru
  show wpAny _ _ (evalAll [do let v<-eval (.Lambda args body sc PC) X.env;standAt pos;pure v]) _ _ s1
  refine wpAny_evalAll_cons (wpAny_bind (LJ I1 cd hP bm Bk hdef λf H2 s2 I2 sm fr L=>wpAny_bind (wpAny_standAt (wpAny_pure (wpAny_evalAll_nil ?_)))))
  refine Fj (kf:=kf) I2 (PB hq sm) h64 (λql v Hi u si hv smi rv J=> ?_) λHn zs smn pz so=>fin Hn zs (sm.trans smn) pz so
  exact Ti J (L.same smi) Bk (by simpa using h2) (by simpa using h3) (by simpa using h4) nc hx hbind J.ok.frames (J.ok.hd hc) hr.depth (λq cd=>hbody q f cd si Hi) rv (step v hv Hi (sm.trans smi))
end
end L2
set_option maxHeartbeats 1000000
namespace CB
open PySem L2
section
variable{P:Program}{w:World}{K:PySem.W.Frag}{mg:Str->Option Value}{base:Heap}
def vh:Nat->Nat
 |0=>256
 |1=>48*(256*(256*256)*256)
 |_=>48*((48*(256*(256*256)*256))*((48*(256*(256*256)*256))*(48*(256*(256*256)*256)))*(48*(256*(256*256)*256)))
inductive Fo(T0:Addr)(vs:List V)(H:Hp)(Q:VK)(E:XK):Prop
 |mk(r:Addr)(as:List Addr)(R T:List (List Int))(_:vs=[.ref r])(_:Tab H r as R)(_:∀x∈R,x.length=3)(_:R.length=4)(_:Ent R 256)(_:sj T R)(_:aN T≠0)(_:H T0=some .DH)(_:∀F fs l H',av H H'->H l=none->Tab H' l fs F->cu F->CO F R->Ent F (vh 2) ->Q (.ref l) H')
theorem zC{bP:Addr}(F:qp K mg "_law_stairs" nM iX bP)(bm:BM mg base)(gf:mg "list"=none)(bw:mg "range"=none)(fO:mg "len"=none)(zD:mg "sorted"=none)(sL:mg "abs"=none)(qt:mg "zip"=none):cZ P w K mg base c8 6 "_law_stairs" iX (Fo bP):=by
 refine F.ok cX (λvs H Q E h=> ?_) (λf cdv A outer s H vs Q E cd hr h=> ?_)
 ·obtain⟨r,as,R,T,rfl,hT,h3,h4,hE,bs,nd,hC,q⟩:=h
  rfl
 obtain⟨r,as,R,T,rfl,hT,h3,h4,hE,bs,nd,hC,q⟩:=h
 have hu:=hr.units
 refine⟨_,(mS (@ay _ _ _ _ _ (yu (i:=1) cX.nd rfl rfl (N2:=["_law_rows_here","_law_left","_law_found","_law_k","_law_some","_law_at","_law_q"]) (te:=(QS (BY K) (eE (aY 0) lS))) rfl (di (pv 0)) (by kernel_rfl) rfl (λ_ _ _=>by exact fJ (fQ jx rfl gf PyProof.Rows.boot_list (ah (pv 0) ao))))
  (@ay _ _ _ _ _ (aW (i:=2) cX.nd rfl (Or.inl rfl) (gD ao))
  (@ay _ _ _ _ _ (lR PassesOwn.never rfl (b8 rfl bw (ah ak ao)) (cD (i:=3) cX.nd rfl (Or.inr rfl)) (mS (@ay _ _ _ _ _ (mX (i:=4) cX.nd rfl rfl (N2:=["_law_rows_here","_law_left","_law_found","_law_k","_law_some","_law_at","_law_q"]) (tt:=(lA (fY Um (fY (kG K) (aY 0) (aY 4)) (tC (.int 0))))) (te:=(aY 0)) rfl (di (pv 1)) (by kernel_rfl) rfl (λ_ _ _=>by exact tu (bB ly (aJ aA (pv 0) (pv 4) (λ_ _=>rfl)) ak (bg _))) (λ_ _ _=>by exact fJ (pv 0)))
  (@ay _ _ _ _ _ (MJ PassesOwn.never (bB yi (bV dJ rfl fO PySem.boot_len (ah (pv 4) ao)) ak (bg _)) (mS (@ay _ _ _ _ _ (aW (i:=4) cX.nd rfl (Or.inl rfl) (LX (N2:=["_law_rows_here","_law_left","_law_found","_law_k","_law_some","_law_at","_law_q"]) (tb:=(QS aal (eE (fY (kG K) (aY 0) (aY 4)) lS))) rfl hr cd bm rfl zD (pv 4) (by kernel_rfl) (λ_ _ _ _ _ _=>rfl) (λ_ _ _ _ _=>by exact fJ (bV uu rfl sL PyProof.Rows.boot_abs (ah (aJ aA (pv 0) (pv 4) (λ_ _=>rfl)) ao)))))
  (@ay _ _ _ _ _ (lR PassesOwn.never rfl (Bb rfl bw (ah ak (ah (bV dJ rfl fO PySem.boot_len (ah (pv 4) ao)) ao))) (cD (i:=5) cX.nd rfl (Or.inl rfl)) (mS (@ay _ _ _ _ _ (aW (i:=6) cX.nd rfl (Or.inr rfl) (aB LL (aJ aA (aJ aA (pv 4) (pv 5) (λ_ _=>rfl)) (pv 3) (λ_ _=>rfl)) (aJ aA (aJ aA (pv 4) ak (λ_ _=>rfl)) (pv 3) (λ_ _=>rfl))))
  (@aI _ _ _ (ju (Nq (N2:=["_law_rows_here","_law_left","_law_found","_law_k","_law_some","_law_at","_law_q"]) (te:=(fY (FU λi j=> .int (i-j)) (aY 0) (fY (rI mW λi j=> .int (i*j)) (aY 8) (aY 1)))) rfl (Cb rfl qt (ah (aJ aA (pv 4) (pv 5) (λ_ _=>rfl)) (ah (aJ aA (pv 4) ak (λ_ _=>rfl)) ao))) (by kernel_rfl) rfl (λ_ _ _=>by exact fJ (aB gq (pv 0) (aB bX (pv 8) (pv 1))))) (jP (pv 4) (pv 5) set_list))))))
  (@ay _ _ _ _ _ (aW (i:=1) cX.nd rfl (Or.inl rfl) (aB yk (rY (N2:=["_law_rows_here","_law_left","_law_found","_law_k","_law_some","_law_at","_law_q"]) (tt:=(lA (fY JU (fY (kG K) (aY 0) (aY 4)) (tC (.int 0))))) (te:=(aY 0)) rfl (di (pv 1)) (by kernel_rfl) rfl (λ_ _ _=>by exact tu (bB fF (aJ aA (pv 0) (pv 4) (λ_ _=>rfl)) ak (bg _))) (λ_ _ _=>by exact fJ (pv 0))) (rY (N2:=["_law_rows_here","_law_left","_law_found","_law_k","_law_some","_law_at","_law_q"]) (tt:=(lA (fY JU (fY (kG K) (aY 0) (aY 4)) (tC (.int 0))))) (te:=(aY 0)) rfl (di (pv 4)) (by kernel_rfl) rfl (λ_ _ _=>by exact tu (bB fF (aJ aA (pv 0) (pv 4) (λ_ _=>rfl)) ak (bg _))) (λ_ _ _=>by exact fJ (pv 0)))))
  (@aI _ _ _ (mX (i:=4) cX.nd rfl rfl (N2:=["_law_rows_here","_law_left","_law_found","_law_k","_law_some","_law_at","_law_q"]) (tt:=(lA (fY Um (fY (kG K) (aY 0) (aY 4)) (tC (.int 0))))) (te:=(aY 0)) rfl (di (pv 4)) (by kernel_rfl) rfl (λ_ _ _=>by exact tu (bB ly (aJ aA (pv 0) (pv 4) (λ_ _=>rfl)) ak (bg _))) (λ_ _ _=>by exact fJ (pv 0)))))))))
  (@ay _ _ _ _ _ (mX (i:=1) cX.nd rfl rfl (N2:=["_law_rows_here","_law_left","_law_found","_law_k","_law_some","_law_at","_law_q"]) (tt:=(lA (fY JU (fY (kG K) (aY 0) (aY 4)) (tC (.int 0))))) (te:=(aY 0)) rfl (di (pv 1)) (by kernel_rfl) rfl (λ_ _ _=>by exact tu (bB fF (aJ aA (pv 0) (pv 4) (λ_ _=>rfl)) ak (bg _))) (λ_ _ _=>by exact fJ (pv 0)))
  (@aI _ _ _ (iZ (Bj PySem.F.plainAttrs_list PySem.F.slot_list_append PySem.F.type_list_append jQ (pv 2) (ah (aJ aA (pv 4) ak (λ_ _=>rfl)) ao)))))))))
  (@aI _ _ _ (bA (pv 2))))))),?_⟩
 obtain⟨ok0,rw0⟩:=yb hT h3
 have la0:as.length=4:=by
  rw[<-h4,<-rw0]
  exact(List.length_map _).symm
 refine⟨_,rfl,r,rfl,⟨_,aV.of hT.1⟩,λD hD=>Ek hT (by rw[h4];decide) hD λcs H1 s1 fr nD nn T1=> ?_⟩
 obtain⟨ok1,rw1⟩:=yb T1 h3
 refine⟨(by show 0<=sizeLine;decide),λG hG=> ?_⟩
 have uG:=av.up (o:= .lst []) hG
 have sG:=s1.trans uG
 obtain⟨ok2,rw2⟩:=ok1.same uG
 refine⟨3,rfl,by decide,by decide,gp (n:=3) (λk σ H'=> ∃o3 o4 o5 o6 Ll la fa,σ=[some (.ref r),some (.ref Ll),some (.ref G),o3,o4,o5,o6]/\av H H'/\H' Ll=some (.lst (la.map V.ref))/\H' G=some (.lst (fa.map V.ref))/\iz H' la/\iz H' fa/\la.length<=4/\
  Zm k (rws H' fa)/\WL k (rws H' la)/\CO (rws H' fa++rws H' la) R/\Ent (rws H' la) (vh k)/\Ent (rws H' fa) (vh 2)) ⟨_,_,_,_,D,cs,[],rfl,sG,uG _ _ T1.1,aq,ok2,(λb hb=>nomatch hb),?_,⟨rfl,λi hi=>absurd hi (Nat.not_lt_zero _)⟩,(λx _ j hj=>absurd hj (Nat.not_lt_zero _)),?_,?_,(λx hx=>nomatch hx)⟩ (λk σ H2 hk hh=> ?_) (λσ H2 hh=> ?_)⟩
 ·have:cs.length=(rws H1 cs).length:=(List.length_map _).symm
  rw[this,rw1,h4]
  decide
 ·rw[rw2,rw1]
  exact CO.refl R
 ·rw[rw2,rw1]
  exact hE
 rotate_left
 ·obtain⟨o3,o4,o5,o6,Ll,la,fa,rfl,s2,eL,eG,Zu,Zv,ll,tr,ze,sp,eL2,eF2⟩:=hh
  have T2:=JC eG Zv
  refine⟨_,rfl,q _ fa G H2 s2 (s1.none hG) T2 ⟨tr.1,λx hx=> ?_⟩ ?_ eF2⟩
  ·obtain⟨b,hb,rfl⟩:=List.mem_map.mp hx
   exact(Zv b hb).2
  ·refine CO.trans (λM c=>⟨λh=>eV.mpr ⟨h,λx hx=> ?_⟩,λh=>(eV.mp h).1⟩) sp
   exact c.ext _ _ c.zero λj hj=>(ze x hx j hj).symm
 obtain⟨o3,o4,o5,o6,Ll,la,fa,rfl,s2,eL,eG,Zu,Zv,ll,tr,ze,sp,eL2,eF2⟩:=hh
 have fG:H G=none:=s1.none hG
 rw[Int.zero_add]
 have JO:∀(neg:Bool){Hx Hy:Hp}{as:List Addr}(v:V)(x:Addr),iz Hx as->av Hx Hy->v∈as.map V.ref-> ∃b,b∈as/\v= .ref b/\Hy b=some (.lst [.int (az (iQ Hx b) 0),.int (az (iQ Hx b) 1),.int (az (iQ Hx b) 2)]):=λneg {Hx Hy as} v x ok s hv=>by
  obtain⟨b,hb,rfl⟩:=List.mem_map.mp hv
  exact⟨b,hb,rfl,s _ _ (ok b hb).1⟩
 have Qi:∀{as:List Addr},as.length<=4->(as.map V.ref).length<=sizeLine:=λh=>by
  rw[List.length_map]
  exact Nat.le_trans h (by decide)
 refine⟨_,rfl,Ll,rfl,⟨_,aV.of eL⟩,λS hS=>dj (dM (aV.of eL)) (Qi ll) hS (λv=> !vz H2 k v) id (λv hv Ha Rr sa kk=> ?_) (λv hv pv Ha Q' sa kk=> ?_) (λH3 s3 e3=> ?_)⟩
 ·obtain⟨b,hb,rfl,eb⟩:=JO true v 0 Zu sa hv
  exact⟨_,rfl,_,rfl,b,_,_,_,rfl,rfl,aV.of eb,mR (az (iQ H2 b)) hk,rfl,_,rfl,by rw[EY];exact kk Ha (av.refl _)⟩
 ·exact⟨v,rfl,kk Ha (av.refl _)⟩
 rw[JE]at e3
 have s23:=s2.trans s3
 obtain⟨Yw,TY⟩:=Zu.same s3
 obtain⟨aau,Wn⟩:=Zv.same s3
 have nzE:BD H3 k la=BD H2 k la:=List.filter_congr λb hb=>by rw[((Zu b hb).keep (s3 b)).2]
 rw[<-nzE]at e3
 have ze3:WL k (rws H3 la):=by rw[TY];exact ze
 have Qj:∀b∈BD H3 k la,b∈la/\az (iQ H3 b) k≠0:=λb hb=>by
  obtain⟨h1,h2⟩:=List.mem_filter.mp hb
  exact⟨h1,by simpa using h2⟩
 have okN:iz H3 (BD H3 k la):=λb hb=>Yw b (Qj b hb).1
 have Zw:Ent (rws H3 la) (vh k):=by rw[TY];exact eL2
 have cnt:(FY H3 k la).length+(BD H3 k la).length=la.length:=by
  exact zp (λb=>decide (az (iQ H3 b) k=0)) la
 have sp3:CO (rws H3 fa++(xK k (rws H3 la)++rws H3 (BD H3 k la))) R:=by
  refine CO.trans (λM c=> ?_) sp
  rw[Wn,eV,eV,eV,<-TY,EV k (rws H3 la),HL]
 have neN:BD H3 k la≠ []:=by
  obtain⟨x,hx,hxk⟩:=Tj hk tr ze sp bs nd
  rw[<-TY]at hx
  obtain⟨b,hb,rfl⟩:=List.mem_map.mp hx
  intro z
  have:b∈BD H3 k la:=List.mem_filter.mpr ⟨hb,by simpa using hxk⟩
  rw[z]at this
  cases this
 obtain⟨E0,hE0,Yx⟩:∃E0:Nat,(∀x∈rws H3 la,∀j,j<3->j≠k->(az x j).natAbs<=E0)/\max (48*(E0*(vh k*vh k)*vh k)) (vh k)<=vh (k+1):=by
  rcases aG hk with rfl|rfl|rfl
  ·exact⟨vh 0,λx hx j hj _=>Zw x hx j hj,by decide⟩
  ·exact⟨vh 1,λx hx j hj _=>Zw x hx j hj,by decide+kernel⟩
  ·refine⟨0,λx hx j hj hj2=> ?_,by decide+kernel⟩
   rw[ze3 x hx j (by omega)]
   exact Nat.le_refl _
 obtain⟨m0,W0⟩:=Wk.start (k:=k) (S:=rws H3 (BD H3 k la)) (B:=vh k) (E:=E0) (by
  intro z
  exact neN (List.map_eq_nil_iff.mp z)) (by rw[show(rws H3 (BD H3 k la)).length=(BD H3 k la).length from List.length_map _];omega) (λx hx=>by
  obtain⟨b,hb,rfl⟩:=List.mem_map.mp hx
  exact(Qj b hb).2) (λx hx j hj hjk=>by
  obtain⟨b,hb,rfl⟩:=List.mem_map.mp hx
  exact hE0 _ (List.mem_map_of_mem (Qj b hb).1) j hj hjk) (λx hx=>by
  obtain⟨b,hb,rfl⟩:=List.mem_map.mp hx
  exact Zw _ (List.mem_map_of_mem (Qj b hb).1) k hk)
 generalize hZ:48*(E0*(vh k*vh k)*vh k)=Z at W0 Yx
 have M0:Mid k (rws H3 fa) (rws H3 la) (rws H3 (BD H3 k la)) R Z (vh k) (vh (k+1)):=by
  refine⟨?_,?_,ze3,λx hx=> ?_,sp3,λx hx j hj=> ?_,E0,_,m0,false,W0,Nat.le_refl _⟩
  ·rw[<-wu]
   have e1:(rws H3 (FY H3 k la)).length=(FY H3 k la).length:=List.length_map _
   have e2:(rws H3 (BD H3 k la)).length=(BD H3 k la).length:=List.length_map _
   omega
  ·have e1:(rws H3 la).length=la.length:=List.length_map _
   omega
  ·obtain⟨b,hb,rfl⟩:=List.mem_map.mp hx
   exact ze3 _ (List.mem_map_of_mem (Qj b hb).1)
  ·have h1:=(List.mem_filter.mp hx).1
   have:=Zw x h1 j hj
   have h2:vh k<=vh (k+1):=Nat.le_trans (Nat.le_max_right _ _) Yx
   omega
 have zB:Z<=vh (k+1):=Nat.le_trans (Nat.le_max_left _ _) Yx
 have stK:vh (k+1)<=vh 2:=by rcases aG hk with rfl|rfl|rfl<;>decide+kernel
 have big:vh 2<2^160:=by decide+kernel
 refine MO (λσ H'=> ∃o5 o6 Lw Sw la' sa,σ=[some (.ref r),some (.ref Lw),some (.ref G),some (.int (k:Int)),some (.ref Sw),o5,o6]/\av H3 H'/\H' Lw=some (.lst (la'.map V.ref))/\H' Sw=some (.lst (sa.map V.ref))/\iz H' la'/\iz H' sa/\
  Mid k (rws H3 fa) (rws H' la') (rws H' sa) R Z (vh k) (vh (k+1))) (muS k) ⟨_,_,Ll,S,la,BD H3 k la,rfl,av.refl _,s3 _ _ eL,e3,Yw,okN,M0⟩ (λσ H' hh=> ?_) ?_
 rotate_left
 ·rintro σ H' Q Q' h ⟨v,h1,p,ys,e1,e2,i,j,e3,e4,b,e5,h2⟩
  exact⟨v,h1,p,ys,e1,e2,i,j,e3,e4,b,e5,h _ _ h2⟩
 obtain⟨o5,o6,Lw,Sw,la',sa,rfl,s4,eLw,Zx,okW,okS,md⟩:=hh
 have lsa:(rws H' sa).length=sa.length:=List.length_map _
 have lla:(rws H' la').length=la'.length:=List.length_map _
 have Yg:=s23.trans s4
 refine⟨_,rfl,Sw,_,rfl,.inl (aV.of Zx),_,_,rfl,rfl,_,rfl,g9 (λc=> ?_) (λc=> ?_)⟩
 rotate_left
 ·--one row is left
  have c1:¬1<(rws H' sa).length:=by
   rw[lsa]
   intro z
   apply c
   refine decide_eq_true ?_
   rw[List.length_map]
   omega
  obtain⟨aav,aaw⟩:=aau.same s4
  obtain⟨x,ex,WM,ze',sp',bx⟩:=md.done hk (by rw[Wn];exact tr) c1
  obtain⟨Yy,eb0,rfl⟩:∃b,sa=[b]/\iQ H' b=x:=by
   match sa,ex with
   | [b],ex=>exact⟨b,rfl,by injection ex⟩
  subst eb0
  have eG4:H' G=some (.lst (fa.map V.ref)):=(s3.trans s4) _ _ eG
  refine⟨_,rfl,Lw,rfl,⟨_,aV.of eLw⟩,λD hD=>dj (dM (aV.of eLw)) (Qi (by rw[<-lla];exact md.ll)) hD (λv=>vz H' k v) id (λv hv Ha Rr sa' kk=> ?_) (λv hv pv Ha Q' sa' kk=> ?_) (λH5 s5 e5=> ?_)⟩
  ·obtain⟨b,hb,rfl,eb⟩:=JO true v 0 okW sa' hv
   exact⟨_,rfl,_,rfl,b,_,_,_,rfl,rfl,aV.of eb,mR (az (iQ H' b)) hk,rfl,_,rfl,by rw[EY];exact kk Ha (av.refl _)⟩
  ·exact⟨v,rfl,kk Ha (av.refl _)⟩
  rw[JD]at e5
  have eG5:=s5 _ _ eG4
  have nDG:D≠G:=λz=>by rw[z,eG4]at hD;cases hD
  have lfa:fa.length=k:=by
   rw[<-tr.1]
   exact(List.length_map _).symm
  have keep:∀{as:List Addr},iz H' as-> ∀b∈as,∀o,H' b=some o->upd H5 G (.lst (fa.map V.ref++ [.ref Yy])) b=some o:=λok b hb o e=>by
   rw[aH (m7 (ok b hb) eG4)]
   exact s5 _ _ e
  have okZ:iz H' (FY H' k la'):=λb hb=>okW b (List.mem_filter.mp hb).1
  have okG:iz H' (fa++ [Yy]):=λb hb=>by
   rcases List.mem_append.mp hb with hb|hb
   ·exact aav b hb
   ·exact okS b hb
  obtain⟨k1,k2⟩:=okZ.keep (keep okZ)
  obtain⟨k3,k4⟩:=okG.keep (keep okG)
  have rwG:rws H' (fa++ [Yy])=rws H3 fa++ [iQ H' Yy]:=by
   rw[p5,aaw]
   rfl
  refine⟨_,rfl,.inl ⟨rfl,_,aV.of eG5⟩,_,rfl,Sw,_,_,_,rfl,rfl,aV.of (s5 _ _ Zx),oK,G,_,_,rfl,rfl,eG5,(by rw[List.length_map,lfa];exact Nat.lt_of_lt_of_le hk (by decide)),?_⟩
  refine⟨_,_,_,_,D,FY H' k la',fa++ [Yy],rfl,((Yg.trans s5).trans (av.refl _)).upd fG,by rw[aH nDG];exact e5,by rw[List.map_append];exact aq,k1,k3,?_,?_,?_,?_,?_,?_⟩
  ·exact Nat.le_trans (List.length_filter_le _ _) (by rw[<-lla];exact md.ll)
  ·rw[k4,rwG]
   exact WM
  ·rw[k2,wu]
   exact ze'
  ·rw[k4,k2,rwG,wu]
   exact sp'
  ·rw[k2,wu]
   exact md.en
  ·rw[k4,rwG]
   intro x hx j hj
   rcases List.mem_append.mp hx with hx|hx
   ·rw[Wn]at hx
    exact eF2 x hx j hj
   ·rw[List.mem_singleton.mp hx]
    exact Nat.le_trans (bx j hj) (Nat.le_trans Yx stK)
 have l2:2<=sa.length:=by
  have:=of_decide_eq_true c
  rw[List.length_map]at this
  omega
 refine⟨_,rfl,Sw,_,(λv=>((kW H' k v:Nat):Int)),rfl,aV.of Zx,(by have:=md.cn;rw[lsa]at this;rw[List.length_map];omega),Yg _ _ hC,(λv hv Hi si=> ?_),λHn zs sn pz so p hp=> ?_⟩
 ·obtain⟨b,hb,rfl,eb⟩:=JO true v 0 okS si hv
  exact⟨_,rfl,_,rfl,b,_,_,_,rfl,rfl,aV.of eb,mR (az (iQ H' b)) hk,_,rfl,congrArg V.int (show(if az (iQ H' b) k<0 then-az (iQ H' b) k else az (iQ H' b) k)=((az (iQ H' b) k).natAbs:Int)by split<;>omega),av.refl _⟩
 obtain⟨sb,rfl,psb⟩:=LN pz
 have lsb:sb.length=sa.length:=psb.length_eq
 obtain⟨y0,d9,rfl⟩:∃y0 d9,sb=y0::d9:=by
  cases sb with
  |nil=>simp at lsb;omega
  |cons y r=>exact⟨y,r,rfl⟩
 have l1:d9.length+1=sa.length:=by rw[<-lsb];rfl
 have perm:(rws H' sa).Perm (iQ H' y0::rws H' d9):=(psb.symm.map (iQ H'))
 have Wc:∀x∈rws H' d9,(az (iQ H' y0) k).natAbs<=(az x k).natAbs:=λx hx=>by
  obtain⟨b,hb,rfl⟩:=List.mem_map.mp hx
  have h1:((kW H' k (.ref y0):Nat):Int)<=((kW H' k (.ref b):Nat):Int):=(List.pairwise_cons.mp so).1 (V.ref b) (List.mem_map_of_mem hb)
  exact Int.ofNat_le.mp h1
 have rne:rws H' d9≠ []:=by
  intro z
  have:d9=[]:=List.map_eq_nil_iff.mp z
  rw[this]at l1
  simp at l1
  omega
 obtain⟨md2,mu2⟩:=md.step hk zB perm rne Wc
 have sml:∀b∈y0::d9,HK H' b/\az (iQ H' b) k≠0/\ ∀j,j<3->(az (iQ H' b) j).natAbs<=vh 2:=λb hb=>by
  have hb':b∈sa:=psb.mem_iff.mp hb
  obtain⟨h1,h2⟩:=md.small _ (List.mem_map_of_mem hb')
  exact⟨okS b hb',h1,λj hj=>Nat.le_trans (h2 j hj) (Nat.le_trans Yx stK)⟩
 have fp:H' p=none:=sn.none hp
 have sp1:av H' (upd Hn p (.lst ((y0::d9).map V.ref))):=sn.upd fp
 have hn:((((y0::d9).map V.ref).length:Int) -1).toNat=d9.length:=by
  rw[List.length_map,List.length_cons]
  omega
 refine⟨_,rfl,p,_,rfl,.inl (aV.of aq),1,_,rfl,⟨by decide,by decide,by omega,by rw[List.length_map,List.length_cons];have:=md.cn;omega⟩,gp (lo:=1) (λi σ Hc=> ∃o5 o6 new,σ=[some (.ref r),some (.ref Lw),some (.ref G),some (.int (k:Int)),some (.ref p),o5,o6]/\av H' Hc/\Hc p=some (.lst ((y0::(new++d9.drop i)).map V.ref))/\new.length=i/\iz Hc new/\
  rws Hc new=ff k (iQ H' y0) ((rws H' d9).take i)) ⟨_,_,[],rfl,sp1,aq,rfl,(λb hb=>nomatch hb),rfl⟩ (λi σ Hc hi hc=> ?_) (λσ Hc hc=> ?_)⟩
 ·rw[hn]at hi
  obtain⟨o5,o6,new,rfl,sc,ec,ln,LY,Zy⟩:=hc
  have hri:d9[i]∈y0::d9:=List.mem_cons_of_mem _ (List.getElem_mem hi)
  obtain⟨okr,nr,br⟩:=sml _ hri
  obtain⟨oky,ny,bY⟩:=sml y0 List.mem_cons_self
  have er:=sc _ _ okr.1
  have ey:=sc _ _ oky.1
  have eI:(1:Int)+(i:Int)=((i+1:Nat):Int):=by omega
  have gI:((y0::(new++d9.drop i)).map V.ref)[i+1]?=some (.ref d9[i]):=by
   rw[List.getElem?_map,List.getElem?_cons_succ,List.getElem?_append_right (by omega),ln,Nat.sub_self,List.getElem?_drop,Nat.add_zero,List.getElem?_eq_getElem hi]
   rfl
  have atR:Ae ((y0::(new++d9.drop i)).map V.ref) (1+(i:Int))=some (.ref d9[i]):=by
   rw[eI]
   exact BN gI
  have Zq:Ae ((y0::(new++d9.drop i)).map V.ref) 0=some (.ref y0):=oK
  have b4:(vh 2:Nat)<2^4096:=Nat.lt_trans big (by decide+kernel)
  refine⟨_,rfl,_,rfl,p,_,_,_,rfl,rfl,aV.of ec,atR,_,rfl,d9[i],_,_,_,rfl,rfl,aV.of er,mR (az (iQ H' d9[i])) hk,_,rfl,p,_,_,_,rfl,rfl,aV.of ec,Zq,_,rfl,y0,_,_,_,rfl,rfl,aV.of ey,mR (az (iQ H' y0)) hk,_,_,rfl,rfl,⟨ny,Nat.lt_of_le_of_lt (bY k hk) b4⟩,?_⟩
  refine⟨_,rfl,_,rfl,p,_,_,_,rfl,rfl,aV.of ec,atR,_,rfl,p,_,_,_,rfl,rfl,aV.of ec,Zq,d9[i],y0,_,_,rfl,aV.of er,aV.of ey,λD hD=>Ed (aV.of er) (aV.of ey) rfl (by show 3<=sizeLine;decide) hD (λu v=>match u,v with| .int a,.int b=> .int (a- (az (iQ H' d9[i]) k).fdiv (az (iQ H' y0) k)*b)|_,_=> .fP) (λn u v eu ev Ha Q' sa' kk=> ?_) (λHx sx ex=> ?_)⟩
  ·have hn3:n<3:=(List.getElem?_eq_some_iff.mp eu).1
   obtain⟨a1,a2,a3,a4,a5⟩:=jr (x:=az (iQ H' d9[i]) k) ny
   have q1:((az (iQ H' d9[i]) k).fdiv (az (iQ H' y0) k)).natAbs<2^4096:=by
    have h1:=br k hk
    have h2:=bY k hk
    have h3:((az (iQ H' d9[i]) k).fdiv (az (iQ H' y0) k)).natAbs*1<=((az (iQ H' d9[i]) k).fdiv (az (iQ H' y0) k)).natAbs*(az (iQ H' y0) k).natAbs:=Nat.mul_le_mul_left _ (by omega)
    have b5:2*vh 2<2^4096:=by decide+kernel
    omega
   have Yk:u= .int (az (iQ H' d9[i]) n):=by
    rcases aG hn3 with rfl|rfl|rfl<;>exact(Option.some.inj eu).symm
   have ev':v= .int (az (iQ H' y0) n):=by
    rcases aG hn3 with rfl|rfl|rfl<;>exact(Option.some.inj ev).symm
   subst Yk ev'
   exact⟨_,rfl,_,rfl,_,rfl,_,_,rfl,rfl,⟨q1,Nat.lt_of_le_of_lt (bY n hn3) b4⟩,_,_,rfl,rfl,kk⟩
  obtain⟨Zs,rwD⟩:=PL (b:=D) ex
  have nDp:D≠p:=λz=>by rw[z,ec]at hD;cases hD
  refine⟨_,rfl,_,rfl,p,_,_,i+1,rfl,rfl,sx _ _ ec,?_,_,_,new++ [D],rfl,(sc.trans sx).upd fp,?_,?_,?_,?_⟩
  ·unfold Rq
   rw[if_pos (by omega),if_pos (by rw[List.length_map,List.length_cons,List.length_append,List.length_drop];omega)]
   congr 1
   omega
  ·rw[aq,List.map_cons,List.set_cons_succ,List.map_append,List.set_append_right _ _ (by rw[List.length_map];omega),List.length_map,ln,Nat.sub_self,List.drop_eq_getElem_cons hi,List.map_cons,List.set_cons_zero]
   simp[-List.map_drop]
  ·rw[List.length_append,ln]
   rfl
  ·intro b hb
   rcases List.mem_append.mp hb with hb|hb
   ·exact((LY b hb).keep λo e=>by rw[aH (m7 (LY b hb) ec)];exact sx _ _ e).1
   ·rw[List.mem_singleton.mp hb]
    exact(Zs.keep λo e=>by rw[aH nDp];exact e).1
  ·have k1:=(LY.keep (H':=upd Hx p (.lst (((y0::(new++d9.drop i)).map V.ref).set (i+1) (.ref D)))) λb hb o e=>by rw[aH (m7 (LY b hb) ec)];exact sx _ _ e).2
   have k2:=(Zs.keep (H':=upd Hx p (.lst (((y0::(new++d9.drop i)).map V.ref).set (i+1) (.ref D)))) λo e=>by rw[aH nDp];exact e).2
   have li:i<(rws H' d9).length:=by
    rw[show(rws H' d9).length=d9.length from List.length_map _]
    exact hi
   rw[p5,k1,Zy,LO _ _ _ _ li]
   congr 1
   show [iQ _ D]=_
   rw[k2,rwD]
   have:(rws H' d9)[i]=iQ H' d9[i]:=List.getElem_map _
   rw[this]
   rfl
 rw[hn]at hc
 obtain⟨o5,o6,new,rfl,sc,ec,ln,LY,Zy⟩:=hc
 rw[List.drop_of_length_le (Nat.le_refl _),List.append_nil]at ec
 rw[List.take_of_length_le (by rw[show(rws H' d9).length=d9.length from List.length_map _];exact Nat.le_refl _)]at Zy
 obtain⟨Yz,aax⟩:=okW.same sc
 obtain⟨oky,rwy⟩:=(sml y0 List.mem_cons_self).1.keep (sc y0)
 have Zz:iz Hc (y0::new):=λb hb=>by
  rcases List.mem_cons.mp hb with rfl|hb
  ·exact oky
  ·exact LY b hb
 have rwP:rws Hc (y0::new)=iQ H' y0::ff k (iQ H' y0) (rws H' d9):=by
  show iQ Hc y0::rws Hc new=_
  rw[rwy,Zy]
 have eLc:=sc _ _ eLw
 have lmd:=md2.ll
 rw[<-aax,<-rwP,<-wu,<-wu,<-p5]at md2
 rw[<-rwP]at mu2
 have l4:la'.length<=4:=by rw[<-lla];exact md.ll
 have lp:(y0::new).length<=4:=by
  have:=md.cn
  rw[List.length_cons,ln]
  omega
 refine⟨_,rfl,Lw,rfl,⟨_,aV.of eLc⟩,λD1 hD1=>dj (dM (aV.of eLc)) (Qi l4) hD1 (λv=>vz Hc k v) id (λv hv Ha Rr sa' kk=> ?_) (λv hv pv Ha Q' sa' kk=> ?_) (λH5 s5 e5=> ?_)⟩
 ·obtain⟨b,hb,rfl,eb⟩:=JO true v 0 Yz sa' hv
  exact⟨_,rfl,_,rfl,b,_,_,_,rfl,rfl,aV.of eb,mR (az (iQ Hc b)) hk,rfl,_,rfl,by rw[EY];exact kk Ha (av.refl _)⟩
 ·exact⟨v,rfl,kk Ha (av.refl _)⟩
 have Zf:=s5 _ _ ec
 refine⟨_,rfl,p,rfl,⟨_,aV.of Zf⟩,λD2 Ag=>dj (dM (aV.of Zf)) (Qi lp) Ag (λv=>vz Hc k v) id (λv hv Ha Rr sa' kk=> ?_) (λv hv pv Ha Q' sa' kk=> ?_) (λH6 s6 e6=> ?_)⟩
 ·obtain⟨b,hb,rfl,eb⟩:=JO true v 0 Zz (s5.trans sa') hv
  exact⟨_,rfl,_,rfl,b,_,_,_,rfl,rfl,aV.of eb,mR (az (iQ Hc b)) hk,rfl,_,rfl,by rw[EY];exact kk Ha (av.refl _)⟩
 ·exact⟨v,rfl,kk Ha (av.refl _)⟩
 rw[JD]at e5 e6
 have e56:=s6 _ _ e5
 have lz1:(FY Hc k la').length<=4:=Nat.le_trans (List.length_filter_le _ _) l4
 have lz2:(FY Hc k (y0::new)).length<=4:=Nat.le_trans (List.length_filter_le _ _) lp
 refine⟨D1,D2,_,_,rfl,rfl,e56,e6,(by rw[List.length_map,List.length_map];exact Nat.le_trans (Nat.add_le_add lz1 lz2) (by decide)),λp4 hp4=> ?_⟩
 have s7:av H6 (upd H6 p4 (.lst ((FY Hc k la').map V.ref++(FY Hc k (y0::new)).map V.ref))):=av.up hp4
 have ec7:=s7 _ _ (s6 _ _ Zf)
 refine⟨_,rfl,p,rfl,⟨_,aV.of ec7⟩,λD3 WJ=>dj (dM (aV.of ec7)) (Qi lp) WJ (λv=> !vz Hc k v) id (λv hv Ha Rr sa' kk=> ?_) (λv hv pv Ha Q' sa' kk=> ?_) (λH8 s8 e8=> ?_)⟩
 ·obtain⟨b,hb,rfl,eb⟩:=JO true v 0 Zz (s5.trans (s6.trans (s7.trans sa'))) hv
  exact⟨_,rfl,_,rfl,b,_,_,_,rfl,rfl,aV.of eb,mR (az (iQ Hc b)) hk,rfl,_,rfl,by rw[EY];exact kk Ha (av.refl _)⟩
 ·exact⟨v,rfl,kk Ha (av.refl _)⟩
 rw[JE]at e8
 have sA:av Hc H8:=s5.trans (s6.trans (s7.trans s8))
 have okA:iz Hc (FY Hc k la'++FY Hc k (y0::new)):=λb hb=>by
  rcases List.mem_append.mp hb with hb|hb
  ·exact Yz b (List.mem_filter.mp hb).1
  ·exact Zz b (List.mem_filter.mp hb).1
 have okB:iz Hc (BD Hc k (y0::new)):=λb hb=>Zz b (List.mem_filter.mp hb).1
 obtain⟨a1,a2⟩:=okA.same sA
 obtain⟨b1,b2⟩:=okB.same sA
 refine⟨⟨_,_,p4,D3,FY Hc k la'++FY Hc k (y0::new),BD Hc k (y0::new),rfl,s4.trans (sc.trans sA),?_,e8,a1,b1,?_⟩,?_⟩
 ·rw[List.map_append]
  exact s8 _ _ aq
 ·rw[a2,b2,HL]
  exact md2
 ·rw[PN Zx]
  refine Nat.lt_of_le_of_lt (Nat.le_of_eq (PN e8)) ?_
  rw[b2,HL]
  exact mu2
inductive JK(T0:Addr)(vs:List V)(H:Hp)(Q:VK)(E:XK):Prop
 |mk(t:Addr)(bs:List Addr)(m:List (List Int))(n:Nat)(b:Addr)(x:Nat->Int)(_:vs=[.ref t,.int (n:Int),.ref b])(_:Tab H t bs m)(_:cu m)(_:Bd 440 m)(_:cC m)(_:(n:Int)∈([3,5,7,11,13]:List Int))(_:aN m/2%(n:Int)≠0)(_:dR H b x)(_:gZ (n:Int) x)(_:aR m x%(n:Int)=0)(_:H T0=some .DH)(_:∀(k:Nat) (F:List (List Int)) (r:Addr) (rs:List Addr) H',aR m (gU n x k)%((n:Int)*n)=0->(∀j,j<k-> ¬aR m (gU n x j)%((n:Int)*n)=0) ->kE m n x (gU n x k) F->(∀B,aN B=1->kE m n x (gU n x k) (iR B F)) ->av H H'->H r=none->Tab H' r rs F->cu F->Ent F (vh 2) ->Q (.ref r) H')
theorem Dd{bP:Addr}(F:fK K mg "_law_step" qY kB)(rB:cZ P w K mg base c8 6 "_law_lift" ku Jp)(nU:cZ P w K mg base c8 6 "_law_across" iW UE)(nV:cZ P w K mg base c8 6 "_law_stairs" iX (Fo bP)):cZ P w K mg base c8 7 "_law_step" kB (JK bP):=by
 refine F.ok uR (λvs H Q E h=> ?_) (λf cdv A outer s H vs Q E hr h=> ?_)
 ·obtain⟨t,bs,m,n,b,x,rfl,hT,dD,hB,ev,hp,hd,hx,L,hc,hC,q⟩:=h
  rfl
 obtain⟨t,bs,m,n,b,x,rfl,hT,dD,hB,ev,hp,hd,hx,L,hc,hC,q⟩:=h
 have hu:=hr.units
 refine⟨_,(mS (@ay _ _ _ _ _ (aW (i:=3) uR.nd rfl (Or.inl rfl) (aQ rB hr rfl aU (ah (pv 0) (ah (pv 1) (ah (pv 2) ao)))))
  (@aI _ _ _ (bA (aQ nV hr rfl aU (ah (aB yk (gD (ah (pv 3) ao)) (gT (N2:=["_law_form_here","_law_p","_law_line","_law_up"]) (te:=(oB 1 (DJ K (aY 0)) (dX 0) (fY (rI mW λi j=> .int (i*j)) (aY 3) (aY 0)))) rfl (di (aQ nU hr rfl aU (ah (pv 0) (ah (pv 1) (ah (pv 3) ao))))) (by kernel_rfl) rfl (λ_ _ _=>by exact fJ (gT (N2:=["_law_row","_law_form_here","_law_p","_law_line","_law_up"]) (te:=(fY (rI mW λi j=> .int (i*j)) (aY 3) (aY 0))) rfl (di (pv 0)) (by kernel_rfl) rfl (λ_ _ _=>by exact fJ (aB bX (pv 3) (pv 0))))))) ao)))))),?_⟩
 have p0:2<n/\n<14:=by
  simp only[List.mem_cons,List.not_mem_nil,or_false]at hp
  omega
 have bx:∀i,i<3->(x i).natAbs<2^100:=λi hi=>aX (a:=4) (by have:=L.lo i hi;have:=L.hi i hi;omega) (by decide)
 obtain⟨i0,t0,F0⟩:=Jl ev hp hd L
 obtain⟨g1,g2,g3,g4⟩:=yM ev hp hc F0
 obtain⟨l,hl,li,one,l0⟩:=zh ev L hc F0
 obtain⟨o,ho,sum⟩:∃o,o<3/\i0+l+o=3:=⟨3-i0-l,by have:=F0.hi;omega,by have:=F0.hi;omega⟩
 have hi0:=F0.hi
 obtain⟨St⟩:Nonempty (rf m (n:Int) x i0 l o (t0:Int) (((1+((pI hp F0.sl).choose:Int))* -(aD m x o))%(n:Int))):=by
  have np:(0:Int)<n:=by omega
  have hv:=(pI hp F0.sl).choose_spec.2
  generalize((pI hp F0.sl).choose:Int)=v at hv ⊢
  refine⟨⟨F0,L,hc,?_,hl,ho,sum,li,by omega,by omega,one,Int.emod_nonneg _ (by omega),Int.emod_lt_of_pos _ np,?_⟩⟩
  ·rw[<-NI ev g2]
   exact g3
  ·obtain⟨k1,h1⟩:=gY (show(1+v)*aD m x i0%(n:Int)=1%(n:Int)by rw[hv];exact(bL (by decide) (by omega)).symm)
   have e:=Int.emod_add_mul_ediv ((1+v)* -(aD m x o)) (n:Int)
   generalize((1+v)* -(aD m x o))%(n:Int)=w at e ⊢
   generalize((1+v)* -(aD m x o))/(n:Int)=z at e
   have e3:w=(1+v)* -(aD m x o) -n*z:=by omega
   refine Int.emod_eq_zero_of_dvd ⟨-(aD m x o*k1) -z*aD m x i0,?_⟩
   rw[e3]
   have e4:aD m x o+((1+v)* -(aD m x o) -n*z)*aD m x i0=aD m x o-aD m x o*((1+v)*aD m x i0) -n*(z*aD m x i0):=by grind
   rw[e4,h1]
   grind
 generalize(((1+((pI hp F0.sl).choose:Int))* -(aD m x o))%(n:Int))=c at St
 refine⟨_,rfl,_,rfl,_,rfl,t,bs,m,n,b,x,rfl,hT,dD,hB,by omega,p0.2,hx,(λi hi=>aX (bx i hi) (by decide)),⟨_,g1,g3⟩,λk U H1 hk ck fk s1 fU eU=> ?_⟩
 have ek:jh n i0 t0=k:=EB (P:=λk=>aR m (gU n x k)%((n:Int)*n)=0) g3 g4 ck fk
 subst ek
 have bv:∀i,i<3->(gU n x (jh n i0 t0) i).natAbs<2^8:=λi hi=>by
  rw[g2 i hi]
  have h1:=L.lo i hi
  have h2:=L.hi i hi
  have c1:((t0:Int)*n).natAbs<2^(4+4):=fE (by have:=F0.up;omega) (by omega)
  unfold cH
  split
  ·have h3:=F0.up
   have h4:(t0:Int)*n<=12*13:=by
    have:t0*n<=12*13:=Nat.mul_le_mul (by omega) (by omega)
    exact_mod_cast this
   have h5:0<=(t0:Int)*n:=Int.mul_nonneg (by omega) (by omega)
   omega
  ·omega
 have sl:∀j,aD m (gU n x (jh n i0 t0)) j%(n:Int)=aD m x j%(n:Int):=λj=>j6 (λi hi=>by rw[g2 i hi];exact pq _ _ _ _ _) j
 refine⟨_,rfl,(by show 1<=sizeLine;decide),λA hA=> ?_⟩
 have uA:=av.up (o:= .lst [.ref U]) hA
 have s1A:=s1.trans uA
 refine⟨_,rfl,_,rfl,_,rfl,t,bs,m,n,U,_,rfl,hT.same s1A,dD,hB,hp,uA _ _ eU,(λi hi=>aX (bv i hi) (by decide)),(by rw[sl,sl,sl];exact uM ev hp hd L),λq0 u r rs H2 LH hu s2 fr Tr=> ?_⟩
 have eW:(λk=>aD m (gU n x (jh n i0 t0)) k%(n:Int)*u%(n:Int))=λk=>aD m x k%(n:Int)*u%(n:Int):=by
  funext k
  rw[sl]
 rw[eW]at Tr
 rw[sl]at hu
 generalize hw:(λk=>aD m x k%(n:Int)*u%(n:Int))=w at Tr
 have w0:∀k,0<=w k/\w k<n:=λk=>by rw[<-hw];exact⟨Int.emod_nonneg _ (by omega),Int.emod_lt_of_pos _ (by omega)⟩
 have l3:(rs.map V.ref).length=3:=by rw[List.length_map,<-Tr.2.length];rfl
 have sA2:=s1A.trans s2
 have eA:=s2 _ _ (aq (H:=H1) (a:=A) (o:= .lst [.ref U]))
 refine⟨r,rfl,⟨_,aV.of Tr.1⟩,λD hD=>yD (dM (aV.of Tr.1)) l3 hD (λi j=>(n:Int)*um n q0 w i j) (λi y hi ey H3 Q3 s3 k3=> ?_) (λds H3 s3 fd nD nn TD=> ?_)⟩
 ·obtain⟨b1,e1,e2,_⟩:=bJ (Tr.same s3) (bH _) hi
  have Wa:y= .ref b1:=by
   have q1:=iG ey
   rw[e1]at q1
   exact(Option.some.inj q1).symm
  subst Wa
  refine⟨_,rfl,b1,rfl,⟨_,aV.of e2⟩,λD2 Ag=>gE (dM (aV.of e2)) rfl Ag (λj=>(n:Int)*um n q0 w i j) (λj z hj ez H4 Q4 s4 k4=> ?_) (λH4 s4 e4=>k3 D2 H4 Ag s4 e4)⟩
  have ez':z= .int (um n q0 w i j):=by
   have e5:ent (mk3 λk j=>um n q0 w k j) i j=um n q0 w i j:=bQ _ hi hj
   rw[<-e5]
   rcases aG hj with rfl|rfl|rfl<;>exact(Option.some.inj ez).symm
  subst ez'
  have c13:(um n q0 w i j).natAbs<2^4:=by
   have:=w0 i
   unfold um
   split
   ·split<;>omega
   ·split
    ·omega
    ·split<;>omega
  exact⟨_,rfl,_,rfl,_,_,rfl,rfl,⟨aX (a:=4) (by omega) (by decide),aX c13 (by decide)⟩,k4 H4 (av.refl _)⟩
 refine⟨A,D,_,_,rfl,rfl,s3 _ _ eA,TD.1,(by rw[List.length_map,<-TD.2.length];show 1+3<=sizeLine;decide),λp4 hp4=> ?_⟩
 have u4:=av.up (o:= .lst ([V.ref U]++ds.map V.ref)) hp4
 have Ah:=sA2.trans (s3.trans u4)
 have bsi:=LS ev St hp LH hu hw g2
 have nd:aN (stepT n x i0 o t0 c)≠0:=by
  have:0<(n:Int)*n*n:=Int.mul_pos (Int.mul_pos (by omega) (by omega)) (by omega)
  rcases zj St with z|z<;>rw[z]<;>omega
 refine⟨p4,U::ds,AG n q0 w (gU n x (jh n i0 t0)),_,rfl,PV aq (u4 _ _ (s3 _ _ (s2 _ _ (uA _ _ eU)))) (TD.same u4),(Fd _ _ _ _).2,(Fd _ _ _ _).1,Tz ⟨by omega,by omega⟩ w0 bv,bsi,nd,Ah _ _ hC,λF fs L' H5 s5 fL TF cF spF eF=> ?_⟩
 have mk:=λB (hB:aN B=1)=>LQ ev St hp ck fk cF spF bsi hB
 exact q _ F L' fs H5 ck fk (mk (mk3 λi j=>if i=j then 1 else 0) (by decide)).1 (λB hB=>(mk B hB).2) (Ah.trans s5) (Ah.none fL) TF cF eF
theorem Ua{H:Hp}{B T:Addr}(hb:iN H B)(h:H T=some .DH):T≠B:=λz=>by
 obtain⟨g,s,e,_,_⟩:=hb
 rw[z,e]at h
 cases h
inductive Fp(T0:Addr)(vs:List V)(H:Hp)(Q:VK)(E:XK):Prop
 |mk(B t:Addr)(bs:List Addr)(m:List (List Int))(n:Nat)(A:Addr)(ls:List Addr)(F:List (List Int))(b:Addr)(x:Nat->Int)(_:vs=[.ref B,.ref t,.int (n:Int),.ref A,.ref b])(_:iN H B)(_:Tab H A ls F)(_:A≠B)(_:B∉ls)(_:(eX n (n*n)).filter (λr=>decide (aR m (az r)%(n:Int)=0))=F)(_:F.length=n+1)(_:(n:Int)∈([3,5,7,11,13]:List Int))(_:Tab H t bs m)(_:t≠B)(_:B∉bs)(_:cu m)(_:Bd 440 m)(_:cC m)(_:aN m/2%(n:Int)≠0)(_:dR H b x)(_:gZ (n:Int) x)(_:aR m x%(n:Int)=0)(_:H T0=some .DH)(_:∀w ws W H',SB B H H'->Tab H' w ws W->cu W->Bd 330 W->(∀(i:Nat) (tm:Int),pK m (n:Int) x i tm-> ¬kE m n x (cH (n:Int) x i tm) W) ->Q (.ref w) H')
theorem xM{bP:Addr}(F:fK K mg "_law_no_step" mz iu)(fO:mg "len"=none)(aF:cZ P w K mg base c8 7 "_law_take" cU kP)(rC:cZ P w K mg base c8 7 "_law_step" kB (JK bP)):cZ P w K mg base c8 8 "_law_no_step" iu (Fp bP):=by
 refine F.ok kO (λvs H Q E h=> ?_) (λf cdv A outer s H vs Q E hr h=> ?_)
 ·obtain⟨B,t,bs,m,n,A,ls,F,b,x,rfl,hb,TS,nA,JI,eF,cL,hp,hT,CC,xw,dD,hB,ev,hd,hx,L,hc,hC,q⟩:=h
  rfl
 obtain⟨B,t,bs,m,n,A,ls,F,b,x,rfl,hb,TS,nA,JI,eF,cL,hp,hT,CC,xw,dD,hB,ev,hd,hx,L,hc,hC,q⟩:=h
 have hu:=hr.units
 refine⟨_,(mS (@ay _ _ _ _ _ (mX (i:=5) kO.nd rfl rfl (N2:=["_law_bag_here","_law_form_here","_law_p","_law_some","_law_line","_law_others","_law_way"]) (tt:=(lA (fY (Ks K true) (aY 0) (aY 5)))) (te:=(aY 0)) rfl (di (pv 3)) (by kernel_rfl) rfl (λ_ _ _=>by exact tu (bB (Vu hu) (pv 0) (pv 5) (bg _))) (λ_ _ _=>by exact fJ (pv 0)))
  (@ay _ _ _ _ _ (aW (i:=6) kO.nd rfl (Or.inl rfl) (aQ aF hr rfl aU (ah (pv 0) (ah ak ao))))
  (@ay _ _ _ _ _ (bI (bB fF (pv 6) ak (bg _)) (Ce (bN (au (bN (au aL (au aL (au aL bK (by kernel_rfl)) (by kernel_rfl)) (by kernel_rfl))) (au (bN (au aL (au aL (au aL bK (by kernel_rfl)) (by kernel_rfl)) (by kernel_rfl))) (au (bN (au aL (au aL (au aL bK (by kernel_rfl)) (by kernel_rfl)) (by kernel_rfl))) bK (by kernel_rfl)) (by kernel_rfl)) (by kernel_rfl)))) cy)
  (@ay _ _ _ _ _ (bI (bB fF (pv 6) ak (bg _)) (Ce (bN (au (bN (au aL (au aL (au aL bK (by kernel_rfl)) (by kernel_rfl)) (by kernel_rfl))) (au (bN (au aL (au (fe (pv 2)) (au aL bK (by kernel_rfl)) (by kernel_rfl)) (by kernel_rfl))) (au (bN (au aL (au aL (au (fe (aB b7 (pv 2) ak)) bK (by kernel_rfl)) (by kernel_rfl)) (by kernel_rfl))) bK (by kernel_rfl)) (by kernel_rfl)) (by kernel_rfl)))) cy)
  (@aI _ _ _ (bA (aQ rC hr rfl aU (ah (pv 1) (ah (pv 2) (ah (aJ aA (pv 5) (aQ aF hr rfl aU (ah (pv 0) (ah (bV dJ rfl fO PySem.boot_len (ah (pv 5) ao)) ao))) (λ_ _=>rfl)) ao))))))))))),?_⟩
 have p0:2<n/\n<14:=by
  simp only[List.mem_cons,List.not_mem_nil,or_false]at hp
  omega
 have hq:n∈([3,5,7,11,13]:List Nat):=by
  simp only[List.mem_cons,List.not_mem_nil,or_false]at hp ⊢
  omega
 have nn:n*n<=169:=Nat.mul_le_mul (show n<=13 by omega) (show n<=13 by omega)
 have ll:(ls.map V.ref).length=n+1:=by rw[List.length_map,<-cL];exact TS.2.length.symm
 have hF:∀r∈F,r∈eX n (n*n)/\aR m (az r)%(n:Int)=0:=λr hr=>by
  rw[<-eF,List.mem_filter]at hr
  exact⟨hr.1,of_decide_eq_true hr.2⟩
 have mem:∀c∈ls,∃r,r∈F/\H c=some (.lst [.int (az r 0),.int (az r 1),.int (az r 2)])/\r=[az r 0,az r 1,az r 2]:=λc hc=>by
  obtain⟨r,hr,e⟩:=qK TS.2 hc
  obtain⟨e3,_⟩:=jU (by omega) nn (hF r hr).1
  refine⟨r,hr,?_,e3⟩
  rw[e]
  conv=>lhs;rw[e3]
  rfl
 refine⟨_,rfl,A,rfl,⟨_,aV.of TS.1⟩,λD hD=>dj (dM (aV.of TS.1)) (by rw[ll];exact Nat.le_of_lt (iF (by omega))) hD (λv=>match v with| .ref c=>(match H c with|some (.lst [.int r0,.int r1,.int r2])=> !decide (([r0,r1,r2]:List Int)=[x 0,x 1,x 2])|_=>false)|_=>false) id (λy hy H4 R4 s4 kk=> ?_) (λy hy py H4 Q' s4 kk=>⟨_,rfl,kk H4 (av.refl _)⟩) (λH1 s1 e1=> ?_)⟩
 ·obtain⟨c,rfl,hc⟩:=jy hy
  obtain⟨r,hr,e,er⟩:=mem c hc
  have kk:=kk H4 (av.refl _)
  simp only[e]at kk
  exact⟨_,rfl,_,rfl,VS (xs:=[az r 0,az r 1,az r 2]) (ys:=[x 0,x 1,x 2]) (aV.of (s4 _ _ e)) (aV.of (s4 _ _ hx)) ⟨_,rfl,kk⟩⟩
 obtain⟨os,eo,io,pr⟩:=mY (pf:=(λv=>match v with| .ref c=>(match H c with|some (.lst [.int r0,.int r1,.int r2])=> !decide (([r0,r1,r2]:List Int)=[x 0,x 1,x 2])|_=>false)|_=>false)) (g:=(λr=> !decide (r=[x 0,x 1,x 2]))) TS.2 (λrow c hm e=>by
  obtain⟨er,_⟩:=jU (by omega) nn (hF row hm).1
  have e':H c=some (.lst [.int (az row 0),.int (az row 1),.int (az row 2)]):=by
   rw[e]
   conv=>lhs;rw[er]
   rfl
  simp only[e',<-er])
 have TO:Tab H1 D os (F.filter (λr=> !decide (r=[x 0,x 1,x 2]))):=⟨by rw[e1,List.map_id,eo],pr.xC λr c hc e=>s1 _ _ e⟩
 have off:∀r∈F.filter (λr=> !decide (r=[x 0,x 1,x 2])),r∈F/\r≠ [x 0,x 1,x 2]:=λr hr=>by
  obtain⟨h1,h2⟩:=List.mem_filter.mp hr
  refine⟨h1,λz=> ?_⟩
  rw[z]at h2
  simp at h2
 have Qh:0<(F.filter (λr=> !decide (r=[x 0,x 1,x 2]))).length:=List.length_pos_iff.mpr λz=>by
  rw[List.filter_eq_nil_iff]at z
  have al:∀r∈F,r=[x 0,x 1,x 2]:=λr hr=>by
   have:=z r hr
   simpa using this
  have nd:F.Nodup:=by rw[<-eF];exact List.Nodup.sublist List.filter_sublist (Fg hq)
  match F,cL,al,nd with
  | [],h,_,_=>exact absurd h (by simp)
  | [a],h,_,_=>simp at h;omega
  |a::b::r,_,al,nd=>
   have e1:=al a (by simp)
   have e2:=al b (by simp)
   rw[e1,e2]at nd
   simp at nd
 have few:(F.filter (λr=> !decide (r=[x 0,x 1,x 2]))).length<=200:=Nat.le_trans (List.length_filter_le _ _) (by omega)
 generalize F.filter (λr=> !decide (r=[x 0,x 1,x 2]))=O at TO off Qh few
 have lo:(os.map V.ref).length=O.length:=by rw[List.length_map];exact TO.2.length.symm
 have Yv:=SB.of hb s1
 have nD:D≠B:=hb.ne hD
 have Wj:B∉os:=λz=>JI (io B z)
 refine⟨_,rfl,B,_,rfl,Yv.2,by decide,by decide,λway H2 w0 w1 s2=> ?_⟩
 have s12:=Yv.trans s2
 refine⟨_,rfl,rfl,_,rfl,g9 (λc=> ?_) (λc=> ?_)⟩
 ·refine⟨(by show 3<=sizeLine;decide),λz0 g0=>⟨(by show 3<=sizeLine;decide),λz1 g1=>⟨(by show 3<=sizeLine;decide),λz2 g2=>⟨(by show 3<=sizeLine;decide),λP hP=> ?_⟩⟩⟩⟩
  have v0:=av.up (o:= .lst [.int 0,.int 0,.int 0]) g0
  have v1:=av.up (o:= .lst [.int 0,.int 0,.int 0]) g1
  have v2:=av.up (o:= .lst [.int 0,.int 0,.int 0]) g2
  have v3:=av.up (o:= .lst [.ref z0,.ref z1,.ref z2]) hP
  have vv:=v0.trans (v1.trans (v2.trans v3))
  have T:Tab _ P [z0,z1,z2] (mk3 λi j=>(0:Int)):=gk _ aq (v3 _ _ (v2 _ _ (v1 _ _ aq))) (v3 _ _ (v2 _ _ aq)) (v3 _ _ aq)
  have np:(0:Int)<(n:Int)*n*n:=Int.mul_pos (Int.mul_pos (by omega) (by omega)) (by omega)
  have d0:aN (mk3 λi j=>(0:Int))=0:=by decide
  exact q P _ _ _ (s12.trans (SB.of s12.2 vv)) T (bH _) (λi j hi hj=>by rw[bQ _ hi hj];exact aX (a:=4) (by decide) (by decide)) λi tm _=>xy (by rw[d0];omega) (by rw[d0];omega)
 refine⟨_,rfl,rfl,_,rfl,g9 (λc=> ?_) (λc=> ?_)⟩
 ·refine⟨(by show 3<=sizeLine;decide),λz0 g0=>⟨_,rfl,(by show 3<=sizeLine;decide),λz1 g1=>⟨_,rfl,_,_,rfl,rfl,(by show 3<=sizeLine;decide),λz2 g2=>⟨(by show 3<=sizeLine;decide),λP hP=> ?_⟩⟩⟩⟩
  have v0:=av.up (o:= .lst [.int 1,.int 0,.int 0]) g0
  have v1:=av.up (o:= .lst [.int 0,.int (n:Int),.int 0]) g1
  have v2:=av.up (o:= .lst [.int 0,.int 0,.int ((n:Int)+1)]) g2
  have v3:=av.up (o:= .lst [.ref z0,.ref z1,.ref z2]) hP
  have vv:=v0.trans (v1.trans (v2.trans v3))
  have T:Tab _ P [z0,z1,z2] (mk3 λi j=>if i=j then(if i=0 then 1 else if i=1 then(n:Int)else(n:Int)+1)else 0):=gk _ aq (v3 _ _ (v2 _ _ (v1 _ _ aq))) (v3 _ _ (v2 _ _ aq)) (v3 _ _ aq)
  have d0:aN (mk3 λi j=>if i=j then(if i=0 then 1 else if i=1 then(n:Int)else(n:Int)+1)else 0)=(n:Int)*(n+1):=by
   rw[cN]
   show(1:Int)*((n:Int)*(n+1) -0*0)+0*(0*0-0*((n:Int)+1))+0*(0*0- (n:Int)*0)=_
   grind
  have Ph:(n:Int)*(n+1)≠(n:Int)*n*n/\(n:Int)*(n+1)≠ -((n:Int)*n*n):=by
   simp only[List.mem_cons,List.not_mem_nil,or_false]at hp
   rcases hp with z|z|z|z|z<;>rw[z]<;>decide
  exact q P _ _ _ (s12.trans (SB.of s12.2 vv)) T (bH _) (λi j hi hj=>by rw[bQ _ hi hj];refine aX (a:=4) ?_ (by decide);split;split;decide;split<;>omega;decide) λi tm _=>xy (by rw[d0];exact Ph.1) (by rw[d0];exact Ph.2)
 have TO2:=TO.sb s2 nD Wj
 refine⟨_,rfl,_,rfl,_,rfl,_,rfl,_,rfl,D,_,rfl,.inl (aV.of TO2.1),B,_,rfl,s12.2,(by rw[lo];omega),log2_small (by rw[lo];omega) (by rw[lo];omega),λkc H3 kc0 kc1 s3=> ?_⟩
 have TO3:=TO2.sb s3 nD Wj
 obtain⟨vc,hvc,Wm⟩:=nq (xs:=os.map V.ref) (k:=kc) kc0 kc1
 obtain⟨c,rfl,Zo⟩:=jy (List.mem_of_getElem? Wm)
 obtain⟨rc,Ys,erc⟩:=qK TO3.2 Zo
 have hcF:=hF rc (off rc Ys).1
 obtain⟨Zp,L1⟩:=tD (show 1<n by omega) hcF.1
 have ec:H3 c=some (.lst [.int (az rc 0),.int (az rc 1),.int (az rc 2)]):=by
  rw[erc]
  conv=>lhs;rw[Zp]
  rfl
 have qy:=s12.trans s3
 refine⟨D,_,_,_,rfl,rfl,aV.of TO3.1,hvc,t,bs,m,n,c,az rc,rfl,hT.sb qy CC xw,dD,hB,ev,hp,hd,ec,L1,hcF.2,qy.1 _ _ (Ua hb hC) hC,λk S u us H4 ck fk st1 _ s4 fu TSt cS eS=> ?_⟩
 refine q u us S H4 (qy.trans (SB.of qy.2 s4)) TSt cS ((Wi (k:=160) cS eS (by decide+kernel)).mono (by decide)) λi tm Fi st=>(off rc Ys).2 ?_
 have same:=LV ev hp hd L L1 (up:=cH (n:Int) x i tm) (λj _=>pq _ _ _ _ _) st st1
 rw[Zp,<-same 0 (by decide),<-same 1 (by decide),<-same 2 (by decide)]
end
end CB
namespace L2
open PySem PySem.Spec PyProof.Rows
theorem Wo{H:Hp}{B t:Addr}{bs:List Addr}{m:List (List Int)}(hb:iN H B)(T:Tab H t bs m)(h0:0<m.length)(h3:∀r∈m,r.length=3):t≠B/\B∉bs:=by
 obtain⟨g,s,e,_,_⟩:=hb
 refine⟨λz=> ?_,λz=> ?_⟩
 ·have h:=T.1
  rw[z,e]at h
  have l:=T.2.length
  cases bs with
  |nil=>
   cases m with
   |nil=>exact absurd h0 (by decide)
   |cons r m=>cases T.2
  |cons b bs=>cases h
 ·obtain⟨ok,_⟩:=yb T h3
  have h:=(ok B z).1
  rw[e]at h
  cases h
theorem HU(m:List (List Int))(r:List Int)(S:List (List Int)):SeqAt.shaped (.tuple [qH m,jN r,qH S])=true:=by
 have h1:=pD m
 have h3:=pD S
 have h2:PyData.depthAll (r.map PyData.int)<=0:=by
  induction r with
  |nil=>exact Nat.le_refl _
  |cons a r ih=>simp only[List.map_cons,PyData.depthAll,PyData.depth];omega
 simp only[SeqAt.shaped,PyData.canLay0,PyData.canLayAll0,PyData.depth,PyData.depthAll,qI,PySem.W.ke_canLayAll0,Bool.true_and,decide_eq_true_eq]
 exact decide_eq_true (show _<=64 by omega)
theorem UG{K:PySem.W.Frag}{H:Hp}{p t b r:Addr}{bs rs:List Addr}{m S:List (List Int)}{x:List Int}(e:H p=some (.tup [.ref t,.ref b,.ref r]))(h1:Tab H t bs m)(h2:H b=some (.lst (x.map V.int)))(h3:Tab H r rs S):DY K H (.ref p) (.tuple [qH m,jN x,qH S]):=
 .tup (qA.of e) (.cons (IZ h1) (.cons (tE (aV.of h2)) (.cons (IZ h3) .nil)))
end L2
set_option maxHeartbeats 1000000
namespace CB
open PySem L2
section
variable{P:Program}{w:World}{K:PySem.W.Frag}{mg:Str->Option Value}{base:Heap}
def JL(K:PySem.W.Frag)(tabs je:List Addr):Sp:=λvs H Q _=> ∃(a:Addr)(ns:List Int),vs=[.ref a]/\aV K H a (ns.map V.int)/\ns.length<=63/\(∀T∈tabs,H T=some (cj T))/\(∀T∈je,H T=some .DH)/\ ∀H',av H H'->Q (.bl true) H'
theorem Wq{f:Addr}{fd:FuncData}{bP aS aM aE aO cY bD cM bO:Addr}{tabs je:List Addr}(zE:bP∈je)(pA:aS∈tabs)(kF:aM∈tabs)(gB:aE∈tabs)(mF:aO∈tabs)(pB:cY∈tabs)(iY:bD∈tabs)(mG:cM∈tabs)(iB:bO∈tabs)(F:Kf K "law" "law" uU f fd)(bw:mg "range"=none)(fO:mg "len"=none)(gf:mg "list"=none)(tV:cZ P w K mg base c8 14 "_law_bag" mh (UA K))(rD:cZ P w K mg base c8 14 "_law_form" kr Jo)(p8:cZ P w K mg base c8 14 "_law_prime" jE EM)(p9:cZ P w K mg base c8 14 "_law_lines" jF EN)(aF:cZ P w K mg base c8 14 "_law_take" cU kP)(mH:cZ P w K mg base c8 14 "_law_no_step" iu (Fp bP))(jJ:cZ P w K mg base c8 14 "_law_great_form" gb Jy)(kU:cZ P w K mg base c8 14 "_law_odd_line" gO BF)(iC:cZ P w K mg base c8 14 "_law_told" kC (Qc aS aM aE aO cY bD cM bO))(kX:cZ P w K mg base c8 14 "_law_odd_form" gM By)(gC:cZ P w K mg base c8 14 "_law_odd_prime" gz zg)(iy:cZ P w K mg base c8 14 "_law_copy" jm Hu):qD P w K mg base c8 15 f fd ["_law_script"] (JL K tabs je):=by
 refine F.ok mC (λvs H Q E h=> ?_) (λcdv A outer s H vs Q E hr h=> ?_)
 ·obtain⟨a,ns,rfl,hS,h63,hT,hC,q⟩:=h
  rfl
 obtain⟨a,ns,rfl,hS,h63,hT,hC,q⟩:=h
 have hu:=hr.units
 refine⟨_,(mS (@ay _ _ _ _ _ (aW (i:=1) mC.nd rfl (Or.inl rfl) (aQ tV hr rfl aU (ah (pv 0) (ah ak ao))))
  (@ay _ _ _ _ _ (aW (i:=2) mC.nd rfl (Or.inl rfl) (aQ rD hr rfl aU (ah (pv 1) (ah ak ao))))
  (@ay _ _ _ _ _ (aW (i:=3) mC.nd rfl (Or.inl rfl) (aQ p8 hr rfl aU (ah (pv 1) (ah (pv 2) ao))))
  (@ay _ _ _ _ _ (aW (i:=4) mC.nd rfl (Or.inl rfl) (aQ p9 hr rfl aU (ah (pv 2) (ah (pv 3) ao))))
  (@ay _ _ _ _ _ (aW (i:=5) mC.nd rfl (Or.inl rfl) (aJ aA (pv 4) (aQ aF hr rfl aU (ah (pv 1) (ah (bV dJ rfl fO PySem.boot_len (ah (pv 4) ao)) ao))) (λ_ _=>rfl)))
  (@ay _ _ _ _ _ (aW (i:=6) mC.nd rfl (Or.inl rfl) (aQ mH hr rfl aU (ah (pv 1) (ah (pv 2) (ah (pv 3) (ah (pv 4) (ah (pv 5) ao)))))))
  (@ay _ _ _ _ _ (aW (i:=7) mC.nd rfl (Or.inl rfl) (aQ jJ hr rfl aU (ah (pv 1) (ah ak ao))))
  (@ay _ _ _ _ _ (lR PassesOwn.never rfl (b8 rfl bw (ah ak ao)) (cD (i:=8) mC.nd rfl (Or.inl rfl)) (mS (@ay _ _ _ _ _ (aW (i:=9) mC.nd rfl (Or.inl rfl) (aQ kU hr rfl aU (ah (pv 1) (ah (pv 3) (ah (pv 4) ao)))))
  (@ay _ _ _ _ _ (bI (bB ly (aQ iC hr rfl aU (ah (pv 8) (ah (aQ kX hr rfl aU (ah (pv 1) (ah (pv 2) ao))) (ah (aQ gC hr rfl aU (ah (pv 1) (ah (pv 2) ao))) (ah (pv 9) (ah (pv 6) ao)))))) gm (bg _)) (@aI _ _ _ (bA sH)) cy)
  (@ay _ _ _ _ _ (bI (bB ly (aQ iC hr rfl aU (ah (pv 8) (ah (pv 7) (ah (aQ gC hr rfl aU (ah (pv 1) (ah (pv 2) ao))) (ah (pv 9) (ah (pv 6) ao)))))) gm (bg _)) (@aI _ _ _ (bA sH)) cy)
  (@ay _ _ _ _ _ (bI (bB ly (aQ iC hr rfl aU (ah (pv 8) (ah (pv 2) (ah (aQ gC hr rfl aU (ah (pv 1) (ah (pv 2) ao))) (ah (pv 9) (ah (pv 6) ao)))))) gm (bg _)) (@aI _ _ _ (bA sH)) cy)
  (@aI _ _ _ (bI (bB ly (aQ iC hr rfl aU (ah (pv 8) (ah (pv 2) (ah (pv 3) (ah (pv 9) (ah (pv 6) ao)))))) gm (bg _)) (@aI _ _ _ (bA sH)) cy))))))))
  (@ay _ _ _ _ _ (aW (i:=10) mC.nd rfl (Or.inl rfl) (sS (ah (aQ iy hr rfl aU (ah (pv 2) ao)) (ah (fQ jx rfl gf PyProof.Rows.boot_list (ah (pv 5) ao)) (ah (aQ iy hr rfl aU (ah (pv 6) ao)) ao)))))
  (@aI _ _ _ (bA (qz (fZ fF (aQ iC hr rfl aU (ah ak (ah (aJ Gk (pv 10) ak (λ_ _=>rfl)) (ah (pv 3) (ah (aJ Gk (pv 10) ak (λ_ _=>rfl)) (ah (aJ Gk (pv 10) ak (λ_ _=>rfl)) ao)))))) gm (bg _)) (sR (fZ (Gu hu) (pv 10) (sS (ah (pv 2) (ah (pv 5) (ah (pv 6) ao)))) (bg _)))))))))))))))),?_⟩
 refine⟨_,rfl,a,ns,_,rfl,hS,h63,by decide,by decide,λB H1 s1 fB hb=> ?_⟩
 have fin:∀H',SB B H1 H'->av H H':=λH' s b o e=>s.1 b o (λz=>by rw[z,fB]at e;cases e) (s1 b o e)
 refine⟨_,rfl,B,_,rfl,hb,by decide,by decide,λm t bs H2 lN dm ev ab le s2 ft fb nt nn T=> ?_⟩
 have CC:t≠B:=hb.ne ft
 have xw:B∉bs:=λz=>hb.ne (fb B z) rfl
 have d4:Bd 440 m:=dm.mono (by decide)
 refine⟨_,rfl,_,rfl,B,t,bs,m,rfl,s2.2,T,lN,d4,ev,ab,le,λp H3 hp hd s3=> ?_⟩
 have T3:=T.sb s3 CC xw
 have p0:2<p/\p<14:=by
  simp only[List.mem_cons,List.not_mem_nil,or_false]at hp
  omega
 refine⟨_,rfl,_,rfl,t,bs,m,p,rfl,T3,lN,d4,ev,by omega,by omega,λS ls H4 s4 fS fls nSl TS=> ?_⟩
 obtain⟨n,rfl⟩:∃n:Nat,p=(n:Int):=⟨p.toNat,by omega⟩
 have hq:n∈([3,5,7,11,13]:List Nat):=by
  simp only[List.mem_cons,List.not_mem_nil,or_false]at hp ⊢
  omega
 rw[Int.toNat_natCast]at TS
 have cL:=GZ ev hq hd
 have hL:∀r∈(eX n (n*n)).filter λr=>decide (aR m (az r)%(n:Int)=0),r∈eX n (n*n)/\aR m (az r)%(n:Int)=0:=λr hr=>by
  rw[List.mem_filter]at hr
  exact⟨hr.1,of_decide_eq_true hr.2⟩
 obtain⟨F,eF⟩:∃F,(eX n (n*n)).filter (λr=>decide (aR m (az r)%(n:Int)=0))=F:=⟨_,rfl⟩
 rw[eF]at TS cL hL
 have s34:=SB.of s3.2 s4
 have T4:=T3.same s4
 have nS:S≠B:=s3.2.ne fS
 have JI:B∉ls:=λz=>s3.2.ne (fls B z) rfl
 have Ah:=(s2.trans s3).trans s34
 have ll:(ls.map V.ref).length=F.length:=by rw[List.length_map];exact TS.2.length.symm
 refine⟨_,rfl,_,rfl,_,rfl,S,_,rfl,.inl (aV.of TS.1),B,_,rfl,s34.2,(by rw[ll];omega),log2_small (by rw[ll];omega) (by rw[ll];omega),λd2 H5 d3 d4' s5=> ?_⟩
 have Wl:=TS.sb s5 nS JI
 obtain⟨v,hv,hv2⟩:=nq (xs:=ls.map V.ref) (k:=d2) d3 d4'
 obtain⟨b,rfl,hbm⟩:=jy (List.mem_of_getElem? hv2)
 obtain⟨r,hr,er⟩:=qK Wl.2 hbm
 obtain⟨e3,L1⟩:=tD (show 1<n by omega) (hL r hr).1
 have hc:=(hL r hr).2
 have eb:H5 b=some (.lst [.int (az r 0),.int (az r 1),.int (az r 2)]):=by
  rw[er]
  conv=>lhs;rw[e3]
  rfl
 refine⟨S,_,_,_,rfl,rfl,aV.of Wl.1,hv,?_⟩
 have T5:=T4.sb s5 CC xw
 have Az:=Ah.trans s5
 have nb:b≠B:=λz=>JI (by rw[<-z];exact hbm)
 refine⟨_,rfl,_,rfl,_,rfl,_,rfl,_,rfl,B,t,bs,m,n,S,ls,F,b,az r,rfl,s5.2,Wl,nS,JI,eF,cL,hp,T5,CC,xw,lN,d4,ev,hd,eb,L1,hc,(fin _ Az) _ _ (hC _ zE),λW ws Wt H6 s6 TW cW bW noW=> ?_⟩
 have QV:=Az.trans s6
 have nW:=Wo s6.2 TW (by rw[cW.1];decide) cW.2
 refine⟨_,rfl,B,200,rfl,s6.2,.inr rfl,λmg gv H7 s7 hg gt=> ?_⟩
 have sF:=QV.trans s7
 have T7:=(T5.sb s6 CC xw).sb s7 CC xw
 have TS7:=(Wl.sb s6 nS JI).sb s7 nS JI
 have TW7:=TW.sb s7 nW.1 nW.2
 have eb7:=s7.1 _ _ nb (s6.1 _ _ nb eb)
 have pr:gF (aN m/2) (.int (n:Int))=true:=Bv hp hd
 have F7:jg (hide B H7) (.ref t) m:=⟨t,bs,rfl,oO T7 CC xw,lN,d4,ev,ab⟩
 refine⟨3,rfl,by decide,by decide,gp (n:=3) (λi σ H'=> ∃o8 o9 o10,σ=[some (.ref a),some (.ref B),some (.ref t),some (.int (n:Int)),some (.ref S),some (.ref b),some (.ref W),some gv,o8,o9,o10]/\SB B H7 H') ⟨_,_,_,rfl,SB.refl s7.2⟩ (λi σ Hs hi hh=> ?_) (λσ Hs hh=> ?_)⟩
 ·obtain⟨o8,o9,o10,rfl,sh⟩:=hh
  refine⟨_,rfl,_,rfl,_,rfl,B,S,ls,F,n,m,rfl,sh.2,TS7.sb sh nS JI,nS,JI,eF,cL,hp,λov od Ha sa hod nod=> ?_⟩
  have sa7:=sh.trans sa
  have Ta:=T7.sb sa7 CC xw
  refine⟨_,rfl,_,rfl,_,rfl,B,t,bs,m,rfl,sa7.2,Ta,lN,dm,ev,ab,CC,xw,λw Hb sb hw=> ?_⟩
  have sb7:=sa7.trans sb
  refine⟨_,rfl,_,rfl,B,t,bs,m,rfl,sb7.2,T7.sb sb7 CC xw,lN,d4,λpv pd Hc sc YA ppd=> ?_⟩
  have QY:=sb7.trans sc
  refine⟨_,rfl,_,rfl,_,w,pv,pd,ov,od,.ref W,rfl,YA.same (gx B Hc),(hod.same (sb.trans sc).hide).same (gx B Hc),((fin _ (sF.trans QY))) _ _ (hT _ pA),((fin _ (sF.trans QY))) _ _ (hT _ kF),((fin _ (sF.trans QY))) _ _ (hT _ gB),((fin _ (sF.trans QY))) _ _ (hT _ mF),((fin _ (sF.trans QY))) _ _ (hT _ pB),((fin _ (sF.trans QY))) _ _ (hT _ iY),((fin _ (sF.trans QY))) _ _ (hT _ mG),((fin _ (sF.trans QY))) _ _ (hT _ iB),.inl ⟨(hw.same sc.hide).same (gx B Hc),λHd sd=>⟨rfl,_,rfl,IM rfl ?_⟩⟩⟩
  have bd:=SB.of QY.2 sd
  have sd7:=QY.trans bd
  refine⟨_,rfl,_,rfl,_,rfl,_,rfl,B,t,bs,m,rfl,sd7.2,T7.sb sd7 CC xw,lN,d4,λpv pd He se YA ppd=> ?_⟩
  have Qk:=sd7.trans se
  refine⟨_,rfl,_,rfl,_,gv,pv,pd,ov,od,.ref W,rfl,YA.same (gx B He),(hod.same (sb.trans (sc.trans (bd.trans se))).hide).same (gx B He),((fin _ (sF.trans Qk))) _ _ (hT _ pA),((fin _ (sF.trans Qk))) _ _ (hT _ kF),((fin _ (sF.trans Qk))) _ _ (hT _ gB),((fin _ (sF.trans Qk))) _ _ (hT _ mF),((fin _ (sF.trans Qk))) _ _ (hT _ pB),((fin _ (sF.trans Qk))) _ _ (hT _ iY),((fin _ (sF.trans Qk))) _ _ (hT _ mG),((fin _ (sF.trans Qk))) _ _ (hT _ iB),.inr (.inl ⟨mg,(hg.same Qk.hide).same (gx B He),.inl ⟨gt,λHf sf=>⟨rfl,_,rfl,IM rfl ?_⟩⟩⟩)⟩
  have bf:=SB.of Qk.2 sf
  have sf7:=Qk.trans bf
  refine⟨_,rfl,_,rfl,_,rfl,_,rfl,B,t,bs,m,rfl,sf7.2,T7.sb sf7 CC xw,lN,d4,λpv pd Hg sg YA ppd=> ?_⟩
  have Ql:=sf7.trans sg
  refine⟨_,rfl,_,rfl,_,.ref t,pv,pd,ov,od,.ref W,rfl,YA.same (gx B Hg),(hod.same (sb.trans (sc.trans (bd.trans (se.trans (bf.trans sg))))).hide).same (gx B Hg),((fin _ (sF.trans Ql))) _ _ (hT _ pA),((fin _ (sF.trans Ql))) _ _ (hT _ kF),((fin _ (sF.trans Ql))) _ _ (hT _ gB),((fin _ (sF.trans Ql))) _ _ (hT _ mF),((fin _ (sF.trans Ql))) _ _ (hT _ pB),((fin _ (sF.trans Ql))) _ _ (hT _ iY),((fin _ (sF.trans Ql))) _ _ (hT _ mG),((fin _ (sF.trans Ql))) _ _ (hT _ iB),.inr (.inl ⟨m,(F7.same Ql.hide).same (gx B Hg),.inr (.inl ⟨le,ppd,λHh sh2=>⟨rfl,_,rfl,IM rfl ?_⟩⟩)⟩)⟩
  have bh:=SB.of Ql.2 sh2
  have Qm:=Ql.trans bh
  refine⟨_,rfl,_,rfl,_,rfl,_,rfl,_,rfl,_,.ref t,.int (n:Int),_,ov,od,.ref W,rfl,.int (n:Int),(hod.same (sb.trans (sc.trans (bd.trans (se.trans (bf.trans (sg.trans bh)))))).hide).same (gx B Hh),((fin _ (sF.trans Qm))) _ _ (hT _ pA),((fin _ (sF.trans Qm))) _ _ (hT _ kF),((fin _ (sF.trans Qm))) _ _ (hT _ gB),((fin _ (sF.trans Qm))) _ _ (hT _ mF),((fin _ (sF.trans Qm))) _ _ (hT _ pB),((fin _ (sF.trans Qm))) _ _ (hT _ iY),((fin _ (sF.trans Qm))) _ _ (hT _ mG),((fin _ (sF.trans Qm))) _ _ (hT _ iB),.inr (.inl ⟨m,(F7.same Qm.hide).same (gx B Hh),.inr (.inr ⟨le,pr,λp' e=>by cases e;exact nod,λHi si=>⟨rfl,_,rfl,IM rfl ?_⟩⟩)⟩)⟩
  exact⟨_,_,_,rfl,Qm.trans (SB.of Qm.2 si)⟩
 ·obtain⟨o8,o9,o10,rfl,sh⟩:=hh
  have Ts:=T7.sb sh CC xw
  have TWs:=TW7.sb sh nW.1 nW.2
  have ebs:=sh.1 _ _ nb eb7
  refine⟨_,rfl,t,bs,m,rfl,Ts,lN,λh hs Ha sa fh fhs nh nnh Th=>⟨_,rfl,b,_,rfl,.inl (aV.of (sa _ _ ebs)),λgg fg=> ?_⟩⟩
  have ug:=av.up (o:= .lst [.int (az r 0),.int (az r 1),.int (az r 2)]) fg
  refine⟨_,rfl,W,ws,Wt,rfl,(TWs.same sa).same ug,cW,λx xs Hb sb fx fxs nx nnx Tx=>⟨(by show 3<=sizeLine;decide),λP hP=> ?_⟩⟩
  have uP:=av.up (o:= .tup [.ref h,.ref gg,.ref x]) hP
  have sgb:=ug.trans (sb.trans uP)
  have YB:=sa.trans sgb
  have Th:=Th.same sgb
  have eg:=uP _ _ (sb _ _ (aq (H:=Ha) (a:=gg) (o:= .lst [.int (az r 0),.int (az r 1),.int (az r 2)])))
  have Tw:=Tx.same uP
  have eP:upd Hb P (.tup [.ref h,.ref gg,.ref x]) P=some (.tup [.ref h,.ref gg,.ref x]):=aq
  have T9:=Ts.same YB
  have TW9:=TWs.same YB
  have Yt:=YB _ _ ebs
  have s79:=sh.trans (SB.of sh.2 YB)
  have g0:=fin _ (sF.trans s79)
  refine⟨_,rfl,P,_,_,_,rfl,rfl,qA.of eP,rfl,_,rfl,_,rfl,P,_,_,_,rfl,rfl,qA.of eP,rfl,_,rfl,P,_,_,_,rfl,rfl,qA.of eP,rfl,2,.ref h,.int (n:Int),_,.ref gg,_,.ref x,rfl,.int (n:Int),qo (x:=az r) eg,(g0) _ _ (hT _ pA),(g0) _ _ (hT _ kF),(g0) _ _ (hT _ gB),(g0) _ _ (hT _ mF),(g0) _ _ (hT _ pB),(g0) _ _ (hT _ iY),(g0) _ _ (hT _ mG),(g0) _ _ (hT _ iB),.inr (.inr ⟨rfl,m,az r,⟨h,hs,rfl,Th,lN,d4,ev,ab⟩,le,n,rfl,hp,hd,rfl,L1,hc,x,xs,Wt,rfl,Tw,cW,bW,noW,λHc sc=>⟨rfl,?_⟩⟩)⟩
  have s9c:=YB.trans sc
  refine⟨_,rfl,mQ ⟨_,rfl,_,rfl,_,rfl,_,rfl,(by show 3<=sizeLine;decide),λw1 hw1=>RJ (.tuple [qH m,jN [az r 0,az r 1,az r 2],qH Wt]) (UG (av.up hw1 _ _ (sc _ _ eP)) ((Th.same sc).same (av.up hw1)) (av.up hw1 _ _ (sc _ _ eg)) ((Tw.same sc).same (av.up hw1))) (UG aq ((T9.same sc).same (av.up hw1)) (av.up hw1 _ _ (sc _ _ Yt)) ((TW9.same sc).same (av.up hw1))) (HU _ _ _) (q _ (g0.trans (sc.trans (av.up hw1))))⟩⟩
end
theorem all_mk{l:PySem.W.OpenLaw}{q:Program}{loose:List Str}{mean:ExcName->Option Value}{w:World}{K:PySem.W.Frag}{h:Heap}{mg mb:Str->Option Value}{fa sO HV Fq tW zF De zG vj xN zH Df Ft Dg Fv Fw Dh Fx AH zI AI Ub LZ HW Fy zJ qw Ma BG Uc Wr AJ vm HY Di Fz vn Dj iA xO vp wF Mb wG Qn Mc BH sP HZ FD xP AK FF zK Qo:Addr}(X:K.In h)(Tp:PyProof.Rows.Top q loose mean mg mb h)(hfa:mg "law"=some (.ref fa))
  (nX:FnAt K "_law_stairs" nM sO)
  (tX:FnAt K "_law_bag" tN HV)
  (rE:FnAt K "_law_take" qT Fq)
  (jj:FnAt K "_law_determinant" ji tW)
  (mJ:FnAt K "_law_pairing" mj zF)
  (qa:FnAt K "_law_worth" pP De)
  (mK:FnAt K "_law_carried" mq zG)
  (jK:FnAt K "_law_drawn_form" jD vj)
  (kY:FnAt K "_law_is_above" kL xN)
  (mL:FnAt K "_law_reduced" mw zH)
  (qb:FnAt K "_law_basis" pQ Df)
  (rF:FnAt K "_law_form" qV Ft)
  (qc:FnAt K "_law_prime" pT Dg)
  (rG:FnAt K "_law_copy" qU Fv)
  (rH:FnAt K "_law_rows" qW Fw)
  (qd:FnAt K "_law_lines" pU Dh)
  (rJ:FnAt K "_law_lift" qX Fx)
  (nY:FnAt K "turned_over" nE AH)
  (mO:FnAt K "signed_minor" l8 zI)
  (nZ:FnAt K "determinant" nF AI)
  (Dk:FnAt K "cover" Cv Ub)
  (wH:FnAt K "low_row" vV LZ)
  (tY:FnAt K "is_whole" tF HW)
  (zL:FnAt K "is_row" yN Fy)
  (tZ:FnAt K "is_table" tG zJ)
  (kZ:FnAt K "is_even_table" kK qw)
  (wI:FnAt K "is_form" vS Ma)
  (wJ:FnAt K "pairing" vU BG)
  (Dl:FnAt K "worth" Cw Uc)
  (Ia:FnAt K "half" Ho Wr)
  (n9:FnAt K "is_prime_by" nH AJ)
  (jL:FnAt K "refuse_no_prime" jz vm)
  (t6:FnAt K "upturned" tL HY)
  (qe:FnAt K "line_under" pM Di)
  (zM:FnAt K "slopes" yR Fz)
  (qf:FnAt K "last_slope" pN vn)
  (qg:FnAt K "first_lift" pO Dj)
  (k9:FnAt K "_law_odd_form" kM xO)
  (jM:FnAt K "_law_great_form" jG vp)
  (j7:FnAt K "_law_odd_prime" jZ wF)
  (wK:FnAt K "is_line" vW Mb)
  (j8:FnAt K "refuse_no_line" jY wG)
  (zN:FnAt K "beside" yT Qn)
  (wL:FnAt K "is_step" vY Mc)
  (wM:FnAt K "is_good" vX BH)
  (oh:FnAt K "steps_along" nI sP)
  (t7:FnAt K "way_back" tM HZ)
  (rK:FnAt K "_law_told" qZ FD)
  (lg:FnAt K "_law_odd_line" kN xP)
  (om:FnAt K "_law_across" nK AK)
  (rL:FnAt K "_law_step" qY FF)
  (mP:FnAt K "_law_no_step" mz zK)
  {Dm Dn:Option Addr}{Dp:Array (Option Value)}{Dq Dr Ds Dt vq Du:Value}(rM:PySem.W.nsIn K mainGlobals "_law_kind"=some (some (.ref iA)))(rN:K.lookup iA=some ⟨Dq,Dm,.func (PySem.W.fnOf "_law_kind" "_law_kind" (iE jo) (fz jo) (aC jo) .none Dr Ds Dt Dn vq Du),Dp⟩)(rO:PySem.W.codeIn K vq "_law_kind"=true)(jt:PySem.W.keepIn K (.ref iA)=true)
  {Ws Qp:Option Addr}{Wu:Array (Option Value)}{Wv Qq Qs Qt Ib Qu:Value}(JM:PySem.W.nsIn K mainGlobals "law"=some (some (.ref Qo)))(Qv:K.lookup Qo=some ⟨Wv,Ws,.func (PySem.W.fnOf "law" "law" (iE uU) (fz uU) (aC uU) .none Qq Qs Qt Qp Ib Qu),Wu⟩)(Qw:PySem.W.codeIn K Ib "law"=true)(Qx:PySem.W.keepIn K (.ref Qo)=true)
  {AL:DefRec}(oq:(PyProof.Rows.recsOf q).find? (λe=>e.name==("_law_stairs":Str))=some AL)
  {Qy:DefRec}(zO:(PyProof.Rows.recsOf q).find? (λe=>e.name==("is_row":Str))=some Qy)
  {Ic:DefRec}(t8:(PyProof.Rows.recsOf q).find? (λe=>e.name==("is_table":Str))=some Ic)
  {xQ:DefRec}(lq:(PyProof.Rows.recsOf q).find? (λe=>e.name==("is_even_table":Str))=some xQ)
  {Me:DefRec}(wN:(PyProof.Rows.recsOf q).find? (λe=>e.name==("pairing":Str))=some Me)
  {Qz:DefRec}(zP:(PyProof.Rows.recsOf q).find? (λe=>e.name==("slopes":Str))=some Qz)
  {Dv:DefRec}(qh:(PyProof.Rows.recsOf q).find? (λe=>e.name==("last_slope":Str))=some Dv)
  {Mf:DefRec}(wO:(PyProof.Rows.recsOf q).find? (λe=>e.name==("is_good":Str))=some Mf)
  {AM:DefRec}(ou:(PyProof.Rows.recsOf q).find? (λe=>e.name==("steps_along":Str))=some AM)
  (Ie:PySem.W.nsIn K mainGlobals "list"=some none)
  (Dw:PySem.W.nsIn K mainGlobals "range"=some none)
  (QA:PySem.W.nsIn K mainGlobals "len"=some none)
  (zQ:PySem.W.nsIn K mainGlobals "sorted"=some none)
  (QB:PySem.W.nsIn K mainGlobals "abs"=some none)
  (QC:PySem.W.nsIn K mainGlobals "zip"=some none)
  (QD:PySem.W.nsIn K mainGlobals "int"=some none)
  (QE:PySem.W.nsIn K mainGlobals "min"=some none)
  (qi:PySem.W.nsIn K mainGlobals "isinstance"=some none)
  (y_bool:PySem.W.nsIn K mainGlobals "bool"=some none)
  (QF:PySem.W.nsIn K mainGlobals "all"=some none)
  (QG:PySem.W.nsIn K mainGlobals "sum"=some none)
  {kT:_}(lu:PySem.W.nsIn K mainGlobals "GREATEST_HALF"=some (some (Value.int 200 kT)))
  {kD:Addr}{Mg:Option Addr}{QH:Nat}{Mh:Array (Option Value)}{Ig Ih Ii Ij Ik:_}(zT:PySem.W.nsIn K mainGlobals "PRIMES"=some (some (Value.ref kD)))(wQ:K.lookup kD=some ⟨.type "tuple",Mg,.seq #[.int 3 Ig,.int 5 Ih,.int 7 Ii,.int 11 Ij,.int 13 Ik] QH,Mh⟩)
  (QI:PySem.W.nsIn K mainGlobals "max"=some none)
  (qj:PySem.W.nsIn K mainGlobals "ValueError"=some none)
  (Dy:PySem.W.nsIn K mainGlobals "tuple"=some none)
  (QJ:PySem.W.nsIn K mainGlobals "any"=some none)
  {iw:Addr}(rP:PySem.W.nsIn K mainGlobals "KinError"=some (some (.ref iw)))
  {cK:Addr}(t9:PySem.W.nsIn K mainGlobals "NoBasis"=some (some (.ref cK)))
  {aZ:Addr}(wR:PySem.W.nsIn K mainGlobals "NoForm"=some (some (.ref aZ)))
  {aK:Addr}(rQ:PySem.W.nsIn K mainGlobals "TooGreat"=some (some (.ref aK)))
  {cg:Addr}(ud:PySem.W.nsIn K mainGlobals "NoWorth"=some (some (.ref cg)))
  {aT:Addr}(ue:PySem.W.nsIn K mainGlobals "NoPrime"=some (some (.ref aT)))
  {bC:Addr}(wU:PySem.W.nsIn K mainGlobals "NoLine"=some (some (.ref bC)))
  {bZ:Addr}(wV:PySem.W.nsIn K mainGlobals "NoStep"=some (some (.ref bZ)))
  {dU:Addr}(wW:PySem.W.nsIn K mainGlobals "NoText"=some (some (.ref dU)))
  {fC:Addr}(zU:PySem.W.nsIn K mainGlobals "NoRow"=some (some (.ref fC)))
  {dW:Addr}(wX:PySem.W.nsIn K mainGlobals "NoName"=some (some (.ref dW)))
  (xp:GS K iw [cK,aZ,aK,cg,aT,bC,bZ,dU,fC,dW]=true)
  (ap:Nh K [Fy,zJ,qw,BG,Fz,vn,BH,sP] [sO]=true)
  :∃(fd:FuncData)(tabs je:List Addr),(∀(s:Shared)(v:Value),BindsTo s fd ⟨[v],[]⟩ [("_law_script",v)])/\(∀T∈tabs++je,isCodeTable h T/\h.get? T=some {cls:= .none,data:= .fields #[]})/\(∀T∈tabs,T∉je)/\ ∀base:Heap,K.In base->base.Ns mainGlobals mg->BM mg base->qD l.prog w K mg base c8 40 fa fd ["_law_script"] (JL K tabs je):=by
 have G:=Tp.g
 have e:=hfa.symm.trans (PySem.W.mg_of X G JM)
 cases e
 have rA:=PySem.W.mg_of X G rM
 have aay:=PySem.W.mg_of X G JM
 obtain⟨bP,AN,zV,zW,fm⟩:=nX.Cu (ps:=iX) Tp X oq
 have Il:=tX.fun (ps:=mh) Tp X
 have FG:=rE.fun (ps:=cU) Tp X
 have uf:=jj.fun (ps:=cV) Tp X
 have zX:=mJ.fun (ps:=fM) Tp X
 have Dz:=qa.fun (ps:=iJ) Tp X
 have zY:=mK.fun (ps:=gy) Tp X
 have vt:=jK.fun (ps:=f9) Tp X
 have xR:=kY.fun (ps:=gK) Tp X
 have zZ:=mL.fun (ps:=ir) Tp X
 have DA:=qb.fun (ps:=iK) Tp X
 have FH:=rF.fun (ps:=kr) Tp X
 have DB:=qc.fun (ps:=jE) Tp X
 have FI:=rG.fun (ps:=jm) Tp X
 have FJ:=rH.fun (ps:=jn) Tp X
 have DC:=qd.fun (ps:=jF) Tp X
 have FL:=rJ.fun (ps:=ku) Tp X
 have AO:=nY.fun (ps:=iS) Tp X
 have z9:=mO.fun (ps:=ig) Tp X
 have AQ:=nZ.fun (ps:=gc) Tp X
 have Ud:=Dk.fun (ps:=uN) Tp X
 have Mi:=wH.fun (ps:=oS) Tp X
 have Im:=tY.fun (ps:=jV) Tp X
 obtain⟨aS,QK,Mj,Mk,Ml⟩:=zL.Cu (ps:=oQ) Tp X zO
 obtain⟨aM,Io,FN,FO,FP⟩:=tZ.Cu (ps:=jW) Tp X t8
 obtain⟨aE,xS,wY,wZ,w5⟩:=kZ.Cu (ps:=gH) Tp X lq
 have Mn:=wI.fun (ps:=oR) Tp X
 obtain⟨aO,Mp,Ip,Iq,Ir⟩:=wJ.Cu (ps:=lM) Tp X wN
 have Ue:=Dl.fun (ps:=rZ) Tp X
 have Ww:=Ia.fun (ps:=yP) Tp X
 have AR:=n9.fun (ps:=iT) Tp X
 have vA:=jL.fun (ps:=f7) Tp X
 have Iu:=t6.fun (ps:=jX) Tp X
 have DE:=qe.fun (ps:=jA) Tp X
 obtain⟨cY,QL,Mq,Mr,Ms⟩:=zM.Cu (ps:=qQ) Tp X zP
 obtain⟨bD,DF,AS,AU,AV⟩:=qf.Cu (ps:=jB) Tp X qh
 have DG:=qg.fun (ps:=jC) Tp X
 have xT:=k9.fun (ps:=gM) Tp X
 have vB:=jM.fun (ps:=gb) Tp X
 have w9:=j7.fun (ps:=gz) Tp X
 have Mt:=wK.fun (ps:=oU) Tp X
 have xg:=j8.fun (ps:=eO) Tp X
 have QM:=zN.fun (ps:=qS) Tp X
 have Mu:=wL.fun (ps:=oW) Tp X
 obtain⟨cM,Mv,Iv,Iw,Iz⟩:=wM.Cu (ps:=oV) Tp X wO
 obtain⟨bO,AW,Aa,Ab,Ac⟩:=oh.Cu (ps:=iV) Tp X ou
 have IA:=t7.fun (ps:=l9) Tp X
 have FQ:=rK.fun (ps:=kC) Tp X
 have xU:=lg.fun (ps:=gO) Tp X
 have AX:=om.fun (ps:=iW) Tp X
 have FT:=rL.fun (ps:=kB) Tp X
 have Ad:=mP.fun (ps:=iu) Tp X
 have xA:=Gp (st:=jo) rN rO jt
 have rz:=xA.binds (ps:=["_law_e"]) λ_ _ _ _ _ _ us hl=>match us,hl with| [_],_=>rfl
 have YC:=Gp (st:=uU) Qv Qw Qx
 have gf:=PySem.W.mg_none_of X G Ie
 have bw:=PySem.W.mg_none_of X G Dw
 have fO:=PySem.W.mg_none_of X G QA
 have zD:=PySem.W.mg_none_of X G zQ
 have sL:=PySem.W.mg_none_of X G QB
 have qt:=PySem.W.mg_none_of X G QC
 have q9:=PySem.W.mg_none_of X G QD
 have Pj:=PySem.W.mg_none_of X G QE
 have bF:=PySem.W.mg_none_of X G qi
 have Hw:=PySem.W.mg_none_of X G y_bool
 have qu:=PySem.W.mg_none_of X G QF
 have Bx:=PySem.W.mg_none_of X G QG
 have jb:=PySem.W.mg_of X G lu
 have zc:=PySem.W.mg_of X G zT
 have zd:∀H:Hp,qA K H kD [.int 3,.int 5,.int 7,.int 11,.int 13]:=λH=> .inr ⟨_,_,_,wQ,rfl,rfl,(by show 5<=sizeLine;decide),(.cons ⟨_,rfl⟩ (.cons ⟨_,rfl⟩ (.cons ⟨_,rfl⟩ (.cons ⟨_,rfl⟩ (.cons ⟨_,rfl⟩ .nil)))))⟩
 have Pr:=PySem.W.mg_none_of X G QI
 have pY:=PySem.W.mg_none_of X G qj
 have pZ:=PySem.W.mg_none_of X G Dy
 have PY:=PySem.W.mg_none_of X G QJ
 refine⟨PySem.W.fnOf "law" "law" (iE uU) (fz uU) (aC uU) .none Qq Qs Qt Qp Ib Qu,[aS,aM,aE,aO,cY,bD,cM,bO],[bP],λs v=> .of_eq rfl,λT hT=> ?_,λT hT hC=> ?_,λbase BJ _ bm=> ?_⟩
 ·simp only[List.mem_append,List.mem_cons,List.not_mem_nil,or_false,or_assoc]at hT
  rcases hT with rfl|rfl|rfl|rfl|rfl|rfl|rfl|rfl|rfl
  ·exact⟨Mj,Mk⟩
  ·exact⟨FN,FO⟩
  ·exact⟨wY,wZ⟩
  ·exact⟨Ip,Iq⟩
  ·exact⟨Mq,Mr⟩
  ·exact⟨AS,AU⟩
  ·exact⟨Iv,Iw⟩
  ·exact⟨Aa,Ab⟩
  ·exact⟨zV,zW⟩
 ·simp only[List.mem_cons,List.not_mem_nil,or_false]at hT hC
  rcases hT with e|e|e|e|e|e|e|e
  ·exact ki ap (by simp) (by simp) Ml fm (e.symm.trans hC)
  ·exact ki ap (by simp) (by simp) FP fm (e.symm.trans hC)
  ·exact ki ap (by simp) (by simp) w5 fm (e.symm.trans hC)
  ·exact ki ap (by simp) (by simp) Ir fm (e.symm.trans hC)
  ·exact ki ap (by simp) (by simp) Ms fm (e.symm.trans hC)
  ·exact ki ap (by simp) (by simp) AV fm (e.symm.trans hC)
  ·exact ki ap (by simp) (by simp) Iz fm (e.symm.trans hC)
  ·exact ki ap (by simp) (by simp) Ac fm (e.symm.trans hC)
 have XC:=RY xp
 have tT:=PySem.W.mg_of X G rP
 have r8:=PySem.W.mg_of X G t9
 have oY:=PySem.W.mg_of X G wR
 have j4:=PySem.W.mg_of X G rQ
 have r9:=PySem.W.mg_of X G ud
 have lP:=PySem.W.mg_of X G ue
 have oZ:=PySem.W.mg_of X G wU
 have pe:=PySem.W.mg_of X G wV
 have uX:=PySem.W.mg_of X G wW
 have x9:=PySem.W.mg_of X G zU
 have uY:=PySem.W.mg_of X G wX
 have WN:=nu BJ r8 (XC.at 0 rfl).exc
 have yZ:=nu BJ oY (XC.at 1 rfl).exc
 have tP:=nu BJ j4 (XC.at 2 rfl).exc
 have WO:=nu BJ r9 (XC.at 3 rfl).exc
 have we:=nu BJ lP (XC.at 4 rfl).exc
 have zq:=nu BJ oZ (XC.at 5 rfl).exc
 have zv:=nu BJ pe (XC.at 6 rfl).exc
 have YD:=nu BJ uX (XC.at 7 rfl).exc
 have ZA:=nu BJ x9 (XC.at 8 rfl).exc
 have YE:=nu BJ uY (XC.at 9 rfl).exc
 have nV:=zC (P:=l.prog) (w:=w) (mg:=mg) (base:=base) AN bm gf bw fO zD sL qt
 have tV:=EI (P:=l.prog) (w:=w) (mg:=mg) (base:=base) Il fO sL
 have aF:=Cz (P:=l.prog) (w:=w) (mg:=mg) (base:=base) FG
 have bG:=sD (P:=l.prog) (w:=w) (mg:=mg) (base:=base) uf
 have d8:=xF (P:=l.prog) (w:=w) (mg:=mg) (base:=base) zX bw
 have iL:=Ax (P:=l.prog) (w:=w) (mg:=mg) (base:=base) Dz d8.mono
 have fN:=xG (P:=l.prog) (w:=w) (mg:=mg) (base:=base) zY d8.mono
 have jH:=tO (P:=l.prog) (w:=w) (mg:=mg) (base:=base) vt aF.mono
 have kQ:=v7 (P:=l.prog) (w:=w) (mg:=mg) (base:=base) xR bG.mono
 have mD:=xH (P:=l.prog) (w:=w) (mg:=mg) (base:=base) zZ bw jH.mono kQ.mono bG.mono aF.mono
 have gG:=Ay (P:=l.prog) (w:=w) (mg:=mg) (base:=base) DA bw qt q9 aF.mono
 have rD:=CA (P:=l.prog) (w:=w) (mg:=mg) (base:=base) FH mD.mono aF.mono fN.mono gG.mono
 have p8:=AA (P:=l.prog) (w:=w) (mg:=mg) (base:=base) DB fO Pj bG.mono aF.mono
 have iy:=CF (P:=l.prog) (w:=w) (mg:=mg) (base:=base) FI gf
 have jq:=CH (P:=l.prog) (w:=w) (mg:=mg) (base:=base) FJ bw
 have p9:=AB (P:=l.prog) (w:=w) (mg:=mg) (base:=base) DC jq.mono iL.mono
 have rB:=CI (P:=l.prog) (w:=w) (mg:=mg) (base:=base) FL bw iL.mono
 have nN:=yW (P:=l.prog) (w:=w) (mg:=mg) (base:=base) AO bw
 have mE:=xJ (P:=l.prog) (w:=w) (mg:=mg) (base:=base) z9
 have eY:=yX (P:=l.prog) (w:=w) (mg:=mg) (base:=base) AQ
 have CJ:=Po (P:=l.prog) (w:=w) (mg:=mg) (base:=base) Ud bw mE.mono
 have v9:=Hv (P:=l.prog) (w:=w) (mg:=mg) (base:=base) Mi eY.mono CJ.mono
 have j0:=EO (P:=l.prog) (w:=w) (mg:=mg) (base:=base) Im bF q9 Hw
 have oX:=Lz (P:=l.prog) (w:=w) (mg:=mg) (base:=base) QK bm bF gf fO qu j0.mono
 have j3:=ER (P:=l.prog) (w:=w) (mg:=mg) (base:=base) Io bm bF gf fO qu oX.mono
 have kR:=v8 (P:=l.prog) (w:=w) (mg:=mg) (base:=base) xS bm qu bw j3.mono nN.mono
 have wc:=HA (P:=l.prog) (w:=w) (mg:=mg) (base:=base) Mn kR.mono v9.mono
 have lO:=HD (P:=l.prog) (w:=w) (mg:=mg) (base:=base) Mp bm Bx qt
 have r6:=Pp (P:=l.prog) (w:=w) (mg:=mg) (base:=base) Ue lO.mono
 have HE:=Tc (P:=l.prog) (w:=w) (mg:=mg) (base:=base) Ww jb oY yZ j4 tP wc.mono eY.mono
 have nO:=y9 (P:=l.prog) (w:=w) (mg:=mg) (base:=base) AR zc zd j0.mono
 have jI:=tQ (P:=l.prog) (w:=w) (mg:=mg) (base:=base) vA lP we nO.mono HE.mono
 have j5:=ET (P:=l.prog) (w:=w) (mg:=mg) (base:=base) Iu bw
 have p6:=AD (P:=l.prog) (w:=w) (mg:=mg) (base:=base) DE r6.mono j5.mono
 have zf:=LB (P:=l.prog) (w:=w) (mg:=mg) (base:=base) QL bm Bx bw
 have pX:=AE (P:=l.prog) (w:=w) (mg:=mg) (base:=base) DF bm Pr bw
 have p7:=AF (P:=l.prog) (w:=w) (mg:=mg) (base:=base) DG gf zf.mono pX.mono r6.mono j5.mono
 have rq:=CN (P:=l.prog) (w:=w) (mg:=mg) (base:=base) xA bF pY XC r8 oY j4 r9 lP oZ pe uX x9 uY
 have kX:=wg (P:=l.prog) (w:=w) (mg:=mg) (base:=base) xT pZ aF.mono iy.mono
 have jJ:=tR (P:=l.prog) (w:=w) (mg:=mg) (base:=base) vB aF.mono fN.mono gG.mono
 have gC:=uZ (P:=l.prog) (w:=w) (mg:=mg) (base:=base) w9 fO bG.mono aF.mono
 have wA:=HN (P:=l.prog) (w:=w) (mg:=mg) (base:=base) Mt oX.mono p6.mono
 have c7:=vf (P:=l.prog) (w:=w) (mg:=mg) (base:=base) xg oZ zq jI.mono wA.mono
 have zw:=LU (P:=l.prog) (w:=w) (mg:=mg) (base:=base) QM c7.mono
 have wC:=HP (P:=l.prog) (w:=w) (mg:=mg) (base:=base) Mu c7.mono
 have wB:=HQ (P:=l.prog) (w:=w) (mg:=mg) (base:=base) Mv bm PY qt lO.mono
 have nQ:=zu (P:=l.prog) (w:=w) (mg:=mg) (base:=base) AW bm sL qu j3.mono eY.mono p7.mono wB.mono
 have tU:=Fe (P:=l.prog) (w:=w) (mg:=mg) (base:=base) IA pe zv c7.mono nQ.mono
 have iC:=CZ (P:=l.prog) (w:=w) (mg:=mg) (base:=base) FQ tT XC zw.mono wC.mono tU.mono (rq.mono (by decide)) rz jt rA
 have kU:=wD (P:=l.prog) (w:=w) (mg:=mg) (base:=base) xU fO pZ gf aF.mono jq.mono
 have nU:=zA (P:=l.prog) (w:=w) (mg:=mg) (base:=base) AX q9 bw d8.mono
 have rC:=Dd (P:=l.prog) (w:=w) (mg:=mg) (base:=base) FT rB.mono nU.mono nV.mono
 have mH:=xM (P:=l.prog) (w:=w) (mg:=mg) (base:=base) Ad fO aF.mono rC.mono
 exact(Wq (P:=l.prog) (w:=w) (mg:=mg) (base:=base) (tabs:=[aS,aM,aE,aO,cY,bD,cM,bO]) (je:=[bP]) (bP:=bP) (by simp) (aS:=aS) (by simp) (aM:=aM) (by simp) (aE:=aE) (by simp) (aO:=aO) (by simp) (cY:=cY) (by simp) (bD:=bD) (by simp) (cM:=cM) (by simp) (bO:=bO) (by simp) YC bw fO gf tV.mono rD.mono p8.mono p9.mono aF.mono mH.mono jJ.mono kU.mono iC.mono kX.mono gC.mono iy.mono).mono (by decide)
theorem walk{l:PySem.W.OpenLaw}{q:Program}{loose:List Str}{XP:(Str->Option Value) ->Heap->Prop}{YP:World->Heap->Prop}{d:DefRec}{K:Params->PySem.W.Frag}(hn:l.most=some 63)(hdf:d.params.defaults=[])
  (hY:∀(w:World)(h:Heap),YP w h->(K w.params).In h)(hcl:∀(w:World),PySem.W.kb_classed (K w.params)=true)
  (F:∀(w:World)(mg mb:Str->Option Value)(mean:ExcName->Option Value)(fa:Addr)(h:Heap),(K w.params).In h->PyProof.Rows.Top q (PySem.W.looseW q loose) mean mg mb h->mg d.name=some (.ref fa) ->
   ∃(fd:FuncData)(tabs je:List Addr),(∀(s:Shared)(u:Value),BindsTo s fd ⟨[u],[]⟩ [("_law_script",u)])/\(∀T∈tabs++je,isCodeTable h T/\h.get? T=some {cls:= .none,data:= .fields #[]})/\(∀T∈tabs,T∉je)/\
    ∀base:Heap,(K w.params).In base->base.Ns mainGlobals mg->BM mg base->qD l.prog w (K w.params) mg base c8 40 fa fd ["_law_script"] (JL (K w.params) tabs je)):
  PySem.W.WalkO q loose XP YP l.row.toRowW d [] (λf vs=>PySem.call f vs):=
 L2.Ni (n:=63) (k:=40) (x:= "_law_script") (sp:=JL) hn (by decide) hdf ⟨rfl,by decide,by decide⟩ hY hcl F (λ_ tabs je H a ns hl hT hC hS Q hQ=>⟨a,ns,rfl,hS,hl,hT,hC,hQ⟩)
theorem ws:PySem.W.OpenLaw.wellSaid PySem.Challenge.rw_conekin_k47_beside_refused=true:=by kernel_rfl
end CB
namespace PySem.W.Fast
def tw13471175706936894537:=0
def tw10504451867679963303:=0
def tw17800655890711229523:=0
def tw6924937546101385383:=0
def tw14220639457669240949:=0
def tw16073922031169085902:=0
def tw688164977999237541:=0
def tw4850739917781580299:=0
def tw548068706158072456:=0
def tw1921615467259615558:=0
def tw3302546096631587824:=0
def tw7971057840510064724:=0
def tw1440877208347292973:=0
def tw7741024018520367973:=0
def tw3607799013502736393:=0
def tw5308658429478608948:=0
def tw7260016041873078235:=0
def tw14146397092857787075:=0
def tw7420055474393855926:=0
def tw2946347261586819802:=0
def tw1900870066630225003:=0
def tw4327414956474229469:=0
def tw11470491364838684647:=0
def tw4592735111706043013:=0
def tw7872069137958145672:=0
def tw4892993823074239038:=0
def tw6494845373579827438:=0
def tw13204573619562254539:=0
def tw12230701756097490575:=0
def tw10403341294599526593:=0
def tw7558170199463918222:=0
def tw1566990932671778601:=0
def tw8983526493264084224:=0
def tw15565853092783540797:=0
def tw2103644349035985679:=0
def tw3219356639692021194:=0
def tw10181086901358067911:=0
def tw7108811100194581172:=0
def tw16960753349219068421:=0
def tw16994555050609469966:=0
def tw2162663617960236171:=0
def tw285316841958652242:=0
def tw9822344662112726289:=0
def tw10780567705211134139:=0
def tw7488705914909119912:=0
def tw3920148806303094348:=0
def tw9181216670999691953:=0
def tw7257315638717801881:=0
def tw16741450349678200764:=0
def tw836535775878856106:=0
def tw15681612594042277846:=0
def tw9536937321910955628:=0
def tw13321320144759565139:=0
def tw5807545943123575788:=0
def tw7697160671597002012:=0
def tw15918902353135263494:=0
def tw2414131213077534847:=0
def tw5469969787528848365:=0
def tw10611653541020306465:=0
def tw14926986989002698654:=0
def tw2491894396509805130:=0
def tw5931061135197184113:=0
def tw9446263426890764469:=0
def tw12258149936726594414:=0
def tw2107428101320218011:=0
def tw17952575482679942056:=0
def tw11403283494553967277:=0
def tw9455665887593450612:=0
def tw12747116944007583832:=0
def tw13281580255189509094:=0
def tw11905811278584076293:=0
def tw4061995116790646622:=0
def tw7110052776652847968:=0
def tw17795786779568181450:=0
def tw8017290166567563900:=0
def tw907583871269247870:=0
def tw12694821451863789910:=0
def tw15224558721189859316:=0
def tw7016078263259439070:=0
def tw18269444264863718324:=0
def tw5405431893107112464:=0
def tw9958789700426048642:=0
def tw3292393810741138711:=0
def tw6214574035012711719:=0
def tw6735283791982466435:=0
def tw8967050583219893027:=0
def tw4845621420515776276:=0
def tw16965770393397706799:=0
def tw5602150653245884904:=0
def tw11613831060901908446:=0
def tw12598410158906982420:=0
def tw14480392089143268930:=0
def tw6030302246456277413:=0
def tw2941935196709074479:=0
def tw2369542198279313323:=0
def tw6126689969490501869:=0
def tw208563369555838845:=0
def tw9174772431923888387:=0
def tw11934120003770605811:=0
def tw11463823978230995655:=0
def tw6375473390807900920:=0
def tw9942576111800551423:=0
def tw451827792663381755:=0
def tw5217107003940434363:=0
def tw4730094001706031887:=0
def tw704855834995251164:=0
def tw11330599329030145170:=0
def tw3782716192779792445:=0
def tw5978351742314140891:=0
def tw4385898468531312386:=0
def tw931176988445697865:=0
def tw428330002047578992:=0
def tw13118504540974414966:=0
def tw5070824357754694042:=0
def tw3464104682644651162:=0
def tw13854454709584613263:=0
def tw9556491085917378595:=0
def tw142417702789358246:=0
def tw7371699983113590791:=0
def tw6617634182520337398:=0
def tw15603810812112797476:=0
def tw17276124678786461069:=0
def tw15706594295487610208:=0
def tw8327975749057540367:=0
def tw6757365681127925617:=0
def tw12604495090083712037:=0
def tw11956147334289714071:=0
def tw15628716816001629538:=0
def tw11219962512499517105:=0
def tw15347750233085895196:=0
def tw11121667857989949858:=0
def tw2458302538982493936:=0
def tw9238817164337864191:=0
def tw16013312409882463130:=0
def tw16118578567439906234:=0
def tw13935941863140328953:=0
def tw6586946757701375892:=0
def tw16590719019155223715:=0
def tw10173942487671454937:=0
def tw9164217378205338595:=0
def tw8413426596837639203:=0
def tw15911974371515601978:=0
def tw9224893597474641531:=0
def tw3994932928968523221:=0
def tw3021864350420251547:=0
def tw10809532475007122281:=0
def tw15119182433224274680:=0
def tw6780116424800863282:=0
def tw4723661781004163250:=0
def tw6511930566098200604:=0
def tw16605205247588490558:=0
def tw11383582787480334734:=0
def tw9959240904927475159:=0
def tw5253307537704932837:=0
def tw7432684613477851797:=0
def tw5374226836558366434:=0
def tw10234624266093249430:=0
def tw18156664859538187868:=0
def tw8075340945084267249:=0
def tw6456461001969316916:=0
def tw4197938822696712098:=0
def tw14804660840345130590:=0
def tw10430454792326161493:=0
def tw12419924193325309187:=0
def tw10056571512351401667:=0
def tw6554838465963147504:=0
def tw3537952714669891293:=0
def tw12496815388509007599:=0
def tw17118064306958877633:=0
def tw12044470429286422226:=0
def tw1064928092007959727:=0
def tw4086044904295601061:=0
def tw9756339425484363817:=0
def tw666050701796464723:=0
def tw3353363274087001719:=0
def tw3065966530795666108:=0
def tw18121363965110399318:=0
def tw18071904425918037424:=0
def tw15562048087654797211:=0
def tw12578711049789191573:=0
def tw12512682124594694247:=0
def tw159606971150927880:=0
def tw9787478920773771884:=0
def tw13230172379820915150:=0
def tw17417939355354520997:=0
def tw7778313137372147365:=0
def tw18039550938870713261:=0
def tw1538508233727751885:=0
def tw18087433778669864340:=0
def tw922587345057202834:=0
def tw8596181261321003861:=0
def tw8789067167983151763:=0
def tw13097891029807943923:=0
def tw2624986172895993004:=0
def tw7237795315463396334:=0
def tw20667538183035734:=0
def tw1437384655155250508:=0
def tw17725695774922953360:=0
def tw16085000829069301189:=0
def tw4897400512877205853:=0
def tw11807624775118275206:=0
def tw6164684050128193283:=0
def tw4884451128338520151:=0
end PySem.W.Fast
end
open PySem PySem.W PyProof.Rows
set_option maxRecDepth 100000 in
set_option maxHeartbeats 0 in
theorem PySem.Challenge.cw_conekin_k47_beside_refused_holds : PySem.Challenge.rw_conekin_k47_beside_refused.Holds := by
 w_on;refine PySem.W.holds_law CB.ws λsaid=> ?_;k_head;(case hw=>w_witness2)
 k_fill
 refine CB.walk (l:=PySem.Challenge.rw_conekin_k47_beside_refused) rfl rfl (λw h Y=>by first|exact PySem.W.kIn_of Y|exact PySem.W.km_in_of Y) ?cl ?F
 case cl=>
  intro w
  first|kernel_rfl|(trace_state;k_is)
 case F=>
  intro w mg mb mean fa h KX Tp hmg
  refine' CB.all_mk KX Tp hmg ?nX ?tX ?rE ?jj ?mJ ?qa ?mK ?jK ?kY ?mL ?qb ?rF ?qc ?rG ?rH ?qd ?rJ ?nY ?mO ?nZ ?Dk ?wH ?tY ?zL ?tZ ?kZ ?wI ?wJ ?Dl ?Ia ?n9 ?jL ?t6 ?qe ?zM ?qf ?qg ?k9 ?jM ?j7 ?wK ?j8 ?zN ?wL ?wM ?oh ?t7 ?rK ?lg ?om ?rL ?mP ?rM ?rN ?rO ?jt ?JM ?Qv ?Qw ?Qx ?oq ?zO ?t8 ?lq ?wN ?zP ?qh ?wO ?ou ?Ie ?Dw ?QA ?zQ ?QB ?QC ?QD ?QE ?qi ?y_bool ?QF ?QG ?lu ?zT ?wQ ?QI ?qj ?Dy ?QJ ?rP ?t9 ?wR ?rQ ?ud ?ue ?wU ?wV ?wW ?zU ?wX ?xp ?ap
  (case nX=>exact L2.fnAt)
  (case tX=>exact L2.fnAt)
  (case rE=>exact L2.fnAt)
  (case jj=>exact L2.fnAt)
  (case mJ=>exact L2.fnAt)
  (case qa=>exact L2.fnAt)
  (case mK=>exact L2.fnAt)
  (case jK=>exact L2.fnAt)
  (case kY=>exact L2.fnAt)
  (case mL=>exact L2.fnAt)
  (case qb=>exact L2.fnAt)
  (case rF=>exact L2.fnAt)
  (case qc=>exact L2.fnAt)
  (case rG=>exact L2.fnAt)
  (case rH=>exact L2.fnAt)
  (case qd=>exact L2.fnAt)
  (case rJ=>exact L2.fnAt)
  (case nY=>exact L2.fnAt)
  (case mO=>exact L2.fnAt)
  (case nZ=>exact L2.fnAt)
  (case Dk=>exact L2.fnAt)
  (case wH=>exact L2.fnAt)
  (case tY=>exact L2.fnAt)
  (case zL=>exact L2.fnAt)
  (case tZ=>exact L2.fnAt)
  (case kZ=>exact L2.fnAt)
  (case wI=>exact L2.fnAt)
  (case wJ=>exact L2.fnAt)
  (case Dl=>exact L2.fnAt)
  (case Ia=>exact L2.fnAt)
  (case n9=>exact L2.fnAt)
  (case jL=>exact L2.fnAt)
  (case t6=>exact L2.fnAt)
  (case qe=>exact L2.fnAt)
  (case zM=>exact L2.fnAt)
  (case qf=>exact L2.fnAt)
  (case qg=>exact L2.fnAt)
  (case k9=>exact L2.fnAt)
  (case jM=>exact L2.fnAt)
  (case j7=>exact L2.fnAt)
  (case wK=>exact L2.fnAt)
  (case j8=>exact L2.fnAt)
  (case zN=>exact L2.fnAt)
  (case wL=>exact L2.fnAt)
  (case wM=>exact L2.fnAt)
  (case oh=>exact L2.fnAt)
  (case t7=>exact L2.fnAt)
  (case rK=>exact L2.fnAt)
  (case lg=>exact L2.fnAt)
  (case om=>exact L2.fnAt)
  (case rL=>exact L2.fnAt)
  (case mP=>exact L2.fnAt)
  (case rM=>k_is);(case rN=>k_is);(case rO=>k_is);(case jt=>k_is)
  (case JM=>k_is);(case Qv=>k_is);(case Qw=>k_is);(case Qx=>k_is)
  (case oq=>rfl)
  (case zO=>rfl)
  (case t8=>rfl)
  (case lq=>rfl)
  (case wN=>rfl)
  (case zP=>rfl)
  (case qh=>rfl)
  (case wO=>rfl)
  (case ou=>rfl)
  (case Ie=>k_is)
  (case Dw=>k_is)
  (case QA=>k_is)
  (case zQ=>k_is)
  (case QB=>k_is)
  (case QC=>k_is)
  (case QD=>k_is)
  (case QE=>k_is)
  (case qi=>k_is)
  (case y_bool=>k_is)
  (case QF=>k_is)
  (case QG=>k_is)
  (case lu=>k_is)
  (case zT=>k_is);(case wQ=>k_is)
  (case QI=>k_is)
  (case qj=>k_is)
  (case Dy=>k_is)
  (case QJ=>k_is)
  (case rP=>k_is)
  (case t9=>k_is)
  (case wR=>k_is)
  (case rQ=>k_is)
  (case ud=>k_is)
  (case ue=>k_is)
  (case wU=>k_is)
  (case wV=>k_is)
  (case wW=>k_is)
  (case zU=>k_is)
  (case wX=>k_is)
  (case xp=>kernel_rfl)
  (case ap=>kernel_rfl)
