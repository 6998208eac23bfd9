import PyProof.Rows.All
import Wide.All
import Wide.FinOn
import PyProof.EqAt
import PyProof.EqKinds
import PyProof.TupleCall
import KE.KIsAll
import KE.KTryMore
import KE.KEqDeep
import KE.KEqSeq
import KE.KRegrown
import KE.KSortKey
import KE.KItem
import KE.KNestM
import OpenK.KOwn
import OpenK.KRaise
import OpenK.KWalk
import OpenK.KFacts
import OpenK.KMake
import OpenK.KExp
import OpenK.KDescr
import KE.KLam
import KE.KSortTup
import PyProof.Rows.SortRuns
import PyProof.Rows.RuleM_int
import PyProof.FactsAll.int_0
import PySem.Challenge.RW_conekin_k19_least_worths
set_option Elab.async false
set_option linter.all false
set_option maxRecDepth 100000
set_option genSizeOf false
noncomputable section
namespace L2
open PySem PySem.Spec PyProof.Rows
noncomputable abbrev Key:=Sum Int Str
noncomputable def Lu:Key->Value->Bool
 | .inl k,v=>Value.isInt k v
 | .inr x,v=>Value.isStrOf x v
noncomputable def Ra(w:World):Key->Int
 | .inl k=>hashInt k
 | .inr x=>hashStr w x
theorem eN:∀{k:Key}{v:Value},Lu k v=true->(∃i t,k=Sum.inl i/\v=Value.int i t)∨(∃x t,k=Sum.inr x/\v=Value.str x t)
 | .inl i,v,h=>by
  obtain⟨t,e⟩:=Value.isInt_shape (k:=i) (v:=v) h
  exact .inl ⟨i,t,rfl,e⟩
 | .inr x,v,h=>by
  obtain⟨t,e⟩:=Value.isStrOf_shape (x:=x) (v:=v) h
  exact .inr ⟨x,t,rfl,e⟩
theorem LZ(a b:Int):decide ((Sum.inl a:Key)=Sum.inl b)=(a==b):=by
 by_cases e:a=b
 ·subst e;simp
 ·have h:¬(Sum.inl a:Key)=Sum.inl b:=λq=>e (Sum.inl.inj q)
  rw[decide_eq_false h]
  exact(beq_eq_false_iff_ne.mpr e).symm
theorem Ma(a b:Str):decide ((Sum.inr a:Key)=Sum.inr b)=decide (a=b):=by
 by_cases e:a=b
 ·subst e;simp
 ·have h:¬(Sum.inr a:Key)=Sum.inr b:=λq=>e (Sum.inr.inj q)
  rw[decide_eq_false h,decide_eq_false e]
theorem Mb(a:Int)(b:Str):decide ((Sum.inl a:Key)=Sum.inr b)=false:=decide_eq_false (λq=>nomatch q)
theorem Mc(a:Str)(b:Int):decide ((Sum.inr a:Key)=Sum.inl b)=false:=decide_eq_false (λq=>nomatch q)
noncomputable def Df(prog:Program)(w:World):PySem.KeyKind prog w Key where
 is:=Lu
 hash:=Ra w
 inj:=λv a b ha hb=>by
  rcases eN ha with⟨i,t,rfl,rfl⟩|⟨x,t,rfl,rfl⟩
  ·rcases eN hb with⟨j,u,rfl,e⟩|⟨y,u,rfl,e⟩
   ·injection e with e1 _;rw[e1]
   ·exact nomatch e
  ·rcases eN hb with⟨j,u,rfl,e⟩|⟨y,u,rfl,e⟩
   ·exact nomatch e
   ·injection e with e1 _;rw[e1]
 byValue:=λk v h=>by
  rcases eN h with⟨i,t,rfl,rfl⟩|⟨x,t,rfl,rfl⟩<;>rfl
 pyHash:=λhv h=>by
  rcases eN hv with⟨i,t,rfl,rfl⟩|⟨x,t,rfl,rfl⟩
  ·exact wpAny_pyHash_int h
  ·exact wpAny_pyHash_str h
 eqBool:=λhu hv h=>by
  rcases eN hu with⟨i,t,rfl,rfl⟩|⟨x,t,rfl,rfl⟩
  ·rcases eN hv with⟨j,u,rfl,rfl⟩|⟨y,u,rfl,rfl⟩
   ·rw[LZ]at h;exact wpAny_eqBool_int h
   ·rw[Mb]at h;exact SeqAt.EqAt.int_str i t y u _ _ _ _ h
  ·rcases eN hv with⟨j,u,rfl,rfl⟩|⟨y,u,rfl,rfl⟩
   ·rw[Mc]at h;exact SeqAt.EqAt.str_int x t j u _ _ _ _ h
   ·rw[Ma]at h;exact wpAny_eqBool_str h
 «strs» :=λk x t v h=>by
  rcases eN h with⟨i,u,rfl,e⟩|⟨y,u,rfl,e⟩
  ·exact nomatch e
  ·injection e with e1 _
   subst e1
   cases v<;>rfl
inductive V where
 |iW|bl (b:Bool)|int (i:Int)|str (x:Str)|Gx (b:Array UInt8)|NX (b:UInt64)|ref (a:Addr)|ty (n:String)
 deriving DecidableEq
noncomputable def RelV:V->Value->Prop
 | .iW,u=>u=Value.none
 | .bl b,u=>u=Value.bool b
 | .int i,u=> ∃t,u=Value.int i t
 | .str x,u=> ∃t,u=Value.str x t
 | .Gx b,u=> ∃t,u=Value.bytes b t
 | .NX b,u=> ∃t,u=Value.float b t
 | .ref a,u=>u=Value.ref a
 | .ty n,u=>u=Value.type n
noncomputable abbrev Vals:List V->List Value->Prop:=Paired RelV
theorem Vals.length{xs:List V}{us:List Value}(r:Vals xs us):xs.length=us.length:=Paired.length r
theorem Vals.get:∀{xs:List V}{us:List Value}{i:Nat}{x:V},Vals xs us->xs[i]?=some x-> ∃u,us[i]?=some u/\RelV x u
 |_,_,_,_,.nil,e=>by simp at e
 |_,_,0,_,.cons r _,e=>by simp at e;subst e;exact⟨_,rfl,r⟩
 |_,_,i+1,x,.cons _ t,e=>by
  obtain⟨u,h1,h2⟩:=Vals.get (i:=i) (x:=x) t (by simpa using e)
  exact⟨u,by simpa using h1,h2⟩
theorem Vals.set{x:V}{u:Value}(r:RelV x u):∀{xs:List V}{us:List Value}(i:Nat),Vals xs us->Vals (xs.set i x) (us.set i u)
 |_,_,_,.nil=> .nil
 |_,_,0,.cons _ t=> .cons r t
 |_,_,i+1,.cons q t=> .cons q (Vals.set r i t)
theorem Vals.append:∀{xs ys:List V}{us ws:List Value},Vals xs us->Vals ys ws->Vals (xs++ys) (us++ws)
 |_,_,_,_,.nil,s=>s
 |_,_,_,_,.cons r t,s=> .cons r (Vals.append t s)
theorem Vals.take:∀{xs:List V}{us:List Value}(n:Nat),Vals xs us->Vals (xs.take n) (us.take n)
 |_,_,0,_=> .nil
 |_,_,_+1,.nil=> .nil
 |_,_,n+1,.cons r t=> .cons r (Vals.take n t)
theorem Vals.drop:∀{xs:List V}{us:List Value}(n:Nat),Vals xs us->Vals (xs.drop n) (us.drop n)
 |_,_,0,r=>r
 |_,_,_+1,.nil=> .nil
 |_,_,n+1,.cons _ t=>Vals.drop n t
noncomputable def Me:Option V->Option Value->Prop
 |some v,some u=>RelV v u
 |none,none=>True
 |_,_=>False
noncomputable def KV{κ:Type}:List (κ×V) ->List (κ×Value) ->Prop:=Paired λ(p:κ×V)(q:κ×Value)=>p.1=q.1/\RelV p.2 q.2
noncomputable def kV:Key->V
 | .inl i=> .int i
 | .inr x=> .str x
inductive HO where
 |lst(xs:List V)
 |tup(xs:List V)
 |dK(kvs:List (Key×V))|dT (kvs:List (List Key×V))
 |set(S:Int->Bool)(n:Nat)
 |ins(C dx:Addr)(fs:List (Str×V))
 |own(x:Addr)
 |xd(fs:List (Str×V))
 |met(f x:Addr)
 |Rb(lo hi:Int)
 |xP(o:Obj)(u:HO)
 |Mf(ps:Array Value)
 |ext(φ:Heap->Prop)
 |zu
noncomputable abbrev Hp:=Addr->Option HO
noncomputable def upd(H:Hp)(a:Addr)(o:HO):Hp:=λb=>if b=a then some o else H b
theorem av{H:Hp}{a:Addr}{o:HO}:upd H a o a=some o:=by unfold upd;rw[if_pos rfl]
theorem aI{H:Hp}{a b:Addr}{o:HO}(h:b≠a):upd H a o b=H b:=by unfold upd;rw[if_neg h]
theorem cZ{H:Hp}{a b:Addr}{o:HO}(h:H a=some o)(h':H b=none):a≠b:=by
 intro e;subst e;rw[h]at h';cases h'
section
variable(P:Program)(w:World)
noncomputable def fm(H:Hp)(h:Heap)(a:Addr):HO->Prop
 | .lst xs=>xs.length<=sizeLine/\ ∃(its:List Value)(n:Nat),Vals xs its/\h.get? a=some {cls:= .type "list",data:= .seq its.toArray n}
 | .tup xs=>xs.length<=sizeLine/\ ∃its:List Value,Vals xs its/\IsTup h a its.toArray
 | .dK kvs=>kvs.length<=sizeLine/\(a==sysModules)=false/\ ∃vs,KV kvs vs/\h.DictOf (Df P w) a vs
 | .dT kvs=>kvs.length<=sizeLine/\(a==sysModules)=false/\ ∃xs:List (List Key×Addr×Value),
   Paired (λ(p:List Key×V)(q:List Key×Addr×Value)=>p.1=q.1/\H q.2.1=some (.tup (p.1.map kV))/\RelV p.2 q.2.2) kvs xs/\
   ∃o es ep,h.get? a=some o/\o.ExactDict/\o.data= .dict es ep/\es.toList=xs.map (entryOfKey (tupleKind (Df P w)))/\(xs.map (·.1)).Nodup
 | .set S n=>h.SetOf (intKind P w) a S n
 | .ins C dx fs=>H dx=some (.own a)/\fs.length<=1000/\dx≠a/\h.get? a=some (PySem.W.instObj C dx)/\
   ∃mA,h.Ns1 dx mA/\(∀f,Me (fs.lookup f) (mA f))/\PySem.Within mA (fs.map (·.1))
 | .own _=> ∃o,h.get? a=some o
 | .xd fs=> ∃mA,h.Ns1 a mA/\ ∀f,Me (fs.lookup f) (mA f)
 | .Rb lo hi=> ∃t u v,h.get? a=some {cls:= .type "range",data:= .fields #[.int lo t,.int hi u,.int 1 v]}
 | .xP o u=>h.get? a=some o/\fm H h a u
 | .Mf ps=>h.get? a=some {cls:= .none,data:= .fields ps}
 | .met f x=>h.get? a=some (PySem.W.methodObj (.ref f) (.ref x))
 | .ext φ=>φ h/\(∃o,h.get? a=some o)/\ ∀h1 h2:Heap,φ h1->(∀o,h1.get? a=some o->h2.get? a=some o) ->φ h2
 | .zu=> ∃ps:Array Value,h.get? a=some {cls:= .none,data:= .fields ps}/\TriplesOk ps.toList/\ ∀(pos:Pos)(cv:Value),codeAmong pos ps.toList=some cv->
   ∃(c:Addr)(oc:Obj)(vs:Array Value)(q:Str)(t:Tok),cv= .ref c/\H c=some (.xP oc (.ext λ_=>True))/\oc.data= .fields vs/\vs[1]?=some (.str q t)
noncomputable def t7(H:Hp)(h:Heap):Prop:=∀a o,H a=some o->fm P w H h a o
end
section
variable{P:Program}{w:World}{H H':Hp}{h h':Heap}{a:Addr}{o:HO}
theorem fm.lt(x:fm P w H h a o):a<h.objs.size:=by
 cases o with
 |lst xs=>obtain⟨_,_,_,_,e⟩:=x;exact Heap.lt_size e
 |tup xs=>obtain⟨_,_,_,p⟩:=x;exact p.lt
 |dK kvs=>obtain⟨_,_,_,_,o,_,_,e,_⟩:=x;exact Heap.lt_size e
 |dT kvs=>obtain⟨_,_,_,_,o,_,_,e,_⟩:=x;exact Heap.lt_size e
 |set S n=>obtain⟨o,_,_,_,e,_⟩:=x;exact Heap.lt_size e
 |ins C dx fs=>obtain⟨_,_,_,e,_⟩:=x;exact Heap.lt_size e
 |own y=>obtain⟨_,e⟩:=x;exact Heap.lt_size e
 |xd fs=>obtain⟨_,⟨_,_,_,e,_⟩,_⟩:=x;exact Heap.lt_size e
 |Rb lo hi=>obtain⟨_,_,_,e⟩:=x;exact Heap.lt_size e
 |xP ob u=>obtain⟨e,_⟩:=x;exact Heap.lt_size e
 |Mf ps=>exact Heap.lt_size (show h.get? a=some _ from x)
 |met f y=>exact Heap.lt_size (show h.get? a=some _ from x)
 |ext φ=>obtain⟨_,⟨_,e⟩,_⟩:=x;exact Heap.lt_size e
 |zu=>obtain⟨_,e,_⟩:=x;exact Heap.lt_size e
theorem Paired.Oo{α β:Type}{F G:α->β->Prop}:∀{l₁:List α}{l₂:List β},Paired F l₁ l₂->(∀a b,F a b->G a b) ->Paired G l₁ l₂
 |_,_,.nil,_=> .nil
 |_,_,.cons r t,f=> .cons (f _ _ r) (Paired.Oo t f)
theorem fm.stay(x:fm P w H h a o)(k:∀b u,(b=a∨H b=some (.own a)) ->h.get? b=some u->h'.get? b=some u)
  (ho:∀b,H b=some (.own a) ->H' b=some (.own a))(ht:∀b xs,H b=some (.tup xs) ->H' b=some (.tup xs))(hz:∀b ob u,H b=some (.xP ob u) ->H' b=some (.xP ob u):=by first|exact λ_ _ _ q=>q|assumption):fm P w H' h' a o:=by
 induction o with
 |lst xs=>obtain⟨z,its,n,r,e⟩:=x;exact⟨z,its,n,r,k _ _ (.inl rfl) e⟩
 |tup xs=>obtain⟨z,its,r,ob,e,c⟩:=x;exact⟨z,its,r,ob,k _ _ (.inl rfl) e,c⟩
 |dK kvs=>obtain⟨z,y,vs,r,ob,es,ep,e,c⟩:=x;exact⟨z,y,vs,r,ob,es,ep,k _ _ (.inl rfl) e,c⟩
 |dT kvs=>
  obtain⟨z,y,xs,r,ob,es,ep,e,c⟩:=x
  exact⟨z,y,xs,Paired.Oo r λp q z=>⟨z.1,ht _ _ z.2.1,z.2.2⟩,ob,es,ep,k _ _ (.inl rfl) e,c⟩
 |set S n=>obtain⟨ob,es,ep,t,e,c⟩:=x;exact⟨ob,es,ep,t,k _ _ (.inl rfl) e,c⟩
 |ins C dx fs=>
  obtain⟨d,z,ne,e,mA,⟨od,es,ep,e2,c⟩,r⟩:=x
  exact⟨ho _ d,z,ne,k _ _ (.inl rfl) e,mA,⟨od,es,ep,k _ _ (.inr d) e2,c⟩,r⟩
 |own y=>obtain⟨ob,e⟩:=x;exact⟨ob,k _ _ (.inl rfl) e⟩
 |xd fs=>obtain⟨mA,⟨od,es,ep,e,c⟩,r⟩:=x;exact⟨mA,⟨od,es,ep,k _ _ (.inl rfl) e,c⟩,r⟩
 |Rb lo hi=>obtain⟨t,u,v,e⟩:=x;exact⟨t,u,v,k _ _ (.inl rfl) e⟩
 |xP ob u ih=>obtain⟨e,q⟩:=x;exact⟨k _ _ (.inl rfl) e,ih q⟩
 |Mf ps=>
  have e:h.get? a=some {cls:= .none,data:= .fields ps}:=x
  show h'.get? a=some {cls:= .none,data:= .fields ps}
  exact k a _ (.inl rfl) e
 |met f y=>
  have e:h.get? a=some (PySem.W.methodObj (.ref f) (.ref y)):=x
  show h'.get? a=some (PySem.W.methodObj (.ref f) (.ref y))
  exact k a _ (.inl rfl) e
 |ext φ=>obtain⟨p,⟨o,e⟩,st⟩:=x;exact⟨st _ _ p λo q=>k _ _ (.inl rfl) q,⟨o,k _ _ (.inl rfl) e⟩,st⟩
 |zu=>obtain⟨ps,e,t,r⟩:=x;exact⟨ps,k _ _ (.inl rfl) e,t,λpos cv q=>let⟨c,oc,vs,q2,t2,e1,e2,e3⟩:=r pos cv q;⟨c,oc,vs,q2,t2,e1,hz _ _ _ e2,e3⟩⟩
theorem t7.lt(x:t7 P w H h)(e:H a=some o):a<h.objs.size:=(x a o e).lt
theorem t7.fresh(x:t7 P w H h)(e:h.objs.size<=a):H a=none:=by
 cases q:H a with
 |none=>rfl
 |some u=>exact absurd (Nat.lt_of_lt_of_le (x.lt q) e) (Nat.lt_irrefl _)
theorem t7.kept(x:t7 P w H h)(k:∀b u,h.get? b=some u->h'.get? b=some u):t7 P w H h':=λa o e=>
 (x a o e).stay (λb u _ q=>k b u q) (λ_ q=>q) λ_ _ q=>q
theorem t7.laid(x:t7 P w H h)(k:∀b u,h.get? b=some u->h'.get? b=some u)(hp:h.objs.size<=a)(new:fm P w (upd H a o) h' a o):t7 P w (upd H a o) h':=λb u e=>by
 have hn:=x.fresh hp
 by_cases hb:b=a
 ·subst hb;rw[av]at e;cases e;exact new
 ·rw[aI hb]at e
  exact(x b u e).stay (λc v _ q=>k c v q) (λc q=>by rw[aI (cZ q hn)];exact q) (λc xs q=>by rw[aI (cZ q hn)];exact q) λc ob xs q=>by rw[aI (cZ q hn)];exact q
end
noncomputable def Rd(H:Hp)(a:Addr)(u:HO):Prop:=H a=some u∨ ∃o,H a=some (.xP o u)
theorem Rd.of{H:Hp}{a:Addr}{u:HO}(h:H a=some u):Rd H a u:= .inl h
theorem Rd.ok{P:Program}{w:World}{H:Hp}{h:Heap}{a:Addr}{u:HO}(r:Rd H a u)(x:t7 P w H h):fm P w H h a u:=by
 rcases r with r|⟨o,r⟩
 ·exact x a u r
 ·obtain⟨_,q⟩:=x a _ r
  exact q
noncomputable def Qn:Option HO->Prop
 |some (.lst _)=>True
 |some (.dK _)=>True
 |some (.dT _)=>True
 |some (.set _ _)=>True
 |some (.ins _ _ _)=>True
 |some (.ext _)=>True
 |some .zu=>True
 |_=>False
section
variable{P:Program}{w:World}{H:Hp}{h h':Heap}{x e:Addr}{o':HO}
theorem t7.write(ok:t7 P w H h)(mu:Qn (H x))(he:e=x∨H e=some (.own x))(k:∀b u,b≠e->h.get? b=some u->h'.get? b=some u)(NY:∃u,h'.get? e=some u)
  (new:fm P w (upd H x o') h' x o'):t7 P w (upd H x o') h':=λb u q=>by
 have Oq:∀c y,H c=some (.own y) ->c≠x:=λc y r z=>by subst z;rw[r]at mu;exact mu
 have Rc:∀c xs,H c=some (.tup xs) ->c≠x:=λc xs r z=>by subst z;rw[r]at mu;exact mu
 by_cases hb:b=x
 ·subst hb;rw[av]at q;cases q;exact new
 ·rw[aI hb]at q
  by_cases Mh:b=e
  ·have q':H b=some (.own x):=by
    rcases he with z|z
    ·exact absurd (Mh.trans z) hb
    ·rw[Mh];exact z
   rw[q]at q';cases q'
   obtain⟨v,hv⟩:=NY
   exact⟨v,by rw[Mh];exact hv⟩
  ·refine(ok b u q).stay (λc v hc r=>k c v ?_ r) (λc r=>by rw[aI (Oq c b r)];exact r) (λc xs r=>by rw[aI (Rc c xs r)];exact r) λc ob xs r=>by rw[aI (λz=>by subst z;rw[r]at mu;exact mu)];exact r
   rcases hc with rfl|hc
   ·exact Mh
   ·rintro rfl
    rcases he with z|z
    ·exact Oq c b hc z
    ·rw[hc]at z;cases z;exact hb rfl
end
structure Un(fs ex:List Addr)(H H':Hp)(h h':Heap):Prop where
 keep:∀b o,h.get? b=some o->H b=none->b∉fs->b∉ex->h'.get? b=some o
 slot:∀b o,h.get? b=some o->H b=none->b∈fs->b∉ex-> ∃sl,h'.get? b=some {o with slots:=sl}
 free:∀b o,h.get? b=some o->H b=none->b∉ex->H' b=none
 there:∀b o,h.get? b=some o->b∉ex-> ∃o',h'.get? b=some o'
 tups:∀b xs,H b=some (.tup xs) ->H' b=some (.tup xs)
 qW:∀b o u,H b=some (.xP o u) ->H' b=some (.xP o u)
 tN:∀b ps,H b=some (.Mf ps) -> ∃more,H' b=some (.Mf (ps++more))
section
variable{fs fs' ex ex':List Addr}{H H1 H2:Hp}{h h1 h2 h':Heap}{a x e:Addr}{o:HO}
theorem Un.any(u:Un fs ex H H1 h h1){b:Addr}{ob:Obj}(q:h.get? b=some ob)(n:H b=none)(hx:b∉ex):∃sl,h1.get? b=some {ob with slots:=sl}:=by
 by_cases hb:b∈fs
 ·exact u.slot b ob q n hb hx
 ·exact⟨ob.slots,u.keep b ob q n hb hx⟩
theorem Un.trans(a:Un fs ex H H1 h h1)(b:Un fs ex H1 H2 h1 h2):Un fs ex H H2 h h2 where
 keep:=λc ob q n hc hx=>b.keep c ob (a.keep c ob q n hc hx) (a.free c ob q n hx) hc hx
 slot:=λc ob q n hc hx=>by
  obtain⟨sl,e1⟩:=a.slot c ob q n hc hx
  obtain⟨Rf,e2⟩:=b.slot c _ e1 (a.free c ob q n hx) hc hx
  exact⟨Rf,e2⟩
 free:=λc ob q n hx=>by
  obtain⟨o',e1⟩:=a.there c ob q hx
  exact b.free c o' e1 (a.free c ob q n hx) hx
 there:=λc ob q hx=>by
  obtain⟨o',e1⟩:=a.there c ob q hx
  exact b.there c o' e1 hx
 tups:=λc xs q=>b.tups c xs (a.tups c xs q)
 qW:=λc ob xs q=>b.qW c ob xs (a.qW c ob xs q)
 tN:=λc ps q=>by
  obtain⟨m1,e1⟩:=a.tN c ps q
  obtain⟨m2,e2⟩:=b.tN c _ e1
  exact⟨m1++m2,by rw[e2,Array.append_assoc]⟩
theorem Un.kept(k:∀b u,h.get? b=some u->h'.get? b=some u):Un fs ex H H h h':=
 ⟨λb ob q _ _ _=>k b ob q,λb ob q _ _ _=>⟨ob.slots,k b ob q⟩,λ_ _ _ n _=>n,λb ob q _=>⟨ob,k b ob q⟩,λ_ _ q=>q,λ_ _ _ q=>q,λ_ ps q=>⟨#[],by rw[q];simp⟩⟩
theorem Un.refl:Un fs ex H H h h:=Un.kept λ_ _ q=>q
theorem Un.laid(k:∀b u,h.get? b=some u->h'.get? b=some u)(hp:h.objs.size<=a)(hn:H a=none):Un fs ex H (upd H a o) h h' where
 keep:=λb u q _ _ _=>k b u q
 slot:=λb u q _ _ _=>⟨u.slots,k b u q⟩
 free:=λb u q n _=>by rw[aI (Nat.ne_of_lt (Nat.lt_of_lt_of_le (Heap.lt_size q) hp))];exact n
 there:=λb u q _=>⟨u,k b u q⟩
 tups:=λb xs q=>by rw[aI (cZ q hn)];exact q
 qW:=λb u xs q=>by rw[aI (cZ q hn)];exact q
 tN:=λb ps q=>⟨#[],by rw[aI (cZ q hn),q];simp⟩
theorem Un.write(mu:Qn (H x))(he:e=x∨H e=some (.own x))(k:∀b u,b≠e->h.get? b=some u->h'.get? b=some u)(NY:∃u,h'.get? e=some u):Un fs ex H (upd H x o) h h':=by
 have hx:∀b,H b=none->b≠x:=λb n z=>by subst z;rw[n]at mu;exact mu
 have hb:∀b,H b=none->b≠e:=λb n z=>by
  subst z
  rcases he with r|r
  ·exact hx b n r
  ·rw[n]at r;cases r
 have hm:∀b u,H b=some u-> ¬Qn (some u) ->b≠x:=λb u q nm z=>by subst z;rw[q]at mu;exact nm mu
 refine⟨λb u q n _ _=>k b u (hb b n) q,λb u q n _ _=>⟨u.slots,k b u (hb b n) q⟩,λb u q n _=>by rw[aI (hx b n)];exact n,λb u q _=> ?_,
  λb xs q=>by rw[aI (hm b _ q λz=>z)];exact q,λb u xs q=>by rw[aI (hm b _ q λz=>z)];exact q,λb ps q=>⟨#[],by rw[aI (hm b _ q λz=>z),q];simp⟩⟩
 by_cases Mh:b=e
 ·subst Mh;exact NY
 ·exact⟨u,k b u Mh q⟩
theorem Un.mono(u:Un fs ex H H1 h h1)(hs:∀b∈fs,b∈fs')(hx:∀b∈ex,b∈ex'):Un fs' ex' H H1 h h1:=
 ⟨λb ob q n hb he=>u.keep b ob q n (λz=>hb (hs b z)) λz=>he (hx b z),λ_ _ q n _ he=>u.any q n λz=>he (hx _ z),λb ob q n he=>u.free b ob q n λz=>he (hx b z),λb ob q he=>u.there b ob q λz=>he (hx b z),u.tups,u.qW,u.tN⟩
end
noncomputable def Qo(h:Heap)(H:Hp):List Addr:=(List.range h.objs.size).filter λa=>(H a).isSome
noncomputable def vX(h:Heap)(H:Hp):Heap:=PySem.W.hideAll h (Qo h H)
theorem Es(h:Heap)(H:Hp):(vX h H).objs.size=h.objs.size:=PySem.W.hideAll_size _ _
theorem Gy{h:Heap}{H:Hp}{b:Addr}{o:Obj}(e:h.get? b=some o)(n:H b=none):(vX h H).get? b=some o:=
 PySem.W.hideAll_get _ e λhm=>by
  have q:(H b).isSome=true:=(List.mem_filter.mp hm).2
  rw[n]at q;simp at q
theorem JH{h:Heap}{H:Hp}{b:Addr}{o:Obj}(e:(vX h H).get? b=some o):h.get? b=some o/\H b=none:=by
 have e':h.get? b=some o:=PySem.W.of_hideAll (Qo h H) e
 refine⟨e',?_⟩
 cases q:H b with
 |none=>rfl
 |some x=>
  have hm:b∈Qo h H:=List.mem_filter.mpr ⟨List.mem_range.mpr (Heap.lt_size e'),by simp[q]⟩
  have z:(vX h H).get? b=none:=PySem.W.hideAll_none (Qo h H) hm
  rw[z]at e;cases e
noncomputable def JI(g h:Heap)(L:Addr):List (Addr×Obj):=(List.range h.objs.size).filterMap λa=>if a=L∨(g.get? a).isSome=true then none else(h.get? a).map λo=>(a,o)
noncomputable def rest(g h:Heap)(L d:Addr):List (Addr×Obj):=(JI g h L).filter λp=>decide (p.1≠d)
structure Mod(K:PySem.W.Frag)(mg:Str->Option Value)(base:Heap):Prop where
 NZ:K.In base
 glob:base.Ns mainGlobals mg
 blt:∃mb,base.Ns builtinsNs mb/\ ∀x:Str,x≠ "__name__" ->mb x=bootBuiltins x
 nolimit:base.NoLimit
structure Cx where
 prog:Program
 w:World
 K:PySem.W.Frag
 mg:Str->Option Value
 base:Heap
 A:Around
 N:List Str
 s₀:Shared
 H₀:Hp
 env:Env
 outer:List Env
 stack:List Env
 ex:List Addr
 fn:Str->Bool
 calm:Bool
 pn:List (Addr×Obj)
 xe:Value->Shared->Prop
noncomputable def frs(l:List Env):List Addr:=l.filterMap (·.frame)
noncomputable abbrev Cx.fs(X:Cx):List Addr:=frs X.outer
noncomputable def Lv(sc:Scope)(x:Str):Prop:=sc.names.lookup x=some .local∨sc.names.lookup x=some .cell∨sc.names.lookup x=some .free
noncomputable def Loc(sc:Scope)(x:Str):Prop:=sc.names.lookup x=some .local∨sc.names.lookup x=some .cell
noncomputable def Look(env:Env)(h:Heap)(m:Str->Option Value)(x:Str)(u:Value):Prop:=
 (env.kindOf x=some .local/\m x=some u)∨((env.kindOf x=some .cell∨env.kindOf x=some .free)/\ ∃c,env.cells.lookup x=some c/\h.IsCell c (some u))
structure Cx.Ok(X:Cx):Prop where
 mod:Mod X.K X.mg X.base
 kind:X.env.scope.kind= .function
 glob:X.env.globals=mainGlobals
 blt:X.env.builtins=builtinsNs
 above:X.s₀.heap.objs.size<=X.env.locals
 inj:∀x y c,X.env.cells.lookup x=some c->X.env.cells.lookup y=some c->x=y
 has:∀x,(X.env.kindOf x=some .cell∨X.env.kindOf x=some .free) -> ∃c,X.env.cells.lookup x=some c
 Ot:∀x c,X.fn x=true->X.env.cells.lookup x=some c->X.s₀.heap.objs.size<=c
 hd:X.calm=true->X.A.handled=none
 frames:X.A.frames=some X.stack
 stk:X.stack=X.outer∨(X.stack=X.env::X.outer/\X.env.frame=some X.env.locals)
 Lw:∀b∈X.ex,b≠X.env.locals/\ ∀x c,X.env.cells.lookup x=some c->c≠b
 bs:∀b o,X.base.get? b=some o->X.s₀.heap.get? b=some o/\X.H₀ b=none
 JJ:X.base.objs.size<=X.s₀.heap.objs.size
 Et:∀b o,X.base.get? b=some o->b∉X.ex
 Bb:∀b∈X.ex,b∉X.fs
 tO:X.s₀.heap.FunFrames X.base X.outer
 Oa:∀b∈X.fs,X.H₀ b=none
structure Gz(a b:Array GenState):Prop where
 bare:AllBare b
 size:a.size<=b.size
 old:∀k,k<a.size->b[k]?=a[k]?
theorem Gz.refl{a:Array GenState}(h:AllBare a):Gz a a:=⟨h,Nat.le_refl _,λ_ _=>rfl⟩
theorem Gz.trans{a b c:Array GenState}(x:Gz a b)(y:Gz b c):Gz a c:=⟨y.bare,Nat.le_trans x.size y.size,λk h=>(y.old k (Nat.lt_of_lt_of_le h x.size)).trans (x.old k h)⟩
structure Inv(X:Cx)(pins:List (Addr×Obj))(σ:List (Option V))(H:Hp)(s:Shared):Prop where
 ok:X.Ok
 os:s.os=X.s₀.os
 bare:Gz X.s₀.gens s.gens
 base:Un X.fs X.ex X.H₀ H X.s₀.heap s.heap
 loc:∃m,s.heap.Ns X.env.locals m/\ ∀(i:Nat)(x:Str)(v:V),X.N[i]?=some x->σ[i]?=some (some v) ->Lv X.env.scope x-> ∃u,RelV v u/\Look X.env s.heap m x u
 cell:∀x c,X.env.cells.lookup x=some c-> ∃v,s.heap.IsCell c v
 free:H X.env.locals=none
 mS:∀x c,X.env.cells.lookup x=some c->H c=none
 pin:∀p∈X.pn++pins,s.heap.get? p.1=some p.2/\H p.1=none/\p.1≠X.env.locals/\p.1∉X.fs/\ ∀v,p.2.data≠ .cell v
 hok:t7 X.prog X.w H s.heap
 len:σ.length=X.N.length
section
variable{X:Cx}{pins:List (Addr×Obj)}{σ:List (Option V)}{H H':Hp}{s:Shared}{h':Heap}
theorem Cx.Ok.Rg(ok:X.Ok){b:Addr}{o:Obj}(e:X.base.get? b=some o):b∉X.fs:=λhb=>by
 have:=(ok.tO.mem hb).1
 rw[e]at this;cases this
theorem Inv.bs(I:Inv X pins σ H s):∀b o,X.base.get? b=some o->s.heap.get? b=some o/\H b=none:=λb o e=>
 ⟨I.base.keep b o (I.ok.bs b o e).1 (I.ok.bs b o e).2 (I.ok.Rg e) (I.ok.Et b o e),I.base.free b o (I.ok.bs b o e).1 (I.ok.bs b o e).2 (I.ok.Et b o e)⟩
theorem Inv.bk(I:Inv X pins σ H s):∀b o,X.base.get? b=some o->s.heap.get? b=some o:=λb o e=>(I.bs b o e).1
theorem Inv.mod(I:Inv X pins σ H s):Mod X.K X.mg X.base:=I.ok.mod
theorem Inv.xQ(I:Inv X pins σ H s):X.K.In s.heap:=I.ok.mod.NZ.keeps I.bk
theorem Inv.nolimit(I:Inv X pins σ H s):s.heap.NoLimit:=I.ok.mod.nolimit.keeps I.bk
theorem Inv.lt(I:Inv X pins σ H s):X.env.locals<s.heap.objs.size:=let⟨_,hn,_⟩:=I.loc;hn.lt
theorem Inv.sz(I:Inv X pins σ H s):X.s₀.heap.objs.size<=s.heap.objs.size:=Nat.le_trans I.ok.above (Nat.le_of_lt I.lt)
theorem Inv.Ou(I:Inv X pins σ H s){a:Addr}(h:s.heap.objs.size<=a):a∉X.fs:=λhb=>by
 obtain⟨_,o,ho,_⟩:=I.ok.tO.mem hb
 exact absurd (Nat.lt_of_lt_of_le (Heap.lt_size ho) (Nat.le_trans I.sz h)) (Nat.lt_irrefl _)
theorem Inv.Mi(I:Inv X pins σ H s):∀x c,X.env.cells.lookup x=some c->c≠X.env.locals:=λx c e z=>by
 obtain⟨v,o,ho,hd⟩:=I.cell x c e
 obtain⟨m,⟨o',es,ep,ho',hd',_⟩,_⟩:=I.loc
 rw[z,ho']at ho;cases ho;rw[hd']at hd;cases hd
theorem Inv.tO(I:Inv X pins σ H s):s.heap.FunFrames X.base X.outer:=by
 have all:∀(l:List Env),(∀b∈frs l,b∈X.fs) ->X.s₀.heap.FunFrames X.base l->s.heap.FunFrames X.base l:=by
  intro l
  induction l with
  |nil=>intro _ _;trivial
  |cons env r ih=>
   intro hs hl
   obtain⟨hk,⟨L,o,hf,hn,ho,hd⟩,hr⟩:=hl
   have hL:L∈X.fs:=hs L (by unfold frs;rw[List.filterMap_cons,hf];exact List.mem_cons_self)
   obtain⟨sl,e⟩:=I.base.slot L o ho (I.ok.Oa L hL) hL λz=>I.ok.Bb L z hL
   exact⟨hk,⟨L,_,hf,hn,e,hd⟩,ih (λb hb=>hs b (by unfold frs;rw[List.filterMap_cons,hf];exact List.mem_cons_of_mem _ hb)) hr⟩
 exact all X.outer (λ_ hb=>hb) I.ok.tO
theorem Inv.stack(I:Inv X pins σ H s):s.heap.FunFrames X.base X.stack:=by
 rcases I.ok.stk with e|⟨e,hf⟩
 ·rw[e];exact I.tO
 ·rw[e]
  obtain⟨m,hn,_⟩:=I.loc
  refine .cons (by rw[I.ok.kind];decide) hf hn ?_ I.tO
  exact Heap.get?_none_of_le (Nat.le_trans I.ok.JJ I.ok.above)
theorem Inv.uq(I:Inv X pins σ H s):∀b∈frs X.stack,b∈X.env.locals::X.fs:=λb hb=>by
 rcases I.ok.stk with e|⟨e,hf⟩
 ·rw[e]at hb;exact List.mem_cons_of_mem _ hb
 ·rw[e]at hb
  unfold frs at hb
  rw[List.filterMap_cons,hf]at hb
  exact hb
theorem Inv.t8(I:Inv X pins σ H s):∀b∈frs X.stack,H b=none:=λb hb=>by
 rcases List.mem_cons.mp (I.uq b hb)with e|hb
 ·rw[e];exact I.free
 ·obtain⟨_,o,ho,_⟩:=I.ok.tO.mem hb
  exact I.base.free b o ho (I.ok.Oa b hb) λz=>I.ok.Bb b z hb
theorem Inv.step{g':Array GenState}{t':Nat}{d':Drawn}{ch:List Addr}(I:Inv X pins σ H s)
  (hch:∀b∈ch,(b∈X.ex∨X.s₀.heap.objs.size<=b)/\b≠X.env.locals/\(∀x c,X.env.cells.lookup x=some c->c≠b)/\ ∀p∈X.pn++pins,p.1≠b)
  (keep:∀b o,b≠X.env.locals->b∉X.fs->b∉ch->s.heap.get? b=some o->H b=none->h'.get? b=some o)
  (slot:∀b o,b≠X.env.locals->b∈X.fs->b∉ch->s.heap.get? b=some o->H b=none-> ∃sl,h'.get? b=some {o with slots:=sl})(free:∀b o,b∉ch->s.heap.get? b=some o->H b=none->H' b=none)
  (there:∀b o,b∉ch->s.heap.get? b=some o-> ∃o',h'.get? b=some o')
  (tups:∀b xs,H b=some (.tup xs) ->H' b=some (.tup xs))(qW:∀b o u,H b=some (.xP o u) ->H' b=some (.xP o u))(tN:∀b ps,H b=some (.Mf ps) -> ∃more,H' b=some (.Mf (ps++more)))
  (ns:∀m,s.heap.Ns X.env.locals m->h'.Ns X.env.locals m)(hok:t7 X.prog X.w H' h')(hg:Gz s.gens g'):
  Inv X pins σ H' {s with heap:=h',gens:=g',drawn:=d',toks:=t'}:=by
 have Tn:∀b o,X.s₀.heap.get? b=some o->b≠X.env.locals:=λb o e=>Nat.ne_of_lt (Nat.lt_of_lt_of_le (Heap.lt_size e) I.ok.above)
 have Ob:∀b o,X.s₀.heap.get? b=some o->b∉X.ex->b∉ch:=λb o e hx hb=>by
  rcases(hch b hb).1 with z|z
  ·exact hx z
  ·exact absurd (Nat.lt_of_lt_of_le (Heap.lt_size e) z) (Nat.lt_irrefl _)
 have cellK:∀x c,X.env.cells.lookup x=some c-> ∀v,s.heap.IsCell c v->h'.IsCell c v:=λx c e v ⟨o,ho,hd⟩=>by
  have Ov:c∉ch:=λz=>(hch c z).2.2.1 x c e rfl
  by_cases hc:c∈X.fs
  ·obtain⟨sl,q⟩:=slot c o (I.Mi x c e) hc Ov ho (I.mS x c e)
   exact⟨_,q,hd⟩
  ·exact⟨o,keep c o (I.Mi x c e) hc Ov ho (I.mS x c e),hd⟩
 refine⟨I.ok,I.os,I.bare.trans hg,⟨λb o e n hb hx=> ?_,λb o e n hb hx=> ?_,λb o e n hx=> ?_,λb o e hx=> ?_,λb xs e=>tups b xs (I.base.tups b xs e),λb o xs e=>qW b o xs (I.base.qW b o xs e),λb ps e=> ?_⟩,?_,λx c e=> ?_,?_,λx c e=> ?_,λp hp=> ?_,hok,I.len⟩
 ·exact keep b o (Tn b o e) hb (Ob b o e hx) (I.base.keep b o e n hb hx) (I.base.free b o e n hx)
 ·obtain⟨sl,e1⟩:=I.base.slot b o e n hb hx
  obtain⟨Rf,e2⟩:=slot b _ (Tn b o e) hb (Ob b o e hx) e1 (I.base.free b o e n hx)
  exact⟨Rf,e2⟩
 ·obtain⟨o',e1⟩:=I.base.there b o e hx
  exact free b o' (Ob b o e hx) e1 (I.base.free b o e n hx)
 ·obtain⟨o',e1⟩:=I.base.there b o e hx
  exact there b o' (Ob b o e hx) e1
 ·obtain⟨m1,e1⟩:=I.base.tN b ps e
  obtain⟨m2,e2⟩:=tN b _ e1
  exact⟨m1++m2,by rw[e2,Array.append_assoc]⟩
 ·obtain⟨m,hn,hl⟩:=I.loc
  refine⟨m,ns m hn,λi x v e1 e2 e3=> ?_⟩
  obtain⟨u,r,l⟩:=hl i x v e1 e2 e3
  refine⟨u,r,?_⟩
  rcases l with l|⟨k,c,e,z⟩
  ·exact .inl l
  ·exact .inr ⟨k,c,e,cellK x c e _ z⟩
 ·obtain⟨v,z⟩:=I.cell x c e
  exact⟨v,cellK x c e v z⟩
 ·obtain⟨m,⟨o,_,_,ho,_⟩,_⟩:=I.loc
  exact free _ o (λz=>(hch _ z).2.1 rfl) ho I.free
 ·obtain⟨v,o,ho,hd⟩:=I.cell x c e
  exact free c o (λz=>(hch c z).2.2.1 x c e rfl) ho (I.mS x c e)
 ·obtain⟨e,n,ne,nf,d⟩:=I.pin p hp
  have Ov:p.1∉ch:=λz=>(hch p.1 z).2.2.2 p hp rfl
  exact⟨keep p.1 p.2 ne nf Ov e n,free p.1 p.2 Ov e n,ne,nf,d⟩
theorem Inv.un{t':Nat}(I:Inv X pins σ H s)(u:Un X.fs [] H H' s.heap h')(hok:t7 X.prog X.w H' h'):Inv X pins σ H' {s with heap:=h',toks:=t'}:=by
 obtain⟨m,⟨o,es,ep,ho,r⟩,_⟩:=id I.loc
 obtain⟨sl,hL⟩:=u.any ho I.free (by simp)
 exact I.step (g':=s.gens) (d':=s.drawn) (ch:=[]) (λ_ z=>nomatch z) (λb o _ hb _ e n=>u.keep b o e n hb (by simp)) (λb o _ hb _ e n=>u.slot b o e n hb (by simp)) (λb o _ e n=>u.free b o e n (by simp)) (λb o _ e=>u.there b o e (by simp)) u.tups u.qW u.tN (λm' hm=>by
  obtain⟨o',es',Rh,ho',r'⟩:=hm
  rw[ho]at ho';cases ho'
  exact⟨_,es',Rh,hL,r'⟩) hok (.refl I.bare.bare)
theorem Inv.call{g':Array GenState}{t':Nat}{d':Drawn}{ch:List Addr}(I:Inv X pins σ H s)(u:Un (frs X.stack) ch H H' s.heap h')(hok:t7 X.prog X.w H' h')(hg:Gz s.gens g')
  (hch:∀b∈ch,(b∈X.ex∨X.s₀.heap.objs.size<=b)/\b≠X.env.locals/\(∀x c,X.env.cells.lookup x=some c->c≠b)/\ ∀p∈X.pn++pins,p.1≠b):
  Inv X pins σ H' {s with heap:=h',gens:=g',drawn:=d',toks:=t'}:=by
 obtain⟨m,⟨o,es,ep,ho,r⟩,_⟩:=id I.loc
 obtain⟨sl,hL⟩:=u.any ho I.free λz=>(hch _ z).2.1 rfl
 exact I.step (ch:=ch) hch (λb o hL hb hc e n=>u.keep b o e n (λz=>(List.mem_cons.mp (I.uq b z)).elim hL hb) hc) (λb o _ _ hc e n=>u.any e n hc) (λb o hc e n=>u.free b o e n hc) (λb o hc e=>u.there b o e hc) u.tups u.qW u.tN (λm' hm=>by
  obtain⟨o',es',Rh,ho',r'⟩:=hm
  rw[ho]at ho';cases ho'
  exact⟨_,es',Rh,hL,r'⟩) hok hg
theorem Inv.turned{t':Nat}{it:Addr}(I:Inv X pins σ H s)(k:∀b o,b≠it->s.heap.get? b=some o->h'.get? b=some o)(hn:H it=none)(hL:it≠X.env.locals)
  (h1:it∈X.ex∨X.s₀.heap.objs.size<=it)(h2:∀x c,X.env.cells.lookup x=some c->c≠it)(h3:∀p∈X.pn++pins,p.1≠it):Inv X pins σ H {s with heap:=h',toks:=t'}:=by
 have Ow:∀b u,H b=some u->b≠it:=λb u e z=>by rw[z,hn]at e;cases e
 refine I.step (g':=s.gens) (d':=s.drawn) (ch:=[it]) (λb hb=> ?_) (λb o _ _ hc e _=>k b o (λz=>hc (by simp[z])) e) (λb o _ _ hc e _=>⟨o.slots,k b o (λz=>hc (by simp[z])) e⟩) (λ_ _ _ _ n=>n)
  (λb o hc e=>⟨o,k b o (λz=>hc (by simp[z])) e⟩) (λ_ _ e=>e) (λ_ _ _ e=>e) (λb ps e=>⟨#[],by rw[e];simp⟩) (λm hm=> ?_) (λb u e=> ?_) (.refl I.bare.bare)
 ·have e:b=it:=by simpa using hb
  subst e
  exact⟨h1,hL,h2,h3⟩
 ·obtain⟨o,es,ep,ho,r⟩:=hm
  exact⟨o,es,ep,k _ o (Ne.symm hL) ho,r⟩
 ·refine(I.hok b u e).stay (λc v hc q=>k c v ?_ q) (λ_ q=>q) λ_ _ q=>q
  rcases hc with z|z
  ·rw[z];exact Ow b u e
  ·exact Ow c _ z
theorem Inv.tok(I:Inv X pins σ H s)(t:Nat):Inv X pins σ H {s with toks:=t}:=I.un (h':=s.heap) (t':=t) Un.refl I.hok
theorem Inv.kept{t':Nat}(I:Inv X pins σ H s)(k:∀b u,s.heap.get? b=some u->h'.get? b=some u):Inv X pins σ H {s with heap:=h',toks:=t'}:=I.un (Un.kept k) (I.hok.kept k)
theorem Inv.laid{a:Addr}{o:HO}{t':Nat}(I:Inv X pins σ H s)(k:∀b u,s.heap.get? b=some u->h'.get? b=some u)(hp:s.heap.objs.size<=a)(new:fm X.prog X.w (upd H a o) h' a o):
  Inv X pins σ (upd H a o) {s with heap:=h',toks:=t'}:=I.un (Un.laid k hp (I.hok.fresh hp)) (I.hok.laid k hp new)
theorem Inv.write{x e:Addr}{o:HO}{t':Nat}(I:Inv X pins σ H s)(mu:Qn (H x))(he:e=x∨H e=some (.own x))(k:∀b u,b≠e->s.heap.get? b=some u->h'.get? b=some u)(NY:∃u,h'.get? e=some u)
  (new:fm X.prog X.w (upd H x o) h' x o):Inv X pins σ (upd H x o) {s with heap:=h',toks:=t'}:=I.un (Un.write mu he k NY) (I.hok.write mu he k NY new)
theorem Inv.jq{qk:List (Addr×Obj)}(I:Inv X pins σ H s)(h:∀p∈qk,s.heap.get? p.1=some p.2/\H p.1=none/\p.1≠X.env.locals/\p.1∉X.fs/\ ∀v,p.2.data≠ .cell v):Inv X qk σ H s:=
 ⟨I.ok,I.os,I.bare,I.base,I.loc,I.cell,I.free,I.mS,λp hp=>(List.mem_append.mp hp).elim (λz=>I.pin p (List.mem_append_left _ z)) (h p),I.hok,I.len⟩
theorem zx{N:List Str}(hN:N.Nodup){i j:Nat}{x:Str}(a:N[i]?=some x)(b:N[j]?=some x):i=j:=by
 obtain⟨h1,e1⟩:=List.getElem?_eq_some_iff.mp a
 obtain⟨h2,e2⟩:=List.getElem?_eq_some_iff.mp b
 exact(List.getElem_inj hN).mp (e1.trans e2.symm)
theorem wU{M:Model}{A:Around}{E:Value->Shared->Prop}{i:Nat}{x:Str}{v:V}{u:Value}{Q:Unit->Shared->Prop}(I:Inv X pins σ H s)(hN:X.N.Nodup)(hi:X.N[i]?=some x)(hx:Loc X.env.scope x)(r:RelV v u)
  (h:∀s',Inv X pins (σ.set i (some v)) H s'->(∃a,Heap.SameBut a s.heap s'.heap/\(a=X.env.locals∨X.env.cells.lookup x=some a)) ->Q () s')(hf:X.fn x=true∨X.env.scope.names.lookup x=some .local:=by first|exact .inl rfl|exact .inr rfl|assumption):wpAny M A (storeName X.env x u) Q E s:=by
 obtain⟨m,hn,hl⟩:=id I.loc
 have hcls:(X.env.scope.kind== .class||(X.env.scope.kind== .module && X.env.locals !=X.env.globals))=false:=by rw[I.ok.kind];rfl
 have Ox:i<σ.length:=by rw[I.len];exact(List.getElem?_eq_some_iff.mp hi).1
 have Mi:=I.Mi
 have tracked:∀{a:Addr}{h':Heap},(∃o,s.heap.get? a=some o/\H a=none) ->Heap.SameBut a s.heap h'->t7 X.prog X.w H h':=λ {a h'} ha hs b ob e=>by
  obtain⟨_,_,hfree⟩:=ha
  refine(I.hok b ob e).stay (λc w' hc q=>(hs.2 c ?_).trans q) (λ_ q=>q) λ_ _ q=>q
  rintro rfl
  rcases hc with rfl|hc
  ·rw[hfree]at e;cases e
  ·rw[hfree]at hc;cases hc
 rcases hx with hk|hk
 ·refine wpAny_storeName_local hk hn (λh' hn' hs=> ?_) hcls
  obtain⟨oL,_,_,Mj,_⟩:=id hn
  refine h _ ⟨I.ok,I.os,I.bare,⟨λb o e n hb hx=> ?_,λb o e n hb hx=> ?_,I.base.free,λb o e hx=> ?_,I.base.tups,I.base.qW,I.base.tN⟩,⟨_,hn',λj y v' e1 e2 e3=> ?_⟩,λy c e=> ?_,I.free,I.mS,λp hp=> ?_,tracked ⟨oL,Mj,I.free⟩ hs,by simpa using I.len⟩ ⟨_,hs,.inl rfl⟩
  ·exact(hs.2 b (Nat.ne_of_lt (Nat.lt_of_lt_of_le (Heap.lt_size e) I.ok.above))).trans (I.base.keep b o e n hb hx)
  ·obtain⟨sl,e1⟩:=I.base.slot b o e n hb hx
   exact⟨sl,(hs.2 b (Nat.ne_of_lt (Nat.lt_of_lt_of_le (Heap.lt_size e) I.ok.above))).trans e1⟩
  ·obtain⟨o',e1⟩:=I.base.there b o e hx
   exact⟨o',(hs.2 b (Nat.ne_of_lt (Nat.lt_of_lt_of_le (Heap.lt_size e) I.ok.above))).trans e1⟩
  ·by_cases hj:j=i
   ·subst hj
    rw[hi]at e1;cases e1
    rw[List.getElem?_set_self Ox]at e2
    cases e2
    exact⟨u,r,.inl ⟨hk,by simp⟩⟩
   ·rw[List.getElem?_set_ne (Ne.symm hj)]at e2
    obtain⟨u',r',q⟩:=hl j y v' e1 e2 e3
    refine⟨u',r',?_⟩
    rcases q with⟨k,e⟩|⟨k,c,e,z⟩
    ·refine .inl ⟨k,?_⟩
     have:y≠x:=λe=>hj (zx hN e1 (e▸hi))
     simp[this,e]
    ·exact .inr ⟨k,c,e,z.sameBut hs (Mi y c e)⟩
  ·obtain⟨w',z⟩:=I.cell y c e
   exact⟨w',z.sameBut hs (Mi y c e)⟩
  ·obtain⟨e,n,ne,nf,d⟩:=I.pin p hp
   exact⟨(hs.2 p.1 ne).trans e,n,ne,nf,d⟩
 ·have hfn:X.fn x=true:=by
   rcases hf with z|z
   ·exact z
   ·rw[z]at hk;cases hk
  obtain⟨c,hc⟩:=I.ok.has x (.inl hk)
  obtain⟨w',z⟩:=I.cell x c hc
  refine wpAny_storeName_cell I.ok.kind hk hc z (λh' hc' hs=> ?_)
  obtain⟨oc,hoc,Ri⟩:=id z
  refine h {s with heap:=h'} ⟨I.ok,I.os,I.bare,⟨λb o e n hb hx=> ?_,λb o e n hb hx=> ?_,I.base.free,λb o e hx=> ?_,I.base.tups,I.base.qW,I.base.tN⟩,⟨m,hn.sameBut hs (Ne.symm (Mi x c hc)),λj y v' e1 e2 e3=> ?_⟩,λy c' e=> ?_,I.free,I.mS,λp hp=> ?_,tracked ⟨oc,hoc,I.mS x c hc⟩ hs,by simpa using I.len⟩ ⟨c,hs,.inr hc⟩
  ·exact(hs.2 b (Nat.ne_of_lt (Nat.lt_of_lt_of_le (Heap.lt_size e) (I.ok.Ot x c hfn hc)))).trans (I.base.keep b o e n hb hx)
  ·obtain⟨sl,e1⟩:=I.base.slot b o e n hb hx
   exact⟨sl,(hs.2 b (Nat.ne_of_lt (Nat.lt_of_lt_of_le (Heap.lt_size e) (I.ok.Ot x c hfn hc)))).trans e1⟩
  ·obtain⟨o',e1⟩:=I.base.there b o e hx
   exact⟨o',(hs.2 b (Nat.ne_of_lt (Nat.lt_of_lt_of_le (Heap.lt_size e) (I.ok.Ot x c hfn hc)))).trans e1⟩
  ·by_cases hj:j=i
   ·subst hj
    rw[hi]at e1;cases e1
    rw[List.getElem?_set_self Ox]at e2
    cases e2
    exact⟨u,r,.inr ⟨.inl hk,c,hc,hc'⟩⟩
   ·rw[List.getElem?_set_ne (Ne.symm hj)]at e2
    obtain⟨u',r',q⟩:=hl j y v' e1 e2 e3
    refine⟨u',r',?_⟩
    rcases q with q|⟨k,c',e,z'⟩
    ·exact .inl q
    ·refine .inr ⟨k,c',e,z'.sameBut hs ?_⟩
     rintro rfl
     exact hj (zx hN e1 (I.ok.inj _ _ _ e hc▸hi))
  ·by_cases hcc:c'=c
   ·subst hcc;exact⟨_,hc'⟩
   ·obtain⟨w2,z2⟩:=I.cell y c' e
    exact⟨w2,z2.sameBut hs hcc⟩
  ·obtain⟨e,n,ne,nf,d⟩:=I.pin p hp
   refine⟨(hs.2 p.1 ?_).trans e,n,ne,nf,d⟩
   intro q
   rw[q,hoc]at e
   have q':oc=p.2:=Option.some.inj e
   exact d w' (by rw[<-q'];exact Ri)
theorem jE{M:Model}{A:Around}{E:Value->Shared->Prop}{i:Nat}{x:Str}{v:V}{u:Value}{Q:Unit->Shared->Prop}(I:Inv X pins σ H s)(hN:X.N.Nodup)(hi:X.N[i]?=some x)(hx:Loc X.env.scope x)(r:RelV v u)
  (h:∀s',Inv X pins (σ.set i (some v)) H s'->Q () s')(hf:X.fn x=true∨X.env.scope.names.lookup x=some .local:=by first|exact .inl rfl|exact .inr rfl|assumption):wpAny M A (storeName X.env x u) Q E s:=
 wU I hN hi hx r (λs' I' _=>h s' I') hf
theorem Inv.GA{s':Shared}{ch:List Addr}(I:Inv X pins σ H s)(ho:s'.os=s.os)(u:Un (frs X.stack) ch H H' s.heap s'.heap)(hok:t7 X.prog X.w H' s'.heap)(hg:Gz s.gens s'.gens)
  (hch:∀b∈ch,(b∈X.ex∨X.s₀.heap.objs.size<=b)/\b≠X.env.locals/\(∀x c,X.env.cells.lookup x=some c->c≠b)/\ ∀p∈X.pn++pins,p.1≠b):Inv X pins σ H' s':=by
 obtain⟨h',g',d',t',o'⟩:=s'
 have e:o'=s.os:=ho
 subst e
 exact I.call (g':=g') (t':=t') (d':=d') u hok hg hch
end
noncomputable abbrev XK:=Value->Option Addr->Hp->Prop
noncomputable abbrev St:=List (Option V)
noncomputable abbrev VK:=V->Hp->Prop
noncomputable abbrev TE:=St->Hp->VK->Prop
noncomputable abbrev TT:=St->Hp->(Bool->Hp->Prop) ->Prop
noncomputable abbrev TA:=St->Hp->(List V->Hp->Prop) ->Prop
structure Ends where
 nx:St->Hp->Prop
 rt:VK
 bk:St->Hp->Prop:=λ_ _=>False
 ct:St->Hp->Prop:=λ_ _=>False
noncomputable abbrev TS:=Ends->St->Hp->Prop
noncomputable def EP(X:Cx)(pins:List (Addr×Obj))(σ:St)(Q:VK)(u:Value)(s':Shared):Prop:=∃v H',Inv X pins σ H' s'/\RelV v u/\Q v H'
noncomputable def TP(X:Cx)(pins:List (Addr×Obj))(σ:St)(Q:Bool->Hp->Prop)(b:Bool)(s':Shared):Prop:=∃H',Inv X pins σ H' s'/\Q b H'
noncomputable def AP(X:Cx)(pins:List (Addr×Obj))(σ:St)(Q:List V->Hp->Prop)(us:List Value)(s':Shared):Prop:=∃vs H',Inv X pins σ H' s'/\Vals vs us/\Q vs H'
noncomputable def SP(X:Cx)(pins:List (Addr×Obj))(D:Ends)(f:Flow)(s':Shared):Prop:=
 match f with
 | .next=> ∃σ' H',Inv X pins σ' H' s'/\D.nx σ' H'
 | .brk=> ∃σ' H',Inv X pins σ' H' s'/\D.bk σ' H'
 | .cont=> ∃σ' H',Inv X pins σ' H' s'/\D.ct σ' H'
 | .ret u=> ∃v σ' H',Inv X pins σ' H' s'/\RelV v u/\D.rt v H'
noncomputable def PE(X:Cx)(e:Expr)(t:TE):Prop:=
 ∀(pins:List (Addr×Obj))(s:Shared)(σ:St)(H:Hp)(Q:VK),Inv X pins σ H s->t σ H Q->wpAny (model X.prog X.w) X.A (eval e X.env) (EP X pins σ Q) X.xe s
noncomputable def PT(X:Cx)(e:Expr)(t:TT):Prop:=
 ∀(pins:List (Addr×Obj))(s:Shared)(σ:St)(H:Hp)(Q:Bool->Hp->Prop),Inv X pins σ H s->t σ H Q->wpAny (model X.prog X.w) X.A (isTrue e X.env (eval e X.env)) (TP X pins σ Q) X.xe s
noncomputable def PW(X:Cx)(e:Expr)(t:TT):Prop:=
 ∀(whole:Sem Value)(pins:List (Addr×Obj))(s:Shared)(σ:St)(H:Hp)(Q:Bool->Hp->Prop),Inv X pins σ H s->t σ H Q->wpAny (model X.prog X.w) X.A (isTrue e X.env whole) (TP X pins σ Q) X.xe s
theorem PW.pt{X:Cx}{e:Expr}{t:TT}(h:PW X e t):PT X e t:=h _
noncomputable def PA(X:Cx)(es:List Expr)(t:TA):Prop:=
 ∀(pos:Pos)(pins:List (Addr×Obj))(s:Shared)(σ:St)(H:Hp)(Q:List V->Hp->Prop),Inv X pins σ H s->t σ H Q->wpAny (model X.prog X.w) X.A (spliced (backTo pos (starEach es X.env))) (AP X pins σ Q) X.xe s
noncomputable def PS(X:Cx)(st:Stmt)(t:TS):Prop:=
 ∀(pins:List (Addr×Obj))(s:Shared)(σ:St)(H:Hp)(D:Ends),Inv X pins σ H s->t D σ H->wpAny (model X.prog X.w) X.A (exec st X.env) (SP X pins D) X.xe s
noncomputable def xR(X:Cx)(st:List Stmt)(t:TS):Prop:=
 ∀(pins:List (Addr×Obj))(s:Shared)(σ:St)(H:Hp)(D:Ends),Inv X pins σ H s->t D σ H->wpAny (model X.prog X.w) X.A (execs st X.env) (SP X pins D) X.xe s
theorem fR{α:Type}{t:Sem α}{Q Q':α->Shared->Prop}{M:Model}{A:Around}{E:Value->Shared->Prop}{s:Shared}(h:wpAny M A t Q E s)(hQ:∀a s,Q a s->Q' a s):wpAny M A t Q' E s:=wpAny_mono h hQ λ_ _ x=>x
section
variable{X:Cx}
inductive Rj(σ:St)(i:Nat)(H:Hp)(Q:VK):Prop
 |mk(v:V)(e:σ[i]?=some (some v))(q:Q v H)
noncomputable def b9(i:Nat):TE:=λσ H Q=>Rj σ i H Q
noncomputable def tC(v:V):TE:=λ_ H Q=>Q v H
theorem Mk{i:Nat}{x:Str}{pos:Pos}(hN:X.N[i]?=some x)(hv:Lv X.env.scope x)(hd:(x==("__debug__":Str))=false:=by decide)(hcd:(x==("__classdict__":Str))=false:=by decide):PE X (.Name x pos) (b9 i):=by
 intro pins s σ H Q I h
 obtain⟨v,e,h⟩:=h
 obtain⟨m,hn,hl⟩:=I.loc
 obtain⟨u,r,l⟩:=hl i x v hN e hv
 have fin:EP X pins σ Q u s:=⟨v,H,I,r,h⟩
 rcases l with⟨hk,hm⟩|⟨hk,c,hc,hcell⟩
 ·exact wpAny_Name (wpAny_loadName_local I.ok.kind hk hn hm fin) hd
 ·rcases hk with hk|hk
  ·exact wpAny_Name (wpAny_loadName_cell I.ok.kind hk hc hcell fin) hd
  ·exact wpAny_Name (wpAny_loadName_free I.ok.kind hk hc hcell fin hcd) hd
theorem ah{i j pos}:PE X (.Constant (.int i) j pos) (tC (.int i)):=λ_ _ _ H _ I h=>wpAny_Constant_int ⟨.int i,H,I.tok _,⟨_,rfl⟩,h⟩
theorem ur{b j pos}:PE X (.Constant (.bool b) j pos) (tC (.bl b)):=λ_ _ _ H _ I h=>Constant_bool ⟨.bl b,H,I,rfl,h⟩
theorem GB{j pos}:PE X (.Constant .none j pos) (tC .iW):=λ_ _ _ H _ I h=>Constant_none ⟨.iW,H,I,rfl,h⟩
noncomputable def Gl(X:Cx)(x:Str):Prop:=X.env.kindOf x=some .globalImplicit
theorem Dg{E:Value->Shared->Prop}{pins:List (Addr×Obj)}{s:Shared}{σ:St}{H:Hp}{x:Str}{u:Value}{pos:Pos}{Q:Value->Shared->Prop}(I:Inv X pins σ H s)(hg:Gl X x)(hm:X.mg x=some u)(h:Q u s)
  (hd:(x==("__debug__":Str))=false:=by decide):wpAny (model X.prog X.w) X.A (eval (.Name x pos) X.env) Q E s:=
 Calls.Name_function_global I.ok.kind hg (Calls.loadGlobal_global (by rw[I.ok.glob];exact I.mod.glob.keeps I.bk) hm h) hd
theorem lO{E:Value->Shared->Prop}{pins:List (Addr×Obj)}{s:Shared}{σ:St}{H:Hp}{x:Str}{u:Value}{pos:Pos}{Q:Value->Shared->Prop}(I:Inv X pins σ H s)(hg:Gl X x)(hm:X.mg x=none)(hv:bootBuiltins x=some u)(h:Q u s)
  (hn:x≠ "__name__":=by decide)(hd:(x==("__debug__":Str))=false:=by decide):wpAny (model X.prog X.w) X.A (eval (.Name x pos) X.env) Q E s:=by
 obtain⟨mb,h1,h2⟩:=I.mod.blt
 exact Calls.Name_function_global I.ok.kind hg (Calls.loadGlobal_builtin (by rw[I.ok.glob];exact I.mod.glob.keeps I.bk) hm (by rw[I.ok.blt];exact h1.keeps I.bk) ((h2 x hn).trans hv) h) hd
theorem Dh{x:Str}{v:V}{u:Value}{pos:Pos}(hg:Gl X x)(hm:X.mg x=some u)(r:RelV v u)(hd:(x==("__debug__":Str))=false:=by decide):PE X (.Name x pos) (tC v):=
 λ_ _ _ H _ I h=>Dg I hg hm ⟨v,H,I,r,h⟩ hd
theorem oB{x:Str}{v:V}{u:Value}{pos:Pos}(hg:Gl X x)(hm:X.mg x=none)(hv:bootBuiltins x=some u)(r:RelV v u)(hn:x≠ "__name__":=by decide)(hd:(x==("__debug__":Str))=false:=by decide):PE X (.Name x pos) (tC v):=
 λ_ _ _ H _ I h=>lO I hg hm hv ⟨v,H,I,r,h⟩ hn hd
variable{a b:Expr}{ta tb:TE}{pos:Pos}
inductive Tq(x:V)(Q:Bool->Prop):Prop
 |mk(k:Bool)(e:x= .bl k)(q:Q k)
noncomputable def tB(t:TE):TT:=λσ H Q=>t σ H λx H1=>Tq x λc=>Q c H1
theorem lP{e:Expr}{t:TE}(h:PE X e t)(he:∀whole,isTrue e X.env whole=(do let v<-whole;standAt e.pos;holding [v] (truthy v)):=by intro _;rfl):PT X e (tB t):=by
 intro pins s σ H Q I hw
 refine isTrue_plain (fR (h pins s σ H _ I hw) λv s1 ⟨x,H1,I1,r1,q1⟩=> ?_) (he _)
 obtain⟨d,rfl,q⟩:=q1
 cases r1
 exact wpAny_truthy_bool ⟨H1,I1,q⟩
variable{tA Tt:TT}{rest:List Expr}
noncomputable def Vc(t u:TT):TT:=λσ H Q=>t σ H λc H1=>if c=true then Q true H1 else u σ H1 Q
noncomputable def Rk(t:TT):TT:=λσ H Q=>t σ H λc H1=>Q (!c) H1
theorem uu(ha:PT X a tA):PW X (.BoolOp .Or [a] pos) tA:=by
 intro wh pins s σ H Q I h
 refine isTrue_or (fR (ha pins s σ H Q I h) λc s1 e=> ?_)
 cases c with
 |false=>exact isTrue_or_nil e
 |true=>exact e
theorem sU(ha:PT X a tA)(hb:PW X (.BoolOp .Or (b::rest) pos) Tt):PW X (.BoolOp .Or (a::b::rest) pos) (Vc tA Tt):=by
 intro wh pins s σ H Q I h
 refine isTrue_or (fR (ha pins s σ H _ I h) λc s1 ⟨H1,I1,q1⟩=> ?_)
 cases c with
 |true=>exact⟨H1,I1,q1⟩
 |false=>exact hb wh pins s1 σ H1 Q I1 q1
theorem qX(ha:PT X a tA):PT X (.UnaryOp .Not a pos) (Rk tA):=by
 intro pins s σ H Q I h
 exact isTrue_not (ha pins s σ H (λc H1=>Q (!c) H1) I h)
noncomputable def Oz(ta tb:TE):TE:=λσ H Q=>ta σ H λx H1=> ∃c,x= .bl c/\if c=true then tb σ H1 Q else Q (.bl false) H1
noncomputable def OA(ta:TE):TE:=λσ H Q=>ta σ H λx H1=> ∃c,x= .bl c/\Q (.bl (!c)) H1
theorem Bc{op}{t:TE}(h:PE X a t):PE X (.BoolOp op [a] pos) t:=λpins s σ H Q I hw=>BoolOp_one (h pins s σ H Q I hw)
theorem Be(ha:PE X a ta)(hb:PE X (.BoolOp .And (b::rest) pos) tb):PE X (.BoolOp .And (a::b::rest) pos) (Oz ta tb):=by
 intro pins s σ H Q I h
 refine BoolOp_and (fR (ha pins s σ H _ I h) λv s1 ⟨x,H1,I1,r1,q1⟩=> ?_)
 obtain⟨c,rfl,q1⟩:=q1
 cases r1
 refine wpAny_truthy_bool ?_
 cases c with
 |true=>exact hb pins s1 σ H1 Q I1 q1
 |false=>exact⟨.bl false,H1,I1,rfl,q1⟩
theorem Ml(ha:PE X a ta):PE X (.UnaryOp .Not a pos) (OA ta):=by
 intro pins s σ H Q I h
 refine UnaryOp_ (fR (ha pins s σ H _ I h) λv s1 ⟨x,H1,I1,r1,q1⟩=> ?_)
 obtain⟨c,rfl,q1⟩:=q1
 cases r1
 exact not_of (wpAny_truthy_bool ⟨.bl (!c),H1,I1,rfl,q1⟩)
noncomputable def Vd(t:TT)(ta tb:TE):TE:=λσ H Q=>t σ H λc H1=>if c=true then ta σ H1 Q else tb σ H1 Q
theorem GC{c:Expr}(hc:PT X c tA)(ha:PE X a ta)(hb:PE X b tb):PE X (.IfExp c a b pos) (Vd tA ta tb):=by
 intro pins s σ H Q I h
 refine wpAny_IfExp (fR (hc pins s σ H _ I h) λd s1 ⟨H1,I1,q1⟩=> ?_)
 cases d with
 |true=>exact ha pins s1 σ H1 Q I1 q1
 |false=>exact hb pins s1 σ H1 Q I1 q1
end
noncomputable def aW(K:PySem.W.Frag)(H:Hp)(a:Addr)(xs:List V):Prop:=
 Rd H a (.lst xs)∨
  ∃(o:Obj)(its:Array Value)(n:Nat),K.lookup a=some o/\o.cls= .type "list"/\o.dict=none/\o.data= .seq its n/\its.size<=sizeLine/\Vals xs its.toList
noncomputable def vS(K:PySem.W.Frag)(H:Hp)(a:Addr)(xs:List V):Prop:=
 Rd H a (.tup xs)∨
  ∃(o:Obj)(its:Array Value)(n:Nat),K.lookup a=some o/\o.cls= .type "tuple"/\o.data= .seq its n/\its.size<=sizeLine/\Vals xs its.toList
noncomputable def Rl:Value->Option V
 | .none=>some .iW
 | .bool b=>some (.bl b)
 | .int i _=>some (.int i)
 | .str x _=>some (.str x)
 | .bytes b _=>some (.Gx b)
 | .float b _=>some (.NX b)
 | .ref a=>some (.ref a)
 | .type n=>some (.ty n)
 |_=>none
theorem RelV.abs{x:V}{u:Value}(r:RelV x u):Rl u=some x:=by
 cases x with
 |iW=>cases r;rfl
 |bl _=>cases r;rfl
 |int _=>obtain⟨t,rfl⟩:=r;rfl
 |str _=>obtain⟨t,rfl⟩:=r;rfl
 |Gx _=>obtain⟨t,rfl⟩:=r;rfl
 |NX _=>obtain⟨t,rfl⟩:=r;rfl
 |ref _=>cases r;rfl
 |ty _=>cases r;rfl
theorem RelV.inj{x y:V}{u:Value}(r:RelV x u)(q:RelV y u):x=y:=Option.some.inj (r.abs.symm.trans q.abs)
theorem Vals.inj:∀{xs ys:List V}{us:List Value},Vals xs us->Vals ys us->xs=ys
 |_,_,_,.nil,.nil=>rfl
 |_,_,_,.cons r t,.cons r' t'=>by rw[r.inj r',Vals.inj t t']
section
variable{X:Cx}{pins:List (Addr×Obj)}{σ:St}{H:Hp}{s:Shared}{a:Addr}{xs ys:List V}
theorem aW.of{K:PySem.W.Frag}(h:H a=some (.lst xs)):aW K H a xs:= .inl (.inl h)
theorem vS.of{K:PySem.W.Frag}(h:H a=some (.tup xs)):vS K H a xs:= .inl (.inl h)
theorem Inv.list(I:Inv X pins σ H s)(h:aW X.K H a xs):∃its:List Value,Vals xs its/\PlainL s.heap a its.toArray/\xs.length<=sizeLine:=by
 rcases h with h|⟨o,its,n,hk,hc,hd,hs,hz,r⟩
 ·obtain⟨z,its,n,r,e⟩:=h.ok I.hok
  exact⟨its,r,⟨_,n,e,rfl,rfl,rfl⟩,z⟩
 ·refine⟨its.toList,r,⟨o,n,I.xQ a o hk,hc,hd,by simpa using hs⟩,?_⟩
  have e:=r.length
  simp only[Array.length_toList]at e
  omega
theorem Inv.tuple(I:Inv X pins σ H s)(h:vS X.K H a xs):∃its:List Value,Vals xs its/\IsTup s.heap a its.toArray/\xs.length<=sizeLine:=by
 rcases h with h|⟨o,its,n,hk,hc,hs,hz,r⟩
 ·obtain⟨z,its,r,p⟩:=h.ok I.hok
  exact⟨its,r,p,z⟩
 ·refine⟨its.toList,r,⟨o,I.xQ a o hk,hc,n,by simpa using hs⟩,?_⟩
  have e:=r.length
  simp only[Array.length_toList]at e
  omega
theorem Inv.uv(I:Inv X pins σ H s)(h:aW X.K H a xs)(h':aW X.K H a ys):xs=ys:=by
 obtain⟨its,r,⟨o,n,e,_,_,d⟩,_⟩:=I.list h
 obtain⟨its',r',⟨o',n',e',_,_,d'⟩,_⟩:=I.list h'
 rw[e]at e';cases e'
 rw[d]at d'
 injection d' with d1 _
 have:its=its':=by simpa using congrArg Array.toList d1
 subst this
 exact r.inj r'
end
noncomputable abbrev Cx.vY(X:Cx)(E:Value->Shared->Prop):Cx:={X with xe:=E}
noncomputable abbrev Cx.Gq(X:Cx):Cx:=X.vY λ_ _=>False
theorem Cx.Ok.vY{X:Cx}(ok:X.Ok)(E:Value->Shared->Prop):(X.vY E).Ok:=
 ⟨ok.mod,ok.kind,ok.glob,ok.blt,ok.above,ok.inj,ok.has,ok.Ot,ok.hd,ok.frames,ok.stk,ok.Lw,ok.bs,ok.JJ,ok.Et,ok.Bb,ok.tO,ok.Oa⟩
theorem Cx.Ok.m9{X:Cx}{E:Value->Shared->Prop}(ok:(X.vY E).Ok):X.Ok:=
 ⟨ok.mod,ok.kind,ok.glob,ok.blt,ok.above,ok.inj,ok.has,ok.Ot,ok.hd,ok.frames,ok.stk,ok.Lw,ok.bs,ok.JJ,ok.Et,ok.Bb,ok.tO,ok.Oa⟩
section
variable{X:Cx}{pins:List (Addr×Obj)}{σ:St}{H:Hp}{s:Shared}{E:Value->Shared->Prop}
theorem Inv.vY(I:Inv X pins σ H s)(E:Value->Shared->Prop):Inv (X.vY E) pins σ H s:=⟨I.ok.vY E,I.os,I.bare,I.base,I.loc,I.cell,I.free,I.mS,I.pin,I.hok,I.len⟩
theorem Inv.m9(I:Inv (X.vY E) pins σ H s):Inv X pins σ H s:=⟨I.ok.m9,I.os,I.bare,I.base,I.loc,I.cell,I.free,I.mS,I.pin,I.hok,I.len⟩
theorem SP.m9{D:Ends}{f:Flow}{s':Shared}(h:SP (X.vY E) pins D f s'):SP X pins D f s':=by
 cases f with
 |next=>obtain⟨σ',H',I,q⟩:=h;exact⟨σ',H',I.m9,q⟩
 |brk=>obtain⟨σ',H',I,q⟩:=h;exact⟨σ',H',I.m9,q⟩
 |cont=>obtain⟨σ',H',I,q⟩:=h;exact⟨σ',H',I.m9,q⟩
 |ret u=>obtain⟨v,σ',H',I,r,q⟩:=h;exact⟨v,σ',H',I.m9,r,q⟩
theorem xR.Gq{st:List Stmt}{t:TS}(h:xR X.Gq st t):xR X st t:=λpins s σ H D I hw=>
 wpAny_mono (h pins s σ H D (I.vY _) hw) (λ_ _ q=>q.m9) λ_ _ z=>False.elim z
end
section
variable{X:Cx}{st:Stmt}{rest:List Stmt}{t u:TS}{e:Expr}{te:TE}{pos:Pos}
noncomputable def Lx:TS:=λD σ H=>D.nx σ H
noncomputable def vZ(t u:TS):TS:=λD σ H=>t {D with nx:=u D} σ H
theorem JK:xR X [] Lx:=λ_ _ σ H _ I h=>wpAny_execs_nil ⟨σ,H,I,h⟩
theorem GD(h1:PS X st t)(h2:xR X rest u):xR X (st::rest) (vZ t u):=by
 intro pins s σ H D I h
 refine wpAny_execs_cons (fR (h1 pins s σ H {D with nx:=u D} I h) λf s1 q=> ?_)
 cases f with
 |next=>
  obtain⟨σ',H',I',q⟩:=q
  exact h2 pins s1 σ' H' D I' q
 |ret v=>exact q
 |brk=>exact q
 |cont=>exact q
theorem dh(h1:PS X st t):xR X [st] t:=by
 intro pins s σ H D I h
 refine wpAny_execs_cons (fR (h1 pins s σ H D I h) λf s1 q=> ?_)
 cases f with
 |next=>exact wpAny_execs_nil q
 |ret v=>exact q
 |brk=>exact q
 |cont=>exact q
theorem Inv.quiet{pins:List (Addr×Obj)}{σ:St}{H:Hp}{s:Shared}(I:Inv X pins σ H s):interactive X.env=false:=by simp[interactive,I.ok.kind]
noncomputable def OB(te:TE):TS:=λD σ H=>te σ H λ_ H1=>D.nx σ H1
theorem oE(he:PE X e te)(hs:swapsWith e none pos.line X.env=pure false:=by rfl):PS X (.Expr e pos) (OB te):=by
 intro pins s σ H D I h
 exact wpAny_Expr_any (fR (he pins s σ H _ I h) λv s1 ⟨x,H1,I1,r1,q1⟩=>⟨σ,H1,I1,q1⟩) I.quiet hs
noncomputable def OC(te:TE):TS:=λD σ H=>te σ H D.rt
theorem bh(he:PE X e te):PS X (.Return (some e) pos) (OC te):=by
 intro pins s σ H D I h
 exact wpAny_Return_some (fR (he pins s σ H _ I h) λv s1 ⟨x,H1,I1,r1,q1⟩=>⟨x,σ,H1,I1,r1,q1⟩)
noncomputable def OD(c:TT)(t u:TS):TS:=λD σ H=>c σ H λb H1=>if b=true then t D σ H1 else u D σ H1
theorem OE{c:Expr}{a b:List Stmt}{tc:TT}(hc:PT X c tc)(ha:xR X a t)(hb:xR X b u):PS X (.If c a b pos) (OD tc t u):=by
 intro pins s σ H D I h
 refine wpAny_If (fR (hc pins s σ H _ I h) λd s1 ⟨H1,I1,q1⟩=> ?_)
 cases d with
 |true=>exact ha pins s1 σ H1 D I1 q1
 |false=>exact hb pins s1 σ H1 D I1 q1
noncomputable def Mm:TS:=λ_ _ _=>False
theorem uw:PS X st Mm:=λ_ _ _ _ _ _ h=>h.elim
end
noncomputable abbrev TG:=V->St->Hp->(St->Hp->Prop) ->Prop
noncomputable abbrev JL:=List V->St->Hp->(St->Hp->Prop) ->Prop
noncomputable def PG(X:Cx)(target:Expr)(t:TG):Prop:=
 ∀(pins:List (Addr×Obj))(s:Shared)(σ:St)(H:Hp)(v:V)(u:Value)(Q:St->Hp->Prop),Inv X pins σ H s->RelV v u->t v σ H Q->
  wpAny (model X.prog X.w) X.A (assign target X.env u) (λ_ s'=> ∃σ' H',Inv X pins σ' H' s'/\Q σ' H') X.xe s
noncomputable def OF(X:Cx)(ts:List Expr)(t:JL):Prop:=
 ∀(pins:List (Addr×Obj))(s:Shared)(σ:St)(H:Hp)(vs:List V)(us:List Value)(Q:St->Hp->Prop),Inv X pins σ H s->Vals vs us->t vs σ H Q->
  wpAny (model X.prog X.w) X.A (assignInOrder ((assignEach ts X.env).map (·.2)) us) (λ_ s'=> ∃σ' H',Inv X pins σ' H' s'/\Q σ' H') X.xe s
noncomputable abbrev Mn:=V->V->V->Hp->(Hp->Prop) ->Prop
noncomputable def OG(X:Cx)(t:Mn):Prop:=
 ∀(pins:List (Addr×Obj))(s:Shared)(σ:St)(H:Hp)(o i v:V)(ov iv u:Value)(Q:Hp->Prop),Inv X pins σ H s->RelV o ov->RelV i iv->RelV v u->t o i v H Q->
  wpAny (model X.prog X.w) X.A (setItem ov iv u) (λ_ s'=> ∃H',Inv X pins σ H' s'/\Q H') X.xe s
section
variable{X:Cx}{pos:Pos}
noncomputable def dI(i:Nat):TG:=λv σ H Q=>Q (σ.set i (some v)) H
theorem aV{i:Nat}{x:Str}(hN:X.N.Nodup)(hi:X.N[i]?=some x)(hx:Loc X.env.scope x)(hf:X.fn x=true∨X.env.scope.names.lookup x=some .local:=by first|exact .inl rfl|exact .inr rfl|assumption):PG X (.Name x pos) (dI i):=by
 intro pins s σ H v u Q I r h
 exact wpAny_assign_Name (jE I hN hi hx r (λs' I'=>⟨_,H,I',h⟩) hf)
noncomputable def OH:JL:=λvs σ H Q=>vs=[]/\Q σ H
inductive OI(vs:List V)(Q:V->List V->Prop):Prop
 |mk(v:V)(r:List V)(e:vs=v::r)(q:Q v r)
noncomputable def GF(t:TG)(u:JL):JL:=λvs σ H Q=>OI vs λv r=>t v σ H λσ1 H1=>u r σ1 H1 Q
theorem gb:OF X [] OH:=by
 intro pins s σ H vs us Q I r h
 obtain⟨e,h⟩:=h
 subst e
 cases r
 exact assignInOrder_nil ⟨σ,H,I,h⟩
theorem aT{e:Expr}{es:List Expr}{t:TG}{u:JL}(h1:PG X e t)(h2:OF X es u)
  (hs:(assignEach (e::es) X.env).map (·.2)=assign e X.env::(assignEach es X.env).map (·.2):=by rfl):OF X (e::es) (GF t u):=by
 intro pins s σ H vs us Q I r h
 obtain⟨v,vr,e1,h⟩:=h
 subst e1
 cases r with
 |cons r rr=>
  rw[hs]
  refine assignInOrder_cons (fR (h1 pins s σ H _ _ _ I r h) λ_ s1 ⟨σ1,H1,I1,q1⟩=> ?_)
  exact h2 pins s1 σ1 H1 _ _ Q I1 rr q1
inductive Rm(K:PySem.W.Frag)(n:Nat)(v:V)(H:Hp)(Q:List V->Prop):Prop
 |mk(a:Addr)(xs:List V)(e:v= .ref a)(s:vS K H a xs)(l:xs.length=n)(q:Q xs)
noncomputable def OJ(K:PySem.W.Frag)(n:Nat)(t:JL):TG:=λv σ H Q=>Rm K n v H λxs=>t xs σ H Q
theorem xS{es:List Expr}{k:Nat}{t:JL}{n:Nat}(hc:X.calm=true)(h:OF X es t)
  (hn:(assignEach es X.env).length=n:=by rfl)(hst:(assignEach es X.env).findIdx? (·.1)=none:=by rfl):PG X (.Tuple es k pos) (OJ X.K n t):=by
 intro pins s σ H v u Q I r hw
 obtain⟨a,xs,e1,hq,hl,hw⟩:=hw
 subst e1
 cases r
 obtain⟨its,rv,ht,hz⟩:=I.tuple hq
 refine assign_Tuple_tuple (I.ok.hd hc) ht (by simp[hn,<-hl,rv.length]) hst λh' hx=> ?_
 have I1:Inv X pins σ H {s with heap:=h'}:=I.kept (t':=s.toks) λb o e=>hx b o (Nat.ne_of_lt (Heap.lt_size e)) e
 exact h pins _ σ H xs _ Q I1 (by simpa using rv) hw
noncomputable def Rn(to ti:TE)(t:Mn):TG:=λv σ H Q=>to σ H λo H1=>ti σ H1 λi H2=>t o i v H2 λH3=>Q σ H3
theorem GG{o i:Expr}{to ti:TE}{t:Mn}(ho:PE X o to)(hi:PE X i ti)(hs:OG X t)
  (ha:∀v,assign (.Subscript o i pos) X.env v=(do
   let ov<-holding [v] (eval o X.env)
   let iv<-holding [v,ov] (eval i X.env)
   standAt pos
   holding [v,ov,iv] (setItem ov iv v)
   release [v,ov,iv] []):=by intro _;rfl):PG X (.Subscript o i pos) (Rn to ti t):=by
 intro pins s σ H v u Q I r h
 rw[ha]
 refine wpAny_bind (wpAny_holding (fR (ho pins s σ H _ I h) λov s1 ⟨x,H1,I1,r1,q1⟩=> ?_))
 refine wpAny_bind (wpAny_holding (fR (hi pins s1 σ H1 _ I1 q1) λiv s2 ⟨y,H2,I2,r2,q2⟩=> ?_))
 refine wpAny_bind (wpAny_standAt (wpAny_bind (wpAny_holding (fR (hs pins s2 σ H2 x y v ov iv u _ I2 r1 r2 r q2) λ_ s3 ⟨H3,I3,q3⟩=> ?_))))
 exact wpAny_release ⟨σ,H3,I3,q3⟩
noncomputable def Bf(te:TE)(g:TG):TS:=λD σ H=>te σ H λx H1=>g x σ H1 D.nx
theorem ni{tg e:Expr}{te:TE}{g:TG}(he:PE X e te)(hg:PG X tg g)(hs:swapsWithSole [tg] e pos.line X.env=pure false:=by rfl)(hw:swappedStores [tg] e X.env=pure none:=by rfl)
  (h1:(assignEach [tg] X.env).map (·.2)=[assign tg X.env]:=by rfl):PS X (.Assign [tg] e pos) (Bf te g):=by
 intro pins s σ H D I h
 refine wpAny_Assign_stores (fR (he pins s σ H _ I h) λv s1 ⟨x,H1,I1,r1,q1⟩=> ?_) hs hw
 rw[h1]
 exact fR (hg pins s1 σ H1 x v _ I1 r1 q1) λ_ s2 q=>q
theorem aE{i:Nat}{x:Str}{e:Expr}{te:TE}{pos':Pos}(hN:X.N.Nodup)(hi:X.N[i]?=some x)(hx:Loc X.env.scope x)(he:PE X e te)(hs:swapsWith e (some (.Name x pos')) pos.line X.env=pure false:=by rfl)(hf:X.fn x=true∨X.env.scope.names.lookup x=some .local:=by first|exact .inl rfl|exact .inr rfl|assumption):
  PS X (.Assign [.Name x pos'] e pos) (Bf te (dI i)):=by
 intro pins s σ H D I h
 refine wpAny_Assign_Name (fR (he pins s σ H _ I h) λv s1 ⟨y,H1,I1,r1,q1⟩=> ?_) hs
 exact jE I1 hN hi hx r1 (λs2 I2=>⟨_,H1,I2,q1⟩) hf
noncomputable def Ro(i j:Nat)(ta:TA):TS:=λD σ H=>ta σ H λvs H1=> ∃v w,vs=[v,w]/\D.nx ((σ.set i (some v)).set j (some w)) H1
theorem qY{i j:Nat}{x y:Str}{a b:Expr}{ta:TA}{px py pt:Pos}{kt k2 Mp}(hc:X.calm=true)(hN:X.N.Nodup)(hi:X.N[i]?=some x)(hj:X.N[j]?=some y)(hij:i≠j)
  (hx:X.env.scope.names.lookup x=some .local)(hy:X.env.scope.names.lookup y=some .local)(ha:PA X [a,b] ta)
  (hw:swappedStores [.Tuple [.Name x px,.Name y py] kt pt] (.Tuple [a,b] k2 Mp) X.env=pure (some [x,y]))
  (hs:swapsWithSole [.Tuple [.Name x px,.Name y py] kt pt] (.Tuple [a,b] k2 Mp) pos.line X.env=pure false:=by rfl):
  PS X (.Assign [.Tuple [.Name x px,.Name y py] kt pt] (.Tuple [a,b] k2 Mp) pos) (Ro i j ta):=by
 intro pins s σ H D I h
 rw[exec_Assign_arm]
 refine wpAny_bind (wpAny_standAt ?_)
 rw[hs]
 refine wpAny_bind (wpAny_pure ?_)
 rw[if_neg (by decide)]
 refine wpAny_bind (Tuple_ (fR (ha _ pins s σ H _ I h) λus s1 ⟨vs,H1,I1,r1,q1⟩=> ?_))
 obtain⟨v,w,e1,q1⟩:=q1
 subst e1
 obtain⟨u1,u2,rfl,rv,rw'⟩:∃u1 u2,us=[u1,u2]/\RelV v u1/\RelV w u2:=by
  cases r1 with
  |cons p q=>
   cases q with
   |cons p' q'=>
    cases q'
    exact⟨_,_,rfl,p,p'⟩
 refine wpAny_newObj_type ?_ (by show 2<=sizeLine;decide)
 have I2:Inv X pins σ H1 {s1 with heap:=s1.heap.push {cls:= .type "tuple",data:= .seq [u1,u2].toArray}}:=I1.kept (t':=s1.toks) λb o e=>Heap.get?_push_of_some _ e
 rw[hw]
 refine wpAny_bind (wpAny_pure ?_)
 show wpAny (model X.prog X.w) X.A (do rule "assign.swapped-stores";let items<-unpackItems (.ref s1.heap.objs.size) 2 none;assignInOrder [λv=>bindName X.env y v,λv=>bindName X.env x v] items.reverse;pure Flow.next) _ _ _
 refine wpAny_bind (wpAny_rule (wpAny_bind (unpackItems_tuple (items:= #[u1,u2]) (I.ok.hd hc) (IsTup.new s1.heap _) λh' hx'=> ?_)))
 have I3:=I2.kept (h':=h') (t':=s1.toks) λb o e=>hx' b o (Nat.ne_of_lt (Heap.lt_size e)) e
 show wpAny _ _ (assignInOrder [λv=>bindName X.env y v,λv=>bindName X.env x v] [u2,u1]>>=λ_=>pure Flow.next) _ _ _
 refine wpAny_bind (assignInOrder_cons (wpAny_bindName (jE I3 hN hj (.inl hy) rw' (λs2 I4=> ?_) (.inr hy))))
 refine assignInOrder_cons (wpAny_bindName (jE I4 hN hi (.inl hx) rv (λs3 I5=>assignInOrder_nil (wpAny_pure ?_)) (.inr hx)))
 rw[List.set_comm _ _ (Ne.symm hij)]at I5
 exact⟨_,H1,I5,q1⟩
end
section
variable{X:Cx}{pos:Pos}
noncomputable def GH(c:TT)(tb:TS):TS:=λD σ H=> ∃W:Nat->St->Hp->Prop,(∃m,W m σ H)/\ ∀m σ H,W m σ H->
 c σ H λb H1=>if b=true then ∃N:St->Hp->Prop,(∀σ' H',N σ' H'-> ∃m',m'<m/\W m' σ' H')/\tb {D with nx:=N,ct:=N,bk:=D.nx} σ H1 else D.nx σ H1
theorem jF{c:Expr}{body:List Stmt}{tc:TT}{tb:TS}(hp:PassesOwn (model X.prog X.w) X.A X.env X.xe)(hc:PT X c tc)(hb:xR X body tb):PS X (.While c body [] pos) (GH tc tb):=by
 intro pins s σ H D I h
 obtain⟨W,⟨m0,w0⟩,turn⟩:=h
 refine wpAny_While (codeAny_whileLoop (λn s'=> ∃σ' H',Inv X pins σ' H' s'/\W n σ' H') ?_ m0 ⟨σ,H,I,w0⟩)
 rintro n s1 ⟨σ1,H1,I1,w1⟩
 refine wpAny_passesOwn hp (fR (hc pins s1 σ1 H1 _ I1 (turn n σ1 H1 w1)) λb s2 ⟨H2,I2,q2⟩=> ?_)
 cases b with
 |true=>
  obtain⟨N,hN,q2⟩:=q2
  rw[if_pos rfl]
  refine wpAny_passesOwn hp (fR (hb pins s2 σ1 H2 _ I2 q2) λf s3 q3=> ?_)
  cases f with
  |next=>
   obtain⟨σ3,H3,I3,n3⟩:=q3
   obtain⟨m',hm,w3⟩:=hN σ3 H3 n3
   exact⟨m',hm,σ3,H3,I3,w3⟩
  |cont=>
   obtain⟨σ3,H3,I3,n3⟩:=q3
   obtain⟨m',hm,w3⟩:=hN σ3 H3 n3
   exact⟨m',hm,σ3,H3,I3,w3⟩
  |brk=>exact q3
  |ret v=>exact q3
 |false=>
  rw[if_neg Bool.false_ne_true]
  exact wpAny_execs_nil ⟨σ1,H2,I2,q2⟩
end
structure It where
 go:Nat->Hp->Prop
 zv:Nat->Hp->V->Hp->Prop
 stop:Nat->Hp->Prop
noncomputable def fS(X:Cx)(pins:List (Addr×Obj))(H:Hp)(b:Addr):Prop:=
 H b=none/\b≠X.env.locals/\b∉X.fs/\(b∈X.ex∨X.s₀.heap.objs.size<=b)/\(∀x c,X.env.cells.lookup x=some c->c≠b)/\ ∀p∈X.pn++pins,p.1≠b
theorem Inv.Eu{X:Cx}{pins:List (Addr×Obj)}{σ:St}{H H':Hp}{s:Shared}{b:Addr}(I:Inv X pins σ H s)(hb:s.heap.objs.size<=b)(hn:H' b=none):fS X pins H' b:=by
 refine⟨hn,Nat.ne_of_gt (Nat.lt_of_lt_of_le I.lt hb),I.Ou hb,.inr (Nat.le_trans I.sz hb),λx c e z=> ?_,λp hp z=> ?_⟩
 ·obtain⟨v,q⟩:=I.cell x c e
  exact absurd (Nat.lt_of_lt_of_le q.lt (by rw[z];exact hb)) (Nat.lt_irrefl _)
 ·exact absurd (Nat.lt_of_lt_of_le (Heap.lt_size (I.pin p hp).1) (by rw[z];exact hb)) (Nat.lt_irrefl _)
structure Turn(P:Program)(w:World)(K:PySem.W.Frag)(tg:Expr)(J:It)(fp:List Addr)(it:Addr)(tn:Nat->Heap->Prop):Prop where
 mem:it∈fp
 obj:∀i h,tn i h-> ∀b∈fp,∃o,h.get? b=some o/\ ∀v,o.data≠ .cell v
 keep:∀i h h',tn i h->(∀b∈fp,∀o,h.get? b=some o->h'.get? b=some o) ->tn i h'
 item:∀(X:Cx),X.prog=P->X.w=w->X.K=K->X.calm=true-> ∀(i:Nat)(pins:List (Addr×Obj))(s:Shared)(σ:St)(H:Hp)(E:Value->Shared->Prop),Inv X pins σ H s->(∀b∈fp,fS X pins H b) ->tn i s.heap->J.go i H->
  wpAny (model P w) X.A (pyNext (.ref it)) (λr s1=> ∃u,r=some u/\
   wpAny (model P w) X.A (letOwnedTupleGo tg (.ref it) u) (λ_ s2=> ∃x H',Inv X pins σ H' s2/\RelV x u/\J.zv i H x H'/\tn (i+1) s2.heap/\ ∀b∈fp,H' b=none) E s1) E s
 done:∀(X:Cx),X.prog=P->X.w=w->X.K=K->X.calm=true-> ∀(i:Nat)(pins:List (Addr×Obj))(s:Shared)(σ:St)(H:Hp)(E:Value->Shared->Prop),Inv X pins σ H s->(∀b∈fp,fS X pins H b) ->tn i s.heap->J.stop i H->
  wpAny (model P w) X.A (pyNext (.ref it)) (λr s1=>r=none/\Inv X pins σ H s1) E s
 self:∀(A:Around)(i:Nat)(s:Shared)(Q:Value->Shared->Prop)(E:Value->Shared->Prop),tn i s.heap->Q (.ref it) s->wpAny (model P w) A (pyIter (.ref it)) Q E s
noncomputable abbrev TI:=St->Hp->(It->Hp->Prop) ->Prop
noncomputable def Tv(X:Cx)(pins:List (Addr×Obj))(σ:St)(tg:Expr)(R:It->Hp->Prop)(itv:Value)(s2:Shared):Prop:=
 ∃(it:Addr)(fp:List Addr)(tn:Nat->Heap->Prop)(J:It)(H':Hp),itv= .ref it/\Inv X pins σ H' s2/\Turn X.prog X.w X.K tg J fp it tn/\tn 0 s2.heap/\(∀b∈fp,fS X pins H' b)/\R J H'
noncomputable def PI(X:Cx)(tg iter:Expr)(wi:TI):Prop:=
 ∀(pins:List (Addr×Obj))(s:Shared)(σ:St)(H:Hp)(R:It->Hp->Prop),Inv X pins σ H s->wi σ H R->
  wpAny (model X.prog X.w) X.A (eval iter X.env) (λv s1=>wpAny (model X.prog X.w) X.A (pyIter v) (Tv X pins σ tg R) X.xe s1) X.xe s
theorem Ly{M:Model}{A:Around}{E:Value->Shared->Prop}{s:Shared}{tg:Expr}{it:Addr}{u:Value}{o:Obj}{n:String}{vs:Array Value}{Q:Unit->Shared->Prop}(ho:s.heap.get? it=some o)(hc:o.cls= .type n)(hd:o.data= .fields vs)
  (hn: ["enumerate","zip","dict_itemiterator","dict_reverseitemiterator","odict_iterator","itertools.zip_longest","itertools.pairwise"].contains n=false)(hQ:Q () s):wpAny M A (letOwnedTupleGo tg (.ref it) u) Q E s:=by
 unfold letOwnedTupleGo
 cases tg<;>first
  |exact wpAny_pure hQ
  |(cases u<;>first
    |exact wpAny_pure hQ
    |(refine wpAny_bind (wpAny_load ho ?_)
      rw[hc,hd]
      show wpAny M A (if(["enumerate","zip","dict_itemiterator","dict_reverseitemiterator","odict_iterator","itertools.zip_longest","itertools.pairwise"].contains n && vs[0]?==some (rawInt _))=true then _ else _) Q E s
      rw[if_neg (by intro h;rw[hn,Bool.false_and]at h;cases h)]
      exact wpAny_pure hQ))
noncomputable def Mq(K:PySem.W.Frag)(a:Addr):It:=
 ⟨λi H=> ∃xs x,aW K H a xs/\xs[i]?=some x,λi H x H'=>H'=H/\ ∀xs,aW K H a xs->xs[i]?=some x,λi H=> ∃xs,aW K H a xs/\xs.length<=i⟩
noncomputable def GI(lo:Int)(n:Nat):It:=⟨λi _=>i<n,λi H x H'=>H'=H/\x= .int (lo+i),λi _=>n<=i⟩
theorem Ew{P:Program}{w:World}{K:PySem.W.Frag}{tg:Expr}(a it:Addr):Turn P w K tg (Mq K a) [it] it (λi h=>h.IsListIter it a i) where
 mem:=by simp
 obj:=λi h st b hb=>by
  have e:b=it:=by simpa using hb
  subst e
  obtain⟨o,e,c,d⟩:=st
  exact⟨o,e,λv z=>by rw[d]at z;cases z⟩
 keep:=λi h h' st k=>st.at λo e=>k it (by simp) o e
 item:=by
  intro X hP hw hK hc i pins s σ H E I hf st hg
  subst hP hw hK
  obtain⟨xs,x,hq,hx⟩:=hg
  obtain⟨its,rv,p,hz⟩:=I.list hq
  obtain⟨u,hu,ru⟩:=rv.get hx
  obtain⟨f0,f1,f2,f3,f4,f5⟩:=hf it (by simp)
  refine wpAny_pyNext_list_item st p.isList (x:=u) (by simpa using hu) λh' st' sb=> ?_
  have I1:Inv X pins σ H {s with heap:=h'}:=I.turned (t':=s.toks) (λb o hb e=>(sb.2 b hb).trans e) f0 f1 f3 f4 f5
  obtain⟨o,e,c,d⟩:=id st'
  exact⟨u,rfl,Ly (s:={s with heap:=h'}) e c d (by decide) ⟨x,H,I1,ru,⟨rfl,λys hy=>by rw[I.uv hy hq];exact hx⟩,st',λb hb=>(hf b hb).1⟩⟩
 done:=by
  intro X hP hw hK hc i pins s σ H E I hf st hg
  subst hP hw hK
  obtain⟨xs,hq,hx⟩:=hg
  obtain⟨its,rv,p,hz⟩:=I.list hq
  obtain⟨f0,f1,f2,f3,f4,f5⟩:=hf it (by simp)
  have hl:=rv.length
  exact wpAny_pyNext_list_end (I.ok.hd hc) st p.isList (by simp;omega) λh' eb=>⟨rfl,I.turned (t':=s.toks) (λb o hb e=>eb b o hb e) f0 f1 f3 f4 f5⟩
 self:=λ_ _ _ _ _ st h=>wpAny_pyIter_listiter st h
theorem Bg{P:Program}{w:World}{K:PySem.W.Frag}{tg:Expr}(it:Addr)(lo:Int)(n:Nat):Turn P w K tg (GI lo n) [it] it (λi h=>IsRangeIter h it (lo+(i:Nat)*1) ((n:Int) - (i:Nat)) 1) where
 mem:=by simp
 obj:=λi h st b hb=>by
  have e:b=it:=by simpa using hb
  subst e
  exact⟨_,st,λv z=>by
   have z':Data.fields _=Data.cell v:=z
   cases z'⟩
 keep:=λi h h' st k=>k it (by simp) _ st
 item:=by
  intro X hP hw hK hc i pins s σ H E I hf st hg
  subst hP hw hK
  obtain⟨f0,f1,f2,f3,f4,f5⟩:=hf it (by simp)
  have W:=Walks.range (prog:=X.prog) (w:=X.w) (I.ok.hd hc) it lo 1 n
  refine W.item i s _ _ hg st λv h' tk hv st' kk=> ?_
  obtain⟨t,rfl⟩:=hv
  have I1:Inv X pins σ H {s with heap:=h',toks:=tk}:=I.turned (λb o hb e=>kk b o (by simpa using hb) e) f0 f1 f3 f4 f5
  refine⟨_,rfl,Ly (s:={s with heap:=h',toks:=tk}) (n:= "range_iterator") st' rfl rfl (by decide) ⟨.int (lo+i),H,I1,⟨t,?_⟩,⟨rfl,rfl⟩,st',λb hb=>(hf b hb).1⟩⟩
  rw[Int.mul_one]
 done:=by
  intro X hP hw hK hc i pins s σ H E I hf st hg
  subst hP hw hK
  obtain⟨f0,f1,f2,f3,f4,f5⟩:=hf it (by simp)
  exact wpAny_pyNext_range_end (I.ok.hd hc) st (by have:n<=i:=hg;omega) λh' eb=>⟨rfl,I.turned (t':=s.toks) (λb o hb e=>eb b o hb e) f0 f1 f3 f4 f5⟩
 self:=λ_ _ _ _ _ st h=>wpAny_pyIter_rangeiter st h
section
variable{X:Cx}{tg:Expr}
noncomputable def Lz(K:PySem.W.Frag)(tl:TE):TI:=λσ H R=>tl σ H λx H1=> ∃a,x= .ref a/\(∃xs,aW K H1 a xs)/\R (Mq K a) H1
theorem gP{l:Expr}{tl:TE}(hl:PE X l tl):PI X tg l (Lz X.K tl):=by
 intro pins s σ H R I h
 refine fR (hl pins s σ H _ I h) λv s1 ⟨x,H1,I1,r1,q1⟩=> ?_
 obtain⟨a,e,⟨xs,hq⟩,q⟩:=q1
 subst e
 cases r1
 obtain⟨its,rv,p,hz⟩:=I1.list hq
 refine wpAny_pyIter_list p.isList ?_
 refine⟨s1.heap.objs.size,[s1.heap.objs.size],_,_,H1,rfl,I1.kept (t':=s1.toks) λb o e=>Heap.get?_push_of_some _ e,Ew a _,⟨_,Heap.get?_push_size _ rfl,rfl,rfl⟩,λb hb=> ?_,q⟩
 have e:b=s1.heap.objs.size:=by simpa using hb
 subst e
 exact I1.Eu (Nat.le_refl _) (I1.hok.fresh (Nat.le_refl _))
theorem zy{pins:List (Addr×Obj)}{σ:St}{H:Hp}{s:Shared}{R:It->Hp->Prop}{E:Value->Shared->Prop}{lo hi:Int}{t u v:Tok}{tk:Nat}(I:Inv X pins σ H s)(h1: -(2^62)<=lo)(h2:lo<2^62)(h3: -(2^62)<=hi)(h4:hi<2^62)
  (q:R (GI lo (hi-lo).toNat) H):wpAny (model X.prog X.w) X.A (pyIter (.ref s.heap.objs.size)) (Tv X pins σ tg R) E {s with heap:=s.heap.push {cls:= .type "range",data:= .fields #[.int lo t,.int hi u,.int 1 v]},toks:=tk}:=by
 refine wpAny_pyIter_range (IsRange.new ..) (small_one h1 h2 h3 h4) ?_
 have I1:Inv X pins σ H {s with heap:=s.heap.push {cls:= .type "range",data:= .fields #[.int lo t,.int hi u,.int 1 v]},toks:=tk}:=I.kept λb o e=>Heap.get?_push_of_some _ e
 refine⟨(s.heap.push {cls:= .type "range",data:= .fields #[.int lo t,.int hi u,.int 1 v]}).objs.size,[(s.heap.push {cls:= .type "range",data:= .fields #[.int lo t,.int hi u,.int 1 v]}).objs.size],_,_,H,rfl,
  I1.kept (t':=tk) λb o e=>Heap.get?_push_of_some _ e,Bg _ lo (hi-lo).toNat,?_,λb hb=> ?_,q⟩
 ·have e1:lo+((0:Nat):Int)*1=lo:=by simp
  have e2:(((hi-lo).toNat:Nat):Int) - ((0:Nat):Int)=Builtin.Range.rangeSize lo hi 1:=by rw[rangeSize_one];split<;>omega
  show IsRangeIter _ _ (lo+((0:Nat):Int)*1) ((((hi-lo).toNat:Nat):Int) - ((0:Nat):Int)) 1
  rw[e1,e2]
  exact Heap.get?_push_size _ rfl
 ·have e:b=(s.heap.push {cls:= .type "range",data:= .fields #[.int lo t,.int hi u,.int 1 v]}).objs.size:=by simpa using hb
  subst e
  exact I1.Eu (Nat.le_refl _) (I1.hok.fresh (Nat.le_refl _))
noncomputable def ux(ta:TA):TI:=λσ H R=>ta σ H λvs H1=> ∃j:Int,vs=[.int j]/\ -(2^62)<=j/\j<2^62/\R (GI 0 j.toNat) H1
noncomputable def OL(ta:TA):TI:=λσ H R=>ta σ H λvs H1=> ∃i j:Int,vs=[.int i,.int j]/\(-(2^62)<=i/\i<2^62/\ -(2^62)<=j/\j<2^62)/\R (GI i (j-i).toNat) H1
theorem eL{a:Expr}{ta:TA}{p pos:Pos}(hg:Gl X "range")(hm:X.mg "range"=none)(ha:PA X [a] ta)(hs:starEach [a] X.env=[(false,eval a X.env)]:=by rfl):PI X tg (.Call (.Name "range" p) [a] [] pos) (ux ta):=by
 intro pins s σ H R I h
 refine Call_ (lO I hg hm boot_range (PyProof.Rows.callWith_type1 (fR (ha pos pins s σ H _ I h) λus s1 ⟨vs,H1,I1,r1,q1⟩=> ?_) hs rfl))
 obtain⟨j,e,q1,q2,q⟩:=q1
 subst e
 cases r1 with
 |cons r rr=>
  cases rr
  obtain⟨t,rfl⟩:=r
  exact call_range_1 (zy I1 (by omega) (by omega) q1 q2 (by simpa using q))
theorem kQ{a b:Expr}{ta:TA}{p pos:Pos}(hg:Gl X "range")(hm:X.mg "range"=none)(ha:PA X [a,b] ta)(hs:starEach [a,b] X.env=[(false,eval a X.env),(false,eval b X.env)]:=by rfl)(hs2:starEach [b] X.env=[(false,eval b X.env)]:=by rfl):
  PI X tg (.Call (.Name "range" p) [a,b] [] pos) (OL ta):=by
 intro pins s σ H R I h
 refine Call_ (lO I hg hm boot_range (PyProof.Rows.callWith_type1 (fR (ha pos pins s σ H _ I h) λus s1 ⟨vs,H1,I1,r1,q1⟩=> ?_) (by rw[hs,hs2]) (by rw[hs2];rfl)))
 obtain⟨i,j,e,⟨q1,q2,q3,q4⟩,q⟩:=q1
 subst e
 cases r1 with
 |cons r rr=>
  cases rr with
  |cons r' rr=>
   cases rr
   obtain⟨t,rfl⟩:=r
   obtain⟨t',rfl⟩:=r'
   exact call_range_2 (zy I1 q1 q2 q3 q4 q)
noncomputable def Rp(wi:TI)(g:TG)(tb:TS):TS:=λD σ H=>wi σ H λJ H1=> ∃W:Nat->Nat->St->Hp->Prop,(∃m,W 0 m σ H1)/\ ∀i m σ H,W i m σ H->
 (J.stop i H/\D.nx σ H)∨(J.go i H/\ ∃N:St->Hp->Prop,(∀σ' H',N σ' H'-> ∃m',m'<m/\W (i+1) m' σ' H')/\ ∀x H',J.zv i H x H'->g x σ H' λσ2 H2=>tb {D with nx:=N,ct:=N,bk:=D.nx} σ2 H2)
noncomputable def cQ(fp:List Addr)(h:Heap):List (Addr×Obj):=fp.filterMap λb=>(h.get? b).map λo=>(b,o)
theorem cH{fp:List Addr}{h:Heap}{b:Addr}{o:Obj}(hb:b∈fp)(e:h.get? b=some o):(b,o)∈cQ fp h:=List.mem_filterMap.mpr ⟨b,hb,by rw[e];rfl⟩
theorem jA{fp:List Addr}{h:Heap}{p:Addr×Obj}(hp:p∈cQ fp h):p.1∈fp/\h.get? p.1=some p.2:=by
 obtain⟨b,hb,e⟩:=List.mem_filterMap.mp hp
 cases q:h.get? b with
 |none=>rw[q]at e;cases e
 |some o=>
  rw[q]at e
  have e':(b,o)=p:=Option.some.inj e
  subst e'
  exact⟨hb,q⟩
theorem Inv.pinned{pins:List (Addr×Obj)}{σ:St}{H:Hp}{s:Shared}{fp:List Addr}(I:Inv X pins σ H s)(hf:∀b∈fp,fS X pins H b)(ho:∀b∈fp,∃o,s.heap.get? b=some o/\ ∀v,o.data≠ .cell v):Inv X (pins++cQ fp s.heap) σ H s:=
 I.jq λp hp=>(List.mem_append.mp hp).elim (λz=>I.pin p (List.mem_append_right _ z)) λz=>by
  obtain⟨hb,e⟩:=jA z
  obtain⟨f0,f1,f2,_⟩:=hf p.1 hb
  obtain⟨o,e',d⟩:=ho p.1 hb
  rw[e]at e';cases e'
  exact⟨e,f0,f1,f2,d⟩
theorem Inv.jG{pins pl:List (Addr×Obj)}{σ:St}{H:Hp}{s:Shared}(I:Inv X (pins++pl) σ H s):Inv X pins σ H s:=I.jq λp hp=>I.pin p (List.mem_append_right _ (List.mem_append_left _ hp))
theorem kh{iter:Expr}{body:List Stmt}{wi:TI}{g:TG}{tb:TS}{pos:Pos}(hp:PassesOwn (model X.prog X.w) X.A X.env X.xe)(hc:X.calm=true)(hi:PI X tg iter wi)(hg:PG X tg g)(hb:xR X body tb)
  (hs:∀x,foldedSetIterable iter X.env x=pure x:=by intro _;rfl):PS X (.For tg iter body [] pos) (Rp wi g tb):=by
 intro pins s σ H D I h
 refine wpAny_For (fR (hi pins s σ H _ I h) λv s1 h1=>fR h1 λitv s2 h2=> ?_) hs
 obtain⟨it,fp,tn,J,H2,e,I2,T,st2,f2,W,⟨m0,w0⟩,turn⟩:=h2
 subst e
 have Mr:∀{H':Hp},(∀b∈fp,H' b=none) -> ∀b∈fp,fS X pins H' b:=λhn b hb=>⟨hn b hb,(f2 b hb).2⟩
 refine codeAny_forLoop_any (λn s'=> ∃i σ' H',Inv X pins σ' H' s'/\tn i s'.heap/\(∀b∈fp,H' b=none)/\W i n σ' H') ?_ m0 ⟨0,σ,H2,I2,st2,λb hb=>(f2 b hb).1,w0⟩
 rintro n s3 ⟨i,σ3,H3,I3,st3,zA,w3⟩
 rcases turn i n σ3 H3 w3 with⟨stop,qn⟩|⟨go,N,hN,step⟩
 ·refine wpAny_passesOwn hp (fR (T.done X rfl rfl rfl hc i pins s3 σ3 H3 X.xe I3 (Mr zA) st3 stop) λr s4 ⟨hr,I4⟩=> ?_)
  subst hr
  exact wpAny_execs_nil ⟨σ3,H3,I4,qn⟩
 ·refine wpAny_passesOwn hp (fR (T.item X rfl rfl rfl hc i pins s3 σ3 H3 X.xe I3 (Mr zA) st3 go) λr s4 ⟨u,hr,h4⟩=> ?_)
  subst hr
  refine wpAny_passesOwn hp (fR h4 λ_ s5 ⟨x,H5,I5,r5,y5,Ex,Gr⟩=> ?_)
  have OM:=I5.pinned (Mr Gr) (T.obj _ _ Ex)
  refine wpAny_passesOwn hp (fR (hg _ s5 σ3 H5 x u _ OM r5 (step x H5 y5)) λ_ s6 ⟨GJ,H6,I6,q6⟩=> ?_)
  refine wpAny_passesOwn hp (fR (hb _ s6 GJ H6 _ I6 q6) λf s7 q7=> ?_)
  have again:∀{GK:St}{H7:Hp},Inv X (pins++cQ fp s5.heap) GK H7 s7->N GK H7-> ∃m,m<n/\ ∃i σ' H',Inv X pins σ' H' s7/\tn i s7.heap/\(∀b∈fp,H' b=none)/\W i m σ' H':=λ {GK H7} I7 n7=>by
   obtain⟨m',hm,w7⟩:=hN GK H7 n7
   refine⟨m',hm,i+1,GK,H7,I7.jG,T.keep _ _ _ Ex λb hb o e=>(I7.pin (b,o) (List.mem_append_right _ (List.mem_append_right _ (cH hb e)))).1,λb hb=> ?_,w7⟩
   obtain⟨o,e,d⟩:=T.obj _ _ Ex b hb
   exact(I7.pin (b,o) (List.mem_append_right _ (List.mem_append_right _ (cH hb e)))).2.1
  cases f with
  |next=>obtain⟨GK,H7,I7,n7⟩:=q7;exact again I7 n7
  |cont=>obtain⟨GK,H7,I7,n7⟩:=q7;exact again I7 n7
  |brk=>obtain⟨GK,H7,I7,q7⟩:=q7;exact⟨GK,H7,I7.jG,q7⟩
  |ret v=>obtain⟨x7,GK,H7,I7,r7,q7⟩:=q7;exact⟨x7,GK,H7,I7.jG,r7,q7⟩
end
theorem ql{K:PySem.W.Frag}{a:Addr}{xs:List V}{g:TG}{tb:TS}{D:Ends}{σ:St}{H:Hp}(Pv:Nat->St->Hp->Prop)(h0:Pv 0 σ H)(hl:∀i σ H,i<=xs.length->Pv i σ H->aW K H a xs)
  (hs:∀i x σ H,xs[i]?=some x->Pv i σ H->g x σ H λσ2 H2=>tb {D with nx:=Pv (i+1),ct:=Pv (i+1),bk:=D.nx} σ2 H2)(hd:∀σ H,Pv xs.length σ H->D.nx σ H):
  ∃W:Nat->Nat->St->Hp->Prop,(∃m,W 0 m σ H)/\ ∀i m σ H,W i m σ H->
   ((Mq K a).stop i H/\D.nx σ H)∨((Mq K a).go i H/\ ∃N:St->Hp->Prop,(∀σ' H',N σ' H'-> ∃m',m'<m/\W (i+1) m' σ' H')/\ ∀x H',(Mq K a).zv i H x H'->g x σ H' λσ2 H2=>tb {D with nx:=N,ct:=N,bk:=D.nx} σ2 H2):=by
 refine⟨λi m σ H=>m=xs.length-i/\i<=xs.length/\Pv i σ H,⟨xs.length,by simp,Nat.zero_le _,h0⟩,?_⟩
 rintro i m σ H ⟨rfl,hi,p⟩
 have q:=hl i σ H hi p
 by_cases hlt:i<xs.length
 ·refine .inr ⟨⟨xs,xs[i],q,by simp[hlt]⟩,Pv (i+1),λσ' H' p'=>⟨xs.length- (i+1),by omega,rfl,hlt,p'⟩,λx H' y=> ?_⟩
  obtain⟨e,y⟩:=y
  subst e
  exact hs i x σ _ (y xs q) p
 ·have e:i=xs.length:=by omega
  subst e
  exact .inl ⟨⟨xs,q,Nat.le_refl _⟩,hd σ H p⟩
theorem jB{lo:Int}{n:Nat}{g:TG}{tb:TS}{D:Ends}{σ:St}{H:Hp}(Pv:Nat->St->Hp->Prop)(h0:Pv 0 σ H)
  (hs:∀i σ H,i<n->Pv i σ H->g (.int (lo+i)) σ H λσ2 H2=>tb {D with nx:=Pv (i+1),ct:=Pv (i+1),bk:=D.nx} σ2 H2)(hd:∀σ H,Pv n σ H->D.nx σ H):
  ∃W:Nat->Nat->St->Hp->Prop,(∃m,W 0 m σ H)/\ ∀i m σ H,W i m σ H->
   ((GI lo n).stop i H/\D.nx σ H)∨((GI lo n).go i H/\ ∃N:St->Hp->Prop,(∀σ' H',N σ' H'-> ∃m',m'<m/\W (i+1) m' σ' H')/\ ∀x H',(GI lo n).zv i H x H'->g x σ H' λσ2 H2=>tb {D with nx:=N,ct:=N,bk:=D.nx} σ2 H2):=by
 refine⟨λi m σ H=>m=n-i/\i<=n/\Pv i σ H,⟨n,by simp,Nat.zero_le _,h0⟩,?_⟩
 rintro i m σ H ⟨rfl,hi,p⟩
 by_cases hlt:i<n
 ·refine .inr ⟨hlt,Pv (i+1),λσ' H' p'=>⟨n- (i+1),by omega,rfl,hlt,p'⟩,λx H' y=> ?_⟩
  obtain⟨e,y⟩:=y
  subst e y
  exact hs i σ _ hlt p
 ·have e:i=n:=by omega
  subst e
  exact .inl ⟨Nat.le_refl _,hd σ H p⟩
theorem kR{c:TT}{tb:TS}{D:Ends}{σ:St}{H:Hp}(Pv:St->Hp->Prop)(μ:St->Hp->Nat)(h0:Pv σ H)
  (hs:∀σ H,Pv σ H->c σ H λb H1=>if b=true then tb {D with nx:=λσ' H'=>Pv σ' H'/\μ σ' H'<μ σ H,ct:=λσ' H'=>Pv σ' H'/\μ σ' H'<μ σ H,bk:=D.nx} σ H1 else D.nx σ H1)
  (mono:∀σ H Q Q',(∀b H1,Q b H1->Q' b H1) ->c σ H Q->c σ H Q'):GH c tb D σ H:=by
 refine⟨λm σ H=>m=μ σ H/\Pv σ H,⟨_,rfl,h0⟩,?_⟩
 rintro m σ H ⟨rfl,p⟩
 refine mono σ H _ _ (λb H1 q=> ?_) (hs σ H p)
 cases b with
 |true=>exact⟨_,λσ' H' ⟨p',l⟩=>⟨_,l,rfl,p'⟩,q⟩
 |false=>exact q
noncomputable abbrev R2:=V->V->Hp->VK->Prop
noncomputable def tP(X:Cx)(f:Value->Value->Sem Value)(r:R2):Prop:=
 ∀(pins:List (Addr×Obj))(s:Shared)(σ:St)(H:Hp)(x y:V)(v u:Value)(Q:VK),Inv X pins σ H s->RelV x v->RelV y u->r x y H Q->
  wpAny (model X.prog X.w) X.A (f v u) (EP X pins σ Q) X.xe s
noncomputable def Rq(X:Cx)(f:Value->Sem Value)(r:V->Hp->VK->Prop):Prop:=
 ∀(pins:List (Addr×Obj))(s:Shared)(σ:St)(H:Hp)(x:V)(v:Value)(Q:VK),Inv X pins σ H s->RelV x v->r x H Q->
  wpAny (model X.prog X.w) X.A (f v) (EP X pins σ Q) X.xe s
noncomputable def sV(X:Cx)(f:Value)(r:List V->Hp->VK->Prop):Prop:=
 ∀(pins:List (Addr×Obj))(s:Shared)(σ:St)(H:Hp)(xs:List V)(us:List Value)(Q:VK),Inv X pins σ H s->Vals xs us->r xs H Q->
  wpAny (model X.prog X.w) X.A (call f us) (EP X pins σ Q) X.xe s
noncomputable def jn(r:R2)(ta tb:TE):TE:=λσ H Q=>ta σ H λx H1=>tb σ H1 λy H2=>r x y H2 Q
noncomputable def Ve(r:V->Hp->VK->Prop)(ta:TE):TE:=λσ H Q=>ta σ H λx H1=>r x H1 Q
inductive ZI(C:Int->Int->Prop)(g:Int->Int->V)(x y:V)(H:Hp)(Q:VK):Prop
 |mk(i j:Int)(ex:x= .int i)(ey:y= .int j)(c:C i j)(q:Q (g i j) H)
noncomputable def rI(C:Int->Int->Prop)(g:Int->Int->V):R2:=ZI C g
inductive Vf(g:Int->Int->V)(x y:V)(H:Hp)(Q:VK):Prop
 |mk(i j:Int)(ex:x= .int i)(ey:y= .int j)(q:Q (g i j) H)
noncomputable def Di(g:Int->Int->V):R2:=Vf g
inductive ZU(g:Int->V)(x:V)(H:Hp)(Q:VK):Prop
 |mk(i:Int)(ex:x= .int i)(q:Q (g i) H)
noncomputable def rU(g:Int->V):V->Hp->VK->Prop:=ZU g
section
variable{X:Cx}{a b c:Expr}{ta tb tc:TE}{pos:Pos}
theorem Ms(ha:PE X a ta)(hb:PE X b tb){pins:List (Addr×Obj)}{s:Shared}{σ:St}{H:Hp}{R:V->V->Hp->Prop}(I:Inv X pins σ H s)
  (h:ta σ H λx H1=>tb σ H1 λy H2=>R x y H2){Q:Value->Shared->Prop}{f:Value->Value->Sem Value}
  (hf:∀v u s2 x y H2,Inv X pins σ H2 s2->RelV x v->RelV y u->R x y H2->wpAny (model X.prog X.w) X.A (f v u) Q X.xe s2):
  wpAny (model X.prog X.w) X.A (eval a X.env) (λv s₁=>wpAny (model X.prog X.w) X.A (eval b X.env) (λu s₂=>wpAny (model X.prog X.w) X.A (f v u) Q X.xe s₂) X.xe s₁) X.xe s:=by
 refine fR (ha pins s σ H _ I h) λv s1 ⟨x,H1,I1,r1,q1⟩=> ?_
 refine fR (hb pins s1 σ H1 _ I1 q1) λu s2 ⟨y,H2,I2,r2,q2⟩=> ?_
 exact hf v u s2 x y H2 I2 r1 r2 q2
theorem ai{op:Operator}{r:R2}(ho:tP X (binaryOp op) r)(ha:PE X a ta)(hb:PE X b tb):PE X (.BinOp a op b pos) (jn r ta tb):=by
 intro pins s σ H Q I h
 exact wpAny_BinOp (Ms ha hb I h λv u s2 x y H2 I2 rx ry q=>ho pins s2 σ H2 x y v u Q I2 rx ry q)
theorem Dj{op:UnaryOp}{r:V->Hp->VK->Prop}(ho:Rq X (unaryOp op) r)(ha:PE X a ta):PE X (.UnaryOp op a pos) (Ve r ta):=by
 intro pins s σ H Q I h
 exact UnaryOp_ (fR (ha pins s σ H _ I h) λv s1 ⟨x,H1,I1,r1,q1⟩=>ho pins s1 σ H1 x v Q I1 r1 q1)
theorem Mt{f:Value->Value->Sem Value}{C:Int->Int->Prop}{g:Int->Int->Int}
  (rule:∀(i j:Int)(t u:Tok)(s:Shared)(Q:Value->Shared->Prop)(E:Value->Shared->Prop),C i j->Q (.int (g i j) s.toks) {s with toks:=s.toks+1} ->wpAny (model X.prog X.w) X.A (f (.int i t) (.int j u)) Q E s):
  tP X f (rI C λi j=> .int (g i j)):=by
 intro pins s σ H x y v u Q I rx ry h
 obtain⟨i,j,rfl,rfl,hc,q⟩:=h
 obtain⟨t,rfl⟩:=rx
 obtain⟨t',rfl⟩:=ry
 exact rule i j t t' s _ _ hc ⟨.int (g i j),H,I.tok _,⟨_,rfl⟩,q⟩
theorem ON{f:Value->Value->Sem Value}{g:Int->Int->Int}
  (rule:∀(i j:Int)(t u:Tok)(s:Shared)(Q:Value->Shared->Prop)(E:Value->Shared->Prop),Q (.int (g i j) s.toks) {s with toks:=s.toks+1} ->wpAny (model X.prog X.w) X.A (f (.int i t) (.int j u)) Q E s):
  tP X f (Di λi j=> .int (g i j)):=by
 intro pins s σ H x y v u Q I rx ry h
 obtain⟨i,j,rfl,rfl,q⟩:=h
 obtain⟨t,rfl⟩:=rx
 obtain⟨t',rfl⟩:=ry
 exact rule i j t t' s _ _ ⟨.int (g i j),H,I.tok _,⟨_,rfl⟩,q⟩
theorem JM{f:Value->Value->Sem Value}{g:Int->Int->Bool}
  (rule:∀(i j:Int)(t u:Tok)(s:Shared)(Q:Value->Shared->Prop)(E:Value->Shared->Prop),Q (.bool (g i j)) s->wpAny (model X.prog X.w) X.A (f (.int i t) (.int j u)) Q E s):
  tP X f (Di λi j=> .bl (g i j)):=by
 intro pins s σ H x y v u Q I rx ry h
 obtain⟨i,j,rfl,rfl,q⟩:=h
 obtain⟨t,rfl⟩:=rx
 obtain⟨t',rfl⟩:=ry
 exact rule i j t t' s _ _ ⟨.bl (g i j),H,I,rfl,q⟩
noncomputable def OO(i j:Int):Prop:=0<j/\j<1073741824
noncomputable def OP(i j:Int):Prop:=0<=j/\j<=1000000/\i.natAbs<2^64
noncomputable def JN(i j:Int):Prop:=(-(2^64)<i/\i<2^64)∨(-(2^64)<j/\j<2^64)
theorem JN.ok{i j:Int}(h:JN i j):IntMulOk i j:=by
 rcases h with⟨h1,h2⟩|⟨h1,h2⟩
 ·exact .of_left (intBits_le_64 h1 h2)
 ·exact .of_right (intBits_le_64 h1 h2)
theorem aP:tP X (binaryOp .Add) (Di λi j=> .int (i+j)):=ON λ_ _ _ _ _ _ _ q=>add_int q
theorem bW:tP X (binaryOp .Sub) (Di λi j=> .int (i-j)):=ON λ_ _ _ _ _ _ _ q=>sub_int q
theorem br:tP X (binaryOp .Mult) (rI JN λi j=> .int (i*j)):=Mt λ_ _ _ _ _ _ _ hc q=>mul_int q hc.ok
theorem bT:tP X (binaryOp .FloorDiv) (rI OO λi j=> .int (i/j)):=Mt λi j _ _ _ _ _ hc q=>by
 have h1:(0:Int)<j:=hc.1
 have h2:j<1073741824:=hc.2
 exact floordiv_int (by omega) (by rw[Int.fdiv_eq_ediv_of_nonneg i (by omega)];exact q) (.inl (PyProof.noPylong_small (by omega)))
theorem c9:tP X (binaryOp .Mod) (rI (λ_ j=>0<j) λi j=> .int (i%j)):=Mt λi j _ _ _ _ _ hc q=>by
 have h1:(0:Int)<j:=hc
 exact mod_int' (by omega) (by rw[Int.fmod_eq_emod_of_nonneg i (by omega)];exact q)
theorem Mu:tP X (binaryOp .Pow) (rI OP λi j=> .int (i^j.toNat)):=Mt λ_ _ _ _ _ _ _ hc q=>pow_int_small hc.1 hc.2.1 hc.2.2 q
theorem Mv:tP X (binaryOp .LShift) (rI OP λi j=> .int (i*2^j.toNat)):=Mt λ_ _ _ _ _ _ _ hc q=>lshift_int_small hc.1 hc.2.1 hc.2.2 q
theorem Vg{f:Value->Sem Value}{g:Int->Int}
  (rule:∀(i:Int)(t:Tok)(s:Shared)(Q:Value->Shared->Prop)(E:Value->Shared->Prop),Q (.int (g i) s.toks) {s with toks:=s.toks+1} ->wpAny (model X.prog X.w) X.A (f (.int i t)) Q E s):
  Rq X f (rU λi=> .int (g i)):=by
 intro pins s σ H x v Q I rx h
 obtain⟨i,rfl,q⟩:=h
 obtain⟨t,rfl⟩:=rx
 exact rule i t s _ _ ⟨.int (g i),H,I.tok _,⟨_,rfl⟩,q⟩
theorem xT:Rq X (unaryOp .USub) (rU λi=> .int (-i)):=Vg λ_ _ _ _ _ q=>neg_int q
end
noncomputable def OQ:V->V->Bool
 | .iW,.iW=>true| .iW,.int _=>true| .int _,.iW=>true| .iW,.bl _=>true| .bl _,.iW=>true| .iW,.str _=>true| .str _,.iW=>true
 | .int _,.int _=>true| .bl _,.bl _=>true| .str _,.str _=>true| .Gx _,.Gx _=>true
 | .int _,.str _=>true| .str _,.int _=>true| .bl _,.str _=>true| .str _,.bl _=>true
 |_,_=>false
noncomputable def Tw:R2:=λx y H Q=>OQ x y=true/\Q (.bl (decide (x=y))) H
noncomputable def Vh:R2:=λx y H Q=>OQ x y=true/\Q (.bl (!decide (x=y))) H
theorem Dk{i j:Int}:decide (V.int i=V.int j)=(i==j):=by
 rw[Bool.eq_iff_iff]
 simp
theorem GL{i j:Bool}:decide (V.bl i=V.bl j)=(i==j):=by
 rw[Bool.eq_iff_iff]
 simp
theorem Dl{i j:Str}:decide (V.str i=V.str j)=(i==j):=by
 rw[Bool.eq_iff_iff]
 simp
theorem Dm{i j:Array UInt8}:decide (V.Gx i=V.Gx j)=(i.toList==j.toList):=by
 rw[Bool.eq_iff_iff]
 cases i
 cases j
 simp
section
variable{X:Cx}{a b c:Expr}{ta tb tc:TE}{pos:Pos}
theorem cI{pins:List (Addr×Obj)}{σ:St}{H:Hp}{s:Shared}{Q:VK}{k k':Bool}(I:Inv X pins σ H s)(q:Q (.bl k) H)(e:k=k'):EP X pins σ Q (.bool k') s:=by
 subst e
 exact⟨.bl k,H,I,rfl,q⟩
theorem wV:tP X (compareOp .Eq) Tw:=by
 intro pins s σ H x y v u Q I rx ry h
 obtain⟨hs,q⟩:=h
 cases x with
 |iW=>
  cases rx
  cases y with
  |iW=>cases ry;exact PySem.EqNone.eq_none_none (cI I q (by simp))
  |bl j=>cases ry;exact PySem.EqNone.eq_none_bool (cI I q (by simp))
  |int j=>obtain⟨t',rfl⟩:=ry;exact PySem.EqNone.eq_none_int (cI I q (by simp))
  |str j=>obtain⟨t',rfl⟩:=ry;exact PySem.EqNone.eq_none_str (cI I q (by simp))
  |_=>exact absurd (show false=true from hs) Bool.false_ne_true
 |bl i=>
  cases rx
  cases y with
  |iW=>cases ry;exact PySem.EqNone.eq_bool_none (cI I q (by simp))
  |bl j=>cases ry;exact eq_bool (cI I q GL)
  |str j=>obtain⟨t',rfl⟩:=ry;exact PySem.EqMixed.eq_bool_str (cI I q (by simp))
  |_=>exact absurd (show false=true from hs) Bool.false_ne_true
 |int i=>
  obtain⟨t,rfl⟩:=rx
  cases y with
  |iW=>cases ry;exact PySem.EqNone.eq_int_none (cI I q (by simp))
  |int j=>obtain⟨t',rfl⟩:=ry;exact eq_int (cI I q Dk)
  |str j=>obtain⟨t',rfl⟩:=ry;exact PySem.EqMixed.eq_int_str (cI I q (by simp))
  |_=>exact absurd (show false=true from hs) Bool.false_ne_true
 |str i=>
  obtain⟨t,rfl⟩:=rx
  cases y with
  |iW=>cases ry;exact PySem.EqNone.eq_str_none (cI I q (by simp))
  |bl j=>cases ry;exact PySem.EqMixed.eq_str_bool (cI I q (by simp))
  |int j=>obtain⟨t',rfl⟩:=ry;exact PySem.EqMixed.eq_str_int (cI I q (by simp))
  |str j=>obtain⟨t',rfl⟩:=ry;exact eq_str (cI I q Dl)
  |_=>exact absurd (show false=true from hs) Bool.false_ne_true
 |Gx i=>
  obtain⟨t,rfl⟩:=rx
  cases y with
  |Gx j=>obtain⟨t',rfl⟩:=ry;exact PySem.W.eq_bytes (cI I q Dm)
  |_=>exact absurd (show false=true from hs) Bool.false_ne_true
 |_=>cases y<;>exact absurd (show false=true from hs) Bool.false_ne_true
theorem GN:tP X (compareOp .NotEq) Vh:=by
 intro pins s σ H x y v u Q I rx ry h
 obtain⟨hs,q⟩:=h
 cases x with
 |iW=>
  cases rx
  cases y with
  |iW=>cases ry;exact PySem.EqNone.ne_none_none (cI I q (by simp))
  |bl j=>cases ry;exact PySem.EqNone.ne_none_bool (cI I q (by simp))
  |int j=>obtain⟨t',rfl⟩:=ry;exact PySem.EqNone.ne_none_int (cI I q (by simp))
  |str j=>obtain⟨t',rfl⟩:=ry;exact PySem.EqNone.ne_none_str (cI I q (by simp))
  |_=>exact absurd (show false=true from hs) Bool.false_ne_true
 |bl i=>
  cases rx
  cases y with
  |iW=>cases ry;exact PySem.EqNone.ne_bool_none (cI I q (by simp))
  |bl j=>cases ry;exact ne_bool (cI I q (congrArg not GL))
  |str j=>obtain⟨t',rfl⟩:=ry;exact PySem.EqMixed.ne_bool_str (cI I q (by simp))
  |_=>exact absurd (show false=true from hs) Bool.false_ne_true
 |int i=>
  obtain⟨t,rfl⟩:=rx
  cases y with
  |iW=>cases ry;exact PySem.EqNone.ne_int_none (cI I q (by simp))
  |int j=>obtain⟨t',rfl⟩:=ry;exact ne_int (cI I q (congrArg not Dk))
  |str j=>obtain⟨t',rfl⟩:=ry;exact PySem.EqMixed.ne_int_str (cI I q (by simp))
  |_=>exact absurd (show false=true from hs) Bool.false_ne_true
 |str i=>
  obtain⟨t,rfl⟩:=rx
  cases y with
  |iW=>cases ry;exact PySem.EqNone.ne_str_none (cI I q (by simp))
  |bl j=>cases ry;exact PySem.EqMixed.ne_str_bool (cI I q (by simp))
  |int j=>obtain⟨t',rfl⟩:=ry;exact PySem.EqMixed.ne_str_int (cI I q (by simp))
  |str j=>obtain⟨t',rfl⟩:=ry;exact ne_str (cI I q (congrArg not Dl))
  |_=>exact absurd (show false=true from hs) Bool.false_ne_true
 |Gx i=>
  obtain⟨t,rfl⟩:=rx
  cases y with
  |Gx j=>obtain⟨t',rfl⟩:=ry;exact PySem.W.ne_bytes (cI I q (congrArg not Dm))
  |_=>exact absurd (show false=true from hs) Bool.false_ne_true
 |_=>cases y<;>exact absurd (show false=true from hs) Bool.false_ne_true
theorem LA:tP X (compareOp .Lt) (Di λi j=> .bl (decide (i<j))):=JM λ_ _ _ _ _ _ _ q=>lt_int q
theorem uy:tP X (compareOp .LtE) (Di λi j=> .bl (decide (i<=j))):=JM λ_ _ _ _ _ _ _ q=>le_int q
theorem oZ:tP X (compareOp .Gt) (Di λi j=> .bl (decide (j<i))):=JM λ_ _ _ _ _ _ _ q=>gt_int q
theorem Dn:tP X (compareOp .GtE) (Di λi j=> .bl (decide (j<=i))):=JM λ_ _ _ _ _ _ _ q=>ge_int q
theorem Mw:tP X (compareOp .Is) (λx y H Q=>y= .iW/\Q (.bl (decide (x= .iW))) H):=by
 intro pins s σ H x y v u Q I rx ry h
 obtain⟨rfl,q⟩:=h
 cases ry
 refine is_none_gen (cI I q ?_)
 cases x<;>first
  |(cases rx;rfl)
  |(obtain⟨t,rfl⟩:=rx;rfl)
theorem cg(b:Expr){op:CmpOp}(h:op≠ .In:=by decide)(h2:op≠ .NotIn:=by decide):behindInMarks op b=false:=by
 have e1:(op==CmpOp.In)=false:=by cases op<;>first|rfl|exact absurd rfl h
 have e2:(op==CmpOp.NotIn)=false:=by cases op<;>first|rfl|exact absurd rfl h2
 cases b<;>simp[behindInMarks,e1,e2]
theorem qm{op:CmpOp}{r:R2}(ho:tP X (compareOp op) r)(ha:PE X a ta)(hb:PE X b tb)(hm:behindInMarks op b=false):PE X (.Compare a [op] [b] pos) (jn r ta tb):=by
 intro pins s σ H Q I h
 exact wpAny_Compare1 (Ms ha hb I h λv u s2 x y H2 I2 rx ry q=>ho pins s2 σ H2 x y v u Q I2 rx ry q) hm
noncomputable def LB(t:TE):TT:=λσ H Q=>t σ H λx H1=>Tq x λc=>Q c H1
theorem bO{op:CmpOp}{r:R2}(ho:tP X (compareOp op) r)(ha:PE X a ta)(hb:PE X b tb)(hm:behindInMarks op b=false):PT X (.Compare a [op] [b] pos) (LB (jn r ta tb)):=by
 intro pins s σ H Q I h
 refine wpAny_isTrue_Compare1 (fR (ha pins s σ H _ I h) λv s1 ⟨x,H1,I1,r1,q1⟩=>fR (hb pins s1 σ H1 _ I1 q1) λu s2 ⟨y,H2,I2,r2,q2⟩=>
  fR (ho pins s2 σ H2 x y v u _ I2 r1 r2 q2) λc s3 ⟨z,H3,I3,r3,k,e,q3⟩=> ?_) hm
 subst e
 cases r3
 exact wpAny_truthy_bool ⟨H3,I3,q3⟩
theorem xU:(sizeLine:Nat)<2^63:=by rw[sizeLine_eq];decide
theorem vals1{x:V}{us:List Value}(r:Vals [x] us):∃u,us=[u]/\RelV x u:=by
 cases r with
 |cons r1 r2=>cases r2;exact⟨_,rfl,r1⟩
theorem GO:sV X (.builtin "abs") (λxs H Q=> ∃i,xs=[.int i]/\Q (.int (if i<0 then-i else i)) H):=by
 intro pins s σ H xs us Q I r h
 obtain⟨i,rfl,q⟩:=h
 obtain⟨u,rfl,t,rfl⟩:=vals1 r
 exact call_abs_int λu tk=>⟨.int (if i<0 then-i else i),H,I.tok _,⟨_,rfl⟩,q⟩
theorem Ey:sV X (.type "int") (λxs H Q=>(∃i,xs=[.int i]/\Q (.int i) H)∨ ∃k,xs=[.bl k]/\Q (.int (if k then 1 else 0)) H):=by
 intro pins s σ H xs us Q I r h
 rcases h with⟨i,rfl,q⟩|⟨k,rfl,q⟩
 ·obtain⟨u,rfl,t,rfl⟩:=vals1 r
  exact call_int_int ⟨.int i,H,I,⟨_,rfl⟩,q⟩
 ·obtain⟨u,rfl,r1⟩:=vals1 r
  cases r1
  exact call_int_bool ⟨.int (if k then 1 else 0),H,I.tok _,⟨_,rfl⟩,q⟩
end
structure Mx(h:Heap)(x dx C:Addr)(mA:Str->Option Value):Prop where
 obj:h.get? x=some (PySem.W.instObj C dx)
 ns:h.Ns1 dx mA
 ne:dx≠x
theorem Ez{h:Heap}{dx:Addr}{mA:Str->Option Value}(n:h.Ns1 dx mA):∃od,h.get? dx=some od/\ ∀name,PySem.W.lookIn name od=some (mA name):=by
 obtain⟨o,es,ep,ho,hd,hk,_,hm⟩:=n
 refine⟨o,ho,λname=> ?_⟩
 have e:=hm name
 unfold nsFind findBy at e
 rw[<-Array.find?_toList]at e
 unfold PySem.W.lookIn
 rw[hd]
 dsimp only
 split
 ·rename_i y q
  rw[q]at e
  exact congrArg some e
 ·rename_i q
  rw[q]at e
  have a:es.toList.any (·.refKey)=false:=by
   rw[List.any_eq_false]
   intro y hy
   obtain⟨z,t,hkey⟩:=hk y (Array.mem_toList_iff.mp hy)
   simp[DictEntry.refKey,hkey]
  have a':¬es.toList.any (·.refKey)=true:=by rw[a];exact Bool.false_ne_true
  rw[if_neg a']
  exact congrArg some e
theorem Mx.look{h:Heap}{x dx C:Addr}{mA:Str->Option Value}(I:Mx h x dx C mA):∃od,PySem.W.InstAt h x (PySem.W.instObj C dx) C (some od)/\ ∀name,PySem.W.lookIn name od=some (mA name):=
 let⟨od,ho,hl⟩:=Ez I.ns
 ⟨od,⟨I.obj,rfl,rfl,ho⟩,hl⟩
section
variable{prog:Program}{w:World}{A:Around}{E:Value->Shared->Prop}{s:Shared}{K:PySem.W.Frag}{x dx C f:Addr}{mA:Str->Option Value}{name:Str}{v:Value}
end
section
variable{P:Program}{w:World}{H H':Hp}{h h':Heap}{a C dx:Addr}{fs fs':List (Str×V)}
theorem JO(hok:t7 P w H h)(e:H a=some (.ins C dx fs)):∃mA,Mx h a dx C mA/\(∀f,Me (fs.lookup f) (mA f))/\PySem.Within mA (fs.map (·.1))/\fs.length<=1000/\H dx=some (.own a):=by
 obtain⟨d,z,ne,ob,mA,n,r,q⟩:=(show fm P w H h a (.ins C dx fs)from hok a _ e)
 exact⟨mA,⟨ob,n,ne⟩,r,q,z,d⟩
end
structure Rt(K:PySem.W.Frag)(C:Addr):Prop where
 pg:PySem.W.plainGet K C Str.empty=true
 hd:PySem.W.hasDictIn K C=true
 po:PySem.W.plainOver K C=true
 sa:PySem.W.findIn K (.ref C) "__setattr__"=some (some (.builtin "object.__setattr__"))
theorem Rt.get{K:PySem.W.Frag}{C:Addr}(c:Rt K C)(f:Str):PySem.W.plainGet K C f=true:=c.pg
section
variable{X:Cx}{pins:List (Addr×Obj)}{σ:St}{H:Hp}{s:Shared}{a C dx:Addr}{fs:List (Str×V)}{f:Str}{v:V}{A:Around}{E:Value->Shared->Prop}
end
section
variable{X:Cx}{o e value:Expr}{f:Str}{pos pos' tpos:Pos}{ta tv:TE}
end
section
variable{X:Cx}{pins:List (Addr×Obj)}{σ:St}{H:Hp}{s:Shared}{A:Around}{E:Value->Shared->Prop}{Q:Value->Shared->Prop}{c:Value}{b:Bool}
inductive qo(K:PySem.W.Frag)(H:Hp):V->Value->Prop where
 |iW:qo K H .iW (.type "NoneType")
 |bl(x:Bool):qo K H (.bl x) (.type "bool")
 |int(i:Int):qo K H (.int i) (.type "int")
 |str(x:Str):qo K H (.str x) (.type "str")
 |NX(x:UInt64):qo K H (.NX x) (.type "float")
 |lst{a:Addr}{xs:List V}(e:H a=some (.lst xs)):qo K H (.ref a) (.type "list")
 |xP{a:Addr}{o:Obj}{xs:List V}(e:H a=some (.xP o (.lst xs))):qo K H (.ref a) (.type "list")
 |tup{a:Addr}{xs:List V}(e:H a=some (.tup xs)):qo K H (.ref a) (.type "tuple")
 |dK{a:Addr}{kvs:List (Key×V)}(e:H a=some (.dK kvs)):qo K H (.ref a) (.type "dict")
 |dT{a:Addr}{kvs:List (List Key×V)}(e:H a=some (.dT kvs)):qo K H (.ref a) (.type "dict")
 |ins{a C dx:Addr}{fs:List (Str×V)}(e:H a=some (.ins C dx fs))(cl:Rt K C)(ha:PySem.W.findIn K (.ref C) "__class__"=some (some (.builtin "object.__class__")))
   (hn:PySem.W.specialIn K (.builtin "object.__class__") "__get__"=some (some (.builtin "getset_descriptor.__get__"))) (htk:PySem.W.takesIn K (.builtin "object.__class__")=some true)
   (hm:PySem.W.mroIn K C (.type "object")=some true):qo K H (.ref a) (.ref C)
theorem EA{x:V}{u t:Value}(I:Inv X pins σ H s)(rx:RelV x u)(ty:qo X.K H x t)(e:PySem.W.kitOne X.K t c=some b)(h:∀tk,Q (.bool b) {s with toks:=tk}):
  wpAny (model X.prog X.w) A (call (.builtin "isinstance") [u,c]) Q E s:=by
 cases ty with
 |iW=>cases(show u=Value.none from rx);exact PySem.W.kia_one PySem.W.kitx_none I.xQ True.intro e (λz=>nomatch z) h
 |bl y=>cases(show u=Value.bool y from rx);exact PySem.W.kia_one PySem.W.kitx_bool I.xQ True.intro e (λz=>nomatch z) h
 |int i=>obtain⟨t,q⟩:=(show ∃t,u=Value.int i t from rx);cases q;exact PySem.W.kia_one PySem.W.kitx_int I.xQ True.intro e (λz=>nomatch z) h
 |str y=>obtain⟨t,q⟩:=(show ∃t,u=Value.str y t from rx);cases q;exact PySem.W.kia_one PySem.W.kitx_str I.xQ True.intro e (λz=>nomatch z) h
 |NX y=>obtain⟨t,q⟩:=(show ∃t,u=Value.float y t from rx);cases q;exact PySem.W.kia_one PySem.W.kitx_float I.xQ True.intro e (λz=>nomatch z) h
 | @lst a xs ea=>
  cases(show u=Value.ref a from rx)
  obtain⟨_,_,n,_,h1⟩:=(show fm X.prog X.w H s.heap a (.lst xs)from I.hok a _ ea)
  exact PySem.W.kia_one PySem.W.kitx_list I.xQ ⟨_,h1,rfl⟩ e (λz=>nomatch z) h
 | @xP a ob xs ea=>
  cases(show u=Value.ref a from rx)
  obtain⟨_,_,_,n,_,h1⟩:=(show fm X.prog X.w H s.heap a (.xP ob (.lst xs))from I.hok a _ ea)
  exact PySem.W.kia_one PySem.W.kitx_list I.xQ ⟨_,h1,rfl⟩ e (λz=>nomatch z) h
 | @tup a xs ea=>
  cases(show u=Value.ref a from rx)
  obtain⟨_,_,_,p⟩:=(show fm X.prog X.w H s.heap a (.tup xs)from I.hok a _ ea)
  obtain⟨o,h1,h2,_⟩:=p
  exact PySem.W.kia_one PySem.W.kitx_tuple I.xQ ⟨o,h1,h2⟩ e (λz=>nomatch z) h
 | @dK a kvs ea=>
  cases(show u=Value.ref a from rx)
  obtain⟨_,_,vs,_,p⟩:=(show fm X.prog X.w H s.heap a (.dK kvs)from I.hok a _ ea)
  obtain⟨o,es,ep,h1,h2,_⟩:=p
  exact PySem.W.kia_one PySem.W.kitx_dict I.xQ ⟨o,h1,h2.1⟩ e (λz=>nomatch z) h
 | @dT a kvs ea=>
  cases(show u=Value.ref a from rx)
  obtain⟨_,_,xs,_,o,es,ep,h1,h2,_⟩:=(show fm X.prog X.w H s.heap a (.dT kvs)from I.hok a _ ea)
  exact PySem.W.kia_one PySem.W.kitx_dict I.xQ ⟨o,h1,h2.1⟩ e (λz=>nomatch z) h
 | @ins a C dx fs ea cl ha hn htk hm=>
  cases(show u=Value.ref a from rx)
  obtain⟨mA,O,_⟩:=JO I.hok ea
  obtain⟨od,J,_⟩:=O.look
  exact PySem.W.kia_one (PySem.W.kitx_own (cl.get _) cl.hd ha hn htk hm) I.xQ J e (λz=>nomatch z) h
end
structure fE(k:Nat)(A:Around):Prop where
 hd:A.handled=none
 dp:A.depth+3*k+5<recursionLimit
 un:A.units+16*k+200<cLine
theorem fE.mono{j k:Nat}{A:Around}(r:fE k A)(h:j<=k):fE j A:=⟨r.hd,by have:=r.dp;omega,by have:=r.un;omega⟩
theorem fE.deeper{k:Nat}{A:Around}(r:fE (k+1) A)(env:Env):fE k (A.deeper env):=
 ⟨r.hd,by have:=r.dp;show A.depth+1+3*k+5<_;omega,by have:=r.un;show A.units+3+16*k+200<_;omega⟩
theorem fE.in1{k:Nat}{A:Around}(r:fE (k+1) A):fE k A.in1:=
 ⟨r.hd,by have:=r.dp;show A.depth+3*k+5<_;omega,by have:=r.un;show A.units+1+16*k+200<_;omega⟩
theorem fE.depth{k:Nat}{A:Around}(r:fE k A):A.depth<recursionLimit:=by have:=r.dp;omega
theorem fE.units{k:Nat}{A:Around}(r:fE k A):A.units+64<cLine:=by have:=r.un;omega
noncomputable def kT:TA:=λ_ H Q=>Q [] H
noncomputable def eE(ta:TE)(tr:TA):TA:=λσ H Q=>ta σ H λx H1=>tr σ H1 λxs H2=>Q (x::xs) H2
section
variable{X:Cx}{e:Expr}{es:List Expr}{te:TE}{t:TA}{pos:Pos}
theorem ak:PA X [] kT:=λ_ _ _ _ H Q I h=>Calls.spliced_nil ⟨[],H,I,.nil,h⟩
theorem af(ha:PE X e te)(hr:PA X es t)(hs:starEach (e::es) X.env=(false,eval e X.env)::starEach es X.env:=by rfl):PA X (e::es) (eE te t):=by
 intro pos pins s σ H Q I h
 rw[hs]
 show wpAny _ _ (spliced ((false,eval e X.env)::backTo pos (starEach es X.env))) _ _ s
 refine Calls.spliced_cons (fR (ha pins s σ H _ I h) λu s1 ⟨x,H1,I1,r1,q1⟩=> ?_)
 exact fR (hr pos pins s1 σ H1 _ I1 q1) λus s2 ⟨xs,H2,I2,r2,q2⟩=>⟨x::xs,H2,I2,.cons r1 r2,q2⟩
noncomputable def Ru(t:TA):TE:=λσ H Q=>t σ H λxs H1=>xs.length<=sizeLine/\ ∀p,H1 p=none->Q (.ref p) (upd H1 p (.tup xs))
noncomputable def OR(t:TA):TE:=λσ H Q=>t σ H λxs H1=>xs.length<=sizeLine/\ ∀p,H1 p=none->Q (.ref p) (upd H1 p (.lst xs))
theorem pF{x1}(h:PA X es t):PE X (.Tuple es x1 pos) (Ru t):=by
 intro pins s σ H Q I hq
 refine wpAny_Tuple_spliced (fR (h pos pins s σ H _ I hq) λus s1 ⟨xs,H1,I1,r,z,q⟩=>⟨by rw[<-r.length];exact z,?_⟩)
 have hf:H1 s1.heap.objs.size=none:=I1.hok.fresh (Nat.le_refl _)
 refine⟨.ref s1.heap.objs.size,upd H1 s1.heap.objs.size (.tup xs),I1.laid (t':=s1.toks) (λb u e=>Heap.get?_push_of_some _ e) (Nat.le_refl _) ?_,rfl,q _ hf⟩
 exact⟨z,us,r,⟨_,Heap.get?_push_size _ rfl,rfl,_,rfl⟩⟩
theorem cV(h:PA X es t):PE X (.List es pos) (OR t):=by
 intro pins s σ H Q I hq
 refine wpAny_List_spliced (fR (h pos pins s σ H _ I hq) λus s1 ⟨xs,H1,I1,r,z,q⟩=>⟨by rw[<-r.length];exact z,?_⟩)
 have hf:H1 s1.heap.objs.size=none:=I1.hok.fresh (Nat.le_refl _)
 refine⟨.ref s1.heap.objs.size,upd H1 s1.heap.objs.size (.lst xs),I1.laid (t':=s1.toks) (λb u e=>Heap.get?_push_of_some _ e) (Nat.le_refl _) ?_,rfl,q _ hf⟩
 exact⟨z,us,0,r,Heap.get?_push_size _ rfl⟩
end
noncomputable abbrev Sp:=List V->Hp->VK->XK->Prop
noncomputable abbrev EB:=List Env->Hp->Shared->XK->Value->Shared->Prop
structure JP(P:Program)(w:World)(K:PySem.W.Frag)(mg:Str->Option Value)(base:Heap)(A:Around)(outer:List Env)(s:Shared)(H:Hp):Prop where
 frames:A.frames=some outer
 mod:Mod K mg base
 bs:∀b o,base.get? b=some o->s.heap.get? b=some o/\H b=none
 JJ:base.objs.size<=s.heap.objs.size
 tO:s.heap.FunFrames base outer
 Oa:∀b∈frs outer,H b=none
 hok:t7 P w H s.heap
 bare:AllBare s.gens
noncomputable def CE(outer:List Env)(P:Program)(w:World)(H:Hp)(s:Shared)(Q:VK)(u:Value)(s':Shared):Prop:=
 ∃v H',s'.os=s.os/\Gz s.gens s'.gens/\Un (frs outer) [] H H' s.heap s'.heap/\t7 P w H' s'.heap/\RelV v u/\Q v H'
noncomputable def CR(CX:EB)(outer:List Env)(P:Program)(w:World)(H:Hp)(s:Shared)(Q:VK)(E:XK)(r:Result)(s':Shared):Prop:=
 match r with
 | .ok (.ret u)=>CE outer P w H s Q u s'
 | .ok _=>False
 | .error e=>CX outer H s E e s'
structure qp(P:Program)(w:World)(K:PySem.W.Frag)(mg:Str->Option Value)(base:Heap)(CX:EB)(k:Nat)(f:Addr)(fd:FuncData)(ps:List Str)(sp:Sp):Prop where
 len:∀vs H Q E,sp vs H Q E->vs.length=ps.length
 run:∀(A:Around)(outer:List Env)(s:Shared)(H:Hp)(args:Args)(us:List Value)(vs:List V)(Q:VK)(E:XK),fE k A->JP P w K mg base A outer s H->BindsTo s fd args (ps.zip us) ->Vals vs us->sp vs H Q E->
  codeAny (model P w) A (.call (.ref f) args) (CR CX outer P w H s Q E) s
theorem qp.mono{P:Program}{w:World}{K:PySem.W.Frag}{mg:Str->Option Value}{base:Heap}{CX:EB}{j k:Nat}{f:Addr}{fd:FuncData}{ps:List Str}{sp:Sp}(F:qp P w K mg base CX j f fd ps sp)(h:j<=k):
  qp P w K mg base CX k f fd ps sp:=⟨F.len,λA outer s H args us vs Q E hr=>F.run A outer s H args us vs Q E (hr.mono h)⟩
section
variable{X:Cx}{pins:List (Addr×Obj)}{σ:St}{H:Hp}{s s':Shared}
theorem Inv.Rv(I:Inv X pins σ H s):JP X.prog X.w X.K X.mg X.base X.A X.stack s H:=
 ⟨I.ok.frames,I.ok.mod,I.bs,Nat.le_trans I.ok.JJ I.sz,I.stack,I.t8,I.hok,I.bare.bare⟩
theorem Inv.after{Q:VK}{u:Value}(I:Inv X pins σ H s)(h:CE X.stack X.prog X.w H s Q u s'):EP X pins σ Q u s':=by
 obtain⟨v,H',os,bare,un,hok,r,q⟩:=h
 obtain⟨hh,g,d,t,os'⟩:=s'
 obtain rfl:os'=s.os:=os
 exact⟨v,H',I.call (h':=hh) (g':=g) (d':=d) (t':=t) (ch:=[]) un hok bare (λb z=>absurd z (by simp)),r,q⟩
end
noncomputable def mT(sp:Sp)(LC:List V)(E:XK)(t:TA):TE:=λσ H Q=>t σ H λvs H1=>sp (vs++LC) H1 Q E
noncomputable def Binds(K:PySem.W.Frag)(fd:FuncData)(ps:List Str)(ds:List Value):Prop:=
 ∀(s:Shared)(us:List Value),K.In s.heap->(us++ds).length=ps.length->BindsTo s fd ⟨us,[]⟩ (ps.zip (us++ds))
theorem Binds.all{K:PySem.W.Frag}{fd:FuncData}{ps:List Str}(h:∀us:List Value,us.length=ps.length->bindArgs fd ⟨us,[]⟩=pure (ps.zip us)):Binds K fd ps []:=λs us _ hl=>by
 rw[List.append_nil]at hl ⊢
 exact .of_eq (h us hl)
noncomputable def Passes(CX:EB)(X:Cx)(E:XK):Prop:=∀(pins:List (Addr×Obj))(σ:St)(H:Hp)(s:Shared)(e:Value)(s':Shared),Inv X pins σ H s->CX X.stack H s E e s'->X.xe e s'
section
variable{X:Cx}{CX:EB}{k:Nat}{f C:Addr}{fd:FuncData}{ps:List Str}{sp:Sp}{LC:List V}{ds:List Value}{E:XK}{x m:Str}{p pos apos:Pos}{e o:Expr}{es:List Expr}{ta:TE}{t:TA}
theorem My{pins:List (Addr×Obj)}{σ:St}{H:Hp}{s:Shared}{Q:VK}{us:List Value}{vs:List V}(F:qp X.prog X.w X.K X.mg X.base CX k f fd ps sp)(hr:fE k X.A)(hb:Binds X.K fd ps ds)(hd:Vals LC ds)(hx:Passes CX X E)
  (I:Inv X pins σ H s)(r:Vals vs us)(h:sp (vs++LC) H Q E):wpAny (model X.prog X.w) X.A (call (.ref f) us) (EP X pins σ Q) X.xe s:=by
 have r2:Vals (vs++LC) (us++ds):=r.append hd
 have hl:(us++ds).length=ps.length:=by rw[<-r2.length];exact F.len _ _ _ _ h
 refine wpAny_call (codeAny_mono (F.run X.A X.stack s H ⟨us,[]⟩ (us++ds) (vs++LC) Q E hr I.Rv (hb s us I.xQ hl) r2 h) λr s' hq=> ?_)
 cases r with
 |error e=>exact hx pins σ H s e s' I hq
 |ok fl=>
  cases fl with
  |ret u=>exact I.after hq
  |next=>exact False.elim hq
  |brk=>exact False.elim hq
  |cont=>exact False.elim hq
theorem JQ(F:qp X.prog X.w X.K X.mg X.base CX k f fd ps sp)(hr:fE k X.A)(hg:Gl X x)(hm:X.mg x=some (.ref f))(hk:PySem.W.keepIn X.K (.ref f)=true)(hb:Binds X.K fd ps ds)(hd:Vals LC ds)(hx:Passes CX X E)
  (ha:PA X (e::es) t)(hdb:(x==("__debug__":Str))=false:=by decide)(he:starEach (e::es) X.env=(false,eval e X.env)::starEach es X.env:=by rfl)(hpl:(backTo pos (starEach es X.env)).any (·.1)=false:=by rfl):
  PE X (.Call (.Name x p) (e::es) [] pos) (mT sp LC E t):=by
 intro pins s σ H Q I h
 refine wpAny_Call_Name_kw (Dg I hg hm ?_ hdb)
 refine PySem.W.callWith_K (h₀:=X.base) I.ok.mod.NZ hk (fR (ha pos pins s σ H _ I h) λus s1 ⟨vs,H1,I1,r,q⟩=>⟨I1.xQ,?_⟩) he hpl
 exact My F hr hb hd hx I1 r q
end
section
variable{X:Cx}{CX:EB}{k:Nat}{f C:Addr}{fd:FuncData}{ps ks:List Str}{sp:Sp}{E:XK}{x m:Str}{p pos apos kpos:Pos}{e o:Expr}{es:List Expr}{kws:List Keyword}{te ta:TE}{t tk:TA}{nm:Option Str}
variable{g:List Value->List Value->List Value}{gV:List V->List V->List V}
end
structure aO(N P:List Str)(sc:Scope):Prop where
 kind:sc.kind= .function
 co:sc.isCoroutine=false
 gen:sc.isGenerator=false
 nd:N.Nodup
 pre:N.take P.length=P
 par:∀x∈P,sc.names.lookup x=some .local∨sc.names.lookup x=some .cell
 Mz:∀y∈sc.names,y.2≠ .free
theorem wW{kindOf:Str->Option NameKind}{x:Str}:∀{binds:List (Str×Value)}{m:Str->Option Value},(∀v,(x,v)∉binds) ->bindL kindOf binds m x=m x
 | [],_,_=>rfl
 |(n,v)::r,m,h=>by
  unfold bindL
  rw[wW λw hw=>h w (List.mem_cons_of_mem _ hw)]
  split
  ·have:x≠n:=by rintro rfl;exact h v List.mem_cons_self
   simp[this]
  ·rfl
theorem wX{kindOf:Str->Option NameKind}{x:Str}:∀{binds:List (Str×Value)}{m:Str->Option Value},(∀v,(x,v)∉binds) ->bindC kindOf binds m x=m x
 | [],_,_=>rfl
 |(n,v)::r,m,h=>by
  unfold bindC
  rw[wX λw hw=>h w (List.mem_cons_of_mem _ hw)]
  split
  ·rfl
  ·have:x≠n:=by rintro rfl;exact h v List.mem_cons_self
   simp[this]
theorem wY{kindOf:Str->Option NameKind}{x:Str}{v:Value}:∀{P:List Str}{vs:List Value}{i:Nat}{m:Str->Option Value},P.Nodup->P[i]?=some x->vs[i]?=some v->kindOf x=some .local->
  bindL kindOf (P.zip vs) m x=some v
 | [],_,_,_,_,h,_,_=>by simp at h
 |_::_,[],_,_,_,_,h,_=>by simp at h
 |p::P,w::vs,0,m,nd,h1,h2,hk=>by
  simp at h1 h2;subst h1;subst h2
  show bindL kindOf ((p,w)::P.zip vs) m p=_
  unfold bindL
  rw[wW λv hv=>(List.nodup_cons.mp nd).1 (List.of_mem_zip hv).1,if_pos hk]
  simp
 |p::P,w::vs,i+1,m,nd,h1,h2,hk=>by
  show bindL kindOf ((p,w)::P.zip vs) m x=_
  unfold bindL
  exact wY (i:=i) (List.nodup_cons.mp nd).2 (by simpa using h1) (by simpa using h2) hk
theorem wZ{kindOf:Str->Option NameKind}{x:Str}{v:Value}:∀{P:List Str}{vs:List Value}{i:Nat}{m:Str->Option Value},P.Nodup->P[i]?=some x->vs[i]?=some v->kindOf x≠some .local->
  bindC kindOf (P.zip vs) m x=some v
 | [],_,_,_,_,h,_,_=>by simp at h
 |_::_,[],_,_,_,_,h,_=>by simp at h
 |p::P,w::vs,0,m,nd,h1,h2,hk=>by
  simp at h1 h2;subst h1;subst h2
  show bindC kindOf ((p,w)::P.zip vs) m p=_
  unfold bindC
  rw[wX λv hv=>(List.nodup_cons.mp nd).1 (List.of_mem_zip hv).1,if_neg hk]
  simp
 |p::P,w::vs,i+1,m,nd,h1,h2,hk=>by
  show bindC kindOf ((p,w)::P.zip vs) m x=_
  unfold bindC
  exact wZ (i:=i) (List.nodup_cons.mp nd).2 (by simpa using h1) (by simpa using h2) hk
noncomputable def start(N:List Str)(vs:List V):St:=vs.map some++List.replicate (N.length-vs.length) none
noncomputable def xV(CX:EB)(P:Program)(w:World)(K:PySem.W.Frag)(mg:Str->Option Value)(base:Heap)(N:List Str)(qual:Str)(scope:Scope)(f:Addr)(cd:Value)(A:Around)(outer:List Env)(s:Shared)(H:Hp)(E:XK):Cx where
 prog:=P
 w:=w
 K:=K
 mg:=mg
 base:=base
 A:=A.deeper (envOfC qual scope s.heap.objs.size f cd)
 N:=N
 s₀:=s
 H₀:=H
 env:=envOfC qual scope s.heap.objs.size f cd
 outer:=outer
 stack:=envOfC qual scope s.heap.objs.size f cd::outer
 ex:=[]
 calm:=true
 fn:=λ_=>true
 pn:=[]
 xe:=λe s'=>wpAny (model P w) (A.deeper (envOfC qual scope s.heap.objs.size f cd)) (leaving (envOfC qual scope s.heap.objs.size f cd) e) (λ_ s''=>CX outer H s E e s'') (λe' s''=>CX outer H s E e' s'') s'
theorem zB{sc:Scope}{n:Nat}{x:Str}(h:sc.names.lookup x=some .cell):∃c,(cellsFrom n sc.names []).lookup x=some c:=by
 have q:=PySem.W.cellsFrom_some sc.names n [] (.inl h)
 exact Option.isSome_iff_exists.mp q
theorem EC{CX:EB}{P:Program}{w:World}{K:PySem.W.Frag}{mg:Str->Option Value}{base:Heap}{N ps:List Str}{qual:Str}{scope:Scope}{f:Addr}{cd:Value}{A:Around}{outer:List Env}{s s1:Shared}{H:Hp}{E:XK}{us:List Value}{vs:List V}
  (S:aO N ps scope)(hd:A.handled=none)(e0:JP P w K mg base A outer s H)(hl:vs.length=ps.length)(r:Vals vs us)
  (x:InCallC s s.heap.objs.size (bindL (envOfC qual scope s.heap.objs.size f cd).kindOf (ps.zip us) λ_=>none) (cellsFrom (s.heap.objs.size+1) scope.names []) (bindC (envOfC qual scope s.heap.objs.size f cd).kindOf (ps.zip us) λ_=>none) s1):
  Inv (xV CX P w K mg base N qual scope f cd A outer s H E) [] (start N vs) H s1:=by
 have hpl:ps.length<=N.length:=by have:=congrArg List.length S.pre;rw[List.length_take]at this;omega
 obtain⟨h1,tk,rfl,hk⟩:=x.done
 have Rw:∀b:Addr,b∉(xV CX P w K mg base N qual scope f cd A outer s H E).ex:=λb z=>absurd (show b∈([]:List Addr)from z) (by simp)
 refine⟨⟨e0.mod,S.kind,rfl,rfl,Nat.le_refl _,λy z c h1 h2=> ?_,λy hy=> ?_,λy c _ h=> ?_,λ_=>hd,Around.frames_deeper e0.frames,.inr ⟨rfl,rfl⟩,λb z=>absurd z (Rw b),e0.bs,e0.JJ,λb _ _=>Rw b,λb z=>absurd z (Rw b),e0.tO,e0.Oa⟩,
  rfl,.refl e0.bare,Un.kept hk,⟨_,x.toInCall.ns,λi y v h1 h2 h3=> ?_⟩,λy c h=>⟨_,x.cell y c h⟩,e0.hok.fresh (Nat.le_refl _),λy c h=> ?_,λp hp=>absurd (show p∈([]:List (Addr×Obj))from hp) (by simp),e0.hok.kept hk,?_⟩
 ·exact name_of_addr x.apart (PySem.mem_of_lookup h1) (PySem.mem_of_lookup h2)
 ·have hy:scope.names.lookup y=some .cell∨scope.names.lookup y=some .free:=hy
  rcases hy with hy|hy
  ·exact zB hy
  ·exact absurd rfl (S.Mz _ (PySem.mem_of_lookup hy))
 ·exact Nat.le_of_lt (x.above y c (PySem.mem_of_lookup h))
 ·have hi:i<vs.length:=by
   unfold start at h2
   by_cases hi:i<vs.length
   ·exact hi
   ·rw[List.getElem?_append_right (by simpa using hi)]at h2
    rw[List.getElem?_replicate]at h2
    split at h2<;>cases h2
  have ha:vs[i]?=some v:=by
   unfold start at h2
   rw[List.getElem?_append_left (by simpa using hi),List.getElem?_map]at h2
   cases e:vs[i]? with
   |none=>rw[e]at h2;cases h2
   |some a=>rw[e]at h2;cases h2;rfl
  obtain⟨u,hu,rv⟩:=r.get ha
  have hp:ps[i]?=some y:=by
   rw[<-S.pre,List.getElem?_take_of_lt (by omega)];exact h1
  have Tz:ps.Nodup:=by rw[<-S.pre];exact S.nd.sublist (List.take_sublist _ _)
  refine⟨u,rv,?_⟩
  rcases S.par y (List.mem_of_getElem? hp)with k|k
  ·exact .inl ⟨k,wY Tz hp hu k⟩
  ·obtain⟨c,e⟩:=zB (n:=s.heap.objs.size+1) k
   refine .inr ⟨.inl k,c,e,?_⟩
   have q:=x.cell y c e
   rw[wZ Tz hp hu (by show scope.names.lookup y≠_;rw[k];decide)]at q
   exact q
 ·exact e0.hok.fresh (Nat.le_of_lt (x.above y c (PySem.mem_of_lookup h)))
 ·unfold start
  show _=N.length
  rw[List.length_append,List.length_map,List.length_replicate]
  omega
theorem LD{CX:EB}{P:Program}{w:World}{K:PySem.W.Frag}{mg:Str->Option Value}{base:Heap}{k:Nat}{f:Addr}{name qual:Str}{params:Arguments}{body:List Stmt}{scope:Scope}{dV kV doc pm cdv ct oc:Value}{an od:Option Addr}
  {osl:Array (Option Value)}{N ps:List Str}{sp:Sp}(lk:K.lookup f=some ⟨oc,od,.func (PySem.W.fnOf name qual params body scope dV kV doc pm an cdv ct),osl⟩)(hcd:PySem.W.codeIn K cdv qual=true)(S:aO N ps scope)
  (len:∀vs H Q E,sp vs H Q E->vs.length=ps.length)
  (hbody:∀(A:Around)(outer:List Env)(s:Shared)(H:Hp)(vs:List V)(Q:VK)(E:XK),fE k (A.deeper (envOfC qual scope s.heap.objs.size f cdv)) ->sp vs H Q E->
   ∃t,xR (xV CX P w K mg base N qual scope f cdv A outer s H E) body t/\t {nx:=λ_ H'=>Q .iW H',rt:=Q} (start N vs) H):
  qp P w K mg base CX (k+1) f (PySem.W.fnOf name qual params body scope dV kV doc pm an cdv ct) ps sp:=by
 refine⟨len,λA outer s H args us vs Q E hr e0 hb r Jx=> ?_⟩
 have hl:=len _ _ _ _ Jx
 have KX:K.In s.heap:=e0.mod.NZ.keeps λb o e=>(e0.bs b o e).1
 have lim:s.heap.NoLimit:=e0.mod.nolimit.keeps λb o e=>(e0.bs b o e).1
 have hkind:∀y∈ps.zip us,scope.names.lookup y.1=some .local∨(scope.names.lookup y.1=some .cell/\((cellsFrom (s.heap.objs.size+1) scope.names []).lookup y.1).isSome=true):=λ ⟨n,v⟩ hy=>by
  rcases S.par n (List.of_mem_zip hy).1 with q|q
  ·exact .inl q
  ·exact .inr ⟨q,PySem.W.cellsFrom_some _ _ _ (.inl q)⟩
 refine codeAny_call_function hr.depth (KX _ _ lk) rfl S.co S.gen rfl (PySem.W.codeRec_of KX hcd) (hb _ _ _ _ ?_)
 refine wpAny_newFunctionEnv_cells S.kind hkind λenv he s1 x=> ?_
 subst he
 refine⟨lim.keeps x.toInCall.keep,codeAny_func ?_⟩
 obtain⟨t,ht,hq⟩:=hbody A outer s H vs Q E (hr.deeper _) Jx
 have I:Inv (xV CX P w K mg base N qual scope f cdv A outer s H E) [] (start N vs) H s1:=EC S hr.hd e0 hl r x
 refine wpAny_mono (ht [] s1 (start N vs) H _ I hq) (λfl s' hs=> ?_) λe s' hs=>hs
 have fin:∀{σ':St}{H':Hp}{v:V}{u:Value},Inv (xV CX P w K mg base N qual scope f cdv A outer s H E) [] σ' H' s'->RelV v u->Q v H'->CE outer P w H s Q u s':=
  λ {σ' H' v u} J rv q=>⟨v,H',J.os,J.bare,J.base,J.hok,rv,q⟩
 cases fl with
 |ret u=>
  obtain⟨v,σ',H',J,rv,q⟩:=hs
  exact fin J rv q
 |next=>
  obtain⟨σ',H',J,q⟩:=hs
  exact fin (v:=V.iW) (u:=Value.none) J rfl q
 |brk=>
  obtain⟨_,_,_,q⟩:=hs
  exact False.elim q
 |cont=>
  obtain⟨_,_,_,q⟩:=hs
  exact False.elim q
section
variable{X:Cx}{x:Str}{p pos:Pos}{e:Expr}{es:List Expr}{t:TA}{id T:String}{r:List V->Hp->VK->Prop}
noncomputable def Qp(r:List V->Hp->VK->Prop)(t:TA):TE:=λσ H Q=>t σ H λvs H1=>r vs H1 Q
theorem e7(hc:sV X (.builtin id) r)(hg:Gl X x)(hm:X.mg x=none)(hv:bootBuiltins x=some (.builtin id))(ha:PA X (e::es) t)(hn:x≠ "__name__":=by decide)(hdb:(x==("__debug__":Str))=false:=by decide)
  (he:starEach (e::es) X.env=(false,eval e X.env)::starEach es X.env:=by rfl)(hpl:(backTo pos (starEach es X.env)).any (·.1)=false:=by rfl):PE X (.Call (.Name x p) (e::es) [] pos) (Qp r t):=by
 intro pins s σ H Q I h
 refine wpAny_Call_Name_kw (lO I hg hm hv ?_ hn hdb)
 exact PyProof.Rows.callWith_builtin1 (fR (ha pos pins s σ H _ I h) λus s1 ⟨vs,H1,I1,r1,q1⟩=>hc pins s1 σ H1 vs us Q I1 r1 q1) he hpl
theorem w5(hc:sV X (.type T) r)(hg:Gl X x)(hm:X.mg x=none)(hv:bootBuiltins x=some (.type T))(ha:PA X (e::es) t)(hn:x≠ "__name__":=by decide)(hdb:(x==("__debug__":Str))=false:=by decide)
  (he:starEach (e::es) X.env=(false,eval e X.env)::starEach es X.env:=by rfl)(hpl:(backTo pos (starEach es X.env)).any (·.1)=false:=by rfl):PE X (.Call (.Name x p) (e::es) [] pos) (Qp r t):=by
 intro pins s σ H Q I h
 refine wpAny_Call_Name_kw (lO I hg hm hv ?_ hn hdb)
 exact PyProof.Rows.callWith_type1 (fR (ha pos pins s σ H _ I h) λus s1 ⟨vs,H1,I1,r1,q1⟩=>hc pins s1 σ H1 vs us Q I1 r1 q1) he hpl
end
end L2
namespace HT
open PySem PyProof.Rows
section
open PySem.SeqAt
open PySem.AutoSeq1 (wpAny_loadPart')
open PySem.MeetsSeq PySem.MeetsSeq2 PySem.MeetsSeq3
end
section
variable{prog:Program}{w:World}{A:Around}{E:Value->Shared->Prop}{s:Shared}
noncomputable def Bh(n d:Nat):Option Int->Nat
 |none=>d
 |some v=>if v<0 then(v+(n:Int)).toNat else min v.toNat n
end
end HT
namespace L2
open PySem PySem.Spec PyProof.Rows
noncomputable abbrev TO:=St->Hp->(Option Int->Hp->Prop) ->Prop
noncomputable def PO(X:Cx)(e:Option Expr)(t:TO):Prop:=
 ∀(pins:List (Addr×Obj))(s:Shared)(σ:St)(H:Hp)(Q:Option Int->Hp->Prop),Inv X pins σ H s->t σ H Q->
  wpAny (model X.prog X.w) X.A (evalPart e X.env) (λu s'=> ∃o H',Inv X pins σ H' s'/\IsPart u o/\Q o H') X.xe s
noncomputable def JR:TO:=λ_ H Q=>Q none H
noncomputable def OS(t:TE):TO:=λσ H Q=>t σ H λx H1=> ∃i,x= .int i/\Q (some i) H1
section
variable{X:Cx}{e:Expr}{te:TE}{lo hi:Option Expr}{tl th:TO}{pos p2:Pos}
theorem xW:PO X none JR:=by
 intro pins s σ H Q I h
 rw[evalPart_none]
 exact wpAny_pure ⟨none,H,I,.none,h⟩
theorem xX(h:PE X e te):PO X (some e) (OS te):=by
 intro pins s σ H Q I hw
 rw[evalPart_some]
 refine fR (h pins s σ H _ I hw) λu s1 ⟨x,H1,I1,r1,q1⟩=> ?_
 obtain⟨i,rfl,q⟩:=q1
 obtain⟨t,rfl⟩:=r1
 exact⟨some i,H1,I1,.int i t,q⟩
noncomputable def TF(X:Cx)(r:V->Option Int->Option Int->Hp->VK->Prop):Prop:=
 ∀(pins:List (Addr×Obj))(s:Shared)(σ:St)(H:Hp)(x:V)(v vl vu:Value)(lo hi:Option Int)(sl:Addr)(Q:VK),Inv X pins σ H s->RelV x v->s.heap.IsSliceOf sl vl vu .none->IsPart vl lo->IsPart vu hi->r x lo hi H Q->
  ∃T id,typeLookup (.type T) "__getitem__"=pure (some (.builtin id))/\s.TypeIs v T/\wpAny (model X.prog X.w) X.A (getItem v (.ref sl)) (EP X pins σ Q) X.xe s
noncomputable def Vi(r:V->Option Int->Option Int->Hp->VK->Prop)(te:TE)(tl th:TO):TE:=λσ H Q=>te σ H λx H1=>tl σ H1 λl H2=>th σ H2 λu H3=>r x l u H3 Q
theorem uz{r:V->Option Int->Option Int->Hp->VK->Prop}(hr:TF X r)(he:PE X e te)(hl:PO X lo tl)(hu:PO X hi th):PE X (.Subscript e (.Slice lo hi none p2) pos) (Vi r te tl th):=by
 intro pins s σ H Q I h
 refine Subscript_ (fR (he pins s σ H _ I h) λv s1 ⟨x,H1,I1,r1,q1⟩=> ?_)
 refine wpAny_Slice (fR (hl pins s1 σ H1 _ I1 q1) λvl s2 ⟨l,H2,I2,pl,q2⟩=>fR (hu pins s2 σ H2 _ I2 q2) λvu s3 ⟨u,H3,I3,pu,q3⟩=> ?_)
 rw[evalPart_none]
 refine wpAny_pure ?_
 have I4:Inv X pins σ H3 {s3 with heap:=s3.heap.push {cls:= .type "slice",data:= .fields #[vl,vu,.none]}}:=I3.kept (t':=s3.toks) λb ob q=>Heap.get?_push_of_some _ q
 obtain⟨T,id,hT,ht,hg⟩:=hr pins {s3 with heap:=s3.heap.push {cls:= .type "slice",data:= .fields #[vl,vu,.none]}} σ H3 x v vl vu l u s3.heap.objs.size Q I4 r1 (Heap.IsSliceOf.new ..) pl pu q3
 show wpAny (model X.prog X.w) X.A (subscriptTail e (.Slice lo hi none p2) v (.ref s3.heap.objs.size)) (EP X pins σ Q) X.xe {s3 with heap:=s3.heap.push {cls:= .type "slice",data:= .fields #[vl,vu,.none]}}
 exact tail_any (ops:=[.ref s3.heap.objs.size,v]) ht hT hg (by with_unfolding_all rfl)
noncomputable def qZ(xs:List V)(lo hi:Option Int):List V:=(xs.drop (HT.Bh xs.length 0 lo)).take (HT.Bh xs.length xs.length hi-HT.Bh xs.length 0 lo)
theorem nj(xs:List V)(lo hi:Option Int):(qZ xs lo hi).length<=xs.length:=by
 unfold qZ
 rw[List.length_take,List.length_drop]
 omega
end
noncomputable def MA(n:Nat)(i:Int):Option Nat:=if 0<=i then(if i<n then some i.toNat else none)else if-(n:Int)<=i then some (i+n).toNat else none
noncomputable def zC{α:Type}(xs:List α)(i:Int):Option α:=(MA xs.length i).bind λj=>xs[j]?
theorem Dp{n:Nat}{i:Int}{j:Nat}(h:MA n i=some j):seqIndex? i n=some j/\j<n/\ -(n:Int)<=i/\i<n:=by
 unfold MA at h
 by_cases h0:0<=i
 ·rw[if_pos h0]at h
  by_cases h1:i<n
  ·rw[if_pos h1]at h
   have e:i.toNat=j:=Option.some.inj h
   exact⟨by rw[seqIndex_of h0 h1,e],by omega,by omega,h1⟩
  ·rw[if_neg h1]at h;cases h
 ·rw[if_neg h0]at h
  by_cases h1: -(n:Int)<=i
  ·rw[if_pos h1]at h
   have e:(i+n).toNat=j:=Option.some.inj h
   exact⟨by rw[seqIndex_neg (by omega) h1,e],by omega,h1,by omega⟩
  ·rw[if_neg h1]at h;cases h
theorem Dq{α:Type}{xs:List α}{i:Int}{v:α}(h:zC xs i=some v):∃j,seqIndex? i xs.length=some j/\xs[j]?=some v/\j<xs.length/\ -(xs.length:Int)<=i/\i<xs.length:=by
 unfold zC at h
 cases e:MA xs.length i with
 |none=>rw[e]at h;cases h
 |some j=>
  rw[e]at h
  obtain⟨h1,h2,h3,h4⟩:=Dp e
  exact⟨j,h1,h,h2,h3,h4⟩
theorem Dr{α:Type}{xs:List α}{j:Nat}{v:α}(h:xs[j]?=some v):zC xs (j:Int)=some v:=by
 have hj:j<xs.length:=(List.getElem?_eq_some_iff.mp h).1
 have e:MA xs.length (j:Int)=some j:=by
  unfold MA
  rw[if_pos (by omega),if_pos (by omega)];simp
 unfold zC;rw[e];exact h
noncomputable def JS(b:Expr):Prop:=∀o i,subscripted b false o i=operate [o,i] (getItem o i)
noncomputable def Rx(X:Cx)(r:R2):Prop:=
 ∀(value slice:Expr)(pins:List (Addr×Obj))(s:Shared)(σ:St)(H:Hp)(x y:V)(v u:Value)(Q:VK),Inv X pins σ H s->RelV x v->RelV y u->r x y H Q->
  subscripted slice false v u=operate [v,u] (getItem v u) ->wpAny (model X.prog X.w) X.A (subscriptTail value slice v u) (EP X pins σ Q) X.xe s
noncomputable def Ry(X:Cx)(id:String)(r:V->List V->Hp->VK->Prop):Prop:=
 ∀(pins:List (Addr×Obj))(s:Shared)(σ:St)(H:Hp)(x:V)(xs:List V)(v:Value)(us:List Value)(Q:VK),Inv X pins σ H s->RelV x v->Vals xs us->r x xs H Q->
  wpAny (model X.prog X.w) X.A (call (.builtin id) (v::us)) (EP X pins σ Q) X.xe s
section
variable{X:Cx}{a b:Expr}{ta tb:TE}{pos:Pos}
theorem aF{r:R2}(hr:Rx X r)(ha:PE X a ta)(hb:PE X b tb)(hs:JS b):PE X (.Subscript a b pos) (jn r ta tb):=by
 intro pins s σ H Q I h
 exact Subscript_ (Ms ha hb I h λv u s2 x y H2 I2 rx ry q=>hr a b pins s2 σ H2 x y v u Q I2 rx ry q (hs _ _))
inductive Rz(K:PySem.W.Frag)(x y:V)(H:Hp)(Q:VK):Prop
 |mk(p:Addr)(xs:List V)(i:Int)(v:V)(ex:x= .ref p)(ey:y= .int i)(s:aW K H p xs)(a:zC xs i=some v)(q:Q v H)
noncomputable def iK(K:PySem.W.Frag):R2:=Rz K
inductive RA(K:PySem.W.Frag)(x y:V)(H:Hp)(Q:VK):Prop
 |mk(p:Addr)(xs:List V)(i:Int)(v:V)(ex:x= .ref p)(ey:y= .int i)(s:vS K H p xs)(a:zC xs i=some v)(q:Q v H)
noncomputable def RB(K:PySem.W.Frag):R2:=RA K
theorem ay:Rx X (iK X.K):=by
 intro value slice pins s σ H x y v u Q I rx ry h hs
 obtain⟨p,xs,i,z,rfl,rfl,hq,he,q⟩:=h
 cases rx
 obtain⟨t,rfl⟩:=ry
 obtain⟨its,r,pl,hz⟩:=I.list hq
 obtain⟨j,h1,h2,h3,h4,h5⟩:=Dq he
 obtain⟨w,ew,rw'⟩:=r.get h2
 have hl:=r.length
 have hn:=xU
 have fin:EP X pins σ Q w s:=⟨z,H,I,rw',q⟩
 by_cases h0:0<=i
 ·have hj:i.toNat=j:=by
   rw[seqIndex_of h0 h5]at h1
   exact Option.some.inj h1
  exact item_listR pl.isList h0 (by omega) (by rw[hj];simpa using ew) fin hs
 ·have hj:(i+(its.toArray.size:Int)).toNat=j:=by
   rw[seqIndex_neg (by omega) h4]at h1
   rw[List.size_toArray,<-hl]
   exact Option.some.inj h1
  exact subscriptTail_builtinR (x:=w) pl.isList.typeIs slot_list_getitem.lookup
   (wpAny_getItem_list_neg (Q:=λr s'=>r=w/\EP X pins σ Q r s') pl.isList (by omega) (by rw[List.size_toArray]<;>omega) (by omega) (by rw[hj];simpa using ew) ⟨rfl,fin⟩) hs
theorem GP:Rx X (RB X.K):=by
 intro value slice pins s σ H x y v u Q I rx ry h hs
 obtain⟨p,xs,i,z,rfl,rfl,hq,he,q⟩:=h
 cases rx
 obtain⟨t,rfl⟩:=ry
 obtain⟨its,r,pl,hz⟩:=I.tuple hq
 obtain⟨j,h1,h2,h3,h4,h5⟩:=Dq he
 obtain⟨w,ew,rw'⟩:=r.get h2
 have hl:=r.length
 have hn:=xU
 have fin:EP X pins σ Q w s:=⟨z,H,I,rw',q⟩
 exact subscriptTail_builtinR (x:=w) pl.typeIs slot_tuple_getitem.lookup
  (getItem_tuple (j:=j) (Q:=λr s'=>r=w/\EP X pins σ Q r s') pl (by omega) (by omega) (by rw[List.size_toArray,<-hl];exact h1) (by simpa using ew) ⟨rfl,fin⟩) hs
theorem Bj(its:List Value)(n j:Nat)(u:Value):Obj.mapSeq (·.setIfInBounds j u) {cls:= .type "list",data:= .seq its.toArray n}={cls:= .type "list",data:= .seq (its.set j u).toArray n}:=by
 simp[Obj.mapSeq]
theorem Inv.lst{pins:List (Addr×Obj)}{σ:St}{H:Hp}{s:Shared}{p:Addr}{xs:List V}(I:Inv X pins σ H s)(h:H p=some (.lst xs)):
  ∃(its:List Value)(n:Nat),Vals xs its/\s.heap.get? p=some {cls:= .type "list",data:= .seq its.toArray n}/\xs.length<=sizeLine:=by
 obtain⟨z,its,n,r,e⟩:=I.hok p _ h
 exact⟨its,n,r,e,z⟩
theorem Inv.MB{pins:List (Addr×Obj)}{σ:St}{H:Hp}{s:Shared}{p:Addr}{xs ys:List V}{its its':List Value}{n n':Nat}{f:Obj->Obj}(I:Inv X pins σ H s)(h:H p=some (.lst xs))
  (ho:s.heap.get? p=some {cls:= .type "list",data:= .seq its.toArray n})(hf:f {cls:= .type "list",data:= .seq its.toArray n}={cls:= .type "list",data:= .seq its'.toArray n'})(r:Vals ys its')(hz:ys.length<=sizeLine)(t:Nat):
  Inv X pins σ (upd H p (.lst ys)) {s with heap:=s.heap.update p f,toks:=t}:=by
 have e:(s.heap.update p f).get? p=some {cls:= .type "list",data:= .seq its'.toArray n'}:=by
  rw[Heap.get?_update_self f ho (by rw[hf]<;>rfl),hf]
 refine I.write (x:=p) (e:=p) (by rw[h];trivial) (.inl rfl) (λb u hb q=>(Heap.get?_update_other _ _ (Ne.symm hb)).trans q) ⟨_,e⟩ ?_
 exact⟨hz,its',n',r,e⟩
noncomputable def OT:V->V->V->Hp->(Hp->Prop) ->Prop:=λo i v H Q=> ∃p xs k j,o= .ref p/\i= .int k/\H p=some (.lst xs)/\MA xs.length k=some j/\Q (upd H p (.lst (xs.set j v)))
theorem set_list:OG X OT:=by
 intro pins s σ H o i v ov iv u Q I ro ri rv h
 obtain⟨p,xs,k,j,rfl,rfl,hp,hj,q⟩:=h
 cases ro
 obtain⟨t,rfl⟩:=ri
 obtain⟨its,n,r,ho,hz⟩:=I.lst hp
 obtain⟨h1,h2,h3,h4⟩:=Dp hj
 have hl:=r.length
 have hn:=xU
 have I':Inv X pins σ (upd H p (.lst (xs.set j v))) {s with heap:=s.heap.update p (Obj.mapSeq (·.setIfInBounds j u))}:=
  I.MB hp ho (Bj its n j u) (r.set rv j) (by rw[List.length_set];exact hz) s.toks
 by_cases h0:0<=k
 ·have hk:k.toNat=j:=by
   rw[seqIndex_of h0 h4]at h1
   exact Option.some.inj h1
  exact PySem.W.ki_setAt ho h0 (by omega) (by rw[List.size_toArray,<-hl];exact h4) (by rw[hk];exact⟨_,I',q⟩)
 ·have hk:(k+(its.toArray.size:Int)).toNat=j:=by
   rw[seqIndex_neg (by omega) h3]at h1
   rw[List.size_toArray,<-hl]
   exact Option.some.inj h1
  exact PySem.W.ki_setBack ho (by omega) (by rw[List.size_toArray,<-hl];exact h3) (by omega) (by rw[hk];exact⟨_,I',q⟩)
theorem xY(lo hi:Option Int)(n:Nat):(sliceBounds lo hi none n).1=((HT.Bh n 0 lo:Nat):Int)/\(sliceBounds lo hi none n).2.1=((HT.Bh n n hi:Nat):Int)/\(sliceBounds lo hi none n).2.2=1:=by
 refine⟨?_,?_,rfl⟩
 ·cases lo with
  |none=>simp[sliceBounds,HT.Bh]
  |some i=>
   simp only[sliceBounds,HT.Bh,Option.getD_none,show(1:Int)>0 by decide,if_true]
   by_cases h:i<0
   ·simp only[h,if_true]<;>omega
   ·simp only[h,if_false]<;>omega
 ·cases hi with
  |none=>simp[sliceBounds,HT.Bh]
  |some i=>
   simp only[sliceBounds,HT.Bh,Option.getD_none,show(1:Int)>0 by decide,if_true]
   by_cases h:i<0
   ·simp only[h,if_true]<;>omega
   ·simp only[h,if_false]<;>omega
theorem v5(its:List Value)(lo hi:Option Int):slicePick its.toArray lo hi none=((its.drop (HT.Bh its.length 0 lo)).take (HT.Bh its.length its.length hi-HT.Bh its.length 0 lo)).toArray:=by
 obtain⟨h1,h2,h3⟩:=xY lo hi its.toArray.size
 unfold slicePick
 rw[h1,h2,h3]
 simp only[sliceRange_one,pick_run,List.size_toArray]<;>rfl
noncomputable def RC(K:PySem.W.Frag):V->Option Int->Option Int->Hp->VK->Prop:=λx lo hi H Q=> ∃a xs,x= .ref a/\aW K H a xs/\ ∀p,H p=none->Q (.ref p) (upd H p (.lst (qZ xs lo hi)))
theorem xZ:TF X (RC X.K):=by
 intro pins s σ H x v vl vu lo hi sl Q I rx hs pl pu h
 obtain⟨a,xs,rfl,hx,q⟩:=h
 cases rx
 obtain⟨its,r,ht,hz⟩:=I.list hx
 have hlen:=r.length
 refine⟨"list",_,slot_list_getitem.lookup,ht.isList.typeIs,?_⟩
 refine wpAny_getItem_list_slice ht.isList hs pl pu .none (by simp) ?_ (by rw[List.size_toArray]<;>omega)
 rw[v5,<-hlen]
 refine⟨.ref s.heap.objs.size,_,I.laid (t':=s.toks) (o:= .lst (qZ xs lo hi)) (λb ob q=>Heap.get?_push_of_some _ q) (Nat.le_refl _) ?_,rfl,q _ (I.hok.fresh (Nat.le_refl _))⟩
 exact⟨Nat.le_trans (nj xs lo hi) hz,_,0,(r.drop (HT.Bh xs.length 0 lo)).take (HT.Bh xs.length xs.length hi-HT.Bh xs.length 0 lo),Heap.get?_push_size _ rfl⟩
theorem jr:sV X (.builtin "len") (λxs H Q=> ∃p ys,xs=[.ref p]/\(aW X.K H p ys∨vS X.K H p ys)/\Q (.int ys.length) H):=by
 intro pins s σ H xs us Q I r h
 obtain⟨p,ys,rfl,hq,q⟩:=h
 obtain⟨u,rfl,rx⟩:=vals1 r
 cases rx
 have hn:=xU
 rcases hq with hq|hq
 ·obtain⟨its,r',pl,hz⟩:=I.list hq
  have hlen:=r'.length
  exact Calls.call_len_list pl.isList (by simp only[List.size_toArray]<;>omega) ⟨.int ys.length,H,I.tok _,⟨s.toks+1,by rw[List.size_toArray,hlen]⟩,q⟩
 ·obtain⟨its,r',pl,hz⟩:=I.tuple hq
  have hlen:=r'.length
  exact len_tuple pl (by simp only[List.size_toArray]<;>omega) ⟨.int ys.length,H,I.tok _,⟨s.toks+1,by rw[List.size_toArray,hlen]⟩,q⟩
theorem x6:sV X (.type "list") (λxs H Q=> ∃p ys,xs=[.ref p]/\(aW X.K H p ys∨vS X.K H p ys)/\ ∀l,H l=none->Q (.ref l) (upd H l (.lst ys))):=by
 intro pins s σ H xs us Q I r h
 obtain⟨p,ys,rfl,hq,q⟩:=h
 obtain⟨u,rfl,rx⟩:=vals1 r
 cases rx
 have fin:∀(its:List Value),Vals ys its->ys.length<=sizeLine-> ∀(h':Heap)(c':Nat),(∀b o',s.heap.get? b=some o'->h'.get? b=some o') ->
   h'.get? s.heap.objs.size=some {cls:= .type "list",dict:=none,data:= .seq its.toArray c',slots:= #[]} ->EP X pins σ Q (.ref s.heap.objs.size) {s with heap:=h'}:=λits r' hz h' c' kp e=>
  ⟨.ref s.heap.objs.size,_,I.laid (t':=s.toks) kp (Nat.le_refl _) (show fm X.prog X.w _ h' _ (.lst ys)from⟨hz,its,c',r',e⟩),rfl,q _ (I.hok.fresh (Nat.le_refl _))⟩
 rcases hq with hq|hq
 ·obtain⟨its,r',pl,hz⟩:=I.list hq
  have hlen:=r'.length
  obtain⟨o,ho,hc,n,hd⟩:=pl.isList
  exact call_list_seq p (.inl rfl) ho hc hd (λh' c' kp e=>fin its r' hz h' c' kp e) (by simp only[List.size_toArray]<;>omega)
 ·obtain⟨its,r',pl,hz⟩:=I.tuple hq
  have hlen:=r'.length
  obtain⟨o,ho,hc,n,hd⟩:=pl
  exact call_list_seq p (.inr rfl) ho hc hd (λh' c' kp e=>fin its r' hz h' c' kp e) (by simp only[List.size_toArray]<;>omega)
noncomputable def RD(K:PySem.W.Frag)(T:String)(x:V)(H:Hp):Prop:=match x with
 | .str _=>T= "str"
 | .int _=>T= "int"
 | .ref p=>(T= "list"/\ ∃xs,aW K H p xs)∨(T= "tuple"/\ ∃o,K.lookup p=some o/\o.cls= .type "tuple"/\o.dict=none)∨
   (T= "dict"/\((∃kvs,H p=some (.dK kvs))∨ ∃kvs,H p=some (.dT kvs)))∨(T= "set"/\ ∃S n,H p=some (.set S n))
 |_=>False
theorem GQ{pins:List (Addr×Obj)}{σ:St}{H:Hp}{s:Shared}{T:String}{x:V}{v:Value}(I:Inv X pins σ H s)(r:RelV x v)(ty:RD X.K T x H):
  s.TypeIs v T/\ ∀a,v= .ref a-> ∃ob,s.heap.get? a=some ob/\ob.dict=none:=by
 cases x with
 |str z=>
  obtain⟨t,rfl⟩:=r
  cases(show T= "str" from ty)
  exact⟨typeIs_str s z t,λ_ e=>nomatch e⟩
 |int i=>
  obtain⟨t,rfl⟩:=r
  cases(show T= "int" from ty)
  exact⟨typeIs_int s i t,λ_ e=>nomatch e⟩
 |ref p=>
  cases r
  rcases ty with⟨rfl,xs,hq⟩|⟨rfl,o,hk,hc,hd⟩|⟨rfl,hk⟩|⟨rfl,S,n,hk⟩
  ·obtain⟨its,_,pl,_⟩:=I.list hq
   refine⟨pl.isList.typeIs,λa e=> ?_⟩
   cases e
   obtain⟨o,n,e,c,hd,_⟩:=pl
   exact⟨o,e,hd⟩
  ·refine⟨⟨o,I.xQ p o hk,hc⟩,λa e=> ?_⟩
   cases e
   exact⟨o,I.xQ _ o hk,hd⟩
  ·have z:∃o,s.heap.get? p=some o/\o.ExactDict:=by
    rcases hk with⟨kvs,hk⟩|⟨kvs,hk⟩
    ·obtain⟨_,_,_,_,o,_,_,e,ex,_⟩:=I.hok p _ hk
     exact⟨o,e,ex⟩
    ·obtain⟨_,_,_,_,o,_,_,e,ex,_⟩:=I.hok p _ hk
     exact⟨o,e,ex⟩
   obtain⟨o,e,ex⟩:=z
   refine⟨⟨o,e,ex.1⟩,λa e2=> ?_⟩
   cases e2
   exact⟨o,e,ex.2.1⟩
  ·obtain⟨o,_,_,_,e,ex,_⟩:=I.hok p _ hk
   refine⟨⟨o,e,ex.1⟩,λa e2=> ?_⟩
   cases e2
   exact⟨o,e,ex.2.1⟩
 |_=>exact False.elim ty
noncomputable def RE(K:PySem.W.Frag)(T:String)(r:V->List V->Hp->VK->Prop)(to:TE):TE:=λσ H Q=>to σ H λx H1=>RD K T x H1/\r x [] H1 Q
noncomputable def Vj(K:PySem.W.Frag)(T:String)(r:V->List V->Hp->VK->Prop)(to:TE)(t:TA):TE:=λσ H Q=>to σ H λx H1=>RD K T x H1/\t σ H1 λxs H2=>r x xs H2 Q
variable{o e:Expr}{es:List Expr}{to:TE}{t:TA}{name:Str}{apos cpos:Pos}{T id:String}{r:V->List V->Hp->VK->Prop}
theorem MC(pa:PlainAttrs T)(slot:Slot T name id)(hty:typeOf (.builtin id)=pure (.type "method_descriptor"))(hm:Ry X id r)(ho:PE X o to)
  (hbase:attributeBase o name X.env (eval o X.env)=eval o X.env:=by rfl)(hline:(apos.endLine==cpos.line)=true:=by rfl):PE X (.Call (.Attribute o name apos) [] [] cpos) (RE X.K T r to):=by
 intro pins s σ H Q I h
 refine wpAny_Call_method0_late hbase hline (fR (ho pins s σ H _ I h) λv s1 ⟨x,H1,I1,r1,ty,q1⟩=> ?_)
 obtain⟨h1,h2⟩:=GQ I1 r1 ty
 exact⟨T,id,pa,slot,hty,h1,h2,Calls.callWith_builtin rfl (PySem.evalArgs_none (hm pins s1 σ H1 x [] v [] Q I1 r1 .nil q1))⟩
theorem GR(pa:PlainAttrs T)(slot:Slot T name id)(hty:typeOf (.builtin id)=pure (.type "method_descriptor"))(hm:Ry X id r)(ho:PE X o to)(ha:PA X (e::es) t)
  (hbase:attributeBase o name X.env (eval o X.env)=eval o X.env:=by rfl)
  (hfew:((backTo cpos (starEach (e::es) X.env)).all (λx=> !x.1) && (backToKw cpos (keywordEach [] X.env)).all (λx=>x.1.isSome)
   && decide ((e::es).length+([]:List Keyword).length+(if([]:List Keyword).isEmpty then 0 else 1)<30))=true:=by rfl)
  (hline:(apos.endLine==cpos.line)=true:=by rfl)(hs:starEach (e::es) X.env=(false,eval e X.env)::starEach es X.env:=by rfl)(hplain:(backTo cpos (starEach es X.env)).any (·.1)=false:=by rfl):
  PE X (.Call (.Attribute o name apos) (e::es) [] cpos) (Vj X.K T r to t):=by
 intro pins s σ H Q I h
 refine wpAny_Call_method_late hbase hfew hline rfl (fR (ho pins s σ H _ I h) λv s1 ⟨x,H1,I1,r1,ty,q1⟩=> ?_)
 obtain⟨h1,h2⟩:=GQ I1 r1 ty
 refine⟨T,id,pa,slot,hty,h1,h2,?_⟩
 have hA:=ha cpos pins s1 σ H1 _ I1 q1
 rw[hs]at hA ⊢
 refine Calls.callWith_builtin (by show(false||(backTo cpos (starEach es X.env)).any (·.1))=false;rw[hplain]<;>rfl) (Calls.evalArgs_plain ?_)
 exact fR hA λus s2 ⟨vs,H2,I2,r2,q2⟩=>hm pins s2 σ H2 x vs v us Q I2 r1 r2 q2
end
noncomputable def Vk(X:Cx)(id:String)(r:V->List V->Hp->VK->Prop):Prop:=
 ∀(pins:List (Addr×Obj))(s:Shared)(σ:St)(H:Hp)(x:V)(xs:List V)(v:Value)(us:List Value)(Q:VK),Inv X pins σ H s->RelV x v->Vals xs us->r x xs H Q->
  wpAny (model X.prog X.w) X.A (call (.builtin id) (v::us)) (EP X pins σ Q) X.xe s
theorem Vals.one:∀{x:V}{us:List Value},Vals [x] us-> ∃u,us=[u]/\RelV x u
 |_,_,.cons r .nil=>⟨_,rfl,r⟩
theorem Vals.two:∀{x y:V}{us:List Value},Vals [x,y] us-> ∃u v,us=[u,v]/\RelV x u/\RelV y v
 |_,_,_,.cons r (.cons q .nil)=>⟨_,_,rfl,r,q⟩
theorem Vals.zero:∀{us:List Value},Vals [] us->us=[]
 |_,.nil=>rfl
section
variable{X:Cx}{pins:List (Addr×Obj)}{σ:St}{H:Hp}{s:Shared}{l b:Addr}{xs ys zs:List V}
theorem Inv.RG{its its':List Value}{n:Nat}{f:Array Value->Array Value}{t':Nat}(I:Inv X pins σ H s)(hH:H l=some (.lst xs))
  (e:s.heap.get? l=some {cls:= .type "list",data:= .seq its.toArray n})(hf:f its.toArray=its'.toArray)(hv:Vals ys its')(hz:ys.length<=sizeLine):
  Inv X pins σ (upd H l (.lst ys)) {s with heap:=s.heap.update l (Obj.mapSeq f),toks:=t'}:=by
 have q:=PySem.IsL.update e f
 rw[hf]at q
 refine I.write (x:=l) (e:=l) (by rw[hH];exact trivial) (.inl rfl) (λb' u hb hu=>(Heap.get?_update_other s.heap (Obj.mapSeq f) (Ne.symm hb)).trans hu) ⟨_,q⟩ ?_
 exact⟨hz,its',_,hv,q⟩
theorem Inv.RH{its:List Value}{t':Nat}(I:Inv X pins σ H s)(hv:Vals ys its)(hz:ys.length<=sizeLine):
  Inv X pins σ (upd H s.heap.objs.size (.lst ys)) {s with heap:=s.heap.push {cls:= .type "list",data:= .seq its.toArray},toks:=t'}:=
 I.laid (λ_ _ q=>Heap.get?_push_of_some _ q) (Nat.le_refl _) ⟨hz,its,0,hv,Heap.get?_push_size _ rfl⟩
theorem Inv.fresh(I:Inv X pins σ H s):H s.heap.objs.size=none:=I.hok.fresh (Nat.le_refl _)
theorem Inv.MD(I:Inv X pins σ H s)(hH:H l=some (.lst xs)):xs.length<=sizeLine/\ ∃(its:List Value)(n:Nat),Vals xs its/\xs.length=its.length/\s.heap.get? l=some {cls:= .type "list",data:= .seq its.toArray n}:=by
 obtain⟨z,its,n,r,e⟩:=I.hok l _ hH
 exact⟨z,its,n,r,r.length,e⟩
end
section
variable{X:Cx}
noncomputable def JT:V->List V->Hp->VK->Prop:=λx vs H Q=> ∃l xs y,x= .ref l/\vs=[y]/\H l=some (.lst xs)/\xs.length<sizeLine/\Q .iW (upd H l (.lst (xs++ [y])))
theorem kU:Vk X "list.append" JT:=by
 intro pins s σ H x vs v us Q I rx rv h
 obtain⟨l,xs,y,rfl,rfl,hH,hz,q⟩:=h
 cases rx
 obtain⟨u,rfl,ru⟩:=rv.one
 obtain⟨z,its,n,r,hl,e⟩:=I.MD hH
 refine call_meets F.slot_list_append ⟨_,e,rfl⟩ F.entry_list_append (F.args_list_append_2 _ _) (PySem.list_append l its.toArray n u (by rw[List.size_toArray];omega)) ⟨e,?_⟩
 refine⟨.iW,_,I.RG (its':=its++ [u]) hH e (by simp) (r.append (.cons ru .nil)) ?_,rfl,q⟩
 rw[List.length_append,List.length_singleton]
 omega
noncomputable def RJ:R2:=λx y H Q=> ∃l b xs zs,x= .ref l/\y= .ref b/\H l=some (.lst xs)/\H b=some (.lst zs)/\xs.length+zs.length<=sizeLine/\ ∀p,H p=none->Q (.ref p) (upd H p (.lst (xs++zs)))
theorem ME:tP X (binaryOp .Add) RJ:=by
 intro pins s σ H x y v u Q I rx ry h
 obtain⟨l,b,xs,zs,rfl,rfl,hH,hB,hz,q⟩:=h
 cases rx
 cases ry
 obtain⟨z,its,n,r,hl,e⟩:=I.MD hH
 obtain⟨z2,its2,n2,r2,hl2,e2⟩:=I.MD hB
 refine PySem.P.add_list e e2 ?_ (by rw[List.size_toArray,List.size_toArray];omega)
 have ea:its.toArray++its2.toArray=(its++its2).toArray:=by simp
 rw[ea]
 exact⟨.ref _,_,I.RH (t':=s.toks) (r.append r2) (by rw[List.length_append];omega),rfl,q _ I.fresh⟩
end
section
variable{prog:Program}{w:World}{A:Around}{E:Value->Shared->Prop}{s:Shared}
end
section
variable{X:Cx}
end
end L2
namespace TH
open PySem PySem.W PySem.Calls PyProof.Rows
theorem tQ{P:Params}{h:Heap}:∀(ns:List Int)(vs:List Value),WellAll P h vs (ns.map WData.int) ->IntsAre vs ns:=by
 intro ns
 induction ns with
 |nil=>
  intro vs w
  rw[List.map_nil]at w
  cases w
  exact .nil
 |cons n ns ih=>
  intro vs w
  rw[List.map_cons]at w
  cases w with
  |cons a b=>
   cases a
   exact .cons _ _ (ih _ b)
theorem ED{l:OpenLaw}{n:Nat}(hn:l.most=some n){P:Params}{h:Heap}{args:List WData}{vals:List Value}
  (hpre:l.row.toRowW.claim.pre args=true)(hwl:WellAll P h vals args):
  ∃a vs ns,vals=[Value.ref a]/\args=[WData.list (ns.map WData.int)]/\h.get? a=some {cls:= .type "list",data:= .seq vs.toArray}/\IntsAre vs ns/\ns.length<=n:=by
 have hsh:WShape.hasAll [] args [.list .int]=true:=(pre_splitW hpre).1
 have hc:l.pre.holds [] {args:=args}=true:=(pre_splitW hpre).2
 obtain⟨d,r,rfl,h1,h2⟩:=hasAllW_cons hsh
 obtain rfl:=hasAllW_nil h2
 obtain⟨xs,rfl,h3⟩:=hasW_list h1
 obtain⟨ns,rfl⟩:=items_int h3
 have hlen:ns.length<=n:=by
  unfold OpenLaw.pre at hc
  have h4:(WTm.not (.lt (.lit (.int (n:Int))) (.len (.arg 0)))).holds [] {args:=[.list (ns.map .int)]}=true:=by
   have h4:=(holds_andW hc).1
   rw[hn]at h4
   exact h4
  have h5:=condW_of h4 (w_not (w_lt w_lit (w_len_list (w_arg rfl))))
  rw[List.length_map]at h5
  refine Nat.le_of_not_lt λq=> ?_
  have q':(n:Int)<((ns.length:Nat):Int):=by omega
  first
   |(rw[decide_eq_true q']at h5;exact absurd h5 (by decide))
   |(simp at h5;omega)
 cases hwl with
 |cons w1 w2=>
  cases w2
  cases w1 with
  |list ho hall=>exact⟨_,_,ns,rfl,rfl,ho,tQ ns _ hall,hlen⟩
theorem EE(l:OpenLaw)(args:List WData):l.row.toRowW.claim.post args (.bool true) args=true:=
 postW_of (r:=l.row.toRowW) (X:=(true==true))
  (show WShape.has [] (.bool true) .bool=true by first|rfl|decide|simp[WShape.has,WShape.arms,WShape.armsAll])
  (show(WTm.eq .res (.lit (.bool true))).value [] {args:=args,res:=some (.bool true),after:=args}=some (.bool (true==true))from w_eq_bool (w_res rfl) w_lit) rfl
theorem zD{l:OpenLaw}{n:Nat}{q:Program}{loose:List Str}{XP:(Str->Option Value) ->Heap->Prop}{YP:World->Heap->Prop}{d:DefRec}
  (hn:l.most=some n)(hdf:d.params.defaults=[])
  (call:∀(w:World)(s₀ s₁:Shared)(mg mb:Str->Option Value)(fa:Addr)(o:Obj)(pm cd doc:Value)(a:Addr)(vs:List Value)(ns:List Int),
   Ground q loose [] XP w s₀ mg mb s₁.heap->YP w s₁.heap->
   s₁.heap.get? fa=some o->o.data= .func (docDef d.name d.params d.body d.scope pm cd doc) ->s₁.heap.CodeRec cd d.name->mg d.name=some (.ref fa) ->
   s₁.heap.get? a=some {cls:= .type "list",data:= .seq vs.toArray} ->IntsAre vs ns->ns.length<=n->s₁.gens= #[] ->
   codeAny (model l.prog w) callerA (.call (.ref fa) ⟨[.ref a],[]⟩) (λr s'=>r= .ok (.ret (.bool true))/\OldK s₁.heap s'.heap/\s'.os=s₁.os/\AllBare s'.gens) s₁):
  WalkO q loose XP YP l.row.toRowW d [] (λf vs=>PySem.call f vs):=by
 intro w s₀ s₁ mg mb G Y fa o pm cd doc dV kV ho hd hcd hD hmg hg args vals as hpre hlay hrd hwl hlo
 obtain rfl:dV= .none:=Dflts.none hD hdf
 obtain rfl:kV= .none:=Dflts.noKw hD
 obtain⟨a,vs,ns,rfl,rfl,hobj,hints,hlen⟩:=ED hn hpre hwl
 refine enter_call (codeAny_mono (call w s₀ s₁ mg mb fa o pm cd doc a vs ns G Y ho (fd_plain hd) hcd hmg hobj hints hlen hg) λr s' hq=> ?_)
 obtain⟨rfl,h2,h3,h4⟩:=hq
 exact⟨.inl ⟨.bool true,.bool true,[],rfl,λ_=>rfl,.bool true,EE l _,λ_=>⟨List.Pairwise.nil,λ_ hm=>(nomatch hm)⟩⟩,h2,h3,h4⟩
section
variable{prog:Program}{w:World}{A:Around}{E:Value->Shared->Prop}{s:Shared}{K:Frag}
noncomputable def ledger(h:Heap)(L d:Addr):List (Addr×Obj):=(List.range h.objs.size).filterMap λa=>if a=L∨a=d then none else(h.get? a).map λo=>(a,o)
end
end TH
namespace L2
open PySem PySem.Spec PyProof.Rows
theorem w6:∀{vs:List Value}{ns:List Int},IntsAre vs ns->Vals (ns.map V.int) vs
 |_,_,.nil=> .nil
 |_,_,.cons n t h=> .cons ⟨t,rfl⟩ (w6 h)
noncomputable abbrev Wx{K:PySem.W.Frag}{h:Heap}(_:K.In h):PySem.W.Frag:=K
noncomputable def gw(s:Stmt):Arguments:=match s with
 | .FunctionDef _ a _ _ _ _ _ _ _ _=>a
 |_=>{posonlyargs:=[],args:=[],vararg:=none,kwonlyargs:=[],kw_defaults:=[],kwarg:=none,defaults:=[]}
noncomputable def eZ(s:Stmt):List Stmt:=match s with
 | .FunctionDef _ _ b _ _ _ _ _ _ _=>b
 |_=>[]
noncomputable def aB(s:Stmt):Scope:=match s with
 | .FunctionDef _ _ _ _ _ _ sc _ _ _=>sc
 |_=>{kind:= .function,names:=[],isGenerator:=false,isCoroutine:=false}
noncomputable abbrev cY:EB:=λ_ _ _ _ _ _=>False
noncomputable abbrev E0:XK:=λ_ _ _=>False
theorem aQ{X:Cx}:Passes cY X E0:=λ_ _ _ _ _ _ _ h=>h.elim
structure LG(K:PySem.W.Frag)(x qual:Str)(st:Stmt)(f:Addr)(fd:FuncData):Prop where
 ex:∃(oc:Value)(od:Option Addr)(kV doc pm:Value)(an:Option Addr)(cdv ct:Value)(osl:Array (Option Value)),
  fd=PySem.W.fnOf x qual (gw st) (eZ st) (aB st) .none kV doc pm an cdv ct/\K.lookup f=some ⟨oc,od,.func fd,osl⟩/\PySem.W.codeIn K cdv qual=true
 kp:PySem.W.keepIn K (.ref f)=true
section
variable{P:Program}{w:World}{K:PySem.W.Frag}{mg:Str->Option Value}{base:Heap}
theorem LG.ok{x qual:Str}{st:Stmt}{f:Addr}{fd:FuncData}{N ps:List Str}{k:Nat}{sp:Sp}(F:LG K x qual st f fd)(S:aO N ps (aB st))(len:∀vs H Q E,sp vs H Q E->vs.length=ps.length)
  (hbody:∀(cdv:Value)(A:Around)(outer:List Env)(s:Shared)(H:Hp)(vs:List V)(Q:VK)(E:XK),fE k (A.deeper (envOfC qual (aB st) s.heap.objs.size f cdv)) ->sp vs H Q E->
   ∃t,xR (xV cY P w K mg base N qual (aB st) f cdv A outer s H E).Gq (eZ st) t/\t {nx:=λ_ H'=>Q .iW H',rt:=Q} (start N vs) H):qp P w K mg base cY (k+1) f fd ps sp:=by
 obtain⟨oc,od,kV,doc,pm,an,cdv,ct,osl,rfl,lk,hcd⟩:=F.ex
 refine LD lk hcd S len λA outer s H vs Q E hr Jx=> ?_
 obtain⟨t,h,q⟩:=hbody cdv A outer s H vs Q E hr Jx
 exact⟨t,h.Gq,q⟩
theorem LG.binds{x qual:Str}{st:Stmt}{f:Addr}{fd:FuncData}{ps:List Str}(F:LG K x qual st f fd)
  (h:∀(kV doc pm:Value)(an:Option Addr)(cdv ct:Value)(us:List Value),us.length=ps.length->bindArgs (PySem.W.fnOf x qual (gw st) (eZ st) (aB st) .none kV doc pm an cdv ct) ⟨us,[]⟩=pure (ps.zip us)):Binds K fd ps []:=by
 obtain⟨oc,od,kV,doc,pm,an,cdv,ct,osl,rfl,lk,hcd⟩:=F.ex
 exact .all (h kV doc pm an cdv ct)
theorem GU{x qual:Str}{st:Stmt}{f:Addr}{oc:Value}{od an:Option Addr}{osl:Array (Option Value)}{kV doc pm cdv ct:Value}(l:K.lookup f=some ⟨oc,od,.func (PySem.W.fnOf x qual (gw st) (eZ st) (aB st) .none kV doc pm an cdv ct),osl⟩)
  (c:PySem.W.codeIn K cdv qual=true)(k:PySem.W.keepIn K (.ref f)=true):LG K x qual st f (PySem.W.fnOf x qual (gw st) (eZ st) (aB st) .none kV doc pm an cdv ct):=⟨⟨oc,od,kV,doc,pm,an,cdv,ct,osl,rfl,l,c⟩,k⟩
end
section
variable{X:Cx}
theorem pv(i:Nat){x:Str}{pos:Pos}(hN:X.N[i]?=some x:=by rfl)(hv:Lv X.env.scope x:=by first|exact Or.inl rfl|exact Or.inr (Or.inl rfl)|exact Or.inr (Or.inr rfl))(hd:(x==("__debug__":Str))=false:=by decide)
  (hcd:(x==("__classdict__":Str))=false:=by decide):PE X (.Name x pos) (b9 i):=Mk hN hv hd hcd
end
theorem zE{A B:Prop}(h:B):if false=true then A else B:=by
 rw[if_neg Bool.false_ne_true]
 exact h
theorem GV{A B:Prop}(h:A):if true=true then A else B:=by
 rw[if_pos rfl]
 exact h
theorem iL{c A B:Prop}[Decidable c](h1:c->A)(h2:¬c->B):if c then A else B:=by
 by_cases h:c
 ·rw[if_pos h]
  exact h1 h
 ·rw[if_neg h]
  exact h2 h
theorem zF{c A B:Prop}[Decidable c](hc:c)(h:B):if(!decide c)=true then A else B:=by
 rw[decide_eq_true hc]
 exact zE h
noncomputable def az(H H':Hp):Prop:=∀b o,H b=some o->H' b=some o
theorem az.refl(H:Hp):az H H:=λ_ _ h=>h
theorem az.trans{H H1 H2:Hp}(a:az H H1)(b:az H1 H2):az H H2:=λc o h=>b c o (a c o h)
theorem az.free{H H':Hp}(e:az H H'){l:Addr}(h:H' l=Option.none):H l=Option.none:=by
 cases q:H l with
 |none=>rfl
 |some o=>
  rw[e l o q]at h
  cases h
theorem az.seq{K:PySem.W.Frag}{H H':Hp}{a:Addr}{xs:List V}(e:az H H')(h:aW K H a xs):aW K H' a xs:=by
 rcases h with(h|⟨o,h⟩)|h
 ·exact .inl (.inl (e _ _ h))
 ·exact .inl (.inr ⟨o,e _ _ h⟩)
 ·exact .inr h
noncomputable def cu(env:Env):List (Str×NameKind) ->List (Str×Addr) ->List (Str×Addr)
 | [],acc=>acc
 |(n,k)::r,acc=>if k== .free then cu env r ((n,(env.cells.lookup n).getD 0)::acc)else cu env r acc
theorem pG{env:Env}(f:Str×NameKind->List (Str×Addr) ->Sem (ForInStep (List (Str×Addr))))
  (hf:∀n k cs,f (n,k) cs=if k==NameKind.free then(do let a<-cellOf env n;pure (.yield ((n,a)::cs)))else pure (.yield cs)):
  ∀(ns:List (Str×NameKind))(acc:List (Str×Addr)),(∀y∈ns,y.2= .free->(env.cells.lookup y.1).isSome=true) ->forIn ns acc f=pure (cu env ns acc)
 | [],acc,_=>by rw[List.forIn_nil];rfl
 |(n,k)::r,acc,h=>by
  rw[List.forIn_cons,hf]
  have hr:∀y∈r,y.2= .free->(env.cells.lookup y.1).isSome=true:=λy hy=>h y (List.mem_cons_of_mem _ hy)
  unfold cu
  by_cases hk:(k==NameKind.free)=true
  ·rw[if_pos hk,if_pos hk]
   obtain⟨c,hc⟩:=Option.isSome_iff_exists.mp (h (n,k) List.mem_cons_self (beq_iff_eq.mp hk))
   have hc':env.cells.lookup n=some c:=hc
   have e:cellOf env n=pure c:=by unfold cellOf;rw[hc']
   rw[e,pure_bind,pure_bind,hc']
   exact pG f hf r _ hr
  ·rw[if_neg hk,if_neg hk,pure_bind]
   exact pG f hf r _ hr
theorem v7{env:Env}{scope:Scope}(h:∀y∈scope.names,y.2= .free->(env.cells.lookup y.1).isSome=true):closureFor scope env=pure (cu env scope.names []):=by
 simp only[closureFor]
 rw[pG (env:=env) _ (λn k cs=>by cases hk:k==NameKind.free<;>simp[hk]) _ _ h]
 rfl
theorem jH{env:Env}{y:Str}{c:Addr}:∀{ns:List (Str×NameKind)}{acc:List (Str×Addr)},(y,c)∈cu env ns acc->(y,c)∈acc∨((y,NameKind.free)∈ns/\c=(env.cells.lookup y).getD 0)
 | [],acc,h=> .inl h
 |(n,k)::r,acc,h=>by
  unfold cu at h
  split at h
  ·rename_i hk
   rcases jH h with h|⟨h,e⟩
   ·rcases List.mem_cons.mp h with e|h
    ·cases e
     exact .inr ⟨by rw[beq_iff_eq.mp hk];exact List.mem_cons_self,rfl⟩
    ·exact .inl h
   ·exact .inr ⟨List.mem_cons_of_mem _ h,e⟩
  ·rcases jH h with h|⟨h,e⟩
   ·exact .inl h
   ·exact .inr ⟨List.mem_cons_of_mem _ h,e⟩
theorem ki{env:Env}{y:Str}:∀{ns:List (Str×NameKind)}{acc:List (Str×Addr)},acc.lookup y=some ((env.cells.lookup y).getD 0)∨(y,NameKind.free)∈ns->(cu env ns acc).lookup y=some ((env.cells.lookup y).getD 0)
 | [],acc,h=>by
  rcases h with h|h
  ·exact h
  ·cases h
 |(n,k)::r,acc,h=>by
  unfold cu
  split
  ·rename_i hk
   refine ki ?_
   by_cases hy:y=n
   ·subst hy
    exact .inl (by simp[List.lookup])
   ·have hb:(y==n)=false:=by simpa using hy
    rcases h with h|h
    ·exact .inl (by rw[List.lookup_cons,hb];exact h)
    ·rcases List.mem_cons.mp h with e|h
     ·cases e;exact absurd rfl hy
     ·exact .inr h
  ·rename_i hk
   refine ki ?_
   rcases h with h|h
   ·exact .inl h
   ·rcases List.mem_cons.mp h with e|h
    ·cases e;exact absurd rfl hk
    ·exact .inr h
theorem fU{y:Str}:∀{ns:List (Str×NameKind)}{n:Nat}{acc:List (Str×Addr)},(y,NameKind.cell)∉ns->(cellsFrom n ns acc).lookup y=acc.lookup y
 | [],_,_,_=>rfl
 |(z,k)::r,n,acc,h=>by
  unfold cellsFrom
  have hr:(y,NameKind.cell)∉r:=λq=>h (List.mem_cons_of_mem _ q)
  split
  ·rename_i hk
   rw[fU hr]
   have hy:(y==z)=false:=by
    cases e:y==z with
    |false=>rfl
    |true=>exact absurd (by rw[beq_iff_eq.mp e,beq_iff_eq.mp hk];exact List.mem_cons_self) h
   rw[List.lookup_cons,hy]
  ·exact fU hr
theorem kj{y:Str}{c:Addr}:∀{ns:List (Str×NameKind)}{n:Nat}{acc:List (Str×Addr)},(y,c)∈cellsFrom n ns acc->(y,c)∈acc∨(n<=c/\(y,NameKind.cell)∈ns)
 | [],_,_,h=> .inl h
 |(z,k)::r,n,acc,h=>by
  unfold cellsFrom at h
  split at h
  ·rename_i hk
   rcases kj h with h|⟨h,e⟩
   ·rcases List.mem_cons.mp h with e|h
    ·cases e
     exact .inr ⟨Nat.le_refl _,by rw[beq_iff_eq.mp hk];exact List.mem_cons_self⟩
    ·exact .inl h
   ·exact .inr ⟨by omega,List.mem_cons_of_mem _ e⟩
  ·rcases kj h with h|⟨h,e⟩
   ·exact .inl h
   ·exact .inr ⟨h,List.mem_cons_of_mem _ e⟩
theorem ko:∀{ns:List (Str×NameKind)}{n:Nat}{acc:List (Str×Addr)},(∀x y c,(x,c)∈acc->(y,c)∈acc->x=y) ->(∀y c,(y,c)∈acc->c<n) ->
  ∀x y c,(x,c)∈cellsFrom n ns acc->(y,c)∈cellsFrom n ns acc->x=y
 | [],_,_,h,_=>h
 |(z,k)::r,n,acc,h,hl=>by
  unfold cellsFrom
  split
  ·refine ko (λx y c h1 h2=> ?_) (λy c h1=> ?_)
   ·rcases List.mem_cons.mp h1 with e1|h1<;>rcases List.mem_cons.mp h2 with e2|h2
    ·cases e1;cases e2;rfl
    ·cases e1;exact absurd (hl _ _ h2) (Nat.lt_irrefl _)
    ·cases e2;exact absurd (hl _ _ h1) (Nat.lt_irrefl _)
    ·exact h x y c h1 h2
   ·rcases List.mem_cons.mp h1 with e1|h1
    ·cases e1;exact Nat.lt_succ_self _
    ·exact Nat.lt_succ_of_lt (hl _ _ h1)
  ·exact ko h hl
theorem iX:∀(ns:List (Str×NameKind))(h:Heap)(acc:List (Str×Addr))(y:Str)(c:Addr),(y,c)∈cellsFrom h.objs.size ns acc->(y,c)∈acc∨(pushCells h ns).IsCell c none
 | [],_,_,_,_,hm=> .inl hm
 |(z,k)::r,h,acc,y,c,hm=>by
  unfold cellsFrom at hm
  unfold pushCells
  split at hm
  ·rename_i hk
   rw[if_pos hk]
   have hm':(y,c)∈cellsFrom (h.push {cls:= .type "cell",data:= .cell none}).objs.size r ((z,h.objs.size)::acc):=by rw[Heap.size_push];exact hm
   rcases iX r _ _ y c hm' with hm|hm
   ·rcases List.mem_cons.mp hm with e|hm
    ·cases e
     exact .inr ⟨_,pushCells_keeps _ _ _ _ (Heap.get?_push_size _ rfl),rfl⟩
    ·exact .inl hm
   ·exact .inr hm
  ·rename_i hk
   rw[if_neg hk]
   exact iX r h acc y c hm
noncomputable def kindB(names:List (Str×NameKind))(y:Str)(k:NameKind):Bool:=names.lookup y==some k
noncomputable def uA:List Str->Bool
 | []=>true
 |x::r=> !r.contains x && uA r
theorem pH:∀{l:List Str},uA l=true->l.Nodup
 | [],_=>List.nodup_nil
 |x::r,h=>by
  unfold uA at h
  rw[Bool.and_eq_true]at h
  refine List.nodup_cons.mpr ⟨λhm=> ?_,pH h.2⟩
  have:r.contains x=true:=List.contains_iff_mem.mpr hm
  rw[this]at h
  exact absurd h.1 (by decide)
noncomputable def Bl:List Str->List Str->(Str->Str->Bool) ->Bool
 | [],[],_=>true
 |x::r,y::t,p=>p x y && Bl r t p
 |_,_,_=>false
theorem zG:∀{l m:List Str}{p:Str->Str->Bool},Bl l m p=true->l.length=m.length
 | [],[],_,_=>rfl
 | [],_::_,_,h=>by cases h
 |_::_,[],_,h=>by cases h
 |x::r,y::t,p,h=>by
  unfold Bl at h
  rw[Bool.and_eq_true]at h
  simp[zG h.2]
theorem zH:∀{l m:List Str}{p:Str->Str->Bool},Bl l m p=true-> ∀(i:Nat)(x:Str),l[i]?=some x-> ∃y,m[i]?=some y/\p x y=true
 | [],[],_,_,i,x,h=>by simp at h
 | [],_::_,_,h,_,_,_=>by cases h
 |_::_,[],_,h,_,_,_=>by cases h
 |x::r,y::t,p,h,0,z,e=>by
  unfold Bl at h
  rw[Bool.and_eq_true]at h
  simp at e;subst e
  exact⟨y,rfl,h.1⟩
 |x::r,y::t,p,h,i+1,z,e=>by
  unfold Bl at h
  rw[Bool.and_eq_true]at h
  obtain⟨w,e1,e2⟩:=zH h.2 i z (by simpa using e)
  exact⟨w,by simpa using e1,e2⟩
noncomputable def zI(names ks:List (Str×NameKind))(own N2 N:List Str):Bool:=
 names.all (λy=>y.2 != .free||kindB ks y.1 .cell||kindB ks y.1 .free) &&
 uA (names.map (·.1)) && uA (own++N2) &&
 names.all (λy=> !(y.2== .local||y.2== .cell)||own.contains y.1||y.1==(".0":Str)) &&
 Bl N2 N (λy z=>(y==z && y !=(".0":Str))||names.lookup y==none) &&
 own.all (λx=>kindB names x .local||kindB names x .cell)
structure qt(names ks:List (Str×NameKind))(own N2 N:List Str):Prop where
 fr:∀y,(y,NameKind.free)∈names->ks.lookup y=some .cell∨ks.lookup y=some .free
 nd:(names.map (·.1)).Nodup
 JU:(own++N2).Nodup
 owns:∀y k,(y,k)∈names->k= .local∨k= .cell->y∈own∨y=(".0":Str)
 zip:∀(j:Nat)(y:Str),N2[j]?=some y->(N[j]?=some y/\y≠(".0":Str))∨names.lookup y=none
 len:N2.length=N.length
 own:∀x∈own,names.lookup x=some .local∨names.lookup x=some .cell
theorem kq{names ks:List (Str×NameKind)}{own N2 N:List Str}(h:zI names ks own N2 N=true):qt names ks own N2 N:=by
 unfold zI at h
 simp only[Bool.and_eq_true]at h
 obtain⟨⟨⟨⟨⟨h1,h2⟩,h3⟩,h4⟩,h5⟩,h6⟩:=h
 refine⟨λy hy=> ?_,pH h2,pH h3,λy k hy hk=> ?_,λj y e=> ?_,zG h5,λx hx=> ?_⟩
 ·have q:=List.all_eq_true.mp h1 _ hy
  simp only[Bool.or_eq_true]at q
  rcases q with(q|q)|q
  ·exact absurd q (by simp)
  ·exact .inl (by simpa [kindB]using q)
  ·exact .inr (by simpa [kindB]using q)
 ·have q:=List.all_eq_true.mp h4 _ hy
  simp only[Bool.or_eq_true]at q
  rcases q with(q|q)|q
  ·rcases hk with rfl|rfl<;>simp at q
  ·exact .inl (List.contains_iff_mem.mp q)
  ·exact .inr (by simpa using q)
 ·obtain⟨z,e1,e2⟩:=zH h5 j y e
  simp only[Bool.or_eq_true,Bool.and_eq_true]at e2
  rcases e2 with⟨e2,e3⟩|e2
  ·exact .inl ⟨by rw[e1,beq_iff_eq.mp e2],by simpa using e3⟩
  ·exact .inr (by simpa using e2)
 ·have q:=List.all_eq_true.mp h6 _ hx
  simp only[Bool.or_eq_true]at q
  rcases q with q|q
  ·exact .inl (by simpa [kindB]using q)
  ·exact .inr (by simpa [kindB]using q)
theorem cz{α:Type}:∀{l:List (Str×α)}{y:Str}{k:α},(l.map (·.1)).Nodup->(y,k)∈l->l.lookup y=some k
 |(z,v)::r,y,k,nd,h=>by
  rw[List.map_cons,List.nodup_cons]at nd
  rw[List.lookup_cons]
  rcases List.mem_cons.mp h with e|h'
  ·cases e;simp
  ·have:(y==z)=false:=by
    cases e:y==z with
    |false=>rfl
    |true=>
     have e':y=z:=beq_iff_eq.mp e
     have q:y∈r.map (λx=>x.1):=List.mem_map.mpr ⟨(y,k),h',rfl⟩
     exact absurd (by rw[<-e'];exact q) nd.1
   rw[this]
   exact cz nd.2 h'
theorem jt{sc:Scope}{env:Env}{y:Str}:∀{ns:List (Str×NameKind)},
  (ns.map λ (n,k)=>if(k==NameKind.free && env.scope.kind== .function && env.kindOf n==some .cell)then(n,NameKind.cell)else(n,k)).lookup y=
   (ns.lookup y).map λk=>if(k==NameKind.free && env.scope.kind== .function && env.kindOf y==some .cell)then .cell else k
 | []=>rfl
 |(n,k)::r=>by
  have ih:= @jt sc env y r
  rw[List.map_cons,List.lookup_cons]
  show List.lookup y ((if(k==NameKind.free && env.scope.kind== .function && env.kindOf n==some .cell)=true then(n,NameKind.cell)else(n,k))::_)=_
  cases hx:y==n with
  |true=>
   have e:y=n:=beq_iff_eq.mp hx
   subst e
   by_cases hc:(k==NameKind.free && env.scope.kind== .function && env.kindOf y==some .cell)=true
   ·rw[if_pos hc]
    simp only[List.lookup_cons,hx,Option.map_some,if_pos hc]
   ·rw[if_neg hc]
    simp only[List.lookup_cons,hx,Option.map_some,if_neg hc]
  |false=>
   by_cases hc:(k==NameKind.free && env.scope.kind== .function && env.kindOf n==some .cell)=true
   ·rw[if_pos hc];simp only[List.lookup_cons,hx];exact ih
   ·rw[if_neg hc];simp only[List.lookup_cons,hx];exact ih
noncomputable def Cx.comp(X:Cx)(sc:Scope)(N':List Str)(s:Shared)(H:Hp)(fp:List Addr):Cx:=
 {X with
  N:=N'
  s₀:=s
  H₀:=H
  env:=compEnvC sc (cellsFrom (s.heap.objs.size+2) sc.names (cu X.env sc.names [])) (s.heap.objs.size+1) X.env
  outer:=X.stack
  ex:=fp
  fn:=λy=>sc.names.lookup y==some .cell
  pn:=[]
  xe:=λ_ _=>False}
section
variable{X:Cx}{pins:List (Addr×Obj)}{σ:St}{H:Hp}{s:Shared}{sc:Scope}{own N2:List Str}{fp:List Addr}
theorem jI(I:Inv X pins σ H s)(B:qt sc.names X.env.scope.names own N2 X.N):∀y,(y,NameKind.free)∈sc.names-> ∃c,X.env.cells.lookup y=some c:=λy hy=>by
 rcases B.fr y hy with q|q
 ·exact I.ok.has y (.inl q)
 ·exact I.ok.has y (.inr q)
theorem qu(I:Inv X pins σ H s)(B:qt sc.names X.env.scope.names own N2 X.N):closureFor sc X.env=pure (cu X.env sc.names []):=
 v7 λy hy hk=>by
  obtain⟨c,e⟩:=jI I B y.1 (by rw[<-hk];exact hy)
  rw[e];rfl
theorem iM(I:Inv X pins σ H s)(B:qt sc.names X.env.scope.names own N2 X.N){n:Nat}{y:Str}{c:Addr}(h:(y,c)∈cellsFrom n sc.names (cu X.env sc.names [])):
  (n<=c/\(y,NameKind.cell)∈sc.names)∨((y,NameKind.free)∈sc.names/\X.env.cells.lookup y=some c):=by
 rcases kj h with h|h
 ·rcases jH h with h|⟨h,e⟩
  ·cases h
  ·obtain⟨c',e'⟩:=jI I B y h
   rw[e']at e
   exact .inr ⟨h,by rw[e',e];rfl⟩
 ·exact .inl h
theorem lQ(I:Inv X pins σ H s)(B:qt sc.names X.env.scope.names own N2 X.N){n:Nat}{y:Str}{c:Addr}(hy:(y,NameKind.free)∈sc.names)(hc:X.env.cells.lookup y=some c):
  (cellsFrom n sc.names (cu X.env sc.names [])).lookup y=some c:=by
 rw[fU,ki (.inr hy),hc]
 ·rfl
 ·intro q
  have e1:=cz B.nd hy
  rw[cz B.nd q]at e1
  cases e1
theorem EF(I:Inv X pins σ H s)(B:qt sc.names X.env.scope.names own N2 X.N){n:Nat}(hn:s.heap.objs.size<=n){x y:Str}{c:Addr}(h1:(x,c)∈cellsFrom n sc.names (cu X.env sc.names []))
  (h2:(y,c)∈cellsFrom n sc.names (cu X.env sc.names [])):x=y:=by
 have old:∀z c,(z,c)∈cu X.env sc.names [] ->X.env.cells.lookup z=some c:=λz c hm=>by
  rcases jH hm with h|⟨h,e⟩
  ·cases h
  ·obtain⟨c',e'⟩:=jI I B z h
   rw[e']at e
   rw[e',e];rfl
 refine ko (λx y c h1 h2=>I.ok.inj x y c (old _ _ h1) (old _ _ h2)) (λz c hm=> ?_) x y c h1 h2
 obtain⟨v,q⟩:=I.cell z c (old _ _ hm)
 exact Nat.lt_of_lt_of_le q.lt hn
theorem x8(I:Inv X pins σ H s)(B:qt sc.names X.env.scope.names own N2 X.N){n:Nat}{env':Env}{h':Heap}{m:Str->Option Value}{j:Nat}{y:Str}{v:V}(hN:N2[j]?=some y)(hs:σ[j]?=some (some v))
  (hcl:env'.cells=cellsFrom n sc.names (cu X.env sc.names []))(hkd:∀y,(y,NameKind.free)∈sc.names->env'.kindOf y=some .cell∨env'.kindOf y=some .free)
  (hin:Lv env'.scope y-> ∃k,sc.names.lookup y=some k)(hown:y∉own)
  (keep:∀b o,s.heap.get? b=some o->h'.get? b=some o)(hv:Lv env'.scope y)(hk2:∀k,sc.names.lookup y=some k->k= .local∨k= .cell∨k= .free):∃u,RelV v u/\Look env' h' m y u:=by
 obtain⟨k,hk⟩:=hin hv
 rcases B.zip j y hN with⟨e,n0⟩|e
 ·have hm:=mem_of_lookup hk
  have kf:k= .free:=by
   rcases hk2 k hk with z|z|z
   ·rcases B.owns y k hm (.inl z)with q|q
    ·exact absurd q hown
    ·exact absurd q n0
   ·rcases B.owns y k hm (.inr z)with q|q
    ·exact absurd q hown
    ·exact absurd q n0
   ·exact z
  subst kf
  have hX:Lv X.env.scope y:=by
   rcases B.fr y hm with q|q
   ·exact .inr (.inl q)
   ·exact .inr (.inr q)
  obtain⟨m0,_,hl⟩:=I.loc
  obtain⟨u,r,l⟩:=hl j y v e hs hX
  refine⟨u,r,.inr ⟨hkd y hm,?_⟩⟩
  rcases l with⟨kl,_⟩|⟨_,c,hc,z⟩
  ·rcases B.fr y hm with q|q
   ·have OU:X.env.scope.names.lookup y=some .local:=kl
    rw[q]at OU;cases OU
   ·have OU:X.env.scope.names.lookup y=some .local:=kl
    rw[q]at OU;cases OU
  ·exact⟨c,by rw[hcl];exact lQ I B hm hc,z.keeps keep⟩
 ·rw[hk]at e;cases e
end
theorem j7{M:Model}{A:Around}{E:Value->Shared->Prop}{s:Shared}{sc:Scope}{g:Addr}{cl:List (Str×Addr)}{qual:Str}{env:Env}{Q:Env->Shared->Prop}
  (h:Q {scope:=sc,locals:=s.heap.objs.size,globals:=g,cells:=cellsFrom (s.heap.objs.size+1) sc.names cl,qual:=qual,func:=none,code:=env.code,frame:=env.frame,builtins:=env.builtins}
   {s with heap:=pushCells (s.heap.push {cls:= .type "dict",data:= .dict #[]}) sc.names}):
  wpAny M A (newFunctionEnv sc g cl [] qual none .none (some env)) Q E s:=by
 simp only[newFunctionEnv,Option.isSome_some,if_true]
 refine wpAny_bind (wpAny_alloc ?_)
 refine wpAny_bind (wpAny_layCells _ (λname kind cells=>by cases hkc:kind==NameKind.cell<;>simp[hkc]) _ _ _ _ ?_)
 rw[show({s with heap:=s.heap.push {cls:= .type "dict",data:= .dict #[]}}:Shared).heap.objs.size=s.heap.objs.size+1 from Heap.size_push ..]
 simp only[List.forIn_nil]
 exact wpAny_bind (wpAny_pure (wpAny_pure h))
section
variable{X:Cx}{pins:List (Addr×Obj)}{σ:St}{H:Hp}{s:Shared}{sc:Scope}{own N2:List Str}{fp:List Addr}
theorem uC{env:Env}{y:Str}(hv:Lv (relabel sc env) y):∃k,sc.names.lookup y=some k/\(k= .local∨k= .cell∨k= .free):=by
 have q:∀k,(relabel sc env).names.lookup y=some k->(k= .local∨k= .cell∨k= .free) -> ∃k,sc.names.lookup y=some k/\(k= .local∨k= .cell∨k= .free):=λk e hk=>by
  have e':=(jt (sc:=sc) (env:=env) (y:=y) (ns:=sc.names)).symm.trans e
  cases z:sc.names.lookup y with
  |none=>rw[z]at e';cases e'
  |some k0=>
   rw[z]at e'
   simp only[Option.map_some,Option.some.injEq]at e'
   refine⟨k0,rfl,?_⟩
   split at e'
   ·rename_i hc
    simp only[Bool.and_eq_true]at hc
    exact .inr (.inr (by simpa using hc.1.1))
   ·rw[e'];exact hk
 rcases hv with e|e|e
 ·exact q _ e (.inl rfl)
 ·exact q _ e (.inr (.inl rfl))
 ·exact q _ e (.inr (.inr rfl))
theorem kind_free(B:qt sc.names X.env.scope.names own N2 X.N){env:Env}{y:Str}(hy:(y,NameKind.free)∈sc.names):(relabel sc env).names.lookup y=some .cell∨(relabel sc env).names.lookup y=some .free:=by
 have e:=jt (sc:=sc) (env:=env) (y:=y) (ns:=sc.names)
 rw[cz B.nd hy]at e
 simp only[Option.map_some]at e
 split at e
 ·exact .inl e
 ·exact .inr e
theorem jJ{env:Env}{y:Str}{k:NameKind}(hy:sc.names.lookup y=some k)(hk:k= .local∨k= .cell):(relabel sc env).names.lookup y=some k:=by
 have e:=jt (sc:=sc) (env:=env) (y:=y) (ns:=sc.names)
 rw[hy]at e
 simp only[Option.map_some]at e
 rcases hk with rfl|rfl
 ·exact e
 ·exact e
theorem JV(I:Inv X pins σ H s)(B:qt sc.names X.env.scope.names own N2 X.N)(hk:sc.kind= .function)(hf:∀b∈fp,fS X pins H b)(ho:∀b∈fp,∃o,s.heap.get? b=some o):(X.comp sc (own++N2) s H fp).Ok:=by
 have lt:∀b∈fp,b<s.heap.objs.size:=λb hb=>let⟨o,e⟩:=ho b hb;Heap.lt_size e
 have jo:∀y c,(cellsFrom (s.heap.objs.size+2) sc.names (cu X.env sc.names [])).lookup y=some c->(s.heap.objs.size+2<=c/\(y,NameKind.cell)∈sc.names)∨((y,NameKind.free)∈sc.names/\X.env.cells.lookup y=some c):=
  λy c h=>iM I B (mem_of_lookup h)
 refine⟨I.ok.mod,hk,I.ok.glob,I.ok.blt,Nat.le_succ _,λx y c h1 h2=> ?_,λy hy=> ?_,λy c hy hc=> ?_,I.ok.hd,I.ok.frames,.inl rfl,λb hb=>⟨?_,λy c hc=> ?_⟩,I.bs,Nat.le_trans I.ok.JJ I.sz,λb o e hb=> ?_,λb hb hs=> ?_,I.stack,I.t8⟩
 ·exact EF I B (by omega) (mem_of_lookup h1) (mem_of_lookup h2)
 ·have hy':(relabel sc X.env).names.lookup y=some .cell∨(relabel sc X.env).names.lookup y=some .free:=hy
  obtain⟨k,e,Ds⟩:=uC (env:=X.env) (y:=y) (sc:=sc) (by rcases hy' with q|q;exact .inr (.inl q);exact .inr (.inr q))
  rcases Ds with rfl|rfl|rfl
  ·have:=jJ (env:=X.env) e (.inl rfl)
   rcases hy' with q|q
   ·rw[q]at this;cases this
   ·rw[q]at this;cases this
  ·exact Option.isSome_iff_exists.mp (PySem.W.cellsFrom_some sc.names _ _ (.inl e))
  ·obtain⟨c,hc⟩:=jI I B y (mem_of_lookup e)
   exact⟨c,lQ I B (mem_of_lookup e) hc⟩
 ·have hy':sc.names.lookup y=some .cell:=by
   have q:(sc.names.lookup y==some NameKind.cell)=true:=hy
   simpa using q
  rcases jo y c hc with⟨q,_⟩|⟨q,_⟩
  ·show s.heap.objs.size<=c
   omega
  ·rw[cz B.nd q]at hy';cases hy'
 ·exact Nat.ne_of_lt (Nat.lt_succ_of_lt (lt b hb))
 ·have hl:=lt b hb
  rcases jo y c hc with⟨q,_⟩|⟨_,q⟩
  ·exact Nat.ne_of_gt (Nat.lt_of_lt_of_le hl (Nat.le_trans (Nat.le_add_right _ 2) q))
  ·exact(hf b hb).2.2.2.2.1 y c q
 ·rcases(hf b hb).2.2.2.1 with z|z
  ·exact I.ok.Et b o e z
  ·exact absurd (Nat.lt_of_lt_of_le (Heap.lt_size (I.ok.bs b o e).1) z) (Nat.lt_irrefl _)
 ·rcases List.mem_cons.mp (I.uq b hs)with e|e
  ·exact(hf b hb).2.1 e
  ·exact(hf b hb).2.2.1 e
theorem zJ(I:Inv X pins σ H s)(B:qt sc.names X.env.scope.names own N2 X.N)(hk:sc.kind= .function)(hf:∀b∈fp,fS X pins H b)(ho:∀b∈fp,∃o,s.heap.get? b=some o):
  Inv (X.comp sc (own++N2) s H fp) [] (List.replicate own.length none++σ) (upd H s.heap.objs.size (.lst []))
   {s with heap:=pushCells ((s.heap.push {cls:= .type "list",dict:=none,data:= .seq ([]:List Value).toArray}).push {cls:= .type "dict",data:= .dict #[]}) sc.names}:=by
 have k1:∀b o,(s.heap.push {cls:= .type "list",dict:=none,data:= .seq ([]:List Value).toArray}).get? b=some o->
   (pushCells ((s.heap.push {cls:= .type "list",dict:=none,data:= .seq ([]:List Value).toArray}).push {cls:= .type "dict",data:= .dict #[]}) sc.names).get? b=some o:=
  λb o e=>pushCells_keeps _ _ b o (Heap.get?_push_of_some _ e)
 have k0:∀b o,s.heap.get? b=some o->
   (pushCells ((s.heap.push {cls:= .type "list",dict:=none,data:= .seq ([]:List Value).toArray}).push {cls:= .type "dict",data:= .dict #[]}) sc.names).get? b=some o:=
  λb o e=>k1 b o (Heap.get?_push_of_some _ e)
 have sz:((s.heap.push {cls:= .type "list",dict:=none,data:= .seq ([]:List Value).toArray}).push {cls:= .type "dict",data:= .dict #[]}).objs.size=s.heap.objs.size+2:=by rw[Heap.size_push,Heap.size_push]
 have jo:∀y c,(cellsFrom (s.heap.objs.size+2) sc.names (cu X.env sc.names [])).lookup y=some c->(s.heap.objs.size+2<=c/\(y,NameKind.cell)∈sc.names)∨((y,NameKind.free)∈sc.names/\X.env.cells.lookup y=some c):=
  λy c h=>iM I B (mem_of_lookup h)
 have GW:∀b,s.heap.objs.size<b->upd H s.heap.objs.size (.lst []) b=none:=λb hb=>by
  rw[aI (Nat.ne_of_gt hb)]
  exact I.hok.fresh (Nat.le_of_lt hb)
 refine⟨JV I B hk hf ho,rfl,.refl I.bare.bare,Un.laid k0 (Nat.le_refl _) I.fresh,⟨λ_=>none,?_,λi y v e1 e2 e3=> ?_⟩,λy c hc=> ?_,GW _ (Nat.lt_succ_self _),λy c hc=> ?_,λp hp=> ?_,I.hok.laid k0 (Nat.le_refl _) ?_,?_⟩
 ·have:=Heap.Ns.new (s.heap.push {cls:= .type "list",dict:=none,data:= .seq ([]:List Value).toArray}) (.type "dict")
  rw[Heap.size_push]at this
  exact this.keeps (pushCells_keeps _ _)
 ·by_cases hi:i<own.length
  ·rw[List.getElem?_append_left (by simpa using hi),List.getElem?_replicate]at e2
   split at e2<;>cases e2
  ·have Bm:(own++N2)[i]?=some y:=e1
   have hi':own.length<=i:=by omega
   rw[List.getElem?_append_right (by simpa using hi'),List.length_replicate]at e2
   rw[List.getElem?_append_right hi']at Bm
   have hown:y∉own:=λhm=>by
    have nd:=B.JU
    rw[List.nodup_append]at nd
    exact nd.2.2 y hm y (List.mem_of_getElem? Bm) rfl
   refine x8 I B (n:=s.heap.objs.size+2) Bm e2 rfl (λz hz=>kind_free B hz) (λhv=>let⟨k,e,_⟩:=uC hv;⟨k,e⟩) hown k0 e3 (λk e=> ?_)
   obtain⟨k',e',hk'⟩:=uC (sc:=sc) e3
   rw[e]at e';cases e'
   exact hk'
 ·rcases iX sc.names ((s.heap.push {cls:= .type "list",dict:=none,data:= .seq ([]:List Value).toArray}).push {cls:= .type "dict",data:= .dict #[]}) (cu X.env sc.names []) y c (by rw[sz];exact mem_of_lookup hc)with q|q
  ·rcases jH q with z|⟨z,e⟩
   ·cases z
   ·obtain⟨c',e'⟩:=jI I B y z
    rw[e']at e
    have e2:c=c':=e
    subst e2
    obtain⟨v,w⟩:=I.cell y c e'
    exact⟨v,w.keeps k0⟩
  ·exact⟨none,q⟩
 ·rcases jo y c hc with⟨q,_⟩|⟨_,q⟩
  ·exact GW c (by omega)
  ·obtain⟨v,w⟩:=I.cell y c q
   rw[aI (Nat.ne_of_lt w.lt)]
   exact I.mS y c q
 ·have fJ:p∈([]:List (Addr×Obj)):=hp
  cases fJ
 ·exact⟨Nat.zero_le _,[],0,.nil,k1 _ _ (Heap.get?_push_size _ rfl)⟩
 ·show(List.replicate own.length none++σ).length=(own++N2).length
  rw[List.length_append,List.length_append,List.length_replicate,I.len,B.len]
theorem Inv.Bo{σ':St}{H':Hp}{s':Shared}{N':List Str}(I:Inv X pins σ H s)(hf:∀b∈fp,fS X pins H b)(J:Inv (X.comp sc N' s H fp) [] σ' H' s'):Inv X pins σ H' s':=
 I.GA (ch:=fp) J.os J.base J.hok J.bare λb hb=>⟨(hf b hb).2.2.2.1,(hf b hb).2.1,(hf b hb).2.2.2.2.1,(hf b hb).2.2.2.2.2⟩
end
section
variable{prog:Program}{w:World}{A:Around}{R:Result->Shared->Prop}{s:Shared}
theorem nk{elt target iter:Expr}{scope:Scope}{pos:Pos}{it acc:Value}{env:Env}(I:Nat->Shared->Prop)
  (turn:∀n s,I n s->wpAny (model prog w) A (pyNext it) (λr s₁=>match r with
   |none=>R (.ok .next) s₁
   |some v=>wpAny (model prog w) A (letOwnedTupleGo target it v) (λ_ s₁'=>wpAny (model prog w) A (assign target env v) (λ_ s₂=>wpAny (model prog w) A (eval elt env) (λx s₃=>
     wpAny (model prog w) A (call (.builtin "list.append") [acc,x]) (λ_ s₄=> ∃m,m<n/\I m s₄) (λ_ _=>False) s₃)
     (λ_ _=>False) s₂) (λ_ _=>False) s₁') (λ_ _=>False) s₁) (λ_ _=>False) s)
  (n:Nat)(h:I n s):
  codeAny (model prog w) A (.compLoop (.ListComp elt [⟨target,iter,[],0⟩] scope pos) 0 it acc env) R s:=by
 refine codeAny_loop rfl I (λn s hI=> ?_) n h
 show wpAny _ _ ((compTurn (.ListComp elt [⟨target,iter,[],0⟩] scope pos) 0 it acc env).onRaise (λx=>do noteFrame x env;theTreesLotGoes x)) _ _ s
 refine wpAny_noted ?_
 rw[compTurn_list1]
 refine wpAny_bind (wpAny_standAt (wpAny_bind (wpAny_mono (turn n s hI) (λr s₁ h₁=> ?_) λ_ _ h'=>h'.elim)))
 cases r with
 |none=>exact wpAny_pure h₁
 |some v=>
  exact wpAny_bind (wpAny_mono h₁ (λ_ s₁' h₁'=>wpAny_bind (wpAny_mono h₁' (λ_ s₂ h₂=>wpAny_bind (wpAny_bind (wpAny_mono h₂ (λx s₃ h₃=>wpAny_bind (wpAny_mono h₃
   (λ_ s₄ h₄=>wpAny_pure (wpAny_pure ⟨rfl,h₄⟩)) λ_ _ h'=>h'.elim)) λ_ _ h'=>h'.elim))) λ_ _ h'=>h'.elim)) λ_ _ h'=>h'.elim)
end
noncomputable def nv(k:Nat)(g:TG)(te:TE)(σ:St)(J:It)(H1:Hp)(D:Addr)(Q:VK):Prop:=∃W:Nat->Nat->List V->St->Hp->Prop,(∃m,W 0 m [] (List.replicate k none++σ) (upd H1 D (.lst [])))/\
 ∀i m acc σ' H',W i m acc σ' H'->(J.stop i H'/\H' D=some (.lst acc)/\Q (.ref D) H')∨
  (J.go i H'/\acc.length<sizeLine/\ ∀x H2,J.zv i H' x H2->g x σ' H2 λσ3 H3=>te σ3 H3 λv H4=>H4 D=some (.lst acc)/\ ∃m',m'<m/\W (i+1) m' (acc++ [v]) σ3 (upd H4 D (.lst (acc++ [v]))))
noncomputable def nA(k:Nat)(wi:TI)(g:TG)(te:TE):TE:=λσ H Q=>wi σ H λJ H1=> ∀D,H1 D=none->nv k g te σ J H1 D Q
section
variable{X:Cx}{sc:Scope}{own N2:List Str}
theorem uF{elt iter tg:Expr}{pos MF:Pos}{wi:TI}{g:TG}{te:TE}{use:Option (Value->Sem Unit)}{Qf:Value->Shared->Prop}(hc:X.calm=true)(hi:PI X tg iter wi)(B:qt sc.names X.env.scope.names own N2 X.N)(hk:sc.kind= .function)
  (hg:∀s H fp,PG (X.comp sc (own++N2) s H fp) tg g)(he:∀s H fp,PE (X.comp sc (own++N2) s H fp) elt te)
  (hs:∀x,foldedSetIterable iter X.env x=pure x){pins:List (Addr×Obj)}{s0:Shared}{σ:St}{H0:Hp}{Q:VK}(I0:Inv X pins σ H0 s0)(h0:nA own.length wi g te σ H0 Q)
  (MI:∀s H fp,Inv X pins σ H s->(∀b∈fp,fS X pins H b) -> ∀(σ':St)(H':Hp)(s':Shared),Inv (X.comp sc (own++N2) s H fp) [] σ' H' s'->Q (.ref s.heap.objs.size) H'->
   compPost (model X.prog X.w) X.A X.xe use Qf (.ref s.heap.objs.size) (s.heap.objs.size+1) (.ok .next) s'):
  wpAny (model X.prog X.w) X.A (comprehension (.ListComp elt [⟨tg,iter,[],0⟩] sc pos) sc X.env MF (newList []) false (eval iter X.env) use) Qf X.xe s0:=by
 refine wpAny_comprehension_free (use:=use) rfl hs (qu I0 B) hk (λy hy hl=>cz B.nd (by rw[<-hl];exact hy)) ?_
 refine wpAny_mono (hi pins s0 σ H0 _ I0 h0) (λv s1 h1=>wpAny_mono h1 (λitv s h2=> ?_) λ_ _ e=>e) λ_ _ e=>e
 obtain⟨it,fp,tn,J,H,e,I,T,st,hf,rd⟩:=h2
 subst e
 have ho:∀b∈fp,∃o,s.heap.get? b=some o:=λb hb=>let⟨o,e,_⟩:=T.obj 0 _ st b hb;⟨o,e⟩
 obtain⟨W,⟨m0,w0⟩,turn⟩:=rd s.heap.objs.size I.fresh
 refine wpAny_newObj_type ?_
 refine j7 ?_
 have IB:=zJ I B hk hf ho
 have MJ:∀{H':Hp},(∀b∈fp,H' b=none) -> ∀b∈fp,fS (X.comp sc (own++N2) s H fp) [] H' b:=λhn b hb=>by
  have ok:=IB.ok
  refine⟨hn b hb,(ok.Lw b hb).1,ok.Bb b hb,.inl hb,λy c hc=>(ok.Lw b hb).2 y c hc,λp hp=> ?_⟩
  have fJ:p∈([]:List (Addr×Obj)):=hp
  cases fJ
 have lt:∀b∈fp,b≠s.heap.objs.size:=λb hb=>let⟨o,e⟩:=ho b hb;Nat.ne_of_lt (Heap.lt_size e)
 have fin:=MI s H fp I hf
 have loop:∀s3:Shared,s3={s with heap:=pushCells ((s.heap.push {cls:= .type "list",dict:=none,data:= .seq ([]:List Value).toArray}).push {cls:= .type "dict",data:= .dict #[]}) sc.names} ->
   codeAny (model X.prog X.w) X.A (.compLoop (.ListComp elt [⟨tg,iter,[],0⟩] sc pos) 0 (.ref it) (.ref s.heap.objs.size) (X.comp sc (own++N2) s H fp).env)
    (compPost (model X.prog X.w) X.A X.xe use Qf (.ref s.heap.objs.size) (s.heap.objs.size+1)) s3:=by
  rintro s3 rfl
  refine nk (λn s'=> ∃i acc σ' H',Inv (X.comp sc (own++N2) s H fp) [] σ' H' s'/\tn i s'.heap/\(∀b∈fp,H' b=none)/\W i n acc σ' H') ?_ m0
   ⟨0,[],_,_,IB,T.keep _ _ _ st λb _ o e=>pushCells_keeps _ _ b o (Heap.get?_push_of_some _ (Heap.get?_push_of_some _ e)),λb hb=> ?_,w0⟩
  ·rintro n s3 ⟨i,acc,σ3,H3,I3,st3,zA,w3⟩
   rcases turn i n acc σ3 H3 w3 with⟨stop,hD,qn⟩|⟨go,hz,step⟩
   ·refine fR (T.done (X.comp sc (own++N2) s H fp) rfl rfl rfl hc i [] s3 σ3 H3 _ I3 (MJ zA) st3 stop) λr s4 ⟨hr,I4⟩=> ?_
    subst hr
    exact fin σ3 H3 s4 I4 qn
   ·refine fR (T.item (X.comp sc (own++N2) s H fp) rfl rfl rfl hc i [] s3 σ3 H3 _ I3 (MJ zA) st3 go) λr s4 ⟨u,hr,h4⟩=> ?_
    subst hr
    refine fR h4 λ_ s5 ⟨x,H5,I5,r5,y5,Ex,Gr⟩=> ?_
    have OM:=I5.pinned (MJ Gr) (T.obj _ _ Ex)
    refine fR (hg s H fp _ s5 σ3 H5 x u _ OM r5 (step x H5 y5)) λ_ s6 ⟨GJ,H6,I6,q6⟩=> ?_
    refine fR (he s H fp _ s6 GJ H6 _ I6 q6) λv s7 ⟨y,H7,I7,r7,RK,m',hm',w7⟩=> ?_
    refine fR (kU _ s7 GJ H7 (.ref s.heap.objs.size) [y] (.ref s.heap.objs.size) [v] (λz H8=>z= .iW/\H8=upd H7 s.heap.objs.size (.lst (acc++ [y]))) I7 rfl (.cons r7 .nil) ⟨s.heap.objs.size,acc,y,rfl,rfl,RK,hz,rfl,rfl⟩) λz s8 ⟨zz,H8,I8,_,_,e8⟩=> ?_
    subst e8
    refine⟨m',hm',i+1,acc++ [y],GJ,_,I8.jG,T.keep _ _ _ Ex λb hb o e=>(I8.pin (b,o) (List.mem_append_right _ (List.mem_append_right _ (cH hb e)))).1,λb hb=> ?_,w7⟩
    obtain⟨o,e,d⟩:=T.obj _ _ Ex b hb
    exact(I8.pin (b,o) (List.mem_append_right _ (List.mem_append_right _ (cH hb e)))).2.1
  ·rw[aI (lt b hb)]
   exact(hf b hb).1
 have e1:(s.heap.push {cls:= .type "list",dict:=none,data:= .seq ([]:List Value).toArray}).objs.size=s.heap.objs.size+1:=Heap.size_push ..
 dsimp only
 rw[e1]
 exact codeAny_compStart_list (loop _ rfl) (T.self _ 0 _ _ _ (T.keep _ _ _ st λb _ o e=>pushCells_keeps _ _ b o (Heap.get?_push_of_some _ (Heap.get?_push_of_some _ e))) (loop _ rfl))
theorem Inv.GX{pins:List (Addr×Obj)}{σ σ1:St}{H H1:Hp}{s s1:Shared}{h':Heap}(I:Inv X pins σ H s)(I1:Inv X pins σ1 H1 s1)(hn:H1 (s.heap.objs.size+1)=none)(sb:Heap.SameBut (s.heap.objs.size+1) s1.heap h'):Inv X pins σ1 H1 {s1 with heap:=h'}:=by
 have ne:∀b o,s.heap.get? b=some o->b≠s.heap.objs.size+1:=λb o e=>Nat.ne_of_lt (Nat.lt_succ_of_lt (Heap.lt_size e))
 refine I1.turned (it:=s.heap.objs.size+1) (t':=s1.toks) (λb o hb e=>(sb.2 b hb).trans e) hn (Nat.ne_of_gt (Nat.lt_succ_of_lt I.lt)) (.inr (Nat.le_succ_of_le I.sz)) (λy c e=> ?_) (λp hp=>ne _ _ (I.pin p hp).1)
 obtain⟨v,w⟩:=I.cell y c e
 exact Nat.ne_of_lt (Nat.lt_succ_of_lt w.lt)
theorem zK{elt iter tg:Expr}{pos:Pos}{wi:TI}{g:TG}{te:TE}(hc:X.calm=true)(hi:PI X tg iter wi)(B:qt sc.names X.env.scope.names own N2 X.N)(hk:sc.kind= .function)
  (hg:∀s H fp,PG (X.comp sc (own++N2) s H fp) tg g)(he:∀s H fp,PE (X.comp sc (own++N2) s H fp) elt te)
  (hs:∀x,foldedSetIterable iter X.env x=pure x:=by intro _;rfl):PE X (.ListComp elt [⟨tg,iter,[],0⟩] sc pos) (nA own.length wi g te):=by
 intro pins s0 σ H0 Q I0 h0
 rw[eval_ListComp]
 refine uF (use:=none) hc hi B hk hg he hs I0 h0 λs H fp I hf σ' H' s' JB q=> ?_
 obtain⟨m,hn,_⟩:=JB.loc
 exact⟨m,hn,λh' sb=>⟨.ref s.heap.objs.size,H',I.GX (I.Bo hf JB) JB.free sb,rfl,q⟩⟩
theorem GY{i:Nat}{y:Str}{py spos:Pos}{elt iter tg:Expr}{pos:Pos}{wi:TI}{g:TG}{te:TE}(hN:X.N.Nodup)(hi':X.N[i]?=some y)(hy:X.env.scope.names.lookup y=some .local)(hc:X.calm=true)(hi:PI X tg iter wi)(B:qt sc.names X.env.scope.names own N2 X.N)(hk:sc.kind= .function)
  (hg:∀s H fp,PG (X.comp sc (own++N2) s H fp) tg g)(he:∀s H fp,PE (X.comp sc (own++N2) s H fp) elt te)
  (hsw:swapsWith (.ListComp elt [⟨tg,iter,[],0⟩] sc pos) (some (.Name y py)) spos.line X.env=pure true:=by rfl)(hs:∀x,foldedSetIterable iter X.env x=pure x:=by intro _;rfl):
  PS X (.Assign [.Name y py] (.ListComp elt [⟨tg,iter,[],0⟩] sc pos) spos) (Bf (nA own.length wi g te) (dI i)):=by
 intro pins s0 σ H0 D I0 h0
 rw[exec_Assign_Name_used _ _ _ _ hsw]
 refine wpAny_bind (wpAny_standAt (wpAny_bind ?_))
 show wpAny _ X.A (do let _<-comprehension (.ListComp elt [⟨tg,iter,[],0⟩] sc pos) sc X.env _ (newList []) false (eval iter X.env) (some (assign (.Name y py) X.env))) _ _ s0
 refine wpAny_bind (wpAny_mono (uF (use:=some (assign (.Name y py) X.env)) (Qf:=λ_ s'=>SP X pins D .next s') hc hi B hk hg he hs I0 h0 λs H fp I hf σ' H' s' JB q=> ?_) (λ_ s' hq=>wpAny_pure (wpAny_pure hq)) λ_ _ e=>e)
 have IX:=I.Bo hf JB
 refine wpAny_assign_Name (wU IX hN hi' (.inl hy) (v:= .ref s.heap.objs.size) rfl (λs2 I2 ⟨a,Qq,ha⟩=> ?_) (.inr hy))
 obtain⟨m,hn,_⟩:=JB.loc
 have ea:a=X.env.locals∨a<s.heap.objs.size:=by
  rcases ha with z|z
  ·exact .inl z
  ·obtain⟨v,w⟩:=I.cell y a z
   exact .inr w.lt
 have Ob:s.heap.objs.size+1≠a:=by
  rcases ea with z|z
  ·rw[z];exact Nat.ne_of_gt (Nat.lt_succ_of_lt I.lt)
  ·exact Nat.ne_of_gt (Nat.lt_succ_of_lt z)
 refine⟨m,hn.sameBut Qq Ob,λh' sb=>⟨_,H',I.GX I2 JB.free sb,q⟩⟩
end
noncomputable def dS(P:Addr):HO:= .ext λh=> ∃ps:Array Value,h.get? P=some {cls:= .none,data:= .fields ps}/\TriplesOk ps.toList
structure gf(K:PySem.W.Frag)(cd:Value)(P:Addr):Prop where
 ex:∃(c:Addr)(o:Obj)(vs:Array Value)(file:Str)(tf:Tok)(flags:Int)(tg:Tok)(MK:Bool)(text:Int)(tt:Tok),cd= .ref c/\K.lookup c=some o/\o.cls= .type "code"/\o.data= .fields vs/\vs[11]?=some (.ref P)/\
  vs.getD 18 .none= .str file tf/\vs.getD 7 .none= .int flags tg/\vs.getD 9 .none= .bool MK/\vs.getD 10 .none= .int text tt
theorem GZ{P:Program}{w:World}{H:Hp}{h:Heap}{T:Addr}{ps:Array Value}(e:h.get? T=some {cls:= .none,data:= .fields ps})(t:TriplesOk ps.toList):fm P w H h T (dS T):=
 ⟨⟨ps,e,t⟩,⟨_,e⟩,λh1 h2 ⟨qs,e1,t1⟩ k=>⟨qs,k _ e1,t1⟩⟩
theorem Hf{H:Hp}{a:Addr}{o:HO}(h:H a=some o):upd H a o=H:=by
 funext b
 unfold upd
 split
 ·rename_i e;rw[e,h]
 ·rfl
section
variable{X:Cx}{pins:List (Addr×Obj)}{σ:St}{H:Hp}{s:Shared}{P:Addr}
theorem Bq{pos:Pos}{qn:Str}{sc:Scope}{Q:Value->Shared->Prop}{E:Value->Shared->Prop}{M:Model}{A:Around}(I:Inv X pins σ H s)(hcd:gf X.K X.env.code P)(hP:H P=some (dS P))
  (h:∀code h' tk,Inv X pins σ H {s with heap:=h',toks:=tk} ->Heap.ExtBut P s.heap h'->Q code {s with heap:=h',toks:=tk}):wpAny M A (genexprCode X.env pos qn sc) Q E s:=by
 obtain⟨c,o,vs,file,tf,flags,tg,MK,text,tt,ec,hc,hcl,hd,h11,OV,h7,h9,v8⟩:=hcd.ex
 obtain⟨⟨ps,eP,tr⟩,_,_⟩:=I.hok P _ hP
 have hcs:s.heap.get? c=some o:=I.xQ c o hc
 have hcn:H c=none:=(I.bs c o (I.ok.mod.NZ c o hc)).2
 have ne:c≠P:=λe=>by rw[e,hP]at hcn;cases hcn
 have ML:vs.getD 11 .none= .ref P:=by
  have:vs.getD 11 .none=(vs[11]?).getD .none:=by simp
  rw[this,h11];rfl
 have code:s.heap.IsCode c P ps:=⟨o,vs,file,tf,flags,tg,MK,text,tt,_,hcs,hd,ML,OV,h7,h9,v8,eP,rfl,tr,ne⟩
 have tab:s.heap.TableAt c P ps:=⟨⟨o,vs,hcs,hcl,hd,h11⟩,eP⟩
 cases q:codeAmong pos ps.toList with
 |some c'=>exact wpAny_genexprCode_hit ec code q (h c' s.heap s.toks I (λ_ _ _ e=>e))
 |none=>
  refine wpAny_genexprCodeX ec code tab q λc' h' tk hx _ _ MM _ Hg _=>h _ h' tk ?_ hx
  have I':=I.write (x:=P) (e:=P) (o:=dS P) (h':=h') (t':=tk) (by rw[hP];exact trivial) (.inl rfl) (λb u hb e=>hx b u hb e) ⟨_,Hg.2⟩
   (GZ Hg.2 (by obtain⟨_,_,_,_,_,_,_,_,_,op,_,_,_,_,_,_,_,e1,e2,e3,_⟩:=MM;rw[Hg.2]at e1;cases e1;exact e3))
  rw[Hf hP]at I'
  exact I'
end
noncomputable def BM(mg:Str->Option Value)(base:Heap):Prop:=∃bm ob,mg "__builtins__"=some (.ref bm)/\bm≠builtinsNs/\base.get? bm=some ob/\ob.cls= .type "module"/\ob.dict=some builtinsNs/\ob.data= .plain
noncomputable def JX(B:Around)(cenv:Env):Around:={handled:=B.handled,depth:=B.depth+1,frames:=B.frames.map (cenv:: ·),guards:=B.guards,units:=B.units+3}
noncomputable def Cx.gen(X:Cx)(B:Around)(sc:Scope)(N':List Str)(code:Value)(s:Shared)(H:Hp)(fp:List Addr):Cx:=
 {X with
  N:=N'
  s₀:={s with gens:=s.gens.push .running}
  H₀:=H
  A:=JX B (genEnv sc (cu X.env sc.names []) s.heap.objs.size code builtinsNs X.env)
  env:=genEnv sc (cu X.env sc.names []) s.heap.objs.size code builtinsNs X.env
  outer:=X.stack
  stack:=genEnv sc (cu X.env sc.names []) s.heap.objs.size code builtinsNs X.env::X.stack
  ex:=fp
  fn:=λ_=>false
  pn:=[]
  xe:=λ_ _=>False}
section
variable{X:Cx}{pins:List (Addr×Obj)}{σ:St}{H:Hp}{s:Shared}{sc:Scope}{own N2:List Str}{fp:List Addr}{B:Around}{code:Value}
theorem oF{sc:Scope}{y:Str}(hv:Lv sc y):∃k,sc.names.lookup y=some k/\(k= .local∨k= .cell∨k= .free):=by
 rcases hv with e|e|e
 ·exact⟨_,e,.inl rfl⟩
 ·exact⟨_,e,.inr (.inl rfl)⟩
 ·exact⟨_,e,.inr (.inr rfl)⟩
theorem eO{n:Nat}:∀{ns:List (Str×NameKind)}{acc:List (Str×Addr)},(∀y∈ns,y.2≠ .cell) ->cellsFrom n ns acc=acc
 | [],_,_=>rfl
 |(y,k)::r,acc,h=>by
  unfold cellsFrom
  have hk:(k==NameKind.cell)=false:=by simpa using h (y,k) List.mem_cons_self
  rw[hk]
  exact eO λz hz=>h z (List.mem_cons_of_mem _ hz)
theorem MN(I:Inv X pins σ H s)(Bk:qt sc.names X.env.scope.names own N2 X.N)(hk:sc.kind= .function)(hnc:∀y∈sc.names,y.2≠ .cell)(hf:∀b∈fp,fS X pins H b)(ho:∀b∈fp,∃o,s.heap.get? b=some o)
  (hB:B.frames=some X.stack)(hh:B.handled=none):(X.gen B sc (own++N2) code s H fp).Ok:=by
 have lt:∀b∈fp,b<s.heap.objs.size:=λb hb=>let⟨o,e⟩:=ho b hb;Heap.lt_size e
 have jo:∀y c,(cu X.env sc.names []).lookup y=some c->(y,NameKind.free)∈sc.names/\X.env.cells.lookup y=some c:=λy c h=>by
  have h':(cellsFrom 0 sc.names (cu X.env sc.names [])).lookup y=some c:=by rw[eO hnc];exact h
  rcases iM I Bk (mem_of_lookup h')with⟨_,q⟩|q
  ·exact absurd rfl (hnc _ q)
  ·exact q
 refine⟨I.ok.mod,hk,I.ok.glob,rfl,Nat.le_refl _,λx y c h1 h2=> ?_,λy hy=> ?_,λy c hy hc=>absurd hy (by show ¬(false=true);decide),λ_=>hh,?_,.inr ⟨rfl,rfl⟩,λb hb=>⟨?_,λy c hc=> ?_⟩,I.bs,Nat.le_trans I.ok.JJ I.sz,λb o e hb=> ?_,λb hb hs=> ?_,I.stack,I.t8⟩
 ·exact I.ok.inj x y c (jo x c h1).2 (jo y c h2).2
 ·have hy':sc.names.lookup y=some .cell∨sc.names.lookup y=some .free:=hy
  rcases hy' with e|e
  ·exact absurd rfl (hnc _ (mem_of_lookup e))
  ·obtain⟨c,hc⟩:=jI I Bk y (mem_of_lookup e)
   have:=lQ (n:=0) I Bk (mem_of_lookup e) hc
   rw[eO hnc]at this
   exact⟨c,this⟩
 ·show B.frames.map _=_
  rw[hB];rfl
 ·exact Nat.ne_of_lt (lt b hb)
 ·exact(hf b hb).2.2.2.2.1 y c (jo y c hc).2
 ·rcases(hf b hb).2.2.2.1 with z|z
  ·exact I.ok.Et b o e z
  ·exact absurd (Nat.lt_of_lt_of_le (Heap.lt_size (I.ok.bs b o e).1) z) (Nat.lt_irrefl _)
 ·rcases List.mem_cons.mp (I.uq b hs)with e|e
  ·exact(hf b hb).2.1 e
  ·exact(hf b hb).2.2.1 e
theorem JY{h':Heap}{tk:Nat}{m:Str->Option Value}(I:Inv X pins σ H s)(Bk:qt sc.names X.env.scope.names own N2 X.N)(hk:sc.kind= .function)(hnc:∀y∈sc.names,y.2≠ .cell)(hf:∀b∈fp,fS X pins H b)(ho:∀b∈fp,∃o,s.heap.get? b=some o)
  (hB:B.frames=some X.stack)(hh:B.handled=none)(hn:h'.Ns s.heap.objs.size m)(keep:∀b o,s.heap.get? b=some o->h'.get? b=some o):
  Inv (X.gen B sc (own++N2) code s H fp) [] (List.replicate own.length none++σ) H {s with heap:=h',toks:=tk,gens:=s.gens.push .running}:=by
 have jo:∀y c,(cu X.env sc.names []).lookup y=some c->(y,NameKind.free)∈sc.names/\X.env.cells.lookup y=some c:=λy c h=>by
  have h':(cellsFrom 0 sc.names (cu X.env sc.names [])).lookup y=some c:=by rw[eO hnc];exact h
  rcases iM I Bk (mem_of_lookup h')with⟨_,q⟩|q
  ·exact absurd rfl (hnc _ q)
  ·exact q
 refine⟨MN I Bk hk hnc hf ho hB hh,rfl,.refl (I.bare.bare.push rfl),Un.kept keep,⟨m,hn,λi y v e1 e2 e3=> ?_⟩,λy c hc=> ?_,I.fresh,λy c hc=>I.mS y c (jo y c hc).2,λp hp=> ?_,I.hok.kept keep,?_⟩
 ·by_cases hi:i<own.length
  ·rw[List.getElem?_append_left (by simpa using hi),List.getElem?_replicate]at e2
   split at e2<;>cases e2
  ·have Bm:(own++N2)[i]?=some y:=e1
   have hi':own.length<=i:=by omega
   rw[List.getElem?_append_right (by simpa using hi'),List.length_replicate]at e2
   rw[List.getElem?_append_right hi']at Bm
   have hown:y∉own:=λhm=>by
    have nd:=Bk.JU
    rw[List.nodup_append]at nd
    exact nd.2.2 y hm y (List.mem_of_getElem? Bm) rfl
   refine x8 I Bk (n:=0) Bm e2 (eO hnc).symm (λz hz=> .inr (cz Bk.nd hz)) (λhv=>let⟨k,e,_⟩:=oF hv;⟨k,e⟩) hown keep e3 (λk e=> ?_)
   obtain⟨k',e',hk'⟩:=oF e3
   have JZ:sc.names.lookup y=some k':=e'
   rw[e]at JZ;cases JZ
   exact hk'
 ·obtain⟨v,w⟩:=I.cell y c (jo y c hc).2
  exact⟨v,w.keeps keep⟩
 ·have fJ:p∈([]:List (Addr×Obj)):=hp
  cases fJ
 ·show(List.replicate own.length none++σ).length=(own++N2).length
  rw[List.length_append,List.length_append,List.length_replicate,I.len,Bk.len]
theorem Inv.LH{σ':St}{H':Hp}{s':Shared}{N':List Str}{pl:List (Addr×Obj)}{gs:GenState}(I:Inv X pins σ H s)(hf:∀b∈fp,fS X pins H b)(hb:gs.bare=true)(J:Inv (X.gen B sc N' code s H fp) pl σ' H' s'):
  Inv X pins σ H' (s'.setGen s.gens.size gs):=by
 have sz:s.gens.size+1<=s'.gens.size:=by
  have:=J.bare.size
  simpa [Cx.gen]using this
 refine I.GA (ch:=fp) J.os J.base J.hok ⟨?_,?_,λk hk=> ?_⟩ λb hb=>⟨(hf b hb).2.2.2.1,(hf b hb).2.1,(hf b hb).2.2.2.2.1,(hf b hb).2.2.2.2.2⟩
 ·intro y hy
  simp only[Shared.setGen]at hy
  rcases Array.mem_or_eq_of_mem_setIfInBounds hy with q|q
  ·exact J.bare.bare y q
  ·rw[q];exact hb
 ·simp only[Shared.setGen,Array.size_setIfInBounds]
  omega
 ·have e:=J.bare.old k (by simp[Cx.gen];omega)
  simp only[Shared.setGen]
  rw[Array.getElem?_setIfInBounds_ne (by omega),e]
  show(s.gens.push .running)[k]?=s.gens[k]?
  rw[Array.getElem?_push_lt (by omega)]
  simp[hk]
end
theorem kW{B:Around}{elt:Expr}{gens:List Comprehension}{sc:Scope}{pos:Pos}{it acc:Value}{cenv:Env}:
  B.over (.compLoop (.GeneratorExp elt gens sc pos) 0 it acc cenv) []=JX B cenv:=by
 unfold Around.over JX
 congr 1
section
variable(X:Cx)(B:Around)(sc:Scope)(N':List Str)(code:Value)(sC:Shared)(HC:Hp)(fp Ss:List Addr)(tn:Nat->Heap->Prop)(cnt:Nat)(R:Nat->V->Prop)(W:Nat->St->Hp->Prop)
noncomputable def x9:Protocol:=λn s₀ v s Vl=> ∃pl σ' H' x,(∀p∈pl,p.1∉Ss)/\Inv (X.gen B sc N' code sC HC fp) (cQ Ss s₀.heap++pl) σ' H' s/\tn (cnt-n) s.heap/\(∀b∈fp,H' b=none)/\RelV x v/\R (cnt-n-1) x/\W (cnt-n) σ' H'/\
 ∀s'':Shared,(∀b∈Ss,∃o,s''.heap.get? b=some o) ->Inv (X.gen B sc N' code sC HC fp) (cQ Ss s''.heap++pl) σ' H' s''->tn (cnt-n) s''.heap->Vl (.send .none) s''
noncomputable def Ka:GenEnd:=λn s₀ r s₁=>r= .ok .next/\n=0/\ ∃σ' H',Inv (X.gen B sc N' code sC HC fp) (cQ Ss s₀.heap) σ' H' s₁/\W cnt σ' H'
end
section
variable{X:Cx}{B:Around}{sc:Scope}{N':List Str}{code:Value}{sC:Shared}{HC:Hp}{fp Ss:List Addr}{tn:Nat->Heap->Prop}{cnt:Nat}{R:Nat->V->Prop}{W:Nat->St->Hp->Prop}
variable{elt iter tg:Expr}{pos:Pos}{it:Addr}{J:It}{g:TG}{te:TE}
theorem zL{Ss:List Addr}{h:Heap}{p:Addr×Obj}(hp:p∈cQ Ss h):p.1∈Ss:=(jA hp).1
theorem Br{pl:List (Addr×Obj)}{σ':St}{H' H2:Hp}{s:Shared}(I:Inv (X.gen B sc N' code sC HC fp) pl σ' H2 s)(hn:∀b∈fp,H' b=none)(hd:∀p∈pl,p.1∉fp):∀b∈fp,fS (X.gen B sc N' code sC HC fp) pl H' b:=λb hb=>by
 have ok:=I.ok
 refine⟨hn b hb,(ok.Lw b hb).1,ok.Bb b hb,.inl hb,λy c hc=>(ok.Lw b hb).2 y c hc,λp hp e=> ?_⟩
 have fJ:p∈pl:=by simpa [Cx.gen]using hp
 exact hd p fJ (by rw[e];exact hb)
theorem Kc(hco:sc.isCoroutine=false)(hc:X.calm=true)(T:Turn X.prog X.w X.K tg J fp it tn)(hg:PG (X.gen B sc N' code sC HC fp) tg g)(he:PE (X.gen B sc N' code sC HC fp) elt te)(Hh:∀b∈fp,b∉Ss)
  (turn:∀i σ' H',i<cnt->W i σ' H'->J.go i H'/\ ∀x H2,J.zv i H' x H2->g x σ' H2 λσ3 H3=>te σ3 H3 λv H4=>R i v/\W (i+1) σ3 H4)
  (stop:∀σ' H',W cnt σ' H'->J.stop cnt H'):
  ∀(n i:Nat)(σ':St)(H':Hp)(s₀ s:Shared),n+i=cnt->W i σ' H'->Inv (X.gen B sc N' code sC HC fp) (cQ Ss s₀.heap) σ' H' s->tn i s.heap->(∀b∈fp,H' b=none) ->
   Seg (model X.prog X.w) B (Ka X B sc N' code sC HC fp Ss cnt W) (x9 X B sc N' code sC HC fp Ss tn cnt R W) n s₀ (.compLoop (.GeneratorExp elt [⟨tg,iter,[],0⟩] sc pos) 0 (.ref it) .none (X.gen B sc N' code sC HC fp).env)
    ((model X.prog X.w).den (.compLoop (.GeneratorExp elt [⟨tg,iter,[],0⟩] sc pos) 0 (.ref it) .none (X.gen B sc N' code sC HC fp).env)) [] s:=by
 have RL:∀{h:Heap},∀p∈cQ Ss h,p.1∉fp:=λp hp hb=>Hh p.1 hb (zL hp)
 intro n
 induction n with
 |zero=>
  intro i σ' H' s₀ s hn w I st fr
  obtain rfl:i=cnt:=by omega
  show Seg _ B _ _ _ s₀ _ ((compTurn (.GeneratorExp elt [⟨tg,iter,[],0⟩] sc pos) 0 (.ref it) .none (X.gen B sc N' code sC HC fp).env).onRaise (leaving (X.gen B sc N' code sC HC fp).env)) [] s
  rw[compTurn_gen,Sem.onRaise_eq_wrap]
  refine seg_bind_wrap (wpAny_standAt ?_)
  refine seg_bind_wrap ?_
  rw[kW]
  refine fR (T.done (X.gen B sc N' code sC HC fp) rfl rfl rfl hc i _ s σ' H' _ I (Br I fr RL) st (stop σ' H' w)) λr s1 ⟨hr,I1⟩=> ?_
  subst hr
  exact seg_end (.ok .next) ⟨rfl,rfl,σ',H',I1,w⟩
 |succ n ih=>
  intro i σ' H' s₀ s hn w I st fr
  have hi:i<cnt:=by omega
  obtain⟨go,step⟩:=turn i σ' H' hi w
  show Seg _ B _ _ _ s₀ _ ((compTurn (.GeneratorExp elt [⟨tg,iter,[],0⟩] sc pos) 0 (.ref it) .none (X.gen B sc N' code sC HC fp).env).onRaise (leaving (X.gen B sc N' code sC HC fp).env)) [] s
  rw[compTurn_gen,Sem.onRaise_eq_wrap]
  refine seg_bind_wrap (wpAny_standAt ?_)
  refine seg_bind_wrap ?_
  rw[kW]
  refine fR (T.item (X.gen B sc N' code sC HC fp) rfl rfl rfl hc i _ s σ' H' _ I (Br I fr RL) st go) λr s1 ⟨u,hr,h1⟩=> ?_
  subst hr
  refine seg_bind_wrap ?_
  rw[kW]
  refine wpAny_mono h1 (λ_ s2 ⟨x,H2,I2,r2,y2,st2,OW⟩=> ?_) λ_ _ z=>z
  have Vm:=I2.pinned (Br I2 OW RL) (T.obj _ _ st2)
  refine seg_bind_wrap ?_
  rw[kW]
  refine wpAny_mono (hg _ s2 σ' H2 x u _ Vm r2 (step x H2 y2)) (λ_ s3 ⟨σ3,H3,I3,q3⟩=> ?_) λ_ _ z=>z.elim
  simp only[List.forIn_nil,if_true]
  refine seg_bind_wrap (wpAny_pure ?_)
  have hy:∀v,yieldOut (X.gen B sc N' code sC HC fp).env v=yieldValue v:=λv=>by
   have q:(X.gen B sc N' code sC HC fp).env.scope.isCoroutine=false:=hco
   simp only[yieldOut,q,Bool.false_eq_true,if_false]
  simp only[if_true,hy]
  rw[Sem.bind_eq_wrap',Sem.bind_eq_wrap',Sem.wrap_wrap,Sem.wrap_wrap]
  refine seg_wrap ?_
  rw[kW]
  refine wpAny_mono (he _ s3 σ3 H3 _ I3 q3) (λv s4 ⟨y,H4,I4,r4,hR,w4⟩=> ?_) λ_ _ z=>z.elim
  have Vn:tn (i+1) s4.heap:=T.keep _ _ _ st2 λb hb o e=>(I4.pin (b,o) (List.mem_append_right _ (List.mem_append_right _ (cH hb e)))).1
  have TJ:∀b∈fp,H4 b=none:=λb hb=>by
   obtain⟨o,e,d⟩:=T.obj _ _ st2 b hb
   exact(I4.pin (b,o) (List.mem_append_right _ (List.mem_append_right _ (cH hb e)))).2.1
  have ei:cnt-n=i+1:=by omega
  refine seg_at (seg_yield rfl rfl rfl ⟨[],σ3,H4,y,(λ_ h=>nomatch h),(by rw[List.append_nil];exact I4.jG),by rw[ei];exact Vn,TJ,r4,by rw[ei];exact hR,by rw[ei];exact w4,λs'' _ MO st''=> ?_⟩)
  rw[ei]at st''
  rw[List.append_nil]at MO
  exact seg_again rfl (ih (i+1) σ3 H4 s'' s'' (by omega) w4 MO st'' TJ)
end
theorem Hj{s:Shared}{g:Nat}{gs:GenState}(h:s.gens[g]?=some .running):(s.setGen g gs).setGen g .running=s:=by
 obtain⟨hh,gens,d,t,os⟩:=s
 have hlt:g<gens.size:=by
  rcases Nat.lt_or_ge g gens.size with q|q
  ·exact q
  ·have z:gens[g]?=none:=Array.getElem?_eq_none q
   have h':gens[g]?=some .running:=h
   rw[z]at h';cases h'
 have q:(gens.setIfInBounds g gs).setIfInBounds g .running=gens:=by
  apply Array.ext_getElem?
  intro i
  by_cases e:g=i
  ·subst e
   rw[Array.getElem?_setIfInBounds_self_of_lt (by simpa using hlt)]
   exact h.symm
  ·rw[Array.getElem?_setIfInBounds_ne e,Array.getElem?_setIfInBounds_ne e]
 show({heap:=hh,gens:=(gens.setIfInBounds g gs).setIfInBounds g .running,drawn:=d,toks:=t,os:=os}:Shared)=_
 rw[q]
theorem lR:∀{Ss:List Addr}{h h':Heap},(∀b∈Ss,∃o,h.get? b=some o/\h'.get? b=some o) ->cQ Ss h'=cQ Ss h
 | [],_,_,_=>rfl
 |b::r,h,h',k=>by
  obtain⟨o,e1,e2⟩:=k b List.mem_cons_self
  unfold cQ
  rw[List.filterMap_cons,List.filterMap_cons,e1,e2]
  show(b,o)::cQ r h'=(b,o)::cQ r h
  rw[lR λc hc=>k c (List.mem_cons_of_mem _ hc)]
section
variable(X:Cx)(B:Around)(sc:Scope)(N':List Str)(code:Value)(sC:Shared)(HC:Hp)(fp Ss:List Addr)(tn:Nat->Heap->Prop)(cnt:Nat)(R:Nat->V->Prop)(W:Nat->St->Hp->Prop)
structure AY(a:Addr)(i:Nat)(s:Shared):Prop where
 gen:s.heap.IsGen a sC.gens.size
 ex:∃gs pl σ' H',(∀p∈pl,p.1∉Ss)/\s.gens[sC.gens.size]?=some gs/\gs.bare=true/\Inv (X.gen B sc N' code sC HC fp) (cQ Ss s.heap++pl) σ' H' (s.setGen sC.gens.size .running)/\tn i s.heap/\(∀b∈fp,H' b=none)/\W i σ' H'/\
  ∀s'':Shared,(∀b∈Ss,∃o,s''.heap.get? b=some o) ->Inv (X.gen B sc N' code sC HC fp) (cQ Ss s''.heap++pl) σ' H' s''->tn i s''.heap->gs.Goes (model X.prog X.w) B (Ka X B sc N' code sC HC fp Ss cnt W) (x9 X B sc N' code sC HC fp Ss tn cnt R W) (cnt-i) (.send .none) s''
end
section
variable{X:Cx}{D:Around}{sc:Scope}{N':List Str}{code:Value}{sC:Shared}{HC:Hp}{fp Ss:List Addr}{tn:Nat->Heap->Prop}{cnt:Nat}{R:Nat->V->Prop}{W:Nat->St->Hp->Prop}{a:Addr}{i:Nat}{s:Shared}
theorem Inv.Dt{pl:List (Addr×Obj)}{σ':St}{H':Hp}{s':Shared}(I:Inv X pl σ' H' s'):s'.heap.NoLimit:=I.nolimit
theorem Bs{B:Around}{pl:List (Addr×Obj)}{σ':St}{H':Hp}{s':Shared}(I:Inv (X.gen B sc N' code sC HC fp) pl σ' H' s'):s'.gens[sC.gens.size]?=some .running:=by
 have e:=I.bare.old sC.gens.size (by simp[Cx.gen])
 rw[e]
 show(sC.gens.push .running)[sC.gens.size]?=_
 simp
theorem AY.item{Q:Option Value->Shared->Prop}{E:Value->Shared->Prop}(G:AY X D.in1 sc N' code sC HC fp Ss tn cnt R W a i s)(hh:D.handled=none)(hroom:D.depth<recursionLimit)(ha:a∈Ss)(hs:∀b∈Ss,∃o,s.heap.get? b=some o)(hi:i<cnt)
  (hQ:∀v x s',RelV x v->R i x->AY X D.in1 sc N' code sC HC fp Ss tn cnt R W a (i+1) s'->(∀b∈Ss,∀o,s.heap.get? b=some o->s'.heap.get? b=some o) ->Q (some v) s'):
  wpAny (model X.prog X.w) D (pyNext (.ref a)) Q E s:=by
 obtain⟨gs,pl,σ',H',hpl,e1,e2,I,st,fr,w,go⟩:=G.ex
 have gg:=go (s.setGen sC.gens.size .running) hs I st
 obtain⟨m,hm⟩:∃m,cnt-i=m+1:=⟨cnt-i-1,by omega⟩
 rw[hm]at gg
 refine wpAny_pyNext_genexpQ (P:=λn s₀ s₁=>n=0/\ ∃σ' H',Inv (X.gen D.in1 sc N' code sC HC fp) (cQ Ss s₀.heap) σ' H' s₁/\W cnt σ' H') hh I.Dt hroom G.gen e1 gg (λv s1 gs' hb hy=> ?_) (λs1 hp=> ?_)
 ·obtain⟨RM,σ1,H1,x,OX,I1,st1,Oc,r1,hR,w1,Qs⟩:=hy
  have ei:cnt- (m+1-1)=i+1:=by omega
  rw[ei]at st1 w1 Qs hR
  have kp:∀b∈Ss,∀o,s.heap.get? b=some o->s1.heap.get? b=some o:=λb hb o e=>(I1.pin (b,o) (List.mem_append_right _ (List.mem_append_left _ (cH hb e)))).1
  have eq:cQ Ss s1.heap=cQ Ss s.heap:=lR λb hb=>let⟨o,e⟩:=hs b hb;⟨o,e,kp b hb o e⟩
  have run:=Bs I1
  refine hQ v x _ r1 hR ⟨?_,gs',RM,σ1,H1,OX,setGen_self run,hb,?_,st1,Oc,w1,?_⟩ kp
  ·obtain⟨o,nm,qn,eo,r⟩:=G.gen
   exact⟨o,nm,qn,kp a ha o eo,r⟩
  ·rw[Hj run]
   show Inv _ (cQ Ss s1.heap++RM) σ1 H1 s1
   rw[eq]
   exact I1
  ·have e3:cnt- (i+1)=m:=by omega
   rw[e3]
   exact Qs
 ·exact absurd hp.1 (by omega)
theorem AY.done{pins:List (Addr×Obj)}{σ:St}{Q:Option Value->Shared->Prop}{E:Value->Shared->Prop}(G:AY X D.in1 sc N' code sC HC fp Ss tn cnt R W a cnt s)(IC:Inv X pins σ HC sC)(hf:∀b∈fp,fS X pins HC b)(hh:D.handled=none)(hroom:D.depth<recursionLimit)(hs:∀b∈Ss,∃o,s.heap.get? b=some o)
  (hQ:∀s' σ' H',Inv X pins σ H' s'->W cnt σ' H'->Q none s'):
  wpAny (model X.prog X.w) D (pyNext (.ref a)) Q E s:=by
 obtain⟨gs,pl,σ',H',hpl,e1,e2,I,st,fr,w,go⟩:=G.ex
 have gg:=go (s.setGen sC.gens.size .running) hs I st
 rw[Nat.sub_self]at gg
 refine wpAny_pyNext_genexpQ (P:=λn s₀ s₁=>n=0/\ ∃σ' H',Inv (X.gen D.in1 sc N' code sC HC fp) (cQ Ss s₀.heap) σ' H' s₁/\W cnt σ' H') hh I.Dt hroom G.gen e1 gg (λv s1 gs' hb hy=> ?_) (λs1 hp h' k=> ?_)
 ·obtain⟨RM,σ1,H1,x,OX,I1,st1,Oc,r1,hR,w1,Qs⟩:=hy
  have kp:∀b∈Ss,∀o,s.heap.get? b=some o->s1.heap.get? b=some o:=λb hb o e=>(I1.pin (b,o) (List.mem_append_right _ (List.mem_append_left _ (cH hb e)))).1
  have eq:cQ Ss s1.heap=cQ Ss s.heap:=lR λb hb=>let⟨o,e⟩:=hs b hb;⟨o,e,kp b hb o e⟩
  exact False.elim (Qs s1 (λb hb=>let⟨o,e⟩:=hs b hb;⟨o,kp b hb o e⟩) (by rw[eq];exact I1) st1)
 ·obtain⟨_,σ1,H1,I1,w1⟩:=hp
  have I2:=Inv.LH (gs:= .finished) IC hf rfl I1
  exact hQ _ σ1 H1 (I2.kept (t':=s1.toks) k) w1
end
section
variable{X:Cx}{B:Around}{sc:Scope}{N':List Str}{code:Value}{sC:Shared}{HC:Hp}{fp Ss:List Addr}{tn:Nat->Heap->Prop}{cnt:Nat}{R:Nat->V->Prop}{W:Nat->St->Hp->Prop}
variable{elt iter tg:Expr}{pos:Pos}{it:Addr}{J:It}{g:TG}{te:TE}
theorem Hl(hco:sc.isCoroutine=false)(hc:X.calm=true)(T:Turn X.prog X.w X.K tg J fp it tn)(hg:PG (X.gen B sc N' code sC HC fp) tg g)(he:PE (X.gen B sc N' code sC HC fp) elt te)(Hh:∀b∈fp,b∉Ss)
  (turn:∀i σ' H',i<cnt->W i σ' H'->J.go i H'/\ ∀x H2,J.zv i H' x H2->g x σ' H2 λσ3 H3=>te σ3 H3 λv H4=>R i v/\W (i+1) σ3 H4)
  (stop:∀σ' H',W cnt σ' H'->J.stop cnt H'){σ':St}{H':Hp}{s:Shared}(w:W 0 σ' H')(I:Inv (X.gen B sc N' code sC HC fp) (cQ Ss s.heap) σ' H' s)(st:tn 0 s.heap)(fr:∀b∈fp,H' b=none):
  Seg (model X.prog X.w) B (Ka X B sc N' code sC HC fp Ss cnt W) (x9 X B sc N' code sC HC fp Ss tn cnt R W) cnt s (.compStart (.GeneratorExp elt [⟨tg,iter,[],0⟩] sc pos) 0 (.ref it) .none (X.gen B sc N' code sC HC fp).env)
   ((model X.prog X.w).den (.compStart (.GeneratorExp elt [⟨tg,iter,[],0⟩] sc pos) 0 (.ref it) .none (X.gen B sc N' code sC HC fp).env)) [] s:=by
 have lp:=Kc (iter:=iter) (pos:=pos) hco hc T hg he Hh turn stop cnt 0 σ' H' s s (Nat.add_zero _) w I st fr
 show Seg _ B _ _ _ s _ ((compStart (.GeneratorExp elt [⟨tg,iter,[],0⟩] sc pos) 0 (.ref it) .none (X.gen B sc N' code sC HC fp).env).onRaise (leaving (X.gen B sc N' code sC HC fp).env)) [] s
 unfold compStart
 rw[Sem.onRaise_eq_wrap]
 show Seg _ B _ _ _ s _ ((ask>>=_).wrap _ _ _ _) [] s
 refine seg_bind_wrap (wpAny_askSetting ?_)
 split
 ·exact seg_again rfl lp
 ·first
   |exact seg_bind_wrap (wpAny_rule (seg_bind_wrap (wpAny_standAt (seg_bind_wrap (T.self _ 0 s _ _ st (seg_again rfl lp))))))
   |(refine seg_bind_wrap (wpAny_rule ?_);(show Seg _ B _ _ _ s _ ((standAt iter.pos>>=_).wrap _ _ _ _) [] s);exact seg_bind_wrap (wpAny_standAt (seg_bind_wrap (T.self _ 0 s _ _ st (seg_again rfl lp)))))
end
noncomputable def w9(k:Nat)(g:TG)(te:TE)(σ:St)(F:Nat->(Nat->V->Prop) ->(Nat->St->Hp->Prop) ->Prop)(J:It)(H:Hp):Prop:=∃(cnt:Nat)(R:Nat->V->Prop)(W:Nat->St->Hp->Prop),W 0 (List.replicate k none++σ) H/\
 (∀i σ' H',i<cnt->W i σ' H'->J.go i H'/\ ∀x H2,J.zv i H' x H2->g x σ' H2 λσ3 H3=>te σ3 H3 λv H4=>R i v/\W (i+1) σ3 H4)/\(∀σ' H',W cnt σ' H'->J.stop cnt H')/\F cnt R W
theorem pI(elt target iter:Expr)(ifs:List Expr)(cls:List Comprehension)(scope:Scope)(pos:Pos)(env:Env)(hco:scope.isCoroutine=false):
  eval (.GeneratorExp elt (⟨target,iter,ifs,0⟩::cls) scope pos) env=(do
   let x<-eval iter env
   standAt iter.pos
   let x<-genFold iter env x
   let it<-holding [x] (pyIter x)
   enterFrame
   let cl<-closureFor scope env
   let code<-genexprCode env pos (env.qual++ "<genexpr>") scope
   let bi<-builtinsFor env.globals env.builtins
   let cenv<-newFunctionEnv scope env.globals cl [(".0",it)] (env.qual++ "<genexpr>.") none code none bi
   newGenerator (.compStart (.GeneratorExp elt (⟨target,iter,ifs,0⟩::cls) scope pos) 0 it .none cenv) "<genexpr>" (env.qual++ "<genexpr>")):=by
 rw[arm_eval_GeneratorExp]
 simp only[hco,Bool.false_eq_true,if_false]
 cases iter<;>rfl
section
variable{M:Model}{A:Around}{E:Value->Shared->Prop}{s:Shared}
theorem kr{env:Env}{elt target iter:Expr}{ifs:List Expr}{cls:List Comprehension}{scope:Scope}{cl:List (Str×Addr)}{pos:Pos}{Q:Value->Shared->Prop}
  (hco:scope.isCoroutine=false)(hclos:closureFor scope env=pure cl)(hcell:∀y∈scope.names,y.2≠ .cell)(h0:scope.names.lookup (".0":Str)=some NameKind.local)(hkind:scope.kind= .function)
  (hroom:A.depth<recursionLimit)
  (h:wpAny M A (eval iter env) (λxv s₁=>wpAny M A (pyIter xv) (λit s₂=>s₂.heap.NoLimit/\
   wpAny M A (genexprCode env pos (env.qual++ "<genexpr>") scope) (λcode s₃=>wpAny M A (builtinsFor env.globals env.builtins) (λbi s₄=>
    ∀h',h'.Ns s₄.heap.objs.size (λy=>if y= ".0" then some it else none) ->Heap.SameBut s₄.heap.objs.size (s₄.heap.push {cls:= .type "frame",data:= .dict #[]}) h'->
     Q (.ref h'.objs.size) {s₄ with
      gens:=s₄.gens.push (.fresh (.compStart (.GeneratorExp elt (⟨target,iter,ifs,0⟩::cls) scope pos) 0 it .none (genEnv scope cl s₄.heap.objs.size code bi env))),
      toks:=s₄.toks+1+1+1,
      heap:=h'.push {cls:= .type "generator",data:= .fields #[.int s₄.gens.size 0,.str "<genexpr>" (s₄.toks+1),.str (env.qual++ "<genexpr>") (s₄.toks+1+1)]}}) E s₃) E s₂) E s₁) E s)
  (hs:∀x,genFold iter env x=pure x):
  wpAny M A (eval (.GeneratorExp elt (⟨target,iter,ifs,0⟩::cls) scope pos) env) Q E s:=by
 rw[pI _ _ _ _ _ _ _ _ hco,hclos]
 refine wpAny_bind (wpAny_mono h (λxv s₁ h₁=> ?_) λ_ _ e=>e)
 refine wpAny_bind (wpAny_standAt ?_)
 refine wpAny_bind (wpAny_of_eq (hs xv) ?_)
 refine wpAny_bind (wpAny_holding (wpAny_mono h₁ (λit s₂ h₂=> ?_) λ_ _ e=>e))
 refine wpAny_bind (wpAny_enterFrame h₂.1 hroom ?_)
 refine wpAny_bind (wpAny_pure ?_)
 refine wpAny_bind (wpAny_mono h₂.2 (λcode s₃ h₃=> ?_) λ_ _ e=>e)
 refine wpAny_bind (wpAny_mono h₃ (λbi s₄ h₄=> ?_) λ_ _ e=>e)
 have MP:∀y∈([((".0":Str),it)]:List (Str×Value)),scope.names.lookup y.1=some NameKind.local:=by
  intro y hy
  rcases List.mem_cons.mp hy with rfl|hy
  ·exact h0
  ·cases hy
 refine wpAny_bind (wpAny_newFunctionEnv hcell MP (λh' hn' hs'=> ?_) hkind)
 have e:(λy:Str=>([((".0":Str),it)]:List (Str×Value)).reverse.lookup y)=λy:Str=>if y=(".0":Str)then some it else none:=by
  funext y
  by_cases hy:y= ".0"
  ·subst hy;simp
  ·have:(y==(".0":Str))=false:=by simpa using hy
   simp[List.lookup,this,hy]
 rw[e]at hn'
 simp only[newGenerator,newFields]
 refine wpAny_bind (wpAny_newGen (wpAny_bind (wpAny_mkText (wpAny_bind (wpAny_mkText (wpAny_newObj_type ?_ (by size_fits)))))))
 exact h₄ h' hn' hs'
end
section
variable{X:Cx}{sc:Scope}{own N2:List Str}{elt iter tg:Expr}{pos:Pos}{wi:TI}{g:TG}{te:TE}{P:Addr}
theorem Ho{ifs:List Expr}{cls:List Comprehension}{Rd:It->Hp->Prop}{pins:List (Addr×Obj)}{σ:St}{H0:Hp}{s0:Shared}{F:Nat->(Nat->V->Prop) ->(Nat->St->Hp->Prop) ->Prop}(more:Nat->List Addr)(hmore:∀a,∀b∈more a,a<b)
  (hc:X.calm=true)(hroom:X.A.depth<recursionLimit)(hi:PI X tg iter wi)(Bk:qt sc.names X.env.scope.names own N2 X.N)(hk:sc.kind= .function)(hco:sc.isCoroutine=false)(hnc:∀y∈sc.names,y.2≠ .cell)(RN:sc.names.lookup (".0":Str)=some NameKind.local)
  (hcd:gf X.K X.env.code P)(bm:BM X.mg X.base)
  (hs:∀x,genFold iter X.env x=pure x)
  (RP:∀code s H fp it LJ J,Turn X.prog X.w X.K tg J fp it LJ->(∀b∈fp,H b=none) ->Rd J H-> ∃cnt R W tn,F cnt R W/\W 0 (List.replicate own.length none++σ) H/\(∀h,LJ 0 h↔tn 0 h)/\(∀i h h',tn i h->(∀b∈fp,∀o,h.get? b=some o->h'.get? b=some o) ->tn i h')/\
   ∀Ss:List Addr,(∀b∈fp,b∉Ss) -> ∀s'':Shared,(∀b∈Ss,∃o,s''.heap.get? b=some o) ->Inv (X.gen X.A.in1.in1 sc (own++N2) code s H fp) (cQ Ss s''.heap) (List.replicate own.length none++σ) H s''->LJ 0 s''.heap->
    Seg (model X.prog X.w) X.A.in1.in1 (Ka X X.A.in1.in1 sc (own++N2) code s H fp Ss cnt W) (x9 X X.A.in1.in1 sc (own++N2) code s H fp Ss tn cnt R W) cnt s'' (.compStart (.GeneratorExp elt (⟨tg,iter,ifs,0⟩::cls) sc pos) 0 (.ref it) .none (X.gen X.A.in1.in1 sc (own++N2) code s H fp).env)
     ((model X.prog X.w).den (.compStart (.GeneratorExp elt (⟨tg,iter,ifs,0⟩::cls) sc pos) 0 (.ref it) .none (X.gen X.A.in1.in1 sc (own++N2) code s H fp).env)) [] s'')
  (I0:Inv X pins σ H0 s0)(h:wi σ H0 λJ H=>H P=some (dS P)/\Rd J H):
  wpAny (model X.prog X.w) X.A (eval (.GeneratorExp elt (⟨tg,iter,ifs,0⟩::cls) sc pos) X.env) (λu s5=> ∃a cnt R W sC HC fp code tn,u= .ref a/\s5.heap.objs.size=a+1/\
   AY X X.A.in1.in1 sc (own++N2) code sC HC fp (a::more a) tn cnt R W a 0 s5/\Inv X pins σ HC sC/\(∀b∈fp,fS X pins HC b)/\sC.heap.objs.size<a/\(∀b∈fp,b<sC.heap.objs.size)/\(∀i h h',tn i h->(∀b∈fp,∀o,h.get? b=some o->h'.get? b=some o) ->tn i h')/\F cnt R W) X.xe s0:=by
 refine kr hco (qu I0 Bk) hnc RN hk hroom ?_ hs
 refine wpAny_mono (hi pins s0 σ H0 _ I0 h) (λxv s1 h1=>wpAny_mono h1 (λitv s2 h2=> ?_) λ_ _ e=>e) λ_ _ e=>e
 obtain⟨it,fp,LJ,J,H,e,I,T,st,hf,hP,Vo⟩:=h2
 subst e
 refine⟨I.Dt,Bq I hcd hP λcode h3 TL I3 ext=> ?_⟩
 obtain⟨Qt,ob,b1,b2,b3,b4,b5,b6⟩:=bm
 refine wpAny_builtinsFor (m:=X.mg) (by rw[I3.ok.glob];exact I3.mod.glob.keeps I3.bk) b1 b2 (I3.bk _ _ b3) b4 b5 b6 ?_
 intro h' hn' hs'
 have st3:LJ 0 h3:=T.keep _ _ _ st λb hb o e=>ext b o (λz=>by have:=(hf b hb).1;rw[z,hP]at this;cases this) e
 have RQ:∀b∈fp,∃o,h3.get? b=some o:=λb hb=>let⟨o,e,_⟩:=T.obj 0 _ st3 b hb;⟨o,e⟩
 have LK:∀b o,h3.get? b=some o->h'.get? b=some o:=λb o e=>hs'.extBut b o (Nat.ne_of_lt (Heap.lt_size e)) (Heap.get?_push_of_some _ e)
 have sz':h'.objs.size=h3.objs.size+1:=by rw[hs'.1,Heap.size_push]
 have IG:=λ(hx:Heap)(tk:Nat)(m:Str->Option Value)(hn:hx.Ns h3.objs.size m)(kp:∀b o,h3.get? b=some o->hx.get? b=some o)=>
  JY (B:=X.A.in1.in1) (code:=code) (fp:=fp) (h':=hx) (tk:=tk) I3 Bk hk hnc hf RQ I3.ok.frames (I3.ok.hd hc) hn kp
 obtain⟨cnt,R,W,tn,hF,w0,TN,Hq,sg⟩:=RP code {s2 with heap:=h3,toks:=TL} H fp it LJ J T (λb hb=>(hf b hb).1) Vo
 refine⟨h'.objs.size,cnt,R,W,{s2 with heap:=h3,toks:=TL},H,fp,code,tn,rfl,by rw[Heap.size_push],⟨⟨_,_,_,Heap.get?_push_size _ rfl,rfl,rfl,rfl⟩,.fresh _,[],List.replicate own.length none++σ,H,(λ_ h=>nomatch h),Array.getElem?_push_size ..,rfl,?_,?_,λb hb=>(hf b hb).1,w0,?_⟩,I3,hf,by show h3.objs.size<h'.objs.size;omega,λb hb=>let⟨o,e⟩:=RQ b hb;Heap.lt_size e,Hq,hF⟩
 ·have eg:(s2.gens.push (GenState.fresh (.compStart (.GeneratorExp elt (⟨tg,iter,ifs,0⟩::cls) sc pos) 0 (.ref it) .none (genEnv sc (cu X.env sc.names []) h3.objs.size code builtinsNs X.env)))).setIfInBounds s2.gens.size .running=s2.gens.push .running:=by
   apply Array.ext_getElem?
   intro i
   by_cases e:s2.gens.size=i
   ·subst e
    rw[Array.getElem?_setIfInBounds_self_of_lt (by simp)]
    simp
   ·rw[Array.getElem?_setIfInBounds_ne e,Array.getElem?_push,Array.getElem?_push]
    simp[Ne.symm e]
  simp only[Shared.setGen]
  rw[eg,List.append_nil]
  refine Inv.jq (pins:=[]) (IG _ _ _ (hn'.push _) (λb o e=>Heap.get?_push_of_some _ (LK b o e))) λp hp=> ?_
  obtain⟨q1,q2⟩:=jA hp
  have ep:p.1=h'.objs.size:=by
   rcases List.mem_cons.mp q1 with z|z
   ·exact z
   ·have l1:=hmore _ _ z
    have l2:=Heap.lt_size q2
    rw[Heap.size_push]at l2
    exact absurd (Nat.lt_of_lt_of_le l1 (Nat.le_of_lt_succ l2)) (Nat.lt_irrefl _)
  have big:h3.objs.size<=p.1:=by rw[ep,sz'];exact Nat.le_succ _
  have MQ:h3.objs.size<p.1:=by rw[ep,sz'];exact Nat.lt_succ_self _
  refine⟨q2,I3.hok.fresh big,Nat.ne_of_gt MQ,λz=> ?_,λv=> ?_⟩
  ·rcases List.mem_cons.mp (I3.uq p.1 z)with y|y
   ·have l:X.env.locals<h3.objs.size:=I3.lt
    rw[y]at MQ
    exact absurd (Nat.lt_trans l MQ) (Nat.lt_irrefl _)
   ·exact I3.Ou big y
  ·rw[ep]at q2
   rw[Heap.get?_push_size _ rfl]at q2
   intro z
   rw[<-Option.some.inj q2]at z
   cases z
 ·exact(TN _).1 (T.keep _ _ _ st3 λb hb o e=>Heap.get?_push_of_some _ (LK b o e))
 ·intro s'' RS MO st''
  rw[List.append_nil]at MO
  refine⟨rfl,?_⟩
  rw[Nat.sub_zero]
  refine sg _ (λb hb z=> ?_) s'' RS MO ((TN _).2 st'')
  have l:b<h3.objs.size:=let⟨o,e⟩:=RQ b hb;Heap.lt_size e
  rcases List.mem_cons.mp z with y|y
  ·rw[y,sz']at l
   exact absurd (Nat.lt_of_succ_lt l) (Nat.lt_irrefl _)
  ·have l2:=hmore _ _ y
   rw[sz']at l2
   exact absurd (Nat.lt_trans (Nat.lt_trans l (Nat.lt_succ_self _)) l2) (Nat.lt_irrefl _)
theorem Du{pins:List (Addr×Obj)}{σ:St}{H0:Hp}{s0:Shared}{F:Nat->(Nat->V->Prop) ->(Nat->St->Hp->Prop) ->Prop}(more:Nat->List Addr)(hmore:∀a,∀b∈more a,a<b)
  (hc:X.calm=true)(hroom:X.A.depth<recursionLimit)(hi:PI X tg iter wi)(Bk:qt sc.names X.env.scope.names own N2 X.N)(hk:sc.kind= .function)(hco:sc.isCoroutine=false)(hnc:∀y∈sc.names,y.2≠ .cell)(RN:sc.names.lookup (".0":Str)=some NameKind.local)
  (hcd:gf X.K X.env.code P)(bm:BM X.mg X.base)
  (hg:∀code s H fp,PG (X.gen X.A.in1.in1 sc (own++N2) code s H fp) tg g)(he:∀code s H fp,PE (X.gen X.A.in1.in1 sc (own++N2) code s H fp) elt te)
  (hs:∀x,genFold iter X.env x=pure x)(I0:Inv X pins σ H0 s0)(h:wi σ H0 λJ H=>H P=some (dS P)/\w9 own.length g te σ F J H):
  wpAny (model X.prog X.w) X.A (eval (.GeneratorExp elt [⟨tg,iter,[],0⟩] sc pos) X.env) (λu s5=> ∃a cnt R W sC HC fp code tn,u= .ref a/\s5.heap.objs.size=a+1/\
   AY X X.A.in1.in1 sc (own++N2) code sC HC fp (a::more a) tn cnt R W a 0 s5/\Inv X pins σ HC sC/\(∀b∈fp,fS X pins HC b)/\sC.heap.objs.size<a/\(∀b∈fp,b<sC.heap.objs.size)/\(∀i h h',tn i h->(∀b∈fp,∀o,h.get? b=some o->h'.get? b=some o) ->tn i h')/\F cnt R W) X.xe s0:=
 Ho (cls:=[]) (Rd:=λJ H=>w9 own.length g te σ F J H) more hmore hc hroom hi Bk hk hco hnc RN hcd bm hs (λcode s H fp it LJ J T hfr ⟨cnt,R,W,w0,turn,stop,hF⟩=>
  ⟨cnt,R,W,LJ,hF,w0,λ_=>Iff.rfl,T.keep,λSs hd s'' _ MO st''=>Hl hco hc T (hg code s H fp) (he code s H fp) hd turn stop w0 MO st'' hfr⟩) I0 h
end
section
variable{X:Cx}{B:Around}{sc:Scope}{N':List Str}{code:Value}{sC:Shared}{HC:Hp}{fp:List Addr}{tn:Nat->Heap->Prop}{cnt:Nat}{R:Nat->V->Prop}{W:Nat->St->Hp->Prop}{a S:Addr}{i:Nat}{s:Shared}
theorem AY.frame{h':Heap}{tk:Nat}{o':Obj}(G:AY X B sc N' code sC HC fp [a,S] tn cnt R W a i s)(LL:a≠S)(hC:sC.heap.objs.size<S)(hfp:∀b∈fp,b≠S)
  (Hq:∀i h h',tn i h->(∀b∈fp,∀o,h.get? b=some o->h'.get? b=some o) ->tn i h')(hS:(∃o,s.heap.get? S=some o)∨s.heap.objs.size<=S)
  (keep:∀b o,b≠S->s.heap.get? b=some o->h'.get? b=some o)(e':h'.get? S=some o')(nc:∀v,o'.data≠ .cell v):
  AY X B sc N' code sC HC fp [a,S] tn cnt R W a i {s with heap:=h',toks:=tk}:=by
 obtain⟨gs,pl,σ',H',hpl,e1,e2,I,st,fr,w,go⟩:=G.ex
 have I1:Inv (X.gen B sc N' code sC HC fp) (cQ [a] s.heap++pl) σ' H' (s.setGen sC.gens.size .running):=I.jq λp hp=>by
  rcases List.mem_append.mp hp with hp|hp
  ·obtain⟨q1,q2⟩:=jA hp
   exact I.pin p (List.mem_append_right _ (List.mem_append_left _ (cH (fp:=[a,S]) (by rw[List.mem_singleton.mp q1];simp) q2)))
  ·exact I.pin p (List.mem_append_right _ (List.mem_append_right _ hp))
 have Vp:S∉(X.gen B sc N' code sC HC fp).fs:=λhb=>by
  obtain⟨_,o,ho,_⟩:=I.ok.tO.mem hb
  exact absurd (Nat.lt_trans (Heap.lt_size ho) hC) (Nat.lt_irrefl _)
 have ea:∃oa,s.heap.get? a=some oa:=let⟨o,_,_,q,_⟩:=G.gen;⟨o,q⟩
 obtain⟨oa,ea⟩:=ea
 have I2:Inv (X.gen B sc N' code sC HC fp) (cQ [a] s.heap++pl) σ' H' {s.setGen sC.gens.size .running with heap:=h',toks:=tk}/\H' S=none:=by
  rcases hS with⟨o,eo⟩|hS
  ·have pS:=I.pin (S,o) (List.mem_append_right _ (List.mem_append_left _ (cH (fp:=[a,S]) (by simp) eo)))
   refine⟨I1.turned (it:=S) (h':=h') (t':=tk) keep pS.2.1 (Nat.ne_of_gt hC) (.inr (Nat.le_of_lt hC)) (λy c hc z=> ?_) (λp hp z=> ?_),pS.2.1⟩
   ·obtain⟨v,oc,q1,q2⟩:=I.cell y c hc
    rw[z]at q1
    have TQ:s.heap.get? S=some oc:=q1
    rw[eo]at TQ
    have q3:o=oc:=Option.some.inj TQ
    exact pS.2.2.2.2 v (by rw[q3];exact q2)
   ·have fJ:p∈cQ [a] s.heap++pl:=hp
    rcases List.mem_append.mp fJ with fJ|fJ
    ·exact LL (by rw[<-z,List.mem_singleton.mp (jA fJ).1])
    ·exact hpl p fJ (by rw[z];simp)
  ·refine⟨I1.kept (h':=h') (t':=tk) λb o e=>keep b o (λz=> ?_) e,I.hok.fresh hS⟩
   exact absurd (Nat.lt_of_lt_of_le (Heap.lt_size e) (by rw[z];exact hS)) (Nat.lt_irrefl _)
 obtain⟨I2,Vq⟩:=I2
 refine⟨(let⟨o,nm,qn,q,r⟩:=G.gen;⟨o,nm,qn,keep a o LL q,r⟩),gs,pl,σ',H',hpl,e1,e2,I2.jq λp hp=> ?_,Hq _ _ _ st λb hb o e=>keep b o (hfp b hb) e,fr,w,go⟩
 refine(List.mem_append.mp hp).elim (λhp=> ?_) (λhp=>I2.pin p (List.mem_append_right _ (List.mem_append_right _ hp)))
 obtain⟨q1,q2⟩:=jA hp
 rcases List.mem_cons.mp q1 with z|z
 ·have q:=I2.pin (a,oa) (List.mem_append_right _ (List.mem_append_left _ (cH (fp:=[a]) (by simp) ea)))
  have OY:h'.get? p.1=some p.2:=q2
  rw[z,keep a oa LL ea]at OY
  have q3:oa=p.2:=Option.some.inj OY
  have ep:p=(a,oa):=by rw[<-z,q3]
  rw[ep]
  exact q
 ·have z':p.1=S:=List.mem_singleton.mp z
  have OY:h'.get? p.1=some p.2:=q2
  rw[z',e']at OY
  have q3:o'=p.2:=Option.some.inj OY
  refine⟨q2,by rw[z'];exact Vq,by rw[z'];exact Nat.ne_of_gt hC,by rw[z'];exact Vp,by rw[<-q3];exact nc⟩
end
section
variable{X:Cx}{sc:Scope}{N':List Str}{code:Value}{sC:Shared}{HC:Hp}{fp:List Addr}{tn:Nat->Heap->Prop}{cnt:Nat}{R:Nat->V->Prop}{W:Nat->St->Hp->Prop}{a S:Addr}{pins:List (Addr×Obj)}{σ:St}{Rr:Result->Shared->Prop}
theorem EG(IC:Inv X pins σ HC sC)(hf:∀b∈fp,fS X pins HC b)(hh:X.A.handled=none)(hroom:X.A.depth<recursionLimit)(LL:a≠S)(hC:sC.heap.objs.size<S)(hfp:∀b∈fp,b≠S)
  (Hq:∀i h h',tn i h->(∀b∈fp,∀o,h.get? b=some o->h'.get? b=some o) ->tn i h')(val:Nat->Int)(hval:∀i v,i<cnt->R i v->v= .int (val i)):∀(k i:Nat)(s:Shared)(tA:Tok)(c:Nat)(st:Int),(st=0∨st=2) ->cnt-i=k->i<=cnt->
  AY X X.A.in1.in1 sc N' code sC HC fp [a,S] tn cnt R W a i s->s.heap.get? S=some {cls:= .type "list",dict:=none,data:= .seq #[.int (preSum val i) tA] c,slots:= #[]} ->
  (∀s' t' σ' H',Inv X pins σ H' s'->W cnt σ' H'->Rr (.ok (.ret (.int (preSum val cnt) t'))) s') ->codeAny (model X.prog X.w) X.A (.builtin "sum.loop" ⟨[.ref a,.ref S,rawInt st,rawInt 0],[]⟩) Rr s:=by
 intro k
 induction k with
 |zero=>
  intro i s tA c st hst hk hi G hS hR
  obtain rfl:i=cnt:=by omega
  refine codeAny_builtin PySem.F.entry_sum_loop (by
   rw[Around.under_plainId PySem.F.plain_sum_loop _]
   show wpAny _ X.A.in1 (seqItems? (.ref S)>>=_) _ _ s
   refine wpAny_bind (wpAny_seqItems hS rfl ?_)
   show wpAny _ X.A.in1 (tryCatch (pyNext (.ref a)) _>>=_) _ _ s
   have ex:∀b∈ [a,S],∃o,s.heap.get? b=some o:=λb hb=>by
    rcases List.mem_cons.mp hb with z|z
    ·obtain⟨o,_,_,q,_⟩:=G.gen;rw[z];exact⟨o,q⟩
    ·rw[List.mem_singleton.mp z];exact⟨_,hS⟩
   exact wpAny_bind (wpAny_tryCatch (G.done (D:=X.A.in1) IC hf hh hroom ex λs' σ' H' I' w'=>wpAny_pure (hR s' tA σ' H' I' w'))))
 |succ k ih=>
  intro i s tA c st hst hk hi G hS hR
  have hlt:i<cnt:=by omega
  have ex:∀b∈ [a,S],∃o,s.heap.get? b=some o:=λb hb=>by
   rcases List.mem_cons.mp hb with z|z
   ·obtain⟨o,_,_,q,_⟩:=G.gen;rw[z];exact⟨o,q⟩
   ·rw[List.mem_singleton.mp z];exact⟨_,hS⟩
  refine codeAny_builtin PySem.F.entry_sum_loop (by
   rw[Around.under_plainId PySem.F.plain_sum_loop _]
   show wpAny _ X.A.in1 (seqItems? (.ref S)>>=_) _ _ s
   refine wpAny_bind (wpAny_seqItems hS rfl ?_)
   show wpAny _ X.A.in1 (tryCatch (pyNext (.ref a)) _>>=_) _ _ s
   refine wpAny_bind (wpAny_tryCatch (G.item (D:=X.A.in1) hh hroom (by simp) ex hlt λv x s' rx RT G' kp=> ?_))
   obtain rfl:=hval i x hlt RT
   obtain⟨t,rfl⟩:=rx
   have hS':=kp S (by simp) _ hS
   have again:∀(h':Heap)(tk:Nat)(c':Nat)(tB:Tok)(st':Int),(st'=0∨st'=2) ->(∀b o,b≠S->s'.heap.get? b=some o->h'.get? b=some o) ->h'.get? S=some {cls:= .type "list",dict:=none,data:= .seq #[.int (preSum val i+val i) tB] c',slots:= #[]} ->
     codeAny (model X.prog X.w) X.A (.builtin "sum.loop" ⟨[.ref a,.ref S,rawInt st',rawInt 0],[]⟩) Rr {s' with heap:=h',toks:=tk}:=λh' tk c' tB st' RU Vr e'=>
    ih (i+1) _ tB c' st' RU (by omega) hlt (G'.frame LL hC hfp Hq (.inl ⟨_,hS'⟩) Vr e' (λv z=>by cases z)) e' hR
   rcases hst with rfl|rfl
   ·show wpAny _ X.A.in1 (if(_:Bool)=true then(mkInt (preSum val i+val i)>>=_)else _) _ _ _
    split
    ·refine wpAny_bind (wpAny_mkInt ?_)
     show wpAny _ X.A.in1 (updateSeq S (λ_=> #[.int (preSum val i+val i) s'.toks])>>=_) _ _ _
     exact wpAny_bind (wpAny_updateSeq hS' rfl (wpAny_pure ⟨plainId_quiet PySem.F.plain_sum_loop _,again _ _ _ _ 0 (.inl rfl) (λb o hb e=>(Heap.get?_update_other _ _ (Ne.symm hb)).trans e) (Heap.get?_update_self _ hS' rfl)⟩))
    ·refine wpAny_bind (wpAny_rule (wpAny_bind (wpAny_attempt (wpAny_holding (wpAny_add_int ?_)))))
     show wpAny _ X.A.in1 (updateSeq S (λ_=> #[.int (preSum val i+val i) s'.toks])>>=_) _ _ _
     refine wpAny_bind (wpAny_updateSeq hS' rfl ?_)
     have OZ:=Heap.get?_update_self (Obj.mapSeq λ_=> #[Value.int (preSum val i+val i) s'.toks]) hS' rfl
     exact wpAny_bind (wpAny_letGo (wpAny_bind (wpAny_updateSeq OZ rfl (wpAny_pure ⟨plainId_quiet PySem.F.plain_sum_loop _,again _ _ _ _ 2 (.inr rfl) (λb o hb e=>(Heap.get?_update_other _ _ (Ne.symm hb)).trans ((Heap.get?_update_other _ _ (Ne.symm hb)).trans e)) (Heap.get?_update_self _ OZ rfl)⟩))))
   ·show wpAny _ X.A.in1 ((holding [Value.int (val i) t] (binaryOp .Add (.int (preSum val i) tA) (.int (val i) t))).attempt>>=_) _ _ _
    refine wpAny_bind (wpAny_attempt (wpAny_holding (wpAny_add_int ?_)))
    show wpAny _ X.A.in1 (updateSeq S (λ_=> #[.int (preSum val i+val i) s'.toks])>>=_) _ _ _
    refine wpAny_bind (wpAny_updateSeq hS' rfl ?_)
    have OZ:=Heap.get?_update_self (Obj.mapSeq λ_=> #[Value.int (preSum val i+val i) s'.toks]) hS' rfl
    exact wpAny_bind (wpAny_letGo (wpAny_bind (wpAny_updateSeq OZ rfl (wpAny_pure ⟨plainId_quiet PySem.F.plain_sum_loop _,again _ _ _ _ 2 (.inr rfl) (λb o hb e=>(Heap.get?_update_other _ _ (Ne.symm hb)).trans ((Heap.get?_update_other _ _ (Ne.symm hb)).trans e)) (Heap.get?_update_self _ OZ rfl)⟩)))))
theorem EH{Q:Value->Shared->Prop}{E:Value->Shared->Prop}{s:Shared}(IC:Inv X pins σ HC sC)(hf:∀b∈fp,fS X pins HC b)(hh:X.A.handled=none)(hroom:X.A.depth<recursionLimit)(hsz:s.heap.objs.size=a+1)(hC:sC.heap.objs.size<a)(hlt:∀b∈fp,b<sC.heap.objs.size)
  (Hq:∀i h h',tn i h->(∀b∈fp,∀o,h.get? b=some o->h'.get? b=some o) ->tn i h')(val:Nat->Int)(hval:∀i v,i<cnt->R i v->v= .int (val i))(G:AY X X.A.in1.in1 sc N' code sC HC fp [a,a+1] tn cnt R W a 0 s)
  (hQ:∀s' t' σ' H',Inv X pins σ H' s'->W cnt σ' H'->Q (.int (preSum val cnt) t') s'):wpAny (model X.prog X.w) X.A (call (.builtin "sum") [.ref a]) Q E s:=by
 refine call_function_tree PySem.F.kind_sum PySem.F.plain_sum PySem.F.entry_sum (PySem.F.args_sum1 _) ?_
 unfold Builtin.«sum»
 simp only[List.length_cons,List.length_nil]
 rw[if_neg (by decide)]
 refine wpAny_bind (wpAny_of_eq (a:=[none]) rfl ?_)
 refine wpAny_bind (wpAny_pyIter_gen G.gen ?_)
 refine wpAny_bind (wpAny_mkInt (wpAny_bind (wpAny_pure ?_)))
 simp only[List.forIn_cons,List.forIn_nil]
 refine wpAny_bind (wpAny_bind (wpAny_bind (wpAny_isInstance (T:= "int") (b:=false) (typeIs_int _ _ _) PySem.sub_int_str ?_)))
 simp only[Bool.false_eq_true,if_false]
 refine wpAny_pure (wpAny_bind (wpAny_bind (wpAny_isInstance (T:= "int") (b:=false) (typeIs_int _ _ _) PySem.sub_int_bytes ?_)))
 simp only[Bool.false_eq_true,if_false]
 refine wpAny_pure (wpAny_bind (wpAny_bind (wpAny_isInstance (T:= "int") (b:=false) (typeIs_int _ _ _) PySem.sub_int_bytearray ?_)))
 simp only[Bool.false_eq_true,if_false]
 refine wpAny_pure (wpAny_pure (wpAny_bind (wpAny_newObj_type ?_)))
 have LL:a≠a+1:=Nat.ne_of_lt (Nat.lt_succ_self _)
 have RV:sC.heap.objs.size<a+1:=Nat.lt_succ_of_lt hC
 have TR:∀b∈fp,b≠a+1:=λb hb=>Nat.ne_of_lt (Nat.lt_trans (hlt b hb) RV)
 refine wpAny_pure ⟨plainId_quiet PySem.F.plain_sum_loop _,?_⟩
 have e0:({s with toks:=s.toks+1}:Shared).heap.objs.size=a+1:=hsz
 dsimp only
 rw[hsz]
 have eS:(s.heap.push {cls:= .type "list",dict:=none,data:= .seq #[Value.int 0 s.toks]}).get? (a+1)=some {cls:= .type "list",dict:=none,data:= .seq #[Value.int 0 s.toks]}:=by
  rw[<-hsz];exact Heap.get?_push_size _ rfl
 refine EG IC hf hh hroom LL RV TR Hq val hval cnt 0 _ s.toks 0 0 (.inl rfl) rfl (Nat.zero_le _) (G.frame LL RV TR Hq (.inr (Nat.le_of_eq hsz)) (λb o _ e=>Heap.get?_push_of_some _ e) eS (λv z=>by cases z)) eS λs' t' σ' H' I' w'=> ?_
 exact hQ s' t' σ' H' I' w'
end
theorem set_same{s:Shared}{g:Nat}{x y:GenState}(h:s.gens[g]?=some x):(s.setGen g y).setGen g x=s:=by
 obtain⟨hh,gens,d,t,os⟩:=s
 have hlt:g<gens.size:=by
  rcases Nat.lt_or_ge g gens.size with q|q
  ·exact q
  ·have z:gens[g]?=none:=Array.getElem?_eq_none q
   have h':gens[g]?=some x:=h
   rw[z]at h';cases h'
 have q:(gens.setIfInBounds g y).setIfInBounds g x=gens:=by
  apply Array.ext_getElem?
  intro i
  by_cases e:g=i
  ·subst e
   rw[Array.getElem?_setIfInBounds_self_of_lt (by simpa using hlt)]
   exact h.symm
  ·rw[Array.getElem?_setIfInBounds_ne e,Array.getElem?_setIfInBounds_ne e]
 show({heap:=hh,gens:=(gens.setIfInBounds g y).setIfInBounds g x,drawn:=d,toks:=t,os:=os}:Shared)=_
 rw[q]
section
variable{X:Cx}{sc:Scope}{N':List Str}{code:Value}{sC:Shared}{HC:Hp}{fp Ss:List Addr}{tn:Nat->Heap->Prop}{cnt:Nat}{R:Nat->V->Prop}{W:Nat->St->Hp->Prop}{a:Addr}{pins:List (Addr×Obj)}{σ:St}{Rr:Result->Shared->Prop}
theorem AY.out{B:Around}{i:Nat}{s:Shared}(G:AY X B sc N' code sC HC fp Ss tn cnt R W a i s)(IC:Inv X pins σ HC sC)(hf:∀b∈fp,fS X pins HC b):∃σ' H',Inv X pins σ H' s/\W i σ' H':=by
 obtain⟨gs,pl,σ',H',hpl,e1,e2,I,st,fr,w,go⟩:=G.ex
 have q:=Inv.LH (gs:=gs) IC hf e2 I
 rw[set_same e1]at q
 exact⟨σ',H',q,w⟩
theorem EI(IC:Inv X pins σ HC sC)(hf:∀b∈fp,fS X pins HC b)(hh:X.A.handled=none)(hroom:X.A.depth<recursionLimit)(bv:Nat->Bool)(hval:∀i v,i<cnt->R i v->v= .bl (bv i)):∀(k i:Nat)(s:Shared),cnt-i=k->i<=cnt->
  AY X X.A.in1.in1 sc N' code sC HC fp [a] tn cnt R W a i s->(∀j,j<i->bv j=true) ->
  ((∀j,j<cnt->bv j=true) -> ∀s' σ' H',Inv X pins σ H' s'->W cnt σ' H'->Rr (.ok (.ret (.bool true))) s') ->
  (∀j,j<cnt->bv j=false->(∀l,l<j->bv l=true) -> ∀s' σ' H',Inv X pins σ H' s'->W (j+1) σ' H'->Rr (.ok (.ret (.bool false))) s') ->codeAny (model X.prog X.w) X.A (.builtin "all.loop" ⟨[.ref a],[]⟩) Rr s:=by
 intro k
 induction k with
 |zero=>
  intro i s hk hi G hp hT hF
  obtain rfl:i=cnt:=by omega
  have ex:∀b∈ [a],∃o,s.heap.get? b=some o:=λb hb=>by
   obtain⟨o,_,_,q,_⟩:=G.gen;rw[List.mem_singleton.mp hb];exact⟨o,q⟩
  refine codeAny_builtin PySem.F.entry_all_loop (by
   rw[Around.under_plainId PySem.F.plain_all_loop _]
   show wpAny _ X.A.in1 (pyNext (.ref a)>>=_) _ _ s
   exact wpAny_bind (G.done (D:=X.A.in1) IC hf hh hroom ex λs' σ' H' I' w'=>wpAny_bind (wpAny_rule (wpAny_pure (hT hp s' σ' H' I' w')))))
 |succ k ih=>
  intro i s hk hi G hp hT hF
  have hlt:i<cnt:=by omega
  have ex:∀b∈ [a],∃o,s.heap.get? b=some o:=λb hb=>by
   obtain⟨o,_,_,q,_⟩:=G.gen;rw[List.mem_singleton.mp hb];exact⟨o,q⟩
  refine codeAny_builtin PySem.F.entry_all_loop (by
   rw[Around.under_plainId PySem.F.plain_all_loop _]
   show wpAny _ X.A.in1 (pyNext (.ref a)>>=_) _ _ s
   refine wpAny_bind (G.item (D:=X.A.in1) hh hroom (by simp) ex hlt λv x s' rx RT G' kp=> ?_)
   obtain rfl:=hval i x hlt RT
   cases rx
   refine wpAny_bind (wpAny_holding (wpAny_truthy_bool (wpAny_bind (wpAny_letGo ?_))))
   cases hb:bv i with
   |true=>
    simp only[if_true]
    exact wpAny_pure ⟨plainId_quiet PySem.F.plain_all_loop _,ih (i+1) _ (by omega) hlt G' (λj hj=>by
     rcases Nat.lt_or_ge j i with q|q
     ·exact hp j q
     ·rw[show j=i by omega];exact hb) hT hF⟩
   |false=>
    simp only[Bool.false_eq_true,if_false]
    obtain⟨σ',H',I',w'⟩:=G'.out IC hf
    exact wpAny_bind (wpAny_rule (wpAny_pure (hF i hlt hb hp s' σ' H' I' w'))))
theorem EJ{Q:Value->Shared->Prop}{E:Value->Shared->Prop}{s:Shared}(IC:Inv X pins σ HC sC)(hf:∀b∈fp,fS X pins HC b)(hh:X.A.handled=none)(hroom:X.A.depth<recursionLimit)(bv:Nat->Bool)(hval:∀i v,i<cnt->R i v->v= .bl (bv i))(G:AY X X.A.in1.in1 sc N' code sC HC fp [a] tn cnt R W a 0 s)
  (hT:(∀j,j<cnt->bv j=true) -> ∀s' σ' H',Inv X pins σ H' s'->W cnt σ' H'->Q (.bool true) s')
  (hF:∀j,j<cnt->bv j=false->(∀l,l<j->bv l=true) -> ∀s' σ' H',Inv X pins σ H' s'->W (j+1) σ' H'->Q (.bool false) s'):wpAny (model X.prog X.w) X.A (call (.builtin "all") [.ref a]) Q E s:=by
 refine call_function_tree PySem.F.kind_all PySem.F.plain_all PySem.F.entry_all (PySem.F.args_all1 _) ?_
 unfold Builtin.«all»
 refine wpAny_bind (m:=oneArg "all" _) (wpAny_pure (wpAny_bind (wpAny_pyIter_gen G.gen ?_)))
 exact wpAny_pure ⟨plainId_quiet PySem.F.plain_all_loop _,EI IC hf hh hroom bv hval cnt 0 s rfl (Nat.zero_le _) G (λj hj=>absurd hj (Nat.not_lt_zero _)) hT hF⟩
end
noncomputable def Hr(k:Nat)(P:Addr)(g:TG)(te:TE)(σ:St)(J:It)(H1:Hp)(Q:VK):Prop:=H1 P=some (dS P)/\w9 k g te σ (λcnt R W=> ∃val:Nat->Int,(∀i v,i<cnt->R i v->v= .int (val i))/\ ∀σ' H',W cnt σ' H'->Q (.int (preSum val cnt)) H') J H1
noncomputable def zM(k:Nat)(P:Addr)(wi:TI)(g:TG)(te:TE):TE:=λσ H Q=>wi σ H λJ H1=>Hr k P g te σ J H1 Q
noncomputable def LM(k:Nat)(P:Addr)(g:TG)(te:TE)(σ:St)(J:It)(H1:Hp)(Q:VK):Prop:=H1 P=some (dS P)/\w9 k g te σ (λcnt R W=> ∃bv:Nat->Bool,(∀i v,i<cnt->R i v->v= .bl (bv i))/\
 ((∀j,j<cnt->bv j=true) -> ∀σ' H',W cnt σ' H'->Q (.bl true) H')/\(∀j,j<cnt->bv j=false->(∀l,l<j->bv l=true) -> ∀σ' H',W (j+1) σ' H'->Q (.bl false) H')) J H1
noncomputable def LN(k:Nat)(P:Addr)(wi:TI)(g:TG)(te:TE):TE:=λσ H Q=>wi σ H λJ H1=>LM k P g te σ J H1 Q
section
variable{X:Cx}{sc:Scope}{own N2:List Str}{elt iter tg:Expr}{iY p pos:Pos}{wi:TI}{g:TG}{te:TE}{P:Addr}
structure Hs(X:Cx)(sc:Scope)(own N2:List Str)(P:Addr):Prop where
 calm:X.calm=true
 room:X.A.depth<recursionLimit
 Pa:qt sc.names X.env.scope.names own N2 X.N
 kind:sc.kind= .function
 co:sc.isCoroutine=false
 nc:∀y∈sc.names,y.2≠ .cell
 TU:sc.names.lookup (".0":Str)=some NameKind.local
 code:gf X.K X.env.code P
 bm:BM X.mg X.base
theorem Dv(K:Hs X sc own N2 P)(Ht:Gl X "sum")(hm:X.mg "sum"=none)(hi:PI X tg iter wi)
  (hg:∀code s H fp,PG (X.gen X.A.in1.in1 sc (own++N2) code s H fp) tg g)(he:∀code s H fp,PE (X.gen X.A.in1.in1 sc (own++N2) code s H fp) elt te)
  (hs:∀x,genFold iter X.env x=pure x:=by intro _;rfl)(hst:starEach [.GeneratorExp elt [⟨tg,iter,[],0⟩] sc iY] X.env=[(false,eval (.GeneratorExp elt [⟨tg,iter,[],0⟩] sc iY) X.env)]:=by rfl):
  PE X (.Call (.Name "sum" p) [.GeneratorExp elt [⟨tg,iter,[],0⟩] sc iY] [] pos) (zM own.length P wi g te):=by
 intro pins s σ H Q I h
 refine wpAny_Call_Name_kw (lO I Ht hm PyProof.Rows.boot_sum ?_)
 refine PyProof.Rows.callWith_builtin1 ?_ hst rfl
 rw[hst]
 refine Calls.spliced_cons (fR (Du (pos:=iY) (λa=>[a+1]) (λa b hb=>by rw[List.mem_singleton.mp hb];exact Nat.lt_succ_self _) K.calm K.room hi K.Pa K.kind K.co K.nc K.TU K.code K.bm hg he hs I h) λu s5 h5=> ?_)
 obtain⟨a,cnt,R,W,sC,HC,fp,code,tn,rfl,hsz,G,IC,hf,hC,hlt,Hq,val,hval,hq⟩:=h5
 exact Calls.spliced_nil (EH IC hf (I.ok.hd K.calm) K.room hsz hC hlt Hq val hval G λs' t' σ' H' I' w'=>⟨.int (preSum val cnt),H',I',⟨_,rfl⟩,hq σ' H' w'⟩)
theorem Kd(K:Hs X sc own N2 P)(Ht:Gl X "all")(hm:X.mg "all"=none)(hi:PI X tg iter wi)
  (hg:∀code s H fp,PG (X.gen X.A.in1.in1 sc (own++N2) code s H fp) tg g)(he:∀code s H fp,PE (X.gen X.A.in1.in1 sc (own++N2) code s H fp) elt te)
  (hs:∀x,genFold iter X.env x=pure x:=by intro _;rfl)(hst:starEach [.GeneratorExp elt [⟨tg,iter,[],0⟩] sc iY] X.env=[(false,eval (.GeneratorExp elt [⟨tg,iter,[],0⟩] sc iY) X.env)]:=by rfl):
  PE X (.Call (.Name "all" p) [.GeneratorExp elt [⟨tg,iter,[],0⟩] sc iY] [] pos) (LN own.length P wi g te):=by
 intro pins s σ H Q I h
 refine wpAny_Call_Name_kw (lO I Ht hm PyProof.Rows.boot_all ?_)
 refine PyProof.Rows.callWith_builtin1 ?_ hst rfl
 rw[hst]
 refine Calls.spliced_cons (fR (Du (pos:=iY) (λa=>[]) (λa b hb=>by cases hb) K.calm K.room hi K.Pa K.kind K.co K.nc K.TU K.code K.bm hg he hs I h) λu s5 h5=> ?_)
 obtain⟨a,cnt,R,W,sC,HC,fp,code,tn,rfl,hsz,G,IC,hf,hC,hlt,Hq,bv,hval,hT,hF⟩:=h5
 exact Calls.spliced_nil (EJ IC hf (I.ok.hd K.calm) K.room bv hval G (λhb s' σ' H' I' w'=>⟨.bl true,H',I',rfl,hT hb σ' H' w'⟩) (λj hj hb hp s' σ' H' I' w'=>⟨.bl false,H',I',rfl,hF j hj hb hp σ' H' w'⟩))
end
section
variable{X:Cx}{B:Around}{sc:Scope}{N':List Str}{code:Value}{sC:Shared}{HC:Hp}{fp Ss:List Addr}{tn:Nat->Heap->Prop}{R:Nat->V->Prop}{W:Nat->St->Hp->Prop}
variable{elt iter tg Dw TV:Expr}{pos:Pos}{it:Addr}{J:It}{g g':TG}{te:TE}{Qu:TI}{c1 c2:Nat}
end
section
variable{X:Cx}{B:Around}{sc:Scope}{N':List Str}{code:Value}{sC:Shared}{HC:Hp}{fp Ss:List Addr}{tn:Nat->Heap->Prop}{R:Nat->V->Prop}{W:Nat->St->Hp->Prop}
variable{elt iter tg Dw TV:Expr}{pos:Pos}{it:Addr}{J:It}{g g':TG}{te:TE}{Qu:TI}{c1 c2:Nat}
end
section
variable{X:Cx}{sc:Scope}{own N2:List Str}{elt iter tg Dw TV:Expr}{iY p pos:Pos}{wi Qu:TI}{g g':TG}{te:TE}{P:Addr}
end
mutual
inductive Bt(K:PySem.W.Frag)(H:Hp):V->PyData->Prop
 |iW:Bt K H .iW .none
 |bl(b:Bool):Bt K H (.bl b) (.bool b)
 |int(i:Int):Bt K H (.int i) (.int i)
 |str(x:Str):Bt K H (.str x) (.str x)
 |lst{a:Addr}{xs:List V}{ds:List PyData}:aW K H a xs->Bu K H xs ds->Bt K H (.ref a) (.list ds)
 |tup{a:Addr}{xs:List V}{ds:List PyData}:vS K H a xs->Bu K H xs ds->Bt K H (.ref a) (.tuple ds)
inductive Bu(K:PySem.W.Frag)(H:Hp):List V->List PyData->Prop
 |nil:Bu K H [] []
 |cons{x:V}{d:PyData}{xs:List V}{ds:List PyData}:Bt K H x d->Bu K H xs ds->Bu K H (x::xs) (d::ds)
end
section
variable{X:Cx}{pins:List (Addr×Obj)}{σ:St}{H:Hp}{s:Shared}
mutual
theorem kX(I:Inv X pins σ H s):∀{x:V}{d:PyData}{u:Value},Bt X.K H x d->RelV x u-> ∃as,Reads s.heap u d as
 |_,_,_,.iW,r=>by cases r;exact⟨_,.none⟩
 |_,_,_,.bl b,r=>by cases r;exact⟨_,.bool b⟩
 |_,_,_,.int i,r=>by obtain⟨t,rfl⟩:=r;exact⟨_,.int i t⟩
 |_,_,_,.str x,r=>by obtain⟨t,rfl⟩:=r;exact⟨_,.str x t⟩
 |_,_,_,.lst hq hs,r=>by
  cases r
  obtain⟨its,rv,⟨o,n,e,c,_,dd⟩,_⟩:=I.list hq
  obtain⟨as,q⟩:=nB I hs rv
  exact⟨_,.list e c dd (by simpa using q)⟩
 |_,_,_,.tup hq hs,r=>by
  cases r
  obtain⟨its,rv,⟨o,e,c,n,dd⟩,_⟩:=I.tuple hq
  obtain⟨as,q⟩:=nB I hs rv
  exact⟨_,.tuple e c dd (by simpa using q)⟩
theorem nB(I:Inv X pins σ H s):∀{xs:List V}{ds:List PyData}{us:List Value},Bu X.K H xs ds->Vals xs us-> ∃as,ReadsAll s.heap us ds as
 |_,_,_,.nil,r=>by cases r;exact⟨_,.nil⟩
 |_,_,_,.cons h t,r=>by
  cases r with
  |cons r1 r2=>
   obtain⟨as,q1⟩:=kX I h r1
   obtain⟨bs,q2⟩:=nB I t r2
   exact⟨_,.cons q1 q2⟩
end
end
noncomputable def EK(K:PySem.W.Frag)(neg:Bool):R2:=λx y H Q=> ∃da db,Bt K H x da/\Bt K H y db/\SeqAt.shaped da=true/\SeqAt.shaped db=true/\Q (.bl (if neg then !PyData.eqv da db else PyData.eqv da db)) H
section
variable{X:Cx}
theorem Hu(hu:X.A.units+64<cLine):tP X (compareOp .Eq) (EK X.K false):=by
 intro pins s σ H x y v u Q I rx ry h
 obtain⟨da,db,h1,h2,s1,s2,q⟩:=h
 obtain⟨as,r1⟩:=kX I h1 rx
 obtain⟨bs,r2⟩:=kX I h2 ry
 exact eq_dataH r1 r2 s1 s2 hu ⟨.bl _,H,I,rfl,q⟩
theorem Hv(hu:X.A.units+64<cLine):tP X (compareOp .NotEq) (EK X.K true):=by
 intro pins s σ H x y v u Q I rx ry h
 obtain⟨da,db,h1,h2,s1,s2,q⟩:=h
 obtain⟨as,r1⟩:=kX I h1 rx
 obtain⟨bs,r2⟩:=kX I h2 ry
 exact ne_dataH r1 r2 s1 s2 hu ⟨.bl _,H,I,rfl,q⟩
theorem gG:sV X (.builtin "isinstance") (λxs H Q=> ∃x n t b,xs=[x,.ty n]/\qo X.K H x t/\PySem.W.kitOne X.K t (.type n)=some b/\Q (.bl b) H):=by
 intro pins s σ H xs us Q I r h
 obtain⟨x,n,t,b,rfl,ty,e,q⟩:=h
 cases r with
 |cons r1 r2=>
  cases r2 with
  |cons r2 r3=>
   cases r3
   cases r2
   exact EA I r1 ty e λtk=>⟨.bl b,H,I.tok _,rfl,q⟩
end
noncomputable abbrev qv(r:List Int):PyData:= .list (r.map .int)
noncomputable abbrev yc(m:List (List Int)):PyData:= .list (m.map qv)
theorem sW:∀m:List (List Int),PyData.canLayAll0 (m.map qv)=true
 | []=>rfl
 |r::m=>by simp[PyData.canLayAll0,PyData.canLay0,PySem.W.ke_canLayAll0,sW m]
theorem uG:∀m:List (List Int),PyData.depthAll (m.map qv)<=1
 | []=>by simp[PyData.depthAll]
 |r::m=>by
  have:=uG m
  simp only[List.map_cons,PyData.depthAll,PyData.depth,PySem.W.ke_depthAll]
  omega
theorem jK(m:List (List Int)):SeqAt.shaped (yc m)=true:=by
 have q:=uG m
 simp only[SeqAt.shaped,PyData.canLay0,PyData.depth,sW,Bool.true_and,decide_eq_true_eq]
 exact decide_eq_true (show PyData.depthAll (m.map qv)+1<=64 by omega)
theorem pJ(r:List Int):SeqAt.shaped (qv r)=true:=PySem.W.ke_shaped_ints r
theorem Dy(r t:List Int):PyData.eqv (qv r) (qv t)=decide (r=t):=by
 simp only[PyData.eqv]
 exact PySem.W.ked_eqvAll r t
theorem sX:∀m n:List (List Int),PyData.eqvAll (m.map qv) (n.map qv)=decide (m=n)
 | [],[]=>by simp[PyData.eqvAll]
 | [],_::_=>by simp[PyData.eqvAll]
 |_::_,[]=>by simp[PyData.eqvAll]
 |a::r,b::t=>by
  have e:=Dy a b
  simp only[qv]at e
  simp only[List.map_cons,PyData.eqvAll,sX r t,qv,e]
  by_cases h:a=b<;>by_cases h':r=t<;>simp[h,h']
theorem Dz(m n:List (List Int)):PyData.eqv (yc m) (yc n)=decide (m=n):=by
 simp only[PyData.eqv]
 exact sX m n
structure MR(tz:Addr->HO):Prop where
 new:∀{P:Program}{w:World}{H:Hp}{h:Heap}{T:Addr},h.get? T=some {cls:= .none,data:= .fields #[]} ->fm P w H h T (tz T)
 get:∀{P:Program}{w:World}{H:Hp}{h:Heap}{T:Addr},fm P w H h T (tz T) -> ∃ps:Array Value,h.get? T=some {cls:= .none,data:= .fields ps}
theorem DC:MR dS:=⟨λe=>GZ e (by simp[TriplesOk]),λh=>let⟨⟨ps,e,_⟩,_⟩:=h;⟨ps,e⟩⟩
theorem MS(gz:List Addr):MR (λT=>if T∈gz then .zu else dS T):=by
 refine⟨λ {P w H h T} e=> ?_,λ {P w H h T} x=> ?_⟩
 ·by_cases c:T∈gz
  ·rw[if_pos c]
   exact⟨#[],e,trivial,λpos cv z=>nomatch z⟩
  ·rw[if_neg c]
   exact DC.new e
 ·by_cases c:T∈gz
  ·rw[if_pos c]at x
   obtain⟨ps,e,_⟩:=x
   exact⟨ps,e⟩
  ·rw[if_neg c]at x
   exact DC.get x
theorem EL{P:Program}{w:World}{K:PySem.W.Frag}{mg mb:Str->Option Value}{k:Nat}{fa a:Addr}{fd:FuncData}{x:Str}{sp:Sp}{s₁:Shared}{vs:List Value}{ns:List Int}{tabs:List Addr}{tz:Addr->HO}(TZ:MR tz)
  (KX:K.In s₁.heap)(hns:s₁.heap.Ns mainGlobals mg)(hb:s₁.heap.Ns builtinsNs mb)(Vs:∀x:Str,x≠ "__name__" ->mb x=bootBuiltins x)(hlim:s₁.heap.NoLimit)(hbm:BM mg s₁.heap)(hg:s₁.gens= #[])
  (htab:∀T∈tabs,isCodeTable s₁.heap T/\s₁.heap.get? T=some {cls:= .none,data:= .fields #[]})
  (ha:s₁.heap.get? a=some {cls:= .type "list",data:= .seq vs.toArray})(hi:IntsAre vs ns)(hl:ns.length<=sizeLine)(hr:fE k callerA)(hcl:PySem.W.kb_classed K=true)
  (F:∀base:Heap,K.In base->base.Ns mainGlobals mg->BM mg base->qp P w K mg base cY k fa fd [x] sp)(hbind:∀(s:Shared)(u:Value),BindsTo s fd ⟨[u],[]⟩ [(x,u)])
  (Jx:∀H:Hp,(∀T∈tabs,H T=some (tz T)) ->aW K H a (ns.map V.int) ->sp [.ref a] H (λv H'=>v= .bl true/\ ∀T∈tabs,H' T=some (tz T)) λ_ _ _=>False):
  codeAny (model P w) callerA (.call (.ref fa) ⟨[.ref a],[]⟩) (λr s'=>r= .ok (.ret (.bool true))/\OldK s₁.heap s'.heap/\s'.os=s₁.os/\AllBare s'.gens) s₁:=by
 have rv:=w6 hi
 have RW:=hi.length
 have TX:a∉tabs:=λz=>by
  have e:=(htab a z).2
  rw[ha]at e
  cases e
 have core:∀H:Hp,(∀T∈tabs,H T=some (tz T)) ->(∀b u,H b=some u->b∈tabs∨(b=a/\ ∃o xs,u= .xP o (.lst xs))) ->aW K H a (ns.map V.int) ->t7 P w H s₁.heap->(H a≠none->K.lookup a=none) ->
   codeAny (model P w) callerA (.call (.ref fa) ⟨[.ref a],[]⟩) (λr s'=>r= .ok (.ret (.bool true))/\OldK s₁.heap s'.heap/\s'.os=s₁.os/\AllBare s'.gens) s₁:=by
  intro H hT hO hS hok hK
  have free:∀{b:Addr}{o:Obj},s₁.heap.get? b=some o->o.cls≠ .none->b≠a->H b=none:=λ {b o} e hc hba=>by
   cases q:H b with
   |none=>rfl
   |some u=>
    rcases hO b u q with z|⟨z,_⟩
    ·have e':=(htab b z).2
     rw[e]at e'
     cases e'
     exact absurd rfl hc
    ·exact absurd z hba
  have yd:∀{b:Addr}{o:Obj},s₁.heap.get? b=some o->H b=none->(vX s₁.heap H).get? b=some o:=λe n=>Gy e n
  have RX:∀{b:Addr}{o:Obj}{es:Array DictEntry}{ep:Nat},s₁.heap.get? b=some o->o.data= .dict es ep->H b=none:=λ {b o es ep} e d=>by
   cases q:H b with
   |none=>rfl
   |some u=>
    rcases hO b u q with z|⟨z,_⟩
    ·have e':=(htab b z).2
     rw[e]at e'
     cases e'
     cases d
    ·rw[z,ha]at e
     cases e
     cases d
  have Qv:∀{b:Addr}{m:Str->Option Value},s₁.heap.Ns b m->(vX s₁.heap H).Ns b m:=λ {b m} ⟨o,es,ep,e,d,r⟩=>⟨o,es,ep,yd e (RX e d),d,r⟩
  have TY:K.In (vX s₁.heap H):=λb o e=>yd (KX b o e) (by
   by_cases hba:b=a
   ·cases q:H b with
    |none=>rfl
    |some u=>
     subst hba
     rw[hK (by rw[q];simp)]at e
     cases e
   ·have q:=List.all_eq_true.mp hcl (b,o) (PySem.W.kb_mem e)
    simp only[Bool.or_eq_true,decide_eq_true_eq,beq_iff_eq]at q
    rcases q with(q|q)|q
    ·exact free (KX b o e) q hba
    ·obtain⟨mc,⟨oc,es,ep,z1,z2,_⟩,_⟩:=hlim
     rw[q];exact RX z1 z2
    ·obtain⟨oc,es,ep,z1,z2,_⟩:=hns
     rw[q];exact RX z1 z2)
  have hM:Mod K mg (vX s₁.heap H):=⟨TY,Qv hns,⟨mb,Qv hb,Vs⟩,let⟨mc,h1,h2⟩:=hlim;⟨mc,Qv h1,h2⟩⟩
  have Vt:BM mg (vX s₁.heap H):=by
   obtain⟨bm,ob,q1,q2,q3,q4,q5,q6⟩:=hbm
   refine⟨bm,ob,q1,q2,yd q3 (free q3 (by rw[q4];simp) λz=> ?_),q4,q5,q6⟩
   rw[z,ha]at q3
   rw[<-Option.some.inj q3]at q4
   exact absurd q4 (by simp)
  have e0:JP P w K mg (vX s₁.heap H) callerA [] s₁ H:=⟨rfl,hM,λb o e=>JH e,Nat.le_of_eq (Es _ _),trivial,λb hb=>absurd (show b∈([]:List Addr)from hb) (by simp),hok,.of_eq hg⟩
  refine codeAny_mono ((F _ TY (Qv hns) Vt).run callerA [] s₁ H ⟨[.ref a],[]⟩ [.ref a] [.ref a] _ _ hr e0 (hbind s₁ (.ref a)) (.cons rfl .nil) (Jx H hT hS)) λr s' h=> ?_
  cases r with
  |error e=>exact False.elim h
  |ok fl=>
   cases fl with
   |next=>exact False.elim h
   |brk=>exact False.elim h
   |cont=>exact False.elim h
   |ret u=>
    obtain⟨v,H',os,bare,un,Pb,r',q⟩:=h
    obtain⟨q',Vu⟩:=q
    have q':v= .bl true:=q'
    subst q'
    obtain rfl:u=Value.bool true:=r'
    refine⟨rfl,⟨λb o e=> ?_,λb o e=>un.there b o e (by simp)⟩,os,bare.bare⟩
    cases q:H b with
    |none=>exact .inl (un.keep b o e q (by intro z;exact absurd (show b∈([]:List Addr)from z) (by simp)) (by simp))
    |some u=>
     rcases hO b u q with z|⟨z,ob,xs,eu⟩
     ·obtain⟨ct,e'⟩:=htab b z
      obtain⟨ps,ep⟩:=TZ.get (Pb b _ (Vu b z))
      rw[e]at e'
      cases e'
      exact .inr (.inl ⟨ct,rfl, #[],ps,rfl,by simpa using ep⟩)
     ·subst eu
      have z2:=un.qW b ob _ q
      obtain⟨e1,_⟩:=hok b _ q
      obtain⟨e2,_⟩:=Pb b _ z2
      rw[e]at e1;cases e1
      exact .inl e2
 have Ua:∀(H:Hp)(T:Addr),T∈tabs->fm P w H s₁.heap T (tz T):=λH T hT=>TZ.new (htab T hT).2
 cases hk:K.lookup a with
 |some o=>
  have e:=KX a o hk
  rw[ha]at e
  cases e
  refine core (λb=>if b∈tabs then some (tz b)else none) (λT hT=>if_pos hT) (λb u z=> ?_) (.inr ⟨_,vs.toArray,_,hk,rfl,rfl,rfl,by rw[List.size_toArray,RW];exact hl,by simpa using rv⟩) (λb u z=> ?_) (λz=>absurd (if_neg TX) z)
  ·by_cases hb:b∈tabs
   ·exact .inl hb
   ·have z':=(if_neg hb).symm.trans z;cases z'
  ·by_cases hb:b∈tabs
   ·have z':=(if_pos hb).symm.trans z;cases z';exact Ua _ b hb
   ·have z':=(if_neg hb).symm.trans z;cases z'
 |none=>
  have q1:∀{b:Addr},b∈tabs->(if b=a then some (HO.xP {cls:= .type "list",data:= .seq vs.toArray} (.lst (ns.map V.int)))else if b∈tabs then some (tz b)else none)=some (tz b):=λ {b} hb=>by
   rw[if_neg (λ(z:b=a)=>TX (by rw[<-z];exact hb)),if_pos hb]
  refine core (λb=>if b=a then some (.xP {cls:= .type "list",data:= .seq vs.toArray} (.lst (ns.map V.int)))else if b∈tabs then some (tz b)else none) (λT hT=>q1 hT) (λb u z=> ?_) (.inl (.inr ⟨{cls:= .type "list",data:= .seq vs.toArray},if_pos rfl⟩)) (λb u z=> ?_) λ_=>hk
  ·by_cases hb:b=a
   ·have z':=(if_pos hb).symm.trans z
    cases z'
    exact .inr ⟨hb,_,_,rfl⟩
   ·by_cases hb2:b∈tabs
    ·exact .inl hb2
    ·have z':=((if_neg hb).trans (if_neg hb2)).symm.trans z;cases z'
  ·by_cases hb:b=a
   ·have z':=(if_pos hb).symm.trans z
    cases z'
    subst hb
    exact⟨ha,by rw[List.length_map];exact hl,vs,_,rv,ha⟩
   ·by_cases hb2:b∈tabs
    ·have z':=(q1 hb2).symm.trans z
     cases z'
     exact Ua _ b hb2
    ·have z':=((if_neg hb).trans (if_neg hb2)).symm.trans z;cases z'
theorem Bv{p:Program}{loose:List Str}{mean:ExcName->Option Value}{mg mb:Str->Option Value}{h:Heap}(T:Top p loose mean mg mb h){d:DefRec}{x qual:Str}(hf:(recsOf p).find? (λe=>e.name==x)=some d){K:PySem.W.Frag}(KX:K.In h){f:Addr}
  (hm:mg x=some (.ref f)){oc:Value}{od:Option Addr}{sl:Array (Option Value)}{fd:FuncData}(l:K.lookup f=some ⟨oc,od,.func fd,sl⟩)(c:PySem.W.codeIn K fd.code qual=true):
  ∃P,gf K fd.code P/\isCodeTable h P/\h.get? P=some {cls:= .none,data:= .fields #[]}:=by
 have hn:d.name=x:=beq_iff_eq.mp (List.find?_some (p:=λe:DefRec=>e.name==x) hf)
 obtain⟨a',o',fd',cc,P,h1,h2,h3,h4,h5,h6⟩:=T.tab d (List.mem_of_find?_eq_some hf)
 rw[hn,hm]at h1;cases h1
 rw[KX f _ l]at h2;cases h2
 cases h3
 refine⟨P,?_,h6.isCodeTable,h6.2⟩
 obtain⟨o,vs,file,tf,flags,tg,MK,text,tt,op,ho,hd,h11,OV,h7,h9,v8,_⟩:=h5
 obtain⟨⟨o2,Wy,g1,g2,g3,g4⟩,_⟩:=h6
 rw[ho]at g1;cases g1
 rw[hd]at g3;cases g3
 rw[h4]at c
 cases q:K.lookup cc with
 |none=>unfold PySem.W.codeIn at c;simp[q]at c
 |some o3=>
  have e3:=KX cc o3 q
  rw[ho]at e3
  have e4:o=o3:=Option.some.inj e3
  subst e4
  exact⟨cc,o,vs,file,tf,flags,tg,MK,text,tt,h4,q,g2,hd,g4,OV,h7,h9,v8⟩
noncomputable def tabOf(K:PySem.W.Frag)(f:Addr):Option Value:=match K.lookup f with
 |some ⟨_,_,.func fd,_⟩=>match fd.code with
  | .ref c=>match K.lookup c with
   |some o=>match o.data with
    | .fields vs=>vs[11]?
    |_=>none
   |none=>none
  |_=>none
 |_=>none
noncomputable def Hw(K:PySem.W.Frag)(fs gs:List Addr):Bool:=fs.all λf=>gs.all λg=>tabOf K f !=tabOf K g
theorem zN{K:PySem.W.Frag}{f P:Addr}{oc:Value}{od:Option Addr}{sl:Array (Option Value)}{fd:FuncData}(l:K.lookup f=some ⟨oc,od,.func fd,sl⟩)(c:gf K fd.code P):tabOf K f=some (.ref P):=by
 obtain⟨cc,o,vs,_,_,_,_,_,_,_,e1,e2,e3,e4,e5,_⟩:=c.ex
 unfold tabOf
 rw[l]
 simp only[e1,e2,e4,e5]
theorem nC{K:PySem.W.Frag}{fs gs:List Addr}(h:Hw K fs gs=true){f g P Q:Addr}(hf:f∈fs)(hg:g∈gs)(a:tabOf K f=some (.ref P))(b:tabOf K g=some (.ref Q)):P≠Q:=λe=>by
 have h1:=List.all_eq_true.mp (List.all_eq_true.mp h f hf) g hg
 rw[a,b,e]at h1
 simp at h1
theorem Hx{l:PySem.W.OpenLaw}{n k:Nat}{q:Program}{loose:List Str}{XP:(Str->Option Value) ->Heap->Prop}{YP:World->Heap->Prop}{d:DefRec}{K:Params->PySem.W.Frag}{x:Str}{sp:PySem.W.Frag->List Addr->List Addr->Sp}
  (hn:l.most=some n)(hn2:n<=sizeLine)(hdf:d.params.defaults=[])(hr:fE k callerA)
  (hY:∀(w:World)(h:Heap),YP w h->(K w.params).In h)
  (hcl:∀(w:World),PySem.W.kb_classed (K w.params)=true)
  (F:∀(w:World)(mg mb:Str->Option Value)(mean:ExcName->Option Value)(fa:Addr)(h:Heap),(K w.params).In h->Top q (PySem.W.looseW q loose) mean mg mb h->mg d.name=some (.ref fa) ->
   ∃(fd:FuncData)(tabs gz:List Addr),(∀(s:Shared)(u:Value),BindsTo s fd ⟨[u],[]⟩ [(x,u)])/\(∀T∈tabs++gz,isCodeTable h T/\h.get? T=some {cls:= .none,data:= .fields #[]})/\(∀T∈tabs,T∉gz)/\
    ∀base:Heap,(K w.params).In base->base.Ns mainGlobals mg->BM mg base->qp l.prog w (K w.params) mg base cY k fa fd [x] (sp (K w.params) tabs gz))
  (Jx:∀(K:PySem.W.Frag)(tabs gz:List Addr)(H:Hp)(a:Addr)(ns:List Int),ns.length<=n->(∀T∈tabs,H T=some (dS T)) ->(∀T∈gz,H T=some .zu) ->aW K H a (ns.map V.int) -> ∀Q:VK,(∀H',az H H'->Q (.bl true) H') ->sp K tabs gz [.ref a] H Q λ_ _ _=>False):
  PySem.W.WalkO q loose XP YP l.row.toRowW d [] (λf vs=>PySem.call f vs):=by
 refine TH.zD hn hdf λw s₀ s₁ mg mb fa o pm cd doc a vs ns G Y ho hd hcd hmg hobj hints hlen hg=> ?_
 have KX:=hY w _ Y
 obtain⟨fd,tabs,gz,hb,ht,Hh,hF⟩:=F w mg mb _ fa _ KX G.T hmg
 have e1:∀T∈tabs,(if T∈gz then HO.zu else dS T)=dS T:=λT hT=>if_neg (Hh T hT)
 have e2:∀T∈gz,(if T∈gz then HO.zu else dS T)= .zu:=λT hT=>if_pos hT
 refine EL (MS gz) KX G.T.g G.T.b G.T.builtins G.T.nolimit G.T.bmain hg ht hobj hints (Nat.le_trans hlen hn2) hr (hcl w) hF hb (λH hO hS=> ?_)
 refine Jx _ tabs gz H a ns hlen (λT hT=>by rw[hO T (List.mem_append_left _ hT),e1 T hT]) (λT hT=>by rw[hO T (List.mem_append_right _ hT),e2 T hT]) hS _ λH' s=>⟨rfl,λT hT=>s _ _ (hO T hT)⟩
theorem az.up{H:Hp}{D:Addr}{o:HO}(h:H D=none):az H (upd H D o):=λb u q=>by rw[aI (cZ q h)];exact q
theorem az.upd{H H':Hp}{D:Addr}{o:HO}(s:az H H')(h:H D=none):az H (upd H' D o):=λb u q=>by rw[aI (cZ q h)];exact s b u q
theorem az.none{H H':Hp}(s:az H H'){D:Addr}(h:H' D=Option.none):H D=Option.none:=s.free h
theorem az.Vv{K:PySem.W.Frag}{H H':Hp}{a:Addr}{xs:List V}(e:az H H')(h:vS K H a xs):vS K H' a xs:=by
 rcases h with(h|⟨o,h⟩)|h
 ·exact .inl (.inl (e _ _ h))
 ·exact .inl (.inr ⟨o,e _ _ h⟩)
 ·exact .inr h
theorem _root_.PySem.Paired.Hy{α β:Type}{F F':α->β->Prop}:∀{l:List α}{m:List β},Paired F l m->(∀a b,b∈m->F a b->F' a b) ->Paired F' l m
 |_,_,.nil,_=> .nil
 |_,_,.cons h t,k=> .cons (k _ _ List.mem_cons_self h) (t.Hy λa b hb q=>k a b (List.mem_cons_of_mem _ hb) q)
structure JW(J:It)(H1:Hp)(xs:List V):Prop where
 go:∀i H',az H1 H'->i<xs.length->J.go i H'
 zv:∀i H' x H2,az H1 H'->i<xs.length->J.zv i H' x H2->H2=H'/\xs[i]?=some x
 stop:∀H',az H1 H'->J.stop xs.length H'
theorem lS{K:PySem.W.Frag}{H1:Hp}{a:Addr}{xs:List V}(h:aW K H1 a xs):JW (Mq K a) H1 xs where
 go:=λi H' s hi=>⟨xs,xs[i],s.seq h,by simp[hi]⟩
 zv:=λi H' x H2 s hi ⟨e,y⟩=>⟨e,y xs (s.seq h)⟩
 stop:=λH' s=>⟨xs,s.seq h,Nat.le_refl _⟩
noncomputable def nE(n:Nat):List V:=(List.range n).map λ(i:Nat)=>V.int (i:Int)
theorem gk{H1:Hp}{n:Nat}:JW (GI 0 n) H1 (nE n) where
 go:=λi H' s hi=>by simpa [nE,GI]using hi
 zv:=λi H' x H2 s hi ⟨e,y⟩=>⟨e,by
  have hi':i<n:=by simpa [nE]using hi
  subst y
  simp[nE,hi']⟩
 stop:=λH' s=>by simp[nE,GI]
theorem ye{J:It}{H1:Hp}{xs:List V}{σ:St}{te:TE}{Q:VK}(jw:JW J H1 xs)(hz:xs.length<=sizeLine){D:Addr}(hD:H1 D=none)(P:List V->List V->Hp->Prop)(h0:P [] [] (upd H1 D (.lst [])))
  (hs:∀pre x post acc H' (Q':VK),xs=pre++x::post->acc.length=pre.length->az H1 H'->H' D=some (.lst acc) ->P pre acc H'->(∀v H4,az H' H4->P (pre++ [x]) (acc++ [v]) (upd H4 D (.lst (acc++ [v]))) ->Q' v H4) ->te (some x::σ) H' Q')
  (hq:∀acc H',acc.length=xs.length->az H1 H'->H' D=some (.lst acc) ->P xs acc H'->Q (.ref D) H'):
  nv 1 (dI 0) te σ J H1 D Q:=by
 refine⟨λi m acc σ' H'=>m=xs.length-i/\i<=xs.length/\acc.length=i/\(∃o,σ'=o::σ)/\az H1 H'/\H' D=some (.lst acc)/\P (xs.take i) acc H',⟨xs.length,rfl,Nat.zero_le _,rfl,⟨none,rfl⟩,az.up hD,av,h0⟩,?_⟩
 rintro i m acc σ' H' ⟨rfl,hi,hl,⟨o,rfl⟩,sm,eD,p⟩
 by_cases hlt:i<xs.length
 ·refine .inr ⟨jw.go i H' sm hlt,by omega,λx H2 y=> ?_⟩
  obtain⟨rfl,ex⟩:=jw.zv i H' x H2 sm hlt y
  have hx:xs[i]=x:=by rw[List.getElem?_eq_getElem hlt]at ex;exact Option.some.inj ex
  have sp:xs=xs.take i++x::xs.drop (i+1):=by
   rw[<-hx,<-List.drop_eq_getElem_cons hlt,List.take_append_drop]
  have tk:xs.take (i+1)=xs.take i++ [x]:=by rw[List.take_succ,ex];rfl
  show te (some x::σ) H2 _
  refine hs (xs.take i) x (xs.drop (i+1)) acc H2 _ sp (by rw[hl,List.length_take];omega) sm eD p λv H4 s4 p4=> ?_
  refine⟨s4 _ _ eD,xs.length- (i+1),by omega,rfl,hlt,by simp[hl],⟨_,rfl⟩,(sm.trans s4).upd hD,av,?_⟩
  rw[tk]
  exact p4
 ·have e:i=xs.length:=by omega
  subst e
  refine .inl ⟨jw.stop H' sm,eD,hq acc H' hl sm eD ?_⟩
  rw[List.take_length]at p
  exact p
section
variable{X:Cx}{sc:Scope}{N2:List Str}{x:Str}{px:Pos}{elt iter:Expr}{iY p pos:Pos}{wi:TI}{te:TE}{P:Addr}
theorem yf(B:qt sc.names X.env.scope.names [x] N2 X.N)(s:Shared)(H:Hp)(fp:List Addr):PG (X.comp sc ([x]++N2) s H fp) (.Name x px) (dI 0):=by
 rcases B.own x (by simp)with e|e
 ·exact aV (i:=0) B.JU rfl (.inl (jJ (env:=X.env) e (.inl rfl))) (.inr (jJ (env:=X.env) e (.inl rfl)))
 ·refine aV (i:=0) B.JU rfl (.inr (jJ (env:=X.env) e (.inr rfl))) (.inl ?_)
  show(sc.names.lookup x==some NameKind.cell)=true
  rw[e];rfl
theorem jL(hc:X.calm=true)(hi:PI X (.Name x px) iter wi)(hB:zI sc.names X.env.scope.names [x] N2 X.N=true)(hk:sc.kind= .function)(he:∀s H fp,PE (X.comp sc ([x]++N2) s H fp) elt te)
  (hs:∀x,foldedSetIterable iter X.env x=pure x:=by intro _;rfl):PE X (.ListComp elt [⟨.Name x px,iter,[],0⟩] sc pos) (nA 1 wi (dI 0) te):=
 zK (own:=[x]) hc hi (kq hB) hk (λs H fp=>yf (kq hB) s H fp) he hs
theorem MT{i:Nat}{y:Str}{py spos:Pos}(hN:X.N.Nodup)(hi':X.N[i]?=some y)(hy:X.env.scope.names.lookup y=some .local)(hc:X.calm=true)(hi:PI X (.Name x px) iter wi)(hB:zI sc.names X.env.scope.names [x] N2 X.N=true)(hk:sc.kind= .function)(he:∀s H fp,PE (X.comp sc ([x]++N2) s H fp) elt te)
  (hsw:swapsWith (.ListComp elt [⟨.Name x px,iter,[],0⟩] sc pos) (some (.Name y py)) spos.line X.env=pure true:=by rfl)(hs:∀x,foldedSetIterable iter X.env x=pure x:=by intro _;rfl):
  PS X (.Assign [.Name y py] (.ListComp elt [⟨.Name x px,iter,[],0⟩] sc pos) spos) (Bf (nA 1 wi (dI 0) te) (dI i)):=
 GY (own:=[x]) hN hi' hy hc hi (kq hB) hk (λs H fp=>yf (kq hB) s H fp) he hsw hs
theorem Hz{B:Around}(Bk:qt sc.names X.env.scope.names [x] N2 X.N)(hnc:∀y∈sc.names,y.2≠ .cell)(code:Value)(s:Shared)(H:Hp)(fp:List Addr):PG (X.gen B sc ([x]++N2) code s H fp) (.Name x px) (dI 0):=by
 rcases Bk.own x (by simp)with e|e
 ·exact aV (i:=0) Bk.JU rfl (.inl e) (.inr e)
 ·exact absurd rfl (hnc _ (mem_of_lookup e))
noncomputable def HA(sc:Scope)(ks:List (Str×NameKind))(own N2 N:List Str):Bool:=
 zI sc.names ks own N2 N && (sc.kind== .function) && !sc.isCoroutine && sc.names.all (λy=>y.2 != .cell) && (sc.names.lookup (".0":Str)==some NameKind.local)
theorem uH{own:List Str}(hc:X.calm=true)(hr:X.A.depth<recursionLimit)(cd:gf X.K X.env.code P)(bm:BM X.mg X.base)(h:HA sc X.env.scope.names own N2 X.N=true):Hs X sc own N2 P:=by
 unfold HA at h
 simp only[Bool.and_eq_true]at h
 obtain⟨⟨⟨⟨h1,h2⟩,h3⟩,h4⟩,h5⟩:=h
 refine⟨hc,hr,kq h1,by simpa using h2,by simpa using h3,λy hy=> ?_,by simpa using h5,cd,bm⟩
 have q:=List.all_eq_true.mp h4 y hy
 simpa using q
theorem Ke(hc:X.calm=true)(hr:X.A.depth<recursionLimit)(cd:gf X.K X.env.code P)(bm:BM X.mg X.base)(Ht:Gl X "sum")(hm:X.mg "sum"=none)(hi:PI X (.Name x px) iter wi)(hB:HA sc X.env.scope.names [x] N2 X.N=true)
  (he:∀code s H fp,PE (X.gen X.A.in1.in1 sc ([x]++N2) code s H fp) elt te)
  (hs:∀x,genFold iter X.env x=pure x:=by intro _;rfl)(hst:starEach [.GeneratorExp elt [⟨.Name x px,iter,[],0⟩] sc iY] X.env=[(false,eval (.GeneratorExp elt [⟨.Name x px,iter,[],0⟩] sc iY) X.env)]:=by rfl):
  PE X (.Call (.Name "sum" p) [.GeneratorExp elt [⟨.Name x px,iter,[],0⟩] sc iY] [] pos) (zM 1 P wi (dI 0) te):=
 have K:=uH hc hr cd bm hB
 Dv (own:=[x]) K Ht hm hi (λcode s H fp=>Hz K.Pa K.nc code s H fp) he hs hst
theorem yg(hc:X.calm=true)(hr:X.A.depth<recursionLimit)(cd:gf X.K X.env.code P)(bm:BM X.mg X.base)(Ht:Gl X "all")(hm:X.mg "all"=none)(hi:PI X (.Name x px) iter wi)(hB:HA sc X.env.scope.names [x] N2 X.N=true)
  (he:∀code s H fp,PE (X.gen X.A.in1.in1 sc ([x]++N2) code s H fp) elt te)
  (hs:∀x,genFold iter X.env x=pure x:=by intro _;rfl)(hst:starEach [.GeneratorExp elt [⟨.Name x px,iter,[],0⟩] sc iY] X.env=[(false,eval (.GeneratorExp elt [⟨.Name x px,iter,[],0⟩] sc iY) X.env)]:=by rfl):
  PE X (.Call (.Name "all" p) [.GeneratorExp elt [⟨.Name x px,iter,[],0⟩] sc iY] [] pos) (LN 1 P wi (dI 0) te):=
 have K:=uH hc hr cd bm hB
 Kd (own:=[x]) K Ht hm hi (λcode s H fp=>Hz K.Pa K.nc code s H fp) he hs hst
theorem zO{k:Nat}{A:Around}{e:Env}(r:fE (k+1) A):fE k (JX A.in1.in1 e):=
 ⟨r.hd,by have:=r.dp;show A.depth+1+3*k+5<_;omega,by have:=r.un;show A.units+1+1+3+16*k+200<_;omega⟩
end
theorem HB{J:It}{H1:Hp}{xs:List V}{σ:St}{te:TE}{F:Nat->(Nat->V->Prop) ->(Nat->St->Hp->Prop) ->Prop}(jw:JW J H1 xs)(R:Nat->V->Prop)
  (hs:∀i x,xs[i]?=some x-> ∀H' (Q':VK),az H1 H'->(∀v H2,R i v->az H' H2->Q' v H2) ->te (some x::σ) H' Q')
  (hF:F xs.length R (λ_ σ' H'=>(∃o,σ'=o::σ)/\az H1 H')):w9 1 (dI 0) te σ F J H1:=by
 refine⟨xs.length,R,_,⟨⟨none,rfl⟩,az.refl _⟩,λi σ' H' hi w=> ?_,λσ' H' w=>jw.stop H' w.2,hF⟩
 obtain⟨⟨o,rfl⟩,sm⟩:=w
 refine⟨jw.go i H' sm hi,λx H2 y=> ?_⟩
 obtain⟨rfl,ex⟩:=jw.zv i H' x H2 sm hi y
 show te (some x::σ) H2 _
 exact hs i x ex H2 _ sm λv H3 r s3=>⟨r,⟨_,rfl⟩,sm.trans s3⟩
theorem MU{J:It}{H1:Hp}{xs:List V}{σ:St}{te:TE}{Q:VK}{P:Addr}(jw:JW J H1 xs)(hP:H1 P=some (dS P))(val:Nat->Int)
  (hs:∀i x,xs[i]?=some x-> ∀H' (Q':VK),az H1 H'->(∀H2,az H' H2->Q' (.int (val i)) H2) ->te (some x::σ) H' Q')
  (hq:∀H',az H1 H'->Q (.int (preSum val xs.length)) H'):
  Hr 1 P (dI 0) te σ J H1 Q:=
 ⟨hP,HB jw (λi v=>v= .int (val i)) (λi x ex H' Q' sm k=>hs i x ex H' Q' sm λH2 s2=>k _ _ rfl s2) ⟨val,λi v _ r=>r,λσ' H' w=>hq H' w.2⟩⟩
theorem Bw{J:It}{H1:Hp}{xs:List V}{σ:St}{te:TE}{Q:VK}{P:Addr}(jw:JW J H1 xs)(hP:H1 P=some (dS P))(bv:Nat->Bool)
  (hs:∀i x,xs[i]?=some x-> ∀H' (Q':VK),az H1 H'->(∀H2,az H' H2->Q' (.bl (bv i)) H2) ->te (some x::σ) H' Q')
  (hq:∀b H',az H1 H'->(b=true↔ ∀j,j<xs.length->bv j=true) ->Q (.bl b) H'):
  LM 1 P (dI 0) te σ J H1 Q:=
 ⟨hP,HB jw (λi v=>v= .bl (bv i)) (λi x ex H' Q' sm k=>hs i x ex H' Q' sm λH2 s2=>k _ _ rfl s2) ⟨bv,λi v _ r=>r,λhb σ' H' w=>hq _ H' w.2 ⟨λ_=>hb,λ_=>rfl⟩,
  λj hj hb _ σ' H' w=>hq _ H' w.2 ⟨λz=>(by cases z),λz=>by rw[z j hj]at hb;cases hb⟩⟩⟩
structure EM(K:PySem.W.Frag)(x qual:Str)(st:Stmt)(f:Addr)(fd:FuncData)(T:Addr):Prop where
 ex:∃(oc:Value)(od:Option Addr)(kV doc pm:Value)(an:Option Addr)(cdv ct:Value)(osl:Array (Option Value)),
  fd=PySem.W.fnOf x qual (gw st) (eZ st) (aB st) .none kV doc pm an cdv ct/\K.lookup f=some ⟨oc,od,.func fd,osl⟩/\PySem.W.codeIn K cdv qual=true/\gf K cdv T
 kp:PySem.W.keepIn K (.ref f)=true
theorem EM.ok{P:Program}{w:World}{K:PySem.W.Frag}{mg:Str->Option Value}{base:Heap}{x qual:Str}{st:Stmt}{f T:Addr}{fd:FuncData}{N ps:List Str}{k:Nat}{sp:Sp}(F:EM K x qual st f fd T)(S:aO N ps (aB st))(len:∀vs H Q E,sp vs H Q E->vs.length=ps.length)
  (hbody:∀(cdv:Value)(A:Around)(outer:List Env)(s:Shared)(H:Hp)(vs:List V)(Q:VK)(E:XK),gf K cdv T->fE k (A.deeper (envOfC qual (aB st) s.heap.objs.size f cdv)) ->sp vs H Q E->
   ∃t,xR (xV cY P w K mg base N qual (aB st) f cdv A outer s H E).Gq (eZ st) t/\t {nx:=λ_ H'=>Q .iW H',rt:=Q} (start N vs) H):qp P w K mg base cY (k+1) f fd ps sp:=by
 obtain⟨oc,od,kV,doc,pm,an,cdv,ct,osl,rfl,lk,hcd,cd⟩:=F.ex
 refine LD lk hcd S len λA outer s H vs Q E hr Jx=> ?_
 obtain⟨t,h,q⟩:=hbody cdv A outer s H vs Q E cd hr Jx
 exact⟨t,h.Gq,q⟩
theorem EM.fn{K:PySem.W.Frag}{x qual:Str}{st:Stmt}{f T:Addr}{fd:FuncData}(F:EM K x qual st f fd T):LG K x qual st f fd:=by
 obtain⟨oc,od,kV,doc,pm,an,cdv,ct,osl,e,lk,hcd,cd⟩:=F.ex
 exact⟨⟨oc,od,kV,doc,pm,an,cdv,ct,osl,e,lk,hcd⟩,F.kp⟩
noncomputable abbrev DE(K:PySem.W.Frag):List V->Hp->VK->Prop:=λxs H Q=> ∃p ys,xs=[.ref p]/\(aW K H p ys∨vS K H p ys)/\ ∀l,H l=none->Q (.ref l) (upd H l (.lst ys))
theorem jZ{X:Cx}{e:Expr}{t:TE}(h:PE X e t):PE X e t:=h
theorem bits_le{k:Int}{n:Nat}(h:k.natAbs<2^n):Builtin.Int.intBits k<=n:=by
 unfold Builtin.Int.intBits
 split
 ·exact Nat.zero_le _
 ·rename_i h0
  have h1:k.natAbs≠0:=λz=>h0 (by have:k=0:=Int.natAbs_eq_zero.mp z;rw[this];rfl)
  exact(Nat.log2_lt h1).mpr h
noncomputable def kY(i j:Int):Prop:=i.natAbs<2^4096/\j.natAbs<2^4096
theorem kY.ok{i j:Int}(h:kY i j):IntMulOk i j:=by
 have h1:=bits_le h.1
 have h2:=bits_le h.2
 have h3:Builtin.Int.intTooBig (Builtin.Int.intBits i+Builtin.Int.intBits j)=false:=by
  unfold Builtin.Int.intTooBig
  refine decide_eq_false ?_
  have:((Builtin.Int.intBits i+Builtin.Int.intBits j:Nat):Int)<=8192:=by omega
  have e:(8192:Int)<=((bitsLine:Nat):Int):=by decide
  omega
 unfold IntMulOk
 rw[h3]
 simp
section
variable{X:Cx}
theorem aC:tP X (binaryOp .Mult) (rI kY λi j=> .int (i*j)):=Mt λ_ _ _ _ _ _ _ hc q=>mul_int q hc.ok
noncomputable def Pc(i j:Int):Prop:=0<j/\j.natAbs.log2<9000
theorem qw:tP X (binaryOp .FloorDiv) (rI Pc λi j=> .int (i/j)):=Mt λi j _ _ _ _ _ hc q=>by
 have h1:(0:Int)<j:=hc.1
 exact floordiv_int (by omega) (by rw[Int.fdiv_eq_ediv_of_nonneg i (by omega)];exact q) (.inl (PyProof.noPylong_of_log2 hc.2))
end
noncomputable def Tab(H:Hp)(t:Addr)(bs:List Addr)(m:List (List Int)):Prop:=H t=some (.lst (bs.map V.ref))/\Paired (λrow b=>H b=some (.lst (row.map V.int))) m bs
theorem Tab.same{H H':Hp}{t:Addr}{bs:List Addr}{m:List (List Int)}(s:az H H')(h:Tab H t bs m):Tab H' t bs m:=⟨s _ _ h.1,h.2.Hy λ_ _ _ q=>s _ _ q⟩
noncomputable def cJ(m:List (List Int)):Prop:=m.length=3/\ ∀r∈m,r.length=3
theorem MV{H:Hp}{m:List (List Int)}{bs:List Addr}(pr:Paired (λrow b=>H b=some (.lst (row.map V.int))) m bs){b:Addr}(hb:b∈bs):∃row,row∈m/\H b=some (.lst (row.map V.int)):=by
 induction pr with
 |nil=>cases hb
 | @cons r c m bs h t ih=>
  rcases List.mem_cons.mp hb with e|hb
  ·exact⟨r,List.mem_cons_self,by rw[e];exact h⟩
  ·obtain⟨row,q1,q2⟩:=ih hb
   exact⟨row,List.mem_cons_of_mem _ q1,q2⟩
theorem Tab.upd{H:Hp}{t x:Addr}{bs:List Addr}{m:List (List Int)}{o:HO}(h:Tab H t bs m)(h1:t≠x)(h2:x∉bs):Tab (upd H x o) t bs m:=
 ⟨by rw[aI h1];exact h.1,h.2.Hy λr b hb e=>by rw[aI (λz=>h2 (by rw[<-z];exact hb))];exact e⟩
theorem HD{K:PySem.W.Frag}{H:Hp}:∀r:List Int,Bu K H (r.map V.int) (r.map PyData.int)
 | []=> .nil
 |x::r=> .cons (.int x) (HD r)
theorem xg{K:PySem.W.Frag}{H:Hp}{t:Addr}{bs:List Addr}{m:List (List Int)}(h:Tab H t bs m):Bt K H (.ref t) (yc m):=by
 obtain⟨e,pr⟩:=h
 refine .lst (aW.of e) ?_
 clear e
 induction pr with
 |nil=>exact .nil
 | @cons r b m bs h t ih=>exact .cons (.lst (aW.of h) (HD r)) ih
theorem zP{bs:List Addr}{x:V}(h:x∈bs.map V.ref):∃b,x= .ref b/\b∈bs:=by
 obtain⟨b,hb,e⟩:=List.mem_map.mp h
 exact⟨b,e.symm,hb⟩
noncomputable def itemsOf(H:Hp)(g:V->V)(x:V):List V:=match x with
 | .ref b=>(match H b with|some (.lst xs)=>xs.map g|_=>[])
 |_=>[]
theorem sY{H:Hp}{g:V->V}{b:Addr}{xs:List V}(h:H b=some (.lst xs)):itemsOf H g (.ref b)=xs.map g:=by
 show(match H b with|some (.lst xs)=>xs.map g|_=>[])=_
 rw[h]
theorem xh{H H':Hp}{f:V->List V}{g:List Int->List Int}:∀{m:List (List Int)}{bs bs':List Addr},Paired (λrow b=>H b=some (.lst (row.map V.int))) m bs->Paired (λx b'=>H' b'=some (.lst (f x))) (bs.map V.ref) bs'->
  (∀row b,H b=some (.lst (row.map V.int)) ->f (.ref b)=(g row).map V.int) ->Paired (λrow b'=>H' b'=some (.lst (row.map V.int))) (m.map g) bs'
 |_,_,_,.nil,h2,_=>by cases h2;exact .nil
 |_,_,_,.cons h t,h2,k=>by
  cases h2 with
  |cons h' t'=>exact .cons (by rw[h',k _ _ h]) (xh t t' k)
noncomputable def ent(m:List (List Int))(i j:Nat):Int:=(m.getD i []).getD j 0
noncomputable def mk3(g:Nat->Nat->Int):List (List Int):=[[g 0 0,g 0 1,g 0 2],[g 1 0,g 1 1,g 1 2],[g 2 0,g 2 1,g 2 2]]
theorem cK(g:Nat->Nat->Int):cJ (mk3 g):=⟨rfl,λr hr=>by
 simp only[mk3,List.mem_cons,List.not_mem_nil,or_false]at hr
 rcases hr with rfl|rfl|rfl<;>rfl⟩
theorem bL{i:Nat}(h:i<3):i=0∨i=1∨i=2:=by omega
theorem bK(g:Nat->Nat->Int){i j:Nat}(hi:i<3)(hj:j<3):ent (mk3 g) i j=g i j:=by
 rcases bL hi with rfl|rfl|rfl<;>rcases bL hj with rfl|rfl|rfl<;>rfl
theorem yh{m:List (List Int)}(h:cJ m):m=mk3 (ent m):=by
 obtain⟨h1,h2⟩:=h
 match m,h1,h2 with
 | [r0,r1,r2],_,h2=>
  have l0:=h2 r0 (by simp)
  have l1:=h2 r1 (by simp)
  have l2:=h2 r2 (by simp)
  match r0,r1,r2,l0,l1,l2 with
  | [a,b,c],[d,e,f],[g,h,i],_,_,_=>rfl
theorem ie{xs:List V}{i:Nat}{v:V}(h:xs[i]?=some v):zC xs (i:Int)=some v:=Dr h
theorem DF{H:Hp}{t:Addr}{bs:List Addr}{m:List (List Int)}(h:Tab H t bs m){i:Nat}(hi:i<m.length):∃b row,zC (bs.map V.ref) (i:Int)=some (.ref b)/\H b=some (.lst (row.map V.int))/\m[i]?=some row/\b∈bs:=by
 obtain⟨_,pr⟩:=h
 have q:∀{m:List (List Int)}{bs:List Addr}{i:Nat},Paired (λrow b=>H b=some (.lst (row.map V.int))) m bs->i<m.length-> ∃b row,bs[i]?=some b/\H b=some (.lst (row.map V.int))/\m[i]?=some row:=by
  intro m bs i pr
  induction pr generalizing i with
  |nil=>intro hi;exact absurd hi (Nat.not_lt_zero _)
  | @cons r b m bs h t ih=>
   intro hi
   cases i with
   |zero=>exact⟨b,r,rfl,h,rfl⟩
   |succ i=>
    obtain⟨b',r',e1,e2,e3⟩:=ih (i:=i) (by simpa using hi)
    exact⟨b',r',by simpa using e1,e2,by simpa using e3⟩
 obtain⟨b,row,e1,e2,e3⟩:=q pr hi
 exact⟨b,row,ie (by rw[List.getElem?_map,e1];rfl),e2,e3,List.mem_of_getElem? e1⟩
theorem qx{H:Hp}{t:Addr}{bs:List Addr}{m:List (List Int)}(h:Tab H t bs m)(ck:cJ m){i j:Nat}(hi:i<3)(hj:j<3):
  ∃(b:Addr)(row:List Int),zC (bs.map V.ref) (i:Int)=some (.ref b)/\H b=some (.lst (row.map V.int))/\zC (row.map V.int) (j:Int)=some (.int (ent m i j)):=by
 obtain⟨b,row,e1,e2,e3,_⟩:=DF h (i:=i) (by rw[ck.1];exact hi)
 refine⟨b,row,e1,e2,ie ?_⟩
 have rl:row.length=3:=ck.2 row (List.mem_of_getElem? e3)
 have e4:m.getD i []=row:=by rw[List.getD_eq_getElem?_getD,e3];rfl
 rw[List.getElem?_map,List.getElem?_eq_getElem (by rw[rl];exact hj)]
 unfold ent
 rw[e4,List.getD_eq_getElem?_getD,List.getElem?_eq_getElem (by rw[rl];exact hj)]
 rfl
theorem aZ{H:Hp}{t:Addr}{bs:List Addr}{m:List (List Int)}(h:Tab H t bs m)(ck:cJ m){i:Nat}(hi:i<3):
  ∃b,zC (bs.map V.ref) (i:Int)=some (.ref b)/\H b=some (.lst [.int (ent m i 0),.int (ent m i 1),.int (ent m i 2)])/\b∈bs:=by
 obtain⟨b,row,e1,e2,e3,e5⟩:=DF h (i:=i) (by rw[ck.1];exact hi)
 refine⟨b,e1,?_,e5⟩
 have rl:row.length=3:=ck.2 row (List.mem_of_getElem? e3)
 have e4:m.getD i []=row:=by rw[List.getD_eq_getElem?_getD,e3];rfl
 rw[e2]
 unfold ent
 rw[e4]
 match row,rl with
 | [a,b,c],_=>rfl
noncomputable def Bd(n:Nat)(m:List (List Int)):Prop:=∀i j,i<3->j<3->(ent m i j).natAbs<2^n
theorem Bd.mono{a b:Nat}{m:List (List Int)}(h:Bd a m)(hab:a<=b):Bd b m:=λi j hi hj=>Nat.lt_of_lt_of_le (h i j hi hj) (Nat.pow_le_pow_right (by decide) hab)
theorem cB{x y:Int}{a b:Nat}(hx:x.natAbs<2^a)(hy:y.natAbs<2^b):(x*y).natAbs<2^(a+b):=by
 rw[Int.natAbs_mul,Nat.pow_add]
 exact Nat.mul_lt_mul_of_lt_of_lt hx hy
theorem lT{x y:Int}{a:Nat}(hx:x.natAbs<2^a)(hy:y.natAbs<2^a):(x+y).natAbs<2^(a+1):=by
 have e:2^(a+1)=2^a+2^a:=by rw[Nat.pow_succ];omega
 omega
theorem ku{x y:Int}{a:Nat}(hx:x.natAbs<2^a)(hy:y.natAbs<2^a):(x-y).natAbs<2^(a+1):=by
 have e:2^(a+1)=2^a+2^a:=by rw[Nat.pow_succ];omega
 omega
theorem aJ{x:Int}{a b:Nat}(hx:x.natAbs<2^a)(h:a<=b):x.natAbs<2^b:=Nat.lt_of_lt_of_le hx (Nat.pow_le_pow_right (by decide) h)
noncomputable def iN(a b:List (List Int)):List (List Int):=mk3 λi j=>ent a i 0*ent b 0 j+ent a i 1*ent b 1 j+ent a i 2*ent b 2 j
noncomputable def cR(a:List (List Int)):List (List Int):=mk3 λi j=>ent a j i
theorem t9{a b:List (List Int)}{p q:Nat}(ha:Bd p a)(hb:Bd q b):Bd (p+q+2) (iN a b):=λi j hi hj=>by
 unfold iN
 rw[bK _ hi hj]
 exact lT (lT (cB (ha i 0 hi (by decide)) (hb 0 j (by decide) hj)) (cB (ha i 1 hi (by decide)) (hb 1 j (by decide) hj))) (aJ (cB (ha i 2 hi (by decide)) (hb 2 j (by decide) hj)) (Nat.le_succ _))
theorem uI{a:List (List Int)}{p:Nat}(ha:Bd p a):Bd p (cR a):=λi j hi hj=>by
 unfold cR
 rw[bK _ hi hj]
 exact ha j i hj hi
theorem qy(K:PySem.W.Frag)(n:String):PySem.W.kitOne K (.type n) (.type n)=some true:=by
 unfold PySem.W.kitOne
 rw[if_pos (by simp)]
theorem qz(K:PySem.W.Frag):PySem.W.kitOne K (.type "int") (.type "bool")=some false:=by kernel_rfl
theorem MW{xs:List V}{k:Int}(h0:0<=k)(h:k<(xs.length:Int)):∃v,zC xs k=some v/\xs[k.toNat]?=some v:=by
 have hk:k.toNat<xs.length:=by omega
 have ek:k=((k.toNat:Nat):Int):=by omega
 have q:zC xs ((k.toNat:Nat):Int)=some xs[k.toNat]:=Dr (by rw[List.getElem?_eq_getElem hk])
 rw[<-ek]at q
 exact⟨xs[k.toNat],q,by rw[List.getElem?_eq_getElem hk]⟩
theorem Kf{ns:List Int}{k:Int}(h0:0<=k)(h:k<(ns.length:Int)):∃z:Int,zC (ns.map V.int) k=some (.int z):=by
 obtain⟨v,h1,h2⟩:=MW (xs:=ns.map V.int) h0 (by rw[List.length_map];exact h)
 rw[List.getElem?_map]at h2
 cases q:ns[k.toNat]? with
 |none=>rw[q]at h2;cases h2
 |some z=>rw[q]at h2;cases h2;exact⟨z,h1⟩
theorem at2{x y:V}{i:Int}(h0:0<=i)(h:i<2):∃v,zC [x,y] i=some v/\(v=x∨v=y):=by
 have c:i=0∨i=1:=by omega
 rcases c with rfl|rfl
 ·exact⟨x,rfl,.inl rfl⟩
 ·exact⟨y,rfl,.inr rfl⟩
section
variable{X:Cx}
end
theorem oG{J:It}{xs:List V}{H1:Hp}{σ:St}{te:TE}{Q:VK}{D:Addr}(jw:JW J H1 xs)(h3:xs.length=3)(hD:H1 D=none)(g:Nat->Int)(hs:∀j x,j<3->xs[j]?=some x-> ∀H' (Q':VK),az H1 H'->(∀H2,az H' H2->Q' (.int (g j)) H2) ->te (some x::σ) H' Q')
  (hq:∀H',az H1 H'->H' D=some (.lst [.int (g 0),.int (g 1),.int (g 2)]) ->Q (.ref D) H'):nv 1 (dI 0) te σ J H1 D Q:=by
 refine ye jw (by rw[h3];decide) hD (λpre acc H'=>acc=(List.range pre.length).map λj=>V.int (g j)) rfl (λpre x post acc H' Q' e hl sm eD p k=> ?_) (λacc H' hl sm eD p=> ?_)
 ·have hlen:pre.length<3:=by
   have:=congrArg List.length e
   rw[h3]at this
   simp at this
   omega
  refine hs pre.length x hlen (by rw[e];simp) H' Q' sm λH2 s2=>k _ H2 s2 ?_
  rw[p]
  simp[List.range_succ]
 ·refine hq H' sm ?_
  rw[eD,p,h3]
  rfl
theorem qA{J:It}{xs:List V}{H1:Hp}{σ:St}{te:TE}{Q:VK}{D:Addr}(jw:JW J H1 xs)(h3:xs.length=3)(hD:H1 D=none)(g:Nat->Nat->Int)
  (hs:∀i x,i<3->xs[i]?=some x-> ∀H' (Q':VK),az H1 H'->(∀b H2,H' b=none->az H' H2->H2 b=some (.lst [.int (g i 0),.int (g i 1),.int (g i 2)]) ->Q' (.ref b) H2) ->te (some x::σ) H' Q')
  (hq:∀bs H',az H1 H'->(∀b∈bs,H1 b=none) ->D∉bs->Tab H' D bs (mk3 g) ->Q (.ref D) H'):nv 1 (dI 0) te σ J H1 D Q:=by
 refine ye jw (by rw[h3];decide) hD (λpre acc H'=> ∃bs:List Addr,acc=bs.map V.ref/\(∀b∈bs,H1 b=none)/\D∉bs/\Paired (λi b=>H' b=some (.lst [.int (g i 0),.int (g i 1),.int (g i 2)])) (List.range pre.length) bs) ⟨[],rfl,λ_ h=>(nomatch h),by simp,.nil⟩ (λpre x post acc H' Q' e hl sm eD p k=> ?_) (λacc H' hl sm eD p=> ?_)
 ·obtain⟨bs,rfl,fr,nD,pr⟩:=p
  have hlen:pre.length<3:=by
   have:=congrArg List.length e
   rw[h3]at this
   simp at this
   omega
  refine hs pre.length x hlen (by rw[e];simp) H' _ sm λb H2 hb s2 eb=>k _ _ s2 ⟨bs++ [b],by simp,?_,?_,?_⟩
  ·intro c hc
   rcases List.mem_append.mp hc with z|z
   ·exact fr c z
   ·rw[List.mem_singleton.mp z];exact sm.none hb
  ·intro z
   rcases List.mem_append.mp z with z|z
   ·exact nD z
   ·rw[<-List.mem_singleton.mp z,eD]at hb;cases hb
  ·have nb:b≠D:=λz=>by rw[z,eD]at hb;cases hb
   have er:List.range (pre++ [x]).length=List.range pre.length++ [pre.length]:=by simp[List.range_succ]
   rw[er]
   refine Paired.snoc (pr.Hy λy c hc q=> ?_) (by rw[aI nb];exact eb)
   rw[aI (λz=>nD (by rw[<-z];exact hc))]
   exact s2 _ _ q
 ·obtain⟨bs,rfl,fr,nD,pr⟩:=p
  refine hq bs H' sm fr nD ⟨eD,?_⟩
  rw[h3]at pr
  have Vw:Paired (λi b=>H' b=some (.lst [.int (g i 0),.int (g i 1),.int (g i 2)])) [0,1,2] bs:=pr
  cases Vw with
  |cons h0 t0=>cases t0 with
   |cons h1 t1=>cases t1 with
    |cons h2 t2=>
     cases t2
     exact .cons h0 (.cons h1 (.cons h2 .nil))
theorem fK{n k:Nat}{x:V}(h:(nE n)[k]?=some x):k<n/\x= .int (k:Int):=by
 unfold nE at h
 rw[List.getElem?_map]at h
 cases q:(List.range n)[k]? with
 |none=>rw[q]at h;cases h
 |some z=>
  rw[q]at h
  have hz:=List.getElem?_eq_some_iff.mp q
  obtain⟨h1,h2⟩:=hz
  have Vx:k<n:=by simpa using h1
  rw[List.getElem_range]at h2
  subst h2
  cases h
  exact⟨Vx,rfl⟩
theorem RY(val:Nat->Int):preSum val 3=val 0+val 1+val 2:=by simp[preSum]
theorem HE{d:PyData}(h:SeqAt.shaped d=true):PyData.eqv d d=true:=SeqAt.eqv_refl d (SeqAt.canLay_of_shaped h)
theorem Kg{K:PySem.W.Frag}{H:Hp}{x y:V}{Q:VK}(d:PyData)(hx:Bt K H x d)(hy:Bt K H y d)(hs:SeqAt.shaped d=true)(q:Q (.bl true) H):EK K false x y H Q:=
 ⟨d,d,hx,hy,hs,hs,by rw[HE hs];exact q⟩
theorem ig{f g:Nat->Nat->Int}(h:∀i j,i<3->j<3->f i j=g i j):mk3 f=mk3 g:=by
 simp only[mk3,h 0 0 (by decide) (by decide),h 0 1 (by decide) (by decide),h 0 2 (by decide) (by decide),h 1 0 (by decide) (by decide),h 1 1 (by decide) (by decide),h 1 2 (by decide) (by decide),h 2 0 (by decide) (by decide),h 2 1 (by decide) (by decide),h 2 2 (by decide) (by decide)]
theorem aK(a b:List (List Int)){i j:Nat}(hi:i<3)(hj:j<3):ent (iN a b) i j=ent a i 0*ent b 0 j+ent a i 1*ent b 1 j+ent a i 2*ent b 2 j:=bK _ hi hj
theorem aY(a:List (List Int)){i j:Nat}(hi:i<3)(hj:j<3):ent (cR a) i j=ent a j i:=bK _ hi hj
theorem Bx(a b c:List (List Int)):iN (iN a b) c=iN a (iN b c):=by
 refine ig λi j hi hj=> ?_
 rw[aK a b hi (by decide),aK a b hi (by decide),aK a b hi (by decide),aK b c (by decide) hj,aK b c (by decide) hj,aK b c (by decide) hj]
 grind
theorem uJ(a b:List (List Int)):cR (iN a b)=iN (cR b) (cR a):=by
 refine ig λi j hi hj=> ?_
 rw[aK a b hj hi,aY b hi (by decide),aY b hi (by decide),aY b hi (by decide),aY a (by decide) hj,aY a (by decide) hj,aY a (by decide) hj]
 grind
theorem zQ{a:List (List Int)}(h:cJ a):cR (cR a)=a:=by
 rw[yh h]
 refine ig λi j hi hj=> ?_
 rw[aY _ hj hi,bK _ hi hj]
noncomputable def dU(m b:List (List Int)):List (List Int):=iN (iN b m) (cR b)
theorem xj{m:List (List Int)}(b:List (List Int))(hb:cJ b):cR (dU m b)=dU (cR m) b:=by
 unfold dU
 rw[uJ,uJ,zQ hb,Bx]
noncomputable def gm(m:List (List Int))(i j:Nat):Int:=ent m ((i+1)%3) ((j+1)%3)*ent m ((i+2)%3) ((j+2)%3) -ent m ((i+1)%3) ((j+2)%3)*ent m ((i+2)%3) ((j+1)%3)
noncomputable def aA(m:List (List Int)):Int:=ent m 0 0*gm m 0 0+ent m 0 1*gm m 0 1+ent m 0 2*gm m 0 2
theorem cS(m:List (List Int)):aA m=ent m 0 0*(ent m 1 1*ent m 2 2-ent m 1 2*ent m 2 1)+ent m 0 1*(ent m 1 2*ent m 2 0-ent m 1 0*ent m 2 2)+ent m 0 2*(ent m 1 0*ent m 2 1-ent m 1 1*ent m 2 0):=rfl
theorem xm(a b:List (List Int)):aA (iN a b)=aA a*aA b:=by
 rw[cS,cS,cS]
 simp only[aK a b (show 0<3 by decide) (show 0<3 by decide),aK a b (show 0<3 by decide) (show 1<3 by decide),aK a b (show 0<3 by decide) (show 2<3 by decide),aK a b (show 1<3 by decide) (show 0<3 by decide),aK a b (show 1<3 by decide) (show 1<3 by decide),aK a b (show 1<3 by decide) (show 2<3 by decide),aK a b (show 2<3 by decide) (show 0<3 by decide),aK a b (show 2<3 by decide) (show 1<3 by decide),aK a b (show 2<3 by decide) (show 2<3 by decide)]
 grind
theorem m3(i:Nat)(k:Nat):((i:Int)+(k:Int))%3=(((i+k)%3:Nat):Int):=by omega
theorem vU(i:Nat):i%3<3:=Nat.mod_lt _ (by decide)
theorem By(f:Nat->Int){c:Nat}(h:c<3):zC [V.int (f 0),.int (f 1),.int (f 2)] (c:Int)=some (.int (f c)):=by
 rcases bL h with rfl|rfl|rfl<;>rfl
theorem DG{m:List (List Int)}{n:Nat}(h:Bd n m)(i j:Nat):(gm m i j).natAbs<2^(n+n+1):=
 ku (cB (h _ _ (vU _) (vU _)) (h _ _ (vU _) (vU _))) (cB (h _ _ (vU _) (vU _)) (h _ _ (vU _) (vU _)))
theorem iG{H:Hp}{t b0 b1 b2:Addr}(g:Nat->Nat->Int)(e:H t=some (.lst [.ref b0,.ref b1,.ref b2]))(h0:H b0=some (.lst [.int (g 0 0),.int (g 0 1),.int (g 0 2)]))(h1:H b1=some (.lst [.int (g 1 0),.int (g 1 1),.int (g 1 2)]))
  (h2:H b2=some (.lst [.int (g 2 0),.int (g 2 1),.int (g 2 2)])):Tab H t [b0,b1,b2] (mk3 g):=⟨e,.cons h0 (.cons h1 (.cons h2 .nil))⟩
noncomputable def iZ(m:List (List Int)):List (List Int):=mk3 λi j=>gm m j i
noncomputable def qB(d:Int):List (List Int):=mk3 λi j=>if i=j then d else 0
theorem nF(m:List (List Int)){i j:Nat}(hi:i<3)(hj:j<3):ent (iZ m) i j=gm m j i:=bK _ hi hj
theorem zR(m:List (List Int)):iN (iZ m) m=qB (aA m):=by
 refine ig λi j hi hj=> ?_
 rw[nF m hi (by decide),nF m hi (by decide),nF m hi (by decide),cS]
 rcases bL hi with rfl|rfl|rfl<;>rcases bL hj with rfl|rfl|rfl<;>simp only[gm,Nat.reduceAdd,Nat.reduceMod,Nat.reduceEqDiff,if_true,if_false]<;>grind
structure HF(X:Cx)(st:List Stmt)(t:TS):Prop where
 h:xR X st t
theorem mY{X:Cx}{st:List Stmt}{t:TS}(h:HF X st t):xR X st t:=h.h
theorem aq{X:Cx}{a:Stmt}{b:List Stmt}{ta tb:TS}(ha:PS X a ta)(hb:HF X b tb):HF X (a::b) (vZ ta tb):=⟨GD ha hb.h⟩
theorem aL{X:Cx}{a:Stmt}{ta:TS}(ha:PS X a ta):HF X [a] ta:=⟨dh ha⟩
section
variable{X:Cx}{pins:List (Addr×Obj)}{σ:St}{H:Hp}{s:Shared}{h':Heap}
theorem Inv.qC{t':Nat}{ch:List Addr}(I:Inv X pins σ H s)(k:∀b o,b∉ch->s.heap.get? b=some o->h'.get? b=some o)(hf:∀b∈ch,fS X pins H b):Inv X pins σ H {s with heap:=h',toks:=t'}:=by
 have Ow:∀b u,H b=some u->b∉ch:=λb u e z=>by have:=(hf b z).1;rw[e]at this;cases this
 refine I.step (g':=s.gens) (d':=s.drawn) (ch:=ch) (λb hb=> ?_) (λb o _ _ hc e _=>k b o hc e) (λb o _ _ hc e _=>⟨o.slots,k b o hc e⟩) (λ_ _ _ _ n=>n)
  (λb o hc e=>⟨o,k b o hc e⟩) (λ_ _ e=>e) (λ_ _ _ e=>e) (λb ps e=>⟨#[],by rw[e];simp⟩) (λm hm=> ?_) (λb u e=> ?_) (.refl I.bare.bare)
 ·obtain⟨f0,f1,f2,f3,f4,f5⟩:=hf b hb
  exact⟨f3,f1,f4,f5⟩
 ·obtain⟨o,es,ep,ho,r⟩:=hm
  exact⟨o,es,ep,k _ o (λz=>(hf _ z).2.1 rfl) ho,r⟩
 ·refine(I.hok b u e).stay (λc v hc q=>k c v ?_ q) (λ_ q=>q) λ_ _ q=>q
  rcases hc with z|z
  ·rw[z];exact Ow b u e
  ·exact Ow c _ z
theorem Inv.LO{T:Addr}{o:HO}(I:Inv X pins σ H s)(hf:fS X pins H T)(new:fm X.prog X.w (upd H T o) s.heap T o):Inv X pins σ (upd H T o) s:=by
 obtain⟨f0,f1,f2,f3,f4,f5⟩:=hf
 have ne:∀{b u},H b=some u->b≠T:=λ {b u} e z=>by rw[z,f0]at e;cases e
 refine I.step (g':=s.gens) (d':=s.drawn) (t':=s.toks) (h':=s.heap) (ch:=[T]) (λb hb=> ?_) (λb o _ _ _ e _=>e) (λb o _ _ _ e _=>⟨o.slots,e⟩) (λb o hc _ n=> ?_)
  (λb o _ e=>⟨o,e⟩) (λb xs e=>by rw[aI (ne e)];exact e) (λb _ _ e=>by rw[aI (ne e)];exact e) (λb ps e=>⟨#[],by rw[aI (ne e),e];simp⟩) (λm hm=>hm) (λb u e=> ?_) (.refl I.bare.bare)
 ·have e:b=T:=by simpa using hb
  subst e
  exact⟨f3,f1,f4,f5⟩
 ·rw[aI (λz=>hc (by simp[z]))];exact n
 ·by_cases hb:b=T
  ·subst hb;rw[av]at e;cases e;exact new
  ·rw[aI hb]at e
   exact(I.hok b u e).stay (λc v _ q=>q) (λc q=>by rw[aI (ne q)];exact q) (λc xs q=>by rw[aI (ne q)];exact q) λc ob xs q=>by rw[aI (ne q)];exact q
end
noncomputable def Pd(K:PySem.W.Frag)(a b:Addr):It:=
 ⟨λi H=> ∃xs ys x y,aW K H a xs/\aW K H b ys/\xs[i]?=some x/\ys[i]?=some y,
  λi H v H'=> ∃T x y,v= .ref T/\H T=none/\(∀xs,aW K H a xs->xs[i]?=some x)/\(∀ys,aW K H b ys->ys[i]?=some y)/\H'=upd H T (.tup [x,y]),
  λi H=> ∃xs ys,aW K H a xs/\aW K H b ys/\(xs.length<=i∨ys.length<=i)⟩
noncomputable def Pe(z TI TO i1 i2 a b:Addr)(i:Nat)(h:Heap):Prop:=
 IsZip h z TI TO .none/\IsPair h TI (.ref i1) (.ref i2)/\(∃p q,IsPair h TO p q)/\h.IsListIter i1 a i/\h.IsListIter i2 b i
theorem HG{P:Program}{w:World}{K:PySem.W.Frag}{elts:List Expr}{x1}{pos:Pos}(z TI TO i1 i2 a b:Addr)(D:ZipApart z TI TO i1 i2 a b):Turn P w K (.Tuple elts x1 pos) (Pd K a b) [z,TI,TO,i1,i2] z (Pe z TI TO i1 i2 a b) where
 mem:=by simp
 obj:=λi h st c hc=>by
  obtain⟨hz,hTI,⟨p,q,hTO⟩,⟨o1,e1,c1,d1⟩,⟨o2,e2,c2,d2⟩⟩:=st
  simp only[List.mem_cons,List.not_mem_nil,or_false]at hc
  rcases hc with rfl|rfl|rfl|rfl|rfl
  ·exact⟨_,hz,λv e=>by cases e⟩
  ·exact⟨_,hTI,λv e=>by cases e⟩
  ·exact⟨_,hTO,λv e=>by cases e⟩
  ·exact⟨_,e1,λv e=>by rw[d1]at e;cases e⟩
  ·exact⟨_,e2,λv e=>by rw[d2]at e;cases e⟩
 keep:=λi h h' st k=>by
  obtain⟨hz,hTI,⟨p,q,hTO⟩,h1,h2⟩:=st
  exact⟨k z (by simp) _ hz,k TI (by simp) _ hTI,⟨p,q,k TO (by simp) _ hTO⟩,h1.at λo e=>k i1 (by simp) o e,h2.at λo e=>k i2 (by simp) o e⟩
 item:=by
  intro X hP hw hK hc i pins s σ H E I hf st hg
  subst hP hw hK
  obtain⟨xs,ys,x,y,Qw,Qx,hx,hy⟩:=hg
  obtain⟨hz,hTI,⟨p,q,hTO⟩,h1,h2⟩:=st
  obtain⟨ia,ra,pa,za⟩:=I.list Qw
  obtain⟨ib,rb,pb,zb⟩:=I.list Qx
  obtain⟨u,hu,ru⟩:=ra.get hx
  obtain⟨v,hv,rv⟩:=rb.get hy
  refine wpAny_pyNext_zip_item D hz hTI hTO h1 h2 pa.isList pb.isList (x:=u) (y:=v) (by simpa using hu) (by simpa using hv) λh' a1 a2 a3 a4 a5 a6 hk=> ?_
  refine⟨_,rfl,?_⟩
  have RZ:=hk _ _ D.TIz D.TITO D.TIi1 D.TIi2 hTI
  have f4:∀c∈ [z,TO,i1,i2],fS X pins H c:=λc hc=>hf c (by simp only[List.mem_cons,List.not_mem_nil,or_false]at hc ⊢;rcases hc with rfl|rfl|rfl|rfl<;>simp)
  have I1:Inv X pins σ H {s with heap:=h'}:=I.qC (t':=s.toks) (ch:=[z,TO,i1,i2]) (λc o hc e=>hk c o (λq=>hc (by simp[q])) (λq=>hc (by simp[q])) (λq=>hc (by simp[q])) (λq=>hc (by simp[q])) e) f4
  have hn:H s.heap.objs.size=none:=I.hok.fresh (Nat.le_refl _)
  have fT:=I.Eu (b:=s.heap.objs.size) (Nat.le_refl _) hn
  have I2:Inv X pins σ (upd H s.heap.objs.size (.tup [x,y])) {s with heap:=h'}:=I1.LO fT ⟨by show 2<=sizeLine;decide,[u,v],.cons ru (.cons rv .nil),⟨_,a5,rfl,_,rfl⟩⟩
  refine wpAny_letOwnedTupleGo_zip (s:={s with heap:=h'}) a1 λh2' hz' hs'=> ?_
  have lt:∀{c o},s.heap.get? c=some o->c≠s.heap.objs.size:=λe=>Nat.ne_of_lt (Heap.lt_size e)
  obtain⟨o1,e1,_⟩:=id h1
  obtain⟨o2,e2,_⟩:=id h2
  have neT:∀c∈ [z,TI,TO,i1,i2],c≠s.heap.objs.size:=λc hc=>by
   simp only[List.mem_cons,List.not_mem_nil,or_false]at hc
   rcases hc with rfl|rfl|rfl|rfl|rfl
   ·exact lt hz
   ·exact lt hTI
   ·exact lt hTO
   ·exact lt e1
   ·exact lt e2
  obtain⟨g0,g1,g2,g3,g4,g5⟩:=hf z (by simp)
  have I3:Inv X pins σ (upd H s.heap.objs.size (.tup [x,y])) {s with heap:=h2'}:=Inv.turned (s:={s with heap:=h'}) (h':=h2') I2 (it:=z) (t':=s.toks) (λc o hc e=>hs'.extBut _ _ hc e) (by rw[aI (neT z (by simp))];exact g0) g1 g3 g4 g5
  refine⟨.ref s.heap.objs.size,_,I3,rfl,⟨_,x,y,rfl,hn,λzs hzs=>by rw[I.uv hzs Qw];exact hx,λzs hzs=>by rw[I.uv hzs Qx];exact hy,rfl⟩,?_,λc hc=> ?_⟩
  ·exact⟨hz',hs'.extBut _ _ D.TIz RZ,⟨_,_,hs'.extBut _ _ D.TOz a2⟩,a3.extBut hs'.extBut D.i1z,a4.extBut hs'.extBut D.i2z⟩
  ·rw[aI (neT c hc)];exact(hf c hc).1
 done:=by
  intro X hP hw hK hc i pins s σ H E I hf st hg
  subst hP hw hK
  obtain⟨xs,ys,Qw,Qx,hend⟩:=hg
  obtain⟨hz,hTI,⟨p,q,hTO⟩,h1,h2⟩:=st
  obtain⟨ia,ra,pa,za⟩:=I.list Qw
  obtain⟨ib,rb,pb,zb⟩:=I.list Qx
  have la:=ra.length
  have lb:=rb.length
  have f4:∀c∈ [z,TO,i1,i2],fS X pins H c:=λc hc=>hf c (by simp only[List.mem_cons,List.not_mem_nil,or_false]at hc ⊢;rcases hc with rfl|rfl|rfl|rfl<;>simp)
  refine wpAny_pyNext_zip_end (I.ok.hd hc) D hz hTI hTO h1 h2 pa.isList pb.isList (hend.imp (λq=>by simp;omega) (λq=>by simp;omega)) λh' hk=>⟨rfl,?_⟩
  exact I.qC (t':=s.toks) (ch:=[z,TO,i1,i2]) (λc o hc e=>hk c o (λq=>hc (by simp[q])) (λq=>hc (by simp[q])) (λq=>hc (by simp[q])) (λq=>hc (by simp[q])) e) f4
 self:=λ_ _ _ _ _ st h=>wpAny_pyIter_zip st.1 h
noncomputable def Sa(K:PySem.W.Frag)(ta:TA):TI:=λσ H R=>ta σ H λvs H1=> ∃a b xs ys,vs=[.ref a,.ref b]/\aW K H1 a xs/\aW K H1 b ys/\R (Pd K a b) H1
section
variable{X:Cx}
theorem BA{elts:List Expr}{x1}{tpos:Pos}{a b:Expr}{ta:TA}{p pos:Pos}(hg:Gl X "zip")(hm:X.mg "zip"=none)(ha:PA X [a,b] ta)(hs:starEach [a,b] X.env=[(false,eval a X.env),(false,eval b X.env)]:=by rfl)(hs2:starEach [b] X.env=[(false,eval b X.env)]:=by rfl):
  PI X (.Tuple elts x1 tpos) (.Call (.Name "zip" p) [a,b] [] pos) (Sa X.K ta):=by
 intro pins s σ H R I h
 refine Call_ (lO I hg hm boot_zip (PyProof.Rows.callWith_type1 (fR (ha pos pins s σ H _ I h) λus s1 ⟨vs,H1,I1,r1,q1⟩=> ?_) (by rw[hs,hs2]) (by rw[hs2];rfl)))
 obtain⟨l1,l2,xs,ys,e,q1,q2,q⟩:=q1
 subst e
 cases r1 with
 |cons r rr=>
  cases rr with
  |cons r' rr=>
   cases rr
   cases r
   cases r'
   obtain⟨ia,ra,pa,za⟩:=I1.list q1
   obtain⟨ib,rb,pb,zb⟩:=I1.list q2
   have Vy:l1<s1.heap.objs.size:=by obtain⟨o,e,_⟩:=pa.isList;exact Heap.lt_size e
   have Jy:l2<s1.heap.objs.size:=by obtain⟨o,e,_⟩:=pb.isList;exact Heap.lt_size e
   refine call_zip_2 pa.isList pb.isList λh' hz hTI hTO hi1 hi2 hsz hk=> ?_
   refine wpAny_pyIter_zip hz ?_
   refine⟨_,[s1.heap.objs.size+4,s1.heap.objs.size+2,s1.heap.objs.size+3,s1.heap.objs.size,s1.heap.objs.size+1],_,_,H1,rfl,I1.kept (t':=s1.toks) hk,HG _ _ _ _ _ l1 l2 (zipApart_new Vy Jy),⟨hz,hTI,⟨_,_,hTO⟩,hi1,hi2⟩,λc hc=> ?_,q⟩
   have hc':s1.heap.objs.size<=c:=by
    simp only[List.mem_cons,List.not_mem_nil,or_false]at hc
    rcases hc with rfl|rfl|rfl|rfl|rfl<;>first|exact Nat.le_refl _|exact Nat.le_add_right _ _
   exact I1.Eu hc' (I1.hok.fresh hc')
end
section
variable{X:Cx}{sc:Scope}{N2:List Str}{x y:Str}{px Gs tpos:Pos}{x1:Nat}{elt iter:Expr}{iY p pos:Pos}{wi:TI}{te:TE}{P:Addr}
theorem zS{own:List Str}{i:Nat}{z:Str}(B:qt sc.names X.env.scope.names own N2 X.N)(hz:own[i]?=some z)(s:Shared)(H:Hp)(fp:List Addr):PG (X.comp sc (own++N2) s H fp) (.Name z px) (dI i):=by
 have hi:(X.comp sc (own++N2) s H fp).N[i]?=some z:=by
  show(own++N2)[i]?=some z
  rw[List.getElem?_append_left (List.getElem?_eq_some_iff.mp hz).1];exact hz
 rcases B.own z (List.mem_of_getElem? hz)with e|e
 ·exact aV (i:=i) B.JU hi (.inl (jJ (env:=X.env) e (.inl rfl))) (.inr (jJ (env:=X.env) e (.inl rfl)))
 ·refine aV (i:=i) B.JU hi (.inr (jJ (env:=X.env) e (.inr rfl))) (.inl ?_)
  show(sc.names.lookup z==some NameKind.cell)=true
  rw[e];rfl
noncomputable def g2(K:PySem.W.Frag):TG:=OJ K 2 (GF (dI 0) (GF (dI 1) OH))
theorem HH(hc:X.calm=true)(B:qt sc.names X.env.scope.names [x,y] N2 X.N)(s:Shared)(H:Hp)(fp:List Addr):PG (X.comp sc ([x,y]++N2) s H fp) (.Tuple [.Name x px,.Name y Gs] x1 tpos) (g2 X.K):=
 xS (X:=X.comp sc ([x,y]++N2) s H fp) hc (aT (zS (i:=0) B rfl s H fp) (aT (zS (i:=1) B rfl s H fp) gb))
theorem BC(hc:X.calm=true)(hi:PI X (.Tuple [.Name x px,.Name y Gs] x1 tpos) iter wi)(hB:zI sc.names X.env.scope.names [x,y] N2 X.N=true)(hk:sc.kind= .function)(he:∀s H fp,PE (X.comp sc ([x,y]++N2) s H fp) elt te)
  (hs:∀x,foldedSetIterable iter X.env x=pure x:=by intro _;rfl):PE X (.ListComp elt [⟨.Tuple [.Name x px,.Name y Gs] x1 tpos,iter,[],0⟩] sc pos) (nA 2 wi (g2 X.K) te):=
 zK (own:=[x,y]) hc hi (kq hB) hk (λs H fp=>HH hc (kq hB) s H fp) he hs
end
theorem zT{K:PySem.W.Frag}{H1:Hp}{a b:Addr}{xs ys:List V}{σ:St}{te:TE}{Q:VK}(ha:aW K H1 a xs)(hb:aW K H1 b ys)(hl:xs.length=ys.length)(hz:xs.length<=sizeLine){D:Addr}(hD:H1 D=none)(f:V->V->V)
  (hs:∀(i:Nat) x y,xs[i]?=some x->ys[i]?=some y-> ∀H' (Q':VK),az H1 H'->Q' (f x y) H'->te (some x::some y::σ) H' Q')
  (hq:∀H',az H1 H'->H' D=some (.lst (List.zipWith f xs ys)) ->Q (.ref D) H'):nv 2 (g2 K) te σ (Pd K a b) H1 D Q:=by
 refine⟨λi m acc σ' H'=>m=xs.length-i/\i<=xs.length/\acc=(List.zipWith f xs ys).take i/\(∃o o',σ'=o::o'::σ)/\az H1 H'/\H' D=some (.lst acc),⟨xs.length,rfl,Nat.zero_le _,by simp,⟨none,none,rfl⟩,az.up hD,av⟩,?_⟩
 rintro i m acc σ' H' ⟨rfl,hi,hacc,⟨o,o',rfl⟩,sm,eD⟩
 have Vz:acc.length=i:=by rw[hacc];simp;omega
 by_cases hlt:i<xs.length
 ·have hlt':i<ys.length:=by omega
  refine .inr ⟨⟨xs,ys,xs[i],ys[i],sm.seq ha,sm.seq hb,by simp[hlt],by simp[hlt']⟩,by omega,λv H2 yl=> ?_⟩
  obtain⟨T,x,y,rfl,hT,hx,hy,rfl⟩:=yl
  have ex:=hx xs (sm.seq ha)
  have ey:=hy ys (sm.seq hb)
  have s2:az H' (upd H' T (.tup [x,y])):=az.up hT
  refine⟨T,[x,y],rfl,vS.of av,rfl,x,[y],rfl,y,[],rfl,rfl,?_⟩
  show te (some x::some y::σ) _ _
  refine hs i x y ex ey _ _ (sm.trans s2) ?_
  refine⟨s2 _ _ eD,xs.length- (i+1),by omega,rfl,hlt,?_,⟨_,_,rfl⟩,(sm.trans s2).upd hD,av⟩
  rw[hacc,List.take_succ,List.getElem?_zipWith,ex,ey]
  rfl
 ·have e:i=xs.length:=by omega
  subst e
  refine .inl ⟨⟨xs,ys,sm.seq ha,sm.seq hb,.inl (Nat.le_refl _)⟩,eD,hq H' sm ?_⟩
  rw[eD,hacc]
  rw[List.take_of_length_le (by rw[List.length_zipWith];exact Nat.min_le_left ..)]
section
variable{X:Cx}{sc:Scope}{N2:List Str}{x y:Str}{px Gs:Pos}{elt iter Dw:Expr}{iY p pos:Pos}{wi Qu:TI}{te:TE}{P:Addr}
theorem DH{B:Around}{own:List Str}{i:Nat}{z:Str}(Bk:qt sc.names X.env.scope.names own N2 X.N)(hnc:∀y∈sc.names,y.2≠ .cell)(hz:own[i]?=some z)(code:Value)(s:Shared)(H:Hp)(fp:List Addr):PG (X.gen B sc (own++N2) code s H fp) (.Name z px) (dI i):=by
 have hi:(X.gen B sc (own++N2) code s H fp).N[i]?=some z:=by
  show(own++N2)[i]?=some z
  rw[List.getElem?_append_left (List.getElem?_eq_some_iff.mp hz).1];exact hz
 rcases Bk.own z (List.mem_of_getElem? hz)with e|e
 ·exact aV (i:=i) Bk.JU hi (.inl e) (.inr e)
 ·exact absurd rfl (hnc _ (mem_of_lookup e))
end
section
variable{prog:Program}{w:World}{A:Around}{E:Value->Shared->Prop}{s:Shared}
theorem xo{it t:Addr}{items:Array Value}(hne:t≠it):∀(n i:Nat)(s:Shared)(Q:List Value->Shared->Prop),s.heap.IsListIter it t i->s.heap.IsList t items->i+n<=items.size->
  (∀h',h'.IsListIter it t (i+n) ->Heap.SameBut it s.heap h'->Q ((items.toList.drop i).take n) {s with heap:=h'}) ->wpAny (model prog w) A (draw (.ref it) n) Q E s
 |0,i,s,Q,hit,_,_,hQ=>by
  show wpAny _ _ (pure []) Q E s
  exact wpAny_pure (by simpa using hQ s.heap hit (Heap.SameBut.refl ..))
 |n+1,i,s,Q,hit,ht,hle,hQ=>by
  have hlt:i<items.size:=by omega
  show wpAny _ _ (pyNext (.ref it)>>=_) Q E s
  refine wpAny_bind (wpAny_pyNext_list_item hit ht (x:=items[i]) (by simp[hlt]) λh₁ BD hs₁=> ?_)
  refine wpAny_bind (wpAny_holding (xo hne n (i+1) _ _ BD (ht.extBut hs₁.extBut hne) (by omega) λh₂ MY hs₂=>wpAny_pure ?_))
  have hd:items.toList.drop i=items[i]::items.toList.drop (i+1):=by simp[List.drop_eq_getElem_cons,hlt]
  have:=hQ h₂ (by rw[show i+(n+1)=i+1+n by omega];exact MY) (hs₁.trans hs₂)
  rw[hd,List.take_succ_cons]at this
  exact this
theorem yi{t:Addr}{items:Array Value}{targets:List (Bool×(Value->Sem Unit))}{Q:Unit->Shared->Prop}(hh:A.handled=none)(ht:s.heap.IsList t items)
  (hn:targets.length=items.size)(hstar:targets.findIdx? (·.1)=none)
  (h:∀h',Heap.ExtBut s.heap.objs.size s.heap h'->wpAny (model prog w) A (assignInOrder (targets.map (·.2)) items.toList) Q E {s with heap:=h'}):
  wpAny (model prog w) A (unpack (.ref t) targets) Q E s:=by
 have hlt:t≠s.heap.objs.size:=by obtain⟨o,ho,_⟩:=ht;exact Nat.ne_of_lt (Heap.lt_size ho)
 unfold unpack
 rw[hn,hstar]
 refine wpAny_bind (wpAny_holding ?_)
 unfold unpackItems
 refine wpAny_bind ?_
 unfold notIterableAtAll
 refine wpAny_bind (wpAny_specialOf ht.typeIs PySem.F.slot_list_iter.lookup ?_)
 refine wpAny_pure ?_
 simp only[Bool.false_eq_true,if_false]
 refine wpAny_bind (wpAny_holding (wpAny_pyIter_list ht ?_))
 refine wpAny_bind (wpAny_holding (xo hlt items.size 0 _ _ ⟨_,Heap.get?_push_size _ rfl,rfl,rfl⟩ (Heap.IsList.push ht _) (by omega) λh₁ BD hs₁=> ?_))
 have hall:List.take items.size (List.drop 0 items.toList)=items.toList:=by
  rw[List.drop_zero];exact List.take_of_length_le (by simp)
 rw[hall]
 rw[if_neg (by simp)]
 have ht₁:h₁.IsList t items:=(Heap.IsList.push ht _).extBut hs₁.extBut hlt
 refine wpAny_bind (wpAny_holding (wpAny_pyNext_list_end hh BD ht₁ (by simp) λh₂ Pf=> ?_))
 simp only[Option.isSome_none,Bool.false_eq_true,if_false]
 refine wpAny_pure (h h₂ λb o hb e=>Pf b o hb (hs₁.extBut b o hb (Heap.get?_push_of_some _ e)))
end
section
variable{X:Cx}
noncomputable def Pg(K:PySem.W.Frag)(n:Nat)(t:JL):TG:=λv σ H Q=> ∃a xs,v= .ref a/\aW K H a xs/\xs.length=n/\t xs σ H Q
theorem ju{es:List Expr}{k:Nat}{t:JL}{n:Nat}{pos:Pos}(hc:X.calm=true)(h:OF X es t)
  (hn:(assignEach es X.env).length=n:=by rfl)(hst:(assignEach es X.env).findIdx? (·.1)=none:=by rfl):PG X (.Tuple es k pos) (Pg X.K n t):=by
 intro pins s σ H v u Q I r hw
 obtain⟨a,xs,e1,hq,hl,hw⟩:=hw
 subst e1
 cases r
 obtain⟨its,rv,ht,hz⟩:=I.list hq
 rw[PyProof.Rows.assign_Tuple]
 refine wpAny_bind (wpAny_standAt (yi (I.ok.hd hc) ht.isList (by simp[hn,<-hl,rv.length]) hst λh' hx=> ?_))
 have I1:Inv X pins σ H {s with heap:=h'}:=I.kept (t':=s.toks) λb o e=>hx b o (Nat.ne_of_lt (Heap.lt_size e)) e
 exact h pins _ σ H xs _ Q I1 (by simpa using rv) hw
end
noncomputable def bH(H:Hp)(a:Addr)(x:Nat->Int):Prop:=H a=some (.lst [.int (x 0),.int (x 1),.int (x 2)])
theorem bH.same{H H':Hp}{a:Addr}{x:Nat->Int}(h:bH H a x)(s:az H H'):bH H' a x:=s _ _ h
noncomputable def pairF(m:List (List Int))(x y:Nat->Int)(t:Nat):Int:=x (t/3)*ent m (t/3) (t%3)*y (t%3)
noncomputable def au(m:List (List Int))(x y:Nat->Int):Int:=PySem.preSum (pairF m x y) 9
theorem aU(m:List (List Int))(x y:Nat->Int):au m x y=
  x 0*ent m 0 0*y 0+x 0*ent m 0 1*y 1+x 0*ent m 0 2*y 2+x 1*ent m 1 0*y 0+x 1*ent m 1 1*y 1+x 1*ent m 1 2*y 2+x 2*ent m 2 0*y 0+x 2*ent m 2 1*y 1+x 2*ent m 2 2*y 2:=by
 show PySem.preSum (pairF m x y) 9=_
 simp only[PySem.preSum,pairF,Nat.reduceDiv,Nat.reduceMod]
 omega
structure b8(m:List (List Int)):Prop where
 sym:ent m 1 0=ent m 0 1/\ent m 2 0=ent m 0 2/\ent m 2 1=ent m 1 2
 VA:∃a b c,ent m 0 0=2*a/\ent m 1 1=2*b/\ent m 2 2=2*c
noncomputable def bE(m:List (List Int))(x:Nat->Int):Int:=au m x x/2
theorem dg{m:List (List Int)}(h:b8 m)(x:Nat->Int):au m x x=2*bE m x:=by
 obtain⟨⟨s1,s2,s3⟩,a,b,c,e1,e2,e3⟩:=h
 have q:au m x x=2*(x 0*a*x 0+x 1*b*x 1+x 2*c*x 2+x 0*ent m 0 1*x 1+x 0*ent m 0 2*x 2+x 1*ent m 1 2*x 2):=by
  rw[aU,s1,s2,s3,e1,e2,e3];grind
 unfold bE
 rw[q,Int.mul_ediv_cancel_left _ (by decide)]
theorem HJ{f:Nat->Int}{n:Nat}:∀k,(∀t,t<k->(f t).natAbs<2^n) ->(PySem.preSum f k).natAbs<2^(n+k)
 |0,_=>Nat.two_pow_pos _
 |k+1,h=>lT (HJ k λt ht=>h t (by omega)) (aJ (h k (by omega)) (Nat.le_add_right n k))
theorem jM{m:List (List Int)}{x y:Nat->Int}{a b c:Nat}(hm:Bd a m)(hx:∀i,i<3->(x i).natAbs<2^b)(hy:∀i,i<3->(y i).natAbs<2^c):(au m x y).natAbs<2^(b+a+c+9):=
 HJ 9 λt ht=>cB (cB (hx _ (by omega)) (hm _ _ (by omega) (Nat.mod_lt _ (by decide)))) (hy _ (Nat.mod_lt _ (by decide)))
section
variable{X:Cx}{pos:Pos}
noncomputable def Ph(i j k:Nat)(ta:TA):TS:=λD σ H=>ta σ H λvs H1=> ∃v w u,vs=[v,w,u]/\D.nx (((σ.set i (some v)).set j (some w)).set k (some u)) H1
theorem Kh{i j k:Nat}{x y z:Str}{a b c:Expr}{ta:TA}{px py pz pt:Pos}{kt k2 Mp}(hc:X.calm=true)(hN:X.N.Nodup)(hi:X.N[i]?=some x)(hj:X.N[j]?=some y)(hk:X.N[k]?=some z)(hij:i≠j)(hik:i≠k)(hjk:j≠k)
  (hx:X.env.scope.names.lookup x=some .local)(hy:X.env.scope.names.lookup y=some .local)(hz:X.env.scope.names.lookup z=some .local)(ha:PA X [a,b,c] ta)
  (hw:swappedStores [.Tuple [.Name x px,.Name y py,.Name z pz] kt pt] (.Tuple [a,b,c] k2 Mp) X.env=pure (some [x,y,z]))
  (hs:swapsWithSole [.Tuple [.Name x px,.Name y py,.Name z pz] kt pt] (.Tuple [a,b,c] k2 Mp) pos.line X.env=pure false:=by rfl):
  PS X (.Assign [.Tuple [.Name x px,.Name y py,.Name z pz] kt pt] (.Tuple [a,b,c] k2 Mp) pos) (Ph i j k ta):=by
 intro pins s σ H D I h
 rw[exec_Assign_arm]
 refine wpAny_bind (wpAny_standAt ?_)
 rw[hs]
 refine wpAny_bind (wpAny_pure ?_)
 rw[if_neg (by decide)]
 refine wpAny_bind (Tuple_ (fR (ha _ pins s σ H _ I h) λus s1 ⟨vs,H1,I1,r1,q1⟩=> ?_))
 obtain⟨v,w,u,e1,q1⟩:=q1
 subst e1
 obtain⟨u1,u2,u3,rfl,rv,rw',ru⟩:∃u1 u2 u3,us=[u1,u2,u3]/\RelV v u1/\RelV w u2/\RelV u u3:=by
  cases r1 with
  |cons p q=>
   cases q with
   |cons p' q'=>
    cases q' with
    |cons p'' VB=>
     cases VB
     exact⟨_,_,_,rfl,p,p',p''⟩
 refine wpAny_newObj_type ?_ (by show 3<=sizeLine;decide)
 have I2:Inv X pins σ H1 {s1 with heap:=s1.heap.push {cls:= .type "tuple",data:= .seq [u1,u2,u3].toArray}}:=I1.kept (t':=s1.toks) λb o e=>Heap.get?_push_of_some _ e
 rw[hw]
 refine wpAny_bind (wpAny_pure ?_)
 show wpAny (model X.prog X.w) X.A (do rule "assign.swapped-stores";let items<-unpackItems (.ref s1.heap.objs.size) 3 none;assignInOrder [λv=>bindName X.env z v,λv=>bindName X.env y v,λv=>bindName X.env x v] items.reverse;pure Flow.next) _ _ _
 refine wpAny_bind (wpAny_rule (wpAny_bind (unpackItems_tuple (items:= #[u1,u2,u3]) (I.ok.hd hc) (IsTup.new s1.heap _) λh' hx'=> ?_)))
 have I3:=I2.kept (h':=h') (t':=s1.toks) λb o e=>hx' b o (Nat.ne_of_lt (Heap.lt_size e)) e
 show wpAny _ _ (assignInOrder [λv=>bindName X.env z v,λv=>bindName X.env y v,λv=>bindName X.env x v] [u3,u2,u1]>>=λ_=>pure Flow.next) _ _ _
 refine wpAny_bind (assignInOrder_cons (wpAny_bindName (jE I3 hN hk (.inl hz) ru (λs2 I4=> ?_) (.inr hz))))
 refine assignInOrder_cons (wpAny_bindName (jE I4 hN hj (.inl hy) rw' (λs3 I5=> ?_) (.inr hy)))
 refine assignInOrder_cons (wpAny_bindName (jE I5 hN hi (.inl hx) rv (λs4 I6=>assignInOrder_nil (wpAny_pure ?_)) (.inr hx)))
 have e:((σ.set k (some u)).set j (some w)).set i (some v)=((σ.set i (some v)).set j (some w)).set k (some u):=by
  rw[List.set_comm _ _ (Ne.symm hjk),List.set_comm _ _ (Ne.symm hik),List.set_comm _ _ (Ne.symm hij)]
 rw[e]at I6
 exact⟨_,H1,I6,q1⟩
end
noncomputable def gn(a b c p q r:Int):List (List Int):=mk3 λi j=>match i,j with|0,0=>a|0,1=>p|0,_=>q|1,0=>p|1,1=>b|1,_=>r|_,0=>q|_,1=>r|_,_=>c
theorem zU(a b c p q r:Int):aA (gn a b c p q r)=a*b*c+2*(p*q*r) -a*(r*r) -b*(q*q) -c*(p*p):=by
 rw[cS]
 show a*(b*c-r*r)+p*(r*q-p*c)+q*(p*r-b*q)=_
 grind
theorem yj{n:Nat}{a b c p q r:Int}(ha:a.natAbs<2^n)(hb:b.natAbs<2^n)(hc:c.natAbs<2^n)(hp:p.natAbs<2^n)(hq:q.natAbs<2^n)(hr:r.natAbs<2^n):Bd n (gn a b c p q r):=λi j hi hj=>by
 unfold gn
 rw[bK _ hi hj]
 rcases bL hi with rfl|rfl|rfl<;>rcases bL hj with rfl|rfl|rfl<;>assumption
theorem EN(a b c p q r:Int):b8 (gn (2*a) (2*b) (2*c) p q r):=⟨⟨rfl,rfl,rfl⟩,a,b,c,rfl,rfl,rfl⟩
theorem HK{p a:Int}(h: -a<=p)(h':p<=a):p*p<=a*a:=by
 have h1:0<=a-p:=by omega
 have h2:0<=a+p:=by omega
 have:=Int.mul_nonneg h1 h2
 grind
theorem HL{a b c p q:Int}(ha:0<a)(hab:a<=b)(hbc:b<=c)(hp: -a<=p)(fJ:p<=a)(hq: -a<=q)(hq':q<=a):0<aA (gn (2*a) (2*b) (2*c) p q 0):=by
 rw[zU]
 have e1:=HK hp fJ
 have e2:=HK hq hq'
 have hb:0<b:=by omega
 have hc:0<c:=by omega
 have k1:b*(q*q)<=b*(a*a):=Int.mul_le_mul_of_nonneg_left e2 (by omega)
 have k2:c*(p*p)<=c*(a*a):=Int.mul_le_mul_of_nonneg_left e1 (by omega)
 have ab:0<a*b:=Int.mul_pos ha hb
 have Wz:0<a*b*c:=Int.mul_pos ab hc
 have k3:b*(a*a)<=a*b*c:=by
  have:a*b*a<=a*b*c:=Int.mul_le_mul_of_nonneg_left (by omega) (by omega)
  grind
 have k4:c*(a*a)<=a*b*c:=by
  have h0:0<=c*a:=Int.mul_nonneg (by omega) (by omega)
  have:c*a*a<=c*a*b:=Int.mul_le_mul_of_nonneg_left hab h0
  grind
 grind
theorem HM{p q r:Int}(hp: -1<=p)(fJ:p<=1)(hq: -1<=q)(hq':q<=1)(hr: -1<=r)(hr':r<=1):aA (gn (2*1) (2*1) (2*1) p q r)<=8:=by
 rw[zU]
 have h1:p= -1∨p=0∨p=1:=by omega
 have h2:q= -1∨q=0∨q=1:=by omega
 have h3:r= -1∨r=0∨r=1:=by omega
 rcases h1 with rfl|rfl|rfl<;>rcases h2 with rfl|rfl|rfl<;>rcases h3 with rfl|rfl|rfl<;>decide
theorem BE{H:Hp}{a b c d:Addr}{x y z:HO}(h0:H a=none)(h1:upd H a x b=none)(h2:upd (upd H a x) b y c=none)(h3:upd (upd (upd H a x) b y) c z d=none):H d=none/\(∀e∈ [a,b,c],H e=none)/\d∉ [a,b,c]:=by
 have s0:az H (upd H a x):=az.up h0
 have s1:az (upd H a x) (upd (upd H a x) b y):=az.up h1
 have s2:az (upd (upd H a x) b y) (upd (upd (upd H a x) b y) c z):=az.up h2
 refine⟨(s0.trans (s1.trans s2)).none h3,λe he=> ?_,λhd=> ?_⟩
 ·simp only[List.mem_cons,List.not_mem_nil,or_false]at he
  rcases he with rfl|rfl|rfl
  ·exact h0
  ·exact s0.none h1
  ·exact(s0.trans s1).none h2
 ·simp only[List.mem_cons,List.not_mem_nil,or_false]at hd
  rcases hd with rfl|rfl|rfl
  ·have:=(s1.trans s2) _ _ (av (H:=H) (a:=d) (o:=x));rw[h3]at this;cases this
  ·have:=s2 _ _ (av (H:=upd H a x) (a:=d) (o:=y));rw[h3]at this;cases this
  ·rw[av]at h3;cases h3
noncomputable def BF(m:List (List Int))(i:Nat)(g:Nat->Int):List (List Int):=mk3 λr s=>if r=i then g s else ent m r s
theorem DI{H:Hp}{D R:Addr}{bs:List Addr}{m:List (List Int)}{i:Nat}{g:Nat->Int}(hT:Tab H D bs m)(ck:cJ m)(hi:i<3)(hR:H R=some (.lst [.int (g 0),.int (g 1),.int (g 2)]))(nR:R≠D)(nD:D∉bs):
  Tab (upd H D (.lst ((bs.map V.ref).set i (.ref R)))) D (bs.set i R) (BF m i g):=by
 obtain⟨b0,x1,x2,_⟩:=aZ hT ck (i:=0) (by decide)
 obtain⟨b1,y1,y2,_⟩:=aZ hT ck (i:=1) (by decide)
 obtain⟨b2,w1,w2,_⟩:=aZ hT ck (i:=2) (by decide)
 have hl3:bs.length=3:=by rw[<-hT.2.length,ck.1]
 obtain⟨a0,a1,a2,rfl⟩:∃a0 a1 a2,bs=[a0,a1,a2]:=by
  match bs,hl3 with
  | [a,b,c],_=>exact⟨a,b,c,rfl⟩
 obtain rfl:a0=b0:=V.ref.inj (Option.some.inj x1)
 obtain rfl:a1=b1:=V.ref.inj (Option.some.inj y1)
 obtain rfl:a2=b2:=V.ref.inj (Option.some.inj w1)
 have n0:a0≠D:=λz=>nD (by rw[<-z];simp)
 have n1:a1≠D:=λz=>nD (by rw[<-z];simp)
 have n2:a2≠D:=λz=>nD (by rw[<-z];simp)
 rcases bL hi with rfl|rfl|rfl
 ·exact iG _ av (by rw[aI nR];exact hR) (by rw[aI n1];exact y2) (by rw[aI n2];exact w2)
 ·exact iG _ av (by rw[aI n0];exact x2) (by rw[aI nR];exact hR) (by rw[aI n2];exact w2)
 ·exact iG _ av (by rw[aI n0];exact x2) (by rw[aI n1];exact y2) (by rw[aI nR];exact hR)
theorem cL(m:List (List Int)){i r s:Nat}(g:Nat->Int)(hr:r<3)(hs:s<3):ent (BF m i g) r s=if r=i then g s else ent m r s:=bK _ hr hs
theorem Kl(m:List (List Int)){i j:Nat}(hi:i<3)(hj:j<3)(hij:i≠j)(o:Int):aA (BF m i λs=>ent m i s+o*ent m j s)=aA m:=by
 rw[cS,cS]
 simp only[cL m _ (show 0<3 by decide) (show 0<3 by decide),cL m _ (show 0<3 by decide) (show 1<3 by decide),cL m _ (show 0<3 by decide) (show 2<3 by decide),cL m _ (show 1<3 by decide) (show 0<3 by decide),cL m _ (show 1<3 by decide) (show 1<3 by decide),cL m _ (show 1<3 by decide) (show 2<3 by decide),cL m _ (show 2<3 by decide) (show 0<3 by decide),cL m _ (show 2<3 by decide) (show 1<3 by decide),cL m _ (show 2<3 by decide) (show 2<3 by decide)]
 rcases bL hi with rfl|rfl|rfl<;>rcases bL hj with rfl|rfl|rfl<;>first|(exact absurd rfl hij)|(simp only[Nat.reduceEqDiff,if_true,if_false];grind)
theorem EO(m:List (List Int)){i:Nat}(hi:i<3)(o:Int):aA (BF m i λs=>o*ent m i s)=o*aA m:=by
 rw[cS,cS]
 simp only[cL m _ (show 0<3 by decide) (show 0<3 by decide),cL m _ (show 0<3 by decide) (show 1<3 by decide),cL m _ (show 0<3 by decide) (show 2<3 by decide),cL m _ (show 1<3 by decide) (show 0<3 by decide),cL m _ (show 1<3 by decide) (show 1<3 by decide),cL m _ (show 1<3 by decide) (show 2<3 by decide),cL m _ (show 2<3 by decide) (show 0<3 by decide),cL m _ (show 2<3 by decide) (show 1<3 by decide),cL m _ (show 2<3 by decide) (show 2<3 by decide)]
 rcases bL hi with rfl|rfl|rfl<;>simp only[Nat.reduceEqDiff,if_true,if_false]<;>grind
noncomputable def BG(m:List (List Int))(k:Nat):List (List Int):=mk3 λr s=>ent m ((r+k)%3) s
theorem Km(m:List (List Int)){k:Nat}(hk:k<3):aA (BG m k)=aA m:=by
 rw[cS,cS]
 unfold BG
 simp only[bK _ (show 0<3 by decide) (show 0<3 by decide),bK _ (show 0<3 by decide) (show 1<3 by decide),bK _ (show 0<3 by decide) (show 2<3 by decide),bK _ (show 1<3 by decide) (show 0<3 by decide),bK _ (show 1<3 by decide) (show 1<3 by decide),bK _ (show 1<3 by decide) (show 2<3 by decide),bK _ (show 2<3 by decide) (show 0<3 by decide),bK _ (show 2<3 by decide) (show 1<3 by decide),bK _ (show 2<3 by decide) (show 2<3 by decide)]
 rcases bL hk with rfl|rfl|rfl<;>simp only[Nat.reduceAdd,Nat.reduceMod]<;>grind
structure FE(X:Cx)(e:Expr)(t:TE):Prop where
 h:PE X e t
structure FA(X:Cx)(es:List Expr)(t:TA):Prop where
 h:PA X es t
variable{X:Cx}
theorem ja{i j pos}:FE X (.Constant (.int i) j pos) (tC (.int i)):=⟨ah⟩
theorem uK:FA X [] kT:=⟨ak⟩
theorem fy{e es te t}(ha:FE X e te)(hr:FA X es t)(hs:starEach (e::es) X.env=(false,eval e X.env)::starEach es X.env):FA X (e::es) (eE te t):=⟨af ha.h hr.h hs⟩
theorem uM{es t pos}(h:FA X es t):FE X (.List es pos) (OR t):=⟨cV h.h⟩
theorem MZ{i:Nat}{x:Str}{e:Expr}{te:TE}{pos' pos:Pos}{b:List Stmt}{tb:TS}(hN:X.N.Nodup)(hi:X.N[i]?=some x)(hx:Loc X.env.scope x)(he:FE X e te)(hs:swapsWith e (some (.Name x pos')) pos.line X.env=pure false)(hf:X.fn x=true∨X.env.scope.names.lookup x=some .local)(hb:HF X b tb):
  HF X (.Assign [.Name x pos'] e pos::b) (vZ (Bf te (dI i)) tb):=aq (aE hN hi hx he.h hs hf) hb
theorem Na{e:Expr}{te:TE}{pos:Pos}(he:FE X e te):HF X [.Return (some e) pos] (OC te):=aL (bh he.h)
theorem toF{st:List Stmt}{R:TS->Prop}(h:∃t,HF X st t/\R t):∃t,xR X st t/\R t:=by
 obtain⟨t,a,b⟩:=h
 exact⟨t,a.h,b⟩
theorem Kn{H H':Hp}{D r:Addr}{bs:List Addr}{m:List (List Int)}{k:Nat}(hT:Tab H D bs m)(ck:cJ m)(hk:k<3)(s:az H H')(hn:H r=none)(hr:H' r=some (.lst (qZ (bs.map V.ref) (some (k:Int)) none++qZ (bs.map V.ref) none (some (k:Int))))):
  ∃bs',Tab H' r bs' (BG m k)/\(∀b∈bs',b∈bs)/\r∉bs':=by
 obtain⟨b0,x1,x2,_⟩:=aZ hT ck (i:=0) (by decide)
 obtain⟨b1,y1,y2,_⟩:=aZ hT ck (i:=1) (by decide)
 obtain⟨b2,w1,w2,_⟩:=aZ hT ck (i:=2) (by decide)
 have hl3:bs.length=3:=by rw[<-hT.2.length,ck.1]
 obtain⟨a0,a1,a2,rfl⟩:∃a0 a1 a2,bs=[a0,a1,a2]:=by
  match bs,hl3 with
  | [a,b,c],_=>exact⟨a,b,c,rfl⟩
 obtain rfl:a0=b0:=V.ref.inj (Option.some.inj x1)
 obtain rfl:a1=b1:=V.ref.inj (Option.some.inj y1)
 obtain rfl:a2=b2:=V.ref.inj (Option.some.inj w1)
 have n0:r≠a0:=Ne.symm (cZ x2 hn)
 have n1:r≠a1:=Ne.symm (cZ y2 hn)
 have n2:r≠a2:=Ne.symm (cZ w2 hn)
 rcases bL hk with rfl|rfl|rfl
 ·exact⟨[a0,a1,a2],iG _ hr (s _ _ x2) (s _ _ y2) (s _ _ w2),by simp,by simp[n0,n1,n2]⟩
 ·exact⟨[a1,a2,a0],iG _ hr (s _ _ y2) (s _ _ w2) (s _ _ x2),by simp,by simp[n0,n1,n2]⟩
 ·exact⟨[a2,a0,a1],iG _ hr (s _ _ w2) (s _ _ x2) (s _ _ y2),by simp,by simp[n0,n1,n2]⟩
theorem Ko{n:Nat}{m:List (List Int)}{k:Nat}(h:Bd n m):Bd n (BG m k):=by
 intro i j hi hj
 unfold BG
 rw[bK _ hi hj]
 exact h _ j (Nat.mod_lt _ (by decide)) hj
noncomputable def bZ(m:List (List Int)):Bool:=decide (0<ent m 0 0) && (decide (ent m 0 1*ent m 0 1<ent m 0 0*ent m 1 1) && decide (0<aA m))
theorem iH{m:List (List Int)}(h:cR m=m){i j:Nat}(hi:i<3)(hj:j<3):ent m j i=ent m i j:=by
 rw[<-aY m hi hj,h]
theorem Pj(m:List (List Int)):au m (λi=>if i=0 then 1 else 0) (λi=>if i=0 then 1 else 0)=ent m 0 0:=by
 rw[aU]
 simp
theorem Pk{m:List (List Int)}(h:cR m=m)(x:Nat->Int)(h0:x 0= -ent m 0 1)(h1:x 1=ent m 0 0)(h2:x 2=0):au m x x=ent m 0 0*(ent m 0 0*ent m 1 1-ent m 0 1*ent m 0 1):=by
 rw[aU,h0,h1,h2,iH h (i:=0) (j:=1) (by decide) (by decide)]
 grind
theorem Pn(m:List (List Int)):au m (λj=>ent (iZ m) 2 j) (λj=>ent (iZ m) 2 j)=aA m*ent (iZ m) 2 2:=by
 have e:∀j,j<3->ent (iZ m) 2 0*ent m 0 j+ent (iZ m) 2 1*ent m 1 j+ent (iZ m) 2 2*ent m 2 j=if 2=j then aA m else 0:=λj hj=>by
  rw[<-aK _ _ (by decide) hj,zR,qB,bK _ (by decide) hj]
 have e0:=e 0 (by decide)
 have e1:=e 1 (by decide)
 have e2:=e 2 (by decide)
 rw[if_neg (by decide)]at e0 e1
 rw[if_pos rfl]at e2
 rw[aU,<-e2]
 grind
theorem LP(m:List (List Int)):ent (iZ m) 2 2=ent m 0 0*ent m 1 1-ent m 0 1*ent m 1 0:=by
 rw[nF m (by decide) (by decide)]
 rfl
theorem HN{H:Hp}{a b c:Addr}{x y:HO}(h0:H a=none)(h1:upd H a x b=none)(h2:upd (upd H a x) b y c=none): [a,b,c].Nodup:=by
 have n1:a≠b:=λe=>by rw[e,av]at h1;cases h1
 have n2:b≠c:=λe=>by rw[e,av]at h2;cases h2
 have n3:a≠c:=λe=>by rw[aI (λz=>n2 z.symm),e,av]at h2;cases h2
 simp[n1,n2,n3]
section
variable{X:Cx}
end
noncomputable def eF(x:Nat->Int)(b:List (List Int)):Nat->Int:=λj=>x 0*ent b 0 j+x 1*ent b 1 j+x 2*ent b 2 j
theorem ER(b m:List (List Int))(x y:Nat->Int):au (iN b m) x y=au m (eF x b) y:=by
 rw[aU,aU]
 unfold eF
 simp only[aK b m (show 0<3 by decide) (show 0<3 by decide),aK b m (show 0<3 by decide) (show 1<3 by decide),aK b m (show 0<3 by decide) (show 2<3 by decide),aK b m (show 1<3 by decide) (show 0<3 by decide),aK b m (show 1<3 by decide) (show 1<3 by decide),aK b m (show 1<3 by decide) (show 2<3 by decide),aK b m (show 2<3 by decide) (show 0<3 by decide),aK b m (show 2<3 by decide) (show 1<3 by decide),aK b m (show 2<3 by decide) (show 2<3 by decide)]
 grind
theorem BH(b m:List (List Int))(x y:Nat->Int):au (iN m (cR b)) x y=au m x (eF y b):=by
 rw[aU,aU]
 unfold eF
 simp only[aK m (cR b) (show 0<3 by decide) (show 0<3 by decide),aK m (cR b) (show 0<3 by decide) (show 1<3 by decide),aK m (cR b) (show 0<3 by decide) (show 2<3 by decide),aK m (cR b) (show 1<3 by decide) (show 0<3 by decide),aK m (cR b) (show 1<3 by decide) (show 1<3 by decide),aK m (cR b) (show 1<3 by decide) (show 2<3 by decide),aK m (cR b) (show 2<3 by decide) (show 0<3 by decide),aK m (cR b) (show 2<3 by decide) (show 1<3 by decide),aK m (cR b) (show 2<3 by decide) (show 2<3 by decide),
  aY b (show 0<3 by decide) (show 0<3 by decide),aY b (show 0<3 by decide) (show 1<3 by decide),aY b (show 0<3 by decide) (show 2<3 by decide),aY b (show 1<3 by decide) (show 0<3 by decide),aY b (show 1<3 by decide) (show 1<3 by decide),aY b (show 1<3 by decide) (show 2<3 by decide),aY b (show 2<3 by decide) (show 0<3 by decide),aY b (show 2<3 by decide) (show 1<3 by decide),aY b (show 2<3 by decide) (show 2<3 by decide)]
 grind
theorem q8(m b:List (List Int))(x y:Nat->Int):au (dU m b) x y=au m (eF x b) (eF y b):=by
 unfold dU
 rw[BH,ER]
theorem yk{a b:Int}(h:0<a*b)(ha:0<a):0<b:=by
 rcases Int.lt_or_le 0 b with z|z
 ·exact z
 ·have:=Int.mul_nonpos_of_nonneg_of_nonpos (show 0<=a by omega) z
  omega
noncomputable def BI(m:List (List Int)):Prop:=∀x:Nat->Int,¬(x 0=0/\x 1=0/\x 2=0) ->0<au m x x
theorem xq{m:List (List Int)}(hS:cR m=m)(h:BI m):bZ m=true:=by
 have c1:0<ent m 0 0:=by
  have:=h (λi=>if i=0 then 1 else 0) (λz=>by simp at z)
  rw[Pj]at this
  exact this
 have c2:ent m 0 1*ent m 0 1<ent m 0 0*ent m 1 1:=by
  have:=h (λi=>match i with|0=> -ent m 0 1|1=>ent m 0 0|_=>0) (λz=>by have y:ent m 0 0=0:=z.2.1;omega)
  rw[Pk hS _ rfl rfl rfl]at this
  have:=yk this c1
  omega
 have Ub:0<ent (iZ m) 2 2:=by
  rw[LP,iH hS (i:=0) (j:=1) (by decide) (by decide)]
  omega
 have c3:0<aA m:=by
  have:=h (λj=>ent (iZ m) 2 j) (λz=>by have y:ent (iZ m) 2 2=0:=z.2.2;omega)
  rw[Pn]at this
  exact yk (by rw[Int.mul_comm];exact this) Ub
 unfold bZ
 rw[decide_eq_true c1,decide_eq_true c2,decide_eq_true c3]
 rfl
theorem fL{m:List (List Int)}(h:bZ m=true):0<ent m 0 0/\ent m 0 1*ent m 0 1<ent m 0 0*ent m 1 1/\0<aA m:=by
 unfold bZ at h
 simp only[Bool.and_eq_true,decide_eq_true_eq]at h
 exact⟨h.1,h.2.1,h.2.2⟩
theorem bf(a:Int):0<=a*a:=by
 rcases Int.le_total 0 a with h|h
 ·exact Int.mul_nonneg h h
 ·have:=Int.mul_nonneg (show 0<= -a by omega) (show 0<= -a by omega)
  rwa [Int.neg_mul_neg]at this
theorem ym{a:Int}(h:a*a<=0):a=0:=by
 have:=bf a
 have:a*a=0:=by omega
 rcases Int.mul_eq_zero.mp this with z|z<;>exact z
theorem HP{m:List (List Int)}(hS:cR m=m)(x:Nat->Int):ent m 0 0*(ent m 0 0*ent m 1 1-ent m 0 1*ent m 0 1)*au m x x=
  (ent m 0 0*ent m 1 1-ent m 0 1*ent m 0 1)*((ent m 0 0*x 0+ent m 0 1*x 1+ent m 0 2*x 2)*(ent m 0 0*x 0+ent m 0 1*x 1+ent m 0 2*x 2))
  +((ent m 0 0*ent m 1 1-ent m 0 1*ent m 0 1)*x 1+(ent m 0 0*ent m 1 2-ent m 0 1*ent m 0 2)*x 2)*((ent m 0 0*ent m 1 1-ent m 0 1*ent m 0 1)*x 1+(ent m 0 0*ent m 1 2-ent m 0 1*ent m 0 2)*x 2)
  +ent m 0 0*aA m*(x 2*x 2):=by
 rw[aU,cS,iH hS (i:=0) (j:=1) (by decide) (by decide),iH hS (i:=0) (j:=2) (by decide) (by decide),iH hS (i:=1) (j:=2) (by decide) (by decide)]
 generalize ent m 0 0=a,ent m 0 1=p,ent m 0 2=q,ent m 1 1=b,ent m 1 2=r,ent m 2 2=c
 generalize x 0=u,x 1=v,x 2=w
 grind
theorem gH{m:List (List Int)}(hS:cR m=m)(h:bZ m=true):BI m:=by
 intro x n0
 obtain⟨c1,c2,c3⟩:=fL h
 have e:=HP hS x
 have f1:0<ent m 0 0*ent m 1 1-ent m 0 1*ent m 0 1:=by omega
 generalize ent m 0 0*ent m 1 1-ent m 0 1*ent m 0 1=fl at e f1
 have q1:=bf (ent m 0 0*x 0+ent m 0 1*x 1+ent m 0 2*x 2)
 have q2:=bf (fl*x 1+(ent m 0 0*ent m 1 2-ent m 0 1*ent m 0 2)*x 2)
 have q3:=bf (x 2)
 have r1:=Int.mul_nonneg (show 0<=fl by(clear q3 q2 q1 e c3 c2 c1 n0 h hS;omega)) q1
 have d1:=Int.mul_pos c1 c3
 have r3:=Int.mul_nonneg (show 0<=ent m 0 0*aA m by(clear r1 q3 q2 q1 f1 e c3 c2 c1 n0 h hS;omega)) q3
 have g1:=Int.mul_pos c1 f1
 refine yk ?_ g1
 rcases Int.lt_or_le 0 (ent m 0 0*fl*au m x x)with z|z
 ·exact z
 ·exfalso
  have s3:ent m 0 0*aA m*(x 2*x 2)<=0:=by(clear g1 r3 d1 q3 q1 f1 c3 c2 c1 n0 h hS;omega)
  have s2:=ym (a:=fl*x 1+(ent m 0 0*ent m 1 2-ent m 0 1*ent m 0 2)*x 2) (by(clear g1 d1 q3 q2 q1 f1 c3 c2 c1 n0 h hS;omega))
  have s1:fl*((ent m 0 0*x 0+ent m 0 1*x 1+ent m 0 2*x 2)*(ent m 0 0*x 0+ent m 0 1*x 1+ent m 0 2*x 2))<=0:=by(clear s2 g1 d1 r1 q3 q1 f1 c3 c2 c1 n0 h hS;omega)
  have x2:x 2=0:=by
   refine ym ?_
   rcases Int.lt_or_le 0 (x 2*x 2)with y|y
   ·have:=Int.mul_pos d1 y
    omega
   ·exact y
  rw[x2,Int.mul_zero,Int.add_zero]at s2
  have x1:x 1=0:=by
   rcases Int.mul_eq_zero.mp s2 with y|y
   ·omega
   ·exact y
  rw[x1,x2,Int.mul_zero,Int.mul_zero,Int.add_zero,Int.add_zero]at s1
  have x0:x 0=0:=by
   have:ent m 0 0*x 0=0:=by
    refine ym ?_
    rcases Int.lt_or_le 0 (ent m 0 0*x 0*(ent m 0 0*x 0))with y|y
    ·have:=Int.mul_pos f1 y
     omega
    ·exact y
   rcases Int.mul_eq_zero.mp this with y|y
   ·omega
   ·exact y
  exact n0 ⟨x0,x1,x2⟩
theorem BJ(b:List (List Int)):aA (cR b)=aA b:=by
 rw[cS,cS]
 simp only[aY b (show 0<3 by decide) (show 0<3 by decide),aY b (show 0<3 by decide) (show 1<3 by decide),aY b (show 0<3 by decide) (show 2<3 by decide),aY b (show 1<3 by decide) (show 0<3 by decide),aY b (show 1<3 by decide) (show 1<3 by decide),aY b (show 1<3 by decide) (show 2<3 by decide),aY b (show 2<3 by decide) (show 0<3 by decide),aY b (show 2<3 by decide) (show 1<3 by decide),aY b (show 2<3 by decide) (show 2<3 by decide)]
 grind
noncomputable def nG(d:Int):Prop:=d=1∨d= -1
theorem qD{m b:List (List Int)}(hb:nG (aA b)):aA (dU m b)=aA m:=by
 unfold dU
 rw[xm,xm,BJ]
 rcases hb with h|h<;>rw[h]<;>omega
noncomputable def mU(b:List (List Int)):List (List Int):=mk3 λi j=>aA b*ent (iZ b) i j
theorem ES{b:List (List Int)}(hb:nG (aA b)):iN (mU b) b=qB 1:=by
 have e:=zR b
 have h2:aA b*aA b=1:=by rcases hb with h|h<;>rw[h]<;>rfl
 refine ig λi j hi hj=> ?_
 have e':ent (iN (iZ b) b) i j=ent (qB (aA b)) i j:=by rw[e]
 rw[aK _ _ hi hj,qB,bK _ hi hj]at e'
 unfold mU
 rw[bK _ hi (show 0<3 by decide),bK _ hi (show 1<3 by decide),bK _ hi (show 2<3 by decide)]
 have:aA b*ent (iZ b) i 0*ent b 0 j+aA b*ent (iZ b) i 1*ent b 1 j+aA b*ent (iZ b) i 2*ent b 2 j=aA b*(ent (iZ b) i 0*ent b 0 j+ent (iZ b) i 1*ent b 1 j+ent (iZ b) i 2*ent b 2 j):=by grind
 rw[this,e']
 split
 ·exact h2
 ·exact Int.mul_zero _
theorem uN{b:List (List Int)}(hb:nG (aA b))(x:Nat->Int)(h:eF x b 0=0/\eF x b 1=0/\eF x b 2=0):x 0=0/\x 1=0/\x 2=0:=by
 obtain⟨h0,h1,h2⟩:=h
 unfold eF at h0 h1 h2
 have d0:aA b≠0:=by rcases hb with z|z<;>rw[z]<;>decide
 have k:∀z:Int,aA b*z=0->z=0:=λz e=>by
  rcases Int.mul_eq_zero.mp e with y|y
  ·exact absurd y d0
  ·exact y
 refine⟨k _ ?_,k _ ?_,k _ ?_⟩<;>rw[cS]<;>grind
theorem HQ{m b:List (List Int)}(h:BI m)(hb:nG (aA b)):BI (dU m b):=λx n0=>by
 rw[q8]
 exact h _ λz=>n0 (uN hb x z)
theorem uO{m b:List (List Int)}(hS:cR m=m)(h:bZ m=true)(cb:cJ b)(hb:nG (aA b)):bZ (dU m b)=true:=
 xq ((xj b cb).trans (congrArg (dU · b) hS)) (HQ (gH hS h) hb)
theorem eG{m:List (List Int)}(h:b8 m)(c:cJ m):cR m=m:=by
 obtain⟨⟨s1,s2,s3⟩,_⟩:=h
 conv=>rhs;rw[yh c]
 refine ig λi j hi hj=> ?_
 rcases bL hi with rfl|rfl|rfl<;>rcases bL hj with rfl|rfl|rfl<;>first|rfl|assumption|(symm;assumption)
theorem zV(m b:List (List Int)){i j:Nat}(hi:i<3)(hj:j<3):ent (dU m b) i j=au m (λk=>ent b i k) (λk=>ent b j k):=by
 unfold dU
 rw[aK _ _ hi hj,aK _ _ hi (by decide),aK _ _ hi (by decide),aK _ _ hi (by decide),aY b (by decide) hj,aY b (by decide) hj,aY b (by decide) hj,aU]
 grind
theorem xr{m b:List (List Int)}(h:b8 m)(c:cJ m)(cb:cJ b):b8 (dU m b):=by
 have hS:=(xj b cb).trans (congrArg (dU · b) (eG h c))
 refine⟨⟨iH hS (i:=0) (j:=1) (by decide) (by decide),iH hS (i:=0) (j:=2) (by decide) (by decide),iH hS (i:=1) (j:=2) (by decide) (by decide)⟩,bE m (λk=>ent b 0 k),bE m (λk=>ent b 1 k),bE m (λk=>ent b 2 k),?_,?_,?_⟩<;>rw[zV m b (by decide) (by decide),dg h]
theorem BK{a b c p q r:Int}(ha:0<a)(hab:a<=b)(hp: -a<=p)(fJ:p<=a)(hd:0<aA (gn (2*a) (2*b) (2*c) p q r)):bZ (gn (2*a) (2*b) (2*c) p q r)=true:=by
 have h1:=HK hp fJ
 have h2:a*a<=a*b:=Int.mul_le_mul_of_nonneg_left hab (by omega)
 have h3:0<a*b:=Int.mul_pos ha (by omega)
 have h4:p*p<2*a*(2*b):=by
  have:2*a*(2*b)=4*(a*b):=by grind
  (clear hd fJ hp hab ha;omega)
 unfold bZ
 rw[decide_eq_true hd,decide_eq_true (p:=0<ent (gn (2*a) (2*b) (2*c) p q r) 0 0) (by show 0<2*a;omega),decide_eq_true (p:=ent (gn (2*a) (2*b) (2*c) p q r) 0 1*ent (gn (2*a) (2*b) (2*c) p q r) 0 1<ent (gn (2*a) (2*b) (2*c) p q r) 0 0*ent (gn (2*a) (2*b) (2*c) p q r) 1 1) h4]
 rfl
section
variable{X:Cx}{sc:Scope}{N2:List Str}{x y:Str}{px Gs tpos:Pos}{x1:Nat}{elt iter:Expr}{iY p pos:Pos}{wi:TI}{te:TE}{P:Addr}
end
mutual
inductive DV(H:Hp):V->PyData->Prop
 |iW:DV H .iW .none
 |bl(b:Bool):DV H (.bl b) (.bool b)
 |int(i:Int):DV H (.int i) (.int i)
 |str(x:Str):DV H (.str x) (.str x)
 |lst{a:Addr}{xs:List V}{ds:List PyData}:H a=some (.lst xs) ->zW H xs ds->DV H (.ref a) (.list ds)
 |tup{a:Addr}{xs:List V}{ds:List PyData}:H a=some (.tup xs) ->zW H xs ds->DV H (.ref a) (.tuple ds)
inductive zW(H:Hp):List V->List PyData->Prop
 |nil:zW H [] []
 |cons{x:V}{d:PyData}{xs:List V}{ds:List PyData}:DV H x d->zW H xs ds->zW H (x::xs) (d::ds)
end
mutual
theorem DV.same{H H':Hp}(s:az H H'):∀{x:V}{d:PyData},DV H x d->DV H' x d
 |_,_,.iW=> .iW
 |_,_,.bl b=> .bl b
 |_,_,.int i=> .int i
 |_,_,.str x=> .str x
 |_,_,.lst e q=> .lst (s _ _ e) (zW.same s q)
 |_,_,.tup e q=> .tup (s _ _ e) (zW.same s q)
theorem zW.same{H H':Hp}(s:az H H'):∀{xs:List V}{ds:List PyData},zW H xs ds->zW H' xs ds
 |_,_,.nil=> .nil
 |_,_,.cons a q=> .cons (DV.same s a) (zW.same s q)
end
theorem zW.length{H:Hp}:∀{xs:List V}{ds:List PyData},zW H xs ds->xs.length=ds.length
 |_,_,.nil=>rfl
 |_,_,.cons _ q=>congrArg (· +1) (zW.length q)
theorem zW.get{H:Hp}:∀{xs:List V}{ds:List PyData}{i:Nat}{x:V},zW H xs ds->xs[i]?=some x-> ∃d,ds[i]?=some d/\DV H x d
 |_,_,0,_,.cons a q,e=>by cases e;exact⟨_,rfl,a⟩
 |_,_,i+1,_,.cons a q,e=>zW.get (i:=i) q (by simpa using e)
noncomputable def VC:PyData->Value
 | .none=> .type "NoneType"
 | .bool _=> .type "bool"
 | .int _=> .type "int"
 | .str _=> .type "str"
 | .list _=> .type "list"
 | .tuple _=> .type "tuple"
 |_=> .none
theorem DV.ty(K:PySem.W.Frag){H:Hp}{x:V}{d:PyData}(h:DV H x d):qo K H x (VC d):=by
 cases h with
 |iW=>exact .iW
 |bl b=>exact .bl b
 |int i=>exact .int i
 |str s=>exact .str s
 |lst e _=>exact .lst e
 |tup e _=>exact .tup e
theorem BL{J:It}{H1:Hp}{xs:List V}{σ:St}{te:TE}{Q:VK}(jw:JW J H1 xs)(hz:xs.length<=sizeLine){D:Addr}(hD:H1 D=none)(f:V->HO)
  (hs:∀x∈xs,∀H' (Q':VK),az H1 H'->(∀b H2,H' b=none->az H' H2->H2 b=some (f x) ->Q' (.ref b) H2) ->te (some x::σ) H' Q')
  (hq:∀bs H',az H1 H'->H' D=some (.lst (bs.map V.ref)) ->(∀b∈bs,H1 b=none) ->D∉bs->bs.Nodup->Paired (λx b=>H' b=some (f x)) xs bs->Q (.ref D) H'):
  nv 1 (dI 0) te σ J H1 D Q:=by
 refine ye jw hz hD (λpre acc H'=> ∃bs:List Addr,acc=bs.map V.ref/\(∀b∈bs,H1 b=none/\H' b≠none)/\D∉bs/\bs.Nodup/\Paired (λx b=>H' b=some (f x)) pre bs) ⟨[],rfl,λ_ h=>(nomatch h),by simp,List.nodup_nil,.nil⟩ (λpre x post acc H' Q' e hl sm eD p k=> ?_) (λacc H' hl sm eD p=> ?_)
 ·obtain⟨bs,rfl,fr,nD,nn,pr⟩:=p
  refine hs x (by rw[e];simp) H' _ sm λb H2 hb s2 eb=> ?_
  have nb:b≠D:=λz=>by rw[z,eD]at hb;cases hb
  refine k _ _ s2 ⟨bs++ [b],by simp,?_,?_,?_,?_⟩
  ·intro c hc
   rcases List.mem_append.mp hc with z|z
   ·refine⟨(fr c z).1,λy=> ?_⟩
    rw[aI (λw=>nD (by rw[<-w];exact z))]at y
    exact(fr c z).2 (s2.none y)
   ·rw[List.mem_singleton.mp z]
    refine⟨sm.none hb,λy=> ?_⟩
    rw[aI nb,eb]at y
    cases y
  ·intro z
   rcases List.mem_append.mp z with z|z
   ·exact nD z
   ·exact nb (List.mem_singleton.mp z).symm
  ·rw[List.nodup_append]
   refine⟨nn,by simp,λc hc d hd z=> ?_⟩
   rw[List.mem_singleton.mp hd]at z
   exact(fr c hc).2 (by rw[z];exact hb)
  ·refine Paired.snoc (pr.Hy λy c hc q=> ?_) (by rw[aI nb];exact eb)
   rw[aI (λz=>nD (by rw[<-z];exact hc))]
   exact s2 _ _ q
 ·obtain⟨bs,rfl,fr,nD,nn,pr⟩:=p
  exact hq bs H' sm eD (λb hb=>(fr b hb).1) nD nn pr
theorem HR{K:PySem.W.Frag}{H:Hp}{t:Addr}{bs:List Addr}{m:List (List Int)}{σ:St}{Q:VK}(h:Tab H t bs m)(hz:m.length<=sizeLine){D:Addr}(hD:H D=none)
  (hq:∀bs' H',az H H'->(∀b∈bs',H b=none) ->D∉bs'->bs'.Nodup->Tab H' D bs' m->Q (.ref D) H'):nv 1 (dI 0) (Qp (DE K) (eE (b9 0) kT)) σ (Mq K t) H D Q:=by
 refine BL (lS (aW.of h.1)) (by rw[List.length_map,<-h.2.length];exact hz) hD (λx=> .lst (itemsOf H id x)) (λx hx H' Q' sm k=> ?_) (λbs' H' sm eD fr nD nn pr=> ?_)
 ·obtain⟨b,rfl,hb⟩:=zP hx
  obtain⟨row,VD,eb⟩:=MV h.2 hb
  refine⟨_,rfl,b,_,rfl,.inl (aW.of (sm _ _ eb)),λl hl=>k l _ hl (az.up hl) ?_⟩
  rw[av,sY eb,List.map_id]
 ·refine hq bs' H' sm fr nD nn ⟨eD,?_⟩
  have:=xh (g:=id) h.2 pr λrow b e=>by rw[sY e,List.map_id];rfl
  rwa [List.map_id]at this
section
variable{X:Cx}
theorem eT:HF X [] Lx:=⟨JK⟩
end
theorem dW{X:Cx}{c:Expr}{a b:List Stmt}{tc:TT}{t u:TS}{pos:Pos}(hc:PT X c tc)(ha:HF X a t)(hb:HF X b u):PS X (.If c a b pos) (OD tc t u):=OE hc ha.h hb.h
theorem zX(elt target iter c:Expr)(scope:Scope)(pos:Pos)(it acc:Value)(env:Env):
  compTurn (.ListComp elt [⟨target,iter,[c],0⟩] scope pos) 0 it acc env=(standAt iter.pos>>=λ_=>pyNext it>>=λr=>match r with
   |none=>pure (.done .next)
   |some v=>letOwnedTupleGo target it v>>=λ_=>assign target env v>>=λ_=>
    (forIn [c] true λc r=>if r=true then(do let ok<-isTrue c env (eval c env);pure (ForInStep.yield ok))else pure (ForInStep.yield r))>>=λok=>
     if ok=true then(eval elt env>>=λx=>call (.builtin "list.append") [acc,x]>>=λ_=>pure ())>>=λ_=>again (.compLoop (.ListComp elt [⟨target,iter,[c],0⟩] scope pos) 0 it acc env)
     else again (.compLoop (.ListComp elt [⟨target,iter,[c],0⟩] scope pos) 0 it acc env)):=by rfl
section
variable{prog:Program}{w:World}{A:Around}{R:Result->Shared->Prop}{s:Shared}
theorem oX{elt target iter c:Expr}{scope:Scope}{pos:Pos}{it acc:Value}{env:Env}(I:Nat->Shared->Prop)
  (turn:∀n s,I n s->wpAny (model prog w) A (pyNext it) (λr s₁=>match r with
   |none=>R (.ok .next) s₁
   |some v=>wpAny (model prog w) A (letOwnedTupleGo target it v) (λ_ s₁'=>wpAny (model prog w) A (assign target env v) (λ_ s₂=>wpAny (model prog w) A (isTrue c env (eval c env)) (λok s₂'=>
     if ok=true then wpAny (model prog w) A (eval elt env) (λx s₃=>wpAny (model prog w) A (call (.builtin "list.append") [acc,x]) (λ_ s₄=> ∃m,m<n/\I m s₄) (λ_ _=>False) s₃) (λ_ _=>False) s₂'
     else ∃m,m<n/\I m s₂') (λ_ _=>False) s₂) (λ_ _=>False) s₁') (λ_ _=>False) s₁) (λ_ _=>False) s)
  (n:Nat)(h:I n s):
  codeAny (model prog w) A (.compLoop (.ListComp elt [⟨target,iter,[c],0⟩] scope pos) 0 it acc env) R s:=by
 refine codeAny_loop rfl I (λn s hI=> ?_) n h
 show wpAny _ _ ((compTurn (.ListComp elt [⟨target,iter,[c],0⟩] scope pos) 0 it acc env).onRaise (λx=>do noteFrame x env;theTreesLotGoes x)) _ _ s
 refine wpAny_noted ?_
 rw[zX]
 refine wpAny_bind (wpAny_standAt (wpAny_bind (wpAny_mono (turn n s hI) (λr s₁ h₁=> ?_) λ_ _ h'=>h'.elim)))
 cases r with
 |none=>exact wpAny_pure h₁
 |some v=>
  refine wpAny_bind (wpAny_mono h₁ (λ_ s₁' h₁'=>wpAny_bind (wpAny_mono h₁' (λ_ s₂ h₂=> ?_) λ_ _ h'=>h'.elim)) λ_ _ h'=>h'.elim)
  refine wpAny_bind ?_
  simp only[List.forIn_cons,List.forIn_nil,if_true]
  refine wpAny_bind (wpAny_bind (wpAny_mono h₂ (λok s₂' h₂'=>wpAny_pure (wpAny_pure ?_)) λ_ _ h'=>h'.elim))
  cases ok with
  |true=>
   rw[if_pos rfl]at h₂'
   show wpAny _ _ _ _ _ _
   refine wpAny_bind (wpAny_bind (wpAny_mono h₂' (λx s₃ h₃=>wpAny_bind (wpAny_mono h₃ (λ_ s₄ h₄=>wpAny_pure (wpAny_pure ⟨rfl,h₄⟩)) λ_ _ h'=>h'.elim)) λ_ _ h'=>h'.elim))
  |false=>
   rw[if_neg Bool.false_ne_true]at h₂'
   exact wpAny_pure ⟨rfl,h₂'⟩
end
noncomputable def DJ(k:Nat)(g:TG)(tt:TT)(te:TE)(σ:St)(J:It)(H1:Hp)(D:Addr)(Q:VK):Prop:=∃W:Nat->Nat->List V->St->Hp->Prop,(∃m,W 0 m [] (List.replicate k none++σ) (upd H1 D (.lst [])))/\
 ∀i m acc σ' H',W i m acc σ' H'->(J.stop i H'/\H' D=some (.lst acc)/\Q (.ref D) H')∨
  (J.go i H'/\acc.length<sizeLine/\ ∀x H2,J.zv i H' x H2->g x σ' H2 λσ3 H3=>tt σ3 H3 λb H4=>if b=true then te σ3 H4 λv H5=>H5 D=some (.lst acc)/\ ∃m',m'<m/\W (i+1) m' (acc++ [v]) σ3 (upd H5 D (.lst (acc++ [v])))else ∃m',m'<m/\W (i+1) m' acc σ3 H4)
noncomputable def BN(k:Nat)(wi:TI)(g:TG)(tt:TT)(te:TE):TE:=λσ H Q=>wi σ H λJ H1=> ∀D,H1 D=none->DJ k g tt te σ J H1 D Q
section
variable{X:Cx}{sc:Scope}{own N2:List Str}
theorem zY{elt iter tg c:Expr}{pos MF:Pos}{wi:TI}{g:TG}{tt:TT}{te:TE}{use:Option (Value->Sem Unit)}{Qf:Value->Shared->Prop}(hc:X.calm=true)(hi:PI X tg iter wi)(B:qt sc.names X.env.scope.names own N2 X.N)(hk:sc.kind= .function)
  (hg:∀s H fp,PG (X.comp sc (own++N2) s H fp) tg g)(ht:∀s H fp,PT (X.comp sc (own++N2) s H fp) c tt)(he:∀s H fp,PE (X.comp sc (own++N2) s H fp) elt te)
  (hs:∀x,foldedSetIterable iter X.env x=pure x){pins:List (Addr×Obj)}{s0:Shared}{σ:St}{H0:Hp}{Q:VK}(I0:Inv X pins σ H0 s0)(h0:BN own.length wi g tt te σ H0 Q)
  (MI:∀s H fp,Inv X pins σ H s->(∀b∈fp,fS X pins H b) -> ∀(σ':St)(H':Hp)(s':Shared),Inv (X.comp sc (own++N2) s H fp) [] σ' H' s'->Q (.ref s.heap.objs.size) H'->
   compPost (model X.prog X.w) X.A X.xe use Qf (.ref s.heap.objs.size) (s.heap.objs.size+1) (.ok .next) s'):
  wpAny (model X.prog X.w) X.A (comprehension (.ListComp elt [⟨tg,iter,[c],0⟩] sc pos) sc X.env MF (newList []) false (eval iter X.env) use) Qf X.xe s0:=by
 refine wpAny_comprehension_free (use:=use) rfl hs (qu I0 B) hk (λy hy hl=>cz B.nd (by rw[<-hl];exact hy)) ?_
 refine wpAny_mono (hi pins s0 σ H0 _ I0 h0) (λv s1 h1=>wpAny_mono h1 (λitv s h2=> ?_) λ_ _ e=>e) λ_ _ e=>e
 obtain⟨it,fp,tn,J,H,e,I,T,st,hf,rd⟩:=h2
 subst e
 have ho:∀b∈fp,∃o,s.heap.get? b=some o:=λb hb=>let⟨o,e,_⟩:=T.obj 0 _ st b hb;⟨o,e⟩
 obtain⟨W,⟨m0,w0⟩,turn⟩:=rd s.heap.objs.size I.fresh
 refine wpAny_newObj_type ?_
 refine j7 ?_
 have IB:=zJ I B hk hf ho
 have MJ:∀{H':Hp},(∀b∈fp,H' b=none) -> ∀b∈fp,fS (X.comp sc (own++N2) s H fp) [] H' b:=λhn b hb=>by
  have ok:=IB.ok
  refine⟨hn b hb,(ok.Lw b hb).1,ok.Bb b hb,.inl hb,λy c hc=>(ok.Lw b hb).2 y c hc,λp hp=> ?_⟩
  have fJ:p∈([]:List (Addr×Obj)):=hp
  cases fJ
 have lt:∀b∈fp,b≠s.heap.objs.size:=λb hb=>let⟨o,e⟩:=ho b hb;Nat.ne_of_lt (Heap.lt_size e)
 have fin:=MI s H fp I hf
 have loop:∀s3:Shared,s3={s with heap:=pushCells ((s.heap.push {cls:= .type "list",dict:=none,data:= .seq ([]:List Value).toArray}).push {cls:= .type "dict",data:= .dict #[]}) sc.names} ->
   codeAny (model X.prog X.w) X.A (.compLoop (.ListComp elt [⟨tg,iter,[c],0⟩] sc pos) 0 (.ref it) (.ref s.heap.objs.size) (X.comp sc (own++N2) s H fp).env)
    (compPost (model X.prog X.w) X.A X.xe use Qf (.ref s.heap.objs.size) (s.heap.objs.size+1)) s3:=by
  rintro s3 rfl
  refine oX (λn s'=> ∃i acc σ' H',Inv (X.comp sc (own++N2) s H fp) [] σ' H' s'/\tn i s'.heap/\(∀b∈fp,H' b=none)/\W i n acc σ' H') ?_ m0
   ⟨0,[],_,_,IB,T.keep _ _ _ st λb _ o e=>pushCells_keeps _ _ b o (Heap.get?_push_of_some _ (Heap.get?_push_of_some _ e)),λb hb=> ?_,w0⟩
  ·rintro n s3 ⟨i,acc,σ3,H3,I3,st3,zA,w3⟩
   rcases turn i n acc σ3 H3 w3 with⟨stop,hD,qn⟩|⟨go,hz,step⟩
   ·refine fR (T.done (X.comp sc (own++N2) s H fp) rfl rfl rfl hc i [] s3 σ3 H3 _ I3 (MJ zA) st3 stop) λr s4 ⟨hr,I4⟩=> ?_
    subst hr
    exact fin σ3 H3 s4 I4 qn
   ·refine fR (T.item (X.comp sc (own++N2) s H fp) rfl rfl rfl hc i [] s3 σ3 H3 _ I3 (MJ zA) st3 go) λr s4 ⟨u,hr,h4⟩=> ?_
    subst hr
    refine fR h4 λ_ s5 ⟨x,H5,I5,r5,y5,Ex,Gr⟩=> ?_
    have OM:=I5.pinned (MJ Gr) (T.obj _ _ Ex)
    refine fR (hg s H fp _ s5 σ3 H5 x u _ OM r5 (step x H5 y5)) λ_ s6 ⟨GJ,H6,I6,q6⟩=> ?_
    refine fR (ht s H fp _ s6 GJ H6 _ I6 q6) λok VE ⟨VF,Qy,Qz⟩=> ?_
    cases ok with
    |false=>
     rw[if_neg Bool.false_ne_true]at Qz ⊢
     obtain⟨m',hm',w7⟩:=Qz
     refine⟨m',hm',i+1,acc,GJ,_,Qy.jG,T.keep _ _ _ Ex λb hb o e=>(Qy.pin (b,o) (List.mem_append_right _ (List.mem_append_right _ (cH hb e)))).1,λb hb=> ?_,w7⟩
     obtain⟨o,e,d⟩:=T.obj _ _ Ex b hb
     exact(Qy.pin (b,o) (List.mem_append_right _ (List.mem_append_right _ (cH hb e)))).2.1
    |true=>
    rw[if_pos rfl]at Qz ⊢
    refine fR (he s H fp _ VE GJ VF _ Qy Qz) λv s7 ⟨y,H7,I7,r7,RK,m',hm',w7⟩=> ?_
    refine fR (kU _ s7 GJ H7 (.ref s.heap.objs.size) [y] (.ref s.heap.objs.size) [v] (λz H8=>z= .iW/\H8=upd H7 s.heap.objs.size (.lst (acc++ [y]))) I7 rfl (.cons r7 .nil) ⟨s.heap.objs.size,acc,y,rfl,rfl,RK,hz,rfl,rfl⟩) λz s8 ⟨zz,H8,I8,_,_,e8⟩=> ?_
    subst e8
    refine⟨m',hm',i+1,acc++ [y],GJ,_,I8.jG,T.keep _ _ _ Ex λb hb o e=>(I8.pin (b,o) (List.mem_append_right _ (List.mem_append_right _ (cH hb e)))).1,λb hb=> ?_,w7⟩
    obtain⟨o,e,d⟩:=T.obj _ _ Ex b hb
    exact(I8.pin (b,o) (List.mem_append_right _ (List.mem_append_right _ (cH hb e)))).2.1
  ·rw[aI (lt b hb)]
   exact(hf b hb).1
 have e1:(s.heap.push {cls:= .type "list",dict:=none,data:= .seq ([]:List Value).toArray}).objs.size=s.heap.objs.size+1:=Heap.size_push ..
 dsimp only
 rw[e1]
 exact codeAny_compStart_list (loop _ rfl) (T.self _ 0 _ _ _ (T.keep _ _ _ st λb _ o e=>pushCells_keeps _ _ b o (Heap.get?_push_of_some _ (Heap.get?_push_of_some _ e))) (loop _ rfl))
theorem ET{elt iter tg c:Expr}{pos:Pos}{wi:TI}{g:TG}{tt:TT}{te:TE}(hc:X.calm=true)(hi:PI X tg iter wi)(B:qt sc.names X.env.scope.names own N2 X.N)(hk:sc.kind= .function)
  (hg:∀s H fp,PG (X.comp sc (own++N2) s H fp) tg g)(ht:∀s H fp,PT (X.comp sc (own++N2) s H fp) c tt)(he:∀s H fp,PE (X.comp sc (own++N2) s H fp) elt te)
  (hs:∀x,foldedSetIterable iter X.env x=pure x:=by intro _;rfl):PE X (.ListComp elt [⟨tg,iter,[c],0⟩] sc pos) (BN own.length wi g tt te):=by
 intro pins s0 σ H0 Q I0 h0
 rw[eval_ListComp]
 refine zY (use:=none) hc hi B hk hg ht he hs I0 h0 λs H fp I hf σ' H' s' JB q=> ?_
 obtain⟨m,hn,_⟩:=JB.loc
 exact⟨m,hn,λh' sb=>⟨.ref s.heap.objs.size,H',I.GX (I.Bo hf JB) JB.free sb,rfl,q⟩⟩
end
section
variable{X:Cx}{sc:Scope}{N2:List Str}{x:Str}{px:Pos}{elt iter c:Expr}{pos:Pos}{wi:TI}{tt:TT}{te:TE}
theorem Kp(hc:X.calm=true)(hi:PI X (.Name x px) iter wi)(hB:zI sc.names X.env.scope.names [x] N2 X.N=true)(hk:sc.kind= .function)(ht:∀s H fp,PT (X.comp sc ([x]++N2) s H fp) c tt)(he:∀s H fp,PE (X.comp sc ([x]++N2) s H fp) elt te)
  (hs:∀x,foldedSetIterable iter X.env x=pure x:=by intro _;rfl):PE X (.ListComp elt [⟨.Name x px,iter,[c],0⟩] sc pos) (BN 1 wi (dI 0) tt te):=
 ET (own:=[x]) hc hi (kq hB) hk (λs H fp=>yf (kq hB) s H fp) ht he hs
end
theorem zZ{J:It}{H1:Hp}{xs:List V}{σ:St}{tt:TT}{te:TE}{Q:VK}(jw:JW J H1 xs)(hz:xs.length<=sizeLine){D:Addr}(hD:H1 D=none)(p:V->Bool)(f:V->V)
  (ht:∀x∈xs,∀H' (R:Bool->Hp->Prop),az H1 H'->(∀H2,az H' H2->R (p x) H2) ->tt (some x::σ) H' R)
  (hs:∀x∈xs,p x=true-> ∀H' (Q':VK),az H1 H'->(∀H2,az H' H2->Q' (f x) H2) ->te (some x::σ) H' Q')
  (hq:∀H',az H1 H'->H' D=some (.lst ((xs.filter p).map f)) ->Q (.ref D) H'):DJ 1 (dI 0) tt te σ J H1 D Q:=by
 refine⟨λi m acc σ' H'=>m=xs.length-i/\i<=xs.length/\acc=((xs.take i).filter p).map f/\(∃o,σ'=o::σ)/\az H1 H'/\H' D=some (.lst acc),⟨xs.length,rfl,Nat.zero_le _,by simp,⟨none,rfl⟩,az.up hD,av⟩,?_⟩
 rintro i m acc σ' H' ⟨rfl,hi,rfl,⟨o,rfl⟩,sm,eD⟩
 by_cases hlt:i<xs.length
 ·refine .inr ⟨jw.go i H' sm hlt,?_,λx H2 y=> ?_⟩
  ·rw[List.length_map]
   have:=List.length_filter_le p (xs.take i)
   rw[List.length_take]at this
   omega
  ·obtain⟨e2,ex⟩:=jw.zv i H' x H2 sm hlt y
   subst e2
   have hx:x∈xs:=List.mem_of_getElem? ex
   have tk:xs.take (i+1)=xs.take i++ [x]:=by rw[List.take_add_one,ex];rfl
   refine ht x hx H2 _ sm λH3 s3=> ?_
   cases hp:p x with
   |false=>
    rw[if_neg Bool.false_ne_true]
    exact⟨xs.length- (i+1),by omega,rfl,by omega,by rw[tk,List.filter_append];simp[hp],⟨_,rfl⟩,sm.trans s3,s3 _ _ eD⟩
   |true=>
    rw[if_pos rfl]
    refine hs x hx hp H3 _ (sm.trans s3) λH4 s4=>⟨s4 _ _ (s3 _ _ eD),xs.length- (i+1),by omega,rfl,by omega,by rw[tk,List.filter_append];simp[hp],⟨_,rfl⟩,((sm.trans s3).trans s4).upd hD,av⟩
 ·obtain rfl:i=xs.length:=by omega
  rw[List.take_length]at eD ⊢
  exact .inl ⟨jw.stop H' sm,eD,hq H' sm eD⟩
end L2
namespace L2
theorem Sb{X:Cx}{e:PySem.Expr}{t:TT}(h:PT X e t):PT X e t:=h
end L2
namespace L2
open PySem PySem.Spec PyProof.Rows
noncomputable def sZ(H:Hp)(B:Addr):Prop:=∃g s:Int,H B=some (.lst [.int g,.int s])/\0<=g/\0<=s
noncomputable def SB(B:Addr)(H H':Hp):Prop:=(∀a o,a≠B->H a=some o->H' a=some o)/\sZ H' B
theorem SB.refl{B:Addr}{H:Hp}(h:sZ H B):SB B H H:=⟨λ_ _ _ e=>e,h⟩
theorem SB.trans{B:Addr}{H H' Pq:Hp}(h:SB B H H')(h':SB B H' Pq):SB B H Pq:=⟨λa o n e=>h'.1 a o n (h.1 a o n e),h'.2⟩
theorem sZ.same{H H':Hp}{B:Addr}(h:sZ H B)(s:az H H'):sZ H' B:=by
 obtain⟨g,t,e,r⟩:=h
 exact⟨g,t,s _ _ e,r⟩
theorem SB.of{B:Addr}{H H':Hp}(b:sZ H B)(s:az H H'):SB B H H':=⟨λa o _ e=>s _ _ e,b.same s⟩
theorem SB.gone{B:Addr}{H H':Hp}(h:SB B H H'){r:Addr}(e:H' r=none):H r=none:=by
 cases q:H r with
 |none=>rfl
 |some o=>
  by_cases z:r=B
  ·obtain⟨g,t,e2,_⟩:=h.2
   rw[<-z,e]at e2
   cases e2
  ·rw[h.1 r o z q]at e
   cases e
theorem SB.ne{B:Addr}{H H':Hp}(h:SB B H H'){r:Addr}(e:H' r=none):r≠B:=λz=>by
 obtain⟨g,t,e2,_⟩:=h.2
 rw[<-z,e]at e2
 cases e2
theorem sZ.ne{H:Hp}{B r:Addr}(h:sZ H B)(e:H r=none):r≠B:=(SB.refl h).ne e
end L2
namespace L2
end L2
namespace L2
open PySem PySem.Spec PyProof.Rows
noncomputable def dQ(r:List Int):Nat->Int:=λi=>r.getD i 0
section
variable{X:Cx}{sc:Scope}{N2:List Str}{x y:Str}{px Gs tpos:Pos}{x1:Nat}{elt iter:Expr}{iY p pos:Pos}{wi:TI}{te:TE}{P:Addr}
theorem Kq{B:Around}(hc:X.calm=true)(Bk:qt sc.names X.env.scope.names [x,y] N2 X.N)(hnc:∀y∈sc.names,y.2≠ .cell)(code:Value)(s:Shared)(H:Hp)(fp:List Addr):PG (X.gen B sc ([x,y]++N2) code s H fp) (.Tuple [.Name x px,.Name y Gs] x1 tpos) (g2 X.K):=
 xS (X:=X.gen B sc ([x,y]++N2) code s H fp) hc (aT (DH (i:=0) Bk hnc rfl code s H fp) (aT (DH (i:=1) Bk hnc rfl code s H fp) gb))
theorem Kr(hc:X.calm=true)(hr:X.A.depth<recursionLimit)(cd:gf X.K X.env.code P)(bm:BM X.mg X.base)(Ht:Gl X "sum")(hm:X.mg "sum"=none)(hi:PI X (.Tuple [.Name x px,.Name y Gs] x1 tpos) iter wi)(hB:HA sc X.env.scope.names [x,y] N2 X.N=true)
  (he:∀code s H fp,PE (X.gen X.A.in1.in1 sc ([x,y]++N2) code s H fp) elt te)
  (hs:∀x,genFold iter X.env x=pure x:=by intro _;rfl)(hst:starEach [.GeneratorExp elt [⟨.Tuple [.Name x px,.Name y Gs] x1 tpos,iter,[],0⟩] sc iY] X.env=[(false,eval (.GeneratorExp elt [⟨.Tuple [.Name x px,.Name y Gs] x1 tpos,iter,[],0⟩] sc iY) X.env)]:=by rfl):
  PE X (.Call (.Name "sum" p) [.GeneratorExp elt [⟨.Tuple [.Name x px,.Name y Gs] x1 tpos,iter,[],0⟩] sc iY] [] pos) (zM 2 P wi (g2 X.K) te):=
 have K:=uH hc hr cd bm hB
 Dv (own:=[x,y]) K Ht hm hi (λcode s H fp=>Kq hc K.Pa K.nc code s H fp) he hs hst
end
theorem Ks{K:PySem.W.Frag}{H1:Hp}{a b:Addr}{xs ys:List V}{σ:St}{te:TE}{F:Nat->(Nat->V->Prop) ->(Nat->St->Hp->Prop) ->Prop}(ha:aW K H1 a xs)(hb:aW K H1 b ys)(hl:xs.length=ys.length)(R:Nat->V->Prop)
  (hs:∀(i:Nat) x y,xs[i]?=some x->ys[i]?=some y-> ∀H' (Q':VK),az H1 H'->(∀v H2,R i v->az H' H2->Q' v H2) ->te (some x::some y::σ) H' Q')
  (hF:F xs.length R (λ_ σ' H'=>(∃o o',σ'=o::o'::σ)/\az H1 H')):w9 2 (g2 K) te σ F (Pd K a b) H1:=by
 refine⟨xs.length,R,_,⟨⟨none,none,rfl⟩,az.refl _⟩,λi σ' H' hi w=> ?_,λσ' H' w=>⟨xs,ys,w.2.seq ha,w.2.seq hb,.inl (Nat.le_refl _)⟩,hF⟩
 obtain⟨⟨o,o',rfl⟩,sm⟩:=w
 have hi':i<ys.length:=by omega
 refine⟨⟨xs,ys,xs[i],ys[i],sm.seq ha,sm.seq hb,by simp[hi],by simp[hi']⟩,λv H2 yl=> ?_⟩
 obtain⟨T,x,y,rfl,hT,hx,hy,rfl⟩:=yl
 have ex:=hx xs (sm.seq ha)
 have ey:=hy ys (sm.seq hb)
 have s2:az H' (upd H' T (.tup [x,y])):=az.up hT
 refine⟨T,[x,y],rfl,vS.of av,rfl,x,[y],rfl,y,[],rfl,rfl,?_⟩
 show te (some x::some y::σ) _ _
 exact hs i x y ex ey _ _ (sm.trans s2) λv H3 r s3=>⟨r,⟨_,_,rfl⟩,(sm.trans s2).trans s3⟩
theorem Ku{K:PySem.W.Frag}{H1:Hp}{a b:Addr}{xs ys:List V}{σ:St}{te:TE}{Q:VK}{P:Addr}(ha:aW K H1 a xs)(hb:aW K H1 b ys)(hl:xs.length=ys.length)(hP:H1 P=some (dS P))(val:Nat->Int)
  (hs:∀(i:Nat) x y,xs[i]?=some x->ys[i]?=some y-> ∀H' (Q':VK),az H1 H'->(∀H2,az H' H2->Q' (.int (val i)) H2) ->te (some x::some y::σ) H' Q')
  (hq:∀H',az H1 H'->Q (.int (preSum val xs.length)) H'):Hr 2 P (g2 K) te σ (Pd K a b) H1 Q:=
 ⟨hP,Ks ha hb hl (λi v=>v= .int (val i)) (λi x y ex ey H' Q' sm k=>hs i x y ex ey H' Q' sm λH2 s2=>k _ _ rfl s2) ⟨val,λi v _ r=>r,λσ' H' w=>hq H' w.2⟩⟩
section
variable{X:Cx}{sc:Scope}{N2:List Str}{x:Str}{px:Pos}{elt iter:Expr}{iY p pos:Pos}{wi:TI}{te:TE}{P:Addr}
end
noncomputable def q9(lo:Int)(n:Nat):List V:=(List.range n).map λ(i:Nat)=>V.int (lo+(i:Int))
theorem lU{lo:Int}{n:Nat}:(q9 lo n).length=n:=by simp[q9]
theorem BO{lo:Int}{n k:Nat}{x:V}(h:(q9 lo n)[k]?=some x):k<n/\x= .int (lo+(k:Int)):=by
 unfold q9 at h
 rw[List.getElem?_map]at h
 have hk:k<n:=by
  rcases Nat.lt_or_ge k n with z|z
  ·exact z
  ·rw[List.getElem?_eq_none (by simpa using z)]at h;cases h
 rw[List.getElem?_range hk]at h
 exact⟨hk,(Option.some.inj h).symm⟩
theorem EU{H1:Hp}{lo:Int}{n:Nat}:JW (GI lo n) H1 (q9 lo n) where
 go:=λi H' s hi=>by rw[lU]at hi;exact hi
 zv:=λi H' x H2 s hi ⟨e,y⟩=>⟨e,by
  rw[lU]at hi
  subst y
  unfold q9
  rw[List.getElem?_map,List.getElem?_range hi]
  rfl⟩
 stop:=λH' s=>by rw[lU];exact Nat.le_refl _
theorem HS{v:V}{r:List V}:zC (v::r) 0=some v:=ie (i:=0) rfl
theorem HU{K:PySem.W.Frag}{H:Hp}{a:Addr}{xs:List Int}(h:aW K H a (xs.map V.int)):Bt K H (.ref a) (qv xs):= .lst h (HD xs)
theorem Nb{K:PySem.W.Frag}{H:Hp}{a b:Addr}{xs ys:List Int}{Q:VK}(ha:aW K H a (xs.map V.int))(hb:aW K H b (ys.map V.int))(q:Q (.bl (!decide (xs=ys))) H):EK K true (.ref a) (.ref b) H Q:=
 ⟨qv xs,qv ys,HU ha,HU hb,pJ _,pJ _,by rw[Dy];exact q⟩
noncomputable def rk(sel:Nat->Bool)(k:Nat):Nat:=(List.range k).countP sel
section
variable{X:Cx}{B:Around}{sc:Scope}{N':List Str}{code:Value}{sC:Shared}{HC:Hp}{fp Ss:List Addr}{tn:Nat->Heap->Prop}{N:Nat}{sel:Nat->Bool}{R:Nat->V->Prop}{W:St->Hp->Prop}
variable{elt iter tg c:Expr}{pos:Pos}{it:Addr}{J:It}{g:TG}{tt:TT}{te:TE}
end
section
variable{X:Cx}{sc:Scope}{own N2:List Str}{elt iter tg c:Expr}{pos:Pos}{wi:TI}{g:TG}{tt:TT}{te:TE}{P:Addr}
end
noncomputable def mx(val:Nat->Int):Nat->Int
 |0=>val 0
 |k+1=>if val (k+1)>mx val k then val (k+1)else mx val k
section
variable{X:Cx}{sc:Scope}{N':List Str}{code:Value}{sC:Shared}{HC:Hp}{fp:List Addr}{tn:Nat->Heap->Prop}{cnt:Nat}{R:Nat->V->Prop}{W:Nat->St->Hp->Prop}{a S:Addr}{pins:List (Addr×Obj)}{σ:St}{Rr:Result->Shared->Prop}
end
section
variable{X:Cx}{sc:Scope}{N2:List Str}{x:Str}{px:Pos}{elt iter c:Expr}{iY p pos:Pos}{wi:TI}{tt:TT}{te:TE}{P:Addr}
end
section
variable{X:Cx}
noncomputable abbrev TB:=St->Hp->(St->Hp->Prop) ->Prop
end
section
variable{X:Cx}{sc:Scope}{own N2:List Str}
variable{x y:Str}{px Gs:Pos}{elt iter Dw:Expr}{pos:Pos}{wi Qu:TI}{te:TE}
end
section
variable{X:Cx}
end
noncomputable def pq(i:Nat)(z:Int):Nat->Int:=λj=>if j=i then z else 0
theorem jC{m:List (List Int)}(h:b8 m)(x y:Nat->Int):au m x y=au m y x:=by
 obtain⟨⟨s1,s2,s3⟩,_⟩:=h
 rw[aU,aU,s1,s2,s3]
 grind
theorem fV{m:List (List Int)}{x y x' y':Nat->Int}(h:∀i,i<3->x i=x' i)(k:∀i,i<3->y i=y' i):au m x y=au m x' y':=by
 rw[aU,aU,h 0 (by decide),h 1 (by decide),h 2 (by decide),k 0 (by decide),k 1 (by decide),k 2 (by decide)]
noncomputable def In(M:(Nat->Int) ->Prop)(L:List (List Int)):Prop:=∀r∈L,M (dQ r)
end L2
namespace yo
open PySem PyProof.Rows
noncomputable def Kv:Bool->Keyed->Array Keyed->Nat->Nat->Nat->StateT SortSt Sem (Option Nat):=sortPriv%PySem.Builtin.gallop
noncomputable def Sd:Array Keyed->Array Keyed->StateT SortSt Sem (Array Keyed):=sortPriv%PySem.Builtin.mergeLo
noncomputable def Se:Array Keyed->Array Keyed->StateT SortSt Sem (Array Keyed):=sortPriv%PySem.Builtin.mergeHi
noncomputable def Pr:Nat->StateT SortSt Sem Unit:=sortPriv%PySem.Builtin.setMinGallop
noncomputable def Uc(lf:Bool)(ky:Keyed)(ar:Array Keyed)(b0 i:Nat):StateT SortSt Sem (Option Bool):=do
 let x<-elem' ar (b0+i)
 if lf then lt' x ky else return(<-lt' ky x).map (!·)
noncomputable abbrev GS:=Option (Option Nat)×Nat×Nat
noncomputable def QA(bd:Nat->StateT SortSt Sem (Option Bool))(n h mx:Nat):StateT SortSt Sem GS:=
 forIn [:n] ((none,0,1):GS) λ_ c=>
  if c.2.2≥mx then pure (ForInStep.done (none,c.2.1,c.2.2))else do
   let r<-bd (h+c.2.2)
   match r with
   |some more=>if(!more)=true then pure (ForInStep.done (none,c.2.1,c.2.2))else pure (ForInStep.yield (none,c.2.2,2*c.2.2+1))
   |_=>pure (ForInStep.done (some none,c.2.1,c.2.2))
noncomputable def QB(bd:Nat->StateT SortSt Sem (Option Bool))(n h mx:Nat):StateT SortSt Sem GS:=
 forIn [:n] ((none,0,1):GS) λ_ c=>
  if c.2.2≥mx then pure (ForInStep.done (none,c.2.1,c.2.2))else do
   let r<-bd (h-c.2.2)
   match r with
   |some f=>if f=true then pure (ForInStep.done (none,c.2.1,c.2.2))else pure (ForInStep.yield (none,c.2.2,2*c.2.2+1))
   |_=>pure (ForInStep.done (some none,c.2.1,c.2.2))
noncomputable def Pu(bd:Nat->StateT SortSt Sem (Option Bool))(n lo hi:Nat):StateT SortSt Sem (Option Nat):=do
 let c<-forIn [:n] ((none,lo,hi):GS) λ_ c=>
  if c.2.1≥c.2.2 then pure (ForInStep.done (none,c.2.1,c.2.2))else do
   let r<-bd (c.2.1+(c.2.2-c.2.1)/2)
   match r with
   |some more=>if more=true then pure (ForInStep.yield (none,c.2.1+(c.2.2-c.2.1)/2+1,c.2.2))else pure (ForInStep.yield (none,c.2.1,c.2.1+(c.2.2-c.2.1)/2))
   |_=>pure (ForInStep.done (some none,c.2.1,c.2.2))
 match c.1 with
 |some r=>pure r
 |none=>pure (some c.2.2)
noncomputable def Kw(bd:Nat->StateT SortSt Sem (Option Bool))(n h:Nat):StateT SortSt Sem (Option Nat):=do
 let r<-bd h
 match r with
 |some right=>
  if right=true then do
   let c<-QA bd n h (n-h)
   match c.1 with
   |some r=>pure r
   |none=>Pu bd n (h+c.2.1+1) (h+min c.2.2 (n-h))
  else do
   let c<-QB bd n h (h+1)
   match c.1 with
   |some r=>pure r
   |none=>Pu bd n (h+1-min c.2.2 (h+1)) (h-c.2.1)
 |_=>pure none
theorem Nc(lf:Bool)(ky:Keyed)(ar:Array Keyed)(b0 n h:Nat):Kv lf ky ar b0 n h=(do
 let bd (i:Nat):StateT SortSt Sem (Option Bool):=do
  let x<-elem' ar (b0+i)
  if lf then lt' x ky else return(<-lt' ky x).map (!·)
 let mut l:=0
 let mut o:=1
 let mut u:=0
 let mut v:=0
 let some r<-bd h|return none
 if r then
  let mx:=n-h
  for _ in [0:n] do
   if o≥mx then break
   let some m<-bd (h+o)|return none
   if !m then break
   l:=o
   o:=2*o+1
  u:=h+l+1
  v:=h+min o mx
 else
  let mx:=h+1
  for _ in [0:n] do
   if o≥mx then break
   let some m<-bd (h-o)|return none
   if m then break
   l:=o
   o:=2*o+1
  u:=h+1-min o mx
  v:=h-l
 for _ in [0:n] do
  if u≥v then break
  let q:=u+(v-u)/2
  let some m<-bd q|return none
  if m then u:=q+1 else v:=q
 return some v):=rfl
theorem Nd(lf:Bool)(ky:Keyed)(ar:Array Keyed)(b0 n h:Nat):Kv lf ky ar b0 n h=Kw (Uc lf ky ar b0) n h:=by
 rw[Nc]
 unfold Kw QA QB Pu
 dsimp only
 congr 1
 funext r
 cases r with
 |none=>rfl
 |some r=>
  dsimp only
  split
  ·congr 1
   funext c
   obtain⟨c1,c2,c3⟩:=c
   cases c1 with
   |some c=>rfl
   |none=>
    dsimp only
    congr 1
    funext c
    obtain⟨c1,c2,c3⟩:=c
    cases c1<;>rfl
  ·congr 1
   funext c
   obtain⟨c1,c2,c3⟩:=c
   cases c1 with
   |some c=>rfl
   |none=>
    dsimp only
    congr 1
    funext c
    obtain⟨c1,c2,c3⟩:=c
    cases c1<;>rfl
section
variable{M:Model}{A:Around}{E:Value->Shared->Prop}{s:Shared}{st:SortSt}{b:Nat->Bool}{n:Nat}{bd:Nat->StateT SortSt Sem (Option Bool)}
theorem w_up{h:Nat}{Q:GS->SortSt->Prop}(hb:∀i,i<n-> ∀Q:Option Bool->SortSt->Prop,Q (some (b i)) st->wpS M A E s (bd i) Q st)(mono:∀i j,i<=j->j<n->b j=true->b i=true)
  (hh:h<n)(h0:b h=true)(hq:∀l o,l<o->h+l<n->b (h+l)=true->(n-h<=o∨(h+o<n/\b (h+o)=false)) ->Q (none,l,o) st):wpS M A E s (QA bd n h (n-h)) Q st:=by
 unfold QA
 refine wpS_forRange (I:=λx c st'=>st'=st/\ ∃l o,c=(none,l,o)/\l<o/\h+l<n/\b (h+l)=true/\x<o) ?_ ?_ ⟨rfl,0,1,rfl,by omega,by omega,h0,by omega⟩
 ·rintro x c st' _ hx ⟨rfl,l,o,rfl,h1,h2,h3,h4⟩
  dsimp only
  by_cases hm:o≥n-h
  ·rw[if_pos hm]
   exact wpS_pure (hq l o h1 h2 h3 (.inl hm))
  ·rw[if_neg hm]
   refine wpS_bind (hb _ (by omega) _ ?_)
   dsimp only
   cases e:b (h+o)with
   |true=>
    simp only[Bool.not_true,Bool.false_eq_true,if_false]
    exact wpS_pure ⟨rfl,o,2*o+1,rfl,by omega,by omega,e,by omega⟩
   |false=>
    simp only[Bool.not_false,if_true]
    exact wpS_pure (hq l o h1 h2 h3 (.inr ⟨by omega,e⟩))
 ·rintro c st' ⟨rfl,l,o,rfl,h1,h2,h3,h4⟩
  exact hq l o h1 h2 h3 (.inl (by omega))
theorem Sf{h:Nat}{Q:GS->SortSt->Prop}(hb:∀i,i<n-> ∀Q:Option Bool->SortSt->Prop,Q (some (b i)) st->wpS M A E s (bd i) Q st)
  (hh:h<n)(h0:b h=false)(hq:∀l o,l<o->l<=h->b (h-l)=false->(h+1<=o∨(o<=h/\b (h-o)=true)) ->Q (none,l,o) st):wpS M A E s (QB bd n h (h+1)) Q st:=by
 unfold QB
 refine wpS_forRange (I:=λx c st'=>st'=st/\ ∃l o,c=(none,l,o)/\l<o/\l<=h/\b (h-l)=false/\x<o) ?_ ?_ ⟨rfl,0,1,rfl,by omega,by omega,h0,by omega⟩
 ·rintro x c st' _ hx ⟨rfl,l,o,rfl,h1,h2,h3,h4⟩
  dsimp only
  by_cases hm:o≥h+1
  ·rw[if_pos hm]
   exact wpS_pure (hq l o h1 h2 h3 (.inl hm))
  ·rw[if_neg hm]
   refine wpS_bind (hb _ (by omega) _ ?_)
   dsimp only
   cases e:b (h-o)with
   |true=>
    simp only[if_true]
    exact wpS_pure (hq l o h1 h2 h3 (.inr ⟨by omega,e⟩))
   |false=>
    simp only[Bool.false_eq_true,if_false]
    exact wpS_pure ⟨rfl,o,2*o+1,rfl,by omega,by omega,e,by omega⟩
 ·rintro c st' ⟨rfl,l,o,rfl,h1,h2,h3,h4⟩
  exact hq l o h1 h2 h3 (.inl (by omega))
theorem Pw{lo hi:Nat}{Q:Option Nat->SortSt->Prop}(hb:∀i,i<n-> ∀Q:Option Bool->SortSt->Prop,Q (some (b i)) st->wpS M A E s (bd i) Q st)(mono:∀i j,i<=j->j<n->b j=true->b i=true)
  (Px:lo<=hi)(hn:hi<=n)(h1:∀i,i<lo->b i=true)(h2:∀i,hi<=i->i<n->b i=false)(hq:∀k,k<=n->(∀i,i<k->b i=true) ->(∀i,k<=i->i<n->b i=false) ->Q (some k) st):
  wpS M A E s (Pu bd n lo hi) Q st:=by
 unfold Pu
 refine wpS_bind (wpS_mono (wpS_forRange (I:=λx c st'=>st'=st/\ ∃l o,c=(none,l,o)/\l<=o/\o<=n/\(∀i,i<l->b i=true)/\(∀i,o<=i->i<n->b i=false)/\(o-l)+x<=n)
  (Q:=λc st'=>st'=st/\ ∃o,c=(none,o,o)/\o<=n/\(∀i,i<o->b i=true)/\(∀i,o<=i->i<n->b i=false)) ?_ ?_ ⟨rfl,lo,hi,rfl,Px,hn,h1,h2,by omega⟩) ?_)
 ·rintro x c st' _ hx ⟨rfl,l,o,rfl,a1,a2,a3,a4,a5⟩
  dsimp only
  by_cases hm:l≥o
  ·rw[if_pos hm]
   have e:l=o:=by omega
   subst e
   exact wpS_pure ⟨rfl,l,rfl,a2,a3,a4⟩
  ·rw[if_neg hm]
   refine wpS_bind (hb _ (by omega) _ ?_)
   dsimp only
   cases e:b (l+(o-l)/2)with
   |true=>
    simp only[if_true]
    exact wpS_pure ⟨rfl,_,_,rfl,by(clear e a5 a4 a3 a2 a1 hq hb hx h2 h1 hn Px mono;omega),a2,λi hi=>mono i _ (by omega) (by omega) e,a4,by(clear e a4 a3 a2 a1 hq hb h2 h1 hn Px mono;omega)⟩
   |false=>
    simp only[Bool.false_eq_true,if_false]
    refine wpS_pure ⟨rfl,_,_,rfl,by omega,by omega,a3,λi hi hin=> ?_,by(clear e hm a4 a3 a2 a1 hq hb h2 h1 hn Px mono;omega)⟩
    cases e2:b i with
    |false=>rfl
    |true=>rw[mono _ i hi hin e2]at e;cases e
 ·rintro c st' ⟨rfl,l,o,rfl,a1,a2,a3,a4,a5⟩
  have e:l=o:=by(clear a4 a3 a2 hq hb h2 h1 hn Px mono;omega)
  subst e
  exact⟨rfl,l,rfl,a2,a3,a4⟩
 ·rintro c st' ⟨rfl,o,rfl,a2,a3,a4⟩
  exact wpS_pure (hq o a2 a3 a4)
theorem Nf{h:Nat}{Q:Option Nat->SortSt->Prop}(hb:∀i,i<n-> ∀Q:Option Bool->SortSt->Prop,Q (some (b i)) st->wpS M A E s (bd i) Q st)(mono:∀i j,i<=j->j<n->b j=true->b i=true)
  (hh:h<n)(hq:∀k,k<=n->(∀i,i<k->b i=true) ->(∀i,k<=i->i<n->b i=false) ->Q (some k) st):wpS M A E s (Kw bd n h) Q st:=by
 unfold Kw
 have anti:∀i j,i<=j->j<n->b i=false->b j=false:=λi j h1 h2 h3=>by
  cases e:b j with
  |false=>rfl
  |true=>rw[mono i j h1 h2 e]at h3;cases h3
 refine wpS_bind (hb h hh _ ?_)
 dsimp only
 cases e:b h with
 |true=>
  simp only[if_true]
  refine wpS_bind (w_up hb mono hh e λl o a1 a2 a3 a4=> ?_)
  dsimp only
  refine Pw hb mono (by omega) (by omega) (λi hi=>mono i (h+l) (by omega) a2 a3) (λi hi hin=> ?_) hq
  rcases a4 with a4|a4
  ·omega
  ·exact anti (h+o) i (by omega) hin a4.2
 |false=>
  simp only[Bool.false_eq_true,if_false]
  refine wpS_bind (Sf hb hh e λl o a1 a2 a3 a4=> ?_)
  dsimp only
  refine Pw hb mono (by(clear a4 a3 e anti hq hh mono hb;omega)) (by omega) (λi hi=> ?_) (λi hi hin=>anti (h-l) i (by omega) hin a3) hq
  rcases a4 with a4|a4
  ·(clear a3 a2 a1 e anti hq hh mono hb;omega)
  ·exact mono i (h-o) (by(clear a3 a2 a1 e anti hq hh mono hb;omega)) (by omega) a4.2
end
noncomputable def qE(prog:Program)(w:World)(A:Around)(E:Value->Shared->Prop)(s:Shared)(κ:SortKind)(K:Keyed->Int)(D:Keyed->Prop):Prop:=
 ∀(st:SortSt)(x y:Keyed)(Q:Option Bool->SortSt->Prop),kindOf st=κ->D x->D y->Q (some (decide (K x<K y))) st->wpS (model prog w) A E s (lt' x y) Q st
section
variable{prog:Program}{w:World}{A:Around}{E:Value->Shared->Prop}{s:Shared}{κ:SortKind}{K:Keyed->Int}{D:Keyed->Prop}{st:SortSt}
theorem bg{ar:Array Keyed}{i:Nat}{x:Keyed}{Q:Keyed->SortSt->Prop}{M:Model}(h:ar[i]?=some x)(hq:Q x st):wpS M A E s (elem' ar i) Q st:=by
 rw[elem'_eq,h]
 exact wpS_pure hq
theorem j8(hL:qE prog w A E s κ K D){lf:Bool}{ky:Keyed}{ar:Array Keyed}{b0 n h:Nat}{Q:Option Nat->SortSt->Prop}(hk:kindOf st=κ)(xs:List Keyed)(hx:∀i,i<n->ar[b0+i]?=xs[i]?)(hn:n=xs.length)
  (hD:∀x∈xs,D x)(Ud:D ky)(hs:xs.Pairwise λx y=>K x<=K y)(hh:h<n)
  (hq:∀k,k<=n->(∀x∈xs.take k,if lf then K x<K ky else K x<=K ky) ->(∀x∈xs.drop k,if lf then K ky<=K x else K ky<K x) ->Q (some k) st):wpS (model prog w) A E s (Kv lf ky ar b0 n h) Q st:=by
 rw[Nd]
 have gd:∀i,i<n-> ∃x,xs[i]?=some x/\x∈xs:=λi hi=>⟨xs[i]'(by omega),List.getElem?_eq_getElem _,List.getElem_mem _⟩
 refine Nf (b:=λi=>match xs[i]? with|some x=>(if lf then decide (K x<K ky)else !decide (K ky<K x))|none=>false) (λi hi Q hQ=> ?_) (λi j hij hj hb=> ?_) hh (λk hk1 h1 h2=>hq k hk1 (λx hx=> ?_) (λx hx=> ?_))
 ·obtain⟨x,e,m⟩:=gd i hi
  rw[e]at hQ
  dsimp only at hQ
  unfold Uc
  refine wpS_bind (bg ((hx i hi).trans e) ?_)
  cases lf with
  |true=>
   simp only[if_true]at hQ ⊢
   exact hL st x ky Q hk (hD x m) Ud hQ
  |false=>
   simp only[Bool.false_eq_true,if_false]at hQ ⊢
   refine wpS_bind (hL st ky x _ hk Ud (hD x m) ?_)
   exact wpS_pure hQ
 ·obtain⟨x,ex,mx⟩:=gd i (by omega)
  obtain⟨y,ey,my⟩:=gd j hj
  have le:K x<=K y:=by
   rcases Nat.lt_or_ge i j with q|q
   ·have a:=List.pairwise_iff_getElem.mp hs i j (by omega) (by omega) q
    rw[List.getElem?_eq_getElem (by omega)]at ex ey
    rw[<-Option.some.inj ex,<-Option.some.inj ey]
    exact a
   ·have:i=j:=by omega
    subst this
    rw[ex]at ey
    rw[Option.some.inj ey]
    exact Int.le_refl _
  rw[ey]at hb
  rw[ex]
  dsimp only at hb ⊢
  cases lf with
  |true=>
   simp only[if_true,decide_eq_true_eq]at hb ⊢
   omega
  |false=>
   simp only[Bool.false_eq_true,if_false,Bool.not_eq_true',decide_eq_false_iff_not]at hb ⊢
   omega
 ·obtain⟨i,hi,rfl⟩:=List.mem_take_iff_getElem.mp hx
  have hi':i<k:=by omega
  have b:=h1 i hi'
  rw[List.getElem?_eq_getElem (by omega)]at b
  dsimp only at b
  cases lf with
  |true=>simpa using b
  |false=>simpa using b
 ·obtain⟨i,hi,rfl⟩:=List.mem_drop_iff_getElem.mp hx
  have b:=h2 (k+i) (by omega) (by omega)
  rw[List.getElem?_eq_getElem (by omega)]at b
  dsimp only at b
  cases lf with
  |true=>simpa using b
  |false=>simpa using b
end
theorem rf(g:Nat):Pr g=modify λz=>SortSt.mk' (kindOf z) (arrOf z) (pendingOf z) g (failedOf z):=rfl
structure MG(K:Keyed->Int)(tot out ra rb:List Keyed):Prop where
 perm:(out++(ra++rb)).Perm tot
 so:out.Pairwise λx y=>K x<=K y
 sa:ra.Pairwise λx y=>K x<=K y
 sb:rb.Pairwise λx y=>K x<=K y
 oa:∀x∈out,∀y∈ra,K x<=K y
 ob:∀x∈out,∀y∈rb,K x<=K y
theorem MG.xu{K:Keyed->Int}{tot out l ra rb:List Keyed}(h:MG K tot out (l++ra) rb)(hb:∀x∈l,∀y∈rb,K x<=K y):MG K tot (out++l) ra rb:=by
 have sa:=List.pairwise_append.mp h.sa
 refine⟨?_,List.pairwise_append.mpr ⟨h.so,sa.1,λx hx y hy=>h.oa x hx y (List.mem_append_left _ hy)⟩,sa.2.1,h.sb,λx hx y hy=> ?_,λx hx y hy=> ?_⟩
 ·have:=h.perm
  simpa [List.append_assoc]using this
 ·rcases List.mem_append.mp hx with q|q
  ·exact h.oa x q y (List.mem_append_right _ hy)
  ·exact sa.2.2 x q y hy
 ·rcases List.mem_append.mp hx with q|q
  ·exact h.ob x q y hy
  ·exact hb x q y hy
theorem MG.swap{K:Keyed->Int}{tot out ra rb:List Keyed}(h:MG K tot out ra rb):MG K tot out rb ra:=
 ⟨(List.Perm.append_left out List.perm_append_comm).trans h.perm,h.so,h.sb,h.sa,h.ob,h.oa⟩
theorem MG.tD{K:Keyed->Int}{tot out l ra rb:List Keyed}(h:MG K tot out ra (l++rb))(hb:∀x∈l,∀y∈ra,K x<=K y):MG K tot (out++l) ra rb:=(h.swap.xu hb).swap
theorem MG.gQ{K:Keyed->Int}{tot out ra rb:List Keyed}{x:Keyed}(h:MG K tot out (x::ra) rb)(hb:∀y∈rb,K x<=K y):MG K tot (out++ [x]) ra rb:=
 MG.xu (l:=[x]) h λz hz y hy=>by rw[List.mem_singleton.mp hz];exact hb y hy
theorem MG.pA{K:Keyed->Int}{tot out ra rb:List Keyed}{x:Keyed}(h:MG K tot out ra (x::rb))(hb:∀y∈ra,K x<=K y):MG K tot (out++ [x]) ra rb:=(h.swap.gQ hb).swap
noncomputable def Good(K:Keyed->Int)(tot r:List Keyed):Prop:=r.Perm tot/\r.Pairwise λx y=>K x<=K y
theorem MG.fin{K:Keyed->Int}{tot out ra rb r:List Keyed}(h:MG K tot out ra rb)(p:r.Perm (ra++rb))(s:r.Pairwise λx y=>K x<=K y):Good K tot (out++r):=by
 refine⟨(List.Perm.append_left out p).trans h.perm,List.pairwise_append.mpr ⟨h.so,s,λx hx y hy=> ?_⟩⟩
 rcases List.mem_append.mp (p.mem_iff.mp hy)with q|q
 ·exact h.oa x hx y q
 ·exact h.ob x hx y q
theorem eK{K:Keyed->Int}{x:Keyed}{l:List Keyed}(h:(x::l).Pairwise λx y=>K x<=K y):∀y∈x::l,K x<=K y:=λy hy=>by
 rcases List.mem_cons.mp hy with e|hy
 ·rw[e];exact Int.le_refl _
 ·exact(List.pairwise_cons.mp h).1 y hy
theorem Ng(a b:Array Keyed):Sd a b=(do
 rule "list.sort.merge-lo"
 let tt:=a.size+b.size
 let fin (o:Array Keyed) (i j:Nat):=o++a.extract i a.size++b.extract j b.size
 let fla (o:Array Keyed) (i j:Nat):=o++b.extract j b.size++a.extract i a.size
 let mut o:Array Keyed:= #[<-elem' b 0]
 let mut i:=0
 let mut j:=1
 if j==b.size then return fin o i j
 if i+1==a.size then return fla o i j
 let mut g:=gallopOf (<-get)
 for _ in [0:tt] do
  let mut ca:=0
  let mut cb:=0
  for _ in [0:tt] do
   let some bw<-lt' (<-elem' b j) (<-elem' a i)|return fin o i j
   if bw then
    o:=o.push (<-elem' b j);j:=j+1;cb:=cb+1;ca:=0
    if j==b.size then return fin o i j
    if cb≥g then break
   else
    o:=o.push (<-elem' a i);i:=i+1;ca:=ca+1;cb:=0
    if i+1==a.size then return fla o i j
    if ca≥g then break
  rule "list.sort.gallop"
  g:=g+1
  for _ in [0:tt] do
   if g>1 then g:=g-1
   Pr g
   let some k<-Kv false (<-elem' b j) a i (a.size-i) 0|return fin o i j
   ca:=k
   if k>0 then
    o:=o++a.extract i (i+k);i:=i+k
    if i+1==a.size then return fla o i j
    if i==a.size then return fin o i j
   o:=o.push (<-elem' b j);j:=j+1
   if j==b.size then return fin o i j
   let some k<-Kv true (<-elem' a i) b j (b.size-j) 0|return fin o i j
   cb:=k
   if k>0 then
    o:=o++b.extract j (j+k);j:=j+k
    if j==b.size then return fin o i j
   o:=o.push (<-elem' a i);i:=i+1
   if i+1==a.size then return fla o i j
   if ca<7 && cb<7 then break
  g:=g+1
  Pr g
 @unsupported _ "internal:list.sort.merge-bound"):=rfl
noncomputable def Sg(st st':SortSt):Prop:=kindOf st'=kindOf st/\arrOf st'=arrOf st/\pendingOf st'=pendingOf st/\failedOf st'=failedOf st
theorem Sg.refl(st:SortSt):Sg st st:=⟨rfl,rfl,rfl,rfl⟩
theorem Sg.set{st st':SortSt}(h:Sg st st')(g:Nat):Sg st (SortSt.mk' (kindOf st') (arrOf st') (pendingOf st') g (failedOf st')):=h
section
variable{prog:Program}{w:World}{A:Around}{E:Value->Shared->Prop}{s:Shared}{κ:SortKind}{K:Keyed->Int}{D:Keyed->Prop}{st:SortSt}
noncomputable def LI(K:Keyed->Int)(a b o:Array Keyed)(i j:Nat):Prop:=MG K (a.toList++b.toList) o.toList (a.toList.drop i) (b.toList.drop j)/\i+1<a.size/\j<b.size
theorem iI{a:Array Keyed}{i:Nat}(h:i<a.size):∃x,a[i]?=some x/\x∈a.toList/\a.toList.drop i=x::a.toList.drop (i+1):=
 ⟨a[i],getElem?_pos a i h,by simp,by rw[List.drop_eq_getElem_cons (by simpa using h)];simp⟩
theorem ir(a:Array Keyed)(i k:Nat):a.toList.drop i=(a.toList.drop i).take k++a.toList.drop (i+k):=by
 rw[<-List.drop_drop,List.take_append_drop]
theorem HV{o a b:Array Keyed}{i j:Nat}:(o++a.extract i a.size++b.extract j b.size).toList=o.toList++(a.toList.drop i++b.toList.drop j):=by
 have e1:List.take (a.size-i) (List.drop i a.toList)=List.drop i a.toList:=List.take_of_length_le (by simp)
 have e2:List.take (b.size-j) (List.drop j b.toList)=List.drop j b.toList:=List.take_of_length_le (by simp)
 simp[List.append_assoc,e1,e2]
theorem oH{a:Array Keyed}{i k:Nat}:(a.extract i (i+k)).toList=(a.toList.drop i).take k:=by
 simp[List.take_drop,Nat.add_comm]
theorem LI.fin{a b o:Array Keyed}{i j:Nat}(h:MG K (a.toList++b.toList) o.toList (a.toList.drop i) (b.toList.drop j))(hj:i=a.size∨j=b.size):Good K (a.toList++b.toList) (o++a.extract i a.size++b.extract j b.size).toList:=by
 rw[HV]
 refine h.fin (.refl _) ?_
 rcases hj with rfl|rfl
 ·rw[List.drop_eq_nil_of_le (by simp),List.nil_append]
  exact h.sb
 ·rw[List.drop_eq_nil_of_le (as:=b.toList) (by simp),List.append_nil]
  exact h.sa
theorem LI.fla{a b o:Array Keyed}{i j:Nat}(h:MG K (a.toList++b.toList) o.toList (a.toList.drop i) (b.toList.drop j))(hj:i+1=a.size)(hl:∀y∈b.toList,∀x∈a.toList.drop (a.size-1),K y<=K x):Good K (a.toList++b.toList) (o++b.extract j b.size++a.extract i a.size).toList:=by
 rw[HV]
 refine h.fin List.perm_append_comm (List.pairwise_append.mpr ⟨h.sb,h.sa,λy hy x hx=>hl y (List.mem_of_mem_drop hy) x ?_⟩)
 rw[<-hj,Nat.add_sub_cancel]
 exact hx
theorem Py(hL:qE prog w A E s κ K D){a b:Array Keyed}{Q:Array Keyed->SortSt->Prop}(hk:kindOf st=κ)(ha:0<a.size)(hb:0<b.size)(Da:∀x∈a.toList,D x)(Db:∀x∈b.toList,D x)
  (sa:a.toList.Pairwise λx y=>K x<=K y)(sb:b.toList.Pairwise λx y=>K x<=K y)(h1:∀y∈b.toList.take 1,∀x∈a.toList,K y<=K x)(h2:∀y∈b.toList,∀x∈a.toList.drop (a.size-1),K y<=K x)
  (hq:∀r st',Sg st st'->Good K (a.toList++b.toList) r.toList->Q r st'):wpS (model prog w) A E s (Sd a b) Q st:=by
 rw[Ng]
 refine wpS_bind (wpS_lift (wpAny_rule ⟨rfl,?_⟩))
 dsimp only
 obtain⟨b0,e0,m0,d0⟩:=iI (a:=b) (i:=0) hb
 refine wpS_bind (bg e0 ?_)
 have M0:MG K (a.toList++b.toList) (#[b0]:Array Keyed).toList (a.toList.drop 0) (b.toList.drop 1):=by
  refine⟨?_,List.pairwise_singleton _ _,sa,?_,λx hx y hy=> ?_,λx hx y hy=> ?_⟩
  ·show([b0]++(a.toList++b.toList.drop 1)).Perm _
   have e:b.toList=b0::b.toList.drop 1:=d0
   conv=>rhs;rw[e]
   exact(List.perm_middle (l₁:=a.toList) (l₂:=b.toList.drop 1) (a:=b0)).symm
  ·exact List.Pairwise.sublist (List.drop_sublist _ _) sb
  ·rw[List.mem_singleton.mp hx]
   have e:b.toList=b0::b.toList.drop 1:=d0
   exact h1 b0 (by rw[e];simp) y hy
  ·rw[List.mem_singleton.mp hx]
   have e:b.toList=b0::b.toList.drop 1:=d0
   rw[e]at sb
   exact eK sb y (List.mem_cons_of_mem _ hy)
 by_cases c1:(1==b.size)=true
 ·rw[if_pos c1]
  exact wpS_pure (hq _ _ (Sg.refl _) (LI.fin M0 (.inr (by simpa using c1))))
 rw[if_neg c1]
 by_cases c2:(0+1==a.size)=true
 ·rw[if_pos c2]
  exact wpS_pure (hq _ _ (Sg.refl _) (LI.fla M0 (by simpa using c2) h2))
 rw[if_neg c2]
 have n1:b.size≠1:=λe=>c1 (by rw[e];rfl)
 have n2:a.size≠1:=λe=>c2 (by rw[e];rfl)
 refine wpS_bind (wpS_get ?_)
 have L0:LI K a b #[b0] 0 1:=⟨M0,by omega,by omega⟩
 refine wpS_bind (wpS_mono (wpS_forRange (I:=λx c st'=>Sg st st'/\ ∃o i j g,c=(none,o,i,j,g)/\LI K a b o i j/\x<=i+j)
  (Q:=λc st'=>Sg st st'/\ ∃r z,c=(some r,z)/\Good K (a.toList++b.toList) r.toList) ?_ ?_ ⟨Sg.refl _,_,0,1,_,rfl,L0,by omega⟩) ?_)
 ·rintro x c s1 _ hx ⟨S1,o,i,j,g,rfl,I1,p1⟩
  dsimp only
  refine wpS_bind (wpS_mono (wpS_forRange (I:=λy c st'=>Sg st st'/\ ∃o i j ca cb,c=(none,o,i,j,ca,cb)/\LI K a b o i j/\y+x<=i+j)
   (Q:=λc st'=>Sg st st'/\((∃r z,c=(some r,z)/\Good K (a.toList++b.toList) r.toList)∨ ∃o i j ca cb,c=(none,o,i,j,ca,cb)/\LI K a b o i j/\x+1<=i+j)) ?_ ?_ ⟨S1,o,i,j,_,_,rfl,I1,by omega⟩) ?_)
  ·rintro y c s2 _ hy ⟨S2,o,i,j,ca,cb,rfl,⟨I2,l1,l2⟩,p2⟩
   dsimp only
   obtain⟨xb,eb,mb,db⟩:=iI (a:=b) (i:=j) l2
   obtain⟨xa,ea,ma,da⟩:=iI (a:=a) (i:=i) (by omega)
   have sa':=I2.sa
   have sb':=I2.sb
   rw[da]at sa'
   rw[db]at sb'
   refine wpS_bind (bg eb (wpS_bind (bg ea (wpS_bind (hL s2 xb xa _ (S2.1.trans hk) (Db _ mb) (Da _ ma) ?_)))))
   dsimp only
   by_cases lt:K xb<K xa
   ·rw[decide_eq_true lt,if_pos rfl]
    have I3:MG K (a.toList++b.toList) (o.push xb).toList (a.toList.drop i) (b.toList.drop (j+1)):=by
     rw[Array.toList_push]
     refine MG.pA (by rw[<-db];exact I2) λz hz=> ?_
     rw[da]at hz
     exact Int.le_trans (Int.le_of_lt lt) (eK sa' z hz)
    refine wpS_bind (bg eb ?_)
    by_cases c3:(j+1==b.size)=true
    ·rw[if_pos c3]
     exact wpS_pure ⟨S2,.inl ⟨_,_,rfl,LI.fin I3 (.inr (by simpa using c3))⟩⟩
    rw[if_neg c3]
    have n3:j+1≠b.size:=λe=>c3 (by rw[e];simp)
    split
    ·exact wpS_pure ⟨S2,.inr ⟨_,_,_,_,_,rfl,⟨I3,l1,by omega⟩,by omega⟩⟩
    ·exact wpS_pure ⟨S2,_,_,_,_,_,rfl,⟨I3,l1,by omega⟩,by omega⟩
   ·rw[decide_eq_false lt,if_neg (by simp)]
    have I3:MG K (a.toList++b.toList) (o.push xa).toList (a.toList.drop (i+1)) (b.toList.drop j):=by
     rw[Array.toList_push]
     refine MG.gQ (by rw[<-da];exact I2) λz hz=> ?_
     rw[db]at hz
     exact Int.le_trans (Int.not_lt.mp lt) (eK sb' z hz)
    refine wpS_bind (bg ea ?_)
    by_cases c3:(i+1+1==a.size)=true
    ·rw[if_pos c3]
     exact wpS_pure ⟨S2,.inl ⟨_,_,rfl,LI.fla I3 (by simpa using c3) h2⟩⟩
    rw[if_neg c3]
    have n3:i+1+1≠a.size:=λe=>c3 (by rw[e];simp)
    split
    ·exact wpS_pure ⟨S2,.inr ⟨_,_,_,_,_,rfl,⟨I3,by omega,l2⟩,by omega⟩⟩
    ·exact wpS_pure ⟨S2,_,_,_,_,_,rfl,⟨I3,by omega,l2⟩,by omega⟩
  ·rintro c s2 ⟨S2,o,i,j,ca,cb,rfl,⟨I2,l1,l2⟩,p2⟩
   omega
  ·rintro c s2 ⟨S2,⟨r,z,rfl,hr⟩|⟨o,i,j,ca,cb,rfl,I2,p2⟩⟩
   ·exact wpS_pure ⟨S2,r,_,rfl,hr⟩
   dsimp only
   refine wpS_bind (wpS_lift (wpAny_rule ⟨rfl,?_⟩))
   refine wpS_bind (wpS_mono (wpS_forRange (I:=λy c st'=>Sg st st'/\ ∃o i j g ca cb,c=(none,o,i,j,g,ca,cb)/\LI K a b o i j/\y+x+1<=i+j)
    (Q:=λc st'=>Sg st st'/\((∃r z,c=(some r,z)/\Good K (a.toList++b.toList) r.toList)∨ ∃o i j g ca cb,c=(none,o,i,j,g,ca,cb)/\LI K a b o i j/\x+1<=i+j)) ?_ ?_ ⟨S2,o,i,j,_,_,_,rfl,I2,by omega⟩) ?_)
   ·rintro y c s3 _ hy ⟨S3,o,i,j,g,ca,cb,rfl,⟨I2,l1,l2⟩,p2⟩
    dsimp only
    by_cases hg:g>1
    ·rw[if_pos hg]
     rw[rf]
     refine wpS_bind (wpS_modify ?_)
     obtain⟨xb,eb,mb,db⟩:=iI (a:=b) (i:=j) l2
     have sb':=I2.sb
     rw[db]at sb'
     refine wpS_bind (bg eb (wpS_bind (j8 hL ((S3.set _).1.trans hk) (a.toList.drop i) (λz hz=>by simp) (by simp) (λx hx=>Da x (List.mem_of_mem_drop hx)) (Db _ mb) I2.sa (by omega) λk hk1 t1 t2=> ?_)))
     simp only[Bool.false_eq_true,if_false]at t1 t2
     rw[List.drop_drop]at t2
     dsimp only
     have J:MG K (a.toList++b.toList) (o++a.extract i (i+k)).toList (a.toList.drop (i+k)) (b.toList.drop j):=by
      rw[Array.toList_append,oH]
      refine MG.xu (by rw[<-ir];exact I2) λx hx y hy=> ?_
      rw[db]at hy
      exact Int.le_trans (t1 x hx) (eK sb' y hy)
     have tJ:=t2
     by_cases hk0:k>0
     ·rw[if_pos hk0]
      by_cases c3:(i+k+1==a.size)=true
      ·rw[if_pos c3]
       exact wpS_pure ⟨S3.set _,.inl ⟨_,_,rfl,LI.fla J (by simpa using c3) h2⟩⟩
      rw[if_neg c3]
      have n3:i+k+1≠a.size:=λe=>c3 (by rw[e];simp)
      by_cases c4:(i+k==a.size)=true
      ·rw[if_pos c4]
       exact wpS_pure ⟨S3.set _,.inl ⟨_,_,rfl,LI.fin J (.inl (by simpa using c4))⟩⟩
      rw[if_neg c4]
      have n4:i+k≠a.size:=λe=>c4 (by rw[e];simp)
      obtain⟨xa,ea,ma,da⟩:=iI (a:=a) (i:=i+k) (by omega)
      have sa':=J.sa
      rw[da]at sa'
      have I4:MG K (a.toList++b.toList) ((o++a.extract i (i+k)).push xb).toList (a.toList.drop (i+k)) (b.toList.drop (j+1)):=by
       rw[Array.toList_push]
       exact MG.pA (by rw[<-db];exact J) λz hz=>Int.le_of_lt (tJ z hz)
      refine wpS_bind (bg eb ?_)
      by_cases c5:(j+1==b.size)=true
      ·rw[if_pos c5]
       exact wpS_pure ⟨S3.set _,.inl ⟨_,_,rfl,LI.fin I4 (.inr (by simpa using c5))⟩⟩
      rw[if_neg c5]
      have n5:j+1≠b.size:=λe=>c5 (by rw[e];simp)
      refine wpS_bind (bg ea (wpS_bind (j8 hL ((S3.set _).1.trans hk) (b.toList.drop (j+1)) (λz hz=>by simp) (by simp) (λx hx=>Db x (List.mem_of_mem_drop hx)) (Da _ ma) I4.sb (by omega) λk2 hk2 u1 u2=> ?_)))
      simp only[if_true]at u1 u2
      rw[List.drop_drop]at u2
      dsimp only
      have I5:MG K (a.toList++b.toList) ((o++a.extract i (i+k)).push xb++b.extract (j+1) (j+1+k2)).toList (a.toList.drop (i+k)) (b.toList.drop (j+1+k2)):=by
       rw[Array.toList_append,oH]
       refine MG.tD (by rw[<-ir];exact I4) λx hx y hy=> ?_
       rw[da]at hy
       exact Int.le_trans (Int.le_of_lt (u1 x hx)) (eK sa' y hy)
      by_cases hk2:k2>0
      ·rw[if_pos hk2]
       by_cases c6:(j+1+k2==b.size)=true
       ·rw[if_pos c6]
        exact wpS_pure ⟨S3.set _,.inl ⟨_,_,rfl,LI.fin I5 (.inr (by simpa using c6))⟩⟩
       rw[if_neg c6]
       have n6:j+1+k2≠b.size:=λe=>c6 (by rw[e];simp)
       have I6:MG K (a.toList++b.toList) (((o++a.extract i (i+k)).push xb++b.extract (j+1) (j+1+k2)).push xa).toList (a.toList.drop (i+k+1)) (b.toList.drop (j+1+k2)):=by
        rw[Array.toList_push]
        exact MG.gQ (by rw[<-da];exact I5) u2
       refine wpS_bind (bg ea ?_)
       by_cases c7:(i+k+1+1==a.size)=true
       ·rw[if_pos c7]
        exact wpS_pure ⟨S3.set _,.inl ⟨_,_,rfl,LI.fla I6 (by simpa using c7) h2⟩⟩
       rw[if_neg c7]
       have n7:i+k+1+1≠a.size:=λe=>c7 (by rw[e];simp)
       split
       ·exact wpS_pure ⟨S3.set _,.inr ⟨_,_,_,_,_,_,rfl,⟨I6,by omega,by omega⟩,by omega⟩⟩
       ·exact wpS_pure ⟨S3.set _,_,_,_,_,_,_,rfl,⟨I6,by omega,by omega⟩,by omega⟩
      ·rw[if_neg hk2]
       have z2:k2=0:=by omega
       subst z2
       have I6:MG K (a.toList++b.toList) (((o++a.extract i (i+k)).push xb).push xa).toList (a.toList.drop (i+k+1)) (b.toList.drop (j+1)):=by
        rw[Array.toList_push]
        exact MG.gQ (by rw[<-da];exact I4) u2
       refine wpS_bind (bg ea ?_)
       by_cases c7:(i+k+1+1==a.size)=true
       ·rw[if_pos c7]
        exact wpS_pure ⟨S3.set _,.inl ⟨_,_,rfl,LI.fla I6 (by simpa using c7) h2⟩⟩
       rw[if_neg c7]
       have n7:i+k+1+1≠a.size:=λe=>c7 (by rw[e];simp)
       split
       ·exact wpS_pure ⟨S3.set _,.inr ⟨_,_,_,_,_,_,rfl,⟨I6,by omega,by omega⟩,by omega⟩⟩
       ·exact wpS_pure ⟨S3.set _,_,_,_,_,_,_,rfl,⟨I6,by omega,by omega⟩,by omega⟩
     ·rw[if_neg hk0]
      have z0:k=0:=by omega
      subst z0
      replace J:=I2
      obtain⟨xa,ea,ma,da⟩:=iI (a:=a) (i:=i) (by omega)
      have sa':=J.sa
      rw[da]at sa'
      have I4:MG K (a.toList++b.toList) (o.push xb).toList (a.toList.drop (i)) (b.toList.drop (j+1)):=by
       rw[Array.toList_push]
       exact MG.pA (by rw[<-db];exact J) λz hz=>Int.le_of_lt (tJ z hz)
      refine wpS_bind (bg eb ?_)
      by_cases c5:(j+1==b.size)=true
      ·rw[if_pos c5]
       exact wpS_pure ⟨S3.set _,.inl ⟨_,_,rfl,LI.fin I4 (.inr (by simpa using c5))⟩⟩
      rw[if_neg c5]
      have n5:j+1≠b.size:=λe=>c5 (by rw[e];simp)
      refine wpS_bind (bg ea (wpS_bind (j8 hL ((S3.set _).1.trans hk) (b.toList.drop (j+1)) (λz hz=>by simp) (by simp) (λx hx=>Db x (List.mem_of_mem_drop hx)) (Da _ ma) I4.sb (by omega) λk2 hk2 u1 u2=> ?_)))
      simp only[if_true]at u1 u2
      rw[List.drop_drop]at u2
      dsimp only
      have I5:MG K (a.toList++b.toList) (o.push xb++b.extract (j+1) (j+1+k2)).toList (a.toList.drop (i)) (b.toList.drop (j+1+k2)):=by
       rw[Array.toList_append,oH]
       refine MG.tD (by rw[<-ir];exact I4) λx hx y hy=> ?_
       rw[da]at hy
       exact Int.le_trans (Int.le_of_lt (u1 x hx)) (eK sa' y hy)
      by_cases hk2:k2>0
      ·rw[if_pos hk2]
       by_cases c6:(j+1+k2==b.size)=true
       ·rw[if_pos c6]
        exact wpS_pure ⟨S3.set _,.inl ⟨_,_,rfl,LI.fin I5 (.inr (by simpa using c6))⟩⟩
       rw[if_neg c6]
       have n6:j+1+k2≠b.size:=λe=>c6 (by rw[e];simp)
       have I6:MG K (a.toList++b.toList) ((o.push xb++b.extract (j+1) (j+1+k2)).push xa).toList (a.toList.drop (i+1)) (b.toList.drop (j+1+k2)):=by
        rw[Array.toList_push]
        exact MG.gQ (by rw[<-da];exact I5) u2
       refine wpS_bind (bg ea ?_)
       by_cases c7:(i+1+1==a.size)=true
       ·rw[if_pos c7]
        exact wpS_pure ⟨S3.set _,.inl ⟨_,_,rfl,LI.fla I6 (by simpa using c7) h2⟩⟩
       rw[if_neg c7]
       have n7:i+1+1≠a.size:=λe=>c7 (by rw[e];simp)
       split
       ·exact wpS_pure ⟨S3.set _,.inr ⟨_,_,_,_,_,_,rfl,⟨I6,by omega,by omega⟩,by omega⟩⟩
       ·exact wpS_pure ⟨S3.set _,_,_,_,_,_,_,rfl,⟨I6,by omega,by omega⟩,by omega⟩
      ·rw[if_neg hk2]
       have z2:k2=0:=by omega
       subst z2
       have I6:MG K (a.toList++b.toList) ((o.push xb).push xa).toList (a.toList.drop (i+1)) (b.toList.drop (j+1)):=by
        rw[Array.toList_push]
        exact MG.gQ (by rw[<-da];exact I4) u2
       refine wpS_bind (bg ea ?_)
       by_cases c7:(i+1+1==a.size)=true
       ·rw[if_pos c7]
        exact wpS_pure ⟨S3.set _,.inl ⟨_,_,rfl,LI.fla I6 (by simpa using c7) h2⟩⟩
       rw[if_neg c7]
       have n7:i+1+1≠a.size:=λe=>c7 (by rw[e];simp)
       split
       ·exact wpS_pure ⟨S3.set _,.inr ⟨_,_,_,_,_,_,rfl,⟨I6,by omega,by omega⟩,by omega⟩⟩
       ·exact wpS_pure ⟨S3.set _,_,_,_,_,_,_,rfl,⟨I6,by omega,by omega⟩,by omega⟩
    ·rw[if_neg hg]
     rw[rf]
     refine wpS_bind (wpS_modify ?_)
     obtain⟨xb,eb,mb,db⟩:=iI (a:=b) (i:=j) l2
     have sb':=I2.sb
     rw[db]at sb'
     refine wpS_bind (bg eb (wpS_bind (j8 hL ((S3.set _).1.trans hk) (a.toList.drop i) (λz hz=>by simp) (by simp) (λx hx=>Da x (List.mem_of_mem_drop hx)) (Db _ mb) I2.sa (by omega) λk hk1 t1 t2=> ?_)))
     simp only[Bool.false_eq_true,if_false]at t1 t2
     rw[List.drop_drop]at t2
     dsimp only
     have J:MG K (a.toList++b.toList) (o++a.extract i (i+k)).toList (a.toList.drop (i+k)) (b.toList.drop j):=by
      rw[Array.toList_append,oH]
      refine MG.xu (by rw[<-ir];exact I2) λx hx y hy=> ?_
      rw[db]at hy
      exact Int.le_trans (t1 x hx) (eK sb' y hy)
     have tJ:=t2
     by_cases hk0:k>0
     ·rw[if_pos hk0]
      by_cases c3:(i+k+1==a.size)=true
      ·rw[if_pos c3]
       exact wpS_pure ⟨S3.set _,.inl ⟨_,_,rfl,LI.fla J (by simpa using c3) h2⟩⟩
      rw[if_neg c3]
      have n3:i+k+1≠a.size:=λe=>c3 (by rw[e];simp)
      by_cases c4:(i+k==a.size)=true
      ·rw[if_pos c4]
       exact wpS_pure ⟨S3.set _,.inl ⟨_,_,rfl,LI.fin J (.inl (by simpa using c4))⟩⟩
      rw[if_neg c4]
      have n4:i+k≠a.size:=λe=>c4 (by rw[e];simp)
      obtain⟨xa,ea,ma,da⟩:=iI (a:=a) (i:=i+k) (by omega)
      have sa':=J.sa
      rw[da]at sa'
      have I4:MG K (a.toList++b.toList) ((o++a.extract i (i+k)).push xb).toList (a.toList.drop (i+k)) (b.toList.drop (j+1)):=by
       rw[Array.toList_push]
       exact MG.pA (by rw[<-db];exact J) λz hz=>Int.le_of_lt (tJ z hz)
      refine wpS_bind (bg eb ?_)
      by_cases c5:(j+1==b.size)=true
      ·rw[if_pos c5]
       exact wpS_pure ⟨S3.set _,.inl ⟨_,_,rfl,LI.fin I4 (.inr (by simpa using c5))⟩⟩
      rw[if_neg c5]
      have n5:j+1≠b.size:=λe=>c5 (by rw[e];simp)
      refine wpS_bind (bg ea (wpS_bind (j8 hL ((S3.set _).1.trans hk) (b.toList.drop (j+1)) (λz hz=>by simp) (by simp) (λx hx=>Db x (List.mem_of_mem_drop hx)) (Da _ ma) I4.sb (by omega) λk2 hk2 u1 u2=> ?_)))
      simp only[if_true]at u1 u2
      rw[List.drop_drop]at u2
      dsimp only
      have I5:MG K (a.toList++b.toList) ((o++a.extract i (i+k)).push xb++b.extract (j+1) (j+1+k2)).toList (a.toList.drop (i+k)) (b.toList.drop (j+1+k2)):=by
       rw[Array.toList_append,oH]
       refine MG.tD (by rw[<-ir];exact I4) λx hx y hy=> ?_
       rw[da]at hy
       exact Int.le_trans (Int.le_of_lt (u1 x hx)) (eK sa' y hy)
      by_cases hk2:k2>0
      ·rw[if_pos hk2]
       by_cases c6:(j+1+k2==b.size)=true
       ·rw[if_pos c6]
        exact wpS_pure ⟨S3.set _,.inl ⟨_,_,rfl,LI.fin I5 (.inr (by simpa using c6))⟩⟩
       rw[if_neg c6]
       have n6:j+1+k2≠b.size:=λe=>c6 (by rw[e];simp)
       have I6:MG K (a.toList++b.toList) (((o++a.extract i (i+k)).push xb++b.extract (j+1) (j+1+k2)).push xa).toList (a.toList.drop (i+k+1)) (b.toList.drop (j+1+k2)):=by
        rw[Array.toList_push]
        exact MG.gQ (by rw[<-da];exact I5) u2
       refine wpS_bind (bg ea ?_)
       by_cases c7:(i+k+1+1==a.size)=true
       ·rw[if_pos c7]
        exact wpS_pure ⟨S3.set _,.inl ⟨_,_,rfl,LI.fla I6 (by simpa using c7) h2⟩⟩
       rw[if_neg c7]
       have n7:i+k+1+1≠a.size:=λe=>c7 (by rw[e];simp)
       split
       ·exact wpS_pure ⟨S3.set _,.inr ⟨_,_,_,_,_,_,rfl,⟨I6,by omega,by omega⟩,by omega⟩⟩
       ·exact wpS_pure ⟨S3.set _,_,_,_,_,_,_,rfl,⟨I6,by omega,by omega⟩,by omega⟩
      ·rw[if_neg hk2]
       have z2:k2=0:=by omega
       subst z2
       have I6:MG K (a.toList++b.toList) (((o++a.extract i (i+k)).push xb).push xa).toList (a.toList.drop (i+k+1)) (b.toList.drop (j+1)):=by
        rw[Array.toList_push]
        exact MG.gQ (by rw[<-da];exact I4) u2
       refine wpS_bind (bg ea ?_)
       by_cases c7:(i+k+1+1==a.size)=true
       ·rw[if_pos c7]
        exact wpS_pure ⟨S3.set _,.inl ⟨_,_,rfl,LI.fla I6 (by simpa using c7) h2⟩⟩
       rw[if_neg c7]
       have n7:i+k+1+1≠a.size:=λe=>c7 (by rw[e];simp)
       split
       ·exact wpS_pure ⟨S3.set _,.inr ⟨_,_,_,_,_,_,rfl,⟨I6,by omega,by omega⟩,by omega⟩⟩
       ·exact wpS_pure ⟨S3.set _,_,_,_,_,_,_,rfl,⟨I6,by omega,by omega⟩,by omega⟩
     ·rw[if_neg hk0]
      have z0:k=0:=by omega
      subst z0
      replace J:=I2
      obtain⟨xa,ea,ma,da⟩:=iI (a:=a) (i:=i) (by omega)
      have sa':=J.sa
      rw[da]at sa'
      have I4:MG K (a.toList++b.toList) (o.push xb).toList (a.toList.drop (i)) (b.toList.drop (j+1)):=by
       rw[Array.toList_push]
       exact MG.pA (by rw[<-db];exact J) λz hz=>Int.le_of_lt (tJ z hz)
      refine wpS_bind (bg eb ?_)
      by_cases c5:(j+1==b.size)=true
      ·rw[if_pos c5]
       exact wpS_pure ⟨S3.set _,.inl ⟨_,_,rfl,LI.fin I4 (.inr (by simpa using c5))⟩⟩
      rw[if_neg c5]
      have n5:j+1≠b.size:=λe=>c5 (by rw[e];simp)
      refine wpS_bind (bg ea (wpS_bind (j8 hL ((S3.set _).1.trans hk) (b.toList.drop (j+1)) (λz hz=>by simp) (by simp) (λx hx=>Db x (List.mem_of_mem_drop hx)) (Da _ ma) I4.sb (by omega) λk2 hk2 u1 u2=> ?_)))
      simp only[if_true]at u1 u2
      rw[List.drop_drop]at u2
      dsimp only
      have I5:MG K (a.toList++b.toList) (o.push xb++b.extract (j+1) (j+1+k2)).toList (a.toList.drop (i)) (b.toList.drop (j+1+k2)):=by
       rw[Array.toList_append,oH]
       refine MG.tD (by rw[<-ir];exact I4) λx hx y hy=> ?_
       rw[da]at hy
       exact Int.le_trans (Int.le_of_lt (u1 x hx)) (eK sa' y hy)
      by_cases hk2:k2>0
      ·rw[if_pos hk2]
       by_cases c6:(j+1+k2==b.size)=true
       ·rw[if_pos c6]
        exact wpS_pure ⟨S3.set _,.inl ⟨_,_,rfl,LI.fin I5 (.inr (by simpa using c6))⟩⟩
       rw[if_neg c6]
       have n6:j+1+k2≠b.size:=λe=>c6 (by rw[e];simp)
       have I6:MG K (a.toList++b.toList) ((o.push xb++b.extract (j+1) (j+1+k2)).push xa).toList (a.toList.drop (i+1)) (b.toList.drop (j+1+k2)):=by
        rw[Array.toList_push]
        exact MG.gQ (by rw[<-da];exact I5) u2
       refine wpS_bind (bg ea ?_)
       by_cases c7:(i+1+1==a.size)=true
       ·rw[if_pos c7]
        exact wpS_pure ⟨S3.set _,.inl ⟨_,_,rfl,LI.fla I6 (by simpa using c7) h2⟩⟩
       rw[if_neg c7]
       have n7:i+1+1≠a.size:=λe=>c7 (by rw[e];simp)
       split
       ·exact wpS_pure ⟨S3.set _,.inr ⟨_,_,_,_,_,_,rfl,⟨I6,by omega,by omega⟩,by omega⟩⟩
       ·exact wpS_pure ⟨S3.set _,_,_,_,_,_,_,rfl,⟨I6,by omega,by omega⟩,by omega⟩
      ·rw[if_neg hk2]
       have z2:k2=0:=by omega
       subst z2
       have I6:MG K (a.toList++b.toList) ((o.push xb).push xa).toList (a.toList.drop (i+1)) (b.toList.drop (j+1)):=by
        rw[Array.toList_push]
        exact MG.gQ (by rw[<-da];exact I4) u2
       refine wpS_bind (bg ea ?_)
       by_cases c7:(i+1+1==a.size)=true
       ·rw[if_pos c7]
        exact wpS_pure ⟨S3.set _,.inl ⟨_,_,rfl,LI.fla I6 (by simpa using c7) h2⟩⟩
       rw[if_neg c7]
       have n7:i+1+1≠a.size:=λe=>c7 (by rw[e];simp)
       split
       ·exact wpS_pure ⟨S3.set _,.inr ⟨_,_,_,_,_,_,rfl,⟨I6,by omega,by omega⟩,by omega⟩⟩
       ·exact wpS_pure ⟨S3.set _,_,_,_,_,_,_,rfl,⟨I6,by omega,by omega⟩,by omega⟩
   ·rintro c s3 ⟨S3,o,i,j,g,ca,cb,rfl,⟨I2,l1,l2⟩,p2⟩
    (clear p1 hx n2 n1 c2 c1 d0 e0 hq h2 h1 Db Da hb ha hk;omega)
   ·rintro c s3 ⟨S3,⟨r,z,rfl,hr⟩|⟨o,i,j,g,ca,cb,rfl,I2,p2⟩⟩
    ·exact wpS_pure ⟨S3,r,_,rfl,hr⟩
    dsimp only
    rw[rf]
    exact wpS_bind (wpS_modify (wpS_pure ⟨S3.set _,_,_,_,_,rfl,I2,by omega⟩))
 ·rintro c s1 ⟨S1,o,i,j,g,rfl,⟨I1,l1,l2⟩,p1⟩
  omega
 ·rintro c s1 ⟨S1,r,z,rfl,hr⟩
  exact wpS_pure (hq r s1 S1 hr)
end
theorem Nh(a b:Array Keyed):Se a b=(do
 rule "list.sort.merge-hi"
 let tt:=a.size+b.size
 let fin (o:Array Keyed) (i j:Nat):=a.extract 0 i++b.extract 0 j++o.reverse
 let BP (o:Array Keyed) (i j:Nat):=b.extract 0 j++a.extract 0 i++o.reverse
 let mut i:=a.size-1
 let mut j:=b.size
 let mut o:Array Keyed:= #[<-elem' a i]
 if i==0 then return fin o i j
 if j==1 then return BP o i j
 let mut g:=gallopOf (<-get)
 for _ in [0:tt] do
  let mut ca:=0
  let mut cb:=0
  for _ in [0:tt] do
   let some aw<-lt' (<-elem' b (j-1)) (<-elem' a (i-1))|return fin o i j
   if aw then
    i:=i-1;o:=o.push (<-elem' a i);ca:=ca+1;cb:=0
    if i==0 then return fin o i j
    if ca≥g then break
   else
    j:=j-1;o:=o.push (<-elem' b j);cb:=cb+1;ca:=0
    if j==1 then return BP o i j
    if cb≥g then break
  rule "list.sort.gallop"
  g:=g+1
  for _ in [0:tt] do
   if g>1 then g:=g-1
   Pr g
   let some at_<-Kv false (<-elem' b (j-1)) a 0 i (i-1)|return fin o i j
   let k:=i-at_
   ca:=k
   if k>0 then
    o:=o++(a.extract at_ i).reverse;i:=at_
    if i==0 then return fin o i j
   j:=j-1;o:=o.push (<-elem' b j)
   if j==1 then return BP o i j
   let some at_<-Kv true (<-elem' a (i-1)) b 0 j (j-1)|return fin o i j
   let k:=j-at_
   cb:=k
   if k>0 then
    o:=o++(b.extract at_ j).reverse;j:=at_
    if j==1 then return BP o i j
    if j==0 then return fin o i j
   i:=i-1;o:=o.push (<-elem' a i)
   if i==0 then return fin o i j
   if ca<7 && cb<7 then break
  g:=g+1
  Pr g
 @unsupported _ "internal:list.sort.merge-bound"):=rfl
section
variable{prog:Program}{w:World}{A:Around}{E:Value->Shared->Prop}{s:Shared}{κ:SortKind}{K:Keyed->Int}{D:Keyed->Prop}{st:SortSt}
noncomputable abbrev rv(a:Array Keyed)(i:Nat):List Keyed:=(a.toList.take i).reverse
noncomputable abbrev MH(K:Keyed->Int)(a b o:Array Keyed)(i j:Nat):Prop:=MG (λx=> -(K x)) (a.toList++b.toList) o.toList (rv a i) (rv b j)
theorem qF{a:Array Keyed}{i:Nat}(h0:0<i)(h:i<=a.size):∃x,a[i-1]?=some x/\x∈a.toList/\rv a i=x::rv a (i-1):=by
 have h1:i-1<a.toList.length:=by simp;omega
 refine⟨a[i-1]'(by omega),getElem?_pos a (i-1) (by omega),by simp,?_⟩
 have e:a.toList.take i=a.toList.take (i-1)++ [a[i-1]'(by omega)]:=by
  have:=List.take_add_one (l:=a.toList) (i:=i-1)
  rw[show i-1+1=i by omega]at this
  rw[this,List.getElem?_eq_getElem h1]
  simp
 show(a.toList.take i).reverse=_
 rw[e,List.reverse_append]
 rfl
theorem kZ(a:Array Keyed){i k:Nat}(h:k<=i):rv a i=((a.toList.take i).drop k).reverse++rv a k:=by
 show(a.toList.take i).reverse=_++(a.toList.take k).reverse
 rw[<-List.reverse_append]
 congr 1
 conv=>lhs;rw[<-List.take_append_drop k (a.toList.take i)]
 rw[List.take_take,Nat.min_eq_left h]
theorem rg{a:Array Keyed}{i k:Nat}:(a.extract k i).reverse.toList=((a.toList.take i).drop k).reverse:=by
 simp[List.drop_take]
theorem z4{K:Keyed->Int}{l:List Keyed}(h:l.Pairwise λx y=>K x<=K y):l.reverse.Pairwise λx y=> -(K x)<= -(K y):=
 List.pairwise_reverse.mpr (h.imp λq=>Int.neg_le_neg q)
theorem HW{K:Keyed->Int}{l:List Keyed}(h:l.Pairwise λx y=> -(K x)<= -(K y)):l.reverse.Pairwise λx y=>K x<=K y:=
 List.pairwise_reverse.mpr (h.imp λq=>by omega)
theorem Good.rev{K:Keyed->Int}{tot l:List Keyed}(h:Good (λx=> -(K x)) tot l):Good K tot l.reverse:=⟨(List.reverse_perm _).trans h.1,HW h.2⟩
theorem Pz{K:Keyed->Int}{a:Array Keyed}{i:Nat}(h:a.toList.Pairwise λx y=>K x<=K y):(rv a i).Pairwise λx y=> -(K x)<= -(K y):=z4 (List.Pairwise.sublist (List.take_sublist _ _) h)
theorem MH.fin{a b o:Array Keyed}{i j:Nat}(h:MH K a b o i j)(hj:i=0∨j=0):Good K (a.toList++b.toList) (a.extract 0 i++b.extract 0 j++o.reverse).toList:=by
 have e:(a.extract 0 i++b.extract 0 j++o.reverse).toList=(o.toList++(rv b j++rv a i)).reverse:=by
  simp[rv,List.reverse_append,List.append_assoc]
 rw[e]
 refine(MG.fin h List.perm_append_comm ?_).rev
 rcases hj with rfl|rfl
 ·rw[show rv a 0=[]from rfl,List.append_nil]
  exact h.sb
 ·rw[show rv b 0=[]from rfl,List.nil_append]
  exact h.sa
theorem MH.BP{a b o:Array Keyed}{i j:Nat}(h:MH K a b o i j)(hj:j=1)(hl:∀y∈b.toList.take 1,∀x∈a.toList,K y<=K x):Good K (a.toList++b.toList) (b.extract 0 j++a.extract 0 i++o.reverse).toList:=by
 have e:(b.extract 0 j++a.extract 0 i++o.reverse).toList=(o.toList++(rv a i++rv b j)).reverse:=by
  simp[rv,List.reverse_append,List.append_assoc]
 rw[e]
 refine(MG.fin h (.refl _) (List.pairwise_append.mpr ⟨h.sa,h.sb,λx hx y hy=> ?_⟩)).rev
 subst hj
 have:=hl y (List.mem_reverse.mp hy) x (List.mem_of_mem_take (List.mem_reverse.mp hx))
 show-(K x)<= -(K y)
 omega
theorem PB(hL:qE prog w A E s κ K D){a b:Array Keyed}{Q:Array Keyed->SortSt->Prop}(hk:kindOf st=κ)(ha:0<a.size)(hb:0<b.size)(Da:∀x∈a.toList,D x)(Db:∀x∈b.toList,D x)
  (sa:a.toList.Pairwise λx y=>K x<=K y)(sb:b.toList.Pairwise λx y=>K x<=K y)(h1:∀y∈b.toList.take 1,∀x∈a.toList,K y<=K x)(h2:∀y∈b.toList,∀x∈a.toList.drop (a.size-1),K y<=K x)
  (hq:∀r st',Sg st st'->Good K (a.toList++b.toList) r.toList->Q r st'):wpS (model prog w) A E s (Se a b) Q st:=by
 rw[Nh]
 refine wpS_bind (wpS_lift (wpAny_rule ⟨rfl,?_⟩))
 dsimp only
 obtain⟨a0,e0,m0,d0⟩:=qF (a:=a) (i:=a.size) ha (Nat.le_refl _)
 refine wpS_bind (bg e0 ?_)
 have M0:MH K a b #[a0] (a.size-1) b.size:=by
  have ea:a.toList.reverse=a0::rv a (a.size-1):=by
   rw[<-d0]
   show _=(a.toList.take a.size).reverse
   rw[List.take_of_length_le (by simp)]
  have eb:rv b b.size=b.toList.reverse:=by
   show(b.toList.take b.size).reverse=_
   rw[List.take_of_length_le (by simp)]
  have sa':=z4 sa
  rw[ea]at sa'
  refine⟨?_,List.pairwise_singleton _ _,(List.pairwise_cons.mp sa').2,Pz sb,λx hx y hy=> ?_,λx hx y hy=> ?_⟩
  ·show([a0]++(rv a (a.size-1)++rv b b.size)).Perm _
   rw[List.singleton_append,<-List.cons_append,<-ea,eb]
   exact List.Perm.append (List.reverse_perm _) (List.reverse_perm _)
  ·rw[List.mem_singleton.mp hx]
   exact(List.pairwise_cons.mp sa').1 y hy
  ·rw[List.mem_singleton.mp hx]
   have:K y<=K a0:=by
    refine h2 y (by rw[eb]at hy;exact List.mem_reverse.mp hy) a0 ?_
    obtain⟨x,e1,e2,e3⟩:=iI (a:=a) (i:=a.size-1) (by omega)
    rw[e0]at e1
    rw[e3,<-Option.some.inj e1]
    exact List.mem_cons_self
   show-(K a0)<= -(K y)
   omega
 by_cases c1:(a.size-1==0)=true
 ·rw[if_pos c1]
  exact wpS_pure (hq _ _ (Sg.refl _) (M0.fin (.inl (by simpa using c1))))
 rw[if_neg c1]
 by_cases c2:(b.size==1)=true
 ·rw[if_pos c2]
  exact wpS_pure (hq _ _ (Sg.refl _) (M0.BP (by simpa using c2) h1))
 rw[if_neg c2]
 have n1:a.size-1≠0:=λe=>c1 (by rw[e];rfl)
 have n2:b.size≠1:=λe=>c2 (by rw[e];rfl)
 refine wpS_bind (wpS_get ?_)
 refine wpS_bind (wpS_mono (wpS_forRange (I:=λx c st'=>Sg st st'/\ ∃i j o g,c=(none,i,j,o,g)/\(MH K a b o i j/\0<i/\i<=a.size/\1<j/\j<=b.size)/\x+i+j<=a.size+b.size)
  (Q:=λc st'=>Sg st st'/\ ∃r z,c=(some r,z)/\Good K (a.toList++b.toList) r.toList) ?_ ?_ ⟨Sg.refl _,_,_,_,_,rfl,⟨M0,by omega,by omega,by omega,by omega⟩,by omega⟩) ?_)
 ·rintro x c s1 _ hx ⟨S1,i,j,o,g,rfl,I1,p1⟩
  dsimp only
  refine wpS_bind (wpS_mono (wpS_forRange (I:=λy c st'=>Sg st st'/\ ∃i j o ca cb,c=(none,i,j,o,ca,cb)/\(MH K a b o i j/\0<i/\i<=a.size/\1<j/\j<=b.size)/\y+x+i+j<=a.size+b.size)
   (Q:=λc st'=>Sg st st'/\((∃r z,c=(some r,z)/\Good K (a.toList++b.toList) r.toList)∨ ∃i j o ca cb,c=(none,i,j,o,ca,cb)/\(MH K a b o i j/\0<i/\i<=a.size/\1<j/\j<=b.size)/\x+1+i+j<=a.size+b.size)) ?_ ?_ ⟨S1,i,j,o,_,_,rfl,I1,by omega⟩) ?_)
  ·rintro y c s2 _ hy ⟨S2,i,j,o,ca,cb,rfl,⟨I2,l1,l2,l3,l4⟩,p2⟩
   dsimp only
   obtain⟨xb,eb,mb,db⟩:=qF (a:=b) (i:=j) (by omega) l4
   obtain⟨xa,ea,ma,da⟩:=qF (a:=a) (i:=i) l1 l2
   have sa':=I2.sa
   have sb':=I2.sb
   rw[da]at sa'
   rw[db]at sb'
   refine wpS_bind (bg eb (wpS_bind (bg ea (wpS_bind (hL s2 xb xa _ (S2.1.trans hk) (Db _ mb) (Da _ ma) ?_)))))
   dsimp only
   by_cases lt:K xb<K xa
   ·rw[decide_eq_true lt,if_pos rfl]
    have I3:MH K a b (o.push xa) (i-1) j:=by
     show MG _ _ (o.push xa).toList _ _
     rw[Array.toList_push]
     refine MG.gQ (by rw[<-da];exact I2) λz hz=> ?_
     rw[db]at hz
     exact Int.le_trans (by show-(K xa)<= -(K xb);omega) (eK sb' z hz)
    refine wpS_bind (bg ea ?_)
    by_cases c3:(i-1==0)=true
    ·rw[if_pos c3]
     exact wpS_pure ⟨S2,.inl ⟨_,_,rfl,I3.fin (.inl (by simpa using c3))⟩⟩
    rw[if_neg c3]
    have n3:i-1≠0:=λe=>c3 (by rw[e];rfl)
    split
    ·exact wpS_pure ⟨S2,.inr ⟨_,_,_,_,_,rfl,⟨I3,by omega,by omega,by omega,by omega⟩,by omega⟩⟩
    ·exact wpS_pure ⟨S2,_,_,_,_,_,rfl,⟨I3,by omega,by omega,by omega,by omega⟩,by omega⟩
   ·rw[decide_eq_false lt,if_neg (by simp)]
    have I3:MH K a b (o.push xb) i (j-1):=by
     show MG _ _ (o.push xb).toList _ _
     rw[Array.toList_push]
     refine MG.pA (by rw[<-db];exact I2) λz hz=> ?_
     rw[da]at hz
     exact Int.le_trans (by show-(K xb)<= -(K xa);omega) (eK sa' z hz)
    refine wpS_bind (bg eb ?_)
    by_cases c3:(j-1==1)=true
    ·rw[if_pos c3]
     exact wpS_pure ⟨S2,.inl ⟨_,_,rfl,I3.BP (by simpa using c3) h1⟩⟩
    rw[if_neg c3]
    have n3:j-1≠1:=λe=>c3 (by rw[e];rfl)
    split
    ·exact wpS_pure ⟨S2,.inr ⟨_,_,_,_,_,rfl,⟨I3,by omega,by omega,by(clear c3 lt da ea db eb l4 l2 l1 p2 hy p1 I1 hx n2 n1 c2 c1 d0 e0 hq h2 h1 Db Da hb ha hk;omega),by omega⟩,by omega⟩⟩
    ·exact wpS_pure ⟨S2,_,_,_,_,_,rfl,⟨I3,by omega,by omega,by(clear c3 lt da ea db eb l4 l2 l1 p2 hy p1 I1 hx n2 n1 c2 c1 d0 e0 hq h2 h1 Db Da hb ha hk;omega),by omega⟩,by omega⟩
  ·rintro c s2 ⟨S2,i,j,o,ca,cb,rfl,⟨I2,l1,l2,l3,l4⟩,p2⟩
   omega
  ·rintro c s2 ⟨S2,⟨r,z,rfl,hr⟩|⟨i,j,o,ca,cb,rfl,I2,p2⟩⟩
   ·exact wpS_pure ⟨S2,r,_,rfl,hr⟩
   dsimp only
   refine wpS_bind (wpS_lift (wpAny_rule ⟨rfl,?_⟩))
   refine wpS_bind (wpS_mono (wpS_forRange (I:=λy c st'=>Sg st st'/\ ∃i j o g ca cb,c=(none,i,j,o,g,ca,cb)/\(MH K a b o i j/\0<i/\i<=a.size/\1<j/\j<=b.size)/\y+x+1+i+j<=a.size+b.size)
    (Q:=λc st'=>Sg st st'/\((∃r z,c=(some r,z)/\Good K (a.toList++b.toList) r.toList)∨ ∃i j o g ca cb,c=(none,i,j,o,g,ca,cb)/\(MH K a b o i j/\0<i/\i<=a.size/\1<j/\j<=b.size)/\x+1+i+j<=a.size+b.size)) ?_ ?_ ⟨S2,_,_,_,_,_,_,rfl,I2,by omega⟩) ?_)
   ·rintro y c s3 _ hy ⟨S3,i,j,o,g,ca,cb,rfl,⟨I2,l1,l2,l3,l4⟩,p2⟩
    dsimp only
    by_cases hg:g>1
    ·rw[if_pos hg]
     rw[rf]
     refine wpS_bind (wpS_modify ?_)
     obtain⟨xb,eb,mb,db⟩:=qF (a:=b) (i:=j) (by omega) l4
     have sb':=I2.sb
     rw[db]at sb'
     refine wpS_bind (bg eb (wpS_bind (j8 hL ((S3.set _).1.trans hk) (a.toList.take i) (λz hz=>by rw[Nat.zero_add,List.getElem?_take_of_lt hz];simp) (by simp;omega) (λx hx=>Da x (List.mem_of_mem_take hx)) (Db _ mb) (List.Pairwise.sublist (List.take_sublist _ _) sa) (by omega) λk hk1 t1 t2=> ?_)))
     simp only[Bool.false_eq_true,if_false]at t1 t2
     rw[List.take_take,Nat.min_eq_left hk1]at t1
     dsimp only
     have J:MH K a b (o++(a.extract k i).reverse) k j:=by
      show MG _ _ (o++(a.extract k i).reverse).toList _ _
      rw[Array.toList_append,rg]
      refine MG.xu (by rw[<-kZ a hk1];exact I2) λx hx y hy=> ?_
      rw[db]at hy
      have:=t2 x (List.mem_reverse.mp hx)
      exact Int.le_trans (by show-(K x)<= -(K xb);omega) (eK sb' y hy)
     have tJ:=t1
     by_cases hk0:i-k>0
     ·rw[if_pos hk0]
      by_cases c4:(k==0)=true
      ·rw[if_pos c4]
       exact wpS_pure ⟨S3.set _,.inl ⟨_,_,rfl,J.fin (.inl (by simpa using c4))⟩⟩
      rw[if_neg c4]
      have n4:k≠0:=λe=>c4 (by rw[e];rfl)
      obtain⟨xa,ea,ma,da⟩:=qF (a:=a) (i:=k) (by omega) (by omega)
      have sa':=J.sa
      rw[da]at sa'
      have I4:MH K a b ((o++(a.extract k i).reverse).push xb) (k) (j-1):=by
       show MG _ _ ((o++(a.extract k i).reverse).push xb).toList _ _
       rw[Array.toList_push]
       refine MG.pA (by rw[<-db];exact J) λz hz=> ?_
       have:=tJ z (List.mem_reverse.mp hz)
       show-(K xb)<= -(K z)
       omega
      refine wpS_bind (bg eb ?_)
      by_cases c5:(j-1==1)=true
      ·rw[if_pos c5]
       exact wpS_pure ⟨S3.set _,.inl ⟨_,_,rfl,I4.BP (by simpa using c5) h1⟩⟩
      rw[if_neg c5]
      have n5:j-1≠1:=λe=>c5 (by rw[e];rfl)
      refine wpS_bind (bg ea (wpS_bind (j8 hL ((S3.set _).1.trans hk) (b.toList.take (j-1)) (λz hz=>by rw[Nat.zero_add,List.getElem?_take_of_lt hz];simp) (by simp;(clear n5 c5 da ea n4 c4 hk0 tJ t2 t1 hk1 db eb hg l2 l1 p2 hy p1 I1 hx n2 n1 c2 c1 d0 e0 hq h2 h1 Db Da hb ha hk;omega)) (λx hx=>Db x (List.mem_of_mem_take hx)) (Da _ ma) (List.Pairwise.sublist (List.take_sublist _ _) sb) (by omega) λk2 hk2 u1 u2=> ?_)))
      simp only[if_true]at u1 u2
      rw[List.take_take,Nat.min_eq_left hk2]at u1
      dsimp only
      have I5:MH K a b ((o++(a.extract k i).reverse).push xb++(b.extract k2 (j-1)).reverse) (k) k2:=by
       show MG _ _ ((o++(a.extract k i).reverse).push xb++(b.extract k2 (j-1)).reverse).toList _ _
       rw[Array.toList_append,rg]
       refine MG.tD (by rw[<-kZ b hk2];exact I4) λx hx y hy=> ?_
       rw[da]at hy
       have:=u2 x (List.mem_reverse.mp hx)
       exact Int.le_trans (by show-(K x)<= -(K xa);omega) (eK sa' y hy)
      have cy:∀y∈rv b k2,-(K xa)<= -(K y):=λy hy=>by
       have:=u1 y (List.mem_reverse.mp hy)
       omega
      by_cases uQ:j-1-k2>0
      ·rw[if_pos uQ]
       by_cases c6:(k2==1)=true
       ·rw[if_pos c6]
        exact wpS_pure ⟨S3.set _,.inl ⟨_,_,rfl,I5.BP (by simpa using c6) h1⟩⟩
       rw[if_neg c6]
       have n6:k2≠1:=λe=>c6 (by rw[e];rfl)
       by_cases c8:(k2==0)=true
       ·rw[if_pos c8]
        exact wpS_pure ⟨S3.set _,.inl ⟨_,_,rfl,I5.fin (.inr (by simpa using c8))⟩⟩
       rw[if_neg c8]
       have n8:k2≠0:=λe=>c8 (by rw[e];rfl)
       have I6:MH K a b (((o++(a.extract k i).reverse).push xb++(b.extract k2 (j-1)).reverse).push xa) (k-1) k2:=by
        show MG _ _ (((o++(a.extract k i).reverse).push xb++(b.extract k2 (j-1)).reverse).push xa).toList _ _
        rw[Array.toList_push]
        exact MG.gQ (by rw[<-da];exact I5) cy
       refine wpS_bind (bg ea ?_)
       by_cases c7:(k-1==0)=true
       ·rw[if_pos c7]
        exact wpS_pure ⟨S3.set _,.inl ⟨_,_,rfl,I6.fin (.inl (by simpa using c7))⟩⟩
       rw[if_neg c7]
       have n7:k-1≠0:=λe=>c7 (by rw[e];rfl)
       split
       ·exact wpS_pure ⟨S3.set _,.inr ⟨_,_,_,_,_,_,rfl,⟨I6,by omega,by omega,by omega,by(clear c7 c8 c6 cy u2 u1 hk2 n5 c5 da ea n4 c4 hk0 tJ t2 t1 hk1 db eb hg l3 l2 l1 p2 hy p1 I1 hx n2 n1 c2 c1 d0 e0 hq h2 h1 Db Da hb ha hk;omega)⟩,by(clear c7 c8 c6 cy u2 u1 hk2 n5 c5 da ea n4 c4 hk0 tJ t2 t1 db eb hg l4 l3 l2 l1 hy p1 I1 hx n2 n1 c2 c1 d0 e0 hq h2 h1 Db Da hb ha hk;omega)⟩⟩
       ·exact wpS_pure ⟨S3.set _,_,_,_,_,_,_,rfl,⟨I6,by omega,by omega,by omega,by(clear c7 c8 c6 cy u2 u1 hk2 n5 c5 da ea n4 c4 hk0 tJ t2 t1 hk1 db eb hg l3 l2 l1 p2 hy p1 I1 hx n2 n1 c2 c1 d0 e0 hq h2 h1 Db Da hb ha hk;omega)⟩,by(clear c7 c8 c6 cy u2 u1 hk2 n5 c5 da ea n4 c4 hk0 tJ t2 t1 db eb hg l4 l3 l2 l1 hy p1 I1 hx n2 n1 c2 c1 d0 e0 hq h2 h1 Db Da hb ha hk;omega)⟩
      ·rw[if_neg uQ]
       have z2:k2=j-1:=by(clear cy u2 u1 n5 c5 da ea n4 c4 hk0 tJ t2 t1 hk1 db eb hg l4 l2 l1 p2 hy p1 I1 hx n2 n1 c2 c1 d0 e0 hq h2 h1 Db Da hb ha hk;omega)
       subst z2
       have I6:MH K a b (((o++(a.extract k i).reverse).push xb).push xa) (k-1) (j-1):=by
        show MG _ _ (((o++(a.extract k i).reverse).push xb).push xa).toList _ _
        rw[Array.toList_push]
        exact MG.gQ (by rw[<-da];exact I4) cy
       refine wpS_bind (bg ea ?_)
       by_cases c7:(k-1==0)=true
       ·rw[if_pos c7]
        exact wpS_pure ⟨S3.set _,.inl ⟨_,_,rfl,I6.fin (.inl (by simpa using c7))⟩⟩
       rw[if_neg c7]
       have n7:k-1≠0:=λe=>c7 (by rw[e];rfl)
       split
       ·exact wpS_pure ⟨S3.set _,.inr ⟨_,_,_,_,_,_,rfl,⟨I6,by omega,by omega,by(clear c7 cy u2 u1 hk2 c5 da ea n4 c4 hk0 tJ t2 t1 hk1 db eb hg l4 l2 l1 p2 hy p1 I1 hx n2 n1 c2 c1 d0 e0 hq h2 h1 Db Da hb ha hk;omega),by(clear c7 cy u2 u1 hk2 n5 c5 da ea n4 c4 hk0 tJ t2 t1 hk1 db eb hg l2 l1 p2 hy p1 I1 hx n2 n1 c2 c1 d0 e0 hq h2 h1 Db Da hb ha hk;omega)⟩,by(clear c7 cy u2 u1 hk2 n5 c5 da ea n4 c4 hk0 tJ t2 t1 db eb hg l4 l2 l1 hy p1 I1 hx n2 n1 c2 c1 d0 e0 hq h2 h1 Db Da hb ha hk;omega)⟩⟩
       ·exact wpS_pure ⟨S3.set _,_,_,_,_,_,_,rfl,⟨I6,by omega,by omega,by(clear c7 cy u2 u1 hk2 c5 da ea n4 c4 hk0 tJ t2 t1 hk1 db eb hg l4 l2 l1 p2 hy p1 I1 hx n2 n1 c2 c1 d0 e0 hq h2 h1 Db Da hb ha hk;omega),by(clear c7 cy u2 u1 hk2 n5 c5 da ea n4 c4 hk0 tJ t2 t1 hk1 db eb hg l2 l1 p2 hy p1 I1 hx n2 n1 c2 c1 d0 e0 hq h2 h1 Db Da hb ha hk;omega)⟩,by(clear c7 cy u2 u1 hk2 n5 c5 da ea n4 c4 hk0 tJ t2 t1 db eb hg l4 l2 l1 hy p1 I1 hx n2 n1 c2 c1 d0 e0 hq h2 h1 Db Da hb ha hk;omega)⟩
     ·rw[if_neg hk0]
      have z0:k=i:=by omega
      subst z0
      replace J:=I2
      obtain⟨xa,ea,ma,da⟩:=qF (a:=a) (i:=k) (by omega) (by omega)
      have sa':=J.sa
      rw[da]at sa'
      have I4:MH K a b (o.push xb) (k) (j-1):=by
       show MG _ _ (o.push xb).toList _ _
       rw[Array.toList_push]
       refine MG.pA (by rw[<-db];exact J) λz hz=> ?_
       have:=tJ z (List.mem_reverse.mp hz)
       show-(K xb)<= -(K z)
       omega
      refine wpS_bind (bg eb ?_)
      by_cases c5:(j-1==1)=true
      ·rw[if_pos c5]
       exact wpS_pure ⟨S3.set _,.inl ⟨_,_,rfl,I4.BP (by simpa using c5) h1⟩⟩
      rw[if_neg c5]
      have n5:j-1≠1:=λe=>c5 (by rw[e];rfl)
      refine wpS_bind (bg ea (wpS_bind (j8 hL ((S3.set _).1.trans hk) (b.toList.take (j-1)) (λz hz=>by rw[Nat.zero_add,List.getElem?_take_of_lt hz];simp) (by simp;(clear n5 c5 da ea hk0 t2 hk1 l2 l1 p2 tJ t1 db eb hg hy p1 I1 hx n2 n1 c2 c1 d0 e0 hq h2 h1 Db Da hb ha hk;omega)) (λx hx=>Db x (List.mem_of_mem_take hx)) (Da _ ma) (List.Pairwise.sublist (List.take_sublist _ _) sb) (by omega) λk2 hk2 u1 u2=> ?_)))
      simp only[if_true]at u1 u2
      rw[List.take_take,Nat.min_eq_left hk2]at u1
      dsimp only
      have I5:MH K a b (o.push xb++(b.extract k2 (j-1)).reverse) (k) k2:=by
       show MG _ _ (o.push xb++(b.extract k2 (j-1)).reverse).toList _ _
       rw[Array.toList_append,rg]
       refine MG.tD (by rw[<-kZ b hk2];exact I4) λx hx y hy=> ?_
       rw[da]at hy
       have:=u2 x (List.mem_reverse.mp hx)
       exact Int.le_trans (by show-(K x)<= -(K xa);omega) (eK sa' y hy)
      have cy:∀y∈rv b k2,-(K xa)<= -(K y):=λy hy=>by
       have:=u1 y (List.mem_reverse.mp hy)
       omega
      by_cases uQ:j-1-k2>0
      ·rw[if_pos uQ]
       by_cases c6:(k2==1)=true
       ·rw[if_pos c6]
        exact wpS_pure ⟨S3.set _,.inl ⟨_,_,rfl,I5.BP (by simpa using c6) h1⟩⟩
       rw[if_neg c6]
       have n6:k2≠1:=λe=>c6 (by rw[e];rfl)
       by_cases c8:(k2==0)=true
       ·rw[if_pos c8]
        exact wpS_pure ⟨S3.set _,.inl ⟨_,_,rfl,I5.fin (.inr (by simpa using c8))⟩⟩
       rw[if_neg c8]
       have n8:k2≠0:=λe=>c8 (by rw[e];rfl)
       have I6:MH K a b ((o.push xb++(b.extract k2 (j-1)).reverse).push xa) (k-1) k2:=by
        show MG _ _ ((o.push xb++(b.extract k2 (j-1)).reverse).push xa).toList _ _
        rw[Array.toList_push]
        exact MG.gQ (by rw[<-da];exact I5) cy
       refine wpS_bind (bg ea ?_)
       by_cases c7:(k-1==0)=true
       ·rw[if_pos c7]
        exact wpS_pure ⟨S3.set _,.inl ⟨_,_,rfl,I6.fin (.inl (by simpa using c7))⟩⟩
       rw[if_neg c7]
       have n7:k-1≠0:=λe=>c7 (by rw[e];rfl)
       split
       ·exact wpS_pure ⟨S3.set _,.inr ⟨_,_,_,_,_,_,rfl,⟨I6,by omega,by omega,by omega,by omega⟩,by omega⟩⟩
       ·exact wpS_pure ⟨S3.set _,_,_,_,_,_,_,rfl,⟨I6,by omega,by omega,by omega,by omega⟩,by omega⟩
      ·rw[if_neg uQ]
       have z2:k2=j-1:=by(clear cy u2 u1 n5 c5 da ea hk0 t2 hk1 l2 l1 p2 tJ t1 db eb hg l4 hy p1 I1 hx n2 n1 c2 c1 d0 e0 hq h2 h1 Db Da hb ha hk;omega)
       subst z2
       have I6:MH K a b ((o.push xb).push xa) (k-1) (j-1):=by
        show MG _ _ ((o.push xb).push xa).toList _ _
        rw[Array.toList_push]
        exact MG.gQ (by rw[<-da];exact I4) cy
       refine wpS_bind (bg ea ?_)
       by_cases c7:(k-1==0)=true
       ·rw[if_pos c7]
        exact wpS_pure ⟨S3.set _,.inl ⟨_,_,rfl,I6.fin (.inl (by simpa using c7))⟩⟩
       rw[if_neg c7]
       have n7:k-1≠0:=λe=>c7 (by rw[e];rfl)
       split
       ·exact wpS_pure ⟨S3.set _,.inr ⟨_,_,_,_,_,_,rfl,⟨I6,by omega,by omega,by(clear c7 cy u2 u1 hk2 c5 da ea hk0 t2 hk1 l2 p2 tJ t1 db eb hg l4 hy p1 I1 hx n2 n1 c2 c1 d0 e0 hq h2 h1 Db Da hb ha hk;omega),by(clear c7 cy u2 u1 hk2 n5 c5 da ea hk0 t2 hk1 l2 p2 tJ t1 db eb hg hy p1 I1 hx n2 n1 c2 c1 d0 e0 hq h2 h1 Db Da hb ha hk;omega)⟩,by(clear c7 cy u2 u1 hk2 n5 c5 da ea hk0 t2 hk1 l2 tJ t1 db eb hg l4 hy p1 I1 hx n2 n1 c2 c1 d0 e0 hq h2 h1 Db Da hb ha hk;omega)⟩⟩
       ·exact wpS_pure ⟨S3.set _,_,_,_,_,_,_,rfl,⟨I6,by omega,by omega,by(clear c7 cy u2 u1 hk2 c5 da ea hk0 t2 hk1 l2 p2 tJ t1 db eb hg l4 hy p1 I1 hx n2 n1 c2 c1 d0 e0 hq h2 h1 Db Da hb ha hk;omega),by(clear c7 cy u2 u1 hk2 n5 c5 da ea hk0 t2 hk1 l2 p2 tJ t1 db eb hg hy p1 I1 hx n2 n1 c2 c1 d0 e0 hq h2 h1 Db Da hb ha hk;omega)⟩,by(clear c7 cy u2 u1 hk2 n5 c5 da ea hk0 t2 hk1 l2 tJ t1 db eb hg l4 hy p1 I1 hx n2 n1 c2 c1 d0 e0 hq h2 h1 Db Da hb ha hk;omega)⟩
    ·rw[if_neg hg]
     rw[rf]
     refine wpS_bind (wpS_modify ?_)
     obtain⟨xb,eb,mb,db⟩:=qF (a:=b) (i:=j) (by omega) l4
     have sb':=I2.sb
     rw[db]at sb'
     refine wpS_bind (bg eb (wpS_bind (j8 hL ((S3.set _).1.trans hk) (a.toList.take i) (λz hz=>by rw[Nat.zero_add,List.getElem?_take_of_lt hz];simp) (by simp;omega) (λx hx=>Da x (List.mem_of_mem_take hx)) (Db _ mb) (List.Pairwise.sublist (List.take_sublist _ _) sa) (by omega) λk hk1 t1 t2=> ?_)))
     simp only[Bool.false_eq_true,if_false]at t1 t2
     rw[List.take_take,Nat.min_eq_left hk1]at t1
     dsimp only
     have J:MH K a b (o++(a.extract k i).reverse) k j:=by
      show MG _ _ (o++(a.extract k i).reverse).toList _ _
      rw[Array.toList_append,rg]
      refine MG.xu (by rw[<-kZ a hk1];exact I2) λx hx y hy=> ?_
      rw[db]at hy
      have:=t2 x (List.mem_reverse.mp hx)
      exact Int.le_trans (by show-(K x)<= -(K xb);omega) (eK sb' y hy)
     have tJ:=t1
     by_cases hk0:i-k>0
     ·rw[if_pos hk0]
      by_cases c4:(k==0)=true
      ·rw[if_pos c4]
       exact wpS_pure ⟨S3.set _,.inl ⟨_,_,rfl,J.fin (.inl (by simpa using c4))⟩⟩
      rw[if_neg c4]
      have n4:k≠0:=λe=>c4 (by rw[e];rfl)
      obtain⟨xa,ea,ma,da⟩:=qF (a:=a) (i:=k) (by omega) (by omega)
      have sa':=J.sa
      rw[da]at sa'
      have I4:MH K a b ((o++(a.extract k i).reverse).push xb) (k) (j-1):=by
       show MG _ _ ((o++(a.extract k i).reverse).push xb).toList _ _
       rw[Array.toList_push]
       refine MG.pA (by rw[<-db];exact J) λz hz=> ?_
       have:=tJ z (List.mem_reverse.mp hz)
       show-(K xb)<= -(K z)
       omega
      refine wpS_bind (bg eb ?_)
      by_cases c5:(j-1==1)=true
      ·rw[if_pos c5]
       exact wpS_pure ⟨S3.set _,.inl ⟨_,_,rfl,I4.BP (by simpa using c5) h1⟩⟩
      rw[if_neg c5]
      have n5:j-1≠1:=λe=>c5 (by rw[e];rfl)
      refine wpS_bind (bg ea (wpS_bind (j8 hL ((S3.set _).1.trans hk) (b.toList.take (j-1)) (λz hz=>by rw[Nat.zero_add,List.getElem?_take_of_lt hz];simp) (by simp;(clear n5 c5 da ea n4 c4 hk0 tJ t2 t1 hk1 db eb hg l2 l1 p2 hy p1 I1 hx n2 n1 c2 c1 d0 e0 hq h2 h1 Db Da hb ha hk;omega)) (λx hx=>Db x (List.mem_of_mem_take hx)) (Da _ ma) (List.Pairwise.sublist (List.take_sublist _ _) sb) (by omega) λk2 hk2 u1 u2=> ?_)))
      simp only[if_true]at u1 u2
      rw[List.take_take,Nat.min_eq_left hk2]at u1
      dsimp only
      have I5:MH K a b ((o++(a.extract k i).reverse).push xb++(b.extract k2 (j-1)).reverse) (k) k2:=by
       show MG _ _ ((o++(a.extract k i).reverse).push xb++(b.extract k2 (j-1)).reverse).toList _ _
       rw[Array.toList_append,rg]
       refine MG.tD (by rw[<-kZ b hk2];exact I4) λx hx y hy=> ?_
       rw[da]at hy
       have:=u2 x (List.mem_reverse.mp hx)
       exact Int.le_trans (by show-(K x)<= -(K xa);omega) (eK sa' y hy)
      have cy:∀y∈rv b k2,-(K xa)<= -(K y):=λy hy=>by
       have:=u1 y (List.mem_reverse.mp hy)
       omega
      by_cases uQ:j-1-k2>0
      ·rw[if_pos uQ]
       by_cases c6:(k2==1)=true
       ·rw[if_pos c6]
        exact wpS_pure ⟨S3.set _,.inl ⟨_,_,rfl,I5.BP (by simpa using c6) h1⟩⟩
       rw[if_neg c6]
       have n6:k2≠1:=λe=>c6 (by rw[e];rfl)
       by_cases c8:(k2==0)=true
       ·rw[if_pos c8]
        exact wpS_pure ⟨S3.set _,.inl ⟨_,_,rfl,I5.fin (.inr (by simpa using c8))⟩⟩
       rw[if_neg c8]
       have n8:k2≠0:=λe=>c8 (by rw[e];rfl)
       have I6:MH K a b (((o++(a.extract k i).reverse).push xb++(b.extract k2 (j-1)).reverse).push xa) (k-1) k2:=by
        show MG _ _ (((o++(a.extract k i).reverse).push xb++(b.extract k2 (j-1)).reverse).push xa).toList _ _
        rw[Array.toList_push]
        exact MG.gQ (by rw[<-da];exact I5) cy
       refine wpS_bind (bg ea ?_)
       by_cases c7:(k-1==0)=true
       ·rw[if_pos c7]
        exact wpS_pure ⟨S3.set _,.inl ⟨_,_,rfl,I6.fin (.inl (by simpa using c7))⟩⟩
       rw[if_neg c7]
       have n7:k-1≠0:=λe=>c7 (by rw[e];rfl)
       split
       ·exact wpS_pure ⟨S3.set _,.inr ⟨_,_,_,_,_,_,rfl,⟨I6,by omega,by omega,by omega,by(clear c7 c8 c6 cy u2 u1 hk2 n5 c5 da ea n4 c4 hk0 tJ t2 t1 hk1 db eb hg l3 l2 l1 p2 hy p1 I1 hx n2 n1 c2 c1 d0 e0 hq h2 h1 Db Da hb ha hk;omega)⟩,by(clear c7 c8 c6 cy u2 u1 hk2 n5 c5 da ea n4 c4 hk0 tJ t2 t1 db eb hg l4 l3 l2 l1 hy p1 I1 hx n2 n1 c2 c1 d0 e0 hq h2 h1 Db Da hb ha hk;omega)⟩⟩
       ·exact wpS_pure ⟨S3.set _,_,_,_,_,_,_,rfl,⟨I6,by omega,by omega,by omega,by(clear c7 c8 c6 cy u2 u1 hk2 n5 c5 da ea n4 c4 hk0 tJ t2 t1 hk1 db eb hg l3 l2 l1 p2 hy p1 I1 hx n2 n1 c2 c1 d0 e0 hq h2 h1 Db Da hb ha hk;omega)⟩,by(clear c7 c8 c6 cy u2 u1 hk2 n5 c5 da ea n4 c4 hk0 tJ t2 t1 db eb hg l4 l3 l2 l1 hy p1 I1 hx n2 n1 c2 c1 d0 e0 hq h2 h1 Db Da hb ha hk;omega)⟩
      ·rw[if_neg uQ]
       have z2:k2=j-1:=by(clear cy u2 u1 n5 c5 da ea n4 c4 hk0 tJ t2 t1 hk1 db eb hg l4 l2 l1 p2 hy p1 I1 hx n2 n1 c2 c1 d0 e0 hq h2 h1 Db Da hb ha hk;omega)
       subst z2
       have I6:MH K a b (((o++(a.extract k i).reverse).push xb).push xa) (k-1) (j-1):=by
        show MG _ _ (((o++(a.extract k i).reverse).push xb).push xa).toList _ _
        rw[Array.toList_push]
        exact MG.gQ (by rw[<-da];exact I4) cy
       refine wpS_bind (bg ea ?_)
       by_cases c7:(k-1==0)=true
       ·rw[if_pos c7]
        exact wpS_pure ⟨S3.set _,.inl ⟨_,_,rfl,I6.fin (.inl (by simpa using c7))⟩⟩
       rw[if_neg c7]
       have n7:k-1≠0:=λe=>c7 (by rw[e];rfl)
       split
       ·exact wpS_pure ⟨S3.set _,.inr ⟨_,_,_,_,_,_,rfl,⟨I6,by omega,by omega,by(clear c7 cy u2 u1 hk2 c5 da ea n4 c4 hk0 tJ t2 t1 hk1 db eb hg l4 l2 l1 p2 hy p1 I1 hx n2 n1 c2 c1 d0 e0 hq h2 h1 Db Da hb ha hk;omega),by(clear c7 cy u2 u1 hk2 n5 c5 da ea n4 c4 hk0 tJ t2 t1 hk1 db eb hg l2 l1 p2 hy p1 I1 hx n2 n1 c2 c1 d0 e0 hq h2 h1 Db Da hb ha hk;omega)⟩,by(clear c7 cy u2 u1 hk2 n5 c5 da ea n4 c4 hk0 tJ t2 t1 db eb hg l4 l2 l1 hy p1 I1 hx n2 n1 c2 c1 d0 e0 hq h2 h1 Db Da hb ha hk;omega)⟩⟩
       ·exact wpS_pure ⟨S3.set _,_,_,_,_,_,_,rfl,⟨I6,by omega,by omega,by(clear c7 cy u2 u1 hk2 c5 da ea n4 c4 hk0 tJ t2 t1 hk1 db eb hg l4 l2 l1 p2 hy p1 I1 hx n2 n1 c2 c1 d0 e0 hq h2 h1 Db Da hb ha hk;omega),by(clear c7 cy u2 u1 hk2 n5 c5 da ea n4 c4 hk0 tJ t2 t1 hk1 db eb hg l2 l1 p2 hy p1 I1 hx n2 n1 c2 c1 d0 e0 hq h2 h1 Db Da hb ha hk;omega)⟩,by(clear c7 cy u2 u1 hk2 n5 c5 da ea n4 c4 hk0 tJ t2 t1 db eb hg l4 l2 l1 hy p1 I1 hx n2 n1 c2 c1 d0 e0 hq h2 h1 Db Da hb ha hk;omega)⟩
     ·rw[if_neg hk0]
      have z0:k=i:=by omega
      subst z0
      replace J:=I2
      obtain⟨xa,ea,ma,da⟩:=qF (a:=a) (i:=k) (by omega) (by omega)
      have sa':=J.sa
      rw[da]at sa'
      have I4:MH K a b (o.push xb) (k) (j-1):=by
       show MG _ _ (o.push xb).toList _ _
       rw[Array.toList_push]
       refine MG.pA (by rw[<-db];exact J) λz hz=> ?_
       have:=tJ z (List.mem_reverse.mp hz)
       show-(K xb)<= -(K z)
       omega
      refine wpS_bind (bg eb ?_)
      by_cases c5:(j-1==1)=true
      ·rw[if_pos c5]
       exact wpS_pure ⟨S3.set _,.inl ⟨_,_,rfl,I4.BP (by simpa using c5) h1⟩⟩
      rw[if_neg c5]
      have n5:j-1≠1:=λe=>c5 (by rw[e];rfl)
      refine wpS_bind (bg ea (wpS_bind (j8 hL ((S3.set _).1.trans hk) (b.toList.take (j-1)) (λz hz=>by rw[Nat.zero_add,List.getElem?_take_of_lt hz];simp) (by simp;(clear n5 c5 da ea hk0 t2 hk1 l2 l1 p2 tJ t1 db eb hg hy p1 I1 hx n2 n1 c2 c1 d0 e0 hq h2 h1 Db Da hb ha hk;omega)) (λx hx=>Db x (List.mem_of_mem_take hx)) (Da _ ma) (List.Pairwise.sublist (List.take_sublist _ _) sb) (by omega) λk2 hk2 u1 u2=> ?_)))
      simp only[if_true]at u1 u2
      rw[List.take_take,Nat.min_eq_left hk2]at u1
      dsimp only
      have I5:MH K a b (o.push xb++(b.extract k2 (j-1)).reverse) (k) k2:=by
       show MG _ _ (o.push xb++(b.extract k2 (j-1)).reverse).toList _ _
       rw[Array.toList_append,rg]
       refine MG.tD (by rw[<-kZ b hk2];exact I4) λx hx y hy=> ?_
       rw[da]at hy
       have:=u2 x (List.mem_reverse.mp hx)
       exact Int.le_trans (by show-(K x)<= -(K xa);omega) (eK sa' y hy)
      have cy:∀y∈rv b k2,-(K xa)<= -(K y):=λy hy=>by
       have:=u1 y (List.mem_reverse.mp hy)
       omega
      by_cases uQ:j-1-k2>0
      ·rw[if_pos uQ]
       by_cases c6:(k2==1)=true
       ·rw[if_pos c6]
        exact wpS_pure ⟨S3.set _,.inl ⟨_,_,rfl,I5.BP (by simpa using c6) h1⟩⟩
       rw[if_neg c6]
       have n6:k2≠1:=λe=>c6 (by rw[e];rfl)
       by_cases c8:(k2==0)=true
       ·rw[if_pos c8]
        exact wpS_pure ⟨S3.set _,.inl ⟨_,_,rfl,I5.fin (.inr (by simpa using c8))⟩⟩
       rw[if_neg c8]
       have n8:k2≠0:=λe=>c8 (by rw[e];rfl)
       have I6:MH K a b ((o.push xb++(b.extract k2 (j-1)).reverse).push xa) (k-1) k2:=by
        show MG _ _ ((o.push xb++(b.extract k2 (j-1)).reverse).push xa).toList _ _
        rw[Array.toList_push]
        exact MG.gQ (by rw[<-da];exact I5) cy
       refine wpS_bind (bg ea ?_)
       by_cases c7:(k-1==0)=true
       ·rw[if_pos c7]
        exact wpS_pure ⟨S3.set _,.inl ⟨_,_,rfl,I6.fin (.inl (by simpa using c7))⟩⟩
       rw[if_neg c7]
       have n7:k-1≠0:=λe=>c7 (by rw[e];rfl)
       split
       ·exact wpS_pure ⟨S3.set _,.inr ⟨_,_,_,_,_,_,rfl,⟨I6,by omega,by omega,by omega,by omega⟩,by omega⟩⟩
       ·exact wpS_pure ⟨S3.set _,_,_,_,_,_,_,rfl,⟨I6,by omega,by omega,by omega,by omega⟩,by omega⟩
      ·rw[if_neg uQ]
       have z2:k2=j-1:=by omega
       subst z2
       have I6:MH K a b ((o.push xb).push xa) (k-1) (j-1):=by
        show MG _ _ ((o.push xb).push xa).toList _ _
        rw[Array.toList_push]
        exact MG.gQ (by rw[<-da];exact I4) cy
       refine wpS_bind (bg ea ?_)
       by_cases c7:(k-1==0)=true
       ·rw[if_pos c7]
        exact wpS_pure ⟨S3.set _,.inl ⟨_,_,rfl,I6.fin (.inl (by simpa using c7))⟩⟩
       rw[if_neg c7]
       have n7:k-1≠0:=λe=>c7 (by rw[e];rfl)
       split
       ·exact wpS_pure ⟨S3.set _,.inr ⟨_,_,_,_,_,_,rfl,⟨I6,by omega,by omega,by(clear c7 cy u2 u1 hk2 c5 da ea hk0 t2 hk1 l2 p2 tJ t1 db eb hg l4 hy p1 I1 hx n2 n1 c2 c1 d0 e0 hq h2 h1 Db Da hb ha hk;omega),by(clear c7 cy u2 u1 hk2 n5 c5 da ea hk0 t2 hk1 l2 p2 tJ t1 db eb hg hy p1 I1 hx n2 n1 c2 c1 d0 e0 hq h2 h1 Db Da hb ha hk;omega)⟩,by(clear c7 cy u2 u1 hk2 n5 c5 da ea hk0 t2 hk1 l2 tJ t1 db eb hg l4 hy p1 I1 hx n2 n1 c2 c1 d0 e0 hq h2 h1 Db Da hb ha hk;omega)⟩⟩
       ·exact wpS_pure ⟨S3.set _,_,_,_,_,_,_,rfl,⟨I6,by omega,by omega,by(clear c7 cy u2 u1 hk2 c5 da ea hk0 t2 hk1 l2 p2 tJ t1 db eb hg l4 hy p1 I1 hx n2 n1 c2 c1 d0 e0 hq h2 h1 Db Da hb ha hk;omega),by(clear c7 cy u2 u1 hk2 n5 c5 da ea hk0 t2 hk1 l2 p2 tJ t1 db eb hg hy p1 I1 hx n2 n1 c2 c1 d0 e0 hq h2 h1 Db Da hb ha hk;omega)⟩,by(clear c7 cy u2 u1 hk2 n5 c5 da ea hk0 t2 hk1 l2 tJ t1 db eb hg l4 hy p1 I1 hx n2 n1 c2 c1 d0 e0 hq h2 h1 Db Da hb ha hk;omega)⟩
   ·rintro c s3 ⟨S3,i,j,o,g,ca,cb,rfl,⟨I2,l1,l2,l3,l4⟩,p2⟩
    omega
   ·rintro c s3 ⟨S3,⟨r,z,rfl,hr⟩|⟨i,j,o,g,ca,cb,rfl,I2,p2⟩⟩
    ·exact wpS_pure ⟨S3,r,_,rfl,hr⟩
    dsimp only
    rw[rf]
    exact wpS_bind (wpS_modify (wpS_pure ⟨S3.set _,_,_,_,_,rfl,I2,by omega⟩))
 ·rintro c s1 ⟨S1,i,j,o,g,rfl,⟨I1,l1,l2,l3,l4⟩,p1⟩
  omega
 ·rintro c s1 ⟨S1,r,z,rfl,hr⟩
  exact wpS_pure (hq r s1 S1 hr)
end
noncomputable def kA(K:Keyed->Int)(xs:Array Keyed)(i:Nat):Int:=match xs[i]? with
 |some p=>K p
 |none=>0
theorem jN{K:Keyed->Int}{xs ys:Array Keyed}{i j:Nat}(h:xs[i]?=ys[j]?):kA K xs i=kA K ys j:=by unfold kA;rw[h]
noncomputable def So(K:Keyed->Int)(xs:Array Keyed)(lo n:Nat):Prop:=∀i j,i<=j->j<n->kA K xs (lo+i)<=kA K xs (lo+j)
noncomputable def Si(K:Keyed->Int)(xs:Array Keyed)(lo n:Nat):Prop:=∀i j,i<=j->j<n->kA K xs (lo+j)<=kA K xs (lo+i)
theorem rj{K:Keyed->Int}{xs:Array Keyed}{i j:Nat}(hj:j<=xs.size)(k:Nat):
  kA K (mirror xs i j ((j-i)/2)) k=if i<=k/\k<j then kA K xs (i+j-1-k)else kA K xs k:=by
 have e:=getElem?_mirror_all (i:=i) hj k
 by_cases h1:i<=k/\k<j
 ·rw[if_pos h1]at e ⊢;exact jN e
 ·rw[if_neg h1]at e ⊢;exact jN e
theorem yp{K:Keyed->Int}{xs:Array Keyed}{i j:Nat}(hj:j<=xs.size)(heq:∀k,i<=k->k<j->kA K xs k=kA K xs (j-1))(k:Nat):kA K (mirror xs i j ((j-i)/2)) k=kA K xs k:=by
 rw[rj hj]
 split
 ·rw[heq _ (by omega) (by(clear heq hj;omega)),heq k (by omega) (by omega)]
 ·rfl
theorem EV{K:Keyed->Int}{xs:Array Keyed}{src d:Nat}(hs:src<xs.size)(hd:d<=src)(k:Nat):
  kA K (bubble xs src d) k=if k=src-d then kA K xs src else if src-d<k/\k<=src then kA K xs (k-1)else kA K xs k:=by
 have e:=getElem?_bubble hs d hd k
 by_cases h1:k=src-d
 ·rw[if_pos h1]at e ⊢;exact jN e
 ·rw[if_neg h1]at e ⊢
  by_cases h2:src-d<k/\k<=src
  ·rw[if_pos h2]at e ⊢;exact jN e
  ·rw[if_neg h2]at e ⊢;exact jN e
structure SC(lo:Nat)(s0 st:SortSt):Prop where
 perm:(arrOf st).Perm (arrOf s0)
 kind:kindOf st=kindOf s0
 failed:failedOf st=failedOf s0
 pend:pendingOf st=pendingOf s0
 low:∀i,i<lo->(arrOf st)[i]?=(arrOf s0)[i]?
theorem SC.refl(lo:Nat)(st:SortSt):SC lo st st:=⟨Array.Perm.refl _,rfl,rfl,rfl,λ_ _=>rfl⟩
theorem SC.trans{lo:Nat}{a b c:SortSt}(x:SC lo a b)(y:SC lo b c):SC lo a c:=⟨y.perm.trans x.perm,y.kind.trans x.kind,y.failed.trans x.failed,y.pend.trans x.pend,λi h=>(y.low i h).trans (x.low i h)⟩
theorem SC.size{lo:Nat}{a b:SortSt}(x:SC lo a b):(arrOf b).size=(arrOf a).size:=x.perm.size_eq
theorem SC.mirror{lo:Nat}{s0 st:SortSt}(x:SC lo s0 st){i j:Nat}(hi:lo<=i)(hj:j<=(arrOf st).size):SC lo s0 (setArr st (mirror (arrOf st) i j ((j-i)/2))):=
 x.trans ⟨mirror_perm _ _ _ _,rfl,rfl,rfl,λk hk=>by
  show(PyProof.Rows.mirror (arrOf st) i j ((j-i)/2))[k]?=_
  rw[getElem?_mirror_all hj,if_neg (by omega)]⟩
theorem SC.bubble{lo:Nat}{s0 st:SortSt}(x:SC lo s0 st){src d:Nat}(hs:src<(arrOf st).size)(hd:lo+d<=src):SC lo s0 (setArr st (bubble (arrOf st) src d)):=
 x.trans ⟨bubble_perm _ _ _,rfl,rfl,rfl,λk hk=>by
  show(PyProof.Rows.bubble (arrOf st) src d)[k]?=_
  rw[getElem?_bubble hs d (by(clear hs;omega)),if_neg (by(clear hs;omega)),if_neg (by(clear hs;omega))]⟩
structure SB(κ:SortKind)(D:Keyed->Prop)(st:SortSt):Prop where
 kind:kindOf st=κ
 failed:failedOf st=none
 all:∀x∈(arrOf st).toList,D x
theorem SB.sc{κ:SortKind}{D:Keyed->Prop}{lo:Nat}{s0 st:SortSt}(b:SB κ D s0)(x:SC lo s0 st):SB κ D st:=
 ⟨x.kind.trans b.kind,x.failed.trans b.failed,λy hy=>b.all y ((Array.perm_iff_toList_perm.mp x.perm).mem_iff.mp hy)⟩
section
variable{prog:Program}{w:World}{A:Around}{E:Value->Shared->Prop}{s:Shared}{κ:SortKind}{K:Keyed->Int}{D:Keyed->Prop}{st:SortSt}
theorem rm(hL:qE prog w A E s κ K D){i j:Nat}{Q:Option Bool->SortSt->Prop}(hB:SB κ D st)(hi:i<(arrOf st).size)(hj:j<(arrOf st).size)
  (h:Q (some (decide (kA K (arrOf st) i<kA K (arrOf st) j))) st):wpS (model prog w) A E s (ltAt' i j) Q st:=by
 rw[ltAt'_eq]
 refine wpS_bind (wpS_get ?_)
 show wpS _ _ _ _ (do let x<-elem' (arrOf st) i;let y<-elem' (arrOf st) j;lt' x y) Q st
 have e1:(arrOf st)[i]?=some (arrOf st)[i]:=getElem?_pos _ i hi
 have e2:(arrOf st)[j]?=some (arrOf st)[j]:=getElem?_pos _ j hj
 refine wpS_bind (bg e1 (wpS_bind (bg e2 ?_)))
 refine hL st _ _ _ hB.kind (hB.all _ (by simp)) (hB.all _ (by simp)) ?_
 unfold kA at h
 rw[e1,e2]at h
 exact h
theorem w_rev{M:Model}{i j:Nat}{Q:Unit->SortSt->Prop}(h:Q ⟨⟩ (setArr st (mirror (arrOf st) i j ((j-i)/2)))):wpS M A E s (reverseSlice' i j) Q st:=by
 rw[reverseSlice'_eq]
 exact wpS_modify h
theorem w_count(hL:qE prog w A E s κ K D){lo nrem:Nat}{Q:Option Nat->SortSt->Prop}(hB:SB κ D st)(h1:1<=nrem)(hz:lo+nrem<=(arrOf st).size)
  (hq:∀n st',SC lo st st'->1<=n->n<=nrem->So K (arrOf st') lo n->Q (some n) st'):wpS (model prog w) A E s (countRun' lo nrem) Q st:=by
 rw[countRun'_eq]
 refine wpS_bind (wpS_mono (wpS_forRange (I:=λx c st'=>st'=st/\c=(none,x)/\So K (arrOf st) lo x)
  (Q:=λc st'=>st'=st/\ ∃n,c=(none,n)/\1<=n/\n<=nrem/\So K (arrOf st) lo n/\(n=nrem∨kA K (arrOf st) (lo+n)<kA K (arrOf st) (lo+n-1))) ?_ ?_ ⟨rfl,rfl,λi j hij hj=> ?_⟩) ?_)
 ·rintro x c st' ha hx ⟨rfl,rfl,hs⟩
  dsimp only
  refine wpS_bind (rm hL hB (by omega) (by omega) ?_)
  dsimp only
  by_cases lt:kA K (arrOf st') (lo+x)<kA K (arrOf st') (lo+x-1)
  ·rw[decide_eq_true lt,if_pos rfl]
   exact wpS_pure ⟨rfl,x,rfl,ha,by omega,hs,.inr lt⟩
  ·rw[decide_eq_false lt,if_neg (by simp)]
   refine wpS_pure ⟨rfl,rfl,λi j hij hj=> ?_⟩
   by_cases c:j=x
   ·subst c
    by_cases c2:i=j
    ·subst c2;exact Int.le_refl _
    ·have:=hs i (j-1) (by(clear hj lt hx hq hz h1;omega)) (by(clear c2 hj lt hx hij hq hz h1;omega))
     rw[show lo+(j-1)=lo+j-1 by(clear this c2 hj lt hx hij hq hz h1;omega)]at this
     (clear c2 hj hx ha hij hq hz h1;omega)
   ·exact hs i j hij (by(clear hij lt hq hz hx ha h1;omega))
 ·rintro c st' ⟨rfl,rfl,hs⟩
  rw[Nat.max_eq_right h1]at hs ⊢
  exact⟨rfl,nrem,rfl,h1,Nat.le_refl _,hs,.inl rfl⟩
 ·have:i=j:=by(clear hq hz h1;omega)
  subst this
  exact Int.le_refl _
 rintro c st' ⟨rfl,n,rfl,n1,n2,hs,hend⟩
 dsimp only
 by_cases c1:(n==nrem)=true
 ·rw[if_pos c1]
  exact wpS_pure (hq n st' (.refl _ _) n1 n2 hs)
 rw[if_neg c1]
 have nn:n<nrem:=by
  have:n≠nrem:=λe=>c1 (by rw[e];simp)
  omega
 have hlt:kA K (arrOf st') (lo+n)<kA K (arrOf st') (lo+n-1):=hend.resolve_left (by omega)
 have part:∀s1:SortSt,SC lo st' s1->(∀k,kA K (arrOf s1) k=kA K (arrOf st') k) ->Si K (arrOf st') lo (n+1) -> ∀F:StateT SortSt Sem (Option Nat),F=(do
   rule "list.sort.descending-run"
   let mut n:=n
   n:=n+1
   let mut q:=0
   for _ in [n:nrem] do
    let some m<-ltAt' (lo+n) (lo+n-1)|return none
    if m then
     if q>0 then reverseSlice' (lo+n- (q+1)) (lo+n)
     q:=0
    else
     let some g<-ltAt' (lo+n-1) (lo+n)|return none
     if g then break
     q:=q+1
    n:=n+1
   if q>0 then reverseSlice' (lo+n- (q+1)) (lo+n)
   reverseSlice' lo (lo+n)
   for _ in [n:nrem] do
    let some m<-ltAt' (lo+n) (lo+n-1)|return none
    if m then break
    n:=n+1
   return some n) ->wpS (model prog w) A E s F Q s1:=by
  intro s1 S1 hk1 hd F hF
  subst hF
  refine wpS_bind (wpS_lift (wpAny_rule ⟨rfl,?_⟩))
  dsimp only
  have rest:∀(s2:SortSt)(m:Nat),SC lo st' s2->n+1<=m->m<=nrem->Si K (arrOf s2) lo m-> ∀F:StateT SortSt Sem (Option Nat),F=(do
    reverseSlice' lo (lo+m)
    let mut n:=m
    for _ in [n:nrem] do
     let some m<-ltAt' (lo+n) (lo+n-1)|return none
     if m then break
     n:=n+1
    return some n) ->wpS (model prog w) A E s F Q s2:=by
   intro s2 m S2 m1 m2 hd2 F hF
   subst hF
   have z2:=S2.size
   refine wpS_bind (w_rev ?_)
   have S3:=S2.mirror (i:=lo) (j:=lo+m) (Nat.le_refl _) (by omega)
   have Ue:So K (arrOf (setArr s2 (mirror (arrOf s2) lo (lo+m) ((lo+m-lo)/2)))) lo m:=by
    intro i j hij hj
    show kA K (mirror (arrOf s2) lo (lo+m) ((lo+m-lo)/2)) (lo+i)<=kA K (mirror (arrOf s2) lo (lo+m) ((lo+m-lo)/2)) (lo+j)
    rw[rj (by omega),rj (by omega),if_pos (by(clear z2 m2 m1 hk1 hlt nn c1 hend n2 n1 hq hz h1;omega)),if_pos (by(clear hij z2 m2 m1 hk1 hlt nn c1 hend n2 n1 hq hz h1;omega))]
    have:=hd2 (m-1-j) (m-1-i) (by(clear z2 m2 m1 hk1 hlt nn c1 hend n2 n1 hq hz h1;omega)) (by(clear z2 m2 m1 hk1 hlt nn c1 hend n2 n1 hq hz h1;omega))
    rw[show lo+(m-1-i)=lo+(lo+m) -1- (lo+i)by(clear this z2 m2 m1 hk1 hlt nn c1 hend n2 n1 hq hz h1;omega),show lo+(m-1-j)=lo+(lo+m) -1- (lo+j)by(clear this hij z2 m2 m1 hk1 hlt nn c1 hend n2 n1 hq hz h1;omega)]at this
    exact this
   generalize setArr s2 (mirror (arrOf s2) lo (lo+m) ((lo+m-lo)/2))=s3 at S3 Ue ⊢
   have z3:=S3.size
   have VG:=hB.sc S3
   refine wpS_bind (wpS_mono (wpS_forRange (I:=λx c st''=>st''=s3/\c=(none,x)/\So K (arrOf s3) lo x)
    (Q:=λc st''=>st''=s3/\ ∃n,c=(none,n)/\1<=n/\n<=nrem/\So K (arrOf s3) lo n) ?_ ?_ ⟨rfl,rfl,Ue⟩) ?_)
   ·rintro x c st'' ha hx ⟨rfl,rfl,hs⟩
    dsimp only
    refine wpS_bind (rm hL VG (by(clear ha m2 m1 hk1 hlt nn c1 hend n2 n1 hq h1;omega)) (by(clear m2 hk1 hlt nn c1 hend n2 hq h1;omega)) ?_)
    dsimp only
    by_cases lt:kA K (arrOf st'') (lo+x)<kA K (arrOf st'') (lo+x-1)
    ·rw[decide_eq_true lt,if_pos rfl]
     exact wpS_pure ⟨rfl,x,rfl,by(clear lt z3 hx z2 m2 hk1 hlt nn c1 hend n2 hq hz h1;omega),by omega,hs⟩
    ·rw[decide_eq_false lt,if_neg (by simp)]
     refine wpS_pure ⟨rfl,rfl,λi j hij hj=> ?_⟩
     by_cases c:j=x
     ·subst c
      by_cases c2:i=j
      ·subst c2;exact Int.le_refl _
      ·have:=hs i (j-1) (by(clear hj lt hx ha z3 z2 m2 m1 hk1 hlt nn c1 hend n2 n1 hq hz h1;omega)) (by(clear c2 hj lt hx hij z3 z2 m2 hk1 hlt nn c1 hend n2 hq hz h1;omega))
       rw[show lo+(j-1)=lo+j-1 by(clear this c2 hj lt hx hij z3 z2 m2 hk1 hlt nn c1 hend n2 hq hz h1;omega)]at this
       (clear c2 hj hx ha hij z3 z2 m2 m1 hk1 hlt nn c1 hend n2 n1 hq hz h1;omega)
     ·exact hs i j hij (by(clear hij lt z3 hx ha z2 m2 m1 hk1 hlt nn c1 hend n2 n1 hq hz h1;omega))
   ·rintro c st'' ⟨rfl,rfl,hs⟩
    rw[Nat.max_eq_right m2]at hs ⊢
    exact⟨rfl,nrem,rfl,by omega,Nat.le_refl _,hs⟩
   ·rintro c st'' ⟨rfl,n',rfl,a1,a2,a3⟩
    exact wpS_pure (hq n' st'' S3 a1 a2 a3)
  refine wpS_bind (wpS_mono (wpS_forRange (I:=λx c s2=> ∃q,c=(none,x,q)/\SC lo st' s2/\Si K (arrOf s2) lo x/\q+1<=x/\ ∀i,x- (q+1)<=i->i<x->kA K (arrOf s2) (lo+i)=kA K (arrOf s2) (lo+x-1))
   (Q:=λc s2=> ∃x q,c=(none,x,q)/\n+1<=x/\x<=nrem/\SC lo st' s2/\Si K (arrOf s2) lo x/\q+1<=x/\ ∀i,x- (q+1)<=i->i<x->kA K (arrOf s2) (lo+i)=kA K (arrOf s2) (lo+x-1)) ?_ ?_ ⟨0,rfl,S1,λi j hij hj=> ?_,by omega,λi h1 h2=> ?_⟩) ?_)
  ·rintro x c s2 ha hx ⟨q,rfl,S2,hd2,hq1,heq⟩
   dsimp only
   have z2:=S2.size
   have hB2:=hB.sc S2
   refine wpS_bind (rm hL hB2 (by omega) (by(clear heq ha rest hk1 hlt nn c1 hend n2 n1 hq h1;omega)) ?_)
   dsimp only
   by_cases lt:kA K (arrOf s2) (lo+x)<kA K (arrOf s2) (lo+x-1)
   ·rw[decide_eq_true lt,if_pos rfl]
    have Oe:∀s3:SortSt,SC lo st' s3->(∀k,kA K (arrOf s3) k=kA K (arrOf s2) k) -> ∃q,((none,x+1,0):Option (Option Nat)×Nat×Nat)=(none,x+1,q)/\SC lo st' s3/\Si K (arrOf s3) lo (x+1)/\q+1<=x+1/\ ∀i,x+1- (q+1)<=i->i<x+1->kA K (arrOf s3) (lo+i)=kA K (arrOf s3) (lo+(x+1) -1):=by
     intro s3 S3 Ds
     refine⟨0,rfl,S3,λi j hij hj=> ?_,by omega,λi h1 h2=> ?_⟩
     ·rw[Ds,Ds]
      by_cases c:j=x
      ·subst c
       by_cases c2:i=j
       ·subst c2;exact Int.le_refl _
       ·have:=hd2 i (j-1) (by(clear hj lt heq hx ha Ds z2 rest hk1 hlt nn c1 hend n2 n1 hq hz h1;omega)) (by(clear c2 hj lt heq hx ha hij Ds z2 rest hk1 hlt nn c1 hend n2 n1 hq hz h1;omega))
        rw[show lo+(j-1)=lo+j-1 by(clear this c2 hj lt heq hx ha hij Ds z2 rest hk1 hlt nn c1 hend n2 n1 hq hz h1;omega)]at this
        (clear c2 hj heq hq1 hx ha hij Ds z2 rest hk1 hlt nn c1 hend n2 n1 hq hz h1;omega)
      ·exact hd2 i j hij (by(clear hij Ds lt z2 heq hq1 hx ha rest hk1 hlt nn c1 hend n2 n1 hq hz h1;omega))
     ·have:i=x:=by(clear Ds lt z2 heq hq1 hx ha rest hk1 hlt nn c1 hend n2 n1 hq hz;omega)
      subst this
      rfl
    by_cases HX:q>0
    ·rw[if_pos HX]
     refine wpS_bind (w_rev (wpS_pure (Oe _ (S2.mirror (by(clear HX Oe lt z2 heq hx ha rest hk1 hlt nn c1 hend n2 n1 hq hz h1;omega)) (by omega)) λk=> ?_)))
     refine yp (by omega) (λk k1 k2=> ?_) k
     have:=heq (k-lo) (by(clear k2 HX Oe lt z2 heq hx ha rest hk1 hlt nn c1 hend n2 n1 hq hz h1;omega)) (by(clear k1 Oe lt z2 heq hx ha rest hk1 hlt nn c1 hend n2 n1 hq hz h1;omega))
     rw[show lo+(k-lo)=k by(clear this k2 HX Oe lt z2 heq hx ha rest hk1 hlt nn c1 hend n2 n1 hq hz h1;omega)]at this
     exact this
    ·rw[if_neg HX]
     exact wpS_pure (Oe s2 S2 λ_=>rfl)
   ·rw[decide_eq_false lt,if_neg (by simp)]
    refine wpS_bind (rm hL hB2 (by(clear lt heq ha rest hk1 hlt nn c1 hend n2 n1 hq h1;omega)) (by omega) ?_)
    dsimp only
    by_cases Jy:kA K (arrOf s2) (lo+x-1)<kA K (arrOf s2) (lo+x)
    ·rw[decide_eq_true Jy,if_pos rfl]
     exact wpS_pure ⟨x,q,rfl,ha,by omega,S2,hd2,hq1,heq⟩
    ·rw[decide_eq_false Jy,if_neg (by simp)]
     have e:kA K (arrOf s2) (lo+x)=kA K (arrOf s2) (lo+x-1):=by(clear z2 heq hq1 hx ha rest hk1 hlt nn c1 hend n2 n1 hq hz h1;omega)
     refine wpS_pure ⟨q+1,rfl,S2,λi j hij hj=> ?_,by omega,λi h1 h2=> ?_⟩
     ·by_cases c:j=x
      ·subst c
       by_cases c2:i=j
       ·subst c2;exact Int.le_refl _
       ·have:=hd2 i (j-1) (by(clear hj e Jy lt heq hx ha z2 rest hk1 hlt nn c1 hend n2 n1 hq hz h1;omega)) (by(clear c2 hj e Jy lt heq hx ha hij z2 rest hk1 hlt nn c1 hend n2 n1 hq hz h1;omega))
        rw[show lo+(j-1)=lo+j-1 by(clear this c2 hj e Jy lt heq hx ha hij z2 rest hk1 hlt nn c1 hend n2 n1 hq hz h1;omega)]at this
        (clear c2 hj e heq hq1 hx ha hij z2 rest hk1 hlt nn c1 hend n2 n1 hq hz h1;omega)
      ·exact hd2 i j hij (by(clear hij e Jy lt z2 heq hq1 hx ha rest hk1 hlt nn c1 hend n2 n1 hq hz h1;omega))
     ·rw[show lo+(x+1) -1=lo+x by omega,e]
      by_cases c:i=x
      ·subst c;exact e
      ·exact heq i (by(clear e Jy lt z2 heq hx ha rest hk1 hlt nn c1 hend n2 n1 hq hz;omega)) (by(clear h1 e Jy lt z2 heq hq1 hx ha rest hk1 hlt nn c1 hend n2 n1 hq hz;omega))
  ·rintro c s2 ⟨q,rfl,S2,hd2,hq1,heq⟩
   rw[Nat.max_eq_right (show n+1<=nrem by omega)]at hd2 hq1 heq ⊢
   exact⟨nrem,q,rfl,by omega,Nat.le_refl _,S2,hd2,hq1,heq⟩
  ·rw[hk1,hk1]
   exact hd i j hij hj
  ·have:i=n:=by(clear rest hk1 hlt nn c1 hend n2 hq hz;omega)
   subst this
   rfl
  ·rintro c s2 ⟨x,q,rfl,x1,x2,S2,hd2,hq1,heq⟩
   dsimp only
   have z2:=S2.size
   by_cases HX:q>0
   ·rw[if_pos HX]
    refine wpS_bind (w_rev ?_)
    have hk:∀k,kA K (arrOf (setArr s2 (mirror (arrOf s2) (lo+x- (q+1)) (lo+x) ((lo+x- (lo+x- (q+1)))/2)))) k=kA K (arrOf s2) k:=λk=>by
     refine yp (by omega) (λk k1 k2=> ?_) k
     have:=heq (k-lo) (by(clear k2 HX z2 heq x2 x1 rest hk1 hlt nn c1 hend n2 n1 hq hz h1;omega)) (by(clear k1 z2 heq x2 x1 rest hk1 hlt nn c1 hend n2 n1 hq hz h1;omega))
     rw[show lo+(k-lo)=k by(clear this k2 HX z2 heq x2 x1 rest hk1 hlt nn c1 hend n2 n1 hq hz h1;omega)]at this
     exact this
    exact rest _ x (S2.mirror (by(clear hk HX z2 heq x2 x1 rest hk1 hlt nn c1 hend n2 n1 hq hz h1;omega)) (by omega)) x1 x2 (λi j hij hj=>by rw[hk,hk];exact hd2 i j hij hj) _ rfl
   ·rw[if_neg HX]
    exact rest s2 x S2 x1 x2 hd2 _ rfl
 by_cases gt:n>1
 ·rw[if_pos gt]
  refine wpS_bind (rm hL hB (by omega) (by omega) ?_)
  dsimp only
  by_cases EW:kA K (arrOf st') lo<kA K (arrOf st') (lo+n-1)
  ·rw[decide_eq_true EW,if_pos rfl]
   exact wpS_pure (hq n st' (.refl _ _) n1 n2 hs)
  ·rw[decide_eq_false EW,if_neg (by simp)]
   have hall:∀k,lo<=k->k<lo+n->kA K (arrOf st') k=kA K (arrOf st') (lo+n-1):=λk k1 k2=>by
    have a1:=hs 0 (k-lo) (by omega) (by omega)
    have a2:=hs (k-lo) (n-1) (by(clear a1 EW part hlt nn c1 hend n2 n1 hq hz h1;omega)) (by omega)
    rw[show lo+(k-lo)=k by(clear a2 a1 k2 EW gt part hlt nn c1 hend n2 n1 hq hz h1;omega)]at a1 a2
    rw[show lo+(n-1)=lo+n-1 by(clear a2 a1 k1 EW part hlt nn c1 hend n2 n1 hq hz h1;omega)]at a2
    rw[Nat.add_zero]at a1
    (clear k2 k1 gt part hlt nn c1 hend n2 n1 hq hz h1;omega)
   refine wpS_bind (w_rev (part _ ((SC.refl lo st').mirror (Nat.le_refl _) (by omega)) (λk=>yp (by omega) hall k) (λi j hij hj=> ?_) _ rfl))
   by_cases c:j=n
   ·subst c
    by_cases c2:i=j
    ·subst c2;exact Int.le_refl _
    ·rw[hall (lo+i) (by omega) (by omega)]
     omega
   ·rw[hall (lo+i) (by omega) (by(clear hall EW gt part hlt nn c1 hend n2 n1 hq hz h1;omega)),hall (lo+j) (by omega) (by omega)]
    exact Int.le_refl _
 ·rw[if_neg gt]
  have e1:n=1:=by omega
  subst e1
  refine part st' (.refl _ _) (λ_=>rfl) (λi j hij hj=> ?_) _ rfl
  by_cases c2:i=j
  ·subst c2;exact Int.le_refl _
  ·have:i=0:=by(clear gt part hlt nn c1 hend n2 n1 hq hz h1;omega)
   have:j=1:=by(clear hij gt part hlt nn c1 hend n2 n1 hq hz h1;omega)
   subst_vars
   rw[show lo+1-1=lo+0 by omega]at hlt
   omega
theorem LQ(hL:qE prog w A E s κ K D){lo n ok:Nat}{Q:Bool->SortSt->Prop}(hB:SB κ D st)(hok:ok<=n)(hz:lo+n<=(arrOf st).size)(hs:So K (arrOf st) lo ok)
  (h:∀st',SC lo st st'->So K (arrOf st') lo n->Q true st'):wpS (model prog w) A E s (binarySort' lo n ok) Q st:=by
 rw[binarySort'_eq]
 refine wpS_bind (wpS_mono (wpS_forRange (I:=λk c st'=>c=(none,())/\SC lo st st'/\So K (arrOf st') lo (min k n))
  (Q:=λc st'=>c=(none,())/\SC lo st st'/\So K (arrOf st') lo n) ?_ ?_ ⟨rfl,.refl _ _,λi j hij hj=> ?_⟩) ?_)
 ·rintro k c st' qU hkn ⟨rfl,S,hs'⟩
  rw[show min k n=k by(clear qU h hz hok;omega)]at hs'
  have z:=S.size
  have hk:lo+k<(arrOf st').size:=by omega
  have VH:=hB.sc S
  refine wpS_bind (wpS_mono (wpS_forRange (I:=λx c s2=>s2=st'/\ ∃l r,c=(none,l,r)/\l<=r/\r<=k/\r-l<=k-x/\
    (∀i,i<l->kA K (arrOf st') (lo+i)<=kA K (arrOf st') (lo+k))/\(∀i,r<=i->i<k->kA K (arrOf st') (lo+k)<kA K (arrOf st') (lo+i)))
   (Q:=λc s2=>s2=st'/\ ∃l r,c=(none,l,r)/\l<=k/\
    (∀i,i<l->kA K (arrOf st') (lo+i)<=kA K (arrOf st') (lo+k))/\(∀i,l<=i->i<k->kA K (arrOf st') (lo+k)<kA K (arrOf st') (lo+i))) ?_ ?_ ⟨rfl,0,k,rfl,by omega,by omega,by omega,λi hi=>by omega,λi h1 h2=>by(clear hk z hkn qU h hz hok;omega)⟩) ?_)
  ·rintro x c s2 _ hxk ⟨rfl,l,r,rfl,hlr,hrk,hm,hlo,hhi⟩
   dsimp only
   by_cases hge:l≥r
   ·rw[if_pos hge]
    have:l=r:=by(clear hhi hlo hm hrk hk z hxk hkn qU h hz hok;omega)
    subst this
    exact wpS_pure ⟨rfl,l,l,rfl,hrk,hlo,hhi⟩
   ·rw[if_neg hge]
    refine wpS_bind (rm hL VH hk (by(clear hhi hlo hm hlr z hxk hkn qU h hz hok;omega)) ?_)
    by_cases less:kA K (arrOf s2) (lo+k)<kA K (arrOf s2) (lo+(l+r)/2)
    ·simp only[less,decide_true,if_true]
     refine wpS_pure ⟨rfl,l,(l+r)/2,rfl,by(clear less hhi hlo hm hrk hlr hk z hxk hkn qU h hz hok;omega),by(clear less hhi hlo hm hlr hk z hxk hkn qU h hz hok;omega),by(clear less hhi hlo hrk hlr hk z hkn qU h hz hok;omega),hlo,λi h1 h2=> ?_⟩
     exact Int.lt_of_lt_of_le less (hs' _ _ h1 h2)
    ·simp only[less,decide_false,Bool.false_eq_true,if_false]
     refine wpS_pure ⟨rfl,(l+r)/2+1,r,rfl,by(clear less hhi hlo hm hrk hlr hk z hxk hkn qU h hz hok;omega),by omega,by(clear less hhi hlo hrk hlr hk z hkn qU h hz hok;omega),λi h1=> ?_,hhi⟩
     exact Int.le_trans (hs' i ((l+r)/2) (by(clear less hge hhi hlo hm hrk hlr hk z hxk hkn qU h hz hok;omega)) (by(clear h1 less hhi hlo hm hlr hk z hxk hkn qU h hz hok;omega))) (Int.not_lt.mp less)
  ·rintro c s2 ⟨rfl,l,r,rfl,hlr,hrk,hm,hlo,hhi⟩
   have:l=r:=by(clear hhi hlo hrk hk z hkn qU h hz hok;omega)
   subst this
   exact⟨rfl,l,l,rfl,hrk,hlo,hhi⟩
  ·rintro c s2 ⟨rfl,l,r,rfl,hlk,hlo,hhi⟩
   dsimp only
   rw[moveDown'_eq,show lo+k- (lo+l)=k-l by(clear hhi hlo hk z hkn qU h hz hok;omega)]
   refine wpS_bind (wpS_modify (wpS_pure ⟨rfl,S.bubble hk (by(clear hhi hlo hk z hkn qU h hz hok;omega)),?_⟩))
   rw[show min (k+1) n=k+1 by(clear hhi hlo hlk hk z qU h hz hok;omega)]
   intro i j hij hj
   show kA K (bubble (arrOf s2) (lo+k) (k-l)) (lo+i)<=kA K (bubble (arrOf s2) (lo+k) (k-l)) (lo+j)
   have e:∀t,t<k+1->kA K (bubble (arrOf s2) (lo+k) (k-l)) (lo+t)=if t=l then kA K (arrOf s2) (lo+k)else if l<t then kA K (arrOf s2) (lo+(t-1))else kA K (arrOf s2) (lo+t):=by
    intro t ht
    rw[EV hk (by(clear ht hj hij hhi hlo hk z hkn qU h hz hok;omega))]
    by_cases c1:t=l
    ·rw[if_pos (by(clear hj hij hhi hlo hlk hk z hkn qU h hz hok;omega)),if_pos c1]
    ·rw[if_neg (by(clear ht hj hij hhi hlo hk z hkn qU h hz hok;omega)),if_neg c1]
     by_cases c2:l<t
     ·rw[if_pos (by(clear c1 hj hij hhi hlo hk z hkn qU h hz hok;omega)),if_pos c2,show lo+t-1=lo+(t-1)by(clear c1 ht hj hij hhi hlo hlk hk z hkn qU h hz hok;omega)]
     ·rw[if_neg (by(clear c1 ht hj hij hhi hlo hk z hkn qU h hz hok;omega)),if_neg c2]
   rw[e i (by(clear e hhi hlo hlk hk z hkn qU h hz hok;omega)),e j hj]
   repeat' split
   all_goals first
    |(exfalso;(clear e hj hhi hlo hlk hk z hkn qU h hz hok;omega))
    |exact Int.le_refl _
    |exact hlo _ (by(clear e hj hhi hlo hlk hk z hkn qU h hz hok;omega))
    |exact Int.le_of_lt (hhi _ (by(clear e hj hij hhi hlo hlk hk z hkn qU h hz hok;omega)) (by(clear e hij hhi hlo hlk hk z hkn qU h hz hok;omega)))
    |exact hs' _ _ (by(clear e hj hhi hlo hlk hk z hkn qU h hz hok;omega)) (by(clear e hhi hlo hk z hkn qU h hz hok;omega))
 ·rintro c st' ⟨hc,S,hs'⟩
  refine⟨hc,S,?_⟩
  rwa [show min (max (max ok 1) n) n=n by(clear hc h hz hok;omega)]at hs'
 ·by_cases h1:ok=0
  ·have:i=j:=by omega
   subst this;exact Int.le_refl _
  ·exact hs i j hij (by(clear hij h hz;omega))
 ·rintro c st' ⟨rfl,S,hs'⟩
  exact wpS_pure (h st' S hs')
noncomputable abbrev sl(a:Array Keyed)(lo n:Nat):List Keyed:=(a.toList.drop lo).take n
theorem rq{a:Array Keyed}{lo n:Nat}(h:lo+n<=a.size):So K a lo n↔(sl a lo n).Pairwise λx y=>K x<=K y:=by
 have len:(sl a lo n).length=n:=by simp[sl];omega
 have at':∀i (hi:i<n),∃x,(sl a lo n)[i]'(by(clear h;omega))=x/\kA K a (lo+i)=K x:=λi hi=>by
  refine⟨_,rfl,?_⟩
  have e:a[lo+i]?=some ((sl a lo n)[i]'(by omega)):=by
   rw[<-List.getElem?_eq_getElem]
   simp[sl,List.getElem?_take_of_lt hi]
  unfold kA
  rw[e]
 constructor
 ·intro hs
  rw[List.pairwise_iff_getElem]
  intro i j hi hj hij
  obtain⟨x,ex,kx⟩:=at' i (by omega)
  obtain⟨y,ey,ky⟩:=at' j (by omega)
  have:=hs i j (by omega) (by omega)
  rw[ex,ey,<-kx,<-ky]
  exact this
 ·intro hs i j hij hj
  by_cases c:i=j
  ·subst c;exact Int.le_refl _
  obtain⟨x,ex,kx⟩:=at' i (by(clear c at' h;omega))
  obtain⟨y,ey,ky⟩:=at' j hj
  have:=List.pairwise_iff_getElem.mp hs i j (by omega) (by omega) (by omega)
  rw[ex,ey,<-kx,<-ky]at this
  exact this
noncomputable def wr(sa:Nat)(a:Array Keyed)(l:List (Keyed×Nat)):Array Keyed:=l.foldl (λa (p,j)=>a.setIfInBounds (sa+j) p) a
theorem BQ(sa:Nat):∀(l:List Keyed)(k:Nat)(a:Array Keyed)(t:Nat),sa+k+l.length<=a.size->(wr sa a (l.zipIdx k))[t]?=if sa+k<=t/\t<sa+k+l.length then l[t- (sa+k)]? else a[t]?
 | [],k,a,t,h=>by
  rw[if_neg (by simp)]
  rfl
 |x::l,k,a,t,h=>by
  have h':sa+k+(l.length+1)<=a.size:=h
  show(wr sa (a.setIfInBounds (sa+k) x) (l.zipIdx (k+1)))[t]?=_
  rw[BQ sa l (k+1) _ t (by rw[Array.size_setIfInBounds];omega)]
  rw[List.length_cons]
  by_cases c1:sa+(k+1)<=t/\t<sa+(k+1)+l.length
  ·rw[if_pos c1,if_pos (by(clear h' h;omega)),show t- (sa+k)=t- (sa+(k+1))+1 by(clear h' h;omega),List.getElem?_cons_succ]
  ·rw[if_neg c1,Array.getElem?_setIfInBounds]
   by_cases c2:sa+k=t
   ·subst c2
    rw[if_pos rfl,if_pos (by omega),if_pos (by omega),Nat.sub_self]
    rfl
   ·rw[if_neg c2,if_neg (by(clear h' h;omega))]
theorem Kx{sa:Nat}{l:List Keyed}{a:Array Keyed}(h:sa+l.length<=a.size):(wr sa a l.zipIdx).toList=a.toList.take sa++(l++a.toList.drop (sa+l.length)):=by
 refine List.ext_getElem? λt=> ?_
 rw[Array.getElem?_toList,BQ sa l 0 a t (by omega),Nat.add_zero]
 have ls:(a.toList.take sa).length=sa:=by simp;omega
 by_cases c1:t<sa
 ·rw[if_neg (by(clear h;omega)),List.getElem?_append_left (by(clear h;omega)),List.getElem?_take_of_lt c1]
  simp
 ·rw[List.getElem?_append_right (by(clear h;omega)),ls]
  by_cases c2:t<sa+l.length
  ·rw[if_pos (by(clear h;omega)),List.getElem?_append_left (by(clear h;omega))]
  ·rw[if_neg (by(clear c1 h;omega)),List.getElem?_append_right (by(clear h;omega)),List.getElem?_drop,show sa+l.length+(t-sa-l.length)=t by(clear c1 h;omega)]
   simp
theorem HY(l:List Keyed)(u n:Nat):l=l.take u++((l.drop u).take n++l.drop (u+n)):=by
 rw[<-List.drop_drop,List.take_append_drop,List.take_append_drop]
theorem HZ{M:Model}{st':SortSt}{Q:PUnit->SortSt->Prop}(h:Q ⟨⟩ st'):wpS M A E s (set st':StateT SortSt Sem PUnit) Q st:=by
 unfold wpS
 rw[StateT.run_set]
 exact wpAny_pure ⟨rfl,h⟩
theorem j9{M:Model}{α:Type}{c:Prop}[Decidable c]{x y:StateT SortSt Sem α}{Q:α->SortSt->Prop}(h1:c->wpS M A E s x Q st)(h2:¬c->wpS M A E s y Q st):wpS M A E s (if c then x else y) Q st:=by
 split
 ·exact h1 ‹_›
 ·exact h2 ‹_›
theorem Ni(i:Nat):mergeAt' i=(do
 let z<-get
 let(some (sa,na,pw),some (sb,nb,_)):=((pendingOf z)[i]?,(pendingOf z)[i+1]?)|(@unsupported _ "internal:list.sort.pending")
 set (SortSt.mk' (kindOf z) (arrOf z) (((pendingOf z).setIfInBounds i (sa,na+nb,pw)).eraseIdxIfInBounds (i+1)) (gallopOf z) (failedOf z))
 let some k<-Kv false (<-elem' (arrOf z) sb) (arrOf z) sa na 0|return false
 let(ua,ma):=(sa+k,na-k)
 if ma==0 then return true
 let some mb<-Kv true (<-elem' (arrOf z) (ua+ma-1)) (arrOf z) sb nb (nb-1)|return false
 if mb==0 then return true
 let x:=(arrOf z).extract ua sb
 let y:=(arrOf z).extract sb (sb+mb)
 let r<-if ma<=mb then Sd x y else Se x y
 modify λz=>setArr z (wr ua (arrOf z) r.toList.zipIdx)
 return(failedOf (<-get)).isNone):=rfl
structure Mg(K:Keyed->Int)(sa n:Nat)(p:Array (Nat×Nat×Nat))(s0 st:SortSt):Prop where
 perm:(arrOf st).Perm (arrOf s0)
 kind:kindOf st=kindOf s0
 failed:failedOf st=failedOf s0
 pend:pendingOf st=p
 out:∀t,t<sa∨sa+n<=t->(arrOf st)[t]?=(arrOf s0)[t]?
 so:So K (arrOf st) sa n
theorem z5{l:List Keyed}(h:l.Pairwise λx y=>K x<=K y){x:Keyed}(hx:x∈l){z:Keyed}(hz:l[l.length-1]?=some z):K x<=K z:=by
 obtain⟨i,hi,rfl⟩:=List.mem_iff_getElem.mp hx
 rw[List.getElem?_eq_getElem (by omega)]at hz
 rw[<-Option.some.inj hz]
 by_cases c:i=l.length-1
 ·subst c;exact Int.le_refl _
 ·exact List.pairwise_iff_getElem.mp h i (l.length-1) hi (by omega) (by(clear hz;omega))
theorem PC(hL:qE prog w A E s κ K D){i sa na nb pw:Nat}{q:Nat×Nat}{Q:Bool->SortSt->Prop}(hB:SB κ D st)(e1:(pendingOf st)[i]?=some (sa,na,pw))(e2:(pendingOf st)[i+1]?=some (sa+na,nb,q.1))
  (ha:0<na)(hb:0<nb)(hz:sa+na+nb<=(arrOf st).size)(s1:So K (arrOf st) sa na)(s2:So K (arrOf st) (sa+na) nb)
  (hq:∀st',Mg K sa (na+nb) (((pendingOf st).setIfInBounds i (sa,na+nb,pw)).eraseIdxIfInBounds (i+1)) st st'->Q true st'):wpS (model prog w) A E s (mergeAt' i) Q st:=by
 rw[Ni]
 refine wpS_bind (wpS_get ?_)
 rw[e1,e2]
 dsimp only
 refine wpS_bind (HZ ?_)
 have P1:=(rq (K:=K) (a:=arrOf st) (lo:=sa) (n:=na) (by omega)).mp s1
 have P2:=(rq (K:=K) (a:=arrOf st) (lo:=sa+na) (n:=nb) (by omega)).mp s2
 have lA:(sl (arrOf st) sa na).length=na:=by simp[sl];omega
 have lB:(sl (arrOf st) (sa+na) nb).length=nb:=by simp[sl];omega
 have gA:∀t,t<na->(arrOf st)[sa+t]?=(sl (arrOf st) sa na)[t]?:=λt ht=>by simp[sl,List.getElem?_take_of_lt ht]
 have gB:∀t,t<nb->(arrOf st)[sa+na+t]?=(sl (arrOf st) (sa+na) nb)[t]?:=λt ht=>by simp[sl,List.getElem?_take_of_lt ht]
 have DA:∀x∈sl (arrOf st) sa na,D x:=λx hx=>hB.all x (List.mem_of_mem_drop (List.mem_of_mem_take hx))
 have DB:∀x∈sl (arrOf st) (sa+na) nb,D x:=λx hx=>hB.all x (List.mem_of_mem_drop (List.mem_of_mem_take hx))
 have whole:sl (arrOf st) sa (na+nb)=sl (arrOf st) sa na++sl (arrOf st) (sa+na) nb:=by
  show((arrOf st).toList.drop sa).take (na+nb)=_
  rw[List.take_add,List.drop_drop]
 have parts:(arrOf st).toList=(arrOf st).toList.take sa++((sl (arrOf st) sa na++sl (arrOf st) (sa+na) nb)++(arrOf st).toList.drop (sa+(na+nb))):=by
  rw[<-whole]
  exact HY _ _ _
 have wA:∃A0,sl (arrOf st) sa na=A0:=⟨_,rfl⟩
 have wB:∃B0,sl (arrOf st) (sa+na) nb=B0:=⟨_,rfl⟩
 obtain⟨A0,eA⟩:=wA
 obtain⟨B0,eB⟩:=wB
 rw[eA]at P1 lA gA DA whole parts
 rw[eB]at P2 lB gB DB whole parts
 have lq:∀g,(A0++B0).Pairwise (λx y=>K x<=K y) ->Q true (SortSt.mk' (kindOf st) (arrOf st) (((pendingOf st).setIfInBounds i (sa,na+nb,pw)).eraseIdxIfInBounds (i+1)) g (failedOf st)):=λg hs=>
  hq _ ⟨Array.Perm.refl _,rfl,rfl,rfl,λ_ _=>rfl,(rq (by show sa+(na+nb)<=(arrOf st).size;omega)).mpr (by show(sl (arrOf st) sa (na+nb)).Pairwise _;rw[whole];exact hs)⟩
 obtain⟨b0,hb0⟩:∃b0,B0[0]?=some b0:=⟨_,List.getElem?_eq_getElem (by omega)⟩
 have VI:b0∈B0:=List.mem_of_getElem? hb0
 have DK:∀y∈B0,K b0<=K y:=by
  cases B0 with
  |nil=>cases hb0
  |cons z B0=>
   have:z=b0:=Option.some.inj hb0
   subst this
   exact eK P2
 refine wpS_bind (bg (by rw[<-hb0,<-gB 0 hb];rfl) (wpS_bind (j8 hL hB.kind A0 gA lA.symm DA (DB _ VI) P1 ha λk hk1 t1 t2=> ?_)))
 simp only[Bool.false_eq_true,if_false]at t1 t2
 dsimp only
 by_cases c1:(na-k==0)=true
 ·rw[if_pos c1]
  refine wpS_pure (lq _ (List.pairwise_append.mpr ⟨P1,P2,λx hx y hy=>Int.le_trans (t1 x ?_) (DK y hy)⟩))
  have:na-k=0:=by simpa using c1
  rw[List.take_of_length_le (by omega)]
  exact hx
 rw[if_neg c1]
 have n1:na-k≠0:=λe=>c1 (by rw[e];rfl)
 obtain⟨al,hal⟩:∃al,A0[na-1]?=some al:=⟨_,List.getElem?_eq_getElem (by omega)⟩
 have VJ:al∈A0:=List.mem_of_getElem? hal
 have lu:∀x∈A0,K x<=K al:=λx hx=>z5 P1 hx (by rw[lA];exact hal)
 refine wpS_bind (bg (by rw[show sa+k+(na-k) -1=sa+(na-1)by(clear lu hal n1 c1 t2 t1 DK hb0 lq eB lB gB DB whole parts eA gA DA hq hz hb e2 e1;omega),gA (na-1) (by omega)];exact hal) (wpS_bind (j8 hL hB.kind B0 gB lB.symm DB (DA _ VJ) P2 (by omega) λm hm1 u1 u2=> ?_)))
 simp only[if_true]at u1 u2
 dsimp only
 by_cases c2:(m==0)=true
 ·rw[if_pos c2]
  refine wpS_pure (lq _ (List.pairwise_append.mpr ⟨P1,P2,λx hx y hy=>Int.le_trans (lu x hx) (u2 y ?_)⟩))
  have:m=0:=by simpa using c2
  subst this
  exact hy
 rw[if_neg c2]
 have n2:m≠0:=λe=>c2 (by rw[e];rfl)
 have ex:((arrOf st).extract (sa+k) (sa+na)).toList=A0.drop k:=by
  rw[<-eA]
  simp[sl,List.drop_take,Nat.add_sub_add_left]
 have ey:((arrOf st).extract (sa+na) (sa+na+m)).toList=B0.take m:=by
  rw[<-eB]
  simp[sl,List.take_take,Nat.min_eq_left hm1]
 have Ia:((arrOf st).extract (sa+k) (sa+na)).size=na-k:=by simp;omega
 have WA:((arrOf st).extract (sa+na) (sa+na+m)).size=m:=by simp;omega
 have Xs:=List.Pairwise.sublist (List.drop_sublist k A0) P1
 have Ys:=List.Pairwise.sublist (List.take_sublist m B0) P2
 have dX:∀x∈A0.drop k,D x:=λx hx=>DA x (List.mem_of_mem_drop hx)
 have dY:∀x∈B0.take m,D x:=λx hx=>DB x (List.mem_of_mem_take hx)
 have z6:∀y∈(B0.take m).take 1,∀x∈A0.drop k,K y<=K x:=λy hy x hx=>by
  have e:(B0.take m).take 1=[b0]:=by
   cases B0 with
   |nil=>cases hb0
   |cons z B0=>
    have:z=b0:=Option.some.inj hb0
    subst this
    obtain⟨m,rfl⟩:∃m',m=m'+1:=⟨m-1,by(clear DK hb0 t2 t1 dY ey u2 u1 lq eB lB gB DB whole parts dX Ia ex c2 hm1 lu hal n1 c1 eA gA DA hq hz hb ha e2 e1;omega)⟩
    rfl
  rw[e,List.mem_singleton]at hy
  subst hy
  exact Int.le_of_lt (t2 x hx)
 have Jz:∀y∈B0.take m,∀x∈(A0.drop k).drop (na-k-1),K y<=K x:=λy hy x hx=>by
  have e:(A0.drop k).drop (na-k-1)=[al]:=by
   rw[List.drop_drop,show k+(na-k-1)=na-1 by(clear z6 dY dX Ia ey ex c2 u2 u1 hm1 lu hal c1 t2 t1 DK hb0 lq eB lB gB DB whole parts eA gA DA hq hz hb e2 e1;omega)]
   have e3:=List.drop_eq_getElem_cons (l:=A0) (i:=na-1) (by omega)
   rw[List.getElem?_eq_getElem (by omega)]at hal
   rw[e3,Option.some.inj hal,List.drop_eq_nil_of_le (by omega)]
  rw[e,List.mem_singleton]at hx
  subst hx
  exact Int.le_of_lt (u1 y hy)
 have goal:∀(r:Array Keyed)(s3:SortSt),Sg (SortSt.mk' (kindOf st) (arrOf st) (((pendingOf st).setIfInBounds i (sa,na+nb,pw)).eraseIdxIfInBounds (i+1)) (gallopOf st) (failedOf st)) s3->
   Good K (A0.drop k++B0.take m) r.toList->wpS (model prog w) A E s (do
    modify λz=>setArr z (wr (sa+k) (arrOf z) r.toList.zipIdx)
    return(failedOf (<-get)).isNone) Q s3:=by
  intro r s3 S3 G
  refine wpS_bind (wpS_modify (wpS_bind (wpS_get ?_)))
  have fl:failedOf s3=none:=S3.2.2.2.trans hB.failed
  show wpS _ _ _ _ (pure (failedOf s3).isNone) _ _
  rw[fl]
  refine wpS_pure (hq _ ?_)
  have ar:arrOf s3=arrOf st:=S3.2.1
  have lr:r.toList.length=na-k+m:=by rw[G.1.length_eq,List.length_append,List.length_drop,List.length_take];omega
  have lst:(wr (sa+k) (arrOf st) r.toList.zipIdx).toList=(arrOf st).toList.take sa++((A0.take k++(r.toList++B0.drop m))++(arrOf st).toList.drop (sa+(na+nb))):=by
   rw[Kx (by omega),lr]
   have ts:((arrOf st).toList.take sa).length=sa:=by simp;omega
   have q1:(arrOf st).toList.take (sa+k)=(arrOf st).toList.take sa++A0.take k:=by
    rw[List.take_add,<-eA]
    show _=_++(((arrOf st).toList.drop sa).take na).take k
    rw[List.take_take,Nat.min_eq_left hk1]
   have q2:(arrOf st).toList.drop (sa+k+(na-k+m))=B0.drop m++(arrOf st).toList.drop (sa+(na+nb)):=by
    rw[<-eB]
    show _=(((arrOf st).toList.drop (sa+na)).take nb).drop m++_
    rw[List.drop_take,List.drop_drop,show sa+k+(na-k+m)=sa+na+m by(clear q1 ts ar fl Jz z6 dY dX Ia ey ex n2 c2 u2 u1 hm1 lu hal n1 c1 t2 t1 DK hb0 lq eB lB gB DB whole parts eA gA DA hq hz hb ha e2 e1;omega)]
    conv=>lhs;rw[<-List.take_append_drop (nb-m) ((arrOf st).toList.drop (sa+na+m))]
    rw[List.drop_drop,show sa+na+m+(nb-m)=sa+(na+nb)by(clear q1 ts lr ar fl Jz z6 dY dX Ia ey ex n2 c2 u2 u1 lu hal n1 c1 t2 t1 hk1 DK hb0 lq eB gB DB whole parts eA lA gA DA hq hz hb ha e2 e1;omega)]
   rw[q1,q2]
   simp[List.append_assoc]
  have VL:(A0.take k++(r.toList++B0.drop m)).Pairwise λx y=>K x<=K y:=by
   have sA:=List.pairwise_append.mp (by rw[List.take_append_drop];exact P1:(A0.take k++A0.drop k).Pairwise λx y=>K x<=K y)
   have sB:=List.pairwise_append.mp (by rw[List.take_append_drop];exact P2:(B0.take m++B0.drop m).Pairwise λx y=>K x<=K y)
   refine List.pairwise_append.mpr ⟨sA.1,List.pairwise_append.mpr ⟨G.2,sB.2.1,λx hx y hy=> ?_⟩,λx hx y hy=> ?_⟩
   ·rcases List.mem_append.mp (G.1.mem_iff.mp hx)with z|z
    ·exact Int.le_trans (lu x (List.mem_of_mem_drop z)) (u2 y hy)
    ·exact sB.2.2 x z y hy
   ·rcases List.mem_append.mp hy with z|z
    ·rcases List.mem_append.mp (G.1.mem_iff.mp z)with z|z
     ·exact sA.2.2 x hx y z
     ·exact Int.le_trans (t1 x hx) (DK y (List.mem_of_mem_take z))
    ·exact Int.le_trans (t1 x hx) (DK y (List.mem_of_mem_drop z))
  have QC:(wr (sa+k) (arrOf st) r.toList.zipIdx).size=(arrOf st).size:=by
   rw[<-Array.length_toList,lst,<-Array.length_toList]
   conv=>rhs;rw[parts]
   simp only[List.length_append,lr,List.length_take,List.length_drop,lA,lB]
   omega
  have pm:(wr (sa+k) (arrOf st) r.toList.zipIdx).Perm (arrOf st):=by
   refine Array.perm_iff_toList_perm.mpr ?_
   rw[lst]
   conv=>rhs;rw[parts]
   refine List.Perm.append_left _ (List.Perm.append_right _ ?_)
   have h1:(A0.take k++(r.toList++B0.drop m)).Perm (A0.take k++((A0.drop k++B0.take m)++B0.drop m)):=List.Perm.append_left _ (List.Perm.append_right _ G.1)
   refine h1.trans (List.Perm.of_eq ?_)
   rw[List.append_assoc,List.take_append_drop,<-List.append_assoc,List.take_append_drop]
  refine⟨?_,S3.1,by show failedOf s3=failedOf st;rw[fl,hB.failed],S3.2.2.1,λt ht=> ?_,?_⟩
  ·show(wr (sa+k) (arrOf s3) r.toList.zipIdx).Perm _
   rw[ar]
   exact pm
  ·show(wr (sa+k) (arrOf s3) r.toList.zipIdx)[t]?=_
   rw[ar,BQ (sa+k) r.toList 0 (arrOf st) t (by omega),if_neg (by(clear QC lst ar fl Jz z6 dY dX Ia ey ex n2 c2 u2 u1 lu hal n1 c1 t2 t1 DK hb0 lq eB gB DB whole parts eA gA DA hq hz hb ha e2 e1;omega))]
  ·show So K (wr (sa+k) (arrOf s3) r.toList.zipIdx) sa (na+nb)
   rw[ar,rq (by rw[QC];omega)]
   show(((wr (sa+k) (arrOf st) r.toList.zipIdx).toList.drop sa).take (na+nb)).Pairwise _
   have ts:((arrOf st).toList.take sa).length=sa:=by simp;omega
   rw[lst,List.drop_append_of_le_length (by omega),List.drop_eq_nil_of_le (by omega),List.nil_append,List.take_append_of_le_length (by simp only[List.length_append,List.length_take,List.length_drop,lr,lA,lB];(clear ts QC lst ar fl Jz z6 dY dX Ia ey ex n2 c2 u2 u1 lu hal n1 c1 t2 t1 DK hb0 lq eB gB DB whole parts eA gA DA hq hz hb ha e2 e1;omega)),
    List.take_of_length_le (by simp only[List.length_append,List.length_take,List.length_drop,lr,lA,lB];(clear ts QC lst ar fl Jz z6 dY dX Ia ey ex n2 c2 u2 u1 lu hal n1 c1 t2 t1 DK hb0 lq eB gB DB whole parts eA gA DA hq hz hb ha e2 e1;omega))]
   exact VL
 refine j9 (λc=> ?_) (λc=> ?_)
 ·refine wpS_bind (Py hL hB.kind (by(clear c goal Jz z6 dY dX ey ex c2 u2 u1 hm1 lu hal c1 t2 t1 DK hb0 lq eB lB gB DB whole parts eA gA DA hq hz hb ha e2 e1;omega)) (by(clear c goal Jz z6 dY dX Ia ey ex c2 u2 u1 hm1 lu hal n1 c1 t2 t1 DK hb0 lq eB lB gB DB whole parts eA gA DA hq hz hb ha e2 e1;omega)) (by rw[ex];exact dX) (by rw[ey];exact dY) (by rw[ex];exact Xs) (by rw[ey];exact Ys) (by rw[ex,ey];exact z6) (by rw[ex,ey,Ia];exact Jz) λr s3 S3 G=> ?_)
  rw[ex,ey]at G
  exact goal r s3 S3 G
 ·refine wpS_bind (PB hL hB.kind (by omega) (by(clear c goal Jz z6 dY dX Ia ey ex c2 u2 u1 hm1 lu hal n1 c1 t2 t1 DK hb0 lq eB lB gB DB whole parts eA gA DA hq hz hb ha e2 e1;omega)) (by rw[ex];exact dX) (by rw[ey];exact dY) (by rw[ex];exact Xs) (by rw[ey];exact Ys) (by rw[ex,ey];exact z6) (by rw[ex,ey,Ia];exact Jz) λr s3 S3 G=> ?_)
  rw[ex,ey]at G
  exact goal r s3 S3 G
end
noncomputable def qG(K:Keyed->Int)(ar:Array Keyed):Nat->List (Nat×Nat×Nat) ->Nat->Prop
 |a,[],e=>a=e
 |a,(u,n,_)::r,e=>u=a/\0<n/\So K ar a n/\qG K ar (a+n) r e
theorem qG.le{K:Keyed->Int}{ar:Array Keyed}:∀{l:List (Nat×Nat×Nat)}{a e:Nat},qG K ar a l e->a+l.length<=e
 | [],a,e,h=>Nat.le_of_eq h
 |(u,n,z)::r,a,e,h=>by
  have:=qG.le h.2.2.2
  have:=h.2.1
  rw[List.length_cons]
  omega
theorem So.congr{K:Keyed->Int}{x y:Array Keyed}{lo n:Nat}(h:So K x lo n)(e:∀t,lo<=t->t<lo+n->y[t]?=x[t]?):So K y lo n:=λi j hij hj=>by
 rw[jN (e (lo+i) (by omega) (by omega)),jN (e (lo+j) (by omega) (by omega))]
 exact h i j hij hj
theorem qG.congr{K:Keyed->Int}{x y:Array Keyed}:∀{l:List (Nat×Nat×Nat)}{a e:Nat},qG K x a l e->(∀t,a<=t->t<e->y[t]?=x[t]?) ->qG K y a l e
 | [],a,e,h,_=>h
 |(u,n,z)::r,a,e,h,q=>⟨h.1,h.2.1,h.2.2.1.congr λt h1 h2=>q t h1 (by have:=h.2.2.2.le;omega),h.2.2.2.congr λt h1 h2=>q t (by omega) h2⟩
theorem qG.append{K:Keyed->Int}{ar:Array Keyed}{r:List (Nat×Nat×Nat)}{e:Nat}:∀{l:List (Nat×Nat×Nat)}{a:Nat},qG K ar a (l++r) e↔ ∃m,qG K ar a l m/\qG K ar m r e
 | [],a=>⟨λh=>⟨a,rfl,h⟩,λ ⟨m,h,q⟩=>by cases h;exact q⟩
 |(u,n,z)::l,a=>by
  constructor
  ·rintro⟨h1,h2,h3,h4⟩
   obtain⟨m,p,q⟩:=qG.append.mp h4
   exact⟨m,⟨h1,h2,h3,p⟩,q⟩
  ·rintro⟨m,⟨h1,h2,h3,p⟩,q⟩
   exact⟨h1,h2,h3,qG.append.mpr ⟨m,p,q⟩⟩
theorem qG.push{K:Keyed->Int}{ar:Array Keyed}{l:List (Nat×Nat×Nat)}{a e n z:Nat}(h:qG K ar a l e)(hn:0<n)(hs:So K ar e n):qG K ar a (l++ [(e,n,z)]) (e+n):=qG.append.mpr ⟨e,h,rfl,hn,hs,rfl⟩
theorem qG.pow{K:Keyed->Int}{ar:Array Keyed}{l:List (Nat×Nat×Nat)}{a e u n z z':Nat}(h:qG K ar a (l++ [(u,n,z)]) e):qG K ar a (l++ [(u,n,z')]) e:=by
 obtain⟨m,p,q1,q2,q3,q4⟩:=qG.append.mp h
 exact qG.append.mpr ⟨m,p,q1,q2,q3,q4⟩
theorem Ib:sortRuns'=(do
 let zz:=(arrOf (<-get)).size
 let mr:=minRun' zz zz 0
 let mut lo:=0
 for _ in [0:zz] do
  if lo≥zz then break
  let some f<-countRun' lo (zz-lo)|return
  let mut n:=f
  if n<mr then
   rule "list.sort.binary-insertion"
   let fo:=min (zz-lo) mr
   if !(<-binarySort' lo fo n)then return
   n:=fo
  if let some (a1,b1,_):=(pendingOf (<-get)).back? then
   let pw:=power' zz (2*a1+b1) (2*a1+b1+b1+n) zz
   for _ in [0:zz] do
    let p:=pendingOf (<-get)
    let some (_,_,od):=(if p.size>1 then p[p.size-2]? else none)|break
    if od<=pw then break
    if !(<-mergeAt' (p.size-2))then return
   modify λy=>setPending y ((pendingOf y).modify ((pendingOf y).size-1) λ (c,d,_)=>(c,d,pw))
  modify λy=>setPending y ((pendingOf y).push (lo,n,0))
  lo:=lo+n
 for _ in [0:zz] do
  let p:=pendingOf (<-get)
  if p.size<=1 then break
  let i:=p.size-2
  let be:=if i>0 then p[i-1]?.map (·.2.1)else none
  let i:=if be.any (· <(p[i+1]?.elim 0 (·.2.1)))then i-1 else i
  if !(<-mergeAt' i)then return):=rfl
section
variable{prog:Program}{w:World}{A:Around}{E:Value->Shared->Prop}{s:Shared}{κ:SortKind}{K:Keyed->Int}{D:Keyed->Prop}{st:SortSt}{a₀:Array Keyed}
structure RI(κ:SortKind)(K:Keyed->Int)(D:Keyed->Prop)(a₀:Array Keyed)(lo:Nat)(st:SortSt):Prop where
 sb:SB κ D st
 perm:(arrOf st).Perm a₀
 Nj:qG K (arrOf st) 0 (pendingOf st).toList lo
 le:lo<=a₀.size
theorem RI.size{lo:Nat}(R:RI κ K D a₀ lo st):(arrOf st).size=a₀.size:=R.perm.size_eq
theorem RI.cnt{lo:Nat}(R:RI κ K D a₀ lo st):(pendingOf st).size<=lo:=by have:=R.Nj.le;rw[Nat.zero_add,Array.length_toList]at this;exact this
theorem RI.sc{lo:Nat}{s1:SortSt}(R:RI κ K D a₀ lo st)(S:SC lo st s1):RI κ K D a₀ lo s1:=
 ⟨R.sb.sc S,S.perm.trans R.perm,by rw[S.pend];exact R.Nj.congr λt _ h=>S.low t h,R.le⟩
theorem uS(hL:qE prog w A E s κ K D){lo i:Nat}{Q:Bool->SortSt->Prop}(R:RI κ K D a₀ lo st)(hi:i+1<(pendingOf st).size)
  (hq:∀st',RI κ K D a₀ lo st'->(pendingOf st').size+1=(pendingOf st).size->(∀t,lo<=t->(arrOf st')[t]?=(arrOf st)[t]?) ->Q true st'):wpS (model prog w) A E s (mergeAt' i) Q st:=by
 have hl:i+1<(pendingOf st).toList.length:=by simpa using hi
 obtain⟨⟨u,na,z1⟩,eu⟩:∃x,(pendingOf st).toList[i]?=some x:=⟨_,List.getElem?_eq_getElem (by omega)⟩
 obtain⟨⟨v,nb,z2⟩,ev⟩:∃x,(pendingOf st).toList[i+1]?=some x:=⟨_,List.getElem?_eq_getElem hl⟩
 obtain⟨pre,post,split,lt⟩:∃pre post,(pendingOf st).toList=pre++((u,na,z1)::(v,nb,z2)::post)/\pre.length=i:=by
  refine⟨(pendingOf st).toList.take i,(pendingOf st).toList.drop (i+2),?_,by rw[List.length_take];omega⟩
  conv=>lhs;rw[<-List.take_append_drop i (pendingOf st).toList]
  congr 1
  rw[List.drop_eq_getElem_cons (by omega),List.drop_eq_getElem_cons hl]
  rw[List.getElem?_eq_getElem (by omega)]at eu
  rw[List.getElem?_eq_getElem hl]at ev
  rw[Option.some.inj eu,Option.some.inj ev]
 have C:=R.Nj
 rw[split]at C
 obtain⟨m,c1,rfl,hna,sa,c2⟩:=qG.append.mp C
 obtain⟨rfl,hnb,sb,c3⟩:=c2
 have Ic:=c3.le
 have sz:=R.size
 have rl:=R.le
 refine PC hL (q:=(z2,0)) (nb:=nb) (na:=na) (sa:=u) (pw:=z1) R.sb (by rw[<-Array.getElem?_toList];exact eu) (by rw[<-Array.getElem?_toList];exact ev) hna hnb (by(clear hnb split ev hna lt eu hl hq hi;omega)) sa sb λst' M=> ?_
 have pl:(pendingOf st').toList=pre++((u,na+nb,z1)::post):=by
  rw[M.pend]
  simp only[Array.toList_eraseIdxIfInBounds,Array.toList_setIfInBounds]
  rw[split,List.set_append_right _ _ (by omega),lt,Nat.sub_self,List.set_cons_zero,List.eraseIdx_append_of_length_le (by omega),lt,show i+1-i=1 by(clear rl sz Ic hnb split ev hna lt eu hl hq hi;omega),List.eraseIdx_cons_succ,List.eraseIdx_cons_zero]
 have ov:=c3.le
 refine hq st' ⟨⟨M.kind.trans R.sb.kind,M.failed.trans R.sb.failed,λx hx=>R.sb.all x ((Array.perm_iff_toList_perm.mp M.perm).mem_iff.mp hx)⟩,M.perm.trans R.perm,?_,R.le⟩ ?_ λt h=>M.out t (.inr (by(clear ov pl rl sz hnb split ev hna lt eu hl hq hi;omega)))
 ·rw[pl]
  exact qG.append.mpr ⟨u,c1.congr λt _ h=>M.out t (.inl h),rfl,by omega,M.so,by rw[<-Nat.add_assoc];exact c3.congr λt h _=>M.out t (.inr (by omega))⟩
 ·have e1:(pendingOf st').toList.length=(pendingOf st').size:=Array.length_toList
  have e2:(pendingOf st).toList.length=(pendingOf st).size:=Array.length_toList
  rw[pl]at e1
  rw[split]at e2
  simp only[List.length_append,List.length_cons]at e1 e2
  (clear ov pl rl sz Ic hnb split ev hna lt eu hl hq hi;omega)
theorem Ky(hL:qE prog w A E s κ K D){lo i:Nat}{Q:Bool->SortSt->Prop}(R:RI κ K D a₀ lo st)(hi:i+1<(pendingOf st).size)
  (hq:∀st',RI κ K D a₀ lo st'->(pendingOf st').size+1=(pendingOf st).size->Q true st'):wpS (model prog w) A E s (mergeAt' i) Q st:=uS hL R hi λst' r e _=>hq st' r e
theorem z7{α:Type}(f:α->α)(y:α):∀l:List α,(l++ [y]).modify l.length f=l++ [f y]
 | []=>rfl
 |x::l=>by
  show x::((l++ [y]).modify l.length f)=_
  rw[z7 f y l]
  rfl
theorem Kz{ar:Array Keyed}{p:Array (Nat×Nat×Nat)}{lo pw:Nat}(C:qG K ar 0 p.toList lo)(h:0<p.size):qG K ar 0 (p.modify (p.size-1) λx=>(x.1,x.2.1,pw)).toList lo:=by
 rw[Array.toList_modify]
 obtain⟨⟨q1,q2,q3⟩,l',el⟩:∃y l',p.toList=l'++ [y]:=by
  have ne:p.toList≠ []:=λe=>by
   rw[<-Array.length_toList,e]at h
   cases h
  exact⟨_,_,(List.dropLast_concat_getLast ne).symm⟩
 have sz:p.size-1=l'.length:=by
  rw[<-Array.length_toList,el]
  simp
 rw[el]at C ⊢
 rw[sz,z7]
 exact C.pow
theorem RI.pow{lo:Nat}(R:RI κ K D a₀ lo st)(h:0<(pendingOf st).size)(pw:Nat):RI κ K D a₀ lo (setPending st ((pendingOf st).modify ((pendingOf st).size-1) λx=>(x.1,x.2.1,pw))):=
 ⟨⟨R.sb.kind,R.sb.failed,R.sb.all⟩,R.perm,Kz R.Nj h,R.le⟩
theorem KA(c:Prop)[Decidable c](k:Nat):(if c then k-1 else k)<=k:=by split<;>omega
theorem Nk(hL:qE prog w A E s κ K D){Q:Unit->SortSt->Prop}(R:RI κ K D a₀ 0 st)(hq:∀st',(arrOf st').Perm a₀->failedOf st'=none->So K (arrOf st') 0 a₀.size->Q () st'):wpS (model prog w) A E s sortRuns' Q st:=by
 rw[Ib]
 refine wpS_bind (wpS_get ?_)
 dsimp only
 rw[R.size]
 generalize minRun' a₀.size a₀.size 0=mr
 refine wpS_bind (wpS_mono (wpS_forRange (I:=λx c s1=> ∃lo,c=(none,lo)/\x<=lo/\RI κ K D a₀ lo s1) (Q:=λc s1=> ∃lo,c=(none,lo)/\a₀.size<=lo/\RI κ K D a₀ lo s1) ?_ ?_ ⟨0,rfl,Nat.le_refl _,R⟩) ?_)
 ·rintro x c s1 _ hx ⟨lo,rfl,hlo,R1⟩
  dsimp only
  refine j9 (λc=>wpS_pure ⟨lo,rfl,c,R1⟩) (λc=> ?_)
  have QD:=R1.size
  refine wpS_bind (w_count hL R1.sb (by omega) (by omega) λn s2 S2 n1 n2 Of=> ?_)
  dsimp only
  have R2:=R1.sc S2
  have PD:=R2.size
  by_cases hm:n<mr
  ·rw[if_pos hm]
   refine wpS_bind (wpS_lift (wpAny_rule ⟨rfl,?_⟩))
   refine wpS_bind (LQ hL R2.sb (by(clear PD n1 QD c hlo hx hq;omega)) (by omega) Of λs3 S3 Gu=> ?_)
   simp only[Bool.not_true,Bool.false_eq_true,if_false]
   have R3:=R2.sc S3
   have n1:1<=min (a₀.size-lo) mr:=by(clear PD QD c hlo hx hq;omega)
   have n2:min (a₀.size-lo) mr<=a₀.size-lo:=by omega
   have note:∀s4:SortSt,RI κ K D a₀ lo s4->So K (arrOf s4) lo (min (a₀.size-lo) mr) -> ∀Q:ForInStep (Option Unit×Nat) ->SortSt->Prop,(∀s5,RI κ K D a₀ (lo+min (a₀.size-lo) mr) s5->Q (.yield (none,lo+min (a₀.size-lo) mr)) s5) ->wpS (model prog w) A E s (do
     modify λy=>setPending y ((pendingOf y).push (lo,min (a₀.size-lo) mr,0))
     pure (ForInStep.yield ((none,lo+min (a₀.size-lo) mr):Option Unit×Nat))) Q s4:=λs4 R4 BR Q hQ=>
    wpS_bind (wpS_modify (wpS_pure (hQ _ ⟨⟨R4.sb.kind,R4.sb.failed,R4.sb.all⟩,R4.perm,by
     show qG K (arrOf s4) 0 ((pendingOf s4).push (lo,min (a₀.size-lo) mr,0)).toList (lo+min (a₀.size-lo) mr)
     rw[Array.toList_push]
     exact R4.Nj.push n1 BR,by omega⟩)))
   refine wpS_bind (wpS_get ?_)
   cases eb:(pendingOf s3).back? with
   |none=>exact note s3 R3 Gu _ λs5 R5=>⟨lo+min (a₀.size-lo) mr,rfl,by omega,R5⟩
   |some y=>
    obtain⟨a1,b1,z1⟩:=y
    dsimp only
    refine wpS_bind (wpS_mono (wpS_forRange (I:=λ_ c s4=>c=(none,())/\RI κ K D a₀ lo s4/\So K (arrOf s4) lo (min (a₀.size-lo) mr)/\0<(pendingOf s4).size) (Q:=λc s4=>c=(none,())/\RI κ K D a₀ lo s4/\So K (arrOf s4) lo (min (a₀.size-lo) mr)/\0<(pendingOf s4).size) ?_ (λ_ _ h=>h) ⟨rfl,R3,Gu,?_⟩) ?_)
    ·rintro _ c s4 _ _ ⟨rfl,R4,BR,p4⟩
     refine wpS_bind (wpS_get ?_)
     by_cases c1:(pendingOf s4).size>1
     ·rw[if_pos c1]
      obtain⟨⟨p1,p2,p3⟩,ep⟩:∃y,(pendingOf s4)[(pendingOf s4).size-2]?=some y:=⟨_,Array.getElem?_eq_getElem (by omega)⟩
      rw[ep]
      refine j9 (λ_=>wpS_pure ⟨rfl,R4,BR,p4⟩) (λ_=> ?_)
      exact wpS_bind (uS hL R4 (by omega) λs5 R5 e5 o5=>wpS_pure ⟨rfl,R5,BR.congr λt h _=>o5 t h,by omega⟩)
     ·rw[if_neg c1]
      exact wpS_pure ⟨rfl,R4,BR,p4⟩
    ·cases h:(pendingOf s3).size with
     |zero=>
      have:pendingOf s3= #[]:=Array.eq_empty_of_size_eq_zero h
      rw[this]at eb
      cases eb
     |succ k=>omega
    ·rintro c s4 ⟨rfl,R4,BR,p4⟩
     dsimp only
     refine wpS_bind (wpS_modify ?_)
     exact note _ (R4.pow p4 _) BR _ λs5 R5=>⟨lo+min (a₀.size-lo) mr,rfl,by omega,R5⟩
  ·rw[if_neg hm]
   have R3:=R2
   have Gu:=Of
   revert R3 Gu
   generalize s2=s3
   intro R3 Gu
   have note:∀s4:SortSt,RI κ K D a₀ lo s4->So K (arrOf s4) lo (n) -> ∀Q:ForInStep (Option Unit×Nat) ->SortSt->Prop,(∀s5,RI κ K D a₀ (lo+n) s5->Q (.yield (none,lo+n)) s5) ->wpS (model prog w) A E s (do
     modify λy=>setPending y ((pendingOf y).push (lo,n,0))
     pure (ForInStep.yield ((none,lo+n):Option Unit×Nat))) Q s4:=λs4 R4 BR Q hQ=>
    wpS_bind (wpS_modify (wpS_pure (hQ _ ⟨⟨R4.sb.kind,R4.sb.failed,R4.sb.all⟩,R4.perm,by
     show qG K (arrOf s4) 0 ((pendingOf s4).push (lo,n,0)).toList (lo+n)
     rw[Array.toList_push]
     exact R4.Nj.push n1 BR,by omega⟩)))
   refine wpS_bind (wpS_get ?_)
   cases eb:(pendingOf s3).back? with
   |none=>exact note s3 R3 Gu _ λs5 R5=>⟨lo+n,rfl,by omega,R5⟩
   |some y=>
    obtain⟨a1,b1,z1⟩:=y
    dsimp only
    refine wpS_bind (wpS_mono (wpS_forRange (I:=λ_ c s4=>c=(none,())/\RI κ K D a₀ lo s4/\So K (arrOf s4) lo (n)/\0<(pendingOf s4).size) (Q:=λc s4=>c=(none,())/\RI κ K D a₀ lo s4/\So K (arrOf s4) lo (n)/\0<(pendingOf s4).size) ?_ (λ_ _ h=>h) ⟨rfl,R3,Gu,?_⟩) ?_)
    ·rintro _ c s4 _ _ ⟨rfl,R4,BR,p4⟩
     refine wpS_bind (wpS_get ?_)
     by_cases c1:(pendingOf s4).size>1
     ·rw[if_pos c1]
      obtain⟨⟨p1,p2,p3⟩,ep⟩:∃y,(pendingOf s4)[(pendingOf s4).size-2]?=some y:=⟨_,Array.getElem?_eq_getElem (by(clear p4 eb note hm PD n2 n1 QD c hlo hx hq;omega))⟩
      rw[ep]
      refine j9 (λ_=>wpS_pure ⟨rfl,R4,BR,p4⟩) (λ_=> ?_)
      exact wpS_bind (uS hL R4 (by(clear ep p4 eb note hm PD n2 n1 QD c hlo hx hq;omega)) λs5 R5 e5 o5=>wpS_pure ⟨rfl,R5,BR.congr λt h _=>o5 t h,by omega⟩)
     ·rw[if_neg c1]
      exact wpS_pure ⟨rfl,R4,BR,p4⟩
    ·cases h:(pendingOf s3).size with
     |zero=>
      have:pendingOf s3= #[]:=Array.eq_empty_of_size_eq_zero h
      rw[this]at eb
      cases eb
     |succ k=>omega
    ·rintro c s4 ⟨rfl,R4,BR,p4⟩
     dsimp only
     refine wpS_bind (wpS_modify ?_)
     exact note _ (R4.pow p4 _) BR _ λs5 R5=>⟨lo+n,rfl,by omega,R5⟩
 ·rintro c s1 ⟨lo,rfl,hlo,R1⟩
  exact⟨lo,rfl,by omega,R1⟩
 ·rintro c s1 ⟨lo,rfl,hlo,R1⟩
  have hl:lo=a₀.size:=by have:=R1.le;omega
  subst hl
  dsimp only
  refine wpS_bind (wpS_mono (wpS_forRange (I:=λx c s2=>c=(none,())/\RI κ K D a₀ a₀.size s2/\((pendingOf s2).size<=1∨(pendingOf s2).size+x<=a₀.size)) (Q:=λc s2=>c=(none,())/\RI κ K D a₀ a₀.size s2/\(pendingOf s2).size<=1) ?_ ?_ ⟨rfl,R1,.inr R1.cnt⟩) ?_)
  ·rintro x c s2 _ hx ⟨rfl,R2,p2⟩
   refine wpS_bind (wpS_get ?_)
   refine j9 (λc=>wpS_pure ⟨rfl,R2,c⟩) (λc=> ?_)
   have mg:∀i,i+1<(pendingOf s2).size-> ∀Q:ForInStep (Option Unit×Unit) ->SortSt->Prop,(∀s3,RI κ K D a₀ a₀.size s3->(pendingOf s3).size+1=(pendingOf s2).size->Q (.yield (none,())) s3) ->wpS (model prog w) A E s (do
     let b<-mergeAt' i
     if(!b)=true then pure (ForInStep.done ((some (),()):Option Unit×Unit))else pure (ForInStep.yield (none,()))) Q s2:=λi hi Q hQ=>
    wpS_bind (Ky hL R2 hi λs3 R3 e3=>wpS_pure (hQ s3 R3 e3))
   refine mg _ ?_ _ λs3 R3 e3=>⟨rfl,R3,.inr (by omega)⟩
   exact Nat.lt_of_le_of_lt (Nat.succ_le_succ (KA _ _)) (by omega)
  ·rintro c s2 ⟨hc,R2,p2⟩
   exact⟨hc,R2,by omega⟩
  ·rintro c s2 ⟨rfl,R2,p2⟩
   refine wpS_pure (hq s2 R2.perm R2.sb.failed ?_)
   have C:=R2.Nj
   have le:=p2
   rw[<-Array.length_toList]at le
   cases e:(pendingOf s2).toList with
   |nil=>
    rw[e]at C
    have z:0=a₀.size:=C
    intro i j h1 h2
    omega
   |cons y r=>
    rw[e]at C le
    have:r=[]:=by
     cases r with
     |nil=>rfl
     |cons _ _=>simp at le
    subst this
    obtain⟨c1,c2,c3,c4⟩:=C
    have:0+y.2.1=a₀.size:=c4
    rw[<-this,Nat.zero_add]
    exact c3
end
end yo
namespace L2
open PySem PySem.Spec PyProof.Rows PySem.SeqAt
open AutoSeq1 (wpAny_loadPart')
open MeetsSeq MeetsSeq2 MeetsSeq3 SeqRoads2
mutual
noncomputable def JA:PyData->PyData->Bool
 | .int a,.int b=>decide (a<b)
 | .list xs,.list ys=>yq xs ys
 | .tuple xs,.tuple ys=>yq xs ys
 |_,_=>false
noncomputable def yq:List PyData->List PyData->Bool
 |x::xs,y::ys=>if PyData.eqv x y then yq xs ys else JA x y
 |_,_=>false
end
mutual
inductive BS:PyData->PyData->Prop
 |int(a b:Int):BS (.int a) (.int b)
 |lst{xs ys:List PyData}:pB xs ys->BS (.list xs) (.list ys)
inductive pB:List PyData->List PyData->Prop
 |nil:pB [] []
 |cons{x y:PyData}{xs ys:List PyData}:BS x y->pB xs ys->pB (x::xs) (y::ys)
end
noncomputable def tR(A:Around)(s:Shared)(y x:Value)(b:Bool):Prop:=
 ∀(prog:Program)(w:World)(E:Value->Shared->Prop)(Q:Value->Shared->Prop),Q (.bool b) s->wpAny (model prog w) A (richCompare .Lt y x) Q E s
noncomputable def tS(e l:Nat->Bool):Nat->Nat->Bool
 |0,_=>false
 |k+1,i=>if e i then tS e l k (i+1)else l i
theorem EX(l b:Addr)(its nH:Array Value)(n n2:Nat)(dd dd2:Option Addr)(sl sl2:Array (Option Value))(hsz:its.size=nH.size)(e f:Nat->Bool)(k:Nat):
  ∀i:Nat,its.size-i=k->Meets (Builtin.«list.__eq__.loop» ⟨[.ref l,.ref b,rawInt i,rawInt 0],[]⟩)
   (λA R s=>s.heap.get? l=some {cls:= .type "list",dict:=dd,data:= .seq its n,slots:=sl}/\s.heap.get? b=some {cls:= .type "list",dict:=dd2,data:= .seq nH n2,slots:=sl2}/\
    (∀j (h1:j<its.size) (h2:j<nH.size),EqAt A.in1 s its[j] nH[j] (e j))/\
    (∀j (h1:j<its.size) (h2:j<nH.size),e j=false->tR A.in1 s its[j] nH[j] (f j))/\
    R (.ok (.ret (.bool (tS e f k i)))) s):=by
 induction k with
 |zero=>
  intro i hk prog w A R s h
  obtain⟨hp,g,d,tk,os⟩:=s;obtain⟨hl,hb,he,hf,h⟩:=h
  wp_walk using wpAny_loadPart' hl,wpAny_loadPart' hb
  have hi1:its[((i:Nat):Int).toNat]?=none:=by simp;omega
  have hi2:nH[((i:Nat):Int).toNat]?=none:=by simp;omega
  rw[hi1,hi2]
  wp_walk using wpAny_loadPart' hl,wpAny_loadPart' hb
  show R (.ok (.ret (.bool (decide (its.size<nH.size))))) _
  rw[hsz,decide_eq_false (Nat.lt_irrefl _)]
  exact h
 |succ k ih=>
  intro i hk prog w A R s h
  obtain⟨hp,g,d,tk,os⟩:=s;obtain⟨hl,hb,he,hf,h⟩:=h
  wp_walk using wpAny_loadPart' hl,wpAny_loadPart' hb
  have hlt:i<its.size:=by omega
  have Nl:i<nH.size:=by omega
  have hi1:its[((i:Nat):Int).toNat]?=some its[i]:=by simp[hlt]
  have hi2:nH[((i:Nat):Int).toNat]?=some nH[i]:=by simp[Nl]
  have hc:((i:Int)+1)=((i+1:Nat):Int):=by push_cast;rfl
  rw[hi1,hi2]
  refine wpAny_bind (he i hlt Nl prog w _ _ ?_)
  unfold tS at h
  cases hb':e i with
  |true=>
   rw[hb',if_pos rfl]at h
   wp_walk
   rw[hc]
   exact⟨plainId_quiet plain_eq_loop _,codeAny_builtin entry_eq_loop (by
    rw[Around.under_plainId plain_eq_loop _]
    exact ih (i+1) (by omega) prog w A R _ ⟨hl,hb,he,hf,h⟩)⟩
  |false=>
   rw[hb',if_neg (by simp)]at h
   wp_walk using wpAny_loadPart' hl,wpAny_loadPart' hb
   rw[hi1,hi2]
   refine wpAny_bind (hf i hlt Nl hb' prog w _ _ ?_)
   wp_walk
   exact h
theorem xw(l b:Addr)(its nH:Array Value)(n n2:Nat)(dd dd2:Option Addr)(sl sl2:Array (Option Value))(hsz:its.size=nH.size)(e f:Nat->Bool):
  Meets (Builtin.«list.__lt__» ⟨[.ref l,.ref b],[]⟩)
   (λA R s=>s.heap.get? l=some {cls:= .type "list",dict:=dd,data:= .seq its n,slots:=sl}/\s.heap.get? b=some {cls:= .type "list",dict:=dd2,data:= .seq nH n2,slots:=sl2}/\
    (∀j (h1:j<its.size) (h2:j<nH.size),EqAt A.in1 s its[j] nH[j] (e j))/\
    (∀j (h1:j<its.size) (h2:j<nH.size),e j=false->tR A.in1 s its[j] nH[j] (f j))/\
    R (.ok (.ret (.bool (tS e f its.size 0)))) s):=by
 intro prog w A R s h
 obtain⟨hp,g,d,tk,os⟩:=s;obtain⟨hl,hb,he,hf,h⟩:=h
 have f3:=AutoSeq1.sub_list_list
 wp_walk using wpAny_loadPart' hl,wpAny_loadPart' hb
 exact⟨plainId_quiet plain_eq_loop _,codeAny_builtin entry_eq_loop (by
  rw[Around.under_plainId plain_eq_loop _]
  exact EX l b its nH n n2 dd dd2 sl sl2 hsz e f _ 0 rfl prog w A R _ ⟨hl,hb,he,hf,h⟩)⟩
section
variable{A:Around}{s:Shared}
theorem tR.lists{l b:Addr}{its nH:Array Value}{e f:Nat->Bool}(hl:s.heap.IsList l its)(hb:s.heap.IsList b nH)(hsz:its.size=nH.size)(hu:A.units<cLine)
  (he:∀j (h1:j<its.size) (h2:j<nH.size),EqAt A.in1 s its[j] nH[j] (e j))(hf:∀j (h1:j<its.size) (h2:j<nH.size),e j=false->tR A.in1 s its[j] nH[j] (f j)):
  tR A s (.ref l) (.ref b) (tS e f its.size 0):=λprog w E Q h=>by
 obtain⟨⟨cls,dd,data,sl⟩,ho,hc,n,hd⟩:=id hl
 obtain⟨⟨Sh,dd2,data2,sl2⟩,ho2,hc2,n2,hd2⟩:=id hb
 simp only at hc hd hc2 hd2
 subst hc hd hc2 hd2
 exact richCompare_meets_room (op:= .Lt) ⟨_,ho,rfl⟩ ⟨_,ho2,rfl⟩ F.slot_list_lt F.entry_list_lt (F.args_list_lt_2 _ _) (xw l b its nH n n2 dd dd2 sl sl2 hsz e f)
  ⟨ho,ho2,he,hf,show Value.bool (tS e f its.size 0)≠Value.notImplemented/\Q (.bool (tS e f its.size 0)) s from⟨(λx=>nomatch x),h⟩⟩ hu
theorem tR.int_int(a:Int)(t:Tok)(b:Int)(u:Tok):tR A s (.int a t) (.int b u) (decide (a<b)):=λprog w E Q h=>
 richCompare_gives (typeIs_int s a t) (typeIs_int s b u) F.slot_int_lt F.entry_int_lt (F.args_int_lt_2 _ _) (AutoIntG1.int___lt___int_int_0 a t b u) (λx=>nomatch x) h
end
noncomputable abbrev JC(xs ys:List PyData)(j:Nat):Bool:=JA (xs.getD j .none) (ys.getD j .none)
theorem uT(x y:PyData)(xs ys:List PyData):∀k i,tS (pairEq (x::xs) (y::ys)) (JC (x::xs) (y::ys)) k (i+1)=tS (pairEq xs ys) (JC xs ys) k i
 |0,_=>rfl
 |k+1,i=>by
  show(if pairEq (x::xs) (y::ys) (i+1)then _ else JC (x::xs) (y::ys) (i+1))=if pairEq xs ys i then _ else JC xs ys i
  rw[uT x y xs ys k (i+1)]
  rfl
theorem rA:∀{xs ys:List PyData},pB xs ys->tS (pairEq xs ys) (JC xs ys) xs.length 0=yq xs ys
 |_,_,.nil=>rfl
 |_,_,.cons (x:=x) (y:=y) (xs:=xs) (ys:=ys) c cs=>by
  show(if pairEq (x::xs) (y::ys) 0 then tS (pairEq (x::xs) (y::ys)) (JC (x::xs) (y::ys)) xs.length (0+1)else JC (x::xs) (y::ys) 0)=if PyData.eqv x y then yq xs ys else JA x y
  rw[uT,rA cs]
  rfl
theorem pB.length:∀{xs ys:List PyData},pB xs ys->xs.length=ys.length
 |_,_,.nil=>rfl
 |_,_,.cons _ cs=>congrArg (· +1) cs.length
mutual
theorem uU:∀{da db:PyData},BS da db-> ∀{A:Around}{s:Shared}{a b:Value}{as bs:List Addr},Reads s.heap a da as->Reads s.heap b db bs->da.canLay0=true->db.canLay0=true->
  A.units+min da.depth db.depth<cLine->tR A s a b (JA da db)
 |_,_,.int x y,A,s,_,_,_,_,ra,rb,_,_,_=>by
  cases ra
  cases rb
  exact tR.int_int x _ y _
 |_,_,.lst (xs:=xs) (ys:=ys) cs,A,s,_,_,_,_,ra,rb,ha,hb,hu=>by
  cases ra with
  | @list l o vs n _ as₁ h1 h2 h3 h4=>
   cases rb with
   | @list l' o' vs' n' _ bs₁ k1 k2 k3 k4=>
    have n1:vs.size=xs.length:=by simpa using ReadsAll.length _ _ _ h4
    have n2:vs'.size=ys.length:=by simpa using ReadsAll.length _ _ _ k4
    have hl:s.heap.IsList l vs:=⟨_,h1,h2,_,h3⟩
    have hl':s.heap.IsList l' vs':=⟨_,k1,k2,_,k3⟩
    have:=tR.lists (e:=pairEq xs ys) (f:=JC xs ys) hl hl' (by rw[n1,n2,cs.length]) (room_here hu) (λj j1 j2=>by
     have:=eqAt_readsAll xs ys A.in1 s vs.toList vs'.toList _ _ h4 k4 ha hb (room_in hu) j (by simpa using j1) (by simpa using j2)
     simpa using this) (λj j1 j2 _=>by
     have:=kB (A:=A.in1) cs h4 k4 ha hb (room_in hu) j (by simpa using j1) (by simpa using j2)
     simpa using this)
    rw[n1,rA cs]at this
    exact this
theorem kB:∀{xs ys:List PyData},pB xs ys-> ∀{A:Around}{s:Shared}{vs ws:List Value}{as bs:List Addr},ReadsAll s.heap vs xs as->ReadsAll s.heap ws ys bs->PyData.canLayAll0 xs=true->PyData.canLayAll0 ys=true->
  A.units+min (PyData.depthAll xs) (PyData.depthAll ys)<cLine-> ∀j (h1:j<vs.length) (h2:j<ws.length),tR A s vs[j] ws[j] (JC xs ys j)
 |_,_,.nil,_,_,_,_,_,_,ra,_,_,_,_,j,h1,_=>by cases ra;exact absurd h1 (Nat.not_lt_zero _)
 |_,_,.cons (x:=x) (y:=y) (xs:=xs) (ys:=ys) c cs,A,s,_,_,_,_,ra,rb,ha,hb,hu,j,h1,h2=>by
  have ha':x.canLay0=true/\PyData.canLayAll0 xs=true:=by simpa [PyData.canLayAll0]using ha
  have hb':y.canLay0=true/\PyData.canLayAll0 ys=true:=by simpa [PyData.canLayAll0]using hb
  cases ra with
  |cons r rs=>
   cases rb with
   |cons r' rs'=>
    cases j with
    |zero=>exact uU c r r' ha'.1 hb'.1 (room_head hu)
    |succ j=>exact kB cs rs rs' ha'.2 hb'.2 (room_tail hu) j (Nat.lt_of_succ_lt_succ h1) (Nat.lt_of_succ_lt_succ h2)
end
section
variable{prog:Program}{w:World}{A:Around}{E:Value->Shared->Prop}{s:Shared}
theorem yr{l b:Addr}{its nH:Array Value}{e f:Nat->Bool}{Q:Value->Shared->Prop}(hl:s.heap.IsList l its)(hb:s.heap.IsList b nH)(hsz:its.size=nH.size)
  (he:∀j (h1:j<its.size) (h2:j<nH.size),EqAt A.in1 s its[j] nH[j] (e j))(hf:∀j (h1:j<its.size) (h2:j<nH.size),e j=false->tR A.in1 s its[j] nH[j] (f j))
  (h:Q (.bool (tS e f its.size 0)) s):wpAny (model prog w) A (call (.builtin "list.__lt__") [.ref l,.ref b]) Q E s:=by
 obtain⟨⟨cls,dd,data,sl⟩,ho,hc,n,hd⟩:=id hl
 obtain⟨⟨Sh,dd2,data2,sl2⟩,ho2,hc2,n2,hd2⟩:=id hb
 simp only at hc hd hc2 hd2
 subst hc hd hc2 hd2
 exact call_meets F.slot_list_lt ⟨_,ho,rfl⟩ F.entry_list_lt (F.args_list_lt_2 _ _) (xw l b its nH n n2 dd dd2 sl sl2 hsz e f) ⟨ho,ho2,he,hf,h⟩
theorem tE{da db:PyData}(c:BS da db){a b:Value}{as bs:List Addr}(ra:Reads s.heap a da as)(rb:Reads s.heap b db bs)(ha:da.canLay0=true)(hb:db.canLay0=true)
  (hu:A.units+min da.depth db.depth<cLine){Q:Bool->Shared->Prop}(h:Q (JA da db) s):wpAny (model prog w) A (oneLt' true a b) Q E s:=by
 cases c with
 |int x y=>
  cases ra
  cases rb
  exact oneLt_int h
 | @lst xs ys cs=>
  cases ra with
  | @list l o vs n _ as₁ h1 h2 h3 h4=>
   cases rb with
   | @list l' o' vs' n' _ bs₁ k1 k2 k3 k4=>
    have n1:vs.size=xs.length:=by simpa using ReadsAll.length _ _ _ h4
    have n2:vs'.size=ys.length:=by simpa using ReadsAll.length _ _ _ k4
    have hl:s.heap.IsList l vs:=⟨_,h1,h2,_,h3⟩
    have hl':s.heap.IsList l' vs':=⟨_,k1,k2,_,k3⟩
    rw[oneLt'_eq]
    simp only[if_true]
    refine wpAny_bind (wpAny_cRoomFor_or (.inr (room_here hu)) ?_)
    refine wpAny_bind (wpAny_callSpecialIfBound?_slot (T:= "list") (id:= "list.__lt__") ⟨o,h1,h2⟩ F.slot_list_lt (yr (e:=pairEq xs ys) (f:=JC xs ys) hl hl' (by rw[n1,n2,cs.length]) (λj j1 j2=>by
     have:=eqAt_readsAll xs ys A.in1 s vs.toList vs'.toList _ _ h4 k4 ha hb (room_in hu) j (by simpa using j1) (by simpa using j2)
     simpa using this) (λj j1 j2 _=>by
     have:=kB (A:=A.in1) cs h4 k4 ha hb (room_in hu) j (by simpa using j1) (by simpa using j2)
     simpa using this) ?_))
    rw[n1,rA cs]
    exact wpAny_truthy_bool h
theorem BU{da db:PyData}(c:BS da db){a b:Value}{as bs:List Addr}(ra:Reads s.heap a da as)(rb:Reads s.heap b db bs)(ha:da.canLay0=true)(hb:db.canLay0=true)
  (hu:A.units+min da.depth db.depth<cLine)(k:Bool){Q:Bool->Shared->Prop}(h:Q (JA da db) s):wpAny (model prog w) A (oneLt' k a b) Q E s:=by
 cases k with
 |true=>exact tE c ra rb ha hb hu h
 |false=>
  refine PySem.W.kat_one a b (uU c ra rb ha hb hu prog w E _ ?_)
  exact h
theorem xx{b:Bool}{Q:Bool->Shared->Prop}:∀{xs ys:List PyData},pB xs ys-> ∀{vs ws:List Value}{as bs:List Addr},ReadsAll s.heap vs xs as->ReadsAll s.heap ws ys bs->PyData.canLayAll0 xs=true->PyData.canLayAll0 ys=true->
  A.units+min (PyData.depthAll xs) (PyData.depthAll ys)<cLine-> ∀i,Q (yq xs ys) s->PySem.W.KatLex prog w A b false Q (vs.zip ws) i s
 |_,_,.nil,_,_,_,_,ra,rb,_,_,_,i,h=>by
  cases ra
  cases rb
  exact PySem.W.kat_nil h
 |_,_,.cons (x:=x) (y:=y) (xs:=xs) (ys:=ys) c cs,_,_,_,_,ra,rb,ha,hb,hu,i,h=>by
  have ha':x.canLay0=true/\PyData.canLayAll0 xs=true:=by simpa [PyData.canLayAll0]using ha
  have hb':y.canLay0=true/\PyData.canLayAll0 ys=true:=by simpa [PyData.canLayAll0]using hb
  cases ra with
  |cons r rs=>
   cases rb with
   |cons r' rs'=>
    refine PySem.W.kat_cons (eqAt_reads x y A s _ _ _ _ r r' ha'.1 hb'.1 (room_head hu) prog w _ _ ?_)
    have h':Q (if PyData.eqv x y then yq xs ys else JA x y) s:=h
    cases e:PyData.eqv x y with
    |true=>
     rw[e,if_pos rfl]at h'
     exact PySem.W.kat_yes (xx cs rs rs' ha'.2 hb'.2 (room_tail hu) (i+1) h')
    |false=>
     rw[e,if_neg (by simp)]at h'
     exact PySem.W.kat_no (BU c r r' ha'.1 hb'.1 (room_head hu) _ h')
end
end L2
namespace L2
open PySem PySem.Spec PyProof.Rows PySem.SeqAt yo
section
variable{prog:Program}{w:World}{A:Around}{E:Value->Shared->Prop}{s:Shared}
structure yt(prog:Program)(w:World)(A:Around)(E:Value->Shared->Prop)(a:Addr)(vs:List Value)(κ:SortKind)(K:Keyed->Int)(s:Shared):Prop where
 kind:2<=vs.length-> ∀s':Shared,(∀b o,b≠a->s.heap.get? b=some o->s'.heap.get? b=some o) -> ∀Q:SortKind->Shared->Prop,Q κ s'->wpAny (model prog w) A (keyKind' vs.toArray) Q E s'
 lt:∀s':Shared,(∀b o,b≠a->s.heap.get? b=some o->s'.heap.get? b=some o) ->qE prog w A E s' κ K (λp=>p.1=p.2/\p.1∈vs)
theorem z8{vs:List Value}{K:Keyed->Int}{xs:Array Keyed}(hp:xs.Perm (pairsOf vs))(hs:So K xs 0 vs.length):
  ((xs.map (·.2)).toList).Perm vs/\((xs.map (·.2)).toList).Pairwise λx y=>K (x,x)<=K (y,y):=by
 have hl:xs.toList.Perm (vs.zip vs):=by rw[<-pairsOf_toList];exact Array.perm_iff_toList_perm.mp hp
 have hm:∀p,p∈xs.toList->p.1=p.2/\p.1∈vs:=λp q=>mem_zip_self (hl.mem_iff.mp q)
 have len:xs.toList.length=vs.length:=by rw[hl.length_eq];simp
 constructor
 ·have:=hl.map Prod.snd
  rw[List.map_snd_zip (Nat.le_refl _)]at this
  simpa using this
 ·have h2:=(rq (K:=K) (a:=xs) (lo:=0) (n:=vs.length) (by rw[Nat.zero_add,<-len];exact Nat.le_of_eq (Array.length_toList ..))).mp hs
  have e:sl xs 0 vs.length=xs.toList:=by
   show(xs.toList.drop 0).take vs.length=_
   rw[List.drop_zero,List.take_of_length_le (by omega)]
  rw[e]at h2
  rw[Array.toList_map,List.pairwise_map]
  refine h2.imp_of_mem λ {p q} p1 q1 h=> ?_
  have ep:(p.2,p.2)=p:=Prod.ext (hm p p1).1.symm rfl
  have eq:(q.2,q.2)=q:=Prod.ext (hm q q1).1.symm rfl
  rw[ep,eq]
  exact h
theorem KC{a:Addr}{vs:List Value}{n:Nat}{P:PySem.Fin->Shared->Prop}{κ:SortKind}{K:Keyed->Int}(ho:s.heap.get? a=some (seqObj "list" vs.toArray n))(hz:vs.length<=sizeLine)
  (ask:yt prog w A E a vs κ K s)(h:∀out:List Value,out.Perm vs->out.Pairwise (λx y=>K (x,x)<=K (y,y)) ->P (.done (.ret .none)) {s with heap:=sortedHeap s.heap a vs out.toArray}):
  wpAny (model prog w) A (Builtin.«list.sort» ⟨[.ref a],[]⟩) P E s:=by
 rw[list_sort_plain]
 have la:a<s.heap.objs.size:=Heap.lt_size ho
 have fin:∀st':SortSt,(arrOf st').Perm (pairsOf vs) ->So K (arrOf st') 0 vs.length->P (.done (.ret .none)) {s with heap:=sortedHeap s.heap a vs ((arrOf st').map (·.2))}:=λst' hp hs=>by
  obtain⟨q1,q2⟩:=z8 hp hs
  have:=h _ q1 q2
  rwa [Array.toArray_toList]at this
 refine wpAny_bind (listItems_at ho rfl ?_)
 refine wpAny_bind (listUpdate_at ho rfl ?_ (by simpa using hz) (Nat.zero_le _))
 obtain⟨e1,Ug⟩:∃e1,(s.heap.update a (Obj.mapSeq λ_=> #[])).get? a=some (seqObj "list" #[] e1):=⟨_,get?_update_seq ho (λ_=> #[])⟩
 refine wpAny_bind (seqEpoch_at Ug rfl ?_)
 refine wpAny_bind (wpAny_newTuple ?_ (by simpa using hz))
 refine wpAny_bind (wpAny_newList ?_ (Nat.zero_le _))
 refine wpAny_holding ?_
 generalize hg:(((s.heap.update a (Obj.mapSeq λ_=> #[])).push (seqObj "tuple" vs.toArray 0)).push (seqObj "list" #[] 0))=fJ
 have keep:∀b o,b≠a->s.heap.get? b=some o->fJ.get? b=some o:=λb o hb e=>by
  rw[<-hg]
  refine Heap.get?_push_of_some _ (Heap.get?_push_of_some _ ?_)
  rw[Heap.get?_update_ne _ _ _ _ hb]
  exact e
 have ho6:fJ.get? a=some (seqObj "list" #[] e1):=by
  rw[<-hg]
  exact Heap.get?_push_of_some _ (Heap.get?_push_of_some _ Ug)
 have sh:∀out,sortedHeap s.heap a vs out=fJ.update a (Obj.mapSeq λ_=>out):=λout=>by rw[<-hg];rfl
 have WB:vs.toArray.size=vs.length:=by simp
 have bound:∀st':SortSt,(arrOf st').Perm (pairsOf vs) ->((arrOf st').map (·.2)).size<=sizeLine+1:=λst' hp=>by
  rw[Array.size_map,hp.size_eq,pairsOf_size]
  omega
 show wpAny (model prog w) A _ P E {s with heap:=fJ}
 dsimp only
 by_cases h2:vs.toArray.size<2
 ·rw[if_pos h2,if_pos h2]
  refine wpAny_bind (wpAny_pure ?_)
  rw[StateT.run_pure]
  refine wpAny_bind (wpAny_pure ?_)
  dsimp only
  refine wpAny_bind (seqEpoch_at ho6 rfl ?_)
  refine wpAny_bind (listUpdate_at ho6 rfl ?_ (Nat.zero_le _) (bound (SortSt.mk' general' (pairsOf vs) #[] 7 none) (Array.Perm.refl _)))
  simp only[bne_self_eq_false,Bool.false_eq_true,if_false]
  have:=fin (SortSt.mk' general' (pairsOf vs) #[] 7 none) (Array.Perm.refl _) (λi j hij hj=>by
   have:i=j:=by omega
   subst this;exact Int.le_refl _)
  rw[sh]at this
  exact wpAny_pure this
 ·rw[if_neg h2,if_neg h2]
  refine wpAny_bind (ask.kind (by omega) {s with heap:=fJ} keep _ ?_)
  have R:RI κ K (λp=>p.1=p.2/\p.1∈vs) (pairsOf vs) 0 (SortSt.mk' κ (pairsOf vs) #[] 7 none):=by
   refine⟨⟨rfl,rfl,λp hp=> ?_⟩,Array.Perm.refl _,rfl,Nat.zero_le _⟩
   have fJ:p∈(pairsOf vs).toList:=hp
   rw[pairsOf_toList]at fJ
   exact mem_zip_self fJ
  refine wpAny_bind (wpAny_mono (Nk (ask.lt {s with heap:=fJ} keep) (Q:=λ_ st'=>(arrOf st').Perm (pairsOf vs)/\failedOf st'=none/\So K (arrOf st') 0 (pairsOf vs).size) R λst' a1 a2 a3=>⟨a1,a2,a3⟩) ?_ λ_ _ e=>e)
  rintro⟨⟨⟩,st'⟩ s' ⟨rfl,hp,hf,hs⟩
  dsimp only
  rw[pairsOf_size]at hs
  refine wpAny_bind (seqEpoch_at ho6 rfl ?_)
  refine wpAny_bind (listUpdate_at ho6 rfl ?_ (Nat.zero_le _) (bound st' hp))
  rw[hf]
  simp only[bne_self_eq_false,Bool.false_eq_true,if_false]
  have:=fin st' hp hs
  rw[sh]at this
  exact wpAny_pure this
theorem Ie{l:Addr}{vs:List Value}{Q:Value->Shared->Prop}{κ:SortKind}{K:Keyed->Int}(hl:s.heap.IsList l vs.toArray)(hz:vs.length<=sizeLine)
  (ask:∀(a:Addr)(s':Shared),s.heap.objs.size<=a->(∀b o,s.heap.get? b=some o->s'.heap.get? b=some o) ->yt prog w A.in1.in1 E a vs κ K s')
  (h:∀out:List Value,out.Perm vs->out.Pairwise (λx y=>K (x,x)<=K (y,y)) ->Q (.ref (s.heap.objs.size+1)) {s with heap:=sortedAll s.heap vs out.toArray}):
  wpAny (model prog w) A (call (.builtin "sorted") [.ref l]) Q E s:=by
 refine Calls.call_function_entry kind_sorted plain_sorted entry_sorted (args_sorted1 _) ?_
 unfold Builtin.«sorted»
 refine wpAny_bind (m:=checkCount "sorted" 1 1 _) (wpAny_pure ?_)
 refine wpAny_bind (collect_list hl ?_ hz)
 refine wpAny_bind (wpAny_newList ?_ (by simpa using hz))
 have z1:((s.heap.push (seqObj "list" #[] 0)).update s.heap.objs.size (Obj.mapSeq (· ++vs.toArray))).objs.size=s.heap.objs.size+1:=by
  rw[Heap.size_update,size_push']
 generalize hg:((s.heap.push (seqObj "list" #[] 0)).update s.heap.objs.size (Obj.mapSeq (· ++vs.toArray)))=h1 at z1
 have keep:∀b o,s.heap.get? b=some o->(h1.push (seqObj "list" vs.toArray 0)).get? b=some o:=λb o e=>by
  have lb:=Heap.lt_size e
  refine Heap.get?_push_of_some _ ?_
  rw[<-hg,Heap.get?_update_ne _ _ _ _ (Nat.ne_of_lt lb)]
  exact Heap.get?_push_of_some _ e
 have Mj:(h1.push (seqObj "list" vs.toArray 0)).get? (s.heap.objs.size+1)=some (seqObj "list" vs.toArray 0):=by
  rw[<-z1];exact Heap.get?_push_size _ rfl
 show wpAny _ _ _ _ _ {s with heap:=h1.push (seqObj "list" vs.toArray 0)}
 rw[z1]
 refine wpAny_bind (wpAny_holding (wpAny_call_entry slot_list_sort ⟨_,Mj,rfl⟩ entry_list_sort (KC Mj hz (ask _ _ (Nat.le_succ _) keep) λout a1 a2=>⟨_,rfl,?_⟩) (args_list_sort _)))
 refine wpAny_pure ⟨_,rfl,?_⟩
 have:=h out a1 a2
 unfold sortedAll at this
 rw[hg]at this
 exact this
end
noncomputable def Uh(rk:Addr->Int):Value->Int
 | .ref a=>rk a
 |_=>0
noncomputable def DL(K:PySem.W.Frag):List V->Hp->VK->Prop:=λxs H Q=> ∃(p:Addr)(as:List Addr)(rk:Addr->Int)(dt:Addr->PyData),xs=[.ref p]/\aW K H p (as.map V.ref)/\
 (∀a∈as,Bt K H (.ref a) (dt a)/\shaped (dt a)=true)/\
 ((∀a∈as,∀b∈as,BS (dt a) (dt b)/\JA (dt a) (dt b)=decide (rk a<rk b))∨
  (∀a∈as,∀b∈as,∃i ds j es,dt a= .tuple (.int i::ds)/\dt b= .tuple (.int j::es)/\pB (.int i::ds) (.int j::es)/\yq (.int i::ds) (.int j::es)=decide (rk a<rk b)))/\
 ∀bs:List Addr,bs.Perm as->bs.Pairwise (λa b=>rk a<=rk b) -> ∀l,H l=none->Q (.ref l) (upd H l (.lst (bs.map V.ref)))
section
variable{prog:Program}{w:World}{A:Around}{E:Value->Shared->Prop}{s:Shared}
theorem yu{κ:SortKind}{K:Keyed->Int}{D:Keyed->Prop}(h:∀x y:Keyed,D x->D y-> ∀(E:Value->Shared->Prop) (Q:Bool->Shared->Prop),Q (decide (K x<K y)) s->wpAny (model prog w) A (keyLt' κ x.1 y.1) Q E s):qE prog w A E s κ K D:=by
 intro st x y Q hk hx hy hq
 rw[lt'_eq]
 refine wpS_bind (wpS_get ?_)
 rw[hk]
 refine wpS_bind (wpS_lift (wpAny_attempt (h x y hx hy _ _ ⟨rfl,?_⟩)))
 exact wpS_pure hq
theorem DM:∀{as:List Addr}{us:List Value},Vals (as.map V.ref) us->us=as.map Value.ref
 | [],_,h=>by cases h;rfl
 |a::as,_,h=>by
  cases h with
  |cons r rs=>
   cases r
   rw[DM rs]
   rfl
theorem DN:∀as:List Addr,Vals (as.map V.ref) (as.map Value.ref)
 | []=> .nil
 |a::as=> .cons rfl (DN as)
end
theorem ReadsAll.keeps'{h h':Heap}(hk:∀b o,h.get? b=some o->h'.get? b=some o){vs:List Value}{ds:List PyData}{as:List Addr}(r:ReadsAll h vs ds as):ReadsAll h' vs ds as:=by
 induction vs generalizing ds as with
 |nil=>cases r;exact .nil
 |cons v vs ih=>
  cases r with
  |cons r1 r2=>exact .cons (Reads.keeps hk r1) (ih r2)
section
variable{X:Cx}
theorem tF(hu:X.A.units+70<cLine):sV X (.builtin "sorted") (DL X.K):=by
 intro pins s σ H xs us Q I r h
 obtain⟨p,as,rk,dt,rfl,hq,hd,hc,q⟩:=h
 obtain⟨u,rfl,rx⟩:=vals1 r
 cases rx
 obtain⟨its,rv,pl,hz⟩:=I.list hq
 obtain rfl:=DM rv
 have len:(as.map Value.ref).length=as.length:=List.length_map _
 rw[List.length_map]at hz
 have rd:∀a∈as,∃xs,Reads s.heap (.ref a) (dt a) xs:=λa ha=>kX I (hd a ha).1 rfl
 have old:∀{a:Addr}{s1 s2:Shared},s.heap.objs.size<=a->(∀b o,s.heap.get? b=some o->s1.heap.get? b=some o) ->(∀b o,b≠a->s1.heap.get? b=some o->s2.heap.get? b=some o) -> ∀b o,s.heap.get? b=some o->s2.heap.get? b=some o:=λh1 h2 h3 b o e=>
  h3 b o (Nat.ne_of_lt (Nat.lt_of_lt_of_le (Heap.lt_size e) h1)) (h2 b o e)
 have mem:∀{v:Value},v∈as.map Value.ref-> ∃a,a∈as/\v= .ref a:=λhv=>by
  obtain⟨a,ha,rfl⟩:=List.mem_map.mp hv
  exact⟨a,ha,rfl⟩
 have fin:∀κ:SortKind,(∀(a:Addr)(s':Shared),s.heap.objs.size<=a->(∀b o,s.heap.get? b=some o->s'.heap.get? b=some o) ->yt X.prog X.w X.A.in1.in1 X.xe a (as.map Value.ref) κ (λp=>Uh rk p.1) s') ->
   wpAny (model X.prog X.w) X.A (call (.builtin "sorted") [.ref p]) (EP X pins σ Q) X.xe s:=by
  intro κ ask
  refine Ie (κ:=κ) (K:=λp=>Uh rk p.1) pl.isList (by rw[len];exact hz) ask λout hp hs=> ?_
  obtain⟨bs,rfl,pb⟩:∃bs:List Addr,out=bs.map Value.ref/\bs.Perm as:=by
   have g:∀v∈out,∃a,v=Value.ref a:=λv hv=>by
    obtain⟨a,_,e⟩:=mem (hp.mem_iff.mp hv)
    exact⟨a,e⟩
   have e:∀l:List Value,(∀v∈l,∃a,v=Value.ref a) ->l=(l.map λv=>match v with| .ref a=>a|_=>0).map Value.ref:=λl=>by
    induction l with
    |nil=>intro _;rfl
    |cons v l ih=>
     intro hl
     obtain⟨a,rfl⟩:=hl v List.mem_cons_self
     rw[List.map_cons,List.map_cons,<-ih λv hv=>hl v (List.mem_cons_of_mem _ hv)]
   refine⟨_,e out g,?_⟩
   have:=hp.map λv:Value=>match v with| .ref a=>a|_=>0
   rw[List.map_map]at this
   have e2:(as.map ((λv:Value=>match v with| .ref a=>a|_=>0) ∘ Value.ref))=as:=by
    conv=>rhs;rw[<-List.map_id as]
    rfl
   rwa [e2]at this
  have so:bs.Pairwise λa b=>rk a<=rk b:=by
   rw[List.pairwise_map]at hs
   exact hs
  have zb:bs.length<=sizeLine:=by rw[pb.length_eq];exact hz
  obtain⟨c,hc⟩:=sortedAll_at s.heap (as.map Value.ref) (bs.map Value.ref).toArray
  exact⟨.ref (s.heap.objs.size+1),_,I.laid (t':=s.toks) (λb o e=>sortedAll_old e) (Nat.le_succ _) (show fm X.prog X.w _ _ _ (.lst (bs.map V.ref))from⟨by rw[List.length_map];exact zb,_,c,DN bs,hc⟩),rfl,q bs pb so _ (I.hok.fresh (Nat.le_succ _))⟩
 rcases hc with hc|hc
 ·--lists
  refine fin oneType' λa s1 h1 h2=>⟨λ_ s2 h3 Q' hQ=> ?_,λs2 h3=>yu λx y hx hy E' Q' hQ=> ?_⟩
  ·refine PySem.W.kas_kind (T:= .type "list") (by rw[len]at *;omega) (λv hv=> ?_) (by decide+kernel) (by decide+kernel) hQ
   obtain⟨b,hb,rfl⟩:=mem hv
   obtain⟨cs,rb⟩:=rd b hb
   have cm:=(hc b hb b hb).1
   cases e:dt b with
   |list ds=>
    rw[e]at rb
    cases rb with
    | @list l o vs n _ as₁ k1 k2 k3 k4=>
     have:PySem.W.Looks (model X.prog X.w) s2.heap (typeOf (.ref b)) o.cls:=(PySem.W.Looks.ld (old h1 h2 h3 _ _ k1)).andThen PySem.W.Looks.now
     rw[k2]at this
     exact this
   |_=>rw[e]at cm;cases cm<;>(rw[e]at rb;cases rb)
  ·obtain⟨e1,m1⟩:=hx
   obtain⟨e2,m2⟩:=hy
   obtain⟨b,hb,eb⟩:=mem m1
   obtain⟨c,hc',ec⟩:=mem m2
   obtain⟨cs,rb⟩:=rd b hb
   obtain⟨ds,rc⟩:=rd c hc'
   rw[eb,ec,keyLt'_oneType]
   obtain⟨cm,lt⟩:=hc b hb c hc'
   refine tE cm (Reads.keeps (old h1 h2 h3) rb) (Reads.keeps (old h1 h2 h3) rc) (canLay_of_shaped (hd b hb).2) (canLay_of_shaped (hd c hc').2) (room_of_shaped (hd b hb).2 (show X.A.units+1+1+64<cLine by omega)) ?_
   rw[lt]
   rw[eb,ec]at hQ
   exact hQ
 ·--tuples
  refine fin (PyProof.Rows.tuples' true) λa s1 h1 h2=>⟨λl2 s2 h3 Q' hQ=> ?_,λs2 h3=>yu λx y hx hy E' Q' hQ=> ?_⟩
  ·have tp:∀v∈as.map Value.ref,∃b∈as,v= .ref b:=λv hv=>mem hv
   obtain⟨f,hf⟩:∃f:Addr->Value,∀b∈as,∃o ys n i t,s2.heap.get? b=some o/\o.cls= .type "tuple"/\o.data= .seq ys n/\ys[0]?=some (f b)/\f b= .int i t:=by
    refine⟨λb=>match s2.heap.get? b with|some ⟨_,_,.seq ys _,_⟩=>(ys[0]?).getD .none|_=> .none,λb hb=> ?_⟩
    obtain⟨i,ds,_,_,e,_⟩:=hc b hb b hb
    obtain⟨cs,rb⟩:=rd b hb
    rw[e]at rb
    cases rb with
    | @tuple l o vs n _ as₁ k1 k2 k3 k4=>
     have g:=old h1 h2 h3 _ _ k1
     obtain⟨cls,dd,data,sl⟩:=o
     simp only at k2 k3
     subst k2 k3
     obtain⟨vl⟩:=vs
     cases k4 with
     |cons r1 r2=>
      cases r1 with
      |int i t=>
       refine⟨_,_,n,i,t,g,rfl,rfl,?_,?_⟩
       ·dsimp only
        rw[g];rfl
       ·dsimp only
        rw[g];rfl
   refine PySem.W.kat_kind (fs:=as.map f) (T:= .type "int") (?_:PySem.W.KatTups s2.heap (as.map Value.ref) (as.map f)) (by rw[List.length_map];rw[len]at l2;omega) (λv hv=> ?_) (by decide+kernel) hQ
   ·clear hQ l2 mem tp fin rd hd hc rv pl hz len hq q
    induction as with
    |nil=>exact PySem.W.KatTups.nil
    |cons b as ih=>
     obtain⟨o,ys,n,i,t,k1,k2,k3,k4,k5⟩:=hf b List.mem_cons_self
     exact PySem.W.KatTups.cons k1 k2 k3 k4 (ih λc hc=>hf c (List.mem_cons_of_mem _ hc))
   ·obtain⟨b,hb,rfl⟩:=List.mem_map.mp hv
    obtain⟨o,ys,n,i,t,k1,k2,k3,k4,k5⟩:=hf b hb
    rw[k5]
    exact PySem.W.Looks.now
  ·obtain⟨e1,m1⟩:=hx
   obtain⟨e2,m2⟩:=hy
   obtain⟨b,hb,eb⟩:=mem m1
   obtain⟨c,hc',ec⟩:=mem m2
   obtain⟨cs,rb⟩:=rd b hb
   obtain⟨ds,rc⟩:=rd c hc'
   obtain⟨i,di,j,dj,t1,t2,cm,lt⟩:=hc b hb c hc'
   have sb:=hd b hb
   have sc:=hd c hc'
   rw[eb,ec]
   rw[eb,ec]at hQ
   rw[t1]at rb sb
   rw[t2]at rc sc
   cases rb with
   | @tuple l o vs n _ as₁ k1 k2 k3 k4=>
    cases rc with
    | @tuple l' o' vs' n' _ bs₁ g1 g2 g3 g4=>
     have n1:vs.size=(PyData.int i::di).length:=by simpa using ReadsAll.length _ _ _ k4
     have n2:vs'.size=(PyData.int j::dj).length:=by simpa using ReadsAll.length _ _ _ g4
     have ee:decide (vs.size<vs'.size)=false:=by
      rw[n1,n2,cm.length]
      exact decide_eq_false (Nat.lt_irrefl _)
     refine PySem.W.kat_lt (old h1 h2 h3 _ _ k1) k3 (old h1 h2 h3 _ _ g1) g3 ?_
     rw[ee]
     have ca:=canLay_of_shaped sb.2
     have cb:=canLay_of_shaped sc.2
     refine xx cm (ReadsAll.keeps' (old h1 h2 h3) k4) (ReadsAll.keeps' (old h1 h2 h3) g4) ca cb (room_in (room_of_shaped (A:=X.A.in1) (db:= .tuple (.int j::dj)) sb.2 (show X.A.units+1+64<cLine by omega))) 0 ?_
     rw[lt]
     exact hQ
end
end L2
namespace L2
open PySem PySem.Spec PyProof.Rows PySem.W PySem.Calls
noncomputable abbrev kn(o:Obj):HO:= .xP o (.ext λ_=>True)
theorem Ig{P:Program}{w:World}{H:Hp}{h:Heap}{a:Addr}{o:Obj}(e:h.get? a=some o):fm P w H h a (kn o):=⟨e,trivial,⟨o,e⟩,λ_ _ _ _=>trivial⟩
theorem uV{pos pos2:Pos}{c:Value}:∀{l:List Value},TriplesOk l-> ∀{cv:Value},codeAmong pos (l++ [rawInt pos2.line,rawInt pos2.col,c])=some cv->codeAmong pos l=some cv∨cv=c
 | [],_,cv,h=>by
  simp only[List.nil_append,rawInt,codeAmong]at h
  split at h
  ·exact .inr (Option.some.inj h).symm
  ·cases h
 | .int x t:: .int y u::d::r,ht,cv,h=>by
  simp only[List.cons_append,codeAmong]at h ⊢
  split at h
  ·rename_i q
   rw[if_pos q]
   exact .inl h
  ·rename_i q
   rw[if_neg q]
   exact uV (l:=r) ht h
theorem qH{pos:Pos}{c:Value}:∀{l:List Value},TriplesOk l->TriplesOk (l++ [rawInt pos.line,rawInt pos.col,c])
 | [],_=>trivial
 | .int _ _:: .int _ _::_::r,h=>qH (l:=r) h
structure z9(X:Cx)(args:Arguments)(body:Expr)(sc:Scope)(H:Hp)(f:Addr):Prop where
 ex:∃(qual:Str)(pm ctv:Value)(c:Addr)(oc:Obj)(vs:Array Value)(q:Str)(t:Tok),
  H f=some (kn {cls:= .type "function",data:= .func (kla_fn "<lambda>" qual args body sc (cu X.env sc.names []) pm (.ref c) ctv)})/\H c=some (kn oc)/\oc.data= .fields vs/\vs[1]?=some (.str q t)
theorem z9.same{X:Cx}{args:Arguments}{body:Expr}{sc:Scope}{H H':Hp}{f:Addr}(L:z9 X args body sc H f)(s:az H H'):z9 X args body sc H' f:=by
 obtain⟨qual,pm,ctv,c,oc,vs,q,t,e1,e2,e3,e4⟩:=L.ex
 exact⟨qual,pm,ctv,c,oc,vs,q,t,s _ _ e1,s _ _ e2,e3,e4⟩
section
variable{X:Cx}{pins:List (Addr×Obj)}{σ:St}{H:Hp}{s:Shared}{P:Addr}{args:Arguments}{body:Expr}{sc:Scope}{pos:Pos}{own N2:List Str}
theorem EY(I:Inv X pins σ H s)(hcd:gf X.K X.env.code P)(hP:(H P).isSome=true):∃c,X.env.code= .ref c/\CodeHd s.heap c P:=by
 obtain⟨c,o,vs,file,tf,flags,tg,MK,text,tt,ec,hc,hcl,hd,h11,OV,h7,h9,v8⟩:=hcd.ex
 have hcs:s.heap.get? c=some o:=I.xQ c o hc
 have hcn:H c=none:=(I.bs c o (I.ok.mod.NZ c o hc)).2
 have ne:c≠P:=λe=>by rw[<-e,hcn]at hP;cases hP
 have ML:vs.getD 11 .none= .ref P:=by
  have:vs.getD 11 .none=(vs[11]?).getD .none:=by simp
  rw[this,h11];rfl
 exact⟨c,ec,o,vs,file,tf,flags,tg,MK,text,tt,hcs,hcl,hd,h11,ML,OV,h7,h9,v8,ne⟩
theorem EZ{Q:Value->Shared->Prop}{E:Value->Shared->Prop}{M:Model}{A:Around}(I:Inv X pins σ H s)(hcd:gf X.K X.env.code P)(hP:H P=some .zu)(bm:BM X.mg X.base)
  (Bk:qt sc.names X.env.scope.names own N2 X.N)(hdef:defaultsOf args X.env=([],[]))
  (h:∀f H' s',Inv X pins σ H' s'->az H H'->H f=none->z9 X args body sc H' f->Q (.ref f) s'):wpAny M A (eval (.Lambda args body sc pos) X.env) Q E s:=by
 obtain⟨c,ec,C⟩:=EY I hcd (by rw[hP];rfl)
 obtain⟨ps,eP,tr,cs⟩:=I.hok P _ hP
 obtain⟨Qt,ob,b1,b2,b3,b4,b5,b6⟩:=bm
 have hg:s.heap.Ns mainGlobals X.mg:=by have:=I.mod.glob.keeps I.bk;exact this
 have hgP:mainGlobals≠P:=λq=>by
  obtain⟨o,es,ep,e,hd,_⟩:=hg
  rw[q,eP]at e;cases e;cases hd
 have VM:Qt≠mainGlobals:=λq=>by
  obtain⟨o,es,ep,e,hd,_⟩:=I.mod.glob
  rw[q,e]at b3;cases b3;rw[hd]at b6;cases b6
 have VN:Qt≠P:=λq=>by
  have:=(I.bs _ _ b3).2
  rw[q,hP]at this;cases this
 have ba:s.heap.BuiltinsAt X.mg P:=⟨Qt,ob,b1,b2,VM,VN,I.bk _ _ b3,b4,b5,b6⟩
 refine kla_eval hdef ?_
 cases q:codeAmong pos ps.toList with
 |some cv=>
  obtain⟨c',oc,vs,q',t',rfl,e2,e3,e4⟩:=cs pos cv q
  refine kla_makeFunctionHit (mg:=X.mg) (qu I Bk) I.ok.glob hg ec C eP tr q ba λctv h' tk hk hsz=> ?_
  have I1:Inv X pins σ H {s with heap:=h',toks:=tk}:=I.kept hk
  have I2:=I1.laid (a:=h'.objs.size) (o:=kn {cls:= .type "function",data:= .func (kla_fn "<lambda>" (X.env.qual++ "<lambda>") args body sc (cu X.env sc.names []) ((X.mg "__name__").getD .none) (.ref c') ctv)}) (h':=h'.push _) (t':=tk) (λb o e=>Heap.get?_push_of_some _ e) (Nat.le_refl _) (Ig (Heap.get?_push_size _ rfl))
  have fr:H h'.objs.size=none:=I1.hok.fresh (Nat.le_refl _)
  exact h _ _ _ I2 (az.up fr) fr ⟨_,_,_,c',oc,vs,q',t',av,(az.up fr) _ _ e2,e3,e4⟩
 |none=>
  refine kla_makeFunction (mg:=X.mg) (qu I Bk) I.ok.glob hg ec C eP tr q hgP ba λc' ctv h' tk hx hge hlt hrec htb=> ?_
  obtain⟨c2,oc,vs,t,e2,hoc,hd,hv⟩:=hrec
  cases e2
  have Oc:H c'=none:=I.hok.fresh hge
  have nP:P≠c':=λz=>by rw[z,Oc]at hP;cases hP
  have I1:Inv X pins σ (upd H c' (kn oc)) {s with heap:=h',toks:=tk}:=by
   have ne:∀{b u},H b=some u->b≠c':=λ {b u} e z=>by rw[z,Oc]at e;cases e
   have Ui:∀{b},H b=none->b≠P:=λ {b} e z=>by rw[z,hP]at e;cases e
   refine I.un (t':=tk) ⟨λb o e n _ _=>hx b o (Ui n) e,λb o e n _ _=>⟨o.slots,hx b o (Ui n) e⟩,λb o e n _=>by rw[aI (Nat.ne_of_lt (Nat.lt_of_lt_of_le (Heap.lt_size e) hge))];exact n,λb o e _=> ?_,
    λb xs e=>by rw[aI (ne e)];exact e,λb o u e=>by rw[aI (ne e)];exact e,λb ps e=>⟨#[],by rw[aI (ne e),e];simp⟩⟩ (λb u e=> ?_)
   ·by_cases hb:b=P
    ·subst hb;exact⟨_,htb⟩
    ·exact⟨o,hx b o hb e⟩
   ·by_cases hb:b=c'
    ·subst hb
     rw[av]at e
     cases e
     exact Ig hoc
    ·rw[aI hb]at e
     by_cases hb2:b=P
     ·subst hb2
      rw[hP]at e
      cases e
      refine⟨_,htb,by simpa using qH tr,λpos2 cv e2=> ?_⟩
      have e3:codeAmong pos2 (ps.toList++ [rawInt pos.line,rawInt pos.col,.ref c'])=some cv:=by simpa using e2
      rcases uV tr e3 with z|z
      ·obtain⟨c3,VO,VP,q3,t3,f1,f2,f3,f4⟩:=cs pos2 cv z
       exact⟨c3,VO,VP,q3,t3,f1,by rw[aI (ne f2)];exact f2,f3,f4⟩
      ·exact⟨c',oc,vs,_,t,z,av,hd,hv⟩
     ·refine(I.hok b u e).stay (λd v hc2 q2=>hx d v (λz=> ?_) q2) (λd q2=>by rw[aI (ne q2)];exact q2) (λd xs q2=>by rw[aI (ne q2)];exact q2) (λd ob xs q2=>by rw[aI (ne q2)];exact q2)
      subst z
      rcases hc2 with z|z
      ·exact hb2 z.symm
      ·rw[hP]at z;cases z
  have I2:=I1.laid (a:=h'.objs.size) (o:=kn (kla_obj "<lambda>" (X.env.qual++ "<lambda>") args body sc (cu X.env sc.names []) ((X.mg "__name__").getD .none) c' ctv)) (h':=h'.push _) (t':=tk) (λb o e=>Heap.get?_push_of_some _ e) (Nat.le_refl _) (Ig (Heap.get?_push_size _ rfl))
  have OW:upd H c' (kn oc) h'.objs.size=none:=I1.hok.fresh (Nat.le_refl _)
  have zA:H h'.objs.size=none:=by
   have:=OW
   rwa [aI (Nat.ne_of_gt hlt)]at this
  exact h _ _ _ I2 ((az.up Oc).trans (az.up OW)) zA ⟨_,_,_,c',oc,vs,_,t,av,(az.up OW) _ _ av,hd,hv⟩
end
section
variable{prog:Program}{w:World}{A:Around}{R:Result->Shared->Prop}{s:Shared}
theorem BV{a:Addr}{ar:Args}{o:Obj}{fd:FuncData}{bd:Expr}{q:Str}(room:A.depth<recursionLimit)(ho:s.heap.get? a=some o)(hfd:o.data= .func fd)
  (co:fd.scope.isCoroutine=false)(gen:fd.scope.isGenerator=false)(hbd:fd.body= .expr bd)(cd:s.heap.CodeRec fd.code q)
  (h:wpAny (model prog w) A.in1 (bindArgs fd ar) (λbs s1=>
   wpAny (model prog w) A.in1 (newFunctionEnv fd.scope fd.globals fd.closure bs (q++ ".<locals>.") (some a) fd.code none fd.builtins)
    (λev s2=>s2.heap.NoLimit/\codeAny (model prog w) A (.expr bd ev) R s2) (λe s'=>R (.error e) s') s1) (λe s'=>R (.error e) s') s):
  codeAny (model prog w) A (.call (.ref a) ar) R s:=by
 refine codeAny_of_tree ?_
 show wpAny _ A.in1 (callAny (.ref a) ar) _ _ s
 simp only[callAny]
 refine wpAny_bind (wpAny_load ho ?_)
 obtain⟨c,oc,vs,tq,hc,hoc,hdc,hq⟩:=cd
 simp only[hfd,callFunction,co,gen,hbd,hc]
 rw[hc]at h
 refine wpAny_bind (m:=field (.ref c) 1) (wpAny_field hoc hdc hq (wpAny_bind (wpAny_pure ?_)))
 refine wpAny_bind (wpAny_mono h (λbs s1 h1=>wpAny_bind (wpAny_mono h1 (λev s2 h2=> ?_) λ_ _ e=>e)) λ_ _ e=>e)
 exact wpAny_bind (wpAny_enterFrame h2.1 room (wpAny_pure (And.intro rfl h2.2)))
end
noncomputable def Cx.lam(X:Cx)(B:Around)(sc:Scope)(N':List Str)(q:Str)(f:Addr)(cd:Value)(s:Shared)(H:Hp):Cx:=
 {X with
  N:=N'
  s₀:=s
  H₀:=H
  A:=B.deeper (envX q sc s.heap.objs.size f cd (cu X.env sc.names []))
  env:=envX q sc s.heap.objs.size f cd (cu X.env sc.names [])
  outer:=X.stack
  stack:=envX q sc s.heap.objs.size f cd (cu X.env sc.names [])::X.stack
  ex:=[]
  fn:=λ_=>false
  calm:=true
  pn:=[]
  xe:=λ_ _=>False}
section
variable{X:Cx}{pins:List (Addr×Obj)}{σ:St}{H:Hp}{s:Shared}{sc:Scope}{x:Str}{N2:List Str}{B:Around}{q:Str}{f:Addr}{cd:Value}
theorem KD{h':Heap}{tk:Nat}{v:V}{u:Value}(I:Inv X pins σ H s)(Bk:qt sc.names X.env.scope.names [x] N2 X.N)(hk:sc.kind= .function)(hnc:∀y∈sc.names,y.2≠ .cell)(hx:sc.names.lookup x=some .local)
  (hB:B.frames=some X.stack)(hh:B.handled=none)(hn:h'.Ns s.heap.objs.size (λy=>([(x,u)]:List (Str×Value)).reverse.lookup y))(keep:∀b o,s.heap.get? b=some o->h'.get? b=some o)(rv:RelV v u):
  Inv (X.lam B sc ([x]++N2) q f cd s H) [] (some v::σ) H {s with heap:=h',toks:=tk}:=by
 have jo:∀y c,(cu X.env sc.names []).lookup y=some c->(y,NameKind.free)∈sc.names/\X.env.cells.lookup y=some c:=λy c h=>by
  have h2:(cellsFrom 0 sc.names (cu X.env sc.names [])).lookup y=some c:=by rw[eO hnc];exact h
  rcases iM I Bk (mem_of_lookup h2)with⟨_,z⟩|z
  ·exact absurd rfl (hnc _ z)
  ·exact z
 have Gq:∀b:Addr,b∉(X.lam B sc ([x]++N2) q f cd s H).ex:=λb z=>absurd (show b∈([]:List Addr)from z) (by simp)
 have ok:(X.lam B sc ([x]++N2) q f cd s H).Ok:=by
  refine⟨I.ok.mod,hk,rfl,rfl,Nat.le_refl _,λy z c h1 h2=>I.ok.inj y z c (jo y c h1).2 (jo z c h2).2,λy hy=> ?_,λy c hy _=>absurd hy (by show ¬(false=true);decide),λ_=>hh,Around.frames_deeper hB,.inr ⟨rfl,rfl⟩,λb hb=>absurd hb (Gq b),I.bs,Nat.le_trans I.ok.JJ I.sz,λb _ _=>Gq b,λb hb=>absurd hb (Gq b),I.stack,I.t8⟩
  have hy':sc.names.lookup y=some .cell∨sc.names.lookup y=some .free:=hy
  rcases hy' with e|e
  ·exact absurd rfl (hnc _ (mem_of_lookup e))
  ·obtain⟨c,hc⟩:=jI I Bk y (mem_of_lookup e)
   have:=lQ (n:=0) I Bk (mem_of_lookup e) hc
   rw[eO hnc]at this
   exact⟨c,this⟩
 refine⟨ok,rfl,.refl I.bare.bare,Un.kept keep,⟨_,hn,λi y w e1 e2 e3=> ?_⟩,λy c hc=> ?_,I.fresh,λy c hc=>I.mS y c (jo y c hc).2,λp hp=>absurd (show p∈([]:List (Addr×Obj))from hp) (by simp),I.hok.kept keep,?_⟩
 ·cases i with
  |zero=>
   have ey:x=y:=Option.some.inj e1
   have ew:v=w:=by
    have:some (some v)=some (some w):=e2
    cases this;rfl
   subst ey ew
   refine⟨u,rv,.inl ⟨hx,?_⟩⟩
   simp[List.lookup]
  |succ i=>
   have Bm:N2[i]?=some y:=e1
   have JZ:σ[i]?=some (some w):=e2
   have hown:y∉([x]:List Str):=λhm=>by
    have nd:=Bk.JU
    rw[List.nodup_append]at nd
    exact nd.2.2 y hm y (List.mem_of_getElem? Bm) rfl
   refine x8 I Bk (n:=0) Bm JZ (eO hnc).symm (λz hz=> .inr (cz Bk.nd hz)) (λhv=>let⟨k,e,_⟩:=oF hv;⟨k,e⟩) hown keep e3 (λk e=> ?_)
   obtain⟨k',e',hk'⟩:=oF e3
   have e4:sc.names.lookup y=some k':=e'
   rw[e]at e4;cases e4
   exact hk'
 ·obtain⟨w,z⟩:=I.cell y c (jo y c hc).2
  exact⟨w,z.keeps keep⟩
 ·show(some v::σ).length=([x]++N2).length
  rw[List.length_cons,I.len,<-Bk.len]
  rfl
theorem KG{args:Arguments}{body:Expr}{tb:TE}{v:V}{u:Value}{Q:VK}{E:Value->Shared->Prop}(I:Inv X pins σ H s)(L:z9 X args body sc H f)(Bk:qt sc.names X.env.scope.names [x] N2 X.N)
  (hk:sc.kind= .function)(hco:sc.isCoroutine=false)(hgen:sc.isGenerator=false)(hnc:∀y∈sc.names,y.2≠ .cell)(hx:sc.names.lookup x=some .local)
  (hbind:∀qual cl pm c ctv u,bindArgs (kla_fn "<lambda>" qual args body sc cl pm c ctv) ⟨[u],[]⟩=pure [(x,u)])(hB:B.frames=some X.stack)(hh:B.handled=none)(hroom:B.depth<recursionLimit)
  (hbody:∀q cd,PE (X.lam B sc ([x]++N2) q f cd s H) body tb)(rv:RelV v u)(h:tb (some v::σ) H Q):wpAny (model X.prog X.w) B (call (.ref f) [u]) (EP X pins σ Q) E s:=by
 obtain⟨qual,pm,ctv,c,oc,vs,q,t,e1,e2,e3,e4⟩:=L.ex
 obtain⟨g1,_⟩:s.heap.get? f=some _/\_:=I.hok f _ e1
 obtain⟨g2,_⟩:s.heap.get? c=some oc/\_:=I.hok c _ e2
 refine wpAny_call (BV (q:=q) hroom g1 rfl hco hgen rfl ⟨c,oc,vs,t,rfl,g2,e3,e4⟩ ?_)
 rw[hbind]
 refine wpAny_pure (wpAny_newFunctionEnv hnc (λy hy=> ?_) (λh1 hns Uj=>⟨(I.Dt).fresh _ Uj,?_⟩) hk)
 ·rw[List.mem_singleton.mp hy]
  exact hx
 have keep:∀b o,s.heap.get? b=some o->h1.get? b=some o:=λb o e=>Uj.extBut b o (Nat.ne_of_lt (Heap.lt_size e)) (Heap.get?_push_of_some _ e)
 have J:=KD (q:=q) (f:=f) (cd:= .ref c) (tk:=s.toks+1) I Bk hk hnc hx hB hh hns keep rv
 refine kla_codeExpr (wpAny_mono (hbody q (.ref c) [] _ _ H Q J h) (λu' s' hs=> ?_) λ_ _ z=>False.elim z)
 obtain⟨v',H',J',r',q'⟩:=hs
 have I':Inv X pins σ H' s':=I.GA (ch:=[]) J'.os J'.base J'.hok J'.bare λb z=>nomatch z
 exact⟨v',H',I',r',q'⟩
end
end L2
namespace L2
open PySem PySem.Spec PyProof.Rows PySem.Calls yo
theorem xy{α β:Type}{f:α->β}:∀{m n:List β},m.Perm n-> ∀l:List α,n=l.map f-> ∃l':List α,l'.Perm l/\m=l'.map f:=by
 intro m n p
 induction p with
 |nil=>
  intro l e
  exact⟨l,.refl _,e⟩
 |cons x _ ih=>
  intro l e
  cases l with
  |nil=>cases e
  |cons a l=>
   injection e with e1 e2
   obtain⟨l',p',e'⟩:=ih l e2
   exact⟨a::l',p'.cons a,by rw[List.map_cons,e1,e']⟩
 |swap x y r=>
  intro l e
  match l,e with
  |a::b::l,e=>
   injection e with e1 e2
   injection e2 with e2 e3
   exact⟨b::a::l,List.Perm.swap _ _ _,by simp[e1,e2,e3]⟩
 |trans _ _ ih1 ih2=>
  intro l e
  obtain⟨l2,p2,e2⟩:=ih2 l e
  obtain⟨l1,p1,e1⟩:=ih1 l2 e2
  exact⟨l1,p1.trans p2,e1⟩
inductive qI(kf:V->Int):List V->List Value->List Value->Prop
 |nil:qI kf [] [] []
 |cons{y:V}{u:Value}{ys:List V}{us ks:List Value}(t:Tok)(r:RelV y u):qI kf ys us ks->qI kf (y::ys) (u::us) (.int (kf y) t::ks)
theorem qI.out{kf:V->Int}{ys:List V}{us ks:List Value}(h:qI kf ys us ks):∃tr:List (Keyed×V),ks.zip us=tr.map Prod.fst/\ys=tr.map Prod.snd/\ ∀t∈tr,RelV t.2 t.1.2/\ ∃k,t.1.1= .int (kf t.2) k:=by
 induction h with
 |nil=>exact⟨[],rfl,rfl,λt h=>nomatch h⟩
 | @cons y u ys us ks t r _ ih=>
  obtain⟨tr,e1,e2,h⟩:=ih
  refine⟨((.int (kf y) t,u),y)::tr,by rw[List.zip_cons_cons,e1];rfl,by rw[e2];rfl,λz hz=> ?_⟩
  rcases List.mem_cons.mp hz with rfl|hz
  ·exact⟨r,t,rfl⟩
  ·exact h z hz
theorem qI.ints{kf:V->Int}{ys:List V}{us ks:List Value}(h:qI kf ys us ks):IntsAre ks (ys.map kf):=by
 induction h with
 |nil=>exact .nil
 |cons t r _ ih=>exact .cons _ t ih
theorem qI.snoc{kf:V->Int}{ys:List V}{us ks:List Value}{y:V}{u:Value}(h:qI kf ys us ks)(t:Tok)(r:RelV y u):qI kf (ys++ [y]) (us++ [u]) (ks++ [.int (kf y) t]):=by
 induction h with
 |nil=>exact .cons t r .nil
 |cons t' r' _ ih=>exact .cons t' r' ih
section
variable{prog:Program}{w:World}{A:Around}{E:Value->Shared->Prop}{s:Shared}
theorem Fb:qE prog w A E s oneType' (λp=>numOf p.1) (λp=> ∃n t,p.1= .int n t):=
 yu λx y hx hy E' Q hq=>by
  obtain⟨n,t,e1⟩:=hx
  obtain⟨m,u,e2⟩:=hy
  rw[keyLt'_oneType,e1,e2]
  rw[e1,e2]at hq
  exact oneLt_int hq
end
section
variable{X:Cx}{pins:List (Addr×Obj)}{σ:St}{H:Hp}{s:Shared}{B:Around}{a:Addr}{f:Value}{kf:V->Int}{ys:List V}{us:List Value}
theorem Vals.at{ys:List V}{us:List Value}(r:Vals ys us){j:Nat}{x:Value}(h:us[j]?=some x):∃v,ys[j]?=some v/\RelV v x:=by
 induction r generalizing j with
 |nil=>cases h
 |cons a _ ih=>
  cases j with
  |zero=>cases h;exact⟨_,rfl,a⟩
  |succ j=>exact ih h
noncomputable abbrev DO(pins:List (Addr×Obj))(a:Addr)(e1:Nat)(kS:Addr)(ks:Array Value)(e:Nat):List (Addr×Obj):=pins++ [(a,seqObj "list" #[] e1),(kS,seqObj "list" ks e)]
theorem yv{a:Addr}{o:Obj}(fa:fS X pins H a)(h:s.heap.get? a=some o)(hd:∀v,o.data≠ .cell v):s.heap.get? a=some o/\H a=none/\a≠X.env.locals/\a∉X.fs/\ ∀v,o.data≠ .cell v:=⟨h,fa.1,fa.2.1,fa.2.2.1,hd⟩
theorem xA{H':Hp}(fa:fS X pins H a)(h:H' a=none):fS X pins H' a:=⟨h,fa.2⟩
end
theorem Ih{K:PySem.W.Frag}{H H':Hp}{a:Addr}{xs:List V}(h:aW K H a xs)(s:az H H'):aW K H' a xs:=by
 rcases h with h|h
 ·rcases h with h|⟨o,h⟩
  ·exact .inl (.inl (s _ _ h))
  ·exact .inl (.inr ⟨o,s _ _ h⟩)
 ·exact .inr h
noncomputable def PF(sc:Scope)(ks:List (Str×NameKind))(own N2 N:List Str):Bool:=
 zI sc.names ks own N2 N && (sc.kind== .function) && !sc.isCoroutine && !sc.isGenerator && sc.names.all (λy=>y.2 != .cell) && own.all (λx=>sc.names.lookup x==some NameKind.local)
section
variable{X:Cx}{P:Addr}{te tb:TE}{e body:Expr}{args:Arguments}{sc:Scope}{x:Str}{N2:List Str}{p pos Ii kpos:Pos}
theorem fE.DP{k:Nat}{A:Around}(r:fE k A):A.units+70<cLine:=by have:=r.un;omega
theorem Ij{k:Nat}{A:Around}{e:Env}(r:fE (k+3) A):fE k (A.in1.in1.deeper e):=r.in1.in1.deeper e
end
end L2
namespace L2
open PySem PySem.Spec PyProof.Rows
section
variable{X:Cx}
end
noncomputable def j3(H:Hp)(b:Addr):List Int:=match H b with
 |some (.lst xs)=>xs.map λv=>match v with| .int i=>i|_=>0
 |_=>[]
noncomputable def Fc(H:Hp)(b:Addr):Prop:=H b=some (.lst [.int (dQ (j3 H b) 0),.int (dQ (j3 H b) 1),.int (dQ (j3 H b) 2)])/\(j3 H b).length=3
theorem PJ{H:Hp}{b:Addr}{x y z:Int}(e:H b=some (.lst [.int x,.int y,.int z])):Fc H b/\j3 H b=[x,y,z]:=by
 have h:j3 H b=[x,y,z]:=by
  unfold j3
  rw[e]
  rfl
 refine⟨⟨?_,by rw[h];rfl⟩,h⟩
 rw[h,e]
 rfl
theorem Fc.keep{H H':Hp}{b:Addr}(h:Fc H b)(s:∀o,H b=some o->H' b=some o):Fc H' b/\j3 H' b=j3 H b:=by
 have e:j3 H' b=j3 H b:=by
  have e1:=s _ h.1
  have e2:=h.1
  unfold j3 at *
  rw[e1]
  conv=>rhs;rw[e2]
 exact⟨⟨by rw[e];exact s _ h.1,by rw[e];exact h.2⟩,e⟩
theorem PK{r:List Int}(h:r.length=3):r=[dQ r 0,dQ r 1,dQ r 2]:=by
 match r,h with
 | [a,b,c],_=>rfl
noncomputable def fW(H:Hp)(as:List Addr):Prop:=∀b∈as,Fc H b
noncomputable def rws(H:Hp)(as:List Addr):List (List Int):=as.map (j3 H)
theorem fW.keep{H H':Hp}{as:List Addr}(h:fW H as)(s:∀b∈as,∀o,H b=some o->H' b=some o):fW H' as/\rws H' as=rws H as:=
 ⟨λb hb=>((h b hb).keep (s b hb)).1,List.map_congr_left λb hb=>((h b hb).keep (s b hb)).2⟩
theorem fW.same{H H':Hp}{as:List Addr}(h:fW H as)(s:az H H'):fW H' as/\rws H' as=rws H as:=h.keep λb _ o e=>s b o e
theorem KH{H:Hp}{t:Addr}{as:List Addr}(ht:H t=some (.lst (as.map V.ref)))(h:fW H as):Tab H t as (rws H as):=by
 refine⟨ht,?_⟩
 clear ht
 induction as with
 |nil=>exact .nil
 |cons b as ih=>
  refine .cons ?_ (ih λc hc=>h c (List.mem_cons_of_mem _ hc))
  have:=h b List.mem_cons_self
  rw[this.1]
  conv=>rhs;rw[PK this.2]
  rfl
theorem BW(H:Hp)(as bs:List Addr):rws H (as++bs)=rws H as++rws H bs:=List.map_append
theorem Fd{zs:List V}{as:List Addr}(p:zs.Perm (as.map V.ref)):∃bs:List Addr,zs=bs.map V.ref/\bs.Perm as:=by
 obtain⟨l,p',e⟩:=xy p as rfl
 exact⟨l,e,p'⟩
theorem Aa{H:Hp}{b l:Addr}{as:List Addr}(h:Fc H b)(e:H l=some (.lst (as.map V.ref))):b≠l:=by
 rintro rfl
 have e1:=h.1
 rw[e]at e1
 cases as with
 |nil=>cases e1
 |cons a as=>cases e1
theorem KI{A B:List (List Int)}(ca:cJ A)(cb:cJ B)(h:∀i j,i<3->j<3->ent A i j=ent B i j):A=B:=by
 rw[yh ca,yh cb]
 exact ig h
theorem Fe{K:PySem.W.Frag}{J:It}{H1:Hp}{xs:List V}{σ:St}{te:TE}{Q:VK}(jw:JW J H1 xs)(hz:xs.length<=sizeLine){D:Addr}(hD:H1 D=none)(us vs:Nat->V)(items:∀j x,xs[j]?=some x-> ∃p,x= .ref p/\vS K H1 p [us j,vs j])(R:Nat->V->Hp->Prop)
  (mono:∀j v H H',R j v H->(∀b o,b≠D->H b=some o->H' b=some o) ->R j v H')
  (hs:∀j,j<xs.length-> ∀H' (Q':VK),az H1 H'->(∃o,H' D=some o) ->(∀v H2,az H' H2->R j v H2->Q' v H2) ->te (some (us j)::some (vs j)::σ) H' Q')
  (hq:∀ws H',az H1 H'->ws.length=xs.length->(∀j v,ws[j]?=some v->R j v H') ->H' D=some (.lst ws) ->Q (.ref D) H'):nv 2 (g2 K) te σ J H1 D Q:=by
 refine⟨λi m acc σ' H'=>m=xs.length-i/\i<=xs.length/\acc.length=i/\(∃o o',σ'=o::o'::σ)/\az H1 H'/\H' D=some (.lst acc)/\ ∀j v,acc[j]?=some v->R j v H',⟨xs.length,rfl,Nat.zero_le _,rfl,⟨none,none,rfl⟩,az.up hD,av,λj v e=>by simp at e⟩,?_⟩
 rintro i m acc σ' H' ⟨rfl,hi,hl,⟨o,o',rfl⟩,sm,eD,p⟩
 by_cases hlt:i<xs.length
 ·refine .inr ⟨jw.go i H' sm hlt,by omega,λx H2 y=> ?_⟩
  obtain⟨rfl,ex⟩:=jw.zv i H' x H2 sm hlt y
  obtain⟨T,rfl,hT⟩:=items i x ex
  refine⟨T,[us i,vs i],rfl,sm.Vv hT,rfl,us i,[vs i],rfl,vs i,[],rfl,rfl,?_⟩
  show te (some (us i)::some (vs i)::σ) _ _
  refine hs i hlt H2 _ sm ⟨_,eD⟩ λv H4 s4 r=> ?_
  refine⟨s4 _ _ eD,xs.length- (i+1),by(clear ex p eD hi hq hs mono items hD hz;omega),rfl,hlt,by simp[hl],⟨_,_,rfl⟩,(sm.trans s4).upd hD,av,λj u eu=> ?_⟩
  have off:∀b o,b≠D->H4 b=some o->upd H4 D (.lst (acc++ [v])) b=some o:=λb o n h=>by rw[aI n];exact h
  by_cases c:j<acc.length
  ·rw[List.getElem?_append_left c]at eu
   exact mono j u H2 _ (p j u eu) λb o n h=>off b o n (s4 b o h)
  ·have:j=acc.length:=by
    have:=(List.getElem?_eq_some_iff.mp eu).1
    rw[List.length_append]at this
    simp at this
    omega
   subst this
   rw[List.getElem?_append_right (Nat.le_refl _)]at eu
   simp at eu
   subst eu
   rw[hl]
   exact mono _ v H4 _ r off
 ·have e:i=xs.length:=by omega
  subst e
  exact .inl ⟨jw.stop H' sm,eD,hq acc H' sm hl p eD⟩
noncomputable def Ik(m:List (List Int))(i:Nat)(σ:St)(H:Hp):Nat:=match σ[i]? with
 |some (some (.ref a))=>match H a with
  |some (.lst [.int x0,.int x1,.int x2])=>(au m (dQ [x0,x1,x2]) (dQ [x0,x1,x2])).toNat
  |_=>0
 |_=>0
theorem rB{m:List (List Int)}{i:Nat}{σ:St}{H:Hp}{a:Addr}{x:Nat->Int}(hs:σ[i]?=some (some (.ref a)))(h:bH H a x):Ik m i σ H=(au m x x).toNat:=by
 unfold Ik
 have h:H a=some (.lst [.int (x 0),.int (x 1),.int (x 2)]):=h
 rw[hs]
 simp only[h]
 rw[fV (m:=m) (x:=dQ [x 0,x 1,x 2]) (y:=dQ [x 0,x 1,x 2]) (x':=x) (y':=x) (λi hi=>by rcases bL hi with rfl|rfl|rfl<;>rfl) (λi hi=>by rcases bL hi with rfl|rfl|rfl<;>rfl)]
theorem jO(a:Int){b:Int}(h:0<b):(a/b).natAbs<=a.natAbs:=by
 have e:=Int.emod_add_mul_ediv a b
 have l:=Int.emod_nonneg a (show b≠0 by omega)
 have u:=Int.emod_lt_of_pos a h
 generalize a%b=r at e l u
 generalize a/b=q at e ⊢
 rcases Int.lt_or_le q 0 with z|z
 ·have:b*q<=1*q:=by
   have:=Int.mul_le_mul_of_nonpos_right (show(1:Int)<=b by omega) (Int.le_of_lt z)
   omega
  by_cases c:q= -1
  ·subst c
   omega
  ·have:b*(q+1)<=1*(q+1):=Int.mul_le_mul_of_nonpos_right (show(1:Int)<=b by omega) (by omega)
   have e2:b*(q+1)=b*q+b:=by grind
   omega
 ·have:1*q<=b*q:=Int.mul_le_mul_of_nonneg_right (show(1:Int)<=b by omega) z
  (clear u h;omega)
noncomputable abbrev aN(m:List (List Int))(x:Nat->Int):Int:=au m x x
theorem KJ{m:List (List Int)}(P:BI m){x:Nat->Int}(h:¬(x 0=0/\x 1=0/\x 2=0)):0<aN m x:=P x h
theorem dO{m:List (List Int)}(P:BI m)(x:Nat->Int):0<=aN m x:=by
 by_cases h:x 0=0/\x 1=0/\x 2=0
 ·have:aN m x=0:=by
   show au m x x=0
   rw[aU,h.1,h.2.1,h.2.2]
   grind
  (clear h;omega)
 ·exact Int.le_of_lt (P x h)
noncomputable def iO(y:Nat->Int)(q:Int)(x:Nat->Int):Nat->Int:=λi=>y i-q*x i
theorem xB{m:List (List Int)}(y:Nat->Int)(q:Int)(x z:Nat->Int):au m (iO y q x) z=au m y z-q*au m x z:=by
 unfold iO
 rw[aU,aU,aU]
 grind
theorem fX{m:List (List Int)}(ev:b8 m)(y:Nat->Int)(q:Int)(x z:Nat->Int):au m z (iO y q x)=au m z y-q*au m z x:=by
 rw[jC ev,xB,jC ev y,jC ev x]
theorem qJ{m:List (List Int)}(ev:b8 m)(y:Nat->Int)(q:Int)(x:Nat->Int):aN m (iO y q x)=aN m y-2*q*au m x y+q*q*aN m x:=by
 show au m _ _=_
 rw[xB,fX ev,fX ev,jC ev y x]
 grind
theorem rC{P A:Int}(h:0<A): -A<=2*(P- (2*P+A)/(2*A)*A)/\2*(P- (2*P+A)/(2*A)*A)<=A:=by
 have e:=Int.emod_add_mul_ediv (2*P+A) (2*A)
 have l:=Int.emod_nonneg (2*P+A) (show 2*A≠0 by omega)
 have u:=Int.emod_lt_of_pos (2*P+A) (show 0<2*A by omega)
 generalize(2*P+A)/(2*A)=q at e ⊢
 generalize(2*P+A)%(2*A)=r at e l u
 have e2:2*A*q=2*(q*A):=by grind
 rw[e2]at e
 omega
theorem DQ{A P q N:Int}(hA:0<=A)(h1: -A<=2*(P-q*A))(h2:2*(P-q*A)<=A):N-2*q*P+q*q*A<=N:=by
 obtain⟨e,he⟩:∃e,P-q*A=e:=⟨_,rfl⟩
 rw[he]at h1 h2
 have hP:P=q*A+e:=by omega
 rw[hP]
 have key:N-2*q*(q*A+e)+q*q*A=N- (q*q*A+q*(2*e)):=by grind
 rw[key]
 suffices 0<=q*q*A+q*(2*e)by omega
 rcases Int.lt_or_le 0 q with hq|hq
 ·have a1:q*(-A)<=q*(2*e):=Int.mul_le_mul_of_nonneg_left (by omega) (by(clear key hP he h1 h2 hA;omega))
  have a2:q*A<=q*(q*A):=Int.mul_le_mul_of_nonneg_left (by
   have:1*A<=q*A:=Int.mul_le_mul_of_nonneg_right (by(clear a1 key hP he h1 h2 hA;omega)) hA
   omega) (by(clear a1 key hP he h1 h2 hA;omega))
  have e1:q*(-A)= -(q*A):=by grind
  have e2:q*(q*A)=q*q*A:=by grind
  (clear hq key hP he h1 h2 hA;omega)
 ·have a1:(-q)*(2*e)<=(-q)*A:=Int.mul_le_mul_of_nonneg_left (by omega) (by(clear key hP he h1 h2 hA;omega))
  have e3:(-q)*(2*e)= -(q*(2*e)):=by grind
  rcases Int.lt_or_le q 0 with h|h
  ·have a2:(-q)*A<=(-q)*((-q)*A):=Int.mul_le_mul_of_nonneg_left (by
    have:1*A<=(-q)*A:=Int.mul_le_mul_of_nonneg_right (by(clear e3 a1 hq key hP he h1 h2 hA;omega)) hA
    omega) (by(clear e3 a1 hq key hP he h1 h2 hA;omega))
   have e2:(-q)*((-q)*A)=q*q*A:=by grind
   (clear h hq key hP he h1 h2 hA;omega)
  ·have:q=0:=by(clear e3 a1 key hP he h1 h2 hA;omega)
   subst this
   simp
noncomputable def nI(s:Nat->Nat)(m:List (List Int)):List (List Int):=mk3 λi j=>ent m (s i) (s j)
theorem pK{m:List (List Int)}(hS:cR m=m)(ab:bZ m=true)(x:Nat->Int):aA m*(x 2*x 2)<=gm m 2 2*aN m x:=by
 obtain⟨c1,c2,c3⟩:=fL ab
 have e:=HP hS x
 have hm:gm m 2 2=ent m 0 0*ent m 1 1-ent m 0 1*ent m 0 1:=by
  show ent m 0 0*ent m 1 1-ent m 0 1*ent m 1 0=_
  rw[iH hS (i:=0) (j:=1) (by decide) (by decide)]
 rw[<-hm]at e
 have q1:=Int.mul_nonneg (show 0<=gm m 2 2 by(clear e c3 c1 ab hS;omega)) (bf (ent m 0 0*x 0+ent m 0 1*x 1+ent m 0 2*x 2))
 have q2:=bf (gm m 2 2*x 1+(ent m 0 0*ent m 1 2-ent m 0 1*ent m 0 2)*x 2)
 have e2:ent m 0 0*(aA m*(x 2*x 2))<=ent m 0 0*(gm m 2 2*aN m x):=by
  have a1:ent m 0 0*(aA m*(x 2*x 2))=ent m 0 0*aA m*(x 2*x 2):=(Int.mul_assoc ..).symm
  have a2:ent m 0 0*(gm m 2 2*aN m x)=ent m 0 0*gm m 2 2*au m x x:=(Int.mul_assoc ..).symm
  (clear hm c3 c2 c1 ab hS;omega)
 exact Int.le_of_mul_le_mul_left e2 c1
theorem xC{m:List (List Int)}(ev:b8 m)(c:cJ m)(ab:bZ m=true)(s:Nat->Nat)(hs:(s 0=2/\s 1=1/\s 2=0)∨(s 0=0/\s 1=2/\s 2=1))(x:Nat->Int):
  cR (nI s m)=nI s m/\bZ (nI s m)=true/\aA (nI s m)=aA m/\aN (nI s m) (λi=>x (s i))=aN m x/\gm (nI s m) 2 2=gm m (s 2) (s 2):=by
 have hS:=eG ev c
 have P:=gH hS ab
 have yw:ent m 1 0=ent m 0 1:=ev.sym.1
 have BX:ent m 2 0=ent m 0 2:=ev.sym.2.1
 have BY:ent m 2 1=ent m 1 2:=ev.sym.2.2
 have en:∀i j,i<3->j<3->ent (nI s m) i j=ent m (s i) (s j):=λi j hi hj=>bK _ hi hj
 have hN:∀y:Nat->Int,au (nI s m) (λi=>y (s i)) (λi=>y (s i))=au m y y:=λy=>by
  rw[aU,aU,en 0 0 (by decide) (by decide),en 0 1 (by decide) (by decide),en 0 2 (by decide) (by decide),en 1 0 (by decide) (by decide),en 1 1 (by decide) (by decide),en 1 2 (by decide) (by decide),en 2 0 (by decide) (by decide),en 2 1 (by decide) (by decide),en 2 2 (by decide) (by decide)]
  rcases hs with⟨h0,h1,h2⟩|⟨h0,h1,h2⟩<;>rw[h0,h1,h2]<;>grind
 have ov:cR (nI s m)=nI s m:=KI (cK _) (cK _) λi j hi hj=>by
  rw[aY _ hi hj,en j i hj hi,en i j hi hj]
  rcases hs with⟨h0,h1,h2⟩|⟨h0,h1,h2⟩<;>rcases bL hi with rfl|rfl|rfl<;>rcases bL hj with rfl|rfl|rfl<;>simp only[h0,h1,h2,yw,BX,BY]
 have Pp:BI (nI s m):=λy n0=>by
  have e:=hN (λi=>y (s i))
  have back:∀i,i<3->s (s i)=i:=λi hi=>by
   rcases hs with⟨h0,h1,h2⟩|⟨h0,h1,h2⟩<;>rcases bL hi with rfl|rfl|rfl<;>simp only[h0,h1,h2]
  have e2:au (nI s m) y y=au (nI s m) (λi=>(λi=>y (s i)) (s i)) (λi=>(λi=>y (s i)) (s i)):=fV (λi hi=>by show y i=y (s (s i));rw[back i hi]) (λi hi=>by show y i=y (s (s i));rw[back i hi])
  rw[e2,e]
  refine P _ λz=>n0 ?_
  rcases hs with⟨h0,h1,h2⟩|⟨h0,h1,h2⟩<;>rw[h0,h1,h2]at z<;>exact⟨by(clear h2 h1 h0 e2 back e n0 ov hN en BY BX yw hS ab;omega),by(clear h2 h1 h0 e2 back e n0 ov hN en BY BX yw hS ab;omega),by(clear h2 h1 h0 e2 back e n0 ov hN en BY BX yw hS ab;omega)⟩
 refine⟨ov,xq ov Pp,?_,hN x,?_⟩
 ·rw[cS,cS,en 0 0 (by decide) (by decide),en 0 1 (by decide) (by decide),en 0 2 (by decide) (by decide),en 1 0 (by decide) (by decide),en 1 1 (by decide) (by decide),en 1 2 (by decide) (by decide),en 2 0 (by decide) (by decide),en 2 1 (by decide) (by decide),en 2 2 (by decide) (by decide)]
  rcases hs with⟨h0,h1,h2⟩|⟨h0,h1,h2⟩<;>rw[h0,h1,h2]<;>grind
 ·show ent (nI s m) 0 0*ent (nI s m) 1 1-ent (nI s m) 0 1*ent (nI s m) 1 0=_
  rw[en 0 0 (by decide) (by decide),en 0 1 (by decide) (by decide),en 1 0 (by decide) (by decide),en 1 1 (by decide) (by decide)]
  unfold gm
  rcases hs with⟨h0,h1,h2⟩|⟨h0,h1,h2⟩<;>rw[h0,h1,h2]<;>simp only[Nat.reduceAdd,Nat.reduceMod]<;>grind
theorem ly{m:List (List Int)}(ev:b8 m)(c:cJ m)(ab:bZ m=true)(x:Nat->Int){i:Nat}(hi:i<3):aA m*(x i*x i)<=gm m i i*aN m x:=by
 rcases bL hi with rfl|rfl|rfl
 ·obtain⟨h1,h2,h3,h4,h5⟩:=xC ev c ab (λi=>2-i) (.inl ⟨rfl,rfl,rfl⟩) x
  have:=pK h1 h2 (λi=>x (2-i))
  rw[h3,h4,h5]at this
  exact this
 ·obtain⟨h1,h2,h3,h4,h5⟩:=xC ev c ab (λi=>if i=0 then 0 else 3-i) (.inr ⟨rfl,rfl,rfl⟩) x
  have:=pK h1 h2 (λi=>x (if i=0 then 0 else 3-i))
  rw[h3,h4,h5]at this
  exact this
 ·exact pK (eG ev c) ab x
theorem nJ{m:List (List Int)}(ev:b8 m)(c:cJ m)(ab:bZ m=true)(hB:Bd 440 m){x:Nat->Int}(hx:(aN m x).natAbs<2^450){i:Nat}(hi:i<3):(x i).natAbs<2^666:=by
 have e:=ly ev c ab x hi
 have d1:=(fL ab).2.2
 have b1:=DG hB i i
 have e2:x i*x i<=gm m i i*aN m x:=by
  refine Int.le_trans ?_ e
  have:=Int.mul_le_mul_of_nonneg_right (show(1:Int)<=aA m by omega) (bf (x i))
  (clear b1 d1 e hi hx ab;omega)
 have b2:(gm m i i*aN m x).natAbs<2^(881+450):=cB b1 hx
 have b3:(x i*x i).natAbs<2^1332:=by
  have:=bf (x i)
  refine Nat.lt_of_le_of_lt ?_ (aJ b2 (show 881+450<=1332 by decide))
  (clear b1 d1 e hi hx ab;omega)
 rw[Int.natAbs_mul]at b3
 refine Nat.lt_of_not_le λz=> ?_
 have:=Nat.mul_le_mul z z
 rw[<-Nat.pow_add]at this
 (clear z b2 e2 b1 d1 e hi hx ab;omega)
noncomputable def dJ(x y t:Nat->Int):List (List Int):=mk3 λi j=>if i=0 then x j else if i=1 then y j else t j
noncomputable def bQ(x y t:Nat->Int):Int:=x 0*(y 1*t 2-y 2*t 1)+x 1*(y 2*t 0-y 0*t 2)+x 2*(y 0*t 1-y 1*t 0)
theorem Ff(x y t:Nat->Int):aA (dJ x y t)=bQ x y t:=by
 rw[cS]
 show x 0*(y 1*t 2-y 2*t 1)+x 1*(y 2*t 0-y 0*t 2)+x 2*(y 0*t 1-y 1*t 0)=_
 rfl
theorem Fg(x y t:Nat->Int):bQ y x t= -bQ x y t:=by unfold bQ;grind
theorem BZ(x y t:Nat->Int)(q:Int):bQ x (iO y q x) t=bQ x y t:=by unfold bQ iO;grind
theorem pL(x y t:Nat->Int)(i j:Int):bQ x y (iO (iO t i x) j y)=bQ x y t:=by unfold bQ iO;grind
theorem Ca{x:Nat->Int}(h:x 0=0/\x 1=0/\x 2=0)(y t:Nat->Int):bQ x y t=0:=by unfold bQ;rw[h.1,h.2.1,h.2.2];grind
structure gC(m:List (List Int))(x y x' y':Nat->Int):Prop where
 det:∃e:Int,(e=1∨e= -1)/\ ∀t,bQ x' y' t=e*bQ x y t
 sum:aN m x'+aN m y'<=aN m x+aN m y
theorem gC.refl(m:List (List Int))(x y:Nat->Int):gC m x y x y:=⟨⟨1,.inl rfl,λt=>by rw[Int.one_mul]⟩,Int.le_refl _⟩
theorem gC.trans{m:List (List Int)}{x y x1 y1 x2 y2:Nat->Int}(a:gC m x y x1 y1)(b:gC m x1 y1 x2 y2):gC m x y x2 y2:=by
 obtain⟨e,he,h⟩:=a.det
 obtain⟨f,hf,k⟩:=b.det
 refine⟨⟨f*e,?_,λt=>by rw[k,h,Int.mul_assoc]⟩,Int.le_trans b.sum a.sum⟩
 rcases he with rfl|rfl<;>rcases hf with rfl|rfl<;>simp
theorem gC.swap{m:List (List Int)}{x y x' y':Nat->Int}(a:gC m x y x' y'):gC m x y y' x':=by
 obtain⟨e,he,h⟩:=a.det
 refine⟨⟨-e,by omega,λt=>by rw[Fg,h];grind⟩,by have:=a.sum;omega⟩
theorem gC.less{m:List (List Int)}(ev:b8 m){x y:Nat->Int}(h:0<aN m x):gC m x y x (iO y ((2*au m x y+aN m x)/(2*aN m x)) x):=by
 obtain⟨h1,h2⟩:=rC (P:=au m x y) h
 refine⟨⟨1,.inl rfl,λt=>by rw[BZ,Int.one_mul]⟩,?_⟩
 rw[qJ ev]
 have:=DQ (N:=aN m y) (Int.le_of_lt h) h1 h2
 omega
theorem Il{m:List (List Int)}(ev:b8 m){x y:Nat->Int}(h:0<aN m x):aN m (iO y ((2*au m x y+aN m x)/(2*aN m x)) x)<=aN m y:=by
 obtain⟨h1,h2⟩:=rC (P:=au m x y) h
 rw[qJ ev]
 exact DQ (N:=aN m y) (Int.le_of_lt h) h1 h2
theorem Fi{m:List (List Int)}(ev:b8 m){x y:Nat->Int}(h:0<aN m x): -(aN m x)<=2*au m x (iO y ((2*au m x y+aN m x)/(2*aN m x)) x)/\2*au m x (iO y ((2*au m x y+aN m x)/(2*aN m x)) x)<=aN m x:=by
 rw[fX ev]
 exact rC h
structure lV(m:List (List Int))(x y:Nat->Int):Prop where
 pos:0<aN m x
 le:aN m x<=aN m y
 lo: -(aN m x)<=2*au m x y
 hi:2*au m x y<=aN m x
theorem lz{a b:Int}(h1: -b<=a)(h2:a<=b):a*a<=b*b:=by
 have hb:0<=b:=by omega
 rcases Int.le_total 0 a with h|h
 ·exact Int.mul_le_mul h2 h2 h hb
 ·have:(-a)*(-a)<=b*b:=Int.mul_le_mul (by omega) (by omega) (by omega) hb
  have e:(-a)*(-a)=a*a:=by grind
  omega
theorem lV.yx{m:List (List Int)}{x y:Nat->Int}(h:lV m x y):3*(aN m x*aN m y)<=4*(aN m x*aN m y-au m x y*au m x y)/\0<aN m x*aN m y-au m x y*au m x y:=by
 have s:=lz h.lo h.hi
 have l:aN m x*aN m x<=aN m x*aN m y:=Int.mul_le_mul_of_nonneg_left h.le (Int.le_of_lt h.pos)
 have p:=Int.mul_pos h.pos h.pos
 have e:2*au m x y*(2*au m x y)=4*(au m x y*au m x y):=by grind
 omega
theorem Sj{m:List (List Int)}(ev:b8 m)(x y t:Nat->Int):
  (aN m x*aN m y-au m x y*au m x y)*aN m t=aA m*(bQ x y t*bQ x y t)+(aN m x*(au m y t*au m y t) -2*(au m x y*(au m x t*au m y t))+aN m y*(au m x t*au m x t)):=by
 have yw:ent m 1 0=ent m 0 1:=ev.sym.1
 have BX:ent m 2 0=ent m 0 2:=ev.sym.2.1
 have BY:ent m 2 1=ent m 1 2:=ev.sym.2.2
 show(au m x x*au m y y-_)*au m t t=_*_+(au m x x*_-_+au m y y*_)
 rw[cS]
 unfold bQ
 simp only[aU,yw,BX,BY]
 generalize ent m 0 0=a,ent m 0 1=p,ent m 0 2=q,ent m 1 1=b,ent m 1 2=r,ent m 2 2=c
 generalize x 0=x0,x 1=x1,x 2=x2,y 0=y0,y 1=y1,y 2=y2,t 0=t0,t 1=t1,t 2=t2
 grind
end L2
set_option maxHeartbeats 4000000
namespace L2
open PySem
theorem uc{a p d X Y:Int}(ha:0<=a)(h1: -a<=2*p)(h2:2*p<=a)(hX:d<=X)(l1: -X<=Y)(l2:Y<=X):0<=a*(2*X-d)+2*p*Y:=by
 have k1:0<=(a+2*p)*(X+Y):=Int.mul_nonneg (by omega) (by omega)
 have k2:0<=(a-2*p)*(X-Y):=Int.mul_nonneg (by omega) (by omega)
 have k3:0<=a*(X-d):=Int.mul_nonneg ha (by omega)
 have e:2*(a*(2*X-d)+2*p*Y)=(a+2*p)*(X+Y)+(a-2*p)*(X-Y)+2*(a*(X-d)):=by grind
 (clear l2 l1 hX h2 h1 ha;omega)
noncomputable def gq(a p b c u v i j:Int):Int:=c-2*(i*u) -2*(j*v)+a*(i*i)+2*(p*(i*j))+b*(j*j)
theorem Sk{a p b c u v i j S R:Int}(eS:S=b*u-p*v)(eR:R=a*v-p*u):(a*b-p*p)*(gq a p b c u v i j-gq a p b c u v (i-1) j)=a*(2*((a*b-p*p)*i-S) - (a*b-p*p))+2*p*((a*b-p*p)*j-R):=by
 subst eS eR
 unfold gq
 grind
theorem Sl{a p b c u v i j S R:Int}(eS:S=b*u-p*v)(eR:R=a*v-p*u):(a*b-p*p)*(gq a p b c u v i j-gq a p b c u v i (j-1))=b*(2*((a*b-p*p)*j-R) - (a*b-p*p))+2*p*((a*b-p*p)*i-S):=by
 subst eS eR
 unfold gq
 grind
theorem jv{D x y:Int}(D0:0<D)(h:0<=D*(x-y)):y<=x:=by
 refine Classical.byContradiction λc=> ?_
 have:D*(x-y)<0:=Int.mul_neg_of_pos_of_neg D0 (by omega)
 omega
noncomputable def mz(i:Int):Nat:=(2*i-1).natAbs
theorem Nm(i:Int):0<mz i:=by unfold mz;omega
theorem Im{i:Int}(h:2<=i):mz (i-1)<mz i:=by unfold mz;omega
theorem Io{i:Int}(h:i<= -1):mz (i+1)<mz i:=by unfold mz;omega
theorem DR{a p b c u v S R:Int}(a0:0<a)(ab:a<=b)(h1: -a<=2*p)(h2:2*p<=a)(eS:S=b*u-p*v)(eR:R=a*v-p*u)(D0:0<a*b-p*p)(s0:0<=S)(s1:S<a*b-p*p)(r0:0<=R)(r1:R<a*b-p*p):
  ∀(n:Nat)(i j:Int),mz i+mz j<=n-> ∃i' j',(i'=0∨i'=1)/\(j'=0∨j'=1)/\gq a p b c u v i' j'<=gq a p b c u v i j
 |0,i,j,h=>absurd h (by have:=Nm i;(clear r1 r0 s1 s0 D0 eR eS h2 h1 ab a0;omega))
 |n+1,i,j,h=>by
  obtain⟨D,eD⟩:∃D,D=a*b-p*p:=⟨_,rfl⟩
  have gi:=λi j=>Sk (i:=i) (j:=j) (c:=c) eS eR
  have gj:=λi j=>Sl (i:=i) (j:=j) (c:=c) eS eR
  rw[<-eD]at D0 s1 r1 gi gj
  have eW:=DR (c:=c) a0 ab h1 h2 eS eR (eD▸D0) s0 (eD▸s1) r0 (eD▸r1) n
  obtain⟨X,eX⟩:∃X,X=D*i-S:=⟨_,rfl⟩
  obtain⟨Y,eY⟩:∃Y,Y=D*j-R:=⟨_,rfl⟩
  have i2:2<=i->D<=X:=λh=>by
   have:=Int.mul_le_mul_of_nonneg_left h (Int.le_of_lt D0)
   (clear h eY eW gj gi D0 r1 r0 s0 eR h2 h1 ab a0;omega)
  have i1:i<= -1->D<= -X:=λh=>by
   have:=Int.mul_le_mul_of_nonneg_left h (Int.le_of_lt D0)
   (clear h i2 eY eW gj gi D0 s1 r1 r0 eR h2 h1 ab a0;omega)
  have j2:2<=j->D<=Y:=λh=>by
   have:=Int.mul_le_mul_of_nonneg_left h (Int.le_of_lt D0)
   (clear h i1 i2 eX eW gj gi D0 s1 r0 s0 eS h2 h1 ab a0;omega)
  have j1:j<= -1->D<= -Y:=λh=>by
   have:=Int.mul_le_mul_of_nonneg_left h (Int.le_of_lt D0)
   (clear h j2 i1 i2 eX eW gj gi D0 s1 r1 s0 eS h2 h1 ab a0;omega)
  have ii:(i=0∨i=1) -> -D<=X/\X<=D:=λh=>by rcases h with rfl|rfl<;>simp at eX<;>(clear i1 i2 h j1 j2 eY eW gj gi D0 r1 r0 eR h2 h1 ab a0;omega)
  have jj:(j=0∨j=1) -> -D<=Y/\Y<=D:=λh=>by rcases h with rfl|rfl<;>simp at eY<;>(clear j1 j2 h ii i1 i2 eX eW gj gi D0 s1 s0 eS h2 h1 ab a0;omega)
  have pM:(2<=i/\ -X<=Y/\Y<=X) ->gq a p b c u v (i-1) j<=gq a p b c u v i j:=λ ⟨k,l1,l2⟩=>by
   refine jv D0 ?_
   rw[gi i j,<-eX,<-eY]
   exact uc (Int.le_of_lt a0) h1 h2 (i2 k) l1 l2
  have gO:(i<= -1/\X<=Y/\Y<= -X) ->gq a p b c u v (i+1) j<=gq a p b c u v i j:=λ ⟨k,l1,l2⟩=>by
   refine jv D0 ?_
   have g:=gi (i+1) j
   rw[show i+1-1=i by omega,<-eY]at g
   have s:=uc (d:=D) (X:= -X) (Y:= -Y) (Int.le_of_lt a0) h1 h2 (i1 k) (by(clear g l2 l1 k pM jj ii j1 j2 i1 i2 eY eX eW gj gi eD D0 s1 r1 h r0 s0 eR eS h2 h1 ab a0;omega)) (by omega)
   have e:D*(gq a p b c u v i j-gq a p b c u v (i+1) j)=a*(2* -X-D)+2*p* -Y:=by
    have:D*(gq a p b c u v i j-gq a p b c u v (i+1) j)= -(D*(gq a p b c u v (i+1) j-gq a p b c u v i j)):=by grind
    rw[this,g,eX]
    grind
   rw[e]
   exact s
  have pN:(2<=j/\ -Y<=X/\X<=Y) ->gq a p b c u v i (j-1)<=gq a p b c u v i j:=λ ⟨k,l1,l2⟩=>by
   refine jv D0 ?_
   rw[gj i j,<-eX,<-eY]
   exact uc (by omega) (by omega) (by omega) (j2 k) l1 l2
  have gD:(j<= -1/\Y<=X/\X<= -Y) ->gq a p b c u v i (j+1)<=gq a p b c u v i j:=λ ⟨k,l1,l2⟩=>by
   refine jv D0 ?_
   have g:=gj i (j+1)
   rw[show j+1-1=j by omega,<-eX]at g
   have s:=uc (a:=b) (p:=p) (d:=D) (X:= -Y) (Y:= -X) (by omega) (by omega) (by omega) (j1 k) (by omega) (by omega)
   have e:D*(gq a p b c u v i j-gq a p b c u v i (j+1))=b*(2* -Y-D)+2*p* -X:=by
    have:D*(gq a p b c u v i j-gq a p b c u v i (j+1))= -(D*(gq a p b c u v i (j+1) -gq a p b c u v i j)):=by grind
    rw[this,g,eY]
    grind
   rw[e]
   exact s
  by_cases ci:i=0∨i=1
  ·by_cases cj:j=0∨j=1
   ·exact⟨i,j,ci,cj,Int.le_refl _⟩
   ·have:=ii ci
    rcases Int.lt_or_le 1 j with k|k
    ·obtain⟨i',j',q1,q2,q3⟩:=eW i (j-1) (by have:=Im (show 2<=j by omega);(clear k cj ci gD pN gO pM jj ii j1 j2 i1 i2 eY eX eW gj gi eD D0 s1 r1 r0 s0 eR eS h2 h1 ab a0;omega))
     exact⟨i',j',q1,q2,Int.le_trans q3 (pN ⟨by omega,by have:=j2 (by omega);(clear q3 q2 q1 k cj ci gD pN gO pM jj ii j1 j2 i1 i2 eY eX eW gj gi D0 s1 r1 h r0 s0 eR eS h2 h1 ab a0;omega),by have:=j2 (by omega);(clear q3 q2 q1 k cj ci gD pN gO pM jj ii j1 j2 i1 i2 eY eX eW gj gi D0 s1 r1 h r0 s0 eR eS h2 h1 ab a0;omega)⟩)⟩
    ·obtain⟨i',j',q1,q2,q3⟩:=eW i (j+1) (by have:=Io (show j<= -1 by(clear this ci gD pN gO pM jj ii j1 j2 i1 i2 eY eX eW gj gi eD D0 s1 r1 h r0 s0 eR eS h2 h1 ab a0;omega));(clear k cj ci gD pN gO pM jj ii j1 j2 i1 i2 eY eX eW gj gi eD D0 s1 r1 r0 s0 eR eS h2 h1 ab a0;omega))
     exact⟨i',j',q1,q2,Int.le_trans q3 (gD ⟨by(clear q3 this ci gD pN gO pM jj ii j1 j2 i1 i2 eY eX eW gj gi eD D0 s1 r1 h r0 s0 eR eS h2 h1 ab a0;omega),by have:=j1 (by(clear q3 this ci gD pN gO pM jj ii j1 j2 i1 i2 eY eX eW gj gi eD D0 s1 r1 h r0 s0 eR eS h2 h1 ab a0;omega));(clear q3 q2 q1 k cj ci gD pN gO pM jj ii j1 j2 i1 i2 eY eX eW gj gi D0 s1 r1 h r0 s0 eR eS h2 h1 ab a0;omega),by have:=j1 (by(clear q3 this ci gD pN gO pM jj ii j1 j2 i1 i2 eY eX eW gj gi eD D0 s1 r1 h r0 s0 eR eS h2 h1 ab a0;omega));(clear q3 q2 q1 k cj ci gD pN gO pM jj ii j1 j2 i1 i2 eY eX eW gj gi D0 s1 r1 h r0 s0 eR eS h2 h1 ab a0;omega)⟩)⟩
  ·--i is to be moved,or j where it is QE off
   have xi:D<=X∨D<= -X:=by
    rcases Int.lt_or_le 1 i with k|k
    ·exact .inl (i2 (by omega))
    ·exact .inr (i1 (by(clear gD pN gO pM jj ii j1 j2 i1 i2 eY eX eW gj gi eD D0 s1 r1 h r0 s0 eR eS h2 h1 ab a0;omega)))
   have Nn:(2<=i/\ -X<=Y/\Y<=X)∨(i<= -1/\X<=Y/\Y<= -X)∨(2<=j/\ -Y<=X/\X<=Y)∨(j<= -1/\Y<=X/\X<= -Y):=by
    have hi:2<=i∨i<= -1:=by(clear gD pN gO pM jj ii j1 j2 i1 i2 eY eX eW gj gi eD D0 s1 r1 h r0 s0 eR eS h2 h1 ab a0;omega)
    have hj:(j=0∨j=1)∨2<=j∨j<= -1:=by(clear hi xi ci gD pN gO pM jj ii j1 j2 i1 i2 eY eX eW gj gi eD D0 s1 r1 h r0 s0 eR eS h2 h1 ab a0;omega)
    rcases hi with hi|hi
    ·have:=i2 hi
     rcases hj with hj|hj|hj
     ·have:=jj hj
      exact .inl ⟨hi,by(clear hj hi xi ci gD pN gO pM jj ii j1 j2 i1 i2 eY eX eW gj gi D0 s1 r1 h r0 s0 eR eS h2 h1 ab a0;omega),by(clear hj hi xi ci gD pN gO pM jj ii j1 j2 i1 i2 eY eX eW gj gi D0 s1 r1 h r0 s0 eR eS h2 h1 ab a0;omega)⟩
     ·have:=j2 hj
      rcases Int.le_total X Y with w|w
      ·exact .inr (.inr (.inl ⟨hj,by(clear w hj hi xi ci gD pN gO pM jj ii j1 j2 i1 i2 eX eW gj gi D0 s1 h s0 eS h2 h1 ab a0;omega),w⟩))
      ·exact .inl ⟨hi,by(clear hj hi xi ci gD pN gO pM jj ii j1 j2 i1 i2 eX eW gj gi D0 s1 h s0 eS h2 h1 ab a0;omega),w⟩
     ·have:=j1 hj
      rcases Int.le_total X (-Y)with w|w
      ·exact .inr (.inr (.inr ⟨hj,by(clear w hj hi xi ci gD pN gO pM jj ii j1 j2 i1 i2 eX eW gj gi D0 s1 h s0 eS h2 h1 ab a0;omega),w⟩))
      ·exact .inl ⟨hi,by omega,by(clear hj hi xi ci gD pN gO pM jj ii j1 j2 i1 i2 eX eW gj gi D0 s1 h s0 eS h2 h1 ab a0;omega)⟩
    ·have:=i1 hi
     rcases hj with hj|hj|hj
     ·have:=jj hj
      exact .inr (.inl ⟨hi,by(clear hj hi xi ci gD pN gO pM jj ii j1 j2 i1 i2 eY eX eW gj gi D0 s1 r1 h r0 s0 eR eS h2 h1 ab a0;omega),by(clear hj hi xi ci gD pN gO pM jj ii j1 j2 i1 i2 eY eX eW gj gi D0 s1 r1 h r0 s0 eR eS h2 h1 ab a0;omega)⟩)
     ·have:=j2 hj
      rcases Int.le_total (-X) Y with w|w
      ·exact .inr (.inr (.inl ⟨hj,by omega,by(clear w hj hi xi ci gD pN gO pM jj ii j1 j2 i1 i2 eX eW gj gi D0 s1 h s0 eS h2 h1 ab a0;omega)⟩))
      ·exact .inr (.inl ⟨hi,by(clear hj hi xi ci gD pN gO pM jj ii j1 j2 i1 i2 eX eW gj gi D0 s1 h s0 eS h2 h1 ab a0;omega),w⟩)
     ·have:=j1 hj
      rcases Int.le_total (-X) (-Y)with w|w
      ·exact .inr (.inr (.inr ⟨hj,by omega,by(clear w hj hi xi ci gD pN gO pM jj ii j1 j2 i1 i2 eX eW gj gi D0 s1 h s0 eS h2 h1 ab a0;omega)⟩))
      ·exact .inr (.inl ⟨hi,by omega,by(clear hj hi xi ci gD pN gO pM jj ii j1 j2 i1 i2 eX eW gj gi D0 s1 h s0 eS h2 h1 ab a0;omega)⟩)
   rcases Nn with w|w|w|w
   ·obtain⟨i',j',q1,q2,q3⟩:=eW (i-1) j (by have:=Im w.1;(clear w xi ci gD pN gO pM jj ii j1 j2 i1 i2 eY eX eW gj gi eD D0 s1 r1 r0 s0 eR eS h2 h1 ab a0;omega))
    exact⟨i',j',q1,q2,Int.le_trans q3 (pM w)⟩
   ·obtain⟨i',j',q1,q2,q3⟩:=eW (i+1) j (by have:=Io w.1;(clear w xi ci gD pN gO pM jj ii j1 j2 i1 i2 eY eX eW gj gi eD D0 s1 r1 r0 s0 eR eS h2 h1 ab a0;omega))
    exact⟨i',j',q1,q2,Int.le_trans q3 (gO w)⟩
   ·obtain⟨i',j',q1,q2,q3⟩:=eW i (j-1) (by have:=Im w.1;(clear w xi ci gD pN gO pM jj ii j1 j2 i1 i2 eY eX eW gj gi eD D0 s1 r1 r0 s0 eR eS h2 h1 ab a0;omega))
    exact⟨i',j',q1,q2,Int.le_trans q3 (pN w)⟩
   ·obtain⟨i',j',q1,q2,q3⟩:=eW i (j+1) (by have:=Io w.1;(clear w xi ci gD pN gO pM jj ii j1 j2 i1 i2 eY eX eW gj gi eD D0 s1 r1 r0 s0 eR eS h2 h1 ab a0;omega))
    exact⟨i',j',q1,q2,Int.le_trans q3 (gD w)⟩
end L2
namespace L2
open PySem PySem.Spec PyProof.Rows
noncomputable def bI(m:List (List Int))(x y t:Nat->Int):Int:=aN m y*au m x t-au m x y*au m y t
noncomputable def bJ(m:List (List Int))(x y t:Nat->Int):Int:=aN m x*au m y t-au m x y*au m x t
noncomputable abbrev ao(m:List (List Int))(x y:Nat->Int):Int:=aN m x*aN m y-au m x y*au m x y
noncomputable abbrev bU(t:Nat->Int)(i:Int)(x:Nat->Int)(j:Int)(y:Nat->Int):Nat->Int:=iO (iO t i x) j y
theorem rD{m:List (List Int)}(ev:b8 m)(x y t:Nat->Int)(i j:Int):bI m x y (bU t i x j y)=bI m x y t-i*ao m x y/\bJ m x y (bU t i x j y)=bJ m x y t-j*ao m x y:=by
 unfold bI bJ bU ao
 rw[fX ev,fX ev,fX ev,fX ev,jC ev y x]
 constructor<;>grind
theorem rE{m:List (List Int)}(ev:b8 m)(x y t:Nat->Int):ao m x y*(ao m x y*aN m t)=ao m x y*(aA m*(bQ x y t*bQ x y t))+(aN m x*(bI m x y t*bI m x y t)+2*(au m x y*(bI m x y t*bJ m x y t))+aN m y*(bJ m x y t*bJ m x y t)):=by
 have g:=Sj ev x y t
 show ao m x y*((aN m x*aN m y-au m x y*au m x y)*aN m t)=_
 rw[g]
 unfold bI bJ ao
 generalize aN m x=A,aN m y=B,au m x y=P,au m x t=u,au m y t=v
 generalize aA m*(bQ x y t*bQ x y t)=D
 grind
theorem Fj(m:List (List Int))(x y t:Nat->Int):ao m x y*au m x t=aN m x*bI m x y t+au m x y*bJ m x y t/\ao m x y*au m y t=au m x y*bI m x y t+aN m y*bJ m x y t:=by
 unfold bI bJ ao
 constructor<;>grind
structure Drawn(m:List (List Int))(x y t t':Nat->Int):Prop where
 det:bQ x y t'=bQ x y t
 le:aN m t'<=aN m t∨True
 s: -(ao m x y)<=bI m x y t'/\bI m x y t'<=ao m x y
 r: -(ao m x y)<=bJ m x y t'/\bJ m x y t'<=ao m x y
 few:4*(ao m x y*aN m t')<=4*(aA m*(bQ x y t*bQ x y t))+3*(ao m x y*aN m y)
 Np:∀I J:Int,aN m t'<=aN m (bU t' I x J y)
theorem DS{A B P s r d:Int}(hA:0<=A)(hB:0<=B)(h1: -A<=2*P)(h2:2*P<=A)(s1: -d<=2*s)(s2:2*s<=d)(r1: -d<=2*r)(r2:2*r<=d):4*(A*(s*s)+2*(P*(s*r))+B*(r*r))<=(2*A+B)*(d*d):=by
 have hd:0<=d:=by(clear r2 r1 h2 h1 hB hA;omega)
 have ss:=lz s1 s2
 have rr:=lz r1 r2
 have e1:2*s*(2*s)=4*(s*s):=by grind
 have e2:2*r*(2*r)=4*(r*r):=by grind
 rw[e1]at ss
 rw[e2]at rr
 have sr:2*P*(2*s*(2*r))<=A*(d*d):=by
  have ab:∀a b c e:Int,-c<=a->a<=c-> -e<=b->b<=e->a*b<=c*e:=λa b c e h1 h2 h3 h4=>by
   have k1:=Int.mul_nonneg (show 0<=c-a by omega) (show 0<=e+b by(clear h4 h2 h1 e2 e1 rr ss hd r2 r1 s2 s1 hB hA;omega))
   have k2:=Int.mul_nonneg (show 0<=c+a by(clear k1 h4 h3 h2 e2 e1 rr ss hd r2 r1 s2 s1 hB hA;omega)) (show 0<=e-b by omega)
   have e3:(c-a)*(e+b)+(c+a)*(e-b)=2*(c*e) -2*(a*b):=by grind
   (clear h4 h3 h2 h1 e2 e1 rr ss hd r2 r1 s2 s1 hB hA;omega)
  have Cb:∀a b c e:Int,-c<=a->a<=c-> -e<=b->b<=e-> -(c*e)<=a*b:=λa b c e h1 h2 h3 h4=>by
   have:=ab (-a) b c e (by(clear h4 h3 h1 ab e2 e1 rr ss hd r2 r1 s2 s1 hB hA;omega)) (by(clear h4 h3 h2 ab e2 e1 rr ss hd r2 r1 s2 s1 hB hA;omega)) h3 h4
   have e3: -a*b= -(a*b):=by grind
   (clear h4 h3 h2 h1 ab e2 e1 rr ss hd r2 r1 s2 s1 hB hA;omega)
  exact ab _ _ _ _ h1 h2 (Cb _ _ _ _ s1 s2 r1 r2) (ab _ _ _ _ s1 s2 r1 r2)
 have f1:=Int.mul_le_mul_of_nonneg_left ss hA
 have f2:=Int.mul_le_mul_of_nonneg_left rr hB
 have e3:4*(A*(s*s)+2*(P*(s*r))+B*(r*r))=A*(4*(s*s))+2*P*(2*s*(2*r))+B*(4*(r*r)):=by grind
 have e4:(2*A+B)*(d*d)=A*(d*d)+A*(d*d)+B*(d*d):=by grind
 (clear e2 e1 rr ss hd r2 r1 s2 s1 h2 h1 hB hA;omega)
theorem Ip{m:List (List Int)}(ev:b8 m)(x y t:Nat->Int)(i j:Int):aN m (bU t i x j y)=gq (aN m x) (au m x y) (aN m y) (aN m t) (au m x t) (au m y t) i j:=by
 unfold bU gq
 rw[qJ ev,qJ ev,fX ev,jC ev y x]
 grind
theorem rF(t x y:Nat->Int)(i j I J:Int):bU (bU t i x j y) I x J y=bU t (i+I) x (j+J) y:=by
 funext k
 show t k-i*x k-j*y k-I*x k-J*y k=t k- (i+I)*x k- (j+J)*y k
 grind
theorem Nq{m:List (List Int)}(ev:b8 m){x y t:Nat->Int}(h:lV m x y){i j:Int}
  (least:∀i' j',(i'=bI m x y t/ao m x y∨i'=bI m x y t/ao m x y+1) ->(j'=bJ m x y t/ao m x y∨j'=bJ m x y t/ao m x y+1) ->aN m (bU t i x j y)<=aN m (bU t i' x j' y)):∀I J:Int,aN m (bU t i x j y)<=aN m (bU (bU t i x j y) I x J y):=λI J=>by
 obtain⟨_,ap⟩:=h.yx
 have jD:0<ao m x y:=ap
 obtain⟨i0,ei⟩:∃i0,i0=bI m x y t/ao m x y:=⟨_,rfl⟩
 obtain⟨j0,ej⟩:∃j0,j0=bJ m x y t/ao m x y:=⟨_,rfl⟩
 rw[<-ei,<-ej]at least
 have fl:=rD ev x y t i0 j0
 have sS:bI m x y (bU t i0 x j0 y)=bI m x y t%ao m x y:=by
  rw[fl.1,ei,Int.emod_def,Int.mul_comm]
 have sR:bJ m x y (bU t i0 x j0 y)=bJ m x y t%ao m x y:=by
  rw[fl.2,ej,Int.emod_def,Int.mul_comm]
 have s0:=Int.emod_nonneg (bI m x y t) (show ao m x y≠0 by omega)
 have s1:=Int.emod_lt_of_pos (bI m x y t) jD
 have r0:=Int.emod_nonneg (bJ m x y t) (show ao m x y≠0 by omega)
 have r1:=Int.emod_lt_of_pos (bJ m x y t) jD
 obtain⟨i',j',q1,q2,q3⟩:=DR (c:=aN m (bU t i0 x j0 y)) h.pos h.le h.lo h.hi (u:=au m x (bU t i0 x j0 y)) (v:=au m y (bU t i0 x j0 y)) (S:=bI m x y t%ao m x y) (R:=bJ m x y t%ao m x y) sS.symm sR.symm jD s0 s1 r0 r1 _ (i+I-i0) (j+J-j0) (Nat.le_refl _)
 rw[<-Ip ev,<-Ip ev,rF,rF,show i0+(i+I-i0)=i+I by omega,show j0+(j+J-j0)=j+J by omega]at q3
 rw[rF]
 exact Int.le_trans (least (i0+i') (j0+j') (by(clear q3 r1 r0 s1 s0 sR sS fl ej least ei jD ap;omega)) (by(clear q3 q1 r1 r0 s1 s0 sR sS fl ej least ei jD ap;omega))) q3
theorem Iq{m:List (List Int)}(ev:b8 m){x y t:Nat->Int}(h:lV m x y){i j:Int}(i0:i=bI m x y t/ao m x y∨i=bI m x y t/ao m x y+1)(j0:j=bJ m x y t/ao m x y∨j=bJ m x y t/ao m x y+1)
  (least:∀i' j',(i'=bI m x y t/ao m x y∨i'=bI m x y t/ao m x y+1) ->(j'=bJ m x y t/ao m x y∨j'=bJ m x y t/ao m x y+1) ->aN m (bU t i x j y)<=aN m (bU t i' x j' y)):Drawn m x y t (bU t i x j y):=by
 obtain⟨_,ap⟩:=h.yx
 have fl:=rD ev x y t
 have em:=λz:Int=>Int.emod_add_mul_ediv z (ao m x y)
 have lo:=λz:Int=>Int.emod_nonneg z (show ao m x y≠0 by show aN m x*aN m y-au m x y*au m x y≠0;omega)
 have up:=λz:Int=>Int.emod_lt_of_pos z (show 0<ao m x y from ap)
 have jD:0<ao m x y:=ap
 have near:∀{z k:Int},(k=z/ao m x y∨k=z/ao m x y+1) -> -(ao m x y)<=z-k*ao m x y/\z-k*ao m x y<=ao m x y:=λ {z k} hk=>by
  have e:=em z
  have l:=lo z
  have u:=up z
  rcases hk with rfl|rfl
  ·generalize ao m x y=d at e l u ⊢
   have e2:z/d*d=d*(z/d):=Int.mul_comm ..
   omega
  ·generalize ao m x y=d at e l u ⊢
   have e2:(z/d+1)*d=d*(z/d)+d:=by rw[Int.add_mul,Int.one_mul,Int.mul_comm]
   omega
 have half:∀z:Int,∃k,(k=z/ao m x y∨k=z/ao m x y+1)/\ -(ao m x y)<=2*(z-k*ao m x y)/\2*(z-k*ao m x y)<=ao m x y:=λz=>by
  have e:=em z
  have l:=lo z
  have u:=up z
  by_cases c:2*(z%ao m x y)<=ao m x y
  ·refine⟨_,.inl rfl,?_⟩
   generalize ao m x y=d at e l u c ⊢
   have e2:z/d*d=d*(z/d):=Int.mul_comm ..
   omega
  ·refine⟨_,.inr rfl,?_⟩
   generalize ao m x y=d at e l u c ⊢
   have e2:(z/d+1)*d=d*(z/d)+d:=by rw[Int.add_mul,Int.one_mul,Int.mul_comm]
   (clear near jD up lo em fl ap least j0 i0;omega)
 have hn:=near i0
 have hr:=near j0
 refine⟨pL _ _ _ _ _,.inr trivial,by rw[(fl i j).1];exact hn,by rw[(fl i j).2];exact hr,?_,Nq ev h least⟩
 obtain⟨i1,hi1,s1,s2⟩:=half (bI m x y t)
 obtain⟨j1,hj1,r1,r2⟩:=half (bJ m x y t)
 have best:=least i1 j1 hi1 hj1
 rw[<- (fl i1 j1).1]at s1 s2
 rw[<- (fl i1 j1).2]at r1 r2
 have g:=rE ev x y (bU t i1 x j1 y)
 have dt:bQ x y (bU t i1 x j1 y)=bQ x y t:=pL _ _ _ _ _
 rw[dt]at g
 have q:=DS (Int.le_of_lt h.pos) (Int.le_trans (Int.le_of_lt h.pos) h.le) h.lo h.hi s1 s2 r1 r2
 have Ic:2*aN m x+aN m y<=3*aN m y:=by have:=h.le;(clear q dt g best r2 r1 hj1 s1 s2 hi1 hr hn half near jD up lo em fl ap least j0 i0;omega)
 have q2:=Int.mul_le_mul_of_nonneg_right Ic (bf (ao m x y))
 have PL:=Int.mul_le_mul_of_nonneg_left best (Int.le_of_lt jD)
 generalize aN m x*(bI m x y (bU t i1 x j1 y)*bI m x y (bU t i1 x j1 y))+2*(au m x y*(bI m x y (bU t i1 x j1 y)*bJ m x y (bU t i1 x j1 y)))+aN m y*(bJ m x y (bU t i1 x j1 y)*bJ m x y (bU t i1 x j1 y))=qq at g q
 have fin:ao m x y*(4*(ao m x y*aN m (bU t i1 x j1 y)))<=ao m x y*(4*(aA m*(bQ x y t*bQ x y t))+3*(ao m x y*aN m y)):=by
  have e1:ao m x y*(4*(ao m x y*aN m (bU t i1 x j1 y)))=4*(ao m x y*(ao m x y*aN m (bU t i1 x j1 y))):=by grind
  have e2:ao m x y*(4*(aA m*(bQ x y t*bQ x y t))+3*(ao m x y*aN m y))=4*(ao m x y*(aA m*(bQ x y t*bQ x y t)))+3*aN m y*(ao m x y*ao m x y):=by grind
  rw[e1,e2,g]
  (clear e1 g PL Ic dt best r2 r1 hj1 s1 s2 hi1 hr hn half near jD up lo em fl ap least j0 i0;omega)
 have:=Int.le_of_mul_le_mul_left fin jD
 (clear fin q g q2 Ic dt best r2 r1 hj1 s1 s2 hi1 hr hn half near jD up lo em fl ap least j0 i0;omega)
theorem Fl{m:List (List Int)}(ev:b8 m){x y t:Nat->Int}(h:lV m x y){i j:Int}(i0:i=bI m x y t/ao m x y∨i=bI m x y t/ao m x y+1)(j0:j=bJ m x y t/ao m x y∨j=bJ m x y t/ao m x y+1)(D0:0<=aA m):
  aN m (bU t i x j y)<=aA m*(bQ x y t*bQ x y t)+3*aN m y:=by
 obtain⟨_,ap⟩:=h.yx
 have fl:=rD ev x y t
 have jD:0<ao m x y:=ap
 have near:∀{z k:Int},(k=z/ao m x y∨k=z/ao m x y+1) -> -(2*ao m x y)<=2*(z-k*ao m x y)/\2*(z-k*ao m x y)<=2*ao m x y:=λ {z k} hk=>by
  have e:=Int.emod_add_mul_ediv z (ao m x y)
  have l:=Int.emod_nonneg z (show ao m x y≠0 by omega)
  have u:=Int.emod_lt_of_pos z jD
  rcases hk with rfl|rfl
  ·generalize ao m x y=d at e l u ⊢
   have e2:z/d*d=d*(z/d):=Int.mul_comm ..
   (clear jD fl ap D0 j0 i0;omega)
  ·generalize ao m x y=d at e l u ⊢
   have e2:(z/d+1)*d=d*(z/d)+d:=by rw[Int.add_mul,Int.one_mul,Int.mul_comm]
   (clear jD fl ap D0 j0 i0;omega)
 have s:=near i0
 have r:=near j0
 rw[<- (fl i j).1]at s
 rw[<- (fl i j).2]at r
 have g:=rE ev x y (bU t i x j y)
 have dt:bQ x y (bU t i x j y)=bQ x y t:=pL _ _ _ _ _
 rw[dt]at g
 have q:=DS (Int.le_of_lt h.pos) (Int.le_trans (Int.le_of_lt h.pos) h.le) h.lo h.hi s.1 s.2 r.1 r.2
 generalize aN m x*(bI m x y (bU t i x j y)*bI m x y (bU t i x j y))+2*(au m x y*(bI m x y (bU t i x j y)*bJ m x y (bU t i x j y)))+aN m y*(bJ m x y (bU t i x j y)*bJ m x y (bU t i x j y))=qq at g q
 have Ic:2*aN m x+aN m y<=3*aN m y:=by have:=h.le;(clear q g dt r s near jD fl ap D0 j0 i0;omega)
 have q2:=Int.mul_le_mul_of_nonneg_right Ic (bf (ao m x y))
 have DD:=Int.mul_nonneg D0 (bf (bQ x y t))
 generalize aA m*(bQ x y t*bQ x y t)=dd at g DD ⊢
 have e3:(2*aN m x+aN m y)*(2*ao m x y*(2*ao m x y))=4*((2*aN m x+aN m y)*(ao m x y*ao m x y)):=by grind
 rw[e3]at q
 have fin:ao m x y*(ao m x y*aN m (bU t i x j y))<=ao m x y*(ao m x y*(dd+3*aN m y)):=by
  rw[g]
  have e1:ao m x y*(ao m x y*(dd+3*aN m y))=ao m x y*(ao m x y*dd)+3*aN m y*(ao m x y*ao m x y):=by grind
  have m1:ao m x y*dd<=ao m x y*(ao m x y*dd):=Int.mul_le_mul_of_nonneg_left (by
   have:=Int.mul_le_mul_of_nonneg_right (show(1:Int)<=ao m x y by omega) DD
   (clear e1 e3 DD g q2 Ic q dt r s near jD fl ap D0 j0 i0;omega)) (Int.le_of_lt jD)
  (clear e3 DD Ic dt r s near jD fl ap D0 j0 i0;omega)
 exact Int.le_of_mul_le_mul_left (Int.le_of_mul_le_mul_left fin jD) jD
theorem Ir{α:Type}{a b:α}{l:List α}(h:l.Perm [a,b]):l=[a,b]∨l=[b,a]:=by
 match l,h.length_eq with
 | [p,q],_=>
  have hp:p∈ [a,b]:=h.mem_iff.mp (by simp)
  simp only[List.mem_cons,List.not_mem_nil,or_false]at hp
  rcases hp with rfl|rfl
  ·left
   have:=(List.perm_cons p).mp h
   rw[List.perm_singleton.mp this]
  ·right
   have h2: [p,q].Perm [p,a]:=h.trans (List.Perm.swap p a [])
   have:=(List.perm_cons p).mp h2
   rw[List.perm_singleton.mp this]
theorem LR{α:Type}{a b c:α}{l:List α}(h:l.Perm [a,b,c]):l=[a,b,c]∨l=[a,c,b]∨l=[b,a,c]∨l=[b,c,a]∨l=[c,a,b]∨l=[c,b,a]:=by
 match l,h.length_eq with
 |p::r,_=>
  have hp:p∈ [a,b,c]:=h.mem_iff.mp (by simp)
  simp only[List.mem_cons,List.not_mem_nil,or_false]at hp
  rcases hp with rfl|rfl|rfl
  ·rcases Ir ((List.perm_cons p).mp h)with z|z<;>rw[z]<;>simp
  ·have h2:(p::r).Perm [p,a,c]:=h.trans (List.Perm.swap p a [c])
   rcases Ir ((List.perm_cons p).mp h2)with z|z<;>rw[z]<;>simp
  ·have h2:(p::r).Perm [p,a,b]:=h.trans (((List.Perm.swap p b []).cons a).trans (List.Perm.swap p a [b]))
   rcases Ir ((List.perm_cons p).mp h2)with z|z<;>rw[z]<;>simp
theorem Fo{α:Type}{a b c p q r:α}(X:α->Nat->Int)(h: [p,q,r].Perm [a,b,c]):bQ (X p) (X q) (X r)=bQ (X a) (X b) (X c)∨bQ (X p) (X q) (X r)= -bQ (X a) (X b) (X c):=by
 rcases LR h with z|z|z|z|z|z<;>injection z with e1 z<;>injection z with e2 z<;>injection z with e3 z<;>subst e1 e2 e3<;>unfold bQ
 ·left;rfl
 ·right;grind
 ·right;grind
 ·left;grind
 ·left;grind
 ·right;grind
theorem gR{H:Hp}{b:Addr}{x:Nat->Int}(h:bH H b x):∀i,i<3->dQ (j3 H b) i=x i:=λi hi=>by
 have h:H b=some (.lst [.int (x 0),.int (x 1),.int (x 2)]):=h
 unfold j3
 rw[h]
 rcases bL hi with rfl|rfl|rfl<;>rfl
theorem yy{H:Hp}{b:Addr}{x:Nat->Int}(h:bH H b x):bH H b (dQ (j3 H b)):=by
 show H b=some (.lst [.int (dQ (j3 H b) 0),.int (dQ (j3 H b) 1),.int (dQ (j3 H b) 2)])
 rw[gR h 0 (by decide),gR h 1 (by decide),gR h 2 (by decide)]
 exact h
structure DT(m:List (List Int))(x y t:Nat->Int):Prop where
 pair:lV m x y
 le:aN m y<=aN m t
 unit:bQ x y t=1∨bQ x y t= -1
 few:3*(aN m x*aN m y*aN m t)<=16*aA m
 Np:∀I J:Int,aN m t<=aN m (bU t I x J y)
 hgt:4*(ao m x y*aN m t)<=4*aA m+3*(ao m x y*aN m y)
 u: -(2*aN m x)<=au m x t/\au m x t<=2*aN m x
 v: -(2*aN m y)<=au m y t/\au m y t<=2*aN m y
theorem KL{m:List (List Int)}{x y t t':Nat->Int}(h:lV m x y)(d:Drawn m x y t t')(un:bQ x y t=1∨bQ x y t= -1)(le:aN m y<=aN m t'):DT m x y t':=by
 obtain⟨ar,ap⟩:=h.yx
 have jD:0<ao m x y:=ap
 have one:bQ x y t*bQ x y t=1:=by rcases un with z|z<;>rw[z]<;>decide
 have f:=d.few
 rw[one,Int.mul_one]at f
 have g:=Int.mul_le_mul_of_nonneg_left le (Int.le_of_lt jD)
 have ht:0<=aN m t':=by have:=h.pos;have:=h.le;(clear g f one jD ap ar un;omega)
 have k:=Int.mul_le_mul_of_nonneg_right ar ht
 obtain⟨p1,p2⟩:=Fj m x y t'
 have cancel:∀{a b c:Int},ao m x y*a<=ao m x y*b->a<=b:=λh=>Int.le_of_mul_le_mul_left h jD
 have ab:∀a b c e:Int,-c<=a->a<=c-> -e<=b->b<=e->a*b<=c*e:=λa b c e h1 h2 h3 h4=>by
  have k1:=Int.mul_nonneg (show 0<=c-a by(clear h4 h3 h1 cancel p2 p1 k ht g f one jD ap ar le un;omega)) (show 0<=e+b by(clear h4 h2 h1 cancel p2 p1 k ht g f one jD ap ar le un;omega))
  have k2:=Int.mul_nonneg (show 0<=c+a by(clear k1 h4 h3 h2 cancel p2 p1 k ht g f one jD ap ar le un;omega)) (show 0<=e-b by(clear k1 h3 h2 h1 cancel p2 p1 k ht g f one jD ap ar le un;omega))
  have e3:(c-a)*(e+b)+(c+a)*(e-b)=2*(c*e) -2*(a*b):=by grind
  (clear h4 h3 h2 h1 cancel p2 p1 k ht g f one jD ap ar le un;omega)
 have Cb:∀a b c e:Int,-c<=a->a<=c-> -e<=b->b<=e-> -(c*e)<=a*b:=λa b c e h1 h2 h3 h4=>by
  have:=ab (-a) b c e (by(clear h4 h3 h1 ab cancel p2 p1 k ht g f one jD ap ar le un;omega)) (by(clear h4 h3 h2 ab cancel p2 p1 k ht g f one jD ap ar le un;omega)) h3 h4
  have e3: -a*b= -(a*b):=by grind
  (clear h4 h3 h2 h1 ab cancel p2 p1 k ht g f one jD ap ar le un;omega)
 have Ap:=h.pos
 have Bp:0<aN m y:=Int.lt_of_lt_of_le h.pos h.le
 have pl: -(aN m x)<=au m x y/\au m x y<=aN m x:=by have:=h.lo;have:=h.hi;(clear Bp Ap Cb ab cancel p2 p1 k ht g f one jD ap ar le un;omega)
 have Iu: -(aN m y)<=au m x y/\au m x y<=aN m y:=by have:=h.le;(clear Bp Ap Cb ab cancel p2 p1 k ht g f one jD ap ar le un;omega)
 have s1:=ab (aN m x) (bI m x y t') (aN m x) (ao m x y) (by(clear Iu pl Bp Cb ab cancel p2 p1 k ht g f one jD ap ar le un;omega)) (Int.le_refl _) d.s.1 d.s.2
 have s2:=Cb (aN m x) (bI m x y t') (aN m x) (ao m x y) (by(clear s1 Iu pl Bp Cb ab cancel p2 p1 k ht g f one jD ap ar le un;omega)) (Int.le_refl _) d.s.1 d.s.2
 have s3:=ab (au m x y) (bJ m x y t') (aN m x) (ao m x y) pl.1 pl.2 d.r.1 d.r.2
 have s4:=Cb (au m x y) (bJ m x y t') (aN m x) (ao m x y) pl.1 pl.2 d.r.1 d.r.2
 have r1:=ab (au m x y) (bI m x y t') (aN m y) (ao m x y) Iu.1 Iu.2 d.s.1 d.s.2
 have r2:=Cb (au m x y) (bI m x y t') (aN m y) (ao m x y) Iu.1 Iu.2 d.s.1 d.s.2
 have r3:=ab (aN m y) (bJ m x y t') (aN m y) (ao m x y) (by omega) (Int.le_refl _) d.r.1 d.r.2
 have r4:=Cb (aN m y) (bJ m x y t') (aN m y) (ao m x y) (by omega) (Int.le_refl _) d.r.1 d.r.2
 refine⟨h,le,by rw[d.det];exact un,?_,d.Np,f,⟨?_,?_⟩,?_,?_⟩
 ·have e1:3*(aN m x*aN m y)*aN m t'=3*(aN m x*aN m y*aN m t'):=by grind
  have e2:4*(aN m x*aN m y-au m x y*au m x y)*aN m t'=4*(ao m x y*aN m t'):=by show _=4*((aN m x*aN m y-au m x y*au m x y)*aN m t');grind
  (clear r4 r3 r2 r1 s4 s3 s2 s1 Iu pl Bp Ap Cb ab cancel p2 p1 ht one jD ap ar le un;omega)
 ·refine cancel (c:=0) ?_
  rw[p1]
  have e:ao m x y* -(2*aN m x)= -(2*(aN m x*ao m x y)):=by grind
  (clear r4 r3 r2 r1 s3 s1 Iu pl Bp Ap Cb ab cancel p2 p1 k ht g f one jD ap ar le un;omega)
 ·refine cancel (c:=0) ?_
  rw[p1]
  have e:ao m x y*(2*aN m x)=2*(aN m x*ao m x y):=by grind
  (clear r4 r3 r2 r1 s4 s2 Iu pl Bp Ap Cb ab cancel p2 p1 k ht g f one jD ap ar le un;omega)
 ·refine cancel (c:=0) ?_
  rw[p2]
  have e:ao m x y* -(2*aN m y)= -(2*(aN m y*ao m x y)):=by grind
  (clear r3 r1 s4 s3 s2 s1 Iu pl Bp Ap Cb ab cancel p2 p1 k ht g f one jD ap ar le un;omega)
 ·refine cancel (c:=0) ?_
  rw[p2]
  have e:ao m x y*(2*aN m y)=2*(aN m y*ao m x y):=by grind
  (clear r4 r2 s4 s3 s2 s1 Iu pl Bp Ap Cb ab cancel p2 p1 k ht g f one jD ap ar le un;omega)
theorem Iv{x y z x' y' z':Nat->Int}(hx:∀i,i<3->x i=x' i)(hy:∀i,i<3->y i=y' i)(hz:∀i,i<3->z i=z' i):bQ x y z=bQ x' y' z':=by
 unfold bQ
 rw[hx 0 (by decide),hx 1 (by decide),hx 2 (by decide),hy 0 (by decide),hy 1 (by decide),hy 2 (by decide),hz 0 (by decide),hz 1 (by decide),hz 2 (by decide)]
theorem nK(m:List (List Int)){i:Nat}(hi:i<3):aN m (pq i 1)=ent m i i:=by
 show au m _ _=_
 rw[aU]
 unfold pq
 rcases bL hi with rfl|rfl|rfl<;>simp
theorem Nr{m:List (List Int)}(ev:b8 m){a b c:Addr}{X:Addr->Nat->Int}{zs:List Addr}(h:zs.Perm [a,b,c])(so:zs.Pairwise λa b=>bE m (X a)<=bE m (X b)):
  ∃p q r,zs=[p,q,r]/\p∈ [a,b,c]/\q∈ [a,b,c]/\r∈ [a,b,c]/\(bQ (X p) (X q) (X r)=bQ (X a) (X b) (X c)∨bQ (X p) (X q) (X r)= -bQ (X a) (X b) (X c))/\aN m (X p)+aN m (X q)<=aN m (X a)+aN m (X c):=by
 match zs,h.length_eq with
 | [p,q,r],_=>
  refine⟨p,q,r,rfl,h.mem_iff.mp (by simp),h.mem_iff.mp (by simp),h.mem_iff.mp (by simp),Fo X h,?_⟩
  have e:=λd=>dg ev (X d)
  have ea:=e a
  have eb:=e b
  have ec:=e c
  simp only[List.pairwise_cons,List.mem_cons,List.not_mem_nil,or_false,forall_eq_or_imp,forall_eq]at so
  show au m _ _+au m _ _<=au m _ _+au m _ _
  rcases LR h with z|z|z|z|z|z<;>injection z with e1 z<;>injection z with e2 z<;>injection z with e3 z<;>subst e1 e2 e3<;>omega
structure gp(N:List (List Int)):Prop where
 Fp:cJ N
 ev:b8 N
 ab:bZ N=true
 pos:0<ent N 0 0
 KN:ent N 0 0<=ent N 1 1
 Nt:ent N 1 1<=ent N 2 2
 p: -(ent N 0 0)<=2*ent N 0 1/\2*ent N 0 1<=ent N 0 0
 u: -(2*ent N 0 0)<=ent N 0 2/\ent N 0 2<=2*ent N 0 0
 v: -(2*ent N 1 1)<=ent N 1 2/\ent N 1 2<=2*ent N 1 1
 few:3*(ent N 0 0*ent N 1 1*ent N 2 2)<=16*aA N
 Np:∀v:Nat->Int,v 2=1->ent N 2 2<=aN N v
 hgt:4*((ent N 0 0*ent N 1 1-ent N 0 1*ent N 0 1)*ent N 2 2)<=4*aA N+3*((ent N 0 0*ent N 1 1-ent N 0 1*ent N 0 1)*ent N 1 1)
theorem oJ(x y z:Nat->Int){j:Nat}(hj:j<3):ent (dJ x y z) 0 j=x j/\ent (dJ x y z) 1 j=y j/\ent (dJ x y z) 2 j=z j:=⟨bK _ (by decide) hj,bK _ (by decide) hj,bK _ (by decide) hj⟩
theorem Cc{m:List (List Int)}(ev:b8 m)(c:cJ m)(ab:bZ m=true){x y z:Nat->Int}(h:DT m x y z):gp (dU m (dJ x y z))/\(aA (dJ x y z)=1∨aA (dJ x y z)= -1)/\aA (dU m (dJ x y z))=aA m:=by
 have hS:=eG ev c
 have un:nG (aA (dJ x y z)):=by rw[Ff];exact h.unit
 have c3:cJ (dJ x y z):=cK _
 have e:∀i j,i<3->j<3->ent (dU m (dJ x y z)) i j=au m (λk=>ent (dJ x y z) i k) (λk=>ent (dJ x y z) j k):=λi j hi hj=>zV m _ hi hj
 have r0:∀k,k<3->ent (dJ x y z) 0 k=x k:=λk hk=>(oJ x y z hk).1
 have r1:∀k,k<3->ent (dJ x y z) 1 k=y k:=λk hk=>(oJ x y z hk).2.1
 have r2:∀k,k<3->ent (dJ x y z) 2 k=z k:=λk hk=>(oJ x y z hk).2.2
 have Og:ent (dU m (dJ x y z)) 0 0=aN m x:=(e 0 0 (by decide) (by decide)).trans (fV r0 r0)
 have PM:ent (dU m (dJ x y z)) 1 1=aN m y:=(e 1 1 (by decide) (by decide)).trans (fV r1 r1)
 have QF:ent (dU m (dJ x y z)) 2 2=aN m z:=(e 2 2 (by decide) (by decide)).trans (fV r2 r2)
 have yw:ent (dU m (dJ x y z)) 0 1=au m x y:=(e 0 1 (by decide) (by decide)).trans (fV r0 r1)
 have BX:ent (dU m (dJ x y z)) 0 2=au m x z:=(e 0 2 (by decide) (by decide)).trans (fV r0 r2)
 have BY:ent (dU m (dJ x y z)) 1 2=au m y z:=(e 1 2 (by decide) (by decide)).trans (fV r1 r2)
 have dt:=qD (m:=m) un
 refine⟨⟨(show cJ (iN (iN (dJ x y z) m) (cR (dJ x y z)))from cK _),xr ev c c3,uO hS ab c3 un,?_,?_,?_,?_,?_,?_,?_,?_,?_⟩,un,dt⟩
 ·rw[Og];exact h.pair.pos
 ·rw[Og,PM];exact h.pair.le
 ·rw[PM,QF];exact h.le
 ·rw[Og,yw];exact⟨h.pair.lo,h.pair.hi⟩
 ·rw[Og,BX];exact h.u
 ·rw[PM,BY];exact h.v
 ·rw[Og,PM,QF,dt];exact h.few
 ·intro v hv
  have c:=h.Np (-v 0) (-v 1)
  rw[QF]
  refine Int.le_trans c (Int.le_of_eq ?_)
  rw[show aN (dU m (dJ x y z)) v=aN m (eF v (dJ x y z))from q8 m (dJ x y z) v v]
  refine fV (λi hi=> ?_) (λi hi=> ?_)<;>
  ·show z i- -v 0*x i- -v 1*y i=v 0*ent (dJ x y z) 0 i+v 1*ent (dJ x y z) 1 i+v 2*ent (dJ x y z) 2 i
   rw[r0 i hi,r1 i hi,r2 i hi,hv]
   grind
 ·rw[Og,PM,QF,yw,dt];exact h.hgt
theorem Iw{m:List (List Int)}{x y z:Nat->Int}(h:DT m x y z):3*aN m x<=16*aA m/\3*aN m y<=16*aA m/\3*aN m z<=16*aA m:=by
 have p:=h.pair.pos
 have q:=h.pair.le
 have r:=h.le
 have f:=h.few
 have k1:aN m y<=aN m x*aN m y:=by
  have:=Int.mul_le_mul_of_nonneg_right (show 1<=aN m x by omega) (show 0<=aN m y by omega)
  (clear f r q p;omega)
 have k2:1*aN m z<=aN m x*aN m y*aN m z:=Int.mul_le_mul_of_nonneg_right (by(clear f r;omega)) (by omega)
 (clear k1 p;omega)
end L2
namespace yo
open PySem PyProof.Rows
section
variable{prog:Program}{w:World}{A:Around}{E:Value->Shared->Prop}{s:Shared}{κ:SortKind}{K:Keyed->Int}{D:Keyed->Prop}{st:SortSt}
theorem KO(hL:qE prog w A E s κ K D){Q:Unit->SortSt->Prop}(B:SB κ D st)(hp:pendingOf st= #[])(h64:(arrOf st).size<64)
  (hq:∀st',(arrOf st').Perm (arrOf st) ->failedOf st'=none->So K (arrOf st') 0 (arrOf st).size->Q () st'):wpS (model prog w) A E s sortRuns' Q st:=by
 rw[Ib]
 refine wpS_bind (wpS_get ?_)
 dsimp only
 have mr:minRun' (arrOf st).size (arrOf st).size 0=(arrOf st).size:=by
  cases h:(arrOf st).size with
  |zero=>rfl
  |succ k=>
   rw[minRun'_succ,if_pos (by omega)]
 rw[mr]
 refine wpS_bind (wpS_mono (wpS_forRange (I:=λx c s1=>(x=0/\c=(none,0)/\s1=st)∨(c=(none,(arrOf st).size)/\(arrOf s1).Perm (arrOf st)/\failedOf s1=none/\So K (arrOf s1) 0 (arrOf st).size/\(pendingOf s1).size=1))
  (Q:=λc s1=>c=(none,(arrOf st).size)/\(arrOf s1).Perm (arrOf st)/\failedOf s1=none/\So K (arrOf s1) 0 (arrOf st).size/\(pendingOf s1).size<=1) ?_ ?_ (.inl ⟨rfl,rfl,rfl⟩)) ?_)
 ·rintro x c s1 _ hx (⟨rfl,rfl,rfl⟩|⟨rfl,h⟩)
  ·dsimp only
   refine j9 (λc=>by omega) (λ_=> ?_)
   refine wpS_bind (w_count hL B (by omega) (by omega) λn s2 S2 n1 n2 Of=> ?_)
   dsimp only
   have PD:=S2.size
   have note:∀s3:SortSt,SC 0 s1 s3->So K (arrOf s3) 0 (arrOf s1).size-> ∀m,m=(arrOf s1).size-> ∀Q:ForInStep (Option Unit×Nat) ->SortSt->Prop,(∀s5,(arrOf s5).Perm (arrOf s1) ->failedOf s5=none->So K (arrOf s5) 0 (arrOf s1).size->(pendingOf s5).size=1->Q (.yield (none,(arrOf s1).size)) s5) ->wpS (model prog w) A E s (do
     modify λy=>setPending y ((pendingOf y).push (0,m,0))
     pure (ForInStep.yield ((none,0+m):Option Unit×Nat))) Q s3:=λs3 S3 Gu m em Q hQ=>by
    subst em
    rw[Nat.zero_add]
    refine wpS_bind (wpS_modify (wpS_pure (hQ _ S3.perm (S3.failed.trans B.failed) Gu ?_)))
    show((pendingOf s3).push _).size=1
    rw[S3.pend,hp]
    rfl
   by_cases hm:n<(arrOf s1).size
   ·rw[if_pos hm]
    refine wpS_bind (wpS_lift (wpAny_rule ⟨rfl,?_⟩))
    refine wpS_bind (LQ hL (B.sc S2) (by omega) (by(clear hm note n2 n1 hx hq h64 hp;omega)) Of λs3 S3 Gu=> ?_)
    simp only[Bool.not_true,Bool.false_eq_true,if_false]
    refine wpS_bind (wpS_get ?_)
    rw[(S2.trans S3).pend,hp]
    have em:min ((arrOf s1).size-0) (arrOf s1).size=(arrOf s1).size:=by omega
    rw[em]at Gu
    exact note s3 (S2.trans S3) Gu _ em _ λs5 p f o q=> .inr ⟨rfl,p,f,o,q⟩
   ·rw[if_neg hm]
    have en:n=(arrOf s1).size:=by omega
    rw[en]at Of
    refine wpS_bind (wpS_get ?_)
    rw[S2.pend,hp]
    exact note s2 S2 Of _ en _ λs5 p f o q=> .inr ⟨rfl,p,f,o,q⟩
  ·dsimp only
   exact j9 (λ_=>wpS_pure ⟨rfl,h.1,h.2.1,h.2.2.1,Nat.le_of_eq h.2.2.2⟩) (λc=>absurd (Nat.le_refl _) c)
 ·rintro c s1 (⟨h0,rfl,rfl⟩|⟨rfl,h⟩)
  ·have z:(arrOf s1).size=0:=by omega
   rw[z]
   exact⟨rfl,Array.Perm.refl _,B.failed,λi j _ h=>absurd h (Nat.not_lt_zero _),by rw[hp];decide⟩
  ·exact⟨rfl,h.1,h.2.1,h.2.2.1,Nat.le_of_eq h.2.2.2⟩
 ·rintro c s1 ⟨rfl,h1,h2,h3,h4⟩
  dsimp only
  refine wpS_bind (wpS_mono (wpS_forRange (I:=λ_ c s2=>c=(none,())/\s2=s1) (Q:=λc s2=>c=(none,())/\s2=s1) ?_ (λ_ _ h=>h) ⟨rfl,rfl⟩) ?_)
  ·rintro x c s2 _ hx ⟨rfl,rfl⟩
   refine wpS_bind (wpS_get ?_)
   exact j9 (λc=>wpS_pure ⟨rfl,rfl⟩) (λc=>absurd h4 c)
  ·rintro c s2 ⟨rfl,rfl⟩
   exact wpS_pure (hq _ h1 h2 h3)
end
end yo
namespace L2
open PySem PySem.Spec PyProof.Rows PySem.Calls yo
section
variable{prog:Program}{w:World}{A:Around}{E:Value->Shared->Prop}{s:Shared}
theorem KP{a kS:Addr}{P:PySem.Fin->Shared->Prop}{kf:V->Int}{ys:List V}{us:List Value}{keys:Array Value}{e1 e:Nat}(hk:qI kf ys us keys.toList)(hn:kS≠a)(hz:us.length<=sizeLine)(h64:us.length<64)
  (ha:s.heap.get? a=some (seqObj "list" #[] e1))(hS:s.heap.get? kS=some (seqObj "list" keys e))
  (h:∀(zs:List V)(out:List Value) h' tk,zs.Perm ys->zs.Pairwise (λx y=>kf x<=kf y) ->Vals zs out->out.length=us.length->(∀b o,b≠a->b≠kS->s.heap.get? b=some o->h'.get? b=some o) ->(∃c,h'.get? a=some (seqObj "list" out.toArray c)) ->(∃o,h'.get? kS=some o) ->
   P (.done (.ret .none)) {s with heap:=h',toks:=tk}):wpAny (model prog w) A (ksk_end a false us.toArray e1 (.ref kS) keys) P E s:=by
 have kl:keys.toList.length=us.length:=by
  have:∀{ys:List V}{us ks:List Value},qI kf ys us ks->ks.length=us.length:=λh=>by
   induction h with
   |nil=>rfl
   |cons t r _ ih=>simp[ih]
  exact this hk
 have kz:keys.size=us.length:=by rw[<-kl];exact(Array.length_toList ..).symm
 have Uk:(keys.zip us.toArray).size=us.length:=by rw[Array.size_zip,kz,List.size_toArray,Nat.min_self]
 have zl:(keys.zip us.toArray).toList=keys.toList.zip us:=ksk_zip keys us
 have tail:∀st:SortSt,(arrOf st).Perm (keys.zip us.toArray) ->failedOf st=none->So (λp=>numOf p.1) (arrOf st) 0 us.length->wpAny (model prog w) A (ksk_tail a false e1 (.ref kS) st) P E s:=by
  intro st hp hf hs
  have pl:(arrOf st).toList.Perm (keys.toList.zip us):=by rw[<-zl];exact Array.perm_iff_toList_perm.mp hp
  obtain⟨tr,t1,t2,t3⟩:=hk.out
  obtain⟨QG,p',e'⟩:=xy pl tr t1
  have len:(arrOf st).toList.length=us.length:=by rw[pl.length_eq,List.length_zip,kl,Nat.min_self]
  have oz:((arrOf st).map (·.2)).size=us.length:=by rw[Array.size_map,<-len,Array.length_toList]
  have oe:((arrOf st).map (·.2)).toList=QG.map λt=>t.1.2:=by
   rw[Array.toList_map,e',List.map_map]
   rfl
  unfold ksk_tail
  try dsimp only
  generalize(arrOf st).map (·.2)=ov at oz oe ⊢
  refine wpAny_bind (listUpdate_at hS rfl ?_ (by omega) (Nat.zero_le _))
  refine wpAny_bind (wpAny_letGo ?_)
  have Ul:=Heap.SameBut.update s.heap kS (Obj.mapSeq λ_=>(#[]:Array Value))
  have ha1:(s.heap.update kS (Obj.mapSeq λ_=>(#[]:Array Value))).get? a=some (seqObj "list" #[] e1):=(Ul.2 a hn.symm).trans ha
  have Qq:=Heap.SameBut.update (s.heap.update kS (Obj.mapSeq λ_=>(#[]:Array Value))) a (Obj.mapSeq λ_=>ov)
  refine wpAny_bind (seqEpoch_at ha1 rfl ?_)
  refine wpAny_bind (listUpdate_at ha1 rfl ?_ (Nat.zero_le _) (Nat.le_trans (Nat.le_of_eq oz) (Nat.le_succ_of_le hz)))
  rw[hf]
  simp only[bne_self_eq_false,Bool.false_eq_true,if_false]
  refine wpAny_pure (h (QG.map Prod.snd) (QG.map λt=>t.1.2) _ _ (by rw[t2];exact p'.map _) ?_ ?_ ?_ (λb o h1 h2 q=> ?_) ?_ ?_)
  ·have h2:=(rq (K:=λp=>numOf p.1) (a:=arrOf st) (lo:=0) (n:=us.length) (by rw[Nat.zero_add,<-len,Array.length_toList];exact Nat.le_refl _)).mp hs
   have e2:sl (arrOf st) 0 us.length=(arrOf st).toList:=by
    show((arrOf st).toList.drop 0).take us.length=_
    rw[List.drop_zero,List.take_of_length_le (by omega)]
   rw[e2,e',List.pairwise_map]at h2
   rw[List.pairwise_map]
   refine h2.imp_of_mem λ {x y} mx my q=> ?_
   obtain⟨_,k1,q1⟩:=t3 x (p'.mem_iff.mp mx)
   obtain⟨_,k2,q2⟩:=t3 y (p'.mem_iff.mp my)
   rw[q1,q2]at q
   exact q
  ·have:∀l:List (Keyed×V),(∀t∈l,RelV t.2 t.1.2) ->Vals (l.map Prod.snd) (l.map λt=>t.1.2):=λl=>by
    induction l with
    |nil=>intro _;exact .nil
    |cons t l ih=>intro hl;exact .cons (hl t List.mem_cons_self) (ih λz hz=>hl z (List.mem_cons_of_mem _ hz))
   exact this QG λt ht=>(t3 t (p'.mem_iff.mp ht)).1
  ·rw[<-oe,<-oz,Array.length_toList]
  ·exact(Qq.2 b h1).trans ((Ul.2 b h2).trans q)
  ·rw[<-oe,Array.toArray_toList]
   exact⟨_,get?_update_seq ha1 λ_=>ov⟩
  ·exact⟨_,(Qq.2 kS hn).trans (get?_update_seq hS λ_=> #[])⟩
 unfold ksk_end
 try dsimp only
 simp only[Bool.false_eq_true,if_false]
 by_cases h2:us.toArray.size<2
 ·rw[if_pos h2,if_pos h2]
  refine wpAny_bind (wpAny_pure ?_)
  rw[StateT.run_pure]
  refine wpAny_bind (wpAny_pure ?_)
  try dsimp only
  refine tail (SortSt.mk' general' (keys.zip us.toArray) #[] 7 none) (Array.Perm.refl _) rfl (λi j hij hj=> ?_)
  rw[List.size_toArray]at h2
  have:i=j:=by omega
  subst this
  exact Int.le_refl _
 ·rw[if_neg h2,if_neg h2]
  rw[List.size_toArray]at h2
  rw[ksk_kind hk.ints (by omega)]
  refine wpAny_bind (wpAny_pure ?_)
  have R:yo.SB oneType' (λp=> ∃n t,p.1= .int n t) (SortSt.mk' oneType' (keys.zip us.toArray) #[] 7 none):=by
   refine⟨rfl,rfl,λp hp=> ?_⟩
   have fJ:p∈(keys.zip us.toArray).toList:=hp
   rw[zl]at fJ
   exact hk.ints.all p.1 (List.of_mem_zip (a:=p.1) (b:=p.2) fJ).1
  refine wpAny_bind (wpAny_mono (KO Fb (Q:=λ_ st'=>(arrOf st').Perm (keys.zip us.toArray)/\failedOf st'=none/\So (λp=>numOf p.1) (arrOf st') 0 (keys.zip us.toArray).size) R rfl (show(keys.zip us.toArray).size<64 by rw[Uk];exact h64) λst' a1 a2 a3=>⟨a1,a2,a3⟩) ?_ λ_ _ e=>e)
  rintro⟨⟨⟩,st'⟩ s' ⟨rfl,hp,hf,hs⟩
  rw[Uk]at hs
  try dsimp only
  exact tail st' hp hf hs
end
section
variable{X:Cx}{pins:List (Addr×Obj)}{σ:St}{H:Hp}{s:Shared}{B:Around}{a:Addr}{f:Value}{kf:V->Int}{ys:List V}{us:List Value}
theorem Fq(I:Inv X pins σ H s)(fa:fS X pins H a){n:Nat}(ha:s.heap.get? a=some (seqObj "list" us.toArray n))(r:Vals ys us)(hz:us.length<=sizeLine)(h64:us.length<64){E:Value->Shared->Prop}{P:PySem.Fin->Shared->Prop}
  (turn:∀(qk:List (Addr×Obj))(v:V)(Hi:Hp)(u:Value)(si:Shared),v∈ys->az H Hi->RelV v u->Inv X qk σ Hi si->wpAny (model X.prog X.w) B (call f [u]) (EP X qk σ (λv' H'=>v'= .int (kf v)/\az Hi H')) (λ_ _=>False) si)
  (done:∀(Hn:Hp)(s':Shared)(zs:List V),Inv X pins σ (upd Hn a (.lst zs)) s'->az H Hn->Hn a=none->zs.Perm ys->zs.Pairwise (λx y=>kf x<=kf y) ->P (.done (.ret .none)) s'):
  wpAny (model X.prog X.w) B (ksk_tree a f false) P E s:=by
 have rl:=r.length
 unfold ksk_tree
 refine wpAny_bind (listItems_at ha rfl ?_)
 refine wpAny_bind (listUpdate_at ha rfl ?_ (by simpa using hz) (Nat.zero_le _))
 obtain⟨e1,ha1⟩:∃e1,(s.heap.update a (Obj.mapSeq λ_=> #[])).get? a=some (seqObj "list" #[] e1):=⟨_,get?_update_seq ha (λ_=> #[])⟩
 refine wpAny_bind (seqEpoch_at ha1 rfl ?_)
 refine wpAny_bind (wpAny_newTuple ?_ (by simpa using hz))
 refine wpAny_bind (wpAny_newList ?_ (Nat.zero_le _))
 refine wpAny_holding ?_
 have I1:Inv X pins σ H {s with heap:=s.heap.update a (Obj.mapSeq λ_=> #[])}:=I.qC (ch:=[a]) (t':=s.toks) (λb o hb e=>(Heap.get?_update_ne _ _ _ _ (by simpa using hb)).trans e) (λb hb=>by rw[List.mem_singleton.mp hb];exact fa)
 have I2:Inv X pins σ H {s with heap:=((s.heap.update a (Obj.mapSeq λ_=> #[])).push (seqObj "tuple" us.toArray 0))}:=I1.kept (t':=s.toks) λb o e=>Heap.get?_push_of_some _ e
 have I3:Inv X pins σ H {s with heap:=((s.heap.update a (Obj.mapSeq λ_=> #[])).push (seqObj "tuple" us.toArray 0)).push (seqObj "list" #[] 0)}:=I2.kept (t':=s.toks) λb o e=>Heap.get?_push_of_some _ e
 have fk:fS X pins H ((s.heap.update a (Obj.mapSeq λ_=> #[])).push (seqObj "tuple" us.toArray 0)).objs.size:=I2.Eu (Nat.le_refl _) I2.fresh
 have Um:(((s.heap.update a (Obj.mapSeq λ_=> #[])).push (seqObj "tuple" us.toArray 0)).push (seqObj "list" #[] 0)).get? a=some (seqObj "list" #[] e1):=Heap.get?_push_of_some _ (Heap.get?_push_of_some _ ha1)
 have Ds:(((s.heap.update a (Obj.mapSeq λ_=> #[])).push (seqObj "tuple" us.toArray 0)).push (seqObj "list" #[] 0)).get? ((s.heap.update a (Obj.mapSeq λ_=> #[])).push (seqObj "tuple" us.toArray 0)).objs.size=some (seqObj "list" #[] 0):=Heap.get?_push_size _ rfl
 have Sm:((s.heap.update a (Obj.mapSeq λ_=> #[])).push (seqObj "tuple" us.toArray 0)).objs.size≠a:=by
  have:=Heap.lt_size ha
  rw[size_push',Heap.size_update]
  exact Nat.ne_of_gt (Nat.lt_succ_of_lt this)
 generalize((s.heap.update a (Obj.mapSeq λ_=> #[])).push (seqObj "tuple" us.toArray 0)).objs.size=kS at fk Ds Sm ⊢
 generalize((s.heap.update a (Obj.mapSeq λ_=> #[])).push (seqObj "tuple" us.toArray 0)).push (seqObj "list" #[] 0)=h3 at I3 Um Ds ⊢
 show wpAny _ B (ksk_rest a f false us.toArray e1 (.ref kS)) P E {s with heap:=h3}
 have nc:∀(xs:Array Value)(m:Nat)(v:Option Value),(seqObj "list" xs m).data≠ .cell v:=λxs m v z=>nomatch z
 have I4:Inv X (DO pins a e1 kS #[] 0) σ H {s with heap:=h3}:=I3.jq λp hp=>by
  rcases List.mem_append.mp hp with hp|hp
  ·exact I3.pin p (List.mem_append_right _ hp)
  ·rcases List.mem_cons.mp hp with rfl|hp
   ·exact yv fa Um (nc _ _)
   ·rw[List.mem_singleton.mp hp]
    exact yv fk Ds (nc _ _)
 unfold ksk_rest
 refine wpAny_bind (wpAny_rule ?_)
 first
  |rw[List.forIn_toArray]
  |(rw[<-Array.forIn_toList];simp only[List.toList_toArray])
 refine wpAny_bind (ksk_fold (λi s'=> ∃Hi ks e,Inv X (DO pins a e1 kS ks e) σ Hi s'/\az H Hi/\qI kf (ys.take i) (us.take i) ks.toList) us 0 {s with heap:=h3} ⟨H, #[],0,I4,az.refl _,by simpa using qI.nil⟩ ?_ ?_)
 ·rintro j x s' hx ⟨Hi,ks,e,J,sm,hk⟩
  simp only[Nat.zero_add]at hk ⊢
  obtain⟨v,hv,rv⟩:=Vals.at r hx
  have hj:j<us.length:=(List.getElem?_eq_some_iff.mp hx).1
  refine wpAny_bind (wpAny_attempt (wpAny_mono (turn _ v Hi x s' (List.mem_of_getElem? hv) sm rv J) (λu s2 he=> ?_) λ_ _ hF=>hF.elim))
  obtain⟨v',H',J',ru,rfl,VQ⟩:=he
  obtain⟨t,rfl⟩:∃t,u= .int (kf v) t:=ru
  have pa:=J'.pin (a,seqObj "list" #[] e1) (by simp)
  have pk:=J'.pin (kS,seqObj "list" ks e) (by simp)
  have kl:ks.size=j:=by
   have h1:=hk.ints.length
   rw[Array.length_toList,List.length_map,List.length_take,rl]at h1
   omega
  try dsimp only
  refine wpAny_bind (listUpdate_at pk.1 rfl ?_ (by omega) (Nat.le_trans (Nat.le_of_eq (Array.size_push ..)) (by omega)))
  obtain⟨c2,hc2⟩:∃c2,(s2.heap.update kS (Obj.mapSeq (·.push (.int (kf v) t)))).get? kS=some (seqObj "list" (ks.push (.int (kf v) t)) c2):=⟨_,get?_update_seq pk.1 (·.push (.int (kf v) t))⟩
  have ya:ys.take (j+1)=ys.take j++ [v]:=by rw[List.take_add_one,hv];simp
  have ua:us.take (j+1)=us.take j++ [x]:=by rw[List.take_add_one,hx];simp
  have ea:(ks.push (Value.int (kf v) t)).toList=ks.toList++ [Value.int (kf v) t]:=by simp
  have J1:Inv X pins σ H' s2:=J'.jq λp hp=>J'.pin p (List.mem_append_right _ (List.mem_append_left _ hp))
  have J2:Inv X pins σ H' {s2 with heap:=s2.heap.update kS (Obj.mapSeq (·.push (.int (kf v) t)))}:=J1.qC (ch:=[kS]) (t':=s2.toks) (λb o hb e=>(Heap.get?_update_ne _ _ _ _ (by simpa using hb)).trans e) (λb hb=>by rw[List.mem_singleton.mp hb];exact xA fk pk.2.1)
  refine wpAny_pure ⟨rfl,H',ks.push (.int (kf v) t),c2,J2.jq λp hp=> ?_,sm.trans VQ,by rw[ya,ua,ea];exact hk.snoc t rv⟩
  rcases List.mem_append.mp hp with hp|hp
  ·exact J2.pin p (List.mem_append_right _ hp)
  ·rcases List.mem_cons.mp hp with rfl|hp
   ·exact yv (xA fa pa.2.1) ((Heap.get?_update_ne _ _ _ _ Sm.symm).trans pa.1) (nc _ _)
   ·rw[List.mem_singleton.mp hp]
    exact yv (xA fk pk.2.1) hc2 (nc _ _)
 ·rintro s' ⟨Hi,ks,e,J,sm,hk⟩
  rw[Nat.zero_add,List.take_of_length_le (Nat.le_of_eq rl),List.take_of_length_le (Nat.le_refl _)]at hk
  have pa:=J.pin (a,seqObj "list" #[] e1) (by simp)
  have pk:=J.pin (kS,seqObj "list" ks e) (by simp)
  have J1:Inv X pins σ Hi s':=J.jq λp hp=>J.pin p (List.mem_append_right _ (List.mem_append_left _ hp))
  try dsimp only
  refine wpAny_bind (listItems_at pk.1 rfl ?_)
  refine KP hk Sm hz h64 pa.1 pk.1 λzs out h' tk pz so vo ol keep hA hS=> ?_
  have J2:Inv X pins σ Hi {s' with heap:=h',toks:=tk}:=J1.qC (ch:=[a,kS]) (t':=tk) (λb o hb e=>keep b o (λz=>hb (by simp[z])) (λz=>hb (by simp[z])) e) (λb hb=>by
   rcases List.mem_cons.mp hb with rfl|hb
   ·exact xA fa pa.2.1
   ·rw[List.mem_singleton.mp hb];exact xA fk pk.2.1)
  obtain⟨c,hc⟩:=hA
  exact done Hi _ zs (J2.LO (xA fa pa.2.1) ⟨by rw[vo.length,ol];exact hz,out,c,vo,hc⟩) sm pa.2.1 pz so
theorem Ab{l:Addr}{fa:Addr}(I:Inv X pins σ H s)(hq:aW X.K H l ys)(h64:ys.length<64){Q:VK}
  (turn:∀(qk:List (Addr×Obj))(v:V)(Hi:Hp)(u:Value)(si:Shared),v∈ys->az H Hi->RelV v u->Inv X qk σ Hi si->wpAny (model X.prog X.w) X.A.in1.in1 (call (.ref fa) [u]) (EP X qk σ (λv' H'=>v'= .int (kf v)/\az Hi H')) (λ_ _=>False) si)
  (done:∀(Hn:Hp)(zs:List V),az H Hn->zs.Perm ys->zs.Pairwise (λx y=>kf x<=kf y) -> ∀p,Hn p=none->Q (.ref p) (upd Hn p (.lst zs))):
  wpAny (model X.prog X.w) X.A (call (.builtin "sorted") [.ref l] [(Str.ofString "key",.ref fa)]) (EP X pins σ Q) X.xe s:=by
 obtain⟨us,r,pl,hz⟩:=I.list hq
 have hz':us.length<=sizeLine:=by rw[<-r.length];exact hz
 refine call_function_entry_kw kind_sorted plain_sorted entry_sorted (ksk_s1 _ _) ?_
 unfold Builtin.«sorted»
 refine wpAny_bind (m:=checkCount "sorted" 1 1 _) (wpAny_pure ?_)
 refine wpAny_bind (collect_list pl.isList ?_ hz')
 refine wpAny_bind (wpAny_newList ?_ (by simpa using hz'))
 have z1:((s.heap.push (seqObj "list" #[] 0)).update s.heap.objs.size (Obj.mapSeq (· ++us.toArray))).objs.size=s.heap.objs.size+1:=by
  rw[Heap.size_update,size_push']
 generalize hg:((s.heap.push (seqObj "list" #[] 0)).update s.heap.objs.size (Obj.mapSeq (· ++us.toArray)))=h1 at z1
 have keep:∀b o,s.heap.get? b=some o->(h1.push (seqObj "list" us.toArray 0)).get? b=some o:=λb o e=>by
  have lb:=Heap.lt_size e
  refine Heap.get?_push_of_some _ ?_
  rw[<-hg,Heap.get?_update_ne _ _ _ _ (Nat.ne_of_lt lb)]
  exact Heap.get?_push_of_some _ e
 have Mj:(h1.push (seqObj "list" us.toArray 0)).get? (s.heap.objs.size+1)=some (seqObj "list" us.toArray 0):=by
  rw[<-z1];exact Heap.get?_push_size _ rfl
 have I1:Inv X pins σ H {s with heap:=h1.push (seqObj "list" us.toArray 0)}:=I.kept (t':=s.toks) keep
 have VR:fS X pins H (s.heap.objs.size+1):=I.Eu (Nat.le_succ _) (I.hok.fresh (Nat.le_succ _))
 show wpAny _ _ _ _ _ {s with heap:=h1.push (seqObj "list" us.toArray 0)}
 rw[z1]
 refine wpAny_bind (wpAny_holding (wpAny_call_entry_kw slot_list_sort ⟨_,Mj,rfl⟩ entry_list_sort ?_ (ksk_l1 _ _)))
 show wpAny (model X.prog X.w) X.A.in1.in1 (Builtin.«list.sort» ⟨[.ref (s.heap.objs.size+1)],[(Str.ofString "key",.ref fa)]⟩) _ _ _
 rw[ksk_t1]
 refine Fq I1 VR Mj r hz' (by rw[<-r.length];exact h64) turn λHn s' zs J sm hn pz so=>⟨_,rfl,?_⟩
 exact wpAny_pure ⟨_,rfl,.ref (s.heap.objs.size+1),_,J,rfl,done Hn zs sm pz so _ hn⟩
end
noncomputable def DU(tb:TE)(K:PySem.W.Frag)(P:Addr)(σ:St)(x:V)(H1:Hp)(Q:VK):Prop:=∃(l:Addr)(ys:List V)(kf:V->Int),x= .ref l/\aW K H1 l ys/\ys.length<64/\H1 P=some .zu/\
 (∀v∈ys,∀Hi,az H1 Hi->tb (some v::σ) Hi λv' H'=>v'= .int (kf v)/\az Hi H')/\
 ∀(Hn:Hp)(zs:List V),az H1 Hn->zs.Perm ys->zs.Pairwise (λx y=>kf x<=kf y) -> ∀p,Hn p=none->Q (.ref p) (upd Hn p (.lst zs))
noncomputable def KQ(tb:TE)(K:PySem.W.Frag)(P:Addr)(te:TE):TE:=λσ H Q=>te σ H λx H1=>DU tb K P σ x H1 Q
section
variable{X:Cx}{P:Addr}{te tb:TE}{e body:Expr}{args:Arguments}{sc:Scope}{x:Str}{N2:List Str}{p pos Ii kpos:Pos}
theorem Ft(hc:X.calm=true){k:Nat}(hr:fE (k+3) X.A)(cd:gf X.K X.env.code P)(bm:BM X.mg X.base)(Ht:Gl X "sorted")(hm:X.mg "sorted"=none)(he:PE X e te)(hB:PF sc X.env.scope.names [x] N2 X.N=true)
  (hbind:∀qual cl pm c ctv u,bindArgs (PySem.W.kla_fn "<lambda>" qual args body sc cl pm c ctv) ⟨[u],[]⟩=pure [(x,u)])
  (hbody:∀q f cd s H,PE (X.lam X.A.in1.in1 sc ([x]++N2) q f cd s H) body tb)
  (hdef:defaultsOf args X.env=([],[]):=by rfl)
  (hkw:keywordEach [⟨some "key",.Lambda args body sc Ii,kpos⟩] X.env=[(some (Str.ofString "key"),eval (.Lambda args body sc Ii) X.env)]:=by rfl)
  (hse:starEach [e] X.env=(false,eval e X.env)::starEach [] X.env:=by rfl)(hst:backTo pos (starEach [e] X.env)=(false,eval e X.env)::backTo pos (starEach [] X.env):=by rfl)
  (hpl:(backTo pos (starEach [e] X.env)).any (·.1)=false:=by rfl):PE X (.Call (.Name "sorted" p) [e] [⟨some "key",.Lambda args body sc Ii,kpos⟩] pos) (KQ tb X.K P te):=by
 intro pins s σ H Q I h
 unfold PF at hB
 simp only[Bool.and_eq_true]at hB
 obtain⟨⟨⟨⟨⟨h1,h2⟩,h3⟩,h4⟩,h5⟩,h6⟩:=hB
 have Bk:=kq h1
 have nc:∀y∈sc.names,y.2≠ .cell:=λy hy=>by
  have q:=List.all_eq_true.mp h5 y hy
  simpa using q
 have hx:sc.names.lookup x=some .local:=by
  have q:=List.all_eq_true.mp h6 x (by simp)
  simpa using q
 refine wpAny_Call_Name_kw (lO I Ht hm PyProof.Rows.boot_sorted ?_)
 refine PyProof.Rows.callWith_kw (fR ((af he ak hse) pos pins s σ H (λvs H1=>match vs with| [v]=>DU tb X.K P σ v H1 Q|_=>False) I h) λus s1 ⟨vs,H1,I1,r,q⟩=> ?_) hst hpl
 match vs,r,q with
 | [v],r,q=>
  obtain⟨l,ys,kf,rfl,hq,h64,hP,step,fin⟩:=q
  obtain⟨u,rfl,ru⟩:=vals1 r
  cases ru
  show wpAny _ _ (evalAll [do let v<-eval (.Lambda args body sc Ii) X.env;standAt pos;pure v]) _ _ s1
  refine wpAny_evalAll_cons (wpAny_bind (EZ I1 cd hP bm Bk hdef λf H2 s2 I2 sm fr L=>wpAny_bind (wpAny_standAt (wpAny_pure (wpAny_evalAll_nil ?_)))))
  refine Ab (kf:=kf) I2 (Ih hq sm) h64 (λqk v Hi u si hv Uo rv J=> ?_) λHn zs VS pz so=>fin Hn zs (sm.trans VS) pz so
  exact KG J (L.same Uo) Bk (by simpa using h2) (by simpa using h3) (by simpa using h4) nc hx hbind J.ok.frames (J.ok.hd hc) hr.depth (λq cd=>hbody q f cd si Hi) rv (step v hv Hi (sm.trans Uo))
end
end L2
namespace L2
open PySem PySem.Spec PyProof.Rows
section
variable{M:Model}{A:Around}{E:Value->Shared->Prop}{s:Shared}{base:Heap}{env:Env}{outer:List Env}{L e:Addr}{cls a0:Value}
end
section
variable{P:Program}{w:World}{K:PySem.W.Frag}{mg:Str->Option Value}{base:Heap}{N:List Str}{qual:Str}{scope:Scope}{f:Addr}{cd:Value}{A:Around}{outer:List Env}{s:Shared}{H:Hp}{E:XK}
end
section
variable{X:Cx}{pins:List (Addr×Obj)}{σ:St}{H:Hp}{s:Shared}
noncomputable def Ends.behind(D:Ends)(i:Nat):Ends:={nx:=λσ H=>D.nx (σ.set i none) H,rt:=D.rt,bk:=λσ H=>D.bk (σ.set i none) H,ct:=λσ H=>D.ct (σ.set i none) H}
end
end L2
namespace L2
open PySem PySem.Spec PyProof.Rows PySem.W Builtin Builtin.ObjectAttr Builtin.Getset_descriptor
section
variable{K:Frag}{x D:Addr}
end
end L2
namespace L2
open PySem PySem.Spec PyProof.Rows
section
variable{P:Program}{w:World}{K:PySem.W.Frag}{mg:Str->Option Value}{base:Heap}
end
section
variable{X:Cx}{pins:List (Addr×Obj)}{σ:St}{H:Hp}{s:Shared}
end
section
variable{X:Cx}
end
structure dM(P:Program)(w:World)(K:PySem.W.Frag)(mg:Str->Option Value)(base:Heap)(C:EB)(k:Nat)(x:Str)(ps:List Str)(sp:Sp):Prop where
 ex:∃f fd,qp P w K mg base C k f fd ps sp/\Binds K fd ps []/\PySem.W.keepIn K (.ref f)=true/\mg x=some (.ref f)
structure fP(K:PySem.W.Frag)(mg:Str->Option Value)(x:Str)(st:Stmt)(ps:List Str):Prop where
 ex:∃f fd,LG K x x st f fd/\Binds K fd ps []/\mg x=some (.ref f)
structure qK(K:PySem.W.Frag)(mg:Str->Option Value)(x:Str)(st:Stmt)(ps:List Str)(T:Addr):Prop where
 ex:∃f fd,EM K x x st f fd T/\Binds K fd ps []/\mg x=some (.ref f)
section
variable{P:Program}{w:World}{K:PySem.W.Frag}{mg:Str->Option Value}{base:Heap}{C:EB}{x:Str}{st:Stmt}{N ps:List Str}{j k:Nat}{sp:Sp}{T:Addr}
theorem dM.mono(F:dM P w K mg base C j x ps sp)(h:j<=k:=by decide):dM P w K mg base C k x ps sp:=by
 obtain⟨f,fd,a,b⟩:=F.ex
 exact⟨f,fd,a.mono h,b⟩
theorem fP.ok(F:fP K mg x st ps)(S:aO N ps (aB st))(len:∀vs H Q E,sp vs H Q E->vs.length=ps.length)
  (hbody:∀f (cdv:Value) (A:Around) (outer:List Env) (s:Shared) (H:Hp) (vs:List V) (Q:VK) (E:XK),fE k (A.deeper (envOfC x (aB st) s.heap.objs.size f cdv)) ->sp vs H Q E->
   ∃t,xR (xV cY P w K mg base N x (aB st) f cdv A outer s H E).Gq (eZ st) t/\t {nx:=λ_ H'=>Q .iW H',rt:=Q} (start N vs) H):dM P w K mg base cY (k+1) x ps sp:=by
 obtain⟨f,fd,a,b,m⟩:=F.ex
 exact⟨f,fd,a.ok S len (hbody f),b,a.kp,m⟩
theorem qK.ok(F:qK K mg x st ps T)(S:aO N ps (aB st))(len:∀vs H Q E,sp vs H Q E->vs.length=ps.length)
  (hbody:∀f (cdv:Value) (A:Around) (outer:List Env) (s:Shared) (H:Hp) (vs:List V) (Q:VK) (E:XK),gf K cdv T->fE k (A.deeper (envOfC x (aB st) s.heap.objs.size f cdv)) ->sp vs H Q E->
   ∃t,xR (xV cY P w K mg base N x (aB st) f cdv A outer s H E).Gq (eZ st) t/\t {nx:=λ_ H'=>Q .iW H',rt:=Q} (start N vs) H):dM P w K mg base cY (k+1) x ps sp:=by
 obtain⟨f,fd,a,b,m⟩:=F.ex
 exact⟨f,fd,a.ok S len (hbody f),b,a.kp,m⟩
end
theorem aR{X:Cx}{CX:EB}{k:Nat}{ps:List Str}{sp:Sp}{E:XK}{x:Str}{p pos:Pos}{e:Expr}{es:List Expr}{t:TA}(F:dM X.prog X.w X.K X.mg X.base CX k x ps sp)(hr:fE k X.A)(hg:Gl X x)(hx:Passes CX X E)(ha:PA X (e::es) t)
  (hdb:(x==("__debug__":Str))=false:=by decide)(he:starEach (e::es) X.env=(false,eval e X.env)::starEach es X.env:=by rfl)(hpl:(backTo pos (starEach es X.env)).any (·.1)=false:=by rfl):
  PE X (.Call (.Name x p) (e::es) [] pos) (mT sp [] E t):=by
 obtain⟨f,fd,a,b,kp,m⟩:=F.ex
 exact JQ a hr hg m kp b .nil hx ha hdb he hpl
noncomputable def FnAt(K:PySem.W.Frag)(x:Str)(st:Stmt)(f:Addr):Prop:=∃(oc:Value)(od an:Option Addr)(sl:Array (Option Value))(kV dc pm cd ct:Value),PySem.W.nsIn K mainGlobals x=some (some (.ref f))/\
 K.lookup f=some ⟨oc,od,.func (PySem.W.fnOf x x (gw st) (eZ st) (aB st) .none kV dc pm an cd ct),sl⟩/\PySem.W.codeIn K cd x=true/\PySem.W.keepIn K (.ref f)=true
theorem fnAt{K:PySem.W.Frag}{x:Str}{st:Stmt}{f:Addr}{oc:Value}{od an:Option Addr}{sl:Array (Option Value)}{kV dc pm cd ct:Value}(a:PySem.W.nsIn K mainGlobals x=some (some (.ref f)):=by k_is)
  (l:K.lookup f=some ⟨oc,od,.func (PySem.W.fnOf x x (gw st) (eZ st) (aB st) .none kV dc pm an cd ct),sl⟩:=by k_is)(c:PySem.W.codeIn K cd x=true:=by k_is)(k:PySem.W.keepIn K (.ref f)=true:=by k_is):FnAt K x st f:=
 ⟨oc,od,an,sl,kV,dc,pm,cd,ct,a,l,c,k⟩
section
variable{q:Program}{loose:List Str}{mean:ExcName->Option Value}{mg mb:Str->Option Value}{h:Heap}{K:PySem.W.Frag}{x:Str}{st:Stmt}{f:Addr}{ps:List Str}
theorem FnAt.fun(Tp:Top q loose mean mg mb h)(X:K.In h)(A:FnAt K x st f)
  (hb:∀(kV doc pm:Value)(an:Option Addr)(cdv ct:Value)(us:List Value),us.length=ps.length->bindArgs (PySem.W.fnOf x x (gw st) (eZ st) (aB st) .none kV doc pm an cdv ct) ⟨us,[]⟩=pure (ps.zip us)):fP K mg x st ps:=by
 obtain⟨oc,od,an,sl,kV,dc,pm,cd,ct,a,l,c,k⟩:=A
 have F:=GU (st:=st) l c k
 exact⟨f,_,F,F.binds hb,PySem.W.mg_of X Tp.g a⟩
theorem FnAt.Fv(Tp:Top q loose mean mg mb h)(X:K.In h)(A:FnAt K x st f){d:DefRec}(r:(recsOf q).find? (λe=>e.name==x)=some d)
  (hb:∀(kV doc pm:Value)(an:Option Addr)(cdv ct:Value)(us:List Value),us.length=ps.length->bindArgs (PySem.W.fnOf x x (gw st) (eZ st) (aB st) .none kV doc pm an cdv ct) ⟨us,[]⟩=pure (ps.zip us)):
  ∃T,qK K mg x st ps T/\isCodeTable h T/\h.get? T=some {cls:= .none,data:= .fields #[]}/\tabOf K f=some (.ref T):=by
 obtain⟨oc,od,an,sl,kV,dc,pm,cd,ct,a,l,c,k⟩:=A
 have m:=PySem.W.mg_of X Tp.g a
 obtain⟨T,cA,cT,cE⟩:=Bv Tp r X m l (show PySem.W.codeIn K (PySem.W.fnOf x x (gw st) (eZ st) (aB st) .none kV dc pm an cd ct).code x=true from c)
 have F:EM K x x st f _ T:=⟨⟨oc,od,kV,dc,pm,an,cd,ct,sl,rfl,l,c,cA⟩,k⟩
 exact⟨T,⟨f,_,F,F.fn.binds hb,m⟩,cT,cE,zN l cA⟩
end
end L2
set_option maxHeartbeats 1000000
namespace CW
open PySem L2
noncomputable def top(i:Nat):Stmt:=PySem.Challenge.pw_conekin_k19_least_worths.main.body.getD i (.Pass ⟨0,0,0,0⟩)
noncomputable abbrev pO:Stmt:=top 6
noncomputable abbrev iu:List Str:=["thing"]
theorem Ac:aO ["thing"] iu (aB pO):=⟨rfl,rfl,rfl,by decide+kernel,rfl,by decide+kernel,by decide+kernel⟩
noncomputable abbrev uW:Stmt:=top 7
noncomputable abbrev nL:List Str:=["thing"]
theorem Fw:aO ["thing"] nL (aB uW):=⟨rfl,rfl,rfl,by decide+kernel,rfl,by decide+kernel,by decide+kernel⟩
noncomputable abbrev pP:Stmt:=top 8
noncomputable abbrev jP:List Str:=["thing"]
theorem Ad:aO ["thing"] jP (aB pP):=⟨rfl,rfl,rfl,by decide+kernel,rfl,by decide+kernel,by decide+kernel⟩
noncomputable abbrev rG:Stmt:=top 9
noncomputable abbrev lC:List Str:=["one","other"]
theorem Cd:aO ["one","other"] lC (aB rG):=⟨rfl,rfl,rfl,by decide+kernel,rfl,by decide+kernel,by decide+kernel⟩
noncomputable abbrev kC:Stmt:=top 10
noncomputable abbrev fM:List Str:=["table"]
theorem uX:aO ["table"] fM (aB kC):=⟨rfl,rfl,rfl,by decide+kernel,rfl,by decide+kernel,by decide+kernel⟩
noncomputable abbrev jQ:Stmt:=top 11
noncomputable abbrev fY:List Str:=["table","i","j"]
theorem jb:aO ["table","i","j","row","next_row","column","next_column"] fY (aB jQ):=⟨rfl,rfl,rfl,by decide+kernel,rfl,by decide+kernel,by decide+kernel⟩
noncomputable abbrev kD:Stmt:=top 12
noncomputable abbrev eU:List Str:=["table"]
theorem cD:aO ["table","a","b","c","d","e","f","g","h","i"] eU (aB kD):=⟨rfl,rfl,rfl,by decide+kernel,rfl,by decide+kernel,by decide+kernel⟩
noncomputable abbrev yz:Stmt:=top 13
noncomputable abbrev qL:List Str:=["table"]
theorem Iz:aO ["table"] qL (aB yz):=⟨rfl,rfl,rfl,by decide+kernel,rfl,by decide+kernel,by decide+kernel⟩
noncomputable abbrev rH:Stmt:=top 14
noncomputable abbrev lD:List Str:=["table","by"]
theorem Ce:aO ["table","by"] lD (aB rH):=⟨rfl,rfl,rfl,by decide+kernel,rfl,by decide+kernel,by decide+kernel⟩
noncomputable abbrev jc:Stmt:=top 17
noncomputable abbrev fF:List Str:=["thing"]
theorem rJ:aO ["thing"] fF (aB jc):=⟨rfl,rfl,rfl,by decide+kernel,rfl,by decide+kernel,by decide+kernel⟩
noncomputable abbrev rK:Stmt:=top 18
noncomputable abbrev lE:List Str:=["thing"]
theorem Cf:aO ["thing"] lE (aB rK):=⟨rfl,rfl,rfl,by decide+kernel,rfl,by decide+kernel,by decide+kernel⟩
noncomputable abbrev rL:Stmt:=top 19
noncomputable abbrev iw:List Str:=["table","one","other"]
theorem lW:aO ["table","one","other","x","y","z"] iw (aB rL):=⟨rfl,rfl,rfl,by decide+kernel,rfl,by decide+kernel,by decide+kernel⟩
noncomputable abbrev yC:Stmt:=top 20
noncomputable abbrev lX:List Str:=["table","row"]
theorem IA:aO ["table","row"] lX (aB yC):=⟨rfl,rfl,rfl,by decide+kernel,rfl,by decide+kernel,by decide+kernel⟩
noncomputable abbrev rM:Stmt:=top 21
noncomputable abbrev lF:List Str:=["table"]
theorem pQ:aO ["table","first","mixed"] lF (aB rM):=⟨rfl,rfl,rfl,by decide+kernel,rfl,by decide+kernel,by decide+kernel⟩
noncomputable abbrev Cg:Stmt:=top 22
noncomputable abbrev rN:List Str:=["form"]
theorem DW:aO ["form","told"] rN (aB Cg):=⟨rfl,rfl,rfl,by decide+kernel,rfl,by decide+kernel,by decide+kernel⟩
noncomputable abbrev pR:Stmt:=top 24
noncomputable abbrev iy:List Str:=["form","rows"]
theorem Ae:aO ["form","rows"] iy (aB pR):=⟨rfl,rfl,rfl,by decide+kernel,rfl,by decide+kernel,by decide+kernel⟩
noncomputable abbrev lY:Stmt:=top 25
noncomputable abbrev gc:List Str:=["row","times","other"]
theorem v9:aO ["row","times","other"] gc (aB lY):=⟨rfl,rfl,rfl,by decide+kernel,rfl,by decide+kernel,by decide+kernel⟩
noncomputable abbrev rO:Stmt:=top 26
noncomputable abbrev lG:List Str:=["top","bottom"]
theorem Ci:aO ["top","bottom"] lG (aB rO):=⟨rfl,rfl,rfl,by decide+kernel,rfl,by decide+kernel,by decide+kernel⟩
noncomputable abbrev lZ:Stmt:=top 27
noncomputable abbrev gS:List Str:=["form","one","other"]
theorem kE:aO ["form","one","other"] gS (aB lZ):=⟨rfl,rfl,rfl,by decide+kernel,rfl,by decide+kernel,by decide+kernel⟩
noncomputable abbrev pT:Stmt:=top 28
noncomputable abbrev jR:List Str:=["form","one","other","third"]
theorem fZ:aO ["form","one","other","third","across","along","aside","by_one","by_other","area","first","second","corners"] jR (aB pT):=⟨rfl,rfl,rfl,by decide+kernel,rfl,by decide+kernel,by decide+kernel⟩
noncomputable abbrev l5:Stmt:=top 29
noncomputable abbrev gT:List Str:=["form"]
theorem cO:aO ["form","one","other","third"] gT (aB l5):=⟨rfl,rfl,rfl,by decide+kernel,rfl,by decide+kernel,by decide+kernel⟩
noncomputable abbrev Cj:Stmt:=top 30
noncomputable abbrev rP:List Str:=["form"]
theorem DX:aO ["form","basis"] rP (aB Cj):=⟨rfl,rfl,rfl,by decide+kernel,rfl,by decide+kernel,by decide+kernel⟩
noncomputable abbrev Ck:Stmt:=top 33
noncomputable abbrev rQ:List Str:=["number"]
theorem yD:aO ["number","told"] rQ (aB Ck):=⟨rfl,rfl,rfl,by decide+kernel,rfl,by decide+kernel,by decide+kernel⟩
noncomputable abbrev uY:Stmt:=top 34
noncomputable abbrev nM:List Str:=["table","n"]
theorem cN:aO ["table","n","first","mixed","far","second","third","flat","bent","high","whole","most","told","reach","z","span","y","left"] nM (aB uY):=⟨rfl,rfl,rfl,by decide+kernel,rfl,by decide+kernel,by decide+kernel⟩
noncomputable abbrev nN:Stmt:=top 35
noncomputable abbrev iP:List Str:=["table","n"]
theorem dz:aO ["table","n","first","told","y","z","shift","left","side","sides","number"] iP (aB nN):=⟨rfl,rfl,rfl,by decide+kernel,rfl,by decide+kernel,by decide+kernel⟩
noncomputable abbrev jd:Stmt:=top 36
noncomputable abbrev fG:List Str:=["n","greatest"]
theorem rR:aO ["n","greatest"] fG (aB jd):=⟨rfl,rfl,rfl,by decide+kernel,rfl,by decide+kernel,by decide+kernel⟩
noncomputable abbrev pU:Stmt:=top 37
noncomputable abbrev jS:List Str:=["form","n"]
theorem Af:aO ["form","n"] jS (aB pU):=⟨rfl,rfl,rfl,by decide+kernel,rfl,by decide+kernel,by decide+kernel⟩
noncomputable abbrev kF:Stmt:=top 38
noncomputable abbrev gr:List Str:=["form"]
theorem uZ:aO ["form"] gr (aB kF):=⟨rfl,rfl,rfl,by decide+kernel,rfl,by decide+kernel,by decide+kernel⟩
noncomputable abbrev jT:Stmt:=top 40
noncomputable abbrev f6:List Str:=["_law_script","_law_k"]
theorem tT:aO ["_law_script","_law_k"] f6 (aB jT):=⟨rfl,rfl,rfl,by decide+kernel,rfl,by decide+kernel,by decide+kernel⟩
noncomputable abbrev kG:Stmt:=top 41
noncomputable abbrev gu:List Str:=["_law_script","_law_k"]
theorem eH:aO ["_law_script","_law_k","_law_x","_law_total","_law_j"] gu (aB kG):=⟨rfl,rfl,rfl,by decide+kernel,rfl,by decide+kernel,by decide+kernel⟩
noncomputable abbrev l6:Stmt:=top 42
noncomputable abbrev gU:List Str:=["_law_row","_law_column"]
theorem wc:aO ["_law_row","_law_column"] gU (aB l6):=⟨rfl,rfl,rfl,by decide+kernel,rfl,by decide+kernel,by decide+kernel⟩
noncomputable abbrev jU:Stmt:=top 43
noncomputable abbrev f7:List Str:=["_law_one","_law_other"]
theorem mV:aO ["_law_one","_law_other","_law_over_here"] f7 (aB jU):=⟨rfl,rfl,rfl,by decide+kernel,rfl,by decide+kernel,by decide+kernel⟩
noncomputable abbrev nO:Stmt:=top 44
noncomputable abbrev gI:List Str:=["_law_table"]
theorem yE:aO ["_law_table"] gI (aB nO):=⟨rfl,rfl,rfl,by decide+kernel,rfl,by decide+kernel,by decide+kernel⟩
noncomputable abbrev pV:Stmt:=top 45
noncomputable abbrev f9:List Str:=["_law_t"]
theorem kc:aO ["_law_t","_law_first","_law_second","_law_third"] f9 (aB pV):=⟨rfl,rfl,rfl,by decide+kernel,rfl,by decide+kernel,by decide+kernel⟩
noncomputable abbrev l7:Stmt:=top 46
noncomputable abbrev gW:List Str:=["_law_a","_law_b","_law_c","_law_big"]
theorem fN:aO ["_law_a","_law_b","_law_c","_law_big","_law_p","_law_q","_law_r","_law_found"] gW (aB l7):=⟨rfl,rfl,rfl,by decide+kernel,rfl,by decide+kernel,by decide+kernel⟩
noncomputable abbrev nQ:Stmt:=top 47
noncomputable abbrev iQ:List Str:=["_law_big","_law_most"]
theorem cG:aO ["_law_big","_law_most","_law_a","_law_b","_law_c","_law_found"] iQ (aB nQ):=⟨rfl,rfl,rfl,by decide+kernel,rfl,by decide+kernel,by decide+kernel⟩
noncomputable abbrev l8:Stmt:=top 48
noncomputable abbrev gX:List Str:=["_law_big","_law_most","_law_far"]
theorem cP:aO ["_law_big","_law_most","_law_far","_law_rows_here","_law_many","_law_k","_law_i","_law_j","_law_often"] gX (aB l8):=⟨rfl,rfl,rfl,by decide+kernel,rfl,by decide+kernel,by decide+kernel⟩
noncomputable abbrev nS:Stmt:=top 49
noncomputable abbrev gJ:List Str:=["_law_number_here"]
theorem fz:aO ["_law_number_here","_law_high","_law_low","_law_middle"] gJ (aB nS):=⟨rfl,rfl,rfl,by decide+kernel,rfl,by decide+kernel,by decide+kernel⟩
noncomputable abbrev l9:Stmt:=top 50
noncomputable abbrev gY:List Str:=["_law_t","_law_n","_law_k"]
theorem kH:aO ["_law_t","_law_n","_law_k","_law_i","_law_j","_law_plain"] gY (aB l9):=⟨rfl,rfl,rfl,by decide+kernel,rfl,by decide+kernel,by decide+kernel⟩
noncomputable abbrev nT:Stmt:=top 51
noncomputable abbrev iR:List Str:=["_law_t","_law_n"]
theorem cU:aO ["_law_t","_law_n","_law_found","_law_wide","_law_far","_law_x","_law_y","_law_own","_law_mixed","_law_square","_law_side","_law_top"] iR (aB nT):=⟨rfl,rfl,rfl,by decide+kernel,rfl,by decide+kernel,by decide+kernel⟩
noncomputable abbrev qM:Stmt:=top 52
noncomputable abbrev PN:List Str:=["_law_script"]
theorem mh:aO ["_law_script","_law_form_here","_law_basis_here","_law_there","_law_due","_law_one","_law_handed","_law_found"] PN (aB qM):=⟨rfl,rfl,rfl,by decide+kernel,rfl,by decide+kernel,by decide+kernel⟩
section
variable{P:Program}{w:World}{K:PySem.W.Frag}{mg:Str->Option Value}{base:Heap}
inductive ID(T0:Addr)(vs:List V)(H:Hp)(Q:VK)(E:XK):Prop
 |mk(t1:Addr)(b1:List Addr)(m1:List (List Int))(t2:Addr)(b2:List Addr)(m2:List (List Int))(_:vs=[.ref t1,.ref t2])(_:Tab H t1 b1 m1)(_:Tab H t2 b2 m2)(_:cJ m1)(_:cJ m2)(_:Bd 4096 m1)(_:Bd 4096 m2)(_:H T0=some (dS T0))(_:∀r bs H',az H H'->H r=none->(∀b∈bs,H b=none) ->r∉bs->Tab H' r bs (iN m1 m2) ->Q (.ref r) H')
theorem Cm{bC:Addr}(F:qK K mg "product" rG lC bC)(bm:BM mg base)(xD:mg "sum"=none)(aj:mg "range"=none):dM P w K mg base cY 1 "product" lC (ID bC):=by
 refine F.ok Cd (λvs H Q E h=> ?_) (λf cdv A outer s H vs Q E cd hr h=> ?_)
 ·obtain⟨t1,b1,m1,t2,b2,m2,rfl,h1,h2,c1,c2,d1,d2,hP,q⟩:=h
  rfl
 obtain⟨t1,b1,m1,t2,b2,m2,rfl,h1,h2,c1,c2,d1,d2,hP,q⟩:=h
 have hu:=hr.units
 refine⟨_,(dh (bh (jL (N2:=["one","other"]) (te:=(nA 1 (ux (eE (tC (.int 3)) kT)) (dI 0) (zM 1 bC (ux (eE (tC (.int 3)) kT)) (dI 0) (jn (rI kY λi j=> .int (i*j)) (jn (iK K) (jn (iK K) (b9 3) (b9 2)) (b9 0)) (jn (iK K) (jn (iK K) (b9 4) (b9 0)) (b9 1)))))) rfl (eL rfl aj (af ah ak)) (by kernel_rfl) rfl (λ_ _ _=>by exact jZ (jL (N2:=["i","one","other"]) (te:=(zM 1 bC (ux (eE (tC (.int 3)) kT)) (dI 0) (jn (rI kY λi j=> .int (i*j)) (jn (iK K) (jn (iK K) (b9 3) (b9 2)) (b9 0)) (jn (iK K) (jn (iK K) (b9 4) (b9 0)) (b9 1))))) rfl (eL rfl aj (af ah ak)) (by kernel_rfl) rfl (λ_ _ _=>by exact jZ (Ke (N2:=["j","i","one","other"]) (te:=(jn (rI kY λi j=> .int (i*j)) (jn (iK K) (jn (iK K) (b9 3) (b9 2)) (b9 0)) (jn (iK K) (jn (iK K) (b9 4) (b9 0)) (b9 1)))) rfl (fE.depth hr) cd bm rfl xD (eL rfl aj (af ah ak)) (by kernel_rfl) (λ_ _ _ _=>by exact jZ (ai aC (aF ay (aF ay (pv 3) (pv 2) (λ_ _=>rfl)) (pv 0) (λ_ _=>rfl)) (aF ay (aF ay (pv 4) (pv 0) (λ_ _=>rfl)) (pv 1) (λ_ _=>rfl))))))))))),?_⟩
 refine⟨3,rfl,by decide,by decide,λD hD=>qA (gk (n:=3)) rfl hD _ (λi x hi ex H1 Q1 s1 k1=> ?_) (λbs H1 s1 fr nD hT=>q D bs H1 s1 hD fr nD hT)⟩
 obtain⟨_,rfl⟩:=fK ex
 refine⟨3,rfl,by decide,by decide,λD2 Ag=>oG (gk (n:=3)) rfl Ag (λj=>ent m1 i 0*ent m2 0 j+ent m1 i 1*ent m2 1 j+ent m1 i 2*ent m2 2 j) (λj x hj KR H2 Q2 s2 k2=> ?_) (λH2 s2 e2=>k1 D2 H2 Ag s2 e2)⟩
 obtain⟨_,rfl⟩:=fK KR
 refine⟨3,rfl,by decide,by decide,MU (gk (n:=3)) (s2 _ _ (s1 _ _ hP)) (λk=>ent m1 i k*ent m2 k j) (λk x VT H3 Q3 s3 k3=> ?_) (λH3 s3=> ?_)⟩
 ·obtain⟨hk,rfl⟩:=fK VT
  have sm:=s1.trans (s2.trans s3)
  obtain⟨b,row,e1,e2,e3⟩:=qx (h1.same sm) c1 hi hk
  obtain⟨b',VU,Bm,JZ,VV⟩:=qx (h2.same sm) c2 hk hj
  exact⟨_,rfl,_,rfl,t1,_,_,_,rfl,rfl,aW.of (h1.same sm).1,e1,_,rfl,b,_,_,_,rfl,rfl,aW.of e2,e3,_,rfl,_,rfl,t2,_,_,_,rfl,rfl,aW.of (h2.same sm).1,Bm,_,rfl,b',_,_,_,rfl,rfl,aW.of JZ,VV,_,_,rfl,rfl,⟨d1 i k hi hk,d2 k j hk hj⟩,k3 H3 (az.refl _)⟩
 ·have:=k2 H3 s3
  rw[show preSum (λk=>ent m1 i k*ent m2 k j) (nE 3).length=_ from RY _]
  exact this
inductive rS(vs:List V)(H:Hp)(Q:VK)(E:XK):Prop
 |mk(t1:Addr)(b1:List Addr)(m1:List (List Int))(_:vs=[.ref t1])(_:Tab H t1 b1 m1)(_:cJ m1)(_:∀r bs H',az H H'->H r=none->(∀b∈bs,H b=none) ->r∉bs->Tab H' r bs (cR m1) ->Q (.ref r) H')
theorem vc(F:fP K mg "turned_over" kC fM)(aj:mg "range"=none):dM P w K mg base cY 1 "turned_over" fM rS:=by
 refine F.ok uX (λvs H Q E h=> ?_) (λf cdv A outer s H vs Q E hr h=> ?_)
 ·obtain⟨t1,b1,m1,rfl,h1,c1,q⟩:=h
  rfl
 obtain⟨t1,b1,m1,rfl,h1,c1,q⟩:=h
 have hu:=hr.units
 refine⟨_,(dh (bh (jL (N2:=["table"]) (te:=(nA 1 (ux (eE (tC (.int 3)) kT)) (dI 0) (jn (iK K) (jn (iK K) (b9 2) (b9 0)) (b9 1)))) rfl (eL rfl aj (af ah ak)) (by kernel_rfl) rfl (λ_ _ _=>by exact jZ (jL (N2:=["i","table"]) (te:=(jn (iK K) (jn (iK K) (b9 2) (b9 0)) (b9 1))) rfl (eL rfl aj (af ah ak)) (by kernel_rfl) rfl (λ_ _ _=>by exact jZ (aF ay (aF ay (pv 2) (pv 0) (λ_ _=>rfl)) (pv 1) (λ_ _=>rfl)))))))),?_⟩
 refine⟨3,rfl,by decide,by decide,λD hD=>qA (gk (n:=3)) rfl hD _ (λi x hi ex H1 Q1 s1 k1=> ?_) (λbs H1 s1 fr nD hT=>q D bs H1 s1 hD fr nD hT)⟩
 obtain⟨_,rfl⟩:=fK ex
 refine⟨3,rfl,by decide,by decide,λD2 Ag=>oG (gk (n:=3)) rfl Ag (λj=>ent m1 j i) (λj x hj KR H2 Q2 s2 k2=> ?_) (λH2 s2 e2=>k1 D2 H2 Ag s2 e2)⟩
 obtain⟨_,rfl⟩:=fK KR
 have sm:=s1.trans s2
 obtain⟨b,row,e1,e2,e3⟩:=qx (h1.same sm) c1 hj hi
 exact⟨_,rfl,_,rfl,t1,_,_,_,rfl,rfl,aW.of (h1.same sm).1,e1,_,rfl,b,_,_,_,rfl,rfl,aW.of e2,e3,k2 H2 (az.refl _)⟩
inductive ud(K:PySem.W.Frag)(vs:List V)(H:Hp)(Q:VK)(E:XK):Prop
 |mk(t:Addr)(bs:List Addr)(m:List (List Int))(i j:Nat)(_:vs=[.ref t,.int (i:Int),.int (j:Int)])(_:Tab H t bs m)(_:cJ m)(_:i<3)(_:j<3)(_:Bd 4096 m)(_:Q (.int (gm m i j)) H)
theorem tU(F:fP K mg "signed_minor" jQ fY):dM P w K mg base cY 1 "signed_minor" fY (ud K):=by
 refine F.ok jb (λvs H Q E h=> ?_) (λf cdv A outer s H vs Q E hr h=> ?_)
 ·obtain⟨t,bs,m,i,j,rfl,hT,ck,hi,hj,hB,q⟩:=h
  rfl
 obtain⟨t,bs,m,i,j,rfl,hT,ck,hi,hj,hB,q⟩:=h
 have hu:=hr.units
 refine⟨_,(mY (@aq _ _ _ _ _ (qY (i:=3) (j:=4) rfl jb.nd rfl rfl (by decide) rfl rfl (af (aF ay (pv 0) (ai c9 (ai aP (pv 1) ah) ah) (λ_ _=>rfl)) (af (aF ay (pv 0) (ai c9 (ai aP (pv 1) ah) ah) (λ_ _=>rfl)) ak)) rfl)
  (@aq _ _ _ _ _ (qY (i:=5) (j:=6) rfl jb.nd rfl rfl (by decide) rfl rfl (af (ai c9 (ai aP (pv 2) ah) ah) (af (ai c9 (ai aP (pv 2) ah) ah) ak)) rfl)
  (@aL _ _ _ (bh (ai bW (ai aC (aF ay (pv 3) (pv 5) (λ_ _=>rfl)) (aF ay (pv 4) (pv 6) (λ_ _=>rfl))) (ai aC (aF ay (pv 3) (pv 6) (λ_ _=>rfl)) (aF ay (pv 4) (pv 5) (λ_ _=>rfl))))))))),?_⟩
 obtain⟨b,e1,e2,_⟩:=aZ hT ck (i:=(i+1)%3) (vU _)
 obtain⟨b',Bm,JZ,_⟩:=aZ hT ck (i:=(i+2)%3) (vU _)
 rw[<-m3 i 1]at e1
 rw[<-m3 i 2]at Bm
 refine⟨_,rfl,_,rfl,_,_,rfl,rfl,_,_,rfl,rfl,(by show(0:Int)<3;decide),t,_,_,_,rfl,rfl,aW.of hT.1,e1,?_⟩
 refine⟨_,rfl,_,rfl,_,_,rfl,rfl,_,_,rfl,rfl,(by show(0:Int)<3;decide),t,_,_,_,rfl,rfl,aW.of hT.1,Bm,_,_,rfl,?_⟩
 refine⟨_,rfl,_,_,rfl,rfl,_,_,rfl,rfl,(by show(0:Int)<3;decide),_,rfl,_,_,rfl,rfl,_,_,rfl,rfl,(by show(0:Int)<3;decide),_,_,rfl,?_⟩
 have a1:=By (λc=>ent m ((i+1)%3) c) (c:=(j+1)%3) (vU _)
 have a2:=By (λc=>ent m ((i+2)%3) c) (c:=(j+2)%3) (vU _)
 have a3:=By (λc=>ent m ((i+1)%3) c) (c:=(j+2)%3) (vU _)
 have a4:=By (λc=>ent m ((i+2)%3) c) (c:=(j+1)%3) (vU _)
 rw[<-m3 j 1]at a1 a4
 rw[<-m3 j 2]at a2 a3
 refine⟨_,rfl,_,rfl,b,_,_,_,rfl,rfl,aW.of e2,a1,_,rfl,_,rfl,b',_,_,_,rfl,rfl,aW.of JZ,a2,_,_,rfl,rfl,⟨hB _ _ (vU _) (vU _),hB _ _ (vU _) (vU _)⟩,?_⟩
 exact⟨_,rfl,_,rfl,b,_,_,_,rfl,rfl,aW.of e2,a3,_,rfl,_,rfl,b',_,_,_,rfl,rfl,aW.of JZ,a4,_,_,rfl,rfl,⟨hB _ _ (vU _) (vU _),hB _ _ (vU _) (vU _)⟩,_,_,rfl,rfl,q⟩
theorem vd{H:Hp}{t:Addr}{bs:List Addr}{m:List (List Int)}(hT:Tab H t bs m)(ck:cJ m):∃c0 c1 c2,bs=[c0,c1,c2]/\bH H c0 (λc=>ent m 0 c)/\bH H c1 (λc=>ent m 1 c)/\bH H c2 (λc=>ent m 2 c):=by
 have l3:bs.length=3:=by rw[<-hT.2.length,ck.1]
 match bs,l3,hT with
 | [c0,c1,c2],_,hT=>
  obtain⟨b0,x1,x2,_⟩:=aZ hT ck (i:=0) (by decide)
  obtain⟨b1,y1,y2,_⟩:=aZ hT ck (i:=1) (by decide)
  obtain⟨b2,w1,w2,_⟩:=aZ hT ck (i:=2) (by decide)
  cases x1;cases y1;cases w1
  exact⟨c0,c1,c2,rfl,x2,y2,w2⟩
inductive DY(vs:List V)(H:Hp)(Q:VK)(E:XK):Prop
 |mk(t:Addr)(bs:List Addr)(m:List (List Int))(_:vs=[.ref t])(_:Tab H t bs m)(_:cJ m)(_:Bd 1000 m)(_:True)(_:∀H',az H H'->Q (.int (aA m)) H')
theorem ve(F:fP K mg "determinant" kD eU):dM P w K mg base cY 3 "determinant" eU DY:=by
 refine F.ok cD (λvs H Q E h=> ?_) (λf cdv A outer s H vs Q E hr h=> ?_)
 ·obtain⟨t,bs,m,rfl,hT,ck,hB,hP,q⟩:=h
  rfl
 obtain⟨t,bs,m,rfl,hT,ck,hB,hP,q⟩:=h
 have hu:=hr.units
 refine⟨_,(mY (@aq _ _ _ _ _ (ni (pv 0) (ju rfl (aT (ju rfl (aT (aV (i:=1) cD.nd rfl (Or.inl rfl)) (aT (aV (i:=2) cD.nd rfl (Or.inl rfl)) (aT (aV (i:=3) cD.nd rfl (Or.inl rfl)) gb)))) (aT (ju rfl (aT (aV (i:=4) cD.nd rfl (Or.inl rfl)) (aT (aV (i:=5) cD.nd rfl (Or.inl rfl)) (aT (aV (i:=6) cD.nd rfl (Or.inl rfl)) gb)))) (aT (ju rfl (aT (aV (i:=7) cD.nd rfl (Or.inl rfl)) (aT (aV (i:=8) cD.nd rfl (Or.inl rfl)) (aT (aV (i:=9) cD.nd rfl (Or.inl rfl)) gb)))) gb)))))
  (@aL _ _ _ (bh (ai aP (ai aP (ai aC (pv 1) (ai bW (ai aC (pv 5) (pv 9)) (ai aC (pv 6) (pv 8)))) (ai aC (pv 2) (ai bW (ai aC (pv 6) (pv 7)) (ai aC (pv 4) (pv 9))))) (ai aC (pv 3) (ai bW (ai aC (pv 4) (pv 8)) (ai aC (pv 5) (pv 7))))))))),?_⟩
 obtain⟨c0,c1,c2,rfl,x2,y2,w2⟩:=vd hT ck
 refine⟨_,rfl,t,_,rfl,aW.of hT.1,rfl,_,_,rfl,c0,_,rfl,aW.of x2,rfl,_,_,rfl,_,_,rfl,_,_,rfl,rfl,_,_,rfl,c1,_,rfl,aW.of y2,rfl,_,_,rfl,_,_,rfl,_,_,rfl,rfl,_,_,rfl,c2,_,rfl,aW.of w2,rfl,_,_,rfl,_,_,rfl,_,_,rfl,rfl,rfl,?_⟩
 refine⟨_,rfl,_,rfl,_,rfl,_,_,rfl,rfl,⟨aJ (hB 1 1 (by decide) (by decide)) (by decide),aJ (hB 2 2 (by decide) (by decide)) (by decide)⟩,_,rfl,_,rfl,_,_,rfl,rfl,⟨aJ (hB 1 2 (by decide) (by decide)) (by decide),aJ (hB 2 1 (by decide) (by decide)) (by decide)⟩,_,_,rfl,rfl,_,_,rfl,rfl,⟨aJ (hB 0 0 (by decide) (by decide)) (by decide),aJ (ku (cB (hB 1 1 (by decide) (by decide)) (hB 2 2 (by decide) (by decide))) (cB (hB 1 2 (by decide) (by decide)) (hB 2 1 (by decide) (by decide)))) (by decide)⟩,_,rfl,_,rfl,_,rfl,_,_,rfl,rfl,⟨aJ (hB 1 2 (by decide) (by decide)) (by decide),aJ (hB 2 0 (by decide) (by decide)) (by decide)⟩,_,rfl,_,rfl,_,_,rfl,rfl,⟨aJ (hB 1 0 (by decide) (by decide)) (by decide),aJ (hB 2 2 (by decide) (by decide)) (by decide)⟩,_,_,rfl,rfl,_,_,rfl,rfl,⟨aJ (hB 0 1 (by decide) (by decide)) (by decide),aJ (ku (cB (hB 1 2 (by decide) (by decide)) (hB 2 0 (by decide) (by decide))) (cB (hB 1 0 (by decide) (by decide)) (hB 2 2 (by decide) (by decide)))) (by decide)⟩,_,_,rfl,rfl,_,rfl,_,rfl,_,rfl,_,_,rfl,rfl,⟨aJ (hB 1 0 (by decide) (by decide)) (by decide),aJ (hB 2 1 (by decide) (by decide)) (by decide)⟩,_,rfl,_,rfl,_,_,rfl,rfl,⟨aJ (hB 1 1 (by decide) (by decide)) (by decide),aJ (hB 2 0 (by decide) (by decide)) (by decide)⟩,_,_,rfl,rfl,_,_,rfl,rfl,⟨aJ (hB 0 2 (by decide) (by decide)) (by decide),aJ (ku (cB (hB 1 0 (by decide) (by decide)) (hB 2 1 (by decide) (by decide))) (cB (hB 1 1 (by decide) (by decide)) (hB 2 0 (by decide) (by decide)))) (by decide)⟩,_,_,rfl,rfl,?_⟩
 have e:ent m 0 0*(ent m 1 1*ent m 2 2-ent m 1 2*ent m 2 1)+ent m 0 1*(ent m 1 2*ent m 2 0-ent m 1 0*ent m 2 2)+ent m 0 2*(ent m 1 0*ent m 2 1-ent m 1 1*ent m 2 0)=aA m:=by
  rw[cS]
 have q:=q H (az.refl _)
 rw[<-e]at q
 exact q
inductive DZ(vs:List V)(H:Hp)(Q:VK)(E:XK):Prop
 |mk(t1:Addr)(b1:List Addr)(m1:List (List Int))(_:vs=[.ref t1])(_:Tab H t1 b1 m1)(_:cJ m1)(_:Bd 4096 m1)(_:∀r bs H',az H H'->H r=none->(∀b∈bs,H b=none) ->r∉bs->Tab H' r bs (iZ m1) ->Q (.ref r) H')
theorem IE(F:fP K mg "cover" yz qL)(aj:mg "range"=none)(jV:dM P w K mg base cY 1 "signed_minor" fY (ud K)):dM P w K mg base cY 2 "cover" qL DZ:=by
 refine F.ok Iz (λvs H Q E h=> ?_) (λf cdv A outer s H vs Q E hr h=> ?_)
 ·obtain⟨t1,b1,m1,rfl,h1,c1,d1,q⟩:=h
  rfl
 obtain⟨t1,b1,m1,rfl,h1,c1,d1,q⟩:=h
 have hu:=hr.units
 refine⟨_,(dh (bh (jL (N2:=["table"]) (te:=(nA 1 (ux (eE (tC (.int 3)) kT)) (dI 0) (mT (ud K) [] E0 (eE (b9 2) (eE (b9 0) (eE (b9 1) kT)))))) rfl (eL rfl aj (af ah ak)) (by kernel_rfl) rfl (λ_ _ _=>by exact jZ (jL (N2:=["i","table"]) (te:=(mT (ud K) [] E0 (eE (b9 2) (eE (b9 0) (eE (b9 1) kT))))) rfl (eL rfl aj (af ah ak)) (by kernel_rfl) rfl (λ_ _ _=>by exact jZ (aR jV hr rfl aQ (af (pv 2) (af (pv 0) (af (pv 1) ak)))))))))),?_⟩
 refine⟨3,rfl,by decide,by decide,λD hD=>qA (gk (n:=3)) rfl hD (λi j=>gm m1 j i) (λi x hi ex H1 Q1 s1 k1=> ?_) (λbs H1 s1 fr nD hT=>q D bs H1 s1 hD fr nD hT)⟩
 obtain⟨_,rfl⟩:=fK ex
 refine⟨3,rfl,by decide,by decide,λD2 Ag=>oG (gk (n:=3)) rfl Ag (λj=>gm m1 j i) (λj x hj KR H2 Q2 s2 k2=> ?_) (λH2 s2 e2=>k1 D2 H2 Ag s2 e2)⟩
 obtain⟨_,rfl⟩:=fK KR
 exact⟨_,rfl,_,rfl,_,rfl,t1,b1,m1,j,i,rfl,h1.same (s1.trans s2),c1,hj,hi,d1,k2 H2 (az.refl _)⟩
inductive xE(T0:Addr)(vs:List V)(H:Hp)(Q:VK)(E:XK):Prop
 |mk(t1:Addr)(b1:List Addr)(m1:List (List Int))(t2:Addr)(b2:List Addr)(m2:List (List Int))(_:vs=[.ref t1,.ref t2])(_:Tab H t1 b1 m1)(_:Tab H t2 b2 m2)(_:cJ m1)(_:cJ m2)(_:Bd 1000 m1)(_:Bd 1000 m2)(_:H T0=some (dS T0))(_:∀r bs H',az H H'->H r=none->(∀b∈bs,H b=none) ->r∉bs->Tab H' r bs (iN (iN m2 m1) (cR m2)) ->Q (.ref r) H')
theorem Cn{bC:Addr}(F:fP K mg "carried" rH lD)(oK:dM P w K mg base cY 1 "product" lC (ID bC))(fO:dM P w K mg base cY 1 "turned_over" fM rS):dM P w K mg base cY 2 "carried" lD (xE bC):=by
 refine F.ok Ce (λvs H Q E h=> ?_) (λf cdv A outer s H vs Q E hr h=> ?_)
 ·obtain⟨t1,b1,m1,t2,b2,m2,rfl,h1,h2,c1,c2,d1,d2,hP,q⟩:=h
  rfl
 obtain⟨t1,b1,m1,t2,b2,m2,rfl,h1,h2,c1,c2,d1,d2,hP,q⟩:=h
 have hu:=hr.units
 refine⟨_,(dh (bh (aR oK hr rfl aQ (af (aR oK hr rfl aQ (af (pv 1) (af (pv 0) ak))) (af (aR fO hr rfl aQ (af (pv 1) ak)) ak))))),?_⟩
 refine⟨_,rfl,_,rfl,t2,b2,m2,t1,b1,m1,rfl,h2,h1,c2,c1,d2.mono (by decide),d1.mono (by decide),hP,λr rs H1 s1 fr frs nr hr=> ?_⟩
 refine⟨_,rfl,t2,b2,m2,rfl,h2.same s1,c2,λo os H2 s2 fo Sn no ho=> ?_⟩
 refine⟨r,rs,_,o,os,_,rfl,hr.same s2,ho,cK _,cK _,(t9 d2 d1).mono (by decide),(uI d2).mono (by decide),s2 _ _ (s1 _ _ hP),λu us H3 s3 fu PR nu VW=> ?_⟩
 have sm:=s1.trans s2
 exact q u us H3 (sm.trans s3) (sm.none fu) (λb hb=>sm.none (PR b hb)) nu VW
inductive LS(vs:List V)(H:Hp)(Q:VK)(E:XK):Prop
 |mk(t:Addr)(bs:List Addr)(m:List (List Int))(_:vs=[.ref t])(_:Tab H t bs m)(_:cJ m)(_:Bd 440 m)(_:cR m=m)(_:True)(_:bZ m=true-> ∀H',az H H'->Q .iW H')(_:bZ m=false-> ∀(x:Nat->Int) a H',az H H'->H a=none->bH H' a x-> ¬(x 0=0/\x 1=0/\x 2=0) ->au m x x<=0->(∀i,i<3->(x i).natAbs<2^1000) ->Q (.ref a) H')
theorem Co(F:fP K mg "low_row" rM lF)(dG:dM P w K mg base cY 3 "determinant" eU DY)(yF:dM P w K mg base cY 3 "cover" qL DZ):dM P w K mg base cY 4 "low_row" lF LS:=by
 refine F.ok pQ (λvs H Q E h=> ?_) (λf cdv A outer s H vs Q E hr h=> ?_)
 ·obtain⟨t,bs,m,rfl,hT,ck,hB,hS,hP,q1,q2⟩:=h
  rfl
 obtain⟨t,bs,m,rfl,hT,ck,hB,hS,hP,q1,q2⟩:=h
 have hu:=hr.units
 refine⟨_,(mY (@aq _ _ _ _ _ (aE (i:=1) pQ.nd rfl (Or.inl rfl) (aF ay (aF ay (pv 0) ah (λ_ _=>rfl)) ah (λ_ _=>rfl)))
  (@aq _ _ _ _ _ (dW (bO uy (pv 1) ah (cg _)) (Na (uM (fy ja (fy ja (fy ja uK (by kernel_rfl)) (by kernel_rfl)) (by kernel_rfl)))) eT)
  (@aq _ _ _ _ _ (aE (i:=2) pQ.nd rfl (Or.inl rfl) (aF ay (aF ay (pv 0) ah (λ_ _=>rfl)) ah (λ_ _=>rfl)))
  (@aq _ _ _ _ _ (dW (bO uy (ai bW (ai aC (pv 1) (aF ay (aF ay (pv 0) ah (λ_ _=>rfl)) ah (λ_ _=>rfl))) (ai aC (pv 2) (pv 2))) ah (cg _)) (@aL _ _ _ (bh (cV (af (Dj xT (pv 2)) (af (pv 1) (af ah ak)))))) eT)
  (@aq _ _ _ _ _ (dW (bO uy (aR dG hr rfl aQ (af (pv 0) ak)) ah (cg _)) (@aL _ _ _ (bh (aF ay (aR yF hr rfl aQ (af (pv 0) ak)) ah (λ_ _=>rfl)))) eT)
  (@aL _ _ _ (bh GB)))))))),?_⟩
 obtain⟨c0,x1,x2,_⟩:=aZ hT ck (i:=0) (by decide)
 obtain⟨c1,y1,y2,_⟩:=aZ hT ck (i:=1) (by decide)
 obtain⟨c2,w1,w2,_⟩:=aZ hT ck (i:=2) (by decide)
 have b0:=hB 0 0 (by decide) (by decide)
 have b1:=hB 0 1 (by decide) (by decide)
 refine⟨_,rfl,t,_,_,_,rfl,rfl,aW.of hT.1,x1,c0,_,_,_,rfl,rfl,aW.of x2,rfl,?_⟩
 refine⟨_,rfl,_,_,rfl,rfl,_,rfl,iL (λc=> ?_) (λc=> ?_)⟩
 ·have c:ent m 0 0<=0:=of_decide_eq_true c
  have ab:bZ m=false:=by
   unfold bZ
   rw[decide_eq_false (by omega),Bool.false_and]
  refine⟨(by show 3<=sizeLine;decide),λr hr=> ?_⟩
  refine q2 ab (λi=>if i=0 then 1 else 0) r _ (az.up hr) hr av (λz=>by simp at z) (by rw[Pj];exact c) (λi _=> ?_)
  show(if i=0 then(1:Int)else 0).natAbs<_
  exact aJ (a:=1) (by split<;>decide) (by decide)
 have c:0<ent m 0 0:=by
  have:¬ent m 0 0<=0:=λz=>c (decide_eq_true z)
  omega
 refine⟨_,rfl,t,_,_,_,rfl,rfl,aW.of hT.1,x1,c0,_,_,_,rfl,rfl,aW.of x2,rfl,?_⟩
 refine⟨_,rfl,_,rfl,t,_,_,_,rfl,rfl,aW.of hT.1,y1,c1,_,_,_,rfl,rfl,aW.of y2,rfl,_,_,rfl,rfl,⟨aJ (hB 0 0 (by decide) (by decide)) (by decide),aJ (hB 1 1 (by decide) (by decide)) (by decide)⟩,_,rfl,_,rfl,_,_,rfl,rfl,⟨aJ (hB 0 1 (by decide) (by decide)) (by decide),aJ (hB 0 1 (by decide) (by decide)) (by decide)⟩,_,_,rfl,rfl,_,_,rfl,rfl,_,rfl,iL (λd=> ?_) (λd=> ?_)⟩
 ·have d:ent m 0 0*ent m 1 1-ent m 0 1*ent m 0 1<=0:=of_decide_eq_true d
  have ab:bZ m=false:=by
   unfold bZ
   rw[decide_eq_false (p:=ent m 0 1*ent m 0 1<ent m 0 0*ent m 1 1) (by omega),Bool.false_and,Bool.and_false]
  refine⟨_,rfl,_,rfl,_,rfl,(by show 3<=sizeLine;decide),λr hr=> ?_⟩
  refine q2 ab (λi=>match i with|0=> -ent m 0 1|1=>ent m 0 0|_=>0) r _ (az.up hr) hr av (λz=>by have y:ent m 0 0=0:=z.2.1;omega) ?_ (λi hi=> ?_)
  ·rw[Pk hS _ rfl rfl rfl]
   exact Int.mul_nonpos_of_nonneg_of_nonpos (by omega) d
  ·rcases bL hi with rfl|rfl|rfl
   ·show(-ent m 0 1).natAbs<_
    exact aJ (a:=440) (by(clear hi hr ab d c b0 w2 w1 y2 y1 x2 x1 hu q2 q1 hS;omega)) (by decide)
   ·exact aJ b0 (by decide)
   ·show(0:Int).natAbs<_
    exact Nat.two_pow_pos _
 have d:0<ent m 0 0*ent m 1 1-ent m 0 1*ent m 0 1:=by
  have:¬ent m 0 0*ent m 1 1-ent m 0 1*ent m 0 1<=0:=λz=>d (decide_eq_true z)
  omega
 refine⟨_,rfl,t,bs,m,rfl,hT,ck,hB.mono (by decide),hP,λH1 s1=>⟨_,_,rfl,rfl,_,rfl,iL (λe=> ?_) (λe=> ?_)⟩⟩
 ·have e:aA m<=0:=of_decide_eq_true e
  have ab:bZ m=false:=by
   unfold bZ
   rw[decide_eq_false (p:=0<aA m) (by omega),Bool.and_false,Bool.and_false]
  refine⟨_,rfl,t,bs,m,rfl,hT.same s1,ck,hB.mono (by decide),λr rs H2 s2 fr frs nr T2=> ?_⟩
  obtain⟨k,k1,k2,k3⟩:=aZ T2 (cK _) (i:=2) (by decide)
  refine⟨r,_,_,_,rfl,rfl,aW.of T2.1,k1,?_⟩
  have Ub:0<ent (iZ m) 2 2:=by
   rw[LP,iH hS (i:=0) (j:=1) (by decide) (by decide)]
   exact d
  refine q2 ab (λj=>ent (iZ m) 2 j) k H2 (s1.trans s2) (s1.none (frs k k3)) k2 (λz=>by have y:ent (iZ m) 2 2=0:=z.2.2;omega) ?_ (λj hj=> ?_)
  ·rw[Pn]
   exact Int.mul_nonpos_of_nonpos_of_nonneg e (by omega)
  ·show(ent (iZ m) 2 j).natAbs<_
   rw[nF m (by decide) hj]
   exact aJ (DG hB j 2) (by decide)
 ·have e:0<aA m:=by
   have:¬aA m<=0:=λz=>e (decide_eq_true z)
   omega
  refine q1 ?_ H1 s1
  unfold bZ
  rw[decide_eq_true c,decide_eq_true e,decide_eq_true (p:=ent m 0 1*ent m 0 1<ent m 0 0*ent m 1 1) (by omega)]
  rfl
inductive oM(vs:List V)(H:Hp)(Q:VK)(E:XK):Prop
 |mk(z:Int)(_:vs=[.int z])(_:Q (.bl true) H)
theorem Ah(F:fP K mg "is_whole" pO iu)(aH:mg "isinstance"=none)(bV:mg "int"=none)(eV:mg "bool"=none):dM P w K mg base cY 1 "is_whole" iu oM:=by
 refine F.ok Ac (λvs H Q E h=> ?_) (λf cdv A outer s H vs Q E hr h=> ?_)
 ·obtain⟨z,rfl,q⟩:=h
  rfl
 obtain⟨z,rfl,q⟩:=h
 have hu:=hr.units
 refine⟨_,(dh (bh (Be (e7 gG rfl aH PyProof.Rows.boot_isinstance (af (pv 0) (af (oB (v:= .ty "int") rfl bV PyProof.Rows.boot_int rfl) ak))) (Bc (Ml (e7 gG rfl aH PyProof.Rows.boot_isinstance (af (pv 0) (af (oB (v:= .ty "bool") rfl eV PyProof.Rows.boot_bool rfl) ak)))))))),?_⟩
 exact⟨_,rfl,_,_,_,_,rfl,.int _,qy K "int",_,rfl,GV ⟨_,rfl,_,_,_,_,rfl,.int _,qz K,_,rfl,q⟩⟩
inductive yG(T0:Addr)(vs:List V)(H:Hp)(Q:VK)(E:XK):Prop
 |mk(b:Addr)(x:Nat->Int)(_:vs=[.ref b])(_:bH H b x)(_:H T0=some (dS T0))(_:∀H',az H H'->Q (.bl true) H')
theorem Fx{bu:Addr}(F:qK K mg "is_row" uW nL bu)(bm:BM mg base)(aH:mg "isinstance"=none)(dZ:mg "list"=none)(mW:mg "len"=none)(pC:mg "all"=none)(iz:dM P w K mg base cY 1 "is_whole" iu oM):dM P w K mg base cY 3 "is_row" nL (yG bu):=by
 refine F.ok Fw (λvs H Q E h=> ?_) (λf cdv A outer s H vs Q E cd hr h=> ?_)
 ·obtain⟨b,x,rfl,hx,hP,q⟩:=h
  rfl
 obtain⟨b,x,rfl,hx,hP,q⟩:=h
 have hu:=hr.units
 refine⟨_,(mY (@aq _ _ _ _ _ (dW (PW.pt (sU (qX (lP (e7 gG rfl aH PyProof.Rows.boot_isinstance (af (pv 0) (af (oB (v:= .ty "list") rfl dZ PyProof.Rows.boot_list rfl) ak))))) (uu (bO GN (e7 jr rfl mW PySem.boot_len (af (pv 0) ak)) ah (cg _))))) (@aL _ _ _ (bh ur)) eT)
  (@aL _ _ _ (bh (yg (N2:=["thing"]) (te:=(mT oM [] E0 (eE (b9 0) kT))) rfl (fE.depth hr) cd bm rfl pC (gP (pv 0)) (by kernel_rfl) (λ_ _ _ _=>by exact jZ (aR iz (zO hr) rfl aQ (af (pv 0) ak)))))))),?_⟩
 refine⟨_,rfl,_,_,_,_,rfl,.lst hx,qy K "list",_,rfl,zE ⟨_,rfl,b,_,rfl,.inl (aW.of hx),rfl,_,rfl,zF rfl ?_⟩⟩
 refine⟨_,rfl,b,rfl,⟨_,aW.of hx⟩,Bw (lS (aW.of hx)) hP (λ_=>true) (λj y ey H1 Q1 s1 k1=> ?_) (λc H1 s1 hc=> ?_)⟩
 ·obtain⟨z,rfl⟩:∃z,y= .int z:=by
   have hy:=List.mem_of_getElem? ey
   simp only[List.mem_cons,List.not_mem_nil,or_false]at hy
   rcases hy with rfl|rfl|rfl<;>exact⟨_,rfl⟩
  exact⟨_,rfl,z,rfl,k1 H1 (az.refl _)⟩
 ·have e:c=true:=hc.mpr λ_ _=>rfl
  subst e
  exact q H1 s1
inductive xF(T1 T0:Addr)(vs:List V)(H:Hp)(Q:VK)(E:XK):Prop
 |mk(t:Addr)(bs:List Addr)(m:List (List Int))(_:vs=[.ref t])(_:Tab H t bs m)(_:cJ m)(_:H T1=some (dS T1))(_:H T0=some (dS T0))(_:∀H',az H H'->Q (.bl true) H')
theorem Ai{bu aX:Addr}(F:qK K mg "is_table" pP jP aX)(bm:BM mg base)(aH:mg "isinstance"=none)(dZ:mg "list"=none)(mW:mg "len"=none)(pC:mg "all"=none)(vf:dM P w K mg base cY 3 "is_row" nL (yG bu)):dM P w K mg base cY 5 "is_table" jP (xF bu aX):=by
 refine F.ok Ad (λvs H Q E h=> ?_) (λf cdv A outer s H vs Q E cd hr h=> ?_)
 ·obtain⟨t,bs,m,rfl,hT,ck,hR,hP,q⟩:=h
  rfl
 obtain⟨t,bs,m,rfl,hT,ck,hR,hP,q⟩:=h
 have hu:=hr.units
 refine⟨_,(mY (@aq _ _ _ _ _ (dW (PW.pt (sU (qX (lP (e7 gG rfl aH PyProof.Rows.boot_isinstance (af (pv 0) (af (oB (v:= .ty "list") rfl dZ PyProof.Rows.boot_list rfl) ak))))) (uu (bO GN (e7 jr rfl mW PySem.boot_len (af (pv 0) ak)) ah (cg _))))) (@aL _ _ _ (bh ur)) eT)
  (@aL _ _ _ (bh (yg (N2:=["thing"]) (te:=(mT (yG bu) [] E0 (eE (b9 0) kT))) rfl (fE.depth hr) cd bm rfl pC (gP (pv 0)) (by kernel_rfl) (λ_ _ _ _=>by exact jZ (aR vf (zO hr) rfl aQ (af (pv 0) ak)))))))),?_⟩
 have l3:(bs.map V.ref).length=3:=by rw[List.length_map,<-hT.2.length,ck.1]
 refine⟨_,rfl,_,_,_,_,rfl,.lst hT.1,qy K "list",_,rfl,zE ⟨_,rfl,t,_,rfl,.inl (aW.of hT.1),rfl,_,rfl,zF (by rw[l3];rfl) ?_⟩⟩
 refine⟨_,rfl,t,rfl,⟨_,aW.of hT.1⟩,Bw (lS (aW.of hT.1)) hP (λ_=>true) (λj y ey H1 Q1 s1 k1=> ?_) (λc H1 s1 hc=> ?_)⟩
 ·have hj:j<3:=by
   have:=(List.getElem?_eq_some_iff.mp ey).1
   rw[l3]at this
   exact this
  obtain⟨b,e1,e2,_⟩:=aZ (hT.same s1) ck hj
  have ex':y= .ref b:=by
   have q1:=ie ey
   rw[e1]at q1
   exact(Option.some.inj q1).symm
  subst ex'
  exact⟨_,rfl,b,λc=>ent m j c,rfl,e2,s1 _ _ hR,k1⟩
 ·have e:c=true:=hc.mpr λ_ _=>rfl
  subst e
  exact q H1 s1
inductive Aj(T1 T2 T0:Addr)(vs:List V)(H:Hp)(Q:VK)(E:XK):Prop
 |mk(t:Addr)(bs:List Addr)(m:List (List Int))(_:vs=[.ref t])(_:Tab H t bs m)(_:cJ m)(_:b8 m)(_:H T1=some (dS T1))(_:H T2=some (dS T2))(_:H T0=some (dS T0))(_:∀H',az H H'->Q (.bl true) H')
theorem rT{bu aX aD:Addr}(F:qK K mg "is_even_table" jc fF aD)(bm:BM mg base)(pC:mg "all"=none)(aj:mg "range"=none)(pW:dM P w K mg base cY 6 "is_table" jP (xF bu aX))(fO:dM P w K mg base cY 6 "turned_over" fM rS):dM P w K mg base cY 7 "is_even_table" fF (Aj bu aX aD):=by
 refine F.ok rJ (λvs H Q E h=> ?_) (λf cdv A outer s H vs Q E cd hr h=> ?_)
 ·obtain⟨t,bs,m,rfl,hT,ck,ev,hR,hU,hP,q⟩:=h
  rfl
 obtain⟨t,bs,m,rfl,hT,ck,ev,hR,hU,hP,q⟩:=h
 have hu:=hr.units
 refine⟨_,(mY (@aq _ _ _ _ _ (dW (qX (lP (aR pW hr rfl aQ (af (pv 0) ak)))) (@aL _ _ _ (bh ur)) eT)
  (@aL _ _ _ (bh (Be (qm (Hu hu) (pv 0) (aR fO hr rfl aQ (af (pv 0) ak)) (cg _)) (Bc (yg (N2:=["thing"]) (te:=(jn Tw (jn (rI (λ_ j=>0<j) λi j=> .int (i%j)) (jn (iK K) (jn (iK K) (b9 1) (b9 0)) (b9 0)) (tC (.int 2))) (tC (.int 0)))) rfl (fE.depth hr) cd bm rfl pC (eL rfl aj (af ah ak)) (by kernel_rfl) (λ_ _ _ _=>by exact jZ (qm wV (ai c9 (aF ay (aF ay (pv 1) (pv 0) (λ_ _=>rfl)) (pv 0) (λ_ _=>rfl)) ah) ah (cg _)))))))))),?_⟩
 refine⟨_,rfl,t,bs,m,rfl,hT,ck,hR,hU,λH1 s1=>⟨_,rfl,zE ?_⟩⟩
 refine⟨_,rfl,_,rfl,t,bs,m,rfl,hT.same s1,ck,λr rs H2 s2 fr frs nr Tr=> ?_⟩
 rw[eG ev ck]at Tr
 refine Kg (yc m) (xg ((hT.same s1).same s2)) (xg Tr) (jK m) ⟨_,rfl,GV ?_⟩
 have s12:=s1.trans s2
 refine⟨3,rfl,by decide,by decide,Bw (gk (n:=3)) (s12 _ _ hP) (λ_=>true) (λj y ey H3 Q3 s3 k3=> ?_) (λc H3 s3 hc=> ?_)⟩
 ·obtain⟨hj,rfl⟩:=fK ey
  obtain⟨b,row,e1,e2,e3⟩:=qx (hT.same (s12.trans s3)) ck hj hj
  refine⟨_,rfl,_,rfl,t,_,_,_,rfl,rfl,aW.of (hT.same (s12.trans s3)).1,e1,_,rfl,b,_,_,_,rfl,rfl,aW.of e2,e3,_,_,rfl,rfl,(by show(0:Int)<2;decide),rfl,?_⟩
  have e:ent m j j%2=0:=by
   obtain⟨_,a,b,c,p1,p2,p3⟩:=ev
   rcases bL hj with rfl|rfl|rfl<;>(clear e3 e1 ey hj e2 k3 nr frs fr hu q hP hU hR aj pC;omega)
  rw[decide_eq_true (congrArg V.int e)]
  exact k3 H3 (az.refl _)
 ·have e:c=true:=hc.mpr λ_ _=>rfl
  subst e
  exact q H3 (s12.trans s3)
inductive Ak(T1 T2 T3:Addr)(vs:List V)(H:Hp)(Q:VK)(E:XK):Prop
 |mk(t:Addr)(bs:List Addr)(m:List (List Int))(_:vs=[.ref t])(_:Tab H t bs m)(_:cJ m)(_:Bd 440 m)(_:b8 m)(_:bZ m=true)(_:H T1=some (dS T1))(_:H T2=some (dS T2))(_:H T3=some (dS T3))(_:True)(_:∀H',az H H'->Q (.bl true) H')
theorem Cp{bu aX aD:Addr}(F:fP K mg "is_form" rK lE)(je:dM P w K mg base cY 7 "is_even_table" fF (Aj bu aX aD))(rV:dM P w K mg base cY 7 "low_row" lF LS):dM P w K mg base cY 8 "is_form" lE (Ak bu aX aD):=by
 refine F.ok Cf (λvs H Q E h=> ?_) (λf cdv A outer s H vs Q E hr h=> ?_)
 ·obtain⟨t,bs,m,rfl,hT,ck,hB,ev,ab,h1,h2,h3,h4,q⟩:=h
  rfl
 obtain⟨t,bs,m,rfl,hT,ck,hB,ev,ab,h1,h2,h3,h4,q⟩:=h
 have hu:=hr.units
 refine⟨_,(dh (bh (Be (aR je hr rfl aQ (af (pv 0) ak)) (Bc (qm Mw (aR rV hr rfl aQ (af (pv 0) ak)) GB (cg _)))))),?_⟩
 refine⟨_,rfl,t,bs,m,rfl,hT,ck,ev,h1,h2,h3,λH1 s1=>⟨_,rfl,GV ?_⟩⟩
 exact⟨_,rfl,t,bs,m,rfl,hT.same s1,ck,hB,eG ev ck,trivial,λ_ H2 s2=>⟨rfl,q H2 (s1.trans s2)⟩,λVX=>absurd VX (by rw[ab];decide)⟩
inductive Cq(T1 T2 T3:Addr)(vs:List V)(H:Hp)(Q:VK)(E:XK):Prop
 |mk(t:Addr)(bs:List Addr)(m:List (List Int))(_:vs=[.ref t])(_:Tab H t bs m)(_:cJ m)(_:Bd 440 m)(_:b8 m)(_:bZ m=true)(_:aA m/2<=200)(_:H T1=some (dS T1))(_:H T2=some (dS T2))(_:H T3=some (dS T3))(_:True)(_:∀H',az H H'->Q (.int (aA m/2)) H')
theorem KS{bu aX aD:Addr}(F:fP K mg "half" Cg rN){jf:_}(jg:mg "GREATEST_HALF"=some (Value.int 200 jf))(rW:dM P w K mg base cY 8 "is_form" lE (Ak bu aX aD))(dG:dM P w K mg base cY 8 "determinant" eU DY):dM P w K mg base cY 9 "half" rN (Cq bu aX aD):=by
 refine F.ok DW (λvs H Q E h=> ?_) (λf cdv A outer s H vs Q E hr h=> ?_)
 ·obtain⟨t,bs,m,rfl,hT,ck,hB,ev,ab,le,h1,h2,h3,h4,q⟩:=h
  rfl
 obtain⟨t,bs,m,rfl,hT,ck,hB,ev,ab,le,h1,h2,h3,h4,q⟩:=h
 have hu:=hr.units
 refine⟨_,(mY (@aq _ _ _ _ _ (dW (qX (lP (aR rW hr rfl aQ (af (pv 0) ak)))) (@aL _ _ _ uw) eT)
  (@aq _ _ _ _ _ (aE (i:=1) DW.nd rfl (Or.inl rfl) (ai bT (aR dG hr rfl aQ (af (pv 0) ak)) ah))
  (@aq _ _ _ _ _ (dW (bO oZ (pv 1) (Dh (v:= .int 200) rfl jg ⟨_,rfl⟩) (cg _)) (@aL _ _ _ uw) eT)
  (@aL _ _ _ (bh (pv 1))))))),?_⟩
 refine⟨_,rfl,t,bs,m,rfl,hT,ck,hB,ev,ab,h1,h2,h3,h4,λH1 s1=>⟨_,rfl,zE ?_⟩⟩
 refine⟨_,rfl,t,bs,m,rfl,hT.same s1,ck,hB.mono (by decide),trivial,λH2 s2=>⟨_,_,rfl,rfl,⟨by decide,by decide⟩,?_⟩⟩
 refine⟨_,rfl,_,_,rfl,rfl,_,rfl,iL (λc=> ?_) (λ_=>⟨_,rfl,q H2 (s1.trans s2)⟩)⟩
 have c:(200:Int)<aA m/2:=of_decide_eq_true c
 omega
theorem Fy{H:Hp}{t:Addr}{bs:List Addr}{m:List (List Int)}(hT:Tab H t bs m)(ck:cJ m):∃c0 c1 c2,bs=[c0,c1,c2]/\bH H c0 (λc=>ent m 0 c)/\bH H c1 (λc=>ent m 1 c)/\bH H c2 (λc=>ent m 2 c):=by
 have l3:bs.length=3:=by rw[<-hT.2.length,ck.1]
 match bs,l3,hT with
 | [c0,c1,c2],_,hT=>
  obtain⟨b0,x1,x2,_⟩:=aZ hT ck (i:=0) (by decide)
  obtain⟨b1,y1,y2,_⟩:=aZ hT ck (i:=1) (by decide)
  obtain⟨b2,w1,w2,_⟩:=aZ hT ck (i:=2) (by decide)
  cases x1;cases y1;cases w1
  exact⟨c0,c1,c2,rfl,x2,y2,w2⟩
inductive yH(T0:Addr)(vs:List V)(H:Hp)(Q:VK)(E:XK):Prop
 |mk(t:Addr)(bs:List Addr)(m:List (List Int))(a b:Addr)(x y:Nat->Int)(_:vs=[.ref t,.ref a,.ref b])(_:Tab H t bs m)(_:cJ m)(_:Bd 1000 m)(_:bH H a x)(_:bH H b y)(_:∀i,i<3->(x i).natAbs<2^1000)(_:∀i,i<3->(y i).natAbs<2^1000)(_:H T0=some (dS T0))(_:∀H',az H H'->Q (.int (au m x y)) H')
theorem Cr{aG:Addr}(F:qK K mg "pairing" rL iw aG)(bm:BM mg base)(xD:mg "sum"=none)(fH:mg "zip"=none):dM P w K mg base cY 1 "pairing" iw (yH aG):=by
 refine F.ok lW (λvs H Q E h=> ?_) (λf cdv A outer s H vs Q E cd hr h=> ?_)
 ·obtain⟨t,bs,m,a,b,x,y,rfl,hT,ck,hB,hx,hy,bx,bY,hP,q⟩:=h
  rfl
 obtain⟨t,bs,m,a,b,x,y,rfl,hT,ck,hB,hx,hy,bx,bY,hP,q⟩:=h
 have hu:=hr.units
 refine⟨_,(mY (@aq _ _ _ _ _ (ni (pv 2) (ju rfl (aT (aV (i:=3) lW.nd rfl (Or.inr rfl)) (aT (aV (i:=4) lW.nd rfl (Or.inr rfl)) (aT (aV (i:=5) lW.nd rfl (Or.inr rfl)) gb)))))
  (@aL _ _ _ (bh (Kr (N2:=["table","one","other","x","y","z"]) (te:=(jn (rI kY λi j=> .int (i*j)) (b9 0) (jn (Di λi j=> .int (i+j)) (jn (Di λi j=> .int (i+j)) (jn (rI kY λi j=> .int (i*j)) (jn (iK K) (b9 1) (tC (.int 0))) (b9 5)) (jn (rI kY λi j=> .int (i*j)) (jn (iK K) (b9 1) (tC (.int 1))) (b9 6))) (jn (rI kY λi j=> .int (i*j)) (jn (iK K) (b9 1) (tC (.int 2))) (b9 7))))) rfl (fE.depth hr) cd bm rfl xD (BA rfl fH (af (pv 1) (af (pv 0) ak))) (by kernel_rfl) (λ_ _ _ _=>by exact jZ (ai aC (pv 0) (ai aP (ai aP (ai aC (aF ay (pv 1) ah (λ_ _=>rfl)) (pv 5)) (ai aC (aF ay (pv 1) ah (λ_ _=>rfl)) (pv 6))) (ai aC (aF ay (pv 1) ah (λ_ _=>rfl)) (pv 7)))))))))),?_⟩
 obtain⟨c0,c1,c2,rfl,x2,y2,w2⟩:=Fy hT ck
 refine⟨_,rfl,b,_,rfl,aW.of hy,rfl,_,_,rfl,_,_,rfl,_,_,rfl,rfl,?_⟩
 refine⟨_,rfl,_,rfl,a,t,_,_,rfl,aW.of hx,aW.of hT.1,Ku (aW.of hx) (aW.of hT.1) rfl hP (λi=>x i*(ent m i 0*y 0+ent m i 1*y 1+ent m i 2*y 2)) (λi u v eu ev H' Q' sm k=> ?_) (λH' sm=> ?_)⟩
 ·have hi:i<3:=(List.getElem?_eq_some_iff.mp eu).1
  obtain⟨c,e1,e2,_⟩:=aZ (hT.same sm) ck hi
  have Sq:u= .int (x i):=by
   rcases bL hi with rfl|rfl|rfl<;>exact(Option.some.inj eu).symm
  have ev':v= .ref c:=by
   have q1:=ie ev
   rw[e1]at q1
   exact(Option.some.inj q1).symm
  subst Sq ev'
  have b0:=cB (hB i 0 hi (by decide)) (bY 0 (by decide))
  have b1:=cB (hB i 1 hi (by decide)) (bY 1 (by decide))
  have b2:=cB (hB i 2 hi (by decide)) (bY 2 (by decide))
  have bs:=lT (lT b0 b1) (aJ b2 (by decide))
  exact⟨_,rfl,_,rfl,c,_,_,_,rfl,rfl,aW.of e2,rfl,_,rfl,_,_,rfl,rfl,⟨aJ (hB i 0 hi (by decide)) (by decide),aJ (bY 0 (by decide)) (by decide)⟩,_,rfl,c,_,_,_,rfl,rfl,aW.of e2,rfl,_,rfl,_,_,rfl,rfl,⟨aJ (hB i 1 hi (by decide)) (by decide),aJ (bY 1 (by decide)) (by decide)⟩,_,_,rfl,rfl,_,rfl,c,_,_,_,rfl,rfl,aW.of e2,rfl,_,rfl,_,_,rfl,rfl,⟨aJ (hB i 2 hi (by decide)) (by decide),aJ (bY 2 (by decide)) (by decide)⟩,_,_,rfl,rfl,_,_,rfl,rfl,⟨aJ (bx i hi) (by decide),aJ bs (by decide)⟩,k H' (az.refl _)⟩
 ·have e:PySem.preSum (λi=>x i*(ent m i 0*y 0+ent m i 1*y 1+ent m i 2*y 2)) 3=au m x y:=by
   rw[aU]
   show 0+x 0*(ent m 0 0*y 0+ent m 0 1*y 1+ent m 0 2*y 2)+x 1*(ent m 1 0*y 0+ent m 1 1*y 1+ent m 1 2*y 2)+x 2*(ent m 2 0*y 0+ent m 2 1*y 1+ent m 2 2*y 2)=_
   grind
  have q:=q H' sm
  rw[<-e]at q
  exact q
inductive qN(T0:Addr)(vs:List V)(H:Hp)(Q:VK)(E:XK):Prop
 |mk(t:Addr)(bs:List Addr)(m:List (List Int))(a:Addr)(x:Nat->Int)(_:vs=[.ref t,.ref a])(_:Tab H t bs m)(_:cJ m)(_:Bd 1000 m)(_:bH H a x)(_:∀i,i<3->(x i).natAbs<2^1000)(_:H T0=some (dS T0))(_:∀H',az H H'->Q (.int (bE m x)) H')
theorem IF{aG:Addr}(F:fP K mg "worth" yC lX)(dN:dM P w K mg base cY 1 "pairing" iw (yH aG)):dM P w K mg base cY 2 "worth" lX (qN aG):=by
 refine F.ok IA (λvs H Q E h=> ?_) (λf cdv A outer s H vs Q E hr h=> ?_)
 ·obtain⟨t,bs,m,a,x,rfl,hT,ck,hB,hx,bx,hP,q⟩:=h
  rfl
 obtain⟨t,bs,m,a,x,rfl,hT,ck,hB,hx,bx,hP,q⟩:=h
 have hu:=hr.units
 refine⟨_,(dh (bh (ai bT (aR dN hr rfl aQ (af (pv 0) (af (pv 1) (af (pv 1) ak)))) ah))),?_⟩
 exact⟨_,rfl,_,rfl,_,rfl,t,bs,m,a,a,x,x,rfl,hT,ck,hB,hx,hx,bx,bx,hP,λH' sm=>⟨_,_,rfl,rfl,⟨by decide,by decide⟩,q H' sm⟩⟩
inductive vg(vs:List V)(H:Hp)(Q:VK)(E:XK):Prop
 |mk(a:Addr)(y:Nat->Int)(q:Int)(b:Addr)(x:Nat->Int)(_:vs=[.ref a,.int q,.ref b])(_:bH H a y)(_:bH H b x)(_:q.natAbs<2^4096)(_:∀i,i<3->(x i).natAbs<2^4096)(_:∀r H',az H H'->H r=none->bH H' r (iO y q x) ->Q (.ref r) H')
theorem we(F:fP K mg "less_times" lY gc)(fH:mg "zip"=none):dM P w K mg base cY 1 "less_times" gc vg:=by
 refine F.ok v9 (λvs H Q E h=> ?_) (λf cdv A outer s H vs Q E hr h=> ?_)
 ·obtain⟨a,y,q,b,x,rfl,hy,hx,bq,bx,k⟩:=h
  rfl
 obtain⟨a,y,q,b,x,rfl,hy,hx,bq,bx,k⟩:=h
 have hu:=hr.units
 refine⟨_,(dh (bh (BC (N2:=["row","times","other"]) (te:=(jn (Di λi j=> .int (i-j)) (b9 0) (jn (rI kY λi j=> .int (i*j)) (b9 3) (b9 1)))) rfl (BA rfl fH (af (pv 0) (af (pv 2) ak))) (by kernel_rfl) rfl (λ_ _ _=>by exact jZ (ai bW (pv 0) (ai aC (pv 3) (pv 1))))))),?_⟩
 refine⟨_,rfl,_,rfl,a,b,_,_,rfl,aW.of hy,aW.of hx,λD hD=>zT (aW.of hy) (aW.of hx) rfl (by show 3<=sizeLine;decide) hD (λu v=>match u,v with| .int i,.int j=> .int (i-q*j)|_,_=> .iW) (λn u v eu ev G Q' sm kk=> ?_) (λH5 s5 e5=>k D H5 s5 hD e5)⟩
 have hn:n<3:=(List.getElem?_eq_some_iff.mp eu).1
 have Sq:u= .int (y n):=by rcases bL hn with rfl|rfl|rfl<;>exact(Option.some.inj eu).symm
 have ev':v= .int (x n):=by rcases bL hn with rfl|rfl|rfl<;>exact(Option.some.inj ev).symm
 subst Sq ev'
 exact⟨_,rfl,_,rfl,_,rfl,_,_,rfl,rfl,⟨bq,bx n hn⟩,_,_,rfl,rfl,kk⟩
inductive LU(vs:List V)(H:Hp)(Q:VK)(E:XK):Prop
 |mk(P A:Int)(_:vs=[.int P,.int A])(_:0<A)(_:(2*A).natAbs.log2<9000)(_:Q (.int ((2*P+A)/(2*A))) H)
theorem Cs(F:fP K mg "nearest" rO lG):dM P w K mg base cY 1 "nearest" lG LU:=by
 refine F.ok Ci (λvs H Q E h=> ?_) (λf cdv A outer s H vs Q E hr h=> ?_)
 ·obtain⟨P,A,rfl,hA,bA,q⟩:=h
  rfl
 obtain⟨P,A,rfl,hA,bA,q⟩:=h
 have hu:=hr.units
 refine⟨_,(dh (bh (ai qw (ai aP (ai br ah (pv 0)) (pv 1)) (ai br ah (pv 1))))),?_⟩
 exact⟨_,rfl,_,_,rfl,rfl,.inl ⟨by decide,by decide⟩,_,rfl,_,_,rfl,rfl,_,rfl,_,_,rfl,rfl,.inl ⟨by decide,by decide⟩,_,_,rfl,rfl,⟨by show(0:Int)<2*A;omega,bA⟩,q⟩
inductive Al(T0:Addr)(vs:List V)(H:Hp)(Q:VK)(E:XK):Prop
 |mk(t:Addr)(bs:List Addr)(m:List (List Int))(a b:Addr)(x y:Nat->Int)(w:Int)(_:vs=[.ref t,.ref a,.ref b])(_:Tab H t bs m)(_:cJ m)(_:Bd 440 m)(_:b8 m)(_:bZ m=true)(_:bH H a x)(_:bH H b y)(_:∃t,bQ x y t≠0)(_:aN m x<=w)(_:aN m y<=w)(_:w.natAbs<2^446)(_:H T0=some (dS T0))(_:∀a' b' x' y' P H',lV m x' y'->gC m x y x' y'->aN m x'<=w->aN m y'<=w->az H H'->bH H' a' x'->bH H' b' y'->H' P=some (.tup [.ref a',.ref b']) ->Q (.ref P) H')
theorem wg{aG:Addr}(F:fP K mg "least_pair" lZ gS)(fB:dM P w K mg base cY 3 "less_times" gc vg)(rX:dM P w K mg base cY 3 "nearest" lG LU)(dN:dM P w K mg base cY 3 "pairing" iw (yH aG))(gZ:dM P w K mg base cY 3 "worth" lX (qN aG)):dM P w K mg base cY 4 "least_pair" gS (Al aG):=by
 refine F.ok kE (λvs H Q E h=> ?_) (λf cdv A outer s H vs Q E hr h=> ?_)
 ·obtain⟨t,bs,m,a,b,x,y,w,rfl,hT,ck,hB,ev,ab,hx,hy,⟨t0,ind⟩,wx,wy,bw,hP,q⟩:=h
  rfl
 obtain⟨t,bs,m,a,b,x,y,w,rfl,hT,ck,hB,ev,ab,hx,hy,⟨t0,ind⟩,wx,wy,bw,hP,q⟩:=h
 have hu:=hr.units
 refine⟨_,(dh (jF PassesOwn.never (lP ur) (mY (@aq _ _ _ _ _ (aE (i:=2) kE.nd rfl (Or.inl rfl) (aR fB hr rfl aQ (af (pv 2) (af (aR rX hr rfl aQ (af (aR dN hr rfl aQ (af (pv 0) (af (pv 1) (af (pv 2) ak)))) (af (aR dN hr rfl aQ (af (pv 0) (af (pv 1) (af (pv 1) ak)))) ak))) (af (pv 1) ak)))))
  (@aq _ _ _ _ _ (dW (bO Dn (aR gZ hr rfl aQ (af (pv 0) (af (pv 2) ak))) (aR gZ hr rfl aQ (af (pv 0) (af (pv 1) ak))) (cg _)) (@aL _ _ _ (bh (pF (af (pv 1) (af (pv 2) ak))))) eT)
  (@aL _ _ _ (qY (i:=1) (j:=2) rfl kE.nd rfl rfl (by decide) rfl rfl (af (pv 2) (af (pv 1) ak)) rfl))))))),?_⟩
 have Po:=gH (eG ev ck) ab
 have bits:∀z:Nat->Int,aN m z<=w-> ∀i,i<3->(z i).natAbs<2^666:=λz hz i hi=>nJ ev ck ab hB (by have:=dO Po z;(clear hi hu q hP wy wx ab;omega)) hi
 refine kR (λσ H'=> ∃(a' b':Addr)(x' y':Nat->Int),σ=[some (.ref t),some (.ref a'),some (.ref b')]/\az H H'/\bH H' a' x'/\bH H' b' y'/\gC m x y x' y'/\aN m x'<=w/\aN m y'<=w) (Ik m 1) ⟨a,b,x,y,rfl,az.refl _,hx,hy,gC.refl _ _ _,wx,wy⟩ (λσ H' hh=> ?_) ?_
 rotate_left
 ·rintro σ H' Q Q' h ⟨c,e,k⟩
  exact⟨c,e,h _ _ k⟩
 obtain⟨a',b',x',y',rfl,s1,hx',hy',pr,AZ,Ea⟩:=hh
 have KU:bQ x' y' t0≠0:=by
  obtain⟨e,he,hd⟩:=pr.det
  rw[hd]
  rcases he with rfl|rfl
  ·rw[Int.one_mul];exact ind
  ·intro z;apply ind;(clear hd Ea AZ bits hu ind q hP bw wy wx ab;omega)
 have nx:0<aN m x':=KJ Po λz=>KU (Ca z _ _)
 have bx:=bits x' AZ
 have bY:=bits y' Ea
 refine⟨true,rfl,GV ?_⟩
 have b1:∀z:Nat->Int,(∀i,i<3->(z i).natAbs<2^666) -> ∀i,i<3->(z i).natAbs<2^1000:=λz h i hi=>aJ (h i hi) (by decide)
 refine⟨_,rfl,_,rfl,_,rfl,_,rfl,t,bs,m,a',b',x',y',rfl,hT.same s1,ck,hB.mono (by decide),hx',hy',b1 _ bx,b1 _ bY,s1 _ _ hP,λH2 s2=> ?_⟩
 have s12:=s1.trans s2
 refine⟨_,rfl,_,rfl,_,rfl,t,bs,m,a',a',x',x',rfl,hT.same s12,ck,hB.mono (by decide),s2 _ _ hx',s2 _ _ hx',b1 _ bx,b1 _ bx,s12 _ _ hP,λH3 s3=> ?_⟩
 have Am:=s12.trans s3
 have Su:=s2.trans s3
 have bP:=jM (hB) bx bY
 have bA:=jM (hB) bx bx
 have lg:(2*aN m x').natAbs.log2<9000:=by
  refine(Nat.log2_lt (by(clear bA bP b1 bY bx KU Ea AZ bits hu ind q hP bw wy wx ab;omega))).mpr ?_
  have c0:(2*aN m x').natAbs<2^(2+1781):=cB (by decide) bA
  exact Nat.lt_of_lt_of_le c0 (Nat.pow_le_pow_right (by decide) (by decide))
 have bq:((2*au m x' y'+aN m x')/(2*aN m x')).natAbs<2^4096:=by
  refine Nat.lt_of_le_of_lt (jO _ (by omega)) ?_
  have c1:(2*au m x' y').natAbs<2^(2+1781):=cB (by decide) bP
  exact aJ (lT c1 (aJ bA (show 666+440+666+9<=2+1781 by decide))) (by decide)
 refine⟨_,_,rfl,nx,lg,_,rfl,b',y',_,a',x',rfl,Su _ _ hy',Su _ _ hx',bq,(λi hi=>aJ (bx i hi) (by decide)),λr H4 s4 fr er=> ?_⟩
 have Ct:=Am.trans s4
 have Nu:=Su.trans s4
 have wl:=Int.le_trans (Il ev (y:=y') nx) Ea
 have bl:=bits _ wl
 have pl:=pr.trans (gC.less ev (y:=y') nx)
 have lp:=Fi ev (y:=y') nx
 have ax:bH H4 a' x':=Nu _ _ hx'
 have Sv:=rB (m:=m) (i:=1) (σ:=[some (.ref t),some (.ref a'),some (.ref b')]) (by rfl) hx'
 generalize iO y' ((2*au m x' y'+aN m x')/(2*aN m x')) x'=z at er wl bl pl lp
 refine⟨_,rfl,_,rfl,t,bs,m,r,z,rfl,hT.same Ct,ck,hB.mono (by decide),er,b1 _ bl,Ct _ _ hP,λH5 s5=> ?_⟩
 refine⟨_,rfl,_,rfl,t,bs,m,a',x',rfl,hT.same (Ct.trans s5),ck,hB.mono (by decide),s5 _ _ ax,b1 _ bx,(Ct.trans s5) _ _ hP,λH6 s6=> ?_⟩
 have Oh:=s5.trans s6
 have Nv:=Ct.trans Oh
 have ez:=dg ev z
 have ex:=dg ev x'
 refine⟨_,_,rfl,rfl,_,rfl,iL (λc=> ?_) (λc=> ?_)⟩
 ·have c:bE m x'<=bE m z:=of_decide_eq_true c
  refine⟨_,rfl,_,rfl,(by show 2<=sizeLine;decide),λP QH=> ?_⟩
  have uP:=az.up (o:= .tup [.ref a',.ref r]) QH
  exact q a' r x' z P _ ⟨nx,by show au m x' x'<=au m z z;(clear QH lp bl wl Sv fr bq lg bA bP b1 bY bx nx KU Ea AZ bits hu ind q hP bw wy wx ab;omega),lp.1,lp.2⟩ pl AZ wl (Nv.trans uP) ((Oh.trans uP) _ _ ax) ((Oh.trans uP) _ _ er) av
 ·have c:¬bE m x'<=bE m z:=λy=>c (decide_eq_true y)
  refine⟨_,rfl,_,rfl,_,_,rfl,?_⟩
  refine⟨⟨r,a',z,x',rfl,Nv,Oh _ _ er,Oh _ _ ax,pl.swap,wl,AZ⟩,?_⟩
  have at2:=rB (m:=m) (i:=1) (σ:=[some (.ref t),some (.ref r),some (.ref a')]) (by rfl) (Oh _ _ er)
  show Ik m 1 [some (.ref t),some (.ref r),some (.ref a')] H6<Ik m 1 [some (.ref t),some (.ref a'),some (.ref b')] H'
  rw[Sv,at2]
  have:=dO Po z
  have e1:aN m z=au m z z:=rfl
  have e2:aN m x'=au m x' x':=rfl
  (clear at2 lp bl wl Sv fr bq lg bA bP b1 bY bx KU Ea AZ bits hu ind q hP bw wy wx ab;omega)
inductive yI(T1 T0:Addr)(vs:List V)(H:Hp)(Q:VK)(E:XK):Prop
 |mk(t:Addr)(bs:List Addr)(m:List (List Int))(p:Addr)(as:List Addr)(X:Addr->Nat->Int)(_:vs=[.ref t,.ref p])(_:Tab H t bs m)(_:cJ m)(_:Bd 440 m)(_:H p=some (.lst (as.map V.ref)))(_:as.length<64)(_:∀b∈as,bH H b (X b))(_:∀b∈as,(∀i,i<3->(X b i).natAbs<2^1000))(_:H T1=some (dS T1))(_:H T0=some .zu)(_:∀(Hn:Hp) (zs:List Addr),az H Hn->zs.Perm as->zs.Pairwise (λa b=>bE m (X a)<=bE m (X b)) -> ∀r,Hn r=none->Q (.ref r) (upd Hn r (.lst (zs.map V.ref))))
theorem An{aG aS:Addr}(F:qK K mg "in_order" pR iy aS)(bm:BM mg base)(aM:mg "sorted"=none)(gZ:dM P w K mg base cY 3 "worth" lX (qN aG)):dM P w K mg base cY 7 "in_order" iy (yI aG aS):=by
 refine F.ok Ae (λvs H Q E h=> ?_) (λf cdv A outer s H vs Q E cd hr h=> ?_)
 ·obtain⟨t,bs,m,p,as,X,rfl,hT,ck,hB,hp,Up,hX,bX,hP,hC,q⟩:=h
  rfl
 obtain⟨t,bs,m,p,as,X,rfl,hT,ck,hB,hp,Up,hX,bX,hP,hC,q⟩:=h
 have hu:=hr.units
 refine⟨_,(dh (bh (Ft (N2:=["form","rows"]) (tb:=(mT (qN aG) [] E0 (eE (b9 1) (eE (b9 0) kT)))) rfl hr cd bm rfl aM (pv 1) (by kernel_rfl) (λ_ _ _ _ _ _=>rfl) (λ_ _ _ _ _=>by exact jZ (aR gZ (Ij hr) rfl aQ (af (pv 1) (af (pv 0) ak))))))),?_⟩
 refine⟨_,rfl,p,as.map V.ref,(λv=>match v with| .ref b=>bE m (X b)|_=>0),rfl,aW.of hp,(by rw[List.length_map];exact Up),hC,(λv hv Hi si=> ?_),λHn zs sn pz so r hr=> ?_⟩
 ·obtain⟨b,rfl,hb⟩:=zP hv
  exact⟨_,rfl,_,rfl,t,bs,m,b,X b,rfl,hT.same si,ck,hB.mono (by decide),si _ _ (hX b hb),bX b hb,si _ _ hP,λH' s=>⟨rfl,s⟩⟩
 ·obtain⟨zs,rfl,VY⟩:=Fd pz
  rw[List.pairwise_map]at so
  exact q Hn zs sn VY so r hr
inductive II(T1 T0:Addr)(vs:List V)(H:Hp)(Q:VK)(E:XK):Prop
 |mk(t:Addr)(bs:List Addr)(m:List (List Int))(a b c:Addr)(x y z:Nat->Int)(_:vs=[.ref t,.ref a,.ref b,.ref c])(_:Tab H t bs m)(_:cJ m)(_:Bd 440 m)(_:b8 m)(_:bZ m=true)(_:bH H a x)(_:bH H b y)(_:bH H c z)(_:lV m x y)(_:∀i,i<3->(x i).natAbs<2^666)(_:∀i,i<3->(y i).natAbs<2^666)(_:∀i,i<3->(z i).natAbs<2^666)(_:(aA m*(bQ x y z*bQ x y z)).natAbs<2^448)(_:(aN m y).natAbs<2^446)(_:H T1=some (dS T1))(_:H T0=some .zu)(_:∀r z' H',Drawn m x y z z'->az H H'->bH H' r z'->Q (.ref r) H')
theorem Ao{aG aS:Addr}(F:fP K mg "drawn_in" pT jR)(dN:dM P w K mg base cY 7 "pairing" iw (yH aG))(fB:dM P w K mg base cY 7 "less_times" gc vg)(gE:dM P w K mg base cY 7 "in_order" iy (yI aG aS)):dM P w K mg base cY 8 "drawn_in" jR (II aG aS):=by
 refine F.ok fZ (λvs H Q E h=> ?_) (λf cdv A outer s H vs Q E hr h=> ?_)
 ·obtain⟨t,bs,m,a,b,c,x,y,z,rfl,hT,ck,hB,ev,ab,ha,hb,hc,lp,bx,bY,bz,bd,bw,hP,hC,q⟩:=h
  rfl
 obtain⟨t,bs,m,a,b,c,x,y,z,rfl,hT,ck,hB,ev,ab,ha,hb,hc,lp,bx,bY,bz,bd,bw,hP,hC,q⟩:=h
 have hu:=hr.units
 refine⟨_,(mY (@aq _ _ _ _ _ (Kh (i:=4) (j:=5) (k:=6) rfl fZ.nd rfl rfl rfl (by decide) (by decide) (by decide) rfl rfl rfl (af (aR dN hr rfl aQ (af (pv 0) (af (pv 1) (af (pv 1) ak)))) (af (aR dN hr rfl aQ (af (pv 0) (af (pv 1) (af (pv 2) ak)))) (af (aR dN hr rfl aQ (af (pv 0) (af (pv 2) (af (pv 2) ak)))) ak))) rfl)
  (@aq _ _ _ _ _ (qY (i:=7) (j:=8) rfl fZ.nd rfl rfl (by decide) rfl rfl (af (aR dN hr rfl aQ (af (pv 0) (af (pv 1) (af (pv 3) ak)))) (af (aR dN hr rfl aQ (af (pv 0) (af (pv 2) (af (pv 3) ak)))) ak)) rfl)
  (@aq _ _ _ _ _ (aE (i:=9) fZ.nd rfl (Or.inl rfl) (ai bW (ai aC (pv 4) (pv 6)) (ai aC (pv 5) (pv 5))))
  (@aq _ _ _ _ _ (aE (i:=10) fZ.nd rfl (Or.inl rfl) (ai qw (ai bW (ai aC (pv 6) (pv 7)) (ai aC (pv 5) (pv 8))) (pv 9)))
  (@aq _ _ _ _ _ (aE (i:=11) fZ.nd rfl (Or.inl rfl) (ai qw (ai bW (ai aC (pv 4) (pv 8)) (ai aC (pv 5) (pv 7))) (pv 9)))
  (@aq _ _ _ _ _ (aE (i:=12) fZ.nd rfl (Or.inl rfl) (cV (af (pF (af (pv 10) (af (pv 11) ak))) (af (pF (af (pv 10) (af (ai aP (pv 11) ah) ak))) (af (pF (af (ai aP (pv 10) ah) (af (pv 11) ak))) (af (pF (af (ai aP (pv 10) ah) (af (ai aP (pv 11) ah) ak))) ak))))))
  (@aL _ _ _ (bh (aF ay (aR gE hr rfl aQ (af (pv 0) (af (BC (N2:=["form","one","other","third","across","along","aside","by_one","by_other","area","first","second","corners"]) (te:=(mT vg [] E0 (eE (mT vg [] E0 (eE (b9 5) (eE (b9 0) (eE (b9 3) kT)))) (eE (b9 1) (eE (b9 4) kT))))) rfl (gP (pv 12)) (by kernel_rfl) rfl (λ_ _ _=>by exact jZ (aR fB hr rfl aQ (af (aR fB hr rfl aQ (af (pv 5) (af (pv 0) (af (pv 3) ak)))) (af (pv 1) (af (pv 4) ak)))))) ak))) ah (λ_ _=>rfl))))))))))),?_⟩
 have b1:∀v:Nat->Int,(∀i,i<3->(v i).natAbs<2^666) -> ∀i,i<3->(v i).natAbs<2^1000:=λv h i hi=>aJ (h i hi) (by decide)
 have Po:=gH (eG ev ck) ab
 obtain⟨_,ap⟩:=lp.yx
 have s0:=az.refl H
 refine⟨_,rfl,_,rfl,_,rfl,t,bs,m,a,a,x,x,rfl,hT.same s0,ck,hB.mono (by decide),s0 _ _ ha,s0 _ _ ha,b1 _ bx,b1 _ bx,s0 _ _ hP,λH1 s1=> ?_⟩
 refine⟨_,rfl,_,rfl,_,rfl,t,bs,m,a,b,x,y,rfl,hT.same s1,ck,hB.mono (by decide),s1 _ _ ha,s1 _ _ hb,b1 _ bx,b1 _ bY,s1 _ _ hP,λH2 s2=> ?_⟩
 have s12:=s1.trans s2
 refine⟨_,rfl,_,rfl,_,rfl,t,bs,m,b,b,y,y,rfl,hT.same s12,ck,hB.mono (by decide),s12 _ _ hb,s12 _ _ hb,b1 _ bY,b1 _ bY,s12 _ _ hP,λH3 s3=> ?_⟩
 have Am:=s12.trans s3
 refine⟨_,_,_,rfl,?_⟩
 refine⟨_,rfl,_,rfl,_,rfl,t,bs,m,a,c,x,z,rfl,hT.same Am,ck,hB.mono (by decide),Am _ _ ha,Am _ _ hc,b1 _ bx,b1 _ bz,Am _ _ hP,λH4 s4=> ?_⟩
 have Ct:=Am.trans s4
 refine⟨_,rfl,_,rfl,_,rfl,t,bs,m,b,c,y,z,rfl,hT.same Ct,ck,hB.mono (by decide),Ct _ _ hb,Ct _ _ hc,b1 _ bY,b1 _ bz,Ct _ _ hP,λH5 s5=> ?_⟩
 have PU:=Ct.trans s5
 refine⟨_,_,rfl,?_⟩
 have c1:=jM hB bx bx
 have c2:=jM hB bx bY
 have c3:=jM hB bY bY
 have c4:=jM hB bx bz
 have c5:=jM hB bY bz
 have up:∀{v:Int},v.natAbs<2^(666+440+666+9) ->v.natAbs<2^4096:=λh=>aJ h (by decide)
 refine⟨_,rfl,_,rfl,_,_,rfl,rfl,⟨up c1,up c3⟩,_,rfl,_,rfl,_,_,rfl,rfl,⟨up c2,up c2⟩,_,_,rfl,rfl,?_⟩
 have bA:(ao m x y).natAbs<2^3600:=aJ (ku (cB c1 c3) (cB c2 c2)) (by decide)
 have bS:(bI m x y z).natAbs<2^3600:=aJ (ku (cB c3 c4) (cB c2 c5)) (by decide)
 have bR:(bJ m x y z).natAbs<2^3600:=aJ (ku (cB c1 c5) (cB c2 c4)) (by decide)
 have lg:(ao m x y).natAbs.log2<9000:=(Nat.log2_lt (by show(ao m x y).natAbs≠0;have:0<ao m x y:=ap;(clear bR bS bA up c5 c4 c3 c2 c1 ap b1 hu q hC hP bw bd bz bY bx ab;omega))).mpr (Nat.lt_of_lt_of_le bA (Nat.pow_le_pow_right (by decide) (by decide)))
 refine⟨_,rfl,_,rfl,_,_,rfl,rfl,⟨up c3,up c4⟩,_,rfl,_,rfl,_,_,rfl,rfl,⟨up c2,up c5⟩,_,_,rfl,rfl,_,rfl,_,_,rfl,rfl,⟨ap,lg⟩,?_⟩
 refine⟨_,rfl,_,rfl,_,_,rfl,rfl,⟨up c1,up c5⟩,_,rfl,_,rfl,_,_,rfl,rfl,⟨up c2,up c4⟩,_,_,rfl,rfl,_,rfl,_,_,rfl,rfl,⟨ap,lg⟩,?_⟩
 have bF:(bI m x y z/ao m x y).natAbs<2^3600:=Nat.lt_of_le_of_lt (jO _ ap) bS
 have bG:(bJ m x y z/ao m x y).natAbs<2^3600:=Nat.lt_of_le_of_lt (jO _ ap) bR
 refine⟨_,rfl,_,rfl,(by show 2<=sizeLine;decide),λp0 g0=>⟨_,rfl,_,rfl,_,_,rfl,rfl,(by show 2<=sizeLine;decide),λp1 g1=>⟨_,rfl,_,_,rfl,rfl,_,rfl,(by show 2<=sizeLine;decide),λp2 g2=>⟨_,rfl,_,_,rfl,rfl,_,rfl,_,_,rfl,rfl,(by show 2<=sizeLine;decide),λp3 g3=>⟨(by show 4<=sizeLine;decide),λL gL=> ?_⟩⟩⟩⟩⟩
 have v0:=az.up (o:= .tup [.int (bI m x y z/ao m x y),.int (bJ m x y z/ao m x y)]) g0
 have v1:=az.up (o:= .tup [.int (bI m x y z/ao m x y),.int ((bJ m x y z/ao m x y)+1)]) g1
 have v2:=az.up (o:= .tup [.int ((bI m x y z/ao m x y)+1),.int (bJ m x y z/ao m x y)]) g2
 have v3:=az.up (o:= .tup [.int ((bI m x y z/ao m x y)+1),.int ((bJ m x y z/ao m x y)+1)]) g3
 have vL:=az.up (o:= .lst [.ref p0,.ref p1,.ref p2,.ref p3]) gL
 have Uq:=v3.trans vL
 have Ur:=v2.trans Uq
 have Us:=v1.trans Ur
 have vv:=v0.trans Us
 have t0:=Us _ _ (av (H:=H5) (a:=p0) (o:= .tup [.int (bI m x y z/ao m x y),.int (bJ m x y z/ao m x y)]))
 have t1:=Ur _ _ (av (a:=p1) (o:= .tup [.int (bI m x y z/ao m x y),.int ((bJ m x y z/ao m x y)+1)]))
 have t2:=Uq _ _ (av (a:=p2) (o:= .tup [.int ((bI m x y z/ao m x y)+1),.int (bJ m x y z/ao m x y)]))
 have t3:=vL _ _ (av (a:=p3) (o:= .tup [.int ((bI m x y z/ao m x y)+1),.int ((bJ m x y z/ao m x y)+1)]))
 have Nx:=PU.trans vv
 refine⟨_,rfl,_,rfl,L,rfl,⟨_,aW.of av⟩,λD hD=>Fe (lS (aW.of av)) (by show 4<=sizeLine;decide) hD (λj=> .int (if j<2 then(bI m x y z/ao m x y)else(bI m x y z/ao m x y)+1)) (λj=> .int (if j%2=0 then(bJ m x y z/ao m x y)else(bJ m x y z/ao m x y)+1)) (λj v ev'=> ?_) (λj v H=> ∃r,v= .ref r/\r≠D/\bH H r (bU z (if j<2 then(bI m x y z/ao m x y)else(bI m x y z/ao m x y)+1) x (if j%2=0 then(bJ m x y z/ao m x y)else(bJ m x y z/ao m x y)+1) y)) (λj v H H' h off=> ?_) (λj hj H6 Q6 s6 eD k6=> ?_) (λws H6 s6 lw rel eD=> ?_)⟩
 ·have hj:j<4:=(List.getElem?_eq_some_iff.mp ev').1
  obtain rfl|rfl|rfl|rfl:j=0∨j=1∨j=2∨j=3:=by(clear ev' hD t3 t2 t1 t0 gL g3 g2 g1 g0 bG bF lg bR bS bA up c5 c4 c3 c2 c1 ap b1 hu q hC hP bw bd bz bY bx ab;omega)
  ·exact⟨p0,(Option.some.inj ev').symm,vS.of t0⟩
  ·exact⟨p1,(Option.some.inj ev').symm,vS.of t1⟩
  ·exact⟨p2,(Option.some.inj ev').symm,vS.of t2⟩
  ·exact⟨p3,(Option.some.inj ev').symm,vS.of t3⟩
 ·obtain⟨r,e,nr,hr⟩:=h
  exact⟨r,e,nr,off _ _ nr hr⟩
 ·have sa:=Nx.trans s6
  have b4:∀{v:Int},v.natAbs<2^3600->(v+1).natAbs<2^4096:=λh=>aJ (lT h (show(1:Int).natAbs<2^3600 from aJ (a:=1) (by decide) (by decide))) (by decide)
  have bi:(if j<2 then(bI m x y z/ao m x y)else(bI m x y z/ao m x y)+1).natAbs<2^4096:=by split;exact aJ bF (by decide);exact b4 bF
  have bj:(if j%2=0 then(bJ m x y z/ao m x y)else(bJ m x y z/ao m x y)+1).natAbs<2^4096:=by split;exact aJ bG (by decide);exact b4 bG
  obtain⟨oD,eD⟩:=eD
  refine⟨_,rfl,_,rfl,_,rfl,c,z,_,a,x,rfl,sa _ _ hc,sa _ _ ha,bi,(λi hi=>aJ (bx i hi) (by decide)),λr1 H7 s7 f1 e1=> ?_⟩
  refine⟨_,rfl,_,rfl,r1,_,_,b,y,rfl,e1,(sa.trans s7) _ _ hb,bj,(λi hi=>aJ (bY i hi) (by decide)),λr2 H8 s8 f2 e2=> ?_⟩
  exact k6 (.ref r2) H8 (s7.trans s8) ⟨r2,rfl,(λw=>by rw[w,s7 _ _ eD]at f2;cases f2),e2⟩
 have Sw:ws.length=4:=lw
 obtain⟨w0,w1,w2,w3,rfl⟩:∃a b c d,ws=[a,b,c,d]:=by
  match ws,Sw with
  | [a,b,c,d],_=>exact⟨a,b,c,d,rfl⟩
 obtain⟨r0,rfl,_,x0⟩:=rel 0 _ rfl
 obtain⟨r1,rfl,_,x1⟩:=rel 1 _ rfl
 obtain⟨r2,rfl,_,x2⟩:=rel 2 _ rfl
 obtain⟨r3,rfl,_,x3⟩:=rel 3 _ rfl
 have x0:bH H6 r0 (bU z (bI m x y z/ao m x y) x (bJ m x y z/ao m x y) y):=x0
 have x1:bH H6 r1 (bU z (bI m x y z/ao m x y) x ((bJ m x y z/ao m x y)+1) y):=x1
 have x2:bH H6 r2 (bU z ((bI m x y z/ao m x y)+1) x (bJ m x y z/ao m x y) y):=x2
 have x3:bH H6 r3 (bU z ((bI m x y z/ao m x y)+1) x ((bJ m x y z/ao m x y)+1) y):=x3
 have Nv:=Nx.trans s6
 have D0:0<=aA m:=Int.le_of_lt (fL ab).2.2
 have each:∀r∈ [r0,r1,r2,r3],∃i j,(i=(bI m x y z/ao m x y)∨i=(bI m x y z/ao m x y)+1)/\(j=(bJ m x y z/ao m x y)∨j=(bJ m x y z/ao m x y)+1)/\bH H6 r (bU z i x j y):=λr hr=>by
  simp only[List.mem_cons,List.not_mem_nil,or_false]at hr
  rcases hr with rfl|rfl|rfl|rfl
  ·exact⟨_,_,.inl rfl,.inl rfl,x0⟩
  ·exact⟨_,_,.inl rfl,.inr rfl,x1⟩
  ·exact⟨_,_,.inr rfl,.inl rfl,x2⟩
  ·exact⟨_,_,.inr rfl,.inr rfl,x3⟩
 have same:∀{r:Addr}{v:Nat->Int},bH H6 r v->aN m (dQ (j3 H6 r))=aN m v:=λh=>fV (gR h) (gR h)
 refine⟨t,bs,m,D,[r0,r1,r2,r3],(λr=>dQ (j3 H6 r)),rfl,hT.same Nv,ck,hB,eD,(by show 4<64;decide),(λr hr=> ?_),(λr hr i hi=> ?_),Nv _ _ hP,Nv _ _ hC,λHn zs sn pz so p hp=> ?_⟩
 ·obtain⟨i,j,_,_,h⟩:=each r hr
  exact yy h
 ·obtain⟨i',j',hi',hj',h⟩:=each r hr
  show(dQ (j3 H6 r) i).natAbs<2^1000
  rw[gR h i hi]
  have cl:=Fl ev lp hi' hj' D0
  have n0:=dO Po (bU z i' x j' y)
  refine aJ (nJ ev ck ab hB ?_ hi) (by decide)
  have k1:=Int.mul_nonneg D0 (bf (bQ x y z))
  have k2:0<=aN m y:=dO Po y
  have k3:(aA m*(bQ x y z*bQ x y z)+3*aN m y).natAbs<2^(448+1):=lT bd (aJ (cB (show(3:Int).natAbs<2^2 by decide) bw) (by decide))
  refine Nat.lt_of_le_of_lt ?_ (aJ k3 (show 448+1<=450 by decide))
  (clear hj' hi' hi same each D0 Sw eD rel lw hD t3 t2 t1 t0 gL g3 g2 g1 g0 bG bF lg bR bS bA up c5 c4 c3 c2 c1 ap b1 hu q hC hP bw bd bz bY bx ab;omega)
 have VZ:∃Wa rest,zs=Wa::rest:=by
  cases zs with
  |nil=>have:=pz.length_eq;simp at this
  |cons r rest=>exact⟨r,rest,rfl⟩
 obtain⟨rz,rest,rfl⟩:=VZ
 obtain⟨i,j,hi,hj,hz⟩:=each rz (pz.mem_iff.mp List.mem_cons_self)
 have least:∀r∈ [r0,r1,r2,r3],aN m (bU z i x j y)<=aN m (dQ (j3 H6 r)):=λr hr=>by
  rw[<-same hz]
  rcases List.mem_cons.mp (pz.mem_iff.mpr hr)with e|hr'
  ·rw[e]
   exact Int.le_refl _
  ·have:bE m (dQ (j3 H6 rz))<=bE m (dQ (j3 H6 r)):=(List.pairwise_cons.mp so).1 r hr'
   have p1:=dg ev (dQ (j3 H6 rz))
   have p2:=dg ev (dQ (j3 H6 r))
   show au m _ _<=au m _ _
   (clear hj hi hp same each D0 Sw eD rel lw hD t3 t2 t1 t0 gL g3 g2 g1 g0 bG bF lg bR bS bA up c5 c4 c3 c2 c1 ap b1 hu q hC hP bw bd bz bY bx ab;omega)
 have sF:=Nv.trans (sn.trans (az.up (o:= .lst ((rz::rest).map V.ref)) hp))
 refine⟨p,_,_,_,rfl,rfl,aW.of av,HS,q rz _ _ (Iq ev lp hi hj λi' j' hi' hj'=> ?_) sF ((sn.trans (az.up hp)) _ _ hz)⟩
 rcases hi' with rfl|rfl<;>rcases hj' with rfl|rfl
 ·rw[<-same x0];exact least r0 (by simp)
 ·rw[<-same x1];exact least r1 (by simp)
 ·rw[<-same x2];exact least r2 (by simp)
 ·rw[<-same x3];exact least r3 (by simp)
inductive Eb(T1 T0:Addr)(vs:List V)(H:Hp)(Q:VK)(E:XK):Prop
 |mk(t:Addr)(bs:List Addr)(m:List (List Int))(_:vs=[.ref t])(_:Tab H t bs m)(_:cJ m)(_:Bd 440 m)(_:b8 m)(_:bZ m=true)(_:(aA m).natAbs<2^440)(_:H T1=some (dS T1))(_:H T0=some .zu)(_:∀(r a b c:Addr) (x y z:Nat->Int) H',DT m x y z->az H H'->H r=none->H' r=some (.lst [.ref a,.ref b,.ref c]) ->bH H' a x->bH H' b y->bH H' c z->Q (.ref r) H')
theorem wj{aG aS:Addr}(F:fP K mg "near_basis" l5 gT)(gE:dM P w K mg base cY 8 "in_order" iy (yI aG aS))(mj:dM P w K mg base cY 8 "least_pair" gS (Al aG))(pX:dM P w K mg base cY 8 "drawn_in" jR (II aG aS))(gZ:dM P w K mg base cY 8 "worth" lX (qN aG)):dM P w K mg base cY 9 "near_basis" gT (Eb aG aS):=by
 refine F.ok cO (λvs H Q E h=> ?_) (λf cdv A outer s H vs Q E hr h=> ?_)
 ·obtain⟨t,bs,m,rfl,hT,ck,hB,ev,ab,bD,hP,hC,q⟩:=h
  rfl
 obtain⟨t,bs,m,rfl,hT,ck,hB,ev,ab,bD,hP,hC,q⟩:=h
 have hu:=hr.units
 refine⟨_,(mY (@aq _ _ _ _ _ (ni (aR gE hr rfl aQ (af (pv 0) (af (cV (af (cV (af ah (af ah (af ah ak)))) (af (cV (af ah (af ah (af ah ak)))) (af (cV (af ah (af ah (af ah ak)))) ak)))) ak))) (ju rfl (aT (aV (i:=1) cO.nd rfl (Or.inl rfl)) (aT (aV (i:=2) cO.nd rfl (Or.inl rfl)) (aT (aV (i:=3) cO.nd rfl (Or.inl rfl)) gb)))))
  (@aL _ _ _ (jF PassesOwn.never (lP ur) (mY (@aq _ _ _ _ _ (ni (aR mj hr rfl aQ (af (pv 0) (af (pv 1) (af (pv 2) ak)))) (xS rfl (aT (aV (i:=1) cO.nd rfl (Or.inl rfl)) (aT (aV (i:=2) cO.nd rfl (Or.inl rfl)) gb))))
  (@aq _ _ _ _ _ (aE (i:=3) cO.nd rfl (Or.inl rfl) (aR pX hr rfl aQ (af (pv 0) (af (pv 1) (af (pv 2) (af (pv 3) ak))))))
  (@aq _ _ _ _ _ (dW (bO Dn (aR gZ hr rfl aQ (af (pv 0) (af (pv 3) ak))) (aR gZ hr rfl aQ (af (pv 0) (af (pv 2) ak))) (cg _)) (@aL _ _ _ (bh (cV (af (pv 1) (af (pv 2) (af (pv 3) ak)))))) eT)
  (@aL _ _ _ (ni (aR gE hr rfl aQ (af (pv 0) (af (cV (af (pv 1) (af (pv 2) (af (pv 3) ak)))) ak))) (ju rfl (aT (aV (i:=1) cO.nd rfl (Or.inl rfl)) (aT (aV (i:=2) cO.nd rfl (Or.inl rfl)) (aT (aV (i:=3) cO.nd rfl (Or.inl rfl)) gb)))))))))))))),?_⟩
 have Po:=gH (eG ev ck) ab
 have bits:∀z:Nat->Int,aN m z<=(2^440:Int) -> ∀i,i<3->(z i).natAbs<2^666:=λz hz i hi=>nJ ev ck ab hB (by have:=dO Po z;(clear hi hu q hC hP bD ab;omega)) hi
 have b1:∀v:Nat->Int,(∀i,i<3->(v i).natAbs<2^666) -> ∀i,i<3->(v i).natAbs<2^1000:=λv h i hi=>aJ (h i hi) (by decide)
 have ord:∀{H1:Hp}{a b c:Addr}{x y z:Nat->Int},bH H1 a x->bH H1 b y->bH H1 c z->(bQ x y z=1∨bQ x y z= -1) ->aN m x<=(2^440:Int) ->aN m y<=(2^440:Int) ->aN m z<=(2^440:Int) ->
   (∀r∈ [a,b,c],bH H1 r (dQ (j3 H1 r)))/\(∀r∈ [a,b,c],∀i,i<3->(dQ (j3 H1 r) i).natAbs<2^1000)/\ ∀zs:List Addr,zs.Perm [a,b,c] ->zs.Pairwise (λa b=>bE m (dQ (j3 H1 a))<=bE m (dQ (j3 H1 b))) ->
   ∃(p q r:Addr)(x1 y1 z1:Nat->Int),zs=[p,q,r]/\bH H1 p x1/\bH H1 q y1/\bH H1 r z1/\(bQ x1 y1 z1=1∨bQ x1 y1 z1= -1)/\aN m x1<=(2^440:Int)/\aN m y1<=(2^440:Int)/\aN m z1<=(2^440:Int)/\aN m x1+aN m y1<=aN m x+aN m z:=λ {H1 a b c x y z} ha hb hc un wx wy wz=>by
  have same:∀{r:Addr}{v:Nat->Int},bH H1 r v->aN m (dQ (j3 H1 r))=aN m v:=λh=>fV (gR h) (gR h)
  have each:∀r∈ [a,b,c],bH H1 r (dQ (j3 H1 r))/\aN m (dQ (j3 H1 r))<=(2^440:Int):=λr hr=>by
   simp only[List.mem_cons,List.not_mem_nil,or_false]at hr
   rcases hr with rfl|rfl|rfl
   ·exact⟨yy ha,by rw[same ha];exact wx⟩
   ·exact⟨yy hb,by rw[same hb];exact wy⟩
   ·exact⟨yy hc,by rw[same hc];exact wz⟩
  refine⟨λr hr=>(each r hr).1,λr hr=>b1 _ (bits _ (each r hr).2),λzs pz so=> ?_⟩
  obtain⟨p,q,r,rfl,hp,hq,hr,dt,sum⟩:=Nr (X:=λr=>dQ (j3 H1 r)) ev pz so
  refine⟨p,q,r,_,_,_,rfl,(each p hp).1,(each q hq).1,(each r hr).1,?_,(each p hp).2,(each q hq).2,(each r hr).2,by rw[<-same ha,<-same hc];exact sum⟩
  have e:=Iv (gR ha) (gR hb) (gR hc)
  rcases un with u|u<;>rcases dt with d|d<;>rw[e,u]at d<;>rw[d]<;>simp
 refine⟨_,rfl,(by show 3<=sizeLine;decide),λa0 h0=>⟨(by show 3<=sizeLine;decide),λa1 h1=>⟨(by show 3<=sizeLine;decide),λa2 h2=>⟨(by show 3<=sizeLine;decide),λA hA=> ?_⟩⟩⟩⟩
 have v0:=az.up (o:= .lst [.int 1,.int 0,.int 0]) h0
 have v1:=az.up (o:= .lst [.int 0,.int 1,.int 0]) h1
 have v2:=az.up (o:= .lst [.int 0,.int 0,.int 1]) h2
 have vA:=az.up (o:= .lst [.ref a0,.ref a1,.ref a2]) hA
 have sA:=v0.trans (v1.trans (v2.trans vA))
 have r0:bH _ a0 (pq 0 1):=vA _ _ (v2 _ _ (v1 _ _ (av (H:=H) (a:=a0) (o:= .lst [.int 1,.int 0,.int 0]))))
 have r1:bH _ a1 (pq 1 1):=vA _ _ (v2 _ _ (av (a:=a1) (o:= .lst [.int 0,.int 1,.int 0])))
 have r2:bH _ a2 (pq 2 1):=vA _ _ (av (a:=a2) (o:= .lst [.int 0,.int 0,.int 1]))
 have wE:∀i,i<3->aN m (pq i 1)<=(2^440:Int):=λi hi=>by
  rw[nK m hi]
  have:=hB i i hi hi
  omega
 obtain⟨o1,o2,o3⟩:=ord r0 r1 r2 (.inl (by decide)) (wE 0 (by decide)) (wE 1 (by decide)) (wE 2 (by decide))
 refine⟨t,bs,m,A,[a0,a1,a2],_,rfl,hT.same sA,ck,hB,av,(by show 3<64;decide),o1,o2,sA _ _ hP,sA _ _ hC,λHn zs sn pz so R hR=> ?_⟩
 obtain⟨a,b,c,x,y,z,rfl,hx,hy,hz,un,wx,wy,wz,_⟩:=o3 zs pz so
 have uR:=az.up (o:= .lst ([a,b,c].map V.ref)) hR
 have s1:=sn.trans uR
 have hx:=s1 _ _ hx
 have hy:=s1 _ _ hy
 have hz:=s1 _ _ hz
 have eR:upd Hn R (.lst ([a,b,c].map V.ref)) R=some (.lst [.ref a,.ref b,.ref c]):=av
 have sH:=sA.trans s1
 refine⟨R,[.ref a,.ref b,.ref c],rfl,aW.of eR,rfl,_,_,rfl,_,_,rfl,_,_,rfl,rfl,?_⟩
 refine kR (λσ H'=> ∃(a b c:Addr)(x y z:Nat->Int),σ=[some (.ref t),some (.ref a),some (.ref b),some (.ref c)]/\az H H'/\bH H' a x/\bH H' b y/\bH H' c z/\(bQ x y z=1∨bQ x y z= -1)/\aN m x<=(2^440:Int)/\aN m y<=(2^440:Int)/\aN m z<=(2^440:Int)) (λσ H=>Ik m 1 σ H+Ik m 2 σ H) ⟨a,b,c,x,y,z,rfl,sH,hx,hy,hz,un,wx,wy,wz⟩ (λσ H' hh=> ?_) ?_
 rotate_left
 ·rintro σ H' Q Q' h ⟨c,e,k⟩
  exact⟨c,e,h _ _ k⟩
 obtain⟨a,b,c,x,y,z,rfl,s1,hx,hy,hz,un,wx,wy,wz⟩:=hh
 refine⟨true,rfl,GV ?_⟩
 have ne:bQ x y z≠0:=by omega
 refine⟨_,rfl,_,rfl,_,rfl,t,bs,m,a,b,x,y,(2^440:Int),rfl,hT.same s1,ck,hB,ev,ab,hx,hy,⟨z,ne⟩,wx,wy,(by decide),s1 _ _ hP,λa' b' x' y' P H2 lp pr AZ Ea s2 hx' hy' eP=> ?_⟩
 refine⟨P,[.ref a',.ref b'],rfl,vS.of eP,rfl,_,_,rfl,_,_,rfl,rfl,?_⟩
 have s12:=s1.trans s2
 have un':bQ x' y' z=1∨bQ x' y' z= -1:=by
  obtain⟨e,he,hd⟩:=pr.det
  rw[hd]
  rcases he with rfl|rfl<;>rcases un with u|u<;>rw[u]<;>simp
 have one:bQ x' y' z*bQ x' y' z=1:=by rcases un' with u|u<;>rw[u]<;>decide
 have ny:=dO Po y'
 refine⟨_,rfl,_,rfl,_,rfl,_,rfl,t,bs,m,a',b',c,x',y',z,rfl,hT.same s12,ck,hB,ev,ab,hx',hy',s2 _ _ hz,lp,bits _ AZ,bits _ Ea,bits _ wz,(by rw[one,Int.mul_one];exact aJ bD (by decide)),(by(clear one un' eP AZ ne wz wy wx un eR hR o3 o2 o1 wE hA h2 h1 h0 ord b1 bits hu q hC hP bD ab;omega)),s12 _ _ hP,s12 _ _ hC,λr z' H3 dr s3 hz'=> ?_⟩
 have Am:=s12.trans s3
 have nz:=dO Po z'
 have Ut:bH H3 a' x':=s3 _ _ hx'
 have Sx:bH H3 b' y':=s3 _ _ hy'
 have PV:bQ x' y' z'=1∨bQ x' y' z'= -1:=by rw[dr.det];exact un'
 have bz:∀i,i<3->(z' i).natAbs<2^666:=λi hi=>by
  obtain⟨ar,ap⟩:=lp.yx
  have few:=dr.few
  rw[one,Int.mul_one]at few
  have D0:=(fL ab).2.2
  refine nJ ev ck ab hB ?_ hi
  have jD:1<=ao m x' y':=ap
  have k1:aN m z'<=ao m x' y'*aN m z':=by
   have:=Int.mul_le_mul_of_nonneg_right jD nz
   omega
  have k2:4*(ao m x' y'*aN m z')<=4*(ao m x' y'*(aA m+aN m y')):=by
   have e1:ao m x' y'*(aA m+aN m y')=ao m x' y'*aA m+ao m x' y'*aN m y':=Int.mul_add ..
   have e2:1*aA m<=ao m x' y'*aA m:=Int.mul_le_mul_of_nonneg_right jD (Int.le_of_lt D0)
   have e3:0<=ao m x' y'*aN m y':=Int.mul_nonneg (by omega) ny
   (clear k1 jD D0 ap ar hi PV nz ny one un' eP Ea AZ ne wz wy wx un eR hR o3 o2 o1 wE hA h2 h1 h0 ord b1 bits hu q hC hP bD ab;omega)
  have k3:aN m z'<=aA m+aN m y':=Int.le_of_mul_le_mul_left (a:=ao m x' y') (by omega) ap
  (clear k2 k1 jD few ap ar hi one eP AZ wz wy wx eR hR o3 o2 o1 wE hA h2 h1 h0 ord b1 bits hu q hC hP ab;omega)
 refine⟨_,rfl,_,rfl,t,bs,m,r,z',rfl,hT.same Am,ck,hB.mono (by decide),hz',b1 _ bz,Am _ _ hP,λH4 s4=> ?_⟩
 refine⟨_,rfl,_,rfl,t,bs,m,b',y',rfl,hT.same (Am.trans s4),ck,hB.mono (by decide),s4 _ _ Sx,b1 _ (bits _ Ea),(Am.trans s4) _ _ hP,λH5 s5=> ?_⟩
 have Sy:=s4.trans s5
 have PU:=Am.trans Sy
 have ez:=dg ev z'
 have ey:=dg ev y'
 refine⟨_,_,rfl,rfl,_,rfl,iL (λcd=> ?_) (λcd=> ?_)⟩
 ·have cd:bE m y'<=bE m z':=of_decide_eq_true cd
  refine⟨_,rfl,_,rfl,_,rfl,(by show 3<=sizeLine;decide),λR hR=> ?_⟩
  have uR:=az.up (o:= .lst [.ref a',.ref b',.ref r]) hR
  have Sz:=Sy.trans uR
  exact q R a' b' r x' y' z' _ (KL lp dr un' (by show au m y' y'<=au m z' z';(clear hR bz PV nz ny one un' eP Ea AZ ne wz wy wx un eR o3 o2 o1 wE hA h2 h1 h0 ord b1 bits hu q hC hP bD ab;omega))) (PU.trans uR) (PU.none hR) av (Sz _ _ Ut) (Sz _ _ Sx) (Sz _ _ hz')
 ·have cd:¬bE m y'<=bE m z':=λw=>cd (decide_eq_true w)
  have lt:aN m z'<aN m y':=by show au m z' z'<au m y' y';(clear bz PV nz ny one un' eP Ea AZ ne wz wy wx un eR hR o3 o2 o1 wE hA h2 h1 h0 ord b1 bits hu q hC hP bD ab;omega)
  refine⟨_,rfl,_,rfl,_,rfl,_,rfl,(by show 3<=sizeLine;decide),λL hL=> ?_⟩
  have uL:=az.up (o:= .lst [.ref a',.ref b',.ref r]) hL
  have SA:=Sy.trans uL
  obtain⟨o1,o2,o3⟩:=ord (SA _ _ Ut) (SA _ _ Sx) (SA _ _ hz') PV AZ Ea (by omega)
  have Nx:=PU.trans uL
  refine⟨t,bs,m,L,[a',b',r],_,rfl,hT.same Nx,ck,hB,av,(by show 3<64;decide),o1,o2,Nx _ _ hP,Nx _ _ hC,λHn zs sn pz so R hR=> ?_⟩
  obtain⟨p1,q1,r1,x1,y1,z1,rfl,z6,hy1,hz1,Uu,Uv,Uw,Ux,sum⟩:=o3 zs pz so
  have uR:=az.up (o:= .lst ([p1,q1,r1].map V.ref)) hR
  have s6:=sn.trans uR
  have z6:=s6 _ _ z6
  have hy1:=s6 _ _ hy1
  have hz1:=s6 _ _ hz1
  have eR:upd Hn R (.lst ([p1,q1,r1].map V.ref)) R=some (.lst [.ref p1,.ref q1,.ref r1]):=av
  refine⟨R,[.ref p1,.ref q1,.ref r1],rfl,aW.of eR,rfl,_,_,rfl,_,_,rfl,_,_,rfl,rfl,?_⟩
  refine⟨⟨p1,q1,r1,x1,y1,z1,rfl,Nx.trans s6,z6,hy1,hz1,Uu,Uv,Uw,Ux⟩,?_⟩
  have m1:=rB (m:=m) (i:=1) (σ:=[some (.ref t),some (.ref p1),some (.ref q1),some (.ref r1)]) (by rfl) z6
  have m2:=rB (m:=m) (i:=2) (σ:=[some (.ref t),some (.ref p1),some (.ref q1),some (.ref r1)]) (by rfl) hy1
  have m3:=rB (m:=m) (i:=1) (σ:=[some (.ref t),some (.ref a),some (.ref b),some (.ref c)]) (by rfl) hx
  have m4:=rB (m:=m) (i:=2) (σ:=[some (.ref t),some (.ref a),some (.ref b),some (.ref c)]) (by rfl) hy
  show Ik m 1 [some (.ref t),some (.ref p1),some (.ref q1),some (.ref r1)] (upd Hn R (.lst ([p1,q1,r1].map V.ref)))+Ik m 2 [some (.ref t),some (.ref p1),some (.ref q1),some (.ref r1)] (upd Hn R (.lst ([p1,q1,r1].map V.ref)))<Ik m 1 [some (.ref t),some (.ref a),some (.ref b),some (.ref c)] H'+Ik m 2 [some (.ref t),some (.ref a),some (.ref b),some (.ref c)] H'
  rw[m1,m2,m3,m4]
  have n1:0<=au m x1 x1:=dO Po x1
  have n2:0<=au m y1 y1:=dO Po y1
  have n3:0<=au m x x:=dO Po x
  have n4:0<=au m y y:=dO Po y
  have ps:au m x' x'+au m y' y'<=au m x x+au m y y:=pr.sum
  have sm:au m x1 x1+au m y1 y1<=au m x' x'+au m z' z':=sum
  have lt:au m z' z'<au m y' y':=lt
  (clear lt m4 m3 m2 m1 eR hz1 hy1 z6 sum Ux Uw Uv Uu hR o3 o2 o1 hL bz PV nz ny one un' eP Ea AZ ne wz wy wx un wE hA h2 h1 h0 ord b1 bits hu q hC hP bD ab;omega)
inductive Cu(T2 T1 T0:Addr)(vs:List V)(H:Hp)(Q:VK)(E:XK):Prop
 |mk(t:Addr)(bs:List Addr)(m:List (List Int))(_:vs=[.ref t])(_:Tab H t bs m)(_:cJ m)(_:Bd 440 m)(_:b8 m)(_:bZ m=true)(_:(aA m).natAbs<2^440)(_:H T2=some (dS T2))(_:H T1=some (dS T1))(_:H T0=some .zu)(_:∀u us r rs B P H',gp (dU m B) ->(aA B=1∨aA B= -1) ->aA (dU m B)=aA m->cJ B->Bd 700 B->az H H'->H' P=some (.tup [.ref u,.ref r]) ->Tab H' u us (dU m B) ->Tab H' r rs B->Q (.ref P) H')
theorem KW{aG aS bC:Addr}(F:fP K mg "near" Cj rP)(mq:dM P w K mg base cY 9 "near_basis" gT (Eb aG aS))(rY:dM P w K mg base cY 9 "carried" lD (xE bC)):dM P w K mg base cY 10 "near" rP (Cu bC aG aS):=by
 refine F.ok DX (λvs H Q E h=> ?_) (λf cdv A outer s H vs Q E hr h=> ?_)
 ·obtain⟨t,bs,m,rfl,hT,ck,hB,ev,ab,bD,hM,hP,hC,q⟩:=h
  rfl
 obtain⟨t,bs,m,rfl,hT,ck,hB,ev,ab,bD,hM,hP,hC,q⟩:=h
 have hu:=hr.units
 refine⟨_,(mY (@aq _ _ _ _ _ (aE (i:=1) DX.nd rfl (Or.inl rfl) (aR mq hr rfl aQ (af (pv 0) ak)))
  (@aL _ _ _ (bh (pF (af (aR rY hr rfl aQ (af (pv 0) (af (pv 1) ak))) (af (pv 1) ak))))))),?_⟩
 have Po:=gH (eG ev ck) ab
 refine⟨_,rfl,t,bs,m,rfl,hT,ck,hB,ev,ab,bD,hP,hC,λr a b c x y z H1 nr s1 fr er hx hy hz=> ?_⟩
 obtain⟨f1,f2,f3⟩:=Iw nr
 have bits:∀v:Nat->Int,3*aN m v<=16*aA m-> ∀i,i<3->(v i).natAbs<2^666:=λv hv i hi=>nJ ev ck ab hB (by have:=dO Po v;omega) hi
 obtain⟨nt,un,dt⟩:=Cc ev ck ab nr
 have TB:Tab H1 r [a,b,c] (dJ x y z):=iG (λi j=>if i=0 then x j else if i=1 then y j else z j) er hx hy hz
 have bB:Bd 666 (dJ x y z):=λi j hi hj=>by
  obtain⟨g0,g1,g2⟩:=oJ x y z hj
  rcases bL hi with rfl|rfl|rfl
  ·rw[g0];exact bits x f1 j hj
  ·rw[g1];exact bits y f2 j hj
  ·rw[g2];exact bits z f3 j hj
 refine⟨_,rfl,_,rfl,t,bs,m,r,[a,b,c],dJ x y z,rfl,hT.same s1,TB,ck,cK _,hB.mono (by decide),bB.mono (by decide),s1 _ _ hM,λu us H2 s2 fu PR nu Tu=> ?_⟩
 refine⟨_,rfl,(by show 2<=sizeLine;decide),λP QH=> ?_⟩
 have uP:=az.up (o:= .tup [.ref u,.ref r]) QH
 exact q u us r [a,b,c] (dJ x y z) P _ nt un dt (cK _) (bB.mono (by decide)) (s1.trans (s2.trans uP)) av (Tu.same uP) ((TB.same s2).same uP)
end
end CW
namespace L2
open PySem PySem.Spec PyProof.Rows
section
variable{X:Cx}
noncomputable def PX:V->List V->Hp->VK->Prop:=λx vs H Q=> ∃i:Int,x= .int i/\vs=[]/\Q (.int ((Builtin.Int.intBits i:Nat):Int)) H
theorem KY:Ry X "int.bit_length" PX:=by
 intro pins s σ H x vs v us Q I rx rv h
 obtain⟨i,rfl,rfl,q⟩:=h
 obtain⟨t,rfl⟩:=rx
 have Wb:=rv.zero
 subst Wb
 exact PyProof.Rows.call_int_bit_length ⟨.int _,H,I.tok _,⟨_,rfl⟩,q⟩
end
theorem Aq{N:Int}(h:0<=N):N<2^(Builtin.Int.intBits N):=by
 unfold Builtin.Int.intBits
 by_cases c:(N==0)=true
 ·rw[if_pos c]
  have:N=0:=by simpa using c
  subst this
  decide
 ·rw[if_neg c]
  have n0:N.natAbs≠0:=by
   have:¬N=0:=by simpa using c
   omega
  have:=Nat.lt_log2_self (n:=N.natAbs)
  have e:((2^(N.natAbs.log2+1):Nat):Int)=2^(N.natAbs.log2+1):=by push_cast;rfl
  omega
theorem Cv{N:Int}(h:0<=N){r:Int}(r0:0<=r)(hr:r*r<=N):r<=1*2^((((Builtin.Int.intBits N:Nat):Int)+1)/2).toNat:=by
 have b:=Aq h
 generalize Builtin.Int.intBits N=k at b ⊢
 have e:(((k:Int)+1)/2).toNat=(k+1)/2:=by(clear b hr r0 h;omega)
 rw[e,Int.one_mul]
 refine Int.le_of_lt_add_one (Int.lt_of_not_ge λz=> ?_)
 have p0:(0:Int)<=2^((k+1)/2):=Int.le_of_lt (Int.pow_pos (by decide))
 have s:((2:Int)^((k+1)/2)+1)*(2^((k+1)/2)+1)<=r*r:=Int.mul_le_mul z z (by(clear z e b hr r0 h;omega)) r0
 have q:(2:Int)^k<=2^((k+1)/2)*2^((k+1)/2):=by
  rw[<-Int.pow_add]
  exact_mod_cast Nat.pow_le_pow_right (n:=2) (by decide) (show k<=(k+1)/2+(k+1)/2 by(clear s p0 z e b hr r0 h;omega))
 have e2:((2:Int)^((k+1)/2)+1)*(2^((k+1)/2)+1)=2^((k+1)/2)*2^((k+1)/2)+2*2^((k+1)/2)+1:=by grind
 (clear z e r0 h;omega)
theorem Fz{N t:Int}(t0:0<t)(h:N<t*t)(N0:0<=N):(∀r,0<=r->r*r<=N->r<=(t+N/t)/2)/\(t+N/t)/2<t/\0<=(t+N/t)/2:=by
 have q0:0<=N/t:=Int.ediv_nonneg N0 (Int.le_of_lt t0)
 refine⟨λr r0 hr=> ?_,?_,by(clear N0 h;omega)⟩
 ·have k:(2*r-t)*t<=N:=by
   have s:=bf (t-r)
   have e:(t-r)*(t-r)=t*t-2*(r*t)+r*r:=by grind
   have e2:(2*r-t)*t=2*(r*t) -t*t:=by grind
   (clear r0 q0 N0 h t0;omega)
  have:2*r-t<=N/t:=(Int.le_ediv_iff_mul_le t0).mpr k
  (clear k hr r0 q0 N0 h t0;omega)
 ·have:N/t<t:=(Int.ediv_lt_iff_lt_mul t0).mpr h
  (clear q0 N0 h t0;omega)
theorem FD{N t:Int}(t0:0<=t)(h:¬N<t*t)(up:∀r,0<=r->r*r<=N->r<=t):t*t<=N/\N<(t+1)*(t+1):=by
 refine⟨by omega,Int.lt_of_not_ge λz=> ?_⟩
 have:=up (t+1) (by omega) z
 omega
theorem xG{N a b:Int}(a0:0<=a)(b0:0<=b)(h1:a*a<=N)(h2:N<(b+1)*(b+1)):a<=b:=by
 refine Int.le_of_lt_add_one (Int.lt_of_not_ge λz=> ?_)
 have:=Int.mul_le_mul z z (show 0<=b+1 by omega) a0
 omega
end L2
set_option maxHeartbeats 1000000
namespace CW
open PySem L2
section
variable{P:Program}{w:World}{K:PySem.W.Frag}{mg:Str->Option Value}{base:Heap}
inductive Cw(vs:List V)(H:Hp)(Q:VK)(E:XK):Prop
 |mk(N:Int)(_:vs=[.int N])(_:0<=N)(_:N.natAbs<2^200)(_:∀r:Int,0<=r->r*r<=N->N<(r+1)*(r+1) ->Q (.int r) H)
theorem KZ(F:fP K mg "root" Ck rQ):dM P w K mg base cY 1 "root" rQ Cw:=by
 refine F.ok yD (λvs H Q E h=> ?_) (λf cdv A outer s H vs Q E hr h=> ?_)
 ·obtain⟨N,rfl,N0,bN,q⟩:=h
  rfl
 obtain⟨N,rfl,N0,bN,q⟩:=h
 have hu:=hr.units
 refine⟨_,(mY (@aq _ _ _ _ _ (aE (i:=1) yD.nd rfl (Or.inl rfl) (ai Mv ah (ai bT (ai aP (MC PySem.F.plainAttrs_int PyProof.Rows.slot_int_bit_length PyProof.Rows.type_int_bit_length KY (pv 0)) ah) ah)))
  (@aq _ _ _ _ _ (jF PassesOwn.never (bO oZ (ai aC (pv 1) (pv 1)) (pv 0) (cg _)) (dh (aE (i:=1) yD.nd rfl (Or.inl rfl) (ai bT (ai aP (pv 1) (ai qw (pv 0) (pv 1))) ah))))
  (@aL _ _ _ (bh (pv 1)))))),?_⟩
 have b0:=Aq N0
 have bits:Builtin.Int.intBits N<=200:=by
  unfold Builtin.Int.intBits
  split
  ·omega
  ·rename_i c
   have n0:N.natAbs≠0:=by
    have:¬N=0:=by simpa using c
    omega
   have:=(Nat.log2_lt n0).mpr bN
   (clear n0 c b0 hu q bN N0;omega)
 have start:=λr r0 hr=>Cv N0 (r:=r) r0 hr
 have t0:(0:Int)<1*2^((((Builtin.Int.intBits N:Nat):Int)+1)/2).toNat:=by
  rw[Int.one_mul]
  exact Int.pow_pos (by decide)
 have t1:(1*2^((((Builtin.Int.intBits N:Nat):Int)+1)/2).toNat:Int).natAbs<2^110:=by
  have e:(((Builtin.Int.intBits N:Int))+1)/2<=100:=by(clear t0 start b0 hu q bN N0;omega)
  rw[Int.one_mul,Int.natAbs_pow]
  exact Nat.pow_lt_pow_right (by decide) (by(clear t0 start bits b0 hu q bN N0;omega))
 refine⟨_,rfl,rfl,⟨N,rfl,rfl,_,_,rfl,rfl,_,_,rfl,rfl,⟨by decide,by decide⟩,_,_,rfl,rfl,⟨by(clear t1 t0 start b0 hu q bN N0;omega),by(clear t1 t0 start b0 hu q bN N0;omega),by decide⟩,?_⟩⟩
 have t0:=Int.le_of_lt t0
 refine kR (λσ H'=>H'=H/\ ∃t:Int,σ=[some (.int N),some (.int t)]/\0<=t/\t.natAbs<2^110/\ ∀r,0<=r->r*r<=N->r<=t) (λσ _=>match σ with| [_,some (.int t)]=>t.toNat|_=>0) ⟨rfl,_,rfl,t0,t1,start⟩ (λσ H' hh=> ?_) ?_
 rotate_left
 ·rintro σ H' Q Q' h ⟨v,e,v2,e',i,j,e1,e2,c,v3,e3,a,b,e4,e5,k,ek,kk⟩
  exact⟨v,e,v2,e',i,j,e1,e2,c,v3,e3,a,b,e4,e5,k,ek,h _ _ kk⟩
 obtain⟨rfl,t,rfl,t0,t1,up⟩:=hh
 refine⟨_,rfl,_,rfl,_,_,rfl,rfl,⟨aJ t1 (by decide),aJ t1 (by decide)⟩,_,rfl,_,_,rfl,rfl,_,rfl,iL (λc=> ?_) (λc=> ?_)⟩
 ·have c:N<t*t:=of_decide_eq_true c
  have tp:0<t:=by
   rcases Int.lt_or_le 0 t with z|z
   ·exact z
   ·exfalso
    have:t=0:=by(clear c up t1 q start bits b0 hu bN N0;omega)
    rw[this]at c
    omega
  obtain⟨s1,s2,s3⟩:=Fz tp c N0
  have lg:t.natAbs.log2<9000:=(Nat.log2_lt (by(clear s1 c up t1 t0 q start bits b0 hu bN N0;omega))).mpr (Nat.lt_of_lt_of_le t1 (Nat.pow_le_pow_right (by decide) (by decide)))
  refine⟨_,rfl,_,rfl,_,rfl,_,_,rfl,rfl,⟨tp,lg⟩,_,_,rfl,rfl,_,_,rfl,rfl,⟨by decide,by decide⟩,⟨rfl,_,rfl,s3,by(clear lg s1 c up t0 q start bits b0 hu bN N0;omega),s1⟩,?_⟩
  show((t+N/t)/2).toNat<t.toNat
  (clear lg s1 c up t1 t0 q start bits b0 hu bN N0;omega)
 ·have c:¬N<t*t:=λz=>c (decide_eq_true z)
  obtain⟨d1,d2⟩:=FD t0 c up
  exact⟨_,rfl,q t t0 d1 d2⟩
end
end CW
namespace L2
open PySem PySem.Spec PyProof.Rows
noncomputable def dH(N:List (List Int)):Int:=ent N 0 0*ent N 1 1-ent N 0 1*ent N 0 1
noncomputable def iS(N:List (List Int)):Int:=ent N 0 0*ent N 1 2-ent N 0 1*ent N 0 2
noncomputable def hiT(N:List (List Int)):Int:=ent N 0 0*ent N 2 2-ent N 0 2*ent N 0 2
noncomputable def kI(N:List (List Int))(n y z:Int):Int:=2*n*ent N 0 0- (dH N*y*y+2*iS N*y*z+hiT N*z*z)
noncomputable def qV(N:List (List Int))(y z:Int):Int:=ent N 0 1*y+ent N 0 2*z
theorem oN{N:List (List Int)}(ev:b8 N):dH N*hiT N-iS N*iS N=ent N 0 0*aA N:=by
 have yw:ent N 1 0=ent N 0 1:=ev.sym.1
 have BX:ent N 2 0=ent N 0 2:=ev.sym.2.1
 have BY:ent N 2 1=ent N 1 2:=ev.sym.2.2
 rw[cS,yw,BX,BY]
 unfold dH hiT iS
 grind
theorem rZ{N:List (List Int)}(ev:b8 N)(pos:0<ent N 0 0)(n:Int)(v:Nat->Int):bE N v=n↔(ent N 0 0*v 0+qV N (v 1) (v 2))*(ent N 0 0*v 0+qV N (v 1) (v 2))=kI N n (v 1) (v 2):=by
 have yw:ent N 1 0=ent N 0 1:=ev.sym.1
 have BX:ent N 2 0=ent N 0 2:=ev.sym.2.1
 have BY:ent N 2 1=ent N 1 2:=ev.sym.2.2
 have h:=dg ev v
 have id:ent N 0 0*au N v v=(ent N 0 0*v 0+qV N (v 1) (v 2))*(ent N 0 0*v 0+qV N (v 1) (v 2))+(dH N*v 1*v 1+2*iS N*v 1*v 2+hiT N*v 2*v 2):=by
  rw[aU,yw,BX,BY]
  unfold qV dH iS hiT
  grind
 unfold kI
 generalize(ent N 0 0*v 0+qV N (v 1) (v 2))*(ent N 0 0*v 0+qV N (v 1) (v 2))=s at id ⊢
 generalize dH N*v 1*v 1+2*iS N*v 1*v 2+hiT N*v 2*v 2=t at id ⊢
 rw[h]at id
 have e:2*n*ent N 0 0=ent N 0 0*(2*n):=Int.mul_comm ..
 constructor
 ·intro z
  rw[z]at id
  (clear z h BY BX yw pos;omega)
 ·intro z
  have:ent N 0 0*(2*bE N v)=ent N 0 0*(2*n):=by(clear h BY BX yw pos;omega)
  have:=Int.eq_of_mul_eq_mul_left (show ent N 0 0≠0 by omega) this
  (clear z e id h BY BX yw pos;omega)
theorem vh{N:List (List Int)}(ev:b8 N)(pos:0<ent N 0 0)(fl:0<dH N)(n y z:Int):0<=kI N n y z↔(dH N*y+iS N*z)*(dH N*y+iS N*z)<=dH N*(2*n*ent N 0 0) -ent N 0 0*aA N*z*z:=by
 have fh:=oN ev
 have id:dH N*kI N n y z=dH N*(2*n*ent N 0 0) -ent N 0 0*aA N*z*z- (dH N*y+iS N*z)*(dH N*y+iS N*z):=by
  unfold kI
  rw[<-fh]
  generalize dH N=f,iS N=b,hiT N=h,2*n*ent N 0 0=w
  grind
 constructor
 ·intro h
  have:=Int.mul_nonneg (Int.le_of_lt fl) h
  (clear h fh fl pos;omega)
 ·intro h
  have h2:0<=dH N*kI N n y z:=by(clear fh fl pos;omega)
  rcases Int.lt_or_le (kI N n y z) 0 with c|c
  ·exfalso
   have:=Int.mul_lt_mul_of_pos_left c fl
   omega
  ·exact c
theorem uf{N x s:Int}(s0:0<=s)(h1:s*s<=N)(h2:N<(s+1)*(s+1)):x*x<=N↔ -s<=x/\x<=s:=by
 constructor
 ·intro h
  rcases Int.le_total 0 x with c|c
  ·have:=xG c s0 h h2
   (clear h h2 h1;omega)
  ·have:(-x)*(-x)<=N:=by
    have e:(-x)*(-x)=x*x:=by grind
    (clear c h2 h1 s0;omega)
   have:=xG (a:= -x) (by omega) s0 this h2
   (clear h h2 h1 s0;omega)
 ·rintro⟨a,b⟩
  have:=lz a b
  omega
theorem oO{f b z s y:Int}(hf:0<f):(-s<=f*y+b*z/\f*y+b*z<=s)↔(-((s+b*z)/f)<=y/\y<(s-b*z)/f+1):=by
 have e1:y<=(s-b*z)/f↔y*f<=s-b*z:=Int.le_ediv_iff_mul_le hf
 have e2: -y<=(s+b*z)/f↔ -y*f<=s+b*z:=Int.le_ediv_iff_mul_le hf
 have c1:y*f=f*y:=Int.mul_comm ..
 have c2: -y*f= -(f*y):=by rw[Int.neg_mul,c1]
 rw[c1]at e1
 rw[c2]at e2
 constructor
 ·rintro⟨h1,h2⟩
  have:=e1.mpr (by(clear h1 c1 e2 e1 hf;omega))
  have:=e2.mpr (by(clear this h2 c1 e2 e1 hf;omega))
  (clear h2 h1 c2 c1 e2 e1 hf;omega)
 ·rintro⟨h1,h2⟩
  have:=e1.mp (by omega)
  have:=e2.mp (by omega)
  (clear h2 h1 c1 e2 e1 hf;omega)
theorem aj{N:List (List Int)}(D:0<aA N)(fl:0<dH N){n R z:Int}(R0:0<=R)(h1:R*R<=2*n*dH N/aA N)(h2:2*n*dH N/aA N<(R+1)*(R+1)):(-R<=z/\z<=R)↔aA N*z*z<=2*n*dH N:=by
 rw[<-uf R0 h1 h2,Int.le_ediv_iff_mul_le D]
 have e:z*z*aA N=aA N*z*z:=by grind
 rw[e]
theorem gF{N:List (List Int)}(h:gp N)(dD:aA N<=401):0<dH N/\0<aA N/\2<=ent N 0 0/\ent N 0 0<=2200/\ent N 1 1<=2200/\ent N 2 2<=2200/\3*dH N<=8*aA N/\3*ent N 0 0<=2*dH N:=by
 obtain⟨c1,c2,c3⟩:=fL h.ab
 have p:=h.pos
 have l1:=h.KN
 have l2:=h.Nt
 obtain⟨_,a,b,c,ea,eb,ec⟩:=h.ev
 have f:=h.few
 have a2:2<=ent N 0 0:=by omega
 have b2:2<=ent N 1 1:=by(clear a2 f ec l2 p c3 c2 dD;omega)
 have Uy:2<=ent N 2 2:=by(clear a2 f ea l1 p c3 c2 c1 dD;omega)
 have k1:2*2<=ent N 0 0*ent N 1 1:=Int.mul_le_mul a2 b2 (by omega) (by omega)
 have k2:4*ent N 2 2<=ent N 0 0*ent N 1 1*ent N 2 2:=Int.mul_le_mul_of_nonneg_right (by omega) (by omega)
 have sq:=lz h.p.1 h.p.2
 have e4:2*ent N 0 1*(2*ent N 0 1)=4*(ent N 0 1*ent N 0 1):=by grind
 have aa:ent N 0 0*ent N 0 0<=ent N 0 0*ent N 1 1:=Int.mul_le_mul_of_nonneg_left l1 (by omega)
 have s0:=bf (ent N 0 1)
 have k3:ent N 0 0*ent N 1 1*2<=ent N 0 0*ent N 1 1*ent N 2 2:=Int.mul_le_mul_of_nonneg_left Uy (by omega)
 have k4:ent N 0 0*2<=ent N 0 0*ent N 1 1:=Int.mul_le_mul_of_nonneg_left b2 (by omega)
 unfold dH
 refine⟨by omega,c3,a2,by omega,by(clear k4 k3 s0 aa e4 sq k1 Uy b2 a2 ea l1 p c2 c1;omega),by omega,by omega,by omega⟩
theorem IJ{N:List (List Int)}(h:gp N)(dD:aA N<=401){n R:Int}(n0:0<=n)(n6:n<=1100)(R0:0<=R)(h1:R*R<=2*n*dH N/aA N):R<=76:=by
 obtain⟨f0,d0,_,_,_,_,k,_⟩:=gF h dD
 have:2*n*dH N/aA N<=5867:=by
  refine Int.le_of_lt_add_one ((Int.ediv_lt_iff_lt_mul d0).mpr ?_)
  have e:2*n*dH N<=2200*dH N:=Int.mul_le_mul_of_nonneg_right (by omega) (Int.le_of_lt f0)
  (clear d0 f0 h1 R0 n6 n0 dD;omega)
 refine Int.le_of_lt_add_one (Int.lt_of_not_ge λz=> ?_)
 have:=Int.mul_le_mul z z (by decide) R0
 omega
theorem La{N:List (List Int)}(h:gp N)(dD:aA N<=401){n z s:Int}(n0:0<=n)(n6:n<=1100)(s0:0<=s)(h1:s*s<=dH N*(2*n*ent N 0 0) -ent N 0 0*aA N*z*z):s<=39*dH N:=by
 obtain⟨f0,d0,a2,_,_,_,_,k⟩:=gF h dD
 have zz:0<=ent N 0 0*aA N*z*z:=by
  have:=Int.mul_nonneg (Int.mul_nonneg (show 0<=ent N 0 0 by(clear k d0 f0 h1 s0 n6 n0 dD;omega)) (Int.le_of_lt d0)) (bf z)
  rw[<-Int.mul_assoc]at this
  exact this
 have w:2*n*ent N 0 0<=2200*ent N 0 0:=Int.mul_le_mul_of_nonneg_right (by omega) (by(clear zz k d0 f0 h1 s0 n6 n0 dD;omega))
 have w2:2*n*ent N 0 0<=1467*dH N:=by(clear zz a2 h1 s0 n6 n0;omega)
 have w3:dH N*(2*n*ent N 0 0)<=dH N*(1467*dH N):=Int.mul_le_mul_of_nonneg_left w2 (Int.le_of_lt f0)
 refine Int.le_of_lt_add_one (Int.lt_of_not_ge λy=> ?_)
 have:=Int.mul_le_mul y y (by omega) s0
 have e1:(39*dH N+1)*(39*dH N+1)=1521*(dH N*dH N)+78*dH N+1:=by grind
 have e2:dH N*(1467*dH N)=1467*(dH N*dH N):=by grind
 have ff:=bf (dH N)
 (clear y w2 w d0 f0 s0 n6 n0 dD;omega)
noncomputable def g6(z y0:Int)(k:Nat):List (Int×Int):=(List.range k).map λj:Nat=>(y0+(j:Int),z)
noncomputable def fQ(lo:Int->Int)(ln:Int->Nat)(R:Int)(m:Nat):List (Int×Int):=(List.range m).flatMap λi:Nat=>g6 ((i:Int) -R) (lo ((i:Int) -R)) (ln ((i:Int) -R))
theorem vj{z y0:Int}{k:Nat}{p:Int×Int}:p∈g6 z y0 k↔p.2=z/\y0<=p.1/\p.1<y0+k:=by
 obtain⟨y,z'⟩:=p
 simp only[g6,List.mem_map,List.mem_range,Prod.mk.injEq]
 constructor
 ·rintro⟨j,hj,rfl,rfl⟩
  exact⟨rfl,by omega,by omega⟩
 ·rintro⟨rfl,h1,h2⟩
  exact⟨(y-y0).toNat,by omega,by omega,rfl⟩
theorem yJ{z y0:Int}{k:Nat}:(g6 z y0 k).Nodup:=by
 unfold g6 List.Nodup
 rw[List.pairwise_map]
 refine List.Pairwise.imp ?_ (List.nodup_range (n:=k))
 intro a b h e
 have:=(Prod.mk.inj e).1
 omega
theorem Ar{z y0:Int}{k:Nat}:g6 z y0 (k+1)=g6 z y0 k++ [(y0+(k:Int),z)]:=by
 simp[g6,List.range_succ]
theorem mw{lo:Int->Int}{ln:Int->Nat}{R:Int}{m:Nat}:fQ lo ln R (m+1)=fQ lo ln R m++g6 ((m:Int) -R) (lo ((m:Int) -R)) (ln ((m:Int) -R)):=by
 simp[fQ,List.range_succ]
theorem tG{lo:Int->Int}{ln:Int->Nat}{R:Int}{m:Nat}{p:Int×Int}:p∈fQ lo ln R m↔(-R<=p.2/\p.2<m-R)/\lo p.2<=p.1/\p.1<lo p.2+ln p.2:=by
 simp only[fQ,List.mem_flatMap,List.mem_range,vj]
 constructor
 ·rintro⟨i,hi,e,h1,h2⟩
  rw[e]
  exact⟨⟨by(clear h2 h1 hi;omega),by omega⟩,h1,h2⟩
 ·rintro⟨⟨a,b⟩,h1,h2⟩
  have e:p.2=((p.2+R).toNat:Int) -R:=by(clear h2 h1 b;omega)
  exact⟨(p.2+R).toNat,by(clear h2 h1 a;omega),e,e▸h1,e▸h2⟩
theorem wk{lo:Int->Int}{ln:Int->Nat}{R:Int}{m:Nat}:(fQ lo ln R m).Nodup:=by
 induction m with
 |zero=>simp[fQ]
 |succ m ih=>
  rw[mw,List.nodup_append]
  refine⟨ih,yJ,?_⟩
  intro a ha b hb e
  have h1:=(tG.mp ha).1.2
  have h2:=(vj.mp hb).1
  rw[e,h2]at h1
  omega
theorem vm{lo:Int->Int}{ln:Int->Nat}{R:Int}{m L:Nat}(h:∀i:Nat,i<m->ln ((i:Int) -R)<=L):(fQ lo ln R m).length<=m*L:=by
 induction m with
 |zero=>simp[fQ]
 |succ m ih=>
  rw[mw,List.length_append,Nat.succ_mul]
  have h1:=ih λi hi=>h i (by omega)
  have h2:=h m (by omega)
  simp only[g6,List.length_map,List.length_range]
  omega
theorem As{N:List (List Int)}(ev:b8 N)(pos:0<ent N 0 0)(fl:0<dH N)(D:0<aA N){n R:Int}(R0:0<=R)(h1:R*R<=2*n*dH N/aA N)(h2:2*n*dH N/aA N<(R+1)*(R+1)){sp:Int->Int}(s0:∀z,-R<=z->z<=R->0<=sp z/\sp z*sp z<=dH N*(2*n*ent N 0 0) -ent N 0 0*aA N*z*z/\dH N*(2*n*ent N 0 0) -ent N 0 0*aA N*z*z<(sp z+1)*(sp z+1))(y z:Int):
  (y,z)∈fQ (λz=> -((sp z+iS N*z)/dH N)) (λz=>((sp z-iS N*z)/dH N+1- -((sp z+iS N*z)/dH N)).toNat) R (2*R+1).toNat↔0<=kI N n y z:=by
 rw[tG]
 simp only
 have zr:=aj D fl (n:=n) (z:=z) R0 h1 h2
 constructor
 ·rintro⟨⟨a,b⟩,c,d⟩
  have zb:z<=R:=by(clear a zr s0 h2 h1 D fl pos;omega)
  obtain⟨t0,t1,t2⟩:=s0 z a zb
  rw[vh ev pos fl,uf t0 t1 t2]
  refine(oO fl).mpr ⟨c,?_⟩
  (clear t2 t1 t0 zb b a zr s0 h2 h1 R0 D fl pos;omega)
 ·intro h
  rw[vh ev pos fl]at h
  have zz:aA N*z*z<=2*n*dH N:=by
   have q:=bf (dH N*y+iS N*z)
   have e:ent N 0 0*(aA N*z*z)<=ent N 0 0*(2*n*dH N):=by
    have:ent N 0 0*aA N*z*z=ent N 0 0*(aA N*z*z):=by grind
    have:dH N*(2*n*ent N 0 0)=ent N 0 0*(2*n*dH N):=by grind
    (clear zr s0 h2 h1 R0 D fl pos;omega)
   exact Int.le_of_mul_le_mul_left e pos
  obtain⟨a,b⟩:=zr.mpr zz
  obtain⟨t0,t1,t2⟩:=s0 z a b
  rw[uf t0 t1 t2]at h
  obtain⟨c,d⟩:=(oO fl).mp h
  refine⟨⟨a,by(clear d c t2 t1 t0 a zz h zr s0 h2 h1 D fl pos;omega)⟩,c,by(clear c t2 t1 t0 b a zz h zr s0 h2 h1 R0 D fl pos;omega)⟩
theorem Ny{X r r':Int}(h0:0<=r)(h1:r*r<=X)(h2:X<(r+1)*(r+1))(g0:0<=r')(g1:r'*r'<=X)(g2:X<(r'+1)*(r'+1)):r=r':=by
 rcases Int.lt_trichotomy r r' with c|c|c
 ·have:(r+1)*(r+1)<=r'*r':=Int.mul_le_mul (by omega) (by omega) (by omega) (by omega)
  omega
 ·exact c
 ·have:(r'+1)*(r'+1)<=r*r:=Int.mul_le_mul (by omega) (by omega) (by omega) (by omega)
  omega
open Classical in
noncomputable def gv(X:Int):Int:=if h:∃r:Int,0<=r/\r*r<=X/\X<(r+1)*(r+1)then Classical.choose h else 0
theorem oQ{X r:Int}(h0:0<=r)(h1:r*r<=X)(h2:X<(r+1)*(r+1)):gv X=r:=by
 have h:∃r:Int,0<=r/\r*r<=X/\X<(r+1)*(r+1):=⟨r,h0,h1,h2⟩
 unfold gv
 rw[dif_pos h]
 obtain⟨g0,g1,g2⟩:=Classical.choose_spec h
 exact Ny g0 g1 g2 h0 h1 h2
theorem FF(n:Nat):∃r:Int,0<=r/\r*r<=(n:Int)/\(n:Int)<(r+1)*(r+1):=by
 induction n with
 |zero=>exact⟨0,by decide,by decide,by decide⟩
 |succ n ih=>
  obtain⟨r,h0,h1,h2⟩:=ih
  by_cases c:((n+1:Nat):Int)<(r+1)*(r+1)
  ·exact⟨r,h0,by omega,c⟩
  ·refine⟨r+1,by omega,by omega,?_⟩
   have e:(r+1+1)*(r+1+1)=(r+1)*(r+1)+2*r+3:=by grind
   omega
theorem lH{X:Int}(h:0<=X):0<=gv X/\gv X*gv X<=X/\X<(gv X+1)*(gv X+1):=by
 obtain⟨r,h0,h1,h2⟩:=FF X.toNat
 have e:(X.toNat:Int)=X:=Int.toNat_of_nonneg h
 rw[e]at h1 h2
 rw[oQ h0 h1 h2]
 exact⟨h0,h1,h2⟩
noncomputable def SD(D:Addr)(H H':Hp):Prop:=∀a o,a≠D->H a=some o->H' a=some o
theorem SD.refl{D:Addr}{H:Hp}:SD D H H:=λ_ _ _ e=>e
theorem SD.trans{D:Addr}{H H' Pq:Hp}(h:SD D H H')(h':SD D H' Pq):SD D H Pq:=λa o n e=>h' a o n (h a o n e)
theorem SD.of{D:Addr}{H H':Hp}(s:az H H'):SD D H H':=λa o _ e=>s _ _ e
theorem SD.upd{D:Addr}{H H':Hp}{o:HO}(h:SD D H H'):SD D H (upd H' D o):=λa o n e=>by rw[aI n];exact h a o n e
theorem SD.same{D:Addr}{H H':Hp}(h:SD D H H')(f:H D=none):az H H':=λa o e=>h a o (λz=>by rw[z,f]at e;cases e) e
noncomputable def PY(N:List (List Int))(n:Int)(p:Int×Int):List V:=[.int p.1,.int p.2,.int (qV N p.1 p.2),.int (kI N n p.1 p.2)]
inductive d7(H:Hp)(N:List (List Int))(n:Int):List V->List (Int×Int) ->Prop
 |nil:d7 H N n [] []
 |cons{a:Addr}{us:List V}{p:Int×Int}{ps:List (Int×Int)}:H a=some (.tup (PY N n p)) ->d7 H N n us ps->d7 H N n (.ref a::us) (p::ps)
theorem d7.same{H H':Hp}{N:List (List Int)}{n:Int}{us:List V}{ps:List (Int×Int)}(s:az H H')(h:d7 H N n us ps):d7 H' N n us ps:=by
 induction h with
 |nil=>exact .nil
 |cons e _ ih=>exact .cons (s _ _ e) ih
theorem d7.upd{H:Hp}{N:List (List Int)}{n:Int}{us:List V}{ps:List (Int×Int)}{D:Addr}{xs:List V}{o:HO}(hD:H D=some (.lst xs))(h:d7 H N n us ps):d7 (upd H D o) N n us ps:=by
 induction h with
 |nil=>exact .nil
 |cons e _ ih=>exact .cons (by rw[aI (λz=>by rw[z,hD]at e;cases e)];exact e) ih
theorem d7.append{H:Hp}{N:List (List Int)}{n:Int}{us us':List V}{ps ps':List (Int×Int)}(h:d7 H N n us ps)(h':d7 H N n us' ps'):d7 H N n (us++us') (ps++ps'):=by
 induction h with
 |nil=>exact h'
 |cons e _ ih=>exact .cons e ih
theorem d7.length{H:Hp}{N:List (List Int)}{n:Int}{us:List V}{ps:List (Int×Int)}(h:d7 H N n us ps):us.length=ps.length:=by
 induction h with
 |nil=>rfl
 |cons _ _ ih=>simp[ih]
theorem iT{a b:Int}{A B:Nat}(ha:a.natAbs<=A)(hb:b.natAbs<=B):(a*b).natAbs<=A*B:=by
 rw[Int.natAbs_mul]
 exact Nat.mul_le_mul ha hb
theorem PZ{x f:Int}(hf:0<f)(h:x.natAbs<=10000000000):(x/f).natAbs<=10000000000:=by
 have h1: -10000000000<=x/f:=(Int.le_ediv_iff_mul_le hf).mpr (by omega)
 have h2:x/f<10000000000+1:=(Int.ediv_lt_iff_lt_mul hf).mpr (by omega)
 (clear h hf;omega)
theorem Uz{x:Int}(h:x.natAbs<=10^30):x.natAbs<2^4096:=Nat.lt_of_le_of_lt h (Nat.lt_of_lt_of_le (m:=2^100) (by decide) (Nat.pow_le_pow_right (by decide) (by decide)))
theorem kg{te:TE}{i:Nat}{b:TS}{D:Ends}{σ:St}{H H':Hp}{v:V}(h:∀R:VK,R v H'->te σ H R)(k:b D (σ.set i (some v)) H'):vZ (Bf te (dI i)) b D σ H:=h _ k
end L2
set_option maxHeartbeats 1000000
namespace CW
open PySem L2
section
variable{P:Program}{w:World}{K:PySem.W.Frag}{mg:Str->Option Value}{base:Heap}
inductive Au(vs:List V)(H:Hp)(Q:VK)(E:XK):Prop
 |mk(t:Addr)(bs:List Addr)(N:List (List Int))(n:Int)(_:vs=[.ref t,.int n])(_:Tab H t bs N)(_:cJ N)(_:b8 N)(_:Bd 700 N)(_:gp N)(_:aA N<=401)(_:0<=n)(_:n<=1100)(_:∀(u:Addr) (us:List V) (L:List (Int×Int)) (H':Hp),az H H'->H' u=some (.lst us) ->d7 H' N n us L->L.Nodup->(∀y z,(y,z)∈L↔0<=kI N n y z) ->L.length<=12100->Q (.ref u) H')
theorem FG(F:fP K mg "slices" uY nM)(aj:mg "range"=none)(dG:dM P w K mg base cY 3 "determinant" eU DY)(pY:dM P w K mg base cY 3 "root" rQ Cw):dM P w K mg base cY 4 "slices" nM Au:=by
 refine F.ok cN (λvs H Q E h=> ?_) (λf cdv A outer s H vs Q E hr h=> ?_)
 ·obtain⟨t,bs,N,n,rfl,hT,ck,ev,bN,NT,dD,n0,n6,q⟩:=h
  rfl
 obtain⟨t,bs,N,n,rfl,hT,ck,ev,bN,NT,dD,n0,n6,q⟩:=h
 have hu:=hr.units
 refine⟨_,(mY (@aq _ _ _ _ _ (ni (pv 0) (ju rfl (aT (ju rfl (aT (aV (i:=2) cN.nd rfl (Or.inl rfl)) (aT (aV (i:=3) cN.nd rfl (Or.inl rfl)) (aT (aV (i:=4) cN.nd rfl (Or.inl rfl)) gb)))) (aT (aV (i:=5) cN.nd rfl (Or.inl rfl)) (aT (aV (i:=6) cN.nd rfl (Or.inl rfl)) gb)))))
  (@aq _ _ _ _ _ (aE (i:=7) cN.nd rfl (Or.inl rfl) (ai bW (ai aC (pv 2) (aF ay (pv 5) ah (λ_ _=>rfl))) (ai aC (pv 3) (pv 3))))
  (@aq _ _ _ _ _ (aE (i:=8) cN.nd rfl (Or.inl rfl) (ai bW (ai aC (pv 2) (aF ay (pv 5) ah (λ_ _=>rfl))) (ai aC (pv 3) (pv 4))))
  (@aq _ _ _ _ _ (aE (i:=9) cN.nd rfl (Or.inl rfl) (ai bW (ai aC (pv 2) (aF ay (pv 6) ah (λ_ _=>rfl))) (ai aC (pv 4) (pv 4))))
  (@aq _ _ _ _ _ (aE (i:=10) cN.nd rfl (Or.inl rfl) (aR dG hr rfl aQ (af (pv 0) ak)))
  (@aq _ _ _ _ _ (aE (i:=11) cN.nd rfl (Or.inl rfl) (ai aC (ai aC ah (pv 1)) (pv 2)))
  (@aq _ _ _ _ _ (aE (i:=12) cN.nd rfl (Or.inl rfl) (cV ak))
  (@aq _ _ _ _ _ (aE (i:=13) cN.nd rfl (Or.inl rfl) (aR pY hr rfl aQ (af (ai bT (ai aC (ai aC ah (pv 1)) (pv 7)) (pv 10)) ak)))
  (@aq _ _ _ _ _ (kh PassesOwn.never rfl (kQ rfl aj (af (Dj xT (pv 13)) (af (ai aP (pv 13) ah) ak))) (aV (i:=14) cN.nd rfl (Or.inl rfl)) (mY (@aq _ _ _ _ _ (aE (i:=15) cN.nd rfl (Or.inl rfl) (aR pY hr rfl aQ (af (ai bW (ai aC (pv 7) (pv 11)) (ai aC (ai aC (ai aC (pv 2) (pv 10)) (pv 14)) (pv 14))) ak)))
  (@aL _ _ _ (kh PassesOwn.never rfl (kQ rfl aj (af (Dj xT (ai bT (ai aP (pv 15) (ai aC (pv 8) (pv 14))) (pv 7))) (af (ai aP (ai bT (ai bW (pv 15) (ai aC (pv 8) (pv 14))) (pv 7)) ah) ak))) (aV (i:=16) cN.nd rfl (Or.inl rfl)) (mY (@aq _ _ _ _ _ (aE (i:=17) cN.nd rfl (Or.inl rfl) (ai bW (pv 11) (ai aP (ai aP (ai aC (ai aC (pv 7) (pv 16)) (pv 16)) (ai aC (ai aC (ai aC ah (pv 8)) (pv 16)) (pv 14))) (ai aC (ai aC (pv 9) (pv 14)) (pv 14)))))
  (@aL _ _ _ (oE (GR PySem.F.plainAttrs_list PySem.F.slot_list_append PySem.F.type_list_append kU (pv 12) (af (pF (af (pv 16) (af (pv 14) (af (ai aP (ai aC (pv 3) (pv 16)) (ai aC (pv 4) (pv 14))) (af (pv 17) ak))))) ak)))))))))))
  (@aL _ _ _ (bh (pv 12))))))))))))),?_⟩
 obtain⟨c0,c1,c2,rfl,x0,x1,x2⟩:=vd hT ck
 obtain⟨fl,D0,a2,g7,cW,gh,f8,fa⟩:=gF NT dD
 have k1:=By (λc=>ent N 1 c) (c:=1) (by decide)
 have k2:=By (λc=>ent N 1 c) (c:=2) (by decide)
 have k3:=By (λc=>ent N 2 c) (c:=2) (by decide)
 have b:∀i j,i<3->j<3->(ent N i j).natAbs<2^4096:=λi j hi hj=>aJ (bN i j hi hj) (by decide)
 refine⟨_,rfl,t,_,rfl,aW.of hT.1,rfl,_,_,rfl,c0,_,rfl,aW.of x0,rfl,_,_,rfl,_,_,rfl,_,_,rfl,rfl,_,_,rfl,_,_,rfl,rfl,?_⟩
 have l1:=NT.KN
 have l2:=NT.Nt
 have tx:∀x:Int,0<=x->x<=1000000000000->x.natAbs<2^40:=λx h0 h1=>by(clear l2 l1 b k3 k2 k1 fa f8 gh cW g7 a2 D0 fl hu q n6 n0 dD aj;omega)
 have tw:∀x:Int,0<=x->x<=1000000000000->x.natAbs<2^4096:=λx h0 h1=>Nat.lt_of_lt_of_le (tx x h0 h1) (Nat.pow_le_pow_right (by decide) (by decide))
 with_reducible apply kg
 ·exact λR hR=>⟨_,rfl,_,rfl,c1,_,_,_,rfl,rfl,aW.of x1,k1,_,_,rfl,rfl,⟨b 0 0 (by decide) (by decide),b 1 1 (by decide) (by decide)⟩,_,rfl,_,rfl,_,_,rfl,rfl,⟨b 0 1 (by decide) (by decide),b 0 1 (by decide) (by decide)⟩,_,_,rfl,rfl,hR⟩
 with_reducible apply kg
 ·exact λR hR=>⟨_,rfl,_,rfl,c1,_,_,_,rfl,rfl,aW.of x1,k2,_,_,rfl,rfl,⟨b 0 0 (by decide) (by decide),b 1 2 (by decide) (by decide)⟩,_,rfl,_,rfl,_,_,rfl,rfl,⟨b 0 1 (by decide) (by decide),b 0 2 (by decide) (by decide)⟩,_,_,rfl,rfl,hR⟩
 with_reducible apply kg
 ·exact λR hR=>⟨_,rfl,_,rfl,c2,_,_,_,rfl,rfl,aW.of x2,k3,_,_,rfl,rfl,⟨b 0 0 (by decide) (by decide),b 2 2 (by decide) (by decide)⟩,_,rfl,_,rfl,_,_,rfl,rfl,⟨b 0 2 (by decide) (by decide),b 0 2 (by decide) (by decide)⟩,_,_,rfl,rfl,hR⟩
 refine⟨_,rfl,t,_,N,rfl,hT,ck,bN.mono (by decide),trivial,λH1 s1=> ?_⟩
 refine⟨_,rfl,_,_,rfl,rfl,⟨by show(2:Int).natAbs<2^4096;exact tw 2 (by decide) (by decide),tw n n0 (by omega)⟩,_,rfl,_,_,rfl,rfl,⟨tw _ (by omega) (by omega),b 0 0 (by decide) (by decide)⟩,?_⟩
 refine⟨by decide,λD hD=> ?_⟩
 refine⟨_,rfl,_,_,rfl,rfl,⟨tw 2 (by decide) (by decide),tw n n0 (by omega)⟩,_,rfl,_,_,rfl,rfl,⟨tw _ (by omega) (by omega),tw (dH N) (by omega) (by omega)⟩,?_⟩
 have nf:n*dH N<=1100*1069:=Int.mul_le_mul n6 (by omega) (by omega) (by decide)
 have pZ:0<=n*dH N:=Int.mul_nonneg n0 (by omega)
 have en:2*n*dH N=2*(n*dH N):=Int.mul_assoc _ _ _
 have X0:0<=2*n*dH N/aA N:=Int.ediv_nonneg (by(clear hD tw tx l2 l1 b k3 k2 k1 fa f8 gh cW g7 a2 D0 fl hu q n6 n0 dD aj;omega)) (by omega)
 have X1:2*n*dH N/aA N<=2*n*dH N:=Int.ediv_le_self _ (by(clear X0 hD tw tx l2 l1 b k3 k2 k1 fa f8 gh cW g7 a2 D0 fl hu q n6 n0 dD aj;omega))
 have bb:iS N*iS N<=1069*4840000:=by
  have h:=oN ev
  have h1:0<=ent N 0 0*aA N:=Int.mul_nonneg (by omega) (by omega)
  have h2:hiT N<=4840000:=by
   have h3:ent N 0 0*ent N 2 2<=2200*2200:=Int.mul_le_mul g7 gh (by(clear h1 h X1 X0 en pZ nf hD tw tx b k3 k2 k1 gh hu q n6 n0 aj;omega)) (by omega)
   have h4:=bf (ent N 0 2)
   unfold hiT
   (clear h1 h X1 X0 en pZ nf hD tw tx l2 l1 b k3 k2 k1 fa f8 gh cW g7 a2 D0 fl hu q n6 n0 dD aj;omega)
  have h5:dH N*hiT N<=dH N*4840000:=Int.mul_le_mul_of_nonneg_left h2 (by omega)
  (clear h2 X1 X0 en pZ nf hD tw tx l2 l1 b k3 k2 k1 fa gh cW g7 a2 hu q n6 n0 aj;omega)
 have bn: -100000<=iS N/\iS N<=100000:=by
  constructor
  ·refine Classical.byContradiction λz=> ?_
   have:100000*100000<= -iS N* -iS N:=Int.mul_le_mul (by omega) (by omega) (by omega) (by omega)
   rw[Int.neg_mul_neg]at this
   omega
  ·refine Classical.byContradiction λz=> ?_
   have:100000*100000<=iS N*iS N:=Int.mul_le_mul (by omega) (by omega) (by omega) (by omega)
   omega
 refine⟨_,rfl,_,_,rfl,rfl,⟨D0,Int.lt_of_le_of_lt dD (by decide)⟩,2*n*dH N/aA N,rfl,X0,(by have:=tx _ X0 (Int.le_trans X1 (by(clear bn bb X1 X0 hD tw tx l2 l1 b k3 k2 k1 fa f8 gh cW g7 a2 D0 fl hu q n6 n0 dD aj;omega)));exact Nat.lt_of_lt_of_le this (by decide)),λR R0 r1 r2=> ?_⟩
 have vV:=IJ NT dD n0 n6 R0 r1
 obtain⟨sp,qi⟩:∃sp:Int->Int,sp=λz=>gv (dH N*(2*n*ent N 0 0) -ent N 0 0*aA N*z*z):=⟨_,rfl⟩
 have qO:∀z,-R<=z->z<=R->0<=dH N*(2*n*ent N 0 0) -ent N 0 0*aA N*z*z:=λz z0 z1=>by
  have h:=(L2.aj D0 fl R0 r1 r2).mp ⟨z0,z1⟩
  have h1:=Int.mul_le_mul_of_nonneg_left h (show 0<=ent N 0 0 by omega)
  have h2:ent N 0 0*aA N*z*z=ent N 0 0*(aA N*z*z):=by grind
  have h3:dH N*(2*n*ent N 0 0)=ent N 0 0*(2*n*dH N):=by grind
  (clear h z1 z0 qi vV r2 r1 R0 bn bb X1 X0 en pZ nf hD tw tx l2 l1 b k3 k2 k1 fa f8 gh cW g7 a2 D0 fl hu q n6 n0 dD aj;omega)
 have s0:∀z,-R<=z->z<=R->0<=sp z/\sp z*sp z<=dH N*(2*n*ent N 0 0) -ent N 0 0*aA N*z*z/\dH N*(2*n*ent N 0 0) -ent N 0 0*aA N*z*z<(sp z+1)*(sp z+1):=λz z0 z1=>by
  rw[qi]
  exact lH (qO z z0 z1)
 have sS:∀z,-R<=z->z<=R->sp z<=39*dH N:=λz z0 z1=>La NT dD n0 n6 (s0 z z0 z1).1 (s0 z z0 z1).2.1
 obtain⟨lo,qP⟩:∃lo:Int->Int,lo=λz=> -((sp z+iS N*z)/dH N):=⟨_,rfl⟩
 obtain⟨ln,qj⟩:∃ln:Int->Nat,ln=λz=>((sp z-iS N*z)/dH N+1- -((sp z+iS N*z)/dH N)).toNat:=⟨_,rfl⟩
 have mZ:∀y z,(y,z)∈fQ lo ln R (2*R+1).toNat↔0<=kI N n y z:=λy z=>by
  rw[qP,qj]
  exact As ev (by omega) fl D0 R0 r1 r2 s0 y z
 have iA:∀z,-R<=z->z<=R->ln z<=79:=λz z0 z1=>by
  have h:=sS z z0 z1
  have h1:(sp z-iS N*z)/dH N*dH N<=sp z-iS N*z:=Int.ediv_mul_le _ (by omega)
  have h2:(sp z+iS N*z)/dH N*dH N<=sp z+iS N*z:=Int.ediv_mul_le _ (by omega)
  have h3:((sp z-iS N*z)/dH N+(sp z+iS N*z)/dH N)*dH N<=78*dH N:=by
   rw[Int.add_mul]
   (clear z1 z0 mZ qj qP sS s0 qO qi vV r2 r1 R0 bn bb X1 X0 en pZ nf hD tw tx l2 l1 b k3 k2 k1 fa f8 gh cW g7 a2 D0 fl hu q n6 n0 dD aj;omega)
  have h4:=Int.le_of_mul_le_mul_right h3 fl
  rw[qj]
  show((sp z-iS N*z)/dH N+1- -((sp z+iS N*z)/dH N)).toNat<=79
  (clear h3 h2 h1 h z1 z0 mZ qj qP sS s0 qO qi vV r2 r1 R0 bn bb X1 X0 en pZ nf hD tw tx l2 l1 b k3 k2 k1 fa f8 gh cW g7 a2 D0 fl hu q n6 n0 dD aj;omega)
 have iU:∀m:Nat,(m:Int)<=2*R+1->(fQ lo ln R m).length<=m*79:=λm hm=>vm λi hi=>iA _ (by omega) (by(clear iA mZ qj qP sS s0 qO qi vV r2 r1 R0 bn bb X1 X0 en pZ nf hD tw tx l2 l1 b k3 k2 k1 fa f8 gh cW g7 a2 D0 fl hu q n6 n0 dD aj;omega))
 refine⟨_,rfl,_,rfl,_,rfl,_,_,rfl,rfl,_,_,rfl,⟨by omega,by omega,by omega,by omega⟩,?_⟩
 refine jB (λi σ H'=> ∃o1 o2 o3 o4 us,σ=[some (.ref t),some (.int n),some (.int (ent N 0 0)),some (.int (ent N 0 1)),some (.int (ent N 0 2)),some (.ref c1),some (.ref c2),some (.int (dH N)),some (.int (iS N)),some (.int (hiT N)),some (.int (aA N)),some (.int (2*n*ent N 0 0)),some (.ref D),some (.int R),o1,o2,o3,o4]/\SD D H1 H'/\H' D=some (.lst us)/\d7 H' N n us (fQ lo ln R i)) ⟨_,_,_,_,_,rfl,SD.refl.upd,av,.nil⟩ (λi σ H' hi hh=> ?_) (λσ H' hh=> ?_)
 ·obtain⟨o1,o2,o3,o4,us,rfl,sD,eD,tu⟩:=hh
  obtain⟨z,ez⟩:∃z:Int,z=(i:Int) -R:=⟨_,rfl⟩
  have wm: -R+(i:Int)=z:=by(clear eD hi iU iA mZ qj qP sS s0 qO qi vV r2 r1 R0 bn bb X1 X0 en pZ nf hD tw tx l2 l1 b k3 k2 k1 fa f8 gh cW g7 a2 D0 fl hu q n6 n0 dD aj;omega)
  rw[wm]
  have z0: -R<=z:=by(clear wm eD hi iU iA mZ qj qP sS s0 qO qi vV r2 r1 R0 bn bb X1 X0 en pZ nf hD tw tx l2 l1 b k3 k2 k1 fa f8 gh cW g7 a2 D0 fl hu q n6 n0 dD aj;omega)
  have z1:z<=R:=by(clear z0 wm eD iU iA mZ qj qP sS s0 qO qi r2 r1 bn bb X1 X0 en pZ nf hD tw tx l2 l1 b k3 k2 k1 fa f8 gh cW g7 a2 D0 fl hu q n6 n0 dD aj;omega)
  have nz:z.natAbs<=76:=by(clear z0 wm eD hi iU iA mZ qj qP sS s0 qO qi r2 r1 bn bb X1 X0 en pZ nf hD tw tx l2 l1 b k3 k2 k1 fa f8 gh cW g7 a2 D0 fl hu q n6 n0 dD aj;omega)
  have wo:(dH N).natAbs<=1069:=by omega
  have vW:(iS N).natAbs<=100000:=by(clear wo nz z1 z0 wm ez eD hi iU iA mZ qj qP sS s0 qO qi vV r2 r1 R0 bb X1 X0 en pZ nf hD tw tx l2 l1 b k3 k2 k1 fa f8 gh cW g7 a2 D0 fl hu q n6 n0 dD aj;omega)
  have na:(ent N 0 0).natAbs<=2200:=by omega
  have nD:(aA N).natAbs<=401:=by omega
  have nm:(2*n*ent N 0 0).natAbs<=2200*2200:=iT (by omega) na
  have zw:=iT na nD
  have m8:=iT zw nz
  have Ec:=iT vW nz
  have Ba:(dH N*(2*n*ent N 0 0) -ent N 0 0*aA N*z*z).natAbs<2^200:=by
   have h1:=iT wo nm
   have h2:=iT m8 nz
   exact Nat.lt_of_le_of_lt (m:=10^20) (by(clear Ec m8 zw nm nD na vW wo nz z1 z0 wm ez eD hi iU iA mZ qj qP sS s0 qO qi vV r2 r1 R0 bn bb X1 X0 en pZ nf hD tw tx l2 l1 b k3 k2 k1 fa f8 gh cW g7 a2 D0 fl hu q n6 n0 dD aj;omega)) (by decide)
  have nhi:(hiT N).natAbs<=30000000:=by
   have h1:=iT na (show(ent N 2 2).natAbs<=2200 by(clear Ba Ec m8 zw nm nD na vW wo nz z1 z0 wm ez eD hi iU iA mZ qj qP sS s0 qO qi vV r2 r1 R0 bn bb X1 X0 en pZ nf hD tw tx b k3 k2 k1 hu q n6 n0 aj;omega))
   have hu:=NT.u
   have h2:=iT (show(ent N 0 2).natAbs<=4400 by(clear h1 Ba Ec m8 zw nm nD na vW wo nz z1 z0 wm ez eD hi iU iA mZ qj qP sS s0 qO qi vV r2 r1 R0 bn bb X1 X0 en pZ nf hD tw tx l2 l1 b k3 k2 k1 gh cW q n6 n0 aj;omega)) (show(ent N 0 2).natAbs<=4400 by(clear h1 Ba Ec m8 zw nm nD na vW wo nz z1 z0 wm ez eD hi iU iA mZ qj qP sS s0 qO qi vV r2 r1 R0 bn bb X1 X0 en pZ nf hD tw tx l2 l1 b k3 k2 k1 gh cW q n6 n0 aj;omega))
   unfold hiT
   (clear hu Ba Ec m8 zw nm nD na vW wo nz z1 z0 wm ez eD hi iU iA mZ qj qP sS s0 qO qi vV r2 r1 R0 bn bb X1 X0 en pZ nf hD tw tx l2 l1 b k3 k2 k1 fa f8 gh cW g7 a2 D0 fl q n6 n0 dD aj;omega)
  have C:∀{x:Int}{A:Nat},x.natAbs<=A->A<=10^30->x.natAbs<2^4096:=λh g=>Uz (Nat.le_trans h g)
  refine⟨_,rfl,_,rfl,_,_,rfl,rfl,⟨C wo (by decide),C nm (by decide)⟩,_,rfl,_,rfl,_,_,rfl,rfl,⟨C na (by decide),C nD (by decide)⟩,_,rfl,_,_,rfl,rfl,⟨C zw (by decide),C nz (by decide)⟩,_,rfl,_,_,rfl,rfl,⟨C m8 (by decide),C nz (by decide)⟩,_,_,rfl,rfl,_,rfl,qO z z0 z1,Ba,λw h0 h1 h2=> ?_⟩
  have es:w=sp z:=by rw[qi];exact(oQ h0 h1 h2).symm
  have wS:=sS z z0 z1
  rw[<-es]at wS
  have q1:=PZ (x:=w+iS N*z) fl (by(clear h2 h1 C nhi Ba m8 zw nm nD na vW wo nz z1 z0 wm ez eD hi iU iA mZ qj qP sS s0 qO qi vV r2 r1 R0 bn bb X1 X0 en pZ nf hD tw tx l2 l1 b k3 k2 k1 fa gh cW g7 a2 hu q n6 n0 aj;omega))
  have q2:=PZ (x:=w-iS N*z) fl (by(clear q1 h2 h1 C nhi Ba m8 zw nm nD na vW wo nz z1 z0 wm ez eD hi iU iA mZ qj qP sS s0 qO qi vV r2 r1 R0 bn bb X1 X0 en pZ nf hD tw tx l2 l1 b k3 k2 k1 fa gh cW g7 a2 hu q n6 n0 aj;omega))
  refine⟨_,rfl,_,rfl,_,rfl,_,_,rfl,rfl,⟨C vW (by decide),C nz (by decide)⟩,_,_,rfl,rfl,_,rfl,_,_,rfl,rfl,⟨fl,by omega⟩,_,rfl,?_⟩
  refine⟨_,rfl,_,rfl,_,rfl,_,_,rfl,rfl,⟨C vW (by decide),C nz (by decide)⟩,_,_,rfl,rfl,_,rfl,_,_,rfl,rfl,⟨fl,by omega⟩,_,_,rfl,rfl,_,_,rfl,⟨by(clear q2 wS es h2 h1 h0 C nhi Ba Ec m8 zw nm nD na vW wo nz z1 z0 wm ez eD hi iU iA mZ qj qP sS s0 qO qi vV r2 r1 R0 bn bb X1 X0 en pZ nf hD tw tx l2 l1 b k3 k2 k1 fa f8 gh cW g7 a2 D0 fl hu q n6 n0 dD aj;omega),by(clear q2 wS es h2 h1 h0 C nhi Ba Ec m8 zw nm nD na vW wo nz z1 z0 wm ez eD hi iU iA mZ qj qP sS s0 qO qi vV r2 r1 R0 bn bb X1 X0 en pZ nf hD tw tx l2 l1 b k3 k2 k1 fa f8 gh cW g7 a2 D0 fl hu q n6 n0 dD aj;omega),by(clear q1 wS es h2 h1 h0 C nhi Ba Ec m8 zw nm nD na vW wo nz z1 z0 wm ez eD hi iU iA mZ qj qP sS s0 qO qi vV r2 r1 R0 bn bb X1 X0 en pZ nf hD tw tx l2 l1 b k3 k2 k1 fa f8 gh cW g7 a2 D0 fl hu q n6 n0 dD aj;omega),by(clear q1 wS es h2 h1 h0 C nhi Ba Ec m8 zw nm nD na vW wo nz z1 z0 wm ez eD hi iU iA mZ qj qP sS s0 qO qi vV r2 r1 R0 bn bb X1 X0 en pZ nf hD tw tx l2 l1 b k3 k2 k1 fa f8 gh cW g7 a2 D0 fl hu q n6 n0 dD aj;omega)⟩,?_⟩
  have SE:lo z= -((w+iS N*z)/dH N):=by rw[qP,es]
  have QI:ln z=((w-iS N*z)/dH N+1- -((w+iS N*z)/dH N)).toNat:=by rw[qj,es]
  have SG:=iA z z0 z1
  have li:=iU i (by omega)
  refine jB (λj σ H2=> ∃o3 o4 us',σ=[some (.ref t),some (.int n),some (.int (ent N 0 0)),some (.int (ent N 0 1)),some (.int (ent N 0 2)),some (.ref c1),some (.ref c2),some (.int (dH N)),some (.int (iS N)),some (.int (hiT N)),some (.int (aA N)),some (.int (2*n*ent N 0 0)),some (.ref D),some (.int R),some (.int z),some (.int w),o3,o4]/\SD D H1 H2/\H2 D=some (.lst us')/\d7 H2 N n us' (fQ lo ln R i++g6 z (lo z) j)) ⟨_,_,_,rfl,sD,eD,by simpa [g6]using tu⟩ (λj σ H2 hj hh=> ?_) (λσ H2 hh=> ?_)
  ·obtain⟨o3,o4,us',rfl,SH,vn,QJ⟩:=hh
   obtain⟨y,ey⟩:∃y:Int,y=lo z+(j:Int):=⟨_,rfl⟩
   have Ed: -((w+iS N*z)/dH N)+(j:Int)=y:=by(clear vn hj li SG QI q2 q1 wS es h2 h1 h0 C nhi Ba Ec m8 zw nm nD na vW wo nz z1 z0 wm ez eD hi iU iA mZ qj qP sS s0 qO qi vV r2 r1 R0 bn bb X1 X0 en pZ nf hD tw tx l2 l1 b k3 k2 k1 fa f8 gh cW g7 a2 D0 fl hu q n6 n0 dD aj;omega)
   rw[Ed]
   have ny:y.natAbs<=20000000000:=by(clear Ed vn li q1 wS es h2 h1 h0 C nhi Ba Ec m8 zw nm nD na vW wo nz z1 z0 wm ez eD hi iU iA mZ qj qP sS s0 qO qi vV r2 r1 R0 bn bb X1 X0 en pZ nf hD tw tx l2 l1 b k3 k2 k1 fa f8 gh cW g7 a2 D0 fl hu q n6 n0 dD aj;omega)
   have QK:=iT wo ny
   have QL:=iT (iT (show(2:Int).natAbs<=2 by decide) vW) ny
   have QM:=iT nhi nz
   have hp:=NT.p
   have hu:=NT.u
   have np:(ent N 0 1).natAbs<=2200:=by(clear hu QM QL QK ny Ed ey vn hj li SG QI SE q2 q1 wS es h2 h1 h0 C nhi Ba Ec m8 zw nm nD na vW wo nz z1 z0 wm ez eD hi iU iA mZ qj qP sS s0 qO qi vV r2 r1 R0 bn bb X1 X0 en pZ nf hD tw tx l2 l1 b k3 k2 k1 gh cW q n6 n0 aj;omega)
   have nq:(ent N 0 2).natAbs<=4400:=by(clear np hp QM QL QK ny Ed ey vn hj li SG QI SE q2 q1 wS es h2 h1 h0 C nhi Ba Ec m8 zw nm nD na vW wo nz z1 z0 wm ez eD hi iU iA mZ qj qP sS s0 qO qi vV r2 r1 R0 bn bb X1 X0 en pZ nf hD tw tx l2 l1 b k3 k2 k1 gh cW q n6 n0 aj;omega)
   show vZ _ _ _ _ _
   with_reducible apply kg
   ·exact λR hR=>⟨_,rfl,_,rfl,_,rfl,_,_,rfl,rfl,⟨C wo (by decide),C ny (by decide)⟩,_,rfl,_,_,rfl,rfl,⟨C QK (by decide),C ny (by decide)⟩,_,rfl,_,_,rfl,rfl,⟨C (A:=2) (by decide) (by decide),C vW (by decide)⟩,_,rfl,_,_,rfl,rfl,⟨C (iT (show(2:Int).natAbs<=2 by decide) vW) (by decide),C ny (by decide)⟩,_,rfl,_,_,rfl,rfl,⟨C QL (by decide),C nz (by decide)⟩,_,_,rfl,rfl,_,rfl,_,rfl,_,_,rfl,rfl,⟨C nhi (by decide),C nz (by decide)⟩,_,rfl,_,_,rfl,rfl,⟨C QM (by decide),C nz (by decide)⟩,_,_,rfl,rfl,_,_,rfl,rfl,hR⟩
   refine⟨_,rfl,.inl ⟨rfl,_,aW.of vn⟩,_,rfl,_,rfl,_,rfl,_,rfl,_,_,rfl,rfl,⟨C np (by decide),C ny (by decide)⟩,_,rfl,_,rfl,_,_,rfl,rfl,⟨C nq (by decide),C nz (by decide)⟩,_,_,rfl,rfl,_,rfl,(by show 4<=sizeLine;decide),λb hb=> ?_⟩
   have ul:us'.length<sizeLine:=by
    have:=QJ.length
    rw[List.length_append]at this
    have h2:(g6 z (lo z) j).length=j:=by simp[g6]
    show us'.length<16777216
    (clear hb nq np hu hp QM QL QK ny Ed ey vn SE q2 q1 wS es h1 h0 C nhi Ba Ec m8 zw nm nD na vW wo nz wm eD hi iU iA mZ qj qP sS s0 qO qi r2 r1 bn bb X1 X0 en pZ nf hD tw tx l2 l1 k3 k2 k1 fa f8 gh cW g7 a2 D0 fl q n6 n0 dD aj;omega)
   have UA:b≠D:=λz=>by rw[z,vn]at hb;cases hb
   refine⟨D,us',.ref b,rfl,rfl,by rw[aI (λz=>UA z.symm)];exact vn,ul,?_⟩
   refine⟨_,_,_,rfl,(SD.trans SH (SD.of (az.up hb))).upd,av,?_⟩
   rw[Ar,<-List.append_assoc]
   refine d7.upd (by rw[aI (λz=>UA z.symm)];exact vn) ((QJ.same (az.up hb)).append (.cons ?_ .nil))
   rw[av,<-ey]
   rfl
  ·obtain⟨o3,o4,us',rfl,SH,vn,QJ⟩:=hh
   refine⟨_,_,_,_,_,rfl,SH,vn,?_⟩
   rw[mw,<-ez,QI]
   exact QJ
 ·obtain⟨o1,o2,o3,o4,us,rfl,sD,eD,tu⟩:=hh
  refine⟨_,rfl,?_⟩
  have nd:=iU (2*R+1).toNat (by(clear eD iU iA mZ qj qP sS s0 qO qi r2 r1 bn bb X1 X0 en pZ nf hD tw tx l2 l1 b k3 k2 k1 fa f8 gh cW g7 a2 D0 fl hu q n6 n0 dD aj;omega))
  refine q D us _ H' ?_ eD ?_ wk mZ (by(clear eD iU iA mZ qj qP sS s0 qO qi r2 r1 bn bb X1 X0 en pZ nf hD tw tx l2 l1 b k3 k2 k1 fa f8 gh cW g7 a2 D0 fl hu q n6 n0 dD aj;omega))
  ·exact λa o e=>(sD.same hD) a o (s1 _ _ e)
  ·have e:(R+1- -R).toNat=(2*R+1).toNat:=by(clear nd eD iU iA mZ qj qP sS s0 qO qi r2 r1 bn bb X1 X0 en pZ nf hD tw tx l2 l1 b k3 k2 k1 fa f8 gh cW g7 a2 D0 fl hu q n6 n0 dD aj;omega)
   rw[<-e]
   exact tu
end
end CW
namespace L2
open PySem PySem.Spec PyProof.Rows PySem.SeqAt
noncomputable def qQ:Int:=2^1001
theorem Ef:qQ=2*((2^1000:Nat):Int):=by
 unfold qQ
 rw[show(1001:Nat)=1000+1 from rfl,Int.pow_succ,Int.mul_comm]
 congr 1
noncomputable def Nz(r:List Int):Int:=dQ r 0*(qQ*qQ)+dQ r 1*qQ+dQ r 2
noncomputable def IK(r:List Int):Prop:=∀i,i<3->(dQ r i).natAbs<2^1000
theorem Av{B u v w:Int}(hB:0<B)(hu:1<=u)(hv: -(B-1)<=v)(hw: -(B-1)<=w):0<u*(B*B)+v*B+w:=by
 have h1:0<=B*B:=Int.mul_nonneg (by omega) (by omega)
 have h2:1*(B*B)<=u*(B*B):=Int.mul_le_mul_of_nonneg_right hu h1
 have h3: -(B-1)*B<=v*B:=Int.mul_le_mul_of_nonneg_right hv (by omega)
 have h4: -(B-1)*B=B-B*B:=by rw[Int.neg_mul,Int.sub_mul];omega
 (clear h1 hv hu hB;omega)
theorem xH{B v w:Int}(hB:0<B)(hv:1<=v)(hw: -(B-1)<=w):0<v*B+w:=by
 have h2:1*B<=v*B:=Int.mul_le_mul_of_nonneg_right hv (by omega)
 omega
theorem Lb{B x y z x' y' z':Int}(hB:0<B)(a1:y'-y<=B-1/\y-y'<=B-1)(a2:z'-z<=B-1/\z-z'<=B-1):
  (x*(B*B)+y*B+z<x'*(B*B)+y'*B+z')↔(x<x'∨(x=x'/\(y<y'∨(y=y'/\z<z')))):=by
 have d:x'*(B*B)+y'*B+z'- (x*(B*B)+y*B+z)=(x'-x)*(B*B)+(y'-y)*B+(z'-z):=by grind
 have d':x*(B*B)+y*B+z- (x'*(B*B)+y'*B+z')=(x-x')*(B*B)+(y-y')*B+(z-z'):=by grind
 rcases Int.lt_trichotomy x x' with h|h|h
 ·have:=Av (u:=x'-x) (v:=y'-y) (w:=z'-z) hB (by(clear d' d a2 a1 hB;omega)) (by omega) (by omega)
  exact⟨λ_=> .inl h,λ_=>by(clear h a2 a1 hB;omega)⟩
 ·subst h
  rw[Int.sub_self,Int.zero_mul,Int.zero_add]at d d'
  rcases Int.lt_trichotomy y y' with h|h|h
  ·have:=xH (v:=y'-y) (w:=z'-z) hB (by omega) (by omega)
   exact⟨λ_=> .inr ⟨rfl,.inl h⟩,λ_=>by(clear h a2 a1 hB;omega)⟩
  ·subst h
   constructor
   ·intro _;exact .inr ⟨rfl,.inr ⟨rfl,by omega⟩⟩
   ·rintro(z|⟨_,z|⟨_,z⟩⟩)<;>(clear d' d a1 a2 hB;omega)
  ·have:=xH (v:=y-y') (w:=z-z') hB (by omega) (by omega)
   constructor
   ·intro _;(clear h a2 a1 hB;omega)
   ·rintro(z|⟨_,z|⟨z,_⟩⟩)<;>(clear this d' d a2 a1 hB;omega)
 ·have:=Av (u:=x-x') (v:=y-y') (w:=z-z') hB (by(clear d' d a2 a1 hB;omega)) (by omega) (by omega)
  constructor
  ·intro _;(clear h a2 a1 hB;omega)
  ·rintro(z|⟨z,_⟩)<;>(clear this d' d a2 a1 hB;omega)
theorem IL:0<qQ:=by
 rw[Ef]
 have:0<2^1000:=Nat.pow_pos (by decide)
 omega
theorem xJ{a b:Int}(ha:a.natAbs<2^1000)(hb:b.natAbs<2^1000):a-b<=qQ-1/\b-a<=qQ-1:=by
 rw[Ef]
 omega
theorem Lc{x y z x' y' z':Int}(a1:y.natAbs<2^1000)(a2:z.natAbs<2^1000)(b1:y'.natAbs<2^1000)(b2:z'.natAbs<2^1000):
  JA (.list [.int x,.int y,.int z]) (.list [.int x',.int y',.int z'])=decide (x*(qQ*qQ)+y*qQ+z<x'*(qQ*qQ)+y'*qQ+z'):=by
 have e1:∀a b:Int,PyData.eqv (.int a) (.int b)=decide (a=b):=λa b=>rfl
 have e:=Lb (x:=x) (x':=x') IL (xJ b1 a1) (xJ b2 a2)
 rw[Bool.eq_iff_iff,decide_eq_true_iff,e]
 simp only[JA,yq,e1]
 by_cases h1:x=x'
 ·by_cases h2:y=y'
  ·by_cases h3:z=z'
   ·simp[h1,h2,h3]
   ·simp[h1,h2,h3]
  ·simp[h1,h2]
 ·simp[h1]
theorem tH{K:PySem.W.Frag}{H:Hp}{p:Addr}{as:List Addr}{Q:VK}(hp:aW K H p (as.map V.ref))(ok:fW H as)(sm:∀b∈as,IK (j3 H b))
  (q:∀bs:List Addr,bs.Perm as->(rws H bs).Pairwise (λr s=>Nz r<=Nz s) -> ∀l,H l=none->Q (.ref l) (upd H l (.lst (bs.map V.ref)))):DL K [.ref p] H Q:=by
 refine⟨p,as,λa=>Nz (j3 H a),λa=> .list [.int (dQ (j3 H a) 0),.int (dQ (j3 H a) 1),.int (dQ (j3 H a) 2)],rfl,hp,λa ha=>⟨?_,pJ [dQ (j3 H a) 0,dQ (j3 H a) 1,dQ (j3 H a) 2]⟩,.inl λa ha b hb=>⟨.lst (.cons (.int _ _) (.cons (.int _ _) (.cons (.int _ _) .nil))),?_⟩,λbs pb so l hl=> ?_⟩
 ·exact .lst (aW.of (ok a ha).1) (.cons (.int _) (.cons (.int _) (.cons (.int _) .nil)))
 ·exact Lc (sm a ha 1 (by decide)) (sm a ha 2 (by decide)) (sm b hb 1 (by decide)) (sm b hb 2 (by decide))
 ·exact q bs pb (by unfold rws;rw[List.pairwise_map];exact so) l hl
end L2
namespace L2
open PySem
noncomputable section
noncomputable def d9(s:Int):List Int:=if 0<s then [s,-s]else [0]
noncomputable def b7(N:List (List Int))(p:Int×Int)(ks:List Int):List (List Int):=ks.flatMap λk=>if(k-qV N p.1 p.2)%ent N 0 0=0 then [[(k-qV N p.1 p.2)/ent N 0 0,p.1,p.2]]else []
noncomputable def fC(N:List (List Int))(n:Int)(p:Int×Int):List (List Int):=if gv (kI N n p.1 p.2)*gv (kI N n p.1 p.2)=kI N n p.1 p.2 then b7 N p (d9 (gv (kI N n p.1 p.2)))else []
theorem tK{s k:Int}(h:0<=s):k∈d9 s↔k*k=s*s:=by
 unfold d9
 have key:k*k=s*s↔k=s∨k= -s:=by
  constructor
  ·intro e
   have:(k-s)*(k+s)=0:=by grind
   rcases Int.mul_eq_zero.mp this with z|z<;>(clear this e;omega)
  ·rintro(rfl|rfl)<;>grind
 rw[key]
 split
 ·simp
 ·have:s=0:=by omega
  simp[this]
theorem jx{N:List (List Int)}(pos:0<ent N 0 0){p:Int×Int}{ks:List Int}{r:List Int}:r∈b7 N p ks↔ ∃x,r=[x,p.1,p.2]/\ent N 0 0*x+qV N p.1 p.2∈ks:=by
 unfold b7
 rw[List.mem_flatMap]
 constructor
 ·rintro⟨k,hk,h⟩
  split at h
  ·rename_i e
   rw[List.mem_singleton]at h
   refine⟨_,h,?_⟩
   have:=Int.mul_ediv_cancel' (Int.dvd_of_emod_eq_zero e)
   rw[this]
   rwa [Int.sub_add_cancel]
  ·cases h
 ·rintro⟨x,rfl,h⟩
  refine⟨_,h,?_⟩
  rw[Int.add_sub_cancel,if_pos (Int.mul_emod_right _ _),Int.mul_ediv_cancel_left _ (by omega)]
  simp
theorem mC{N:List (List Int)}(pos:0<ent N 0 0){n:Int}{p:Int×Int}(h0:0<=kI N n p.1 p.2){r:List Int}:r∈fC N n p↔ ∃x,r=[x,p.1,p.2]/\(ent N 0 0*x+qV N p.1 p.2)*(ent N 0 0*x+qV N p.1 p.2)=kI N n p.1 p.2:=by
 obtain⟨s0,s1,s2⟩:=lH h0
 unfold fC
 split
 ·rename_i e
  rw[jx pos]
  constructor
  ·rintro⟨x,e1,h⟩
   exact⟨x,e1,((tK s0).mp h).trans e⟩
  ·rintro⟨x,e1,h⟩
   exact⟨x,e1,(tK s0).mpr (h.trans e.symm)⟩
 ·rename_i e
  constructor
  ·intro h;cases h
  ·rintro⟨x,_,h⟩
   exfalso
   apply e
   have key:∀u:Int,0<=u->u*u=kI N n p.1 p.2->gv (kI N n p.1 p.2)=u:=λu u0 ue=>oQ u0 (by(clear u0 e s2 s1 s0 h0 pos;omega)) (by rw[<-ue];exact(by grind:(u+1)*(u+1)=u*u+2*u+1)▸(by(clear ue h e s2 s1 s0 h0 pos;omega)))
   rcases Int.le_total 0 (ent N 0 0*x+qV N p.1 p.2)with u0|u0
   ·rw[key _ u0 h];exact h
   ·have h':(-(ent N 0 0*x+qV N p.1 p.2))*(-(ent N 0 0*x+qV N p.1 p.2))=kI N n p.1 p.2:=by rw[Int.neg_mul_neg];exact h
    rw[key _ (by omega) h'];exact h'
theorem nU{N:List (List Int)}(pos:0<ent N 0 0){p:Int×Int}:∀{ks:List Int},ks.Nodup->(b7 N p ks).Nodup
 | [],_=>List.nodup_nil
 |k::ks,h=>by
  obtain⟨h1,h2⟩:=List.nodup_cons.mp h
  have e:b7 N p (k::ks)=b7 N p [k]++b7 N p ks:=by simp[b7]
  rw[e]
  refine List.nodup_append.mpr ⟨?_,nU pos h2,λa ha b hb e=> ?_⟩
  ·unfold b7
   simp only[List.flatMap_cons,List.flatMap_nil,List.append_nil]
   split<;>simp
  ·subst e
   obtain⟨x,rfl,m1⟩:=(jx pos).mp ha
   obtain⟨x',e',m2⟩:=(jx pos).mp hb
   cases e'
   rw[List.mem_singleton]at m1
   rw[m1]at m2
   exact h1 m2
theorem yK{N:List (List Int)}(pos:0<ent N 0 0){n:Int}{p:Int×Int}:(fC N n p).Nodup:=by
 unfold fC
 split
 ·refine nU pos ?_
  unfold d9
  split
  ·simp;omega
  ·simp
 ·exact List.nodup_nil
theorem wu{N:List (List Int)}{n:Int}{p:Int×Int}:(fC N n p).length<=2:=by
 unfold fC
 have one:∀k,(if(k-qV N p.1 p.2)%ent N 0 0=0 then [[(k-qV N p.1 p.2)/ent N 0 0,p.1,p.2]]else([]:List (List Int))).length<=1:=λk=>by split<;>simp
 split
 ·unfold b7 d9
  split
  ·simp only[List.flatMap_cons,List.flatMap_nil,List.append_nil,List.length_append]
   have:=one (gv (kI N n p.1 p.2))
   have:=one (-gv (kI N n p.1 p.2))
   omega
  ·simp only[List.flatMap_cons,List.flatMap_nil,List.append_nil]
   have:=one 0
   omega
 ·simp
noncomputable def e9(N:List (List Int))(n:Int)(L:List (List Int)):Prop:=L.Nodup/\(∀r∈L,∃v:Nat->Int,r=[v 0,v 1,v 2])/\ ∀v:Nat->Int,[v 0,v 1,v 2]∈L↔bE N v=n
theorem e9.perm{N:List (List Int)}{n:Int}{L L':List (List Int)}(h:e9 N n L)(p:L'.Perm L):e9 N n L':=
 ⟨p.nodup_iff.mpr h.1,λr hr=>h.2.1 r (p.mem_iff.mp hr),λv=>p.mem_iff.trans (h.2.2 v)⟩
theorem wC{N:List (List Int)}(ev:b8 N)(pos:0<ent N 0 0){n:Int}{ps:List (Int×Int)}(nd:ps.Nodup)(h:∀y z,(y,z)∈ps↔0<=kI N n y z):e9 N n (ps.flatMap (fC N n)):=by
 have sq:∀u:Int,0<=u*u:=λu=>by
  rcases Int.le_total 0 u with z|z
  ·exact Int.mul_nonneg z z
  ·rw[<-Int.neg_mul_neg];exact Int.mul_nonneg (by omega) (by omega)
 refine⟨?_,λr hr=> ?_,λv=> ?_⟩
 ·clear h
  induction ps with
  |nil=>exact List.nodup_nil
  |cons p ps ih=>
   obtain⟨h1,h2⟩:=List.nodup_cons.mp nd
   rw[List.flatMap_cons]
   refine List.nodup_append.mpr ⟨yK pos,ih h2,λa ha b hb e=> ?_⟩
   subst e
   obtain⟨p',fJ,hb⟩:=List.mem_flatMap.mp hb
   have at_:∀{p:Int×Int},a∈fC N n p-> ∃x,a=[x,p.1,p.2]:=λ {p} ha=>by
    unfold fC at ha
    split at ha
    ·obtain⟨x,e,_⟩:=(jx pos).mp ha
     exact⟨x,e⟩
    ·cases ha
   obtain⟨x,e1⟩:=at_ ha
   obtain⟨x',e2⟩:=at_ hb
   rw[e1]at e2
   injection e2 with _ e3
   injection e3 with e4 e5
   injection e5 with e6 _
   have:p=p':=Prod.ext e4 e6
   rw[this]at h1
   exact h1 fJ
 ·obtain⟨p,hp,hr⟩:=List.mem_flatMap.mp hr
  obtain⟨x,e,_⟩:=(mC pos ((h p.1 p.2).mp hp)).mp hr
  exact⟨λi=>match i with|0=>x|1=>p.1|_=>p.2,e⟩
 ·rw[rZ ev pos,List.mem_flatMap]
  constructor
  ·rintro⟨p,hp,hr⟩
   obtain⟨x,e,k⟩:=(mC pos ((h p.1 p.2).mp hp)).mp hr
   injection e with e1 e
   injection e with e2 e
   injection e with e3 _
   rw[e1,e2,e3]
   exact k
  ·intro k
   have l0:0<=kI N n (v 1) (v 2):=by rw[<-k];exact sq _
   exact⟨(v 1,v 2),(h _ _).mpr l0,(mC (p:=(v 1,v 2)) pos l0).mpr ⟨v 0,rfl,k⟩⟩
theorem d7.sd{H H':Hp}{N:List (List Int)}{n:Int}{us:List V}{ps:List (Int×Int)}{D:Addr}{xs:List V}(hD:H D=some (.lst xs))(s:SD D H H')(h:d7 H N n us ps):d7 H' N n us ps:=by
 induction h with
 |nil=>exact .nil
 |cons e _ ih=>exact .cons (s _ _ (λz=>by rw[z,hD]at e;cases e) e) ih
theorem d7.get{H:Hp}{N:List (List Int)}{n:Int}{us:List V}{ps:List (Int×Int)}(h:d7 H N n us ps):∀{i:Nat}{x:V},us[i]?=some x-> ∃a p,x= .ref a/\ps[i]?=some p/\H a=some (.tup (PY N n p)):=by
 induction h with
 |nil=>intro i x h;simp at h
 | @cons a us p ps e _ ih=>
  intro i x h
  match i,h with
  |0,h=>cases h;exact⟨a,p,rfl,rfl,e⟩
  |i+1,h=>obtain⟨a,p,e1,e2,e3⟩:=ih (i:=i) (by simpa using h);exact⟨a,p,e1,by simpa using e2,e3⟩
theorem IM{te:TE}{i:Nat}{b:TS}{D:Ends}{σ:St}{H:Hp}(P:V->Hp->Prop)(h:∀R:VK,(∀v H',P v H'->R v H') ->te σ H R)(k:∀v H',P v H'->b D (σ.set i (some v)) H'):vZ (Bf te (dI i)) b D σ H:=h _ k
theorem vp{N:List (List Int)}(ev:b8 N)(h:gp N)(dD:aA N<=401){n y z:Int}(n0:0<=n)(n6:n<=1100)(l:0<=kI N n y z):y.natAbs<=10^10/\z.natAbs<=10^5/\kI N n y z<=4840000:=by
 obtain⟨fl,D0,a2,g7,cW,gh,f8,fa⟩:=gF h dD
 have l1:=h.KN
 have l2:=h.Nt
 have g:=(vh ev (by omega) fl n y z).mp l
 have sq:∀u:Int,0<=u*u:=λu=>by
  rcases Int.le_total 0 u with z|z
  ·exact Int.mul_nonneg z z
  ·rw[<-Int.neg_mul_neg];exact Int.mul_nonneg (by omega) (by omega)
 have n1:n*ent N 0 0<=1100*2200:=Int.mul_le_mul n6 g7 (by omega) (by decide)
 have n2:0<=n*ent N 0 0:=Int.mul_nonneg n0 (by omega)
 have n3:dH N*(2*n*ent N 0 0)<=1069*4840000:=Int.mul_le_mul (by omega) (by rw[Int.mul_assoc];omega) (by rw[Int.mul_assoc];(clear sq g l2 l1 fa f8 gh cW g7 a2 D0 fl l n6 n0 dD;omega)) (by decide)
 have e1:ent N 0 0*aA N*z*z=(ent N 0 0*aA N)*(z*z):=by grind
 have p1:1<=ent N 0 0*aA N:=Int.mul_pos (by omega) D0
 have p2:z*z<=(ent N 0 0*aA N)*(z*z):=by
  have:=Int.mul_le_mul_of_nonneg_right p1 (sq z)
  rwa [Int.one_mul]at this
 have root:∀(u X B:Int),u*u<=X->0<=B->X<B*B->u.natAbs<=B.natAbs:=λu X B h1 b0 h2=>by
  refine Classical.byContradiction λc=> ?_
  have:B.natAbs*B.natAbs<=u.natAbs*u.natAbs:=Nat.mul_le_mul (by(clear h2 b0 h1 p2 p1 e1 n3 n2 n1 sq g l2 l1 fa f8 gh cW g7 a2 D0 fl l n6 n0 dD;omega)) (by(clear h2 b0 h1 p2 p1 e1 n3 n2 n1 sq g l2 l1 fa f8 gh cW g7 a2 D0 fl l n6 n0 dD;omega))
  have e:=Int.natAbs_mul_self (a:=u)
  have e':=Int.natAbs_mul_self (a:=B)
  (clear c b0 p2 p1 e1 n3 n2 n1 sq g l2 l1 fa f8 gh cW g7 a2 D0 fl l n6 n0 dD;omega)
 have s1:=sq (dH N*y+iS N*z)
 have z1:z.natAbs<=80000:=root z (1069*4840000) 80000 (by(clear root p1 n2 n1 sq l2 l1 fa f8 gh cW g7 a2 D0 fl l n6 n0 dD;omega)) (by decide) (by decide)
 have w1:(dH N*y+iS N*z).natAbs<=80000:=root _ (1069*4840000) 80000 (by have:=sq z;(clear z1 s1 root p1 n2 n1 sq l2 l1 fa f8 gh cW g7 a2 D0 fl l n6 n0 dD;omega)) (by decide) (by decide)
 have q0:∀z w:Int,z*w=w*z:=Int.mul_comm
 have bb:iS N*iS N<=1069*4840000:=by
  have h:=oN ev
  have h1:0<=ent N 0 0*aA N:=by(clear q0 w1 z1 s1 root p2 e1 n3 n2 n1 sq g l2 l1 fa f8 gh cW g7 a2 D0 fl l n6 n0 dD;omega)
  have h2:hiT N<=4840000:=by
   have h3:ent N 0 0*ent N 2 2<=2200*2200:=Int.mul_le_mul g7 gh (by omega) (by omega)
   have h4:=sq (ent N 0 2)
   unfold hiT
   (clear h1 h q0 w1 z1 s1 root p2 p1 e1 n3 n2 n1 sq g l2 l1 fa f8 gh cW g7 a2 D0 fl l n6 n0 dD;omega)
  have h5:dH N*hiT N<=dH N*4840000:=Int.mul_le_mul_of_nonneg_left h2 (by omega)
  (clear h2 h1 q0 w1 z1 s1 root p2 e1 n3 n2 n1 sq g l2 l1 fa gh cW g7 a2 l n6 n0;omega)
 have bn:=root (iS N) (1069*4840000) 100000 bb (by decide) (by decide)
 have m1:=iT (show(iS N).natAbs<=100000 from bn) (show z.natAbs<=80000 from z1)
 have m2:y.natAbs<=(dH N*y).natAbs:=by
  rw[Int.natAbs_mul]
  exact Nat.le_mul_of_pos_left _ (by(clear m1 bn bb q0 w1 z1 s1 root p2 p1 e1 n3 n2 n1 sq g l2 l1 fa f8 gh cW g7 a2 D0 l n6 n0 dD;omega))
 have QN:(dH N*y+iS N*z).natAbs<=80000:=w1
 have m3:(dH N*y).natAbs<=8100000000:=by(clear QN m2 bn bb q0 z1 s1 root p2 p1 e1 n3 n2 n1 sq g l2 l1 fa f8 gh cW g7 a2 D0 fl l n6 n0 dD;omega)
 refine⟨by(clear QN m1 bn bb q0 w1 z1 s1 root p2 p1 e1 n3 n2 n1 sq g l2 l1 fa f8 gh cW g7 a2 D0 fl l n6 n0 dD;omega),by omega,?_⟩
 have Wc:dH N*(2*n*ent N 0 0-kI N n y z)=(dH N*y+iS N*z)*(dH N*y+iS N*z)+(ent N 0 0*aA N)*(z*z):=by
  have h:=oN ev
  rw[<-h]
  unfold kI
  grind
 have s2:=sq z
 have pos:0<=dH N*(2*n*ent N 0 0-kI N n y z):=by(clear m3 QN m2 m1 bn bb q0 w1 z1 root p1 e1 n3 n2 n1 sq g l2 l1 fa f8 gh cW g7 a2 D0 fl l n6 n0 dD;omega)
 have:0<=2*n*ent N 0 0-kI N n y z:=by
  refine Classical.byContradiction λc=> ?_
  have h1:dH N*(2*n*ent N 0 0-kI N n y z)<0:=Int.mul_neg_of_pos_of_neg fl (by omega)
  omega
 have e4:2*n*ent N 0 0=2*(n*ent N 0 0):=Int.mul_assoc _ _ _
 (clear pos s2 Wc m3 QN m2 m1 bn bb q0 w1 z1 s1 root p2 p1 e1 n3 sq g l2 l1 fa f8 gh cW g7 a2 D0 fl l n6 n0 dD;omega)
theorem Aw{N:List (List Int)}(h:gp N)(dD:aA N<=401){n:Int}(n0:0<=n)(n6:n<=1100){v:Nat->Int}(e:bE N v=n):∀i,i<3->(v i).natAbs<2^60:=by
 obtain⟨fl,D0,a2,g7,cW,gh,f8,fa⟩:=gF h dD
 have k:=(rZ h.ev h.pos n v).mp e
 have l0:0<=kI N n (v 1) (v 2):=by
  rw[<-k]
  rcases Int.le_total 0 (ent N 0 0*v 0+qV N (v 1) (v 2))with z|z
  ·exact Int.mul_nonneg z z
  ·rw[<-Int.neg_mul_neg];exact Int.mul_nonneg (by(clear k fa f8 gh cW g7 a2 D0 fl e n6 n0 dD;omega)) (by(clear k fa f8 gh cW g7 a2 D0 fl e n6 n0 dD;omega))
 obtain⟨y1,z1,s1⟩:=vp h.ev h dD n0 n6 l0
 have hp:=h.p
 have hu:=h.u
 have m1:=iT (show(ent N 0 1).natAbs<=2200 by(clear hu s1 z1 y1 l0 k gh cW e n6 n0;omega)) y1
 have m2:=iT (show(ent N 0 2).natAbs<=4400 by(clear m1 hp s1 z1 y1 l0 k gh cW e n6 n0;omega)) z1
 have w1:(ent N 0 0*v 0+qV N (v 1) (v 2)).natAbs<=10000:=by
  refine Classical.byContradiction λc=> ?_
  have:10000*10000<=(ent N 0 0*v 0+qV N (v 1) (v 2)).natAbs*(ent N 0 0*v 0+qV N (v 1) (v 2)).natAbs:=Nat.mul_le_mul (by omega) (by omega)
  have e:=Int.natAbs_mul_self (a:=ent N 0 0*v 0+qV N (v 1) (v 2))
  (clear c m2 m1 hu hp z1 y1 fa f8 gh cW g7 a2 D0 fl n6 n0 dD;omega)
 have m3:(ent N 0 0*v 0).natAbs<=10^15:=by
  unfold qV at w1
  (clear hu hp s1 z1 y1 l0 k fa f8 gh cW g7 a2 D0 fl e n6 n0 dD;omega)
 have m4:(v 0).natAbs<=(ent N 0 0*v 0).natAbs:=by
  rw[Int.natAbs_mul]
  exact Nat.le_mul_of_pos_left _ (by(clear m3 w1 m2 m1 hu hp s1 z1 y1 l0 k fa f8 gh cW D0 fl e n6 n0 dD;omega))
 intro i hi
 rcases bL hi with rfl|rfl|rfl
 ·exact Nat.lt_of_le_of_lt (Nat.le_trans m4 m3) (by decide)
 ·exact Nat.lt_of_le_of_lt y1 (by decide)
 ·exact Nat.lt_of_le_of_lt z1 (by decide)
theorem qR{N:List (List Int)}{p:Int×Int}:∀ks:List Int,(b7 N p ks).length<=ks.length
 | []=>Nat.le_refl _
 |k::ks=>by
  have ih:=qR (N:=N) (p:=p) ks
  have e:b7 N p (k::ks)=b7 N p [k]++b7 N p ks:=by simp[b7]
  have h1:(b7 N p [k]).length<=1:=by
   unfold b7
   simp only[List.flatMap_cons,List.flatMap_nil,List.append_nil]
   split<;>simp
  rw[e,List.length_append,List.length_cons]
  omega
theorem qS{N:List (List Int)}{n:Int}:∀ps:List (Int×Int),(ps.flatMap (fC N n)).length<=2*ps.length
 | []=>Nat.le_refl _
 |p::ps=>by
  have ih:=qS (N:=N) (n:=n) ps
  have h1:=wu (N:=N) (n:=n) (p:=p)
  rw[List.flatMap_cons,List.length_append,List.length_cons]
  omega
theorem FH(w:Int):(d9 w).length<=2:=by
 unfold d9
 split<;>simp
theorem fW.push{H:Hp}{D b:Addr}{as:List Addr}{x y z:Int}{o:HO}(ok:fW H as)(eD:H D=some (.lst (as.map V.ref)))(hb:H b=none)(bD:b≠D):
  fW (upd (upd H b (.lst [.int x,.int y,.int z])) D o) (as++ [b])/\rws (upd (upd H b (.lst [.int x,.int y,.int z])) D o) (as++ [b])=rws H as++ [[x,y,z]]:=by
 obtain⟨r1,r2⟩:=PJ (H:=upd (upd H b (.lst [.int x,.int y,.int z])) D o) (b:=b) (x:=x) (y:=y) (z:=z) (by rw[aI bD];exact av)
 obtain⟨k1,k2⟩:=ok.keep (H':=upd (upd H b (.lst [.int x,.int y,.int z])) D o) λc hc o' e=>by
  rw[aI (Aa (ok c hc) eD),aI (λz=>by rw[z,hb]at e;cases e)]
  exact e
 refine⟨λc hc=> ?_,?_⟩
 ·rcases List.mem_append.mp hc with h|h
  ·exact k1 c h
  ·rw[List.mem_singleton.mp h];exact r1
 ·rw[BW,k2]
  show _++ [j3 _ b]=_
  rw[r2]
theorem e9.small{N:List (List Int)}(h:gp N)(dD:aA N<=401){n:Int}(n0:0<=n)(n6:n<=1100){L:List (List Int)}(R:e9 N n L):∀r∈L,r.length=3/\ ∀i,i<3->(dQ r i).natAbs<2^60:=λr hr=>by
 obtain⟨v,rfl⟩:=R.2.1 r hr
 have e:=(R.2.2 v).mp hr
 have k:=Aw h dD n0 n6 e
 refine⟨rfl,λi hi=> ?_⟩
 rcases bL hi with rfl|rfl|rfl<;>exact k _ (by decide)
theorem Ax{H:Hp}{as bs:List Addr}(p:bs.Perm as):(rws H bs).Perm (rws H as):=p.map _
theorem Eg{H:Hp}{as:List Addr}{b:Addr}(h:b∈as):j3 H b∈rws H as:=List.mem_map.mpr ⟨b,h,rfl⟩
end
noncomputable section
noncomputable def FI(B:List (List Int))(r:List Int):List Int:=[eF (dQ r) B 0,eF (dQ r) B 1,eF (dQ r) B 2]
theorem Ay{m:List (List Int)}{x x' y y':Nat->Int}(hx:x 0=x' 0/\x 1=x' 1/\x 2=x' 2)(hy:y 0=y' 0/\y 1=y' 1/\y 2=y' 2):au m x y=au m x' y':=by
 obtain⟨a,b,c⟩:=hx
 obtain⟨d,e,f⟩:=hy
 rw[aU,aU,a,b,c,d,e,f]
theorem nV{m:List (List Int)}{x x':Nat->Int}(hx:x 0=x' 0/\x 1=x' 1/\x 2=x' 2):bE m x=bE m x':=by
 unfold bE
 rw[Ay hx hx]
theorem oR(m b:List (List Int))(x:Nat->Int):bE (dU m b) x=bE m (eF x b):=by
 unfold bE
 rw[q8]
theorem Ld(x:Nat->Int)(a b:List (List Int)){j:Nat}(hj:j<3):eF (eF x a) b j=eF x (iN a b) j:=by
 unfold eF
 rw[aK a b (i:=0) (by decide) hj,aK a b (i:=1) (by decide) hj,aK a b (i:=2) (by decide) hj]
 grind
theorem IP(x:Nat->Int){j:Nat}(hj:j<3):eF x (qB 1) j=x j:=by
 unfold eF
 unfold qB
 rw[bK _ (by decide) hj,bK _ (by decide) hj,bK _ (by decide) hj]
 rcases bL hj with rfl|rfl|rfl<;>simp
theorem oS{x x':Nat->Int}{b:List (List Int)}(h:x 0=x' 0/\x 1=x' 1/\x 2=x' 2)(j:Nat):eF x b j=eF x' b j:=by
 obtain⟨a,b,c⟩:=h
 unfold eF
 rw[a,b,c]
theorem lI{B:List (List Int)}(u:nG (aA B))(v:Nat->Int){j:Nat}(hj:j<3):eF (eF v (mU B)) B j=v j:=by
 rw[Ld _ _ _ hj,ES u,IP v hj]
theorem Le{B:List (List Int)}(u:nG (aA B)){x y:Nat->Int}(h:eF x B 0=eF y B 0/\eF x B 1=eF y B 1/\eF x B 2=eF y B 2):x 0=y 0/\x 1=y 1/\x 2=y 2:=by
 have Qa:∀j,eF (λi=>x i-y i) B j=eF x B j-eF y B j:=λj=>by
  unfold eF
  grind
 obtain⟨h0,h1,h2⟩:=h
 obtain⟨a,b,c⟩:=uN u (λi=>x i-y i) ⟨by rw[Qa];omega,by rw[Qa];omega,by rw[Qa];(clear h1 h0 Qa;omega)⟩
 (clear h2 h1 h0 Qa;omega)
theorem nodup_map_on{α β:Type}{f:α->β}:∀{L:List α},L.Nodup->(∀a∈L,∀b∈L,f a=f b->a=b) ->(L.map f).Nodup
 | [],_,_=>List.nodup_nil
 |a::L,h,k=>by
  obtain⟨h1,h2⟩:=List.nodup_cons.mp h
  rw[List.map_cons,List.nodup_cons]
  refine⟨λm=> ?_,nodup_map_on h2 λx hx y hy=>k x (List.mem_cons_of_mem _ hx) y (List.mem_cons_of_mem _ hy)⟩
  obtain⟨b,hb,e⟩:=List.mem_map.mp m
  have:=k b (List.mem_cons_of_mem _ hb) a List.mem_cons_self e
  rw[this]at hb
  exact h1 hb
theorem vq{m B:List (List Int)}(u:nG (aA B)){n:Int}{L:List (List Int)}(h:e9 (dU m B) n L):e9 m n (L.map (FI B)):=by
 obtain⟨nd,sh,iff⟩:=h
 refine⟨?_,λr hr=> ?_,λv=> ?_⟩
 ·refine nodup_map_on nd λr hr s hs e=> ?_
  obtain⟨v,rfl⟩:=sh r hr
  obtain⟨w,rfl⟩:=sh s hs
  unfold FI at e
  injection e with e0 e
  injection e with e1 e
  injection e with e2 _
  obtain⟨a,b,c⟩:=Le u (x:=dQ [v 0,v 1,v 2]) (y:=dQ [w 0,w 1,w 2]) ⟨e0,e1,e2⟩
  change v 0=w 0 at a
  change v 1=w 1 at b
  change v 2=w 2 at c
  rw[a,b,c]
 ·obtain⟨s,hs,rfl⟩:=List.mem_map.mp hr
  exact⟨eF (dQ s) B,rfl⟩
 ·rw[List.mem_map]
  constructor
  ·rintro⟨r,hr,e⟩
   obtain⟨w,rfl⟩:=sh r hr
   have k:=(iff w).mp hr
   rw[oR]at k
   rw[<-k]
   unfold FI at e
   injection e with e0 e
   injection e with e1 e
   injection e with e2 _
   refine nV ⟨?_,?_,?_⟩
   ·rw[<-e0];exact oS ⟨rfl,rfl,rfl⟩ 0
   ·rw[<-e1];exact oS ⟨rfl,rfl,rfl⟩ 1
   ·rw[<-e2];exact oS ⟨rfl,rfl,rfl⟩ 2
  ·intro k
   have b0:=lI u v (j:=0) (by decide)
   have b1:=lI u v (j:=1) (by decide)
   have b2:=lI u v (j:=2) (by decide)
   refine⟨[eF v (mU B) 0,eF v (mU B) 1,eF v (mU B) 2],(iff (eF v (mU B))).mpr ?_,?_⟩
   ·rw[oR,<-k]
    exact nV ⟨b0,b1,b2⟩
   ·unfold FI
    have c:∀j,eF (dQ [eF v (mU B) 0,eF v (mU B) 1,eF v (mU B) 2]) B j=eF (eF v (mU B)) B j:=λj=>oS ⟨rfl,rfl,rfl⟩ j
    rw[c,c,c,b0,b1,b2]
theorem Lf{N:List (List Int)}(h:gp N)(dD:aA N<=401):Bd 700 N:=by
 obtain⟨fl,D0,a2,g7,cW,gh,f8,fa⟩:=gF h dD
 have l1:=h.KN
 have l2:=h.Nt
 have hp:=h.p
 have hu:=h.u
 have hv:=h.v
 obtain⟨s1,s2,s3⟩:=h.ev.1
 intro i j hi hj
 refine Nat.lt_of_lt_of_le (m:=2^20) ?_ (Nat.pow_le_pow_right (by decide) (by decide))
 rcases bL hi with rfl|rfl|rfl<;>rcases bL hj with rfl|rfl|rfl<;>(clear hj hi fa f8 D0 fl dD;omega)
end
noncomputable section
noncomputable def LV(m:List (List Int))(x y:Int):Int:=(ent m 0 0*x*x+ent m 1 1*y*y)/2+ent m 0 1*x*y
noncomputable def oY(m:List (List Int))(x y:Int):Int:=ent m 0 2*x+ent m 1 2*y
noncomputable def ug(m:List (List Int))(n x y:Int):Int:=oY m x y*oY m x y-2*ent m 2 2*(LV m x y-n)
theorem IQ{m:List (List Int)}(ev:b8 m)(pos:0<ent m 2 2)(n:Int)(v:Nat->Int):bE m v=n↔(ent m 2 2*v 2+oY m (v 0) (v 1))*(ent m 2 2*v 2+oY m (v 0) (v 1))=ug m n (v 0) (v 1):=by
 have pe:=dg ev v
 obtain⟨⟨s1,s2,s3⟩,a,b,c,e1,e2,e3⟩:=ev
 have eo:LV m (v 0) (v 1)=a*v 0*v 0+b*v 1*v 1+ent m 0 1*v 0*v 1:=by
  unfold LV
  rw[e1,e2]
  have:2*a*v 0*v 0+2*b*v 1*v 1=2*(a*v 0*v 0+b*v 1*v 1):=by grind
  rw[this]
  (clear this e3 e2 e1 s3 s2 s1 pe pos;omega)
 have key:(ent m 2 2*v 2+oY m (v 0) (v 1))*(ent m 2 2*v 2+oY m (v 0) (v 1))=ug m n (v 0) (v 1)+2*ent m 2 2*(bE m v-n):=by
  unfold ug
  rw[eo]
  rw[aU,<-s1,<-s2,<-s3,e1,e2,e3]at pe
  have h2:bE m v=v 0*a*v 0+v 1*b*v 1+v 2*c*v 2+v 0*ent m 0 1*v 1+v 0*ent m 0 2*v 2+v 1*ent m 1 2*v 2:=by grind
  rw[h2,e3]
  unfold oY
  grind
 rw[key]
 constructor
 ·intro h;rw[h];simp
 ·intro h
  have h1:2*ent m 2 2*(bE m v-n)=0:=by(clear key eo e3 e2 e1 s3 s2 s1 pe pos;omega)
  rcases Int.mul_eq_zero.mp h1 with z|z<;>(clear h1 h key eo e2 e1 s3 s2 s1 pe;omega)
noncomputable def g9(s mx:Int):List Int:=if 0<s then [0-mx-s,s-mx]else [0-mx-s]
noncomputable def ef(m:List (List Int))(x y:Int)(ks:List Int):List (List Int):=ks.flatMap λk=>if k%ent m 2 2=0 then [[x,y,k/ent m 2 2]]else []
noncomputable def cX(m:List (List Int))(n x y:Int):List (List Int):=if 0<=ug m n x y/\gv (ug m n x y)*gv (ug m n x y)=ug m n x y then ef m x y (g9 (gv (ug m n x y)) (oY m x y))else []
theorem vt{s mx k:Int}(h:0<=s):k∈g9 s mx↔(k+mx)*(k+mx)=s*s:=by
 unfold g9
 have key:(k+mx)*(k+mx)=s*s↔k=0-mx-s∨k=s-mx:=by
  constructor
  ·intro e
   have:(k+mx-s)*(k+mx+s)=0:=by grind
   rcases Int.mul_eq_zero.mp this with z|z<;>(clear this e;omega)
  ·rintro(rfl|rfl)<;>grind
 rw[key]
 split
 ·simp
 ·have:s=0:=by omega
  simp[this]
theorem nW{m:List (List Int)}(pos:0<ent m 2 2){x y:Int}{ks:List Int}{r:List Int}:r∈ef m x y ks↔ ∃z,r=[x,y,z]/\ent m 2 2*z∈ks:=by
 unfold ef
 rw[List.mem_flatMap]
 constructor
 ·rintro⟨k,hk,h⟩
  split at h
  ·rename_i e
   rw[List.mem_singleton]at h
   refine⟨_,h,?_⟩
   rw[Int.mul_ediv_cancel' (Int.dvd_of_emod_eq_zero e)]
   exact hk
  ·cases h
 ·rintro⟨z,rfl,h⟩
  refine⟨_,h,?_⟩
  rw[if_pos (Int.mul_emod_right _ _),Int.mul_ediv_cancel_left _ (by omega)]
  simp
theorem IS{X u:Int}(h:u*u=X):gv X*gv X=X:=by
 have key:∀u:Int,0<=u->u*u=X->gv X=u:=λu u0 ue=>oQ u0 (by omega) (by rw[<-ue];exact(by grind:(u+1)*(u+1)=u*u+2*u+1)▸(by omega))
 rcases Int.le_total 0 u with u0|u0
 ·rw[key _ u0 h];exact h
 ·have h':(-u)*(-u)=X:=by rw[Int.neg_mul_neg];exact h
  rw[key _ (by omega) h'];exact h'
theorem nX{m:List (List Int)}(ev:b8 m)(pos:0<ent m 2 2){n x y:Int}{r:List Int}:r∈cX m n x y↔ ∃z,r=[x,y,z]/\(ent m 2 2*z+oY m x y)*(ent m 2 2*z+oY m x y)=ug m n x y:=by
 unfold cX
 split
 ·rename_i h
  obtain⟨h0,e⟩:=h
  obtain⟨s0,s1,s2⟩:=lH h0
  rw[nW pos]
  constructor
  ·rintro⟨z,e1,h⟩
   exact⟨z,e1,((vt s0).mp h).trans e⟩
  ·rintro⟨z,e1,h⟩
   exact⟨z,e1,(vt s0).mpr (h.trans e.symm)⟩
 ·rename_i h
  constructor
  ·intro h;cases h
  ·rintro⟨z,_,e⟩
   exfalso
   refine h ⟨?_,IS e⟩
   rw[<-e]
   exact bf _
theorem pD{m:List (List Int)}(pos:0<ent m 2 2){x y:Int}:∀{ks:List Int},ks.Nodup->(ef m x y ks).Nodup
 | [],_=>List.nodup_nil
 |k::ks,h=>by
  obtain⟨h1,h2⟩:=List.nodup_cons.mp h
  have e:ef m x y (k::ks)=ef m x y [k]++ef m x y ks:=by simp[ef]
  rw[e]
  refine List.nodup_append.mpr ⟨?_,pD pos h2,λa ha b hb e=> ?_⟩
  ·unfold ef
   simp only[List.flatMap_cons,List.flatMap_nil,List.append_nil]
   split<;>simp
  ·subst e
   obtain⟨z,rfl,m1⟩:=(nW pos).mp ha
   obtain⟨z',e',m2⟩:=(nW pos).mp hb
   cases e'
   rw[List.mem_singleton]at m1
   rw[m1]at m2
   exact h1 m2
theorem wD{m:List (List Int)}(pos:0<ent m 2 2){n x y:Int}:(cX m n x y).Nodup:=by
 unfold cX
 split
 ·refine pD pos ?_
  unfold g9
  split
  ·simp;omega
  ·simp
 ·exact List.nodup_nil
noncomputable def dR(R:Int):List Int:=(List.range (2*R+1).toNat).map λi:Nat=>(i:Int) -R
theorem oU{R x:Int}(h:0<=R):x∈dR R↔ -R<=x/\x<=R:=by
 unfold dR
 rw[List.mem_map]
 constructor
 ·rintro⟨i,hi,rfl⟩
  rw[List.mem_range]at hi
  omega
 ·rintro⟨h1,h2⟩
  exact⟨(x+R).toNat,by rw[List.mem_range];omega,by omega⟩
theorem tL{R:Int}:(dR R).Nodup:=nodup_map_on List.nodup_range λa _ b _ e=>by omega
theorem r6{R:Int}:(dR R).length=(2*R+1).toNat:=by simp[dR]
theorem xK{R:Int}{i:Nat}(hi:i<(2*R+1).toNat):(dR R)[i]?=some ((i:Int) -R):=by
 unfold dR
 rw[List.getElem?_map,List.getElem?_range hi]
 rfl
noncomputable def Eh(m:List (List Int))(n R0 R1:Int):List (List Int):=(dR R0).flatMap λx=>(dR R1).flatMap λy=>cX m n x y
theorem p5{α β:Type}{f:α->List β}:∀{L:List α},L.Nodup->(∀a∈L,(f a).Nodup) ->(∀a∈L,∀b∈L,∀x,x∈f a->x∈f b->a=b) ->(L.flatMap f).Nodup
 | [],_,_,_=>List.nodup_nil
 |a::L,h,k1,k2=>by
  obtain⟨h1,h2⟩:=List.nodup_cons.mp h
  rw[List.flatMap_cons]
  refine List.nodup_append.mpr ⟨k1 a List.mem_cons_self,p5 h2 (λb hb=>k1 b (List.mem_cons_of_mem _ hb)) (λb hb c hc=>k2 b (List.mem_cons_of_mem _ hb) c (List.mem_cons_of_mem _ hc)),λx hx y hy e=> ?_⟩
  subst e
  obtain⟨b,hb,hx'⟩:=List.mem_flatMap.mp hy
  have:=k2 a List.mem_cons_self b (List.mem_cons_of_mem _ hb) x hx hx'
  rw[this]at h1
  exact h1 hb
theorem yL{m:List (List Int)}(ev:b8 m)(pos:0<ent m 2 2){n R0 R1:Int}(r0:0<=R0)(r1:0<=R1)(b0:∀v,bE m v=n-> -R0<=v 0/\v 0<=R0)(b1:∀v,bE m v=n-> -R1<=v 1/\v 1<=R1):e9 m n (Eh m n R0 R1):=by
 have at_:∀{x y:Int}{r:List Int},r∈cX m n x y-> ∃z,r=[x,y,z]:=λh=>by
  obtain⟨z,e,_⟩:=(nX ev pos).mp h
  exact⟨z,e⟩
 refine⟨?_,λr hr=> ?_,λv=> ?_⟩
 ·unfold Eh
  refine p5 tL (λx _=>p5 tL (λy _=>wD pos) λy _ y' _ r h h'=> ?_) λx _ x' _ r h h'=> ?_
  ·obtain⟨z,e⟩:=at_ h
   obtain⟨z',e'⟩:=at_ h'
   rw[e]at e'
   injection e' with _ e'
   injection e' with e' _
  ·obtain⟨y,_,h⟩:=List.mem_flatMap.mp h
   obtain⟨y',_,h'⟩:=List.mem_flatMap.mp h'
   obtain⟨z,e⟩:=at_ h
   obtain⟨z',e'⟩:=at_ h'
   rw[e]at e'
   injection e' with e' _
 ·obtain⟨x,_,hr⟩:=List.mem_flatMap.mp hr
  obtain⟨y,_,hr⟩:=List.mem_flatMap.mp hr
  obtain⟨z,e⟩:=at_ hr
  exact⟨λi=>match i with|0=>x|1=>y|_=>z,e⟩
 ·constructor
  ·intro h
   obtain⟨x,_,h⟩:=List.mem_flatMap.mp h
   obtain⟨y,_,h⟩:=List.mem_flatMap.mp h
   obtain⟨z,e,k⟩:=(nX ev pos).mp h
   injection e with e1 e
   injection e with e2 e
   injection e with e3 _
   rw[IQ ev pos,e1,e2,e3]
   exact k
  ·intro h
   refine List.mem_flatMap.mpr ⟨v 0,(oU r0).mpr (b0 v h),List.mem_flatMap.mpr ⟨v 1,(oU r1).mpr (b1 v h),(nX ev pos).mpr ⟨v 2,rfl,(IQ ev pos n v).mp h⟩⟩⟩
theorem kJ{α β:Type}(f:α->List β)(L:List α)(i:Nat):((L.take i).flatMap f).length<=(L.flatMap f).length:=by
 have e:L.flatMap f=(L.take i).flatMap f++(L.drop i).flatMap f:=by rw[<-List.flatMap_append,List.take_append_drop]
 rw[e,List.length_append]
 omega
theorem nY{α β:Type}(f:α->List β){L:List α}{i:Nat}{a:α}(h:L[i]?=some a):(L.take (i+1)).flatMap f=(L.take i).flatMap f++f a:=by
 rw[List.take_add_one,h]
 simp
theorem length_le_of_subset{α:Type}[DecidableEq α]:∀{L M:List α},L.Nodup->(∀x∈L,x∈M) ->L.length<=M.length
 | [],_,_,_=>Nat.zero_le _
 |a::L,M,h,k=>by
  obtain⟨h1,h2⟩:=List.nodup_cons.mp h
  have ha:=k a List.mem_cons_self
  have:=length_le_of_subset (L:=L) (M:=M.erase a) h2 λx hx=>(List.mem_erase_of_ne (show x≠a from λe=>h1 (by rw[<-e];exact hx))).mpr (k x (List.mem_cons_of_mem _ hx))
  rw[List.length_erase_of_mem ha]at this
  have:=List.length_pos_of_mem ha
  rw[List.length_cons]
  omega
theorem IT{m:List (List Int)}(ev:b8 m)(pos:0<ent m 0 0){n:Int}{R1 R2:Int}(r1:0<=R1)(r2:0<=R2)(b1:∀v,bE m v=n-> -R1<=v 1/\v 1<=R1)(b2:∀v,bE m v=n-> -R2<=v 2/\v 2<=R2){L:List (List Int)}(h:e9 m n L):
  L.length<=2*((2*R1+1).toNat*(2*R2+1).toNat):=by
 have sub:∀r∈L,r∈((dR R1).flatMap λy=>(dR R2).map λz=>(y,z)).flatMap (fC m n):=λr hr=>by
  obtain⟨v,rfl⟩:=h.2.1 r hr
  have e:=(h.2.2 v).mp hr
  have k:=(rZ ev pos n v).mp e
  have l0:0<=kI m n (v 1) (v 2):=by rw[<-k];exact bf _
  refine List.mem_flatMap.mpr ⟨(v 1,v 2),List.mem_flatMap.mpr ⟨v 1,(oU r1).mpr (b1 v e),List.mem_map.mpr ⟨v 2,(oU r2).mpr (b2 v e),rfl⟩⟩,(mC (p:=(v 1,v 2)) pos l0).mpr ⟨v 0,rfl,k⟩⟩
 have le:=length_le_of_subset h.1 sub
 have l2:=qS (N:=m) (n:=n) ((dR R1).flatMap λy=>(dR R2).map λz=>(y,z))
 have l3:((dR R1).flatMap λy=>(dR R2).map λz=>(y,z)).length=(2*R1+1).toNat*(2*R2+1).toNat:=by
  rw[List.length_flatMap]
  simp only[List.length_map,r6,List.map_const']
  rw[List.sum_replicate_nat]
 (clear sub b2 b1 r2 r1 pos;omega)
end
noncomputable section
structure IU(m:List (List Int)):Prop where
 e0:0<ent m 0 0
 e1:0<ent m 1 1
 e2:0<ent m 2 2
 D0:0<aA m
 p0:0<=gm m 0 0/\gm m 0 0<=6900
 p1:0<=gm m 1 1/\gm m 1 1<=3680
 p2:0<=gm m 2 2/\gm m 2 2<=480
theorem FJ{m:List (List Int)}(ev:b8 m)(ck:cJ m)(ab:bZ m=true)(hB:∀i j,i<3->j<3->(ent m i j).natAbs<=230)(f0:ent m 0 0<=16)(f1:ent m 1 1<=30):IU m:=by
 obtain⟨lM,lJ,lK⟩:=ev.sym
 have D0:=(fL ab).2.2
 have Po:=gH (eG ev ck) ab
 have u0:au m (λi=>if i=0 then 1 else 0) (λi=>if i=0 then 1 else 0)=ent m 0 0:=by rw[aU];simp
 have u1:au m (λi=>if i=1 then 1 else 0) (λi=>if i=1 then 1 else 0)=ent m 1 1:=by rw[aU];simp
 have u2:au m (λi=>if i=2 then 1 else 0) (λi=>if i=2 then 1 else 0)=ent m 2 2:=by rw[aU];simp
 have q0:0<ent m 0 0:=by rw[<-u0];exact Po _ (by simp)
 have q1:0<ent m 1 1:=by rw[<-u1];exact Po _ (by simp)
 have q2:0<ent m 2 2:=by rw[<-u2];exact Po _ (by simp)
 have r0:=ly ev ck ab (λi=>if i=0 then 1 else 0) (i:=0) (by decide)
 have r1:=ly ev ck ab (λi=>if i=1 then 1 else 0) (i:=1) (by decide)
 have r2:=ly ev ck ab (λi=>if i=2 then 1 else 0) (i:=2) (by decide)
 have g:∀{a b:Int},aA m*(1*1)<=a*b->0<b->0<=a:=λ {a b} h hb=>by
  refine Classical.byContradiction λc=> ?_
  have:=Int.mul_nonneg (show 0<= -a by(clear hb h r2 r1 r0 q2 q1 q0 u2 u1 u0 D0 lK lJ lM f1 f0 hB ab;omega)) (Int.le_of_lt hb)
  rw[Int.neg_mul]at this
  (clear c hb r2 r1 r0 q2 q1 q0 u2 u1 u0 lK lJ lM f1 f0 hB ab;omega)
 have cW:=hB 2 2 (by decide) (by decide)
 have m0:ent m 1 1*ent m 2 2<=30*230:=Int.mul_le_mul f1 (by(clear g r2 r1 r0 q2 q1 q0 u2 u1 u0 D0 lK lJ lM f1 f0 hB ab;omega)) (by omega) (by decide)
 have m1:ent m 2 2*ent m 0 0<=230*16:=Int.mul_le_mul (by omega) f0 (by omega) (by decide)
 have m2:ent m 0 0*ent m 1 1<=16*30:=Int.mul_le_mul f0 f1 (by omega) (by decide)
 refine⟨q0,q1,q2,D0,⟨g (by simpa [u0]using r0) (u0▸q0),?_⟩,⟨g (by simpa [u1]using r1) (u1▸q1),?_⟩,⟨g (by simpa [u2]using r2) (u2▸q2),?_⟩⟩
 ·show ent m 1 1*ent m 2 2-ent m 1 2*ent m 2 1<=_
  rw[lK];have:=bf (ent m 1 2);(clear m2 m1 cW g r2 r1 r0 q2 q1 q0 u2 u1 u0 D0 lK lJ lM f1 f0 hB ab;omega)
 ·show ent m 2 2*ent m 0 0-ent m 2 0*ent m 0 2<=_
  rw[lJ];have:=bf (ent m 0 2);(clear m2 m0 cW g r2 r1 r0 q2 q1 q0 u2 u1 u0 D0 lK lJ lM f1 f0 hB ab;omega)
 ·show ent m 0 0*ent m 1 1-ent m 0 1*ent m 1 0<=_
  rw[lM];have:=bf (ent m 0 1);(clear m1 m0 cW g r2 r1 r0 q2 q1 q0 u2 u1 u0 D0 lK lJ lM f1 f0 hB ab;omega)
theorem r8{m:List (List Int)}(ev:b8 m)(ck:cJ m)(ab:bZ m=true){n:Int}{v:Nat->Int}(e:bE m v=n){i:Nat}(hi:i<3):aA m*(v i*v i)<=2*n*gm m i i:=by
 have k:=ly ev ck ab v hi
 have pe:=dg ev v
 have:aN m v=2*n:=by show au m v v=_;rw[pe,e]
 rw[this]at k
 rw[Int.mul_comm (2*n)]
 exact k
theorem xM{m:List (List Int)}(D0:0<aA m){n p R x:Int}(h:aA m*(x*x)<=2*n*p)(R0:0<=R)(r1:R*R<=2*n*p/aA m)(r2:2*n*p/aA m<(R+1)*(R+1)): -R<=x/\x<=R:=
 (uf R0 r1 r2).mp ((Int.le_ediv_iff_mul_le D0).mpr (by rw[Int.mul_comm];exact h))
theorem tM{m:List (List Int)}(D0:0<aA m){n p R B:Int}(n0:0<=n)(n6:n<=600)(p0:0<=p)(hp:1200*p<B*B)(B0:0<=B)(r1:R*R<=2*n*p/aA m):R<B:=by
 have h1:2*n*p<=1200*p:=Int.mul_le_mul_of_nonneg_right (by omega) p0
 have h0:0<=2*n*p:=Int.mul_nonneg (by omega) p0
 have h2:2*n*p/aA m<=2*n*p:=Int.ediv_le_self _ h0
 refine Classical.byContradiction λc=> ?_
 have:B*B<=R*R:=Int.mul_le_mul (by omega) (by omega) B0 (by(clear h2 h0 h1 r1 hp p0 n6 n0 D0;omega))
 (clear c h0 B0 p0 n6 n0 D0;omega)
theorem FL{m:List (List Int)}(D0:0<aA m){n p x:Int}{B:Nat}(n0:0<=n)(n6:n<=600)(p0:0<=p)(h:aA m*(x*x)<=2*n*p)(hp:1200*p<((B:Int)+1)*((B:Int)+1)): -(B:Int)<=x/\x<=B:=by
 have h1:2*n*p<=1200*p:=Int.mul_le_mul_of_nonneg_right (by omega) p0
 have h2:x*x<=aA m*(x*x):=by
  have:=Int.mul_le_mul_of_nonneg_right (show(1:Int)<=aA m by omega) (bf x)
  omega
 have key:x.natAbs<=B:=by
  refine Classical.byContradiction λc=> ?_
  have:(B+1)*(B+1)<=x.natAbs*x.natAbs:=Nat.mul_le_mul (by(clear h2 h1 hp h p0 n6 n0 D0;omega)) (by(clear h2 h1 hp h p0 n6 n0 D0;omega))
  have e:=Int.natAbs_mul_self (a:=x)
  have:((B:Int)+1)*((B:Int)+1)<=x*x:=by
   rw[<-e]
   exact_mod_cast this
  (clear c p0 n6 n0 D0;omega)
 (clear h2 h1 hp h p0 n6 n0 D0;omega)
theorem Lg{x:Int}{B:Nat}(h:x.natAbs<=B)(hB:B<2^64): -(2^64)<x/\x<2^64:=by omega
theorem Az{m:List (List Int)}(hB:∀i j,i<3->j<3->(ent m i j).natAbs<=230){x y:Int}(bx:x.natAbs<=2880)(bY:y.natAbs<=2880):(oY m x y).natAbs<=2000000:=by
 have k6:=iT (hB 0 2 (by decide) (by decide)) bx
 have k7:=iT (hB 1 2 (by decide) (by decide)) bY
 unfold oY
 (clear bY bx hB;omega)
theorem IV{m:List (List Int)}(hB:∀i j,i<3->j<3->(ent m i j).natAbs<=230){x y:Int}(bx:x.natAbs<=2880)(bY:y.natAbs<=2880):(LV m x y).natAbs<=6000000000:=by
 have k2:=iT (iT (hB 0 0 (by decide) (by decide)) bx) bx
 have k4:=iT (iT (hB 1 1 (by decide) (by decide)) bY) bY
 have k5:=iT (iT (hB 0 1 (by decide) (by decide)) bx) bY
 unfold LV
 (clear bY bx hB;omega)
theorem IW{m:List (List Int)}(hB:∀i j,i<3->j<3->(ent m i j).natAbs<=230){x y n:Int}(bx:x.natAbs<=2880)(bY:y.natAbs<=2880)(n0:0<=n)(n6:n<=600):(ug m n x y).natAbs<10^14:=by
 have nm:=Az hB bx bY
 have no:=IV hB bx bY
 have h1:=iT nm nm
 have cW:=hB 2 2 (by decide) (by decide)
 have h2:=iT (show(2*ent m 2 2).natAbs<=460 by(clear h1 no nm n6 n0 bY bx hB;omega)) (show(LV m x y-n).natAbs<=6000001000 by(clear cW h1 nm bY bx hB;omega))
 unfold ug
 (clear cW no nm n6 n0 bY bx hB;omega)
theorem Lh{K:PySem.W.Frag}{H:Hp}{t t':Addr}{bs bs':List Addr}{m m':List (List Int)}{Q:VK}(h:Tab H t bs m)(h':Tab H t' bs' m')(q:Q (.bl (!decide (m=m'))) H):EK K true (.ref t) (.ref t') H Q:=
 ⟨yc m,yc m',xg h,xg h',jK _,jK _,by rw[Dz];exact q⟩
theorem Li{K:PySem.W.Frag}{H:Hp}{t t':Addr}{bs bs':List Addr}{m m':List (List Int)}{Q:VK}(h:Tab H t bs m)(h':Tab H t' bs' m')(q:Q (.bl (decide (m=m'))) H):EK K false (.ref t) (.ref t') H Q:=
 ⟨yc m,yc m',xg h,xg h',jK _,jK _,by rw[Dz];exact q⟩
theorem IY{a b c p q r:Int}{B:Nat}(ha:a.natAbs<=B)(hb:b.natAbs<=B)(hc:c.natAbs<=B)(hp:p.natAbs<=B)(hq:q.natAbs<=B)(hr:r.natAbs<=B):∀i j,i<3->j<3->(ent (gn a b c p q r) i j).natAbs<=B:=λi j hi hj=>by
 unfold gn
 rw[bK _ hi hj]
 rcases bL hi with rfl|rfl|rfl<;>rcases bL hj with rfl|rfl|rfl<;>assumption
theorem IZ{m:List (List Int)}{n:Int}{L L':List (List Int)}(h:e9 m n L)(h':e9 m n L'):L.length=L'.length:=by
 have sub:∀{A B:List (List Int)},e9 m n A->e9 m n B-> ∀r∈A,r∈B:=λ {A B} ha hb r hr=>by
  obtain⟨v,rfl⟩:=ha.2.1 r hr
  exact(hb.2.2 v).mpr ((ha.2.2 v).mp hr)
 exact Nat.le_antisymm (length_le_of_subset h.1 (sub h h')) (length_le_of_subset h'.1 (sub h' h))
theorem gN{i:Nat}{v:V}{σ:St}{H:Hp}{f bk ct:St->Hp->Prop}{rt:VK}(h:f (σ.set i (some v)) H):dI i v σ H (Ends.mk f rt bk ct).nx:=h
end
end L2
set_option maxHeartbeats 1000000
namespace CW
open PySem L2
section
variable{P:Program}{w:World}{K:PySem.W.Frag}{mg:Str->Option Value}{base:Heap}
inductive vz(vs:List V)(H:Hp)(Q:VK)(E:XK):Prop
 |mk(t:Addr)(bs:List Addr)(N:List (List Int))(n:Int)(_:vs=[.ref t,.int n])(_:Tab H t bs N)(_:cJ N)(_:b8 N)(_:Bd 700 N)(_:gp N)(_:aA N<=401)(_:0<=n)(_:n<=1100)(_:∀(r:Addr) (as:List Addr) (H':Hp),az H H'->H r=none->(∀b∈as,H b=none) ->H' r=some (.lst (as.map V.ref)) ->fW H' as->e9 N n (rws H' as) ->(rws H' as).Pairwise (λr s=>Nz r<=Nz s) ->as.length<=24200->Q (.ref r) H')
theorem yM(F:fP K mg "near_rows" nN iP)(aM:mg "sorted"=none)(vB:dM P w K mg base cY 4 "slices" nM Au)(pY:dM P w K mg base cY 4 "root" rQ Cw):dM P w K mg base cY 5 "near_rows" iP vz:=by
 refine F.ok dz (λvs H Q E h=> ?_) (λf cdv A outer s H vs Q E hr h=> ?_)
 ·obtain⟨t,bs,N,n,rfl,hT,ck,ev,bN,NT,dD,n0,n6,q⟩:=h
  rfl
 obtain⟨t,bs,N,n,rfl,hT,ck,ev,bN,NT,dD,n0,n6,q⟩:=h
 have hu:=hr.units
 refine⟨_,(mY (@aq _ _ _ _ _ (aE (i:=2) dz.nd rfl (Or.inl rfl) (aF ay (aF ay (pv 0) ah (λ_ _=>rfl)) ah (λ_ _=>rfl)))
  (@aq _ _ _ _ _ (aE (i:=3) dz.nd rfl (Or.inl rfl) (cV ak))
  (@aq _ _ _ _ _ (kh PassesOwn.never rfl (gP (aR vB hr rfl aQ (af (pv 0) (af (pv 1) ak)))) (xS rfl (aT (aV (i:=4) dz.nd rfl (Or.inl rfl)) (aT (aV (i:=5) dz.nd rfl (Or.inl rfl)) (aT (aV (i:=6) dz.nd rfl (Or.inl rfl)) (aT (aV (i:=7) dz.nd rfl (Or.inl rfl)) gb))))) (mY (@aq _ _ _ _ _ (aE (i:=8) dz.nd rfl (Or.inl rfl) (aR pY hr rfl aQ (af (pv 7) ak)))
  (@aL _ _ _ (dW (bO wV (ai aC (pv 8) (pv 8)) (pv 7) (cg _)) (@aq _ _ _ _ _ (aE (i:=9) dz.nd rfl (Or.inl rfl) (GC (bO oZ (pv 8) ah (cg _)) (cV (af (pv 8) (af (Dj xT (pv 8)) ak))) (cV (af ah ak))))
  (@aL _ _ _ (kh PassesOwn.never rfl (gP (pv 9)) (aV (i:=10) dz.nd rfl (Or.inl rfl)) (dh (dW (bO wV (ai c9 (ai bW (pv 10) (pv 6)) (pv 2)) ah (cg _)) (@aL _ _ _ (oE (GR PySem.F.plainAttrs_list PySem.F.slot_list_append PySem.F.type_list_append kU (pv 3) (af (cV (af (ai bT (ai bW (pv 10) (pv 6)) (pv 2)) (af (pv 4) (af (pv 5) ak)))) ak)))) eT))))) eT)))))
  (@aL _ _ _ (bh (e7 (tF (fE.DP hr)) rfl aM PyProof.Rows.boot_sorted (af (pv 3) ak)))))))),?_⟩
 obtain⟨c0,c1,c2,rfl,x0,x1,x2⟩:=vd hT ck
 obtain⟨fl,D0,a2,g7,cW,gh,f8,fa⟩:=gF NT dD
 refine⟨_,rfl,t,_,_,_,rfl,rfl,aW.of hT.1,rfl,c0,_,_,_,rfl,rfl,aW.of x0,rfl,?_⟩
 refine⟨by decide,λD hD=> ?_⟩
 have s0:az H (upd H D (.lst [])):=az.up hD
 refine⟨_,rfl,_,rfl,t,_,N,n,rfl,hT.same s0,ck,ev,bN,NT,dD,n0,n6,λu us L H1 s1 eu tu nd mZ SI=> ?_⟩
 have eD:H1 D=some (.lst []):=s1 _ _ av
 have l0:0<us.length:=by
  have h:((0:Int),(0:Int))∈L:=(mZ 0 0).mpr (by unfold kI;have:=Int.mul_nonneg n0 (show 0<=ent N 0 0 by omega);simp;rw[Int.mul_assoc];omega)
  rw[tu.length]
  exact List.length_pos_of_mem h
 have uD:u≠D:=λz=>by
  rw[z,eD]at eu
  cases eu
  exact Nat.lt_irrefl _ l0
 refine⟨u,rfl,⟨us,aW.of eu⟩,?_⟩
 refine ql (xs:=us) (λi σ H'=> ∃o4 o5 o6 o7 o8 o9 yN as,σ=[some (.ref t),some (.int n),some (.int (ent N 0 0)),some (.ref D),o4,o5,o6,o7,o8,o9,yN]/\SD D H1 H'/\H' D=some (.lst (as.map V.ref))/\fW H' as/\(∀b∈as,H b=none)/\rws H' as=(L.take i).flatMap (fC N n)) ⟨_,_,_,_,_,_,_,[],rfl,SD.refl,eD,λ_ h=>(nomatch h),λ_ h=>(nomatch h),rfl⟩ (λi σ H' hi hh=> ?_) (λi x σ H' hx hh=> ?_) (λσ H' hh=> ?_)
 ·obtain⟨o4,o5,o6,o7,o8,o9,yN,as,rfl,sD,vn,ok,fr,er⟩:=hh
  exact aW.of (sD _ _ uD eu)
 ·obtain⟨o4,o5,o6,o7,o8,o9,yN,as,rfl,sD,vn,ok,fr,er⟩:=hh
  obtain⟨a,p,rfl,hp,ea⟩:=(tu.sd eD sD).get hx
  have lp:0<=kI N n p.1 p.2:=(mZ _ _).mp (List.mem_of_getElem? hp)
  obtain⟨yb,zb,lb⟩:=vp ev NT dD n0 n6 lp
  refine⟨a,_,rfl,vS.of ea,rfl,_,_,rfl,_,_,rfl,_,_,rfl,_,_,rfl,rfl,?_⟩
  obtain⟨w0,w1,w2⟩:=lH lp
  have wb:gv (kI N n p.1 p.2)<=1000000000:=by
   refine Classical.byContradiction λc=> ?_
   have:1000000000*1000000000<=gv (kI N n p.1 p.2)*gv (kI N n p.1 p.2):=Int.mul_le_mul (by omega) (by omega) (by decide) (by omega)
   (clear c w2 w0 zb yb ea hp hx er fr vn uD l0 eD SI mZ eu hD fa f8 gh cW g7 a2 D0 fl hu q n6 n0 dD aM;omega)
  refine⟨_,rfl,_,rfl,lp,Nat.lt_of_le_of_lt (show(kI N n p.1 p.2).natAbs<=4840000 by(clear wb w2 w1 w0 zb yb ea hp hx er fr vn uD l0 eD SI mZ eu hD fa f8 gh cW g7 a2 D0 fl hu q n6 n0 dD aM;omega)) (by decide),λw h0 h1 h2=> ?_⟩
  obtain rfl:=oQ h0 h1 h2
  generalize ew:gv (kI N n p.1 p.2)=w at w0 w1 w2 wb h0 h1 h2 ⊢
  have wq:w.natAbs<2^4096:=Uz (show w.natAbs<=10^30 by(clear h2 h1 h0 w2 w1 ew lb zb yb lp ea hp hx er fr vn uD l0 eD SI mZ eu hD fa f8 gh cW g7 a2 D0 fl hu q n6 n0 dD aM;omega))
  refine⟨_,rfl,_,rfl,_,_,rfl,rfl,⟨wq,wq⟩,_,rfl,rfl,_,rfl,?_⟩
  have tk:(L.take (i+1)).flatMap (fC N n)=(L.take i).flatMap (fC N n)++fC N n p:=by
   rw[List.take_add_one,hp]
   simp
  refine iL (λc=> ?_) (λc=> ?_)
  ·have c':w*w=kI N n p.1 p.2:=V.int.inj (of_decide_eq_true c)
   with_reducible apply IM (λv H2=> ∃S,v= .ref S/\H' S=none/\H2=upd H' S (.lst ((d9 w).map V.int)))
   ·intro R hR
    refine⟨_,rfl,_,_,rfl,rfl,_,rfl,?_⟩
    refine iL (λc=> ?_) (λc=> ?_)
    ·have c2:0<w:=of_decide_eq_true c
     refine⟨_,rfl,_,rfl,_,rfl,(by show 2<=sizeLine;decide),λS hS=>hR _ _ ⟨S,rfl,hS,?_⟩⟩
     unfold d9
     rw[if_pos c2]
     rfl
    ·have c2:¬0<w:=λz=>c (decide_eq_true z)
     refine⟨by decide,λS hS=>hR _ _ ⟨S,rfl,hS,?_⟩⟩
     unfold d9
     rw[if_neg c2]
     rfl
   ·rintro _ _ ⟨S,rfl,hS,rfl⟩
    have Qc:S≠D:=λz=>by rw[z,vn]at hS;cases hS
    have sS:az H' (upd H' S (.lst ((d9 w).map V.int))):=az.up hS
    obtain⟨Wd,UB⟩:=ok.same sS
    refine⟨_,rfl,S,rfl,⟨_,aW.of av⟩,?_⟩
    refine ql (xs:=(d9 w).map V.int) (λj σ H2=> ∃yN as',σ=[some (.ref t),some (.int n),some (.int (ent N 0 0)),some (.ref D),some (.int p.1),some (.int p.2),some (.int (qV N p.1 p.2)),some (.int (kI N n p.1 p.2)),some (.int w),some (.ref S),yN]/\SD D (upd H' S (.lst ((d9 w).map V.int))) H2/\H2 D=some (.lst (as'.map V.ref))/\fW H2 as'/\(∀b∈as',H b=none)/\rws H2 as'=(L.take i).flatMap (fC N n)++b7 N p ((d9 w).take j)) ⟨_,as,rfl,SD.refl,sS _ _ vn,Wd,fr,by rw[UB,er];simp[b7]⟩ (λj σ H2 hj hh=> ?_) (λj x σ H2 hx hh=> ?_) (λσ H2 hh=> ?_)
    ·obtain⟨yN,as',rfl,NC,Lj,Qd,zA,ND⟩:=hh
     exact aW.of (NC _ _ Qc av)
    ·obtain⟨yN,as',rfl,NC,Lj,Qd,zA,ND⟩:=hh
     obtain⟨k,rfl,hk⟩:∃k,x= .int k/\(d9 w)[j]?=some k:=by
      rw[List.getElem?_map]at hx
      cases e:(d9 w)[j]? with
      |none=>rw[e]at hx;cases hx
      |some k=>rw[e]at hx;cases hx;exact⟨k,rfl,rfl⟩
     have SJ:b7 N p ((d9 w).take (j+1))=b7 N p ((d9 w).take j)++b7 N p [k]:=by
      rw[List.take_add_one,hk]
      simp[b7]
     refine⟨_,rfl,_,rfl,_,_,rfl,rfl,_,rfl,_,_,rfl,rfl,(by show 0<ent N 0 0;omega),rfl,_,rfl,?_⟩
     refine iL (λc3=> ?_) (λc3=> ?_)
     ·have c4:(k-qV N p.1 p.2)%ent N 0 0=0:=V.int.inj (of_decide_eq_true c3)
      refine⟨_,rfl,.inl ⟨rfl,_,aW.of Lj⟩,?_⟩
      refine⟨_,rfl,_,rfl,_,_,rfl,rfl,_,rfl,_,_,rfl,rfl,⟨by omega,by omega⟩,_,rfl,_,rfl,(by show 3<=sizeLine;decide),λb hb=> ?_⟩
      have ll:as'.length<sizeLine:=by
       have e:as'.length=(rws H2 as').length:=(List.length_map _).symm
       have h1:=qS (N:=N) (n:=n) (L.take i)
       have h2:=qR (N:=N) (p:=p) ((d9 w).take j)
       have h3:=FH w
       rw[e,ND,List.length_append]
       rw[List.length_take]at h1 h2
       show _<16777216
       (clear e hb c4 c3 SJ hx hk ND zA Lj UB Qc hS c' c tk wq h0 wb w2 w1 w0 ew lb zb yb lp ea hp er fr vn uD l0 eD mZ eu hD fa f8 gh cW g7 a2 D0 fl hu q n6 n0 dD aM;omega)
      have bD:b≠D:=λz=>by rw[z,Lj]at hb;cases hb
      obtain⟨SK,QO⟩:=fW.push (o:= .lst (as'.map V.ref++ [V.ref b])) (x:=(k-qV N p.1 p.2)/ent N 0 0) (y:=p.1) (z:=p.2) Qd Lj hb bD
      refine⟨D,as'.map V.ref,.ref b,rfl,rfl,by rw[aI (λz=>bD z.symm)];exact Lj,(by rw[List.length_map];exact ll),?_⟩
      refine⟨_,as'++ [b],rfl,(NC.trans (SD.of (az.up hb))).upd,?_,SK,λc hc=> ?_,?_⟩
      ·rw[List.map_append]
       exact av
      ·rcases List.mem_append.mp hc with h|h
       ·exact zA c h
       ·rw[List.mem_singleton.mp h]
        have We:az H H2:=λa o e=>((sD.trans (SD.of sS)).trans NC) a o (λz=>by rw[z,hD]at e;cases e) (s1 _ _ (s0 _ _ e))
        exact We.none hb
      ·rw[QO,ND,SJ,List.append_assoc]
       simp[b7,c4]
     ·have c4:¬(k-qV N p.1 p.2)%ent N 0 0=0:=λz=>c3 (by rw[z];exact decide_eq_true rfl)
      refine⟨_,as',rfl,NC,Lj,Qd,zA,?_⟩
      rw[SJ,ND]
      simp[b7,c4]
    ·obtain⟨yN,as',rfl,NC,Lj,Qd,zA,ND⟩:=hh
     refine⟨_,_,_,_,_,_,_,as',rfl,(sD.trans (SD.of sS)).trans NC,Lj,Qd,zA,?_⟩
     rw[ND,tk,List.length_map,List.take_length]
     congr 1
     unfold fC
     rw[ew,if_pos c']
  ·have c':¬w*w=kI N n p.1 p.2:=λz=>c (by rw[z];exact decide_eq_true rfl)
   refine⟨_,_,_,_,_,_,_,as,rfl,sD,vn,ok,fr,?_⟩
   rw[tk,er]
   have:fC N n p=[]:=by
    unfold fC
    rw[ew,if_neg c']
   rw[this,List.append_nil]
 ·obtain⟨o4,o5,o6,o7,o8,o9,yN,as,rfl,sD,vn,ok,fr,er⟩:=hh
  have el:L.take us.length=L:=by rw[tu.length,List.take_length]
  rw[el]at er
  have R0:=wC ev NT.pos nd mZ
  rw[<-er]at R0
  have sm:=R0.small NT dD n0 n6
  have al:as.length<=24200:=by
   have e:as.length=(rws H' as).length:=(List.length_map _).symm
   have h1:=qS (N:=N) (n:=n) L
   rw[e,er]
   (clear e sm el er fr vn uD l0 eD mZ eu hD fa f8 gh cW g7 a2 D0 fl hu q n6 n0 dD aM;omega)
  refine⟨_,rfl,tH (aW.of vn) ok (λb hb i hi=>Nat.lt_of_lt_of_le ((sm _ (Eg hb)).2 i hi) (by decide)) λbs pb so l hl=> ?_⟩
  have Lk:fW H' bs:=λb hb=>ok b (pb.mem_iff.mp hb)
  obtain⟨Qe,NF⟩:=Lk.same (az.up (o:= .lst (bs.map V.ref)) hl)
  refine q l bs _ ((λa o e=>(sD.trans (SD.of (az.up hl))) a o (λz=>by rw[z,hD]at e;cases e) (s1 _ _ (s0 _ _ e)))) ((show az H H' from λa o e=>sD a o (λz=>by rw[z,hD]at e;cases e) (s1 _ _ (s0 _ _ e))).none hl) (λb hb=>fr b (pb.mem_iff.mp hb)) av Qe ?_ (by rw[NF];exact so) (by rw[pb.length_eq];exact al)
  rw[NF]
  exact R0.perm (Ax pb)
inductive AA(vs:List V)(H:Hp)(Q:VK)(E:XK):Prop
 |mk(n g:Int)(_:vs=[.int n,.int g])(_:0<=n)(_:n<=g)(_:Q .iW H)
theorem r9(F:fP K mg "refuse_others" jd fG)(iz:dM P w K mg base cY 1 "is_whole" iu oM):dM P w K mg base cY 2 "refuse_others" fG AA:=by
 refine F.ok rR (λvs H Q E h=> ?_) (λf cdv A outer s H vs Q E hr h=> ?_)
 ·obtain⟨n,g,rfl,n0,ng,q⟩:=h
  rfl
 obtain⟨n,g,rfl,n0,ng,q⟩:=h
 have hu:=hr.units
 refine⟨_,(dh (dW (PW.pt (sU (qX (lP (aR iz hr rfl aQ (af (pv 0) ak)))) (sU (bO LA (pv 0) ah (cg _)) (uu (bO oZ (pv 0) (pv 1) (cg _)))))) (@aL _ _ _ uw) eT)),?_⟩
 refine⟨_,rfl,n,rfl,_,rfl,zE ?_⟩
 refine⟨_,rfl,_,_,rfl,rfl,_,rfl,iL (λc=>absurd (of_decide_eq_true c) (by omega)) λ_=> ?_⟩
 exact⟨_,rfl,_,rfl,_,_,rfl,rfl,_,rfl,iL (λc=>absurd (of_decide_eq_true c) (by omega)) λ_=>q⟩
inductive Cy(T1 T2 T3 T4 T5 T6:Addr)(vs:List V)(H:Hp)(Q:VK)(E:XK):Prop
 |mk(t:Addr)(bs:List Addr)(m:List (List Int))(n:Int)(_:vs=[.ref t,.int n])(_:Tab H t bs m)(_:cJ m)(_:Bd 440 m)(_:b8 m)(_:bZ m=true)(_:aA m/2<=200)(_:0<=n)(_:n<=600)(_:H T1=some (dS T1))(_:H T2=some (dS T2))(_:H T3=some (dS T3))(_:H T4=some (dS T4))(_:H T5=some (dS T5))(_:H T6=some .zu)(_:∀(L:List (List Int)) (H':Hp),az H H'->e9 m n L->Q (.int (L.length:Int)) H')
theorem AB{bu aX aD bC aG aS:Addr}(F:fP K mg "how_many" pU jS)(mW:mg "len"=none){iB:_}(iC:mg "GREATEST_WORTH"=some (Value.int 600 iB))(se:dM P w K mg base cY 10 "half" rN (Cq bu aX aD))(jh:dM P w K mg base cY 10 "refuse_others" fG AA)(sf:dM P w K mg base cY 10 "near" rP (Cu bC aG aS))(nZ:dM P w K mg base cY 10 "near_rows" iP vz):dM P w K mg base cY 11 "how_many" jS (Cy bu aX aD bC aG aS):=by
 refine F.ok Af (λvs H Q E h=> ?_) (λf cdv A outer s H vs Q E hr h=> ?_)
 ·obtain⟨t,bs,m,n,rfl,hT,ck,hB,ev,ab,hd,n0,n6,h1,h2,h3,h4,h5,h6,q⟩:=h
  rfl
 obtain⟨t,bs,m,n,rfl,hT,ck,hB,ev,ab,hd,n0,n6,h1,h2,h3,h4,h5,h6,q⟩:=h
 have hu:=hr.units
 refine⟨_,(mY (@aq _ _ _ _ _ (oE (aR se hr rfl aQ (af (pv 0) ak)))
  (@aq _ _ _ _ _ (oE (aR jh hr rfl aQ (af (pv 1) (af (Dh (v:= .int 600) rfl iC ⟨_,rfl⟩) ak))))
  (@aL _ _ _ (bh (e7 jr rfl mW PySem.boot_len (af (aR nZ hr rfl aQ (af (aF GP (aR sf hr rfl aQ (af (pv 0) ak)) ah (λ_ _=>rfl)) (af (pv 1) ak))) ak))))))),?_⟩
 refine⟨_,rfl,t,bs,m,rfl,hT,ck,hB,ev,ab,hd,h1,h2,h3,trivial,λH1 s1=> ?_⟩
 refine⟨_,rfl,n,600,rfl,n0,n6,?_⟩
 have D4:aA m<=401:=by omega
 have D0:=(fL ab).2.2
 refine⟨_,rfl,t,bs,m,rfl,hT.same s1,ck,hB,ev,ab,Nat.lt_of_le_of_lt (show(aA m).natAbs<=401 by omega) (by decide),s1 _ _ h4,s1 _ _ h5,s1 _ _ h6,λu us r rs B P H2 NT un dt Fp bB s2 eP Tu Tr=> ?_⟩
 have NB:=Lf NT (by rw[dt];exact D4)
 refine⟨P,_,_,_,rfl,rfl,vS.of eP,rfl,_,rfl,u,us,dU m B,n,rfl,Tu,NT.Fp,NT.ev,NB,NT,(by rw[dt];exact D4),n0,(by omega),λp as H3 s3 fp UC ep ok R WC al=> ?_⟩
 refine⟨p,_,rfl,.inl (aW.of ep),?_⟩
 have e:(as.map V.ref).length=((rws H3 as).map (FI B)).length:=by simp[rws]
 rw[e]
 exact q _ H3 (s1.trans (s2.trans s3)) (vq un R)
inductive AD(T1 T2 T3 T4 T5 T6:Addr)(vs:List V)(H:Hp)(Q:VK)(E:XK):Prop
 |mk(t:Addr)(bs:List Addr)(m:List (List Int))(_:vs=[.ref t])(_:Tab H t bs m)(_:cJ m)(_:Bd 440 m)(_:b8 m)(_:bZ m=true)(_:aA m/2<=200)(_:H T1=some (dS T1))(_:H T2=some (dS T2))(_:H T3=some (dS T3))(_:H T4=some (dS T4))(_:H T5=some (dS T5))(_:H T6=some .zu)(_:∀(B:List (List Int)) (H':Hp),gp (dU m B) ->(aA B=1∨aA B= -1) ->aA (dU m B)=aA m->az H H'->Q (.int (ent (dU m B) 0 0/2)) H')
theorem vC{bu aX aD bC aG aS:Addr}(F:fP K mg "least_worth" kF gr)(se:dM P w K mg base cY 10 "half" rN (Cq bu aX aD))(sf:dM P w K mg base cY 10 "near" rP (Cu bC aG aS)):dM P w K mg base cY 11 "least_worth" gr (AD bu aX aD bC aG aS):=by
 refine F.ok uZ (λvs H Q E h=> ?_) (λf cdv A outer s H vs Q E hr h=> ?_)
 ·obtain⟨t,bs,m,rfl,hT,ck,hB,ev,ab,hd,h1,h2,h3,h4,h5,h6,q⟩:=h
  rfl
 obtain⟨t,bs,m,rfl,hT,ck,hB,ev,ab,hd,h1,h2,h3,h4,h5,h6,q⟩:=h
 have hu:=hr.units
 refine⟨_,(mY (@aq _ _ _ _ _ (oE (aR se hr rfl aQ (af (pv 0) ak)))
  (@aL _ _ _ (bh (ai bT (aF ay (aF ay (aF GP (aR sf hr rfl aQ (af (pv 0) ak)) ah (λ_ _=>rfl)) ah (λ_ _=>rfl)) ah (λ_ _=>rfl)) ah))))),?_⟩
 refine⟨_,rfl,t,bs,m,rfl,hT,ck,hB,ev,ab,hd,h1,h2,h3,trivial,λH1 s1=> ?_⟩
 have D4:aA m<=401:=by omega
 have D0:=(fL ab).2.2
 refine⟨_,rfl,t,bs,m,rfl,hT.same s1,ck,hB,ev,ab,Nat.lt_of_le_of_lt (show(aA m).natAbs<=401 by omega) (by decide),s1 _ _ h4,s1 _ _ h5,s1 _ _ h6,λu us r rs B P H2 NT un dt Fp bB s2 eP Tu Tr=> ?_⟩
 obtain⟨b0,x1,x2,_⟩:=aZ Tu NT.Fp (i:=0) (by decide)
 exact⟨P,_,_,_,rfl,rfl,vS.of eP,rfl,u,_,_,_,rfl,rfl,aW.of Tu.1,x1,b0,_,_,_,rfl,rfl,aW.of x2,rfl,_,_,rfl,rfl,⟨by decide,by decide⟩,q B H2 NT un dt (s1.trans s2)⟩
end
end CW
namespace L2
open PySem PySem.Spec PyProof.Rows
theorem Ja{A B P s r:Int}(A0:0<A)(D0:0<=A*B-P*P):0<=A*(s*s)+2*(P*(s*r))+B*(r*r):=by
 refine Classical.byContradiction λc=> ?_
 have k:A*(A*(s*s)+2*(P*(s*r))+B*(r*r))<0:=Int.mul_neg_of_pos_of_neg A0 (by(clear D0 A0;omega))
 have e:A*(A*(s*s)+2*(P*(s*r))+B*(r*r))=(A*s+P*r)*(A*s+P*r)+(A*B-P*P)*(r*r):=by grind
 have k1:=bf (A*s+P*r)
 have k2:=Int.mul_nonneg D0 (bf r)
 (clear c D0 A0;omega)
theorem gp.yx{N:List (List Int)}(h:gp N):0<ent N 0 0*ent N 1 1-ent N 0 1*ent N 0 1:=by
 have a0:=h.pos
 have le:=h.KN
 have s:=lz h.p.1 h.p.2
 have e:2*ent N 0 1*(2*ent N 0 1)=4*(ent N 0 1*ent N 0 1):=by grind
 have k1:=Int.mul_le_mul_of_nonneg_left le (Int.le_of_lt a0)
 have k2:=Int.mul_pos a0 a0
 (clear le a0;omega)
theorem FN{N:List (List Int)}(h:gp N)(v:Nat->Int):aA N*(v 2*v 2)<=(ent N 0 0*ent N 1 1-ent N 0 1*ent N 0 1)*aN N v:=by
 have g:=rE h.ev (pq 0 1) (pq 1 1) v
 have A:=h.yx
 have yw:au N (pq 0 1) (pq 1 1)=ent N 0 1:=by rw[aU];unfold pq;simp
 have dd:bQ (pq 0 1) (pq 1 1) v=v 2:=by unfold bQ pq;simp
 have ea:ao N (pq 0 1) (pq 1 1)=ent N 0 0*ent N 1 1-ent N 0 1*ent N 0 1:=by
  unfold ao
  rw[nK N (by decide),nK N (by decide),yw]
 rw[ea,dd,yw,nK N (by decide),nK N (by decide)]at g
 have q:=Ja (s:=bI N (pq 0 1) (pq 1 1) v) (r:=bJ N (pq 0 1) (pq 1 1) v) h.pos (Int.le_of_lt A)
 refine Int.le_of_mul_le_mul_left (a:=ent N 0 0*ent N 1 1-ent N 0 1*ent N 0 1) ?_ A
 rw[g]
 omega
theorem Ll(m:List (List Int))(v:Nat->Int):aN m (λi=> -v i)=aN m v:=by
 show au m _ _=au m _ _
 rw[aU,aU]
 grind
theorem Lm{z:Int}(h:2<=z∨z<= -2):4<=z*z:=by
 rcases h with h|h
 ·exact Int.mul_le_mul h h (by decide) (by omega)
 ·have:2*2<=(-z)*(-z):=Int.mul_le_mul (by omega) (by omega) (by decide) (by omega)
  have e: -z* -z=z*z:=by grind
  omega
theorem sj{z:Int}(h:z≠0):1<=z*z:=by
 rcases Int.lt_or_gt_of_ne h with h|h
 ·have:1*1<=(-z)*(-z):=Int.mul_le_mul (by omega) (by omega) (by decide) (by omega)
  have e: -z* -z=z*z:=by grind
  omega
 ·exact Int.mul_le_mul (by omega:(1:Int)<=z) (by omega:(1:Int)<=z) (by decide) (by omega)
theorem FO{N:List (List Int)}(h:gp N){v:Nat->Int}(hv:v 2≠0):ent N 2 2<=aN N v:=by
 by_cases c1:v 2=1
 ·exact h.Np v c1
 by_cases c2:v 2= -1
 ·rw[<-Ll N v]
  exact h.Np _ (show-v 2=1 by omega)
 have A:=h.yx
 have hi:=FN h v
 have k4:=Lm (z:=v 2) (by(clear hi A;omega))
 have hg:=h.hgt
 have l1:=h.KN
 have l2:=h.Nt
 have D0:=(fL h.ab).2.2
 have k5:=Int.mul_le_mul_of_nonneg_left k4 (Int.le_of_lt D0)
 refine Int.le_of_mul_le_mul_left (a:=ent N 0 0*ent N 1 1-ent N 0 1*ent N 0 1) ?_ A
 have k6:=Int.mul_le_mul_of_nonneg_left l2 (Int.le_of_lt A)
 (clear D0 l2 l1 k4 A c2 c1 hv;omega)
theorem FP{N:List (List Int)}(h:gp N){v:Nat->Int}(hv:v 1≠0∨v 2≠0):ent N 1 1<=aN N v:=by
 by_cases c2:v 2=0
 ·have c1:v 1≠0:=hv.resolve_right (λz=>z c2)
  have a0:=h.pos
  have l1:=h.KN
  obtain⟨p1,p2⟩:=h.p
  have e:aN N v=ent N 0 0*(v 0*v 0)+2*(ent N 0 1*(v 0*v 1))+ent N 1 1*(v 1*v 1):=by
   show au N v v=_
   rw[aU,c2,(h.ev.sym).1]
   grind
  rw[e]
  generalize ent N 0 0=a,ent N 1 1=b,ent N 0 1=p,v 0=x,v 1=y at *
  have y1:=sj c1
  have key:∀X Y:Int,0<=X->0<Y->a*(X*X) -a*(X*Y)+b*(Y*Y)≥b:=λX Y hX hY=>by
   have Y1:1<=Y*Y:=sj (by omega)
   rcases Int.le_total Y X with w|w
   ·have k1:=Int.mul_nonneg (Int.le_of_lt a0) (Int.mul_nonneg hX (show 0<=X-Y by(clear Y1 hY hX y1 e p2 p1 l1 a0 c1 hv c2;omega)))
    have k2:=Int.mul_le_mul_of_nonneg_left Y1 (show 0<=b by omega)
    have e2:a*(X*(X-Y))=a*(X*X) -a*(X*Y):=by grind
    (clear w Y1 hY hX y1 e p2 p1 l1 a0 c1 hv c2;omega)
   ·have k1:=Int.mul_nonneg (show 0<=b-a by omega) (Int.mul_nonneg hX (show 0<=Y-X by(clear Y1 hY hX y1 e p2 p1 l1 a0 c1 hv c2;omega)))
    have k2:1<=Y*Y-X*Y+X*X:=by
     have k3:=Int.mul_nonneg (show 0<=Y by omega) (show 0<=Y-X by omega)
     rcases Int.le_iff_lt_or_eq.mp hX with z|z
     ·have:=Int.mul_pos z z
      have e3:Y*(Y-X)=Y*Y-X*Y:=by grind
      (clear z k1 w Y1 hY hX y1 e p2 p1 l1 a0 c1 hv c2;omega)
     ·subst z
      simp
      omega
    have k3:=Int.mul_le_mul_of_nonneg_left k2 (show 0<=b by omega)
    have e2:(b-a)*(X*(Y-X))=b*(X*Y) -b*(X*X) -a*(X*Y)+a*(X*X):=by grind
    have e3:b*(Y*Y-X*Y+X*X)=b*(Y*Y) -b*(X*Y)+b*(X*X):=by grind
    (clear k2 w Y1 hY hX y1 e p2 p1 l1 a0 c1 hv c2;omega)
  have go:∀X Y:Int,0<=X->0<Y-> ∀q:Int,-a<=2*q->a*(X*X)+2*(q*(X*Y))+b*(Y*Y)≥b:=λX Y hX hY q hq=>by
   have k:=key X Y hX hY
   have k1:=Int.mul_nonneg (show 0<=2*q+a by(clear k hY hX key y1 e p2 p1 l1 a0 c1 hv c2;omega)) (Int.mul_nonneg hX (Int.le_of_lt hY))
   have e2:(2*q+a)*(X*Y)=2*(q*(X*Y))+a*(X*Y):=by grind
   (clear hq hY hX key y1 e p2 p1 l1 a0 c1 hv c2;omega)
  rcases Int.le_total 0 x with hx|hx<;>rcases Int.lt_or_gt_of_ne c1 with hy|hy
  ·have:=go x (-y) hx (by(clear hx go key y1 e p2 p1 l1 a0 c1 hv c2;omega)) (-p) (by omega)
   have e2: -p*(x* -y)=p*(x*y):=by grind
   have e3: -y* -y=y*y:=by grind
   rw[e2,e3]at this
   exact this
  ·exact go x y hx hy p p1
  ·have:=go (-x) (-y) (by omega) (by(clear hx go key y1 e p2 p1 l1 a0 c1 hv c2;omega)) p p1
   have e2: -x* -y=x*y:=by grind
   have e3: -y* -y=y*y:=by grind
   have e4: -x* -x=x*x:=by grind
   rw[e2,e3,e4]at this
   exact this
  ·have:=go (-x) y (by omega) hy (-p) (by omega)
   have e2: -p*(-x*y)=p*(x*y):=by grind
   have e4: -x* -x=x*x:=by grind
   rw[e2,e4]at this
   exact this
 ·exact Int.le_trans h.Nt (FO h c2)
theorem FQ{N:List (List Int)}(h:gp N){v:Nat->Int}(hv:v 0≠0∨v 1≠0∨v 2≠0):ent N 0 0<=aN N v:=by
 by_cases c:v 1≠0∨v 2≠0
 ·exact Int.le_trans h.KN (FP h c)
 ·have c1:v 1=0:=by omega
  have c2:v 2=0:=by omega
  have c0:v 0≠0:=by omega
  have e:aN N v=ent N 0 0*(v 0*v 0):=by
   show au N v v=_
   rw[aU,c1,c2]
   grind
  rw[e]
  have:=Int.mul_le_mul_of_nonneg_left (sj c0) (Int.le_of_lt h.pos)
  omega
end L2
namespace L2
open PySem PySem.Spec PyProof.Rows PySem.SeqAt
end L2
namespace L2
open PySem
noncomputable section
end
noncomputable section
end
end L2
namespace L2
open PySem PySem.Spec PyProof.Rows
noncomputable def Ic(m x y m' x' y':Int):Prop:=m<m'∨(m=m'/\(x<x'∨(x=x'/\y<=y')))
end L2
namespace L2
theorem oV{a b c P Q R:Int}(ha:0<=a)(hba:0<=b-a)(hcb:0<=c-b)(hP:0<=P)(hQ:0<=Q)(hR:0<=R)(Ei:0<=a-2*P)(JD:0<=a-2*Q)(JE:0<=b-2*R):0<=a*b*c+4*(P*Q*R) -2*(a*(R*R)) -2*(b*(Q*Q)) -2*(c*(P*P)):=by
 have k0:=Int.mul_nonneg (Int.mul_nonneg hP hba) Ei
 have k1:=Int.mul_nonneg (Int.mul_nonneg hP hcb) Ei
 have k2:=Int.mul_nonneg (Int.mul_nonneg hP Ei) ha
 have k3:=Int.mul_nonneg (Int.mul_nonneg hQ hba) JD
 have k4:=Int.mul_nonneg (Int.mul_nonneg hQ JD) ha
 have k5:=Int.mul_nonneg (Int.mul_nonneg hR Ei) JD
 have k6:=Int.mul_nonneg (Int.mul_nonneg hR JE) ha
 have k7:=Int.mul_nonneg (Int.mul_nonneg hba hba) ha
 have k8:=Int.mul_nonneg (Int.mul_nonneg hba hcb) ha
 have k9:=Int.mul_nonneg (Int.mul_nonneg hba JE) ha
 have UD:=Int.mul_nonneg (Int.mul_nonneg hba ha) ha
 have Wf:=Int.mul_nonneg (Int.mul_nonneg hcb Ei) ha
 have Wg:=Int.mul_nonneg (Int.mul_nonneg hcb ha) ha
 have Wh:=Int.mul_nonneg (Int.mul_nonneg Ei JE) ha
 have Wi:=Int.mul_nonneg (Int.mul_nonneg JD JE) ha
 have e:4*(a*b*c+4*(P*Q*R) -2*(a*(R*R)) -2*(b*(Q*Q)) -2*(c*(P*P)))=4*(P*(b-a)*(a-2*P))+4*(P*(c-b)*(a-2*P))+4*(P*(a-2*P)*a)+4*(Q*(b-a)*(a-2*Q))+4*(Q*(a-2*Q)*a)+4*(R*(a-2*P)*(a-2*Q))+4*(R*(b-2*R)*a)+2*((b-a)*(b-a)*a)+4*((b-a)*(c-b)*a)+2*((b-a)*(b-2*R)*a)+2*((b-a)*a*a)+2*((c-b)*(a-2*P)*a)+2*((c-b)*a*a)+2*((a-2*P)*(b-2*R)*a)+2*((a-2*Q)*(b-2*R)*a):=by grind
 (clear JE JD Ei hR hQ hP hcb hba ha;omega)
theorem oW{a b c P Q R:Int}(ha:0<=a)(hba:0<=b-a)(hcb:0<=c-b)(hP:0<=P)(hQ:0<=Q)(hR:0<=R)(Ei:0<=a-2*P)(JD:0<=a-2*Q)(JE:0<=b-2*R)(hw:0<=a+b-2*P-2*Q-2*R):0<=a*b*c-4*(P*Q*R) -2*(a*(R*R)) -2*(b*(Q*Q)) -2*(c*(P*P)):=by
 have k0:=Int.mul_nonneg (Int.mul_nonneg hP hba) Ei
 have k1:=Int.mul_nonneg (Int.mul_nonneg hP hcb) Ei
 have k2:=Int.mul_nonneg (Int.mul_nonneg hP Ei) ha
 have k3:=Int.mul_nonneg (Int.mul_nonneg hP ha) hw
 have k4:=Int.mul_nonneg (Int.mul_nonneg hQ hba) hw
 have k5:=Int.mul_nonneg (Int.mul_nonneg hQ JD) ha
 have k6:=Int.mul_nonneg (Int.mul_nonneg hQ ha) hw
 have k7:=Int.mul_nonneg (Int.mul_nonneg hR hba) ha
 have k8:=Int.mul_nonneg (Int.mul_nonneg hR JE) ha
 have k9:=Int.mul_nonneg (Int.mul_nonneg hR ha) hw
 have UD:=Int.mul_nonneg (Int.mul_nonneg hba hba) ha
 have Wf:=Int.mul_nonneg (Int.mul_nonneg hba hcb) ha
 have Wg:=Int.mul_nonneg (Int.mul_nonneg hba JD) JE
 have Wh:=Int.mul_nonneg (Int.mul_nonneg hba ha) ha
 have Wi:=Int.mul_nonneg (Int.mul_nonneg hba ha) hw
 have WD:=Int.mul_nonneg (Int.mul_nonneg hcb Ei) ha
 have WE:=Int.mul_nonneg (Int.mul_nonneg hcb ha) ha
 have WG:=Int.mul_nonneg (Int.mul_nonneg Ei JD) JE
 have WH:=Int.mul_nonneg (Int.mul_nonneg ha ha) hw
 have e:4*(a*b*c-4*(P*Q*R) -2*(a*(R*R)) -2*(b*(Q*Q)) -2*(c*(P*P)))=4*(P*(b-a)*(a-2*P))+4*(P*(c-b)*(a-2*P))+2*(P*(a-2*P)*a)+2*(P*a*(a+b-2*P-2*Q-2*R))+4*(Q*(b-a)*(a+b-2*P-2*Q-2*R))+2*(Q*(a-2*Q)*a)+2*(Q*a*(a+b-2*P-2*Q-2*R))+2*(R*(b-a)*a)+2*(R*(b-2*R)*a)+2*(R*a*(a+b-2*P-2*Q-2*R))+1*((b-a)*(b-a)*a)+4*((b-a)*(c-b)*a)+2*((b-a)*(a-2*Q)*(b-2*R))+1*((b-a)*a*a)+1*((b-a)*a*(a+b-2*P-2*Q-2*R))+2*((c-b)*(a-2*P)*a)+2*((c-b)*a*a)+2*((a-2*P)*(a-2*Q)*(b-2*R))+1*(a*a*(a+b-2*P-2*Q-2*R)):=by grind
 (clear hw JE JD Ei hR hQ hP hcb hba ha;omega)
theorem Qg{a b c p q r:Int}(ha:0<=a)(ab:a<=b)(bc:b<=c)(p1: -a<=2*p)(p2:2*p<=a)(q1: -a<=2*q)(q2:2*q<=a)(r1: -b<=2*r)(r2:2*r<=b)
  (w1:0<=a+b+2*p+2*q+2*r)(w2:0<=a+b+2*p-2*q-2*r)(w3:0<=a+b-2*p+2*q-2*r)(w4:0<=a+b-2*p-2*q+2*r):
  0<=a*b*c+4*(p*q*r) -2*(a*(r*r)) -2*(b*(q*q)) -2*(c*(p*p)):=by
 have n2:∀x:Int,-x* -x=x*x:=λx=>by grind
 have m1: -p* -q*r=p*q*r:=by grind
 have m2: -p*q* -r=p*q*r:=by grind
 have m3:p* -q* -r=p*q*r:=by grind
 have m4: -p*q*r= -(p*q*r):=by grind
 have m5:p* -q*r= -(p*q*r):=by grind
 have m6:p*q* -r= -(p*q*r):=by grind
 have m7: -p* -q* -r= -(p*q*r):=by grind
 have np:=n2 p
 have nq:=n2 q
 have nr:=n2 r
 rcases Int.le_total 0 p with hp|hp<;>rcases Int.le_total 0 q with hq|hq<;>rcases Int.le_total 0 r with hr|hr
 ·exact oV ha (by omega) (by omega) hp hq hr (by omega) (by omega) (by omega)
 ·have:=oW (P:=p) (Q:=q) (R:= -r) (a:=a) (b:=b) (c:=c) ha (by omega) (by omega) hp hq (by omega) (by omega) (by omega) (by omega) (by omega)
  rw[nr,m6]at this
  (clear hr hq hp nr nq np m1 n2 w4 w3 w2 w1 r2 r1 q2 q1 p2 p1 bc ab ha;omega)
 ·have:=oW (P:=p) (Q:= -q) (R:=r) (a:=a) (b:=b) (c:=c) ha (by omega) (by omega) hp (by omega) hr (by omega) (by omega) (by omega) (by omega)
  rw[nq,m5]at this
  (clear hr hq hp nr nq np m1 n2 w4 w3 w2 w1 r2 r1 q2 q1 p2 p1 bc ab ha;omega)
 ·have:=oV (P:=p) (Q:= -q) (R:= -r) (a:=a) (b:=b) (c:=c) ha (by omega) (by omega) hp (by omega) (by omega) (by omega) (by omega) (by omega)
  rw[nq,nr,m3]at this
  omega
 ·have:=oW (P:= -p) (Q:=q) (R:=r) (a:=a) (b:=b) (c:=c) ha (by omega) (by omega) (by omega) hq hr (by omega) (by omega) (by omega) (by omega)
  rw[np,m4]at this
  (clear hr hq hp nr nq np m1 n2 w4 w3 w2 w1 r2 r1 q2 q1 p2 p1 bc ab ha;omega)
 ·have:=oV (P:= -p) (Q:=q) (R:= -r) (a:=a) (b:=b) (c:=c) ha (by omega) (by omega) (by omega) hq (by omega) (by omega) (by omega) (by omega)
  rw[np,nr,m2]at this
  omega
 ·have:=oV (P:= -p) (Q:= -q) (R:=r) (a:=a) (b:=b) (c:=c) ha (by omega) (by omega) (by omega) (by omega) hr (by omega) (by omega) (by omega)
  rw[np,nq,m1]at this
  omega
 ·have:=oW (P:= -p) (Q:= -q) (R:= -r) (a:=a) (b:=b) (c:=c) ha (by omega) (by omega) (by omega) (by omega) (by omega) (by omega) (by omega) (by omega) (by omega)
  rw[np,nq,nr,m7]at this
  (clear hr hq hp nr nq np m1 n2 w4 w3 w2 w1 r2 r1 q2 q1 p2 p1 bc ab ha;omega)
end L2
namespace L2
open PySem PySem.Spec PyProof.Rows
noncomputable def q3(M:List (List Int))(x y z:Int):Int:=ent M 0 0*(x*x)+ent M 1 1*(y*y)+ent M 2 2*(z*z)+2*(ent M 0 1*(x*y))+2*(ent M 0 2*(x*z))+2*(ent M 1 2*(y*z))
structure iD(m:List (List Int))(w:Int):Prop where
 pos:0<w
 ex:∃v:Nat->Int,bE m v=w
 le:∀v:Nat->Int,(v 0≠0∨v 1≠0∨v 2≠0) ->w<=bE m v
theorem FT(m:List (List Int)){v:Nat->Int}(h:v 0=0/\v 1=0/\v 2=0):bE m v=0:=by
 unfold bE
 rw[aU,h.1,h.2.1,h.2.2]
 simp
theorem yO{m:List (List Int)}{v:Nat->Int}(h:bE m v≠0):v 0≠0∨v 1≠0∨v 2≠0:=by
 refine Classical.byContradiction λc=>h (FT m ?_)
 omega
theorem iD.uniq{m:List (List Int)}{w w':Int}(h:iD m w)(h':iD m w'):w=w':=by
 have p:=h.pos
 have p':=h'.pos
 obtain⟨v,e⟩:=h.ex
 obtain⟨v',e'⟩:=h'.ex
 have:=h.le v' (yO (m:=m) (by omega))
 have:=h'.le v (yO (m:=m) (by omega))
 omega
theorem iD.rows{m:List (List Int)}{w n:Int}(h:iD m w){L:List (List Int)}(R:e9 m n L):(n=w->L≠ [])/\(0<n->n<w->L=[]):=by
 refine⟨λe z=> ?_,λp l=> ?_⟩
 ·obtain⟨v,ev⟩:=h.ex
  have:=(R.2.2 v).mpr (ev.trans e.symm)
  rw[z]at this
  cases this
 ·match L,R with
  | [],_=>rfl
  |r::L',R=>
   obtain⟨v,rfl⟩:=R.2.1 r List.mem_cons_self
   have k:=(R.2.2 v).mp List.mem_cons_self
   have:=h.le v (yO (m:=m) (by omega))
   omega
theorem iD.dU{m B:List (List Int)}{w:Int}(h:iD m w)(u:nG (aA B)):iD (dU m B) w:=by
 refine⟨h.pos,?_,λv hv=> ?_⟩
 ·obtain⟨v,e⟩:=h.ex
  refine⟨eF v (mU B),?_⟩
  rw[oR,<-e]
  exact nV ⟨lI u v (by decide),lI u v (by decide),lI u v (by decide)⟩
 ·rw[oR]
  refine h.le _ (Classical.byContradiction λc=> ?_)
  obtain⟨a,b,d⟩:=uN u v ⟨by omega,by omega,by omega⟩
  omega
theorem FU{m:List (List Int)}(ev:b8 m)(c:cJ m)(ab:bZ m=true):∃w,iD m w/\2*w<=ent m 0 0:=by
 have P:=gH (eG ev c) ab
 have hp:∀v:Nat->Int,(v 0≠0∨v 1≠0∨v 2≠0) ->0<bE m v:=λv hv=>by
  have:=P v (by omega)
  rw[dg ev]at this
  omega
 have find:∀n:Nat,∀v:Nat->Int,(v 0≠0∨v 1≠0∨v 2≠0) ->bE m v<=n-> ∃w,iD m w/\w<=bE m v:=by
  intro n
  induction n with
  |zero=>intro v hv l;have:=hp v hv;omega
  |succ n ih=>
   intro v hv l
   by_cases k:∃v':Nat->Int,(v' 0≠0∨v' 1≠0∨v' 2≠0)/\bE m v'<bE m v
   ·obtain⟨v',h1,h2⟩:=k
    obtain⟨w,h3,h4⟩:=ih v' h1 (by omega)
    exact⟨w,h3,by omega⟩
   ·exact⟨bE m v,⟨hp v hv,⟨v,rfl⟩,λv' h'=>Int.not_lt.mp λz=>k ⟨v',h',z⟩⟩,Int.le_refl _⟩
 obtain⟨w,h,l⟩:=find (bE m (pq 0 1)).toNat (pq 0 1) (.inl (by decide)) (by omega)
 refine⟨w,h,?_⟩
 have e:=nK m (i:=0) (by decide)
 have e':ent m 0 0=au m (pq 0 1) (pq 0 1):=e.symm
 rw[e',dg ev]
 omega
theorem AE{N:List (List Int)}(h:gp N):iD N (ent N 0 0/2):=by
 have e:au N (pq 0 1) (pq 0 1)=ent N 0 0:=nK N (i:=0) (by decide)
 have p:=h.pos
 have h2:bE N (pq 0 1)=ent N 0 0/2:=by unfold bE;rw[e]
 have k:=dg h.ev (pq 0 1)
 refine⟨by omega,⟨pq 0 1,h2⟩,λv hv=> ?_⟩
 have l:=FQ h hv
 have l':ent N 0 0<=au N v v:=l
 unfold bE
 omega
theorem Cz{N:List (List Int)}(h:gp N):ent N 0 0*ent N 0 0*ent N 0 0<=2*aA N:=by
 have a0:=h.pos
 have l1:=h.KN
 have l2:=h.Nt
 obtain⟨p1,p2⟩:=h.p
 have cl:∀x y:Int,ent N 2 2<=q3 N x y 1:=λx y=>by
  have k:=h.Np (λi=>if i=0 then x else if i=1 then y else 1) rfl
  have e:aN N (λi=>if i=0 then x else if i=1 then y else 1)=q3 N x y 1:=by
   show au N _ _=_
   obtain⟨lM,lJ,lK⟩:=h.ev.sym
   rw[aU,lM,lJ,lK]
   unfold q3
   simp
   grind
  rw[e]at k
  exact k
 have b1:=cl 1 0
 have b2:=cl (-1) 0
 have c1:=cl 0 1
 have c2:=cl 0 (-1)
 have d1:=cl 1 1
 have d2:=cl 1 (-1)
 have d3:=cl (-1) 1
 have d4:=cl (-1) (-1)
 clear cl
 unfold q3 at b1 b2 c1 c2 d1 d2 d3 d4
 obtain⟨lM,lJ,lK⟩:=h.ev.sym
 have dt:aA N=ent N 0 0*ent N 1 1*ent N 2 2+2*(ent N 0 1*ent N 0 2*ent N 1 2) -ent N 0 0*(ent N 1 2*ent N 1 2) -ent N 1 1*(ent N 0 2*ent N 0 2) -ent N 2 2*(ent N 0 1*ent N 0 1):=by
  rw[cS,lM,lJ,lK]
  grind
 have gs:=Qg (Int.le_of_lt a0) l1 l2 p1 p2 (q:=ent N 0 2) (r:=ent N 1 2) (by omega) (by omega) (by omega) (by omega) (by omega) (by omega) (by omega) (by omega)
 have k1:=Int.mul_le_mul_of_nonneg_left l1 (Int.le_of_lt a0)
 have k2:ent N 0 0*ent N 0 0*ent N 0 0<=ent N 0 0*ent N 1 1*ent N 2 2:=Int.mul_le_mul k1 (Int.le_trans l1 l2) (Int.le_of_lt a0) (Int.mul_nonneg (Int.le_of_lt a0) (by omega))
 rw[dt]
 omega
theorem yP{m B:List (List Int)}{w:Int}(h:iD m w)(u:nG (aA B))(N:gp (dU m B)):ent (dU m B) 0 0/2=w/\8*w*w*w<=2*aA m:=by
 have e:=(AE N).uniq (h.dU u)
 refine⟨e,?_⟩
 have g:=Cz N
 have ee:=dg N.ev (pq 0 1)
 have e':au (dU m B) (pq 0 1) (pq 0 1)=ent (dU m B) 0 0:=nK _ (i:=0) (by decide)
 rw[e']at ee
 have ew:ent (dU m B) 0 0=2*w:=by omega
 rw[ew,qD u]at g
 have:2*w*(2*w)*(2*w)=8*w*w*w:=by grind
 omega
end L2
set_option maxHeartbeats 1000000
namespace CW
open PySem L2
section
variable{P:Program}{w:World}{K:PySem.W.Frag}{mg:Str->Option Value}{base:Heap}
inductive yQ(K:PySem.W.Frag)(vs:List V)(H:Hp)(Q:VK)(E:XK):Prop
 |mk(a:Addr)(ns:List Int)(k:Int)(_:vs=[.ref a,.int k])(_:aW K H a (ns.map V.int))(_:ns.length<=63)(_:0<=k)(_:∀z:Int,Q (.int z) H)
theorem tV(F:fP K mg "_law_cell_at" jT f6)(mW:mg "len"=none):dM P w K mg base cY 1 "_law_cell_at" f6 (yQ K):=by
 refine F.ok tT (λvs H Q E h=> ?_) (λf cdv A outer s H vs Q E hr h=> ?_)
 ·obtain⟨a,ns,k,rfl,hS,h63,h0,q⟩:=h
  rfl
 obtain⟨a,ns,k,rfl,hS,h63,h0,q⟩:=h
 have hu:=hr.units
 refine⟨_,(mY (@aq _ _ _ _ _ (dW (bO LA (pv 1) (e7 jr rfl mW PySem.boot_len (af (pv 0) ak)) (cg _)) (@aL _ _ _ (bh (aF ay (pv 0) (pv 1) (λ_ _=>rfl)))) eT)
  (@aL _ _ _ (bh ah)))),?_⟩
 have hl:(ns.map V.int).length=ns.length:=List.length_map _
 refine⟨_,rfl,_,rfl,a,_,rfl,.inl hS,_,_,rfl,rfl,_,rfl,?_⟩
 refine iL (λc=> ?_) (λc=> ?_)
 ·have c':k<(((ns.map V.int).length:Nat):Int):=of_decide_eq_true c
  rw[hl]at c'
  obtain⟨z,hz⟩:=Kf h0 c'
  exact⟨_,rfl,_,rfl,a,_,_,_,rfl,rfl,hS,hz,q z⟩
 ·exact q 0
theorem vD(F:fP K mg "_law_number" kG gu)(Jb:mg "abs"=none)(aj:mg "range"=none)(fj:dM P w K mg base cY 1 "_law_cell_at" f6 (yQ K)):dM P w K mg base cY 2 "_law_number" gu (yQ K):=by
 refine F.ok eH (λvs H Q E h=> ?_) (λf cdv A outer s H vs Q E hr h=> ?_)
 ·obtain⟨a,ns,k,rfl,hS,h63,h0,q⟩:=h
  rfl
 obtain⟨a,ns,k,rfl,hS,h63,h0,q⟩:=h
 have hu:=hr.units
 refine⟨_,(mY (@aq _ _ _ _ _ (dW (bO Dn (e7 GO rfl Jb PyProof.Rows.boot_abs (af (aR fj hr rfl aQ (af (pv 0) (af (pv 1) ak))) ak)) (ai Mu ah ah) (cg _)) (@aL _ _ _ (bh (aR fj hr rfl aQ (af (pv 0) (af (pv 1) ak))))) eT)
  (@aq _ _ _ _ _ (aE (i:=2) eH.nd rfl (Or.inl rfl) (ai aP (ai aP (aR fj hr rfl aQ (af (pv 0) (af ah ak))) (ai br ah (pv 1))) (ai br ah (aR fj hr rfl aQ (af (pv 0) (af (pv 1) ak))))))
  (@aq _ _ _ _ _ (aE (i:=2) eH.nd rfl (Or.inl rfl) (ai aP (ai c9 (pv 2) ah) ah))
  (@aq _ _ _ _ _ (aE (i:=3) eH.nd rfl (Or.inl rfl) ah)
  (@aq _ _ _ _ _ (kh PassesOwn.never rfl (eL rfl aj (af ah ak)) (aV (i:=4) eH.nd rfl (Or.inl rfl)) (mY (@aq _ _ _ _ _ (aE (i:=2) eH.nd rfl (Or.inl rfl) (ai c9 (ai aP (ai aP (ai aP (ai br (pv 2) ah) (ai bT (pv 2) ah)) (ai br (ai br ah (pv 4)) (pv 4))) ah) ah))
  (@aL _ _ _ (aE (i:=3) eH.nd rfl (Or.inl rfl) (ai aP (ai br (pv 3) ah) (ai c9 (ai br (pv 2) ah) ah)))))))
  (@aL _ _ _ (bh (pv 3))))))))),?_⟩
 refine⟨_,rfl,_,rfl,a,ns,k,rfl,hS,h63,h0,λz1=> ?_⟩
 refine⟨z1,rfl,_,_,rfl,rfl,⟨by decide,by decide,by decide⟩,_,_,rfl,rfl,_,rfl,?_⟩
 refine iL (λc=> ?_) (λc=> ?_)
 ·exact⟨_,rfl,_,rfl,a,ns,k,rfl,hS,h63,h0,q⟩
 refine⟨_,rfl,a,ns,0,rfl,hS,h63,Int.le_refl 0,λz2=> ?_⟩
 refine⟨_,rfl,_,_,rfl,rfl,.inl ⟨by decide,by decide⟩,_,_,rfl,rfl,?_⟩
 refine⟨_,rfl,_,rfl,a,ns,k,rfl,hS,h63,h0,λz3=> ?_⟩
 refine⟨_,_,rfl,rfl,.inl ⟨by decide,by decide⟩,_,_,rfl,rfl,?_⟩
 refine⟨_,rfl,_,_,rfl,rfl,(by show(0:Int)<2147483563;decide),_,_,rfl,rfl,?_⟩
 refine⟨10,rfl,by decide,by decide,jB (n:=10) (λi σ H'=> ∃x t j,H'=H/\σ=[some (.ref a),some (.int k),some (.int x),some (.int t),j]) ⟨_,_,_,rfl,rfl⟩ (λi σ H' hi h=> ?_) (λσ H' h=> ?_)⟩
 ·obtain⟨x,t,j,rfl,rfl⟩:=h
  refine⟨_,rfl,_,_,rfl,rfl,.inr ⟨by decide,by decide⟩,?_⟩
  refine⟨_,rfl,_,_,rfl,rfl,⟨by decide,by decide⟩,_,_,rfl,rfl,?_⟩
  refine⟨_,rfl,_,_,rfl,rfl,.inl ⟨by decide,by decide⟩,_,rfl,_,_,rfl,rfl,.inr ⟨by omega,by omega⟩,_,_,rfl,rfl,?_⟩
  refine⟨_,_,rfl,rfl,_,_,rfl,rfl,(by show(0:Int)<2147483647;decide),?_⟩
  refine⟨_,rfl,_,_,rfl,rfl,.inr ⟨by decide,by decide⟩,_,rfl,_,_,rfl,rfl,.inr ⟨by decide,by decide⟩,_,_,rfl,rfl,(by show(0:Int)<2147483629;decide),_,_,rfl,rfl,?_⟩
  exact⟨_,_,_,rfl,rfl⟩
 ·obtain⟨x,t,j,rfl,rfl⟩:=h
  exact⟨_,rfl,q _⟩
inductive vE(vs:List V)(H:Hp)(Q:VK)(E:XK):Prop
 |mk(t:Addr)(bs:List Addr)(m:List (List Int))(_:vs=[.ref t])(_:Tab H t bs m)(_:cJ m)(_:Bd 1000 m)(_:Q (.int (aA m)) H)
theorem AF(F:fP K mg "_law_det" pV f9):dM P w K mg base cY 1 "_law_det" f9 vE:=by
 refine F.ok kc (λvs H Q E h=> ?_) (λf cdv A outer s H vs Q E hr h=> ?_)
 ·obtain⟨t,bs,m,rfl,hT,ck,hB,q⟩:=h
  rfl
 obtain⟨t,bs,m,rfl,hT,ck,hB,q⟩:=h
 have hu:=hr.units
 refine⟨_,(mY (@aq _ _ _ _ _ (aE (i:=1) kc.nd rfl (Or.inl rfl) (ai bW (ai aC (aF ay (aF ay (pv 0) ah (λ_ _=>rfl)) ah (λ_ _=>rfl)) (aF ay (aF ay (pv 0) ah (λ_ _=>rfl)) ah (λ_ _=>rfl))) (ai aC (aF ay (aF ay (pv 0) ah (λ_ _=>rfl)) ah (λ_ _=>rfl)) (aF ay (aF ay (pv 0) ah (λ_ _=>rfl)) ah (λ_ _=>rfl)))))
  (@aq _ _ _ _ _ (aE (i:=2) kc.nd rfl (Or.inl rfl) (ai bW (ai aC (aF ay (aF ay (pv 0) ah (λ_ _=>rfl)) ah (λ_ _=>rfl)) (aF ay (aF ay (pv 0) ah (λ_ _=>rfl)) ah (λ_ _=>rfl))) (ai aC (aF ay (aF ay (pv 0) ah (λ_ _=>rfl)) ah (λ_ _=>rfl)) (aF ay (aF ay (pv 0) ah (λ_ _=>rfl)) ah (λ_ _=>rfl)))))
  (@aq _ _ _ _ _ (aE (i:=3) kc.nd rfl (Or.inl rfl) (ai bW (ai aC (aF ay (aF ay (pv 0) ah (λ_ _=>rfl)) ah (λ_ _=>rfl)) (aF ay (aF ay (pv 0) ah (λ_ _=>rfl)) ah (λ_ _=>rfl))) (ai aC (aF ay (aF ay (pv 0) ah (λ_ _=>rfl)) ah (λ_ _=>rfl)) (aF ay (aF ay (pv 0) ah (λ_ _=>rfl)) ah (λ_ _=>rfl)))))
  (@aL _ _ _ (bh (ai aP (ai bW (ai aC (aF ay (aF ay (pv 0) ah (λ_ _=>rfl)) ah (λ_ _=>rfl)) (pv 1)) (ai aC (aF ay (aF ay (pv 0) ah (λ_ _=>rfl)) ah (λ_ _=>rfl)) (pv 2))) (ai aC (aF ay (aF ay (pv 0) ah (λ_ _=>rfl)) ah (λ_ _=>rfl)) (pv 3))))))))),?_⟩
 obtain⟨c0,x1,x2,_⟩:=aZ hT ck (i:=0) (by decide)
 obtain⟨c1,y1,y2,_⟩:=aZ hT ck (i:=1) (by decide)
 obtain⟨c2,w1,w2,_⟩:=aZ hT ck (i:=2) (by decide)
 refine⟨_,rfl,t,_,_,_,rfl,rfl,aW.of hT.1,y1,c1,_,_,_,rfl,rfl,aW.of y2,rfl,_,rfl,t,_,_,_,rfl,rfl,aW.of hT.1,w1,c2,_,_,_,rfl,rfl,aW.of w2,rfl,_,_,rfl,rfl,⟨aJ (hB 1 1 (by decide) (by decide)) (by decide),aJ (hB 2 2 (by decide) (by decide)) (by decide)⟩,_,rfl,t,_,_,_,rfl,rfl,aW.of hT.1,y1,c1,_,_,_,rfl,rfl,aW.of y2,rfl,_,rfl,t,_,_,_,rfl,rfl,aW.of hT.1,w1,c2,_,_,_,rfl,rfl,aW.of w2,rfl,_,_,rfl,rfl,⟨aJ (hB 1 2 (by decide) (by decide)) (by decide),aJ (hB 2 1 (by decide) (by decide)) (by decide)⟩,_,_,rfl,rfl,?_⟩
 refine⟨_,rfl,t,_,_,_,rfl,rfl,aW.of hT.1,y1,c1,_,_,_,rfl,rfl,aW.of y2,rfl,_,rfl,t,_,_,_,rfl,rfl,aW.of hT.1,w1,c2,_,_,_,rfl,rfl,aW.of w2,rfl,_,_,rfl,rfl,⟨aJ (hB 1 0 (by decide) (by decide)) (by decide),aJ (hB 2 2 (by decide) (by decide)) (by decide)⟩,_,rfl,t,_,_,_,rfl,rfl,aW.of hT.1,y1,c1,_,_,_,rfl,rfl,aW.of y2,rfl,_,rfl,t,_,_,_,rfl,rfl,aW.of hT.1,w1,c2,_,_,_,rfl,rfl,aW.of w2,rfl,_,_,rfl,rfl,⟨aJ (hB 1 2 (by decide) (by decide)) (by decide),aJ (hB 2 0 (by decide) (by decide)) (by decide)⟩,_,_,rfl,rfl,?_⟩
 refine⟨_,rfl,t,_,_,_,rfl,rfl,aW.of hT.1,y1,c1,_,_,_,rfl,rfl,aW.of y2,rfl,_,rfl,t,_,_,_,rfl,rfl,aW.of hT.1,w1,c2,_,_,_,rfl,rfl,aW.of w2,rfl,_,_,rfl,rfl,⟨aJ (hB 1 0 (by decide) (by decide)) (by decide),aJ (hB 2 1 (by decide) (by decide)) (by decide)⟩,_,rfl,t,_,_,_,rfl,rfl,aW.of hT.1,y1,c1,_,_,_,rfl,rfl,aW.of y2,rfl,_,rfl,t,_,_,_,rfl,rfl,aW.of hT.1,w1,c2,_,_,_,rfl,rfl,aW.of w2,rfl,_,_,rfl,rfl,⟨aJ (hB 1 1 (by decide) (by decide)) (by decide),aJ (hB 2 0 (by decide) (by decide)) (by decide)⟩,_,_,rfl,rfl,?_⟩
 refine⟨_,rfl,t,_,_,_,rfl,rfl,aW.of hT.1,x1,c0,_,_,_,rfl,rfl,aW.of x2,rfl,_,rfl,_,_,rfl,rfl,⟨aJ (hB 0 0 (by decide) (by decide)) (by decide),aJ (ku (cB (hB 1 1 (by decide) (by decide)) (hB 2 2 (by decide) (by decide))) (cB (hB 1 2 (by decide) (by decide)) (hB 2 1 (by decide) (by decide)))) (by decide)⟩,?_⟩
 refine⟨_,rfl,t,_,_,_,rfl,rfl,aW.of hT.1,x1,c0,_,_,_,rfl,rfl,aW.of x2,rfl,_,rfl,_,_,rfl,rfl,⟨aJ (hB 0 1 (by decide) (by decide)) (by decide),aJ (ku (cB (hB 1 0 (by decide) (by decide)) (hB 2 2 (by decide) (by decide))) (cB (hB 1 2 (by decide) (by decide)) (hB 2 0 (by decide) (by decide)))) (by decide)⟩,_,_,rfl,rfl,?_⟩
 refine⟨_,rfl,t,_,_,_,rfl,rfl,aW.of hT.1,x1,c0,_,_,_,rfl,rfl,aW.of x2,rfl,_,rfl,_,_,rfl,rfl,⟨aJ (hB 0 2 (by decide) (by decide)) (by decide),aJ (ku (cB (hB 1 0 (by decide) (by decide)) (hB 2 1 (by decide) (by decide))) (cB (hB 1 1 (by decide) (by decide)) (hB 2 0 (by decide) (by decide)))) (by decide)⟩,_,_,rfl,rfl,?_⟩
 have e:ent m 0 0*(ent m 1 1*ent m 2 2-ent m 1 2*ent m 2 1) -ent m 0 1*(ent m 1 0*ent m 2 2-ent m 1 2*ent m 2 0)+ent m 0 2*(ent m 1 0*ent m 2 1-ent m 1 1*ent m 2 0)=aA m:=by
  rw[cS]
  grind
 rw[<-e]at q
 exact q
inductive Ej(vs:List V)(H:Hp)(Q:VK)(E:XK):Prop
 |mk(a b c big:Int)(_:vs=[.int a,.int b,.int c,.int big])(_:0<a)(_:a<=b)(_:b<=c)(_:c<1000000)(_:∀p q r t bs H',-a<=p->p<=a-> -a<=q->q<=a-> -b<=r->r<=b->0<aA (gn (2*a) (2*b) (2*c) p q r) ->az H H'->H t=none->(∀b∈bs,H b=none) ->t∉bs->bs.Nodup->Tab H' t bs (gn (2*a) (2*b) (2*c) p q r) ->Q (.ref t) H')
theorem wF(F:fP K mg "_law_shape" l7 gW)(dP:dM P w K mg base cY 1 "_law_det" f9 vE):dM P w K mg base cY 2 "_law_shape" gW Ej:=by
 refine F.ok fN (λvs H Q E h=> ?_) (λf cdv A outer s H vs Q E hr h=> ?_)
 ·obtain⟨a,b,c,big,rfl,ha,hab,hbc,hc,q⟩:=h
  rfl
 obtain⟨a,b,c,big,rfl,ha,hab,hbc,hc,q⟩:=h
 have hu:=hr.units
 refine⟨_,(mY (@aq _ _ _ _ _ (aE (i:=4) fN.nd rfl (Or.inl rfl) (ai bW (ai c9 (pv 3) (ai aP (ai br ah (pv 0)) ah)) (pv 0)))
  (@aq _ _ _ _ _ (aE (i:=5) fN.nd rfl (Or.inl rfl) (ai bW (ai c9 (ai bT (pv 3) (ai aP (ai br ah (pv 0)) ah)) (ai aP (ai br ah (pv 0)) ah)) (pv 0)))
  (@aq _ _ _ _ _ (aE (i:=6) fN.nd rfl (Or.inl rfl) (ai bW (ai c9 (ai bT (ai bT (pv 3) (ai aP (ai br ah (pv 0)) ah)) (ai aP (ai br ah (pv 0)) ah)) (ai aP (ai br ah (pv 1)) ah)) (pv 1)))
  (@aq _ _ _ _ _ (aE (i:=7) fN.nd rfl (Or.inl rfl) (cV (af (cV (af (ai br ah (pv 0)) (af (pv 4) (af (pv 5) ak)))) (af (cV (af (pv 4) (af (ai br ah (pv 1)) (af (pv 6) ak)))) (af (cV (af (pv 5) (af (pv 6) (af (ai br ah (pv 2)) ak)))) ak)))))
  (@aq _ _ _ _ _ (dW (bO uy (aR dP hr rfl aQ (af (pv 7) ak)) ah (cg _)) (@aL _ _ _ (aE (i:=7) fN.nd rfl (Or.inl rfl) (cV (af (cV (af (ai br ah (pv 0)) (af (pv 4) (af (pv 5) ak)))) (af (cV (af (pv 4) (af (ai br ah (pv 1)) (af ah ak)))) (af (cV (af (pv 5) (af ah (af (ai br ah (pv 2)) ak)))) ak)))))) eT)
  (@aL _ _ _ (bh (pv 7))))))))),?_⟩
 have m1:0<2*a+1:=by omega
 have m2:0<2*b+1:=by omega
 refine⟨_,rfl,_,rfl,_,_,rfl,rfl,.inl ⟨by decide,by decide⟩,_,_,rfl,rfl,_,_,rfl,rfl,m1,_,rfl,_,_,rfl,rfl,?_⟩
 refine⟨_,rfl,_,rfl,_,_,rfl,rfl,.inl ⟨by decide,by decide⟩,_,_,rfl,rfl,_,_,rfl,rfl,⟨m1,by omega⟩,_,rfl,_,_,rfl,rfl,.inl ⟨by decide,by decide⟩,_,_,rfl,rfl,_,_,rfl,rfl,m1,_,rfl,_,_,rfl,rfl,?_⟩
 refine⟨_,rfl,_,rfl,_,_,rfl,rfl,.inl ⟨by decide,by decide⟩,_,_,rfl,rfl,_,_,rfl,rfl,⟨m1,by omega⟩,_,rfl,_,_,rfl,rfl,.inl ⟨by decide,by decide⟩,_,_,rfl,rfl,_,_,rfl,rfl,⟨m1,by omega⟩,_,rfl,_,_,rfl,rfl,.inl ⟨by decide,by decide⟩,_,_,rfl,rfl,_,_,rfl,rfl,m2,_,rfl,_,_,rfl,rfl,?_⟩
 obtain⟨p,ep,hp,fJ⟩:∃p,p=big%(2*a+1) -a/\ -a<=p/\p<=a:=⟨_,rfl,by have:=Int.emod_nonneg big (show 2*a+1≠0 by omega);omega,by have:=Int.emod_lt_of_pos big m1;omega⟩
 obtain⟨qq,eq,hq,hq'⟩:∃p,p=big/(2*a+1)%(2*a+1) -a/\ -a<=p/\p<=a:=⟨_,rfl,by have:=Int.emod_nonneg (big/(2*a+1)) (show 2*a+1≠0 by omega);omega,by have:=Int.emod_lt_of_pos (big/(2*a+1)) m1;(clear fJ hp m2 m1 hu q hc hbc hab ha;omega)⟩
 obtain⟨r,er,hr,hr'⟩:∃p,p=big/(2*a+1)/(2*a+1)%(2*b+1) -b/\ -b<=p/\p<=b:=⟨_,rfl,by have:=Int.emod_nonneg (big/(2*a+1)/(2*a+1)) (show 2*b+1≠0 by omega);omega,by have:=Int.emod_lt_of_pos (big/(2*a+1)/(2*a+1)) m2;omega⟩
 simp only[<-ep,<-eq,<-er]
 clear ep eq er
 refine⟨_,rfl,_,_,rfl,rfl,.inl ⟨by decide,by decide⟩,_,rfl,_,rfl,(by show 3<=sizeLine;decide),λp0 h0=>⟨_,rfl,_,rfl,_,_,rfl,rfl,.inl ⟨by decide,by decide⟩,_,rfl,(by show 3<=sizeLine;decide),λp1 h1=>⟨_,rfl,_,rfl,_,rfl,_,_,rfl,rfl,.inl ⟨by decide,by decide⟩,(by show 3<=sizeLine;decide),λp2 h2=>⟨(by show 3<=sizeLine;decide),λt ht=> ?_⟩⟩⟩⟩
 have u0:=az.up (o:= .lst [.int (2*a),.int p,.int qq]) h0
 have u1:=az.up (o:= .lst [.int p,.int (2*b),.int r]) h1
 have u2:=az.up (o:= .lst [.int qq,.int r,.int (2*c)]) h2
 have u3:=az.up (o:= .lst [.ref p0,.ref p1,.ref p2]) ht
 have T:Tab _ t [p0,p1,p2] (gn (2*a) (2*b) (2*c) p qq r):=iG _ av (u3 _ _ (u2 _ _ (u1 _ _ av))) (u3 _ _ (u2 _ _ av)) (u3 _ _ av)
 have us:=u0.trans (u1.trans (u2.trans u3))
 have fr:=BE h0 h1 h2 ht
 have nn:=HN h0 h1 h2
 refine⟨_,rfl,t,_,_,rfl,T,cK _,(yj (n:=30) (by omega) (by omega) (by omega) (by(clear fr ht h2 h1 h0 hr' hr hq' hq m2 m1 hu q ha;omega)) (by(clear fr ht h2 h1 h0 hr' hr fJ hp m2 m1 hu q ha;omega)) (by(clear fr ht h2 h1 h0 hq' hq fJ hp m2 m1 hu q hab ha;omega))).mono (by decide),_,_,rfl,rfl,_,rfl,iL (λdc=> ?_) (λdc=> ?_)⟩
 ·refine⟨_,rfl,_,_,rfl,rfl,.inl ⟨by decide,by decide⟩,_,rfl,_,rfl,(by show 3<=sizeLine;decide),λUE SM=>⟨_,rfl,_,rfl,_,_,rfl,rfl,.inl ⟨by decide,by decide⟩,(by show 3<=sizeLine;decide),λUG SN=>⟨_,rfl,_,rfl,_,_,rfl,rfl,.inl ⟨by decide,by decide⟩,(by show 3<=sizeLine;decide),λUH SO=>⟨(by show 3<=sizeLine;decide),λtx htx=> ?_⟩⟩⟩⟩
  have Wj:=az.up (o:= .lst [.int (2*a),.int p,.int qq]) SM
  have UI:=az.up (o:= .lst [.int p,.int (2*b),.int 0]) SN
  have SQ:=az.up (o:= .lst [.int qq,.int 0,.int (2*c)]) SO
  have QS:=az.up (o:= .lst [.ref UE,.ref UG,.ref UH]) htx
  have Tx:Tab _ tx [UE,UG,UH] (gn (2*a) (2*b) (2*c) p qq 0):=iG _ av (QS _ _ (SQ _ _ (UI _ _ av))) (QS _ _ (SQ _ _ av)) (QS _ _ av)
  have Wk:=Wj.trans (UI.trans (SQ.trans QS))
  have SR:=BE SM SN SO htx
  have Wl:=HN SM SN SO
  exact⟨_,rfl,q p qq 0 tx _ _ hp fJ hq hq' (by omega) (by omega) (HL ha hab hbc hp fJ hq hq') (us.trans Wk) (us.none SR.1) (λb hb=>us.none (SR.2.1 b hb)) SR.2.2 Wl Tx⟩
 ·have WI:¬aA (gn (2*a) (2*b) (2*c) p qq r)<=0:=λz=>dc (decide_eq_true z)
  exact⟨_,rfl,q p qq r t _ _ hp fJ hq hq' hr hr' (by omega) us fr.1 fr.2.1 fr.2.2 nn T⟩
noncomputable def LX(a b c p q r:Int):Prop:=0<a/\a<=b/\b<=c/\(c<=115/\a<=8/\b<=15)/\ -a<=p/\p<=a/\ -a<=q/\q<=a/\ -b<=r/\r<=b/\0<aA (gn (2*a) (2*b) (2*c) p q r)
noncomputable def LY(big most:Int)(H:Hp)(μ:Nat)(σ:St)(H':Hp):Prop:=∃(a b c p q r:Int)(t:Addr)(bs:List Addr),μ=(a+b+c).toNat/\LX a b c p q r/\σ=[some (.int big),some (.int most),some (.int a),some (.int b),some (.int c),some (.ref t)]/\az H H'/\H t=none/\(∀b∈bs,H b=none)/\t∉bs/\bs.Nodup/\Tab H' t bs (gn (2*a) (2*b) (2*c) p q r)
inductive Jc(vs:List V)(H:Hp)(Q:VK)(E:XK):Prop
 |mk(big most:Int)(_:vs=[.int big,.int most])(_:4<=most)(_:∀a b c p q r t bs H',LX a b c p q r->aA (gn (2*a) (2*b) (2*c) p q r)/2<=most->az H H'->H t=none->(∀b∈bs,H b=none) ->t∉bs->bs.Nodup->Tab H' t bs (gn (2*a) (2*b) (2*c) p q r) ->Q (.ref t) H')
theorem yR(F:fP K mg "_law_form" nQ iQ)(jy:dM P w K mg base cY 2 "_law_shape" gW Ej)(dP:dM P w K mg base cY 2 "_law_det" f9 vE):dM P w K mg base cY 3 "_law_form" iQ Jc:=by
 refine F.ok cG (λvs H Q E h=> ?_) (λf cdv A outer s H vs Q E hr h=> ?_)
 ·obtain⟨big,most,rfl,hm,K0⟩:=h
  rfl
 obtain⟨big,most,rfl,hm,K0⟩:=h
 have hu:=hr.units
 refine⟨_,(mY (@aq _ _ _ _ _ (aE (i:=2) cG.nd rfl (Or.inl rfl) (ai aP ah (ai c9 (pv 0) ah)))
  (@aq _ _ _ _ _ (aE (i:=3) cG.nd rfl (Or.inl rfl) (ai aP (pv 2) (ai c9 (ai bT (pv 0) ah) ah)))
  (@aq _ _ _ _ _ (aE (i:=4) cG.nd rfl (Or.inl rfl) (ai aP (pv 3) (ai c9 (ai bT (pv 0) ah) (ai aP ah (ai bT ah (ai br (pv 2) (pv 3)))))))
  (@aq _ _ _ _ _ (aE (i:=5) cG.nd rfl (Or.inl rfl) (aR jy hr rfl aQ (af (pv 2) (af (pv 3) (af (pv 4) (af (ai bT (pv 0) ah) ak))))))
  (@aq _ _ _ _ _ (jF PassesOwn.never (bO oZ (ai bT (aR dP hr rfl aQ (af (pv 5) ak)) ah) (pv 1) (cg _)) (mY (@aq _ _ _ _ _ (dW (bO oZ (pv 4) (pv 3) (cg _)) (@aL _ _ _ (aE (i:=4) cG.nd rfl (Or.inl rfl) (ai bW (pv 4) ah))) (@aL _ _ _ (dW (bO oZ (pv 3) (pv 2) (cg _)) (@aq _ _ _ _ _ (aE (i:=3) cG.nd rfl (Or.inl rfl) (ai bW (pv 3) ah))
  (@aL _ _ _ (aE (i:=4) cG.nd rfl (Or.inl rfl) (pv 3)))) (@aq _ _ _ _ _ (aE (i:=2) cG.nd rfl (Or.inl rfl) (ai bW (pv 2) ah))
  (@aq _ _ _ _ _ (aE (i:=3) cG.nd rfl (Or.inl rfl) (pv 2))
  (@aL _ _ _ (aE (i:=4) cG.nd rfl (Or.inl rfl) (pv 2))))))))
  (@aL _ _ _ (aE (i:=5) cG.nd rfl (Or.inl rfl) (aR jy hr rfl aQ (af (pv 2) (af (pv 3) (af (pv 4) (af (ai bT (pv 0) ah) ak))))))))))
  (@aL _ _ _ (bh (pv 5))))))))),?_⟩
 refine⟨_,rfl,_,_,rfl,rfl,(by show(0:Int)<8;decide),_,_,rfl,rfl,?_⟩
 obtain⟨a,ea,a1,a8⟩:∃a,a=1+big%8/\0<a/\a<=8:=⟨_,rfl,by(clear hu K0 hm;omega),by(clear hu K0 hm;omega)⟩
 refine⟨_,rfl,_,rfl,_,_,rfl,rfl,⟨by decide,by decide⟩,_,_,rfl,rfl,(by show(0:Int)<8;decide),_,_,rfl,rfl,?_⟩
 simp only[<-ea]
 obtain⟨b,eb,ab,Gv⟩:∃b,b=a+big/8%8/\a<=b/\b<=15:=⟨_,rfl,by(clear a8 a1 ea hu K0 hm;omega),by(clear a8 a1 hu K0 hm;omega)⟩
 simp only[<-eb]
 have Ln:0<a*b:=Int.mul_pos a1 (by(clear Gv ab a8 a1 hu K0 hm;omega))
 have NG:a*b<=8*15:=Int.mul_le_mul a8 Gv (by(clear Ln Gv ab a8 a1 hu K0 hm;omega)) (by decide)
 have d0:0<=100/(a*b):=Int.ediv_nonneg (by decide) (by(clear Gv ab eb a8 a1 ea hu K0 hm;omega))
 have d1:100/(a*b)<=100:=Int.ediv_le_self _ (by decide)
 have d2:0<1+100/(a*b):=by(clear NG Ln Gv ab eb a8 a1 ea hu K0 hm;omega)
 refine⟨_,rfl,_,rfl,_,_,rfl,rfl,⟨by decide,by decide⟩,_,rfl,_,rfl,_,_,rfl,rfl,.inl ⟨by(clear d2 d1 d0 NG Ln Gv ab a8 a1 hu K0 hm;omega),by(clear d2 d1 d0 NG Ln Gv ab a8 a1 hu K0 hm;omega)⟩,_,_,rfl,rfl,⟨Ln,by(clear d2 d1 d0 Gv ab eb a8 a1 ea hu K0 hm;omega)⟩,_,_,rfl,rfl,_,_,rfl,rfl,d2,_,_,rfl,rfl,?_⟩
 obtain⟨c,ec,bc,SS⟩:∃c,c=b+big/64%(1+100/(a*b))/\b<=c/\c<=115:=⟨_,rfl,by have:=Int.emod_nonneg (big/64) (show 1+100/(a*b)≠0 by(clear d2 NG Ln Gv ab eb a8 a1 ea hu K0 hm;omega));(clear d2 d1 d0 NG Ln Gv ab eb a8 a1 ea hu K0 hm;omega),by have:=Int.emod_lt_of_pos (big/64) d2;(clear d2 NG Ln Gv ab a8 a1 hu K0 hm;omega)⟩
 simp only[<-ec]
 refine⟨_,rfl,_,rfl,_,rfl,_,rfl,_,_,rfl,rfl,⟨by decide,by decide⟩,a,b,c,_,rfl,a1,ab,bc,by omega,λp q r t bs H' hp fJ hq hq' hr hr' hd s ft fb nt nd T=> ?_⟩
 clear ea eb ec
 refine⟨LY big most H,⟨_,a,b,c,p,q,r,t,bs,rfl,⟨a1,ab,bc,by omega,hp,fJ,hq,hq',hr,hr',hd⟩,rfl,s,ft,fb,nt,nd,T⟩,λμ σ H2 h=> ?_⟩
 clear a1 a8 ab Gv Ln NG d0 d1 d2 bc SS hp fJ hq hq' hr hr' hd s ft fb nt nd T
 obtain⟨a,b,c,p,q,r,t,bs,rfl,⟨a1,ab,bc,c6,hp,fJ,hq,hq',hr,hr',hd⟩,rfl,s2,ft,fb,nt,nd,T⟩:=h
 refine⟨_,rfl,t,bs,_,rfl,T,cK _,(yj (n:=30) (by(clear nt fb ft hd hr' hr hq' hq fJ hp bc hu K0 hm;omega)) (by(clear nt fb ft hd hr' hr hq' hq fJ hp hu K0 hm;omega)) (by(clear nt fb ft hd hr' hr hq' hq a1 hu K0 hm;omega)) (by(clear nt fb ft hd hr' hr hq' hq bc a1 hu K0 hm;omega)) (by(clear nt fb ft hd hr' hr fJ hp bc a1 hu K0 hm;omega)) (by(clear nt fb ft hd hq' hq fJ hp ab a1 hu K0 hm;omega))).mono (by decide),_,_,rfl,rfl,⟨by decide,by decide⟩,_,rfl,_,_,rfl,rfl,_,rfl,iL (λcd=> ?_) (λcd=> ?_)⟩
 ·have cd:most<aA (gn (2*a) (2*b) (2*c) p q r)/2:=of_decide_eq_true cd
  refine⟨λσ' H'=> ∃UJ,UJ<(a+b+c).toNat/\LY big most H UJ σ' H',λ_ _ h=>h,?_⟩
  refine⟨_,rfl,_,rfl,_,_,rfl,rfl,_,rfl,iL (λc1=> ?_) (λc1=> ?_)⟩
  ·have c1:b<c:=of_decide_eq_true c1
   refine⟨_,rfl,_,_,rfl,rfl,?_⟩
   refine⟨_,rfl,_,rfl,_,rfl,_,rfl,_,_,rfl,rfl,⟨by decide,by decide⟩,a,b,c-1,_,rfl,by omega,by omega,by omega,by omega,λp q r t bs H' hp fJ hq hq' hr hr' hd s ft fb nt nd T=> ?_⟩
   exact⟨_,by show((a)+(b)+(c-1)).toNat<(a+b+c).toNat;(clear nt fb ft hd hr' hr fJ hp cd c6 bc ab a1 hu K0 hm;omega),a,b,c-1,p,q,r,t,bs,rfl,⟨by omega,by omega,by omega,by omega,hp,fJ,hq,hq',hr,hr',hd⟩,rfl,s2.trans s,s2.none ft,λx hx=>s2.none (fb x hx),nt,nd,T⟩
  have c1:¬b<c:=λz=>c1 (decide_eq_true z)
  refine⟨_,rfl,_,rfl,_,_,rfl,rfl,_,rfl,iL (λc2=> ?_) (λc2=> ?_)⟩
  ·have c2:a<b:=of_decide_eq_true c2
   refine⟨_,rfl,_,_,rfl,rfl,_,rfl,?_⟩
   refine⟨_,rfl,_,rfl,_,rfl,_,rfl,_,_,rfl,rfl,⟨by decide,by decide⟩,a,b-1,b-1,_,rfl,by omega,by(clear cd nt fb ft hd hr' hr hq' hq fJ hp c6 ab a1 hu K0 hm;omega),by omega,by(clear c2 cd nt fb ft hd hr' hr hq' hq fJ hp ab a1 hu K0 hm;omega),λp q r t bs H' hp fJ hq hq' hr hr' hd s ft fb nt nd T=> ?_⟩
   exact⟨_,by show((a)+(b-1)+(b-1)).toNat<(a+b+c).toNat;(clear nt fb ft hd hr' hr fJ hp cd c6 ab a1 hu K0 hm;omega),a,b-1,b-1,p,q,r,t,bs,rfl,⟨by omega,by(clear nt fb ft hd hr' hr hq' hq fJ hp cd c6 ab a1 hu K0 hm;omega),by omega,by(clear nt fb ft hd hr' hr hq' hq fJ hp c2 cd ab hu K0 hm;omega),hp,fJ,hq,hq',hr,hr',hd⟩,rfl,s2.trans s,s2.none ft,λx hx=>s2.none (fb x hx),nt,nd,T⟩
  have c2:¬a<b:=λz=>c2 (decide_eq_true z)
  have h2:1<a:=by
   rcases Int.lt_or_le 1 a with z|z
   ·exact z
   ·exfalso
    obtain rfl:a=1:=by(clear cd nt fb ft hd hr' hr hq' hq fJ hp hu K0 hm;omega)
    obtain rfl:b=1:=by(clear z cd hd hq' hq fJ hp a1 nt fb ft hr' hr hu K0 hm;omega)
    obtain rfl:c=1:=by omega
    have:=HM hp fJ hq hq' hr hr'
    (clear c6 c1 bc c2 ab hr' hr z hq' hq fJ hp a1 nt fb ft hu K0;omega)
  refine⟨_,rfl,_,_,rfl,rfl,_,rfl,_,rfl,?_⟩
  refine⟨_,rfl,_,rfl,_,rfl,_,rfl,_,_,rfl,rfl,⟨by decide,by decide⟩,a-1,a-1,a-1,_,rfl,by(clear cd nt fb ft hd hr' hr hq' hq fJ hp hu K0 hm;omega),by omega,by omega,by(clear cd nt fb ft hd hr' hr hq' hq fJ hp hu K0 hm;omega),λp q r t bs H' hp fJ hq hq' hr hr' hd s ft fb nt nd T=> ?_⟩
  exact⟨_,by show((a-1)+(a-1)+(a-1)).toNat<(a+b+c).toNat;(clear nt fb ft hd hr' hr hq' hq fJ hp cd hu K0 hm;omega),a-1,a-1,a-1,p,q,r,t,bs,rfl,⟨by(clear nt fb ft hd hr' hr hq' hq fJ hp cd hu K0 hm;omega),by omega,by omega,by(clear nt fb ft hd hr' hr hq' hq fJ hp cd hu K0 hm;omega),hp,fJ,hq,hq',hr,hr',hd⟩,rfl,s2.trans s,s2.none ft,λx hx=>s2.none (fb x hx),nt,nd,T⟩
 ·have cd:¬most<aA (gn (2*a) (2*b) (2*c) p q r)/2:=λz=>cd (decide_eq_true z)
  exact⟨_,rfl,K0 a b c p q r t bs H2 ⟨a1,ab,bc,c6,hp,fJ,hq,hq',hr,hr',hd⟩ (by omega) s2 ft fb nt nd T⟩
inductive Ek(vs:List V)(H:Hp)(Q:VK)(E:XK):Prop
 |mk(big most JF:Int)(_:vs=[.int big,.int most,.int JF])(_:0<=most)(_:most<10)(_:0<=JF)(_:JF<=10000)(_:∀m t bs H',cJ m->Bd (15*most.toNat+2) m->(aA m=1∨aA m= -1) ->az H H'->H t=none->(∀b∈bs,H b=none) ->t∉bs->Tab H' t bs m->Q (.ref t) H')
theorem wG(F:fP K mg "_law_basis" l8 gX)(aj:mg "range"=none)(fH:mg "zip"=none):dM P w K mg base cY 1 "_law_basis" gX Ek:=by
 refine F.ok cP (λvs H Q E h=> ?_) (λf cdv A outer s H vs Q E hr h=> ?_)
 ·obtain⟨big,most,JF,rfl,h0,v8,f0,f1,K0⟩:=h
  rfl
 obtain⟨big,most,JF,rfl,h0,v8,f0,f1,K0⟩:=h
 have hu:=hr.units
 refine toF ?_
 refine⟨_,(MZ (i:=3) cP.nd rfl (Or.inl rfl) (uM (fy (uM (fy ja (fy ja (fy ja uK (by kernel_rfl)) (by kernel_rfl)) (by kernel_rfl))) (fy (uM (fy ja (fy ja (fy ja uK (by kernel_rfl)) (by kernel_rfl)) (by kernel_rfl))) (fy (uM (fy ja (fy ja (fy ja uK (by kernel_rfl)) (by kernel_rfl)) (by kernel_rfl))) uK (by kernel_rfl)) (by kernel_rfl)) (by kernel_rfl))) (by kernel_rfl) (by first|exact .inl rfl|exact .inr rfl)
  (@aq _ _ _ _ _ (aE (i:=4) cP.nd rfl (Or.inl rfl) (ai c9 (pv 0) (ai aP (pv 1) ah)))
  (@aq _ _ _ _ _ (aE (i:=0) cP.nd rfl (Or.inr rfl) (ai bT (pv 0) (ai aP (pv 1) ah)))
  (@aq _ _ _ _ _ (kh PassesOwn.never rfl (eL rfl aj (af (pv 4) ak)) (aV (i:=5) cP.nd rfl (Or.inl rfl)) (mY (@aq _ _ _ _ _ (aE (i:=6) cP.nd rfl (Or.inl rfl) (ai c9 (pv 0) ah))
  (@aq _ _ _ _ _ (aE (i:=7) cP.nd rfl (Or.inl rfl) (ai c9 (ai aP (ai aP (pv 6) ah) (ai c9 (ai bT (pv 0) ah) ah)) ah))
  (@aq _ _ _ _ _ (aE (i:=8) cP.nd rfl (Or.inr rfl) (ai bW (ai c9 (ai bT (pv 0) ah) (ai aP (ai br ah (pv 2)) ah)) (pv 2)))
  (@aq _ _ _ _ _ (ni (BC (N2:=["_law_big","_law_most","_law_far","_law_rows_here","_law_many","_law_k","_law_i","_law_j","_law_often"]) (te:=(jn (Di λi j=> .int (i+j)) (b9 0) (jn (rI kY λi j=> .int (i*j)) (b9 10) (b9 1)))) rfl (BA rfl fH (af (aF ay (pv 3) (pv 6) (λ_ _=>rfl)) (af (aF ay (pv 3) (pv 7) (λ_ _=>rfl)) ak))) (by kernel_rfl) rfl (λ_ _ _=>by exact jZ (ai aP (pv 0) (ai aC (pv 10) (pv 1))))) (GG (pv 3) (pv 6) set_list))
  (@aL _ _ _ (aE (i:=0) cP.nd rfl (Or.inr rfl) (ai bT (ai bT (pv 0) ah) (ai aP (ai br ah (pv 2)) ah))))))))))
  (@aq _ _ _ _ _ (aE (i:=6) cP.nd rfl (Or.inl rfl) (ai c9 (pv 0) ah))
  (@aq _ _ _ _ _ (ni (jL (N2:=["_law_big","_law_most","_law_far","_law_rows_here","_law_many","_law_k","_law_i","_law_j","_law_often"]) (te:=(jn (rI kY λi j=> .int (i*j)) (jn (Di λi j=> .int (i-j)) (tC (.int 1)) (jn (rI JN λi j=> .int (i*j)) (tC (.int 2)) (jn (rI (λ_ j=>0<j) λi j=> .int (i%j)) (jn (rI OO λi j=> .int (i/j)) (b9 1) (tC (.int 3))) (tC (.int 2))))) (b9 0))) rfl (gP (aF ay (pv 3) (pv 6) (λ_ _=>rfl))) (by kernel_rfl) rfl (λ_ _ _=>by exact jZ (ai aC (ai bW ah (ai br ah (ai c9 (ai bT (pv 1) ah) ah))) (pv 0)))) (GG (pv 3) (pv 6) set_list))
  (@aL _ _ _ (bh (ai ME (uz xZ (pv 3) (xX (ai c9 (ai bT (pv 0) ah) ah)) xW) (uz xZ (pv 3) xW (xX (ai c9 (ai bT (pv 0) ah) ah)))))))))))),?_⟩
 refine⟨(by show 3<=sizeLine;decide),λp0 g0=>⟨(by show 3<=sizeLine;decide),λp1 g1=>⟨(by show 3<=sizeLine;decide),λp2 g2=>⟨(by show 3<=sizeLine;decide),λD hD=> ?_⟩⟩⟩⟩
 have u0:=az.up (o:= .lst [.int 1,.int 0,.int 0]) g0
 have u1:=az.up (o:= .lst [.int 0,.int 1,.int 0]) g1
 have u2:=az.up (o:= .lst [.int 0,.int 0,.int 1]) g2
 have u3:=az.up (o:= .lst [.ref p0,.ref p1,.ref p2]) hD
 have T:Tab _ D [p0,p1,p2] (qB 1):=iG _ av (u3 _ _ (u2 _ _ (u1 _ _ av))) (u3 _ _ (u2 _ _ av)) (u3 _ _ av)
 have us:=u0.trans (u1.trans (u2.trans u3))
 obtain⟨fD,fb,nD⟩:=BE g0 g1 g2 hD
 have mm:0<most+1:=by omega
 refine⟨_,rfl,_,rfl,_,_,rfl,rfl,_,_,rfl,rfl,mm,?_⟩
 refine⟨_,rfl,_,rfl,_,_,rfl,rfl,_,_,rfl,rfl,⟨mm,by omega⟩,?_⟩
 have n0:=Int.emod_nonneg big (show most+1≠0 by omega)
 have n1:=Int.emod_lt_of_pos big mm
 have ff:0<2*JF+1:=by omega
 refine⟨_,rfl,_,rfl,by omega,by omega,jB (n:=(big%(most+1)).toNat) (λk σ H'=> ∃(x:Int)(o5 o6 o7 o8:Option V)(bs:List Addr)(m:List (List Int)),σ=[some (.int x),some (.int most),some (.int JF),some (.ref D),some (.int (big%(most+1))),o5,o6,o7,o8]/\az H H'/\Tab H' D bs m/\cJ m/\Bd (15*k+1) m/\aA m=1/\(∀b∈bs,H b=none)/\D∉bs) ⟨_,_,_,_,_,_,_,rfl,us,T,cK _,λi j hi hj=> ?_,rfl,fb,nD⟩ (λk σ H1 hk h=> ?_) (λσ H1 h=> ?_)⟩
 ·rw[qB,bK _ hi hj]
  split<;>decide
 ·obtain⟨x,o5,o6,o7,o8,bs,m,rfl,s1,T1,Fp,dm,mD,fb,nD⟩:=h
  refine⟨_,rfl,_,_,rfl,rfl,(by show(0:Int)<3;decide),?_⟩
  refine⟨_,rfl,_,_,rfl,rfl,_,rfl,_,_,rfl,rfl,⟨by decide,by decide⟩,_,_,rfl,rfl,(by show(0:Int)<2;decide),_,_,rfl,rfl,_,_,rfl,rfl,(by show(0:Int)<3;decide),?_⟩
  refine⟨_,rfl,_,_,rfl,rfl,⟨by decide,by decide⟩,_,rfl,_,_,rfl,rfl,.inl ⟨by decide,by decide⟩,_,_,rfl,rfl,_,_,rfl,rfl,ff,_,rfl,_,_,rfl,rfl,?_⟩
  obtain⟨i,ei,hi⟩:∃i:Nat,x%3=(i:Int)/\i<3:=⟨(x%3).toNat,by(clear nD fb mD hk ff n1 n0 mm fD hD g2 g1 g0 hu K0 f1 f0 v8 h0 fH aj;omega),by(clear nD fb mD hk ff n1 n0 mm fD hD g2 g1 g0 hu K0 f1 f0 v8 h0 fH aj;omega)⟩
  obtain⟨j,ej,hj⟩:∃j:Nat,((i:Int)+1+x/3%2)%3=(j:Int)/\j<3:=⟨(((i:Int)+1+x/3%2)%3).toNat,by(clear hi ei nD fb mD hk ff n1 n0 mm fD hD g2 g1 g0 hu K0 f1 f0 v8 h0 fH aj;omega),by(clear hi ei nD fb mD hk ff n1 n0 mm fD hD g2 g1 g0 hu K0 f1 f0 v8 h0 fH aj;omega)⟩
  have hij:i≠j:=by(clear hj hi ei nD fb mD hk ff n1 n0 mm fD hD g2 g1 g0 hu K0 f1 f0 v8 h0 fH aj;omega)
  obtain⟨o,eo,ho⟩:∃o:Int,o=x/6%(2*JF+1) -JF/\o.natAbs<2^14:=⟨_,rfl,by have:=Int.emod_nonneg (x/6) (show 2*JF+1≠0 by omega);have:=Int.emod_lt_of_pos (x/6) ff;(clear hij hj ej hi ei nD fb mD hk ff n1 n0 mm fD hD g2 g1 g0 hu K0 v8 h0 fH aj;omega)⟩
  simp only[ei,ej,<-eo]
  obtain⟨bi,x1,x2,x3⟩:=aZ T1 Fp hi
  obtain⟨bj,y1,y2,y3⟩:=aZ T1 Fp hj
  refine⟨_,rfl,_,rfl,D,_,_,_,rfl,rfl,aW.of T1.1,x1,_,rfl,_,rfl,D,_,_,_,rfl,rfl,aW.of T1.1,y1,bi,bj,_,_,rfl,aW.of x2,aW.of y2,λR hR=> ?_⟩
  have bk:∀s,s<3->(ent m i s+o*ent m j s).natAbs<2^(15*(k+1)+1):=λs hs=>aJ (lT (aJ (dm i s hi hs) (show 15*k+1<=14+(15*k+1)by omega)) (cB ho (dm j s hj hs))) (by omega)
  have UD:k<10:=by omega
  refine zT (aW.of x2) (aW.of y2) rfl (by show 3<=sizeLine;decide) hR (λu v=>match u,v with| .int i,.int j=> .int (i+o*j)|_,_=> .iW) (λn u v eu ev G Q' sm kk=> ?_) (λH2 s2 e2=> ?_)
  ·have hn:n<3:=(List.getElem?_eq_some_iff.mp eu).1
   rcases bL hn with rfl|rfl|rfl<;>cases eu<;>cases ev<;>exact⟨_,rfl,_,rfl,_,rfl,_,_,rfl,rfl,⟨aJ ho (by decide),aJ (dm j _ hj (by decide)) (by(clear hn bk hR y2 y1 x2 x1 ho eo hij hj ej hi ei nD fb mD hk ff n1 n0 mm fD hD g2 g1 g0 hu K0 f1 f0 v8 h0 fH aj;omega))⟩,_,_,rfl,rfl,kk⟩
  have nR:R≠D:=Ne.symm (cZ T1.1 hR)
  have l3:bs.length=3:=by rw[<-T1.2.length,Fp.1]
  refine⟨_,rfl,_,rfl,D,_,_,i,rfl,rfl,s2 _ _ T1.1,(by rw[List.length_map,l3];rcases bL hi with rfl|rfl|rfl<;>rfl),?_⟩
  refine⟨_,rfl,_,_,rfl,rfl,⟨by decide,by decide⟩,_,rfl,_,_,rfl,rfl,.inl ⟨by decide,by decide⟩,_,_,rfl,rfl,_,_,rfl,rfl,⟨ff,by omega⟩,?_⟩
  refine⟨_,_,_,_,_,bs.set i R,BF m i (λs=>ent m i s+o*ent m j s),rfl,(s1.trans s2).upd fD,DI (T1.same s2) Fp hi e2 nR nD,cK _,λr s hr hs=> ?_,(Kl m hi hj hij o).trans mD,λb hb=> ?_,λhb=> ?_⟩
  ·rw[cL m _ hr hs]
   split
   ·exact bk s hs
   ·exact aJ (dm r s hr hs) (by omega)
  ·rcases List.mem_or_eq_of_mem_set hb with z|z
   ·exact fb b z
   ·rw[z];exact s1.none hR
  ·rcases List.mem_or_eq_of_mem_set hb with z|z
   ·exact nD z
   ·exact nR z.symm
 ·obtain⟨x,o5,o6,o7,o8,bs,m,rfl,s1,T1,Fp,dm,mD,fb,nD⟩:=h
  have dm:Bd (15*most.toNat+1) m:=dm.mono (by(clear nD fb mD ff mm fD hD g2 g1 g0 hu K0 f1 f0 fH aj;omega))
  obtain⟨i,ei,hi⟩:∃i:Nat,x%3=(i:Int)/\i<3:=⟨(x%3).toNat,by(clear nD fb mD ff n1 n0 mm fD hD g2 g1 g0 hu K0 f1 f0 v8 h0 fH aj;omega),by(clear nD fb mD ff n1 n0 mm fD hD g2 g1 g0 hu K0 f1 f0 v8 h0 fH aj;omega)⟩
  obtain⟨o,eo,ho⟩:∃o:Int,o=1-2*(x/3%2)/\(o=1∨o= -1):=⟨_,rfl,by(clear hi ei nD fb mD ff n1 n0 mm fD hD g2 g1 g0 hu K0 f1 f0 v8 h0 fH aj;omega)⟩
  obtain⟨k,ek,hk⟩:∃k:Nat,x/6%3=(k:Int)/\k<3:=⟨(x/6%3).toNat,by(clear ho eo hi ei nD fb mD ff n1 n0 mm fD hD g2 g1 g0 hu K0 f1 f0 v8 h0 fH aj;omega),by(clear ho eo hi ei nD fb mD ff n1 n0 mm fD hD g2 g1 g0 hu K0 f1 f0 v8 h0 fH aj;omega)⟩
  refine⟨_,rfl,_,_,rfl,rfl,(by show(0:Int)<3;decide),?_⟩
  simp only[ei]
  obtain⟨bi,x1,x2,x3⟩:=aZ T1 Fp hi
  refine⟨_,rfl,_,rfl,D,_,_,_,rfl,rfl,aW.of T1.1,x1,bi,rfl,⟨_,aW.of x2⟩,λR hR=> ?_⟩
  have bo:(1-2*(x/3%2)).natAbs<2^1:=by(clear hR x2 x1 hk ek ho eo hi ei nD fb mD ff n1 n0 mm fD hD g2 g1 g0 hu K0 f1 f0 v8 h0 fH aj;omega)
  refine oG (lS (aW.of x2)) rfl hR (λs=>o*ent m i s) (λj y hj ey H2 Q2 s2 k2=> ?_) (λH2 s2 e2=> ?_)
  ·rw[eo]at k2
   rcases bL hj with rfl|rfl|rfl<;>cases ey<;>exact⟨_,rfl,_,_,rfl,rfl,⟨by decide,by decide⟩,_,_,rfl,rfl,(by show(0:Int)<2;decide),_,_,rfl,rfl,.inl ⟨by decide,by decide⟩,_,_,rfl,rfl,_,rfl,_,_,rfl,rfl,⟨aJ bo (by decide),aJ (dm i _ hi (by decide)) (by(clear k2 hj bo hR x2 x1 hk ek ho eo hi ei nD fb mD ff n1 n0 mm fD hD g2 g1 g0 hu K0 f1 f0 fH aj;omega))⟩,k2 H2 (az.refl _)⟩
  have nR:R≠D:=Ne.symm (cZ T1.1 hR)
  have l3:bs.length=3:=by rw[<-T1.2.length,Fp.1]
  refine⟨_,rfl,_,rfl,D,_,_,i,rfl,rfl,s2 _ _ T1.1,(by rw[List.length_map,l3];rcases bL hi with rfl|rfl|rfl<;>rfl),?_⟩
  have T2:=DI (g:=λs=>o*ent m i s) (T1.same s2) Fp hi e2 nR nD
  have s3:=(s1.trans s2).upd (o:= .lst ((bs.map V.ref).set i (.ref R))) fD
  have UK:∀b∈bs.set i R,H b=none:=λb hb=>by
   rcases List.mem_or_eq_of_mem_set hb with z|z
   ·exact fb b z
   ·rw[z];exact s1.none hR
  have e3:((bs.map V.ref).set i (.ref R))=(bs.set i R).map V.ref:=by rw[List.map_set]
  refine⟨_,rfl,_,rfl,_,_,rfl,rfl,⟨by decide,by decide⟩,_,_,rfl,rfl,(by show(0:Int)<3;decide),_,rfl,D,_,rfl,aW.of av,λp hp=> ?_⟩
  refine⟨_,rfl,_,rfl,_,_,rfl,rfl,⟨by decide,by decide⟩,_,_,rfl,rfl,(by show(0:Int)<3;decide),_,rfl,D,_,rfl,aW.of ((az.up hp) _ _ av),λp' fJ=> ?_⟩
  have u1:=az.up (o:= .lst (qZ ((bs.map V.ref).set i (.ref R)) (some (x/6%3)) none)) hp
  have u2:=az.up (o:= .lst (qZ ((bs.map V.ref).set i (.ref R)) none (some (x/6%3)))) fJ
  refine⟨p,p',_,_,rfl,rfl,u2 _ _ av,av,?_,λr hr=> ?_⟩
  ·have c1:=nj ((bs.map V.ref).set i (.ref R)) (some (x/6%3)) none
   have c2:=nj ((bs.map V.ref).set i (.ref R)) none (some (x/6%3))
   rw[List.length_set,List.length_map,l3]at c1 c2
   exact Nat.le_trans (Nat.add_le_add c1 c2) (by show 6<=sizeLine;decide)
  have u3:=az.up (o:= .lst (qZ ((bs.map V.ref).set i (.ref R)) (some (x/6%3)) none++qZ ((bs.map V.ref).set i (.ref R)) none (some (x/6%3)))) hr
  obtain⟨bs',T3,m3,n3⟩:=Kn (r:=r) (k:=k) T2 (cK _) hk (u1.trans (u2.trans u3)) (u1.none (u2.none hr)) (by rw[<-e3,<-ek];exact av)
  have hd:aA (BG (BF m i λs=>o*ent m i s) k)=o:=(Km _ hk).trans ((EO m hi o).trans (by rw[mD];omega))
  refine K0 (BG (BF m i λs=>o*ent m i s) k) r bs' _ (cK _) (Ko λa c ha hc=> ?_) ?_ (s3.trans (u1.trans (u2.trans u3))) (s3.none (u1.none (u2.none hr))) (λb hb=>UK b (m3 b hb)) n3 T3
  ·rw[cL m _ ha hc]
   split
   ·exact aJ (cB (show o.natAbs<2^1 by(clear hc ha hd n3 m3 hr fJ hp e3 UK l3 nR e2 bo hR x2 x1 hk ek ho hi ei nD fb mD ff n1 n0 mm fD hD g2 g1 g0 hu K0 f1 f0 v8 h0 fH aj;omega)) (dm i c hi hc)) (by omega)
   ·exact aJ (dm a c ha hc) (by omega)
  ·rw[hd]
   exact ho
theorem yS(F:fP K mg "_law_over" nO gI)(aj:mg "range"=none):dM P w K mg base cY 1 "_law_over" gI rS:=by
 refine F.ok yE (λvs H Q E h=> ?_) (λf cdv A outer s H vs Q E hr h=> ?_)
 ·obtain⟨t1,b1,m1,rfl,h1,c1,q⟩:=h
  rfl
 obtain⟨t1,b1,m1,rfl,h1,c1,q⟩:=h
 have hu:=hr.units
 refine⟨_,(dh (bh (jL (N2:=["_law_table"]) (te:=(nA 1 (ux (eE (tC (.int 3)) kT)) (dI 0) (jn (iK K) (jn (iK K) (b9 2) (b9 0)) (b9 1)))) rfl (eL rfl aj (af ah ak)) (by kernel_rfl) rfl (λ_ _ _=>by exact jZ (jL (N2:=["_law_j","_law_table"]) (te:=(jn (iK K) (jn (iK K) (b9 2) (b9 0)) (b9 1))) rfl (eL rfl aj (af ah ak)) (by kernel_rfl) rfl (λ_ _ _=>by exact jZ (aF ay (aF ay (pv 2) (pv 0) (λ_ _=>rfl)) (pv 1) (λ_ _=>rfl)))))))),?_⟩
 refine⟨3,rfl,by decide,by decide,λD hD=>qA (gk (n:=3)) rfl hD _ (λi x hi ex H1 Q1 s1 k1=> ?_) (λbs H1 s1 fr nD hT=>q D bs H1 s1 hD fr nD hT)⟩
 obtain⟨_,rfl⟩:=fK ex
 refine⟨3,rfl,by decide,by decide,λD2 Ag=>oG (gk (n:=3)) rfl Ag (λj=>ent m1 j i) (λj x hj KR H2 Q2 s2 k2=> ?_) (λH2 s2 e2=>k1 D2 H2 Ag s2 e2)⟩
 obtain⟨_,rfl⟩:=fK KR
 have sm:=s1.trans s2
 obtain⟨b,row,e1,e2,e3⟩:=qx (h1.same sm) c1 hj hi
 exact⟨_,rfl,_,rfl,t1,_,_,_,rfl,rfl,aW.of (h1.same sm).1,e1,_,rfl,b,_,_,_,rfl,rfl,aW.of e2,e3,k2 H2 (az.refl _)⟩
inductive uh(K:PySem.W.Frag)(vs:List V)(H:Hp)(Q:VK)(E:XK):Prop
 |mk(a b:Addr)(x0 x1 x2 y0 y1 y2:Int)(_:vs=[.ref a,.ref b])(_:H a=some (.lst [.int x0,.int x1,.int x2]))(_:H b=some (.lst [.int y0,.int y1,.int y2]))(_:x0.natAbs<2^4096)(_:x1.natAbs<2^4096)(_:x2.natAbs<2^4096)(_:y0.natAbs<2^4096)(_:y1.natAbs<2^4096)(_:y2.natAbs<2^4096)(_:Q (.int (x0*y0+x1*y1+x2*y2)) H)
theorem wH(F:fP K mg "_law_along" l6 gU):dM P w K mg base cY 1 "_law_along" gU (uh K):=by
 refine F.ok wc (λvs H Q E h=> ?_) (λf cdv A outer s H vs Q E hr h=> ?_)
 ·obtain⟨a,b,x0,x1,x2,y0,y1,y2,rfl,ha,hb,p0,p1,p2,r0,r1,r2,q⟩:=h
  rfl
 obtain⟨a,b,x0,x1,x2,y0,y1,y2,rfl,ha,hb,p0,p1,p2,r0,r1,r2,q⟩:=h
 have hu:=hr.units
 refine⟨_,(dh (bh (ai aP (ai aP (ai aC (aF ay (pv 0) ah (λ_ _=>rfl)) (aF ay (pv 1) ah (λ_ _=>rfl))) (ai aC (aF ay (pv 0) ah (λ_ _=>rfl)) (aF ay (pv 1) ah (λ_ _=>rfl)))) (ai aC (aF ay (pv 0) ah (λ_ _=>rfl)) (aF ay (pv 1) ah (λ_ _=>rfl)))))),?_⟩
 refine⟨_,rfl,a,_,_,_,rfl,rfl,aW.of ha,rfl,_,rfl,b,_,_,_,rfl,rfl,aW.of hb,rfl,_,_,rfl,rfl,⟨p0,r0⟩,?_⟩
 refine⟨_,rfl,a,_,_,_,rfl,rfl,aW.of ha,rfl,_,rfl,b,_,_,_,rfl,rfl,aW.of hb,rfl,_,_,rfl,rfl,⟨p1,r1⟩,_,_,rfl,rfl,?_⟩
 exact⟨_,rfl,a,_,_,_,rfl,rfl,aW.of ha,rfl,_,rfl,b,_,_,_,rfl,rfl,aW.of hb,rfl,_,_,rfl,rfl,⟨p2,r2⟩,_,_,rfl,rfl,q⟩
inductive El(vs:List V)(H:Hp)(Q:VK)(E:XK):Prop
 |mk(t1:Addr)(b1:List Addr)(m1:List (List Int))(t2:Addr)(b2:List Addr)(m2:List (List Int))(_:vs=[.ref t1,.ref t2])(_:Tab H t1 b1 m1)(_:Tab H t2 b2 m2)(_:cJ m1)(_:cJ m2)(_:Bd 4096 m1)(_:Bd 4096 m2)(_:∀r bs H',az H H'->H r=none->(∀b∈bs,H b=none) ->r∉bs->Tab H' r bs (iN m1 m2) ->Q (.ref r) H')
theorem tW(F:fP K mg "_law_product" jU f7)(gK:dM P w K mg base cY 1 "_law_over" gI rS)(mE:dM P w K mg base cY 1 "_law_along" gU (uh K)):dM P w K mg base cY 2 "_law_product" f7 El:=by
 refine F.ok mV (λvs H Q E h=> ?_) (λf cdv A outer s H vs Q E hr h=> ?_)
 ·obtain⟨t1,b1,m1,t2,b2,m2,rfl,h1,h2,c1,c2,d1,d2,q⟩:=h
  rfl
 obtain⟨t1,b1,m1,t2,b2,m2,rfl,h1,h2,c1,c2,d1,d2,q⟩:=h
 have hu:=hr.units
 refine⟨_,(mY (@aq _ _ _ _ _ (aE (i:=2) mV.nd rfl (Or.inr rfl) (aR gK hr rfl aQ (af (pv 1) ak)))
  (@aL _ _ _ (bh (jL (N2:=["_law_one","_law_other","_law_over_here"]) (te:=(nA 1 (Lz K (b9 3)) (dI 0) (mT (uh K) [] E0 (eE (b9 1) (eE (b9 0) kT))))) rfl (gP (pv 0)) (by kernel_rfl) rfl (λ_ _ _=>by exact jZ (jL (N2:=["_law_row","_law_one","_law_other","_law_over_here"]) (te:=(mT (uh K) [] E0 (eE (b9 1) (eE (b9 0) kT)))) rfl (gP (pv 3)) (by kernel_rfl) rfl (λ_ _ _=>by exact jZ (aR mE hr rfl aQ (af (pv 1) (af (pv 0) ak))))))))))),?_⟩
 refine⟨_,rfl,t2,b2,m2,rfl,h2,c2,λt bs H0 s0 ft fb nt hO=> ?_⟩
 have c0:cJ (cR m2):=cK _
 have l1:(b1.map V.ref).length=3:=by rw[List.length_map,<-h1.2.length,c1.1]
 have l2:(bs.map V.ref).length=3:=by rw[List.length_map,<-hO.2.length,c0.1]
 refine⟨_,rfl,t1,rfl,⟨_,aW.of (h1.same s0).1⟩,λD hD=>qA (lS (aW.of (h1.same s0).1)) l1 hD (λi j=>ent m1 i 0*ent m2 0 j+ent m1 i 1*ent m2 1 j+ent m1 i 2*ent m2 2 j) (λi x hi ex H1 Q1 s1 k1=> ?_) (λbs' H1 s1 fr nD hT=>q D bs' H1 (s0.trans s1) (s0.none hD) (λb hb=>s0.none (fr b hb)) nD hT)⟩
 obtain⟨b,e1,e2,_⟩:=aZ ((h1.same s0).same s1) c1 hi
 have ex':x= .ref b:=by
  have q1:=ie ex
  rw[e1]at q1
  exact(Option.some.inj q1).symm
 subst ex'
 refine⟨_,rfl,t,rfl,⟨_,aW.of (hO.same s1).1⟩,λD2 Ag=>oG (lS (aW.of (hO.same s1).1)) l2 Ag (λj=>ent m1 i 0*ent m2 0 j+ent m1 i 1*ent m2 1 j+ent m1 i 2*ent m2 2 j) (λj x hj KR H2 Q2 s2 k2=> ?_) (λH2 s2 e2=>k1 D2 H2 Ag s2 e2)⟩
 obtain⟨b',f1,f2,_⟩:=aZ ((hO.same s1).same s2) c0 hj
 have ex':x= .ref b':=by
  have q1:=ie KR
  rw[f1]at q1
  exact(Option.some.inj q1).symm
 subst ex'
 rw[cR,bK _ hj (by decide),bK _ hj (by decide),bK _ hj (by decide)]at f2
 exact⟨_,rfl,_,rfl,b,b',_,_,_,_,_,_,rfl,s2 _ _ e2,f2,d1 i 0 hi (by decide),d1 i 1 hi (by decide),d1 i 2 hi (by decide),d2 0 j (by decide) hj,d2 1 j (by decide) hj,d2 2 j (by decide) hj,k2 H2 (az.refl _)⟩
inductive yT(vs:List V)(H:Hp)(Q:VK)(E:XK):Prop
 |mk(N:Int)(_:vs=[.int N])(_:0<=N)(_:N<2^62)(_:∀r:Int,0<=r->r*r<=N->N<(r+1)*(r+1) ->Q (.int r) H)
theorem yU(F:fP K mg "_law_root" nS gJ):dM P w K mg base cY 1 "_law_root" gJ yT:=by
 refine F.ok fz (λvs H Q E h=> ?_) (λf cdv A outer s H vs Q E hr h=> ?_)
 ·obtain⟨N,rfl,N0,bN,q⟩:=h
  rfl
 obtain⟨N,rfl,N0,bN,q⟩:=h
 have hu:=hr.units
 refine⟨_,(mY (@aq _ _ _ _ _ (aE (i:=1) fz.nd rfl (Or.inl rfl) ah)
  (@aq _ _ _ _ _ (jF PassesOwn.never (bO uy (ai br (pv 1) (pv 1)) (pv 0) (cg _)) (dh (aE (i:=1) fz.nd rfl (Or.inl rfl) (ai br ah (pv 1)))))
  (@aq _ _ _ _ _ (aE (i:=2) fz.nd rfl (Or.inl rfl) ah)
  (@aq _ _ _ _ _ (jF PassesOwn.never (bO oZ (ai bW (pv 1) (pv 2)) ah (cg _)) (mY (@aq _ _ _ _ _ (aE (i:=3) fz.nd rfl (Or.inl rfl) (ai bT (ai aP (pv 2) (pv 1)) ah))
  (@aL _ _ _ (dW (bO uy (ai br (pv 3) (pv 3)) (pv 0) (cg _)) (@aL _ _ _ (aE (i:=2) fz.nd rfl (Or.inl rfl) (pv 3))) (@aL _ _ _ (aE (i:=1) fz.nd rfl (Or.inl rfl) (pv 3))))))))
  (@aL _ _ _ (bh (pv 2)))))))),?_⟩
 refine kR (λσ H'=>H'=H/\ ∃h:Int,σ=[some (.int N),some (.int h),none,none]/\1<=h/\h<=2^33) (λσ _=>match σ with| [_,some (.int h),_,_]=>(2^34-h).toNat|_=>0) ⟨rfl,_,rfl,by decide,by decide⟩ (λσ H' hh=> ?_) ?_
 rotate_left
 ·rintro σ H' Q Q' h ⟨v,e,v2,e',i,j,e1,e2,c,v3,e3,a,b,e4,e5,k,ek,kk⟩
  exact⟨v,e,v2,e',i,j,e1,e2,c,v3,e3,a,b,e4,e5,k,ek,h _ _ kk⟩
 obtain⟨rfl,h,rfl,h1,h2⟩:=hh
 refine⟨_,rfl,_,rfl,_,_,rfl,rfl,.inl ⟨by(clear q hu bN N0;omega),by(clear q hu bN N0;omega)⟩,_,rfl,_,_,rfl,rfl,_,rfl,iL (λc=> ?_) (λc=> ?_)⟩
 ·have c:h*h<=N:=of_decide_eq_true c
  have h3:h<2^32:=by
   refine Classical.byContradiction λz=> ?_
   have:(2^32:Int)*2^32<=h*h:=Int.mul_le_mul (by(clear c q hu bN N0;omega)) (by(clear c q hu bN N0;omega)) (by decide) (by(clear c q hu bN N0;omega))
   (clear z h2 h1 q hu;omega)
  refine⟨_,rfl,_,_,rfl,rfl,.inl ⟨by decide,by decide⟩,⟨rfl,_,rfl,by(clear c q hu bN N0;omega),by(clear c q hu bN N0;omega)⟩,?_⟩
  show(2^34-2*h).toNat<(2^34-h).toNat
  (clear c q hu bN N0;omega)
 have c:N<h*h:=by
  have:¬h*h<=N:=λz=>c (decide_eq_true z)
  omega
 refine kR (λσ H2=>H2=H'/\ ∃(h l:Int)(o:Option V),σ=[some (.int N),some (.int h),some (.int l),o]/\0<=l/\l<h/\h<=2^33/\l*l<=N/\N<h*h) (λσ _=>match σ with| [_,some (.int h),some (.int l),_]=>(h-l).toNat|_=>0) ⟨rfl,_,_,_,rfl,by decide,by(clear c q hu bN N0;omega),h2,by omega,c⟩ (λσ H' hh=> ?_) ?_
 rotate_left
 ·rintro σ H' Q Q' h ⟨v,e,v2,e2,i,j,e3,e4,a,b,e5,e6,k,ek,kk⟩
  exact⟨v,e,v2,e2,i,j,e3,e4,a,b,e5,e6,k,ek,h _ _ kk⟩
 obtain⟨rfl,h,l,o,rfl,l0,lh,h2,lN,hN⟩:=hh
 refine⟨_,rfl,_,rfl,_,_,rfl,rfl,_,_,rfl,rfl,_,rfl,iL (λc=> ?_) (λc=> ?_)⟩
 ·have c:1<h-l:=of_decide_eq_true c
  refine⟨_,rfl,_,rfl,_,_,rfl,rfl,_,_,rfl,rfl,⟨by decide,by decide⟩,_,rfl,_,rfl,_,_,rfl,rfl,.inl ⟨by(clear hN lN h2 lh q h1 hu bN N0;omega),by(clear hN lN lh q h1 hu bN N0;omega)⟩,_,rfl,_,_,rfl,rfl,_,rfl,iL (λc2=> ?_) (λc2=> ?_)⟩
  ·have c2:(l+h)/2*((l+h)/2)<=N:=of_decide_eq_true c2
   refine⟨_,rfl,⟨rfl,_,_,_,rfl,by(clear c2 hN lN h2 lh q h1 hu bN N0;omega),by(clear c2 hN lN h2 lh l0 q h1 hu bN N0;omega),h2,c2,hN⟩,?_⟩
   show(h- (l+h)/2).toNat<(h-l).toNat
   (clear c2 hN lN h2 lh l0 q h1 hu bN N0;omega)
  ·have c2:N<(l+h)/2*((l+h)/2):=by
    have:¬(l+h)/2*((l+h)/2)<=N:=λz=>c2 (decide_eq_true z)
    omega
   refine⟨_,rfl,⟨rfl,_,_,_,rfl,l0,by(clear c2 hN lN h2 lh l0 q h1 hu bN N0;omega),by(clear c2 hN lN lh q h1 hu bN N0;omega),lN,c2⟩,?_⟩
   show((l+h)/2-l).toNat<(h-l).toNat
   (clear c2 hN lN h2 lh l0 q h1 hu bN N0;omega)
 ·have c:¬1<h-l:=λz=>c (decide_eq_true z)
  have e:h=l+1:=by(clear hN lN h2 l0 q h1 hu bN N0;omega)
  rw[e]at hN
  exact⟨_,rfl,q l l0 lN hN⟩
noncomputable def Gw(m:List (List Int)):Nat->Int
 |0=>ent m 1 1*ent m 2 2-ent m 1 2*ent m 1 2
 |1=>ent m 2 2*ent m 0 0-ent m 2 0*ent m 2 0
 |_=>ent m 0 0*ent m 1 1-ent m 0 1*ent m 0 1
inductive Em(vs:List V)(H:Hp)(Q:VK)(E:XK):Prop
 |mk(t:Addr)(bs:List Addr)(m:List (List Int))(n:Int)(k:Nat)(_:vs=[.ref t,.int n,.int (k:Int)])(_:Tab H t bs m)(_:cJ m)(_:Bd 20 m)(_:0<aA m)(_:aA m<=401)(_:0<=n)(_:n<=600)(_:k<3)(_:0<=Gw m k)(_:Gw m k<2^40)(_:∀R:Int,0<=R->R*R<=2*n*Gw m k/aA m->2*n*Gw m k/aA m<(R+1)*(R+1) ->Q (.int R) H)
theorem wI(F:fP K mg "_law_reach" l9 gY)(dP:dM P w K mg base cY 1 "_law_det" f9 vE)(gM:dM P w K mg base cY 1 "_law_root" gJ yT):dM P w K mg base cY 2 "_law_reach" gY Em:=by
 refine F.ok kH (λvs H Q E h=> ?_) (λf cdv A outer s H vs Q E hr h=> ?_)
 ·obtain⟨t,bs,m,n,k,rfl,hT,ck,hB,D0,D4,n0,n6,hk,p0,p1,q⟩:=h
  rfl
 obtain⟨t,bs,m,n,k,rfl,hT,ck,hB,D0,D4,n0,n6,hk,p0,p1,q⟩:=h
 have hu:=hr.units
 refine⟨_,(mY (@aq _ _ _ _ _ (qY (i:=3) (j:=4) rfl kH.nd rfl rfl (by decide) rfl rfl (af (ai c9 (ai aP (pv 2) ah) ah) (af (ai c9 (ai aP (pv 2) ah) ah) ak)) rfl)
  (@aq _ _ _ _ _ (aE (i:=5) kH.nd rfl (Or.inl rfl) (ai bW (ai br (aF ay (aF ay (pv 0) (pv 3) (λ_ _=>rfl)) (pv 3) (λ_ _=>rfl)) (aF ay (aF ay (pv 0) (pv 4) (λ_ _=>rfl)) (pv 4) (λ_ _=>rfl))) (ai br (aF ay (aF ay (pv 0) (pv 3) (λ_ _=>rfl)) (pv 4) (λ_ _=>rfl)) (aF ay (aF ay (pv 0) (pv 3) (λ_ _=>rfl)) (pv 4) (λ_ _=>rfl)))))
  (@aL _ _ _ (bh (aR gM hr rfl aQ (af (ai bT (ai br (ai br ah (pv 1)) (pv 5)) (aR dP hr rfl aQ (af (pv 0) ak))) ak))))))),?_⟩
 obtain⟨c0,x1,x2,_⟩:=aZ hT ck (i:=0) (by decide)
 obtain⟨c1,y1,y2,_⟩:=aZ hT ck (i:=1) (by decide)
 obtain⟨c2,w1,w2,_⟩:=aZ hT ck (i:=2) (by decide)
 have b:∀i j,i<3->j<3->(ent m i j).natAbs<2^20:=λi j hi hj=>hB i j hi hj
 have j4:=b 0 0 (by decide) (by decide)
 have j5:=b 1 1 (by decide) (by decide)
 have cW:=b 2 2 (by decide) (by decide)
 have j6:=b 1 2 (by decide) (by decide)
 have FW:=b 2 0 (by decide) (by decide)
 have np:0<=n*Gw m k/\n*Gw m k<=600*2^40:=⟨Int.mul_nonneg n0 p0,Int.mul_le_mul n6 (Int.le_of_lt p1) p0 (by decide)⟩
 have en:2*n*Gw m k=2*(n*Gw m k):=Int.mul_assoc _ _ _
 have X0:0<=2*n*Gw m k/aA m:=Int.ediv_nonneg (by(clear FW j6 cW j5 j4 b w2 w1 y2 y1 x2 x1 hu q p1 p0 hk n6 n0 D4 D0;omega)) (by omega)
 have X1:2*n*Gw m k/aA m<2^62:=Int.lt_of_le_of_lt (Int.ediv_le_self _ (by(clear X0 FW j6 cW j5 j4 b w2 w1 y2 y1 x2 x1 hu q p1 p0 hk n6 n0 D4 D0;omega))) (by(clear X0 FW j6 cW j5 j4 b w2 w1 y2 y1 x2 x1 hu q p1 p0 hk n6 n0 D4 D0;omega))
 have kP:=b 0 1 (by decide) (by decide)
 have k2:k=0∨k=1∨k=2:=by omega
 rcases k2 with rfl|rfl|rfl
 ·refine⟨_,rfl,_,_,rfl,rfl,_,_,rfl,rfl,(by decide),_,rfl,_,_,rfl,rfl,_,_,rfl,rfl,(by decide),_,_,rfl,?_⟩
  refine⟨_,rfl,_,rfl,t,_,_,_,rfl,rfl,aW.of hT.1,y1,_,rfl,c1,_,_,_,rfl,rfl,aW.of y2,rfl,_,rfl,_,rfl,t,_,_,_,rfl,rfl,aW.of hT.1,w1,_,rfl,c2,_,_,_,rfl,rfl,aW.of w2,rfl,_,_,rfl,rfl,.inl ⟨by(clear X1 X0 en np q p1 p0 hk kP FW j6 cW j4 b w2 w1 y2 y1 x2 x1 hu n6 n0 D4 D0;omega),by(clear X1 X0 en np q p1 p0 hk kP FW j6 cW j4 b w2 w1 y2 y1 x2 x1 hu n6 n0 D4 D0;omega)⟩,_,rfl,_,rfl,t,_,_,_,rfl,rfl,aW.of hT.1,y1,_,rfl,c1,_,_,_,rfl,rfl,aW.of y2,rfl,_,rfl,_,rfl,t,_,_,_,rfl,rfl,aW.of hT.1,y1,_,rfl,c1,_,_,_,rfl,rfl,aW.of y2,rfl,_,_,rfl,rfl,.inl ⟨by(clear X1 X0 en np q p1 p0 hk kP FW cW j5 j4 b w2 w1 y2 y1 x2 x1 hu n6 n0 D4 D0;omega),by(clear X1 X0 en np q p1 p0 hk kP FW cW j5 j4 b w2 w1 y2 y1 x2 x1 hu n6 n0 D4 D0;omega)⟩,_,_,rfl,rfl,?_⟩
  refine⟨_,rfl,_,_,rfl,rfl,.inl ⟨by decide,by decide⟩,_,rfl,_,_,rfl,rfl,.inl ⟨by omega,by omega⟩,_,rfl,t,bs,m,rfl,hT,ck,hB.mono (by decide),_,_,rfl,rfl,⟨D0,by omega⟩,_,rfl,X0,X1,λw h0 h1 h2=>q w h0 h1 h2⟩
 ·refine⟨_,rfl,_,_,rfl,rfl,_,_,rfl,rfl,(by decide),_,rfl,_,_,rfl,rfl,_,_,rfl,rfl,(by decide),_,_,rfl,?_⟩
  refine⟨_,rfl,_,rfl,t,_,_,_,rfl,rfl,aW.of hT.1,w1,_,rfl,c2,_,_,_,rfl,rfl,aW.of w2,rfl,_,rfl,_,rfl,t,_,_,_,rfl,rfl,aW.of hT.1,x1,_,rfl,c0,_,_,_,rfl,rfl,aW.of x2,rfl,_,_,rfl,rfl,.inl ⟨by(clear X1 X0 en np q p1 p0 hk kP FW j6 j5 j4 b w2 w1 y2 y1 x2 x1 hu n6 n0 D4 D0;omega),by(clear X1 X0 en np q p1 p0 hk kP FW j6 j5 j4 b w2 w1 y2 y1 x2 x1 hu n6 n0 D4 D0;omega)⟩,_,rfl,_,rfl,t,_,_,_,rfl,rfl,aW.of hT.1,w1,_,rfl,c2,_,_,_,rfl,rfl,aW.of w2,rfl,_,rfl,_,rfl,t,_,_,_,rfl,rfl,aW.of hT.1,w1,_,rfl,c2,_,_,_,rfl,rfl,aW.of w2,rfl,_,_,rfl,rfl,.inl ⟨by(clear X1 X0 en np q p1 p0 hk kP j6 cW j5 j4 b w2 w1 y2 y1 x2 x1 hu n6 n0 D4 D0;omega),by(clear X1 X0 en np q p1 p0 hk kP j6 cW j5 j4 b w2 w1 y2 y1 x2 x1 hu n6 n0 D4 D0;omega)⟩,_,_,rfl,rfl,?_⟩
  refine⟨_,rfl,_,_,rfl,rfl,.inl ⟨by decide,by decide⟩,_,rfl,_,_,rfl,rfl,.inl ⟨by omega,by omega⟩,_,rfl,t,bs,m,rfl,hT,ck,hB.mono (by decide),_,_,rfl,rfl,⟨D0,by omega⟩,_,rfl,X0,X1,λw h0 h1 h2=>q w h0 h1 h2⟩
 ·refine⟨_,rfl,_,_,rfl,rfl,_,_,rfl,rfl,(by decide),_,rfl,_,_,rfl,rfl,_,_,rfl,rfl,(by decide),_,_,rfl,?_⟩
  refine⟨_,rfl,_,rfl,t,_,_,_,rfl,rfl,aW.of hT.1,x1,_,rfl,c0,_,_,_,rfl,rfl,aW.of x2,rfl,_,rfl,_,rfl,t,_,_,_,rfl,rfl,aW.of hT.1,y1,_,rfl,c1,_,_,_,rfl,rfl,aW.of y2,rfl,_,_,rfl,rfl,.inl ⟨by(clear X1 X0 en np q p1 p0 hk kP FW j6 cW j5 b w2 w1 y2 y1 x2 x1 hu n6 n0 D4 D0;omega),by(clear X1 X0 en np q p1 p0 hk kP FW j6 cW j5 b w2 w1 y2 y1 x2 x1 hu n6 n0 D4 D0;omega)⟩,_,rfl,_,rfl,t,_,_,_,rfl,rfl,aW.of hT.1,x1,_,rfl,c0,_,_,_,rfl,rfl,aW.of x2,rfl,_,rfl,_,rfl,t,_,_,_,rfl,rfl,aW.of hT.1,x1,_,rfl,c0,_,_,_,rfl,rfl,aW.of x2,rfl,_,_,rfl,rfl,.inl ⟨by(clear X1 X0 en np q p1 p0 hk FW j6 cW j5 j4 b w2 w1 y2 y1 x2 x1 hu n6 n0 D4 D0;omega),by(clear X1 X0 en np q p1 p0 hk FW j6 cW j5 j4 b w2 w1 y2 y1 x2 x1 hu n6 n0 D4 D0;omega)⟩,_,_,rfl,rfl,?_⟩
  refine⟨_,rfl,_,_,rfl,rfl,.inl ⟨by decide,by decide⟩,_,rfl,_,_,rfl,rfl,.inl ⟨by omega,by omega⟩,_,rfl,t,bs,m,rfl,hT,ck,hB.mono (by decide),_,_,rfl,rfl,⟨D0,by omega⟩,_,rfl,X0,X1,λw h0 h1 h2=>q w h0 h1 h2⟩
inductive En(vs:List V)(H:Hp)(Q:VK)(E:XK):Prop
 |mk(t:Addr)(bs:List Addr)(m:List (List Int))(n:Int)(_:vs=[.ref t,.int n])(_:Tab H t bs m)(_:cJ m)(_:b8 m)(_:bZ m=true)(_:∀i j,i<3->j<3->(ent m i j).natAbs<=230)(_:ent m 0 0<=16)(_:ent m 1 1<=30)(_:aA m<=401)(_:0<=n)(_:n<=600)(_:∀(r:Addr) (as:List Addr) (H':Hp),az H H'->H r=none->(∀b∈as,H b=none) ->H' r=some (.lst (as.map V.ref)) ->fW H' as->e9 m n (rws H' as) ->(rws H' as).Pairwise (λr s=>Nz r<=Nz s) ->Q (.ref r) H')
theorem yV(F:fP K mg "_law_rows" nT iR)(aj:mg "range"=none)(aM:mg "sorted"=none)(bV:mg "int"=none)(jz:dM P w K mg base cY 3 "_law_reach" gY Em)(gM:dM P w K mg base cY 3 "_law_root" gJ yT):dM P w K mg base cY 4 "_law_rows" iR En:=by
 refine F.ok cU (λvs H Q E h=> ?_) (λf cdv A outer s H vs Q E hr h=> ?_)
 ·obtain⟨t,bs,m,n,rfl,hT,ck,ev,ab,hB,f0,f1,D4,n0,n6,q⟩:=h
  rfl
 obtain⟨t,bs,m,n,rfl,hT,ck,ev,ab,hB,f0,f1,D4,n0,n6,q⟩:=h
 have hu:=hr.units
 refine⟨_,(mY (@aq _ _ _ _ _ (aE (i:=2) cU.nd rfl (Or.inl rfl) (cV ak))
  (@aq _ _ _ _ _ (qY (i:=3) (j:=4) rfl cU.nd rfl rfl (by decide) rfl rfl (af (aR jz hr rfl aQ (af (pv 0) (af (pv 1) (af ah ak)))) (af (aR jz hr rfl aQ (af (pv 0) (af (pv 1) (af ah ak)))) ak)) rfl)
  (@aq _ _ _ _ _ (kh PassesOwn.never rfl (kQ rfl aj (af (ai bW ah (pv 3)) (af (ai aP (pv 3) ah) ak))) (aV (i:=5) cU.nd rfl (Or.inl rfl)) (dh (kh PassesOwn.never rfl (kQ rfl aj (af (ai bW ah (pv 4)) (af (ai aP (pv 4) ah) ak))) (aV (i:=6) cU.nd rfl (Or.inl rfl)) (mY (@aq _ _ _ _ _ (aE (i:=7) cU.nd rfl (Or.inl rfl) (ai bT (ai aP (ai br (ai br (aF ay (aF ay (pv 0) ah (λ_ _=>rfl)) ah (λ_ _=>rfl)) (pv 5)) (pv 5)) (ai br (ai br (aF ay (aF ay (pv 0) ah (λ_ _=>rfl)) ah (λ_ _=>rfl)) (pv 6)) (pv 6))) ah))
  (@aq _ _ _ _ _ (aE (i:=7) cU.nd rfl (Or.inl rfl) (ai aP (pv 7) (ai br (ai br (aF ay (aF ay (pv 0) ah (λ_ _=>rfl)) ah (λ_ _=>rfl)) (pv 5)) (pv 6))))
  (@aq _ _ _ _ _ (aE (i:=8) cU.nd rfl (Or.inl rfl) (ai aP (ai br (aF ay (aF ay (pv 0) ah (λ_ _=>rfl)) ah (λ_ _=>rfl)) (pv 5)) (ai br (aF ay (aF ay (pv 0) ah (λ_ _=>rfl)) ah (λ_ _=>rfl)) (pv 6))))
  (@aq _ _ _ _ _ (aE (i:=9) cU.nd rfl (Or.inl rfl) (ai bW (ai br (pv 8) (pv 8)) (ai br (ai br ah (aF ay (aF ay (pv 0) ah (λ_ _=>rfl)) ah (λ_ _=>rfl))) (ai bW (pv 7) (pv 1)))))
  (@aL _ _ _ (dW (bO Dn (pv 9) ah (cg _)) (@aq _ _ _ _ _ (aE (i:=10) cU.nd rfl (Or.inl rfl) (aR gM hr rfl aQ (af (pv 9) ak)))
  (@aL _ _ _ (dW (bO wV (ai br (pv 10) (pv 10)) (pv 9) (cg _)) (@aL _ _ _ (kh PassesOwn.never rfl (gP (uz xZ (cV (af (ai bW (ai bW ah (pv 8)) (pv 10)) (af (ai bW (pv 10) (pv 8)) ak))) xW (xX (ai aP ah (w5 Ey rfl bV PyProof.Rows.boot_int (af (qm oZ (pv 10) ah (cg _)) ak)))))) (aV (i:=11) cU.nd rfl (Or.inl rfl)) (dh (dW (bO wV (ai c9 (pv 11) (aF ay (aF ay (pv 0) ah (λ_ _=>rfl)) ah (λ_ _=>rfl))) ah (cg _)) (@aL _ _ _ (oE (GR PySem.F.plainAttrs_list PySem.F.slot_list_append PySem.F.type_list_append kU (pv 2) (af (cV (af (pv 5) (af (pv 6) (af (ai bT (pv 11) (aF ay (aF ay (pv 0) ah (λ_ _=>rfl)) ah (λ_ _=>rfl))) ak)))) ak)))) eT)))) eT))) eT))))))))))
  (@aL _ _ _ (bh (e7 (tF (fE.DP hr)) rfl aM PyProof.Rows.boot_sorted (af (pv 2) ak)))))))),?_⟩
 obtain⟨c0,x1,x2,_⟩:=aZ hT ck (i:=0) (by decide)
 obtain⟨c1,y1,y2,_⟩:=aZ hT ck (i:=1) (by decide)
 obtain⟨c2,w1,w2,_⟩:=aZ hT ck (i:=2) (by decide)
 obtain⟨g0,g1,g2,D0,p0,p1,p2⟩:=FJ ev ck ab hB f0 f1
 obtain⟨lM,lJ,lK⟩:=ev.sym
 have j4:=hB 0 0 (by decide) (by decide)
 have kP:=hB 0 1 (by decide) (by decide)
 have p6:=hB 0 2 (by decide) (by decide)
 have j5:=hB 1 1 (by decide) (by decide)
 have j6:=hB 1 2 (by decide) (by decide)
 have cW:=hB 2 2 (by decide) (by decide)
 have Qh:Bd 20 m:=λi j hi hj=>Nat.lt_of_le_of_lt (hB i j hi hj) (by decide)
 have e0:Gw m 0=gm m 0 0:=by
  show ent m 1 1*ent m 2 2-ent m 1 2*ent m 1 2=ent m 1 1*ent m 2 2-ent m 1 2*ent m 2 1
  rw[lK]
 have e1:Gw m 1=gm m 1 1:=by
  show ent m 2 2*ent m 0 0-ent m 2 0*ent m 2 0=ent m 2 2*ent m 0 0-ent m 2 0*ent m 0 2
  rw[lJ]
 refine⟨by decide,λD hD=> ?_⟩
 have s0:az H (upd H D (.lst [])):=az.up hD
 refine⟨_,rfl,_,rfl,t,bs,m,n,0,rfl,hT.same s0,ck,Qh,D0,D4,n0,n6,by decide,(by(clear hD e1 cW j6 j5 p6 kP j4 lK lJ lM p2 p1 D0 g2 g1 g0 w2 w1 y2 y1 x2 x1 hu q n6 n0 D4 f1 f0 hB ab bV aM aj;omega)),(by(clear hD e1 cW j6 j5 p6 kP j4 lK lJ lM p2 p1 D0 g2 g1 g0 w2 w1 y2 y1 x2 x1 hu q n6 n0 D4 f1 f0 hB ab bV aM aj;omega)),λR0 z0 r1 r2=> ?_⟩
 refine⟨_,rfl,_,rfl,t,bs,m,n,1,rfl,hT.same s0,ck,Qh,D0,D4,n0,n6,by decide,(by(clear r2 r1 z0 hD e0 cW j6 j5 p6 kP j4 lK lJ lM p2 p0 D0 g2 g1 g0 w2 w1 y2 y1 x2 x1 hu q n6 n0 D4 f1 f0 hB ab bV aM aj;omega)),(by(clear r2 r1 z0 hD e0 cW j6 j5 p6 kP j4 lK lJ lM p2 p0 D0 g2 g1 g0 w2 w1 y2 y1 x2 x1 hu q n6 n0 D4 f1 f0 hB ab bV aM aj;omega)),λR1 z1 r3 r4=> ?_⟩
 rw[e0]at r1 r2
 rw[e1]at r3 r4
 have L0:R0<2880:=tM D0 n0 n6 p0.1 (by(clear r4 r3 z1 r2 r1 z0 hD e1 cW j6 j5 p6 kP j4 lK lJ lM p2 p1 D0 g2 g1 g0 w2 w1 y2 y1 x2 x1 hu q n6 n0 D4 f1 f0 hB ab bV aM aj;omega)) (by decide) r1
 have L1:R1<2102:=tM D0 n0 n6 p1.1 (by(clear L0 r4 r3 z1 r2 r1 z0 hD e0 cW j6 j5 p6 kP j4 lK lJ lM p2 p0 D0 g2 g1 g0 w2 w1 y2 y1 x2 x1 hu q n6 n0 D4 f1 f0 hB ab bV aM aj;omega)) (by decide) r3
 have um:∀v:Nat->Int,bE m v=n-> -R0<=v 0/\v 0<=R0:=λv e=>xM D0 (r8 ev ck ab e (by decide)) z0 r1 r2
 have in1:∀v:Nat->Int,bE m v=n-> -R1<=v 1/\v 1<=R1:=λv e=>xM D0 (r8 ev ck ab e (by decide)) z1 r3 r4
 have uo:∀v:Nat->Int,bE m v=n-> -758<=v 2/\v 2<=758:=λv e=>FL (B:=758) D0 n0 n6 p2.1 (r8 ev ck ab e (by decide)) (by omega)
 have RO:=yL ev g2 z0 z1 um in1
 have few:(Eh m n R0 R1).length<16000000:=by
  have:=IT ev g0 z1 (show(0:Int)<=758 by decide) in1 uo RO
  have k1:(2*R1+1).toNat<=4203:=by(clear this uo in1 um L0 r4 r3 r2 r1 z0 hD e1 e0 cW j6 j5 p6 kP j4 lK lJ lM p2 p1 p0 D0 g2 g1 g0 w2 w1 y2 y1 x2 x1 hu q n6 n0 D4 f1 f0 hB ab bV aM aj;omega)
  have k2:(2*(758:Int)+1).toNat=1517:=rfl
  rw[k2]at this
  have:=Nat.mul_le_mul_right 1517 k1
  (clear this k2 uo in1 um L1 L0 r4 r3 z1 r2 r1 z0 hD e1 e0 cW j6 j5 p6 kP j4 lK lJ lM p2 p1 p0 D0 g2 g1 g0 w2 w1 y2 y1 x2 x1 hu q n6 n0 D4 f1 f0 hB ab bV aM aj;omega)
 refine⟨_,_,rfl,?_⟩
 refine⟨_,rfl,_,_,rfl,rfl,_,rfl,_,_,rfl,rfl,_,_,rfl,⟨by(clear few uo in1 um L1 r4 r3 z1 r2 r1 hD e1 e0 cW j6 j5 p6 kP j4 lK lJ lM p2 p1 p0 D0 g2 g1 g0 w2 w1 y2 y1 x2 x1 hu q n6 n0 D4 f1 f0 hB ab bV aM aj;omega),by(clear few uo in1 um L1 r4 r3 z1 r2 r1 hD e1 e0 cW j6 j5 p6 kP j4 lK lJ lM p2 p1 p0 D0 g2 g1 g0 w2 w1 y2 y1 x2 x1 hu q n6 n0 D4 f1 f0 hB ab bV aM aj;omega),by(clear few uo in1 um L1 r4 r3 z1 r2 r1 hD e1 e0 cW j6 j5 p6 kP j4 lK lJ lM p2 p1 p0 D0 g2 g1 g0 w2 w1 y2 y1 x2 x1 hu q n6 n0 D4 f1 f0 hB ab bV aM aj;omega),by omega⟩,?_⟩
 refine jB (λi σ H'=> ∃o5 o6 o7 o8 o9 yN Eo as,σ=[some (.ref t),some (.int n),some (.ref D),some (.int R0),some (.int R1),o5,o6,o7,o8,o9,yN,Eo]/\SD D (upd H D (.lst [])) H'/\H' D=some (.lst (as.map V.ref))/\fW H' as/\(∀b∈as,H b=none)/\rws H' as=((dR R0).take i).flatMap λx=>(dR R1).flatMap λy=>cX m n x y) ⟨_,_,_,_,_,_,_,[],rfl,SD.refl,av,λ_ h=>(nomatch h),λ_ h=>(nomatch h),rfl⟩ (λi σ H1 hi hh=> ?_) (λσ H1 hh=> ?_)
 ·obtain⟨o5,o6,o7,o8,o9,yN,Eo,as,rfl,sD,eD,ok,fr,er⟩:=hh
  obtain⟨x,ex⟩:∃x:Int,x=(i:Int) -R0:=⟨_,rfl⟩
  have ex':0-R0+(i:Int)=x:=by(clear er fr eD hi few uo in1 um L1 L0 r4 r3 z1 r2 r1 z0 hD e1 e0 cW j6 j5 p6 kP j4 lK lJ lM p2 p1 p0 D0 g2 g1 g0 w2 w1 y2 y1 x2 x1 hu q n6 n0 D4 f1 f0 hB ab bV aM aj;omega)
  rw[ex']
  have gx:(dR R0)[i]?=some x:=by rw[ex];exact xK (by(clear ex' er fr eD few uo in1 um L1 r4 r3 z1 r2 r1 hD e1 e0 cW j6 j5 p6 kP j4 lK lJ lM p2 p1 p0 D0 g2 g1 g0 w2 w1 y2 y1 x2 x1 hu q n6 n0 D4 f1 f0 hB ab bV aM aj;omega))
  have bx:x.natAbs<=2880:=by(clear gx ex' er fr eD few uo in1 um L1 r4 r3 z1 r2 r1 hD e1 e0 cW j6 j5 p6 kP j4 lK lJ lM p2 p1 p0 D0 g2 g1 g0 w2 w1 y2 y1 x2 x1 hu q n6 n0 D4 f1 f0 hB ab bV aM aj;omega)
  have tx:=nY (λx=>(dR R1).flatMap λy=>cX m n x y) gx
  refine⟨_,rfl,_,_,rfl,rfl,_,rfl,_,_,rfl,rfl,_,_,rfl,⟨by(clear tx bx gx ex' ex er fr eD hi few uo in1 um L0 r4 r3 r2 r1 z0 hD e1 e0 cW j6 j5 p6 kP j4 lK lJ lM p2 p1 p0 D0 g2 g1 g0 w2 w1 y2 y1 x2 x1 hu q n6 n0 D4 f1 f0 hB ab bV aM aj;omega),by(clear tx bx gx ex' ex er fr eD hi few uo in1 um L0 r4 r3 r2 r1 z0 hD e1 e0 cW j6 j5 p6 kP j4 lK lJ lM p2 p1 p0 D0 g2 g1 g0 w2 w1 y2 y1 x2 x1 hu q n6 n0 D4 f1 f0 hB ab bV aM aj;omega),by(clear tx bx gx ex' ex er fr eD hi few uo in1 um L0 r4 r3 r2 r1 z0 hD e1 e0 cW j6 j5 p6 kP j4 lK lJ lM p2 p1 p0 D0 g2 g1 g0 w2 w1 y2 y1 x2 x1 hu q n6 n0 D4 f1 f0 hB ab bV aM aj;omega),by omega⟩,?_⟩
  refine jB (λj σ H'=> ∃o6 o7 o8 o9 yN Eo as,σ=[some (.ref t),some (.int n),some (.ref D),some (.int R0),some (.int R1),some (.int x),o6,o7,o8,o9,yN,Eo]/\SD D (upd H D (.lst [])) H'/\H' D=some (.lst (as.map V.ref))/\fW H' as/\(∀b∈as,H b=none)/\rws H' as=(((dR R0).take i).flatMap λx=>(dR R1).flatMap λy=>cX m n x y)++((dR R1).take j).flatMap λy=>cX m n x y) ⟨_,_,_,_,_,_,as,rfl,sD,eD,ok,fr,by rw[er];simp⟩ (λj σ H2 hj hh=> ?_) (λσ H2 hh=> ?_)
  ·clear sD eD ok fr er
   obtain⟨o6,o7,o8,o9,yN,Eo,as,rfl,sD,eD,ok,fr,er⟩:=hh
   obtain⟨y,ey⟩:∃y:Int,y=(j:Int) -R1:=⟨_,rfl⟩
   have Ed:0-R1+(j:Int)=y:=by(clear er fr eD hj tx bx gx ex' ex hi few uo in1 um L1 L0 r4 r3 z1 r2 r1 z0 hD e1 e0 cW j6 j5 p6 kP j4 lK lJ lM p2 p1 p0 D0 g2 g1 g0 w2 w1 y2 y1 x2 x1 hu q n6 n0 D4 f1 f0 hB ab bV aM aj;omega)
   rw[Ed]
   have gy:(dR R1)[j]?=some y:=by rw[ey];exact xK (by(clear Ed er fr eD tx bx gx ex' ex hi few uo in1 um L0 r4 r3 r2 r1 z0 hD e1 e0 cW j6 j5 p6 kP j4 lK lJ lM p2 p1 p0 D0 g2 g1 g0 w2 w1 y2 y1 x2 x1 hu q n6 n0 D4 f1 f0 hB ab bV aM aj;omega))
   have bY:y.natAbs<=2880:=by(clear gy Ed er fr eD tx bx gx ex' ex hi few uo in1 um L0 r4 r3 r2 r1 z0 hD e1 e0 cW j6 j5 p6 kP j4 lK lJ lM p2 p1 p0 D0 g2 g1 g0 w2 w1 y2 y1 x2 x1 hu q n6 n0 D4 f1 f0 hB ab bV aM aj;omega)
   have ty:=nY (λy=>cX m n x y) gy
   have sm:az H H2:=λa o e=>sD a o (λz=>by rw[z,hD]at e;cases e) (s0 _ _ e)
   have hT2:=hT.same sm
   have QT:ent m 2 2<1073741824:=by clear bx bY;(clear ty gy Ed er fr eD hj tx gx ex' hi few uo in1 um r4 r3 r2 r1 hD e1 e0 j6 j5 p6 kP j4 lK lJ lM p2 p1 p0 D0 g2 g1 g0 w2 w1 y2 y1 x2 x1 hu q n6 n0 D4 f1 f0 hB ab bV aM aj;omega)
   have X:=Lg bx (by decide)
   have Y:=Lg bY (by decide)
   have MX:=Lg (Az hB bx bY) (by decide)
   have ns:=IW hB bx bY n0 n6
   have C2:=Lg (show(2*ent m 2 2).natAbs<=460 by clear ns MX X Y;(clear ty bY gy Ed er fr eD hj tx bx gx ex' hi few uo in1 um r4 r3 r2 r1 hD e1 e0 j6 j5 p6 kP j4 lK lJ lM p2 p1 p0 D0 g1 g0 w2 w1 y2 y1 x2 x1 hu q n6 n0 D4 f1 f0 hB ab bV aM aj;omega)) (by decide)
   show vZ _ _ _ _ _
   with_reducible apply kg
   ·exact λR hR=>⟨_,rfl,t,_,_,_,rfl,rfl,aW.of hT2.1,x1,c0,_,_,_,rfl,rfl,aW.of (sm _ _ x2),rfl,_,rfl,_,_,rfl,rfl,.inr X,_,rfl,_,_,rfl,rfl,.inr X,_,rfl,t,_,_,_,rfl,rfl,aW.of hT2.1,y1,c1,_,_,_,rfl,rfl,aW.of (sm _ _ y2),rfl,_,rfl,_,_,rfl,rfl,.inr Y,_,rfl,_,_,rfl,rfl,.inr Y,_,_,rfl,rfl,_,_,rfl,rfl,⟨by decide,by decide⟩,hR⟩
   show vZ _ _ _ _ _
   with_reducible apply kg (v:= .int (LV m x y))
   ·exact λR hR=>⟨_,rfl,_,rfl,t,_,_,_,rfl,rfl,aW.of hT2.1,x1,c0,_,_,_,rfl,rfl,aW.of (sm _ _ x2),rfl,_,rfl,_,_,rfl,rfl,.inr X,_,rfl,_,_,rfl,rfl,.inr Y,_,_,rfl,rfl,hR⟩
   show vZ _ _ _ _ _
   with_reducible apply kg (v:= .int (oY m x y))
   ·exact λR hR=>⟨_,rfl,t,_,_,_,rfl,rfl,aW.of hT2.1,x1,c0,_,_,_,rfl,rfl,aW.of (sm _ _ x2),rfl,_,rfl,_,_,rfl,rfl,.inr X,_,rfl,t,_,_,_,rfl,rfl,aW.of hT2.1,y1,c1,_,_,_,rfl,rfl,aW.of (sm _ _ y2),rfl,_,rfl,_,_,rfl,rfl,.inr Y,_,_,rfl,rfl,hR⟩
   show vZ _ _ _ _ _
   with_reducible apply kg (v:= .int (ug m n x y))
   ·exact λR hR=>⟨_,rfl,_,rfl,_,_,rfl,rfl,.inl MX,_,rfl,t,_,_,_,rfl,rfl,aW.of hT2.1,w1,c2,_,_,_,rfl,rfl,aW.of (sm _ _ w2),rfl,_,_,rfl,rfl,.inl ⟨by decide,by decide⟩,_,rfl,_,rfl,_,_,rfl,rfl,_,_,rfl,rfl,.inl C2,_,_,rfl,rfl,hR⟩
   have stay:∀{o7 o8 o9 yN Eo:Option V},cX m n x y=[] -> ∃Wm Wn Wo Wq SV SW as,[some (V.ref t),some (.int n),some (.ref D),some (.int R0),some (.int R1),some (.int x),some (.int y),o7,o8,o9,yN,Eo]=[some (.ref t),some (.int n),some (.ref D),some (.int R0),some (.int R1),some (.int x),Wm,Wn,Wo,Wq,SV,SW]/\SD D (upd H D (.lst [])) H2/\H2 D=some (.lst (as.map V.ref))/\fW H2 as/\(∀b∈as,H b=none)/\rws H2 as=(((dR R0).take i).flatMap λx=>(dR R1).flatMap λy=>cX m n x y)++((dR R1).take (j+1)).flatMap λy=>cX m n x y:=λz=>⟨_,_,_,_,_,_,as,rfl,sD,eD,ok,fr,by rw[ty,z,List.append_nil];exact er⟩
   refine⟨_,rfl,_,_,rfl,rfl,_,rfl,iL (λc=> ?_) (λc=> ?_)⟩
   ·have q0:0<=ug m n x y:=of_decide_eq_true c
    obtain⟨v0,v1,v2⟩:=lH q0
    refine⟨_,rfl,_,rfl,q0,(by show ug m n x y<2^62;clear X Y MX C2 bx bY j4 kP p6 j5 j6 cW;(clear v2 v1 v0 q0 c stay QT ty gy Ed ey er fr eD hj tx gx ex' ex hi few uo in1 um L1 L0 r4 r3 z1 r2 r1 z0 hD e1 e0 lK lJ lM p2 p1 p0 D0 g2 g1 g0 w2 w1 y2 y1 x2 x1 hu q n6 n0 D4 f1 f0 hB ab bV aM aj;omega)),λw h0 h1 h2=> ?_⟩
    obtain rfl:=oQ h0 h1 h2
    have wb: -(2^64)<gv (ug m n x y)/\gv (ug m n x y)<2^64:=by
     refine⟨by clear X Y MX C2 bx bY j4 kP p6 j5 j6 cW ns;omega,Classical.byContradiction λc=> ?_⟩
     have:(2^64:Int)*2^64<=gv (ug m n x y)*gv (ug m n x y):=Int.mul_le_mul (by clear X Y MX C2 bx bY j4 kP p6 j5 j6 cW ns;omega) (by clear X Y MX C2 bx bY j4 kP p6 j5 j6 cW ns;omega) (by decide) v0
     clear X Y MX C2 bx bY j4 kP p6 j5 j6 cW
     (clear c h2 h1 h0 v2 v0 stay QT ty gy Ed ey er fr eD hj tx gx ex' ex hi few uo in1 um L1 L0 r4 r3 z1 r2 r1 z0 hD e1 e0 lK lJ lM p2 p1 p0 D0 g2 g1 g0 w2 w1 y2 y1 x2 x1 hu q n6 n0 D4 f1 f0 hB ab bV aM aj;omega)
    refine⟨_,rfl,_,rfl,_,_,rfl,rfl,.inl wb,_,rfl,rfl,_,rfl,iL (λcq=> ?_) (λcq=> ?_)⟩
    ·have qe:gv (ug m n x y)*gv (ug m n x y)=ug m n x y:=V.int.inj (of_decide_eq_true cq)
     have el:cX m n x y=ef m x y (g9 (gv (ug m n x y)) (oY m x y)):=by
      unfold cX
      rw[if_pos ⟨q0,qe⟩]
     generalize gv (ug m n x y)=w at v0 v1 v2 wb qe el h0 h1 h2 ⊢
     have Qi:qZ [V.int (0-oY m x y-w),.int (w-oY m x y)] none (some (1+(if decide (0<w)=true then 1 else 0)))=(g9 w (oY m x y)).map V.int:=by
      unfold g9
      by_cases z:0<w
      ·rw[if_pos (decide_eq_true z),if_pos z];rfl
      ·rw[if_neg (λy=>z (of_decide_eq_true y)),if_neg z];rfl
     refine⟨_,rfl,_,_,rfl,rfl,_,rfl,_,_,rfl,rfl,_,rfl,_,rfl,_,_,rfl,rfl,(by show 2<=sizeLine;decide),λp hp=>⟨_,rfl,_,_,rfl,rfl,.inr ⟨_,rfl,_,_,rfl,rfl,_,rfl,p,_,rfl,aW.of av,λS hS=>⟨S,rfl,⟨_,aW.of av⟩,?_⟩⟩⟩⟩
     have Nu:az H2 (upd (upd H2 p (.lst [V.int (0-oY m x y-w),.int (w-oY m x y)])) S (.lst (qZ [V.int (0-oY m x y-w),.int (w-oY m x y)] none (some (1+(if decide (0<w)=true then 1 else 0)))))):=(az.up hp).trans (az.up hS)
     obtain⟨H4,SX⟩:∃J,J=upd (upd H2 p (.lst [V.int (0-oY m x y-w),.int (w-oY m x y)])) S (.lst (qZ [V.int (0-oY m x y-w),.int (w-oY m x y)] none (some (1+(if decide (0<w)=true then 1 else 0))))):=⟨_,rfl⟩
     have eS:H4 S=some (.lst ((g9 w (oY m x y)).map V.int)):=by rw[SX,<-Qi];exact av
     have Qc:S≠D:=λz=>by rw[z,(az.up hp) _ _ eD]at hS;cases hS
     rw[<-SX]at Nu ⊢
     obtain⟨SK,QO⟩:=ok.same Nu
     refine ql (xs:=(g9 w (oY m x y)).map V.int) (λk σ H5=> ∃Eo as',σ=[some (.ref t),some (.int n),some (.ref D),some (.int R0),some (.int R1),some (.int x),some (.int y),some (.int (LV m x y)),some (.int (oY m x y)),some (.int (ug m n x y)),some (.int w),Eo]/\SD D H4 H5/\H5 D=some (.lst (as'.map V.ref))/\fW H5 as'/\(∀b∈as',H b=none)/\rws H5 as'=rws H2 as++ef m x y ((g9 w (oY m x y)).take k)) ⟨_,as,rfl,SD.refl,Nu _ _ eD,SK,fr,by rw[QO];simp[ef]⟩ (λk σ H5 hk hh=> ?_) (λk v σ H5 hv hh=> ?_) (λσ H5 hh=> ?_)
     ·obtain⟨Eo,as',rfl,NH,Lo,Lk,Gr,NI⟩:=hh
      exact aW.of (NH _ _ Qc eS)
     ·obtain⟨Eo,as',rfl,NH,Lo,Lk,Gr,NI⟩:=hh
      obtain⟨k',rfl,hk⟩:∃k',v= .int k'/\(g9 w (oY m x y))[k]?=some k':=by
       rw[List.getElem?_map]at hv
       obtain⟨k',e,rfl⟩:=Option.map_eq_some_iff.mp hv
       exact⟨k',rfl,e⟩
      have tk:ef m x y ((g9 w (oY m x y)).take (k+1))=ef m x y ((g9 w (oY m x y)).take k)++ef m x y [k']:=by
       rw[List.take_add_one,hk]
       simp[ef]
      have QU:az H H5:=λa o e=>NH a o (λz=>by rw[z,hD]at e;cases e) (Nu _ _ (sm _ _ e))
      have UL:=hT.same QU
      refine⟨_,rfl,_,rfl,t,_,_,_,rfl,rfl,aW.of UL.1,w1,c2,_,_,_,rfl,rfl,aW.of (QU _ _ w2),rfl,_,_,rfl,rfl,g2,rfl,_,rfl,iL (λc3=> ?_) (λc3=> ?_)⟩
      ·have c4:k'%ent m 2 2=0:=V.int.inj (of_decide_eq_true c3)
       refine⟨_,rfl,.inl ⟨rfl,_,aW.of Lo⟩,?_⟩
       refine⟨_,rfl,_,rfl,_,rfl,_,rfl,t,_,_,_,rfl,rfl,aW.of UL.1,w1,c2,_,_,_,rfl,rfl,aW.of (QU _ _ w2),rfl,_,_,rfl,rfl,⟨g2,QT⟩,(by show 3<=sizeLine;decide),λb hb=> ?_⟩
       have ll:as'.length<sizeLine:=by
        have e:as'.length=(rws H5 as').length:=(List.length_map _).symm
        have h1:(ef m x y ((g9 w (oY m x y)).take k)).length<=(cX m n x y).length:=by rw[el];exact kJ _ _ _
        have h2:=kJ (λy=>cX m n x y) (dR R1) (j+1)
        have h3:=kJ (λx=>(dR R1).flatMap λy=>cX m n x y) (dR R0) (i+1)
        rw[ty,List.length_append]at h2
        rw[tx,List.length_append]at h3
        have f:((dR R0).flatMap λx=>(dR R1).flatMap λy=>cX m n x y).length<16000000:=few
        rw[e,NI,er,List.length_append,List.length_append]
        show _<16777216
        clear X Y MX C2 bx bY j4 kP p6 j5 j6 cW ns wb
        (clear e hb c4 c3 tk hv hk NI Gr Lo QO Qc eS SX hS hp Qi h0 el qe v2 v1 v0 cq q0 c stay QT ty gy Ed ey er fr eD hj tx gx ex' ex hi few uo in1 um L1 L0 r4 r3 z1 r2 r1 z0 hD e1 e0 lK lJ lM p2 p1 p0 D0 g2 g1 g0 w2 w1 y2 y1 x2 x1 hu q n6 n0 D4 f1 f0 hB ab bV aM aj;omega)
       have bD:b≠D:=λz=>by rw[z,Lo]at hb;cases hb
       obtain⟨Qe,NF⟩:=fW.push (o:= .lst (as'.map V.ref++ [V.ref b])) (x:=x) (y:=y) (z:=k'/ent m 2 2) Lk Lo hb bD
       refine⟨D,as'.map V.ref,.ref b,rfl,rfl,by rw[aI (λz=>bD z.symm)];exact Lo,(by rw[List.length_map];exact ll),?_⟩
       refine⟨_,as'++ [b],rfl,(NH.trans (SD.of (az.up hb))).upd,?_,Qe,λc hc=> ?_,?_⟩
       ·rw[List.map_append]
        exact av
       ·rcases List.mem_append.mp hc with h|h
        ·exact Gr c h
        ·rw[List.mem_singleton.mp h];exact QU.none hb
       ·rw[NF,NI,tk,List.append_assoc]
        simp[ef,c4]
      ·have c4:¬k'%ent m 2 2=0:=λz=>c3 (by rw[z];exact decide_eq_true rfl)
       refine⟨_,as',rfl,NH,Lo,Lk,Gr,?_⟩
       rw[tk,NI]
       simp[ef,c4]
     ·obtain⟨Eo,as',rfl,NH,Lo,Lk,Gr,NI⟩:=hh
      refine⟨_,_,_,_,_,_,as',rfl,(sD.trans (SD.of Nu)).trans NH,Lo,Lk,Gr,?_⟩
      rw[NI,er,ty,el,List.length_map,List.take_length,List.append_assoc]
    ·exact stay (by
      unfold cX
      rw[if_neg (λz=>cq (by rw[z.2];exact decide_eq_true rfl))])
   ·exact stay (by
     unfold cX
     rw[if_neg (λz=>c (decide_eq_true z.1))])
  ·obtain⟨o6,o7,o8,o9,yN,Eo,as,rfl,sD,eD,ok,fr,er⟩:=hh
   refine⟨_,_,_,_,_,_,_,as,rfl,sD,eD,ok,fr,?_⟩
   have e:(R1+1- (0-R1)).toNat=(dR R1).length:=by rw[r6];(clear er fr eD tx bx gx ex' ex hi few uo in1 um L0 r4 r3 r2 r1 z0 hD e1 e0 cW j6 j5 p6 kP j4 lK lJ lM p2 p1 p0 D0 g2 g1 g0 w2 w1 y2 y1 x2 x1 hu q n6 n0 D4 f1 f0 hB ab bV aM aj;omega)
   rw[er,e,List.take_length,tx]
 ·obtain⟨o5,o6,o7,o8,o9,yN,Eo,as,rfl,sD,eD,ok,fr,er⟩:=hh
  have e:(R0+1- (0-R0)).toNat=(dR R0).length:=by rw[r6];(clear er fr eD few uo in1 um L1 r4 r3 z1 r2 r1 hD e1 e0 cW j6 j5 p6 kP j4 lK lJ lM p2 p1 p0 D0 g2 g1 g0 w2 w1 y2 y1 x2 x1 hu q n6 n0 D4 f1 f0 hB ab bV aM aj;omega)
  rw[e,List.take_length]at er
  have er:rws H1 as=Eh m n R0 R1:=er
  rw[<-er]at RO
  have sm:=λ(v:Nat->Int)(z:bE m v=n)(i:Nat)(hi:i<3)=>(show(v i).natAbs<=2880 by
   have a:=um v z
   have b:=in1 v z
   have c:=uo v z
   rcases bL hi with rfl|rfl|rfl<;>(clear hi z er e fr eD few uo in1 um r4 r3 r2 r1 hD e1 e0 cW j6 j5 p6 kP j4 lK lJ lM p2 p1 p0 D0 g2 g1 g0 w2 w1 y2 y1 x2 x1 hu q n6 n0 D4 f1 f0 hB ab bV aM aj;omega))
  have NJ:∀r∈rws H1 as,IK r:=λr hr i hi=>by
   obtain⟨v,rfl⟩:=RO.2.1 r hr
   have k:=sm v ((RO.2.2 v).mp hr) i hi
   refine Nat.lt_of_le_of_lt (m:=2880) ?_ (Nat.lt_of_lt_of_le (m:=2^12) (by decide) (Nat.pow_le_pow_right (by decide) (by decide)))
   rcases bL hi with rfl|rfl|rfl<;>exact k
  refine⟨_,rfl,tH (aW.of eD) ok (λb hb=>NJ _ (Eg hb)) λbs' pb so l hl=> ?_⟩
  have Lk:fW H1 bs':=λb hb=>ok b (pb.mem_iff.mp hb)
  obtain⟨Qe,NF⟩:=Lk.same (az.up (o:= .lst (bs'.map V.ref)) hl)
  have s1:az H (upd H1 l (.lst (bs'.map V.ref))):=λa o e=>(sD.trans (SD.of (az.up hl))) a o (λz=>by rw[z,hD]at e;cases e) (s0 _ _ e)
  have s2:az H H1:=λa o e=>sD a o (λz=>by rw[z,hD]at e;cases e) (s0 _ _ e)
  refine q l bs' _ s1 (s2.none hl) (λb hb=>fr b (pb.mem_iff.mp hb)) av Qe ?_ (by rw[NF];exact so)
  rw[NF]
  exact RO.perm (Ax pb)
noncomputable def Ep(K:PySem.W.Frag)(tabs gz:List Addr):Sp:=λvs H Q _=> ∃(a:Addr)(ns:List Int),vs=[.ref a]/\aW K H a (ns.map V.int)/\ns.length<=63/\(∀T∈tabs,H T=some (dS T))/\(∀T∈gz,H T=some .zu)/\ ∀H',az H H'->Q (.bl true) H'
theorem NK{f:Addr}{fd:FuncData}{bu aX aD bC aG aS:Addr}{tabs gz:List Addr}(su:bu∈tabs)(n9:aX∈tabs)(iE:aD∈tabs)(p7:bC∈tabs)(p8:aG∈tabs)(oh:aS∈gz)(F:LG K "law" "law" qM f fd)(aj:mg "range"=none)(dZ:mg "list"=none)(bV:mg "int"=none)(aH:mg "isinstance"=none)(eV:mg "bool"=none)(iJ:dM P w K mg base cY 12 "_law_number" gu (yQ K))(oi:dM P w K mg base cY 12 "_law_form" iQ Jc)(mF:dM P w K mg base cY 12 "_law_basis" gX Ek)(ic:dM P w K mg base cY 12 "_law_product" f7 El)(gK:dM P w K mg base cY 12 "_law_over" gI rS)(oj:dM P w K mg base cY 12 "_law_rows" iR En)(dP:dM P w K mg base cY 12 "_law_det" f9 vE)(mG:dM P w K mg base cY 12 "how_many" jS (Cy bu aX aD bC aG aS))(kK:dM P w K mg base cY 12 "least_worth" gr (AD bu aX aD bC aG aS)):qp P w K mg base cY 13 f fd ["_law_script"] (Ep K tabs gz):=by
 refine F.ok mh (λvs H Q E h=> ?_) (λcdv A outer s H vs Q E hr h=> ?_)
 ·obtain⟨a,ns,rfl,hS,h63,hT,hC,q⟩:=h
  rfl
 obtain⟨a,ns,rfl,hS,h63,hT,hC,q⟩:=h
 have hu:=hr.units
 refine⟨_,(mY (@aq _ _ _ _ _ (aE (i:=1) mh.nd rfl (Or.inl rfl) (aR oi hr rfl aQ (af (aR iJ hr rfl aQ (af (pv 0) (af ah ak))) (af ah ak))))
  (@aq _ _ _ _ _ (aE (i:=2) mh.nd rfl (Or.inl rfl) (aR mF hr rfl aQ (af (aR iJ hr rfl aQ (af (pv 0) (af ah ak))) (af ah (af ah ak)))))
  (@aq _ _ _ _ _ (aE (i:=3) mh.nd rfl (Or.inl rfl) (aR ic hr rfl aQ (af (aR ic hr rfl aQ (af (pv 2) (af (pv 1) ak))) (af (aR gK hr rfl aQ (af (pv 2) ak)) ak))))
  (@aq _ _ _ _ _ (aE (i:=4) mh.nd rfl (Or.inl rfl) ah)
  (@aq _ _ _ _ _ (jF PassesOwn.never (bO (Hu hu) (aR oj hr rfl aQ (af (pv 1) (af (pv 4) ak))) (cV ak) (cg _)) (dh (aE (i:=4) mh.nd rfl (Or.inl rfl) (ai aP (pv 4) ah))))
  (@aq _ _ _ _ _ (@kh _ _ _ _ _ _ _ _ PassesOwn.never rfl (@gP _ _ _ _ (@cV _ _ _ _ (@af _ _ _ _ _ (pv 1) (@af _ _ _ _ _ (pv 3) ak (by rfl)) (by rfl)))) (aV (i:=5) mh.nd rfl (Or.inr rfl)) (mY (@aq _ _ _ _ _ (MT (i:=6) mh.nd rfl rfl (N2:=["_law_script","_law_form_here","_law_basis_here","_law_there","_law_due","_law_one","_law_handed","_law_found"]) (te:=(Qp (DE K) (eE (b9 0) kT))) rfl (gP (pv 5)) (by kernel_rfl) rfl (λ_ _ _=>by exact jZ (w5 x6 rfl dZ PyProof.Rows.boot_list (af (pv 0) ak))))
  (@aq _ _ _ _ _ (aE (i:=7) mh.nd rfl (Or.inl rfl) (aR kK hr rfl aQ (af (pv 6) ak)))
  (@aq _ _ _ _ _ (dW (PW.pt (sU (qX (lP (e7 gG rfl aH PyProof.Rows.boot_isinstance (af (pv 7) (af (oB (v:= .ty "int") rfl bV PyProof.Rows.boot_int rfl) ak))))) (sU (lP (e7 gG rfl aH PyProof.Rows.boot_isinstance (af (pv 7) (af (oB (v:= .ty "bool") rfl eV PyProof.Rows.boot_bool rfl) ak)))) (sU (bO GN (pv 7) (pv 4) (cg _)) (uu (bO (Hv hu) (pv 6) (pv 5) (cg _))))))) (@aL _ _ _ (bh ur)) eT)
  (@aL _ _ _ (dW (PW.pt (sU (bO wV (aR mG hr rfl aQ (af (pv 5) (af (pv 4) ak))) ah (cg _)) (uu (bO (Hv hu) (Kp (N2:=["_law_script","_law_form_here","_law_basis_here","_law_there","_law_due","_law_one","_law_handed","_law_found"]) (tt:=(LB (jn (Di λi j=> .bl (decide (j<i))) (mT (Cy bu aX aD bC aG aS) [] E0 (eE (b9 6) (eE (b9 0) kT))) (tC (.int 0))))) (te:=(b9 0)) rfl (kQ rfl aj (af ah (af (pv 4) ak))) (by kernel_rfl) rfl (λ_ _ _=>by exact Sb (bO oZ (aR mG hr rfl aQ (af (pv 6) (af (pv 0) ak))) ah (cg _))) (λ_ _ _=>by exact jZ (pv 0))) (cV ak) (cg _))))) (@aL _ _ _ (bh ur)) eT)))))) (by intro _;rfl))
  (@aL _ _ _ (bh (qm uy (ai br (ai br (ai br ah (pv 4)) (pv 4)) (pv 4)) (ai br ah (aR dP hr rfl aQ (af (pv 1) ak))) (cg _))))))))))),?_⟩
 refine⟨_,rfl,a,ns,_,rfl,hS,h63,by omega,λz0=>⟨_,_,rfl,by decide,λfa fb fc fp fq fr t bs H1 hF hd s1 ft yW nt nd T=> ?_⟩⟩
 obtain⟨i1,i2,i3,⟨i4,Oi,qT⟩,i5,i6,i7,i8,i9,JG,CA⟩:=hF
 have bM:Bd 30 (gn (2*fa) (2*fb) (2*fc) fp fq fr):=yj (by(clear CA JG i9 i8 i7 i6 i5 qT i4 i3 i2 nt yW ft hd hu q hC hT h63 eV aH bV dZ aj;omega)) (by(clear CA JG i9 i8 i7 i6 i5 qT nt yW ft hd hu q hC hT h63 eV aH bV dZ aj;omega)) (by(clear CA i8 i7 i6 i5 qT Oi i2 i1 nt yW ft hd hu q hC hT h63 eV aH bV dZ aj;omega)) (by(clear CA JG i9 i8 i7 qT i4 i3 i2 nt yW ft hd hu q hC hT h63 eV aH bV dZ aj;omega)) (by(clear CA JG i9 i6 i5 qT i4 i3 i2 nt yW ft hd hu q hC hT h63 eV aH bV dZ aj;omega)) (by(clear CA i8 i7 i6 i5 qT Oi i2 i1 nt yW ft hd hu q hC hT h63 eV aH bV dZ aj;omega))
 have hB:∀i j,i<3->j<3->(ent (gn (2*fa) (2*fb) (2*fc) fp fq fr) i j).natAbs<=230:=IY (by(clear CA JG i9 i8 i7 i6 i5 qT i4 i3 i2 nt yW ft hd hu q hC hT h63 eV aH bV dZ aj;omega)) (by(clear CA JG i9 i8 i7 i6 i5 qT nt yW ft hd hu q hC hT h63 eV aH bV dZ aj;omega)) (by(clear CA i8 i7 i6 i5 qT Oi i2 i1 nt yW ft hd hu q hC hT h63 eV aH bV dZ aj;omega)) (by(clear CA JG i9 i8 i7 qT i4 i3 i2 nt yW ft hd hu q hC hT h63 eV aH bV dZ aj;omega)) (by(clear CA JG i9 i6 i5 qT i4 i3 i2 nt yW ft hd hu q hC hT h63 eV aH bV dZ aj;omega)) (by(clear CA i8 i7 i6 i5 qT Oi i2 i1 nt yW ft hd hu q hC hT h63 eV aH bV dZ aj;omega))
 have cM:cJ (gn (2*fa) (2*fb) (2*fc) fp fq fr):=cK _
 have ev:=EN fa fb fc fp fq fr
 have ab:=BK i1 i2 i5 i6 CA
 have f0:ent (gn (2*fa) (2*fb) (2*fc) fp fq fr) 0 0<=16:=by show 2*fa<=16;omega
 have f1:ent (gn (2*fa) (2*fb) (2*fc) fp fq fr) 1 1<=30:=by show 2*fb<=30;omega
 generalize gn (2*fa) (2*fb) (2*fc) fp fq fr=M at T bM hB cM ev ab hd f0 f1
 have D4:aA M<=401:=by(clear f1 f0 ab hB CA JG i9 i8 i7 i6 i5 qT Oi i4 i3 i2 i1 nt yW ft hu q hC hT h63 eV aH bV dZ aj;omega)
 clear i1 i2 i3 i4 Oi qT i5 i6 i7 i8 i9 JG CA
 obtain⟨w,LW,UM⟩:=FU ev cM ab
 have w0:=LW.pos
 have hl:(ns.map V.int).length=ns.length:=List.length_map _
 refine⟨_,rfl,a,ns,_,rfl,s1.seq hS,h63,by omega,λz1=>⟨_,_,_,rfl,by decide,by decide,by decide,by decide,λmb tb UN H2 cb dB CB s2 UO UP UQ Tb=> ?_⟩⟩
 have dB:Bd 77 mb:=dB.mono (by decide)
 refine⟨_,rfl,_,rfl,tb,UN,mb,t,bs,M,rfl,Tb,T.same s2,cb,cM,dB.mono (by decide),bM.mono (by decide),λr rs H3 s3 fr frs nr Tr=> ?_⟩
 refine⟨_,rfl,tb,UN,mb,rfl,Tb.same s3,cb,λo os H4 s4 fo Sn no To=> ?_⟩
 refine⟨r,rs,_,o,os,_,rfl,Tr.same s4,To,cK _,cK _,(t9 dB bM).mono (by decide),(uI dB).mono (by decide),λu us H5 s5 fu PR nu Tu=> ?_⟩
 have UR:=s2.trans (s3.trans (s4.trans s5))
 have US:=s1.trans UR
 have T5:=T.same UR
 have Tu:Tab H5 u us (dU M mb):=Tu
 have cC:cJ (dU M mb):=(show cJ (iN (iN mb M) (cR mb))from cK _)
 have dC:Bd 440 (dU M mb):=(t9 (t9 dB bM) (uI dB)).mono (by decide)
 have UT:=xr ev cM cb
 have QV:=uO (eG ev cM) ab cb CB
 have QW:aA (dU M mb)/2<=200:=by rw[qD CB];exact hd
 have NL:∀{n:Int}{L L':List (List Int)},e9 (dU M mb) n L->e9 M n L'->L.length=L'.length:=λh h'=>by
  rw[<-List.length_map (FI mb)]
  exact IZ (vq CB h) h'
 have UU:=LW.dU CB
 have QX:aA (dU M mb)=aA M:=qD CB
 generalize dU M mb=C at UU QX Tu cC dC UT QV QW NL
 refine gN ?_
 refine kR (λσ H'=> ∃d:Int,σ=[some (.ref a),some (.ref t),some (.ref tb),some (.ref u),some (.int d),none,none,none]/\1<=d/\d<=w/\az H5 H') (λσ _=>match σ with| [_,_,_,_,some (.int d),_,_,_]=>(w-d).toNat|_=>0) ⟨1,rfl,by decide,by omega,az.refl _⟩ (λσ H6 hh=> ?_) ?_
 rotate_left
 ·rintro σ H' Q Q' h ⟨v1,e1,v2,e2,t,bs,m,n,e,T,c,ev,ab,hB,f0,f1,D4,n0,n6,q⟩
  refine⟨v1,e1,v2,e2,t,bs,m,n,e,T,c,ev,ab,hB,f0,f1,D4,n0,n6,λr as H' s fr UC er ok R so=> ?_⟩
  obtain⟨z,k⟩:=q r as H' s fr UC er ok R so
  refine⟨z,λE hE=> ?_⟩
  obtain⟨da,db,r1,r2,s1,s2,b,eb,k⟩:=k E hE
  exact⟨da,db,r1,r2,s1,s2,b,eb,h _ _ k⟩
 obtain⟨d,rfl,d1,dw,s6⟩:=hh
 have WJ:=US.trans s6
 refine⟨_,rfl,_,rfl,t,bs,M,d,rfl,T5.same s6,cM,ev,ab,hB,f0,f1,D4,by omega,by omega,λdu UW H8 s8 UX Qj SY okd Rd sd=> ?_⟩
 refine⟨(by show 0<=sizeLine;decide),λWr Tc=> ?_⟩
 have uE:=az.up (o:= .lst []) Tc
 obtain⟨ok',Te⟩:=okd.same uE
 have Td:Tab _ du UW (rws H8 UW):=Te▸KH (uE _ _ SY) ok'
 have Qk:=s6.trans (s8.trans uE)
 refine Li Td ⟨av,.nil⟩ ⟨_,rfl,iL (λc=> ?_) (λc=> ?_)⟩
 ·have c:=of_decide_eq_true c
  have nw:d≠w:=λz=>(LW.rows Rd).1 z c
  refine⟨_,rfl,_,_,rfl,rfl,?_⟩
  exact⟨⟨_,rfl,by omega,by omega,Qk⟩,by show(w- (d+1)).toNat<(w-d).toNat;(clear c Te Tc SY Qj UX d1 NL QW QV QX nu PR fu no Sn fo nr frs fr UQ UP UO CB hl w0 UM D4 f1 f0 hd ab hB nt yW ft hu q hC hT h63 eV aH bV dZ aj;omega)⟩
 have ed:d=w:=Classical.byContradiction λz=>by
  have:=(LW.rows Rd).2 (by omega) (by omega)
  rw[this]at c
  exact absurd c (by decide)
 subst ed
 clear Td ok' Te uE UX Qj SY okd sd Tc c
 have TM:=T5.same Qk
 have TC:=Tu.same Qk
 have Tg:=US.trans Qk
 obtain⟨H9,UY⟩:∃J,J=upd H8 Wr (.lst []):=⟨_,rfl⟩
 rw[<-UY]at TM TC Tg Qk ⊢
 clear UY
 refine⟨_,rfl,_,rfl,(by show 2<=sizeLine;decide),λp hp=> ?_⟩
 have sp:=az.up (o:= .lst [V.ref t,.ref u]) hp
 obtain⟨J,eJ⟩:∃J,J=upd H9 p (.lst [V.ref t,.ref u]):=⟨_,rfl⟩
 have ep:J p=some (.lst [V.ref t,.ref u]):=by rw[eJ];exact av
 rw[<-eJ]at sp ⊢
 have TM:=TM.same sp
 have TC:=TC.same sp
 have UZ:=Tg.trans sp
 clear eJ hp Tg
 refine⟨p,rfl,⟨_,aW.of ep⟩,?_⟩
 refine ql (xs:=[V.ref t,.ref u]) (λj σ H'=> ∃o5 o6 o7,σ=[some (.ref a),some (.ref t),some (.ref tb),some (.ref u),some (.int d),o5,o6,o7]/\az J H'/\(0<j->8*d*d*d<=2*aA M)) ⟨_,_,_,rfl,az.refl _,λz=>absurd z (by decide)⟩ (λj σ K1 hj hh=> ?_) (λj v σ K1 hv hh=> ?_) (λσ K1 hh=> ?_)
 ·obtain⟨o5,o6,o7,rfl,sK,_⟩:=hh
  exact aW.of (sK _ _ ep)
 ·obtain⟨o5,o6,o7,rfl,sK,_⟩:=hh
  obtain⟨f',yW,F,rfl,Tf,cF,dF,Ti,QY,QZ,LF,Va⟩:∃f' yW F,v=V.ref f'/\Tab J f' yW F/\cJ F/\Bd 440 F/\b8 F/\bZ F=true/\aA F/2<=200/\iD F d/\aA F=aA M:=by
   have hm:=List.mem_of_getElem? hv
   simp only[List.mem_cons,List.not_mem_nil,or_false]at hm
   rcases hm with rfl|rfl
   ·exact⟨_,_,_,rfl,TM,cM,bM.mono (by decide),ev,ab,hd,LW,rfl⟩
   ·exact⟨_,_,_,rfl,TC,cC,dC,UT,QV,QW,UU,QX⟩
  clear hv
  have Ql:=Tf.same sK
  have Tj:=UZ.trans sK
  refine⟨_,rfl,f',rfl,⟨_,aW.of Ql.1⟩,λD hD=>HR Ql (by rw[cF.1];decide) hD λWs K2 k2 Wt nh WK Th=> ?_⟩
  have Oj:=Tj.trans k2
  refine⟨_,rfl,D,Ws,F,rfl,Th,cF,dF,Ti,QY,QZ,(Oj) _ _ (hT _ su),(Oj) _ _ (hT _ n9),(Oj) _ _ (hT _ iE),(Oj) _ _ (hT _ p7),(Oj) _ _ (hT _ p8),(Oj) _ _ (hC _ oh),λBB K3 NT uB dt k3=> ?_⟩
  obtain⟨ew,gs⟩:=yP LF uB NT
  rw[ew]
  rw[Va]at gs
  clear NT uB dt ew
  refine⟨_,rfl,_,_,_,_,rfl,.int _,qy K "int",_,rfl,zE ⟨_,rfl,_,_,_,_,rfl,.int _,qz K,_,rfl,zE ?_⟩⟩
  refine⟨_,rfl,_,rfl,rfl,_,rfl,zF rfl ?_⟩
  refine⟨_,rfl,_,rfl,Lh (Th.same k3) ((Ql.same k2).same k3) ⟨_,rfl,zF rfl ?_⟩⟩
  have Am:=k2.trans k3
  have Ol:=Tj.trans Am
  refine⟨_,rfl,_,rfl,f',yW,F,d,rfl,Ql.same Am,cF,dF,Ti,QY,QZ,by omega,by omega,(Ol) _ _ (hT _ su),(Ol) _ _ (hT _ n9),(Ol) _ _ (hT _ iE),(Ol) _ _ (hT _ p7),(Ol) _ _ (hT _ p8),(Ol) _ _ (hC _ oh),λL1 K4 k4 R1=> ?_⟩
  refine⟨rfl,_,rfl,iL (λc=> ?_) (λc=> ?_)⟩
  ·have c:=V.int.inj (of_decide_eq_true c)
   exact absurd (List.length_eq_zero_iff.mp (by omega)) ((LF.rows R1).1 rfl)
  clear c R1
  have Ct:=Am.trans k4
  refine⟨_,rfl,1,d,rfl,⟨by decide,by decide,by omega,by omega⟩,λD2 Ag=>zZ EU (by rw[lU];show _<=16777216;omega) Ag (λ_=>false) id (λx hx Ha R sa kk=> ?_) (λx hx px=>absurd px (by decide)) (λHa sa ea=> ?_)⟩
  ·obtain⟨m,rfl,m1,m2⟩:∃m:Int,x= .int m/\1<=m/\m<d:=by
    obtain⟨i,hi⟩:=List.mem_iff_getElem?.mp hx
    obtain⟨hj,rfl⟩:=BO hi
    exact⟨_,rfl,by omega,by(clear hi kk Ag gs nh Wt hD Va QZ QY ep dw w0 UM NL QW QV QX nu PR fu no Sn fo nr frs fr UQ UP UO CB hl D4 f1 f0 hd ab hB nt ft hu q hC hT h63 eV aH bV dZ aj;omega)⟩
   have Om:=(Tj.trans Ct).trans sa
   refine⟨_,rfl,_,rfl,f',yW,F,m,rfl,(Ql.same Ct).same sa,cF,dF,Ti,QY,QZ,by omega,by omega,(Om) _ _ (hT _ su),(Om) _ _ (hT _ n9),(Om) _ _ (hT _ iE),(Om) _ _ (hT _ p7),(Om) _ _ (hT _ p8),(Om) _ _ (hC _ oh),λL2 Hb sb R2=> ?_⟩
   have e0:=(LF.rows R2).2 (by omega) m2
   rw[e0]
   exact⟨_,_,rfl,rfl,_,rfl,kk Hb sb⟩
  refine⟨(by show 0<=sizeLine;decide),λE1 Wu=> ?_⟩
  have u1:=az.up (o:= .lst []) Wu
  have ea:Ha D2=some (.lst []):=ea.trans (by simp)
  refine Nb (xs:=[]) (ys:=[]) (aW.of (u1 _ _ ea)) (aW.of av) ⟨_,rfl,zF rfl ?_⟩
  exact⟨_,_,_,rfl,sK.trans (Ct.trans (sa.trans u1)),λ_=>gs⟩
 ·obtain⟨o5,o6,o7,rfl,sK,gs⟩:=hh
  have g8:=gs (Nat.succ_pos 1)
  have d8:d<=8:=by omega
  have dd:=Int.mul_le_mul d8 d8 (by omega) (by decide)
  have WL:=Int.mul_nonneg (show 0<=d by omega) (show 0<=d by omega)
  have e8:8*d*d=8*(d*d):=by grind
  have Wv:=TM.same sK
  refine⟨_,rfl,_,_,rfl,rfl,.inl ⟨by decide,by decide⟩,_,rfl,_,_,rfl,rfl,.inr ⟨by omega,by omega⟩,_,rfl,_,_,rfl,rfl,.inr ⟨by omega,by omega⟩,_,rfl,t,bs,M,rfl,Wv,cM,bM.mono (by decide),_,_,rfl,rfl,.inl ⟨by decide,by decide⟩,_,_,rfl,rfl,?_⟩
  rw[show decide (8*d*d*d<=2*aA M)=true from decide_eq_true g8]
  exact q _ (UZ.trans sK)
end
theorem all_mk{l:PySem.W.OpenLaw}{q:Program}{loose:List Str}{mean:ExcName->Option Value}{w:World}{K:PySem.W.Frag}{h:Heap}{mg mb:Str->Option Value}{fa xN wJ vF wK Lp FY FZ CC AG vG mX Ga NN xO Lq yX Gb yY vH CD yZ NO NP Jd AH tX CF wL vI wM CG y9 AI zc AJ zd vJ AK ze AL Je:Addr}(X:K.In h)(Tp:PyProof.Rows.Top q loose mean mg mb h)(Ww:mg "law"=some (.ref fa))
  (sy:FnAt K "product" rG xN)
  (kL:FnAt K "turned_over" kC wJ)
  (jW:FnAt K "signed_minor" jQ vF)
  (kM:FnAt K "determinant" kD wK)
  (zf:FnAt K "cover" yz Lp)
  (sE:FnAt K "carried" rH FY)
  (sG:FnAt K "low_row" rM FZ)
  (p9:FnAt K "is_whole" pO CC)
  (vK:FnAt K "is_row" uW AG)
  (qa:FnAt K "is_table" pP vG)
  (ji:FnAt K "is_even_table" jc mX)
  (sI:FnAt K "is_form" rK Ga)
  (CH:FnAt K "half" Cg NN)
  (sJ:FnAt K "pairing" rL xO)
  (zg:FnAt K "worth" yC Lq)
  (mH:FnAt K "less_times" lY yX)
  (sL:FnAt K "nearest" rO Gb)
  (mJ:FnAt K "least_pair" lZ yY)
  (qb:FnAt K "in_order" pR vH)
  (qc:FnAt K "drawn_in" pT CD)
  (mK:FnAt K "near_basis" l5 yZ)
  (CI:FnAt K "near" Cj NO)
  (CJ:FnAt K "root" Ck NP)
  (vM:FnAt K "slices" uY Jd)
  (om:FnAt K "near_rows" nN AH)
  (jk:FnAt K "refuse_others" jd tX)
  (qd:FnAt K "how_many" pU CF)
  (kN:FnAt K "least_worth" kF wL)
  (jX:FnAt K "_law_cell_at" jT vI)
  (kO:FnAt K "_law_number" kG wM)
  (qf:FnAt K "_law_det" pV CG)
  (mL:FnAt K "_law_shape" l7 y9)
  (oq:FnAt K "_law_form" nQ AI)
  (mO:FnAt K "_law_basis" l8 zc)
  (ou:FnAt K "_law_over" nO AJ)
  (mP:FnAt K "_law_along" l6 zd)
  (jY:FnAt K "_law_product" jU vJ)
  (ow:FnAt K "_law_root" nS AK)
  (mQ:FnAt K "_law_reach" l9 ze)
  (oA:FnAt K "_law_rows" nT AL)
  {NQ Jf:Option Addr}{NR:Array (Option Value)}{NS Jg Jh Ji CK Jj:Value}(Er:PySem.W.nsIn K mainGlobals "law"=some (some (.ref Je)))(Jk:K.lookup Je=some ⟨NS,NQ,.func (PySem.W.fnOf "law" "law" (gw qM) (eZ qM) (aB qM) .none Jg Jh Ji Jf CK Jj),NR⟩)(Jl:PySem.W.codeIn K CK "law"=true)(Jm:PySem.W.keepIn K (.ref Je)=true)
  {Gd:DefRec}(sM:(PyProof.Rows.recsOf q).find? (λe=>e.name==("product":Str))=some Gd)
  {Jo:DefRec}(vN:(PyProof.Rows.recsOf q).find? (λe=>e.name==("is_row":Str))=some Jo)
  {CL:DefRec}(qg:(PyProof.Rows.recsOf q).find? (λe=>e.name==("is_table":Str))=some CL)
  {tY:DefRec}(jl:(PyProof.Rows.recsOf q).find? (λe=>e.name==("is_even_table":Str))=some tY)
  {Ge:DefRec}(sN:(PyProof.Rows.recsOf q).find? (λe=>e.name==("pairing":Str))=some Ge)
  {CM:DefRec}(qh:(PyProof.Rows.recsOf q).find? (λe=>e.name==("in_order":Str))=some CM)
  (Jp:PySem.W.nsIn K mainGlobals "sum"=some none)
  (oO:PySem.W.nsIn K mainGlobals "range"=some none)
  (mR:PySem.W.nsIn K mainGlobals "isinstance"=some none)
  (Jq:PySem.W.nsIn K mainGlobals "int"=some none)
  (y_bool:PySem.W.nsIn K mainGlobals "bool"=some none)
  (CN:PySem.W.nsIn K mainGlobals "list"=some none)
  (Jr:PySem.W.nsIn K mainGlobals "len"=some none)
  (Js:PySem.W.nsIn K mainGlobals "all"=some none)
  {jf:_}(jm:PySem.W.nsIn K mainGlobals "GREATEST_HALF"=some (some (Value.int 200 jf)))
  (Jt:PySem.W.nsIn K mainGlobals "zip"=some none)
  (vO:PySem.W.nsIn K mainGlobals "sorted"=some none)
  {iB:_}(iF:PySem.W.nsIn K mainGlobals "GREATEST_WORTH"=some (some (Value.int 600 iB)))
  (Ju:PySem.W.nsIn K mainGlobals "abs"=some none)
  (ap:Hw K [xN,AG,vG,mX,xO] [vH]=true)
  :∃(fd:FuncData)(tabs gz:List Addr),(∀(s:Shared)(v:Value),BindsTo s fd ⟨[v],[]⟩ [("_law_script",v)])/\(∀T∈tabs++gz,isCodeTable h T/\h.get? T=some {cls:= .none,data:= .fields #[]})/\(∀T∈tabs,T∉gz)/\ ∀base:Heap,K.In base->base.Ns mainGlobals mg->BM mg base->qp l.prog w K mg base cY 40 fa fd ["_law_script"] (Ep K tabs gz):=by
 have G:=Tp.g
 have e:=Ww.symm.trans (PySem.W.mg_of X G Er)
 cases e
 have Vb:=PySem.W.mg_of X G Er
 obtain⟨bC,Gf,CO,CP,CQ⟩:=sy.Fv (ps:=lC) Tp X sM (λ_ _ _ _ _ _ us hl=>match us,hl with| [_,_],_=>rfl)
 have wN:=kL.fun (ps:=fM) Tp X (λ_ _ _ _ _ _ us hl=>match us,hl with| [_],_=>rfl)
 have vP:=jW.fun (ps:=fY) Tp X (λ_ _ _ _ _ _ us hl=>match us,hl with| [_,_,_],_=>rfl)
 have wO:=kM.fun (ps:=eU) Tp X (λ_ _ _ _ _ _ us hl=>match us,hl with| [_],_=>rfl)
 have Lr:=zf.fun (ps:=qL) Tp X (λ_ _ _ _ _ _ us hl=>match us,hl with| [_],_=>rfl)
 have Gg:=sE.fun (ps:=lD) Tp X (λ_ _ _ _ _ _ us hl=>match us,hl with| [_,_],_=>rfl)
 have Gh:=sG.fun (ps:=lF) Tp X (λ_ _ _ _ _ _ us hl=>match us,hl with| [_],_=>rfl)
 have CS:=p9.fun (ps:=iu) Tp X (λ_ _ _ _ _ _ us hl=>match us,hl with| [_],_=>rfl)
 obtain⟨bu,Jv,Gi,Gj,Gk⟩:=vK.Fv (ps:=nL) Tp X vN (λ_ _ _ _ _ _ us hl=>match us,hl with| [_],_=>rfl)
 obtain⟨aX,CT,AM,AN,AO⟩:=qa.Fv (ps:=jP) Tp X qg (λ_ _ _ _ _ _ us hl=>match us,hl with| [_],_=>rfl)
 obtain⟨aD,tZ,sO,sP,sQ⟩:=ji.Fv (ps:=fF) Tp X jl (λ_ _ _ _ _ _ us hl=>match us,hl with| [_],_=>rfl)
 have Gm:=sI.fun (ps:=lE) Tp X (λ_ _ _ _ _ _ us hl=>match us,hl with| [_],_=>rfl)
 have NU:=CH.fun (ps:=rN) Tp X (λ_ _ _ _ _ _ us hl=>match us,hl with| [_],_=>rfl)
 obtain⟨aG,Gn,CU,CV,CY⟩:=sJ.Fv (ps:=iw) Tp X sN (λ_ _ _ _ _ _ us hl=>match us,hl with| [_,_,_],_=>rfl)
 have Ls:=zg.fun (ps:=lX) Tp X (λ_ _ _ _ _ _ us hl=>match us,hl with| [_,_],_=>rfl)
 have zh:=mH.fun (ps:=gc) Tp X (λ_ _ _ _ _ _ us hl=>match us,hl with| [_,_,_],_=>rfl)
 have Gp:=sL.fun (ps:=lG) Tp X (λ_ _ _ _ _ _ us hl=>match us,hl with| [_,_],_=>rfl)
 have zj:=mJ.fun (ps:=gS) Tp X (λ_ _ _ _ _ _ us hl=>match us,hl with| [_,_,_],_=>rfl)
 obtain⟨aS,CZ,AQ,AR,iV⟩:=qb.Fv (ps:=iy) Tp X qh (λ_ _ _ _ _ _ us hl=>match us,hl with| [_,_],_=>rfl)
 have Dc:=qc.fun (ps:=jR) Tp X (λ_ _ _ _ _ _ us hl=>match us,hl with| [_,_,_,_],_=>rfl)
 have zk:=mK.fun (ps:=gT) Tp X (λ_ _ _ _ _ _ us hl=>match us,hl with| [_],_=>rfl)
 have NV:=CI.fun (ps:=rP) Tp X (λ_ _ _ _ _ _ us hl=>match us,hl with| [_],_=>rfl)
 have NW:=CJ.fun (ps:=rQ) Tp X (λ_ _ _ _ _ _ us hl=>match us,hl with| [_],_=>rfl)
 have Jw:=vM.fun (ps:=nM) Tp X (λ_ _ _ _ _ _ us hl=>match us,hl with| [_,_],_=>rfl)
 have AS:=om.fun (ps:=iP) Tp X (λ_ _ _ _ _ _ us hl=>match us,hl with| [_,_],_=>rfl)
 have t6:=jk.fun (ps:=fG) Tp X (λ_ _ _ _ _ _ us hl=>match us,hl with| [_,_],_=>rfl)
 have Dd:=qd.fun (ps:=jS) Tp X (λ_ _ _ _ _ _ us hl=>match us,hl with| [_,_],_=>rfl)
 have wQ:=kN.fun (ps:=gr) Tp X (λ_ _ _ _ _ _ us hl=>match us,hl with| [_],_=>rfl)
 have vQ:=jX.fun (ps:=f6) Tp X (λ_ _ _ _ _ _ us hl=>match us,hl with| [_,_],_=>rfl)
 have wR:=kO.fun (ps:=gu) Tp X (λ_ _ _ _ _ _ us hl=>match us,hl with| [_,_],_=>rfl)
 have De:=qf.fun (ps:=f9) Tp X (λ_ _ _ _ _ _ us hl=>match us,hl with| [_],_=>rfl)
 have zm:=mL.fun (ps:=gW) Tp X (λ_ _ _ _ _ _ us hl=>match us,hl with| [_,_,_,_],_=>rfl)
 have AU:=oq.fun (ps:=iQ) Tp X (λ_ _ _ _ _ _ us hl=>match us,hl with| [_,_],_=>rfl)
 have zo:=mO.fun (ps:=gX) Tp X (λ_ _ _ _ _ _ us hl=>match us,hl with| [_,_,_],_=>rfl)
 have AV:=ou.fun (ps:=gI) Tp X (λ_ _ _ _ _ _ us hl=>match us,hl with| [_],_=>rfl)
 have zp:=mP.fun (ps:=gU) Tp X (λ_ _ _ _ _ _ us hl=>match us,hl with| [_,_],_=>rfl)
 have vR:=jY.fun (ps:=f7) Tp X (λ_ _ _ _ _ _ us hl=>match us,hl with| [_,_],_=>rfl)
 have AW:=ow.fun (ps:=gJ) Tp X (λ_ _ _ _ _ _ us hl=>match us,hl with| [_],_=>rfl)
 have zq:=mQ.fun (ps:=gY) Tp X (λ_ _ _ _ _ _ us hl=>match us,hl with| [_,_,_],_=>rfl)
 have AX:=oA.fun (ps:=iR) Tp X (λ_ _ _ _ _ _ us hl=>match us,hl with| [_,_],_=>rfl)
 have Qm:=GU (st:=qM) Jk Jl Jm
 have xD:=PySem.W.mg_none_of X G Jp
 have aj:=PySem.W.mg_none_of X G oO
 have aH:=PySem.W.mg_none_of X G mR
 have bV:=PySem.W.mg_none_of X G Jq
 have eV:=PySem.W.mg_none_of X G y_bool
 have dZ:=PySem.W.mg_none_of X G CN
 have mW:=PySem.W.mg_none_of X G Jr
 have pC:=PySem.W.mg_none_of X G Js
 have jg:=PySem.W.mg_of X G jm
 have fH:=PySem.W.mg_none_of X G Jt
 have aM:=PySem.W.mg_none_of X G vO
 have iC:=PySem.W.mg_of X G iF
 have Jb:=PySem.W.mg_none_of X G Ju
 refine⟨PySem.W.fnOf "law" "law" (gw qM) (eZ qM) (aB qM) .none Jg Jh Ji Jf CK Jj,[bC,bu,aX,aD,aG],[aS],λs v=> .of_eq rfl,λT hT=> ?_,λT hT hC=> ?_,λbase NZ _ bm=> ?_⟩
 ·simp only[List.mem_append,List.mem_cons,List.not_mem_nil,or_false,or_assoc]at hT
  rcases hT with rfl|rfl|rfl|rfl|rfl|rfl
  ·exact⟨CO,CP⟩
  ·exact⟨Gi,Gj⟩
  ·exact⟨AM,AN⟩
  ·exact⟨sO,sP⟩
  ·exact⟨CU,CV⟩
  ·exact⟨AQ,AR⟩
 ·simp only[List.mem_cons,List.not_mem_nil,or_false]at hT hC
  rcases hT with e|e|e|e|e
  ·exact nC ap (by simp) (by simp) CQ iV (e.symm.trans hC)
  ·exact nC ap (by simp) (by simp) Gk iV (e.symm.trans hC)
  ·exact nC ap (by simp) (by simp) AO iV (e.symm.trans hC)
  ·exact nC ap (by simp) (by simp) sQ iV (e.symm.trans hC)
  ·exact nC ap (by simp) (by simp) CY iV (e.symm.trans hC)
 have oK:=Cm (P:=l.prog) (w:=w) (mg:=mg) (base:=base) Gf bm xD aj
 have fO:=vc (P:=l.prog) (w:=w) (mg:=mg) (base:=base) wN aj
 have jV:=tU (P:=l.prog) (w:=w) (mg:=mg) (base:=base) vP
 have dG:=ve (P:=l.prog) (w:=w) (mg:=mg) (base:=base) wO
 have yF:=IE (P:=l.prog) (w:=w) (mg:=mg) (base:=base) Lr aj jV.mono
 have rY:=Cn (P:=l.prog) (w:=w) (mg:=mg) (base:=base) Gg oK.mono fO.mono
 have rV:=Co (P:=l.prog) (w:=w) (mg:=mg) (base:=base) Gh dG.mono yF.mono
 have iz:=Ah (P:=l.prog) (w:=w) (mg:=mg) (base:=base) CS aH bV eV
 have vf:=Fx (P:=l.prog) (w:=w) (mg:=mg) (base:=base) Jv bm aH dZ mW pC iz.mono
 have pW:=Ai (P:=l.prog) (w:=w) (mg:=mg) (base:=base) CT bm aH dZ mW pC vf.mono
 have je:=rT (P:=l.prog) (w:=w) (mg:=mg) (base:=base) tZ bm pC aj pW.mono fO.mono
 have rW:=Cp (P:=l.prog) (w:=w) (mg:=mg) (base:=base) Gm je.mono rV.mono
 have se:=KS (P:=l.prog) (w:=w) (mg:=mg) (base:=base) NU jg rW.mono dG.mono
 have dN:=Cr (P:=l.prog) (w:=w) (mg:=mg) (base:=base) Gn bm xD fH
 have gZ:=IF (P:=l.prog) (w:=w) (mg:=mg) (base:=base) Ls dN.mono
 have fB:=we (P:=l.prog) (w:=w) (mg:=mg) (base:=base) zh fH
 have rX:=Cs (P:=l.prog) (w:=w) (mg:=mg) (base:=base) Gp
 have mj:=wg (P:=l.prog) (w:=w) (mg:=mg) (base:=base) zj fB.mono rX.mono dN.mono gZ.mono
 have gE:=An (P:=l.prog) (w:=w) (mg:=mg) (base:=base) CZ bm aM gZ.mono
 have pX:=Ao (P:=l.prog) (w:=w) (mg:=mg) (base:=base) Dc dN.mono fB.mono gE.mono
 have mq:=wj (P:=l.prog) (w:=w) (mg:=mg) (base:=base) zk gE.mono mj.mono pX.mono gZ.mono
 have sf:=KW (P:=l.prog) (w:=w) (mg:=mg) (base:=base) NV mq.mono rY.mono
 have pY:=KZ (P:=l.prog) (w:=w) (mg:=mg) (base:=base) NW
 have vB:=FG (P:=l.prog) (w:=w) (mg:=mg) (base:=base) Jw aj dG.mono pY.mono
 have nZ:=yM (P:=l.prog) (w:=w) (mg:=mg) (base:=base) AS aM vB.mono pY.mono
 have jh:=r9 (P:=l.prog) (w:=w) (mg:=mg) (base:=base) t6 iz.mono
 have mG:=AB (P:=l.prog) (w:=w) (mg:=mg) (base:=base) Dd mW iC se.mono jh.mono sf.mono nZ.mono
 have kK:=vC (P:=l.prog) (w:=w) (mg:=mg) (base:=base) wQ se.mono sf.mono
 have fj:=tV (P:=l.prog) (w:=w) (mg:=mg) (base:=base) vQ mW
 have iJ:=vD (P:=l.prog) (w:=w) (mg:=mg) (base:=base) wR Jb aj fj.mono
 have dP:=AF (P:=l.prog) (w:=w) (mg:=mg) (base:=base) De
 have jy:=wF (P:=l.prog) (w:=w) (mg:=mg) (base:=base) zm dP.mono
 have oi:=yR (P:=l.prog) (w:=w) (mg:=mg) (base:=base) AU jy.mono dP.mono
 have mF:=wG (P:=l.prog) (w:=w) (mg:=mg) (base:=base) zo aj fH
 have gK:=yS (P:=l.prog) (w:=w) (mg:=mg) (base:=base) AV aj
 have mE:=wH (P:=l.prog) (w:=w) (mg:=mg) (base:=base) zp
 have ic:=tW (P:=l.prog) (w:=w) (mg:=mg) (base:=base) vR gK.mono mE.mono
 have gM:=yU (P:=l.prog) (w:=w) (mg:=mg) (base:=base) AW
 have jz:=wI (P:=l.prog) (w:=w) (mg:=mg) (base:=base) zq dP.mono gM.mono
 have oj:=yV (P:=l.prog) (w:=w) (mg:=mg) (base:=base) AX aj aM bV jz.mono gM.mono
 exact(NK (P:=l.prog) (w:=w) (mg:=mg) (base:=base) (tabs:=[bC,bu,aX,aD,aG]) (gz:=[aS]) (bu:=bu) (by simp) (aX:=aX) (by simp) (aD:=aD) (by simp) (bC:=bC) (by simp) (aG:=aG) (by simp) (aS:=aS) (by simp) Qm aj dZ bV aH eV iJ.mono oi.mono mF.mono ic.mono gK.mono oj.mono dP.mono mG.mono kK.mono).mono (by decide)
theorem walk{l:PySem.W.OpenLaw}{q:Program}{loose:List Str}{XP:(Str->Option Value) ->Heap->Prop}{YP:World->Heap->Prop}{d:DefRec}{K:Params->PySem.W.Frag}(hn:l.most=some 63)(hdf:d.params.defaults=[])
  (hY:∀(w:World)(h:Heap),YP w h->(K w.params).In h)(hcl:∀(w:World),PySem.W.kb_classed (K w.params)=true)
  (F:∀(w:World)(mg mb:Str->Option Value)(mean:ExcName->Option Value)(fa:Addr)(h:Heap),(K w.params).In h->PyProof.Rows.Top q (PySem.W.looseW q loose) mean mg mb h->mg d.name=some (.ref fa) ->
   ∃(fd:FuncData)(tabs gz:List Addr),(∀(s:Shared)(u:Value),BindsTo s fd ⟨[u],[]⟩ [("_law_script",u)])/\(∀T∈tabs++gz,isCodeTable h T/\h.get? T=some {cls:= .none,data:= .fields #[]})/\(∀T∈tabs,T∉gz)/\
    ∀base:Heap,(K w.params).In base->base.Ns mainGlobals mg->BM mg base->qp l.prog w (K w.params) mg base cY 40 fa fd ["_law_script"] (Ep (K w.params) tabs gz)):
  PySem.W.WalkO q loose XP YP l.row.toRowW d [] (λf vs=>PySem.call f vs):=
 L2.Hx (n:=63) (k:=40) (x:= "_law_script") (sp:=Ep) hn (by decide) hdf ⟨rfl,by decide,by decide⟩ hY hcl F (λ_ tabs gz H a ns hl hT hC hS Q hQ=>⟨a,ns,rfl,hS,hl,hT,hC,hQ⟩)
theorem ws:PySem.W.OpenLaw.wellSaid PySem.Challenge.rw_conekin_k19_least_worths=true:=by kernel_rfl
end CW
namespace PySem.W.Fast
theorem tw14166418388438664517:True:=⟨⟩
theorem tw11988988027898005402:True:=⟨⟩
theorem tw13589310218873552759:True:=⟨⟩
theorem tw14402179653052175561:True:=⟨⟩
theorem tw4794959019044952288:True:=⟨⟩
theorem tw13626689922945295539:True:=⟨⟩
theorem tw11905451767513561684:True:=⟨⟩
theorem tw10123443302639572226:True:=⟨⟩
theorem tw671245492607881759:True:=⟨⟩
theorem tw7590788329573814729:True:=⟨⟩
theorem tw14657376867428847843:True:=⟨⟩
theorem tw8738479018832243735:True:=⟨⟩
theorem tw17568169025375817571:True:=⟨⟩
theorem tw5320107896553231387:True:=⟨⟩
theorem tw5830415723212097756:True:=⟨⟩
theorem tw14936246418763499858:True:=⟨⟩
theorem tw9376825164237783461:True:=⟨⟩
theorem tw15300028437378491756:True:=⟨⟩
theorem tw3578428552878179643:True:=⟨⟩
theorem tw6150856545427518115:True:=⟨⟩
theorem tw17979653299596121234:True:=⟨⟩
theorem tw2804030889448866201:True:=⟨⟩
theorem tw5328433846241226288:True:=⟨⟩
theorem tw1920877971417981503:True:=⟨⟩
theorem tw17148303622739042769:True:=⟨⟩
theorem tw5357153686444355972:True:=⟨⟩
theorem tw12125135172585687665:True:=⟨⟩
theorem tw1844624518534395375:True:=⟨⟩
theorem tw2250438428429401706:True:=⟨⟩
theorem tw13960837208085465650:True:=⟨⟩
theorem tw13577908125070403371:True:=⟨⟩
theorem tw6292165155482032192:True:=⟨⟩
theorem tw12890672668274699064:True:=⟨⟩
theorem tw14895540186549062144:True:=⟨⟩
theorem tw14202734430456864873:True:=⟨⟩
theorem tw11905288414548234687:True:=⟨⟩
theorem tw5840569967392758478:True:=⟨⟩
theorem tw13777935664756026483:True:=⟨⟩
theorem tw9901093963931953780:True:=⟨⟩
theorem tw10331286119142474052:True:=⟨⟩
theorem tw1327240818228178275:True:=⟨⟩
theorem tw9718257096457824364:True:=⟨⟩
theorem tw9973567279217991310:True:=⟨⟩
theorem tw2382609095888146064:True:=⟨⟩
theorem tw4550238407523257967:True:=⟨⟩
theorem tw3917117595883257623:True:=⟨⟩
theorem tw7989931676534934429:True:=⟨⟩
theorem tw10883449665062884580:True:=⟨⟩
theorem tw12871706849730275522:True:=⟨⟩
theorem tw16524203267836197701:True:=⟨⟩
theorem tw5780574159477776824:True:=⟨⟩
theorem tw3329781248239912443:True:=⟨⟩
theorem tw10790473254556588951:True:=⟨⟩
theorem tw7952249175031244071:True:=⟨⟩
theorem tw16052783200734379816:True:=⟨⟩
theorem tw13021008342734884256:True:=⟨⟩
theorem tw3437006676651097399:True:=⟨⟩
theorem tw2233709360265325324:True:=⟨⟩
theorem tw5136947096177949497:True:=⟨⟩
theorem tw17673562594574733530:True:=⟨⟩
theorem tw2868703443620093474:True:=⟨⟩
theorem tw2977895410745838560:True:=⟨⟩
theorem tw14369686214574712120:True:=⟨⟩
theorem tw7719667947372697226:True:=⟨⟩
theorem tw17863465604019413872:True:=⟨⟩
theorem tw6628548298692429807:True:=⟨⟩
theorem tw16438091742615409509:True:=⟨⟩
theorem tw17696579529864193006:True:=⟨⟩
theorem tw5939852693094179642:True:=⟨⟩
theorem tw18393854481090635947:True:=⟨⟩
theorem tw4903676464270660869:True:=⟨⟩
theorem tw13805951659023793841:True:=⟨⟩
theorem tw2549741954609171537:True:=⟨⟩
theorem tw11529912236880573525:True:=⟨⟩
theorem tw2506640690250996211:True:=⟨⟩
theorem tw16375315220894359200:True:=⟨⟩
theorem tw15597724872350609213:True:=⟨⟩
theorem tw4561274147572719310:True:=⟨⟩
theorem tw7629221315454835369:True:=⟨⟩
theorem tw288698994276672093:True:=⟨⟩
theorem tw4492029813515718498:True:=⟨⟩
theorem tw10018178944445757917:True:=⟨⟩
theorem tw17306677445415109800:True:=⟨⟩
theorem tw1889510206514993548:True:=⟨⟩
theorem tw17663233360108851240:True:=⟨⟩
theorem tw2594174609113921354:True:=⟨⟩
theorem tw7845343405547990777:True:=⟨⟩
theorem tw3801704665421161705:True:=⟨⟩
theorem tw14309405822245582590:True:=⟨⟩
theorem tw10271195740013955821:True:=⟨⟩
theorem tw8031027750745784247:True:=⟨⟩
theorem tw18081276236228474655:True:=⟨⟩
theorem tw10897694801342004350:True:=⟨⟩
theorem tw1498603010505285044:True:=⟨⟩
theorem tw1462202027356389600:True:=⟨⟩
theorem tw14475756900032006051:True:=⟨⟩
theorem tw11266548896930289045:True:=⟨⟩
theorem tw14080759686486323079:True:=⟨⟩
theorem tw16660854109342311252:True:=⟨⟩
theorem tw4939132701967197866:True:=⟨⟩
theorem tw6091565685949729529:True:=⟨⟩
theorem tw9363298219697296855:True:=⟨⟩
theorem tw15580612886460671918:True:=⟨⟩
theorem tw14637839073416018617:True:=⟨⟩
theorem tw14990608782766428310:True:=⟨⟩
theorem tw7990916116802923261:True:=⟨⟩
theorem tw15040108761781186380:True:=⟨⟩
theorem tw14384784811012808403:True:=⟨⟩
theorem tw2153425029751194791:True:=⟨⟩
theorem tw6696699110205372393:True:=⟨⟩
theorem tw758821679501944340:True:=⟨⟩
theorem tw55531560119233710:True:=⟨⟩
theorem tw12991739261806383006:True:=⟨⟩
theorem tw7269892204728275521:True:=⟨⟩
theorem tw17306385368851212273:True:=⟨⟩
theorem tw9278016342354119775:True:=⟨⟩
theorem tw8498256131146008687:True:=⟨⟩
theorem tw17697718186190224633:True:=⟨⟩
theorem tw11267725991431647325:True:=⟨⟩
theorem tw4577441609907419696:True:=⟨⟩
theorem tw988034905219254844:True:=⟨⟩
theorem tw10356541965039814280:True:=⟨⟩
theorem tw1801749375104343707:True:=⟨⟩
theorem tw6271517016472298472:True:=⟨⟩
theorem tw490993733215778505:True:=⟨⟩
theorem tw7565144744028173937:True:=⟨⟩
theorem tw361996485577299756:True:=⟨⟩
theorem tw8091610912149608991:True:=⟨⟩
theorem tw8519402345789878387:True:=⟨⟩
theorem tw8264416251491045260:True:=⟨⟩
theorem tw15755983801417068547:True:=⟨⟩
theorem tw14922733735306634993:True:=⟨⟩
theorem tw1196005982779743692:True:=⟨⟩
theorem tw8464284541533864492:True:=⟨⟩
theorem tw3289165483042860125:True:=⟨⟩
theorem tw17604702687574495938:True:=⟨⟩
theorem tw13302129368509304280:True:=⟨⟩
theorem tw12216985537165297284:True:=⟨⟩
theorem tw6790158021025873369:True:=⟨⟩
theorem tw7308149907567136668:True:=⟨⟩
theorem tw15866095604895319882:True:=⟨⟩
theorem tw5916296515937957357:True:=⟨⟩
theorem tw2556257075642639151:True:=⟨⟩
theorem tw16112985849954069788:True:=⟨⟩
theorem tw15954714482484386455:True:=⟨⟩
theorem tw15301278411554427576:True:=⟨⟩
theorem tw4711225023702964161:True:=⟨⟩
theorem tw1016773559733748698:True:=⟨⟩
theorem tw11359983117230375813:True:=⟨⟩
theorem tw7000178413648374189:True:=⟨⟩
theorem tw2779097114384232262:True:=⟨⟩
theorem tw16924932435150604439:True:=⟨⟩
theorem tw16023533324302152848:True:=⟨⟩
theorem tw13406328870098961111:True:=⟨⟩
theorem tw3840085092844780456:True:=⟨⟩
theorem tw12110313548771149543:True:=⟨⟩
theorem tw2646546992849451581:True:=⟨⟩
theorem tw8498444070752390080:True:=⟨⟩
theorem tw7955829895108863083:True:=⟨⟩
theorem tw3148466942709184521:True:=⟨⟩
theorem tw2194052434690595760:True:=⟨⟩
theorem tw1635947013574314535:True:=⟨⟩
theorem tw681552209689657710:True:=⟨⟩
theorem tw4127379727984914214:True:=⟨⟩
theorem tw13715101715552998810:True:=⟨⟩
theorem tw4904779599116690121:True:=⟨⟩
theorem tw7833485402298066471:True:=⟨⟩
theorem tw10058101621272015756:True:=⟨⟩
theorem tw3961710828992394774:True:=⟨⟩
theorem tw5071264378533777074:True:=⟨⟩
theorem tw9463000560599793472:True:=⟨⟩
theorem tw2629948883976769696:True:=⟨⟩
theorem tw8228773019454289094:True:=⟨⟩
theorem tw18349232077716932675:True:=⟨⟩
theorem tw17742547317678261718:True:=⟨⟩
theorem tw2612549985557169872:True:=⟨⟩
theorem tw327536295542158146:True:=⟨⟩
theorem tw17071328035589885642:True:=⟨⟩
theorem tw2091079503887832121:True:=⟨⟩
theorem tw2414831946746878267:True:=⟨⟩
theorem tw15855597793186094988:True:=⟨⟩
theorem tw18437486383097962428:True:=⟨⟩
theorem tw5010335690425194490:True:=⟨⟩
theorem tw13042856177197023801:True:=⟨⟩
theorem tw6370944704249858114:True:=⟨⟩
theorem tw5418212782896947416:True:=⟨⟩
theorem tw2349335255847612010:True:=⟨⟩
theorem tw17073461341108620375:True:=⟨⟩
theorem tw10701119814396389513:True:=⟨⟩
theorem tw4326584102699157322:True:=⟨⟩
theorem tw11633079976049872003:True:=⟨⟩
theorem tw2031324770844051671:True:=⟨⟩
theorem tw2737298584845344931:True:=⟨⟩
theorem tw9112714604384678032:True:=⟨⟩
theorem tw5452104404843680016:True:=⟨⟩
theorem tw2366411590378419155:True:=⟨⟩
theorem tw8298689413732473876:True:=⟨⟩
theorem tw4394860432859717231:True:=⟨⟩
theorem tw17816692890054204228:True:=⟨⟩
theorem tw12797726113744631777:True:=⟨⟩
theorem tw6517102782839942297:True:=⟨⟩
theorem tw2419806406229551601:True:=⟨⟩
theorem tw9555821471926299203:True:=⟨⟩
theorem tw8436765118764295955:True:=⟨⟩
theorem tw4603831032775932844:True:=⟨⟩
theorem tw16922109280294340567:True:=⟨⟩
theorem tw12935613161047532814:True:=⟨⟩
theorem tw12795025900718873235:True:=⟨⟩
theorem tw1044533033560521544:True:=⟨⟩
theorem tw7588400153372505771:True:=⟨⟩
theorem tw16374807432011557969:True:=⟨⟩
theorem tw5976417830962112998:True:=⟨⟩
theorem tw4774069548970506420:True:=⟨⟩
theorem tw4288199669205430100:True:=⟨⟩
theorem tw3424351427957420937:True:=⟨⟩
theorem tw2190062887324095072:True:=⟨⟩
theorem tw1222018884710867900:True:=⟨⟩
theorem tw7366692301194277533:True:=⟨⟩
theorem tw7179024468265141710:True:=⟨⟩
theorem tw2388133269692890711:True:=⟨⟩
theorem tw13051799707720314010:True:=⟨⟩
theorem tw4980441162090966872:True:=⟨⟩
theorem tw6228042295859322657:True:=⟨⟩
theorem tw5470300316201742665:True:=⟨⟩
theorem tw187036473128575242:True:=⟨⟩
theorem tw18115560321900619144:True:=⟨⟩
theorem tw5377961735066895567:True:=⟨⟩
theorem tw5008129014267923932:True:=⟨⟩
theorem tw13254742341863149160:True:=⟨⟩
theorem tw973943103851195153:True:=⟨⟩
theorem tw9731766495820141625:True:=⟨⟩
theorem tw9706939352580196213:True:=⟨⟩
theorem tw9653622306890165686:True:=⟨⟩
theorem tw9638917723486555871:True:=⟨⟩
theorem tw9618931424610384426:True:=⟨⟩
theorem tw9575580815500260065:True:=⟨⟩
theorem tw938476745339608759:True:=⟨⟩
theorem tw9228883487327213510:True:=⟨⟩
theorem tw9137673795093507952:True:=⟨⟩
theorem tw866207065101538960:True:=⟨⟩
theorem tw8556583502808972547:True:=⟨⟩
theorem tw7891513987882709340:True:=⟨⟩
theorem tw787489739269475056:True:=⟨⟩
theorem tw7830267010156177681:True:=⟨⟩
theorem tw7748886270765202549:True:=⟨⟩
theorem tw7473797926862285710:True:=⟨⟩
theorem tw7413206879257682916:True:=⟨⟩
theorem tw658946494357467028:True:=⟨⟩
theorem tw6278930434752736766:True:=⟨⟩
theorem tw6221197368180262771:True:=⟨⟩
theorem tw6020006884468948576:True:=⟨⟩
theorem tw4911245106828479819:True:=⟨⟩
theorem tw4853200428092065696:True:=⟨⟩
theorem tw4760479719170651153:True:=⟨⟩
theorem tw4647186838966441807:True:=⟨⟩
theorem tw4472530296950214704:True:=⟨⟩
theorem tw4161955844725750539:True:=⟨⟩
theorem tw4098021096955971874:True:=⟨⟩
theorem tw3744297511728831309:True:=⟨⟩
theorem tw3543614645716236247:True:=⟨⟩
theorem tw3223494580361254850:True:=⟨⟩
theorem tw3093860967003527542:True:=⟨⟩
theorem tw2449047687719117268:True:=⟨⟩
theorem tw2340699057794447335:True:=⟨⟩
theorem tw1820760969375703945:True:=⟨⟩
theorem tw18004525395809309712:True:=⟨⟩
theorem tw17992410863583353585:True:=⟨⟩
theorem tw17975357031398464160:True:=⟨⟩
theorem tw17840400833084031123:True:=⟨⟩
theorem tw17806787131009618278:True:=⟨⟩
theorem tw17804033122694766580:True:=⟨⟩
theorem tw1769600998441680221:True:=⟨⟩
theorem tw17457685767884851735:True:=⟨⟩
theorem tw17256496807813914849:True:=⟨⟩
theorem tw17155774830673668985:True:=⟨⟩
theorem tw16942265569779514499:True:=⟨⟩
theorem tw16524828601524136712:True:=⟨⟩
theorem tw16388621374906357362:True:=⟨⟩
theorem tw16302296420563659653:True:=⟨⟩
theorem tw16093326341710564973:True:=⟨⟩
theorem tw16084104617672274550:True:=⟨⟩
theorem tw16026147590410195265:True:=⟨⟩
theorem tw1589697022218141239:True:=⟨⟩
theorem tw15829088207820799390:True:=⟨⟩
theorem tw15613840002415647448:True:=⟨⟩
theorem tw15265483118902088294:True:=⟨⟩
theorem tw14973405999489822908:True:=⟨⟩
theorem tw14913143978353498694:True:=⟨⟩
theorem tw14573984296327119890:True:=⟨⟩
theorem tw14351295931331874034:True:=⟨⟩
theorem tw14185903686723373914:True:=⟨⟩
theorem tw13795745869509975666:True:=⟨⟩
theorem tw13680268459233348352:True:=⟨⟩
theorem tw13575507891754055673:True:=⟨⟩
theorem tw13414655629415953832:True:=⟨⟩
theorem tw13068313629918412040:True:=⟨⟩
theorem tw1296912281828460359:True:=⟨⟩
theorem tw12419162178914663947:True:=⟨⟩
theorem tw12387916302617104145:True:=⟨⟩
theorem tw1222456265995567861:True:=⟨⟩
theorem tw12156193995967437391:True:=⟨⟩
theorem tw12154681307113224979:True:=⟨⟩
theorem tw11908372568005544673:True:=⟨⟩
theorem tw11415138513295695946:True:=⟨⟩
theorem tw11336603356806138012:True:=⟨⟩
theorem tw11234122041413620088:True:=⟨⟩
theorem tw10607654494727026741:True:=⟨⟩
theorem tw10543706822259029106:True:=⟨⟩
end PySem.W.Fast
end
open PySem PySem.W PyProof.Rows
set_option maxRecDepth 100000 in
set_option maxHeartbeats 0 in
theorem PySem.Challenge.cw_conekin_k19_least_worths_holds : PySem.Challenge.rw_conekin_k19_least_worths.Holds := by
 w_on;refine PySem.W.holds_law CW.ws λsaid=> ?_;k_head;(case hw=>w_witness2)
 k_fill
 refine CW.walk (l:=PySem.Challenge.rw_conekin_k19_least_worths) rfl rfl (λw h Y=>by first|exact PySem.W.kIn_of Y|exact PySem.W.km_in_of Y) ?cl ?F
 case cl=>
  intro w
  first|kernel_rfl|(trace_state;k_is)
 case F=>
  intro w mg mb mean fa h KX Tp hmg
  refine' CW.all_mk KX Tp hmg ?sy ?kL ?jW ?kM ?zf ?sE ?sG ?p9 ?vK ?qa ?ji ?sI ?CH ?sJ ?zg ?mH ?sL ?mJ ?qb ?qc ?mK ?CI ?CJ ?vM ?om ?jk ?qd ?kN ?jX ?kO ?qf ?mL ?oq ?mO ?ou ?mP ?jY ?ow ?mQ ?oA ?Er ?Jk ?Jl ?Jm ?sM ?vN ?qg ?jl ?sN ?qh ?Jp ?oO ?mR ?Jq ?y_bool ?CN ?Jr ?Js ?jm ?Jt ?vO ?iF ?Ju ?ap
  (case sy=>exact L2.fnAt)
  (case kL=>exact L2.fnAt)
  (case jW=>exact L2.fnAt)
  (case kM=>exact L2.fnAt)
  (case zf=>exact L2.fnAt)
  (case sE=>exact L2.fnAt)
  (case sG=>exact L2.fnAt)
  (case p9=>exact L2.fnAt)
  (case vK=>exact L2.fnAt)
  (case qa=>exact L2.fnAt)
  (case ji=>exact L2.fnAt)
  (case sI=>exact L2.fnAt)
  (case CH=>exact L2.fnAt)
  (case sJ=>exact L2.fnAt)
  (case zg=>exact L2.fnAt)
  (case mH=>exact L2.fnAt)
  (case sL=>exact L2.fnAt)
  (case mJ=>exact L2.fnAt)
  (case qb=>exact L2.fnAt)
  (case qc=>exact L2.fnAt)
  (case mK=>exact L2.fnAt)
  (case CI=>exact L2.fnAt)
  (case CJ=>exact L2.fnAt)
  (case vM=>exact L2.fnAt)
  (case om=>exact L2.fnAt)
  (case jk=>exact L2.fnAt)
  (case qd=>exact L2.fnAt)
  (case kN=>exact L2.fnAt)
  (case jX=>exact L2.fnAt)
  (case kO=>exact L2.fnAt)
  (case qf=>exact L2.fnAt)
  (case mL=>exact L2.fnAt)
  (case oq=>exact L2.fnAt)
  (case mO=>exact L2.fnAt)
  (case ou=>exact L2.fnAt)
  (case mP=>exact L2.fnAt)
  (case jY=>exact L2.fnAt)
  (case ow=>exact L2.fnAt)
  (case mQ=>exact L2.fnAt)
  (case oA=>exact L2.fnAt)
  (case Er=>k_is);(case Jk=>k_is);(case Jl=>k_is);(case Jm=>k_is)
  (case sM=>rfl)
  (case vN=>rfl)
  (case qg=>rfl)
  (case jl=>rfl)
  (case sN=>rfl)
  (case qh=>rfl)
  (case Jp=>k_is)
  (case oO=>k_is)
  (case mR=>k_is)
  (case Jq=>k_is)
  (case y_bool=>k_is)
  (case CN=>k_is)
  (case Jr=>k_is)
  (case Js=>k_is)
  (case jm=>k_is)
  (case Jt=>k_is)
  (case vO=>k_is)
  (case iF=>k_is)
  (case Ju=>k_is)
  (case ap=>kernel_rfl)
