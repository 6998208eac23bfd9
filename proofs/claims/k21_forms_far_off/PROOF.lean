import PyProof.Rows.All
import Wide.All
import Wide.FinOn
import PyProof.EqAt
import PyProof.EqKinds
import PyProof.TupleCall
import KE.KIsAll
import KE.KTryMore
import KE.KEqDeep
import KE.KEqSeq
import KE.KRegrown
import KE.KSortKey
import KE.KItem
import KE.KNestM
import OpenK.KOwn
import OpenK.KRaise
import OpenK.KWalk
import OpenK.KFacts
import OpenK.KMake
import OpenK.KExp
import OpenK.KDescr
import KE.KLam
import KE.KSortTup
import PyProof.Rows.SortRuns
import PyProof.Rows.RuleM_int
import PyProof.FactsAll.int_0
import PySem.Challenge.RW_conekin_k21_forms_far_off
set_option Elab.async false
set_option linter.all false
set_option maxRecDepth 100000
set_option genSizeOf false
noncomputable section
namespace L2
open PySem PySem.Spec PyProof.Rows
abbrev Key:=Sum Int Str
def Jz:Key->Value->Bool
 | .inl k,v=>Value.isInt k v
 | .inr x,v=>Value.isStrOf x v
def OW(w:World):Key->Int
 | .inl k=>hashInt k
 | .inr x=>hashStr w x
theorem eF:∀{k:Key}{v:Value},Jz k v=true->(∃i t,k=Sum.inl i/\v=Value.int i t)∨(∃x t,k=Sum.inr x/\v=Value.str x t)
 | .inl i,v,h=>by
  obtain⟨t,e⟩:=Value.isInt_shape (k:=i) (v:=v) h
  exact .inl ⟨i,t,rfl,e⟩
 | .inr x,v,h=>by
  obtain⟨t,e⟩:=Value.isStrOf_shape (x:=x) (v:=v) h
  exact .inr ⟨x,t,rfl,e⟩
theorem Kp(a b:Int):decide ((Sum.inl a:Key)=Sum.inl b)=(a==b):=by
 by_cases e:a=b
 ·subst e;simp
 ·have h:¬(Sum.inl a:Key)=Sum.inl b:=λq=>e (Sum.inl.inj q)
  rw[decide_eq_false h]
  exact(beq_eq_false_iff_ne.mpr e).symm
theorem Kq(a b:Str):decide ((Sum.inr a:Key)=Sum.inr b)=decide (a=b):=by
 by_cases e:a=b
 ·subst e;simp
 ·have h:¬(Sum.inr a:Key)=Sum.inr b:=λq=>e (Sum.inr.inj q)
  rw[decide_eq_false h,decide_eq_false e]
theorem Kr(a:Int)(b:Str):decide ((Sum.inl a:Key)=Sum.inr b)=false:=decide_eq_false (λq=>nomatch q)
theorem Ks(a:Str)(b:Int):decide ((Sum.inr a:Key)=Sum.inl b)=false:=decide_eq_false (λq=>nomatch q)
def BU(prog:Program)(w:World):PySem.KeyKind prog w Key where
 is:=Jz
 hash:=OW w
 inj:=λv a b ha hb=>by
  rcases eF ha with⟨i,t,rfl,rfl⟩|⟨x,t,rfl,rfl⟩
  ·rcases eF hb with⟨j,u,rfl,e⟩|⟨y,u,rfl,e⟩
   ·injection e with e1 _;rw[e1]
   ·exact nomatch e
  ·rcases eF hb with⟨j,u,rfl,e⟩|⟨y,u,rfl,e⟩
   ·exact nomatch e
   ·injection e with e1 _;rw[e1]
 byValue:=λk v h=>by
  rcases eF h with⟨i,t,rfl,rfl⟩|⟨x,t,rfl,rfl⟩<;>rfl
 pyHash:=λhv h=>by
  rcases eF hv with⟨i,t,rfl,rfl⟩|⟨x,t,rfl,rfl⟩
  ·exact wpAny_pyHash_int h
  ·exact wpAny_pyHash_str h
 eqBool:=λhu hv h=>by
  rcases eF hu with⟨i,t,rfl,rfl⟩|⟨x,t,rfl,rfl⟩
  ·rcases eF hv with⟨j,u,rfl,rfl⟩|⟨y,u,rfl,rfl⟩
   ·rw[Kp]at h;exact wpAny_eqBool_int h
   ·rw[Kr]at h;exact SeqAt.EqAt.int_str i t y u _ _ _ _ h
  ·rcases eF hv with⟨j,u,rfl,rfl⟩|⟨y,u,rfl,rfl⟩
   ·rw[Ks]at h;exact SeqAt.EqAt.str_int x t j u _ _ _ _ h
   ·rw[Kq]at h;exact wpAny_eqBool_str h
 «strs» :=λk x t v h=>by
  rcases eF h with⟨i,u,rfl,e⟩|⟨y,u,rfl,e⟩
  ·exact nomatch e
  ·injection e with e1 _
   subst e1
   cases v<;>rfl
inductive V where
 |jc|bl (b:Bool)|int (i:Int)|str (x:Str)|EN (b:Array UInt8)|Mn (b:UInt64)|ref (a:Addr)|ty (n:String)
 deriving DecidableEq
def RelV:V->Value->Prop
 | .jc,u=>u=Value.none
 | .bl b,u=>u=Value.bool b
 | .int i,u=> ∃t,u=Value.int i t
 | .str x,u=> ∃t,u=Value.str x t
 | .EN b,u=> ∃t,u=Value.bytes b t
 | .Mn b,u=> ∃t,u=Value.float b t
 | .ref a,u=>u=Value.ref a
 | .ty n,u=>u=Value.type n
abbrev Vals:List V->List Value->Prop:=Paired RelV
theorem Vals.length{xs:List V}{us:List Value}(r:Vals xs us):xs.length=us.length:=Paired.length r
theorem Vals.get:∀{xs:List V}{us:List Value}{i:Nat}{x:V},Vals xs us->xs[i]?=some x-> ∃u,us[i]?=some u/\RelV x u
 |_,_,_,_,.nil,e=>by simp at e
 |_,_,0,_,.cons r _,e=>by simp at e;subst e;exact⟨_,rfl,r⟩
 |_,_,i+1,x,.cons _ t,e=>by
  obtain⟨u,h1,h2⟩:=Vals.get (i:=i) (x:=x) t (by simpa using e)
  exact⟨u,by simpa using h1,h2⟩
theorem Vals.set{x:V}{u:Value}(r:RelV x u):∀{xs:List V}{us:List Value}(i:Nat),Vals xs us->Vals (xs.set i x) (us.set i u)
 |_,_,_,.nil=> .nil
 |_,_,0,.cons _ t=> .cons r t
 |_,_,i+1,.cons q t=> .cons q (Vals.set r i t)
theorem Vals.append:∀{xs ys:List V}{us ws:List Value},Vals xs us->Vals ys ws->Vals (xs++ys) (us++ws)
 |_,_,_,_,.nil,s=>s
 |_,_,_,_,.cons r t,s=> .cons r (Vals.append t s)
theorem Vals.take:∀{xs:List V}{us:List Value}(n:Nat),Vals xs us->Vals (xs.take n) (us.take n)
 |_,_,0,_=> .nil
 |_,_,_+1,.nil=> .nil
 |_,_,n+1,.cons r t=> .cons r (Vals.take n t)
theorem Vals.drop:∀{xs:List V}{us:List Value}(n:Nat),Vals xs us->Vals (xs.drop n) (us.drop n)
 |_,_,0,r=>r
 |_,_,_+1,.nil=> .nil
 |_,_,n+1,.cons _ t=>Vals.drop n t
def Ku:Option V->Option Value->Prop
 |some v,some u=>RelV v u
 |none,none=>True
 |_,_=>False
def KV{κ:Type}:List (κ×V) ->List (κ×Value) ->Prop:=Paired λ(p:κ×V)(q:κ×Value)=>p.1=q.1/\RelV p.2 q.2
def kV:Key->V
 | .inl i=> .int i
 | .inr x=> .str x
inductive HO where
 |lst(xs:List V)
 |tup(xs:List V)
 |dK(kvs:List (Key×V))|dT (kvs:List (List Key×V))
 |set(S:Int->Bool)(n:Nat)
 |ins(C dx:Addr)(fs:List (Str×V))
 |own(x:Addr)
 |xd(fs:List (Str×V))
 |met(f x:Addr)
 |OX(lo hi:Int)
 |wM(o:Obj)(u:HO)
 |Kv(ps:Array Value)
 |ext(φ:Heap->Prop)
 |yz
abbrev Hp:=Addr->Option HO
def upd(H:Hp)(a:Addr)(o:HO):Hp:=λb=>if b=a then some o else H b
theorem au{H:Hp}{a:Addr}{o:HO}:upd H a o a=some o:=by unfold upd;rw[if_pos rfl]
theorem aH{H:Hp}{a b:Addr}{o:HO}(h:b≠a):upd H a o b=H b:=by unfold upd;rw[if_neg h]
theorem HU{H:Hp}{a:Addr}{o u:HO}:upd (upd H a o) a u=upd H a u:=by
 funext b;unfold upd;split<;>rfl
theorem cX{H:Hp}{a b:Addr}{o:HO}(h:H a=some o)(h':H b=none):a≠b:=by
 intro e;subst e;rw[h]at h';cases h'
section
variable(P:Program)(w:World)
def eV(H:Hp)(h:Heap)(a:Addr):HO->Prop
 | .lst xs=>xs.length<=sizeLine/\ ∃(its:List Value)(n:Nat),Vals xs its/\h.get? a=some {cls:= .type "list",data:= .seq its.toArray n}
 | .tup xs=>xs.length<=sizeLine/\ ∃its:List Value,Vals xs its/\IsTup h a its.toArray
 | .dK kvs=>kvs.length<=sizeLine/\(a==sysModules)=false/\ ∃vs,KV kvs vs/\h.DictOf (BU P w) a vs
 | .dT kvs=>kvs.length<=sizeLine/\(a==sysModules)=false/\ ∃xs:List (List Key×Addr×Value),
   Paired (λ(p:List Key×V)(q:List Key×Addr×Value)=>p.1=q.1/\H q.2.1=some (.tup (p.1.map kV))/\RelV p.2 q.2.2) kvs xs/\
   ∃o es ep,h.get? a=some o/\o.ExactDict/\o.data= .dict es ep/\es.toList=xs.map (entryOfKey (tupleKind (BU P w)))/\(xs.map (·.1)).Nodup
 | .set S n=>h.SetOf (intKind P w) a S n
 | .ins C dx fs=>H dx=some (.own a)/\fs.length<=1000/\dx≠a/\h.get? a=some (PySem.W.instObj C dx)/\
   ∃mA,h.Ns1 dx mA/\(∀f,Ku (fs.lookup f) (mA f))/\PySem.Within mA (fs.map (·.1))
 | .own _=> ∃o,h.get? a=some o
 | .xd fs=> ∃mA,h.Ns1 a mA/\ ∀f,Ku (fs.lookup f) (mA f)
 | .OX lo hi=> ∃t u v,h.get? a=some {cls:= .type "range",data:= .fields #[.int lo t,.int hi u,.int 1 v]}
 | .wM o u=>h.get? a=some o/\eV H h a u
 | .Kv ps=>h.get? a=some {cls:= .none,data:= .fields ps}
 | .met f x=>h.get? a=some (PySem.W.methodObj (.ref f) (.ref x))
 | .ext φ=>φ h/\(∃o,h.get? a=some o)/\ ∀h1 h2:Heap,φ h1->(∀o,h1.get? a=some o->h2.get? a=some o) ->φ h2
 | .yz=> ∃ps:Array Value,h.get? a=some {cls:= .none,data:= .fields ps}/\TriplesOk ps.toList/\ ∀(pos:Pos)(cv:Value),codeAmong pos ps.toList=some cv->
   ∃(c:Addr)(oc:Obj)(vs:Array Value)(q:Str)(t:Tok),cv= .ref c/\H c=some (.wM oc (.ext λ_=>True))/\oc.data= .fields vs/\vs[1]?=some (.str q t)
def su(H:Hp)(h:Heap):Prop:=∀a o,H a=some o->eV P w H h a o
end
section
variable{P:Program}{w:World}{H H':Hp}{h h':Heap}{a:Addr}{o:HO}
theorem eV.lt(x:eV P w H h a o):a<h.objs.size:=by
 cases o with
 |lst xs=>obtain⟨_,_,_,_,e⟩:=x;exact Heap.lt_size e
 |tup xs=>obtain⟨_,_,_,p⟩:=x;exact p.lt
 |dK kvs=>obtain⟨_,_,_,_,o,_,_,e,_⟩:=x;exact Heap.lt_size e
 |dT kvs=>obtain⟨_,_,_,_,o,_,_,e,_⟩:=x;exact Heap.lt_size e
 |set S n=>obtain⟨o,_,_,_,e,_⟩:=x;exact Heap.lt_size e
 |ins C dx fs=>obtain⟨_,_,_,e,_⟩:=x;exact Heap.lt_size e
 |own y=>obtain⟨_,e⟩:=x;exact Heap.lt_size e
 |xd fs=>obtain⟨_,⟨_,_,_,e,_⟩,_⟩:=x;exact Heap.lt_size e
 |OX lo hi=>obtain⟨_,_,_,e⟩:=x;exact Heap.lt_size e
 |wM ob u=>obtain⟨e,_⟩:=x;exact Heap.lt_size e
 |Kv ps=>exact Heap.lt_size (show h.get? a=some _ from x)
 |met f y=>exact Heap.lt_size (show h.get? a=some _ from x)
 |ext φ=>obtain⟨_,⟨_,e⟩,_⟩:=x;exact Heap.lt_size e
 |yz=>obtain⟨_,e,_⟩:=x;exact Heap.lt_size e
theorem Paired.ML{α β:Type}{F G:α->β->Prop}:∀{l₁:List α}{l₂:List β},Paired F l₁ l₂->(∀a b,F a b->G a b) ->Paired G l₁ l₂
 |_,_,.nil,_=> .nil
 |_,_,.cons r t,f=> .cons (f _ _ r) (Paired.ML t f)
theorem eV.stay(x:eV P w H h a o)(k:∀b u,(b=a∨H b=some (.own a)) ->h.get? b=some u->h'.get? b=some u)
  (ho:∀b,H b=some (.own a) ->H' b=some (.own a))(ht:∀b xs,H b=some (.tup xs) ->H' b=some (.tup xs))(hz:∀b ob u,H b=some (.wM ob u) ->H' b=some (.wM ob u):=by first|exact λ_ _ _ q=>q|assumption):eV P w H' h' a o:=by
 induction o with
 |lst xs=>obtain⟨z,its,n,r,e⟩:=x;exact⟨z,its,n,r,k _ _ (.inl rfl) e⟩
 |tup xs=>obtain⟨z,its,r,ob,e,c⟩:=x;exact⟨z,its,r,ob,k _ _ (.inl rfl) e,c⟩
 |dK kvs=>obtain⟨z,y,vs,r,ob,es,ep,e,c⟩:=x;exact⟨z,y,vs,r,ob,es,ep,k _ _ (.inl rfl) e,c⟩
 |dT kvs=>
  obtain⟨z,y,xs,r,ob,es,ep,e,c⟩:=x
  exact⟨z,y,xs,Paired.ML r λp q z=>⟨z.1,ht _ _ z.2.1,z.2.2⟩,ob,es,ep,k _ _ (.inl rfl) e,c⟩
 |set S n=>obtain⟨ob,es,ep,t,e,c⟩:=x;exact⟨ob,es,ep,t,k _ _ (.inl rfl) e,c⟩
 |ins C dx fs=>
  obtain⟨d,z,ne,e,mA,⟨od,es,ep,e2,c⟩,r⟩:=x
  exact⟨ho _ d,z,ne,k _ _ (.inl rfl) e,mA,⟨od,es,ep,k _ _ (.inr d) e2,c⟩,r⟩
 |own y=>obtain⟨ob,e⟩:=x;exact⟨ob,k _ _ (.inl rfl) e⟩
 |xd fs=>obtain⟨mA,⟨od,es,ep,e,c⟩,r⟩:=x;exact⟨mA,⟨od,es,ep,k _ _ (.inl rfl) e,c⟩,r⟩
 |OX lo hi=>obtain⟨t,u,v,e⟩:=x;exact⟨t,u,v,k _ _ (.inl rfl) e⟩
 |wM ob u ih=>obtain⟨e,q⟩:=x;exact⟨k _ _ (.inl rfl) e,ih q⟩
 |Kv ps=>
  have e:h.get? a=some {cls:= .none,data:= .fields ps}:=x
  show h'.get? a=some {cls:= .none,data:= .fields ps}
  exact k a _ (.inl rfl) e
 |met f y=>
  have e:h.get? a=some (PySem.W.methodObj (.ref f) (.ref y)):=x
  show h'.get? a=some (PySem.W.methodObj (.ref f) (.ref y))
  exact k a _ (.inl rfl) e
 |ext φ=>obtain⟨p,⟨o,e⟩,st⟩:=x;exact⟨st _ _ p λo q=>k _ _ (.inl rfl) q,⟨o,k _ _ (.inl rfl) e⟩,st⟩
 |yz=>obtain⟨ps,e,t,r⟩:=x;exact⟨ps,k _ _ (.inl rfl) e,t,λpos cv q=>let⟨c,oc,vs,q2,t2,e1,e2,e3⟩:=r pos cv q;⟨c,oc,vs,q2,t2,e1,hz _ _ _ e2,e3⟩⟩
theorem su.lt(x:su P w H h)(e:H a=some o):a<h.objs.size:=(x a o e).lt
theorem su.fresh(x:su P w H h)(e:h.objs.size<=a):H a=none:=by
 cases q:H a with
 |none=>rfl
 |some u=>exact absurd (Nat.lt_of_lt_of_le (x.lt q) e) (Nat.lt_irrefl _)
theorem su.kept(x:su P w H h)(k:∀b u,h.get? b=some u->h'.get? b=some u):su P w H h':=λa o e=>
 (x a o e).stay (λb u _ q=>k b u q) (λ_ q=>q) λ_ _ q=>q
theorem su.laid(x:su P w H h)(k:∀b u,h.get? b=some u->h'.get? b=some u)(hp:h.objs.size<=a)(new:eV P w (upd H a o) h' a o):su P w (upd H a o) h':=λb u e=>by
 have hn:=x.fresh hp
 by_cases hb:b=a
 ·subst hb;rw[au]at e;cases e;exact new
 ·rw[aH hb]at e
  exact(x b u e).stay (λc v _ q=>k c v q) (λc q=>by rw[aH (cX q hn)];exact q) (λc xs q=>by rw[aH (cX q hn)];exact q) λc ob xs q=>by rw[aH (cX q hn)];exact q
end
def Rd(H:Hp)(a:Addr)(u:HO):Prop:=H a=some u∨ ∃o,H a=some (.wM o u)
theorem Rd.of{H:Hp}{a:Addr}{u:HO}(h:H a=some u):Rd H a u:= .inl h
theorem Rd.ok{P:Program}{w:World}{H:Hp}{h:Heap}{a:Addr}{u:HO}(r:Rd H a u)(x:su P w H h):eV P w H h a u:=by
 rcases r with r|⟨o,r⟩
 ·exact x a u r
 ·obtain⟨_,q⟩:=x a _ r
  exact q
def Ov:Option HO->Prop
 |some (.lst _)=>True
 |some (.dK _)=>True
 |some (.dT _)=>True
 |some (.set _ _)=>True
 |some (.ins _ _ _)=>True
 |some (.ext _)=>True
 |some .yz=>True
 |_=>False
section
variable{P:Program}{w:World}{H:Hp}{h h':Heap}{x e:Addr}{o':HO}
theorem su.write(ok:su P w H h)(mu:Ov (H x))(he:e=x∨H e=some (.own x))(k:∀b u,b≠e->h.get? b=some u->h'.get? b=some u)(Mp:∃u,h'.get? e=some u)
  (new:eV P w (upd H x o') h' x o'):su P w (upd H x o') h':=λb u q=>by
 have MM:∀c y,H c=some (.own y) ->c≠x:=λc y r z=>by subst z;rw[r]at mu;exact mu
 have OY:∀c xs,H c=some (.tup xs) ->c≠x:=λc xs r z=>by subst z;rw[r]at mu;exact mu
 by_cases hb:b=x
 ·subst hb;rw[au]at q;cases q;exact new
 ·rw[aH hb]at q
  by_cases Kw:b=e
  ·have q':H b=some (.own x):=by
    rcases he with z|z
    ·exact absurd (Kw.trans z) hb
    ·rw[Kw];exact z
   rw[q]at q';cases q'
   obtain⟨v,hv⟩:=Mp
   exact⟨v,by rw[Kw];exact hv⟩
  ·refine(ok b u q).stay (λc v hc r=>k c v ?_ r) (λc r=>by rw[aH (MM c b r)];exact r) (λc xs r=>by rw[aH (OY c xs r)];exact r) λc ob xs r=>by rw[aH (λz=>by subst z;rw[r]at mu;exact mu)];exact r
   rcases hc with rfl|hc
   ·exact Kw
   ·rintro rfl
    rcases he with z|z
    ·exact MM c b hc z
    ·rw[hc]at z;cases z;exact hb rfl
end
structure Un(fs ex:List Addr)(H H':Hp)(h h':Heap):Prop where
 keep:∀b o,h.get? b=some o->H b=none->b∉fs->b∉ex->h'.get? b=some o
 slot:∀b o,h.get? b=some o->H b=none->b∈fs->b∉ex-> ∃sl,h'.get? b=some {o with slots:=sl}
 free:∀b o,h.get? b=some o->H b=none->b∉ex->H' b=none
 there:∀b o,h.get? b=some o->b∉ex-> ∃o',h'.get? b=some o'
 tups:∀b xs,H b=some (.tup xs) ->H' b=some (.tup xs)
 qa:∀b o u,H b=some (.wM o u) ->H' b=some (.wM o u)
 rO:∀b ps,H b=some (.Kv ps) -> ∃more,H' b=some (.Kv (ps++more))
section
variable{fs fs' ex ex':List Addr}{H H1 H2:Hp}{h h1 h2 h':Heap}{a x e:Addr}{o:HO}
theorem Un.any(u:Un fs ex H H1 h h1){b:Addr}{ob:Obj}(q:h.get? b=some ob)(n:H b=none)(hx:b∉ex):∃sl,h1.get? b=some {ob with slots:=sl}:=by
 by_cases hb:b∈fs
 ·exact u.slot b ob q n hb hx
 ·exact⟨ob.slots,u.keep b ob q n hb hx⟩
theorem Un.trans(a:Un fs ex H H1 h h1)(b:Un fs ex H1 H2 h1 h2):Un fs ex H H2 h h2 where
 keep:=λc ob q n hc hx=>b.keep c ob (a.keep c ob q n hc hx) (a.free c ob q n hx) hc hx
 slot:=λc ob q n hc hx=>by
  obtain⟨sl,e1⟩:=a.slot c ob q n hc hx
  obtain⟨OZ,e2⟩:=b.slot c _ e1 (a.free c ob q n hx) hc hx
  exact⟨OZ,e2⟩
 free:=λc ob q n hx=>by
  obtain⟨o',e1⟩:=a.there c ob q hx
  exact b.free c o' e1 (a.free c ob q n hx) hx
 there:=λc ob q hx=>by
  obtain⟨o',e1⟩:=a.there c ob q hx
  exact b.there c o' e1 hx
 tups:=λc xs q=>b.tups c xs (a.tups c xs q)
 qa:=λc ob xs q=>b.qa c ob xs (a.qa c ob xs q)
 rO:=λc ps q=>by
  obtain⟨m1,e1⟩:=a.rO c ps q
  obtain⟨m2,e2⟩:=b.rO c _ e1
  exact⟨m1++m2,by rw[e2,Array.append_assoc]⟩
theorem Un.kept(k:∀b u,h.get? b=some u->h'.get? b=some u):Un fs ex H H h h':=
 ⟨λb ob q _ _ _=>k b ob q,λb ob q _ _ _=>⟨ob.slots,k b ob q⟩,λ_ _ _ n _=>n,λb ob q _=>⟨ob,k b ob q⟩,λ_ _ q=>q,λ_ _ _ q=>q,λ_ ps q=>⟨#[],by rw[q];simp⟩⟩
theorem Un.refl:Un fs ex H H h h:=Un.kept λ_ _ q=>q
theorem Un.laid(k:∀b u,h.get? b=some u->h'.get? b=some u)(hp:h.objs.size<=a)(hn:H a=none):Un fs ex H (upd H a o) h h' where
 keep:=λb u q _ _ _=>k b u q
 slot:=λb u q _ _ _=>⟨u.slots,k b u q⟩
 free:=λb u q n _=>by rw[aH (Nat.ne_of_lt (Nat.lt_of_lt_of_le (Heap.lt_size q) hp))];exact n
 there:=λb u q _=>⟨u,k b u q⟩
 tups:=λb xs q=>by rw[aH (cX q hn)];exact q
 qa:=λb u xs q=>by rw[aH (cX q hn)];exact q
 rO:=λb ps q=>⟨#[],by rw[aH (cX q hn),q];simp⟩
theorem Un.write(mu:Ov (H x))(he:e=x∨H e=some (.own x))(k:∀b u,b≠e->h.get? b=some u->h'.get? b=some u)(Mp:∃u,h'.get? e=some u):Un fs ex H (upd H x o) h h':=by
 have hx:∀b,H b=none->b≠x:=λb n z=>by subst z;rw[n]at mu;exact mu
 have hb:∀b,H b=none->b≠e:=λb n z=>by
  subst z
  rcases he with r|r
  ·exact hx b n r
  ·rw[n]at r;cases r
 have hm:∀b u,H b=some u-> ¬Ov (some u) ->b≠x:=λb u q nm z=>by subst z;rw[q]at mu;exact nm mu
 refine⟨λb u q n _ _=>k b u (hb b n) q,λb u q n _ _=>⟨u.slots,k b u (hb b n) q⟩,λb u q n _=>by rw[aH (hx b n)];exact n,λb u q _=> ?_,
  λb xs q=>by rw[aH (hm b _ q λz=>z)];exact q,λb u xs q=>by rw[aH (hm b _ q λz=>z)];exact q,λb ps q=>⟨#[],by rw[aH (hm b _ q λz=>z),q];simp⟩⟩
 by_cases Kw:b=e
 ·subst Kw;exact Mp
 ·exact⟨u,k b u Kw q⟩
theorem Un.mono(u:Un fs ex H H1 h h1)(hs:∀b∈fs,b∈fs')(hx:∀b∈ex,b∈ex'):Un fs' ex' H H1 h h1:=
 ⟨λb ob q n hb he=>u.keep b ob q n (λz=>hb (hs b z)) λz=>he (hx b z),λ_ _ q n _ he=>u.any q n λz=>he (hx _ z),λb ob q n he=>u.free b ob q n λz=>he (hx b z),λb ob q he=>u.there b ob q λz=>he (hx b z),u.tups,u.qa,u.rO⟩
end
def Ow(h:Heap)(H:Hp):List Addr:=(List.range h.objs.size).filter λa=>(H a).isSome
def uM(h:Heap)(H:Hp):Heap:=PySem.W.hideAll h (Ow h H)
theorem Dc(h:Heap)(H:Hp):(uM h H).objs.size=h.objs.size:=PySem.W.hideAll_size _ _
theorem EO{h:Heap}{H:Hp}{b:Addr}{o:Obj}(e:h.get? b=some o)(n:H b=none):(uM h H).get? b=some o:=
 PySem.W.hideAll_get _ e λhm=>by
  have q:(H b).isSome=true:=(List.mem_filter.mp hm).2
  rw[n]at q;simp at q
theorem HV{h:Heap}{H:Hp}{b:Addr}{o:Obj}(e:(uM h H).get? b=some o):h.get? b=some o/\H b=none:=by
 have e':h.get? b=some o:=PySem.W.of_hideAll (Ow h H) e
 refine⟨e',?_⟩
 cases q:H b with
 |none=>rfl
 |some x=>
  have hm:b∈Ow h H:=List.mem_filter.mpr ⟨List.mem_range.mpr (Heap.lt_size e'),by simp[q]⟩
  have z:(uM h H).get? b=none:=PySem.W.hideAll_none (Ow h H) hm
  rw[z]at e;cases e
def HW(g h:Heap)(L:Addr):List (Addr×Obj):=(List.range h.objs.size).filterMap λa=>if a=L∨(g.get? a).isSome=true then none else(h.get? a).map λo=>(a,o)
def rest(g h:Heap)(L d:Addr):List (Addr×Obj):=(HW g h L).filter λp=>decide (p.1≠d)
structure Mod(K:PySem.W.Frag)(mg:Str->Option Value)(base:Heap):Prop where
 Mq:K.In base
 glob:base.Ns mainGlobals mg
 blt:∃mb,base.Ns builtinsNs mb/\ ∀x:Str,x≠ "__name__" ->mb x=bootBuiltins x
 nolimit:base.NoLimit
structure Cx where
 prog:Program
 w:World
 K:PySem.W.Frag
 mg:Str->Option Value
 base:Heap
 A:Around
 N:List Str
 s₀:Shared
 H₀:Hp
 env:Env
 outer:List Env
 stack:List Env
 ex:List Addr
 fn:Str->Bool
 calm:Bool
 pn:List (Addr×Obj)
 xe:Value->Shared->Prop
def frs(l:List Env):List Addr:=l.filterMap (·.frame)
abbrev Cx.fs(X:Cx):List Addr:=frs X.outer
def JA(sc:Scope)(x:Str):Prop:=sc.names.lookup x=some .local∨sc.names.lookup x=some .cell∨sc.names.lookup x=some .free
def Loc(sc:Scope)(x:Str):Prop:=sc.names.lookup x=some .local∨sc.names.lookup x=some .cell
def Look(env:Env)(h:Heap)(m:Str->Option Value)(x:Str)(u:Value):Prop:=
 (env.kindOf x=some .local/\m x=some u)∨((env.kindOf x=some .cell∨env.kindOf x=some .free)/\ ∃c,env.cells.lookup x=some c/\h.IsCell c (some u))
structure Cx.Ok(X:Cx):Prop where
 mod:Mod X.K X.mg X.base
 kind:X.env.scope.kind= .function
 glob:X.env.globals=mainGlobals
 blt:X.env.builtins=builtinsNs
 above:X.s₀.heap.objs.size<=X.env.locals
 inj:∀x y c,X.env.cells.lookup x=some c->X.env.cells.lookup y=some c->x=y
 has:∀x,(X.env.kindOf x=some .cell∨X.env.kindOf x=some .free) -> ∃c,X.env.cells.lookup x=some c
 MN:∀x c,X.fn x=true->X.env.cells.lookup x=some c->X.s₀.heap.objs.size<=c
 hd:X.calm=true->X.A.handled=none
 frames:X.A.frames=some X.stack
 stk:X.stack=X.outer∨(X.stack=X.env::X.outer/\X.env.frame=some X.env.locals)
 Mr:∀b∈X.ex,b≠X.env.locals/\ ∀x c,X.env.cells.lookup x=some c->c≠b
 bs:∀b o,X.base.get? b=some o->X.s₀.heap.get? b=some o/\X.H₀ b=none
 HX:X.base.objs.size<=X.s₀.heap.objs.size
 Dd:∀b o,X.base.get? b=some o->b∉X.ex
 De:∀b∈X.ex,b∉X.fs
 rP:X.s₀.heap.FunFrames X.base X.outer
 Ms:∀b∈X.fs,X.H₀ b=none
structure ER(a b:Array GenState):Prop where
 bare:AllBare b
 size:a.size<=b.size
 old:∀k,k<a.size->b[k]?=a[k]?
theorem ER.refl{a:Array GenState}(h:AllBare a):ER a a:=⟨h,Nat.le_refl _,λ_ _=>rfl⟩
theorem ER.trans{a b c:Array GenState}(x:ER a b)(y:ER b c):ER a c:=⟨y.bare,Nat.le_trans x.size y.size,λk h=>(y.old k (Nat.lt_of_lt_of_le h x.size)).trans (x.old k h)⟩
structure Inv(X:Cx)(pins:List (Addr×Obj))(σ:List (Option V))(H:Hp)(s:Shared):Prop where
 ok:X.Ok
 os:s.os=X.s₀.os
 bare:ER X.s₀.gens s.gens
 base:Un X.fs X.ex X.H₀ H X.s₀.heap s.heap
 loc:∃m,s.heap.Ns X.env.locals m/\ ∀(i:Nat)(x:Str)(v:V),X.N[i]?=some x->σ[i]?=some (some v) ->JA X.env.scope x-> ∃u,RelV v u/\Look X.env s.heap m x u
 cell:∀x c,X.env.cells.lookup x=some c-> ∃v,s.heap.IsCell c v
 free:H X.env.locals=none
 lW:∀x c,X.env.cells.lookup x=some c->H c=none
 pin:∀p∈X.pn++pins,s.heap.get? p.1=some p.2/\H p.1=none/\p.1≠X.env.locals/\p.1∉X.fs/\ ∀v,p.2.data≠ .cell v
 hok:su X.prog X.w H s.heap
 len:σ.length=X.N.length
section
variable{X:Cx}{pins:List (Addr×Obj)}{σ:List (Option V)}{H H':Hp}{s:Shared}{h':Heap}
theorem Cx.Ok.Pa(ok:X.Ok){b:Addr}{o:Obj}(e:X.base.get? b=some o):b∉X.fs:=λhb=>by
 have:=(ok.rP.mem hb).1
 rw[e]at this;cases this
theorem Inv.bs(I:Inv X pins σ H s):∀b o,X.base.get? b=some o->s.heap.get? b=some o/\H b=none:=λb o e=>
 ⟨I.base.keep b o (I.ok.bs b o e).1 (I.ok.bs b o e).2 (I.ok.Pa e) (I.ok.Dd b o e),I.base.free b o (I.ok.bs b o e).1 (I.ok.bs b o e).2 (I.ok.Dd b o e)⟩
theorem Inv.bk(I:Inv X pins σ H s):∀b o,X.base.get? b=some o->s.heap.get? b=some o:=λb o e=>(I.bs b o e).1
theorem Inv.mod(I:Inv X pins σ H s):Mod X.K X.mg X.base:=I.ok.mod
theorem Inv.wN(I:Inv X pins σ H s):X.K.In s.heap:=I.ok.mod.Mq.keeps I.bk
theorem Inv.nolimit(I:Inv X pins σ H s):s.heap.NoLimit:=I.ok.mod.nolimit.keeps I.bk
theorem Inv.lt(I:Inv X pins σ H s):X.env.locals<s.heap.objs.size:=let⟨_,hn,_⟩:=I.loc;hn.lt
theorem Inv.sz(I:Inv X pins σ H s):X.s₀.heap.objs.size<=s.heap.objs.size:=Nat.le_trans I.ok.above (Nat.le_of_lt I.lt)
theorem Inv.MO(I:Inv X pins σ H s){a:Addr}(h:s.heap.objs.size<=a):a∉X.fs:=λhb=>by
 obtain⟨_,o,ho,_⟩:=I.ok.rP.mem hb
 exact absurd (Nat.lt_of_lt_of_le (Heap.lt_size ho) (Nat.le_trans I.sz h)) (Nat.lt_irrefl _)
theorem Inv.Kx(I:Inv X pins σ H s):∀x c,X.env.cells.lookup x=some c->c≠X.env.locals:=λx c e z=>by
 obtain⟨v,o,ho,hd⟩:=I.cell x c e
 obtain⟨m,⟨o',es,ep,ho',hd',_⟩,_⟩:=I.loc
 rw[z,ho']at ho;cases ho;rw[hd']at hd;cases hd
theorem Inv.rP(I:Inv X pins σ H s):s.heap.FunFrames X.base X.outer:=by
 have all:∀(l:List Env),(∀b∈frs l,b∈X.fs) ->X.s₀.heap.FunFrames X.base l->s.heap.FunFrames X.base l:=by
  intro l
  induction l with
  |nil=>intro _ _;trivial
  |cons env r ih=>
   intro hs hl
   obtain⟨hk,⟨L,o,hf,hn,ho,hd⟩,hr⟩:=hl
   have hL:L∈X.fs:=hs L (by unfold frs;rw[List.filterMap_cons,hf];exact List.mem_cons_self)
   obtain⟨sl,e⟩:=I.base.slot L o ho (I.ok.Ms L hL) hL λz=>I.ok.De L z hL
   exact⟨hk,⟨L,_,hf,hn,e,hd⟩,ih (λb hb=>hs b (by unfold frs;rw[List.filterMap_cons,hf];exact List.mem_cons_of_mem _ hb)) hr⟩
 exact all X.outer (λ_ hb=>hb) I.ok.rP
theorem Inv.stack(I:Inv X pins σ H s):s.heap.FunFrames X.base X.stack:=by
 rcases I.ok.stk with e|⟨e,hf⟩
 ·rw[e];exact I.rP
 ·rw[e]
  obtain⟨m,hn,_⟩:=I.loc
  refine .cons (by rw[I.ok.kind];decide) hf hn ?_ I.rP
  exact Heap.get?_none_of_le (Nat.le_trans I.ok.HX I.ok.above)
theorem Inv.sR(I:Inv X pins σ H s):∀b∈frs X.stack,b∈X.env.locals::X.fs:=λb hb=>by
 rcases I.ok.stk with e|⟨e,hf⟩
 ·rw[e]at hb;exact List.mem_cons_of_mem _ hb
 ·rw[e]at hb
  unfold frs at hb
  rw[List.filterMap_cons,hf]at hb
  exact hb
theorem Inv.sE(I:Inv X pins σ H s):∀b∈frs X.stack,H b=none:=λb hb=>by
 rcases List.mem_cons.mp (I.sR b hb)with e|hb
 ·rw[e];exact I.free
 ·obtain⟨_,o,ho,_⟩:=I.ok.rP.mem hb
  exact I.base.free b o ho (I.ok.Ms b hb) λz=>I.ok.De b z hb
theorem Inv.step{g':Array GenState}{t':Nat}{d':Drawn}{ch:List Addr}(I:Inv X pins σ H s)
  (hch:∀b∈ch,(b∈X.ex∨X.s₀.heap.objs.size<=b)/\b≠X.env.locals/\(∀x c,X.env.cells.lookup x=some c->c≠b)/\ ∀p∈X.pn++pins,p.1≠b)
  (keep:∀b o,b≠X.env.locals->b∉X.fs->b∉ch->s.heap.get? b=some o->H b=none->h'.get? b=some o)
  (slot:∀b o,b≠X.env.locals->b∈X.fs->b∉ch->s.heap.get? b=some o->H b=none-> ∃sl,h'.get? b=some {o with slots:=sl})(free:∀b o,b∉ch->s.heap.get? b=some o->H b=none->H' b=none)
  (there:∀b o,b∉ch->s.heap.get? b=some o-> ∃o',h'.get? b=some o')
  (tups:∀b xs,H b=some (.tup xs) ->H' b=some (.tup xs))(qa:∀b o u,H b=some (.wM o u) ->H' b=some (.wM o u))(rO:∀b ps,H b=some (.Kv ps) -> ∃more,H' b=some (.Kv (ps++more)))
  (ns:∀m,s.heap.Ns X.env.locals m->h'.Ns X.env.locals m)(hok:su X.prog X.w H' h')(hg:ER s.gens g'):
  Inv X pins σ H' {s with heap:=h',gens:=g',drawn:=d',toks:=t'}:=by
 have Rn:∀b o,X.s₀.heap.get? b=some o->b≠X.env.locals:=λb o e=>Nat.ne_of_lt (Nat.lt_of_lt_of_le (Heap.lt_size e) I.ok.above)
 have Ox:∀b o,X.s₀.heap.get? b=some o->b∉X.ex->b∉ch:=λb o e hx hb=>by
  rcases(hch b hb).1 with z|z
  ·exact hx z
  ·exact absurd (Nat.lt_of_lt_of_le (Heap.lt_size e) z) (Nat.lt_irrefl _)
 have cellK:∀x c,X.env.cells.lookup x=some c-> ∀v,s.heap.IsCell c v->h'.IsCell c v:=λx c e v ⟨o,ho,hd⟩=>by
  have MP:c∉ch:=λz=>(hch c z).2.2.1 x c e rfl
  by_cases hc:c∈X.fs
  ·obtain⟨sl,q⟩:=slot c o (I.Kx x c e) hc MP ho (I.lW x c e)
   exact⟨_,q,hd⟩
  ·exact⟨o,keep c o (I.Kx x c e) hc MP ho (I.lW x c e),hd⟩
 refine⟨I.ok,I.os,I.bare.trans hg,⟨λb o e n hb hx=> ?_,λb o e n hb hx=> ?_,λb o e n hx=> ?_,λb o e hx=> ?_,λb xs e=>tups b xs (I.base.tups b xs e),λb o xs e=>qa b o xs (I.base.qa b o xs e),λb ps e=> ?_⟩,?_,λx c e=> ?_,?_,λx c e=> ?_,λp hp=> ?_,hok,I.len⟩
 ·exact keep b o (Rn b o e) hb (Ox b o e hx) (I.base.keep b o e n hb hx) (I.base.free b o e n hx)
 ·obtain⟨sl,e1⟩:=I.base.slot b o e n hb hx
  obtain⟨OZ,e2⟩:=slot b _ (Rn b o e) hb (Ox b o e hx) e1 (I.base.free b o e n hx)
  exact⟨OZ,e2⟩
 ·obtain⟨o',e1⟩:=I.base.there b o e hx
  exact free b o' (Ox b o e hx) e1 (I.base.free b o e n hx)
 ·obtain⟨o',e1⟩:=I.base.there b o e hx
  exact there b o' (Ox b o e hx) e1
 ·obtain⟨m1,e1⟩:=I.base.rO b ps e
  obtain⟨m2,e2⟩:=rO b _ e1
  exact⟨m1++m2,by rw[e2,Array.append_assoc]⟩
 ·obtain⟨m,hn,hl⟩:=I.loc
  refine⟨m,ns m hn,λi x v e1 e2 e3=> ?_⟩
  obtain⟨u,r,l⟩:=hl i x v e1 e2 e3
  refine⟨u,r,?_⟩
  rcases l with l|⟨k,c,e,z⟩
  ·exact .inl l
  ·exact .inr ⟨k,c,e,cellK x c e _ z⟩
 ·obtain⟨v,z⟩:=I.cell x c e
  exact⟨v,cellK x c e v z⟩
 ·obtain⟨m,⟨o,_,_,ho,_⟩,_⟩:=I.loc
  exact free _ o (λz=>(hch _ z).2.1 rfl) ho I.free
 ·obtain⟨v,o,ho,hd⟩:=I.cell x c e
  exact free c o (λz=>(hch c z).2.2.1 x c e rfl) ho (I.lW x c e)
 ·obtain⟨e,n,ne,nf,d⟩:=I.pin p hp
  have MP:p.1∉ch:=λz=>(hch p.1 z).2.2.2 p hp rfl
  exact⟨keep p.1 p.2 ne nf MP e n,free p.1 p.2 MP e n,ne,nf,d⟩
theorem Inv.un{t':Nat}(I:Inv X pins σ H s)(u:Un X.fs [] H H' s.heap h')(hok:su X.prog X.w H' h'):Inv X pins σ H' {s with heap:=h',toks:=t'}:=by
 obtain⟨m,⟨o,es,ep,ho,r⟩,_⟩:=id I.loc
 obtain⟨sl,hL⟩:=u.any ho I.free (by simp)
 exact I.step (g':=s.gens) (d':=s.drawn) (ch:=[]) (λ_ z=>nomatch z) (λb o _ hb _ e n=>u.keep b o e n hb (by simp)) (λb o _ hb _ e n=>u.slot b o e n hb (by simp)) (λb o _ e n=>u.free b o e n (by simp)) (λb o _ e=>u.there b o e (by simp)) u.tups u.qa u.rO (λm' hm=>by
  obtain⟨o',es',Pb,ho',r'⟩:=hm
  rw[ho]at ho';cases ho'
  exact⟨_,es',Pb,hL,r'⟩) hok (.refl I.bare.bare)
theorem Inv.call{g':Array GenState}{t':Nat}{d':Drawn}{ch:List Addr}(I:Inv X pins σ H s)(u:Un (frs X.stack) ch H H' s.heap h')(hok:su X.prog X.w H' h')(hg:ER s.gens g')
  (hch:∀b∈ch,(b∈X.ex∨X.s₀.heap.objs.size<=b)/\b≠X.env.locals/\(∀x c,X.env.cells.lookup x=some c->c≠b)/\ ∀p∈X.pn++pins,p.1≠b):
  Inv X pins σ H' {s with heap:=h',gens:=g',drawn:=d',toks:=t'}:=by
 obtain⟨m,⟨o,es,ep,ho,r⟩,_⟩:=id I.loc
 obtain⟨sl,hL⟩:=u.any ho I.free λz=>(hch _ z).2.1 rfl
 exact I.step (ch:=ch) hch (λb o hL hb hc e n=>u.keep b o e n (λz=>(List.mem_cons.mp (I.sR b z)).elim hL hb) hc) (λb o _ _ hc e n=>u.any e n hc) (λb o hc e n=>u.free b o e n hc) (λb o hc e=>u.there b o e hc) u.tups u.qa u.rO (λm' hm=>by
  obtain⟨o',es',Pb,ho',r'⟩:=hm
  rw[ho]at ho';cases ho'
  exact⟨_,es',Pb,hL,r'⟩) hok hg
theorem Inv.turned{t':Nat}{it:Addr}(I:Inv X pins σ H s)(k:∀b o,b≠it->s.heap.get? b=some o->h'.get? b=some o)(hn:H it=none)(hL:it≠X.env.locals)
  (h1:it∈X.ex∨X.s₀.heap.objs.size<=it)(h2:∀x c,X.env.cells.lookup x=some c->c≠it)(h3:∀p∈X.pn++pins,p.1≠it):Inv X pins σ H {s with heap:=h',toks:=t'}:=by
 have MQ:∀b u,H b=some u->b≠it:=λb u e z=>by rw[z,hn]at e;cases e
 refine I.step (g':=s.gens) (d':=s.drawn) (ch:=[it]) (λb hb=> ?_) (λb o _ _ hc e _=>k b o (λz=>hc (by simp[z])) e) (λb o _ _ hc e _=>⟨o.slots,k b o (λz=>hc (by simp[z])) e⟩) (λ_ _ _ _ n=>n)
  (λb o hc e=>⟨o,k b o (λz=>hc (by simp[z])) e⟩) (λ_ _ e=>e) (λ_ _ _ e=>e) (λb ps e=>⟨#[],by rw[e];simp⟩) (λm hm=> ?_) (λb u e=> ?_) (.refl I.bare.bare)
 ·have e:b=it:=by simpa using hb
  subst e
  exact⟨h1,hL,h2,h3⟩
 ·obtain⟨o,es,ep,ho,r⟩:=hm
  exact⟨o,es,ep,k _ o (Ne.symm hL) ho,r⟩
 ·refine(I.hok b u e).stay (λc v hc q=>k c v ?_ q) (λ_ q=>q) λ_ _ q=>q
  rcases hc with z|z
  ·rw[z];exact MQ b u e
  ·exact MQ c _ z
theorem Inv.tok(I:Inv X pins σ H s)(t:Nat):Inv X pins σ H {s with toks:=t}:=I.un (h':=s.heap) (t':=t) Un.refl I.hok
theorem Inv.kept{t':Nat}(I:Inv X pins σ H s)(k:∀b u,s.heap.get? b=some u->h'.get? b=some u):Inv X pins σ H {s with heap:=h',toks:=t'}:=I.un (Un.kept k) (I.hok.kept k)
theorem Inv.laid{a:Addr}{o:HO}{t':Nat}(I:Inv X pins σ H s)(k:∀b u,s.heap.get? b=some u->h'.get? b=some u)(hp:s.heap.objs.size<=a)(new:eV X.prog X.w (upd H a o) h' a o):
  Inv X pins σ (upd H a o) {s with heap:=h',toks:=t'}:=I.un (Un.laid k hp (I.hok.fresh hp)) (I.hok.laid k hp new)
theorem Inv.write{x e:Addr}{o:HO}{t':Nat}(I:Inv X pins σ H s)(mu:Ov (H x))(he:e=x∨H e=some (.own x))(k:∀b u,b≠e->s.heap.get? b=some u->h'.get? b=some u)(Mp:∃u,h'.get? e=some u)
  (new:eV X.prog X.w (upd H x o) h' x o):Inv X pins σ (upd H x o) {s with heap:=h',toks:=t'}:=I.un (Un.write mu he k Mp) (I.hok.write mu he k Mp new)
theorem Inv.je{pA:List (Addr×Obj)}(I:Inv X pins σ H s)(h:∀p∈pA,s.heap.get? p.1=some p.2/\H p.1=none/\p.1≠X.env.locals/\p.1∉X.fs/\ ∀v,p.2.data≠ .cell v):Inv X pA σ H s:=
 ⟨I.ok,I.os,I.bare,I.base,I.loc,I.cell,I.free,I.lW,λp hp=>(List.mem_append.mp hp).elim (λz=>I.pin p (List.mem_append_left _ z)) (h p),I.hok,I.len⟩
theorem yD{N:List Str}(hN:N.Nodup){i j:Nat}{x:Str}(a:N[i]?=some x)(b:N[j]?=some x):i=j:=by
 obtain⟨h1,e1⟩:=List.getElem?_eq_some_iff.mp a
 obtain⟨h2,e2⟩:=List.getElem?_eq_some_iff.mp b
 exact(List.getElem_inj hN).mp (e1.trans e2.symm)
theorem Df{M:Model}{A:Around}{E:Value->Shared->Prop}{i:Nat}{x:Str}{v:V}{u:Value}{Q:Unit->Shared->Prop}(I:Inv X pins σ H s)(hN:X.N.Nodup)(hi:X.N[i]?=some x)(hx:Loc X.env.scope x)(r:RelV v u)
  (h:∀s',Inv X pins (σ.set i (some v)) H s'->(∃a,Heap.SameBut a s.heap s'.heap/\(a=X.env.locals∨X.env.cells.lookup x=some a)) ->Q () s')(hf:X.fn x=true∨X.env.scope.names.lookup x=some .local:=by first|exact .inl rfl|exact .inr rfl|assumption):wpAny M A (storeName X.env x u) Q E s:=by
 obtain⟨m,hn,hl⟩:=id I.loc
 have hcls:(X.env.scope.kind== .class||(X.env.scope.kind== .module && X.env.locals !=X.env.globals))=false:=by rw[I.ok.kind];rfl
 have MR:i<σ.length:=by rw[I.len];exact(List.getElem?_eq_some_iff.mp hi).1
 have Kx:=I.Kx
 have tracked:∀{a:Addr}{h':Heap},(∃o,s.heap.get? a=some o/\H a=none) ->Heap.SameBut a s.heap h'->su X.prog X.w H h':=λ {a h'} ha hs b ob e=>by
  obtain⟨_,_,hfree⟩:=ha
  refine(I.hok b ob e).stay (λc w' hc q=>(hs.2 c ?_).trans q) (λ_ q=>q) λ_ _ q=>q
  rintro rfl
  rcases hc with rfl|hc
  ·rw[hfree]at e;cases e
  ·rw[hfree]at hc;cases hc
 rcases hx with hk|hk
 ·refine wpAny_storeName_local hk hn (λh' hn' hs=> ?_) hcls
  obtain⟨oL,_,_,Ky,_⟩:=id hn
  refine h _ ⟨I.ok,I.os,I.bare,⟨λb o e n hb hx=> ?_,λb o e n hb hx=> ?_,I.base.free,λb o e hx=> ?_,I.base.tups,I.base.qa,I.base.rO⟩,⟨_,hn',λj y v' e1 e2 e3=> ?_⟩,λy c e=> ?_,I.free,I.lW,λp hp=> ?_,tracked ⟨oL,Ky,I.free⟩ hs,by simpa using I.len⟩ ⟨_,hs,.inl rfl⟩
  ·exact(hs.2 b (Nat.ne_of_lt (Nat.lt_of_lt_of_le (Heap.lt_size e) I.ok.above))).trans (I.base.keep b o e n hb hx)
  ·obtain⟨sl,e1⟩:=I.base.slot b o e n hb hx
   exact⟨sl,(hs.2 b (Nat.ne_of_lt (Nat.lt_of_lt_of_le (Heap.lt_size e) I.ok.above))).trans e1⟩
  ·obtain⟨o',e1⟩:=I.base.there b o e hx
   exact⟨o',(hs.2 b (Nat.ne_of_lt (Nat.lt_of_lt_of_le (Heap.lt_size e) I.ok.above))).trans e1⟩
  ·by_cases hj:j=i
   ·subst hj
    rw[hi]at e1;cases e1
    rw[List.getElem?_set_self MR]at e2
    cases e2
    exact⟨u,r,.inl ⟨hk,by simp⟩⟩
   ·rw[List.getElem?_set_ne (Ne.symm hj)]at e2
    obtain⟨u',r',q⟩:=hl j y v' e1 e2 e3
    refine⟨u',r',?_⟩
    rcases q with⟨k,e⟩|⟨k,c,e,z⟩
    ·refine .inl ⟨k,?_⟩
     have:y≠x:=λe=>hj (yD hN e1 (e▸hi))
     simp[this,e]
    ·exact .inr ⟨k,c,e,z.sameBut hs (Kx y c e)⟩
  ·obtain⟨w',z⟩:=I.cell y c e
   exact⟨w',z.sameBut hs (Kx y c e)⟩
  ·obtain⟨e,n,ne,nf,d⟩:=I.pin p hp
   exact⟨(hs.2 p.1 ne).trans e,n,ne,nf,d⟩
 ·have hfn:X.fn x=true:=by
   rcases hf with z|z
   ·exact z
   ·rw[z]at hk;cases hk
  obtain⟨c,hc⟩:=I.ok.has x (.inl hk)
  obtain⟨w',z⟩:=I.cell x c hc
  refine wpAny_storeName_cell I.ok.kind hk hc z (λh' hc' hs=> ?_)
  obtain⟨oc,hoc,Pc⟩:=id z
  refine h {s with heap:=h'} ⟨I.ok,I.os,I.bare,⟨λb o e n hb hx=> ?_,λb o e n hb hx=> ?_,I.base.free,λb o e hx=> ?_,I.base.tups,I.base.qa,I.base.rO⟩,⟨m,hn.sameBut hs (Ne.symm (Kx x c hc)),λj y v' e1 e2 e3=> ?_⟩,λy c' e=> ?_,I.free,I.lW,λp hp=> ?_,tracked ⟨oc,hoc,I.lW x c hc⟩ hs,by simpa using I.len⟩ ⟨c,hs,.inr hc⟩
  ·exact(hs.2 b (Nat.ne_of_lt (Nat.lt_of_lt_of_le (Heap.lt_size e) (I.ok.MN x c hfn hc)))).trans (I.base.keep b o e n hb hx)
  ·obtain⟨sl,e1⟩:=I.base.slot b o e n hb hx
   exact⟨sl,(hs.2 b (Nat.ne_of_lt (Nat.lt_of_lt_of_le (Heap.lt_size e) (I.ok.MN x c hfn hc)))).trans e1⟩
  ·obtain⟨o',e1⟩:=I.base.there b o e hx
   exact⟨o',(hs.2 b (Nat.ne_of_lt (Nat.lt_of_lt_of_le (Heap.lt_size e) (I.ok.MN x c hfn hc)))).trans e1⟩
  ·by_cases hj:j=i
   ·subst hj
    rw[hi]at e1;cases e1
    rw[List.getElem?_set_self MR]at e2
    cases e2
    exact⟨u,r,.inr ⟨.inl hk,c,hc,hc'⟩⟩
   ·rw[List.getElem?_set_ne (Ne.symm hj)]at e2
    obtain⟨u',r',q⟩:=hl j y v' e1 e2 e3
    refine⟨u',r',?_⟩
    rcases q with q|⟨k,c',e,z'⟩
    ·exact .inl q
    ·refine .inr ⟨k,c',e,z'.sameBut hs ?_⟩
     rintro rfl
     exact hj (yD hN e1 (I.ok.inj _ _ _ e hc▸hi))
  ·by_cases hcc:c'=c
   ·subst hcc;exact⟨_,hc'⟩
   ·obtain⟨w2,z2⟩:=I.cell y c' e
    exact⟨w2,z2.sameBut hs hcc⟩
  ·obtain⟨e,n,ne,nf,d⟩:=I.pin p hp
   refine⟨(hs.2 p.1 ?_).trans e,n,ne,nf,d⟩
   intro q
   rw[q,hoc]at e
   have q':oc=p.2:=Option.some.inj e
   exact d w' (by rw[<-q'];exact Pc)
theorem jm{M:Model}{A:Around}{E:Value->Shared->Prop}{i:Nat}{x:Str}{v:V}{u:Value}{Q:Unit->Shared->Prop}(I:Inv X pins σ H s)(hN:X.N.Nodup)(hi:X.N[i]?=some x)(hx:Loc X.env.scope x)(r:RelV v u)
  (h:∀s',Inv X pins (σ.set i (some v)) H s'->Q () s')(hf:X.fn x=true∨X.env.scope.names.lookup x=some .local:=by first|exact .inl rfl|exact .inr rfl|assumption):wpAny M A (storeName X.env x u) Q E s:=
 Df I hN hi hx r (λs' I' _=>h s' I') hf
theorem Inv.ES{s':Shared}{ch:List Addr}(I:Inv X pins σ H s)(ho:s'.os=s.os)(u:Un (frs X.stack) ch H H' s.heap s'.heap)(hok:su X.prog X.w H' s'.heap)(hg:ER s.gens s'.gens)
  (hch:∀b∈ch,(b∈X.ex∨X.s₀.heap.objs.size<=b)/\b≠X.env.locals/\(∀x c,X.env.cells.lookup x=some c->c≠b)/\ ∀p∈X.pn++pins,p.1≠b):Inv X pins σ H' s':=by
 obtain⟨h',g',d',t',o'⟩:=s'
 have e:o'=s.os:=ho
 subst e
 exact I.call (g':=g') (t':=t') (d':=d') u hok hg hch
end
abbrev XK:=Value->Option Addr->Hp->Prop
abbrev St:=List (Option V)
abbrev VK:=V->Hp->Prop
abbrev TE:=St->Hp->VK->Prop
abbrev TT:=St->Hp->(Bool->Hp->Prop) ->Prop
abbrev TA:=St->Hp->(List V->Hp->Prop) ->Prop
structure Ends where
 nx:St->Hp->Prop
 rt:VK
 bk:St->Hp->Prop:=λ_ _=>False
 ct:St->Hp->Prop:=λ_ _=>False
abbrev TS:=Ends->St->Hp->Prop
def EP(X:Cx)(pins:List (Addr×Obj))(σ:St)(Q:VK)(u:Value)(s':Shared):Prop:=∃v H',Inv X pins σ H' s'/\RelV v u/\Q v H'
def TP(X:Cx)(pins:List (Addr×Obj))(σ:St)(Q:Bool->Hp->Prop)(b:Bool)(s':Shared):Prop:=∃H',Inv X pins σ H' s'/\Q b H'
def AP(X:Cx)(pins:List (Addr×Obj))(σ:St)(Q:List V->Hp->Prop)(us:List Value)(s':Shared):Prop:=∃vs H',Inv X pins σ H' s'/\Vals vs us/\Q vs H'
def SP(X:Cx)(pins:List (Addr×Obj))(D:Ends)(f:Flow)(s':Shared):Prop:=
 match f with
 | .next=> ∃σ' H',Inv X pins σ' H' s'/\D.nx σ' H'
 | .brk=> ∃σ' H',Inv X pins σ' H' s'/\D.bk σ' H'
 | .cont=> ∃σ' H',Inv X pins σ' H' s'/\D.ct σ' H'
 | .ret u=> ∃v σ' H',Inv X pins σ' H' s'/\RelV v u/\D.rt v H'
def PE(X:Cx)(e:Expr)(t:TE):Prop:=
 ∀(pins:List (Addr×Obj))(s:Shared)(σ:St)(H:Hp)(Q:VK),Inv X pins σ H s->t σ H Q->wpAny (model X.prog X.w) X.A (eval e X.env) (EP X pins σ Q) X.xe s
def PT(X:Cx)(e:Expr)(t:TT):Prop:=
 ∀(pins:List (Addr×Obj))(s:Shared)(σ:St)(H:Hp)(Q:Bool->Hp->Prop),Inv X pins σ H s->t σ H Q->wpAny (model X.prog X.w) X.A (isTrue e X.env (eval e X.env)) (TP X pins σ Q) X.xe s
def PW(X:Cx)(e:Expr)(t:TT):Prop:=
 ∀(whole:Sem Value)(pins:List (Addr×Obj))(s:Shared)(σ:St)(H:Hp)(Q:Bool->Hp->Prop),Inv X pins σ H s->t σ H Q->wpAny (model X.prog X.w) X.A (isTrue e X.env whole) (TP X pins σ Q) X.xe s
theorem PW.pt{X:Cx}{e:Expr}{t:TT}(h:PW X e t):PT X e t:=h _
def PA(X:Cx)(es:List Expr)(t:TA):Prop:=
 ∀(pos:Pos)(pins:List (Addr×Obj))(s:Shared)(σ:St)(H:Hp)(Q:List V->Hp->Prop),Inv X pins σ H s->t σ H Q->wpAny (model X.prog X.w) X.A (spliced (backTo pos (starEach es X.env))) (AP X pins σ Q) X.xe s
def PS(X:Cx)(st:Stmt)(t:TS):Prop:=
 ∀(pins:List (Addr×Obj))(s:Shared)(σ:St)(H:Hp)(D:Ends),Inv X pins σ H s->t D σ H->wpAny (model X.prog X.w) X.A (exec st X.env) (SP X pins D) X.xe s
def wO(X:Cx)(st:List Stmt)(t:TS):Prop:=
 ∀(pins:List (Addr×Obj))(s:Shared)(σ:St)(H:Hp)(D:Ends),Inv X pins σ H s->t D σ H->wpAny (model X.prog X.w) X.A (execs st X.env) (SP X pins D) X.xe s
theorem fX{α:Type}{t:Sem α}{Q Q':α->Shared->Prop}{M:Model}{A:Around}{E:Value->Shared->Prop}{s:Shared}(h:wpAny M A t Q E s)(hQ:∀a s,Q a s->Q' a s):wpAny M A t Q' E s:=wpAny_mono h hQ λ_ _ x=>x
section
variable{X:Cx}
inductive Pd(σ:St)(i:Nat)(H:Hp)(Q:VK):Prop
 |mk(v:V)(e:σ[i]?=some (some v))(q:Q v H)
def bH(i:Nat):TE:=λσ H Q=>Pd σ i H Q
def tC(v:V):TE:=λ_ H Q=>Q v H
theorem Kz{i:Nat}{x:Str}{pos:Pos}(hN:X.N[i]?=some x)(hv:JA X.env.scope x)(hd:(x==("__debug__":Str))=false:=by decide)(hcd:(x==("__classdict__":Str))=false:=by decide):PE X (.Name x pos) (bH i):=by
 intro pins s σ H Q I h
 obtain⟨v,e,h⟩:=h
 obtain⟨m,hn,hl⟩:=I.loc
 obtain⟨u,r,l⟩:=hl i x v hN e hv
 have fin:EP X pins σ Q u s:=⟨v,H,I,r,h⟩
 rcases l with⟨hk,hm⟩|⟨hk,c,hc,hcell⟩
 ·exact wpAny_Name (wpAny_loadName_local I.ok.kind hk hn hm fin) hd
 ·rcases hk with hk|hk
  ·exact wpAny_Name (wpAny_loadName_cell I.ok.kind hk hc hcell fin) hd
  ·exact wpAny_Name (wpAny_loadName_free I.ok.kind hk hc hcell fin hcd) hd
theorem ah{i j pos}:PE X (.Constant (.int i) j pos) (tC (.int i)):=λ_ _ _ H _ I h=>wpAny_Constant_int ⟨.int i,H,I.tok _,⟨_,rfl⟩,h⟩
theorem lX{b j pos}:PE X (.Constant (.bool b) j pos) (tC (.bl b)):=λ_ _ _ H _ I h=>Constant_bool ⟨.bl b,H,I,rfl,h⟩
theorem ET{j pos}:PE X (.Constant .none j pos) (tC .jc):=λ_ _ _ H _ I h=>Constant_none ⟨.jc,H,I,rfl,h⟩
def Gl(X:Cx)(x:Str):Prop:=X.env.kindOf x=some .globalImplicit
theorem BV{E:Value->Shared->Prop}{pins:List (Addr×Obj)}{s:Shared}{σ:St}{H:Hp}{x:Str}{u:Value}{pos:Pos}{Q:Value->Shared->Prop}(I:Inv X pins σ H s)(hg:Gl X x)(hm:X.mg x=some u)(h:Q u s)
  (hd:(x==("__debug__":Str))=false:=by decide):wpAny (model X.prog X.w) X.A (eval (.Name x pos) X.env) Q E s:=
 Calls.Name_function_global I.ok.kind hg (Calls.loadGlobal_global (by rw[I.ok.glob];exact I.mod.glob.keeps I.bk) hm h) hd
theorem kK{E:Value->Shared->Prop}{pins:List (Addr×Obj)}{s:Shared}{σ:St}{H:Hp}{x:Str}{u:Value}{pos:Pos}{Q:Value->Shared->Prop}(I:Inv X pins σ H s)(hg:Gl X x)(hm:X.mg x=none)(hv:bootBuiltins x=some u)(h:Q u s)
  (hn:x≠ "__name__":=by decide)(hd:(x==("__debug__":Str))=false:=by decide):wpAny (model X.prog X.w) X.A (eval (.Name x pos) X.env) Q E s:=by
 obtain⟨mb,h1,h2⟩:=I.mod.blt
 exact Calls.Name_function_global I.ok.kind hg (Calls.loadGlobal_builtin (by rw[I.ok.glob];exact I.mod.glob.keeps I.bk) hm (by rw[I.ok.blt];exact h1.keeps I.bk) ((h2 x hn).trans hv) h) hd
theorem wQ{x:Str}{v:V}{u:Value}{pos:Pos}(hg:Gl X x)(hm:X.mg x=some u)(r:RelV v u)(hd:(x==("__debug__":Str))=false:=by decide):PE X (.Name x pos) (tC v):=
 λ_ _ _ H _ I h=>BV I hg hm ⟨v,H,I,r,h⟩ hd
theorem jM{x:Str}{v:V}{u:Value}{pos:Pos}(hg:Gl X x)(hm:X.mg x=none)(hv:bootBuiltins x=some u)(r:RelV v u)(hn:x≠ "__name__":=by decide)(hd:(x==("__debug__":Str))=false:=by decide):PE X (.Name x pos) (tC v):=
 λ_ _ _ H _ I h=>kK I hg hm hv ⟨v,H,I,r,h⟩ hn hd
variable{a b:Expr}{ta tb:TE}{pos:Pos}
inductive Ro(x:V)(Q:Bool->Prop):Prop
 |mk(k:Bool)(e:x= .bl k)(q:Q k)
def tB(t:TE):TT:=λσ H Q=>t σ H λx H1=>Ro x λc=>Q c H1
theorem jn{e:Expr}{t:TE}(h:PE X e t)(he:∀whole,isTrue e X.env whole=(do let v<-whole;standAt e.pos;holding [v] (truthy v)):=by intro _;rfl):PT X e (tB t):=by
 intro pins s σ H Q I hw
 refine isTrue_plain (fX (h pins s σ H _ I hw) λv s1 ⟨x,H1,I1,r1,q1⟩=> ?_) (he _)
 obtain⟨d,rfl,q⟩:=q1
 cases r1
 exact wpAny_truthy_bool ⟨H1,I1,q⟩
variable{tA Oz:TT}{rest:List Expr}
def Pe(t u:TT):TT:=λσ H Q=>t σ H λc H1=>if c=true then u σ H1 Q else Q false H1
def Tf(t u:TT):TT:=λσ H Q=>t σ H λc H1=>if c=true then Q true H1 else u σ H1 Q
def Pf(t:TT):TT:=λσ H Q=>t σ H λc H1=>Q (!c) H1
theorem HY(ha:PT X a tA):PW X (.BoolOp .And [a] pos) tA:=by
 intro wh pins s σ H Q I h
 refine isTrue_and (fX (ha pins s σ H Q I h) λc s1 e=> ?_)
 cases c with
 |true=>exact isTrue_and_nil e
 |false=>exact e
theorem qb(ha:PT X a tA):PW X (.BoolOp .Or [a] pos) tA:=by
 intro wh pins s σ H Q I h
 refine isTrue_or (fX (ha pins s σ H Q I h) λc s1 e=> ?_)
 cases c with
 |false=>exact isTrue_or_nil e
 |true=>exact e
theorem KA(ha:PT X a tA)(hb:PW X (.BoolOp .And (b::rest) pos) Oz):PW X (.BoolOp .And (a::b::rest) pos) (Pe tA Oz):=by
 intro wh pins s σ H Q I h
 refine isTrue_and (fX (ha pins s σ H _ I h) λc s1 ⟨H1,I1,q1⟩=> ?_)
 cases c with
 |true=>exact hb wh pins s1 σ H1 Q I1 q1
 |false=>exact⟨H1,I1,q1⟩
theorem rm(ha:PT X a tA)(hb:PW X (.BoolOp .Or (b::rest) pos) Oz):PW X (.BoolOp .Or (a::b::rest) pos) (Tf tA Oz):=by
 intro wh pins s σ H Q I h
 refine isTrue_or (fX (ha pins s σ H _ I h) λc s1 ⟨H1,I1,q1⟩=> ?_)
 cases c with
 |true=>exact⟨H1,I1,q1⟩
 |false=>exact hb wh pins s1 σ H1 Q I1 q1
theorem kL(ha:PT X a tA):PT X (.UnaryOp .Not a pos) (Pf tA):=by
 intro pins s σ H Q I h
 exact isTrue_not (ha pins s σ H (λc H1=>Q (!c) H1) I h)
def JC(ta tb:TE):TE:=λσ H Q=>ta σ H λx H1=> ∃c,x= .bl c/\if c=true then tb σ H1 Q else Q (.bl false) H1
def JD(ta:TE):TE:=λσ H Q=>ta σ H λx H1=> ∃c,x= .bl c/\Q (.bl (!c)) H1
theorem wR{op}{t:TE}(h:PE X a t):PE X (.BoolOp op [a] pos) t:=λpins s σ H Q I hw=>BoolOp_one (h pins s σ H Q I hw)
theorem wU(ha:PE X a ta)(hb:PE X (.BoolOp .And (b::rest) pos) tb):PE X (.BoolOp .And (a::b::rest) pos) (JC ta tb):=by
 intro pins s σ H Q I h
 refine BoolOp_and (fX (ha pins s σ H _ I h) λv s1 ⟨x,H1,I1,r1,q1⟩=> ?_)
 obtain⟨c,rfl,q1⟩:=q1
 cases r1
 refine wpAny_truthy_bool ?_
 cases c with
 |true=>exact hb pins s1 σ H1 Q I1 q1
 |false=>exact⟨.bl false,H1,I1,rfl,q1⟩
theorem EU(ha:PE X a ta):PE X (.UnaryOp .Not a pos) (JD ta):=by
 intro pins s σ H Q I h
 refine UnaryOp_ (fX (ha pins s σ H _ I h) λv s1 ⟨x,H1,I1,r1,q1⟩=> ?_)
 obtain⟨c,rfl,q1⟩:=q1
 cases r1
 exact not_of (wpAny_truthy_bool ⟨.bl (!c),H1,I1,rfl,q1⟩)
def Tg(t:TT)(ta tb:TE):TE:=λσ H Q=>t σ H λc H1=>if c=true then ta σ H1 Q else tb σ H1 Q
theorem EV{c:Expr}(hc:PT X c tA)(ha:PE X a ta)(hb:PE X b tb):PE X (.IfExp c a b pos) (Tg tA ta tb):=by
 intro pins s σ H Q I h
 refine wpAny_IfExp (fX (hc pins s σ H _ I h) λd s1 ⟨H1,I1,q1⟩=> ?_)
 cases d with
 |true=>exact ha pins s1 σ H1 Q I1 q1
 |false=>exact hb pins s1 σ H1 Q I1 q1
end
def aP(K:PySem.W.Frag)(H:Hp)(a:Addr)(xs:List V):Prop:=
 Rd H a (.lst xs)∨
  ∃(o:Obj)(its:Array Value)(n:Nat),K.lookup a=some o/\o.cls= .type "list"/\o.dict=none/\o.data= .seq its n/\its.size<=sizeLine/\Vals xs its.toList
def uJ(K:PySem.W.Frag)(H:Hp)(a:Addr)(xs:List V):Prop:=
 Rd H a (.tup xs)∨
  ∃(o:Obj)(its:Array Value)(n:Nat),K.lookup a=some o/\o.cls= .type "tuple"/\o.data= .seq its n/\its.size<=sizeLine/\Vals xs its.toList
def Pg:Value->Option V
 | .none=>some .jc
 | .bool b=>some (.bl b)
 | .int i _=>some (.int i)
 | .str x _=>some (.str x)
 | .bytes b _=>some (.EN b)
 | .float b _=>some (.Mn b)
 | .ref a=>some (.ref a)
 | .type n=>some (.ty n)
 |_=>none
theorem RelV.abs{x:V}{u:Value}(r:RelV x u):Pg u=some x:=by
 cases x with
 |jc=>cases r;rfl
 |bl _=>cases r;rfl
 |int _=>obtain⟨t,rfl⟩:=r;rfl
 |str _=>obtain⟨t,rfl⟩:=r;rfl
 |EN _=>obtain⟨t,rfl⟩:=r;rfl
 |Mn _=>obtain⟨t,rfl⟩:=r;rfl
 |ref _=>cases r;rfl
 |ty _=>cases r;rfl
theorem RelV.inj{x y:V}{u:Value}(r:RelV x u)(q:RelV y u):x=y:=Option.some.inj (r.abs.symm.trans q.abs)
theorem Vals.inj:∀{xs ys:List V}{us:List Value},Vals xs us->Vals ys us->xs=ys
 |_,_,_,.nil,.nil=>rfl
 |_,_,_,.cons r t,.cons r' t'=>by rw[r.inj r',Vals.inj t t']
section
variable{X:Cx}{pins:List (Addr×Obj)}{σ:St}{H:Hp}{s:Shared}{a:Addr}{xs ys:List V}
theorem aP.of{K:PySem.W.Frag}(h:H a=some (.lst xs)):aP K H a xs:= .inl (.inl h)
theorem uJ.of{K:PySem.W.Frag}(h:H a=some (.tup xs)):uJ K H a xs:= .inl (.inl h)
theorem Inv.list(I:Inv X pins σ H s)(h:aP X.K H a xs):∃its:List Value,Vals xs its/\PlainL s.heap a its.toArray/\xs.length<=sizeLine:=by
 rcases h with h|⟨o,its,n,hk,hc,hd,hs,hz,r⟩
 ·obtain⟨z,its,n,r,e⟩:=h.ok I.hok
  exact⟨its,r,⟨_,n,e,rfl,rfl,rfl⟩,z⟩
 ·refine⟨its.toList,r,⟨o,n,I.wN a o hk,hc,hd,by simpa using hs⟩,?_⟩
  have e:=r.length
  simp only[Array.length_toList]at e
  omega
theorem Inv.tuple(I:Inv X pins σ H s)(h:uJ X.K H a xs):∃its:List Value,Vals xs its/\IsTup s.heap a its.toArray/\xs.length<=sizeLine:=by
 rcases h with h|⟨o,its,n,hk,hc,hs,hz,r⟩
 ·obtain⟨z,its,r,p⟩:=h.ok I.hok
  exact⟨its,r,p,z⟩
 ·refine⟨its.toList,r,⟨o,I.wN a o hk,hc,n,by simpa using hs⟩,?_⟩
  have e:=r.length
  simp only[Array.length_toList]at e
  omega
theorem Inv.sU(I:Inv X pins σ H s)(h:aP X.K H a xs)(h':aP X.K H a ys):xs=ys:=by
 obtain⟨its,r,⟨o,n,e,_,_,d⟩,_⟩:=I.list h
 obtain⟨its',r',⟨o',n',e',_,_,d'⟩,_⟩:=I.list h'
 rw[e]at e';cases e'
 rw[d]at d'
 injection d' with d1 _
 have:its=its':=by simpa using congrArg Array.toList d1
 subst this
 exact r.inj r'
end
abbrev Cx.uN(X:Cx)(E:Value->Shared->Prop):Cx:={X with xe:=E}
abbrev Cx.EI(X:Cx):Cx:=X.uN λ_ _=>False
theorem Cx.Ok.uN{X:Cx}(ok:X.Ok)(E:Value->Shared->Prop):(X.uN E).Ok:=
 ⟨ok.mod,ok.kind,ok.glob,ok.blt,ok.above,ok.inj,ok.has,ok.MN,ok.hd,ok.frames,ok.stk,ok.Mr,ok.bs,ok.HX,ok.Dd,ok.De,ok.rP,ok.Ms⟩
theorem Cx.Ok.l7{X:Cx}{E:Value->Shared->Prop}(ok:(X.uN E).Ok):X.Ok:=
 ⟨ok.mod,ok.kind,ok.glob,ok.blt,ok.above,ok.inj,ok.has,ok.MN,ok.hd,ok.frames,ok.stk,ok.Mr,ok.bs,ok.HX,ok.Dd,ok.De,ok.rP,ok.Ms⟩
section
variable{X:Cx}{pins:List (Addr×Obj)}{σ:St}{H:Hp}{s:Shared}{E:Value->Shared->Prop}
theorem Inv.uN(I:Inv X pins σ H s)(E:Value->Shared->Prop):Inv (X.uN E) pins σ H s:=⟨I.ok.uN E,I.os,I.bare,I.base,I.loc,I.cell,I.free,I.lW,I.pin,I.hok,I.len⟩
theorem Inv.l7(I:Inv (X.uN E) pins σ H s):Inv X pins σ H s:=⟨I.ok.l7,I.os,I.bare,I.base,I.loc,I.cell,I.free,I.lW,I.pin,I.hok,I.len⟩
theorem SP.l7{D:Ends}{f:Flow}{s':Shared}(h:SP (X.uN E) pins D f s'):SP X pins D f s':=by
 cases f with
 |next=>obtain⟨σ',H',I,q⟩:=h;exact⟨σ',H',I.l7,q⟩
 |brk=>obtain⟨σ',H',I,q⟩:=h;exact⟨σ',H',I.l7,q⟩
 |cont=>obtain⟨σ',H',I,q⟩:=h;exact⟨σ',H',I.l7,q⟩
 |ret u=>obtain⟨v,σ',H',I,r,q⟩:=h;exact⟨v,σ',H',I.l7,r,q⟩
theorem wO.EI{st:List Stmt}{t:TS}(h:wO X.EI st t):wO X st t:=λpins s σ H D I hw=>
 wpAny_mono (h pins s σ H D (I.uN _) hw) (λ_ _ q=>q.l7) λ_ _ z=>False.elim z
end
section
variable{X:Cx}{st:Stmt}{rest:List Stmt}{t u:TS}{e:Expr}{te:TE}{pos:Pos}
def JE:TS:=λD σ H=>D.nx σ H
def uO(t u:TS):TS:=λD σ H=>t {D with nx:=u D} σ H
theorem HZ:wO X [] JE:=λ_ _ σ H _ I h=>wpAny_execs_nil ⟨σ,H,I,h⟩
theorem EW(h1:PS X st t)(h2:wO X rest u):wO X (st::rest) (uO t u):=by
 intro pins s σ H D I h
 refine wpAny_execs_cons (fX (h1 pins s σ H {D with nx:=u D} I h) λf s1 q=> ?_)
 cases f with
 |next=>
  obtain⟨σ',H',I',q⟩:=q
  exact h2 pins s1 σ' H' D I' q
 |ret v=>exact q
 |brk=>exact q
 |cont=>exact q
theorem cK(h1:PS X st t):wO X [st] t:=by
 intro pins s σ H D I h
 refine wpAny_execs_cons (fX (h1 pins s σ H D I h) λf s1 q=> ?_)
 cases f with
 |next=>exact wpAny_execs_nil q
 |ret v=>exact q
 |brk=>exact q
 |cont=>exact q
theorem Inv.quiet{pins:List (Addr×Obj)}{σ:St}{H:Hp}{s:Shared}(I:Inv X pins σ H s):interactive X.env=false:=by simp[interactive,I.ok.kind]
def MS(te:TE):TS:=λD σ H=>te σ H λ_ H1=>D.nx σ H1
theorem kM(he:PE X e te)(hs:swapsWith e none pos.line X.env=pure false:=by rfl):PS X (.Expr e pos) (MS te):=by
 intro pins s σ H D I h
 exact wpAny_Expr_any (fX (he pins s σ H _ I h) λv s1 ⟨x,H1,I1,r1,q1⟩=>⟨σ,H1,I1,q1⟩) I.quiet hs
def MT(te:TE):TS:=λD σ H=>te σ H D.rt
theorem aT(he:PE X e te):PS X (.Return (some e) pos) (MT te):=by
 intro pins s σ H D I h
 exact wpAny_Return_some (fX (he pins s σ H _ I h) λv s1 ⟨x,H1,I1,r1,q1⟩=>⟨x,σ,H1,I1,r1,q1⟩)
def MU(c:TT)(t u:TS):TS:=λD σ H=>c σ H λb H1=>if b=true then t D σ H1 else u D σ H1
theorem MV{c:Expr}{a b:List Stmt}{tc:TT}(hc:PT X c tc)(ha:wO X a t)(hb:wO X b u):PS X (.If c a b pos) (MU tc t u):=by
 intro pins s σ H D I h
 refine wpAny_If (fX (hc pins s σ H _ I h) λd s1 ⟨H1,I1,q1⟩=> ?_)
 cases d with
 |true=>exact ha pins s1 σ H1 D I1 q1
 |false=>exact hb pins s1 σ H1 D I1 q1
def KC:TS:=λ_ _ _=>False
theorem sV:PS X st KC:=λ_ _ _ _ _ _ h=>h.elim
end
abbrev TG:=V->St->Hp->(St->Hp->Prop) ->Prop
abbrev Ia:=List V->St->Hp->(St->Hp->Prop) ->Prop
def PG(X:Cx)(target:Expr)(t:TG):Prop:=
 ∀(pins:List (Addr×Obj))(s:Shared)(σ:St)(H:Hp)(v:V)(u:Value)(Q:St->Hp->Prop),Inv X pins σ H s->RelV v u->t v σ H Q->
  wpAny (model X.prog X.w) X.A (assign target X.env u) (λ_ s'=> ∃σ' H',Inv X pins σ' H' s'/\Q σ' H') X.xe s
def MW(X:Cx)(ts:List Expr)(t:Ia):Prop:=
 ∀(pins:List (Addr×Obj))(s:Shared)(σ:St)(H:Hp)(vs:List V)(us:List Value)(Q:St->Hp->Prop),Inv X pins σ H s->Vals vs us->t vs σ H Q->
  wpAny (model X.prog X.w) X.A (assignInOrder ((assignEach ts X.env).map (·.2)) us) (λ_ s'=> ∃σ' H',Inv X pins σ' H' s'/\Q σ' H') X.xe s
abbrev KD:=V->V->V->Hp->(Hp->Prop) ->Prop
def MY(X:Cx)(t:KD):Prop:=
 ∀(pins:List (Addr×Obj))(s:Shared)(σ:St)(H:Hp)(o i v:V)(ov iv u:Value)(Q:Hp->Prop),Inv X pins σ H s->RelV o ov->RelV i iv->RelV v u->t o i v H Q->
  wpAny (model X.prog X.w) X.A (setItem ov iv u) (λ_ s'=> ∃H',Inv X pins σ H' s'/\Q H') X.xe s
section
variable{X:Cx}{pos:Pos}
def dJ(i:Nat):TG:=λv σ H Q=>Q (σ.set i (some v)) H
theorem aL{i:Nat}{x:Str}(hN:X.N.Nodup)(hi:X.N[i]?=some x)(hx:Loc X.env.scope x)(hf:X.fn x=true∨X.env.scope.names.lookup x=some .local:=by first|exact .inl rfl|exact .inr rfl|assumption):PG X (.Name x pos) (dJ i):=by
 intro pins s σ H v u Q I r h
 exact wpAny_assign_Name (jm I hN hi hx r (λs' I'=>⟨_,H,I',h⟩) hf)
def MZ:Ia:=λvs σ H Q=>vs=[]/\Q σ H
inductive Na(vs:List V)(Q:V->List V->Prop):Prop
 |mk(v:V)(r:List V)(e:vs=v::r)(q:Q v r)
def EX(t:TG)(u:Ia):Ia:=λvs σ H Q=>Na vs λv r=>t v σ H λσ1 H1=>u r σ1 H1 Q
theorem fH:MW X [] MZ:=by
 intro pins s σ H vs us Q I r h
 obtain⟨e,h⟩:=h
 subst e
 cases r
 exact assignInOrder_nil ⟨σ,H,I,h⟩
theorem aQ{e:Expr}{es:List Expr}{t:TG}{u:Ia}(h1:PG X e t)(h2:MW X es u)
  (hs:(assignEach (e::es) X.env).map (·.2)=assign e X.env::(assignEach es X.env).map (·.2):=by rfl):MW X (e::es) (EX t u):=by
 intro pins s σ H vs us Q I r h
 obtain⟨v,vr,e1,h⟩:=h
 subst e1
 cases r with
 |cons r rr=>
  rw[hs]
  refine assignInOrder_cons (fX (h1 pins s σ H _ _ _ I r h) λ_ s1 ⟨σ1,H1,I1,q1⟩=> ?_)
  exact h2 pins s1 σ1 H1 _ _ Q I1 rr q1
inductive Ph(K:PySem.W.Frag)(n:Nat)(v:V)(H:Hp)(Q:List V->Prop):Prop
 |mk(a:Addr)(xs:List V)(e:v= .ref a)(s:uJ K H a xs)(l:xs.length=n)(q:Q xs)
def Nb(K:PySem.W.Frag)(n:Nat)(t:Ia):TG:=λv σ H Q=>Ph K n v H λxs=>t xs σ H Q
theorem sW{es:List Expr}{k:Nat}{t:Ia}{n:Nat}(hc:X.calm=true)(h:MW X es t)
  (hn:(assignEach es X.env).length=n:=by rfl)(hst:(assignEach es X.env).findIdx? (·.1)=none:=by rfl):PG X (.Tuple es k pos) (Nb X.K n t):=by
 intro pins s σ H v u Q I r hw
 obtain⟨a,xs,e1,hq,hl,hw⟩:=hw
 subst e1
 cases r
 obtain⟨its,rv,ht,hz⟩:=I.tuple hq
 refine assign_Tuple_tuple (I.ok.hd hc) ht (by simp[hn,<-hl,rv.length]) hst λh' hx=> ?_
 have I1:Inv X pins σ H {s with heap:=h'}:=I.kept (t':=s.toks) λb o e=>hx b o (Nat.ne_of_lt (Heap.lt_size e)) e
 exact h pins _ σ H xs _ Q I1 (by simpa using rv) hw
def Pj(to ti:TE)(t:KD):TG:=λv σ H Q=>to σ H λo H1=>ti σ H1 λi H2=>t o i v H2 λH3=>Q σ H3
theorem EY{o i:Expr}{to ti:TE}{t:KD}(ho:PE X o to)(hi:PE X i ti)(hs:MY X t)
  (ha:∀v,assign (.Subscript o i pos) X.env v=(do
   let ov<-holding [v] (eval o X.env)
   let iv<-holding [v,ov] (eval i X.env)
   standAt pos
   holding [v,ov,iv] (setItem ov iv v)
   release [v,ov,iv] []):=by intro _;rfl):PG X (.Subscript o i pos) (Pj to ti t):=by
 intro pins s σ H v u Q I r h
 rw[ha]
 refine wpAny_bind (wpAny_holding (fX (ho pins s σ H _ I h) λov s1 ⟨x,H1,I1,r1,q1⟩=> ?_))
 refine wpAny_bind (wpAny_holding (fX (hi pins s1 σ H1 _ I1 q1) λiv s2 ⟨y,H2,I2,r2,q2⟩=> ?_))
 refine wpAny_bind (wpAny_standAt (wpAny_bind (wpAny_holding (fX (hs pins s2 σ H2 x y v ov iv u _ I2 r1 r2 r q2) λ_ s3 ⟨H3,I3,q3⟩=> ?_))))
 exact wpAny_release ⟨σ,H3,I3,q3⟩
def EZ(te:TE)(g:TG):TS:=λD σ H=>te σ H λx H1=>g x σ H1 D.nx
theorem kN{tg e:Expr}{te:TE}{g:TG}(he:PE X e te)(hg:PG X tg g)(hs:swapsWithSole [tg] e pos.line X.env=pure false:=by rfl)(hw:swappedStores [tg] e X.env=pure none:=by rfl)
  (h1:(assignEach [tg] X.env).map (·.2)=[assign tg X.env]:=by rfl):PS X (.Assign [tg] e pos) (EZ te g):=by
 intro pins s σ H D I h
 refine wpAny_Assign_stores (fX (he pins s σ H _ I h) λv s1 ⟨x,H1,I1,r1,q1⟩=> ?_) hs hw
 rw[h1]
 exact fX (hg pins s1 σ H1 x v _ I1 r1 q1) λ_ s2 q=>q
theorem aD{i:Nat}{x:Str}{e:Expr}{te:TE}{pos':Pos}(hN:X.N.Nodup)(hi:X.N[i]?=some x)(hx:Loc X.env.scope x)(he:PE X e te)(hs:swapsWith e (some (.Name x pos')) pos.line X.env=pure false:=by rfl)(hf:X.fn x=true∨X.env.scope.names.lookup x=some .local:=by first|exact .inl rfl|exact .inr rfl|assumption):
  PS X (.Assign [.Name x pos'] e pos) (EZ te (dJ i)):=by
 intro pins s σ H D I h
 refine wpAny_Assign_Name (fX (he pins s σ H _ I h) λv s1 ⟨y,H1,I1,r1,q1⟩=> ?_) hs
 exact jm I1 hN hi hx r1 (λs2 I2=>⟨_,H1,I2,q1⟩) hf
def Pk(i j:Nat)(ta:TA):TS:=λD σ H=>ta σ H λvs H1=> ∃v w,vs=[v,w]/\D.nx ((σ.set i (some v)).set j (some w)) H1
theorem qc{i j:Nat}{x y:Str}{a b:Expr}{ta:TA}{px py pt:Pos}{kt k2 KG}(hc:X.calm=true)(hN:X.N.Nodup)(hi:X.N[i]?=some x)(hj:X.N[j]?=some y)(hij:i≠j)
  (hx:X.env.scope.names.lookup x=some .local)(hy:X.env.scope.names.lookup y=some .local)(ha:PA X [a,b] ta)
  (hw:swappedStores [.Tuple [.Name x px,.Name y py] kt pt] (.Tuple [a,b] k2 KG) X.env=pure (some [x,y]))
  (hs:swapsWithSole [.Tuple [.Name x px,.Name y py] kt pt] (.Tuple [a,b] k2 KG) pos.line X.env=pure false:=by rfl):
  PS X (.Assign [.Tuple [.Name x px,.Name y py] kt pt] (.Tuple [a,b] k2 KG) pos) (Pk i j ta):=by
 intro pins s σ H D I h
 rw[exec_Assign_arm]
 refine wpAny_bind (wpAny_standAt ?_)
 rw[hs]
 refine wpAny_bind (wpAny_pure ?_)
 rw[if_neg (by decide)]
 refine wpAny_bind (Tuple_ (fX (ha _ pins s σ H _ I h) λus s1 ⟨vs,H1,I1,r1,q1⟩=> ?_))
 obtain⟨v,w,e1,q1⟩:=q1
 subst e1
 obtain⟨u1,u2,rfl,rv,rw'⟩:∃u1 u2,us=[u1,u2]/\RelV v u1/\RelV w u2:=by
  cases r1 with
  |cons p q=>
   cases q with
   |cons p' q'=>
    cases q'
    exact⟨_,_,rfl,p,p'⟩
 refine wpAny_newObj_type ?_ (by show 2<=sizeLine;decide)
 have I2:Inv X pins σ H1 {s1 with heap:=s1.heap.push {cls:= .type "tuple",data:= .seq [u1,u2].toArray}}:=I1.kept (t':=s1.toks) λb o e=>Heap.get?_push_of_some _ e
 rw[hw]
 refine wpAny_bind (wpAny_pure ?_)
 show wpAny (model X.prog X.w) X.A (do rule "assign.swapped-stores";let items<-unpackItems (.ref s1.heap.objs.size) 2 none;assignInOrder [λv=>bindName X.env y v,λv=>bindName X.env x v] items.reverse;pure Flow.next) _ _ _
 refine wpAny_bind (wpAny_rule (wpAny_bind (unpackItems_tuple (items:= #[u1,u2]) (I.ok.hd hc) (IsTup.new s1.heap _) λh' hx'=> ?_)))
 have I3:=I2.kept (h':=h') (t':=s1.toks) λb o e=>hx' b o (Nat.ne_of_lt (Heap.lt_size e)) e
 show wpAny _ _ (assignInOrder [λv=>bindName X.env y v,λv=>bindName X.env x v] [u2,u1]>>=λ_=>pure Flow.next) _ _ _
 refine wpAny_bind (assignInOrder_cons (wpAny_bindName (jm I3 hN hj (.inl hy) rw' (λs2 I4=> ?_) (.inr hy))))
 refine assignInOrder_cons (wpAny_bindName (jm I4 hN hi (.inl hx) rv (λs3 I5=>assignInOrder_nil (wpAny_pure ?_)) (.inr hx)))
 rw[List.set_comm _ _ (Ne.symm hij)]at I5
 exact⟨_,H1,I5,q1⟩
end
section
variable{X:Cx}{pos:Pos}
def Fb(c:TT)(tb:TS):TS:=λD σ H=> ∃W:Nat->St->Hp->Prop,(∃m,W m σ H)/\ ∀m σ H,W m σ H->
 c σ H λb H1=>if b=true then ∃N:St->Hp->Prop,(∀σ' H',N σ' H'-> ∃m',m'<m/\W m' σ' H')/\tb {D with nx:=N,ct:=N,bk:=D.nx} σ H1 else D.nx σ H1
theorem kg{c:Expr}{body:List Stmt}{tc:TT}{tb:TS}(hp:PassesOwn (model X.prog X.w) X.A X.env X.xe)(hc:PT X c tc)(hb:wO X body tb):PS X (.While c body [] pos) (Fb tc tb):=by
 intro pins s σ H D I h
 obtain⟨W,⟨m0,w0⟩,turn⟩:=h
 refine wpAny_While (codeAny_whileLoop (λn s'=> ∃σ' H',Inv X pins σ' H' s'/\W n σ' H') ?_ m0 ⟨σ,H,I,w0⟩)
 rintro n s1 ⟨σ1,H1,I1,w1⟩
 refine wpAny_passesOwn hp (fX (hc pins s1 σ1 H1 _ I1 (turn n σ1 H1 w1)) λb s2 ⟨H2,I2,q2⟩=> ?_)
 cases b with
 |true=>
  obtain⟨N,hN,q2⟩:=q2
  rw[if_pos rfl]
  refine wpAny_passesOwn hp (fX (hb pins s2 σ1 H2 _ I2 q2) λf s3 q3=> ?_)
  cases f with
  |next=>
   obtain⟨σ3,H3,I3,n3⟩:=q3
   obtain⟨m',hm,w3⟩:=hN σ3 H3 n3
   exact⟨m',hm,σ3,H3,I3,w3⟩
  |cont=>
   obtain⟨σ3,H3,I3,n3⟩:=q3
   obtain⟨m',hm,w3⟩:=hN σ3 H3 n3
   exact⟨m',hm,σ3,H3,I3,w3⟩
  |brk=>exact q3
  |ret v=>exact q3
 |false=>
  rw[if_neg Bool.false_ne_true]
  exact wpAny_execs_nil ⟨σ1,H2,I2,q2⟩
end
structure It where
 go:Nat->Hp->Prop
 Ae:Nat->Hp->V->Hp->Prop
 stop:Nat->Hp->Prop
def fV(X:Cx)(pins:List (Addr×Obj))(H:Hp)(b:Addr):Prop:=
 H b=none/\b≠X.env.locals/\b∉X.fs/\(b∈X.ex∨X.s₀.heap.objs.size<=b)/\(∀x c,X.env.cells.lookup x=some c->c≠b)/\ ∀p∈X.pn++pins,p.1≠b
theorem Inv.Dg{X:Cx}{pins:List (Addr×Obj)}{σ:St}{H H':Hp}{s:Shared}{b:Addr}(I:Inv X pins σ H s)(hb:s.heap.objs.size<=b)(hn:H' b=none):fV X pins H' b:=by
 refine⟨hn,Nat.ne_of_gt (Nat.lt_of_lt_of_le I.lt hb),I.MO hb,.inr (Nat.le_trans I.sz hb),λx c e z=> ?_,λp hp z=> ?_⟩
 ·obtain⟨v,q⟩:=I.cell x c e
  exact absurd (Nat.lt_of_lt_of_le q.lt (by rw[z];exact hb)) (Nat.lt_irrefl _)
 ·exact absurd (Nat.lt_of_lt_of_le (Heap.lt_size (I.pin p hp).1) (by rw[z];exact hb)) (Nat.lt_irrefl _)
structure Turn(P:Program)(w:World)(K:PySem.W.Frag)(tg:Expr)(J:It)(fp:List Addr)(it:Addr)(tn:Nat->Heap->Prop):Prop where
 mem:it∈fp
 obj:∀i h,tn i h-> ∀b∈fp,∃o,h.get? b=some o/\ ∀v,o.data≠ .cell v
 keep:∀i h h',tn i h->(∀b∈fp,∀o,h.get? b=some o->h'.get? b=some o) ->tn i h'
 item:∀(X:Cx),X.prog=P->X.w=w->X.K=K->X.calm=true-> ∀(i:Nat)(pins:List (Addr×Obj))(s:Shared)(σ:St)(H:Hp)(E:Value->Shared->Prop),Inv X pins σ H s->(∀b∈fp,fV X pins H b) ->tn i s.heap->J.go i H->
  wpAny (model P w) X.A (pyNext (.ref it)) (λr s1=> ∃u,r=some u/\
   wpAny (model P w) X.A (letOwnedTupleGo tg (.ref it) u) (λ_ s2=> ∃x H',Inv X pins σ H' s2/\RelV x u/\J.Ae i H x H'/\tn (i+1) s2.heap/\ ∀b∈fp,H' b=none) E s1) E s
 done:∀(X:Cx),X.prog=P->X.w=w->X.K=K->X.calm=true-> ∀(i:Nat)(pins:List (Addr×Obj))(s:Shared)(σ:St)(H:Hp)(E:Value->Shared->Prop),Inv X pins σ H s->(∀b∈fp,fV X pins H b) ->tn i s.heap->J.stop i H->
  wpAny (model P w) X.A (pyNext (.ref it)) (λr s1=>r=none/\Inv X pins σ H s1) E s
 self:∀(A:Around)(i:Nat)(s:Shared)(Q:Value->Shared->Prop)(E:Value->Shared->Prop),tn i s.heap->Q (.ref it) s->wpAny (model P w) A (pyIter (.ref it)) Q E s
abbrev TI:=St->Hp->(It->Hp->Prop) ->Prop
def Rp(X:Cx)(pins:List (Addr×Obj))(σ:St)(tg:Expr)(R:It->Hp->Prop)(itv:Value)(s2:Shared):Prop:=
 ∃(it:Addr)(fp:List Addr)(tn:Nat->Heap->Prop)(J:It)(H':Hp),itv= .ref it/\Inv X pins σ H' s2/\Turn X.prog X.w X.K tg J fp it tn/\tn 0 s2.heap/\(∀b∈fp,fV X pins H' b)/\R J H'
def PI(X:Cx)(tg iter:Expr)(wi:TI):Prop:=
 ∀(pins:List (Addr×Obj))(s:Shared)(σ:St)(H:Hp)(R:It->Hp->Prop),Inv X pins σ H s->wi σ H R->
  wpAny (model X.prog X.w) X.A (eval iter X.env) (λv s1=>wpAny (model X.prog X.w) X.A (pyIter v) (Rp X pins σ tg R) X.xe s1) X.xe s
theorem JF{M:Model}{A:Around}{E:Value->Shared->Prop}{s:Shared}{tg:Expr}{it:Addr}{u:Value}{o:Obj}{n:String}{vs:Array Value}{Q:Unit->Shared->Prop}(ho:s.heap.get? it=some o)(hc:o.cls= .type n)(hd:o.data= .fields vs)
  (hn: ["enumerate","zip","dict_itemiterator","dict_reverseitemiterator","odict_iterator","itertools.zip_longest","itertools.pairwise"].contains n=false)(hQ:Q () s):wpAny M A (letOwnedTupleGo tg (.ref it) u) Q E s:=by
 unfold letOwnedTupleGo
 cases tg<;>first
  |exact wpAny_pure hQ
  |(cases u<;>first
    |exact wpAny_pure hQ
    |(refine wpAny_bind (wpAny_load ho ?_)
      rw[hc,hd]
      show wpAny M A (if(["enumerate","zip","dict_itemiterator","dict_reverseitemiterator","odict_iterator","itertools.zip_longest","itertools.pairwise"].contains n && vs[0]?==some (rawInt _))=true then _ else _) Q E s
      rw[if_neg (by intro h;rw[hn,Bool.false_and]at h;cases h)]
      exact wpAny_pure hQ))
def KH(K:PySem.W.Frag)(a:Addr):It:=
 ⟨λi H=> ∃xs x,aP K H a xs/\xs[i]?=some x,λi H x H'=>H'=H/\ ∀xs,aP K H a xs->xs[i]?=some x,λi H=> ∃xs,aP K H a xs/\xs.length<=i⟩
def HM(lo:Int)(n:Nat):It:=⟨λi _=>i<n,λi H x H'=>H'=H/\x= .int (lo+i),λi _=>n<=i⟩
theorem Dh{P:Program}{w:World}{K:PySem.W.Frag}{tg:Expr}(a it:Addr):Turn P w K tg (KH K a) [it] it (λi h=>h.IsListIter it a i) where
 mem:=by simp
 obj:=λi h st b hb=>by
  have e:b=it:=by simpa using hb
  subst e
  obtain⟨o,e,c,d⟩:=st
  exact⟨o,e,λv z=>by rw[d]at z;cases z⟩
 keep:=λi h h' st k=>st.at λo e=>k it (by simp) o e
 item:=by
  intro X hP hw hK hc i pins s σ H E I hf st hg
  subst hP hw hK
  obtain⟨xs,x,hq,hx⟩:=hg
  obtain⟨its,rv,p,hz⟩:=I.list hq
  obtain⟨u,hu,ru⟩:=rv.get hx
  obtain⟨f0,f1,f2,f3,f4,f5⟩:=hf it (by simp)
  refine wpAny_pyNext_list_item st p.isList (x:=u) (by simpa using hu) λh' st' sb=> ?_
  have I1:Inv X pins σ H {s with heap:=h'}:=I.turned (t':=s.toks) (λb o hb e=>(sb.2 b hb).trans e) f0 f1 f3 f4 f5
  obtain⟨o,e,c,d⟩:=id st'
  exact⟨u,rfl,JF (s:={s with heap:=h'}) e c d (by decide) ⟨x,H,I1,ru,⟨rfl,λys hy=>by rw[I.sU hy hq];exact hx⟩,st',λb hb=>(hf b hb).1⟩⟩
 done:=by
  intro X hP hw hK hc i pins s σ H E I hf st hg
  subst hP hw hK
  obtain⟨xs,hq,hx⟩:=hg
  obtain⟨its,rv,p,hz⟩:=I.list hq
  obtain⟨f0,f1,f2,f3,f4,f5⟩:=hf it (by simp)
  have hl:=rv.length
  exact wpAny_pyNext_list_end (I.ok.hd hc) st p.isList (by simp;omega) λh' eb=>⟨rfl,I.turned (t':=s.toks) (λb o hb e=>eb b o hb e) f0 f1 f3 f4 f5⟩
 self:=λ_ _ _ _ _ st h=>wpAny_pyIter_listiter st h
theorem Af{P:Program}{w:World}{K:PySem.W.Frag}{tg:Expr}(it:Addr)(lo:Int)(n:Nat):Turn P w K tg (HM lo n) [it] it (λi h=>IsRangeIter h it (lo+(i:Nat)*1) ((n:Int) - (i:Nat)) 1) where
 mem:=by simp
 obj:=λi h st b hb=>by
  have e:b=it:=by simpa using hb
  subst e
  exact⟨_,st,λv z=>by
   have z':Data.fields _=Data.cell v:=z
   cases z'⟩
 keep:=λi h h' st k=>k it (by simp) _ st
 item:=by
  intro X hP hw hK hc i pins s σ H E I hf st hg
  subst hP hw hK
  obtain⟨f0,f1,f2,f3,f4,f5⟩:=hf it (by simp)
  have W:=Walks.range (prog:=X.prog) (w:=X.w) (I.ok.hd hc) it lo 1 n
  refine W.item i s _ _ hg st λv h' tk hv st' kk=> ?_
  obtain⟨t,rfl⟩:=hv
  have I1:Inv X pins σ H {s with heap:=h',toks:=tk}:=I.turned (λb o hb e=>kk b o (by simpa using hb) e) f0 f1 f3 f4 f5
  refine⟨_,rfl,JF (s:={s with heap:=h',toks:=tk}) (n:= "range_iterator") st' rfl rfl (by decide) ⟨.int (lo+i),H,I1,⟨t,?_⟩,⟨rfl,rfl⟩,st',λb hb=>(hf b hb).1⟩⟩
  rw[Int.mul_one]
 done:=by
  intro X hP hw hK hc i pins s σ H E I hf st hg
  subst hP hw hK
  obtain⟨f0,f1,f2,f3,f4,f5⟩:=hf it (by simp)
  exact wpAny_pyNext_range_end (I.ok.hd hc) st (by have:n<=i:=hg;omega) λh' eb=>⟨rfl,I.turned (t':=s.toks) (λb o hb e=>eb b o hb e) f0 f1 f3 f4 f5⟩
 self:=λ_ _ _ _ _ st h=>wpAny_pyIter_rangeiter st h
section
variable{X:Cx}{tg:Expr}
def JG(K:PySem.W.Frag)(tl:TE):TI:=λσ H R=>tl σ H λx H1=> ∃a,x= .ref a/\(∃xs,aP K H1 a xs)/\R (KH K a) H1
theorem fQ{l:Expr}{tl:TE}(hl:PE X l tl):PI X tg l (JG X.K tl):=by
 intro pins s σ H R I h
 refine fX (hl pins s σ H _ I h) λv s1 ⟨x,H1,I1,r1,q1⟩=> ?_
 obtain⟨a,e,⟨xs,hq⟩,q⟩:=q1
 subst e
 cases r1
 obtain⟨its,rv,p,hz⟩:=I1.list hq
 refine wpAny_pyIter_list p.isList ?_
 refine⟨s1.heap.objs.size,[s1.heap.objs.size],_,_,H1,rfl,I1.kept (t':=s1.toks) λb o e=>Heap.get?_push_of_some _ e,Dh a _,⟨_,Heap.get?_push_size _ rfl,rfl,rfl⟩,λb hb=> ?_,q⟩
 have e:b=s1.heap.objs.size:=by simpa using hb
 subst e
 exact I1.Dg (Nat.le_refl _) (I1.hok.fresh (Nat.le_refl _))
theorem yE{pins:List (Addr×Obj)}{σ:St}{H:Hp}{s:Shared}{R:It->Hp->Prop}{E:Value->Shared->Prop}{lo hi:Int}{t u v:Tok}{tk:Nat}(I:Inv X pins σ H s)(h1: -(2^62)<=lo)(h2:lo<2^62)(h3: -(2^62)<=hi)(h4:hi<2^62)
  (q:R (HM lo (hi-lo).toNat) H):wpAny (model X.prog X.w) X.A (pyIter (.ref s.heap.objs.size)) (Rp X pins σ tg R) E {s with heap:=s.heap.push {cls:= .type "range",data:= .fields #[.int lo t,.int hi u,.int 1 v]},toks:=tk}:=by
 refine wpAny_pyIter_range (IsRange.new ..) (small_one h1 h2 h3 h4) ?_
 have I1:Inv X pins σ H {s with heap:=s.heap.push {cls:= .type "range",data:= .fields #[.int lo t,.int hi u,.int 1 v]},toks:=tk}:=I.kept λb o e=>Heap.get?_push_of_some _ e
 refine⟨(s.heap.push {cls:= .type "range",data:= .fields #[.int lo t,.int hi u,.int 1 v]}).objs.size,[(s.heap.push {cls:= .type "range",data:= .fields #[.int lo t,.int hi u,.int 1 v]}).objs.size],_,_,H,rfl,
  I1.kept (t':=tk) λb o e=>Heap.get?_push_of_some _ e,Af _ lo (hi-lo).toNat,?_,λb hb=> ?_,q⟩
 ·have e1:lo+((0:Nat):Int)*1=lo:=by simp
  have e2:(((hi-lo).toNat:Nat):Int) - ((0:Nat):Int)=Builtin.Range.rangeSize lo hi 1:=by rw[rangeSize_one];split<;>omega
  show IsRangeIter _ _ (lo+((0:Nat):Int)*1) ((((hi-lo).toNat:Nat):Int) - ((0:Nat):Int)) 1
  rw[e1,e2]
  exact Heap.get?_push_size _ rfl
 ·have e:b=(s.heap.push {cls:= .type "range",data:= .fields #[.int lo t,.int hi u,.int 1 v]}).objs.size:=by simpa using hb
  subst e
  exact I1.Dg (Nat.le_refl _) (I1.hok.fresh (Nat.le_refl _))
def rq(ta:TA):TI:=λσ H R=>ta σ H λvs H1=> ∃j:Int,vs=[.int j]/\ -(2^62)<=j/\j<2^62/\R (HM 0 j.toNat) H1
def Nc(ta:TA):TI:=λσ H R=>ta σ H λvs H1=> ∃i j:Int,vs=[.int i,.int j]/\(-(2^62)<=i/\i<2^62/\ -(2^62)<=j/\j<2^62)/\R (HM i (j-i).toNat) H1
theorem cF{a:Expr}{ta:TA}{p pos:Pos}(hg:Gl X "range")(hm:X.mg "range"=none)(ha:PA X [a] ta)(hs:starEach [a] X.env=[(false,eval a X.env)]:=by rfl):PI X tg (.Call (.Name "range" p) [a] [] pos) (rq ta):=by
 intro pins s σ H R I h
 refine Call_ (kK I hg hm boot_range (PyProof.Rows.callWith_type1 (fX (ha pos pins s σ H _ I h) λus s1 ⟨vs,H1,I1,r1,q1⟩=> ?_) hs rfl))
 obtain⟨j,e,q1,q2,q⟩:=q1
 subst e
 cases r1 with
 |cons r rr=>
  cases rr
  obtain⟨t,rfl⟩:=r
  exact call_range_1 (yE I1 (by omega) (by omega) q1 q2 (by simpa using q))
theorem ni{a b:Expr}{ta:TA}{p pos:Pos}(hg:Gl X "range")(hm:X.mg "range"=none)(ha:PA X [a,b] ta)(hs:starEach [a,b] X.env=[(false,eval a X.env),(false,eval b X.env)]:=by rfl)(hs2:starEach [b] X.env=[(false,eval b X.env)]:=by rfl):
  PI X tg (.Call (.Name "range" p) [a,b] [] pos) (Nc ta):=by
 intro pins s σ H R I h
 refine Call_ (kK I hg hm boot_range (PyProof.Rows.callWith_type1 (fX (ha pos pins s σ H _ I h) λus s1 ⟨vs,H1,I1,r1,q1⟩=> ?_) (by rw[hs,hs2]) (by rw[hs2];rfl)))
 obtain⟨i,j,e,⟨q1,q2,q3,q4⟩,q⟩:=q1
 subst e
 cases r1 with
 |cons r rr=>
  cases rr with
  |cons r' rr=>
   cases rr
   obtain⟨t,rfl⟩:=r
   obtain⟨t',rfl⟩:=r'
   exact call_range_2 (yE I1 q1 q2 q3 q4 q)
def Pn(wi:TI)(g:TG)(tb:TS):TS:=λD σ H=>wi σ H λJ H1=> ∃W:Nat->Nat->St->Hp->Prop,(∃m,W 0 m σ H1)/\ ∀i m σ H,W i m σ H->
 (J.stop i H/\D.nx σ H)∨(J.go i H/\ ∃N:St->Hp->Prop,(∀σ' H',N σ' H'-> ∃m',m'<m/\W (i+1) m' σ' H')/\ ∀x H',J.Ae i H x H'->g x σ H' λσ2 H2=>tb {D with nx:=N,ct:=N,bk:=D.nx} σ2 H2)
def cO(fp:List Addr)(h:Heap):List (Addr×Obj):=fp.filterMap λb=>(h.get? b).map λo=>(b,o)
theorem dU{fp:List Addr}{h:Heap}{b:Addr}{o:Obj}(hb:b∈fp)(e:h.get? b=some o):(b,o)∈cO fp h:=List.mem_filterMap.mpr ⟨b,hb,by rw[e];rfl⟩
theorem jl{fp:List Addr}{h:Heap}{p:Addr×Obj}(hp:p∈cO fp h):p.1∈fp/\h.get? p.1=some p.2:=by
 obtain⟨b,hb,e⟩:=List.mem_filterMap.mp hp
 cases q:h.get? b with
 |none=>rw[q]at e;cases e
 |some o=>
  rw[q]at e
  have e':(b,o)=p:=Option.some.inj e
  subst e'
  exact⟨hb,q⟩
theorem Inv.pinned{pins:List (Addr×Obj)}{σ:St}{H:Hp}{s:Shared}{fp:List Addr}(I:Inv X pins σ H s)(hf:∀b∈fp,fV X pins H b)(ho:∀b∈fp,∃o,s.heap.get? b=some o/\ ∀v,o.data≠ .cell v):Inv X (pins++cO fp s.heap) σ H s:=
 I.je λp hp=>(List.mem_append.mp hp).elim (λz=>I.pin p (List.mem_append_right _ z)) λz=>by
  obtain⟨hb,e⟩:=jl z
  obtain⟨f0,f1,f2,_⟩:=hf p.1 hb
  obtain⟨o,e',d⟩:=ho p.1 hb
  rw[e]at e';cases e'
  exact⟨e,f0,f1,f2,d⟩
theorem Inv.l8{pins pl:List (Addr×Obj)}{σ:St}{H:Hp}{s:Shared}(I:Inv X (pins++pl) σ H s):Inv X pins σ H s:=I.je λp hp=>I.pin p (List.mem_append_right _ (List.mem_append_left _ hp))
theorem g6{iter:Expr}{body:List Stmt}{wi:TI}{g:TG}{tb:TS}{pos:Pos}(hp:PassesOwn (model X.prog X.w) X.A X.env X.xe)(hc:X.calm=true)(hi:PI X tg iter wi)(hg:PG X tg g)(hb:wO X body tb)
  (hs:∀x,foldedSetIterable iter X.env x=pure x:=by intro _;rfl):PS X (.For tg iter body [] pos) (Pn wi g tb):=by
 intro pins s σ H D I h
 refine wpAny_For (fX (hi pins s σ H _ I h) λv s1 h1=>fX h1 λitv s2 h2=> ?_) hs
 obtain⟨it,fp,tn,J,H2,e,I2,T,st2,f2,W,⟨m0,w0⟩,turn⟩:=h2
 subst e
 have KI:∀{H':Hp},(∀b∈fp,H' b=none) -> ∀b∈fp,fV X pins H' b:=λhn b hb=>⟨hn b hb,(f2 b hb).2⟩
 refine codeAny_forLoop_any (λn s'=> ∃i σ' H',Inv X pins σ' H' s'/\tn i s'.heap/\(∀b∈fp,H' b=none)/\W i n σ' H') ?_ m0 ⟨0,σ,H2,I2,st2,λb hb=>(f2 b hb).1,w0⟩
 rintro n s3 ⟨i,σ3,H3,I3,st3,KJ,w3⟩
 rcases turn i n σ3 H3 w3 with⟨stop,qn⟩|⟨go,N,hN,step⟩
 ·refine wpAny_passesOwn hp (fX (T.done X rfl rfl rfl hc i pins s3 σ3 H3 X.xe I3 (KI KJ) st3 stop) λr s4 ⟨hr,I4⟩=> ?_)
  subst hr
  exact wpAny_execs_nil ⟨σ3,H3,I4,qn⟩
 ·refine wpAny_passesOwn hp (fX (T.item X rfl rfl rfl hc i pins s3 σ3 H3 X.xe I3 (KI KJ) st3 go) λr s4 ⟨u,hr,h4⟩=> ?_)
  subst hr
  refine wpAny_passesOwn hp (fX h4 λ_ s5 ⟨x,H5,I5,r5,y5,KL,Ib⟩=> ?_)
  have Pq:=I5.pinned (KI Ib) (T.obj _ _ KL)
  refine wpAny_passesOwn hp (fX (hg _ s5 σ3 H5 x u _ Pq r5 (step x H5 y5)) λ_ s6 ⟨Nd,H6,I6,q6⟩=> ?_)
  refine wpAny_passesOwn hp (fX (hb _ s6 Nd H6 _ I6 q6) λf s7 q7=> ?_)
  have again:∀{Fc:St}{H7:Hp},Inv X (pins++cO fp s5.heap) Fc H7 s7->N Fc H7-> ∃m,m<n/\ ∃i σ' H',Inv X pins σ' H' s7/\tn i s7.heap/\(∀b∈fp,H' b=none)/\W i m σ' H':=λ {Fc H7} I7 n7=>by
   obtain⟨m',hm,w7⟩:=hN Fc H7 n7
   refine⟨m',hm,i+1,Fc,H7,I7.l8,T.keep _ _ _ KL λb hb o e=>(I7.pin (b,o) (List.mem_append_right _ (List.mem_append_right _ (dU hb e)))).1,λb hb=> ?_,w7⟩
   obtain⟨o,e,d⟩:=T.obj _ _ KL b hb
   exact(I7.pin (b,o) (List.mem_append_right _ (List.mem_append_right _ (dU hb e)))).2.1
  cases f with
  |next=>obtain⟨Fc,H7,I7,n7⟩:=q7;exact again I7 n7
  |cont=>obtain⟨Fc,H7,I7,n7⟩:=q7;exact again I7 n7
  |brk=>obtain⟨Fc,H7,I7,q7⟩:=q7;exact⟨Fc,H7,I7.l8,q7⟩
  |ret v=>obtain⟨x7,Fc,H7,I7,r7,q7⟩:=q7;exact⟨x7,Fc,H7,I7.l8,r7,q7⟩
end
theorem pB{K:PySem.W.Frag}{a:Addr}{xs:List V}{g:TG}{tb:TS}{D:Ends}{σ:St}{H:Hp}(Pv:Nat->St->Hp->Prop)(h0:Pv 0 σ H)(hl:∀i σ H,i<=xs.length->Pv i σ H->aP K H a xs)
  (hs:∀i x σ H,xs[i]?=some x->Pv i σ H->g x σ H λσ2 H2=>tb {D with nx:=Pv (i+1),ct:=Pv (i+1),bk:=D.nx} σ2 H2)(hd:∀σ H,Pv xs.length σ H->D.nx σ H):
  ∃W:Nat->Nat->St->Hp->Prop,(∃m,W 0 m σ H)/\ ∀i m σ H,W i m σ H->
   ((KH K a).stop i H/\D.nx σ H)∨((KH K a).go i H/\ ∃N:St->Hp->Prop,(∀σ' H',N σ' H'-> ∃m',m'<m/\W (i+1) m' σ' H')/\ ∀x H',(KH K a).Ae i H x H'->g x σ H' λσ2 H2=>tb {D with nx:=N,ct:=N,bk:=D.nx} σ2 H2):=by
 refine⟨λi m σ H=>m=xs.length-i/\i<=xs.length/\Pv i σ H,⟨xs.length,by simp,Nat.zero_le _,h0⟩,?_⟩
 rintro i m σ H ⟨rfl,hi,p⟩
 have q:=hl i σ H hi p
 by_cases hlt:i<xs.length
 ·refine .inr ⟨⟨xs,xs[i],q,by simp[hlt]⟩,Pv (i+1),λσ' H' p'=>⟨xs.length- (i+1),by omega,rfl,hlt,p'⟩,λx H' y=> ?_⟩
  obtain⟨e,y⟩:=y
  subst e
  exact hs i x σ _ (y xs q) p
 ·have e:i=xs.length:=by omega
  subst e
  exact .inl ⟨⟨xs,q,Nat.le_refl _⟩,hd σ H p⟩
theorem fR{lo:Int}{n:Nat}{g:TG}{tb:TS}{D:Ends}{σ:St}{H:Hp}(Pv:Nat->St->Hp->Prop)(h0:Pv 0 σ H)
  (hs:∀i σ H,i<n->Pv i σ H->g (.int (lo+i)) σ H λσ2 H2=>tb {D with nx:=Pv (i+1),ct:=Pv (i+1),bk:=D.nx} σ2 H2)(hd:∀σ H,Pv n σ H->D.nx σ H):
  ∃W:Nat->Nat->St->Hp->Prop,(∃m,W 0 m σ H)/\ ∀i m σ H,W i m σ H->
   ((HM lo n).stop i H/\D.nx σ H)∨((HM lo n).go i H/\ ∃N:St->Hp->Prop,(∀σ' H',N σ' H'-> ∃m',m'<m/\W (i+1) m' σ' H')/\ ∀x H',(HM lo n).Ae i H x H'->g x σ H' λσ2 H2=>tb {D with nx:=N,ct:=N,bk:=D.nx} σ2 H2):=by
 refine⟨λi m σ H=>m=n-i/\i<=n/\Pv i σ H,⟨n,by simp,Nat.zero_le _,h0⟩,?_⟩
 rintro i m σ H ⟨rfl,hi,p⟩
 by_cases hlt:i<n
 ·refine .inr ⟨hlt,Pv (i+1),λσ' H' p'=>⟨n- (i+1),by omega,rfl,hlt,p'⟩,λx H' y=> ?_⟩
  obtain⟨e,y⟩:=y
  subst e y
  exact hs i σ _ hlt p
 ·have e:i=n:=by omega
  subst e
  exact .inl ⟨Nat.le_refl _,hd σ H p⟩
theorem l9{c:TT}{tb:TS}{D:Ends}{σ:St}{H:Hp}(Pv:St->Hp->Prop)(μ:St->Hp->Nat)(h0:Pv σ H)
  (hs:∀σ H,Pv σ H->c σ H λb H1=>if b=true then tb {D with nx:=λσ' H'=>Pv σ' H'/\μ σ' H'<μ σ H,ct:=λσ' H'=>Pv σ' H'/\μ σ' H'<μ σ H,bk:=D.nx} σ H1 else D.nx σ H1)
  (mono:∀σ H Q Q',(∀b H1,Q b H1->Q' b H1) ->c σ H Q->c σ H Q'):Fb c tb D σ H:=by
 refine⟨λm σ H=>m=μ σ H/\Pv σ H,⟨_,rfl,h0⟩,?_⟩
 rintro m σ H ⟨rfl,p⟩
 refine mono σ H _ _ (λb H1 q=> ?_) (hs σ H p)
 cases b with
 |true=>exact⟨_,λσ' H' ⟨p',l⟩=>⟨_,l,rfl,p'⟩,q⟩
 |false=>exact q
abbrev R2:=V->V->Hp->VK->Prop
def rQ(X:Cx)(f:Value->Value->Sem Value)(r:R2):Prop:=
 ∀(pins:List (Addr×Obj))(s:Shared)(σ:St)(H:Hp)(x y:V)(v u:Value)(Q:VK),Inv X pins σ H s->RelV x v->RelV y u->r x y H Q->
  wpAny (model X.prog X.w) X.A (f v u) (EP X pins σ Q) X.xe s
def Pr(X:Cx)(f:Value->Sem Value)(r:V->Hp->VK->Prop):Prop:=
 ∀(pins:List (Addr×Obj))(s:Shared)(σ:St)(H:Hp)(x:V)(v:Value)(Q:VK),Inv X pins σ H s->RelV x v->r x H Q->
  wpAny (model X.prog X.w) X.A (f v) (EP X pins σ Q) X.xe s
def pC(X:Cx)(f:Value)(r:List V->Hp->VK->Prop):Prop:=
 ∀(pins:List (Addr×Obj))(s:Shared)(σ:St)(H:Hp)(xs:List V)(us:List Value)(Q:VK),Inv X pins σ H s->Vals xs us->r xs H Q->
  wpAny (model X.prog X.w) X.A (call f us) (EP X pins σ Q) X.xe s
def gY(r:R2)(ta tb:TE):TE:=λσ H Q=>ta σ H λx H1=>tb σ H1 λy H2=>r x y H2 Q
def Ti(r:V->Hp->VK->Prop)(ta:TE):TE:=λσ H Q=>ta σ H λx H1=>r x H1 Q
inductive ZI(C:Int->Int->Prop)(g:Int->Int->V)(x y:V)(H:Hp)(Q:VK):Prop
 |mk(i j:Int)(ex:x= .int i)(ey:y= .int j)(c:C i j)(q:Q (g i j) H)
def rI(C:Int->Int->Prop)(g:Int->Int->V):R2:=ZI C g
inductive Tj(g:Int->Int->V)(x y:V)(H:Hp)(Q:VK):Prop
 |mk(i j:Int)(ex:x= .int i)(ey:y= .int j)(q:Q (g i j) H)
def Di(g:Int->Int->V):R2:=Tj g
inductive ZU(g:Int->V)(x:V)(H:Hp)(Q:VK):Prop
 |mk(i:Int)(ex:x= .int i)(q:Q (g i) H)
def rU(g:Int->V):V->Hp->VK->Prop:=ZU g
section
variable{X:Cx}{a b c:Expr}{ta tb tc:TE}{pos:Pos}
theorem KN(ha:PE X a ta)(hb:PE X b tb){pins:List (Addr×Obj)}{s:Shared}{σ:St}{H:Hp}{R:V->V->Hp->Prop}(I:Inv X pins σ H s)
  (h:ta σ H λx H1=>tb σ H1 λy H2=>R x y H2){Q:Value->Shared->Prop}{f:Value->Value->Sem Value}
  (hf:∀v u s2 x y H2,Inv X pins σ H2 s2->RelV x v->RelV y u->R x y H2->wpAny (model X.prog X.w) X.A (f v u) Q X.xe s2):
  wpAny (model X.prog X.w) X.A (eval a X.env) (λv s₁=>wpAny (model X.prog X.w) X.A (eval b X.env) (λu s₂=>wpAny (model X.prog X.w) X.A (f v u) Q X.xe s₂) X.xe s₁) X.xe s:=by
 refine fX (ha pins s σ H _ I h) λv s1 ⟨x,H1,I1,r1,q1⟩=> ?_
 refine fX (hb pins s1 σ H1 _ I1 q1) λu s2 ⟨y,H2,I2,r2,q2⟩=> ?_
 exact hf v u s2 x y H2 I2 r1 r2 q2
theorem ai{op:Operator}{r:R2}(ho:rQ X (binaryOp op) r)(ha:PE X a ta)(hb:PE X b tb):PE X (.BinOp a op b pos) (gY r ta tb):=by
 intro pins s σ H Q I h
 exact wpAny_BinOp (KN ha hb I h λv u s2 x y H2 I2 rx ry q=>ho pins s2 σ H2 x y v u Q I2 rx ry q)
theorem BW{op:UnaryOp}{r:V->Hp->VK->Prop}(ho:Pr X (unaryOp op) r)(ha:PE X a ta):PE X (.UnaryOp op a pos) (Ti r ta):=by
 intro pins s σ H Q I h
 exact UnaryOp_ (fX (ha pins s σ H _ I h) λv s1 ⟨x,H1,I1,r1,q1⟩=>ho pins s1 σ H1 x v Q I1 r1 q1)
theorem KO{f:Value->Value->Sem Value}{C:Int->Int->Prop}{g:Int->Int->Int}
  (rule:∀(i j:Int)(t u:Tok)(s:Shared)(Q:Value->Shared->Prop)(E:Value->Shared->Prop),C i j->Q (.int (g i j) s.toks) {s with toks:=s.toks+1} ->wpAny (model X.prog X.w) X.A (f (.int i t) (.int j u)) Q E s):
  rQ X f (rI C λi j=> .int (g i j)):=by
 intro pins s σ H x y v u Q I rx ry h
 obtain⟨i,j,rfl,rfl,hc,q⟩:=h
 obtain⟨t,rfl⟩:=rx
 obtain⟨t',rfl⟩:=ry
 exact rule i j t t' s _ _ hc ⟨.int (g i j),H,I.tok _,⟨_,rfl⟩,q⟩
theorem Nf{f:Value->Value->Sem Value}{g:Int->Int->Int}
  (rule:∀(i j:Int)(t u:Tok)(s:Shared)(Q:Value->Shared->Prop)(E:Value->Shared->Prop),Q (.int (g i j) s.toks) {s with toks:=s.toks+1} ->wpAny (model X.prog X.w) X.A (f (.int i t) (.int j u)) Q E s):
  rQ X f (Di λi j=> .int (g i j)):=by
 intro pins s σ H x y v u Q I rx ry h
 obtain⟨i,j,rfl,rfl,q⟩:=h
 obtain⟨t,rfl⟩:=rx
 obtain⟨t',rfl⟩:=ry
 exact rule i j t t' s _ _ ⟨.int (g i j),H,I.tok _,⟨_,rfl⟩,q⟩
theorem Ic{f:Value->Value->Sem Value}{g:Int->Int->Bool}
  (rule:∀(i j:Int)(t u:Tok)(s:Shared)(Q:Value->Shared->Prop)(E:Value->Shared->Prop),Q (.bool (g i j)) s->wpAny (model X.prog X.w) X.A (f (.int i t) (.int j u)) Q E s):
  rQ X f (Di λi j=> .bl (g i j)):=by
 intro pins s σ H x y v u Q I rx ry h
 obtain⟨i,j,rfl,rfl,q⟩:=h
 obtain⟨t,rfl⟩:=rx
 obtain⟨t',rfl⟩:=ry
 exact rule i j t t' s _ _ ⟨.bl (g i j),H,I,rfl,q⟩
def Ng(i j:Int):Prop:=0<j/\j<1073741824
def Nh(i j:Int):Prop:=0<=j/\j<=1000000/\i.natAbs<2^64
def Ie(i j:Int):Prop:=(-(2^64)<i/\i<2^64)∨(-(2^64)<j/\j<2^64)
theorem Ie.ok{i j:Int}(h:Ie i j):IntMulOk i j:=by
 rcases h with⟨h1,h2⟩|⟨h1,h2⟩
 ·exact .of_left (intBits_le_64 h1 h2)
 ·exact .of_right (intBits_le_64 h1 h2)
theorem aR:rQ X (binaryOp .Add) (Di λi j=> .int (i+j)):=Nf λ_ _ _ _ _ _ _ q=>add_int q
theorem bK:rQ X (binaryOp .Sub) (Di λi j=> .int (i-j)):=Nf λ_ _ _ _ _ _ _ q=>sub_int q
theorem bg:rQ X (binaryOp .Mult) (rI Ie λi j=> .int (i*j)):=KO λ_ _ _ _ _ _ _ hc q=>mul_int q hc.ok
theorem bZ:rQ X (binaryOp .FloorDiv) (rI Ng λi j=> .int (i/j)):=KO λi j _ _ _ _ _ hc q=>by
 have h1:(0:Int)<j:=hc.1
 have h2:j<1073741824:=hc.2
 exact floordiv_int (by omega) (by rw[Int.fdiv_eq_ediv_of_nonneg i (by omega)];exact q) (.inl (PyProof.noPylong_small (by omega)))
theorem cS:rQ X (binaryOp .Mod) (rI (λ_ j=>0<j) λi j=> .int (i%j)):=KO λi j _ _ _ _ _ hc q=>by
 have h1:(0:Int)<j:=hc
 exact mod_int' (by omega) (by rw[Int.fmod_eq_emod_of_nonneg i (by omega)];exact q)
theorem Fd:rQ X (binaryOp .Pow) (rI Nh λi j=> .int (i^j.toNat)):=KO λ_ _ _ _ _ _ _ hc q=>pow_int_small hc.1 hc.2.1 hc.2.2 q
theorem KP:rQ X (binaryOp .LShift) (rI Nh λi j=> .int (i*2^j.toNat)):=KO λ_ _ _ _ _ _ _ hc q=>lshift_int_small hc.1 hc.2.1 hc.2.2 q
theorem Tn{f:Value->Sem Value}{g:Int->Int}
  (rule:∀(i:Int)(t:Tok)(s:Shared)(Q:Value->Shared->Prop)(E:Value->Shared->Prop),Q (.int (g i) s.toks) {s with toks:=s.toks+1} ->wpAny (model X.prog X.w) X.A (f (.int i t)) Q E s):
  Pr X f (rU λi=> .int (g i)):=by
 intro pins s σ H x v Q I rx h
 obtain⟨i,rfl,q⟩:=h
 obtain⟨t,rfl⟩:=rx
 exact rule i t s _ _ ⟨.int (g i),H,I.tok _,⟨_,rfl⟩,q⟩
theorem wV:Pr X (unaryOp .USub) (rU λi=> .int (-i)):=Tn λ_ _ _ _ _ q=>neg_int q
end
def Ni:V->V->Bool
 | .jc,.jc=>true| .jc,.int _=>true| .int _,.jc=>true| .jc,.bl _=>true| .bl _,.jc=>true| .jc,.str _=>true| .str _,.jc=>true
 | .int _,.int _=>true| .bl _,.bl _=>true| .str _,.str _=>true| .EN _,.EN _=>true
 | .int _,.str _=>true| .str _,.int _=>true| .bl _,.str _=>true| .str _,.bl _=>true
 |_,_=>false
def Rq:R2:=λx y H Q=>Ni x y=true/\Q (.bl (decide (x=y))) H
def Tq:R2:=λx y H Q=>Ni x y=true/\Q (.bl (!decide (x=y))) H
theorem BX{i j:Int}:decide (V.int i=V.int j)=(i==j):=by
 rw[Bool.eq_iff_iff]
 simp
theorem Fe{i j:Bool}:decide (V.bl i=V.bl j)=(i==j):=by
 rw[Bool.eq_iff_iff]
 simp
theorem BY{i j:Str}:decide (V.str i=V.str j)=(i==j):=by
 rw[Bool.eq_iff_iff]
 simp
theorem BZ{i j:Array UInt8}:decide (V.EN i=V.EN j)=(i.toList==j.toList):=by
 rw[Bool.eq_iff_iff]
 cases i
 cases j
 simp
section
variable{X:Cx}{a b c:Expr}{ta tb tc:TE}{pos:Pos}
theorem cz{pins:List (Addr×Obj)}{σ:St}{H:Hp}{s:Shared}{Q:VK}{k k':Bool}(I:Inv X pins σ H s)(q:Q (.bl k) H)(e:k=k'):EP X pins σ Q (.bool k') s:=by
 subst e
 exact⟨.bl k,H,I,rfl,q⟩
theorem yF:rQ X (compareOp .Eq) Rq:=by
 intro pins s σ H x y v u Q I rx ry h
 obtain⟨hs,q⟩:=h
 cases x with
 |jc=>
  cases rx
  cases y with
  |jc=>cases ry;exact PySem.EqNone.eq_none_none (cz I q (by simp))
  |bl j=>cases ry;exact PySem.EqNone.eq_none_bool (cz I q (by simp))
  |int j=>obtain⟨t',rfl⟩:=ry;exact PySem.EqNone.eq_none_int (cz I q (by simp))
  |str j=>obtain⟨t',rfl⟩:=ry;exact PySem.EqNone.eq_none_str (cz I q (by simp))
  |_=>exact absurd (show false=true from hs) Bool.false_ne_true
 |bl i=>
  cases rx
  cases y with
  |jc=>cases ry;exact PySem.EqNone.eq_bool_none (cz I q (by simp))
  |bl j=>cases ry;exact eq_bool (cz I q Fe)
  |str j=>obtain⟨t',rfl⟩:=ry;exact PySem.EqMixed.eq_bool_str (cz I q (by simp))
  |_=>exact absurd (show false=true from hs) Bool.false_ne_true
 |int i=>
  obtain⟨t,rfl⟩:=rx
  cases y with
  |jc=>cases ry;exact PySem.EqNone.eq_int_none (cz I q (by simp))
  |int j=>obtain⟨t',rfl⟩:=ry;exact eq_int (cz I q BX)
  |str j=>obtain⟨t',rfl⟩:=ry;exact PySem.EqMixed.eq_int_str (cz I q (by simp))
  |_=>exact absurd (show false=true from hs) Bool.false_ne_true
 |str i=>
  obtain⟨t,rfl⟩:=rx
  cases y with
  |jc=>cases ry;exact PySem.EqNone.eq_str_none (cz I q (by simp))
  |bl j=>cases ry;exact PySem.EqMixed.eq_str_bool (cz I q (by simp))
  |int j=>obtain⟨t',rfl⟩:=ry;exact PySem.EqMixed.eq_str_int (cz I q (by simp))
  |str j=>obtain⟨t',rfl⟩:=ry;exact eq_str (cz I q BY)
  |_=>exact absurd (show false=true from hs) Bool.false_ne_true
 |EN i=>
  obtain⟨t,rfl⟩:=rx
  cases y with
  |EN j=>obtain⟨t',rfl⟩:=ry;exact PySem.W.eq_bytes (cz I q BZ)
  |_=>exact absurd (show false=true from hs) Bool.false_ne_true
 |_=>cases y<;>exact absurd (show false=true from hs) Bool.false_ne_true
theorem vF:rQ X (compareOp .NotEq) Tq:=by
 intro pins s σ H x y v u Q I rx ry h
 obtain⟨hs,q⟩:=h
 cases x with
 |jc=>
  cases rx
  cases y with
  |jc=>cases ry;exact PySem.EqNone.ne_none_none (cz I q (by simp))
  |bl j=>cases ry;exact PySem.EqNone.ne_none_bool (cz I q (by simp))
  |int j=>obtain⟨t',rfl⟩:=ry;exact PySem.EqNone.ne_none_int (cz I q (by simp))
  |str j=>obtain⟨t',rfl⟩:=ry;exact PySem.EqNone.ne_none_str (cz I q (by simp))
  |_=>exact absurd (show false=true from hs) Bool.false_ne_true
 |bl i=>
  cases rx
  cases y with
  |jc=>cases ry;exact PySem.EqNone.ne_bool_none (cz I q (by simp))
  |bl j=>cases ry;exact ne_bool (cz I q (congrArg not Fe))
  |str j=>obtain⟨t',rfl⟩:=ry;exact PySem.EqMixed.ne_bool_str (cz I q (by simp))
  |_=>exact absurd (show false=true from hs) Bool.false_ne_true
 |int i=>
  obtain⟨t,rfl⟩:=rx
  cases y with
  |jc=>cases ry;exact PySem.EqNone.ne_int_none (cz I q (by simp))
  |int j=>obtain⟨t',rfl⟩:=ry;exact ne_int (cz I q (congrArg not BX))
  |str j=>obtain⟨t',rfl⟩:=ry;exact PySem.EqMixed.ne_int_str (cz I q (by simp))
  |_=>exact absurd (show false=true from hs) Bool.false_ne_true
 |str i=>
  obtain⟨t,rfl⟩:=rx
  cases y with
  |jc=>cases ry;exact PySem.EqNone.ne_str_none (cz I q (by simp))
  |bl j=>cases ry;exact PySem.EqMixed.ne_str_bool (cz I q (by simp))
  |int j=>obtain⟨t',rfl⟩:=ry;exact PySem.EqMixed.ne_str_int (cz I q (by simp))
  |str j=>obtain⟨t',rfl⟩:=ry;exact ne_str (cz I q (congrArg not BY))
  |_=>exact absurd (show false=true from hs) Bool.false_ne_true
 |EN i=>
  obtain⟨t,rfl⟩:=rx
  cases y with
  |EN j=>obtain⟨t',rfl⟩:=ry;exact PySem.W.ne_bytes (cz I q (congrArg not BZ))
  |_=>exact absurd (show false=true from hs) Bool.false_ne_true
 |_=>cases y<;>exact absurd (show false=true from hs) Bool.false_ne_true
theorem JH:rQ X (compareOp .Lt) (Di λi j=> .bl (decide (i<j))):=Ic λ_ _ _ _ _ _ _ q=>lt_int q
theorem vG:rQ X (compareOp .LtE) (Di λi j=> .bl (decide (i<=j))):=Ic λ_ _ _ _ _ _ _ q=>le_int q
theorem nK:rQ X (compareOp .Gt) (Di λi j=> .bl (decide (j<i))):=Ic λ_ _ _ _ _ _ _ q=>gt_int q
theorem Ca:rQ X (compareOp .GtE) (Di λi j=> .bl (decide (j<=i))):=Ic λ_ _ _ _ _ _ _ q=>ge_int q
theorem KQ:rQ X (compareOp .Is) (λx y H Q=>y= .jc/\Q (.bl (decide (x= .jc))) H):=by
 intro pins s σ H x y v u Q I rx ry h
 obtain⟨rfl,q⟩:=h
 cases ry
 refine is_none_gen (cz I q ?_)
 cases x<;>first
  |(cases rx;rfl)
  |(obtain⟨t,rfl⟩:=rx;rfl)
theorem b8(b:Expr){op:CmpOp}(h:op≠ .In:=by decide)(h2:op≠ .NotIn:=by decide):behindInMarks op b=false:=by
 have e1:(op==CmpOp.In)=false:=by cases op<;>first|rfl|exact absurd rfl h
 have e2:(op==CmpOp.NotIn)=false:=by cases op<;>first|rfl|exact absurd rfl h2
 cases b<;>simp[behindInMarks,e1,e2]
theorem sI{op:CmpOp}{r:R2}(ho:rQ X (compareOp op) r)(ha:PE X a ta)(hb:PE X b tb)(hm:behindInMarks op b=false):PE X (.Compare a [op] [b] pos) (gY r ta tb):=by
 intro pins s σ H Q I h
 exact wpAny_Compare1 (KN ha hb I h λv u s2 x y H2 I2 rx ry q=>ho pins s2 σ H2 x y v u Q I2 rx ry q) hm
def Nj(t:TE):TT:=λσ H Q=>t σ H λx H1=>Ro x λc=>Q c H1
theorem bJ{op:CmpOp}{r:R2}(ho:rQ X (compareOp op) r)(ha:PE X a ta)(hb:PE X b tb)(hm:behindInMarks op b=false):PT X (.Compare a [op] [b] pos) (Nj (gY r ta tb)):=by
 intro pins s σ H Q I h
 refine wpAny_isTrue_Compare1 (fX (ha pins s σ H _ I h) λv s1 ⟨x,H1,I1,r1,q1⟩=>fX (hb pins s1 σ H1 _ I1 q1) λu s2 ⟨y,H2,I2,r2,q2⟩=>
  fX (ho pins s2 σ H2 x y v u _ I2 r1 r2 q2) λc s3 ⟨z,H3,I3,r3,k,e,q3⟩=> ?_) hm
 subst e
 cases r3
 exact wpAny_truthy_bool ⟨H3,I3,q3⟩
theorem wW:(sizeLine:Nat)<2^63:=by rw[sizeLine_eq];decide
theorem vals1{x:V}{us:List Value}(r:Vals [x] us):∃u,us=[u]/\RelV x u:=by
 cases r with
 |cons r1 r2=>cases r2;exact⟨_,rfl,r1⟩
theorem Ff:pC X (.builtin "abs") (λxs H Q=> ∃i,xs=[.int i]/\Q (.int (if i<0 then-i else i)) H):=by
 intro pins s σ H xs us Q I r h
 obtain⟨i,rfl,q⟩:=h
 obtain⟨u,rfl,t,rfl⟩:=vals1 r
 exact call_abs_int λu tk=>⟨.int (if i<0 then-i else i),H,I.tok _,⟨_,rfl⟩,q⟩
theorem Dj:pC X (.type "int") (λxs H Q=>(∃i,xs=[.int i]/\Q (.int i) H)∨ ∃k,xs=[.bl k]/\Q (.int (if k then 1 else 0)) H):=by
 intro pins s σ H xs us Q I r h
 rcases h with⟨i,rfl,q⟩|⟨k,rfl,q⟩
 ·obtain⟨u,rfl,t,rfl⟩:=vals1 r
  exact call_int_int ⟨.int i,H,I,⟨_,rfl⟩,q⟩
 ·obtain⟨u,rfl,r1⟩:=vals1 r
  cases r1
  exact call_int_bool ⟨.int (if k then 1 else 0),H,I.tok _,⟨_,rfl⟩,q⟩
end
structure KR(h:Heap)(x dx C:Addr)(mA:Str->Option Value):Prop where
 obj:h.get? x=some (PySem.W.instObj C dx)
 ns:h.Ns1 dx mA
 ne:dx≠x
theorem Dk{h:Heap}{dx:Addr}{mA:Str->Option Value}(n:h.Ns1 dx mA):∃od,h.get? dx=some od/\ ∀name,PySem.W.lookIn name od=some (mA name):=by
 obtain⟨o,es,ep,ho,hd,hk,_,hm⟩:=n
 refine⟨o,ho,λname=> ?_⟩
 have e:=hm name
 unfold nsFind findBy at e
 rw[<-Array.find?_toList]at e
 unfold PySem.W.lookIn
 rw[hd]
 dsimp only
 split
 ·rename_i y q
  rw[q]at e
  exact congrArg some e
 ·rename_i q
  rw[q]at e
  have a:es.toList.any (·.refKey)=false:=by
   rw[List.any_eq_false]
   intro y hy
   obtain⟨z,t,hkey⟩:=hk y (Array.mem_toList_iff.mp hy)
   simp[DictEntry.refKey,hkey]
  have a':¬es.toList.any (·.refKey)=true:=by rw[a];exact Bool.false_ne_true
  rw[if_neg a']
  exact congrArg some e
theorem KR.look{h:Heap}{x dx C:Addr}{mA:Str->Option Value}(I:KR h x dx C mA):∃od,PySem.W.InstAt h x (PySem.W.instObj C dx) C (some od)/\ ∀name,PySem.W.lookIn name od=some (mA name):=
 let⟨od,ho,hl⟩:=Dk I.ns
 ⟨od,⟨I.obj,rfl,rfl,ho⟩,hl⟩
section
variable{prog:Program}{w:World}{A:Around}{E:Value->Shared->Prop}{s:Shared}{K:PySem.W.Frag}{x dx C f:Addr}{mA:Str->Option Value}{name:Str}{v:Value}
end
section
variable{P:Program}{w:World}{H H':Hp}{h h':Heap}{a C dx:Addr}{fs fs':List (Str×V)}
theorem Ig(hok:su P w H h)(e:H a=some (.ins C dx fs)):∃mA,KR h a dx C mA/\(∀f,Ku (fs.lookup f) (mA f))/\PySem.Within mA (fs.map (·.1))/\fs.length<=1000/\H dx=some (.own a):=by
 obtain⟨d,z,ne,ob,mA,n,r,q⟩:=(show eV P w H h a (.ins C dx fs)from hok a _ e)
 exact⟨mA,⟨ob,n,ne⟩,r,q,z,d⟩
end
structure Pu(K:PySem.W.Frag)(C:Addr):Prop where
 pg:PySem.W.plainGet K C Str.empty=true
 hd:PySem.W.hasDictIn K C=true
 po:PySem.W.plainOver K C=true
 sa:PySem.W.findIn K (.ref C) "__setattr__"=some (some (.builtin "object.__setattr__"))
theorem Pu.get{K:PySem.W.Frag}{C:Addr}(c:Pu K C)(f:Str):PySem.W.plainGet K C f=true:=c.pg
section
variable{X:Cx}{pins:List (Addr×Obj)}{σ:St}{H:Hp}{s:Shared}{a C dx:Addr}{fs:List (Str×V)}{f:Str}{v:V}{A:Around}{E:Value->Shared->Prop}
end
section
variable{X:Cx}{o e value:Expr}{f:Str}{pos pos' tpos:Pos}{ta tv:TE}
end
section
variable{X:Cx}{pins:List (Addr×Obj)}{σ:St}{H:Hp}{s:Shared}{A:Around}{E:Value->Shared->Prop}{Q:Value->Shared->Prop}{c:Value}{b:Bool}
inductive nQ(K:PySem.W.Frag)(H:Hp):V->Value->Prop where
 |jc:nQ K H .jc (.type "NoneType")
 |bl(x:Bool):nQ K H (.bl x) (.type "bool")
 |int(i:Int):nQ K H (.int i) (.type "int")
 |str(x:Str):nQ K H (.str x) (.type "str")
 |Mn(x:UInt64):nQ K H (.Mn x) (.type "float")
 |lst{a:Addr}{xs:List V}(e:H a=some (.lst xs)):nQ K H (.ref a) (.type "list")
 |wM{a:Addr}{o:Obj}{xs:List V}(e:H a=some (.wM o (.lst xs))):nQ K H (.ref a) (.type "list")
 |tup{a:Addr}{xs:List V}(e:H a=some (.tup xs)):nQ K H (.ref a) (.type "tuple")
 |dK{a:Addr}{kvs:List (Key×V)}(e:H a=some (.dK kvs)):nQ K H (.ref a) (.type "dict")
 |dT{a:Addr}{kvs:List (List Key×V)}(e:H a=some (.dT kvs)):nQ K H (.ref a) (.type "dict")
 |ins{a C dx:Addr}{fs:List (Str×V)}(e:H a=some (.ins C dx fs))(cl:Pu K C)(ha:PySem.W.findIn K (.ref C) "__class__"=some (some (.builtin "object.__class__")))
   (hn:PySem.W.specialIn K (.builtin "object.__class__") "__get__"=some (some (.builtin "getset_descriptor.__get__"))) (htk:PySem.W.takesIn K (.builtin "object.__class__")=some true)
   (hm:PySem.W.mroIn K C (.type "object")=some true):nQ K H (.ref a) (.ref C)
theorem Dl{x:V}{u t:Value}(I:Inv X pins σ H s)(rx:RelV x u)(ty:nQ X.K H x t)(e:PySem.W.kitOne X.K t c=some b)(h:∀tk,Q (.bool b) {s with toks:=tk}):
  wpAny (model X.prog X.w) A (call (.builtin "isinstance") [u,c]) Q E s:=by
 cases ty with
 |jc=>cases(show u=Value.none from rx);exact PySem.W.kia_one PySem.W.kitx_none I.wN True.intro e (λz=>nomatch z) h
 |bl y=>cases(show u=Value.bool y from rx);exact PySem.W.kia_one PySem.W.kitx_bool I.wN True.intro e (λz=>nomatch z) h
 |int i=>obtain⟨t,q⟩:=(show ∃t,u=Value.int i t from rx);cases q;exact PySem.W.kia_one PySem.W.kitx_int I.wN True.intro e (λz=>nomatch z) h
 |str y=>obtain⟨t,q⟩:=(show ∃t,u=Value.str y t from rx);cases q;exact PySem.W.kia_one PySem.W.kitx_str I.wN True.intro e (λz=>nomatch z) h
 |Mn y=>obtain⟨t,q⟩:=(show ∃t,u=Value.float y t from rx);cases q;exact PySem.W.kia_one PySem.W.kitx_float I.wN True.intro e (λz=>nomatch z) h
 | @lst a xs ea=>
  cases(show u=Value.ref a from rx)
  obtain⟨_,_,n,_,h1⟩:=(show eV X.prog X.w H s.heap a (.lst xs)from I.hok a _ ea)
  exact PySem.W.kia_one PySem.W.kitx_list I.wN ⟨_,h1,rfl⟩ e (λz=>nomatch z) h
 | @wM a ob xs ea=>
  cases(show u=Value.ref a from rx)
  obtain⟨_,_,_,n,_,h1⟩:=(show eV X.prog X.w H s.heap a (.wM ob (.lst xs))from I.hok a _ ea)
  exact PySem.W.kia_one PySem.W.kitx_list I.wN ⟨_,h1,rfl⟩ e (λz=>nomatch z) h
 | @tup a xs ea=>
  cases(show u=Value.ref a from rx)
  obtain⟨_,_,_,p⟩:=(show eV X.prog X.w H s.heap a (.tup xs)from I.hok a _ ea)
  obtain⟨o,h1,h2,_⟩:=p
  exact PySem.W.kia_one PySem.W.kitx_tuple I.wN ⟨o,h1,h2⟩ e (λz=>nomatch z) h
 | @dK a kvs ea=>
  cases(show u=Value.ref a from rx)
  obtain⟨_,_,vs,_,p⟩:=(show eV X.prog X.w H s.heap a (.dK kvs)from I.hok a _ ea)
  obtain⟨o,es,ep,h1,h2,_⟩:=p
  exact PySem.W.kia_one PySem.W.kitx_dict I.wN ⟨o,h1,h2.1⟩ e (λz=>nomatch z) h
 | @dT a kvs ea=>
  cases(show u=Value.ref a from rx)
  obtain⟨_,_,xs,_,o,es,ep,h1,h2,_⟩:=(show eV X.prog X.w H s.heap a (.dT kvs)from I.hok a _ ea)
  exact PySem.W.kia_one PySem.W.kitx_dict I.wN ⟨o,h1,h2.1⟩ e (λz=>nomatch z) h
 | @ins a C dx fs ea cl ha hn htk hm=>
  cases(show u=Value.ref a from rx)
  obtain⟨mA,O,_⟩:=Ig I.hok ea
  obtain⟨od,J,_⟩:=O.look
  exact PySem.W.kia_one (PySem.W.kitx_own (cl.get _) cl.hd ha hn htk hm) I.wN J e (λz=>nomatch z) h
end
structure eU(k:Nat)(A:Around):Prop where
 hd:A.handled=none
 dp:A.depth+3*k+5<recursionLimit
 un:A.units+16*k+200<cLine
theorem eU.mono{j k:Nat}{A:Around}(r:eU k A)(h:j<=k):eU j A:=⟨r.hd,by have:=r.dp;omega,by have:=r.un;omega⟩
theorem eU.deeper{k:Nat}{A:Around}(r:eU (k+1) A)(env:Env):eU k (A.deeper env):=
 ⟨r.hd,by have:=r.dp;show A.depth+1+3*k+5<_;omega,by have:=r.un;show A.units+3+16*k+200<_;omega⟩
theorem eU.in1{k:Nat}{A:Around}(r:eU (k+1) A):eU k A.in1:=
 ⟨r.hd,by have:=r.dp;show A.depth+3*k+5<_;omega,by have:=r.un;show A.units+1+16*k+200<_;omega⟩
theorem eU.depth{k:Nat}{A:Around}(r:eU k A):A.depth<recursionLimit:=by have:=r.dp;omega
theorem eU.units{k:Nat}{A:Around}(r:eU k A):A.units+64<cLine:=by have:=r.un;omega
def jo:TA:=λ_ H Q=>Q [] H
def cW(ta:TE)(tr:TA):TA:=λσ H Q=>ta σ H λx H1=>tr σ H1 λxs H2=>Q (x::xs) H2
section
variable{X:Cx}{e:Expr}{es:List Expr}{te:TE}{t:TA}{pos:Pos}
theorem aj:PA X [] jo:=λ_ _ _ _ H Q I h=>Calls.spliced_nil ⟨[],H,I,.nil,h⟩
theorem af(ha:PE X e te)(hr:PA X es t)(hs:starEach (e::es) X.env=(false,eval e X.env)::starEach es X.env:=by rfl):PA X (e::es) (cW te t):=by
 intro pos pins s σ H Q I h
 rw[hs]
 show wpAny _ _ (spliced ((false,eval e X.env)::backTo pos (starEach es X.env))) _ _ s
 refine Calls.spliced_cons (fX (ha pins s σ H _ I h) λu s1 ⟨x,H1,I1,r1,q1⟩=> ?_)
 exact fX (hr pos pins s1 σ H1 _ I1 q1) λus s2 ⟨xs,H2,I2,r2,q2⟩=>⟨x::xs,H2,I2,.cons r1 r2,q2⟩
def Pw(t:TA):TE:=λσ H Q=>t σ H λxs H1=>xs.length<=sizeLine/\ ∀p,H1 p=none->Q (.ref p) (upd H1 p (.tup xs))
def Nk(t:TA):TE:=λσ H Q=>t σ H λxs H1=>xs.length<=sizeLine/\ ∀p,H1 p=none->Q (.ref p) (upd H1 p (.lst xs))
theorem nS{x1}(h:PA X es t):PE X (.Tuple es x1 pos) (Pw t):=by
 intro pins s σ H Q I hq
 refine wpAny_Tuple_spliced (fX (h pos pins s σ H _ I hq) λus s1 ⟨xs,H1,I1,r,z,q⟩=>⟨by rw[<-r.length];exact z,?_⟩)
 have hf:H1 s1.heap.objs.size=none:=I1.hok.fresh (Nat.le_refl _)
 refine⟨.ref s1.heap.objs.size,upd H1 s1.heap.objs.size (.tup xs),I1.laid (t':=s1.toks) (λb u e=>Heap.get?_push_of_some _ e) (Nat.le_refl _) ?_,rfl,q _ hf⟩
 exact⟨z,us,r,⟨_,Heap.get?_push_size _ rfl,rfl,_,rfl⟩⟩
theorem dG(h:PA X es t):PE X (.List es pos) (Nk t):=by
 intro pins s σ H Q I hq
 refine wpAny_List_spliced (fX (h pos pins s σ H _ I hq) λus s1 ⟨xs,H1,I1,r,z,q⟩=>⟨by rw[<-r.length];exact z,?_⟩)
 have hf:H1 s1.heap.objs.size=none:=I1.hok.fresh (Nat.le_refl _)
 refine⟨.ref s1.heap.objs.size,upd H1 s1.heap.objs.size (.lst xs),I1.laid (t':=s1.toks) (λb u e=>Heap.get?_push_of_some _ e) (Nat.le_refl _) ?_,rfl,q _ hf⟩
 exact⟨z,us,0,r,Heap.get?_push_size _ rfl⟩
end
abbrev Sp:=List V->Hp->VK->XK->Prop
abbrev Dm:=List Env->Hp->Shared->XK->Value->Shared->Prop
structure Ih(P:Program)(w:World)(K:PySem.W.Frag)(mg:Str->Option Value)(base:Heap)(A:Around)(outer:List Env)(s:Shared)(H:Hp):Prop where
 frames:A.frames=some outer
 mod:Mod K mg base
 bs:∀b o,base.get? b=some o->s.heap.get? b=some o/\H b=none
 HX:base.objs.size<=s.heap.objs.size
 rP:s.heap.FunFrames base outer
 Ms:∀b∈frs outer,H b=none
 hok:su P w H s.heap
 bare:AllBare s.gens
def CE(outer:List Env)(P:Program)(w:World)(H:Hp)(s:Shared)(Q:VK)(u:Value)(s':Shared):Prop:=
 ∃v H',s'.os=s.os/\ER s.gens s'.gens/\Un (frs outer) [] H H' s.heap s'.heap/\su P w H' s'.heap/\RelV v u/\Q v H'
def CR(CX:Dm)(outer:List Env)(P:Program)(w:World)(H:Hp)(s:Shared)(Q:VK)(E:XK)(r:Result)(s':Shared):Prop:=
 match r with
 | .ok (.ret u)=>CE outer P w H s Q u s'
 | .ok _=>False
 | .error e=>CX outer H s E e s'
structure pD(P:Program)(w:World)(K:PySem.W.Frag)(mg:Str->Option Value)(base:Heap)(CX:Dm)(k:Nat)(f:Addr)(fd:FuncData)(ps:List Str)(sp:Sp):Prop where
 len:∀vs H Q E,sp vs H Q E->vs.length=ps.length
 run:∀(A:Around)(outer:List Env)(s:Shared)(H:Hp)(args:Args)(us:List Value)(vs:List V)(Q:VK)(E:XK),eU k A->Ih P w K mg base A outer s H->BindsTo s fd args (ps.zip us) ->Vals vs us->sp vs H Q E->
  codeAny (model P w) A (.call (.ref f) args) (CR CX outer P w H s Q E) s
theorem pD.mono{P:Program}{w:World}{K:PySem.W.Frag}{mg:Str->Option Value}{base:Heap}{CX:Dm}{j k:Nat}{f:Addr}{fd:FuncData}{ps:List Str}{sp:Sp}(F:pD P w K mg base CX j f fd ps sp)(h:j<=k):
  pD P w K mg base CX k f fd ps sp:=⟨F.len,λA outer s H args us vs Q E hr=>F.run A outer s H args us vs Q E (hr.mono h)⟩
section
variable{X:Cx}{pins:List (Addr×Obj)}{σ:St}{H:Hp}{s s':Shared}
theorem Inv.Px(I:Inv X pins σ H s):Ih X.prog X.w X.K X.mg X.base X.A X.stack s H:=
 ⟨I.ok.frames,I.ok.mod,I.bs,Nat.le_trans I.ok.HX I.sz,I.stack,I.sE,I.hok,I.bare.bare⟩
theorem Inv.after{Q:VK}{u:Value}(I:Inv X pins σ H s)(h:CE X.stack X.prog X.w H s Q u s'):EP X pins σ Q u s':=by
 obtain⟨v,H',os,bare,un,hok,r,q⟩:=h
 obtain⟨hh,g,d,t,os'⟩:=s'
 obtain rfl:os'=s.os:=os
 exact⟨v,H',I.call (h':=hh) (g':=g) (d':=d) (t':=t) (ch:=[]) un hok bare (λb z=>absurd z (by simp)),r,q⟩
end
def lY(sp:Sp)(JI:List V)(E:XK)(t:TA):TE:=λσ H Q=>t σ H λvs H1=>sp (vs++JI) H1 Q E
def Binds(K:PySem.W.Frag)(fd:FuncData)(ps:List Str)(ds:List Value):Prop:=
 ∀(s:Shared)(us:List Value),K.In s.heap->(us++ds).length=ps.length->BindsTo s fd ⟨us,[]⟩ (ps.zip (us++ds))
theorem Binds.all{K:PySem.W.Frag}{fd:FuncData}{ps:List Str}(h:∀us:List Value,us.length=ps.length->bindArgs fd ⟨us,[]⟩=pure (ps.zip us)):Binds K fd ps []:=λs us _ hl=>by
 rw[List.append_nil]at hl ⊢
 exact .of_eq (h us hl)
def Passes(CX:Dm)(X:Cx)(E:XK):Prop:=∀(pins:List (Addr×Obj))(σ:St)(H:Hp)(s:Shared)(e:Value)(s':Shared),Inv X pins σ H s->CX X.stack H s E e s'->X.xe e s'
section
variable{X:Cx}{CX:Dm}{k:Nat}{f C:Addr}{fd:FuncData}{ps:List Str}{sp:Sp}{JI:List V}{ds:List Value}{E:XK}{x m:Str}{p pos apos:Pos}{e o:Expr}{es:List Expr}{ta:TE}{t:TA}
theorem KS{pins:List (Addr×Obj)}{σ:St}{H:Hp}{s:Shared}{Q:VK}{us:List Value}{vs:List V}(F:pD X.prog X.w X.K X.mg X.base CX k f fd ps sp)(hr:eU k X.A)(hb:Binds X.K fd ps ds)(hd:Vals JI ds)(hx:Passes CX X E)
  (I:Inv X pins σ H s)(r:Vals vs us)(h:sp (vs++JI) H Q E):wpAny (model X.prog X.w) X.A (call (.ref f) us) (EP X pins σ Q) X.xe s:=by
 have r2:Vals (vs++JI) (us++ds):=r.append hd
 have hl:(us++ds).length=ps.length:=by rw[<-r2.length];exact F.len _ _ _ _ h
 refine wpAny_call (codeAny_mono (F.run X.A X.stack s H ⟨us,[]⟩ (us++ds) (vs++JI) Q E hr I.Px (hb s us I.wN hl) r2 h) λr s' hq=> ?_)
 cases r with
 |error e=>exact hx pins σ H s e s' I hq
 |ok fl=>
  cases fl with
  |ret u=>exact I.after hq
  |next=>exact False.elim hq
  |brk=>exact False.elim hq
  |cont=>exact False.elim hq
theorem Ii(F:pD X.prog X.w X.K X.mg X.base CX k f fd ps sp)(hr:eU k X.A)(hg:Gl X x)(hm:X.mg x=some (.ref f))(hk:PySem.W.keepIn X.K (.ref f)=true)(hb:Binds X.K fd ps ds)(hd:Vals JI ds)(hx:Passes CX X E)
  (ha:PA X (e::es) t)(hdb:(x==("__debug__":Str))=false:=by decide)(he:starEach (e::es) X.env=(false,eval e X.env)::starEach es X.env:=by rfl)(hpl:(backTo pos (starEach es X.env)).any (·.1)=false:=by rfl):
  PE X (.Call (.Name x p) (e::es) [] pos) (lY sp JI E t):=by
 intro pins s σ H Q I h
 refine wpAny_Call_Name_kw (BV I hg hm ?_ hdb)
 refine PySem.W.callWith_K (h₀:=X.base) I.ok.mod.Mq hk (fX (ha pos pins s σ H _ I h) λus s1 ⟨vs,H1,I1,r,q⟩=>⟨I1.wN,?_⟩) he hpl
 exact KS F hr hb hd hx I1 r q
end
section
variable{X:Cx}{CX:Dm}{k:Nat}{f C:Addr}{fd:FuncData}{ps ks:List Str}{sp:Sp}{E:XK}{x m:Str}{p pos apos kpos:Pos}{e o:Expr}{es:List Expr}{kws:List Keyword}{te ta:TE}{t tk:TA}{nm:Option Str}
variable{g:List Value->List Value->List Value}{gV:List V->List V->List V}
end
structure aK(N P:List Str)(sc:Scope):Prop where
 kind:sc.kind= .function
 co:sc.isCoroutine=false
 gen:sc.isGenerator=false
 nd:N.Nodup
 pre:N.take P.length=P
 par:∀x∈P,sc.names.lookup x=some .local∨sc.names.lookup x=some .cell
 KU:∀y∈sc.names,y.2≠ .free
theorem vH{kindOf:Str->Option NameKind}{x:Str}:∀{binds:List (Str×Value)}{m:Str->Option Value},(∀v,(x,v)∉binds) ->bindL kindOf binds m x=m x
 | [],_,_=>rfl
 |(n,v)::r,m,h=>by
  unfold bindL
  rw[vH λw hw=>h w (List.mem_cons_of_mem _ hw)]
  split
  ·have:x≠n:=by rintro rfl;exact h v List.mem_cons_self
   simp[this]
  ·rfl
theorem vI{kindOf:Str->Option NameKind}{x:Str}:∀{binds:List (Str×Value)}{m:Str->Option Value},(∀v,(x,v)∉binds) ->bindC kindOf binds m x=m x
 | [],_,_=>rfl
 |(n,v)::r,m,h=>by
  unfold bindC
  rw[vI λw hw=>h w (List.mem_cons_of_mem _ hw)]
  split
  ·rfl
  ·have:x≠n:=by rintro rfl;exact h v List.mem_cons_self
   simp[this]
theorem vJ{kindOf:Str->Option NameKind}{x:Str}{v:Value}:∀{P:List Str}{vs:List Value}{i:Nat}{m:Str->Option Value},P.Nodup->P[i]?=some x->vs[i]?=some v->kindOf x=some .local->
  bindL kindOf (P.zip vs) m x=some v
 | [],_,_,_,_,h,_,_=>by simp at h
 |_::_,[],_,_,_,_,h,_=>by simp at h
 |p::P,w::vs,0,m,nd,h1,h2,hk=>by
  simp at h1 h2;subst h1;subst h2
  show bindL kindOf ((p,w)::P.zip vs) m p=_
  unfold bindL
  rw[vH λv hv=>(List.nodup_cons.mp nd).1 (List.of_mem_zip hv).1,if_pos hk]
  simp
 |p::P,w::vs,i+1,m,nd,h1,h2,hk=>by
  show bindL kindOf ((p,w)::P.zip vs) m x=_
  unfold bindL
  exact vJ (i:=i) (List.nodup_cons.mp nd).2 (by simpa using h1) (by simpa using h2) hk
theorem vK{kindOf:Str->Option NameKind}{x:Str}{v:Value}:∀{P:List Str}{vs:List Value}{i:Nat}{m:Str->Option Value},P.Nodup->P[i]?=some x->vs[i]?=some v->kindOf x≠some .local->
  bindC kindOf (P.zip vs) m x=some v
 | [],_,_,_,_,h,_,_=>by simp at h
 |_::_,[],_,_,_,_,h,_=>by simp at h
 |p::P,w::vs,0,m,nd,h1,h2,hk=>by
  simp at h1 h2;subst h1;subst h2
  show bindC kindOf ((p,w)::P.zip vs) m p=_
  unfold bindC
  rw[vI λv hv=>(List.nodup_cons.mp nd).1 (List.of_mem_zip hv).1,if_neg hk]
  simp
 |p::P,w::vs,i+1,m,nd,h1,h2,hk=>by
  show bindC kindOf ((p,w)::P.zip vs) m x=_
  unfold bindC
  exact vK (i:=i) (List.nodup_cons.mp nd).2 (by simpa using h1) (by simpa using h2) hk
def start(N:List Str)(vs:List V):St:=vs.map some++List.replicate (N.length-vs.length) none
def wX(CX:Dm)(P:Program)(w:World)(K:PySem.W.Frag)(mg:Str->Option Value)(base:Heap)(N:List Str)(qual:Str)(scope:Scope)(f:Addr)(cd:Value)(A:Around)(outer:List Env)(s:Shared)(H:Hp)(E:XK):Cx where
 prog:=P
 w:=w
 K:=K
 mg:=mg
 base:=base
 A:=A.deeper (envOfC qual scope s.heap.objs.size f cd)
 N:=N
 s₀:=s
 H₀:=H
 env:=envOfC qual scope s.heap.objs.size f cd
 outer:=outer
 stack:=envOfC qual scope s.heap.objs.size f cd::outer
 ex:=[]
 calm:=true
 fn:=λ_=>true
 pn:=[]
 xe:=λe s'=>wpAny (model P w) (A.deeper (envOfC qual scope s.heap.objs.size f cd)) (leaving (envOfC qual scope s.heap.objs.size f cd) e) (λ_ s''=>CX outer H s E e s'') (λe' s''=>CX outer H s E e' s'') s'
theorem yG{sc:Scope}{n:Nat}{x:Str}(h:sc.names.lookup x=some .cell):∃c,(cellsFrom n sc.names []).lookup x=some c:=by
 have q:=PySem.W.cellsFrom_some sc.names n [] (.inl h)
 exact Option.isSome_iff_exists.mp q
theorem Dn{CX:Dm}{P:Program}{w:World}{K:PySem.W.Frag}{mg:Str->Option Value}{base:Heap}{N ps:List Str}{qual:Str}{scope:Scope}{f:Addr}{cd:Value}{A:Around}{outer:List Env}{s s1:Shared}{H:Hp}{E:XK}{us:List Value}{vs:List V}
  (S:aK N ps scope)(hd:A.handled=none)(e0:Ih P w K mg base A outer s H)(hl:vs.length=ps.length)(r:Vals vs us)
  (x:InCallC s s.heap.objs.size (bindL (envOfC qual scope s.heap.objs.size f cd).kindOf (ps.zip us) λ_=>none) (cellsFrom (s.heap.objs.size+1) scope.names []) (bindC (envOfC qual scope s.heap.objs.size f cd).kindOf (ps.zip us) λ_=>none) s1):
  Inv (wX CX P w K mg base N qual scope f cd A outer s H E) [] (start N vs) H s1:=by
 have hpl:ps.length<=N.length:=by have:=congrArg List.length S.pre;rw[List.length_take]at this;omega
 obtain⟨h1,tk,rfl,hk⟩:=x.done
 have Py:∀b:Addr,b∉(wX CX P w K mg base N qual scope f cd A outer s H E).ex:=λb z=>absurd (show b∈([]:List Addr)from z) (by simp)
 refine⟨⟨e0.mod,S.kind,rfl,rfl,Nat.le_refl _,λy z c h1 h2=> ?_,λy hy=> ?_,λy c _ h=> ?_,λ_=>hd,Around.frames_deeper e0.frames,.inr ⟨rfl,rfl⟩,λb z=>absurd z (Py b),e0.bs,e0.HX,λb _ _=>Py b,λb z=>absurd z (Py b),e0.rP,e0.Ms⟩,
  rfl,.refl e0.bare,Un.kept hk,⟨_,x.toInCall.ns,λi y v h1 h2 h3=> ?_⟩,λy c h=>⟨_,x.cell y c h⟩,e0.hok.fresh (Nat.le_refl _),λy c h=> ?_,λp hp=>absurd (show p∈([]:List (Addr×Obj))from hp) (by simp),e0.hok.kept hk,?_⟩
 ·exact name_of_addr x.apart (PySem.mem_of_lookup h1) (PySem.mem_of_lookup h2)
 ·have hy:scope.names.lookup y=some .cell∨scope.names.lookup y=some .free:=hy
  rcases hy with hy|hy
  ·exact yG hy
  ·exact absurd rfl (S.KU _ (PySem.mem_of_lookup hy))
 ·exact Nat.le_of_lt (x.above y c (PySem.mem_of_lookup h))
 ·have hi:i<vs.length:=by
   unfold start at h2
   by_cases hi:i<vs.length
   ·exact hi
   ·rw[List.getElem?_append_right (by simpa using hi)]at h2
    rw[List.getElem?_replicate]at h2
    split at h2<;>cases h2
  have ha:vs[i]?=some v:=by
   unfold start at h2
   rw[List.getElem?_append_left (by simpa using hi),List.getElem?_map]at h2
   cases e:vs[i]? with
   |none=>rw[e]at h2;cases h2
   |some a=>rw[e]at h2;cases h2;rfl
  obtain⟨u,hu,rv⟩:=r.get ha
  have hp:ps[i]?=some y:=by
   rw[<-S.pre,List.getElem?_take_of_lt (by omega)];exact h1
  have Rt:ps.Nodup:=by rw[<-S.pre];exact S.nd.sublist (List.take_sublist _ _)
  refine⟨u,rv,?_⟩
  rcases S.par y (List.mem_of_getElem? hp)with k|k
  ·exact .inl ⟨k,vJ Rt hp hu k⟩
  ·obtain⟨c,e⟩:=yG (n:=s.heap.objs.size+1) k
   refine .inr ⟨.inl k,c,e,?_⟩
   have q:=x.cell y c e
   rw[vK Rt hp hu (by show scope.names.lookup y≠_;rw[k];decide)]at q
   exact q
 ·exact e0.hok.fresh (Nat.le_of_lt (x.above y c (PySem.mem_of_lookup h)))
 ·unfold start
  show _=N.length
  rw[List.length_append,List.length_map,List.length_replicate]
  omega
theorem JJ{CX:Dm}{P:Program}{w:World}{K:PySem.W.Frag}{mg:Str->Option Value}{base:Heap}{k:Nat}{f:Addr}{name qual:Str}{params:Arguments}{body:List Stmt}{scope:Scope}{dV kV doc pm cdv ct oc:Value}{an od:Option Addr}
  {osl:Array (Option Value)}{N ps:List Str}{sp:Sp}(lk:K.lookup f=some ⟨oc,od,.func (PySem.W.fnOf name qual params body scope dV kV doc pm an cdv ct),osl⟩)(hcd:PySem.W.codeIn K cdv qual=true)(S:aK N ps scope)
  (len:∀vs H Q E,sp vs H Q E->vs.length=ps.length)
  (hbody:∀(A:Around)(outer:List Env)(s:Shared)(H:Hp)(vs:List V)(Q:VK)(E:XK),eU k (A.deeper (envOfC qual scope s.heap.objs.size f cdv)) ->sp vs H Q E->
   ∃t,wO (wX CX P w K mg base N qual scope f cdv A outer s H E) body t/\t {nx:=λ_ H'=>Q .jc H',rt:=Q} (start N vs) H):
  pD P w K mg base CX (k+1) f (PySem.W.fnOf name qual params body scope dV kV doc pm an cdv ct) ps sp:=by
 refine⟨len,λA outer s H args us vs Q E hr e0 hb r HN=> ?_⟩
 have hl:=len _ _ _ _ HN
 have KX:K.In s.heap:=e0.mod.Mq.keeps λb o e=>(e0.bs b o e).1
 have lim:s.heap.NoLimit:=e0.mod.nolimit.keeps λb o e=>(e0.bs b o e).1
 have hkind:∀y∈ps.zip us,scope.names.lookup y.1=some .local∨(scope.names.lookup y.1=some .cell/\((cellsFrom (s.heap.objs.size+1) scope.names []).lookup y.1).isSome=true):=λ ⟨n,v⟩ hy=>by
  rcases S.par n (List.of_mem_zip hy).1 with q|q
  ·exact .inl q
  ·exact .inr ⟨q,PySem.W.cellsFrom_some _ _ _ (.inl q)⟩
 refine codeAny_call_function hr.depth (KX _ _ lk) rfl S.co S.gen rfl (PySem.W.codeRec_of KX hcd) (hb _ _ _ _ ?_)
 refine wpAny_newFunctionEnv_cells S.kind hkind λenv he s1 x=> ?_
 subst he
 refine⟨lim.keeps x.toInCall.keep,codeAny_func ?_⟩
 obtain⟨t,ht,hq⟩:=hbody A outer s H vs Q E (hr.deeper _) HN
 have I:Inv (wX CX P w K mg base N qual scope f cdv A outer s H E) [] (start N vs) H s1:=Dn S hr.hd e0 hl r x
 refine wpAny_mono (ht [] s1 (start N vs) H _ I hq) (λfl s' hs=> ?_) λe s' hs=>hs
 have fin:∀{σ':St}{H':Hp}{v:V}{u:Value},Inv (wX CX P w K mg base N qual scope f cdv A outer s H E) [] σ' H' s'->RelV v u->Q v H'->CE outer P w H s Q u s':=
  λ {σ' H' v u} J rv q=>⟨v,H',J.os,J.bare,J.base,J.hok,rv,q⟩
 cases fl with
 |ret u=>
  obtain⟨v,σ',H',J,rv,q⟩:=hs
  exact fin J rv q
 |next=>
  obtain⟨σ',H',J,q⟩:=hs
  exact fin (v:=V.jc) (u:=Value.none) J rfl q
 |brk=>
  obtain⟨_,_,_,q⟩:=hs
  exact False.elim q
 |cont=>
  obtain⟨_,_,_,q⟩:=hs
  exact False.elim q
section
variable{X:Cx}{x:Str}{p pos:Pos}{e:Expr}{es:List Expr}{t:TA}{id T:String}{r:List V->Hp->VK->Prop}
def Mt(r:List V->Hp->VK->Prop)(t:TA):TE:=λσ H Q=>t σ H λvs H1=>r vs H1 Q
theorem ck(hc:pC X (.builtin id) r)(hg:Gl X x)(hm:X.mg x=none)(hv:bootBuiltins x=some (.builtin id))(ha:PA X (e::es) t)(hn:x≠ "__name__":=by decide)(hdb:(x==("__debug__":Str))=false:=by decide)
  (he:starEach (e::es) X.env=(false,eval e X.env)::starEach es X.env:=by rfl)(hpl:(backTo pos (starEach es X.env)).any (·.1)=false:=by rfl):PE X (.Call (.Name x p) (e::es) [] pos) (Mt r t):=by
 intro pins s σ H Q I h
 refine wpAny_Call_Name_kw (kK I hg hm hv ?_ hn hdb)
 exact PyProof.Rows.callWith_builtin1 (fX (ha pos pins s σ H _ I h) λus s1 ⟨vs,H1,I1,r1,q1⟩=>hc pins s1 σ H1 vs us Q I1 r1 q1) he hpl
theorem vM(hc:pC X (.type T) r)(hg:Gl X x)(hm:X.mg x=none)(hv:bootBuiltins x=some (.type T))(ha:PA X (e::es) t)(hn:x≠ "__name__":=by decide)(hdb:(x==("__debug__":Str))=false:=by decide)
  (he:starEach (e::es) X.env=(false,eval e X.env)::starEach es X.env:=by rfl)(hpl:(backTo pos (starEach es X.env)).any (·.1)=false:=by rfl):PE X (.Call (.Name x p) (e::es) [] pos) (Mt r t):=by
 intro pins s σ H Q I h
 refine wpAny_Call_Name_kw (kK I hg hm hv ?_ hn hdb)
 exact PyProof.Rows.callWith_type1 (fX (ha pos pins s σ H _ I h) λus s1 ⟨vs,H1,I1,r1,q1⟩=>hc pins s1 σ H1 vs us Q I1 r1 q1) he hpl
end
end L2
namespace HT
open PySem PyProof.Rows
section
open PySem.SeqAt
open PySem.AutoSeq1 (wpAny_loadPart')
open PySem.MeetsSeq PySem.MeetsSeq2 PySem.MeetsSeq3
end
section
variable{prog:Program}{w:World}{A:Around}{E:Value->Shared->Prop}{s:Shared}
def Ag(n d:Nat):Option Int->Nat
 |none=>d
 |some v=>if v<0 then(v+(n:Int)).toNat else min v.toNat n
end
end HT
namespace L2
open PySem PySem.Spec PyProof.Rows
abbrev TO:=St->Hp->(Option Int->Hp->Prop) ->Prop
def PO(X:Cx)(e:Option Expr)(t:TO):Prop:=
 ∀(pins:List (Addr×Obj))(s:Shared)(σ:St)(H:Hp)(Q:Option Int->Hp->Prop),Inv X pins σ H s->t σ H Q->
  wpAny (model X.prog X.w) X.A (evalPart e X.env) (λu s'=> ∃o H',Inv X pins σ H' s'/\IsPart u o/\Q o H') X.xe s
def Ij:TO:=λ_ H Q=>Q none H
def Nl(t:TE):TO:=λσ H Q=>t σ H λx H1=> ∃i,x= .int i/\Q (some i) H1
section
variable{X:Cx}{e:Expr}{te:TE}{lo hi:Option Expr}{tl th:TO}{pos p2:Pos}
theorem wY:PO X none Ij:=by
 intro pins s σ H Q I h
 rw[evalPart_none]
 exact wpAny_pure ⟨none,H,I,.none,h⟩
theorem wZ(h:PE X e te):PO X (some e) (Nl te):=by
 intro pins s σ H Q I hw
 rw[evalPart_some]
 refine fX (h pins s σ H _ I hw) λu s1 ⟨x,H1,I1,r1,q1⟩=> ?_
 obtain⟨i,rfl,q⟩:=q1
 obtain⟨t,rfl⟩:=r1
 exact⟨some i,H1,I1,.int i t,q⟩
def Ru(X:Cx)(r:V->Option Int->Option Int->Hp->VK->Prop):Prop:=
 ∀(pins:List (Addr×Obj))(s:Shared)(σ:St)(H:Hp)(x:V)(v vl vu:Value)(lo hi:Option Int)(sl:Addr)(Q:VK),Inv X pins σ H s->RelV x v->s.heap.IsSliceOf sl vl vu .none->IsPart vl lo->IsPart vu hi->r x lo hi H Q->
  ∃T id,typeLookup (.type T) "__getitem__"=pure (some (.builtin id))/\s.TypeIs v T/\wpAny (model X.prog X.w) X.A (getItem v (.ref sl)) (EP X pins σ Q) X.xe s
def Tt(r:V->Option Int->Option Int->Hp->VK->Prop)(te:TE)(tl th:TO):TE:=λσ H Q=>te σ H λx H1=>tl σ H1 λl H2=>th σ H2 λu H3=>r x l u H3 Q
theorem sX{r:V->Option Int->Option Int->Hp->VK->Prop}(hr:Ru X r)(he:PE X e te)(hl:PO X lo tl)(hu:PO X hi th):PE X (.Subscript e (.Slice lo hi none p2) pos) (Tt r te tl th):=by
 intro pins s σ H Q I h
 refine Subscript_ (fX (he pins s σ H _ I h) λv s1 ⟨x,H1,I1,r1,q1⟩=> ?_)
 refine wpAny_Slice (fX (hl pins s1 σ H1 _ I1 q1) λvl s2 ⟨l,H2,I2,pl,q2⟩=>fX (hu pins s2 σ H2 _ I2 q2) λvu s3 ⟨u,H3,I3,pu,q3⟩=> ?_)
 rw[evalPart_none]
 refine wpAny_pure ?_
 have I4:Inv X pins σ H3 {s3 with heap:=s3.heap.push {cls:= .type "slice",data:= .fields #[vl,vu,.none]}}:=I3.kept (t':=s3.toks) λb ob q=>Heap.get?_push_of_some _ q
 obtain⟨T,id,hT,ht,hg⟩:=hr pins {s3 with heap:=s3.heap.push {cls:= .type "slice",data:= .fields #[vl,vu,.none]}} σ H3 x v vl vu l u s3.heap.objs.size Q I4 r1 (Heap.IsSliceOf.new ..) pl pu q3
 show wpAny (model X.prog X.w) X.A (subscriptTail e (.Slice lo hi none p2) v (.ref s3.heap.objs.size)) (EP X pins σ Q) X.xe {s3 with heap:=s3.heap.push {cls:= .type "slice",data:= .fields #[vl,vu,.none]}}
 exact tail_any (ops:=[.ref s3.heap.objs.size,v]) ht hT hg (by with_unfolding_all rfl)
def qd(xs:List V)(lo hi:Option Int):List V:=(xs.drop (HT.Ag xs.length 0 lo)).take (HT.Ag xs.length xs.length hi-HT.Ag xs.length 0 lo)
theorem mh(xs:List V)(lo hi:Option Int):(qd xs lo hi).length<=xs.length:=by
 unfold qd
 rw[List.length_take,List.length_drop]
 omega
end
def KW(n:Nat)(i:Int):Option Nat:=if 0<=i then(if i<n then some i.toNat else none)else if-(n:Int)<=i then some (i+n).toNat else none
def w5{α:Type}(xs:List α)(i:Int):Option α:=(KW xs.length i).bind λj=>xs[j]?
theorem Cb{n:Nat}{i:Int}{j:Nat}(h:KW n i=some j):seqIndex? i n=some j/\j<n/\ -(n:Int)<=i/\i<n:=by
 unfold KW at h
 by_cases h0:0<=i
 ·rw[if_pos h0]at h
  by_cases h1:i<n
  ·rw[if_pos h1]at h
   have e:i.toNat=j:=Option.some.inj h
   exact⟨by rw[seqIndex_of h0 h1,e],by omega,by omega,h1⟩
  ·rw[if_neg h1]at h;cases h
 ·rw[if_neg h0]at h
  by_cases h1: -(n:Int)<=i
  ·rw[if_pos h1]at h
   have e:(i+n).toNat=j:=Option.some.inj h
   exact⟨by rw[seqIndex_neg (by omega) h1,e],by omega,h1,by omega⟩
  ·rw[if_neg h1]at h;cases h
theorem Cc{α:Type}{xs:List α}{i:Int}{v:α}(h:w5 xs i=some v):∃j,seqIndex? i xs.length=some j/\xs[j]?=some v/\j<xs.length/\ -(xs.length:Int)<=i/\i<xs.length:=by
 unfold w5 at h
 cases e:KW xs.length i with
 |none=>rw[e]at h;cases h
 |some j=>
  rw[e]at h
  obtain⟨h1,h2,h3,h4⟩:=Cb e
  exact⟨j,h1,h,h2,h3,h4⟩
theorem Cd{α:Type}{xs:List α}{j:Nat}{v:α}(h:xs[j]?=some v):w5 xs (j:Int)=some v:=by
 have hj:j<xs.length:=(List.getElem?_eq_some_iff.mp h).1
 have e:KW xs.length (j:Int)=some j:=by
  unfold KW
  rw[if_pos (by omega),if_pos (by omega)];simp
 unfold w5;rw[e];exact h
def Ik(b:Expr):Prop:=∀o i,subscripted b false o i=operate [o,i] (getItem o i)
def Pz(X:Cx)(r:R2):Prop:=
 ∀(value slice:Expr)(pins:List (Addr×Obj))(s:Shared)(σ:St)(H:Hp)(x y:V)(v u:Value)(Q:VK),Inv X pins σ H s->RelV x v->RelV y u->r x y H Q->
  subscripted slice false v u=operate [v,u] (getItem v u) ->wpAny (model X.prog X.w) X.A (subscriptTail value slice v u) (EP X pins σ Q) X.xe s
def PB(X:Cx)(id:String)(r:V->List V->Hp->VK->Prop):Prop:=
 ∀(pins:List (Addr×Obj))(s:Shared)(σ:St)(H:Hp)(x:V)(xs:List V)(v:Value)(us:List Value)(Q:VK),Inv X pins σ H s->RelV x v->Vals xs us->r x xs H Q->
  wpAny (model X.prog X.w) X.A (call (.builtin id) (v::us)) (EP X pins σ Q) X.xe s
section
variable{X:Cx}{a b:Expr}{ta tb:TE}{pos:Pos}
theorem aC{r:R2}(hr:Pz X r)(ha:PE X a ta)(hb:PE X b tb)(hs:Ik b):PE X (.Subscript a b pos) (gY r ta tb):=by
 intro pins s σ H Q I h
 exact Subscript_ (KN ha hb I h λv u s2 x y H2 I2 rx ry q=>hr a b pins s2 σ H2 x y v u Q I2 rx ry q (hs _ _))
inductive PC(K:PySem.W.Frag)(x y:V)(H:Hp)(Q:VK):Prop
 |mk(p:Addr)(xs:List V)(i:Int)(v:V)(ex:x= .ref p)(ey:y= .int i)(s:aP K H p xs)(a:w5 xs i=some v)(q:Q v H)
def fY(K:PySem.W.Frag):R2:=PC K
inductive PD(K:PySem.W.Frag)(x y:V)(H:Hp)(Q:VK):Prop
 |mk(p:Addr)(xs:List V)(i:Int)(v:V)(ex:x= .ref p)(ey:y= .int i)(s:uJ K H p xs)(a:w5 xs i=some v)(q:Q v H)
def PF(K:PySem.W.Frag):R2:=PD K
theorem ao:Pz X (fY X.K):=by
 intro value slice pins s σ H x y v u Q I rx ry h hs
 obtain⟨p,xs,i,z,rfl,rfl,hq,he,q⟩:=h
 cases rx
 obtain⟨t,rfl⟩:=ry
 obtain⟨its,r,pl,hz⟩:=I.list hq
 obtain⟨j,h1,h2,h3,h4,h5⟩:=Cc he
 obtain⟨w,ew,rw'⟩:=r.get h2
 have hl:=r.length
 have hn:=wW
 have fin:EP X pins σ Q w s:=⟨z,H,I,rw',q⟩
 by_cases h0:0<=i
 ·have hj:i.toNat=j:=by
   rw[seqIndex_of h0 h5]at h1
   exact Option.some.inj h1
  exact item_listR pl.isList h0 (by omega) (by rw[hj];simpa using ew) fin hs
 ·have hj:(i+(its.toArray.size:Int)).toNat=j:=by
   rw[seqIndex_neg (by omega) h4]at h1
   rw[List.size_toArray,<-hl]
   exact Option.some.inj h1
  exact subscriptTail_builtinR (x:=w) pl.isList.typeIs slot_list_getitem.lookup
   (wpAny_getItem_list_neg (Q:=λr s'=>r=w/\EP X pins σ Q r s') pl.isList (by omega) (by rw[List.size_toArray]<;>omega) (by omega) (by rw[hj];simpa using ew) ⟨rfl,fin⟩) hs
theorem KY:Pz X (PF X.K):=by
 intro value slice pins s σ H x y v u Q I rx ry h hs
 obtain⟨p,xs,i,z,rfl,rfl,hq,he,q⟩:=h
 cases rx
 obtain⟨t,rfl⟩:=ry
 obtain⟨its,r,pl,hz⟩:=I.tuple hq
 obtain⟨j,h1,h2,h3,h4,h5⟩:=Cc he
 obtain⟨w,ew,rw'⟩:=r.get h2
 have hl:=r.length
 have hn:=wW
 have fin:EP X pins σ Q w s:=⟨z,H,I,rw',q⟩
 exact subscriptTail_builtinR (x:=w) pl.typeIs slot_tuple_getitem.lookup
  (getItem_tuple (j:=j) (Q:=λr s'=>r=w/\EP X pins σ Q r s') pl (by omega) (by omega) (by rw[List.size_toArray,<-hl];exact h1) (by simpa using ew) ⟨rfl,fin⟩) hs
theorem Ah(its:List Value)(n j:Nat)(u:Value):Obj.mapSeq (·.setIfInBounds j u) {cls:= .type "list",data:= .seq its.toArray n}={cls:= .type "list",data:= .seq (its.set j u).toArray n}:=by
 simp[Obj.mapSeq]
theorem Inv.lst{pins:List (Addr×Obj)}{σ:St}{H:Hp}{s:Shared}{p:Addr}{xs:List V}(I:Inv X pins σ H s)(h:H p=some (.lst xs)):
  ∃(its:List Value)(n:Nat),Vals xs its/\s.heap.get? p=some {cls:= .type "list",data:= .seq its.toArray n}/\xs.length<=sizeLine:=by
 obtain⟨z,its,n,r,e⟩:=I.hok p _ h
 exact⟨its,n,r,e,z⟩
theorem Inv.KZ{pins:List (Addr×Obj)}{σ:St}{H:Hp}{s:Shared}{p:Addr}{xs ys:List V}{its its':List Value}{n n':Nat}{f:Obj->Obj}(I:Inv X pins σ H s)(h:H p=some (.lst xs))
  (ho:s.heap.get? p=some {cls:= .type "list",data:= .seq its.toArray n})(hf:f {cls:= .type "list",data:= .seq its.toArray n}={cls:= .type "list",data:= .seq its'.toArray n'})(r:Vals ys its')(hz:ys.length<=sizeLine)(t:Nat):
  Inv X pins σ (upd H p (.lst ys)) {s with heap:=s.heap.update p f,toks:=t}:=by
 have e:(s.heap.update p f).get? p=some {cls:= .type "list",data:= .seq its'.toArray n'}:=by
  rw[Heap.get?_update_self f ho (by rw[hf]<;>rfl),hf]
 refine I.write (x:=p) (e:=p) (by rw[h];trivial) (.inl rfl) (λb u hb q=>(Heap.get?_update_other _ _ (Ne.symm hb)).trans q) ⟨_,e⟩ ?_
 exact⟨hz,its',n',r,e⟩
def Nm:V->V->V->Hp->(Hp->Prop) ->Prop:=λo i v H Q=> ∃p xs k j,o= .ref p/\i= .int k/\H p=some (.lst xs)/\KW xs.length k=some j/\Q (upd H p (.lst (xs.set j v)))
theorem set_list:MY X Nm:=by
 intro pins s σ H o i v ov iv u Q I ro ri rv h
 obtain⟨p,xs,k,j,rfl,rfl,hp,hj,q⟩:=h
 cases ro
 obtain⟨t,rfl⟩:=ri
 obtain⟨its,n,r,ho,hz⟩:=I.lst hp
 obtain⟨h1,h2,h3,h4⟩:=Cb hj
 have hl:=r.length
 have hn:=wW
 have I':Inv X pins σ (upd H p (.lst (xs.set j v))) {s with heap:=s.heap.update p (Obj.mapSeq (·.setIfInBounds j u))}:=
  I.KZ hp ho (Ah its n j u) (r.set rv j) (by rw[List.length_set];exact hz) s.toks
 by_cases h0:0<=k
 ·have hk:k.toNat=j:=by
   rw[seqIndex_of h0 h4]at h1
   exact Option.some.inj h1
  exact PySem.W.ki_setAt ho h0 (by omega) (by rw[List.size_toArray,<-hl];exact h4) (by rw[hk];exact⟨_,I',q⟩)
 ·have hk:(k+(its.toArray.size:Int)).toNat=j:=by
   rw[seqIndex_neg (by omega) h3]at h1
   rw[List.size_toArray,<-hl]
   exact Option.some.inj h1
  exact PySem.W.ki_setBack ho (by omega) (by rw[List.size_toArray,<-hl];exact h3) (by omega) (by rw[hk];exact⟨_,I',q⟩)
theorem w6(lo hi:Option Int)(n:Nat):(sliceBounds lo hi none n).1=((HT.Ag n 0 lo:Nat):Int)/\(sliceBounds lo hi none n).2.1=((HT.Ag n n hi:Nat):Int)/\(sliceBounds lo hi none n).2.2=1:=by
 refine⟨?_,?_,rfl⟩
 ·cases lo with
  |none=>simp[sliceBounds,HT.Ag]
  |some i=>
   simp only[sliceBounds,HT.Ag,Option.getD_none,show(1:Int)>0 by decide,if_true]
   by_cases h:i<0
   ·simp only[h,if_true]<;>omega
   ·simp only[h,if_false]<;>omega
 ·cases hi with
  |none=>simp[sliceBounds,HT.Ag]
  |some i=>
   simp only[sliceBounds,HT.Ag,Option.getD_none,show(1:Int)>0 by decide,if_true]
   by_cases h:i<0
   ·simp only[h,if_true]<;>omega
   ·simp only[h,if_false]<;>omega
theorem uQ(its:List Value)(lo hi:Option Int):slicePick its.toArray lo hi none=((its.drop (HT.Ag its.length 0 lo)).take (HT.Ag its.length its.length hi-HT.Ag its.length 0 lo)).toArray:=by
 obtain⟨h1,h2,h3⟩:=w6 lo hi its.toArray.size
 unfold slicePick
 rw[h1,h2,h3]
 simp only[sliceRange_one,pick_run,List.size_toArray]<;>rfl
def PJ(K:PySem.W.Frag):V->Option Int->Option Int->Hp->VK->Prop:=λx lo hi H Q=> ∃a xs,x= .ref a/\aP K H a xs/\ ∀p,H p=none->Q (.ref p) (upd H p (.lst (qd xs lo hi)))
theorem w9:Ru X (PJ X.K):=by
 intro pins s σ H x v vl vu lo hi sl Q I rx hs pl pu h
 obtain⟨a,xs,rfl,hx,q⟩:=h
 cases rx
 obtain⟨its,r,ht,hz⟩:=I.list hx
 have hlen:=r.length
 refine⟨"list",_,slot_list_getitem.lookup,ht.isList.typeIs,?_⟩
 refine wpAny_getItem_list_slice ht.isList hs pl pu .none (by simp) ?_ (by rw[List.size_toArray]<;>omega)
 rw[uQ,<-hlen]
 refine⟨.ref s.heap.objs.size,_,I.laid (t':=s.toks) (o:= .lst (qd xs lo hi)) (λb ob q=>Heap.get?_push_of_some _ q) (Nat.le_refl _) ?_,rfl,q _ (I.hok.fresh (Nat.le_refl _))⟩
 exact⟨Nat.le_trans (mh xs lo hi) hz,_,0,(r.drop (HT.Ag xs.length 0 lo)).take (HT.Ag xs.length xs.length hi-HT.Ag xs.length 0 lo),Heap.get?_push_size _ rfl⟩
theorem dN:pC X (.builtin "len") (λxs H Q=> ∃p ys,xs=[.ref p]/\(aP X.K H p ys∨uJ X.K H p ys)/\Q (.int ys.length) H):=by
 intro pins s σ H xs us Q I r h
 obtain⟨p,ys,rfl,hq,q⟩:=h
 obtain⟨u,rfl,rx⟩:=vals1 r
 cases rx
 have hn:=wW
 rcases hq with hq|hq
 ·obtain⟨its,r',pl,hz⟩:=I.list hq
  have hlen:=r'.length
  exact Calls.call_len_list pl.isList (by simp only[List.size_toArray]<;>omega) ⟨.int ys.length,H,I.tok _,⟨s.toks+1,by rw[List.size_toArray,hlen]⟩,q⟩
 ·obtain⟨its,r',pl,hz⟩:=I.tuple hq
  have hlen:=r'.length
  exact len_tuple pl (by simp only[List.size_toArray]<;>omega) ⟨.int ys.length,H,I.tok _,⟨s.toks+1,by rw[List.size_toArray,hlen]⟩,q⟩
theorem xg:pC X (.type "list") (λxs H Q=> ∃p ys,xs=[.ref p]/\(aP X.K H p ys∨uJ X.K H p ys)/\ ∀l,H l=none->Q (.ref l) (upd H l (.lst ys))):=by
 intro pins s σ H xs us Q I r h
 obtain⟨p,ys,rfl,hq,q⟩:=h
 obtain⟨u,rfl,rx⟩:=vals1 r
 cases rx
 have fin:∀(its:List Value),Vals ys its->ys.length<=sizeLine-> ∀(h':Heap)(c':Nat),(∀b o',s.heap.get? b=some o'->h'.get? b=some o') ->
   h'.get? s.heap.objs.size=some {cls:= .type "list",dict:=none,data:= .seq its.toArray c',slots:= #[]} ->EP X pins σ Q (.ref s.heap.objs.size) {s with heap:=h'}:=λits r' hz h' c' kp e=>
  ⟨.ref s.heap.objs.size,_,I.laid (t':=s.toks) kp (Nat.le_refl _) (show eV X.prog X.w _ h' _ (.lst ys)from⟨hz,its,c',r',e⟩),rfl,q _ (I.hok.fresh (Nat.le_refl _))⟩
 rcases hq with hq|hq
 ·obtain⟨its,r',pl,hz⟩:=I.list hq
  have hlen:=r'.length
  obtain⟨o,ho,hc,n,hd⟩:=pl.isList
  exact call_list_seq p (.inl rfl) ho hc hd (λh' c' kp e=>fin its r' hz h' c' kp e) (by simp only[List.size_toArray]<;>omega)
 ·obtain⟨its,r',pl,hz⟩:=I.tuple hq
  have hlen:=r'.length
  obtain⟨o,ho,hc,n,hd⟩:=pl
  exact call_list_seq p (.inr rfl) ho hc hd (λh' c' kp e=>fin its r' hz h' c' kp e) (by simp only[List.size_toArray]<;>omega)
def PK(K:PySem.W.Frag)(T:String)(x:V)(H:Hp):Prop:=match x with
 | .str _=>T= "str"
 | .int _=>T= "int"
 | .ref p=>(T= "list"/\ ∃xs,aP K H p xs)∨(T= "tuple"/\ ∃o,K.lookup p=some o/\o.cls= .type "tuple"/\o.dict=none)∨
   (T= "dict"/\((∃kvs,H p=some (.dK kvs))∨ ∃kvs,H p=some (.dT kvs)))∨(T= "set"/\ ∃S n,H p=some (.set S n))
 |_=>False
theorem Fg{pins:List (Addr×Obj)}{σ:St}{H:Hp}{s:Shared}{T:String}{x:V}{v:Value}(I:Inv X pins σ H s)(r:RelV x v)(ty:PK X.K T x H):
  s.TypeIs v T/\ ∀a,v= .ref a-> ∃ob,s.heap.get? a=some ob/\ob.dict=none:=by
 cases x with
 |str z=>
  obtain⟨t,rfl⟩:=r
  cases(show T= "str" from ty)
  exact⟨typeIs_str s z t,λ_ e=>nomatch e⟩
 |int i=>
  obtain⟨t,rfl⟩:=r
  cases(show T= "int" from ty)
  exact⟨typeIs_int s i t,λ_ e=>nomatch e⟩
 |ref p=>
  cases r
  rcases ty with⟨rfl,xs,hq⟩|⟨rfl,o,hk,hc,hd⟩|⟨rfl,hk⟩|⟨rfl,S,n,hk⟩
  ·obtain⟨its,_,pl,_⟩:=I.list hq
   refine⟨pl.isList.typeIs,λa e=> ?_⟩
   cases e
   obtain⟨o,n,e,c,hd,_⟩:=pl
   exact⟨o,e,hd⟩
  ·refine⟨⟨o,I.wN p o hk,hc⟩,λa e=> ?_⟩
   cases e
   exact⟨o,I.wN _ o hk,hd⟩
  ·have z:∃o,s.heap.get? p=some o/\o.ExactDict:=by
    rcases hk with⟨kvs,hk⟩|⟨kvs,hk⟩
    ·obtain⟨_,_,_,_,o,_,_,e,ex,_⟩:=I.hok p _ hk
     exact⟨o,e,ex⟩
    ·obtain⟨_,_,_,_,o,_,_,e,ex,_⟩:=I.hok p _ hk
     exact⟨o,e,ex⟩
   obtain⟨o,e,ex⟩:=z
   refine⟨⟨o,e,ex.1⟩,λa e2=> ?_⟩
   cases e2
   exact⟨o,e,ex.2.1⟩
  ·obtain⟨o,_,_,_,e,ex,_⟩:=I.hok p _ hk
   refine⟨⟨o,e,ex.1⟩,λa e2=> ?_⟩
   cases e2
   exact⟨o,e,ex.2.1⟩
 |_=>exact False.elim ty
def PL(K:PySem.W.Frag)(T:String)(r:V->List V->Hp->VK->Prop)(to:TE):TE:=λσ H Q=>to σ H λx H1=>PK K T x H1/\r x [] H1 Q
def Tv(K:PySem.W.Frag)(T:String)(r:V->List V->Hp->VK->Prop)(to:TE)(t:TA):TE:=λσ H Q=>to σ H λx H1=>PK K T x H1/\t σ H1 λxs H2=>r x xs H2 Q
variable{o e:Expr}{es:List Expr}{to:TE}{t:TA}{name:Str}{apos cpos:Pos}{T id:String}{r:V->List V->Hp->VK->Prop}
theorem La(pa:PlainAttrs T)(slot:Slot T name id)(hty:typeOf (.builtin id)=pure (.type "method_descriptor"))(hm:PB X id r)(ho:PE X o to)
  (hbase:attributeBase o name X.env (eval o X.env)=eval o X.env:=by rfl)(hline:(apos.endLine==cpos.line)=true:=by rfl):PE X (.Call (.Attribute o name apos) [] [] cpos) (PL X.K T r to):=by
 intro pins s σ H Q I h
 refine wpAny_Call_method0_late hbase hline (fX (ho pins s σ H _ I h) λv s1 ⟨x,H1,I1,r1,ty,q1⟩=> ?_)
 obtain⟨h1,h2⟩:=Fg I1 r1 ty
 exact⟨T,id,pa,slot,hty,h1,h2,Calls.callWith_builtin rfl (PySem.evalArgs_none (hm pins s1 σ H1 x [] v [] Q I1 r1 .nil q1))⟩
theorem Fi(pa:PlainAttrs T)(slot:Slot T name id)(hty:typeOf (.builtin id)=pure (.type "method_descriptor"))(hm:PB X id r)(ho:PE X o to)(ha:PA X (e::es) t)
  (hbase:attributeBase o name X.env (eval o X.env)=eval o X.env:=by rfl)
  (hfew:((backTo cpos (starEach (e::es) X.env)).all (λx=> !x.1) && (backToKw cpos (keywordEach [] X.env)).all (λx=>x.1.isSome)
   && decide ((e::es).length+([]:List Keyword).length+(if([]:List Keyword).isEmpty then 0 else 1)<30))=true:=by rfl)
  (hline:(apos.endLine==cpos.line)=true:=by rfl)(hs:starEach (e::es) X.env=(false,eval e X.env)::starEach es X.env:=by rfl)(hplain:(backTo cpos (starEach es X.env)).any (·.1)=false:=by rfl):
  PE X (.Call (.Attribute o name apos) (e::es) [] cpos) (Tv X.K T r to t):=by
 intro pins s σ H Q I h
 refine wpAny_Call_method_late hbase hfew hline rfl (fX (ho pins s σ H _ I h) λv s1 ⟨x,H1,I1,r1,ty,q1⟩=> ?_)
 obtain⟨h1,h2⟩:=Fg I1 r1 ty
 refine⟨T,id,pa,slot,hty,h1,h2,?_⟩
 have hA:=ha cpos pins s1 σ H1 _ I1 q1
 rw[hs]at hA ⊢
 refine Calls.callWith_builtin (by show(false||(backTo cpos (starEach es X.env)).any (·.1))=false;rw[hplain]<;>rfl) (Calls.evalArgs_plain ?_)
 exact fX hA λus s2 ⟨vs,H2,I2,r2,q2⟩=>hm pins s2 σ H2 x vs v us Q I2 r1 r2 q2
end
def Tw(X:Cx)(id:String)(r:V->List V->Hp->VK->Prop):Prop:=
 ∀(pins:List (Addr×Obj))(s:Shared)(σ:St)(H:Hp)(x:V)(xs:List V)(v:Value)(us:List Value)(Q:VK),Inv X pins σ H s->RelV x v->Vals xs us->r x xs H Q->
  wpAny (model X.prog X.w) X.A (call (.builtin id) (v::us)) (EP X pins σ Q) X.xe s
theorem Vals.one:∀{x:V}{us:List Value},Vals [x] us-> ∃u,us=[u]/\RelV x u
 |_,_,.cons r .nil=>⟨_,rfl,r⟩
theorem Vals.two:∀{x y:V}{us:List Value},Vals [x,y] us-> ∃u v,us=[u,v]/\RelV x u/\RelV y v
 |_,_,_,.cons r (.cons q .nil)=>⟨_,_,rfl,r,q⟩
theorem Vals.zero:∀{us:List Value},Vals [] us->us=[]
 |_,.nil=>rfl
section
variable{X:Cx}{pins:List (Addr×Obj)}{σ:St}{H:Hp}{s:Shared}{l b:Addr}{xs ys zs:List V}
theorem Inv.PM{its its':List Value}{n:Nat}{f:Array Value->Array Value}{t':Nat}(I:Inv X pins σ H s)(hH:H l=some (.lst xs))
  (e:s.heap.get? l=some {cls:= .type "list",data:= .seq its.toArray n})(hf:f its.toArray=its'.toArray)(hv:Vals ys its')(hz:ys.length<=sizeLine):
  Inv X pins σ (upd H l (.lst ys)) {s with heap:=s.heap.update l (Obj.mapSeq f),toks:=t'}:=by
 have q:=PySem.IsL.update e f
 rw[hf]at q
 refine I.write (x:=l) (e:=l) (by rw[hH];exact trivial) (.inl rfl) (λb' u hb hu=>(Heap.get?_update_other s.heap (Obj.mapSeq f) (Ne.symm hb)).trans hu) ⟨_,q⟩ ?_
 exact⟨hz,its',_,hv,q⟩
theorem Inv.PN{its:List Value}{t':Nat}(I:Inv X pins σ H s)(hv:Vals ys its)(hz:ys.length<=sizeLine):
  Inv X pins σ (upd H s.heap.objs.size (.lst ys)) {s with heap:=s.heap.push {cls:= .type "list",data:= .seq its.toArray},toks:=t'}:=
 I.laid (λ_ _ q=>Heap.get?_push_of_some _ q) (Nat.le_refl _) ⟨hz,its,0,hv,Heap.get?_push_size _ rfl⟩
theorem Inv.fresh(I:Inv X pins σ H s):H s.heap.objs.size=none:=I.hok.fresh (Nat.le_refl _)
theorem Inv.Lb(I:Inv X pins σ H s)(hH:H l=some (.lst xs)):xs.length<=sizeLine/\ ∃(its:List Value)(n:Nat),Vals xs its/\xs.length=its.length/\s.heap.get? l=some {cls:= .type "list",data:= .seq its.toArray n}:=by
 obtain⟨z,its,n,r,e⟩:=I.hok l _ hH
 exact⟨z,its,n,r,r.length,e⟩
end
section
variable{X:Cx}
def Il:V->List V->Hp->VK->Prop:=λx vs H Q=> ∃l xs y,x= .ref l/\vs=[y]/\H l=some (.lst xs)/\xs.length<sizeLine/\Q .jc (upd H l (.lst (xs++ [y])))
theorem nj:Tw X "list.append" Il:=by
 intro pins s σ H x vs v us Q I rx rv h
 obtain⟨l,xs,y,rfl,rfl,hH,hz,q⟩:=h
 cases rx
 obtain⟨u,rfl,ru⟩:=rv.one
 obtain⟨z,its,n,r,hl,e⟩:=I.Lb hH
 refine call_meets F.slot_list_append ⟨_,e,rfl⟩ F.entry_list_append (F.args_list_append_2 _ _) (PySem.list_append l its.toArray n u (by rw[List.size_toArray];omega)) ⟨e,?_⟩
 refine⟨.jc,_,I.PM (its':=its++ [u]) hH e (by simp) (r.append (.cons ru .nil)) ?_,rfl,q⟩
 rw[List.length_append,List.length_singleton]
 omega
def PR:R2:=λx y H Q=> ∃l b xs zs,x= .ref l/\y= .ref b/\H l=some (.lst xs)/\H b=some (.lst zs)/\xs.length+zs.length<=sizeLine/\ ∀p,H p=none->Q (.ref p) (upd H p (.lst (xs++zs)))
theorem Lc:rQ X (binaryOp .Add) PR:=by
 intro pins s σ H x y v u Q I rx ry h
 obtain⟨l,b,xs,zs,rfl,rfl,hH,hB,hz,q⟩:=h
 cases rx
 cases ry
 obtain⟨z,its,n,r,hl,e⟩:=I.Lb hH
 obtain⟨z2,its2,n2,r2,hl2,e2⟩:=I.Lb hB
 refine PySem.P.add_list e e2 ?_ (by rw[List.size_toArray,List.size_toArray];omega)
 have ea:its.toArray++its2.toArray=(its++its2).toArray:=by simp
 rw[ea]
 exact⟨.ref _,_,I.PN (t':=s.toks) (r.append r2) (by rw[List.length_append];omega),rfl,q _ I.fresh⟩
end
section
variable{prog:Program}{w:World}{A:Around}{E:Value->Shared->Prop}{s:Shared}
end
section
variable{X:Cx}
end
end L2
namespace Rv
open PySem PySem.W PySem.Calls PyProof.Rows
theorem rR{P:Params}{h:Heap}:∀(ns:List Int)(vs:List Value),WellAll P h vs (ns.map WData.int) ->IntsAre vs ns:=by
 intro ns
 induction ns with
 |nil=>
  intro vs w
  rw[List.map_nil]at w
  cases w
  exact .nil
 |cons n ns ih=>
  intro vs w
  rw[List.map_cons]at w
  cases w with
  |cons a b=>
   cases a
   exact .cons _ _ (ih _ b)
theorem Dp{l:OpenLaw}{n:Nat}(hn:l.most=some n){P:Params}{h:Heap}{args:List WData}{vals:List Value}
  (hpre:l.row.toRowW.claim.pre args=true)(hwl:WellAll P h vals args):
  ∃a vs ns,vals=[Value.ref a]/\args=[WData.list (ns.map WData.int)]/\h.get? a=some {cls:= .type "list",data:= .seq vs.toArray}/\IntsAre vs ns/\ns.length<=n:=by
 have hsh:WShape.hasAll [] args [.list .int]=true:=(pre_splitW hpre).1
 have hc:l.pre.holds [] {args:=args}=true:=(pre_splitW hpre).2
 obtain⟨d,r,rfl,h1,h2⟩:=hasAllW_cons hsh
 obtain rfl:=hasAllW_nil h2
 obtain⟨xs,rfl,h3⟩:=hasW_list h1
 obtain⟨ns,rfl⟩:=items_int h3
 have hlen:ns.length<=n:=by
  unfold OpenLaw.pre at hc
  have h4:(WTm.not (.lt (.lit (.int (n:Int))) (.len (.arg 0)))).holds [] {args:=[.list (ns.map .int)]}=true:=by
   have h4:=(holds_andW hc).1
   rw[hn]at h4
   exact h4
  have h5:=condW_of h4 (w_not (w_lt w_lit (w_len_list (w_arg rfl))))
  rw[List.length_map]at h5
  refine Nat.le_of_not_lt λq=> ?_
  have q':(n:Int)<((ns.length:Nat):Int):=by omega
  first
   |(rw[decide_eq_true q']at h5;exact absurd h5 (by decide))
   |(simp at h5;omega)
 cases hwl with
 |cons w1 w2=>
  cases w2
  cases w1 with
  |list ho hall=>exact⟨_,_,ns,rfl,rfl,ho,rR ns _ hall,hlen⟩
theorem Dq(l:OpenLaw)(args:List WData):l.row.toRowW.claim.post args (.bool true) args=true:=
 postW_of (r:=l.row.toRowW) (X:=(true==true))
  (show WShape.has [] (.bool true) .bool=true by first|rfl|decide|simp[WShape.has,WShape.arms,WShape.armsAll])
  (show(WTm.eq .res (.lit (.bool true))).value [] {args:=args,res:=some (.bool true),after:=args}=some (.bool (true==true))from w_eq_bool (w_res rfl) w_lit) rfl
theorem yH{l:OpenLaw}{n:Nat}{q:Program}{loose:List Str}{XP:(Str->Option Value) ->Heap->Prop}{YP:World->Heap->Prop}{d:DefRec}
  (hn:l.most=some n)(hdf:d.params.defaults=[])
  (call:∀(w:World)(s₀ s₁:Shared)(mg mb:Str->Option Value)(fa:Addr)(o:Obj)(pm cd doc:Value)(a:Addr)(vs:List Value)(ns:List Int),
   Ground q loose [] XP w s₀ mg mb s₁.heap->YP w s₁.heap->
   s₁.heap.get? fa=some o->o.data= .func (docDef d.name d.params d.body d.scope pm cd doc) ->s₁.heap.CodeRec cd d.name->mg d.name=some (.ref fa) ->
   s₁.heap.get? a=some {cls:= .type "list",data:= .seq vs.toArray} ->IntsAre vs ns->ns.length<=n->s₁.gens= #[] ->
   codeAny (model l.prog w) callerA (.call (.ref fa) ⟨[.ref a],[]⟩) (λr s'=>r= .ok (.ret (.bool true))/\OldK s₁.heap s'.heap/\s'.os=s₁.os/\AllBare s'.gens) s₁):
  WalkO q loose XP YP l.row.toRowW d [] (λf vs=>PySem.call f vs):=by
 intro w s₀ s₁ mg mb G Y fa o pm cd doc dV kV ho hd hcd hD hmg hg args vals as hpre hlay hrd hwl hlo
 obtain rfl:dV= .none:=Dflts.none hD hdf
 obtain rfl:kV= .none:=Dflts.noKw hD
 obtain⟨a,vs,ns,rfl,rfl,hobj,hints,hlen⟩:=Dp hn hpre hwl
 refine enter_call (codeAny_mono (call w s₀ s₁ mg mb fa o pm cd doc a vs ns G Y ho (fd_plain hd) hcd hmg hobj hints hlen hg) λr s' hq=> ?_)
 obtain⟨rfl,h2,h3,h4⟩:=hq
 exact⟨.inl ⟨.bool true,.bool true,[],rfl,λ_=>rfl,.bool true,Dq l _,λ_=>⟨List.Pairwise.nil,λ_ hm=>(nomatch hm)⟩⟩,h2,h3,h4⟩
section
variable{prog:Program}{w:World}{A:Around}{E:Value->Shared->Prop}{s:Shared}{K:Frag}
def ledger(h:Heap)(L d:Addr):List (Addr×Obj):=(List.range h.objs.size).filterMap λa=>if a=L∨a=d then none else(h.get? a).map λo=>(a,o)
end
end Rv
namespace L2
open PySem PySem.Spec PyProof.Rows
theorem vN:∀{vs:List Value}{ns:List Int},IntsAre vs ns->Vals (ns.map V.int) vs
 |_,_,.nil=> .nil
 |_,_,.cons n t h=> .cons ⟨t,rfl⟩ (vN h)
abbrev Vs{K:PySem.W.Frag}{h:Heap}(_:K.In h):PySem.W.Frag:=K
def gi(s:Stmt):Arguments:=match s with
 | .FunctionDef _ a _ _ _ _ _ _ _ _=>a
 |_=>{posonlyargs:=[],args:=[],vararg:=none,kwonlyargs:=[],kw_defaults:=[],kwarg:=none,defaults:=[]}
def eL(s:Stmt):List Stmt:=match s with
 | .FunctionDef _ _ b _ _ _ _ _ _ _=>b
 |_=>[]
def az(s:Stmt):Scope:=match s with
 | .FunctionDef _ _ _ _ _ _ sc _ _ _=>sc
 |_=>{kind:= .function,names:=[],isGenerator:=false,isCoroutine:=false}
abbrev cP:Dm:=λ_ _ _ _ _ _=>False
abbrev E0:XK:=λ_ _ _=>False
theorem aM{X:Cx}:Passes cP X E0:=λ_ _ _ _ _ _ _ h=>h.elim
structure JK(K:PySem.W.Frag)(x qual:Str)(st:Stmt)(f:Addr)(fd:FuncData):Prop where
 ex:∃(oc:Value)(od:Option Addr)(kV doc pm:Value)(an:Option Addr)(cdv ct:Value)(osl:Array (Option Value)),
  fd=PySem.W.fnOf x qual (gi st) (eL st) (az st) .none kV doc pm an cdv ct/\K.lookup f=some ⟨oc,od,.func fd,osl⟩/\PySem.W.codeIn K cdv qual=true
 kp:PySem.W.keepIn K (.ref f)=true
section
variable{P:Program}{w:World}{K:PySem.W.Frag}{mg:Str->Option Value}{base:Heap}
theorem JK.ok{x qual:Str}{st:Stmt}{f:Addr}{fd:FuncData}{N ps:List Str}{k:Nat}{sp:Sp}(F:JK K x qual st f fd)(S:aK N ps (az st))(len:∀vs H Q E,sp vs H Q E->vs.length=ps.length)
  (hbody:∀(cdv:Value)(A:Around)(outer:List Env)(s:Shared)(H:Hp)(vs:List V)(Q:VK)(E:XK),eU k (A.deeper (envOfC qual (az st) s.heap.objs.size f cdv)) ->sp vs H Q E->
   ∃t,wO (wX cP P w K mg base N qual (az st) f cdv A outer s H E).EI (eL st) t/\t {nx:=λ_ H'=>Q .jc H',rt:=Q} (start N vs) H):pD P w K mg base cP (k+1) f fd ps sp:=by
 obtain⟨oc,od,kV,doc,pm,an,cdv,ct,osl,rfl,lk,hcd⟩:=F.ex
 refine JJ lk hcd S len λA outer s H vs Q E hr HN=> ?_
 obtain⟨t,h,q⟩:=hbody cdv A outer s H vs Q E hr HN
 exact⟨t,h.EI,q⟩
theorem JK.binds{x qual:Str}{st:Stmt}{f:Addr}{fd:FuncData}{ps:List Str}(F:JK K x qual st f fd)
  (h:∀(kV doc pm:Value)(an:Option Addr)(cdv ct:Value)(us:List Value),us.length=ps.length->bindArgs (PySem.W.fnOf x qual (gi st) (eL st) (az st) .none kV doc pm an cdv ct) ⟨us,[]⟩=pure (ps.zip us)):Binds K fd ps []:=by
 obtain⟨oc,od,kV,doc,pm,an,cdv,ct,osl,rfl,lk,hcd⟩:=F.ex
 exact .all (h kV doc pm an cdv ct)
theorem Fj{x qual:Str}{st:Stmt}{f:Addr}{oc:Value}{od an:Option Addr}{osl:Array (Option Value)}{kV doc pm cdv ct:Value}(l:K.lookup f=some ⟨oc,od,.func (PySem.W.fnOf x qual (gi st) (eL st) (az st) .none kV doc pm an cdv ct),osl⟩)
  (c:PySem.W.codeIn K cdv qual=true)(k:PySem.W.keepIn K (.ref f)=true):JK K x qual st f (PySem.W.fnOf x qual (gi st) (eL st) (az st) .none kV doc pm an cdv ct):=⟨⟨oc,od,kV,doc,pm,an,cdv,ct,osl,rfl,l,c⟩,k⟩
end
section
variable{X:Cx}
theorem pv(i:Nat){x:Str}{pos:Pos}(hN:X.N[i]?=some x:=by rfl)(hv:JA X.env.scope x:=by first|exact Or.inl rfl|exact Or.inr (Or.inl rfl)|exact Or.inr (Or.inr rfl))(hd:(x==("__debug__":Str))=false:=by decide)
  (hcd:(x==("__classdict__":Str))=false:=by decide):PE X (.Name x pos) (bH i):=Kz hN hv hd hcd
end
theorem rS{A B:Prop}(h:B):if false=true then A else B:=by
 rw[if_neg Bool.false_ne_true]
 exact h
theorem Dr{A B:Prop}(h:A):if true=true then A else B:=by
 rw[if_pos rfl]
 exact h
theorem iI{c A B:Prop}[Decidable c](h1:c->A)(h2:¬c->B):if c then A else B:=by
 by_cases h:c
 ·rw[if_pos h]
  exact h1 h
 ·rw[if_neg h]
  exact h2 h
theorem vO{c A B:Prop}[Decidable c](hc:c)(h:B):if(!decide c)=true then A else B:=by
 rw[decide_eq_true hc]
 exact rS h
def ay(H H':Hp):Prop:=∀b o,H b=some o->H' b=some o
theorem ay.refl(H:Hp):ay H H:=λ_ _ h=>h
theorem ay.trans{H H1 H2:Hp}(a:ay H H1)(b:ay H1 H2):ay H H2:=λc o h=>b c o (a c o h)
theorem ay.free{H H':Hp}(e:ay H H'){l:Addr}(h:H' l=Option.none):H l=Option.none:=by
 cases q:H l with
 |none=>rfl
 |some o=>
  rw[e l o q]at h
  cases h
theorem ay.seq{K:PySem.W.Frag}{H H':Hp}{a:Addr}{xs:List V}(e:ay H H')(h:aP K H a xs):aP K H' a xs:=by
 rcases h with(h|⟨o,h⟩)|h
 ·exact .inl (.inl (e _ _ h))
 ·exact .inl (.inr ⟨o,e _ _ h⟩)
 ·exact .inr h
def b9(env:Env):List (Str×NameKind) ->List (Str×Addr) ->List (Str×Addr)
 | [],acc=>acc
 |(n,k)::r,acc=>if k== .free then b9 env r ((n,(env.cells.lookup n).getD 0)::acc)else b9 env r acc
theorem nT{env:Env}(f:Str×NameKind->List (Str×Addr) ->Sem (ForInStep (List (Str×Addr))))
  (hf:∀n k cs,f (n,k) cs=if k==NameKind.free then(do let a<-cellOf env n;pure (.yield ((n,a)::cs)))else pure (.yield cs)):
  ∀(ns:List (Str×NameKind))(acc:List (Str×Addr)),(∀y∈ns,y.2= .free->(env.cells.lookup y.1).isSome=true) ->forIn ns acc f=pure (b9 env ns acc)
 | [],acc,_=>by rw[List.forIn_nil];rfl
 |(n,k)::r,acc,h=>by
  rw[List.forIn_cons,hf]
  have hr:∀y∈r,y.2= .free->(env.cells.lookup y.1).isSome=true:=λy hy=>h y (List.mem_cons_of_mem _ hy)
  unfold b9
  by_cases hk:(k==NameKind.free)=true
  ·rw[if_pos hk,if_pos hk]
   obtain⟨c,hc⟩:=Option.isSome_iff_exists.mp (h (n,k) List.mem_cons_self (beq_iff_eq.mp hk))
   have hc':env.cells.lookup n=some c:=hc
   have e:cellOf env n=pure c:=by unfold cellOf;rw[hc']
   rw[e,pure_bind,pure_bind,hc']
   exact nT f hf r _ hr
  ·rw[if_neg hk,if_neg hk,pure_bind]
   exact nT f hf r _ hr
theorem uS{env:Env}{scope:Scope}(h:∀y∈scope.names,y.2= .free->(env.cells.lookup y.1).isSome=true):closureFor scope env=pure (b9 env scope.names []):=by
 simp only[closureFor]
 rw[nT (env:=env) _ (λn k cs=>by cases hk:k==NameKind.free<;>simp[hk]) _ _ h]
 rfl
theorem jq{env:Env}{y:Str}{c:Addr}:∀{ns:List (Str×NameKind)}{acc:List (Str×Addr)},(y,c)∈b9 env ns acc->(y,c)∈acc∨((y,NameKind.free)∈ns/\c=(env.cells.lookup y).getD 0)
 | [],acc,h=> .inl h
 |(n,k)::r,acc,h=>by
  unfold b9 at h
  split at h
  ·rename_i hk
   rcases jq h with h|⟨h,e⟩
   ·rcases List.mem_cons.mp h with e|h
    ·cases e
     exact .inr ⟨by rw[beq_iff_eq.mp hk];exact List.mem_cons_self,rfl⟩
    ·exact .inl h
   ·exact .inr ⟨List.mem_cons_of_mem _ h,e⟩
  ·rcases jq h with h|⟨h,e⟩
   ·exact .inl h
   ·exact .inr ⟨List.mem_cons_of_mem _ h,e⟩
theorem jS{env:Env}{y:Str}:∀{ns:List (Str×NameKind)}{acc:List (Str×Addr)},acc.lookup y=some ((env.cells.lookup y).getD 0)∨(y,NameKind.free)∈ns->(b9 env ns acc).lookup y=some ((env.cells.lookup y).getD 0)
 | [],acc,h=>by
  rcases h with h|h
  ·exact h
  ·cases h
 |(n,k)::r,acc,h=>by
  unfold b9
  split
  ·rename_i hk
   refine jS ?_
   by_cases hy:y=n
   ·subst hy
    exact .inl (by simp[List.lookup])
   ·have hb:(y==n)=false:=by simpa using hy
    rcases h with h|h
    ·exact .inl (by rw[List.lookup_cons,hb];exact h)
    ·rcases List.mem_cons.mp h with e|h
     ·cases e;exact absurd rfl hy
     ·exact .inr h
  ·rename_i hk
   refine jS ?_
   rcases h with h|h
   ·exact .inl h
   ·rcases List.mem_cons.mp h with e|h
    ·cases e;exact absurd rfl hk
    ·exact .inr h
theorem fL{y:Str}:∀{ns:List (Str×NameKind)}{n:Nat}{acc:List (Str×Addr)},(y,NameKind.cell)∉ns->(cellsFrom n ns acc).lookup y=acc.lookup y
 | [],_,_,_=>rfl
 |(z,k)::r,n,acc,h=>by
  unfold cellsFrom
  have hr:(y,NameKind.cell)∉r:=λq=>h (List.mem_cons_of_mem _ q)
  split
  ·rename_i hk
   rw[fL hr]
   have hy:(y==z)=false:=by
    cases e:y==z with
    |false=>rfl
    |true=>exact absurd (by rw[beq_iff_eq.mp e,beq_iff_eq.mp hk];exact List.mem_cons_self) h
   rw[List.lookup_cons,hy]
  ·exact fL hr
theorem jT{y:Str}{c:Addr}:∀{ns:List (Str×NameKind)}{n:Nat}{acc:List (Str×Addr)},(y,c)∈cellsFrom n ns acc->(y,c)∈acc∨(n<=c/\(y,NameKind.cell)∈ns)
 | [],_,_,h=> .inl h
 |(z,k)::r,n,acc,h=>by
  unfold cellsFrom at h
  split at h
  ·rename_i hk
   rcases jT h with h|⟨h,e⟩
   ·rcases List.mem_cons.mp h with e|h
    ·cases e
     exact .inr ⟨Nat.le_refl _,by rw[beq_iff_eq.mp hk];exact List.mem_cons_self⟩
    ·exact .inl h
   ·exact .inr ⟨by omega,List.mem_cons_of_mem _ e⟩
  ·rcases jT h with h|⟨h,e⟩
   ·exact .inl h
   ·exact .inr ⟨h,List.mem_cons_of_mem _ e⟩
theorem jU:∀{ns:List (Str×NameKind)}{n:Nat}{acc:List (Str×Addr)},(∀x y c,(x,c)∈acc->(y,c)∈acc->x=y) ->(∀y c,(y,c)∈acc->c<n) ->
  ∀x y c,(x,c)∈cellsFrom n ns acc->(y,c)∈cellsFrom n ns acc->x=y
 | [],_,_,h,_=>h
 |(z,k)::r,n,acc,h,hl=>by
  unfold cellsFrom
  split
  ·refine jU (λx y c h1 h2=> ?_) (λy c h1=> ?_)
   ·rcases List.mem_cons.mp h1 with e1|h1<;>rcases List.mem_cons.mp h2 with e2|h2
    ·cases e1;cases e2;rfl
    ·cases e1;exact absurd (hl _ _ h2) (Nat.lt_irrefl _)
    ·cases e2;exact absurd (hl _ _ h1) (Nat.lt_irrefl _)
    ·exact h x y c h1 h2
   ·rcases List.mem_cons.mp h1 with e1|h1
    ·cases e1;exact Nat.lt_succ_self _
    ·exact Nat.lt_succ_of_lt (hl _ _ h1)
  ·exact jU h hl
theorem iJ:∀(ns:List (Str×NameKind))(h:Heap)(acc:List (Str×Addr))(y:Str)(c:Addr),(y,c)∈cellsFrom h.objs.size ns acc->(y,c)∈acc∨(pushCells h ns).IsCell c none
 | [],_,_,_,_,hm=> .inl hm
 |(z,k)::r,h,acc,y,c,hm=>by
  unfold cellsFrom at hm
  unfold pushCells
  split at hm
  ·rename_i hk
   rw[if_pos hk]
   have hm':(y,c)∈cellsFrom (h.push {cls:= .type "cell",data:= .cell none}).objs.size r ((z,h.objs.size)::acc):=by rw[Heap.size_push];exact hm
   rcases iJ r _ _ y c hm' with hm|hm
   ·rcases List.mem_cons.mp hm with e|hm
    ·cases e
     exact .inr ⟨_,pushCells_keeps _ _ _ _ (Heap.get?_push_size _ rfl),rfl⟩
    ·exact .inl hm
   ·exact .inr hm
  ·rename_i hk
   rw[if_neg hk]
   exact iJ r h acc y c hm
def kindB(names:List (Str×NameKind))(y:Str)(k:NameKind):Bool:=names.lookup y==some k
def sY:List Str->Bool
 | []=>true
 |x::r=> !r.contains x && sY r
theorem nU:∀{l:List Str},sY l=true->l.Nodup
 | [],_=>List.nodup_nil
 |x::r,h=>by
  unfold sY at h
  rw[Bool.and_eq_true]at h
  refine List.nodup_cons.mpr ⟨λhm=> ?_,nU h.2⟩
  have:r.contains x=true:=List.contains_iff_mem.mpr hm
  rw[this]at h
  exact absurd h.1 (by decide)
def Ai:List Str->List Str->(Str->Str->Bool) ->Bool
 | [],[],_=>true
 |x::r,y::t,p=>p x y && Ai r t p
 |_,_,_=>false
theorem yI:∀{l m:List Str}{p:Str->Str->Bool},Ai l m p=true->l.length=m.length
 | [],[],_,_=>rfl
 | [],_::_,_,h=>by cases h
 |_::_,[],_,h=>by cases h
 |x::r,y::t,p,h=>by
  unfold Ai at h
  rw[Bool.and_eq_true]at h
  simp[yI h.2]
theorem yJ:∀{l m:List Str}{p:Str->Str->Bool},Ai l m p=true-> ∀(i:Nat)(x:Str),l[i]?=some x-> ∃y,m[i]?=some y/\p x y=true
 | [],[],_,_,i,x,h=>by simp at h
 | [],_::_,_,h,_,_,_=>by cases h
 |_::_,[],_,h,_,_,_=>by cases h
 |x::r,y::t,p,h,0,z,e=>by
  unfold Ai at h
  rw[Bool.and_eq_true]at h
  simp at e;subst e
  exact⟨y,rfl,h.1⟩
 |x::r,y::t,p,h,i+1,z,e=>by
  unfold Ai at h
  rw[Bool.and_eq_true]at h
  obtain⟨w,e1,e2⟩:=yJ h.2 i z (by simpa using e)
  exact⟨w,by simpa using e1,e2⟩
def Ds(names ks:List (Str×NameKind))(own N2 N:List Str):Bool:=
 names.all (λy=>y.2 != .free||kindB ks y.1 .cell||kindB ks y.1 .free) &&
 sY (names.map (·.1)) && sY (own++N2) &&
 names.all (λy=> !(y.2== .local||y.2== .cell)||own.contains y.1||y.1==(".0":Str)) &&
 Ai N2 N (λy z=>(y==z && y !=(".0":Str))||names.lookup y==none) &&
 own.all (λx=>kindB names x .local||kindB names x .cell)
structure rA(names ks:List (Str×NameKind))(own N2 N:List Str):Prop where
 fr:∀y,(y,NameKind.free)∈names->ks.lookup y=some .cell∨ks.lookup y=some .free
 nd:(names.map (·.1)).Nodup
 Im:(own++N2).Nodup
 owns:∀y k,(y,k)∈names->k= .local∨k= .cell->y∈own∨y=(".0":Str)
 zip:∀(j:Nat)(y:Str),N2[j]?=some y->(N[j]?=some y/\y≠(".0":Str))∨names.lookup y=none
 len:N2.length=N.length
 own:∀x∈own,names.lookup x=some .local∨names.lookup x=some .cell
theorem qf{names ks:List (Str×NameKind)}{own N2 N:List Str}(h:Ds names ks own N2 N=true):rA names ks own N2 N:=by
 unfold Ds at h
 simp only[Bool.and_eq_true]at h
 obtain⟨⟨⟨⟨⟨h1,h2⟩,h3⟩,h4⟩,h5⟩,h6⟩:=h
 refine⟨λy hy=> ?_,nU h2,nU h3,λy k hy hk=> ?_,λj y e=> ?_,yI h5,λx hx=> ?_⟩
 ·have q:=List.all_eq_true.mp h1 _ hy
  simp only[Bool.or_eq_true]at q
  rcases q with(q|q)|q
  ·exact absurd q (by simp)
  ·exact .inl (by simpa [kindB]using q)
  ·exact .inr (by simpa [kindB]using q)
 ·have q:=List.all_eq_true.mp h4 _ hy
  simp only[Bool.or_eq_true]at q
  rcases q with(q|q)|q
  ·rcases hk with rfl|rfl<;>simp at q
  ·exact .inl (List.contains_iff_mem.mp q)
  ·exact .inr (by simpa using q)
 ·obtain⟨z,e1,e2⟩:=yJ h5 j y e
  simp only[Bool.or_eq_true,Bool.and_eq_true]at e2
  rcases e2 with⟨e2,e3⟩|e2
  ·exact .inl ⟨by rw[e1,beq_iff_eq.mp e2],by simpa using e3⟩
  ·exact .inr (by simpa using e2)
 ·have q:=List.all_eq_true.mp h6 _ hx
  simp only[Bool.or_eq_true]at q
  rcases q with q|q
  ·exact .inl (by simpa [kindB]using q)
  ·exact .inr (by simpa [kindB]using q)
theorem cG{α:Type}:∀{l:List (Str×α)}{y:Str}{k:α},(l.map (·.1)).Nodup->(y,k)∈l->l.lookup y=some k
 |(z,v)::r,y,k,nd,h=>by
  rw[List.map_cons,List.nodup_cons]at nd
  rw[List.lookup_cons]
  rcases List.mem_cons.mp h with e|h'
  ·cases e;simp
  ·have:(y==z)=false:=by
    cases e:y==z with
    |false=>rfl
    |true=>
     have e':y=z:=beq_iff_eq.mp e
     have q:y∈r.map (λx=>x.1):=List.mem_map.mpr ⟨(y,k),h',rfl⟩
     exact absurd (by rw[<-e'];exact q) nd.1
   rw[this]
   exact cG nd.2 h'
theorem jf{sc:Scope}{env:Env}{y:Str}:∀{ns:List (Str×NameKind)},
  (ns.map λ (n,k)=>if(k==NameKind.free && env.scope.kind== .function && env.kindOf n==some .cell)then(n,NameKind.cell)else(n,k)).lookup y=
   (ns.lookup y).map λk=>if(k==NameKind.free && env.scope.kind== .function && env.kindOf y==some .cell)then .cell else k
 | []=>rfl
 |(n,k)::r=>by
  have ih:= @jf sc env y r
  rw[List.map_cons,List.lookup_cons]
  show List.lookup y ((if(k==NameKind.free && env.scope.kind== .function && env.kindOf n==some .cell)=true then(n,NameKind.cell)else(n,k))::_)=_
  cases hx:y==n with
  |true=>
   have e:y=n:=beq_iff_eq.mp hx
   subst e
   by_cases hc:(k==NameKind.free && env.scope.kind== .function && env.kindOf y==some .cell)=true
   ·rw[if_pos hc]
    simp only[List.lookup_cons,hx,Option.map_some,if_pos hc]
   ·rw[if_neg hc]
    simp only[List.lookup_cons,hx,Option.map_some,if_neg hc]
  |false=>
   by_cases hc:(k==NameKind.free && env.scope.kind== .function && env.kindOf n==some .cell)=true
   ·rw[if_pos hc];simp only[List.lookup_cons,hx];exact ih
   ·rw[if_neg hc];simp only[List.lookup_cons,hx];exact ih
def Cx.comp(X:Cx)(sc:Scope)(N':List Str)(s:Shared)(H:Hp)(fp:List Addr):Cx:=
 {X with
  N:=N'
  s₀:=s
  H₀:=H
  env:=compEnvC sc (cellsFrom (s.heap.objs.size+2) sc.names (b9 X.env sc.names [])) (s.heap.objs.size+1) X.env
  outer:=X.stack
  ex:=fp
  fn:=λy=>sc.names.lookup y==some .cell
  pn:=[]
  xe:=λ_ _=>False}
section
variable{X:Cx}{pins:List (Addr×Obj)}{σ:St}{H:Hp}{s:Shared}{sc:Scope}{own N2:List Str}{fp:List Addr}
theorem jr(I:Inv X pins σ H s)(B:rA sc.names X.env.scope.names own N2 X.N):∀y,(y,NameKind.free)∈sc.names-> ∃c,X.env.cells.lookup y=some c:=λy hy=>by
 rcases B.fr y hy with q|q
 ·exact I.ok.has y (.inl q)
 ·exact I.ok.has y (.inr q)
theorem sJ(I:Inv X pins σ H s)(B:rA sc.names X.env.scope.names own N2 X.N):closureFor sc X.env=pure (b9 X.env sc.names []):=
 uS λy hy hk=>by
  obtain⟨c,e⟩:=jr I B y.1 (by rw[<-hk];exact hy)
  rw[e];rfl
theorem iB(I:Inv X pins σ H s)(B:rA sc.names X.env.scope.names own N2 X.N){n:Nat}{y:Str}{c:Addr}(h:(y,c)∈cellsFrom n sc.names (b9 X.env sc.names [])):
  (n<=c/\(y,NameKind.cell)∈sc.names)∨((y,NameKind.free)∈sc.names/\X.env.cells.lookup y=some c):=by
 rcases jT h with h|h
 ·rcases jq h with h|⟨h,e⟩
  ·cases h
  ·obtain⟨c',e'⟩:=jr I B y h
   rw[e']at e
   exact .inr ⟨h,by rw[e',e];rfl⟩
 ·exact .inl h
theorem kO(I:Inv X pins σ H s)(B:rA sc.names X.env.scope.names own N2 X.N){n:Nat}{y:Str}{c:Addr}(hy:(y,NameKind.free)∈sc.names)(hc:X.env.cells.lookup y=some c):
  (cellsFrom n sc.names (b9 X.env sc.names [])).lookup y=some c:=by
 rw[fL,jS (.inr hy),hc]
 ·rfl
 ·intro q
  have e1:=cG B.nd hy
  rw[cG B.nd q]at e1
  cases e1
theorem Dt(I:Inv X pins σ H s)(B:rA sc.names X.env.scope.names own N2 X.N){n:Nat}(hn:s.heap.objs.size<=n){x y:Str}{c:Addr}(h1:(x,c)∈cellsFrom n sc.names (b9 X.env sc.names []))
  (h2:(y,c)∈cellsFrom n sc.names (b9 X.env sc.names [])):x=y:=by
 have old:∀z c,(z,c)∈b9 X.env sc.names [] ->X.env.cells.lookup z=some c:=λz c hm=>by
  rcases jq hm with h|⟨h,e⟩
  ·cases h
  ·obtain⟨c',e'⟩:=jr I B z h
   rw[e']at e
   rw[e',e];rfl
 refine jU (λx y c h1 h2=>I.ok.inj x y c (old _ _ h1) (old _ _ h2)) (λz c hm=> ?_) x y c h1 h2
 obtain⟨v,q⟩:=I.cell z c (old _ _ hm)
 exact Nat.lt_of_lt_of_le q.lt hn
theorem xh(I:Inv X pins σ H s)(B:rA sc.names X.env.scope.names own N2 X.N){n:Nat}{env':Env}{h':Heap}{m:Str->Option Value}{j:Nat}{y:Str}{v:V}(hN:N2[j]?=some y)(hs:σ[j]?=some (some v))
  (hcl:env'.cells=cellsFrom n sc.names (b9 X.env sc.names []))(hkd:∀y,(y,NameKind.free)∈sc.names->env'.kindOf y=some .cell∨env'.kindOf y=some .free)
  (hin:JA env'.scope y-> ∃k,sc.names.lookup y=some k)(hown:y∉own)
  (keep:∀b o,s.heap.get? b=some o->h'.get? b=some o)(hv:JA env'.scope y)(hk2:∀k,sc.names.lookup y=some k->k= .local∨k= .cell∨k= .free):∃u,RelV v u/\Look env' h' m y u:=by
 obtain⟨k,hk⟩:=hin hv
 rcases B.zip j y hN with⟨e,n0⟩|e
 ·have hm:=mem_of_lookup hk
  have kf:k= .free:=by
   rcases hk2 k hk with z|z|z
   ·rcases B.owns y k hm (.inl z)with q|q
    ·exact absurd q hown
    ·exact absurd q n0
   ·rcases B.owns y k hm (.inr z)with q|q
    ·exact absurd q hown
    ·exact absurd q n0
   ·exact z
  subst kf
  have hX:JA X.env.scope y:=by
   rcases B.fr y hm with q|q
   ·exact .inr (.inl q)
   ·exact .inr (.inr q)
  obtain⟨m0,_,hl⟩:=I.loc
  obtain⟨u,r,l⟩:=hl j y v e hs hX
  refine⟨u,r,.inr ⟨hkd y hm,?_⟩⟩
  rcases l with⟨kl,_⟩|⟨_,c,hc,z⟩
  ·rcases B.fr y hm with q|q
   ·have Nn:X.env.scope.names.lookup y=some .local:=kl
    rw[q]at Nn;cases Nn
   ·have Nn:X.env.scope.names.lookup y=some .local:=kl
    rw[q]at Nn;cases Nn
  ·exact⟨c,by rw[hcl];exact kO I B hm hc,z.keeps keep⟩
 ·rw[hk]at e;cases e
end
theorem pF{M:Model}{A:Around}{E:Value->Shared->Prop}{s:Shared}{sc:Scope}{g:Addr}{cl:List (Str×Addr)}{qual:Str}{env:Env}{Q:Env->Shared->Prop}
  (h:Q {scope:=sc,locals:=s.heap.objs.size,globals:=g,cells:=cellsFrom (s.heap.objs.size+1) sc.names cl,qual:=qual,func:=none,code:=env.code,frame:=env.frame,builtins:=env.builtins}
   {s with heap:=pushCells (s.heap.push {cls:= .type "dict",data:= .dict #[]}) sc.names}):
  wpAny M A (newFunctionEnv sc g cl [] qual none .none (some env)) Q E s:=by
 simp only[newFunctionEnv,Option.isSome_some,if_true]
 refine wpAny_bind (wpAny_alloc ?_)
 refine wpAny_bind (wpAny_layCells _ (λname kind cells=>by cases hkc:kind==NameKind.cell<;>simp[hkc]) _ _ _ _ ?_)
 rw[show({s with heap:=s.heap.push {cls:= .type "dict",data:= .dict #[]}}:Shared).heap.objs.size=s.heap.objs.size+1 from Heap.size_push ..]
 simp only[List.forIn_nil]
 exact wpAny_bind (wpAny_pure (wpAny_pure h))
section
variable{X:Cx}{pins:List (Addr×Obj)}{σ:St}{H:Hp}{s:Shared}{sc:Scope}{own N2:List Str}{fp:List Addr}
theorem sZ{env:Env}{y:Str}(hv:JA (relabel sc env) y):∃k,sc.names.lookup y=some k/\(k= .local∨k= .cell∨k= .free):=by
 have q:∀k,(relabel sc env).names.lookup y=some k->(k= .local∨k= .cell∨k= .free) -> ∃k,sc.names.lookup y=some k/\(k= .local∨k= .cell∨k= .free):=λk e hk=>by
  have e':=(jf (sc:=sc) (env:=env) (y:=y) (ns:=sc.names)).symm.trans e
  cases z:sc.names.lookup y with
  |none=>rw[z]at e';cases e'
  |some k0=>
   rw[z]at e'
   simp only[Option.map_some,Option.some.injEq]at e'
   refine⟨k0,rfl,?_⟩
   split at e'
   ·rename_i hc
    simp only[Bool.and_eq_true]at hc
    exact .inr (.inr (by simpa using hc.1.1))
   ·rw[e'];exact hk
 rcases hv with e|e|e
 ·exact q _ e (.inl rfl)
 ·exact q _ e (.inr (.inl rfl))
 ·exact q _ e (.inr (.inr rfl))
theorem kind_free(B:rA sc.names X.env.scope.names own N2 X.N){env:Env}{y:Str}(hy:(y,NameKind.free)∈sc.names):(relabel sc env).names.lookup y=some .cell∨(relabel sc env).names.lookup y=some .free:=by
 have e:=jf (sc:=sc) (env:=env) (y:=y) (ns:=sc.names)
 rw[cG B.nd hy]at e
 simp only[Option.map_some]at e
 split at e
 ·exact .inl e
 ·exact .inr e
theorem jt{env:Env}{y:Str}{k:NameKind}(hy:sc.names.lookup y=some k)(hk:k= .local∨k= .cell):(relabel sc env).names.lookup y=some k:=by
 have e:=jf (sc:=sc) (env:=env) (y:=y) (ns:=sc.names)
 rw[hy]at e
 simp only[Option.map_some]at e
 rcases hk with rfl|rfl
 ·exact e
 ·exact e
theorem Io(I:Inv X pins σ H s)(B:rA sc.names X.env.scope.names own N2 X.N)(hk:sc.kind= .function)(hf:∀b∈fp,fV X pins H b)(ho:∀b∈fp,∃o,s.heap.get? b=some o):(X.comp sc (own++N2) s H fp).Ok:=by
 have lt:∀b∈fp,b<s.heap.objs.size:=λb hb=>let⟨o,e⟩:=ho b hb;Heap.lt_size e
 have jd:∀y c,(cellsFrom (s.heap.objs.size+2) sc.names (b9 X.env sc.names [])).lookup y=some c->(s.heap.objs.size+2<=c/\(y,NameKind.cell)∈sc.names)∨((y,NameKind.free)∈sc.names/\X.env.cells.lookup y=some c):=
  λy c h=>iB I B (mem_of_lookup h)
 refine⟨I.ok.mod,hk,I.ok.glob,I.ok.blt,Nat.le_succ _,λx y c h1 h2=> ?_,λy hy=> ?_,λy c hy hc=> ?_,I.ok.hd,I.ok.frames,.inl rfl,λb hb=>⟨?_,λy c hc=> ?_⟩,I.bs,Nat.le_trans I.ok.HX I.sz,λb o e hb=> ?_,λb hb hs=> ?_,I.stack,I.sE⟩
 ·exact Dt I B (by omega) (mem_of_lookup h1) (mem_of_lookup h2)
 ·have hy':(relabel sc X.env).names.lookup y=some .cell∨(relabel sc X.env).names.lookup y=some .free:=hy
  obtain⟨k,e,JL⟩:=sZ (env:=X.env) (y:=y) (sc:=sc) (by rcases hy' with q|q;exact .inr (.inl q);exact .inr (.inr q))
  rcases JL with rfl|rfl|rfl
  ·have:=jt (env:=X.env) e (.inl rfl)
   rcases hy' with q|q
   ·rw[q]at this;cases this
   ·rw[q]at this;cases this
  ·exact Option.isSome_iff_exists.mp (PySem.W.cellsFrom_some sc.names _ _ (.inl e))
  ·obtain⟨c,hc⟩:=jr I B y (mem_of_lookup e)
   exact⟨c,kO I B (mem_of_lookup e) hc⟩
 ·have hy':sc.names.lookup y=some .cell:=by
   have q:(sc.names.lookup y==some NameKind.cell)=true:=hy
   simpa using q
  rcases jd y c hc with⟨q,_⟩|⟨q,_⟩
  ·show s.heap.objs.size<=c
   omega
  ·rw[cG B.nd q]at hy';cases hy'
 ·exact Nat.ne_of_lt (Nat.lt_succ_of_lt (lt b hb))
 ·have hl:=lt b hb
  rcases jd y c hc with⟨q,_⟩|⟨_,q⟩
  ·exact Nat.ne_of_gt (Nat.lt_of_lt_of_le hl (Nat.le_trans (Nat.le_add_right _ 2) q))
  ·exact(hf b hb).2.2.2.2.1 y c q
 ·rcases(hf b hb).2.2.2.1 with z|z
  ·exact I.ok.Dd b o e z
  ·exact absurd (Nat.lt_of_lt_of_le (Heap.lt_size (I.ok.bs b o e).1) z) (Nat.lt_irrefl _)
 ·rcases List.mem_cons.mp (I.sR b hs)with e|e
  ·exact(hf b hb).2.1 e
  ·exact(hf b hb).2.2.1 e
theorem Fl(I:Inv X pins σ H s)(B:rA sc.names X.env.scope.names own N2 X.N)(hk:sc.kind= .function)(hf:∀b∈fp,fV X pins H b)(ho:∀b∈fp,∃o,s.heap.get? b=some o):
  Inv (X.comp sc (own++N2) s H fp) [] (List.replicate own.length none++σ) (upd H s.heap.objs.size (.lst []))
   {s with heap:=pushCells ((s.heap.push {cls:= .type "list",dict:=none,data:= .seq ([]:List Value).toArray}).push {cls:= .type "dict",data:= .dict #[]}) sc.names}:=by
 have k1:∀b o,(s.heap.push {cls:= .type "list",dict:=none,data:= .seq ([]:List Value).toArray}).get? b=some o->
   (pushCells ((s.heap.push {cls:= .type "list",dict:=none,data:= .seq ([]:List Value).toArray}).push {cls:= .type "dict",data:= .dict #[]}) sc.names).get? b=some o:=
  λb o e=>pushCells_keeps _ _ b o (Heap.get?_push_of_some _ e)
 have k0:∀b o,s.heap.get? b=some o->
   (pushCells ((s.heap.push {cls:= .type "list",dict:=none,data:= .seq ([]:List Value).toArray}).push {cls:= .type "dict",data:= .dict #[]}) sc.names).get? b=some o:=
  λb o e=>k1 b o (Heap.get?_push_of_some _ e)
 have sz:((s.heap.push {cls:= .type "list",dict:=none,data:= .seq ([]:List Value).toArray}).push {cls:= .type "dict",data:= .dict #[]}).objs.size=s.heap.objs.size+2:=by rw[Heap.size_push,Heap.size_push]
 have jd:∀y c,(cellsFrom (s.heap.objs.size+2) sc.names (b9 X.env sc.names [])).lookup y=some c->(s.heap.objs.size+2<=c/\(y,NameKind.cell)∈sc.names)∨((y,NameKind.free)∈sc.names/\X.env.cells.lookup y=some c):=
  λy c h=>iB I B (mem_of_lookup h)
 have Fo:∀b,s.heap.objs.size<b->upd H s.heap.objs.size (.lst []) b=none:=λb hb=>by
  rw[aH (Nat.ne_of_gt hb)]
  exact I.hok.fresh (Nat.le_of_lt hb)
 refine⟨Io I B hk hf ho,rfl,.refl I.bare.bare,Un.laid k0 (Nat.le_refl _) I.fresh,⟨λ_=>none,?_,λi y v e1 e2 e3=> ?_⟩,λy c hc=> ?_,Fo _ (Nat.lt_succ_self _),λy c hc=> ?_,λp hp=> ?_,I.hok.laid k0 (Nat.le_refl _) ?_,?_⟩
 ·have:=Heap.Ns.new (s.heap.push {cls:= .type "list",dict:=none,data:= .seq ([]:List Value).toArray}) (.type "dict")
  rw[Heap.size_push]at this
  exact this.keeps (pushCells_keeps _ _)
 ·by_cases hi:i<own.length
  ·rw[List.getElem?_append_left (by simpa using hi),List.getElem?_replicate]at e2
   split at e2<;>cases e2
  ·have yK:(own++N2)[i]?=some y:=e1
   have hi':own.length<=i:=by omega
   rw[List.getElem?_append_right (by simpa using hi'),List.length_replicate]at e2
   rw[List.getElem?_append_right hi']at yK
   have hown:y∉own:=λhm=>by
    have nd:=B.Im
    rw[List.nodup_append]at nd
    exact nd.2.2 y hm y (List.mem_of_getElem? yK) rfl
   refine xh I B (n:=s.heap.objs.size+2) yK e2 rfl (λz hz=>kind_free B hz) (λhv=>let⟨k,e,_⟩:=sZ hv;⟨k,e⟩) hown k0 e3 (λk e=> ?_)
   obtain⟨k',e',hk'⟩:=sZ (sc:=sc) e3
   rw[e]at e';cases e'
   exact hk'
 ·rcases iJ sc.names ((s.heap.push {cls:= .type "list",dict:=none,data:= .seq ([]:List Value).toArray}).push {cls:= .type "dict",data:= .dict #[]}) (b9 X.env sc.names []) y c (by rw[sz];exact mem_of_lookup hc)with q|q
  ·rcases jq q with z|⟨z,e⟩
   ·cases z
   ·obtain⟨c',e'⟩:=jr I B y z
    rw[e']at e
    have e2:c=c':=e
    subst e2
    obtain⟨v,w⟩:=I.cell y c e'
    exact⟨v,w.keeps k0⟩
  ·exact⟨none,q⟩
 ·rcases jd y c hc with⟨q,_⟩|⟨_,q⟩
  ·exact Fo c (by omega)
  ·obtain⟨v,w⟩:=I.cell y c q
   rw[aH (Nat.ne_of_lt w.lt)]
   exact I.lW y c q
 ·have iK:p∈([]:List (Addr×Obj)):=hp
  cases iK
 ·exact⟨Nat.zero_le _,[],0,.nil,k1 _ _ (Heap.get?_push_size _ rfl)⟩
 ·show(List.replicate own.length none++σ).length=(own++N2).length
  rw[List.length_append,List.length_append,List.length_replicate,I.len,B.len]
theorem Inv.Ld{σ':St}{H':Hp}{s':Shared}{N':List Str}(I:Inv X pins σ H s)(hf:∀b∈fp,fV X pins H b)(J:Inv (X.comp sc N' s H fp) [] σ' H' s'):Inv X pins σ H' s':=
 I.ES (ch:=fp) J.os J.base J.hok J.bare λb hb=>⟨(hf b hb).2.2.2.1,(hf b hb).2.1,(hf b hb).2.2.2.2.1,(hf b hb).2.2.2.2.2⟩
end
section
variable{prog:Program}{w:World}{A:Around}{R:Result->Shared->Prop}{s:Shared}
theorem mj{elt target iter:Expr}{scope:Scope}{pos:Pos}{it acc:Value}{env:Env}(I:Nat->Shared->Prop)
  (turn:∀n s,I n s->wpAny (model prog w) A (pyNext it) (λr s₁=>match r with
   |none=>R (.ok .next) s₁
   |some v=>wpAny (model prog w) A (letOwnedTupleGo target it v) (λ_ s₁'=>wpAny (model prog w) A (assign target env v) (λ_ s₂=>wpAny (model prog w) A (eval elt env) (λx s₃=>
     wpAny (model prog w) A (call (.builtin "list.append") [acc,x]) (λ_ s₄=> ∃m,m<n/\I m s₄) (λ_ _=>False) s₃)
     (λ_ _=>False) s₂) (λ_ _=>False) s₁') (λ_ _=>False) s₁) (λ_ _=>False) s)
  (n:Nat)(h:I n s):
  codeAny (model prog w) A (.compLoop (.ListComp elt [⟨target,iter,[],0⟩] scope pos) 0 it acc env) R s:=by
 refine codeAny_loop rfl I (λn s hI=> ?_) n h
 show wpAny _ _ ((compTurn (.ListComp elt [⟨target,iter,[],0⟩] scope pos) 0 it acc env).onRaise (λx=>do noteFrame x env;theTreesLotGoes x)) _ _ s
 refine wpAny_noted ?_
 rw[compTurn_list1]
 refine wpAny_bind (wpAny_standAt (wpAny_bind (wpAny_mono (turn n s hI) (λr s₁ h₁=> ?_) λ_ _ h'=>h'.elim)))
 cases r with
 |none=>exact wpAny_pure h₁
 |some v=>
  exact wpAny_bind (wpAny_mono h₁ (λ_ s₁' h₁'=>wpAny_bind (wpAny_mono h₁' (λ_ s₂ h₂=>wpAny_bind (wpAny_bind (wpAny_mono h₂ (λx s₃ h₃=>wpAny_bind (wpAny_mono h₃
   (λ_ s₄ h₄=>wpAny_pure (wpAny_pure ⟨rfl,h₄⟩)) λ_ _ h'=>h'.elim)) λ_ _ h'=>h'.elim))) λ_ _ h'=>h'.elim)) λ_ _ h'=>h'.elim)
end
def ju(k:Nat)(g:TG)(te:TE)(σ:St)(J:It)(H1:Hp)(D:Addr)(Q:VK):Prop:=∃W:Nat->Nat->List V->St->Hp->Prop,(∃m,W 0 m [] (List.replicate k none++σ) (upd H1 D (.lst [])))/\
 ∀i m acc σ' H',W i m acc σ' H'->(J.stop i H'/\H' D=some (.lst acc)/\Q (.ref D) H')∨
  (J.go i H'/\acc.length<sizeLine/\ ∀x H2,J.Ae i H' x H2->g x σ' H2 λσ3 H3=>te σ3 H3 λv H4=>H4 D=some (.lst acc)/\ ∃m',m'<m/\W (i+1) m' (acc++ [v]) σ3 (upd H4 D (.lst (acc++ [v]))))
def pG(k:Nat)(wi:TI)(g:TG)(te:TE):TE:=λσ H Q=>wi σ H λJ H1=> ∀D,H1 D=none->ju k g te σ J H1 D Q
section
variable{X:Cx}{sc:Scope}{own N2:List Str}
theorem Aj{elt iter tg:Expr}{pos PU:Pos}{wi:TI}{g:TG}{te:TE}{use:Option (Value->Sem Unit)}{Qf:Value->Shared->Prop}(hc:X.calm=true)(hi:PI X tg iter wi)(B:rA sc.names X.env.scope.names own N2 X.N)(hk:sc.kind= .function)
  (hg:∀s H fp,PG (X.comp sc (own++N2) s H fp) tg g)(he:∀s H fp,PE (X.comp sc (own++N2) s H fp) elt te)
  (hs:∀x,foldedSetIterable iter X.env x=pure x){pins:List (Addr×Obj)}{s0:Shared}{σ:St}{H0:Hp}{Q:VK}(I0:Inv X pins σ H0 s0)(h0:pG own.length wi g te σ H0 Q)
  (PV:∀s H fp,Inv X pins σ H s->(∀b∈fp,fV X pins H b) -> ∀(σ':St)(H':Hp)(s':Shared),Inv (X.comp sc (own++N2) s H fp) [] σ' H' s'->Q (.ref s.heap.objs.size) H'->
   compPost (model X.prog X.w) X.A X.xe use Qf (.ref s.heap.objs.size) (s.heap.objs.size+1) (.ok .next) s'):
  wpAny (model X.prog X.w) X.A (comprehension (.ListComp elt [⟨tg,iter,[],0⟩] sc pos) sc X.env PU (newList []) false (eval iter X.env) use) Qf X.xe s0:=by
 refine wpAny_comprehension_free (use:=use) rfl hs (sJ I0 B) hk (λy hy hl=>cG B.nd (by rw[<-hl];exact hy)) ?_
 refine wpAny_mono (hi pins s0 σ H0 _ I0 h0) (λv s1 h1=>wpAny_mono h1 (λitv s h2=> ?_) λ_ _ e=>e) λ_ _ e=>e
 obtain⟨it,fp,tn,J,H,e,I,T,st,hf,rd⟩:=h2
 subst e
 have ho:∀b∈fp,∃o,s.heap.get? b=some o:=λb hb=>let⟨o,e,_⟩:=T.obj 0 _ st b hb;⟨o,e⟩
 obtain⟨W,⟨m0,w0⟩,turn⟩:=rd s.heap.objs.size I.fresh
 refine wpAny_newObj_type ?_
 refine pF ?_
 have IB:=Fl I B hk hf ho
 have PX:∀{H':Hp},(∀b∈fp,H' b=none) -> ∀b∈fp,fV (X.comp sc (own++N2) s H fp) [] H' b:=λhn b hb=>by
  have ok:=IB.ok
  refine⟨hn b hb,(ok.Mr b hb).1,ok.De b hb,.inl hb,λy c hc=>(ok.Mr b hb).2 y c hc,λp hp=> ?_⟩
  have iK:p∈([]:List (Addr×Obj)):=hp
  cases iK
 have lt:∀b∈fp,b≠s.heap.objs.size:=λb hb=>let⟨o,e⟩:=ho b hb;Nat.ne_of_lt (Heap.lt_size e)
 have fin:=PV s H fp I hf
 have loop:∀s3:Shared,s3={s with heap:=pushCells ((s.heap.push {cls:= .type "list",dict:=none,data:= .seq ([]:List Value).toArray}).push {cls:= .type "dict",data:= .dict #[]}) sc.names} ->
   codeAny (model X.prog X.w) X.A (.compLoop (.ListComp elt [⟨tg,iter,[],0⟩] sc pos) 0 (.ref it) (.ref s.heap.objs.size) (X.comp sc (own++N2) s H fp).env)
    (compPost (model X.prog X.w) X.A X.xe use Qf (.ref s.heap.objs.size) (s.heap.objs.size+1)) s3:=by
  rintro s3 rfl
  refine mj (λn s'=> ∃i acc σ' H',Inv (X.comp sc (own++N2) s H fp) [] σ' H' s'/\tn i s'.heap/\(∀b∈fp,H' b=none)/\W i n acc σ' H') ?_ m0
   ⟨0,[],_,_,IB,T.keep _ _ _ st λb _ o e=>pushCells_keeps _ _ b o (Heap.get?_push_of_some _ (Heap.get?_push_of_some _ e)),λb hb=> ?_,w0⟩
  ·rintro n s3 ⟨i,acc,σ3,H3,I3,st3,KJ,w3⟩
   rcases turn i n acc σ3 H3 w3 with⟨stop,hD,qn⟩|⟨go,hz,step⟩
   ·refine fX (T.done (X.comp sc (own++N2) s H fp) rfl rfl rfl hc i [] s3 σ3 H3 _ I3 (PX KJ) st3 stop) λr s4 ⟨hr,I4⟩=> ?_
    subst hr
    exact fin σ3 H3 s4 I4 qn
   ·refine fX (T.item (X.comp sc (own++N2) s H fp) rfl rfl rfl hc i [] s3 σ3 H3 _ I3 (PX KJ) st3 go) λr s4 ⟨u,hr,h4⟩=> ?_
    subst hr
    refine fX h4 λ_ s5 ⟨x,H5,I5,r5,y5,KL,Ib⟩=> ?_
    have Pq:=I5.pinned (PX Ib) (T.obj _ _ KL)
    refine fX (hg s H fp _ s5 σ3 H5 x u _ Pq r5 (step x H5 y5)) λ_ s6 ⟨Nd,H6,I6,q6⟩=> ?_
    refine fX (he s H fp _ s6 Nd H6 _ I6 q6) λv s7 ⟨y,H7,I7,r7,Tz,m',hm',w7⟩=> ?_
    refine fX (nj _ s7 Nd H7 (.ref s.heap.objs.size) [y] (.ref s.heap.objs.size) [v] (λz H8=>z= .jc/\H8=upd H7 s.heap.objs.size (.lst (acc++ [y]))) I7 rfl (.cons r7 .nil) ⟨s.heap.objs.size,acc,y,rfl,rfl,Tz,hz,rfl,rfl⟩) λz s8 ⟨zz,H8,I8,_,_,e8⟩=> ?_
    subst e8
    refine⟨m',hm',i+1,acc++ [y],Nd,_,I8.l8,T.keep _ _ _ KL λb hb o e=>(I8.pin (b,o) (List.mem_append_right _ (List.mem_append_right _ (dU hb e)))).1,λb hb=> ?_,w7⟩
    obtain⟨o,e,d⟩:=T.obj _ _ KL b hb
    exact(I8.pin (b,o) (List.mem_append_right _ (List.mem_append_right _ (dU hb e)))).2.1
  ·rw[aH (lt b hb)]
   exact(hf b hb).1
 have e1:(s.heap.push {cls:= .type "list",dict:=none,data:= .seq ([]:List Value).toArray}).objs.size=s.heap.objs.size+1:=Heap.size_push ..
 dsimp only
 rw[e1]
 exact codeAny_compStart_list (loop _ rfl) (T.self _ 0 _ _ _ (T.keep _ _ _ st λb _ o e=>pushCells_keeps _ _ b o (Heap.get?_push_of_some _ (Heap.get?_push_of_some _ e))) (loop _ rfl))
theorem Inv.Np{pins:List (Addr×Obj)}{σ σ1:St}{H H1:Hp}{s s1:Shared}{h':Heap}(I:Inv X pins σ H s)(I1:Inv X pins σ1 H1 s1)(hn:H1 (s.heap.objs.size+1)=none)(sb:Heap.SameBut (s.heap.objs.size+1) s1.heap h'):Inv X pins σ1 H1 {s1 with heap:=h'}:=by
 have ne:∀b o,s.heap.get? b=some o->b≠s.heap.objs.size+1:=λb o e=>Nat.ne_of_lt (Nat.lt_succ_of_lt (Heap.lt_size e))
 refine I1.turned (it:=s.heap.objs.size+1) (t':=s1.toks) (λb o hb e=>(sb.2 b hb).trans e) hn (Nat.ne_of_gt (Nat.lt_succ_of_lt I.lt)) (.inr (Nat.le_succ_of_le I.sz)) (λy c e=> ?_) (λp hp=>ne _ _ (I.pin p hp).1)
 obtain⟨v,w⟩:=I.cell y c e
 exact Nat.ne_of_lt (Nat.lt_succ_of_lt w.lt)
theorem yL{elt iter tg:Expr}{pos:Pos}{wi:TI}{g:TG}{te:TE}(hc:X.calm=true)(hi:PI X tg iter wi)(B:rA sc.names X.env.scope.names own N2 X.N)(hk:sc.kind= .function)
  (hg:∀s H fp,PG (X.comp sc (own++N2) s H fp) tg g)(he:∀s H fp,PE (X.comp sc (own++N2) s H fp) elt te)
  (hs:∀x,foldedSetIterable iter X.env x=pure x:=by intro _;rfl):PE X (.ListComp elt [⟨tg,iter,[],0⟩] sc pos) (pG own.length wi g te):=by
 intro pins s0 σ H0 Q I0 h0
 rw[eval_ListComp]
 refine Aj (use:=none) hc hi B hk hg he hs I0 h0 λs H fp I hf σ' H' s' JB q=> ?_
 obtain⟨m,hn,_⟩:=JB.loc
 exact⟨m,hn,λh' sb=>⟨.ref s.heap.objs.size,H',I.Np (I.Ld hf JB) JB.free sb,rfl,q⟩⟩
end
def dH(P:Addr):HO:= .ext λh=> ∃ps:Array Value,h.get? P=some {cls:= .none,data:= .fields ps}/\TriplesOk ps.toList
structure fW(K:PySem.W.Frag)(cd:Value)(P:Addr):Prop where
 ex:∃(c:Addr)(o:Obj)(vs:Array Value)(file:Str)(tf:Tok)(flags:Int)(tg:Tok)(Le:Bool)(text:Int)(tt:Tok),cd= .ref c/\K.lookup c=some o/\o.cls= .type "code"/\o.data= .fields vs/\vs[11]?=some (.ref P)/\
  vs.getD 18 .none= .str file tf/\vs.getD 7 .none= .int flags tg/\vs.getD 9 .none= .bool Le/\vs.getD 10 .none= .int text tt
theorem Fp{P:Program}{w:World}{H:Hp}{h:Heap}{T:Addr}{ps:Array Value}(e:h.get? T=some {cls:= .none,data:= .fields ps})(t:TriplesOk ps.toList):eV P w H h T (dH T):=
 ⟨⟨ps,e,t⟩,⟨_,e⟩,λh1 h2 ⟨qs,e1,t1⟩ k=>⟨qs,k _ e1,t1⟩⟩
theorem Fq{H:Hp}{a:Addr}{o:HO}(h:H a=some o):upd H a o=H:=by
 funext b
 unfold upd
 split
 ·rename_i e;rw[e,h]
 ·rfl
section
variable{X:Cx}{pins:List (Addr×Obj)}{σ:St}{H:Hp}{s:Shared}{P:Addr}
theorem Ak{pos:Pos}{qn:Str}{sc:Scope}{Q:Value->Shared->Prop}{E:Value->Shared->Prop}{M:Model}{A:Around}(I:Inv X pins σ H s)(hcd:fW X.K X.env.code P)(hP:H P=some (dH P))
  (h:∀code h' tk,Inv X pins σ H {s with heap:=h',toks:=tk} ->Heap.ExtBut P s.heap h'->Q code {s with heap:=h',toks:=tk}):wpAny M A (genexprCode X.env pos qn sc) Q E s:=by
 obtain⟨c,o,vs,file,tf,flags,tg,Le,text,tt,ec,hc,hcl,hd,h11,Nq,h7,h9,Lf⟩:=hcd.ex
 obtain⟨⟨ps,eP,tr⟩,_,_⟩:=I.hok P _ hP
 have hcs:s.heap.get? c=some o:=I.wN c o hc
 have hcn:H c=none:=(I.bs c o (I.ok.mod.Mq c o hc)).2
 have ne:c≠P:=λe=>by rw[e,hP]at hcn;cases hcn
 have Lg:vs.getD 11 .none= .ref P:=by
  have:vs.getD 11 .none=(vs[11]?).getD .none:=by simp
  rw[this,h11];rfl
 have code:s.heap.IsCode c P ps:=⟨o,vs,file,tf,flags,tg,Le,text,tt,_,hcs,hd,Lg,Nq,h7,h9,Lf,eP,rfl,tr,ne⟩
 have tab:s.heap.TableAt c P ps:=⟨⟨o,vs,hcs,hcl,hd,h11⟩,eP⟩
 cases q:codeAmong pos ps.toList with
 |some c'=>exact wpAny_genexprCode_hit ec code q (h c' s.heap s.toks I (λ_ _ _ e=>e))
 |none=>
  refine wpAny_genexprCodeX ec code tab q λc' h' tk hx _ _ Lh _ Ft _=>h _ h' tk ?_ hx
  have I':=I.write (x:=P) (e:=P) (o:=dH P) (h':=h') (t':=tk) (by rw[hP];exact trivial) (.inl rfl) (λb u hb e=>hx b u hb e) ⟨_,Ft.2⟩
   (Fp Ft.2 (by obtain⟨_,_,_,_,_,_,_,_,_,op,_,_,_,_,_,_,_,e1,e2,e3,_⟩:=Lh;rw[Ft.2]at e1;cases e1;exact e3))
  rw[Fq hP]at I'
  exact I'
end
def BM(mg:Str->Option Value)(base:Heap):Prop:=∃bm ob,mg "__builtins__"=some (.ref bm)/\bm≠builtinsNs/\base.get? bm=some ob/\ob.cls= .type "module"/\ob.dict=some builtinsNs/\ob.data= .plain
def Ip(B:Around)(cenv:Env):Around:={handled:=B.handled,depth:=B.depth+1,frames:=B.frames.map (cenv:: ·),guards:=B.guards,units:=B.units+3}
def Cx.gen(X:Cx)(B:Around)(sc:Scope)(N':List Str)(code:Value)(s:Shared)(H:Hp)(fp:List Addr):Cx:=
 {X with
  N:=N'
  s₀:={s with gens:=s.gens.push .running}
  H₀:=H
  A:=Ip B (genEnv sc (b9 X.env sc.names []) s.heap.objs.size code builtinsNs X.env)
  env:=genEnv sc (b9 X.env sc.names []) s.heap.objs.size code builtinsNs X.env
  outer:=X.stack
  stack:=genEnv sc (b9 X.env sc.names []) s.heap.objs.size code builtinsNs X.env::X.stack
  ex:=fp
  fn:=λ_=>false
  pn:=[]
  xe:=λ_ _=>False}
section
variable{X:Cx}{pins:List (Addr×Obj)}{σ:St}{H:Hp}{s:Shared}{sc:Scope}{own N2:List Str}{fp:List Addr}{B:Around}{code:Value}
theorem nk{sc:Scope}{y:Str}(hv:JA sc y):∃k,sc.names.lookup y=some k/\(k= .local∨k= .cell∨k= .free):=by
 rcases hv with e|e|e
 ·exact⟨_,e,.inl rfl⟩
 ·exact⟨_,e,.inr (.inl rfl)⟩
 ·exact⟨_,e,.inr (.inr rfl)⟩
theorem eG{n:Nat}:∀{ns:List (Str×NameKind)}{acc:List (Str×Addr)},(∀y∈ns,y.2≠ .cell) ->cellsFrom n ns acc=acc
 | [],_,_=>rfl
 |(y,k)::r,acc,h=>by
  unfold cellsFrom
  have hk:(k==NameKind.cell)=false:=by simpa using h (y,k) List.mem_cons_self
  rw[hk]
  exact eG λz hz=>h z (List.mem_cons_of_mem _ hz)
theorem Li(I:Inv X pins σ H s)(Bk:rA sc.names X.env.scope.names own N2 X.N)(hk:sc.kind= .function)(hnc:∀y∈sc.names,y.2≠ .cell)(hf:∀b∈fp,fV X pins H b)(ho:∀b∈fp,∃o,s.heap.get? b=some o)
  (hB:B.frames=some X.stack)(hh:B.handled=none):(X.gen B sc (own++N2) code s H fp).Ok:=by
 have lt:∀b∈fp,b<s.heap.objs.size:=λb hb=>let⟨o,e⟩:=ho b hb;Heap.lt_size e
 have jd:∀y c,(b9 X.env sc.names []).lookup y=some c->(y,NameKind.free)∈sc.names/\X.env.cells.lookup y=some c:=λy c h=>by
  have h':(cellsFrom 0 sc.names (b9 X.env sc.names [])).lookup y=some c:=by rw[eG hnc];exact h
  rcases iB I Bk (mem_of_lookup h')with⟨_,q⟩|q
  ·exact absurd rfl (hnc _ q)
  ·exact q
 refine⟨I.ok.mod,hk,I.ok.glob,rfl,Nat.le_refl _,λx y c h1 h2=> ?_,λy hy=> ?_,λy c hy hc=>absurd hy (by show ¬(false=true);decide),λ_=>hh,?_,.inr ⟨rfl,rfl⟩,λb hb=>⟨?_,λy c hc=> ?_⟩,I.bs,Nat.le_trans I.ok.HX I.sz,λb o e hb=> ?_,λb hb hs=> ?_,I.stack,I.sE⟩
 ·exact I.ok.inj x y c (jd x c h1).2 (jd y c h2).2
 ·have hy':sc.names.lookup y=some .cell∨sc.names.lookup y=some .free:=hy
  rcases hy' with e|e
  ·exact absurd rfl (hnc _ (mem_of_lookup e))
  ·obtain⟨c,hc⟩:=jr I Bk y (mem_of_lookup e)
   have:=kO (n:=0) I Bk (mem_of_lookup e) hc
   rw[eG hnc]at this
   exact⟨c,this⟩
 ·show B.frames.map _=_
  rw[hB];rfl
 ·exact Nat.ne_of_lt (lt b hb)
 ·exact(hf b hb).2.2.2.2.1 y c (jd y c hc).2
 ·rcases(hf b hb).2.2.2.1 with z|z
  ·exact I.ok.Dd b o e z
  ·exact absurd (Nat.lt_of_lt_of_le (Heap.lt_size (I.ok.bs b o e).1) z) (Nat.lt_irrefl _)
 ·rcases List.mem_cons.mp (I.sR b hs)with e|e
  ·exact(hf b hb).2.1 e
  ·exact(hf b hb).2.2.1 e
theorem Iq{h':Heap}{tk:Nat}{m:Str->Option Value}(I:Inv X pins σ H s)(Bk:rA sc.names X.env.scope.names own N2 X.N)(hk:sc.kind= .function)(hnc:∀y∈sc.names,y.2≠ .cell)(hf:∀b∈fp,fV X pins H b)(ho:∀b∈fp,∃o,s.heap.get? b=some o)
  (hB:B.frames=some X.stack)(hh:B.handled=none)(hn:h'.Ns s.heap.objs.size m)(keep:∀b o,s.heap.get? b=some o->h'.get? b=some o):
  Inv (X.gen B sc (own++N2) code s H fp) [] (List.replicate own.length none++σ) H {s with heap:=h',toks:=tk,gens:=s.gens.push .running}:=by
 have jd:∀y c,(b9 X.env sc.names []).lookup y=some c->(y,NameKind.free)∈sc.names/\X.env.cells.lookup y=some c:=λy c h=>by
  have h':(cellsFrom 0 sc.names (b9 X.env sc.names [])).lookup y=some c:=by rw[eG hnc];exact h
  rcases iB I Bk (mem_of_lookup h')with⟨_,q⟩|q
  ·exact absurd rfl (hnc _ q)
  ·exact q
 refine⟨Li I Bk hk hnc hf ho hB hh,rfl,.refl (I.bare.bare.push rfl),Un.kept keep,⟨m,hn,λi y v e1 e2 e3=> ?_⟩,λy c hc=> ?_,I.fresh,λy c hc=>I.lW y c (jd y c hc).2,λp hp=> ?_,I.hok.kept keep,?_⟩
 ·by_cases hi:i<own.length
  ·rw[List.getElem?_append_left (by simpa using hi),List.getElem?_replicate]at e2
   split at e2<;>cases e2
  ·have yK:(own++N2)[i]?=some y:=e1
   have hi':own.length<=i:=by omega
   rw[List.getElem?_append_right (by simpa using hi'),List.length_replicate]at e2
   rw[List.getElem?_append_right hi']at yK
   have hown:y∉own:=λhm=>by
    have nd:=Bk.Im
    rw[List.nodup_append]at nd
    exact nd.2.2 y hm y (List.mem_of_getElem? yK) rfl
   refine xh I Bk (n:=0) yK e2 (eG hnc).symm (λz hz=> .inr (cG Bk.nd hz)) (λhv=>let⟨k,e,_⟩:=nk hv;⟨k,e⟩) hown keep e3 (λk e=> ?_)
   obtain⟨k',e',hk'⟩:=nk e3
   have Fv:sc.names.lookup y=some k':=e'
   rw[e]at Fv;cases Fv
   exact hk'
 ·obtain⟨v,w⟩:=I.cell y c (jd y c hc).2
  exact⟨v,w.keeps keep⟩
 ·have iK:p∈([]:List (Addr×Obj)):=hp
  cases iK
 ·show(List.replicate own.length none++σ).length=(own++N2).length
  rw[List.length_append,List.length_append,List.length_replicate,I.len,Bk.len]
theorem Inv.JM{σ':St}{H':Hp}{s':Shared}{N':List Str}{pl:List (Addr×Obj)}{gs:GenState}(I:Inv X pins σ H s)(hf:∀b∈fp,fV X pins H b)(hb:gs.bare=true)(J:Inv (X.gen B sc N' code s H fp) pl σ' H' s'):
  Inv X pins σ H' (s'.setGen s.gens.size gs):=by
 have sz:s.gens.size+1<=s'.gens.size:=by
  have:=J.bare.size
  simpa [Cx.gen]using this
 refine I.ES (ch:=fp) J.os J.base J.hok ⟨?_,?_,λk hk=> ?_⟩ λb hb=>⟨(hf b hb).2.2.2.1,(hf b hb).2.1,(hf b hb).2.2.2.2.1,(hf b hb).2.2.2.2.2⟩
 ·intro y hy
  simp only[Shared.setGen]at hy
  rcases Array.mem_or_eq_of_mem_setIfInBounds hy with q|q
  ·exact J.bare.bare y q
  ·rw[q];exact hb
 ·simp only[Shared.setGen,Array.size_setIfInBounds]
  omega
 ·have e:=J.bare.old k (by simp[Cx.gen];omega)
  simp only[Shared.setGen]
  rw[Array.getElem?_setIfInBounds_ne (by omega),e]
  show(s.gens.push .running)[k]?=s.gens[k]?
  rw[Array.getElem?_push_lt (by omega)]
  simp[hk]
end
theorem kh{B:Around}{elt:Expr}{gens:List Comprehension}{sc:Scope}{pos:Pos}{it acc:Value}{cenv:Env}:
  B.over (.compLoop (.GeneratorExp elt gens sc pos) 0 it acc cenv) []=Ip B cenv:=by
 unfold Around.over Ip
 congr 1
section
variable(X:Cx)(B:Around)(sc:Scope)(N':List Str)(code:Value)(sC:Shared)(HC:Hp)(fp Ss:List Addr)(tn:Nat->Heap->Prop)(cnt:Nat)(R:Nat->V->Prop)(W:Nat->St->Hp->Prop)
def xj:Protocol:=λn s₀ v s TF=> ∃pl σ' H' x,(∀p∈pl,p.1∉Ss)/\Inv (X.gen B sc N' code sC HC fp) (cO Ss s₀.heap++pl) σ' H' s/\tn (cnt-n) s.heap/\(∀b∈fp,H' b=none)/\RelV x v/\R (cnt-n-1) x/\W (cnt-n) σ' H'/\
 ∀s'':Shared,(∀b∈Ss,∃o,s''.heap.get? b=some o) ->Inv (X.gen B sc N' code sC HC fp) (cO Ss s''.heap++pl) σ' H' s''->tn (cnt-n) s''.heap->TF (.send .none) s''
def Ir:GenEnd:=λn s₀ r s₁=>r= .ok .next/\n=0/\ ∃σ' H',Inv (X.gen B sc N' code sC HC fp) (cO Ss s₀.heap) σ' H' s₁/\W cnt σ' H'
end
section
variable{X:Cx}{B:Around}{sc:Scope}{N':List Str}{code:Value}{sC:Shared}{HC:Hp}{fp Ss:List Addr}{tn:Nat->Heap->Prop}{cnt:Nat}{R:Nat->V->Prop}{W:Nat->St->Hp->Prop}
variable{elt iter tg:Expr}{pos:Pos}{it:Addr}{J:It}{g:TG}{te:TE}
theorem yM{Ss:List Addr}{h:Heap}{p:Addr×Obj}(hp:p∈cO Ss h):p.1∈Ss:=(jl hp).1
theorem Al{pl:List (Addr×Obj)}{σ':St}{H' H2:Hp}{s:Shared}(I:Inv (X.gen B sc N' code sC HC fp) pl σ' H2 s)(hn:∀b∈fp,H' b=none)(hd:∀p∈pl,p.1∉fp):∀b∈fp,fV (X.gen B sc N' code sC HC fp) pl H' b:=λb hb=>by
 have ok:=I.ok
 refine⟨hn b hb,(ok.Mr b hb).1,ok.De b hb,.inl hb,λy c hc=>(ok.Mr b hb).2 y c hc,λp hp e=> ?_⟩
 have iK:p∈pl:=by simpa [Cx.gen]using hp
 exact hd p iK (by rw[e];exact hb)
theorem Iu(hco:sc.isCoroutine=false)(hc:X.calm=true)(T:Turn X.prog X.w X.K tg J fp it tn)(hg:PG (X.gen B sc N' code sC HC fp) tg g)(he:PE (X.gen B sc N' code sC HC fp) elt te)(Fw:∀b∈fp,b∉Ss)
  (turn:∀i σ' H',i<cnt->W i σ' H'->J.go i H'/\ ∀x H2,J.Ae i H' x H2->g x σ' H2 λσ3 H3=>te σ3 H3 λv H4=>R i v/\W (i+1) σ3 H4)
  (stop:∀σ' H',W cnt σ' H'->J.stop cnt H'):
  ∀(n i:Nat)(σ':St)(H':Hp)(s₀ s:Shared),n+i=cnt->W i σ' H'->Inv (X.gen B sc N' code sC HC fp) (cO Ss s₀.heap) σ' H' s->tn i s.heap->(∀b∈fp,H' b=none) ->
   Seg (model X.prog X.w) B (Ir X B sc N' code sC HC fp Ss cnt W) (xj X B sc N' code sC HC fp Ss tn cnt R W) n s₀ (.compLoop (.GeneratorExp elt [⟨tg,iter,[],0⟩] sc pos) 0 (.ref it) .none (X.gen B sc N' code sC HC fp).env)
    ((model X.prog X.w).den (.compLoop (.GeneratorExp elt [⟨tg,iter,[],0⟩] sc pos) 0 (.ref it) .none (X.gen B sc N' code sC HC fp).env)) [] s:=by
 have PY:∀{h:Heap},∀p∈cO Ss h,p.1∉fp:=λp hp hb=>Fw p.1 hb (yM hp)
 intro n
 induction n with
 |zero=>
  intro i σ' H' s₀ s hn w I st fr
  obtain rfl:i=cnt:=by omega
  show Seg _ B _ _ _ s₀ _ ((compTurn (.GeneratorExp elt [⟨tg,iter,[],0⟩] sc pos) 0 (.ref it) .none (X.gen B sc N' code sC HC fp).env).onRaise (leaving (X.gen B sc N' code sC HC fp).env)) [] s
  rw[compTurn_gen,Sem.onRaise_eq_wrap]
  refine seg_bind_wrap (wpAny_standAt ?_)
  refine seg_bind_wrap ?_
  rw[kh]
  refine fX (T.done (X.gen B sc N' code sC HC fp) rfl rfl rfl hc i _ s σ' H' _ I (Al I fr PY) st (stop σ' H' w)) λr s1 ⟨hr,I1⟩=> ?_
  subst hr
  exact seg_end (.ok .next) ⟨rfl,rfl,σ',H',I1,w⟩
 |succ n ih=>
  intro i σ' H' s₀ s hn w I st fr
  have hi:i<cnt:=by omega
  obtain⟨go,step⟩:=turn i σ' H' hi w
  show Seg _ B _ _ _ s₀ _ ((compTurn (.GeneratorExp elt [⟨tg,iter,[],0⟩] sc pos) 0 (.ref it) .none (X.gen B sc N' code sC HC fp).env).onRaise (leaving (X.gen B sc N' code sC HC fp).env)) [] s
  rw[compTurn_gen,Sem.onRaise_eq_wrap]
  refine seg_bind_wrap (wpAny_standAt ?_)
  refine seg_bind_wrap ?_
  rw[kh]
  refine fX (T.item (X.gen B sc N' code sC HC fp) rfl rfl rfl hc i _ s σ' H' _ I (Al I fr PY) st go) λr s1 ⟨u,hr,h1⟩=> ?_
  subst hr
  refine seg_bind_wrap ?_
  rw[kh]
  refine wpAny_mono h1 (λ_ s2 ⟨x,H2,I2,r2,y2,st2,Nr⟩=> ?_) λ_ _ z=>z
  have TH:=I2.pinned (Al I2 Nr PY) (T.obj _ _ st2)
  refine seg_bind_wrap ?_
  rw[kh]
  refine wpAny_mono (hg _ s2 σ' H2 x u _ TH r2 (step x H2 y2)) (λ_ s3 ⟨σ3,H3,I3,q3⟩=> ?_) λ_ _ z=>z.elim
  simp only[List.forIn_nil,if_true]
  refine seg_bind_wrap (wpAny_pure ?_)
  have hy:∀v,yieldOut (X.gen B sc N' code sC HC fp).env v=yieldValue v:=λv=>by
   have q:(X.gen B sc N' code sC HC fp).env.scope.isCoroutine=false:=hco
   simp only[yieldOut,q,Bool.false_eq_true,if_false]
  simp only[if_true,hy]
  rw[Sem.bind_eq_wrap',Sem.bind_eq_wrap',Sem.wrap_wrap,Sem.wrap_wrap]
  refine seg_wrap ?_
  rw[kh]
  refine wpAny_mono (he _ s3 σ3 H3 _ I3 q3) (λv s4 ⟨y,H4,I4,r4,hR,w4⟩=> ?_) λ_ _ z=>z.elim
  have TJ:tn (i+1) s4.heap:=T.keep _ _ _ st2 λb hb o e=>(I4.pin (b,o) (List.mem_append_right _ (List.mem_append_right _ (dU hb e)))).1
  have Rw:∀b∈fp,H4 b=none:=λb hb=>by
   obtain⟨o,e,d⟩:=T.obj _ _ st2 b hb
   exact(I4.pin (b,o) (List.mem_append_right _ (List.mem_append_right _ (dU hb e)))).2.1
  have ei:cnt-n=i+1:=by omega
  refine seg_at (seg_yield rfl rfl rfl ⟨[],σ3,H4,y,(λ_ h=>nomatch h),(by rw[List.append_nil];exact I4.l8),by rw[ei];exact TJ,Rw,r4,by rw[ei];exact hR,by rw[ei];exact w4,λs'' _ Lj st''=> ?_⟩)
  rw[ei]at st''
  rw[List.append_nil]at Lj
  exact seg_again rfl (ih (i+1) σ3 H4 s'' s'' (by omega) w4 Lj st'' Rw)
end
theorem Fx{s:Shared}{g:Nat}{gs:GenState}(h:s.gens[g]?=some .running):(s.setGen g gs).setGen g .running=s:=by
 obtain⟨hh,gens,d,t,os⟩:=s
 have hlt:g<gens.size:=by
  rcases Nat.lt_or_ge g gens.size with q|q
  ·exact q
  ·have z:gens[g]?=none:=Array.getElem?_eq_none q
   have h':gens[g]?=some .running:=h
   rw[z]at h';cases h'
 have q:(gens.setIfInBounds g gs).setIfInBounds g .running=gens:=by
  apply Array.ext_getElem?
  intro i
  by_cases e:g=i
  ·subst e
   rw[Array.getElem?_setIfInBounds_self_of_lt (by simpa using hlt)]
   exact h.symm
  ·rw[Array.getElem?_setIfInBounds_ne e,Array.getElem?_setIfInBounds_ne e]
 show({heap:=hh,gens:=(gens.setIfInBounds g gs).setIfInBounds g .running,drawn:=d,toks:=t,os:=os}:Shared)=_
 rw[q]
theorem kP:∀{Ss:List Addr}{h h':Heap},(∀b∈Ss,∃o,h.get? b=some o/\h'.get? b=some o) ->cO Ss h'=cO Ss h
 | [],_,_,_=>rfl
 |b::r,h,h',k=>by
  obtain⟨o,e1,e2⟩:=k b List.mem_cons_self
  unfold cO
  rw[List.filterMap_cons,List.filterMap_cons,e1,e2]
  show(b,o)::cO r h'=(b,o)::cO r h
  rw[kP λc hc=>k c (List.mem_cons_of_mem _ hc)]
section
variable(X:Cx)(B:Around)(sc:Scope)(N':List Str)(code:Value)(sC:Shared)(HC:Hp)(fp Ss:List Addr)(tn:Nat->Heap->Prop)(cnt:Nat)(R:Nat->V->Prop)(W:Nat->St->Hp->Prop)
structure Ad(a:Addr)(i:Nat)(s:Shared):Prop where
 gen:s.heap.IsGen a sC.gens.size
 ex:∃gs pl σ' H',(∀p∈pl,p.1∉Ss)/\s.gens[sC.gens.size]?=some gs/\gs.bare=true/\Inv (X.gen B sc N' code sC HC fp) (cO Ss s.heap++pl) σ' H' (s.setGen sC.gens.size .running)/\tn i s.heap/\(∀b∈fp,H' b=none)/\W i σ' H'/\
  ∀s'':Shared,(∀b∈Ss,∃o,s''.heap.get? b=some o) ->Inv (X.gen B sc N' code sC HC fp) (cO Ss s''.heap++pl) σ' H' s''->tn i s''.heap->gs.Goes (model X.prog X.w) B (Ir X B sc N' code sC HC fp Ss cnt W) (xj X B sc N' code sC HC fp Ss tn cnt R W) (cnt-i) (.send .none) s''
end
section
variable{X:Cx}{D:Around}{sc:Scope}{N':List Str}{code:Value}{sC:Shared}{HC:Hp}{fp Ss:List Addr}{tn:Nat->Heap->Prop}{cnt:Nat}{R:Nat->V->Prop}{W:Nat->St->Hp->Prop}{a:Addr}{i:Nat}{s:Shared}
theorem Inv.Ce{pl:List (Addr×Obj)}{σ':St}{H':Hp}{s':Shared}(I:Inv X pl σ' H' s'):s'.heap.NoLimit:=I.nolimit
theorem Am{B:Around}{pl:List (Addr×Obj)}{σ':St}{H':Hp}{s':Shared}(I:Inv (X.gen B sc N' code sC HC fp) pl σ' H' s'):s'.gens[sC.gens.size]?=some .running:=by
 have e:=I.bare.old sC.gens.size (by simp[Cx.gen])
 rw[e]
 show(sC.gens.push .running)[sC.gens.size]?=_
 simp
theorem Ad.item{Q:Option Value->Shared->Prop}{E:Value->Shared->Prop}(G:Ad X D.in1 sc N' code sC HC fp Ss tn cnt R W a i s)(hh:D.handled=none)(hroom:D.depth<recursionLimit)(ha:a∈Ss)(hs:∀b∈Ss,∃o,s.heap.get? b=some o)(hi:i<cnt)
  (hQ:∀v x s',RelV x v->R i x->Ad X D.in1 sc N' code sC HC fp Ss tn cnt R W a (i+1) s'->(∀b∈Ss,∀o,s.heap.get? b=some o->s'.heap.get? b=some o) ->Q (some v) s'):
  wpAny (model X.prog X.w) D (pyNext (.ref a)) Q E s:=by
 obtain⟨gs,pl,σ',H',hpl,e1,e2,I,st,fr,w,go⟩:=G.ex
 have gg:=go (s.setGen sC.gens.size .running) hs I st
 obtain⟨m,hm⟩:∃m,cnt-i=m+1:=⟨cnt-i-1,by omega⟩
 rw[hm]at gg
 refine wpAny_pyNext_genexpQ (P:=λn s₀ s₁=>n=0/\ ∃σ' H',Inv (X.gen D.in1 sc N' code sC HC fp) (cO Ss s₀.heap) σ' H' s₁/\W cnt σ' H') hh I.Ce hroom G.gen e1 gg (λv s1 gs' hb hy=> ?_) (λs1 hp=> ?_)
 ·obtain⟨PZ,σ1,H1,x,Nt,I1,st1,Mu,r1,hR,w1,OA⟩:=hy
  have ei:cnt- (m+1-1)=i+1:=by omega
  rw[ei]at st1 w1 OA hR
  have kp:∀b∈Ss,∀o,s.heap.get? b=some o->s1.heap.get? b=some o:=λb hb o e=>(I1.pin (b,o) (List.mem_append_right _ (List.mem_append_left _ (dU hb e)))).1
  have eq:cO Ss s1.heap=cO Ss s.heap:=kP λb hb=>let⟨o,e⟩:=hs b hb;⟨o,e,kp b hb o e⟩
  have run:=Am I1
  refine hQ v x _ r1 hR ⟨?_,gs',PZ,σ1,H1,Nt,setGen_self run,hb,?_,st1,Mu,w1,?_⟩ kp
  ·obtain⟨o,nm,qn,eo,r⟩:=G.gen
   exact⟨o,nm,qn,kp a ha o eo,r⟩
  ·rw[Fx run]
   show Inv _ (cO Ss s1.heap++PZ) σ1 H1 s1
   rw[eq]
   exact I1
  ·have e3:cnt- (i+1)=m:=by omega
   rw[e3]
   exact OA
 ·exact absurd hp.1 (by omega)
theorem Ad.done{pins:List (Addr×Obj)}{σ:St}{Q:Option Value->Shared->Prop}{E:Value->Shared->Prop}(G:Ad X D.in1 sc N' code sC HC fp Ss tn cnt R W a cnt s)(IC:Inv X pins σ HC sC)(hf:∀b∈fp,fV X pins HC b)(hh:D.handled=none)(hroom:D.depth<recursionLimit)(hs:∀b∈Ss,∃o,s.heap.get? b=some o)
  (hQ:∀s' σ' H',Inv X pins σ H' s'->W cnt σ' H'->Q none s'):
  wpAny (model X.prog X.w) D (pyNext (.ref a)) Q E s:=by
 obtain⟨gs,pl,σ',H',hpl,e1,e2,I,st,fr,w,go⟩:=G.ex
 have gg:=go (s.setGen sC.gens.size .running) hs I st
 rw[Nat.sub_self]at gg
 refine wpAny_pyNext_genexpQ (P:=λn s₀ s₁=>n=0/\ ∃σ' H',Inv (X.gen D.in1 sc N' code sC HC fp) (cO Ss s₀.heap) σ' H' s₁/\W cnt σ' H') hh I.Ce hroom G.gen e1 gg (λv s1 gs' hb hy=> ?_) (λs1 hp h' k=> ?_)
 ·obtain⟨PZ,σ1,H1,x,Nt,I1,st1,Mu,r1,hR,w1,OA⟩:=hy
  have kp:∀b∈Ss,∀o,s.heap.get? b=some o->s1.heap.get? b=some o:=λb hb o e=>(I1.pin (b,o) (List.mem_append_right _ (List.mem_append_left _ (dU hb e)))).1
  have eq:cO Ss s1.heap=cO Ss s.heap:=kP λb hb=>let⟨o,e⟩:=hs b hb;⟨o,e,kp b hb o e⟩
  exact False.elim (OA s1 (λb hb=>let⟨o,e⟩:=hs b hb;⟨o,kp b hb o e⟩) (by rw[eq];exact I1) st1)
 ·obtain⟨_,σ1,H1,I1,w1⟩:=hp
  have I2:=Inv.JM (gs:= .finished) IC hf rfl I1
  exact hQ _ σ1 H1 (I2.kept (t':=s1.toks) k) w1
end
section
variable{X:Cx}{B:Around}{sc:Scope}{N':List Str}{code:Value}{sC:Shared}{HC:Hp}{fp Ss:List Addr}{tn:Nat->Heap->Prop}{cnt:Nat}{R:Nat->V->Prop}{W:Nat->St->Hp->Prop}
variable{elt iter tg:Expr}{pos:Pos}{it:Addr}{J:It}{g:TG}{te:TE}
theorem Fy(hco:sc.isCoroutine=false)(hc:X.calm=true)(T:Turn X.prog X.w X.K tg J fp it tn)(hg:PG (X.gen B sc N' code sC HC fp) tg g)(he:PE (X.gen B sc N' code sC HC fp) elt te)(Fw:∀b∈fp,b∉Ss)
  (turn:∀i σ' H',i<cnt->W i σ' H'->J.go i H'/\ ∀x H2,J.Ae i H' x H2->g x σ' H2 λσ3 H3=>te σ3 H3 λv H4=>R i v/\W (i+1) σ3 H4)
  (stop:∀σ' H',W cnt σ' H'->J.stop cnt H'){σ':St}{H':Hp}{s:Shared}(w:W 0 σ' H')(I:Inv (X.gen B sc N' code sC HC fp) (cO Ss s.heap) σ' H' s)(st:tn 0 s.heap)(fr:∀b∈fp,H' b=none):
  Seg (model X.prog X.w) B (Ir X B sc N' code sC HC fp Ss cnt W) (xj X B sc N' code sC HC fp Ss tn cnt R W) cnt s (.compStart (.GeneratorExp elt [⟨tg,iter,[],0⟩] sc pos) 0 (.ref it) .none (X.gen B sc N' code sC HC fp).env)
   ((model X.prog X.w).den (.compStart (.GeneratorExp elt [⟨tg,iter,[],0⟩] sc pos) 0 (.ref it) .none (X.gen B sc N' code sC HC fp).env)) [] s:=by
 have lp:=Iu (iter:=iter) (pos:=pos) hco hc T hg he Fw turn stop cnt 0 σ' H' s s (Nat.add_zero _) w I st fr
 show Seg _ B _ _ _ s _ ((compStart (.GeneratorExp elt [⟨tg,iter,[],0⟩] sc pos) 0 (.ref it) .none (X.gen B sc N' code sC HC fp).env).onRaise (leaving (X.gen B sc N' code sC HC fp).env)) [] s
 unfold compStart
 rw[Sem.onRaise_eq_wrap]
 show Seg _ B _ _ _ s _ ((ask>>=_).wrap _ _ _ _) [] s
 refine seg_bind_wrap (wpAny_askSetting ?_)
 split
 ·exact seg_again rfl lp
 ·first
   |exact seg_bind_wrap (wpAny_rule (seg_bind_wrap (wpAny_standAt (seg_bind_wrap (T.self _ 0 s _ _ st (seg_again rfl lp))))))
   |(refine seg_bind_wrap (wpAny_rule ?_);(show Seg _ B _ _ _ s _ ((standAt iter.pos>>=_).wrap _ _ _ _) [] s);exact seg_bind_wrap (wpAny_standAt (seg_bind_wrap (T.self _ 0 s _ _ st (seg_again rfl lp)))))
end
def vP(k:Nat)(g:TG)(te:TE)(σ:St)(F:Nat->(Nat->V->Prop) ->(Nat->St->Hp->Prop) ->Prop)(J:It)(H:Hp):Prop:=∃(cnt:Nat)(R:Nat->V->Prop)(W:Nat->St->Hp->Prop),W 0 (List.replicate k none++σ) H/\
 (∀i σ' H',i<cnt->W i σ' H'->J.go i H'/\ ∀x H2,J.Ae i H' x H2->g x σ' H2 λσ3 H3=>te σ3 H3 λv H4=>R i v/\W (i+1) σ3 H4)/\(∀σ' H',W cnt σ' H'->J.stop cnt H')/\F cnt R W
theorem nV(elt target iter:Expr)(ifs:List Expr)(cls:List Comprehension)(scope:Scope)(pos:Pos)(env:Env)(hco:scope.isCoroutine=false):
  eval (.GeneratorExp elt (⟨target,iter,ifs,0⟩::cls) scope pos) env=(do
   let x<-eval iter env
   standAt iter.pos
   let x<-genFold iter env x
   let it<-holding [x] (pyIter x)
   enterFrame
   let cl<-closureFor scope env
   let code<-genexprCode env pos (env.qual++ "<genexpr>") scope
   let bi<-builtinsFor env.globals env.builtins
   let cenv<-newFunctionEnv scope env.globals cl [(".0",it)] (env.qual++ "<genexpr>.") none code none bi
   newGenerator (.compStart (.GeneratorExp elt (⟨target,iter,ifs,0⟩::cls) scope pos) 0 it .none cenv) "<genexpr>" (env.qual++ "<genexpr>")):=by
 rw[arm_eval_GeneratorExp]
 simp only[hco,Bool.false_eq_true,if_false]
 cases iter<;>rfl
section
variable{M:Model}{A:Around}{E:Value->Shared->Prop}{s:Shared}
theorem jV{env:Env}{elt target iter:Expr}{ifs:List Expr}{cls:List Comprehension}{scope:Scope}{cl:List (Str×Addr)}{pos:Pos}{Q:Value->Shared->Prop}
  (hco:scope.isCoroutine=false)(hclos:closureFor scope env=pure cl)(hcell:∀y∈scope.names,y.2≠ .cell)(h0:scope.names.lookup (".0":Str)=some NameKind.local)(hkind:scope.kind= .function)
  (hroom:A.depth<recursionLimit)
  (h:wpAny M A (eval iter env) (λxv s₁=>wpAny M A (pyIter xv) (λit s₂=>s₂.heap.NoLimit/\
   wpAny M A (genexprCode env pos (env.qual++ "<genexpr>") scope) (λcode s₃=>wpAny M A (builtinsFor env.globals env.builtins) (λbi s₄=>
    ∀h',h'.Ns s₄.heap.objs.size (λy=>if y= ".0" then some it else none) ->Heap.SameBut s₄.heap.objs.size (s₄.heap.push {cls:= .type "frame",data:= .dict #[]}) h'->
     Q (.ref h'.objs.size) {s₄ with
      gens:=s₄.gens.push (.fresh (.compStart (.GeneratorExp elt (⟨target,iter,ifs,0⟩::cls) scope pos) 0 it .none (genEnv scope cl s₄.heap.objs.size code bi env))),
      toks:=s₄.toks+1+1+1,
      heap:=h'.push {cls:= .type "generator",data:= .fields #[.int s₄.gens.size 0,.str "<genexpr>" (s₄.toks+1),.str (env.qual++ "<genexpr>") (s₄.toks+1+1)]}}) E s₃) E s₂) E s₁) E s)
  (hs:∀x,genFold iter env x=pure x):
  wpAny M A (eval (.GeneratorExp elt (⟨target,iter,ifs,0⟩::cls) scope pos) env) Q E s:=by
 rw[nV _ _ _ _ _ _ _ _ hco,hclos]
 refine wpAny_bind (wpAny_mono h (λxv s₁ h₁=> ?_) λ_ _ e=>e)
 refine wpAny_bind (wpAny_standAt ?_)
 refine wpAny_bind (wpAny_of_eq (hs xv) ?_)
 refine wpAny_bind (wpAny_holding (wpAny_mono h₁ (λit s₂ h₂=> ?_) λ_ _ e=>e))
 refine wpAny_bind (wpAny_enterFrame h₂.1 hroom ?_)
 refine wpAny_bind (wpAny_pure ?_)
 refine wpAny_bind (wpAny_mono h₂.2 (λcode s₃ h₃=> ?_) λ_ _ e=>e)
 refine wpAny_bind (wpAny_mono h₃ (λbi s₄ h₄=> ?_) λ_ _ e=>e)
 have Lk:∀y∈([((".0":Str),it)]:List (Str×Value)),scope.names.lookup y.1=some NameKind.local:=by
  intro y hy
  rcases List.mem_cons.mp hy with rfl|hy
  ·exact h0
  ·cases hy
 refine wpAny_bind (wpAny_newFunctionEnv hcell Lk (λh' hn' hs'=> ?_) hkind)
 have e:(λy:Str=>([((".0":Str),it)]:List (Str×Value)).reverse.lookup y)=λy:Str=>if y=(".0":Str)then some it else none:=by
  funext y
  by_cases hy:y= ".0"
  ·subst hy;simp
  ·have:(y==(".0":Str))=false:=by simpa using hy
   simp[List.lookup,this,hy]
 rw[e]at hn'
 simp only[newGenerator,newFields]
 refine wpAny_bind (wpAny_newGen (wpAny_bind (wpAny_mkText (wpAny_bind (wpAny_mkText (wpAny_newObj_type ?_ (by size_fits)))))))
 exact h₄ h' hn' hs'
end
section
variable{X:Cx}{sc:Scope}{own N2:List Str}{elt iter tg:Expr}{pos:Pos}{wi:TI}{g:TG}{te:TE}{P:Addr}
theorem Fz{ifs:List Expr}{cls:List Comprehension}{Rd:It->Hp->Prop}{pins:List (Addr×Obj)}{σ:St}{H0:Hp}{s0:Shared}{F:Nat->(Nat->V->Prop) ->(Nat->St->Hp->Prop) ->Prop}(more:Nat->List Addr)(hmore:∀a,∀b∈more a,a<b)
  (hc:X.calm=true)(hroom:X.A.depth<recursionLimit)(hi:PI X tg iter wi)(Bk:rA sc.names X.env.scope.names own N2 X.N)(hk:sc.kind= .function)(hco:sc.isCoroutine=false)(hnc:∀y∈sc.names,y.2≠ .cell)(Qa:sc.names.lookup (".0":Str)=some NameKind.local)
  (hcd:fW X.K X.env.code P)(bm:BM X.mg X.base)
  (hs:∀x,genFold iter X.env x=pure x)
  (Qc:∀code s H fp it JN J,Turn X.prog X.w X.K tg J fp it JN->(∀b∈fp,H b=none) ->Rd J H-> ∃cnt R W tn,F cnt R W/\W 0 (List.replicate own.length none++σ) H/\(∀h,JN 0 h↔tn 0 h)/\(∀i h h',tn i h->(∀b∈fp,∀o,h.get? b=some o->h'.get? b=some o) ->tn i h')/\
   ∀Ss:List Addr,(∀b∈fp,b∉Ss) -> ∀s'':Shared,(∀b∈Ss,∃o,s''.heap.get? b=some o) ->Inv (X.gen X.A.in1.in1 sc (own++N2) code s H fp) (cO Ss s''.heap) (List.replicate own.length none++σ) H s''->JN 0 s''.heap->
    Seg (model X.prog X.w) X.A.in1.in1 (Ir X X.A.in1.in1 sc (own++N2) code s H fp Ss cnt W) (xj X X.A.in1.in1 sc (own++N2) code s H fp Ss tn cnt R W) cnt s'' (.compStart (.GeneratorExp elt (⟨tg,iter,ifs,0⟩::cls) sc pos) 0 (.ref it) .none (X.gen X.A.in1.in1 sc (own++N2) code s H fp).env)
     ((model X.prog X.w).den (.compStart (.GeneratorExp elt (⟨tg,iter,ifs,0⟩::cls) sc pos) 0 (.ref it) .none (X.gen X.A.in1.in1 sc (own++N2) code s H fp).env)) [] s'')
  (I0:Inv X pins σ H0 s0)(h:wi σ H0 λJ H=>H P=some (dH P)/\Rd J H):
  wpAny (model X.prog X.w) X.A (eval (.GeneratorExp elt (⟨tg,iter,ifs,0⟩::cls) sc pos) X.env) (λu s5=> ∃a cnt R W sC HC fp code tn,u= .ref a/\s5.heap.objs.size=a+1/\
   Ad X X.A.in1.in1 sc (own++N2) code sC HC fp (a::more a) tn cnt R W a 0 s5/\Inv X pins σ HC sC/\(∀b∈fp,fV X pins HC b)/\sC.heap.objs.size<a/\(∀b∈fp,b<sC.heap.objs.size)/\(∀i h h',tn i h->(∀b∈fp,∀o,h.get? b=some o->h'.get? b=some o) ->tn i h')/\F cnt R W) X.xe s0:=by
 refine jV hco (sJ I0 Bk) hnc Qa hk hroom ?_ hs
 refine wpAny_mono (hi pins s0 σ H0 _ I0 h) (λxv s1 h1=>wpAny_mono h1 (λitv s2 h2=> ?_) λ_ _ e=>e) λ_ _ e=>e
 obtain⟨it,fp,JN,J,H,e,I,T,st,hf,hP,TL⟩:=h2
 subst e
 refine⟨I.Ce,Ak I hcd hP λcode h3 Rx I3 ext=> ?_⟩
 obtain⟨OB,ob,b1,b2,b3,b4,b5,b6⟩:=bm
 refine wpAny_builtinsFor (m:=X.mg) (by rw[I3.ok.glob];exact I3.mod.glob.keeps I3.bk) b1 b2 (I3.bk _ _ b3) b4 b5 b6 ?_
 intro h' hn' hs'
 have st3:JN 0 h3:=T.keep _ _ _ st λb hb o e=>ext b o (λz=>by have:=(hf b hb).1;rw[z,hP]at this;cases this) e
 have Qd:∀b∈fp,∃o,h3.get? b=some o:=λb hb=>let⟨o,e,_⟩:=T.obj 0 _ st3 b hb;⟨o,e⟩
 have JO:∀b o,h3.get? b=some o->h'.get? b=some o:=λb o e=>hs'.extBut b o (Nat.ne_of_lt (Heap.lt_size e)) (Heap.get?_push_of_some _ e)
 have sz':h'.objs.size=h3.objs.size+1:=by rw[hs'.1,Heap.size_push]
 have IG:=λ(hx:Heap)(tk:Nat)(m:Str->Option Value)(hn:hx.Ns h3.objs.size m)(kp:∀b o,h3.get? b=some o->hx.get? b=some o)=>
  Iq (B:=X.A.in1.in1) (code:=code) (fp:=fp) (h':=hx) (tk:=tk) I3 Bk hk hnc hf Qd I3.ok.frames (I3.ok.hd hc) hn kp
 obtain⟨cnt,R,W,tn,hF,w0,Ry,FD,sg⟩:=Qc code {s2 with heap:=h3,toks:=Rx} H fp it JN J T (λb hb=>(hf b hb).1) TL
 refine⟨h'.objs.size,cnt,R,W,{s2 with heap:=h3,toks:=Rx},H,fp,code,tn,rfl,by rw[Heap.size_push],⟨⟨_,_,_,Heap.get?_push_size _ rfl,rfl,rfl,rfl⟩,.fresh _,[],List.replicate own.length none++σ,H,(λ_ h=>nomatch h),Array.getElem?_push_size ..,rfl,?_,?_,λb hb=>(hf b hb).1,w0,?_⟩,I3,hf,by show h3.objs.size<h'.objs.size;omega,λb hb=>let⟨o,e⟩:=Qd b hb;Heap.lt_size e,FD,hF⟩
 ·have eg:(s2.gens.push (GenState.fresh (.compStart (.GeneratorExp elt (⟨tg,iter,ifs,0⟩::cls) sc pos) 0 (.ref it) .none (genEnv sc (b9 X.env sc.names []) h3.objs.size code builtinsNs X.env)))).setIfInBounds s2.gens.size .running=s2.gens.push .running:=by
   apply Array.ext_getElem?
   intro i
   by_cases e:s2.gens.size=i
   ·subst e
    rw[Array.getElem?_setIfInBounds_self_of_lt (by simp)]
    simp
   ·rw[Array.getElem?_setIfInBounds_ne e,Array.getElem?_push,Array.getElem?_push]
    simp[Ne.symm e]
  simp only[Shared.setGen]
  rw[eg,List.append_nil]
  refine Inv.je (pins:=[]) (IG _ _ _ (hn'.push _) (λb o e=>Heap.get?_push_of_some _ (JO b o e))) λp hp=> ?_
  obtain⟨q1,q2⟩:=jl hp
  have ep:p.1=h'.objs.size:=by
   rcases List.mem_cons.mp q1 with z|z
   ·exact z
   ·have l1:=hmore _ _ z
    have l2:=Heap.lt_size q2
    rw[Heap.size_push]at l2
    exact absurd (Nat.lt_of_lt_of_le l1 (Nat.le_of_lt_succ l2)) (Nat.lt_irrefl _)
  have big:h3.objs.size<=p.1:=by rw[ep,sz'];exact Nat.le_succ _
  have Ll:h3.objs.size<p.1:=by rw[ep,sz'];exact Nat.lt_succ_self _
  refine⟨q2,I3.hok.fresh big,Nat.ne_of_gt Ll,λz=> ?_,λv=> ?_⟩
  ·rcases List.mem_cons.mp (I3.sR p.1 z)with y|y
   ·have l:X.env.locals<h3.objs.size:=I3.lt
    rw[y]at Ll
    exact absurd (Nat.lt_trans l Ll) (Nat.lt_irrefl _)
   ·exact I3.MO big y
  ·rw[ep]at q2
   rw[Heap.get?_push_size _ rfl]at q2
   intro z
   rw[<-Option.some.inj q2]at z
   cases z
 ·exact(Ry _).1 (T.keep _ _ _ st3 λb hb o e=>Heap.get?_push_of_some _ (JO b o e))
 ·intro s'' Qe Lj st''
  rw[List.append_nil]at Lj
  refine⟨rfl,?_⟩
  rw[Nat.sub_zero]
  refine sg _ (λb hb z=> ?_) s'' Qe Lj ((Ry _).2 st'')
  have l:b<h3.objs.size:=let⟨o,e⟩:=Qd b hb;Heap.lt_size e
  rcases List.mem_cons.mp z with y|y
  ·rw[y,sz']at l
   exact absurd (Nat.lt_of_succ_lt l) (Nat.lt_irrefl _)
  ·have l2:=hmore _ _ y
   rw[sz']at l2
   exact absurd (Nat.lt_trans (Nat.lt_trans l (Nat.lt_succ_self _)) l2) (Nat.lt_irrefl _)
theorem Cf{pins:List (Addr×Obj)}{σ:St}{H0:Hp}{s0:Shared}{F:Nat->(Nat->V->Prop) ->(Nat->St->Hp->Prop) ->Prop}(more:Nat->List Addr)(hmore:∀a,∀b∈more a,a<b)
  (hc:X.calm=true)(hroom:X.A.depth<recursionLimit)(hi:PI X tg iter wi)(Bk:rA sc.names X.env.scope.names own N2 X.N)(hk:sc.kind= .function)(hco:sc.isCoroutine=false)(hnc:∀y∈sc.names,y.2≠ .cell)(Qa:sc.names.lookup (".0":Str)=some NameKind.local)
  (hcd:fW X.K X.env.code P)(bm:BM X.mg X.base)
  (hg:∀code s H fp,PG (X.gen X.A.in1.in1 sc (own++N2) code s H fp) tg g)(he:∀code s H fp,PE (X.gen X.A.in1.in1 sc (own++N2) code s H fp) elt te)
  (hs:∀x,genFold iter X.env x=pure x)(I0:Inv X pins σ H0 s0)(h:wi σ H0 λJ H=>H P=some (dH P)/\vP own.length g te σ F J H):
  wpAny (model X.prog X.w) X.A (eval (.GeneratorExp elt [⟨tg,iter,[],0⟩] sc pos) X.env) (λu s5=> ∃a cnt R W sC HC fp code tn,u= .ref a/\s5.heap.objs.size=a+1/\
   Ad X X.A.in1.in1 sc (own++N2) code sC HC fp (a::more a) tn cnt R W a 0 s5/\Inv X pins σ HC sC/\(∀b∈fp,fV X pins HC b)/\sC.heap.objs.size<a/\(∀b∈fp,b<sC.heap.objs.size)/\(∀i h h',tn i h->(∀b∈fp,∀o,h.get? b=some o->h'.get? b=some o) ->tn i h')/\F cnt R W) X.xe s0:=
 Fz (cls:=[]) (Rd:=λJ H=>vP own.length g te σ F J H) more hmore hc hroom hi Bk hk hco hnc Qa hcd bm hs (λcode s H fp it JN J T hfr ⟨cnt,R,W,w0,turn,stop,hF⟩=>
  ⟨cnt,R,W,JN,hF,w0,λ_=>Iff.rfl,T.keep,λSs hd s'' _ Lj st''=>Fy hco hc T (hg code s H fp) (he code s H fp) hd turn stop w0 Lj st'' hfr⟩) I0 h
end
section
variable{X:Cx}{B:Around}{sc:Scope}{N':List Str}{code:Value}{sC:Shared}{HC:Hp}{fp:List Addr}{tn:Nat->Heap->Prop}{cnt:Nat}{R:Nat->V->Prop}{W:Nat->St->Hp->Prop}{a S:Addr}{i:Nat}{s:Shared}
theorem Ad.frame{h':Heap}{tk:Nat}{o':Obj}(G:Ad X B sc N' code sC HC fp [a,S] tn cnt R W a i s)(JP:a≠S)(hC:sC.heap.objs.size<S)(hfp:∀b∈fp,b≠S)
  (FD:∀i h h',tn i h->(∀b∈fp,∀o,h.get? b=some o->h'.get? b=some o) ->tn i h')(hS:(∃o,s.heap.get? S=some o)∨s.heap.objs.size<=S)
  (keep:∀b o,b≠S->s.heap.get? b=some o->h'.get? b=some o)(e':h'.get? S=some o')(nc:∀v,o'.data≠ .cell v):
  Ad X B sc N' code sC HC fp [a,S] tn cnt R W a i {s with heap:=h',toks:=tk}:=by
 obtain⟨gs,pl,σ',H',hpl,e1,e2,I,st,fr,w,go⟩:=G.ex
 have I1:Inv (X.gen B sc N' code sC HC fp) (cO [a] s.heap++pl) σ' H' (s.setGen sC.gens.size .running):=I.je λp hp=>by
  rcases List.mem_append.mp hp with hp|hp
  ·obtain⟨q1,q2⟩:=jl hp
   exact I.pin p (List.mem_append_right _ (List.mem_append_left _ (dU (fp:=[a,S]) (by rw[List.mem_singleton.mp q1];simp) q2)))
  ·exact I.pin p (List.mem_append_right _ (List.mem_append_right _ hp))
 have TM:S∉(X.gen B sc N' code sC HC fp).fs:=λhb=>by
  obtain⟨_,o,ho,_⟩:=I.ok.rP.mem hb
  exact absurd (Nat.lt_trans (Heap.lt_size ho) hC) (Nat.lt_irrefl _)
 have ea:∃oa,s.heap.get? a=some oa:=let⟨o,_,_,q,_⟩:=G.gen;⟨o,q⟩
 obtain⟨oa,ea⟩:=ea
 have I2:Inv (X.gen B sc N' code sC HC fp) (cO [a] s.heap++pl) σ' H' {s.setGen sC.gens.size .running with heap:=h',toks:=tk}/\H' S=none:=by
  rcases hS with⟨o,eo⟩|hS
  ·have pS:=I.pin (S,o) (List.mem_append_right _ (List.mem_append_left _ (dU (fp:=[a,S]) (by simp) eo)))
   refine⟨I1.turned (it:=S) (h':=h') (t':=tk) keep pS.2.1 (Nat.ne_of_gt hC) (.inr (Nat.le_of_lt hC)) (λy c hc z=> ?_) (λp hp z=> ?_),pS.2.1⟩
   ·obtain⟨v,oc,q1,q2⟩:=I.cell y c hc
    rw[z]at q1
    have Rz:s.heap.get? S=some oc:=q1
    rw[eo]at Rz
    have q3:o=oc:=Option.some.inj Rz
    exact pS.2.2.2.2 v (by rw[q3];exact q2)
   ·have iK:p∈cO [a] s.heap++pl:=hp
    rcases List.mem_append.mp iK with iK|iK
    ·exact JP (by rw[<-z,List.mem_singleton.mp (jl iK).1])
    ·exact hpl p iK (by rw[z];simp)
  ·refine⟨I1.kept (h':=h') (t':=tk) λb o e=>keep b o (λz=> ?_) e,I.hok.fresh hS⟩
   exact absurd (Nat.lt_of_lt_of_le (Heap.lt_size e) (by rw[z];exact hS)) (Nat.lt_irrefl _)
 obtain⟨I2,TN⟩:=I2
 refine⟨(let⟨o,nm,qn,q,r⟩:=G.gen;⟨o,nm,qn,keep a o JP q,r⟩),gs,pl,σ',H',hpl,e1,e2,I2.je λp hp=> ?_,FD _ _ _ st λb hb o e=>keep b o (hfp b hb) e,fr,w,go⟩
 refine(List.mem_append.mp hp).elim (λhp=> ?_) (λhp=>I2.pin p (List.mem_append_right _ (List.mem_append_right _ hp)))
 obtain⟨q1,q2⟩:=jl hp
 rcases List.mem_cons.mp q1 with z|z
 ·have q:=I2.pin (a,oa) (List.mem_append_right _ (List.mem_append_left _ (dU (fp:=[a]) (by simp) ea)))
  have Nu:h'.get? p.1=some p.2:=q2
  rw[z,keep a oa JP ea]at Nu
  have q3:oa=p.2:=Option.some.inj Nu
  have ep:p=(a,oa):=by rw[<-z,q3]
  rw[ep]
  exact q
 ·have z':p.1=S:=List.mem_singleton.mp z
  have Nu:h'.get? p.1=some p.2:=q2
  rw[z',e']at Nu
  have q3:o'=p.2:=Option.some.inj Nu
  refine⟨q2,by rw[z'];exact TN,by rw[z'];exact Nat.ne_of_gt hC,by rw[z'];exact TM,by rw[<-q3];exact nc⟩
end
section
variable{X:Cx}{sc:Scope}{N':List Str}{code:Value}{sC:Shared}{HC:Hp}{fp:List Addr}{tn:Nat->Heap->Prop}{cnt:Nat}{R:Nat->V->Prop}{W:Nat->St->Hp->Prop}{a S:Addr}{pins:List (Addr×Obj)}{σ:St}{Rr:Result->Shared->Prop}
theorem Du(IC:Inv X pins σ HC sC)(hf:∀b∈fp,fV X pins HC b)(hh:X.A.handled=none)(hroom:X.A.depth<recursionLimit)(JP:a≠S)(hC:sC.heap.objs.size<S)(hfp:∀b∈fp,b≠S)
  (FD:∀i h h',tn i h->(∀b∈fp,∀o,h.get? b=some o->h'.get? b=some o) ->tn i h')(val:Nat->Int)(hval:∀i v,i<cnt->R i v->v= .int (val i)):∀(k i:Nat)(s:Shared)(tA:Tok)(c:Nat)(st:Int),(st=0∨st=2) ->cnt-i=k->i<=cnt->
  Ad X X.A.in1.in1 sc N' code sC HC fp [a,S] tn cnt R W a i s->s.heap.get? S=some {cls:= .type "list",dict:=none,data:= .seq #[.int (preSum val i) tA] c,slots:= #[]} ->
  (∀s' t' σ' H',Inv X pins σ H' s'->W cnt σ' H'->Rr (.ok (.ret (.int (preSum val cnt) t'))) s') ->codeAny (model X.prog X.w) X.A (.builtin "sum.loop" ⟨[.ref a,.ref S,rawInt st,rawInt 0],[]⟩) Rr s:=by
 intro k
 induction k with
 |zero=>
  intro i s tA c st hst hk hi G hS hR
  obtain rfl:i=cnt:=by omega
  refine codeAny_builtin PySem.F.entry_sum_loop (by
   rw[Around.under_plainId PySem.F.plain_sum_loop _]
   show wpAny _ X.A.in1 (seqItems? (.ref S)>>=_) _ _ s
   refine wpAny_bind (wpAny_seqItems hS rfl ?_)
   show wpAny _ X.A.in1 (tryCatch (pyNext (.ref a)) _>>=_) _ _ s
   have ex:∀b∈ [a,S],∃o,s.heap.get? b=some o:=λb hb=>by
    rcases List.mem_cons.mp hb with z|z
    ·obtain⟨o,_,_,q,_⟩:=G.gen;rw[z];exact⟨o,q⟩
    ·rw[List.mem_singleton.mp z];exact⟨_,hS⟩
   exact wpAny_bind (wpAny_tryCatch (G.done (D:=X.A.in1) IC hf hh hroom ex λs' σ' H' I' w'=>wpAny_pure (hR s' tA σ' H' I' w'))))
 |succ k ih=>
  intro i s tA c st hst hk hi G hS hR
  have hlt:i<cnt:=by omega
  have ex:∀b∈ [a,S],∃o,s.heap.get? b=some o:=λb hb=>by
   rcases List.mem_cons.mp hb with z|z
   ·obtain⟨o,_,_,q,_⟩:=G.gen;rw[z];exact⟨o,q⟩
   ·rw[List.mem_singleton.mp z];exact⟨_,hS⟩
  refine codeAny_builtin PySem.F.entry_sum_loop (by
   rw[Around.under_plainId PySem.F.plain_sum_loop _]
   show wpAny _ X.A.in1 (seqItems? (.ref S)>>=_) _ _ s
   refine wpAny_bind (wpAny_seqItems hS rfl ?_)
   show wpAny _ X.A.in1 (tryCatch (pyNext (.ref a)) _>>=_) _ _ s
   refine wpAny_bind (wpAny_tryCatch (G.item (D:=X.A.in1) hh hroom (by simp) ex hlt λv x s' rx Qg G' kp=> ?_))
   obtain rfl:=hval i x hlt Qg
   obtain⟨t,rfl⟩:=rx
   have hS':=kp S (by simp) _ hS
   have again:∀(h':Heap)(tk:Nat)(c':Nat)(tB:Tok)(st':Int),(st'=0∨st'=2) ->(∀b o,b≠S->s'.heap.get? b=some o->h'.get? b=some o) ->h'.get? S=some {cls:= .type "list",dict:=none,data:= .seq #[.int (preSum val i+val i) tB] c',slots:= #[]} ->
     codeAny (model X.prog X.w) X.A (.builtin "sum.loop" ⟨[.ref a,.ref S,rawInt st',rawInt 0],[]⟩) Rr {s' with heap:=h',toks:=tk}:=λh' tk c' tB st' Qh TQ e'=>
    ih (i+1) _ tB c' st' Qh (by omega) hlt (G'.frame JP hC hfp FD (.inl ⟨_,hS'⟩) TQ e' (λv z=>by cases z)) e' hR
   rcases hst with rfl|rfl
   ·show wpAny _ X.A.in1 (if(_:Bool)=true then(mkInt (preSum val i+val i)>>=_)else _) _ _ _
    split
    ·refine wpAny_bind (wpAny_mkInt ?_)
     show wpAny _ X.A.in1 (updateSeq S (λ_=> #[.int (preSum val i+val i) s'.toks])>>=_) _ _ _
     exact wpAny_bind (wpAny_updateSeq hS' rfl (wpAny_pure ⟨plainId_quiet PySem.F.plain_sum_loop _,again _ _ _ _ 0 (.inl rfl) (λb o hb e=>(Heap.get?_update_other _ _ (Ne.symm hb)).trans e) (Heap.get?_update_self _ hS' rfl)⟩))
    ·refine wpAny_bind (wpAny_rule (wpAny_bind (wpAny_attempt (wpAny_holding (wpAny_add_int ?_)))))
     show wpAny _ X.A.in1 (updateSeq S (λ_=> #[.int (preSum val i+val i) s'.toks])>>=_) _ _ _
     refine wpAny_bind (wpAny_updateSeq hS' rfl ?_)
     have Nv:=Heap.get?_update_self (Obj.mapSeq λ_=> #[Value.int (preSum val i+val i) s'.toks]) hS' rfl
     exact wpAny_bind (wpAny_letGo (wpAny_bind (wpAny_updateSeq Nv rfl (wpAny_pure ⟨plainId_quiet PySem.F.plain_sum_loop _,again _ _ _ _ 2 (.inr rfl) (λb o hb e=>(Heap.get?_update_other _ _ (Ne.symm hb)).trans ((Heap.get?_update_other _ _ (Ne.symm hb)).trans e)) (Heap.get?_update_self _ Nv rfl)⟩))))
   ·show wpAny _ X.A.in1 ((holding [Value.int (val i) t] (binaryOp .Add (.int (preSum val i) tA) (.int (val i) t))).attempt>>=_) _ _ _
    refine wpAny_bind (wpAny_attempt (wpAny_holding (wpAny_add_int ?_)))
    show wpAny _ X.A.in1 (updateSeq S (λ_=> #[.int (preSum val i+val i) s'.toks])>>=_) _ _ _
    refine wpAny_bind (wpAny_updateSeq hS' rfl ?_)
    have Nv:=Heap.get?_update_self (Obj.mapSeq λ_=> #[Value.int (preSum val i+val i) s'.toks]) hS' rfl
    exact wpAny_bind (wpAny_letGo (wpAny_bind (wpAny_updateSeq Nv rfl (wpAny_pure ⟨plainId_quiet PySem.F.plain_sum_loop _,again _ _ _ _ 2 (.inr rfl) (λb o hb e=>(Heap.get?_update_other _ _ (Ne.symm hb)).trans ((Heap.get?_update_other _ _ (Ne.symm hb)).trans e)) (Heap.get?_update_self _ Nv rfl)⟩)))))
theorem Dv{Q:Value->Shared->Prop}{E:Value->Shared->Prop}{s:Shared}(IC:Inv X pins σ HC sC)(hf:∀b∈fp,fV X pins HC b)(hh:X.A.handled=none)(hroom:X.A.depth<recursionLimit)(hsz:s.heap.objs.size=a+1)(hC:sC.heap.objs.size<a)(hlt:∀b∈fp,b<sC.heap.objs.size)
  (FD:∀i h h',tn i h->(∀b∈fp,∀o,h.get? b=some o->h'.get? b=some o) ->tn i h')(val:Nat->Int)(hval:∀i v,i<cnt->R i v->v= .int (val i))(G:Ad X X.A.in1.in1 sc N' code sC HC fp [a,a+1] tn cnt R W a 0 s)
  (hQ:∀s' t' σ' H',Inv X pins σ H' s'->W cnt σ' H'->Q (.int (preSum val cnt) t') s'):wpAny (model X.prog X.w) X.A (call (.builtin "sum") [.ref a]) Q E s:=by
 refine call_function_tree PySem.F.kind_sum PySem.F.plain_sum PySem.F.entry_sum (PySem.F.args_sum1 _) ?_
 unfold Builtin.«sum»
 simp only[List.length_cons,List.length_nil]
 rw[if_neg (by decide)]
 refine wpAny_bind (wpAny_of_eq (a:=[none]) rfl ?_)
 refine wpAny_bind (wpAny_pyIter_gen G.gen ?_)
 refine wpAny_bind (wpAny_mkInt (wpAny_bind (wpAny_pure ?_)))
 simp only[List.forIn_cons,List.forIn_nil]
 refine wpAny_bind (wpAny_bind (wpAny_bind (wpAny_isInstance (T:= "int") (b:=false) (typeIs_int _ _ _) PySem.sub_int_str ?_)))
 simp only[Bool.false_eq_true,if_false]
 refine wpAny_pure (wpAny_bind (wpAny_bind (wpAny_isInstance (T:= "int") (b:=false) (typeIs_int _ _ _) PySem.sub_int_bytes ?_)))
 simp only[Bool.false_eq_true,if_false]
 refine wpAny_pure (wpAny_bind (wpAny_bind (wpAny_isInstance (T:= "int") (b:=false) (typeIs_int _ _ _) PySem.sub_int_bytearray ?_)))
 simp only[Bool.false_eq_true,if_false]
 refine wpAny_pure (wpAny_pure (wpAny_bind (wpAny_newObj_type ?_)))
 have JP:a≠a+1:=Nat.ne_of_lt (Nat.lt_succ_self _)
 have Qi:sC.heap.objs.size<a+1:=Nat.lt_succ_of_lt hC
 have RA:∀b∈fp,b≠a+1:=λb hb=>Nat.ne_of_lt (Nat.lt_trans (hlt b hb) Qi)
 refine wpAny_pure ⟨plainId_quiet PySem.F.plain_sum_loop _,?_⟩
 have e0:({s with toks:=s.toks+1}:Shared).heap.objs.size=a+1:=hsz
 dsimp only
 rw[hsz]
 have eS:(s.heap.push {cls:= .type "list",dict:=none,data:= .seq #[Value.int 0 s.toks]}).get? (a+1)=some {cls:= .type "list",dict:=none,data:= .seq #[Value.int 0 s.toks]}:=by
  rw[<-hsz];exact Heap.get?_push_size _ rfl
 refine Du IC hf hh hroom JP Qi RA FD val hval cnt 0 _ s.toks 0 0 (.inl rfl) rfl (Nat.zero_le _) (G.frame JP Qi RA FD (.inr (Nat.le_of_eq hsz)) (λb o _ e=>Heap.get?_push_of_some _ e) eS (λv z=>by cases z)) eS λs' t' σ' H' I' w'=> ?_
 exact hQ s' t' σ' H' I' w'
end
theorem set_same{s:Shared}{g:Nat}{x y:GenState}(h:s.gens[g]?=some x):(s.setGen g y).setGen g x=s:=by
 obtain⟨hh,gens,d,t,os⟩:=s
 have hlt:g<gens.size:=by
  rcases Nat.lt_or_ge g gens.size with q|q
  ·exact q
  ·have z:gens[g]?=none:=Array.getElem?_eq_none q
   have h':gens[g]?=some x:=h
   rw[z]at h';cases h'
 have q:(gens.setIfInBounds g y).setIfInBounds g x=gens:=by
  apply Array.ext_getElem?
  intro i
  by_cases e:g=i
  ·subst e
   rw[Array.getElem?_setIfInBounds_self_of_lt (by simpa using hlt)]
   exact h.symm
  ·rw[Array.getElem?_setIfInBounds_ne e,Array.getElem?_setIfInBounds_ne e]
 show({heap:=hh,gens:=(gens.setIfInBounds g y).setIfInBounds g x,drawn:=d,toks:=t,os:=os}:Shared)=_
 rw[q]
section
variable{X:Cx}{sc:Scope}{N':List Str}{code:Value}{sC:Shared}{HC:Hp}{fp Ss:List Addr}{tn:Nat->Heap->Prop}{cnt:Nat}{R:Nat->V->Prop}{W:Nat->St->Hp->Prop}{a:Addr}{pins:List (Addr×Obj)}{σ:St}{Rr:Result->Shared->Prop}
theorem Ad.out{B:Around}{i:Nat}{s:Shared}(G:Ad X B sc N' code sC HC fp Ss tn cnt R W a i s)(IC:Inv X pins σ HC sC)(hf:∀b∈fp,fV X pins HC b):∃σ' H',Inv X pins σ H' s/\W i σ' H':=by
 obtain⟨gs,pl,σ',H',hpl,e1,e2,I,st,fr,w,go⟩:=G.ex
 have q:=Inv.JM (gs:=gs) IC hf e2 I
 rw[set_same e1]at q
 exact⟨σ',H',q,w⟩
theorem Dw(IC:Inv X pins σ HC sC)(hf:∀b∈fp,fV X pins HC b)(hh:X.A.handled=none)(hroom:X.A.depth<recursionLimit)(bv:Nat->Bool)(hval:∀i v,i<cnt->R i v->v= .bl (bv i)):∀(k i:Nat)(s:Shared),cnt-i=k->i<=cnt->
  Ad X X.A.in1.in1 sc N' code sC HC fp [a] tn cnt R W a i s->(∀j,j<i->bv j=true) ->
  ((∀j,j<cnt->bv j=true) -> ∀s' σ' H',Inv X pins σ H' s'->W cnt σ' H'->Rr (.ok (.ret (.bool true))) s') ->
  (∀j,j<cnt->bv j=false->(∀l,l<j->bv l=true) -> ∀s' σ' H',Inv X pins σ H' s'->W (j+1) σ' H'->Rr (.ok (.ret (.bool false))) s') ->codeAny (model X.prog X.w) X.A (.builtin "all.loop" ⟨[.ref a],[]⟩) Rr s:=by
 intro k
 induction k with
 |zero=>
  intro i s hk hi G hp hT hF
  obtain rfl:i=cnt:=by omega
  have ex:∀b∈ [a],∃o,s.heap.get? b=some o:=λb hb=>by
   obtain⟨o,_,_,q,_⟩:=G.gen;rw[List.mem_singleton.mp hb];exact⟨o,q⟩
  refine codeAny_builtin PySem.F.entry_all_loop (by
   rw[Around.under_plainId PySem.F.plain_all_loop _]
   show wpAny _ X.A.in1 (pyNext (.ref a)>>=_) _ _ s
   exact wpAny_bind (G.done (D:=X.A.in1) IC hf hh hroom ex λs' σ' H' I' w'=>wpAny_bind (wpAny_rule (wpAny_pure (hT hp s' σ' H' I' w')))))
 |succ k ih=>
  intro i s hk hi G hp hT hF
  have hlt:i<cnt:=by omega
  have ex:∀b∈ [a],∃o,s.heap.get? b=some o:=λb hb=>by
   obtain⟨o,_,_,q,_⟩:=G.gen;rw[List.mem_singleton.mp hb];exact⟨o,q⟩
  refine codeAny_builtin PySem.F.entry_all_loop (by
   rw[Around.under_plainId PySem.F.plain_all_loop _]
   show wpAny _ X.A.in1 (pyNext (.ref a)>>=_) _ _ s
   refine wpAny_bind (G.item (D:=X.A.in1) hh hroom (by simp) ex hlt λv x s' rx Qg G' kp=> ?_)
   obtain rfl:=hval i x hlt Qg
   cases rx
   refine wpAny_bind (wpAny_holding (wpAny_truthy_bool (wpAny_bind (wpAny_letGo ?_))))
   cases hb:bv i with
   |true=>
    simp only[if_true]
    exact wpAny_pure ⟨plainId_quiet PySem.F.plain_all_loop _,ih (i+1) _ (by omega) hlt G' (λj hj=>by
     rcases Nat.lt_or_ge j i with q|q
     ·exact hp j q
     ·rw[show j=i by omega];exact hb) hT hF⟩
   |false=>
    simp only[Bool.false_eq_true,if_false]
    obtain⟨σ',H',I',w'⟩:=G'.out IC hf
    exact wpAny_bind (wpAny_rule (wpAny_pure (hF i hlt hb hp s' σ' H' I' w'))))
theorem Dy{Q:Value->Shared->Prop}{E:Value->Shared->Prop}{s:Shared}(IC:Inv X pins σ HC sC)(hf:∀b∈fp,fV X pins HC b)(hh:X.A.handled=none)(hroom:X.A.depth<recursionLimit)(bv:Nat->Bool)(hval:∀i v,i<cnt->R i v->v= .bl (bv i))(G:Ad X X.A.in1.in1 sc N' code sC HC fp [a] tn cnt R W a 0 s)
  (hT:(∀j,j<cnt->bv j=true) -> ∀s' σ' H',Inv X pins σ H' s'->W cnt σ' H'->Q (.bool true) s')
  (hF:∀j,j<cnt->bv j=false->(∀l,l<j->bv l=true) -> ∀s' σ' H',Inv X pins σ H' s'->W (j+1) σ' H'->Q (.bool false) s'):wpAny (model X.prog X.w) X.A (call (.builtin "all") [.ref a]) Q E s:=by
 refine call_function_tree PySem.F.kind_all PySem.F.plain_all PySem.F.entry_all (PySem.F.args_all1 _) ?_
 unfold Builtin.«all»
 refine wpAny_bind (m:=oneArg "all" _) (wpAny_pure (wpAny_bind (wpAny_pyIter_gen G.gen ?_)))
 exact wpAny_pure ⟨plainId_quiet PySem.F.plain_all_loop _,Dw IC hf hh hroom bv hval cnt 0 s rfl (Nat.zero_le _) G (λj hj=>absurd hj (Nat.not_lt_zero _)) hT hF⟩
end
def FF(k:Nat)(P:Addr)(g:TG)(te:TE)(σ:St)(J:It)(H1:Hp)(Q:VK):Prop:=H1 P=some (dH P)/\vP k g te σ (λcnt R W=> ∃val:Nat->Int,(∀i v,i<cnt->R i v->v= .int (val i))/\ ∀σ' H',W cnt σ' H'->Q (.int (preSum val cnt)) H') J H1
def vQ(k:Nat)(P:Addr)(wi:TI)(g:TG)(te:TE):TE:=λσ H Q=>wi σ H λJ H1=>FF k P g te σ J H1 Q
def JQ(k:Nat)(P:Addr)(g:TG)(te:TE)(σ:St)(J:It)(H1:Hp)(Q:VK):Prop:=H1 P=some (dH P)/\vP k g te σ (λcnt R W=> ∃bv:Nat->Bool,(∀i v,i<cnt->R i v->v= .bl (bv i))/\
 ((∀j,j<cnt->bv j=true) -> ∀σ' H',W cnt σ' H'->Q (.bl true) H')/\(∀j,j<cnt->bv j=false->(∀l,l<j->bv l=true) -> ∀σ' H',W (j+1) σ' H'->Q (.bl false) H')) J H1
def JR(k:Nat)(P:Addr)(wi:TI)(g:TG)(te:TE):TE:=λσ H Q=>wi σ H λJ H1=>JQ k P g te σ J H1 Q
section
variable{X:Cx}{sc:Scope}{own N2:List Str}{elt iter tg:Expr}{iL p pos:Pos}{wi:TI}{g:TG}{te:TE}{P:Addr}
structure FG(X:Cx)(sc:Scope)(own N2:List Str)(P:Addr):Prop where
 calm:X.calm=true
 room:X.A.depth<recursionLimit
 Nx:rA sc.names X.env.scope.names own N2 X.N
 kind:sc.kind= .function
 co:sc.isCoroutine=false
 nc:∀y∈sc.names,y.2≠ .cell
 RB:sc.names.lookup (".0":Str)=some NameKind.local
 code:fW X.K X.env.code P
 bm:BM X.mg X.base
theorem Cg(K:FG X sc own N2 P)(FH:Gl X "sum")(hm:X.mg "sum"=none)(hi:PI X tg iter wi)
  (hg:∀code s H fp,PG (X.gen X.A.in1.in1 sc (own++N2) code s H fp) tg g)(he:∀code s H fp,PE (X.gen X.A.in1.in1 sc (own++N2) code s H fp) elt te)
  (hs:∀x,genFold iter X.env x=pure x:=by intro _;rfl)(hst:starEach [.GeneratorExp elt [⟨tg,iter,[],0⟩] sc iL] X.env=[(false,eval (.GeneratorExp elt [⟨tg,iter,[],0⟩] sc iL) X.env)]:=by rfl):
  PE X (.Call (.Name "sum" p) [.GeneratorExp elt [⟨tg,iter,[],0⟩] sc iL] [] pos) (vQ own.length P wi g te):=by
 intro pins s σ H Q I h
 refine wpAny_Call_Name_kw (kK I FH hm PyProof.Rows.boot_sum ?_)
 refine PyProof.Rows.callWith_builtin1 ?_ hst rfl
 rw[hst]
 refine Calls.spliced_cons (fX (Cf (pos:=iL) (λa=>[a+1]) (λa b hb=>by rw[List.mem_singleton.mp hb];exact Nat.lt_succ_self _) K.calm K.room hi K.Nx K.kind K.co K.nc K.RB K.code K.bm hg he hs I h) λu s5 h5=> ?_)
 obtain⟨a,cnt,R,W,sC,HC,fp,code,tn,rfl,hsz,G,IC,hf,hC,hlt,FD,val,hval,hq⟩:=h5
 exact Calls.spliced_nil (Dv IC hf (I.ok.hd K.calm) K.room hsz hC hlt FD val hval G λs' t' σ' H' I' w'=>⟨.int (preSum val cnt),H',I',⟨_,rfl⟩,hq σ' H' w'⟩)
theorem Iv(K:FG X sc own N2 P)(FH:Gl X "all")(hm:X.mg "all"=none)(hi:PI X tg iter wi)
  (hg:∀code s H fp,PG (X.gen X.A.in1.in1 sc (own++N2) code s H fp) tg g)(he:∀code s H fp,PE (X.gen X.A.in1.in1 sc (own++N2) code s H fp) elt te)
  (hs:∀x,genFold iter X.env x=pure x:=by intro _;rfl)(hst:starEach [.GeneratorExp elt [⟨tg,iter,[],0⟩] sc iL] X.env=[(false,eval (.GeneratorExp elt [⟨tg,iter,[],0⟩] sc iL) X.env)]:=by rfl):
  PE X (.Call (.Name "all" p) [.GeneratorExp elt [⟨tg,iter,[],0⟩] sc iL] [] pos) (JR own.length P wi g te):=by
 intro pins s σ H Q I h
 refine wpAny_Call_Name_kw (kK I FH hm PyProof.Rows.boot_all ?_)
 refine PyProof.Rows.callWith_builtin1 ?_ hst rfl
 rw[hst]
 refine Calls.spliced_cons (fX (Cf (pos:=iL) (λa=>[]) (λa b hb=>by cases hb) K.calm K.room hi K.Nx K.kind K.co K.nc K.RB K.code K.bm hg he hs I h) λu s5 h5=> ?_)
 obtain⟨a,cnt,R,W,sC,HC,fp,code,tn,rfl,hsz,G,IC,hf,hC,hlt,FD,bv,hval,hT,hF⟩:=h5
 exact Calls.spliced_nil (Dy IC hf (I.ok.hd K.calm) K.room bv hval G (λhb s' σ' H' I' w'=>⟨.bl true,H',I',rfl,hT hb σ' H' w'⟩) (λj hj hb hp s' σ' H' I' w'=>⟨.bl false,H',I',rfl,hF j hj hb hp σ' H' w'⟩))
end
section
variable{X:Cx}{B:Around}{sc:Scope}{N':List Str}{code:Value}{sC:Shared}{HC:Hp}{fp Ss:List Addr}{tn:Nat->Heap->Prop}{R:Nat->V->Prop}{W:Nat->St->Hp->Prop}
variable{elt iter tg Ci RC:Expr}{pos:Pos}{it:Addr}{J:It}{g g':TG}{te:TE}{OC:TI}{c1 c2:Nat}
end
section
variable{X:Cx}{B:Around}{sc:Scope}{N':List Str}{code:Value}{sC:Shared}{HC:Hp}{fp Ss:List Addr}{tn:Nat->Heap->Prop}{R:Nat->V->Prop}{W:Nat->St->Hp->Prop}
variable{elt iter tg Ci RC:Expr}{pos:Pos}{it:Addr}{J:It}{g g':TG}{te:TE}{OC:TI}{c1 c2:Nat}
end
section
variable{X:Cx}{sc:Scope}{own N2:List Str}{elt iter tg Ci RC:Expr}{iL p pos:Pos}{wi OC:TI}{g g':TG}{te:TE}{P:Addr}
end
mutual
inductive Cj(K:PySem.W.Frag)(H:Hp):V->PyData->Prop
 |jc:Cj K H .jc .none
 |bl(b:Bool):Cj K H (.bl b) (.bool b)
 |int(i:Int):Cj K H (.int i) (.int i)
 |str(x:Str):Cj K H (.str x) (.str x)
 |lst{a:Addr}{xs:List V}{ds:List PyData}:aP K H a xs->An K H xs ds->Cj K H (.ref a) (.list ds)
 |tup{a:Addr}{xs:List V}{ds:List PyData}:uJ K H a xs->An K H xs ds->Cj K H (.ref a) (.tuple ds)
inductive An(K:PySem.W.Frag)(H:Hp):List V->List PyData->Prop
 |nil:An K H [] []
 |cons{x:V}{d:PyData}{xs:List V}{ds:List PyData}:Cj K H x d->An K H xs ds->An K H (x::xs) (d::ds)
end
section
variable{X:Cx}{pins:List (Addr×Obj)}{σ:St}{H:Hp}{s:Shared}
mutual
theorem ki(I:Inv X pins σ H s):∀{x:V}{d:PyData}{u:Value},Cj X.K H x d->RelV x u-> ∃as,Reads s.heap u d as
 |_,_,_,.jc,r=>by cases r;exact⟨_,.none⟩
 |_,_,_,.bl b,r=>by cases r;exact⟨_,.bool b⟩
 |_,_,_,.int i,r=>by obtain⟨t,rfl⟩:=r;exact⟨_,.int i t⟩
 |_,_,_,.str x,r=>by obtain⟨t,rfl⟩:=r;exact⟨_,.str x t⟩
 |_,_,_,.lst hq hs,r=>by
  cases r
  obtain⟨its,rv,⟨o,n,e,c,_,dd⟩,_⟩:=I.list hq
  obtain⟨as,q⟩:=mq I hs rv
  exact⟨_,.list e c dd (by simpa using q)⟩
 |_,_,_,.tup hq hs,r=>by
  cases r
  obtain⟨its,rv,⟨o,e,c,n,dd⟩,_⟩:=I.tuple hq
  obtain⟨as,q⟩:=mq I hs rv
  exact⟨_,.tuple e c dd (by simpa using q)⟩
theorem mq(I:Inv X pins σ H s):∀{xs:List V}{ds:List PyData}{us:List Value},An X.K H xs ds->Vals xs us-> ∃as,ReadsAll s.heap us ds as
 |_,_,_,.nil,r=>by cases r;exact⟨_,.nil⟩
 |_,_,_,.cons h t,r=>by
  cases r with
  |cons r1 r2=>
   obtain⟨as,q1⟩:=ki I h r1
   obtain⟨bs,q2⟩:=mq I t r2
   exact⟨_,.cons q1 q2⟩
end
end
def Ny(K:PySem.W.Frag)(neg:Bool):R2:=λx y H Q=> ∃da db,Cj K H x da/\Cj K H y db/\SeqAt.shaped da=true/\SeqAt.shaped db=true/\Q (.bl (if neg then !PyData.eqv da db else PyData.eqv da db)) H
section
variable{X:Cx}
theorem Lm(hu:X.A.units+64<cLine):rQ X (compareOp .Eq) (Ny X.K false):=by
 intro pins s σ H x y v u Q I rx ry h
 obtain⟨da,db,h1,h2,s1,s2,q⟩:=h
 obtain⟨as,r1⟩:=ki I h1 rx
 obtain⟨bs,r2⟩:=ki I h2 ry
 exact eq_dataH r1 r2 s1 s2 hu ⟨.bl _,H,I,rfl,q⟩
theorem eW:pC X (.builtin "isinstance") (λxs H Q=> ∃x n t b,xs=[x,.ty n]/\nQ X.K H x t/\PySem.W.kitOne X.K t (.type n)=some b/\Q (.bl b) H):=by
 intro pins s σ H xs us Q I r h
 obtain⟨x,n,t,b,rfl,ty,e,q⟩:=h
 cases r with
 |cons r1 r2=>
  cases r2 with
  |cons r2 r3=>
   cases r3
   cases r2
   exact Dl I r1 ty e λtk=>⟨.bl b,H,I.tok _,rfl,q⟩
end
abbrev FI(r:List Int):PyData:= .list (r.map .int)
abbrev Ln(m:List (List Int)):PyData:= .list (m.map FI)
theorem rB:∀m:List (List Int),PyData.canLayAll0 (m.map FI)=true
 | []=>rfl
 |r::m=>by simp[PyData.canLayAll0,PyData.canLay0,PySem.W.ke_canLayAll0,rB m]
theorem tD:∀m:List (List Int),PyData.depthAll (m.map FI)<=1
 | []=>by simp[PyData.depthAll]
 |r::m=>by
  have:=tD m
  simp only[List.map_cons,PyData.depthAll,PyData.depth,PySem.W.ke_depthAll]
  omega
theorem Ao(m:List (List Int)):SeqAt.shaped (Ln m)=true:=by
 have q:=tD m
 simp only[SeqAt.shaped,PyData.canLay0,PyData.depth,rB,Bool.true_and,decide_eq_true_eq]
 exact decide_eq_true (show PyData.depthAll (m.map FI)+1<=64 by omega)
theorem nW(r:List Int):SeqAt.shaped (FI r)=true:=PySem.W.ke_shaped_ints r
structure Lo(tz:Addr->HO):Prop where
 new:∀{P:Program}{w:World}{H:Hp}{h:Heap}{T:Addr},h.get? T=some {cls:= .none,data:= .fields #[]} ->eV P w H h T (tz T)
 get:∀{P:Program}{w:World}{H:Hp}{h:Heap}{T:Addr},eV P w H h T (tz T) -> ∃ps:Array Value,h.get? T=some {cls:= .none,data:= .fields ps}
theorem Ck:Lo dH:=⟨λe=>Fp e (by simp[TriplesOk]),λh=>let⟨⟨ps,e,_⟩,_⟩:=h;⟨ps,e⟩⟩
theorem Lp(gj:List Addr):Lo (λT=>if T∈gj then .yz else dH T):=by
 refine⟨λ {P w H h T} e=> ?_,λ {P w H h T} x=> ?_⟩
 ·by_cases c:T∈gj
  ·rw[if_pos c]
   exact⟨#[],e,trivial,λpos cv z=>nomatch z⟩
  ·rw[if_neg c]
   exact Ck.new e
 ·by_cases c:T∈gj
  ·rw[if_pos c]at x
   obtain⟨ps,e,_⟩:=x
   exact⟨ps,e⟩
  ·rw[if_neg c]at x
   exact Ck.get x
theorem Dz{P:Program}{w:World}{K:PySem.W.Frag}{mg mb:Str->Option Value}{k:Nat}{fa a:Addr}{fd:FuncData}{x:Str}{sp:Sp}{s₁:Shared}{vs:List Value}{ns:List Int}{tabs:List Addr}{tz:Addr->HO}(TZ:Lo tz)
  (KX:K.In s₁.heap)(hns:s₁.heap.Ns mainGlobals mg)(hb:s₁.heap.Ns builtinsNs mb)(TR:∀x:Str,x≠ "__name__" ->mb x=bootBuiltins x)(hlim:s₁.heap.NoLimit)(hbm:BM mg s₁.heap)(hg:s₁.gens= #[])
  (htab:∀T∈tabs,isCodeTable s₁.heap T/\s₁.heap.get? T=some {cls:= .none,data:= .fields #[]})
  (ha:s₁.heap.get? a=some {cls:= .type "list",data:= .seq vs.toArray})(hi:IntsAre vs ns)(hl:ns.length<=sizeLine)(hr:eU k callerA)(hcl:PySem.W.kb_classed K=true)
  (F:∀base:Heap,K.In base->base.Ns mainGlobals mg->BM mg base->pD P w K mg base cP k fa fd [x] sp)(hbind:∀(s:Shared)(u:Value),BindsTo s fd ⟨[u],[]⟩ [(x,u)])
  (HN:∀H:Hp,(∀T∈tabs,H T=some (tz T)) ->aP K H a (ns.map V.int) ->sp [.ref a] H (λv H'=>v= .bl true/\ ∀T∈tabs,H' T=some (tz T)) λ_ _ _=>False):
  codeAny (model P w) callerA (.call (.ref fa) ⟨[.ref a],[]⟩) (λr s'=>r= .ok (.ret (.bool true))/\OldK s₁.heap s'.heap/\s'.os=s₁.os/\AllBare s'.gens) s₁:=by
 have rv:=vN hi
 have Qj:=hi.length
 have RD:a∉tabs:=λz=>by
  have e:=(htab a z).2
  rw[ha]at e
  cases e
 have core:∀H:Hp,(∀T∈tabs,H T=some (tz T)) ->(∀b u,H b=some u->b∈tabs∨(b=a/\ ∃o xs,u= .wM o (.lst xs))) ->aP K H a (ns.map V.int) ->su P w H s₁.heap->(H a≠none->K.lookup a=none) ->
   codeAny (model P w) callerA (.call (.ref fa) ⟨[.ref a],[]⟩) (λr s'=>r= .ok (.ret (.bool true))/\OldK s₁.heap s'.heap/\s'.os=s₁.os/\AllBare s'.gens) s₁:=by
  intro H hT hO hS hok hK
  have free:∀{b:Addr}{o:Obj},s₁.heap.get? b=some o->o.cls≠ .none->b≠a->H b=none:=λ {b o} e hc hba=>by
   cases q:H b with
   |none=>rfl
   |some u=>
    rcases hO b u q with z|⟨z,_⟩
    ·have e':=(htab b z).2
     rw[e]at e'
     cases e'
     exact absurd rfl hc
    ·exact absurd z hba
  have xm:∀{b:Addr}{o:Obj},s₁.heap.get? b=some o->H b=none->(uM s₁.heap H).get? b=some o:=λe n=>EO e n
  have Qk:∀{b:Addr}{o:Obj}{es:Array DictEntry}{ep:Nat},s₁.heap.get? b=some o->o.data= .dict es ep->H b=none:=λ {b o es ep} e d=>by
   cases q:H b with
   |none=>rfl
   |some u=>
    rcases hO b u q with z|⟨z,_⟩
    ·have e':=(htab b z).2
     rw[e]at e'
     cases e'
     cases d
    ·rw[z,ha]at e
     cases e
     cases d
  have OD:∀{b:Addr}{m:Str->Option Value},s₁.heap.Ns b m->(uM s₁.heap H).Ns b m:=λ {b m} ⟨o,es,ep,e,d,r⟩=>⟨o,es,ep,xm e (Qk e d),d,r⟩
  have RE:K.In (uM s₁.heap H):=λb o e=>xm (KX b o e) (by
   by_cases hba:b=a
   ·cases q:H b with
    |none=>rfl
    |some u=>
     subst hba
     rw[hK (by rw[q];simp)]at e
     cases e
   ·have q:=List.all_eq_true.mp hcl (b,o) (PySem.W.kb_mem e)
    simp only[Bool.or_eq_true,decide_eq_true_eq,beq_iff_eq]at q
    rcases q with(q|q)|q
    ·exact free (KX b o e) q hba
    ·obtain⟨mc,⟨oc,es,ep,z1,z2,_⟩,_⟩:=hlim
     rw[q];exact Qk z1 z2
    ·obtain⟨oc,es,ep,z1,z2,_⟩:=hns
     rw[q];exact Qk z1 z2)
  have hM:Mod K mg (uM s₁.heap H):=⟨RE,OD hns,⟨mb,OD hb,TR⟩,let⟨mc,h1,h2⟩:=hlim;⟨mc,OD h1,h2⟩⟩
  have TU:BM mg (uM s₁.heap H):=by
   obtain⟨bm,ob,q1,q2,q3,q4,q5,q6⟩:=hbm
   refine⟨bm,ob,q1,q2,xm q3 (free q3 (by rw[q4];simp) λz=> ?_),q4,q5,q6⟩
   rw[z,ha]at q3
   rw[<-Option.some.inj q3]at q4
   exact absurd q4 (by simp)
  have e0:Ih P w K mg (uM s₁.heap H) callerA [] s₁ H:=⟨rfl,hM,λb o e=>HV e,Nat.le_of_eq (Dc _ _),trivial,λb hb=>absurd (show b∈([]:List Addr)from hb) (by simp),hok,.of_eq hg⟩
  refine codeAny_mono ((F _ RE (OD hns) TU).run callerA [] s₁ H ⟨[.ref a],[]⟩ [.ref a] [.ref a] _ _ hr e0 (hbind s₁ (.ref a)) (.cons rfl .nil) (HN H hT hS)) λr s' h=> ?_
  cases r with
  |error e=>exact False.elim h
  |ok fl=>
   cases fl with
   |next=>exact False.elim h
   |brk=>exact False.elim h
   |cont=>exact False.elim h
   |ret u=>
    obtain⟨v,H',os,bare,un,Nz,r',q⟩:=h
    obtain⟨q',TV⟩:=q
    have q':v= .bl true:=q'
    subst q'
    obtain rfl:u=Value.bool true:=r'
    refine⟨rfl,⟨λb o e=> ?_,λb o e=>un.there b o e (by simp)⟩,os,bare.bare⟩
    cases q:H b with
    |none=>exact .inl (un.keep b o e q (by intro z;exact absurd (show b∈([]:List Addr)from z) (by simp)) (by simp))
    |some u=>
     rcases hO b u q with z|⟨z,ob,xs,eu⟩
     ·obtain⟨ct,e'⟩:=htab b z
      obtain⟨ps,ep⟩:=TZ.get (Nz b _ (TV b z))
      rw[e]at e'
      cases e'
      exact .inr (.inl ⟨ct,rfl, #[],ps,rfl,by simpa using ep⟩)
     ·subst eu
      have z2:=un.qa b ob _ q
      obtain⟨e1,_⟩:=hok b _ q
      obtain⟨e2,_⟩:=Nz b _ z2
      rw[e]at e1;cases e1
      exact .inl e2
 have RG:∀(H:Hp)(T:Addr),T∈tabs->eV P w H s₁.heap T (tz T):=λH T hT=>TZ.new (htab T hT).2
 cases hk:K.lookup a with
 |some o=>
  have e:=KX a o hk
  rw[ha]at e
  cases e
  refine core (λb=>if b∈tabs then some (tz b)else none) (λT hT=>if_pos hT) (λb u z=> ?_) (.inr ⟨_,vs.toArray,_,hk,rfl,rfl,rfl,by rw[List.size_toArray,Qj];exact hl,by simpa using rv⟩) (λb u z=> ?_) (λz=>absurd (if_neg RD) z)
  ·by_cases hb:b∈tabs
   ·exact .inl hb
   ·have z':=(if_neg hb).symm.trans z;cases z'
  ·by_cases hb:b∈tabs
   ·have z':=(if_pos hb).symm.trans z;cases z';exact RG _ b hb
   ·have z':=(if_neg hb).symm.trans z;cases z'
 |none=>
  have q1:∀{b:Addr},b∈tabs->(if b=a then some (HO.wM {cls:= .type "list",data:= .seq vs.toArray} (.lst (ns.map V.int)))else if b∈tabs then some (tz b)else none)=some (tz b):=λ {b} hb=>by
   rw[if_neg (λ(z:b=a)=>RD (by rw[<-z];exact hb)),if_pos hb]
  refine core (λb=>if b=a then some (.wM {cls:= .type "list",data:= .seq vs.toArray} (.lst (ns.map V.int)))else if b∈tabs then some (tz b)else none) (λT hT=>q1 hT) (λb u z=> ?_) (.inl (.inr ⟨{cls:= .type "list",data:= .seq vs.toArray},if_pos rfl⟩)) (λb u z=> ?_) λ_=>hk
  ·by_cases hb:b=a
   ·have z':=(if_pos hb).symm.trans z
    cases z'
    exact .inr ⟨hb,_,_,rfl⟩
   ·by_cases hb2:b∈tabs
    ·exact .inl hb2
    ·have z':=((if_neg hb).trans (if_neg hb2)).symm.trans z;cases z'
  ·by_cases hb:b=a
   ·have z':=(if_pos hb).symm.trans z
    cases z'
    subst hb
    exact⟨ha,by rw[List.length_map];exact hl,vs,_,rv,ha⟩
   ·by_cases hb2:b∈tabs
    ·have z':=(q1 hb2).symm.trans z
     cases z'
     exact RG _ b hb2
    ·have z':=((if_neg hb).trans (if_neg hb2)).symm.trans z;cases z'
theorem Aq{p:Program}{loose:List Str}{mean:ExcName->Option Value}{mg mb:Str->Option Value}{h:Heap}(T:Top p loose mean mg mb h){d:DefRec}{x qual:Str}(hf:(recsOf p).find? (λe=>e.name==x)=some d){K:PySem.W.Frag}(KX:K.In h){f:Addr}
  (hm:mg x=some (.ref f)){oc:Value}{od:Option Addr}{sl:Array (Option Value)}{fd:FuncData}(l:K.lookup f=some ⟨oc,od,.func fd,sl⟩)(c:PySem.W.codeIn K fd.code qual=true):
  ∃P,fW K fd.code P/\isCodeTable h P/\h.get? P=some {cls:= .none,data:= .fields #[]}:=by
 have hn:d.name=x:=beq_iff_eq.mp (List.find?_some (p:=λe:DefRec=>e.name==x) hf)
 obtain⟨a',o',fd',cc,P,h1,h2,h3,h4,h5,h6⟩:=T.tab d (List.mem_of_find?_eq_some hf)
 rw[hn,hm]at h1;cases h1
 rw[KX f _ l]at h2;cases h2
 cases h3
 refine⟨P,?_,h6.isCodeTable,h6.2⟩
 obtain⟨o,vs,file,tf,flags,tg,Le,text,tt,op,ho,hd,h11,Nq,h7,h9,Lf,_⟩:=h5
 obtain⟨⟨o2,Vt,g1,g2,g3,g4⟩,_⟩:=h6
 rw[ho]at g1;cases g1
 rw[hd]at g3;cases g3
 rw[h4]at c
 cases q:K.lookup cc with
 |none=>unfold PySem.W.codeIn at c;simp[q]at c
 |some o3=>
  have e3:=KX cc o3 q
  rw[ho]at e3
  have e4:o=o3:=Option.some.inj e3
  subst e4
  exact⟨cc,o,vs,file,tf,flags,tg,Le,text,tt,h4,q,g2,hd,g4,Nq,h7,h9,Lf⟩
def tabOf(K:PySem.W.Frag)(f:Addr):Option Value:=match K.lookup f with
 |some ⟨_,_,.func fd,_⟩=>match fd.code with
  | .ref c=>match K.lookup c with
   |some o=>match o.data with
    | .fields vs=>vs[11]?
    |_=>none
   |none=>none
  |_=>none
 |_=>none
def FJ(K:PySem.W.Frag)(fs gs:List Addr):Bool:=fs.all λf=>gs.all λg=>tabOf K f !=tabOf K g
theorem yN{K:PySem.W.Frag}{f P:Addr}{oc:Value}{od:Option Addr}{sl:Array (Option Value)}{fd:FuncData}(l:K.lookup f=some ⟨oc,od,.func fd,sl⟩)(c:fW K fd.code P):tabOf K f=some (.ref P):=by
 obtain⟨cc,o,vs,_,_,_,_,_,_,_,e1,e2,e3,e4,e5,_⟩:=c.ex
 unfold tabOf
 rw[l]
 simp only[e1,e2,e4,e5]
theorem kj{K:PySem.W.Frag}{fs gs:List Addr}(h:FJ K fs gs=true){f g P Q:Addr}(hf:f∈fs)(hg:g∈gs)(a:tabOf K f=some (.ref P))(b:tabOf K g=some (.ref Q)):P≠Q:=λe=>by
 have h1:=List.all_eq_true.mp (List.all_eq_true.mp h f hf) g hg
 rw[a,b,e]at h1
 simp at h1
theorem FL{l:PySem.W.OpenLaw}{n k:Nat}{q:Program}{loose:List Str}{XP:(Str->Option Value) ->Heap->Prop}{YP:World->Heap->Prop}{d:DefRec}{K:Params->PySem.W.Frag}{x:Str}{sp:PySem.W.Frag->List Addr->List Addr->Sp}
  (hn:l.most=some n)(hn2:n<=sizeLine)(hdf:d.params.defaults=[])(hr:eU k callerA)
  (hY:∀(w:World)(h:Heap),YP w h->(K w.params).In h)
  (hcl:∀(w:World),PySem.W.kb_classed (K w.params)=true)
  (F:∀(w:World)(mg mb:Str->Option Value)(mean:ExcName->Option Value)(fa:Addr)(h:Heap),(K w.params).In h->Top q (PySem.W.looseW q loose) mean mg mb h->mg d.name=some (.ref fa) ->
   ∃(fd:FuncData)(tabs gj:List Addr),(∀(s:Shared)(u:Value),BindsTo s fd ⟨[u],[]⟩ [(x,u)])/\(∀T∈tabs++gj,isCodeTable h T/\h.get? T=some {cls:= .none,data:= .fields #[]})/\(∀T∈tabs,T∉gj)/\
    ∀base:Heap,(K w.params).In base->base.Ns mainGlobals mg->BM mg base->pD l.prog w (K w.params) mg base cP k fa fd [x] (sp (K w.params) tabs gj))
  (HN:∀(K:PySem.W.Frag)(tabs gj:List Addr)(H:Hp)(a:Addr)(ns:List Int),ns.length<=n->(∀T∈tabs,H T=some (dH T)) ->(∀T∈gj,H T=some .yz) ->aP K H a (ns.map V.int) -> ∀Q:VK,(∀H',ay H H'->Q (.bl true) H') ->sp K tabs gj [.ref a] H Q λ_ _ _=>False):
  PySem.W.WalkO q loose XP YP l.row.toRowW d [] (λf vs=>PySem.call f vs):=by
 refine Rv.yH hn hdf λw s₀ s₁ mg mb fa o pm cd doc a vs ns G Y ho hd hcd hmg hobj hints hlen hg=> ?_
 have KX:=hY w _ Y
 obtain⟨fd,tabs,gj,hb,ht,Fw,hF⟩:=F w mg mb _ fa _ KX G.T hmg
 have e1:∀T∈tabs,(if T∈gj then HO.yz else dH T)=dH T:=λT hT=>if_neg (Fw T hT)
 have e2:∀T∈gj,(if T∈gj then HO.yz else dH T)= .yz:=λT hT=>if_pos hT
 refine Dz (Lp gj) KX G.T.g G.T.b G.T.builtins G.T.nolimit G.T.bmain hg ht hobj hints (Nat.le_trans hlen hn2) hr (hcl w) hF hb (λH hO hS=> ?_)
 refine HN _ tabs gj H a ns hlen (λT hT=>by rw[hO T (List.mem_append_left _ hT),e1 T hT]) (λT hT=>by rw[hO T (List.mem_append_right _ hT),e2 T hT]) hS _ λH' s=>⟨rfl,λT hT=>s _ _ (hO T hT)⟩
theorem ay.up{H:Hp}{D:Addr}{o:HO}(h:H D=none):ay H (upd H D o):=λb u q=>by rw[aH (cX q h)];exact q
theorem ay.upd{H H':Hp}{D:Addr}{o:HO}(s:ay H H')(h:H D=none):ay H (upd H' D o):=λb u q=>by rw[aH (cX q h)];exact s b u q
theorem ay.none{H H':Hp}(s:ay H H'){D:Addr}(h:H' D=Option.none):H D=Option.none:=s.free h
theorem ay.TX{K:PySem.W.Frag}{H H':Hp}{a:Addr}{xs:List V}(e:ay H H')(h:uJ K H a xs):uJ K H' a xs:=by
 rcases h with(h|⟨o,h⟩)|h
 ·exact .inl (.inl (e _ _ h))
 ·exact .inl (.inr ⟨o,e _ _ h⟩)
 ·exact .inr h
theorem _root_.PySem.Paired.FN{α β:Type}{F F':α->β->Prop}:∀{l:List α}{m:List β},Paired F l m->(∀a b,b∈m->F a b->F' a b) ->Paired F' l m
 |_,_,.nil,_=> .nil
 |_,_,.cons h t,k=> .cons (k _ _ List.mem_cons_self h) (t.FN λa b hb q=>k a b (List.mem_cons_of_mem _ hb) q)
structure JW(J:It)(H1:Hp)(xs:List V):Prop where
 go:∀i H',ay H1 H'->i<xs.length->J.go i H'
 Ae:∀i H' x H2,ay H1 H'->i<xs.length->J.Ae i H' x H2->H2=H'/\xs[i]?=some x
 stop:∀H',ay H1 H'->J.stop xs.length H'
theorem jg{K:PySem.W.Frag}{H1:Hp}{a:Addr}{xs:List V}(h:aP K H1 a xs):JW (KH K a) H1 xs where
 go:=λi H' s hi=>⟨xs,xs[i],s.seq h,by simp[hi]⟩
 Ae:=λi H' x H2 s hi ⟨e,y⟩=>⟨e,y xs (s.seq h)⟩
 stop:=λH' s=>⟨xs,s.seq h,Nat.le_refl _⟩
def kQ(n:Nat):List V:=(List.range n).map λ(i:Nat)=>V.int (i:Int)
theorem fy{H1:Hp}{n:Nat}:JW (HM 0 n) H1 (kQ n) where
 go:=λi H' s hi=>by simpa [kQ,HM]using hi
 Ae:=λi H' x H2 s hi ⟨e,y⟩=>⟨e,by
  have hi':i<n:=by simpa [kQ]using hi
  subst y
  simp[kQ,hi']⟩
 stop:=λH' s=>by simp[kQ,HM]
theorem pH{J:It}{H1:Hp}{xs:List V}{σ:St}{te:TE}{Q:VK}(jw:JW J H1 xs)(hz:xs.length<=sizeLine){D:Addr}(hD:H1 D=none)(P:List V->List V->Hp->Prop)(h0:P [] [] (upd H1 D (.lst [])))
  (hs:∀pre x post acc H' (Q':VK),xs=pre++x::post->acc.length=pre.length->ay H1 H'->H' D=some (.lst acc) ->P pre acc H'->(∀v H4,ay H' H4->P (pre++ [x]) (acc++ [v]) (upd H4 D (.lst (acc++ [v]))) ->Q' v H4) ->te (some x::σ) H' Q')
  (hq:∀acc H',acc.length=xs.length->ay H1 H'->H' D=some (.lst acc) ->P xs acc H'->Q (.ref D) H'):
  ju 1 (dJ 0) te σ J H1 D Q:=by
 refine⟨λi m acc σ' H'=>m=xs.length-i/\i<=xs.length/\acc.length=i/\(∃o,σ'=o::σ)/\ay H1 H'/\H' D=some (.lst acc)/\P (xs.take i) acc H',⟨xs.length,rfl,Nat.zero_le _,rfl,⟨none,rfl⟩,ay.up hD,au,h0⟩,?_⟩
 rintro i m acc σ' H' ⟨rfl,hi,hl,⟨o,rfl⟩,sm,eD,p⟩
 by_cases hlt:i<xs.length
 ·refine .inr ⟨jw.go i H' sm hlt,by omega,λx H2 y=> ?_⟩
  obtain⟨rfl,ex⟩:=jw.Ae i H' x H2 sm hlt y
  have hx:xs[i]=x:=by rw[List.getElem?_eq_getElem hlt]at ex;exact Option.some.inj ex
  have sp:xs=xs.take i++x::xs.drop (i+1):=by
   rw[<-hx,<-List.drop_eq_getElem_cons hlt,List.take_append_drop]
  have tk:xs.take (i+1)=xs.take i++ [x]:=by rw[List.take_succ,ex];rfl
  show te (some x::σ) H2 _
  refine hs (xs.take i) x (xs.drop (i+1)) acc H2 _ sp (by rw[hl,List.length_take];omega) sm eD p λv H4 s4 p4=> ?_
  refine⟨s4 _ _ eD,xs.length- (i+1),by omega,rfl,hlt,by simp[hl],⟨_,rfl⟩,(sm.trans s4).upd hD,au,?_⟩
  rw[tk]
  exact p4
 ·have e:i=xs.length:=by omega
  subst e
  refine .inl ⟨jw.stop H' sm,eD,hq acc H' hl sm eD ?_⟩
  rw[List.take_length]at p
  exact p
theorem DC{J:It}{H1:Hp}{xs:List V}{σ:St}{te:TE}{Q:VK}(jw:JW J H1 xs)(hz:xs.length<=sizeLine){D:Addr}(hD:H1 D=none)(f:V->V)
  (hs:∀x∈xs,∀H' (Q':VK),ay H1 H'->Q' (f x) H'->te (some x::σ) H' Q')
  (hq:∀H',ay H1 H'->H'=upd H1 D (.lst (xs.map f)) ->Q (.ref D) H'):
  ju 1 (dJ 0) te σ J H1 D Q:=by
 refine pH jw hz hD (λpre acc H'=>acc=pre.map f/\H'=upd H1 D (.lst acc)) ⟨rfl,rfl⟩ (λpre x post acc H' Q' e hl sm eD p k=> ?_) (λacc H' hl sm eD p=> ?_)
 ·obtain⟨rfl,rfl⟩:=p
  refine hs x (by rw[e];simp) _ _ sm (k _ _ (ay.refl _) ⟨by simp,?_⟩)
  rw[HU]
 ·obtain⟨rfl,rfl⟩:=p
  exact hq _ sm rfl
section
variable{X:Cx}{sc:Scope}{N2:List Str}{x:Str}{px:Pos}{elt iter:Expr}{iL p pos:Pos}{wi:TI}{te:TE}{P:Addr}
theorem Iw(B:rA sc.names X.env.scope.names [x] N2 X.N)(s:Shared)(H:Hp)(fp:List Addr):PG (X.comp sc ([x]++N2) s H fp) (.Name x px) (dJ 0):=by
 rcases B.own x (by simp)with e|e
 ·exact aL (i:=0) B.Im rfl (.inl (jt (env:=X.env) e (.inl rfl))) (.inr (jt (env:=X.env) e (.inl rfl)))
 ·refine aL (i:=0) B.Im rfl (.inr (jt (env:=X.env) e (.inr rfl))) (.inl ?_)
  show(sc.names.lookup x==some NameKind.cell)=true
  rw[e];rfl
theorem gk(hc:X.calm=true)(hi:PI X (.Name x px) iter wi)(hB:Ds sc.names X.env.scope.names [x] N2 X.N=true)(hk:sc.kind= .function)(he:∀s H fp,PE (X.comp sc ([x]++N2) s H fp) elt te)
  (hs:∀x,foldedSetIterable iter X.env x=pure x:=by intro _;rfl):PE X (.ListComp elt [⟨.Name x px,iter,[],0⟩] sc pos) (pG 1 wi (dJ 0) te):=
 yL (own:=[x]) hc hi (qf hB) hk (λs H fp=>Iw (qf hB) s H fp) he hs
theorem FO{B:Around}(Bk:rA sc.names X.env.scope.names [x] N2 X.N)(hnc:∀y∈sc.names,y.2≠ .cell)(code:Value)(s:Shared)(H:Hp)(fp:List Addr):PG (X.gen B sc ([x]++N2) code s H fp) (.Name x px) (dJ 0):=by
 rcases Bk.own x (by simp)with e|e
 ·exact aL (i:=0) Bk.Im rfl (.inl e) (.inr e)
 ·exact absurd rfl (hnc _ (mem_of_lookup e))
def FP(sc:Scope)(ks:List (Str×NameKind))(own N2 N:List Str):Bool:=
 Ds sc.names ks own N2 N && (sc.kind== .function) && !sc.isCoroutine && sc.names.all (λy=>y.2 != .cell) && (sc.names.lookup (".0":Str)==some NameKind.local)
theorem tE{own:List Str}(hc:X.calm=true)(hr:X.A.depth<recursionLimit)(cd:fW X.K X.env.code P)(bm:BM X.mg X.base)(h:FP sc X.env.scope.names own N2 X.N=true):FG X sc own N2 P:=by
 unfold FP at h
 simp only[Bool.and_eq_true]at h
 obtain⟨⟨⟨⟨h1,h2⟩,h3⟩,h4⟩,h5⟩:=h
 refine⟨hc,hr,qf h1,by simpa using h2,by simpa using h3,λy hy=> ?_,by simpa using h5,cd,bm⟩
 have q:=List.all_eq_true.mp h4 y hy
 simpa using q
theorem Cm(hc:X.calm=true)(hr:X.A.depth<recursionLimit)(cd:fW X.K X.env.code P)(bm:BM X.mg X.base)(FH:Gl X "sum")(hm:X.mg "sum"=none)(hi:PI X (.Name x px) iter wi)(hB:FP sc X.env.scope.names [x] N2 X.N=true)
  (he:∀code s H fp,PE (X.gen X.A.in1.in1 sc ([x]++N2) code s H fp) elt te)
  (hs:∀x,genFold iter X.env x=pure x:=by intro _;rfl)(hst:starEach [.GeneratorExp elt [⟨.Name x px,iter,[],0⟩] sc iL] X.env=[(false,eval (.GeneratorExp elt [⟨.Name x px,iter,[],0⟩] sc iL) X.env)]:=by rfl):
  PE X (.Call (.Name "sum" p) [.GeneratorExp elt [⟨.Name x px,iter,[],0⟩] sc iL] [] pos) (vQ 1 P wi (dJ 0) te):=
 have K:=tE hc hr cd bm hB
 Cg (own:=[x]) K FH hm hi (λcode s H fp=>FO K.Nx K.nc code s H fp) he hs hst
theorem xo(hc:X.calm=true)(hr:X.A.depth<recursionLimit)(cd:fW X.K X.env.code P)(bm:BM X.mg X.base)(FH:Gl X "all")(hm:X.mg "all"=none)(hi:PI X (.Name x px) iter wi)(hB:FP sc X.env.scope.names [x] N2 X.N=true)
  (he:∀code s H fp,PE (X.gen X.A.in1.in1 sc ([x]++N2) code s H fp) elt te)
  (hs:∀x,genFold iter X.env x=pure x:=by intro _;rfl)(hst:starEach [.GeneratorExp elt [⟨.Name x px,iter,[],0⟩] sc iL] X.env=[(false,eval (.GeneratorExp elt [⟨.Name x px,iter,[],0⟩] sc iL) X.env)]:=by rfl):
  PE X (.Call (.Name "all" p) [.GeneratorExp elt [⟨.Name x px,iter,[],0⟩] sc iL] [] pos) (JR 1 P wi (dJ 0) te):=
 have K:=tE hc hr cd bm hB
 Iv (own:=[x]) K FH hm hi (λcode s H fp=>FO K.Nx K.nc code s H fp) he hs hst
theorem yO{k:Nat}{A:Around}{e:Env}(r:eU (k+1) A):eU k (Ip A.in1.in1 e):=
 ⟨r.hd,by have:=r.dp;show A.depth+1+3*k+5<_;omega,by have:=r.un;show A.units+1+1+3+16*k+200<_;omega⟩
end
theorem FQ{J:It}{H1:Hp}{xs:List V}{σ:St}{te:TE}{F:Nat->(Nat->V->Prop) ->(Nat->St->Hp->Prop) ->Prop}(jw:JW J H1 xs)(R:Nat->V->Prop)
  (hs:∀i x,xs[i]?=some x-> ∀H' (Q':VK),ay H1 H'->(∀v H2,R i v->ay H' H2->Q' v H2) ->te (some x::σ) H' Q')
  (hF:F xs.length R (λ_ σ' H'=>(∃o,σ'=o::σ)/\ay H1 H')):vP 1 (dJ 0) te σ F J H1:=by
 refine⟨xs.length,R,_,⟨⟨none,rfl⟩,ay.refl _⟩,λi σ' H' hi w=> ?_,λσ' H' w=>jw.stop H' w.2,hF⟩
 obtain⟨⟨o,rfl⟩,sm⟩:=w
 refine⟨jw.go i H' sm hi,λx H2 y=> ?_⟩
 obtain⟨rfl,ex⟩:=jw.Ae i H' x H2 sm hi y
 show te (some x::σ) H2 _
 exact hs i x ex H2 _ sm λv H3 r s3=>⟨r,⟨_,rfl⟩,sm.trans s3⟩
theorem FT{J:It}{H1:Hp}{xs:List V}{σ:St}{te:TE}{Q:VK}{P:Addr}(jw:JW J H1 xs)(hP:H1 P=some (dH P))(val:Nat->Int)
  (hs:∀i x,xs[i]?=some x-> ∀H' (Q':VK),ay H1 H'->(∀H2,ay H' H2->Q' (.int (val i)) H2) ->te (some x::σ) H' Q')
  (hq:∀H',ay H1 H'->Q (.int (preSum val xs.length)) H'):
  FF 1 P (dJ 0) te σ J H1 Q:=
 ⟨hP,FQ jw (λi v=>v= .int (val i)) (λi x ex H' Q' sm k=>hs i x ex H' Q' sm λH2 s2=>k _ _ rfl s2) ⟨val,λi v _ r=>r,λσ' H' w=>hq H' w.2⟩⟩
theorem Ar{J:It}{H1:Hp}{xs:List V}{σ:St}{te:TE}{Q:VK}{P:Addr}(jw:JW J H1 xs)(hP:H1 P=some (dH P))(bv:Nat->Bool)
  (hs:∀i x,xs[i]?=some x-> ∀H' (Q':VK),ay H1 H'->(∀H2,ay H' H2->Q' (.bl (bv i)) H2) ->te (some x::σ) H' Q')
  (hq:∀b H',ay H1 H'->(b=true↔ ∀j,j<xs.length->bv j=true) ->Q (.bl b) H'):
  JQ 1 P (dJ 0) te σ J H1 Q:=
 ⟨hP,FQ jw (λi v=>v= .bl (bv i)) (λi x ex H' Q' sm k=>hs i x ex H' Q' sm λH2 s2=>k _ _ rfl s2) ⟨bv,λi v _ r=>r,λhb σ' H' w=>hq _ H' w.2 ⟨λ_=>hb,λ_=>rfl⟩,
  λj hj hb _ σ' H' w=>hq _ H' w.2 ⟨λz=>(by cases z),λz=>by rw[z j hj]at hb;cases hb⟩⟩⟩
structure DE(K:PySem.W.Frag)(x qual:Str)(st:Stmt)(f:Addr)(fd:FuncData)(T:Addr):Prop where
 ex:∃(oc:Value)(od:Option Addr)(kV doc pm:Value)(an:Option Addr)(cdv ct:Value)(osl:Array (Option Value)),
  fd=PySem.W.fnOf x qual (gi st) (eL st) (az st) .none kV doc pm an cdv ct/\K.lookup f=some ⟨oc,od,.func fd,osl⟩/\PySem.W.codeIn K cdv qual=true/\fW K cdv T
 kp:PySem.W.keepIn K (.ref f)=true
theorem DE.ok{P:Program}{w:World}{K:PySem.W.Frag}{mg:Str->Option Value}{base:Heap}{x qual:Str}{st:Stmt}{f T:Addr}{fd:FuncData}{N ps:List Str}{k:Nat}{sp:Sp}(F:DE K x qual st f fd T)(S:aK N ps (az st))(len:∀vs H Q E,sp vs H Q E->vs.length=ps.length)
  (hbody:∀(cdv:Value)(A:Around)(outer:List Env)(s:Shared)(H:Hp)(vs:List V)(Q:VK)(E:XK),fW K cdv T->eU k (A.deeper (envOfC qual (az st) s.heap.objs.size f cdv)) ->sp vs H Q E->
   ∃t,wO (wX cP P w K mg base N qual (az st) f cdv A outer s H E).EI (eL st) t/\t {nx:=λ_ H'=>Q .jc H',rt:=Q} (start N vs) H):pD P w K mg base cP (k+1) f fd ps sp:=by
 obtain⟨oc,od,kV,doc,pm,an,cdv,ct,osl,rfl,lk,hcd,cd⟩:=F.ex
 refine JJ lk hcd S len λA outer s H vs Q E hr HN=> ?_
 obtain⟨t,h,q⟩:=hbody cdv A outer s H vs Q E cd hr HN
 exact⟨t,h.EI,q⟩
theorem DE.fn{K:PySem.W.Frag}{x qual:Str}{st:Stmt}{f T:Addr}{fd:FuncData}(F:DE K x qual st f fd T):JK K x qual st f fd:=by
 obtain⟨oc,od,kV,doc,pm,an,cdv,ct,osl,e,lk,hcd,cd⟩:=F.ex
 exact⟨⟨oc,od,kV,doc,pm,an,cdv,ct,osl,e,lk,hcd⟩,F.kp⟩
abbrev Cn(K:PySem.W.Frag):List V->Hp->VK->Prop:=λxs H Q=> ∃p ys,xs=[.ref p]/\(aP K H p ys∨uJ K H p ys)/\ ∀l,H l=none->Q (.ref l) (upd H l (.lst ys))
abbrev Co(K:PySem.W.Frag):List V->Hp->VK->Prop:=λxs H Q=> ∃x n t b,xs=[x,.ty n]/\nQ K H x t/\PySem.W.kitOne K t (.type n)=some b/\Q (.bl b) H
theorem iM{X:Cx}{e:Expr}{t:TE}(h:PE X e t):PE X e t:=h
theorem bits_le{k:Int}{n:Nat}(h:k.natAbs<2^n):Builtin.Int.intBits k<=n:=by
 unfold Builtin.Int.intBits
 split
 ·exact Nat.zero_le _
 ·rename_i h0
  have h1:k.natAbs≠0:=λz=>h0 (by have:k=0:=Int.natAbs_eq_zero.mp z;rw[this];rfl)
  exact(Nat.log2_lt h1).mpr h
def jv(i j:Int):Prop:=i.natAbs<2^4096/\j.natAbs<2^4096
theorem jv.ok{i j:Int}(h:jv i j):IntMulOk i j:=by
 have h1:=bits_le h.1
 have h2:=bits_le h.2
 have h3:Builtin.Int.intTooBig (Builtin.Int.intBits i+Builtin.Int.intBits j)=false:=by
  unfold Builtin.Int.intTooBig
  refine decide_eq_false ?_
  have:((Builtin.Int.intBits i+Builtin.Int.intBits j:Nat):Int)<=8192:=by omega
  have e:(8192:Int)<=((bitsLine:Nat):Int):=by decide
  omega
 unfold IntMulOk
 rw[h3]
 simp
section
variable{X:Cx}
theorem aB:rQ X (binaryOp .Mult) (rI jv λi j=> .int (i*j)):=KO λ_ _ _ _ _ _ _ hc q=>mul_int q hc.ok
def NC(i j:Int):Prop:=0<j/\j.natAbs.log2<9000
theorem pI:rQ X (binaryOp .FloorDiv) (rI NC λi j=> .int (i/j)):=KO λi j _ _ _ _ _ hc q=>by
 have h1:(0:Int)<j:=hc.1
 exact floordiv_int (by omega) (by rw[Int.fdiv_eq_ediv_of_nonneg i (by omega)];exact q) (.inl (PyProof.noPylong_of_log2 hc.2))
end
def Tab(H:Hp)(t:Addr)(bs:List Addr)(m:List (List Int)):Prop:=H t=some (.lst (bs.map V.ref))/\Paired (λrow b=>H b=some (.lst (row.map V.int))) m bs
theorem Tab.same{H H':Hp}{t:Addr}{bs:List Addr}{m:List (List Int)}(s:ay H H')(h:Tab H t bs m):Tab H' t bs m:=⟨s _ _ h.1,h.2.FN λ_ _ _ q=>s _ _ q⟩
def cB(m:List (List Int)):Prop:=m.length=3/\ ∀r∈m,r.length=3
theorem Lq{H:Hp}{m:List (List Int)}{bs:List Addr}(pr:Paired (λrow b=>H b=some (.lst (row.map V.int))) m bs){b:Addr}(hb:b∈bs):∃row,row∈m/\H b=some (.lst (row.map V.int)):=by
 induction pr with
 |nil=>cases hb
 | @cons r c m bs h t ih=>
  rcases List.mem_cons.mp hb with e|hb
  ·exact⟨r,List.mem_cons_self,by rw[e];exact h⟩
  ·obtain⟨row,q1,q2⟩:=ih hb
   exact⟨row,List.mem_cons_of_mem _ q1,q2⟩
theorem Tab.upd{H:Hp}{t x:Addr}{bs:List Addr}{m:List (List Int)}{o:HO}(h:Tab H t bs m)(h1:t≠x)(h2:x∉bs):Tab (upd H x o) t bs m:=
 ⟨by rw[aH h1];exact h.1,h.2.FN λr b hb e=>by rw[aH (λz=>h2 (by rw[<-z];exact hb))];exact e⟩
theorem Cp{K:PySem.W.Frag}{H:Hp}:∀r:List Int,An K H (r.map V.int) (r.map PyData.int)
 | []=> .nil
 |x::r=> .cons (.int x) (Cp r)
theorem JS{K:PySem.W.Frag}{H:Hp}{t:Addr}{bs:List Addr}{m:List (List Int)}(h:Tab H t bs m):Cj K H (.ref t) (Ln m):=by
 obtain⟨e,pr⟩:=h
 refine .lst (aP.of e) ?_
 clear e
 induction pr with
 |nil=>exact .nil
 | @cons r b m bs h t ih=>exact .cons (.lst (aP.of h) (Cp r)) ih
theorem tF{bs:List Addr}{x:V}(h:x∈bs.map V.ref):∃b,x= .ref b/\b∈bs:=by
 obtain⟨b,hb,e⟩:=List.mem_map.mp h
 exact⟨b,e.symm,hb⟩
def itemsOf(H:Hp)(g:V->V)(x:V):List V:=match x with
 | .ref b=>(match H b with|some (.lst xs)=>xs.map g|_=>[])
 |_=>[]
theorem rC{H:Hp}{g:V->V}{b:Addr}{xs:List V}(h:H b=some (.lst xs)):itemsOf H g (.ref b)=xs.map g:=by
 show(match H b with|some (.lst xs)=>xs.map g|_=>[])=_
 rw[h]
theorem vR{H H':Hp}{f:V->List V}{g:List Int->List Int}:∀{m:List (List Int)}{bs bs':List Addr},Paired (λrow b=>H b=some (.lst (row.map V.int))) m bs->Paired (λx b'=>H' b'=some (.lst (f x))) (bs.map V.ref) bs'->
  (∀row b,H b=some (.lst (row.map V.int)) ->f (.ref b)=(g row).map V.int) ->Paired (λrow b'=>H' b'=some (.lst (row.map V.int))) (m.map g) bs'
 |_,_,_,.nil,h2,_=>by cases h2;exact .nil
 |_,_,_,.cons h t,h2,k=>by
  cases h2 with
  |cons h' t'=>exact .cons (by rw[h',k _ _ h]) (vR t t' k)
def ent(m:List (List Int))(i j:Nat):Int:=(m.getD i []).getD j 0
def mk3(g:Nat->Nat->Int):List (List Int):=[[g 0 0,g 0 1,g 0 2],[g 1 0,g 1 1,g 1 2],[g 2 0,g 2 1,g 2 2]]
theorem cH(g:Nat->Nat->Int):cB (mk3 g):=⟨rfl,λr hr=>by
 simp only[mk3,List.mem_cons,List.not_mem_nil,or_false]at hr
 rcases hr with rfl|rfl|rfl<;>rfl⟩
theorem bC{i:Nat}(h:i<3):i=0∨i=1∨i=2:=by omega
theorem bE(g:Nat->Nat->Int){i j:Nat}(hi:i<3)(hj:j<3):ent (mk3 g) i j=g i j:=by
 rcases bC hi with rfl|rfl|rfl<;>rcases bC hj with rfl|rfl|rfl<;>rfl
theorem xq{m:List (List Int)}(h:cB m):m=mk3 (ent m):=by
 obtain⟨h1,h2⟩:=h
 match m,h1,h2 with
 | [r0,r1,r2],_,h2=>
  have l0:=h2 r0 (by simp)
  have l1:=h2 r1 (by simp)
  have l2:=h2 r2 (by simp)
  match r0,r1,r2,l0,l1,l2 with
  | [a,b,c],[d,e,f],[g,h,i],_,_,_=>rfl
theorem fS{xs:List V}{i:Nat}{v:V}(h:xs[i]?=some v):w5 xs (i:Int)=some v:=Cd h
theorem Cq{H:Hp}{t:Addr}{bs:List Addr}{m:List (List Int)}(h:Tab H t bs m){i:Nat}(hi:i<m.length):∃b row,w5 (bs.map V.ref) (i:Int)=some (.ref b)/\H b=some (.lst (row.map V.int))/\m[i]?=some row/\b∈bs:=by
 obtain⟨_,pr⟩:=h
 have q:∀{m:List (List Int)}{bs:List Addr}{i:Nat},Paired (λrow b=>H b=some (.lst (row.map V.int))) m bs->i<m.length-> ∃b row,bs[i]?=some b/\H b=some (.lst (row.map V.int))/\m[i]?=some row:=by
  intro m bs i pr
  induction pr generalizing i with
  |nil=>intro hi;exact absurd hi (Nat.not_lt_zero _)
  | @cons r b m bs h t ih=>
   intro hi
   cases i with
   |zero=>exact⟨b,r,rfl,h,rfl⟩
   |succ i=>
    obtain⟨b',r',e1,e2,e3⟩:=ih (i:=i) (by simpa using hi)
    exact⟨b',r',by simpa using e1,e2,by simpa using e3⟩
 obtain⟨b,row,e1,e2,e3⟩:=q pr hi
 exact⟨b,row,fS (by rw[List.getElem?_map,e1];rfl),e2,e3,List.mem_of_getElem? e1⟩
theorem kR{H:Hp}{t:Addr}{bs:List Addr}{m:List (List Int)}(h:Tab H t bs m)(bO:cB m){i j:Nat}(hi:i<3)(hj:j<3):
  ∃(b:Addr)(row:List Int),w5 (bs.map V.ref) (i:Int)=some (.ref b)/\H b=some (.lst (row.map V.int))/\w5 (row.map V.int) (j:Int)=some (.int (ent m i j)):=by
 obtain⟨b,row,e1,e2,e3,_⟩:=Cq h (i:=i) (by rw[bO.1];exact hi)
 refine⟨b,row,e1,e2,fS ?_⟩
 have rl:row.length=3:=bO.2 row (List.mem_of_getElem? e3)
 have e4:m.getD i []=row:=by rw[List.getD_eq_getElem?_getD,e3];rfl
 rw[List.getElem?_map,List.getElem?_eq_getElem (by rw[rl];exact hj)]
 unfold ent
 rw[e4,List.getD_eq_getElem?_getD,List.getElem?_eq_getElem (by rw[rl];exact hj)]
 rfl
theorem aX{H:Hp}{t:Addr}{bs:List Addr}{m:List (List Int)}(h:Tab H t bs m)(bO:cB m){i:Nat}(hi:i<3):
  ∃b,w5 (bs.map V.ref) (i:Int)=some (.ref b)/\H b=some (.lst [.int (ent m i 0),.int (ent m i 1),.int (ent m i 2)])/\b∈bs:=by
 obtain⟨b,row,e1,e2,e3,e5⟩:=Cq h (i:=i) (by rw[bO.1];exact hi)
 refine⟨b,e1,?_,e5⟩
 have rl:row.length=3:=bO.2 row (List.mem_of_getElem? e3)
 have e4:m.getD i []=row:=by rw[List.getD_eq_getElem?_getD,e3];rfl
 rw[e2]
 unfold ent
 rw[e4]
 match row,rl with
 | [a,b,c],_=>rfl
def Bd(n:Nat)(m:List (List Int)):Prop:=∀i j,i<3->j<3->(ent m i j).natAbs<2^n
theorem Bd.mono{a b:Nat}{m:List (List Int)}(h:Bd a m)(hab:a<=b):Bd b m:=λi j hi hj=>Nat.lt_of_lt_of_le (h i j hi hj) (Nat.pow_le_pow_right (by decide) hab)
theorem bT{x y:Int}{a b:Nat}(hx:x.natAbs<2^a)(hy:y.natAbs<2^b):(x*y).natAbs<2^(a+b):=by
 rw[Int.natAbs_mul,Nat.pow_add]
 exact Nat.mul_lt_mul_of_lt_of_lt hx hy
theorem jx{x y:Int}{a:Nat}(hx:x.natAbs<2^a)(hy:y.natAbs<2^a):(x+y).natAbs<2^(a+1):=by
 have e:2^(a+1)=2^a+2^a:=by rw[Nat.pow_succ];omega
 omega
theorem jW{x y:Int}{a:Nat}(hx:x.natAbs<2^a)(hy:y.natAbs<2^a):(x-y).natAbs<2^(a+1):=by
 have e:2^(a+1)=2^a+2^a:=by rw[Nat.pow_succ];omega
 omega
theorem aG{x:Int}{a b:Nat}(hx:x.natAbs<2^a)(h:a<=b):x.natAbs<2^b:=Nat.lt_of_lt_of_le hx (Nat.pow_le_pow_right (by decide) h)
def iC(a b:List (List Int)):List (List Int):=mk3 λi j=>ent a i 0*ent b 0 j+ent a i 1*ent b 1 j+ent a i 2*ent b 2 j
def cQ(a:List (List Int)):List (List Int):=mk3 λi j=>ent a j i
theorem sL{a b:List (List Int)}{p q:Nat}(ha:Bd p a)(hb:Bd q b):Bd (p+q+2) (iC a b):=λi j hi hj=>by
 unfold iC
 rw[bE _ hi hj]
 exact jx (jx (bT (ha i 0 hi (by decide)) (hb 0 j (by decide) hj)) (bT (ha i 1 hi (by decide)) (hb 1 j (by decide) hj))) (aG (bT (ha i 2 hi (by decide)) (hb 2 j (by decide) hj)) (Nat.le_succ _))
theorem tG{a:List (List Int)}{p:Nat}(ha:Bd p a):Bd p (cQ a):=λi j hi hj=>by
 unfold cQ
 rw[bE _ hi hj]
 exact ha j i hj hi
theorem ko(K:PySem.W.Frag)(n:String):PySem.W.kitOne K (.type n) (.type n)=some true:=by
 unfold PySem.W.kitOne
 rw[if_pos (by simp)]
theorem pJ(K:PySem.W.Frag):PySem.W.kitOne K (.type "int") (.type "bool")=some false:=by kernel_rfl
theorem Lr{xs:List V}{k:Int}(h0:0<=k)(h:k<(xs.length:Int)):∃v,w5 xs k=some v/\xs[k.toNat]?=some v:=by
 have hk:k.toNat<xs.length:=by omega
 have ek:k=((k.toNat:Nat):Int):=by omega
 have q:w5 xs ((k.toNat:Nat):Int)=some xs[k.toNat]:=Cd (by rw[List.getElem?_eq_getElem hk])
 rw[<-ek]at q
 exact⟨xs[k.toNat],q,by rw[List.getElem?_eq_getElem hk]⟩
theorem Iz{ns:List Int}{k:Int}(h0:0<=k)(h:k<(ns.length:Int)):∃z:Int,w5 (ns.map V.int) k=some (.int z):=by
 obtain⟨v,h1,h2⟩:=Lr (xs:=ns.map V.int) h0 (by rw[List.length_map];exact h)
 rw[List.getElem?_map]at h2
 cases q:ns[k.toNat]? with
 |none=>rw[q]at h2;cases h2
 |some z=>rw[q]at h2;cases h2;exact⟨z,h1⟩
theorem at2{x y:V}{i:Int}(h0:0<=i)(h:i<2):∃v,w5 [x,y] i=some v/\(v=x∨v=y):=by
 have c:i=0∨i=1:=by omega
 rcases c with rfl|rfl
 ·exact⟨x,rfl,.inl rfl⟩
 ·exact⟨y,rfl,.inr rfl⟩
section
variable{X:Cx}
theorem Ls{bs:List Bool}{its:List Value}{i:Nat}{v:Value}(r:Vals (bs.map V.bl) its)(h:its[i]?=some v):∃b,bs[i]?=some b/\v= .bool b:=by
 have hl:=r.length
 rw[List.length_map]at hl
 have hi:i<bs.length:=by
  have:=(List.getElem?_eq_some_iff.mp h).1
  omega
 have e:(bs.map V.bl)[i]?=some (.bl bs[i]):=by rw[List.getElem?_map,List.getElem?_eq_getElem hi];rfl
 obtain⟨u,h1,h2⟩:=r.get e
 rw[h]at h1
 cases h1
 exact⟨bs[i],List.getElem?_eq_getElem hi,h2⟩
theorem uT(hc:X.calm=true):pC X (.builtin "all") (λxs H Q=> ∃p bs,xs=[.ref p]/\aP X.K H p ((bs:List Bool).map V.bl)/\Q (.bl (bs.all id)) H):=by
 intro pins s σ H xs us Q I r h
 obtain⟨p,bs,rfl,hq,q⟩:=h
 obtain⟨u,rfl,rx⟩:=vals1 r
 cases rx
 obtain⟨its,rv,pl,hz⟩:=I.list hq
 have hl:=rv.length
 rw[List.length_map]at hl
 refine call_all_walk (wpAny_pyIter_list pl.isList ?_)
 have hp:p<s.heap.objs.size:=let⟨o,n,e,_⟩:=pl;Heap.lt_size e
 have keep:∀b o,s.heap.get? b=some o->(s.heap.push {cls:= .type "list_iterator",data:= .fields #[rawInt 0,.ref p]}).get? b=some o:=λb o e=>Heap.get?_push_of_some _ e
 refine⟨s.heap.objs.size,[s.heap.objs.size,p],[s.heap.objs.size],its.toArray.size,_,_,λi=>(bs[i]?).getD true,rfl,Walks.list (A:=X.A.in1) (show X.A.in1.handled=none from I.ok.hd hc) s.heap.objs.size p (Nat.ne_of_lt hp) its.toArray,⟨⟨_,Heap.get?_push_size _ rfl,rfl,rfl⟩,pl.isList.at λo e=>Heap.get?_push_of_some _ e⟩,λi v s' Q' E' hv TY=> ?_,λh' tk k=> ?_⟩
 ·obtain⟨b,e1,rfl⟩:=Ls rv (by simpa using hv)
  have RH:Q' ((bs[i]?).getD true) s':=TY
  rw[e1]at RH
  exact wpAny_truthy_bool RH
 ·refine⟨.bl (bs.all id),H,I.kept (t':=tk) λb o e=>k b o (λz=> ?_) (Heap.get?_push_of_some _ e),?_,q⟩
  ·exact absurd (Heap.lt_size e) (by rw[List.mem_singleton.mp z];exact Nat.lt_irrefl _)
  ·have e:(List.range its.toArray.size).all (λi=>(bs[i]?).getD true)=bs.all id:=by
    rw[List.size_toArray,<-hl,Bool.eq_iff_iff,List.all_eq_true,List.all_eq_true]
    constructor
    ·intro h b hb
     obtain⟨j,hj,rfl⟩:=List.getElem_of_mem hb
     have:=h j (List.mem_range.mpr hj)
     rw[List.getElem?_eq_getElem hj]at this
     exact this
    ·intro h j hj
     have hj':=List.mem_range.mp hj
     rw[List.getElem?_eq_getElem hj']
     exact h _ (List.getElem_mem hj')
   show Value.bool _=Value.bool _
   rw[e]
end
theorem kT{J:It}{xs:List V}{H1:Hp}{σ:St}{te:TE}{Q:VK}{D:Addr}(jw:JW J H1 xs)(h3:xs.length=3)(hD:H1 D=none)(g:Nat->Int)(hs:∀j x,j<3->xs[j]?=some x-> ∀H' (Q':VK),ay H1 H'->(∀H2,ay H' H2->Q' (.int (g j)) H2) ->te (some x::σ) H' Q')
  (hq:∀H',ay H1 H'->H' D=some (.lst [.int (g 0),.int (g 1),.int (g 2)]) ->Q (.ref D) H'):ju 1 (dJ 0) te σ J H1 D Q:=by
 refine pH jw (by rw[h3];decide) hD (λpre acc H'=>acc=(List.range pre.length).map λj=>V.int (g j)) rfl (λpre x post acc H' Q' e hl sm eD p k=> ?_) (λacc H' hl sm eD p=> ?_)
 ·have hlen:pre.length<3:=by
   have:=congrArg List.length e
   rw[h3]at this
   simp at this
   omega
  refine hs pre.length x hlen (by rw[e];simp) H' Q' sm λH2 s2=>k _ H2 s2 ?_
  rw[p]
  simp[List.range_succ]
 ·refine hq H' sm ?_
  rw[eD,p,h3]
  rfl
theorem pK{J:It}{xs:List V}{H1:Hp}{σ:St}{te:TE}{Q:VK}{D:Addr}(jw:JW J H1 xs)(h3:xs.length=3)(hD:H1 D=none)(g:Nat->Nat->Int)
  (hs:∀i x,i<3->xs[i]?=some x-> ∀H' (Q':VK),ay H1 H'->(∀b H2,H' b=none->ay H' H2->H2 b=some (.lst [.int (g i 0),.int (g i 1),.int (g i 2)]) ->Q' (.ref b) H2) ->te (some x::σ) H' Q')
  (hq:∀bs H',ay H1 H'->(∀b∈bs,H1 b=none) ->D∉bs->Tab H' D bs (mk3 g) ->Q (.ref D) H'):ju 1 (dJ 0) te σ J H1 D Q:=by
 refine pH jw (by rw[h3];decide) hD (λpre acc H'=> ∃bs:List Addr,acc=bs.map V.ref/\(∀b∈bs,H1 b=none)/\D∉bs/\Paired (λi b=>H' b=some (.lst [.int (g i 0),.int (g i 1),.int (g i 2)])) (List.range pre.length) bs) ⟨[],rfl,λ_ h=>(nomatch h),by simp,.nil⟩ (λpre x post acc H' Q' e hl sm eD p k=> ?_) (λacc H' hl sm eD p=> ?_)
 ·obtain⟨bs,rfl,fr,nD,pr⟩:=p
  have hlen:pre.length<3:=by
   have:=congrArg List.length e
   rw[h3]at this
   simp at this
   omega
  refine hs pre.length x hlen (by rw[e];simp) H' _ sm λb H2 hb s2 eb=>k _ _ s2 ⟨bs++ [b],by simp,?_,?_,?_⟩
  ·intro c hc
   rcases List.mem_append.mp hc with z|z
   ·exact fr c z
   ·rw[List.mem_singleton.mp z];exact sm.none hb
  ·intro z
   rcases List.mem_append.mp z with z|z
   ·exact nD z
   ·rw[<-List.mem_singleton.mp z,eD]at hb;cases hb
  ·have nb:b≠D:=λz=>by rw[z,eD]at hb;cases hb
   have er:List.range (pre++ [x]).length=List.range pre.length++ [pre.length]:=by simp[List.range_succ]
   rw[er]
   refine Paired.snoc (pr.FN λy c hc q=> ?_) (by rw[aH nb];exact eb)
   rw[aH (λz=>nD (by rw[<-z];exact hc))]
   exact s2 _ _ q
 ·obtain⟨bs,rfl,fr,nD,pr⟩:=p
  refine hq bs H' sm fr nD ⟨eD,?_⟩
  rw[h3]at pr
  have Ua:Paired (λi b=>H' b=some (.lst [.int (g i 0),.int (g i 1),.int (g i 2)])) [0,1,2] bs:=pr
  cases Ua with
  |cons h0 t0=>cases t0 with
   |cons h1 t1=>cases t1 with
    |cons h2 t2=>
     cases t2
     exact .cons h0 (.cons h1 (.cons h2 .nil))
theorem d7{n k:Nat}{x:V}(h:(kQ n)[k]?=some x):k<n/\x= .int (k:Int):=by
 unfold kQ at h
 rw[List.getElem?_map]at h
 cases q:(List.range n)[k]? with
 |none=>rw[q]at h;cases h
 |some z=>
  rw[q]at h
  have hz:=List.getElem?_eq_some_iff.mp q
  obtain⟨h1,h2⟩:=hz
  have Ub:k<n:=by simpa using h1
  rw[List.getElem_range]at h2
  subst h2
  cases h
  exact⟨Ub,rfl⟩
theorem ND(val:Nat->Int):preSum val 3=val 0+val 1+val 2:=by simp[preSum]
theorem FU{d:PyData}(h:SeqAt.shaped d=true):PyData.eqv d d=true:=SeqAt.eqv_refl d (SeqAt.canLay_of_shaped h)
theorem IA{K:PySem.W.Frag}{H:Hp}{x y:V}{Q:VK}(d:PyData)(hx:Cj K H x d)(hy:Cj K H y d)(hs:SeqAt.shaped d=true)(q:Q (.bl true) H):Ny K false x y H Q:=
 ⟨d,d,hx,hy,hs,hs,by rw[FU hs];exact q⟩
theorem FW{J:It}{xs:List V}{H1:Hp}{σ:St}{te:TE}{Q:VK}{D:Addr}(jw:JW J H1 xs)(hz:xs.length<=sizeLine)(hD:H1 D=none)(hs:∀x∈xs,∀H' (Q':VK),ay H1 H'->Q' (.bl true) H'->te (some x::σ) H' Q')
  (hq:∀H',ay H1 H'->H' D=some (.lst ((List.replicate xs.length true).map V.bl)) ->Q (.ref D) H'):ju 1 (dJ 0) te σ J H1 D Q:=
 DC jw hz hD (λ_=> .bl true) hs λH' s e=>hq H' s (by rw[e,au];simp[List.map_const'])
theorem g7{f g:Nat->Nat->Int}(h:∀i j,i<3->j<3->f i j=g i j):mk3 f=mk3 g:=by
 simp only[mk3,h 0 0 (by decide) (by decide),h 0 1 (by decide) (by decide),h 0 2 (by decide) (by decide),h 1 0 (by decide) (by decide),h 1 1 (by decide) (by decide),h 1 2 (by decide) (by decide),h 2 0 (by decide) (by decide),h 2 1 (by decide) (by decide),h 2 2 (by decide) (by decide)]
theorem aJ(a b:List (List Int)){i j:Nat}(hi:i<3)(hj:j<3):ent (iC a b) i j=ent a i 0*ent b 0 j+ent a i 1*ent b 1 j+ent a i 2*ent b 2 j:=bE _ hi hj
theorem aV(a:List (List Int)){i j:Nat}(hi:i<3)(hj:j<3):ent (cQ a) i j=ent a j i:=bE _ hi hj
theorem As(a b c:List (List Int)):iC (iC a b) c=iC a (iC b c):=by
 refine g7 λi j hi hj=> ?_
 rw[aJ a b hi (by decide),aJ a b hi (by decide),aJ a b hi (by decide),aJ b c (by decide) hj,aJ b c (by decide) hj,aJ b c (by decide) hj]
 grind
theorem tH(a b:List (List Int)):cQ (iC a b)=iC (cQ b) (cQ a):=by
 refine g7 λi j hi hj=> ?_
 rw[aJ a b hj hi,aV b hi (by decide),aV b hi (by decide),aV b hi (by decide),aV a (by decide) hj,aV a (by decide) hj,aV a (by decide) hj]
 grind
theorem yP{a:List (List Int)}(h:cB a):cQ (cQ a)=a:=by
 rw[xq h]
 refine g7 λi j hi hj=> ?_
 rw[aV _ hj hi,bE _ hi hj]
def fK(m b:List (List Int)):List (List Int):=iC (iC b m) (cQ b)
theorem vS{m:List (List Int)}(b:List (List Int))(hb:cB b):cQ (fK m b)=fK (cQ m) b:=by
 unfold fK
 rw[tH,tH,yP hb,As]
def fZ(m:List (List Int))(i j:Nat):Int:=ent m ((i+1)%3) ((j+1)%3)*ent m ((i+2)%3) ((j+2)%3) -ent m ((i+1)%3) ((j+2)%3)*ent m ((i+2)%3) ((j+1)%3)
def aA(m:List (List Int)):Int:=ent m 0 0*fZ m 0 0+ent m 0 1*fZ m 0 1+ent m 0 2*fZ m 0 2
theorem cU(m:List (List Int)):aA m=ent m 0 0*(ent m 1 1*ent m 2 2-ent m 1 2*ent m 2 1)+ent m 0 1*(ent m 1 2*ent m 2 0-ent m 1 0*ent m 2 2)+ent m 0 2*(ent m 1 0*ent m 2 1-ent m 1 1*ent m 2 0):=rfl
theorem vU(a b:List (List Int)):aA (iC a b)=aA a*aA b:=by
 rw[cU,cU,cU]
 simp only[aJ a b (show 0<3 by decide) (show 0<3 by decide),aJ a b (show 0<3 by decide) (show 1<3 by decide),aJ a b (show 0<3 by decide) (show 2<3 by decide),aJ a b (show 1<3 by decide) (show 0<3 by decide),aJ a b (show 1<3 by decide) (show 1<3 by decide),aJ a b (show 1<3 by decide) (show 2<3 by decide),aJ a b (show 2<3 by decide) (show 0<3 by decide),aJ a b (show 2<3 by decide) (show 1<3 by decide),aJ a b (show 2<3 by decide) (show 2<3 by decide)]
 grind
theorem m3(i:Nat)(k:Nat):((i:Int)+(k:Int))%3=(((i+k)%3:Nat):Int):=by omega
theorem uK(i:Nat):i%3<3:=Nat.mod_lt _ (by decide)
theorem uU(f:Nat->Int){c:Nat}(h:c<3):w5 [V.int (f 0),.int (f 1),.int (f 2)] (c:Int)=some (.int (f c)):=by
 rcases bC h with rfl|rfl|rfl<;>rfl
theorem Cr{m:List (List Int)}{n:Nat}(h:Bd n m)(i j:Nat):(fZ m i j).natAbs<2^(n+n+1):=
 jW (bT (h _ _ (uK _) (uK _)) (h _ _ (uK _) (uK _))) (bT (h _ _ (uK _) (uK _)) (h _ _ (uK _) (uK _)))
theorem iy{H:Hp}{t b0 b1 b2:Addr}(g:Nat->Nat->Int)(e:H t=some (.lst [.ref b0,.ref b1,.ref b2]))(h0:H b0=some (.lst [.int (g 0 0),.int (g 0 1),.int (g 0 2)]))(h1:H b1=some (.lst [.int (g 1 0),.int (g 1 1),.int (g 1 2)]))
  (h2:H b2=some (.lst [.int (g 2 0),.int (g 2 1),.int (g 2 2)])):Tab H t [b0,b1,b2] (mk3 g):=⟨e,.cons h0 (.cons h1 (.cons h2 .nil))⟩
def iN(m:List (List Int)):List (List Int):=mk3 λi j=>fZ m j i
def pL(d:Int):List (List Int):=mk3 λi j=>if i=j then d else 0
theorem mw(m:List (List Int)){i j:Nat}(hi:i<3)(hj:j<3):ent (iN m) i j=fZ m j i:=bE _ hi hj
theorem yQ(m:List (List Int)):iC (iN m) m=pL (aA m):=by
 refine g7 λi j hi hj=> ?_
 rw[mw m hi (by decide),mw m hi (by decide),mw m hi (by decide),cU]
 rcases bC hi with rfl|rfl|rfl<;>rcases bC hj with rfl|rfl|rfl<;>simp only[fZ,Nat.reduceAdd,Nat.reduceMod,Nat.reduceEqDiff,if_true,if_false]<;>grind
structure FY(X:Cx)(st:List Stmt)(t:TS):Prop where
 h:wO X st t
theorem kU{X:Cx}{st:List Stmt}{t:TS}(h:FY X st t):wO X st t:=h.h
theorem ak{X:Cx}{a:Stmt}{b:List Stmt}{ta tb:TS}(ha:PS X a ta)(hb:FY X b tb):FY X (a::b) (uO ta tb):=⟨EW ha hb.h⟩
theorem aI{X:Cx}{a:Stmt}{ta:TS}(ha:PS X a ta):FY X [a] ta:=⟨cK ha⟩
section
variable{X:Cx}{pins:List (Addr×Obj)}{σ:St}{H:Hp}{s:Shared}{h':Heap}
theorem Inv.pM{t':Nat}{ch:List Addr}(I:Inv X pins σ H s)(k:∀b o,b∉ch->s.heap.get? b=some o->h'.get? b=some o)(hf:∀b∈ch,fV X pins H b):Inv X pins σ H {s with heap:=h',toks:=t'}:=by
 have MQ:∀b u,H b=some u->b∉ch:=λb u e z=>by have:=(hf b z).1;rw[e]at this;cases this
 refine I.step (g':=s.gens) (d':=s.drawn) (ch:=ch) (λb hb=> ?_) (λb o _ _ hc e _=>k b o hc e) (λb o _ _ hc e _=>⟨o.slots,k b o hc e⟩) (λ_ _ _ _ n=>n)
  (λb o hc e=>⟨o,k b o hc e⟩) (λ_ _ e=>e) (λ_ _ _ e=>e) (λb ps e=>⟨#[],by rw[e];simp⟩) (λm hm=> ?_) (λb u e=> ?_) (.refl I.bare.bare)
 ·obtain⟨f0,f1,f2,f3,f4,f5⟩:=hf b hb
  exact⟨f3,f1,f4,f5⟩
 ·obtain⟨o,es,ep,ho,r⟩:=hm
  exact⟨o,es,ep,k _ o (λz=>(hf _ z).2.1 rfl) ho,r⟩
 ·refine(I.hok b u e).stay (λc v hc q=>k c v ?_ q) (λ_ q=>q) λ_ _ q=>q
  rcases hc with z|z
  ·rw[z];exact MQ b u e
  ·exact MQ c _ z
theorem Inv.JT{T:Addr}{o:HO}(I:Inv X pins σ H s)(hf:fV X pins H T)(new:eV X.prog X.w (upd H T o) s.heap T o):Inv X pins σ (upd H T o) s:=by
 obtain⟨f0,f1,f2,f3,f4,f5⟩:=hf
 have ne:∀{b u},H b=some u->b≠T:=λ {b u} e z=>by rw[z,f0]at e;cases e
 refine I.step (g':=s.gens) (d':=s.drawn) (t':=s.toks) (h':=s.heap) (ch:=[T]) (λb hb=> ?_) (λb o _ _ _ e _=>e) (λb o _ _ _ e _=>⟨o.slots,e⟩) (λb o hc _ n=> ?_)
  (λb o _ e=>⟨o,e⟩) (λb xs e=>by rw[aH (ne e)];exact e) (λb _ _ e=>by rw[aH (ne e)];exact e) (λb ps e=>⟨#[],by rw[aH (ne e),e];simp⟩) (λm hm=>hm) (λb u e=> ?_) (.refl I.bare.bare)
 ·have e:b=T:=by simpa using hb
  subst e
  exact⟨f3,f1,f4,f5⟩
 ·rw[aH (λz=>hc (by simp[z]))];exact n
 ·by_cases hb:b=T
  ·subst hb;rw[au]at e;cases e;exact new
  ·rw[aH hb]at e
   exact(I.hok b u e).stay (λc v _ q=>q) (λc q=>by rw[aH (ne q)];exact q) (λc xs q=>by rw[aH (ne q)];exact q) λc ob xs q=>by rw[aH (ne q)];exact q
end
def NF(K:PySem.W.Frag)(a b:Addr):It:=
 ⟨λi H=> ∃xs ys x y,aP K H a xs/\aP K H b ys/\xs[i]?=some x/\ys[i]?=some y,
  λi H v H'=> ∃T x y,v= .ref T/\H T=none/\(∀xs,aP K H a xs->xs[i]?=some x)/\(∀ys,aP K H b ys->ys[i]?=some y)/\H'=upd H T (.tup [x,y]),
  λi H=> ∃xs ys,aP K H a xs/\aP K H b ys/\(xs.length<=i∨ys.length<=i)⟩
def NG(z TI TO i1 i2 a b:Addr)(i:Nat)(h:Heap):Prop:=
 IsZip h z TI TO .none/\IsPair h TI (.ref i1) (.ref i2)/\(∃p q,IsPair h TO p q)/\h.IsListIter i1 a i/\h.IsListIter i2 b i
theorem FZ{P:Program}{w:World}{K:PySem.W.Frag}{elts:List Expr}{x1}{pos:Pos}(z TI TO i1 i2 a b:Addr)(D:ZipApart z TI TO i1 i2 a b):Turn P w K (.Tuple elts x1 pos) (NF K a b) [z,TI,TO,i1,i2] z (NG z TI TO i1 i2 a b) where
 mem:=by simp
 obj:=λi h st c hc=>by
  obtain⟨hz,hTI,⟨p,q,hTO⟩,⟨o1,e1,c1,d1⟩,⟨o2,e2,c2,d2⟩⟩:=st
  simp only[List.mem_cons,List.not_mem_nil,or_false]at hc
  rcases hc with rfl|rfl|rfl|rfl|rfl
  ·exact⟨_,hz,λv e=>by cases e⟩
  ·exact⟨_,hTI,λv e=>by cases e⟩
  ·exact⟨_,hTO,λv e=>by cases e⟩
  ·exact⟨_,e1,λv e=>by rw[d1]at e;cases e⟩
  ·exact⟨_,e2,λv e=>by rw[d2]at e;cases e⟩
 keep:=λi h h' st k=>by
  obtain⟨hz,hTI,⟨p,q,hTO⟩,h1,h2⟩:=st
  exact⟨k z (by simp) _ hz,k TI (by simp) _ hTI,⟨p,q,k TO (by simp) _ hTO⟩,h1.at λo e=>k i1 (by simp) o e,h2.at λo e=>k i2 (by simp) o e⟩
 item:=by
  intro X hP hw hK hc i pins s σ H E I hf st hg
  subst hP hw hK
  obtain⟨xs,ys,x,y,OE,OF,hx,hy⟩:=hg
  obtain⟨hz,hTI,⟨p,q,hTO⟩,h1,h2⟩:=st
  obtain⟨ia,ra,pa,za⟩:=I.list OE
  obtain⟨ib,rb,pb,zb⟩:=I.list OF
  obtain⟨u,hu,ru⟩:=ra.get hx
  obtain⟨v,hv,rv⟩:=rb.get hy
  refine wpAny_pyNext_zip_item D hz hTI hTO h1 h2 pa.isList pb.isList (x:=u) (y:=v) (by simpa using hu) (by simpa using hv) λh' a1 a2 a3 a4 a5 a6 hk=> ?_
  refine⟨_,rfl,?_⟩
  have Ql:=hk _ _ D.TIz D.TITO D.TIi1 D.TIi2 hTI
  have f4:∀c∈ [z,TO,i1,i2],fV X pins H c:=λc hc=>hf c (by simp only[List.mem_cons,List.not_mem_nil,or_false]at hc ⊢;rcases hc with rfl|rfl|rfl|rfl<;>simp)
  have I1:Inv X pins σ H {s with heap:=h'}:=I.pM (t':=s.toks) (ch:=[z,TO,i1,i2]) (λc o hc e=>hk c o (λq=>hc (by simp[q])) (λq=>hc (by simp[q])) (λq=>hc (by simp[q])) (λq=>hc (by simp[q])) e) f4
  have hn:H s.heap.objs.size=none:=I.hok.fresh (Nat.le_refl _)
  have fT:=I.Dg (b:=s.heap.objs.size) (Nat.le_refl _) hn
  have I2:Inv X pins σ (upd H s.heap.objs.size (.tup [x,y])) {s with heap:=h'}:=I1.JT fT ⟨by show 2<=sizeLine;decide,[u,v],.cons ru (.cons rv .nil),⟨_,a5,rfl,_,rfl⟩⟩
  refine wpAny_letOwnedTupleGo_zip (s:={s with heap:=h'}) a1 λh2' hz' hs'=> ?_
  have lt:∀{c o},s.heap.get? c=some o->c≠s.heap.objs.size:=λe=>Nat.ne_of_lt (Heap.lt_size e)
  obtain⟨o1,e1,_⟩:=id h1
  obtain⟨o2,e2,_⟩:=id h2
  have neT:∀c∈ [z,TI,TO,i1,i2],c≠s.heap.objs.size:=λc hc=>by
   simp only[List.mem_cons,List.not_mem_nil,or_false]at hc
   rcases hc with rfl|rfl|rfl|rfl|rfl
   ·exact lt hz
   ·exact lt hTI
   ·exact lt hTO
   ·exact lt e1
   ·exact lt e2
  obtain⟨g0,g1,g2,g3,g4,g5⟩:=hf z (by simp)
  have I3:Inv X pins σ (upd H s.heap.objs.size (.tup [x,y])) {s with heap:=h2'}:=Inv.turned (s:={s with heap:=h'}) (h':=h2') I2 (it:=z) (t':=s.toks) (λc o hc e=>hs'.extBut _ _ hc e) (by rw[aH (neT z (by simp))];exact g0) g1 g3 g4 g5
  refine⟨.ref s.heap.objs.size,_,I3,rfl,⟨_,x,y,rfl,hn,λzs hzs=>by rw[I.sU hzs OE];exact hx,λzs hzs=>by rw[I.sU hzs OF];exact hy,rfl⟩,?_,λc hc=> ?_⟩
  ·exact⟨hz',hs'.extBut _ _ D.TIz Ql,⟨_,_,hs'.extBut _ _ D.TOz a2⟩,a3.extBut hs'.extBut D.i1z,a4.extBut hs'.extBut D.i2z⟩
  ·rw[aH (neT c hc)];exact(hf c hc).1
 done:=by
  intro X hP hw hK hc i pins s σ H E I hf st hg
  subst hP hw hK
  obtain⟨xs,ys,OE,OF,hend⟩:=hg
  obtain⟨hz,hTI,⟨p,q,hTO⟩,h1,h2⟩:=st
  obtain⟨ia,ra,pa,za⟩:=I.list OE
  obtain⟨ib,rb,pb,zb⟩:=I.list OF
  have la:=ra.length
  have lb:=rb.length
  have f4:∀c∈ [z,TO,i1,i2],fV X pins H c:=λc hc=>hf c (by simp only[List.mem_cons,List.not_mem_nil,or_false]at hc ⊢;rcases hc with rfl|rfl|rfl|rfl<;>simp)
  refine wpAny_pyNext_zip_end (I.ok.hd hc) D hz hTI hTO h1 h2 pa.isList pb.isList (hend.imp (λq=>by simp;omega) (λq=>by simp;omega)) λh' hk=>⟨rfl,?_⟩
  exact I.pM (t':=s.toks) (ch:=[z,TO,i1,i2]) (λc o hc e=>hk c o (λq=>hc (by simp[q])) (λq=>hc (by simp[q])) (λq=>hc (by simp[q])) (λq=>hc (by simp[q])) e) f4
 self:=λ_ _ _ _ _ st h=>wpAny_pyIter_zip st.1 h
def Qm(K:PySem.W.Frag)(ta:TA):TI:=λσ H R=>ta σ H λvs H1=> ∃a b xs ys,vs=[.ref a,.ref b]/\aP K H1 a xs/\aP K H1 b ys/\R (NF K a b) H1
section
variable{X:Cx}
theorem Au{elts:List Expr}{x1}{tpos:Pos}{a b:Expr}{ta:TA}{p pos:Pos}(hg:Gl X "zip")(hm:X.mg "zip"=none)(ha:PA X [a,b] ta)(hs:starEach [a,b] X.env=[(false,eval a X.env),(false,eval b X.env)]:=by rfl)(hs2:starEach [b] X.env=[(false,eval b X.env)]:=by rfl):
  PI X (.Tuple elts x1 tpos) (.Call (.Name "zip" p) [a,b] [] pos) (Qm X.K ta):=by
 intro pins s σ H R I h
 refine Call_ (kK I hg hm boot_zip (PyProof.Rows.callWith_type1 (fX (ha pos pins s σ H _ I h) λus s1 ⟨vs,H1,I1,r1,q1⟩=> ?_) (by rw[hs,hs2]) (by rw[hs2];rfl)))
 obtain⟨l1,l2,xs,ys,e,q1,q2,q⟩:=q1
 subst e
 cases r1 with
 |cons r rr=>
  cases rr with
  |cons r' rr=>
   cases rr
   cases r
   cases r'
   obtain⟨ia,ra,pa,za⟩:=I1.list q1
   obtain⟨ib,rb,pb,zb⟩:=I1.list q2
   have Uc:l1<s1.heap.objs.size:=by obtain⟨o,e,_⟩:=pa.isList;exact Heap.lt_size e
   have OG:l2<s1.heap.objs.size:=by obtain⟨o,e,_⟩:=pb.isList;exact Heap.lt_size e
   refine call_zip_2 pa.isList pb.isList λh' hz hTI hTO hi1 hi2 hsz hk=> ?_
   refine wpAny_pyIter_zip hz ?_
   refine⟨_,[s1.heap.objs.size+4,s1.heap.objs.size+2,s1.heap.objs.size+3,s1.heap.objs.size,s1.heap.objs.size+1],_,_,H1,rfl,I1.kept (t':=s1.toks) hk,FZ _ _ _ _ _ l1 l2 (zipApart_new Uc OG),⟨hz,hTI,⟨_,_,hTO⟩,hi1,hi2⟩,λc hc=> ?_,q⟩
   have hc':s1.heap.objs.size<=c:=by
    simp only[List.mem_cons,List.not_mem_nil,or_false]at hc
    rcases hc with rfl|rfl|rfl|rfl|rfl<;>first|exact Nat.le_refl _|exact Nat.le_add_right _ _
   exact I1.Dg hc' (I1.hok.fresh hc')
end
section
variable{X:Cx}{sc:Scope}{N2:List Str}{x y:Str}{px EJ tpos:Pos}{x1:Nat}{elt iter:Expr}{iL p pos:Pos}{wi:TI}{te:TE}{P:Addr}
theorem yR{own:List Str}{i:Nat}{z:Str}(B:rA sc.names X.env.scope.names own N2 X.N)(hz:own[i]?=some z)(s:Shared)(H:Hp)(fp:List Addr):PG (X.comp sc (own++N2) s H fp) (.Name z px) (dJ i):=by
 have hi:(X.comp sc (own++N2) s H fp).N[i]?=some z:=by
  show(own++N2)[i]?=some z
  rw[List.getElem?_append_left (List.getElem?_eq_some_iff.mp hz).1];exact hz
 rcases B.own z (List.mem_of_getElem? hz)with e|e
 ·exact aL (i:=i) B.Im hi (.inl (jt (env:=X.env) e (.inl rfl))) (.inr (jt (env:=X.env) e (.inl rfl)))
 ·refine aL (i:=i) B.Im hi (.inr (jt (env:=X.env) e (.inr rfl))) (.inl ?_)
  show(sc.names.lookup z==some NameKind.cell)=true
  rw[e];rfl
def g2(K:PySem.W.Frag):TG:=Nb K 2 (EX (dJ 0) (EX (dJ 1) MZ))
theorem Ga(hc:X.calm=true)(B:rA sc.names X.env.scope.names [x,y] N2 X.N)(s:Shared)(H:Hp)(fp:List Addr):PG (X.comp sc ([x,y]++N2) s H fp) (.Tuple [.Name x px,.Name y EJ] x1 tpos) (g2 X.K):=
 sW (X:=X.comp sc ([x,y]++N2) s H fp) hc (aQ (yR (i:=0) B rfl s H fp) (aQ (yR (i:=1) B rfl s H fp) fH))
theorem Av(hc:X.calm=true)(hi:PI X (.Tuple [.Name x px,.Name y EJ] x1 tpos) iter wi)(hB:Ds sc.names X.env.scope.names [x,y] N2 X.N=true)(hk:sc.kind= .function)(he:∀s H fp,PE (X.comp sc ([x,y]++N2) s H fp) elt te)
  (hs:∀x,foldedSetIterable iter X.env x=pure x:=by intro _;rfl):PE X (.ListComp elt [⟨.Tuple [.Name x px,.Name y EJ] x1 tpos,iter,[],0⟩] sc pos) (pG 2 wi (g2 X.K) te):=
 yL (own:=[x,y]) hc hi (qf hB) hk (λs H fp=>Ga hc (qf hB) s H fp) he hs
end
theorem yS{K:PySem.W.Frag}{H1:Hp}{a b:Addr}{xs ys:List V}{σ:St}{te:TE}{Q:VK}(ha:aP K H1 a xs)(hb:aP K H1 b ys)(hl:xs.length=ys.length)(hz:xs.length<=sizeLine){D:Addr}(hD:H1 D=none)(f:V->V->V)
  (hs:∀(i:Nat) x y,xs[i]?=some x->ys[i]?=some y-> ∀H' (Q':VK),ay H1 H'->Q' (f x y) H'->te (some x::some y::σ) H' Q')
  (hq:∀H',ay H1 H'->H' D=some (.lst (List.zipWith f xs ys)) ->Q (.ref D) H'):ju 2 (g2 K) te σ (NF K a b) H1 D Q:=by
 refine⟨λi m acc σ' H'=>m=xs.length-i/\i<=xs.length/\acc=(List.zipWith f xs ys).take i/\(∃o o',σ'=o::o'::σ)/\ay H1 H'/\H' D=some (.lst acc),⟨xs.length,rfl,Nat.zero_le _,by simp,⟨none,none,rfl⟩,ay.up hD,au⟩,?_⟩
 rintro i m acc σ' H' ⟨rfl,hi,hacc,⟨o,o',rfl⟩,sm,eD⟩
 have Ud:acc.length=i:=by rw[hacc];simp;omega
 by_cases hlt:i<xs.length
 ·have hlt':i<ys.length:=by omega
  refine .inr ⟨⟨xs,ys,xs[i],ys[i],sm.seq ha,sm.seq hb,by simp[hlt],by simp[hlt']⟩,by omega,λv H2 yl=> ?_⟩
  obtain⟨T,x,y,rfl,hT,hx,hy,rfl⟩:=yl
  have ex:=hx xs (sm.seq ha)
  have ey:=hy ys (sm.seq hb)
  have s2:ay H' (upd H' T (.tup [x,y])):=ay.up hT
  refine⟨T,[x,y],rfl,uJ.of au,rfl,x,[y],rfl,y,[],rfl,rfl,?_⟩
  show te (some x::some y::σ) _ _
  refine hs i x y ex ey _ _ (sm.trans s2) ?_
  refine⟨s2 _ _ eD,xs.length- (i+1),by omega,rfl,hlt,?_,⟨_,_,rfl⟩,(sm.trans s2).upd hD,au⟩
  rw[hacc,List.take_succ,List.getElem?_zipWith,ex,ey]
  rfl
 ·have e:i=xs.length:=by omega
  subst e
  refine .inl ⟨⟨xs,ys,sm.seq ha,sm.seq hb,.inl (Nat.le_refl _)⟩,eD,hq H' sm ?_⟩
  rw[eD,hacc]
  rw[List.take_of_length_le (by rw[List.length_zipWith];exact Nat.min_le_left ..)]
section
variable{X:Cx}{sc:Scope}{N2:List Str}{x y:Str}{px EJ:Pos}{elt iter Ci:Expr}{iL p pos:Pos}{wi OC:TI}{te:TE}{P:Addr}
theorem Cs{B:Around}{own:List Str}{i:Nat}{z:Str}(Bk:rA sc.names X.env.scope.names own N2 X.N)(hnc:∀y∈sc.names,y.2≠ .cell)(hz:own[i]?=some z)(code:Value)(s:Shared)(H:Hp)(fp:List Addr):PG (X.gen B sc (own++N2) code s H fp) (.Name z px) (dJ i):=by
 have hi:(X.gen B sc (own++N2) code s H fp).N[i]?=some z:=by
  show(own++N2)[i]?=some z
  rw[List.getElem?_append_left (List.getElem?_eq_some_iff.mp hz).1];exact hz
 rcases Bk.own z (List.mem_of_getElem? hz)with e|e
 ·exact aL (i:=i) Bk.Im hi (.inl e) (.inr e)
 ·exact absurd rfl (hnc _ (mem_of_lookup e))
end
section
variable{prog:Program}{w:World}{A:Around}{E:Value->Shared->Prop}{s:Shared}
theorem vV{it t:Addr}{items:Array Value}(hne:t≠it):∀(n i:Nat)(s:Shared)(Q:List Value->Shared->Prop),s.heap.IsListIter it t i->s.heap.IsList t items->i+n<=items.size->
  (∀h',h'.IsListIter it t (i+n) ->Heap.SameBut it s.heap h'->Q ((items.toList.drop i).take n) {s with heap:=h'}) ->wpAny (model prog w) A (draw (.ref it) n) Q E s
 |0,i,s,Q,hit,_,_,hQ=>by
  show wpAny _ _ (pure []) Q E s
  exact wpAny_pure (by simpa using hQ s.heap hit (Heap.SameBut.refl ..))
 |n+1,i,s,Q,hit,ht,hle,hQ=>by
  have hlt:i<items.size:=by omega
  show wpAny _ _ (pyNext (.ref it)>>=_) Q E s
  refine wpAny_bind (wpAny_pyNext_list_item hit ht (x:=items[i]) (by simp[hlt]) λh₁ Aw hs₁=> ?_)
  refine wpAny_bind (wpAny_holding (vV hne n (i+1) _ _ Aw (ht.extBut hs₁.extBut hne) (by omega) λh₂ Lu hs₂=>wpAny_pure ?_))
  have hd:items.toList.drop i=items[i]::items.toList.drop (i+1):=by simp[List.drop_eq_getElem_cons,hlt]
  have:=hQ h₂ (by rw[show i+(n+1)=i+1+n by omega];exact Lu) (hs₁.trans hs₂)
  rw[hd,List.take_succ_cons]at this
  exact this
theorem xr{t:Addr}{items:Array Value}{targets:List (Bool×(Value->Sem Unit))}{Q:Unit->Shared->Prop}(hh:A.handled=none)(ht:s.heap.IsList t items)
  (hn:targets.length=items.size)(hstar:targets.findIdx? (·.1)=none)
  (h:∀h',Heap.ExtBut s.heap.objs.size s.heap h'->wpAny (model prog w) A (assignInOrder (targets.map (·.2)) items.toList) Q E {s with heap:=h'}):
  wpAny (model prog w) A (unpack (.ref t) targets) Q E s:=by
 have hlt:t≠s.heap.objs.size:=by obtain⟨o,ho,_⟩:=ht;exact Nat.ne_of_lt (Heap.lt_size ho)
 unfold unpack
 rw[hn,hstar]
 refine wpAny_bind (wpAny_holding ?_)
 unfold unpackItems
 refine wpAny_bind ?_
 unfold notIterableAtAll
 refine wpAny_bind (wpAny_specialOf ht.typeIs PySem.F.slot_list_iter.lookup ?_)
 refine wpAny_pure ?_
 simp only[Bool.false_eq_true,if_false]
 refine wpAny_bind (wpAny_holding (wpAny_pyIter_list ht ?_))
 refine wpAny_bind (wpAny_holding (vV hlt items.size 0 _ _ ⟨_,Heap.get?_push_size _ rfl,rfl,rfl⟩ (Heap.IsList.push ht _) (by omega) λh₁ Aw hs₁=> ?_))
 have hall:List.take items.size (List.drop 0 items.toList)=items.toList:=by
  rw[List.drop_zero];exact List.take_of_length_le (by simp)
 rw[hall]
 rw[if_neg (by simp)]
 have ht₁:h₁.IsList t items:=(Heap.IsList.push ht _).extBut hs₁.extBut hlt
 refine wpAny_bind (wpAny_holding (wpAny_pyNext_list_end hh Aw ht₁ (by simp) λh₂ NH=> ?_))
 simp only[Option.isSome_none,Bool.false_eq_true,if_false]
 refine wpAny_pure (h h₂ λb o hb e=>NH b o hb (hs₁.extBut b o hb (Heap.get?_push_of_some _ e)))
end
section
variable{X:Cx}
def NI(K:PySem.W.Frag)(n:Nat)(t:Ia):TG:=λv σ H Q=> ∃a xs,v= .ref a/\aP K H a xs/\xs.length=n/\t xs σ H Q
theorem jh{es:List Expr}{k:Nat}{t:Ia}{n:Nat}{pos:Pos}(hc:X.calm=true)(h:MW X es t)
  (hn:(assignEach es X.env).length=n:=by rfl)(hst:(assignEach es X.env).findIdx? (·.1)=none:=by rfl):PG X (.Tuple es k pos) (NI X.K n t):=by
 intro pins s σ H v u Q I r hw
 obtain⟨a,xs,e1,hq,hl,hw⟩:=hw
 subst e1
 cases r
 obtain⟨its,rv,ht,hz⟩:=I.list hq
 rw[PyProof.Rows.assign_Tuple]
 refine wpAny_bind (wpAny_standAt (xr (I.ok.hd hc) ht.isList (by simp[hn,<-hl,rv.length]) hst λh' hx=> ?_))
 have I1:Inv X pins σ H {s with heap:=h'}:=I.kept (t':=s.toks) λb o e=>hx b o (Nat.ne_of_lt (Heap.lt_size e)) e
 exact h pins _ σ H xs _ Q I1 (by simpa using rv) hw
end
def bf(H:Hp)(a:Addr)(x:Nat->Int):Prop:=H a=some (.lst [.int (x 0),.int (x 1),.int (x 2)])
theorem bf.same{H H':Hp}{a:Addr}{x:Nat->Int}(h:bf H a x)(s:ay H H'):bf H' a x:=s _ _ h
def pairF(m:List (List Int))(x y:Nat->Int)(t:Nat):Int:=x (t/3)*ent m (t/3) (t%3)*y (t%3)
def av(m:List (List Int))(x y:Nat->Int):Int:=PySem.preSum (pairF m x y) 9
theorem bh(m:List (List Int))(x y:Nat->Int):av m x y=
  x 0*ent m 0 0*y 0+x 0*ent m 0 1*y 1+x 0*ent m 0 2*y 2+x 1*ent m 1 0*y 0+x 1*ent m 1 1*y 1+x 1*ent m 1 2*y 2+x 2*ent m 2 0*y 0+x 2*ent m 2 1*y 1+x 2*ent m 2 2*y 2:=by
 show PySem.preSum (pairF m x y) 9=_
 simp only[PySem.preSum,pairF,Nat.reduceDiv,Nat.reduceMod]
 omega
structure cj(m:List (List Int)):Prop where
 sym:ent m 1 0=ent m 0 1/\ent m 2 0=ent m 0 2/\ent m 2 1=ent m 1 2
 Ue:∃a b c,ent m 0 0=2*a/\ent m 1 1=2*b/\ent m 2 2=2*c
def cg(m:List (List Int))(x:Nat->Int):Int:=av m x x/2
theorem d8{m:List (List Int)}(h:cj m)(x:Nat->Int):av m x x=2*cg m x:=by
 obtain⟨⟨s1,s2,s3⟩,a,b,c,e1,e2,e3⟩:=h
 have q:av m x x=2*(x 0*a*x 0+x 1*b*x 1+x 2*c*x 2+x 0*ent m 0 1*x 1+x 0*ent m 0 2*x 2+x 1*ent m 1 2*x 2):=by
  rw[bh,s1,s2,s3,e1,e2,e3];grind
 unfold cg
 rw[q,Int.mul_ediv_cancel_left _ (by decide)]
theorem Gb{f:Nat->Int}{n:Nat}:∀k,(∀t,t<k->(f t).natAbs<2^n) ->(PySem.preSum f k).natAbs<2^(n+k)
 |0,_=>Nat.two_pow_pos _
 |k+1,h=>jx (Gb k λt ht=>h t (by omega)) (aG (h k (by omega)) (Nat.le_add_right n k))
theorem jy{m:List (List Int)}{x y:Nat->Int}{a b c:Nat}(hm:Bd a m)(hx:∀i,i<3->(x i).natAbs<2^b)(hy:∀i,i<3->(y i).natAbs<2^c):(av m x y).natAbs<2^(b+a+c+9):=
 Gb 9 λt ht=>bT (bT (hx _ (by omega)) (hm _ _ (by omega) (Nat.mod_lt _ (by decide)))) (hy _ (Nat.mod_lt _ (by decide)))
section
variable{X:Cx}{pos:Pos}
def NJ(i j k:Nat)(ta:TA):TS:=λD σ H=>ta σ H λvs H1=> ∃v w u,vs=[v,w,u]/\D.nx (((σ.set i (some v)).set j (some w)).set k (some u)) H1
theorem ID{i j k:Nat}{x y z:Str}{a b c:Expr}{ta:TA}{px py pz pt:Pos}{kt k2 KG}(hc:X.calm=true)(hN:X.N.Nodup)(hi:X.N[i]?=some x)(hj:X.N[j]?=some y)(hk:X.N[k]?=some z)(hij:i≠j)(hik:i≠k)(hjk:j≠k)
  (hx:X.env.scope.names.lookup x=some .local)(hy:X.env.scope.names.lookup y=some .local)(hz:X.env.scope.names.lookup z=some .local)(ha:PA X [a,b,c] ta)
  (hw:swappedStores [.Tuple [.Name x px,.Name y py,.Name z pz] kt pt] (.Tuple [a,b,c] k2 KG) X.env=pure (some [x,y,z]))
  (hs:swapsWithSole [.Tuple [.Name x px,.Name y py,.Name z pz] kt pt] (.Tuple [a,b,c] k2 KG) pos.line X.env=pure false:=by rfl):
  PS X (.Assign [.Tuple [.Name x px,.Name y py,.Name z pz] kt pt] (.Tuple [a,b,c] k2 KG) pos) (NJ i j k ta):=by
 intro pins s σ H D I h
 rw[exec_Assign_arm]
 refine wpAny_bind (wpAny_standAt ?_)
 rw[hs]
 refine wpAny_bind (wpAny_pure ?_)
 rw[if_neg (by decide)]
 refine wpAny_bind (Tuple_ (fX (ha _ pins s σ H _ I h) λus s1 ⟨vs,H1,I1,r1,q1⟩=> ?_))
 obtain⟨v,w,u,e1,q1⟩:=q1
 subst e1
 obtain⟨u1,u2,u3,rfl,rv,rw',ru⟩:∃u1 u2 u3,us=[u1,u2,u3]/\RelV v u1/\RelV w u2/\RelV u u3:=by
  cases r1 with
  |cons p q=>
   cases q with
   |cons p' q'=>
    cases q' with
    |cons p'' Ug=>
     cases Ug
     exact⟨_,_,_,rfl,p,p',p''⟩
 refine wpAny_newObj_type ?_ (by show 3<=sizeLine;decide)
 have I2:Inv X pins σ H1 {s1 with heap:=s1.heap.push {cls:= .type "tuple",data:= .seq [u1,u2,u3].toArray}}:=I1.kept (t':=s1.toks) λb o e=>Heap.get?_push_of_some _ e
 rw[hw]
 refine wpAny_bind (wpAny_pure ?_)
 show wpAny (model X.prog X.w) X.A (do rule "assign.swapped-stores";let items<-unpackItems (.ref s1.heap.objs.size) 3 none;assignInOrder [λv=>bindName X.env z v,λv=>bindName X.env y v,λv=>bindName X.env x v] items.reverse;pure Flow.next) _ _ _
 refine wpAny_bind (wpAny_rule (wpAny_bind (unpackItems_tuple (items:= #[u1,u2,u3]) (I.ok.hd hc) (IsTup.new s1.heap _) λh' hx'=> ?_)))
 have I3:=I2.kept (h':=h') (t':=s1.toks) λb o e=>hx' b o (Nat.ne_of_lt (Heap.lt_size e)) e
 show wpAny _ _ (assignInOrder [λv=>bindName X.env z v,λv=>bindName X.env y v,λv=>bindName X.env x v] [u3,u2,u1]>>=λ_=>pure Flow.next) _ _ _
 refine wpAny_bind (assignInOrder_cons (wpAny_bindName (jm I3 hN hk (.inl hz) ru (λs2 I4=> ?_) (.inr hz))))
 refine assignInOrder_cons (wpAny_bindName (jm I4 hN hj (.inl hy) rw' (λs3 I5=> ?_) (.inr hy)))
 refine assignInOrder_cons (wpAny_bindName (jm I5 hN hi (.inl hx) rv (λs4 I6=>assignInOrder_nil (wpAny_pure ?_)) (.inr hx)))
 have e:((σ.set k (some u)).set j (some w)).set i (some v)=((σ.set i (some v)).set j (some w)).set k (some u):=by
  rw[List.set_comm _ _ (Ne.symm hjk),List.set_comm _ _ (Ne.symm hik),List.set_comm _ _ (Ne.symm hij)]
 rw[e]at I6
 exact⟨_,H1,I6,q1⟩
end
def f6(a b c p q r:Int):List (List Int):=mk3 λi j=>match i,j with|0,0=>a|0,1=>p|0,_=>q|1,0=>p|1,1=>b|1,_=>r|_,0=>q|_,1=>r|_,_=>c
theorem yT(a b c p q r:Int):aA (f6 a b c p q r)=a*b*c+2*(p*q*r) -a*(r*r) -b*(q*q) -c*(p*p):=by
 rw[cU]
 show a*(b*c-r*r)+p*(r*q-p*c)+q*(p*r-b*q)=_
 grind
theorem xu{n:Nat}{a b c p q r:Int}(ha:a.natAbs<2^n)(hb:b.natAbs<2^n)(hc:c.natAbs<2^n)(hp:p.natAbs<2^n)(hq:q.natAbs<2^n)(hr:r.natAbs<2^n):Bd n (f6 a b c p q r):=λi j hi hj=>by
 unfold f6
 rw[bE _ hi hj]
 rcases bC hi with rfl|rfl|rfl<;>rcases bC hj with rfl|rfl|rfl<;>assumption
theorem DF(a b c p q r:Int):cj (f6 (2*a) (2*b) (2*c) p q r):=⟨⟨rfl,rfl,rfl⟩,a,b,c,rfl,rfl,rfl⟩
theorem Gd{p a:Int}(h: -a<=p)(h':p<=a):p*p<=a*a:=by
 have h1:0<=a-p:=by omega
 have h2:0<=a+p:=by omega
 have:=Int.mul_nonneg h1 h2
 grind
theorem Ge{a b c p q:Int}(ha:0<a)(hab:a<=b)(hbc:b<=c)(hp: -a<=p)(iK:p<=a)(hq: -a<=q)(hq':q<=a):0<aA (f6 (2*a) (2*b) (2*c) p q 0):=by
 rw[yT]
 have e1:=Gd hp iK
 have e2:=Gd hq hq'
 have hb:0<b:=by omega
 have hc:0<c:=by omega
 have k1:b*(q*q)<=b*(a*a):=Int.mul_le_mul_of_nonneg_left e2 (by omega)
 have k2:c*(p*p)<=c*(a*a):=Int.mul_le_mul_of_nonneg_left e1 (by omega)
 have ab:0<a*b:=Int.mul_pos ha hb
 have Vu:0<a*b*c:=Int.mul_pos ab hc
 have k3:b*(a*a)<=a*b*c:=by
  have:a*b*a<=a*b*c:=Int.mul_le_mul_of_nonneg_left (by omega) (by omega)
  grind
 have k4:c*(a*a)<=a*b*c:=by
  have h0:0<=c*a:=Int.mul_nonneg (by omega) (by omega)
  have:c*a*a<=c*a*b:=Int.mul_le_mul_of_nonneg_left hab h0
  grind
 grind
theorem Gf{p q r:Int}(hp: -1<=p)(iK:p<=1)(hq: -1<=q)(hq':q<=1)(hr: -1<=r)(hr':r<=1):aA (f6 (2*1) (2*1) (2*1) p q r)<=8:=by
 rw[yT]
 have h1:p= -1∨p=0∨p=1:=by omega
 have h2:q= -1∨q=0∨q=1:=by omega
 have h3:r= -1∨r=0∨r=1:=by omega
 rcases h1 with rfl|rfl|rfl<;>rcases h2 with rfl|rfl|rfl<;>rcases h3 with rfl|rfl|rfl<;>decide
theorem Ax{H:Hp}{a b c d:Addr}{x y z:HO}(h0:H a=none)(h1:upd H a x b=none)(h2:upd (upd H a x) b y c=none)(h3:upd (upd (upd H a x) b y) c z d=none):H d=none/\(∀e∈ [a,b,c],H e=none)/\d∉ [a,b,c]:=by
 have s0:ay H (upd H a x):=ay.up h0
 have s1:ay (upd H a x) (upd (upd H a x) b y):=ay.up h1
 have s2:ay (upd (upd H a x) b y) (upd (upd (upd H a x) b y) c z):=ay.up h2
 refine⟨(s0.trans (s1.trans s2)).none h3,λe he=> ?_,λhd=> ?_⟩
 ·simp only[List.mem_cons,List.not_mem_nil,or_false]at he
  rcases he with rfl|rfl|rfl
  ·exact h0
  ·exact s0.none h1
  ·exact(s0.trans s1).none h2
 ·simp only[List.mem_cons,List.not_mem_nil,or_false]at hd
  rcases hd with rfl|rfl|rfl
  ·have:=(s1.trans s2) _ _ (au (H:=H) (a:=d) (o:=x));rw[h3]at this;cases this
  ·have:=s2 _ _ (au (H:=upd H a x) (a:=d) (o:=y));rw[h3]at this;cases this
  ·rw[au]at h3;cases h3
def Ay(m:List (List Int))(i:Nat)(g:Nat->Int):List (List Int):=mk3 λr s=>if r=i then g s else ent m r s
theorem Ct{H:Hp}{D R:Addr}{bs:List Addr}{m:List (List Int)}{i:Nat}{g:Nat->Int}(hT:Tab H D bs m)(bO:cB m)(hi:i<3)(hR:H R=some (.lst [.int (g 0),.int (g 1),.int (g 2)]))(nR:R≠D)(nD:D∉bs):
  Tab (upd H D (.lst ((bs.map V.ref).set i (.ref R)))) D (bs.set i R) (Ay m i g):=by
 obtain⟨b0,x1,x2,_⟩:=aX hT bO (i:=0) (by decide)
 obtain⟨b1,y1,y2,_⟩:=aX hT bO (i:=1) (by decide)
 obtain⟨b2,w1,w2,_⟩:=aX hT bO (i:=2) (by decide)
 have hl3:bs.length=3:=by rw[<-hT.2.length,bO.1]
 obtain⟨a0,a1,a2,rfl⟩:∃a0 a1 a2,bs=[a0,a1,a2]:=by
  match bs,hl3 with
  | [a,b,c],_=>exact⟨a,b,c,rfl⟩
 obtain rfl:a0=b0:=V.ref.inj (Option.some.inj x1)
 obtain rfl:a1=b1:=V.ref.inj (Option.some.inj y1)
 obtain rfl:a2=b2:=V.ref.inj (Option.some.inj w1)
 have n0:a0≠D:=λz=>nD (by rw[<-z];simp)
 have n1:a1≠D:=λz=>nD (by rw[<-z];simp)
 have n2:a2≠D:=λz=>nD (by rw[<-z];simp)
 rcases bC hi with rfl|rfl|rfl
 ·exact iy _ au (by rw[aH nR];exact hR) (by rw[aH n1];exact y2) (by rw[aH n2];exact w2)
 ·exact iy _ au (by rw[aH n0];exact x2) (by rw[aH nR];exact hR) (by rw[aH n2];exact w2)
 ·exact iy _ au (by rw[aH n0];exact x2) (by rw[aH n1];exact y2) (by rw[aH nR];exact hR)
theorem cI(m:List (List Int)){i r s:Nat}(g:Nat->Int)(hr:r<3)(hs:s<3):ent (Ay m i g) r s=if r=i then g s else ent m r s:=bE _ hr hs
theorem IE(m:List (List Int)){i j:Nat}(hi:i<3)(hj:j<3)(hij:i≠j)(o:Int):aA (Ay m i λs=>ent m i s+o*ent m j s)=aA m:=by
 rw[cU,cU]
 simp only[cI m _ (show 0<3 by decide) (show 0<3 by decide),cI m _ (show 0<3 by decide) (show 1<3 by decide),cI m _ (show 0<3 by decide) (show 2<3 by decide),cI m _ (show 1<3 by decide) (show 0<3 by decide),cI m _ (show 1<3 by decide) (show 1<3 by decide),cI m _ (show 1<3 by decide) (show 2<3 by decide),cI m _ (show 2<3 by decide) (show 0<3 by decide),cI m _ (show 2<3 by decide) (show 1<3 by decide),cI m _ (show 2<3 by decide) (show 2<3 by decide)]
 rcases bC hi with rfl|rfl|rfl<;>rcases bC hj with rfl|rfl|rfl<;>first|(exact absurd rfl hij)|(simp only[Nat.reduceEqDiff,if_true,if_false];grind)
theorem DG(m:List (List Int)){i:Nat}(hi:i<3)(o:Int):aA (Ay m i λs=>o*ent m i s)=o*aA m:=by
 rw[cU,cU]
 simp only[cI m _ (show 0<3 by decide) (show 0<3 by decide),cI m _ (show 0<3 by decide) (show 1<3 by decide),cI m _ (show 0<3 by decide) (show 2<3 by decide),cI m _ (show 1<3 by decide) (show 0<3 by decide),cI m _ (show 1<3 by decide) (show 1<3 by decide),cI m _ (show 1<3 by decide) (show 2<3 by decide),cI m _ (show 2<3 by decide) (show 0<3 by decide),cI m _ (show 2<3 by decide) (show 1<3 by decide),cI m _ (show 2<3 by decide) (show 2<3 by decide)]
 rcases bC hi with rfl|rfl|rfl<;>simp only[Nat.reduceEqDiff,if_true,if_false]<;>grind
def Az(m:List (List Int))(k:Nat):List (List Int):=mk3 λr s=>ent m ((r+k)%3) s
theorem IF(m:List (List Int)){k:Nat}(hk:k<3):aA (Az m k)=aA m:=by
 rw[cU,cU]
 unfold Az
 simp only[bE _ (show 0<3 by decide) (show 0<3 by decide),bE _ (show 0<3 by decide) (show 1<3 by decide),bE _ (show 0<3 by decide) (show 2<3 by decide),bE _ (show 1<3 by decide) (show 0<3 by decide),bE _ (show 1<3 by decide) (show 1<3 by decide),bE _ (show 1<3 by decide) (show 2<3 by decide),bE _ (show 2<3 by decide) (show 0<3 by decide),bE _ (show 2<3 by decide) (show 1<3 by decide),bE _ (show 2<3 by decide) (show 2<3 by decide)]
 rcases bC hk with rfl|rfl|rfl<;>simp only[Nat.reduceAdd,Nat.reduceMod]<;>grind
structure FE(X:Cx)(e:Expr)(t:TE):Prop where
 h:PE X e t
structure FA(X:Cx)(es:List Expr)(t:TA):Prop where
 h:PA X es t
variable{X:Cx}
theorem iO{i j pos}:FE X (.Constant (.int i) j pos) (tC (.int i)):=⟨ah⟩
theorem tK:FA X [] jo:=⟨aj⟩
theorem eY{e es te t}(ha:FE X e te)(hr:FA X es t)(hs:starEach (e::es) X.env=(false,eval e X.env)::starEach es X.env):FA X (e::es) (cW te t):=⟨af ha.h hr.h hs⟩
theorem tL{es t pos}(h:FA X es t):FE X (.List es pos) (Nk t):=⟨dG h.h⟩
theorem Lv{i:Nat}{x:Str}{e:Expr}{te:TE}{pos' pos:Pos}{b:List Stmt}{tb:TS}(hN:X.N.Nodup)(hi:X.N[i]?=some x)(hx:Loc X.env.scope x)(he:FE X e te)(hs:swapsWith e (some (.Name x pos')) pos.line X.env=pure false)(hf:X.fn x=true∨X.env.scope.names.lookup x=some .local)(hb:FY X b tb):
  FY X (.Assign [.Name x pos'] e pos::b) (uO (EZ te (dJ i)) tb):=ak (aD hN hi hx he.h hs hf) hb
theorem Lw{e:Expr}{te:TE}{pos:Pos}(he:FE X e te):FY X [.Return (some e) pos] (MT te):=aI (aT he.h)
theorem toF{st:List Stmt}{R:TS->Prop}(h:∃t,FY X st t/\R t):∃t,wO X st t/\R t:=by
 obtain⟨t,a,b⟩:=h
 exact⟨t,a.h,b⟩
theorem II{H H':Hp}{D r:Addr}{bs:List Addr}{m:List (List Int)}{k:Nat}(hT:Tab H D bs m)(bO:cB m)(hk:k<3)(s:ay H H')(hn:H r=none)(hr:H' r=some (.lst (qd (bs.map V.ref) (some (k:Int)) none++qd (bs.map V.ref) none (some (k:Int))))):
  ∃bs',Tab H' r bs' (Az m k)/\(∀b∈bs',b∈bs)/\r∉bs':=by
 obtain⟨b0,x1,x2,_⟩:=aX hT bO (i:=0) (by decide)
 obtain⟨b1,y1,y2,_⟩:=aX hT bO (i:=1) (by decide)
 obtain⟨b2,w1,w2,_⟩:=aX hT bO (i:=2) (by decide)
 have hl3:bs.length=3:=by rw[<-hT.2.length,bO.1]
 obtain⟨a0,a1,a2,rfl⟩:∃a0 a1 a2,bs=[a0,a1,a2]:=by
  match bs,hl3 with
  | [a,b,c],_=>exact⟨a,b,c,rfl⟩
 obtain rfl:a0=b0:=V.ref.inj (Option.some.inj x1)
 obtain rfl:a1=b1:=V.ref.inj (Option.some.inj y1)
 obtain rfl:a2=b2:=V.ref.inj (Option.some.inj w1)
 have n0:r≠a0:=Ne.symm (cX x2 hn)
 have n1:r≠a1:=Ne.symm (cX y2 hn)
 have n2:r≠a2:=Ne.symm (cX w2 hn)
 rcases bC hk with rfl|rfl|rfl
 ·exact⟨[a0,a1,a2],iy _ hr (s _ _ x2) (s _ _ y2) (s _ _ w2),by simp,by simp[n0,n1,n2]⟩
 ·exact⟨[a1,a2,a0],iy _ hr (s _ _ y2) (s _ _ w2) (s _ _ x2),by simp,by simp[n0,n1,n2]⟩
 ·exact⟨[a2,a0,a1],iy _ hr (s _ _ w2) (s _ _ x2) (s _ _ y2),by simp,by simp[n0,n1,n2]⟩
theorem IJ{n:Nat}{m:List (List Int)}{k:Nat}(h:Bd n m):Bd n (Az m k):=by
 intro i j hi hj
 unfold Az
 rw[bE _ hi hj]
 exact h _ j (Nat.mod_lt _ (by decide)) hj
def b7(m:List (List Int)):Bool:=decide (0<ent m 0 0) && (decide (ent m 0 1*ent m 0 1<ent m 0 0*ent m 1 1) && decide (0<aA m))
theorem iz{m:List (List Int)}(h:cQ m=m){i j:Nat}(hi:i<3)(hj:j<3):ent m j i=ent m i j:=by
 rw[<-aV m hi hj,h]
theorem NK(m:List (List Int)):av m (λi=>if i=0 then 1 else 0) (λi=>if i=0 then 1 else 0)=ent m 0 0:=by
 rw[bh]
 simp
theorem NL{m:List (List Int)}(h:cQ m=m)(x:Nat->Int)(h0:x 0= -ent m 0 1)(h1:x 1=ent m 0 0)(h2:x 2=0):av m x x=ent m 0 0*(ent m 0 0*ent m 1 1-ent m 0 1*ent m 0 1):=by
 rw[bh,h0,h1,h2,iz h (i:=0) (j:=1) (by decide) (by decide)]
 grind
theorem NN(m:List (List Int)):av m (λj=>ent (iN m) 2 j) (λj=>ent (iN m) 2 j)=aA m*ent (iN m) 2 2:=by
 have e:∀j,j<3->ent (iN m) 2 0*ent m 0 j+ent (iN m) 2 1*ent m 1 j+ent (iN m) 2 2*ent m 2 j=if 2=j then aA m else 0:=λj hj=>by
  rw[<-aJ _ _ (by decide) hj,yQ,pL,bE _ (by decide) hj]
 have e0:=e 0 (by decide)
 have e1:=e 1 (by decide)
 have e2:=e 2 (by decide)
 rw[if_neg (by decide)]at e0 e1
 rw[if_pos rfl]at e2
 rw[bh,<-e2]
 grind
theorem JU(m:List (List Int)):ent (iN m) 2 2=ent m 0 0*ent m 1 1-ent m 0 1*ent m 1 0:=by
 rw[mw m (by decide) (by decide)]
 rfl
theorem Gg{H:Hp}{a b c:Addr}{x y:HO}(h0:H a=none)(h1:upd H a x b=none)(h2:upd (upd H a x) b y c=none): [a,b,c].Nodup:=by
 have n1:a≠b:=λe=>by rw[e,au]at h1;cases h1
 have n2:b≠c:=λe=>by rw[e,au]at h2;cases h2
 have n3:a≠c:=λe=>by rw[aH (λz=>n2 z.symm),e,au]at h2;cases h2
 simp[n1,n2,n3]
section
variable{X:Cx}
end
def dz(x:Nat->Int)(b:List (List Int)):Nat->Int:=λj=>x 0*ent b 0 j+x 1*ent b 1 j+x 2*ent b 2 j
theorem DH(b m:List (List Int))(x y:Nat->Int):av (iC b m) x y=av m (dz x b) y:=by
 rw[bh,bh]
 unfold dz
 simp only[aJ b m (show 0<3 by decide) (show 0<3 by decide),aJ b m (show 0<3 by decide) (show 1<3 by decide),aJ b m (show 0<3 by decide) (show 2<3 by decide),aJ b m (show 1<3 by decide) (show 0<3 by decide),aJ b m (show 1<3 by decide) (show 1<3 by decide),aJ b m (show 1<3 by decide) (show 2<3 by decide),aJ b m (show 2<3 by decide) (show 0<3 by decide),aJ b m (show 2<3 by decide) (show 1<3 by decide),aJ b m (show 2<3 by decide) (show 2<3 by decide)]
 grind
theorem AA(b m:List (List Int))(x y:Nat->Int):av (iC m (cQ b)) x y=av m x (dz y b):=by
 rw[bh,bh]
 unfold dz
 simp only[aJ m (cQ b) (show 0<3 by decide) (show 0<3 by decide),aJ m (cQ b) (show 0<3 by decide) (show 1<3 by decide),aJ m (cQ b) (show 0<3 by decide) (show 2<3 by decide),aJ m (cQ b) (show 1<3 by decide) (show 0<3 by decide),aJ m (cQ b) (show 1<3 by decide) (show 1<3 by decide),aJ m (cQ b) (show 1<3 by decide) (show 2<3 by decide),aJ m (cQ b) (show 2<3 by decide) (show 0<3 by decide),aJ m (cQ b) (show 2<3 by decide) (show 1<3 by decide),aJ m (cQ b) (show 2<3 by decide) (show 2<3 by decide),
  aV b (show 0<3 by decide) (show 0<3 by decide),aV b (show 0<3 by decide) (show 1<3 by decide),aV b (show 0<3 by decide) (show 2<3 by decide),aV b (show 1<3 by decide) (show 0<3 by decide),aV b (show 1<3 by decide) (show 1<3 by decide),aV b (show 1<3 by decide) (show 2<3 by decide),aV b (show 2<3 by decide) (show 0<3 by decide),aV b (show 2<3 by decide) (show 1<3 by decide),aV b (show 2<3 by decide) (show 2<3 by decide)]
 grind
theorem vW(m b:List (List Int))(x y:Nat->Int):av (fK m b) x y=av m (dz x b) (dz y b):=by
 unfold fK
 rw[AA,DH]
theorem xw{a b:Int}(h:0<a*b)(ha:0<a):0<b:=by
 rcases Int.lt_or_le 0 b with z|z
 ·exact z
 ·have:=Int.mul_nonpos_of_nonneg_of_nonpos (show 0<=a by omega) z
  omega
def AB(m:List (List Int)):Prop:=∀x:Nat->Int,¬(x 0=0/\x 1=0/\x 2=0) ->0<av m x x
theorem vX{m:List (List Int)}(hS:cQ m=m)(h:AB m):b7 m=true:=by
 have c1:0<ent m 0 0:=by
  have:=h (λi=>if i=0 then 1 else 0) (λz=>by simp at z)
  rw[NK]at this
  exact this
 have c2:ent m 0 1*ent m 0 1<ent m 0 0*ent m 1 1:=by
  have:=h (λi=>match i with|0=> -ent m 0 1|1=>ent m 0 0|_=>0) (λz=>by have y:ent m 0 0=0:=z.2.1;omega)
  rw[NL hS _ rfl rfl rfl]at this
  have:=xw this c1
  omega
 have RJ:0<ent (iN m) 2 2:=by
  rw[JU,iz hS (i:=0) (j:=1) (by decide) (by decide)]
  omega
 have c3:0<aA m:=by
  have:=h (λj=>ent (iN m) 2 j) (λz=>by have y:ent (iN m) 2 2=0:=z.2.2;omega)
  rw[NN]at this
  exact xw (by rw[Int.mul_comm];exact this) RJ
 unfold b7
 rw[decide_eq_true c1,decide_eq_true c2,decide_eq_true c3]
 rfl
theorem gv{m:List (List Int)}(h:b7 m=true):0<ent m 0 0/\ent m 0 1*ent m 0 1<ent m 0 0*ent m 1 1/\0<aA m:=by
 unfold b7 at h
 simp only[Bool.and_eq_true,decide_eq_true_eq]at h
 exact⟨h.1,h.2.1,h.2.2⟩
theorem aZ(a:Int):0<=a*a:=by
 rcases Int.le_total 0 a with h|h
 ·exact Int.mul_nonneg h h
 ·have:=Int.mul_nonneg (show 0<= -a by omega) (show 0<= -a by omega)
  rwa [Int.neg_mul_neg]at this
theorem xx{a:Int}(h:a*a<=0):a=0:=by
 have:=aZ a
 have:a*a=0:=by omega
 rcases Int.mul_eq_zero.mp this with z|z<;>exact z
theorem Gh{m:List (List Int)}(hS:cQ m=m)(x:Nat->Int):ent m 0 0*(ent m 0 0*ent m 1 1-ent m 0 1*ent m 0 1)*av m x x=
  (ent m 0 0*ent m 1 1-ent m 0 1*ent m 0 1)*((ent m 0 0*x 0+ent m 0 1*x 1+ent m 0 2*x 2)*(ent m 0 0*x 0+ent m 0 1*x 1+ent m 0 2*x 2))
  +((ent m 0 0*ent m 1 1-ent m 0 1*ent m 0 1)*x 1+(ent m 0 0*ent m 1 2-ent m 0 1*ent m 0 2)*x 2)*((ent m 0 0*ent m 1 1-ent m 0 1*ent m 0 1)*x 1+(ent m 0 0*ent m 1 2-ent m 0 1*ent m 0 2)*x 2)
  +ent m 0 0*aA m*(x 2*x 2):=by
 rw[bh,cU,iz hS (i:=0) (j:=1) (by decide) (by decide),iz hS (i:=0) (j:=2) (by decide) (by decide),iz hS (i:=1) (j:=2) (by decide) (by decide)]
 generalize ent m 0 0=a,ent m 0 1=p,ent m 0 2=q,ent m 1 1=b,ent m 1 2=r,ent m 2 2=c
 generalize x 0=u,x 1=v,x 2=w
 grind
theorem g8{m:List (List Int)}(hS:cQ m=m)(h:b7 m=true):AB m:=by
 intro x n0
 obtain⟨c1,c2,c3⟩:=gv h
 have e:=Gh hS x
 have f1:0<ent m 0 0*ent m 1 1-ent m 0 1*ent m 0 1:=by omega
 generalize ent m 0 0*ent m 1 1-ent m 0 1*ent m 0 1=fl at e f1
 have q1:=aZ (ent m 0 0*x 0+ent m 0 1*x 1+ent m 0 2*x 2)
 have q2:=aZ (fl*x 1+(ent m 0 0*ent m 1 2-ent m 0 1*ent m 0 2)*x 2)
 have q3:=aZ (x 2)
 have r1:=Int.mul_nonneg (show 0<=fl by omega) q1
 have d1:=Int.mul_pos c1 c3
 have r3:=Int.mul_nonneg (show 0<=ent m 0 0*aA m by omega) q3
 have g1:=Int.mul_pos c1 f1
 refine xw ?_ g1
 rcases Int.lt_or_le 0 (ent m 0 0*fl*av m x x)with z|z
 ·exact z
 ·exfalso
  have s3:ent m 0 0*aA m*(x 2*x 2)<=0:=by omega
  have s2:=xx (a:=fl*x 1+(ent m 0 0*ent m 1 2-ent m 0 1*ent m 0 2)*x 2) (by omega)
  have s1:fl*((ent m 0 0*x 0+ent m 0 1*x 1+ent m 0 2*x 2)*(ent m 0 0*x 0+ent m 0 1*x 1+ent m 0 2*x 2))<=0:=by omega
  have x2:x 2=0:=by
   refine xx ?_
   rcases Int.lt_or_le 0 (x 2*x 2)with y|y
   ·have:=Int.mul_pos d1 y
    omega
   ·exact y
  rw[x2,Int.mul_zero,Int.add_zero]at s2
  have x1:x 1=0:=by
   rcases Int.mul_eq_zero.mp s2 with y|y
   ·omega
   ·exact y
  rw[x1,x2,Int.mul_zero,Int.mul_zero,Int.add_zero,Int.add_zero]at s1
  have x0:x 0=0:=by
   have:ent m 0 0*x 0=0:=by
    refine xx ?_
    rcases Int.lt_or_le 0 (ent m 0 0*x 0*(ent m 0 0*x 0))with y|y
    ·have:=Int.mul_pos f1 y
     omega
    ·exact y
   rcases Int.mul_eq_zero.mp this with y|y
   ·omega
   ·exact y
  exact n0 ⟨x0,x1,x2⟩
theorem AD(b:List (List Int)):aA (cQ b)=aA b:=by
 rw[cU,cU]
 simp only[aV b (show 0<3 by decide) (show 0<3 by decide),aV b (show 0<3 by decide) (show 1<3 by decide),aV b (show 0<3 by decide) (show 2<3 by decide),aV b (show 1<3 by decide) (show 0<3 by decide),aV b (show 1<3 by decide) (show 1<3 by decide),aV b (show 1<3 by decide) (show 2<3 by decide),aV b (show 2<3 by decide) (show 0<3 by decide),aV b (show 2<3 by decide) (show 1<3 by decide),aV b (show 2<3 by decide) (show 2<3 by decide)]
 grind
def pN(d:Int):Prop:=d=1∨d= -1
theorem yU{m b:List (List Int)}(hb:pN (aA b)):aA (fK m b)=aA m:=by
 unfold fK
 rw[vU,vU,AD]
 rcases hb with h|h<;>rw[h]<;>omega
def mz(b:List (List Int)):List (List Int):=mk3 λi j=>aA b*ent (iN b) i j
theorem DI{b:List (List Int)}(hb:pN (aA b)):iC (mz b) b=pL 1:=by
 have e:=yQ b
 have h2:aA b*aA b=1:=by rcases hb with h|h<;>rw[h]<;>rfl
 refine g7 λi j hi hj=> ?_
 have e':ent (iC (iN b) b) i j=ent (pL (aA b)) i j:=by rw[e]
 rw[aJ _ _ hi hj,pL,bE _ hi hj]at e'
 unfold mz
 rw[bE _ hi (show 0<3 by decide),bE _ hi (show 1<3 by decide),bE _ hi (show 2<3 by decide)]
 have:aA b*ent (iN b) i 0*ent b 0 j+aA b*ent (iN b) i 1*ent b 1 j+aA b*ent (iN b) i 2*ent b 2 j=aA b*(ent (iN b) i 0*ent b 0 j+ent (iN b) i 1*ent b 1 j+ent (iN b) i 2*ent b 2 j):=by grind
 rw[this,e']
 split
 ·exact h2
 ·exact Int.mul_zero _
theorem yV{b:List (List Int)}(hb:pN (aA b))(x:Nat->Int)(h:dz x b 0=0/\dz x b 1=0/\dz x b 2=0):x 0=0/\x 1=0/\x 2=0:=by
 obtain⟨h0,h1,h2⟩:=h
 unfold dz at h0 h1 h2
 have d0:aA b≠0:=by rcases hb with z|z<;>rw[z]<;>decide
 have k:∀z:Int,aA b*z=0->z=0:=λz e=>by
  rcases Int.mul_eq_zero.mp e with y|y
  ·exact absurd y d0
  ·exact y
 refine⟨k _ ?_,k _ ?_,k _ ?_⟩<;>rw[cU]<;>grind
theorem Gi{m b:List (List Int)}(h:AB m)(hb:pN (aA b)):AB (fK m b):=λx n0=>by
 rw[vW]
 exact h _ λz=>n0 (yV hb x z)
theorem tM{m b:List (List Int)}(hS:cQ m=m)(h:b7 m=true)(cb:cB b)(hb:pN (aA b)):b7 (fK m b)=true:=
 vX ((vS b cb).trans (congrArg (fK · b) hS)) (Gi (g8 hS h) hb)
theorem d9{m:List (List Int)}(h:cj m)(c:cB m):cQ m=m:=by
 obtain⟨⟨s1,s2,s3⟩,_⟩:=h
 conv=>rhs;rw[xq c]
 refine g7 λi j hi hj=> ?_
 rcases bC hi with rfl|rfl|rfl<;>rcases bC hj with rfl|rfl|rfl<;>first|rfl|assumption|(symm;assumption)
theorem yW(m b:List (List Int)){i j:Nat}(hi:i<3)(hj:j<3):ent (fK m b) i j=av m (λk=>ent b i k) (λk=>ent b j k):=by
 unfold fK
 rw[aJ _ _ hi hj,aJ _ _ hi (by decide),aJ _ _ hi (by decide),aJ _ _ hi (by decide),aV b (by decide) hj,aV b (by decide) hj,aV b (by decide) hj,bh]
 grind
theorem vY{m b:List (List Int)}(h:cj m)(c:cB m)(cb:cB b):cj (fK m b):=by
 have hS:=(vS b cb).trans (congrArg (fK · b) (d9 h c))
 refine⟨⟨iz hS (i:=0) (j:=1) (by decide) (by decide),iz hS (i:=0) (j:=2) (by decide) (by decide),iz hS (i:=1) (j:=2) (by decide) (by decide)⟩,cg m (λk=>ent b 0 k),cg m (λk=>ent b 1 k),cg m (λk=>ent b 2 k),?_,?_,?_⟩<;>rw[yW m b (by decide) (by decide),d8 h]
theorem AE{a b c p q r:Int}(ha:0<a)(hab:a<=b)(hp: -a<=p)(iK:p<=a)(hd:0<aA (f6 (2*a) (2*b) (2*c) p q r)):b7 (f6 (2*a) (2*b) (2*c) p q r)=true:=by
 have h1:=Gd hp iK
 have h2:a*a<=a*b:=Int.mul_le_mul_of_nonneg_left hab (by omega)
 have h3:0<a*b:=Int.mul_pos ha (by omega)
 have h4:p*p<2*a*(2*b):=by
  have:2*a*(2*b)=4*(a*b):=by grind
  omega
 unfold b7
 rw[decide_eq_true hd,decide_eq_true (p:=0<ent (f6 (2*a) (2*b) (2*c) p q r) 0 0) (by show 0<2*a;omega),decide_eq_true (p:=ent (f6 (2*a) (2*b) (2*c) p q r) 0 1*ent (f6 (2*a) (2*b) (2*c) p q r) 0 1<ent (f6 (2*a) (2*b) (2*c) p q r) 0 0*ent (f6 (2*a) (2*b) (2*c) p q r) 1 1) h4]
 rfl
theorem IK{x:Nat->Int}{b:List (List Int)}{p n:Nat}(hx:∀i,i<3->(x i).natAbs<2^p)(hb:Bd n b)(j:Nat)(hj:j<3):(dz x b j).natAbs<2^(p+n+2):=
 jx (jx (bT (hx 0 (by decide)) (hb 0 j (by decide) hj)) (bT (hx 1 (by decide)) (hb 1 j (by decide) hj))) (aG (bT (hx 2 (by decide)) (hb 2 j (by decide) hj)) (Nat.le_succ _))
section
variable{X:Cx}{sc:Scope}{N2:List Str}{x y:Str}{px EJ tpos:Pos}{x1:Nat}{elt iter:Expr}{iL p pos:Pos}{wi:TI}{te:TE}{P:Addr}
end
mutual
inductive DV(H:Hp):V->PyData->Prop
 |jc:DV H .jc .none
 |bl(b:Bool):DV H (.bl b) (.bool b)
 |int(i:Int):DV H (.int i) (.int i)
 |str(x:Str):DV H (.str x) (.str x)
 |lst{a:Addr}{xs:List V}{ds:List PyData}:H a=some (.lst xs) ->yX H xs ds->DV H (.ref a) (.list ds)
 |tup{a:Addr}{xs:List V}{ds:List PyData}:H a=some (.tup xs) ->yX H xs ds->DV H (.ref a) (.tuple ds)
inductive yX(H:Hp):List V->List PyData->Prop
 |nil:yX H [] []
 |cons{x:V}{d:PyData}{xs:List V}{ds:List PyData}:DV H x d->yX H xs ds->yX H (x::xs) (d::ds)
end
mutual
theorem DV.same{H H':Hp}(s:ay H H'):∀{x:V}{d:PyData},DV H x d->DV H' x d
 |_,_,.jc=> .jc
 |_,_,.bl b=> .bl b
 |_,_,.int i=> .int i
 |_,_,.str x=> .str x
 |_,_,.lst e q=> .lst (s _ _ e) (yX.same s q)
 |_,_,.tup e q=> .tup (s _ _ e) (yX.same s q)
theorem yX.same{H H':Hp}(s:ay H H'):∀{xs:List V}{ds:List PyData},yX H xs ds->yX H' xs ds
 |_,_,.nil=> .nil
 |_,_,.cons a q=> .cons (DV.same s a) (yX.same s q)
end
theorem yX.length{H:Hp}:∀{xs:List V}{ds:List PyData},yX H xs ds->xs.length=ds.length
 |_,_,.nil=>rfl
 |_,_,.cons _ q=>congrArg (· +1) (yX.length q)
theorem yX.get{H:Hp}:∀{xs:List V}{ds:List PyData}{i:Nat}{x:V},yX H xs ds->xs[i]?=some x-> ∃d,ds[i]?=some d/\DV H x d
 |_,_,0,_,.cons a q,e=>by cases e;exact⟨_,rfl,a⟩
 |_,_,i+1,_,.cons a q,e=>yX.get (i:=i) q (by simpa using e)
def Uh:PyData->Value
 | .none=> .type "NoneType"
 | .bool _=> .type "bool"
 | .int _=> .type "int"
 | .str _=> .type "str"
 | .list _=> .type "list"
 | .tuple _=> .type "tuple"
 |_=> .none
theorem DV.ty(K:PySem.W.Frag){H:Hp}{x:V}{d:PyData}(h:DV H x d):nQ K H x (Uh d):=by
 cases h with
 |jc=>exact .jc
 |bl b=>exact .bl b
 |int i=>exact .int i
 |str s=>exact .str s
 |lst e _=>exact .lst e
 |tup e _=>exact .tup e
theorem AF{J:It}{H1:Hp}{xs:List V}{σ:St}{te:TE}{Q:VK}(jw:JW J H1 xs)(hz:xs.length<=sizeLine){D:Addr}(hD:H1 D=none)(f:V->HO)
  (hs:∀x∈xs,∀H' (Q':VK),ay H1 H'->(∀b H2,H' b=none->ay H' H2->H2 b=some (f x) ->Q' (.ref b) H2) ->te (some x::σ) H' Q')
  (hq:∀bs H',ay H1 H'->H' D=some (.lst (bs.map V.ref)) ->(∀b∈bs,H1 b=none) ->D∉bs->bs.Nodup->Paired (λx b=>H' b=some (f x)) xs bs->Q (.ref D) H'):
  ju 1 (dJ 0) te σ J H1 D Q:=by
 refine pH jw hz hD (λpre acc H'=> ∃bs:List Addr,acc=bs.map V.ref/\(∀b∈bs,H1 b=none/\H' b≠none)/\D∉bs/\bs.Nodup/\Paired (λx b=>H' b=some (f x)) pre bs) ⟨[],rfl,λ_ h=>(nomatch h),by simp,List.nodup_nil,.nil⟩ (λpre x post acc H' Q' e hl sm eD p k=> ?_) (λacc H' hl sm eD p=> ?_)
 ·obtain⟨bs,rfl,fr,nD,nn,pr⟩:=p
  refine hs x (by rw[e];simp) H' _ sm λb H2 hb s2 eb=> ?_
  have nb:b≠D:=λz=>by rw[z,eD]at hb;cases hb
  refine k _ _ s2 ⟨bs++ [b],by simp,?_,?_,?_,?_⟩
  ·intro c hc
   rcases List.mem_append.mp hc with z|z
   ·refine⟨(fr c z).1,λy=> ?_⟩
    rw[aH (λw=>nD (by rw[<-w];exact z))]at y
    exact(fr c z).2 (s2.none y)
   ·rw[List.mem_singleton.mp z]
    refine⟨sm.none hb,λy=> ?_⟩
    rw[aH nb,eb]at y
    cases y
  ·intro z
   rcases List.mem_append.mp z with z|z
   ·exact nD z
   ·exact nb (List.mem_singleton.mp z).symm
  ·rw[List.nodup_append]
   refine⟨nn,by simp,λc hc d hd z=> ?_⟩
   rw[List.mem_singleton.mp hd]at z
   exact(fr c hc).2 (by rw[z];exact hb)
  ·refine Paired.snoc (pr.FN λy c hc q=> ?_) (by rw[aH nb];exact eb)
   rw[aH (λz=>nD (by rw[<-z];exact hc))]
   exact s2 _ _ q
 ·obtain⟨bs,rfl,fr,nD,nn,pr⟩:=p
  exact hq bs H' sm eD (λb hb=>(fr b hb).1) nD nn pr
theorem Gj{K:PySem.W.Frag}{H:Hp}{t:Addr}{bs:List Addr}{m:List (List Int)}{σ:St}{Q:VK}(h:Tab H t bs m)(hz:m.length<=sizeLine){D:Addr}(hD:H D=none)
  (hq:∀bs' H',ay H H'->(∀b∈bs',H b=none) ->D∉bs'->bs'.Nodup->Tab H' D bs' m->Q (.ref D) H'):ju 1 (dJ 0) (Mt (Cn K) (cW (bH 0) jo)) σ (KH K t) H D Q:=by
 refine AF (jg (aP.of h.1)) (by rw[List.length_map,<-h.2.length];exact hz) hD (λx=> .lst (itemsOf H id x)) (λx hx H' Q' sm k=> ?_) (λbs' H' sm eD fr nD nn pr=> ?_)
 ·obtain⟨b,rfl,hb⟩:=tF hx
  obtain⟨row,Ui,eb⟩:=Lq h.2 hb
  refine⟨_,rfl,b,_,rfl,.inl (aP.of (sm _ _ eb)),λl hl=>k l _ hl (ay.up hl) ?_⟩
  rw[au,rC eb,List.map_id]
 ·refine hq bs' H' sm fr nD nn ⟨eD,?_⟩
  have:=vR (g:=id) h.2 pr λrow b e=>by rw[rC e,List.map_id];rfl
  rwa [List.map_id]at this
section
variable{X:Cx}
theorem dO:FY X [] JE:=⟨HZ⟩
end
theorem cY{X:Cx}{c:Expr}{a b:List Stmt}{tc:TT}{t u:TS}{pos:Pos}(hc:PT X c tc)(ha:FY X a t)(hb:FY X b u):PS X (.If c a b pos) (MU tc t u):=MV hc ha.h hb.h
section
variable{prog:Program}{w:World}{A:Around}{R:Result->Shared->Prop}{s:Shared}
end
section
variable{X:Cx}{sc:Scope}{own N2:List Str}
end
section
variable{X:Cx}{sc:Scope}{N2:List Str}{x:Str}{px:Pos}{elt iter c:Expr}{pos:Pos}{wi:TI}{tt:TT}{te:TE}
end
end L2
namespace L2
end L2
namespace L2
open PySem PySem.Spec PyProof.Rows
def rD(H:Hp)(B:Addr):Prop:=∃g s:Int,H B=some (.lst [.int g,.int s])/\0<=g/\0<=s
def SB(B:Addr)(H H':Hp):Prop:=(∀a o,a≠B->H a=some o->H' a=some o)/\rD H' B
theorem SB.refl{B:Addr}{H:Hp}(h:rD H B):SB B H H:=⟨λ_ _ _ e=>e,h⟩
theorem SB.trans{B:Addr}{H H' NO:Hp}(h:SB B H H')(h':SB B H' NO):SB B H NO:=⟨λa o n e=>h'.1 a o n (h.1 a o n e),h'.2⟩
theorem rD.same{H H':Hp}{B:Addr}(h:rD H B)(s:ay H H'):rD H' B:=by
 obtain⟨g,t,e,r⟩:=h
 exact⟨g,t,s _ _ e,r⟩
theorem SB.of{B:Addr}{H H':Hp}(b:rD H B)(s:ay H H'):SB B H H':=⟨λa o _ e=>s _ _ e,b.same s⟩
theorem SB.gone{B:Addr}{H H':Hp}(h:SB B H H'){r:Addr}(e:H' r=none):H r=none:=by
 cases q:H r with
 |none=>rfl
 |some o=>
  by_cases z:r=B
  ·obtain⟨g,t,e2,_⟩:=h.2
   rw[<-z,e]at e2
   cases e2
  ·rw[h.1 r o z q]at e
   cases e
theorem SB.ne{B:Addr}{H H':Hp}(h:SB B H H'){r:Addr}(e:H' r=none):r≠B:=λz=>by
 obtain⟨g,t,e2,_⟩:=h.2
 rw[<-z,e]at e2
 cases e2
theorem rD.ne{H:Hp}{B r:Addr}(h:rD H B)(e:H r=none):r≠B:=(SB.refl h).ne e
end L2
namespace L2
end L2
namespace L2
open PySem PySem.Spec PyProof.Rows
def bL(r:List Int):Nat->Int:=λi=>r.getD i 0
section
variable{X:Cx}{sc:Scope}{N2:List Str}{x y:Str}{px EJ tpos:Pos}{x1:Nat}{elt iter:Expr}{iL p pos:Pos}{wi:TI}{te:TE}{P:Addr}
theorem IL{B:Around}(hc:X.calm=true)(Bk:rA sc.names X.env.scope.names [x,y] N2 X.N)(hnc:∀y∈sc.names,y.2≠ .cell)(code:Value)(s:Shared)(H:Hp)(fp:List Addr):PG (X.gen B sc ([x,y]++N2) code s H fp) (.Tuple [.Name x px,.Name y EJ] x1 tpos) (g2 X.K):=
 sW (X:=X.gen B sc ([x,y]++N2) code s H fp) hc (aQ (Cs (i:=0) Bk hnc rfl code s H fp) (aQ (Cs (i:=1) Bk hnc rfl code s H fp) fH))
theorem IM(hc:X.calm=true)(hr:X.A.depth<recursionLimit)(cd:fW X.K X.env.code P)(bm:BM X.mg X.base)(FH:Gl X "sum")(hm:X.mg "sum"=none)(hi:PI X (.Tuple [.Name x px,.Name y EJ] x1 tpos) iter wi)(hB:FP sc X.env.scope.names [x,y] N2 X.N=true)
  (he:∀code s H fp,PE (X.gen X.A.in1.in1 sc ([x,y]++N2) code s H fp) elt te)
  (hs:∀x,genFold iter X.env x=pure x:=by intro _;rfl)(hst:starEach [.GeneratorExp elt [⟨.Tuple [.Name x px,.Name y EJ] x1 tpos,iter,[],0⟩] sc iL] X.env=[(false,eval (.GeneratorExp elt [⟨.Tuple [.Name x px,.Name y EJ] x1 tpos,iter,[],0⟩] sc iL) X.env)]:=by rfl):
  PE X (.Call (.Name "sum" p) [.GeneratorExp elt [⟨.Tuple [.Name x px,.Name y EJ] x1 tpos,iter,[],0⟩] sc iL] [] pos) (vQ 2 P wi (g2 X.K) te):=
 have K:=tE hc hr cd bm hB
 Cg (own:=[x,y]) K FH hm hi (λcode s H fp=>IL hc K.Nx K.nc code s H fp) he hs hst
end
theorem IP{K:PySem.W.Frag}{H1:Hp}{a b:Addr}{xs ys:List V}{σ:St}{te:TE}{F:Nat->(Nat->V->Prop) ->(Nat->St->Hp->Prop) ->Prop}(ha:aP K H1 a xs)(hb:aP K H1 b ys)(hl:xs.length=ys.length)(R:Nat->V->Prop)
  (hs:∀(i:Nat) x y,xs[i]?=some x->ys[i]?=some y-> ∀H' (Q':VK),ay H1 H'->(∀v H2,R i v->ay H' H2->Q' v H2) ->te (some x::some y::σ) H' Q')
  (hF:F xs.length R (λ_ σ' H'=>(∃o o',σ'=o::o'::σ)/\ay H1 H')):vP 2 (g2 K) te σ F (NF K a b) H1:=by
 refine⟨xs.length,R,_,⟨⟨none,none,rfl⟩,ay.refl _⟩,λi σ' H' hi w=> ?_,λσ' H' w=>⟨xs,ys,w.2.seq ha,w.2.seq hb,.inl (Nat.le_refl _)⟩,hF⟩
 obtain⟨⟨o,o',rfl⟩,sm⟩:=w
 have hi':i<ys.length:=by omega
 refine⟨⟨xs,ys,xs[i],ys[i],sm.seq ha,sm.seq hb,by simp[hi],by simp[hi']⟩,λv H2 yl=> ?_⟩
 obtain⟨T,x,y,rfl,hT,hx,hy,rfl⟩:=yl
 have ex:=hx xs (sm.seq ha)
 have ey:=hy ys (sm.seq hb)
 have s2:ay H' (upd H' T (.tup [x,y])):=ay.up hT
 refine⟨T,[x,y],rfl,uJ.of au,rfl,x,[y],rfl,y,[],rfl,rfl,?_⟩
 show te (some x::some y::σ) _ _
 exact hs i x y ex ey _ _ (sm.trans s2) λv H3 r s3=>⟨r,⟨_,_,rfl⟩,(sm.trans s2).trans s3⟩
theorem IQ{K:PySem.W.Frag}{H1:Hp}{a b:Addr}{xs ys:List V}{σ:St}{te:TE}{Q:VK}{P:Addr}(ha:aP K H1 a xs)(hb:aP K H1 b ys)(hl:xs.length=ys.length)(hP:H1 P=some (dH P))(val:Nat->Int)
  (hs:∀(i:Nat) x y,xs[i]?=some x->ys[i]?=some y-> ∀H' (Q':VK),ay H1 H'->(∀H2,ay H' H2->Q' (.int (val i)) H2) ->te (some x::some y::σ) H' Q')
  (hq:∀H',ay H1 H'->Q (.int (preSum val xs.length)) H'):FF 2 P (g2 K) te σ (NF K a b) H1 Q:=
 ⟨hP,IP ha hb hl (λi v=>v= .int (val i)) (λi x y ex ey H' Q' sm k=>hs i x y ex ey H' Q' sm λH2 s2=>k _ _ rfl s2) ⟨val,λi v _ r=>r,λσ' H' w=>hq H' w.2⟩⟩
section
variable{X:Cx}{sc:Scope}{N2:List Str}{x:Str}{px:Pos}{elt iter:Expr}{iL p pos:Pos}{wi:TI}{te:TE}{P:Addr}
end
theorem Gk{v:V}{r:List V}:w5 (v::r) 0=some v:=fS (i:=0) rfl
def rk(sel:Nat->Bool)(k:Nat):Nat:=(List.range k).countP sel
section
variable{X:Cx}{B:Around}{sc:Scope}{N':List Str}{code:Value}{sC:Shared}{HC:Hp}{fp Ss:List Addr}{tn:Nat->Heap->Prop}{N:Nat}{sel:Nat->Bool}{R:Nat->V->Prop}{W:St->Hp->Prop}
variable{elt iter tg c:Expr}{pos:Pos}{it:Addr}{J:It}{g:TG}{tt:TT}{te:TE}
end
section
variable{X:Cx}{sc:Scope}{own N2:List Str}{elt iter tg c:Expr}{pos:Pos}{wi:TI}{g:TG}{tt:TT}{te:TE}{P:Addr}
end
def mx(val:Nat->Int):Nat->Int
 |0=>val 0
 |k+1=>if val (k+1)>mx val k then val (k+1)else mx val k
section
variable{X:Cx}{sc:Scope}{N':List Str}{code:Value}{sC:Shared}{HC:Hp}{fp:List Addr}{tn:Nat->Heap->Prop}{cnt:Nat}{R:Nat->V->Prop}{W:Nat->St->Hp->Prop}{a S:Addr}{pins:List (Addr×Obj)}{σ:St}{Rr:Result->Shared->Prop}
end
section
variable{X:Cx}{sc:Scope}{N2:List Str}{x:Str}{px:Pos}{elt iter c:Expr}{iL p pos:Pos}{wi:TI}{tt:TT}{te:TE}{P:Addr}
end
section
variable{X:Cx}
abbrev TB:=St->Hp->(St->Hp->Prop) ->Prop
end
section
variable{X:Cx}{sc:Scope}{own N2:List Str}
variable{x y:Str}{px EJ:Pos}{elt iter Ci:Expr}{pos:Pos}{wi OC:TI}{te:TE}
end
section
variable{X:Cx}
end
def Mw(i:Nat)(z:Int):Nat->Int:=λj=>if j=i then z else 0
theorem kq{m:List (List Int)}(h:cj m)(x y:Nat->Int):av m x y=av m y x:=by
 obtain⟨⟨s1,s2,s3⟩,_⟩:=h
 rw[bh,bh,s1,s2,s3]
 grind
theorem f7{m:List (List Int)}{x y x' y':Nat->Int}(h:∀i,i<3->x i=x' i)(k:∀i,i<3->y i=y' i):av m x y=av m x' y':=by
 rw[bh,bh,h 0 (by decide),h 1 (by decide),h 2 (by decide),k 0 (by decide),k 1 (by decide),k 2 (by decide)]
def In(M:(Nat->Int) ->Prop)(L:List (List Int)):Prop:=∀r∈L,M (bL r)
end L2
namespace xy
open PySem PyProof.Rows
def IS:Bool->Keyed->Array Keyed->Nat->Nat->Nat->StateT SortSt Sem (Option Nat):=sortPriv%PySem.Builtin.gallop
def Qn:Array Keyed->Array Keyed->StateT SortSt Sem (Array Keyed):=sortPriv%PySem.Builtin.mergeLo
def Qo:Array Keyed->Array Keyed->StateT SortSt Sem (Array Keyed):=sortPriv%PySem.Builtin.mergeHi
def NP:Nat->StateT SortSt Sem Unit:=sortPriv%PySem.Builtin.setMinGallop
def RK(lf:Bool)(ky:Keyed)(ar:Array Keyed)(b0 i:Nat):StateT SortSt Sem (Option Bool):=do
 let x<-elem' ar (b0+i)
 if lf then lt' x ky else return(<-lt' ky x).map (!·)
abbrev GS:=Option (Option Nat)×Nat×Nat
def OH(bd:Nat->StateT SortSt Sem (Option Bool))(n h mx:Nat):StateT SortSt Sem GS:=
 forIn [:n] ((none,0,1):GS) λ_ c=>
  if c.2.2≥mx then pure (ForInStep.done (none,c.2.1,c.2.2))else do
   let r<-bd (h+c.2.2)
   match r with
   |some more=>if(!more)=true then pure (ForInStep.done (none,c.2.1,c.2.2))else pure (ForInStep.yield (none,c.2.2,2*c.2.2+1))
   |_=>pure (ForInStep.done (some none,c.2.1,c.2.2))
def OI(bd:Nat->StateT SortSt Sem (Option Bool))(n h mx:Nat):StateT SortSt Sem GS:=
 forIn [:n] ((none,0,1):GS) λ_ c=>
  if c.2.2≥mx then pure (ForInStep.done (none,c.2.1,c.2.2))else do
   let r<-bd (h-c.2.2)
   match r with
   |some f=>if f=true then pure (ForInStep.done (none,c.2.1,c.2.2))else pure (ForInStep.yield (none,c.2.2,2*c.2.2+1))
   |_=>pure (ForInStep.done (some none,c.2.1,c.2.2))
def NQ(bd:Nat->StateT SortSt Sem (Option Bool))(n lo hi:Nat):StateT SortSt Sem (Option Nat):=do
 let c<-forIn [:n] ((none,lo,hi):GS) λ_ c=>
  if c.2.1≥c.2.2 then pure (ForInStep.done (none,c.2.1,c.2.2))else do
   let r<-bd (c.2.1+(c.2.2-c.2.1)/2)
   match r with
   |some more=>if more=true then pure (ForInStep.yield (none,c.2.1+(c.2.2-c.2.1)/2+1,c.2.2))else pure (ForInStep.yield (none,c.2.1,c.2.1+(c.2.2-c.2.1)/2))
   |_=>pure (ForInStep.done (some none,c.2.1,c.2.2))
 match c.1 with
 |some r=>pure r
 |none=>pure (some c.2.2)
def IT(bd:Nat->StateT SortSt Sem (Option Bool))(n h:Nat):StateT SortSt Sem (Option Nat):=do
 let r<-bd h
 match r with
 |some right=>
  if right=true then do
   let c<-OH bd n h (n-h)
   match c.1 with
   |some r=>pure r
   |none=>NQ bd n (h+c.2.1+1) (h+min c.2.2 (n-h))
  else do
   let c<-OI bd n h (h+1)
   match c.1 with
   |some r=>pure r
   |none=>NQ bd n (h+1-min c.2.2 (h+1)) (h-c.2.1)
 |_=>pure none
theorem Lx(lf:Bool)(ky:Keyed)(ar:Array Keyed)(b0 n h:Nat):IS lf ky ar b0 n h=(do
 let bd (i:Nat):StateT SortSt Sem (Option Bool):=do
  let x<-elem' ar (b0+i)
  if lf then lt' x ky else return(<-lt' ky x).map (!·)
 let mut l:=0
 let mut o:=1
 let mut u:=0
 let mut v:=0
 let some r<-bd h|return none
 if r then
  let mx:=n-h
  for _ in [0:n] do
   if o≥mx then break
   let some m<-bd (h+o)|return none
   if !m then break
   l:=o
   o:=2*o+1
  u:=h+l+1
  v:=h+min o mx
 else
  let mx:=h+1
  for _ in [0:n] do
   if o≥mx then break
   let some m<-bd (h-o)|return none
   if m then break
   l:=o
   o:=2*o+1
  u:=h+1-min o mx
  v:=h-l
 for _ in [0:n] do
  if u≥v then break
  let q:=u+(v-u)/2
  let some m<-bd q|return none
  if m then u:=q+1 else v:=q
 return some v):=rfl
theorem Ly(lf:Bool)(ky:Keyed)(ar:Array Keyed)(b0 n h:Nat):IS lf ky ar b0 n h=IT (RK lf ky ar b0) n h:=by
 rw[Lx]
 unfold IT OH OI NQ
 dsimp only
 congr 1
 funext r
 cases r with
 |none=>rfl
 |some r=>
  dsimp only
  split
  ·congr 1
   funext c
   obtain⟨c1,c2,c3⟩:=c
   cases c1 with
   |some c=>rfl
   |none=>
    dsimp only
    congr 1
    funext c
    obtain⟨c1,c2,c3⟩:=c
    cases c1<;>rfl
  ·congr 1
   funext c
   obtain⟨c1,c2,c3⟩:=c
   cases c1 with
   |some c=>rfl
   |none=>
    dsimp only
    congr 1
    funext c
    obtain⟨c1,c2,c3⟩:=c
    cases c1<;>rfl
section
variable{M:Model}{A:Around}{E:Value->Shared->Prop}{s:Shared}{st:SortSt}{b:Nat->Bool}{n:Nat}{bd:Nat->StateT SortSt Sem (Option Bool)}
theorem w_up{h:Nat}{Q:GS->SortSt->Prop}(hb:∀i,i<n-> ∀Q:Option Bool->SortSt->Prop,Q (some (b i)) st->wpS M A E s (bd i) Q st)(mono:∀i j,i<=j->j<n->b j=true->b i=true)
  (hh:h<n)(h0:b h=true)(hq:∀l o,l<o->h+l<n->b (h+l)=true->(n-h<=o∨(h+o<n/\b (h+o)=false)) ->Q (none,l,o) st):wpS M A E s (OH bd n h (n-h)) Q st:=by
 unfold OH
 refine wpS_forRange (I:=λx c st'=>st'=st/\ ∃l o,c=(none,l,o)/\l<o/\h+l<n/\b (h+l)=true/\x<o) ?_ ?_ ⟨rfl,0,1,rfl,by omega,by omega,h0,by omega⟩
 ·rintro x c st' _ hx ⟨rfl,l,o,rfl,h1,h2,h3,h4⟩
  dsimp only
  by_cases hm:o≥n-h
  ·rw[if_pos hm]
   exact wpS_pure (hq l o h1 h2 h3 (.inl hm))
  ·rw[if_neg hm]
   refine wpS_bind (hb _ (by omega) _ ?_)
   dsimp only
   cases e:b (h+o)with
   |true=>
    simp only[Bool.not_true,Bool.false_eq_true,if_false]
    exact wpS_pure ⟨rfl,o,2*o+1,rfl,by omega,by omega,e,by omega⟩
   |false=>
    simp only[Bool.not_false,if_true]
    exact wpS_pure (hq l o h1 h2 h3 (.inr ⟨by omega,e⟩))
 ·rintro c st' ⟨rfl,l,o,rfl,h1,h2,h3,h4⟩
  exact hq l o h1 h2 h3 (.inl (by omega))
theorem Qp{h:Nat}{Q:GS->SortSt->Prop}(hb:∀i,i<n-> ∀Q:Option Bool->SortSt->Prop,Q (some (b i)) st->wpS M A E s (bd i) Q st)
  (hh:h<n)(h0:b h=false)(hq:∀l o,l<o->l<=h->b (h-l)=false->(h+1<=o∨(o<=h/\b (h-o)=true)) ->Q (none,l,o) st):wpS M A E s (OI bd n h (h+1)) Q st:=by
 unfold OI
 refine wpS_forRange (I:=λx c st'=>st'=st/\ ∃l o,c=(none,l,o)/\l<o/\l<=h/\b (h-l)=false/\x<o) ?_ ?_ ⟨rfl,0,1,rfl,by omega,by omega,h0,by omega⟩
 ·rintro x c st' _ hx ⟨rfl,l,o,rfl,h1,h2,h3,h4⟩
  dsimp only
  by_cases hm:o≥h+1
  ·rw[if_pos hm]
   exact wpS_pure (hq l o h1 h2 h3 (.inl hm))
  ·rw[if_neg hm]
   refine wpS_bind (hb _ (by omega) _ ?_)
   dsimp only
   cases e:b (h-o)with
   |true=>
    simp only[if_true]
    exact wpS_pure (hq l o h1 h2 h3 (.inr ⟨by omega,e⟩))
   |false=>
    simp only[Bool.false_eq_true,if_false]
    exact wpS_pure ⟨rfl,o,2*o+1,rfl,by omega,by omega,e,by omega⟩
 ·rintro c st' ⟨rfl,l,o,rfl,h1,h2,h3,h4⟩
  exact hq l o h1 h2 h3 (.inl (by omega))
theorem NR{lo hi:Nat}{Q:Option Nat->SortSt->Prop}(hb:∀i,i<n-> ∀Q:Option Bool->SortSt->Prop,Q (some (b i)) st->wpS M A E s (bd i) Q st)(mono:∀i j,i<=j->j<n->b j=true->b i=true)
  (Uj:lo<=hi)(hn:hi<=n)(h1:∀i,i<lo->b i=true)(h2:∀i,hi<=i->i<n->b i=false)(hq:∀k,k<=n->(∀i,i<k->b i=true) ->(∀i,k<=i->i<n->b i=false) ->Q (some k) st):
  wpS M A E s (NQ bd n lo hi) Q st:=by
 unfold NQ
 refine wpS_bind (wpS_mono (wpS_forRange (I:=λx c st'=>st'=st/\ ∃l o,c=(none,l,o)/\l<=o/\o<=n/\(∀i,i<l->b i=true)/\(∀i,o<=i->i<n->b i=false)/\(o-l)+x<=n)
  (Q:=λc st'=>st'=st/\ ∃o,c=(none,o,o)/\o<=n/\(∀i,i<o->b i=true)/\(∀i,o<=i->i<n->b i=false)) ?_ ?_ ⟨rfl,lo,hi,rfl,Uj,hn,h1,h2,by omega⟩) ?_)
 ·rintro x c st' _ hx ⟨rfl,l,o,rfl,a1,a2,a3,a4,a5⟩
  dsimp only
  by_cases hm:l≥o
  ·rw[if_pos hm]
   have e:l=o:=by omega
   subst e
   exact wpS_pure ⟨rfl,l,rfl,a2,a3,a4⟩
  ·rw[if_neg hm]
   refine wpS_bind (hb _ (by omega) _ ?_)
   dsimp only
   cases e:b (l+(o-l)/2)with
   |true=>
    simp only[if_true]
    exact wpS_pure ⟨rfl,_,_,rfl,by omega,a2,λi hi=>mono i _ (by omega) (by omega) e,a4,by omega⟩
   |false=>
    simp only[Bool.false_eq_true,if_false]
    refine wpS_pure ⟨rfl,_,_,rfl,by omega,by omega,a3,λi hi hin=> ?_,by omega⟩
    cases e2:b i with
    |false=>rfl
    |true=>rw[mono _ i hi hin e2]at e;cases e
 ·rintro c st' ⟨rfl,l,o,rfl,a1,a2,a3,a4,a5⟩
  have e:l=o:=by omega
  subst e
  exact⟨rfl,l,rfl,a2,a3,a4⟩
 ·rintro c st' ⟨rfl,o,rfl,a2,a3,a4⟩
  exact wpS_pure (hq o a2 a3 a4)
theorem Lz{h:Nat}{Q:Option Nat->SortSt->Prop}(hb:∀i,i<n-> ∀Q:Option Bool->SortSt->Prop,Q (some (b i)) st->wpS M A E s (bd i) Q st)(mono:∀i j,i<=j->j<n->b j=true->b i=true)
  (hh:h<n)(hq:∀k,k<=n->(∀i,i<k->b i=true) ->(∀i,k<=i->i<n->b i=false) ->Q (some k) st):wpS M A E s (IT bd n h) Q st:=by
 unfold IT
 have anti:∀i j,i<=j->j<n->b i=false->b j=false:=λi j h1 h2 h3=>by
  cases e:b j with
  |false=>rfl
  |true=>rw[mono i j h1 h2 e]at h3;cases h3
 refine wpS_bind (hb h hh _ ?_)
 dsimp only
 cases e:b h with
 |true=>
  simp only[if_true]
  refine wpS_bind (w_up hb mono hh e λl o a1 a2 a3 a4=> ?_)
  dsimp only
  refine NR hb mono (by omega) (by omega) (λi hi=>mono i (h+l) (by omega) a2 a3) (λi hi hin=> ?_) hq
  rcases a4 with a4|a4
  ·omega
  ·exact anti (h+o) i (by omega) hin a4.2
 |false=>
  simp only[Bool.false_eq_true,if_false]
  refine wpS_bind (Qp hb hh e λl o a1 a2 a3 a4=> ?_)
  dsimp only
  refine NR hb mono (by omega) (by omega) (λi hi=> ?_) (λi hi hin=>anti (h-l) i (by omega) hin a3) hq
  rcases a4 with a4|a4
  ·omega
  ·exact mono i (h-o) (by omega) (by omega) a4.2
end
def pO(prog:Program)(w:World)(A:Around)(E:Value->Shared->Prop)(s:Shared)(κ:SortKind)(K:Keyed->Int)(D:Keyed->Prop):Prop:=
 ∀(st:SortSt)(x y:Keyed)(Q:Option Bool->SortSt->Prop),kindOf st=κ->D x->D y->Q (some (decide (K x<K y))) st->wpS (model prog w) A E s (lt' x y) Q st
section
variable{prog:Program}{w:World}{A:Around}{E:Value->Shared->Prop}{s:Shared}{κ:SortKind}{K:Keyed->Int}{D:Keyed->Prop}{st:SortSt}
theorem aY{ar:Array Keyed}{i:Nat}{x:Keyed}{Q:Keyed->SortSt->Prop}{M:Model}(h:ar[i]?=some x)(hq:Q x st):wpS M A E s (elem' ar i) Q st:=by
 rw[elem'_eq,h]
 exact wpS_pure hq
theorem jN(hL:pO prog w A E s κ K D){lf:Bool}{ky:Keyed}{ar:Array Keyed}{b0 n h:Nat}{Q:Option Nat->SortSt->Prop}(hk:kindOf st=κ)(xs:List Keyed)(hx:∀i,i<n->ar[b0+i]?=xs[i]?)(hn:n=xs.length)
  (hD:∀x∈xs,D x)(RL:D ky)(hs:xs.Pairwise λx y=>K x<=K y)(hh:h<n)
  (hq:∀k,k<=n->(∀x∈xs.take k,if lf then K x<K ky else K x<=K ky) ->(∀x∈xs.drop k,if lf then K ky<=K x else K ky<K x) ->Q (some k) st):wpS (model prog w) A E s (IS lf ky ar b0 n h) Q st:=by
 rw[Ly]
 have gd:∀i,i<n-> ∃x,xs[i]?=some x/\x∈xs:=λi hi=>⟨xs[i]'(by omega),List.getElem?_eq_getElem _,List.getElem_mem _⟩
 refine Lz (b:=λi=>match xs[i]? with|some x=>(if lf then decide (K x<K ky)else !decide (K ky<K x))|none=>false) (λi hi Q hQ=> ?_) (λi j hij hj hb=> ?_) hh (λk hk1 h1 h2=>hq k hk1 (λx hx=> ?_) (λx hx=> ?_))
 ·obtain⟨x,e,m⟩:=gd i hi
  rw[e]at hQ
  dsimp only at hQ
  unfold RK
  refine wpS_bind (aY ((hx i hi).trans e) ?_)
  cases lf with
  |true=>
   simp only[if_true]at hQ ⊢
   exact hL st x ky Q hk (hD x m) RL hQ
  |false=>
   simp only[Bool.false_eq_true,if_false]at hQ ⊢
   refine wpS_bind (hL st ky x _ hk RL (hD x m) ?_)
   exact wpS_pure hQ
 ·obtain⟨x,ex,mx⟩:=gd i (by omega)
  obtain⟨y,ey,my⟩:=gd j hj
  have le:K x<=K y:=by
   rcases Nat.lt_or_ge i j with q|q
   ·have a:=List.pairwise_iff_getElem.mp hs i j (by omega) (by omega) q
    rw[List.getElem?_eq_getElem (by omega)]at ex ey
    rw[<-Option.some.inj ex,<-Option.some.inj ey]
    exact a
   ·have:i=j:=by omega
    subst this
    rw[ex]at ey
    rw[Option.some.inj ey]
    exact Int.le_refl _
  rw[ey]at hb
  rw[ex]
  dsimp only at hb ⊢
  cases lf with
  |true=>
   simp only[if_true,decide_eq_true_eq]at hb ⊢
   omega
  |false=>
   simp only[Bool.false_eq_true,if_false,Bool.not_eq_true',decide_eq_false_iff_not]at hb ⊢
   omega
 ·obtain⟨i,hi,rfl⟩:=List.mem_take_iff_getElem.mp hx
  have hi':i<k:=by omega
  have b:=h1 i hi'
  rw[List.getElem?_eq_getElem (by omega)]at b
  dsimp only at b
  cases lf with
  |true=>simpa using b
  |false=>simpa using b
 ·obtain⟨i,hi,rfl⟩:=List.mem_drop_iff_getElem.mp hx
  have b:=h2 (k+i) (by omega) (by omega)
  rw[List.getElem?_eq_getElem (by omega)]at b
  dsimp only at b
  cases lf with
  |true=>simpa using b
  |false=>simpa using b
end
theorem qg(g:Nat):NP g=modify λz=>SortSt.mk' (kindOf z) (arrOf z) (pendingOf z) g (failedOf z):=rfl
structure MG(K:Keyed->Int)(tot out ra rb:List Keyed):Prop where
 perm:(out++(ra++rb)).Perm tot
 so:out.Pairwise λx y=>K x<=K y
 sa:ra.Pairwise λx y=>K x<=K y
 sb:rb.Pairwise λx y=>K x<=K y
 oa:∀x∈out,∀y∈ra,K x<=K y
 ob:∀x∈out,∀y∈rb,K x<=K y
theorem MG.vZ{K:Keyed->Int}{tot out l ra rb:List Keyed}(h:MG K tot out (l++ra) rb)(hb:∀x∈l,∀y∈rb,K x<=K y):MG K tot (out++l) ra rb:=by
 have sa:=List.pairwise_append.mp h.sa
 refine⟨?_,List.pairwise_append.mpr ⟨h.so,sa.1,λx hx y hy=>h.oa x hx y (List.mem_append_left _ hy)⟩,sa.2.1,h.sb,λx hx y hy=> ?_,λx hx y hy=> ?_⟩
 ·have:=h.perm
  simpa [List.append_assoc]using this
 ·rcases List.mem_append.mp hx with q|q
  ·exact h.oa x q y (List.mem_append_right _ hy)
  ·exact sa.2.2 x q y hy
 ·rcases List.mem_append.mp hx with q|q
  ·exact h.ob x q y hy
  ·exact hb x q y hy
theorem MG.swap{K:Keyed->Int}{tot out ra rb:List Keyed}(h:MG K tot out ra rb):MG K tot out rb ra:=
 ⟨(List.Perm.append_left out List.perm_append_comm).trans h.perm,h.so,h.sb,h.sa,h.ob,h.oa⟩
theorem MG.rE{K:Keyed->Int}{tot out l ra rb:List Keyed}(h:MG K tot out ra (l++rb))(hb:∀x∈l,∀y∈ra,K x<=K y):MG K tot (out++l) ra rb:=(h.swap.vZ hb).swap
theorem MG.gI{K:Keyed->Int}{tot out ra rb:List Keyed}{x:Keyed}(h:MG K tot out (x::ra) rb)(hb:∀y∈rb,K x<=K y):MG K tot (out++ [x]) ra rb:=
 MG.vZ (l:=[x]) h λz hz y hy=>by rw[List.mem_singleton.mp hz];exact hb y hy
theorem MG.nL{K:Keyed->Int}{tot out ra rb:List Keyed}{x:Keyed}(h:MG K tot out ra (x::rb))(hb:∀y∈ra,K x<=K y):MG K tot (out++ [x]) ra rb:=(h.swap.gI hb).swap
def Good(K:Keyed->Int)(tot r:List Keyed):Prop:=r.Perm tot/\r.Pairwise λx y=>K x<=K y
theorem MG.fin{K:Keyed->Int}{tot out ra rb r:List Keyed}(h:MG K tot out ra rb)(p:r.Perm (ra++rb))(s:r.Pairwise λx y=>K x<=K y):Good K tot (out++r):=by
 refine⟨(List.Perm.append_left out p).trans h.perm,List.pairwise_append.mpr ⟨h.so,s,λx hx y hy=> ?_⟩⟩
 rcases List.mem_append.mp (p.mem_iff.mp hy)with q|q
 ·exact h.oa x hx y q
 ·exact h.ob x hx y q
theorem dZ{K:Keyed->Int}{x:Keyed}{l:List Keyed}(h:(x::l).Pairwise λx y=>K x<=K y):∀y∈x::l,K x<=K y:=λy hy=>by
 rcases List.mem_cons.mp hy with e|hy
 ·rw[e];exact Int.le_refl _
 ·exact(List.pairwise_cons.mp h).1 y hy
theorem LA(a b:Array Keyed):Qn a b=(do
 rule "list.sort.merge-lo"
 let tt:=a.size+b.size
 let fin (o:Array Keyed) (i j:Nat):=o++a.extract i a.size++b.extract j b.size
 let fla (o:Array Keyed) (i j:Nat):=o++b.extract j b.size++a.extract i a.size
 let mut o:Array Keyed:= #[<-elem' b 0]
 let mut i:=0
 let mut j:=1
 if j==b.size then return fin o i j
 if i+1==a.size then return fla o i j
 let mut g:=gallopOf (<-get)
 for _ in [0:tt] do
  let mut ca:=0
  let mut cb:=0
  for _ in [0:tt] do
   let some bw<-lt' (<-elem' b j) (<-elem' a i)|return fin o i j
   if bw then
    o:=o.push (<-elem' b j);j:=j+1;cb:=cb+1;ca:=0
    if j==b.size then return fin o i j
    if cb≥g then break
   else
    o:=o.push (<-elem' a i);i:=i+1;ca:=ca+1;cb:=0
    if i+1==a.size then return fla o i j
    if ca≥g then break
  rule "list.sort.gallop"
  g:=g+1
  for _ in [0:tt] do
   if g>1 then g:=g-1
   NP g
   let some k<-IS false (<-elem' b j) a i (a.size-i) 0|return fin o i j
   ca:=k
   if k>0 then
    o:=o++a.extract i (i+k);i:=i+k
    if i+1==a.size then return fla o i j
    if i==a.size then return fin o i j
   o:=o.push (<-elem' b j);j:=j+1
   if j==b.size then return fin o i j
   let some k<-IS true (<-elem' a i) b j (b.size-j) 0|return fin o i j
   cb:=k
   if k>0 then
    o:=o++b.extract j (j+k);j:=j+k
    if j==b.size then return fin o i j
   o:=o.push (<-elem' a i);i:=i+1
   if i+1==a.size then return fla o i j
   if ca<7 && cb<7 then break
  g:=g+1
  NP g
 @unsupported _ "internal:list.sort.merge-bound"):=rfl
def Sg(st st':SortSt):Prop:=kindOf st'=kindOf st/\arrOf st'=arrOf st/\pendingOf st'=pendingOf st/\failedOf st'=failedOf st
theorem Sg.refl(st:SortSt):Sg st st:=⟨rfl,rfl,rfl,rfl⟩
theorem Sg.set{st st':SortSt}(h:Sg st st')(g:Nat):Sg st (SortSt.mk' (kindOf st') (arrOf st') (pendingOf st') g (failedOf st')):=h
section
variable{prog:Program}{w:World}{A:Around}{E:Value->Shared->Prop}{s:Shared}{κ:SortKind}{K:Keyed->Int}{D:Keyed->Prop}{st:SortSt}
def LI(K:Keyed->Int)(a b o:Array Keyed)(i j:Nat):Prop:=MG K (a.toList++b.toList) o.toList (a.toList.drop i) (b.toList.drop j)/\i+1<a.size/\j<b.size
theorem iA{a:Array Keyed}{i:Nat}(h:i<a.size):∃x,a[i]?=some x/\x∈a.toList/\a.toList.drop i=x::a.toList.drop (i+1):=
 ⟨a[i],getElem?_pos a i h,by simp,by rw[List.drop_eq_getElem_cons (by simpa using h)];simp⟩
theorem g9(a:Array Keyed)(i k:Nat):a.toList.drop i=(a.toList.drop i).take k++a.toList.drop (i+k):=by
 rw[<-List.drop_drop,List.take_append_drop]
theorem Gm{o a b:Array Keyed}{i j:Nat}:(o++a.extract i a.size++b.extract j b.size).toList=o.toList++(a.toList.drop i++b.toList.drop j):=by
 have e1:List.take (a.size-i) (List.drop i a.toList)=List.drop i a.toList:=List.take_of_length_le (by simp)
 have e2:List.take (b.size-j) (List.drop j b.toList)=List.drop j b.toList:=List.take_of_length_le (by simp)
 simp[List.append_assoc,e1,e2]
theorem nv{a:Array Keyed}{i k:Nat}:(a.extract i (i+k)).toList=(a.toList.drop i).take k:=by
 simp[List.take_drop,Nat.add_comm]
theorem LI.fin{a b o:Array Keyed}{i j:Nat}(h:MG K (a.toList++b.toList) o.toList (a.toList.drop i) (b.toList.drop j))(hj:i=a.size∨j=b.size):Good K (a.toList++b.toList) (o++a.extract i a.size++b.extract j b.size).toList:=by
 rw[Gm]
 refine h.fin (.refl _) ?_
 rcases hj with rfl|rfl
 ·rw[List.drop_eq_nil_of_le (by simp),List.nil_append]
  exact h.sb
 ·rw[List.drop_eq_nil_of_le (as:=b.toList) (by simp),List.append_nil]
  exact h.sa
theorem LI.fla{a b o:Array Keyed}{i j:Nat}(h:MG K (a.toList++b.toList) o.toList (a.toList.drop i) (b.toList.drop j))(hj:i+1=a.size)(hl:∀y∈b.toList,∀x∈a.toList.drop (a.size-1),K y<=K x):Good K (a.toList++b.toList) (o++b.extract j b.size++a.extract i a.size).toList:=by
 rw[Gm]
 refine h.fin List.perm_append_comm (List.pairwise_append.mpr ⟨h.sb,h.sa,λy hy x hx=>hl y (List.mem_of_mem_drop hy) x ?_⟩)
 rw[<-hj,Nat.add_sub_cancel]
 exact hx
theorem NS(hL:pO prog w A E s κ K D){a b:Array Keyed}{Q:Array Keyed->SortSt->Prop}(hk:kindOf st=κ)(ha:0<a.size)(hb:0<b.size)(Da:∀x∈a.toList,D x)(Db:∀x∈b.toList,D x)
  (sa:a.toList.Pairwise λx y=>K x<=K y)(sb:b.toList.Pairwise λx y=>K x<=K y)(h1:∀y∈b.toList.take 1,∀x∈a.toList,K y<=K x)(h2:∀y∈b.toList,∀x∈a.toList.drop (a.size-1),K y<=K x)
  (hq:∀r st',Sg st st'->Good K (a.toList++b.toList) r.toList->Q r st'):wpS (model prog w) A E s (Qn a b) Q st:=by
 rw[LA]
 refine wpS_bind (wpS_lift (wpAny_rule ⟨rfl,?_⟩))
 dsimp only
 obtain⟨b0,e0,m0,d0⟩:=iA (a:=b) (i:=0) hb
 refine wpS_bind (aY e0 ?_)
 have M0:MG K (a.toList++b.toList) (#[b0]:Array Keyed).toList (a.toList.drop 0) (b.toList.drop 1):=by
  refine⟨?_,List.pairwise_singleton _ _,sa,?_,λx hx y hy=> ?_,λx hx y hy=> ?_⟩
  ·show([b0]++(a.toList++b.toList.drop 1)).Perm _
   have e:b.toList=b0::b.toList.drop 1:=d0
   conv=>rhs;rw[e]
   exact(List.perm_middle (l₁:=a.toList) (l₂:=b.toList.drop 1) (a:=b0)).symm
  ·exact List.Pairwise.sublist (List.drop_sublist _ _) sb
  ·rw[List.mem_singleton.mp hx]
   have e:b.toList=b0::b.toList.drop 1:=d0
   exact h1 b0 (by rw[e];simp) y hy
  ·rw[List.mem_singleton.mp hx]
   have e:b.toList=b0::b.toList.drop 1:=d0
   rw[e]at sb
   exact dZ sb y (List.mem_cons_of_mem _ hy)
 by_cases c1:(1==b.size)=true
 ·rw[if_pos c1]
  exact wpS_pure (hq _ _ (Sg.refl _) (LI.fin M0 (.inr (by simpa using c1))))
 rw[if_neg c1]
 by_cases c2:(0+1==a.size)=true
 ·rw[if_pos c2]
  exact wpS_pure (hq _ _ (Sg.refl _) (LI.fla M0 (by simpa using c2) h2))
 rw[if_neg c2]
 have n1:b.size≠1:=λe=>c1 (by rw[e];rfl)
 have n2:a.size≠1:=λe=>c2 (by rw[e];rfl)
 refine wpS_bind (wpS_get ?_)
 have L0:LI K a b #[b0] 0 1:=⟨M0,by omega,by omega⟩
 refine wpS_bind (wpS_mono (wpS_forRange (I:=λx c st'=>Sg st st'/\ ∃o i j g,c=(none,o,i,j,g)/\LI K a b o i j/\x<=i+j)
  (Q:=λc st'=>Sg st st'/\ ∃r z,c=(some r,z)/\Good K (a.toList++b.toList) r.toList) ?_ ?_ ⟨Sg.refl _,_,0,1,_,rfl,L0,by omega⟩) ?_)
 ·rintro x c s1 _ hx ⟨S1,o,i,j,g,rfl,I1,p1⟩
  dsimp only
  refine wpS_bind (wpS_mono (wpS_forRange (I:=λy c st'=>Sg st st'/\ ∃o i j ca cb,c=(none,o,i,j,ca,cb)/\LI K a b o i j/\y+x<=i+j)
   (Q:=λc st'=>Sg st st'/\((∃r z,c=(some r,z)/\Good K (a.toList++b.toList) r.toList)∨ ∃o i j ca cb,c=(none,o,i,j,ca,cb)/\LI K a b o i j/\x+1<=i+j)) ?_ ?_ ⟨S1,o,i,j,_,_,rfl,I1,by omega⟩) ?_)
  ·rintro y c s2 _ hy ⟨S2,o,i,j,ca,cb,rfl,⟨I2,l1,l2⟩,p2⟩
   dsimp only
   obtain⟨xb,eb,mb,db⟩:=iA (a:=b) (i:=j) l2
   obtain⟨xa,ea,ma,da⟩:=iA (a:=a) (i:=i) (by omega)
   have sa':=I2.sa
   have sb':=I2.sb
   rw[da]at sa'
   rw[db]at sb'
   refine wpS_bind (aY eb (wpS_bind (aY ea (wpS_bind (hL s2 xb xa _ (S2.1.trans hk) (Db _ mb) (Da _ ma) ?_)))))
   dsimp only
   by_cases lt:K xb<K xa
   ·rw[decide_eq_true lt,if_pos rfl]
    have I3:MG K (a.toList++b.toList) (o.push xb).toList (a.toList.drop i) (b.toList.drop (j+1)):=by
     rw[Array.toList_push]
     refine MG.nL (by rw[<-db];exact I2) λz hz=> ?_
     rw[da]at hz
     exact Int.le_trans (Int.le_of_lt lt) (dZ sa' z hz)
    refine wpS_bind (aY eb ?_)
    by_cases c3:(j+1==b.size)=true
    ·rw[if_pos c3]
     exact wpS_pure ⟨S2,.inl ⟨_,_,rfl,LI.fin I3 (.inr (by simpa using c3))⟩⟩
    rw[if_neg c3]
    have n3:j+1≠b.size:=λe=>c3 (by rw[e];simp)
    split
    ·exact wpS_pure ⟨S2,.inr ⟨_,_,_,_,_,rfl,⟨I3,l1,by omega⟩,by omega⟩⟩
    ·exact wpS_pure ⟨S2,_,_,_,_,_,rfl,⟨I3,l1,by omega⟩,by omega⟩
   ·rw[decide_eq_false lt,if_neg (by simp)]
    have I3:MG K (a.toList++b.toList) (o.push xa).toList (a.toList.drop (i+1)) (b.toList.drop j):=by
     rw[Array.toList_push]
     refine MG.gI (by rw[<-da];exact I2) λz hz=> ?_
     rw[db]at hz
     exact Int.le_trans (Int.not_lt.mp lt) (dZ sb' z hz)
    refine wpS_bind (aY ea ?_)
    by_cases c3:(i+1+1==a.size)=true
    ·rw[if_pos c3]
     exact wpS_pure ⟨S2,.inl ⟨_,_,rfl,LI.fla I3 (by simpa using c3) h2⟩⟩
    rw[if_neg c3]
    have n3:i+1+1≠a.size:=λe=>c3 (by rw[e];simp)
    split
    ·exact wpS_pure ⟨S2,.inr ⟨_,_,_,_,_,rfl,⟨I3,by omega,l2⟩,by omega⟩⟩
    ·exact wpS_pure ⟨S2,_,_,_,_,_,rfl,⟨I3,by omega,l2⟩,by omega⟩
  ·rintro c s2 ⟨S2,o,i,j,ca,cb,rfl,⟨I2,l1,l2⟩,p2⟩
   omega
  ·rintro c s2 ⟨S2,⟨r,z,rfl,hr⟩|⟨o,i,j,ca,cb,rfl,I2,p2⟩⟩
   ·exact wpS_pure ⟨S2,r,_,rfl,hr⟩
   dsimp only
   refine wpS_bind (wpS_lift (wpAny_rule ⟨rfl,?_⟩))
   refine wpS_bind (wpS_mono (wpS_forRange (I:=λy c st'=>Sg st st'/\ ∃o i j g ca cb,c=(none,o,i,j,g,ca,cb)/\LI K a b o i j/\y+x+1<=i+j)
    (Q:=λc st'=>Sg st st'/\((∃r z,c=(some r,z)/\Good K (a.toList++b.toList) r.toList)∨ ∃o i j g ca cb,c=(none,o,i,j,g,ca,cb)/\LI K a b o i j/\x+1<=i+j)) ?_ ?_ ⟨S2,o,i,j,_,_,_,rfl,I2,by omega⟩) ?_)
   ·rintro y c s3 _ hy ⟨S3,o,i,j,g,ca,cb,rfl,⟨I2,l1,l2⟩,p2⟩
    dsimp only
    by_cases hg:g>1
    ·rw[if_pos hg]
     rw[qg]
     refine wpS_bind (wpS_modify ?_)
     obtain⟨xb,eb,mb,db⟩:=iA (a:=b) (i:=j) l2
     have sb':=I2.sb
     rw[db]at sb'
     refine wpS_bind (aY eb (wpS_bind (jN hL ((S3.set _).1.trans hk) (a.toList.drop i) (λz hz=>by simp) (by simp) (λx hx=>Da x (List.mem_of_mem_drop hx)) (Db _ mb) I2.sa (by omega) λk hk1 t1 t2=> ?_)))
     simp only[Bool.false_eq_true,if_false]at t1 t2
     rw[List.drop_drop]at t2
     dsimp only
     have J:MG K (a.toList++b.toList) (o++a.extract i (i+k)).toList (a.toList.drop (i+k)) (b.toList.drop j):=by
      rw[Array.toList_append,nv]
      refine MG.vZ (by rw[<-g9];exact I2) λx hx y hy=> ?_
      rw[db]at hy
      exact Int.le_trans (t1 x hx) (dZ sb' y hy)
     have tJ:=t2
     by_cases hk0:k>0
     ·rw[if_pos hk0]
      by_cases c3:(i+k+1==a.size)=true
      ·rw[if_pos c3]
       exact wpS_pure ⟨S3.set _,.inl ⟨_,_,rfl,LI.fla J (by simpa using c3) h2⟩⟩
      rw[if_neg c3]
      have n3:i+k+1≠a.size:=λe=>c3 (by rw[e];simp)
      by_cases c4:(i+k==a.size)=true
      ·rw[if_pos c4]
       exact wpS_pure ⟨S3.set _,.inl ⟨_,_,rfl,LI.fin J (.inl (by simpa using c4))⟩⟩
      rw[if_neg c4]
      have n4:i+k≠a.size:=λe=>c4 (by rw[e];simp)
      obtain⟨xa,ea,ma,da⟩:=iA (a:=a) (i:=i+k) (by omega)
      have sa':=J.sa
      rw[da]at sa'
      have I4:MG K (a.toList++b.toList) ((o++a.extract i (i+k)).push xb).toList (a.toList.drop (i+k)) (b.toList.drop (j+1)):=by
       rw[Array.toList_push]
       exact MG.nL (by rw[<-db];exact J) λz hz=>Int.le_of_lt (tJ z hz)
      refine wpS_bind (aY eb ?_)
      by_cases c5:(j+1==b.size)=true
      ·rw[if_pos c5]
       exact wpS_pure ⟨S3.set _,.inl ⟨_,_,rfl,LI.fin I4 (.inr (by simpa using c5))⟩⟩
      rw[if_neg c5]
      have n5:j+1≠b.size:=λe=>c5 (by rw[e];simp)
      refine wpS_bind (aY ea (wpS_bind (jN hL ((S3.set _).1.trans hk) (b.toList.drop (j+1)) (λz hz=>by simp) (by simp) (λx hx=>Db x (List.mem_of_mem_drop hx)) (Da _ ma) I4.sb (by omega) λk2 hk2 u1 u2=> ?_)))
      simp only[if_true]at u1 u2
      rw[List.drop_drop]at u2
      dsimp only
      have I5:MG K (a.toList++b.toList) ((o++a.extract i (i+k)).push xb++b.extract (j+1) (j+1+k2)).toList (a.toList.drop (i+k)) (b.toList.drop (j+1+k2)):=by
       rw[Array.toList_append,nv]
       refine MG.rE (by rw[<-g9];exact I4) λx hx y hy=> ?_
       rw[da]at hy
       exact Int.le_trans (Int.le_of_lt (u1 x hx)) (dZ sa' y hy)
      by_cases hk2:k2>0
      ·rw[if_pos hk2]
       by_cases c6:(j+1+k2==b.size)=true
       ·rw[if_pos c6]
        exact wpS_pure ⟨S3.set _,.inl ⟨_,_,rfl,LI.fin I5 (.inr (by simpa using c6))⟩⟩
       rw[if_neg c6]
       have n6:j+1+k2≠b.size:=λe=>c6 (by rw[e];simp)
       have I6:MG K (a.toList++b.toList) (((o++a.extract i (i+k)).push xb++b.extract (j+1) (j+1+k2)).push xa).toList (a.toList.drop (i+k+1)) (b.toList.drop (j+1+k2)):=by
        rw[Array.toList_push]
        exact MG.gI (by rw[<-da];exact I5) u2
       refine wpS_bind (aY ea ?_)
       by_cases c7:(i+k+1+1==a.size)=true
       ·rw[if_pos c7]
        exact wpS_pure ⟨S3.set _,.inl ⟨_,_,rfl,LI.fla I6 (by simpa using c7) h2⟩⟩
       rw[if_neg c7]
       have n7:i+k+1+1≠a.size:=λe=>c7 (by rw[e];simp)
       split
       ·exact wpS_pure ⟨S3.set _,.inr ⟨_,_,_,_,_,_,rfl,⟨I6,by omega,by omega⟩,by omega⟩⟩
       ·exact wpS_pure ⟨S3.set _,_,_,_,_,_,_,rfl,⟨I6,by omega,by omega⟩,by omega⟩
      ·rw[if_neg hk2]
       have z2:k2=0:=by omega
       subst z2
       have I6:MG K (a.toList++b.toList) (((o++a.extract i (i+k)).push xb).push xa).toList (a.toList.drop (i+k+1)) (b.toList.drop (j+1)):=by
        rw[Array.toList_push]
        exact MG.gI (by rw[<-da];exact I4) u2
       refine wpS_bind (aY ea ?_)
       by_cases c7:(i+k+1+1==a.size)=true
       ·rw[if_pos c7]
        exact wpS_pure ⟨S3.set _,.inl ⟨_,_,rfl,LI.fla I6 (by simpa using c7) h2⟩⟩
       rw[if_neg c7]
       have n7:i+k+1+1≠a.size:=λe=>c7 (by rw[e];simp)
       split
       ·exact wpS_pure ⟨S3.set _,.inr ⟨_,_,_,_,_,_,rfl,⟨I6,by omega,by omega⟩,by omega⟩⟩
       ·exact wpS_pure ⟨S3.set _,_,_,_,_,_,_,rfl,⟨I6,by omega,by omega⟩,by omega⟩
     ·rw[if_neg hk0]
      have z0:k=0:=by omega
      subst z0
      replace J:=I2
      obtain⟨xa,ea,ma,da⟩:=iA (a:=a) (i:=i) (by omega)
      have sa':=J.sa
      rw[da]at sa'
      have I4:MG K (a.toList++b.toList) (o.push xb).toList (a.toList.drop (i)) (b.toList.drop (j+1)):=by
       rw[Array.toList_push]
       exact MG.nL (by rw[<-db];exact J) λz hz=>Int.le_of_lt (tJ z hz)
      refine wpS_bind (aY eb ?_)
      by_cases c5:(j+1==b.size)=true
      ·rw[if_pos c5]
       exact wpS_pure ⟨S3.set _,.inl ⟨_,_,rfl,LI.fin I4 (.inr (by simpa using c5))⟩⟩
      rw[if_neg c5]
      have n5:j+1≠b.size:=λe=>c5 (by rw[e];simp)
      refine wpS_bind (aY ea (wpS_bind (jN hL ((S3.set _).1.trans hk) (b.toList.drop (j+1)) (λz hz=>by simp) (by simp) (λx hx=>Db x (List.mem_of_mem_drop hx)) (Da _ ma) I4.sb (by omega) λk2 hk2 u1 u2=> ?_)))
      simp only[if_true]at u1 u2
      rw[List.drop_drop]at u2
      dsimp only
      have I5:MG K (a.toList++b.toList) (o.push xb++b.extract (j+1) (j+1+k2)).toList (a.toList.drop (i)) (b.toList.drop (j+1+k2)):=by
       rw[Array.toList_append,nv]
       refine MG.rE (by rw[<-g9];exact I4) λx hx y hy=> ?_
       rw[da]at hy
       exact Int.le_trans (Int.le_of_lt (u1 x hx)) (dZ sa' y hy)
      by_cases hk2:k2>0
      ·rw[if_pos hk2]
       by_cases c6:(j+1+k2==b.size)=true
       ·rw[if_pos c6]
        exact wpS_pure ⟨S3.set _,.inl ⟨_,_,rfl,LI.fin I5 (.inr (by simpa using c6))⟩⟩
       rw[if_neg c6]
       have n6:j+1+k2≠b.size:=λe=>c6 (by rw[e];simp)
       have I6:MG K (a.toList++b.toList) ((o.push xb++b.extract (j+1) (j+1+k2)).push xa).toList (a.toList.drop (i+1)) (b.toList.drop (j+1+k2)):=by
        rw[Array.toList_push]
        exact MG.gI (by rw[<-da];exact I5) u2
       refine wpS_bind (aY ea ?_)
       by_cases c7:(i+1+1==a.size)=true
       ·rw[if_pos c7]
        exact wpS_pure ⟨S3.set _,.inl ⟨_,_,rfl,LI.fla I6 (by simpa using c7) h2⟩⟩
       rw[if_neg c7]
       have n7:i+1+1≠a.size:=λe=>c7 (by rw[e];simp)
       split
       ·exact wpS_pure ⟨S3.set _,.inr ⟨_,_,_,_,_,_,rfl,⟨I6,by omega,by omega⟩,by omega⟩⟩
       ·exact wpS_pure ⟨S3.set _,_,_,_,_,_,_,rfl,⟨I6,by omega,by omega⟩,by omega⟩
      ·rw[if_neg hk2]
       have z2:k2=0:=by omega
       subst z2
       have I6:MG K (a.toList++b.toList) ((o.push xb).push xa).toList (a.toList.drop (i+1)) (b.toList.drop (j+1)):=by
        rw[Array.toList_push]
        exact MG.gI (by rw[<-da];exact I4) u2
       refine wpS_bind (aY ea ?_)
       by_cases c7:(i+1+1==a.size)=true
       ·rw[if_pos c7]
        exact wpS_pure ⟨S3.set _,.inl ⟨_,_,rfl,LI.fla I6 (by simpa using c7) h2⟩⟩
       rw[if_neg c7]
       have n7:i+1+1≠a.size:=λe=>c7 (by rw[e];simp)
       split
       ·exact wpS_pure ⟨S3.set _,.inr ⟨_,_,_,_,_,_,rfl,⟨I6,by omega,by omega⟩,by omega⟩⟩
       ·exact wpS_pure ⟨S3.set _,_,_,_,_,_,_,rfl,⟨I6,by omega,by omega⟩,by omega⟩
    ·rw[if_neg hg]
     rw[qg]
     refine wpS_bind (wpS_modify ?_)
     obtain⟨xb,eb,mb,db⟩:=iA (a:=b) (i:=j) l2
     have sb':=I2.sb
     rw[db]at sb'
     refine wpS_bind (aY eb (wpS_bind (jN hL ((S3.set _).1.trans hk) (a.toList.drop i) (λz hz=>by simp) (by simp) (λx hx=>Da x (List.mem_of_mem_drop hx)) (Db _ mb) I2.sa (by omega) λk hk1 t1 t2=> ?_)))
     simp only[Bool.false_eq_true,if_false]at t1 t2
     rw[List.drop_drop]at t2
     dsimp only
     have J:MG K (a.toList++b.toList) (o++a.extract i (i+k)).toList (a.toList.drop (i+k)) (b.toList.drop j):=by
      rw[Array.toList_append,nv]
      refine MG.vZ (by rw[<-g9];exact I2) λx hx y hy=> ?_
      rw[db]at hy
      exact Int.le_trans (t1 x hx) (dZ sb' y hy)
     have tJ:=t2
     by_cases hk0:k>0
     ·rw[if_pos hk0]
      by_cases c3:(i+k+1==a.size)=true
      ·rw[if_pos c3]
       exact wpS_pure ⟨S3.set _,.inl ⟨_,_,rfl,LI.fla J (by simpa using c3) h2⟩⟩
      rw[if_neg c3]
      have n3:i+k+1≠a.size:=λe=>c3 (by rw[e];simp)
      by_cases c4:(i+k==a.size)=true
      ·rw[if_pos c4]
       exact wpS_pure ⟨S3.set _,.inl ⟨_,_,rfl,LI.fin J (.inl (by simpa using c4))⟩⟩
      rw[if_neg c4]
      have n4:i+k≠a.size:=λe=>c4 (by rw[e];simp)
      obtain⟨xa,ea,ma,da⟩:=iA (a:=a) (i:=i+k) (by omega)
      have sa':=J.sa
      rw[da]at sa'
      have I4:MG K (a.toList++b.toList) ((o++a.extract i (i+k)).push xb).toList (a.toList.drop (i+k)) (b.toList.drop (j+1)):=by
       rw[Array.toList_push]
       exact MG.nL (by rw[<-db];exact J) λz hz=>Int.le_of_lt (tJ z hz)
      refine wpS_bind (aY eb ?_)
      by_cases c5:(j+1==b.size)=true
      ·rw[if_pos c5]
       exact wpS_pure ⟨S3.set _,.inl ⟨_,_,rfl,LI.fin I4 (.inr (by simpa using c5))⟩⟩
      rw[if_neg c5]
      have n5:j+1≠b.size:=λe=>c5 (by rw[e];simp)
      refine wpS_bind (aY ea (wpS_bind (jN hL ((S3.set _).1.trans hk) (b.toList.drop (j+1)) (λz hz=>by simp) (by simp) (λx hx=>Db x (List.mem_of_mem_drop hx)) (Da _ ma) I4.sb (by omega) λk2 hk2 u1 u2=> ?_)))
      simp only[if_true]at u1 u2
      rw[List.drop_drop]at u2
      dsimp only
      have I5:MG K (a.toList++b.toList) ((o++a.extract i (i+k)).push xb++b.extract (j+1) (j+1+k2)).toList (a.toList.drop (i+k)) (b.toList.drop (j+1+k2)):=by
       rw[Array.toList_append,nv]
       refine MG.rE (by rw[<-g9];exact I4) λx hx y hy=> ?_
       rw[da]at hy
       exact Int.le_trans (Int.le_of_lt (u1 x hx)) (dZ sa' y hy)
      by_cases hk2:k2>0
      ·rw[if_pos hk2]
       by_cases c6:(j+1+k2==b.size)=true
       ·rw[if_pos c6]
        exact wpS_pure ⟨S3.set _,.inl ⟨_,_,rfl,LI.fin I5 (.inr (by simpa using c6))⟩⟩
       rw[if_neg c6]
       have n6:j+1+k2≠b.size:=λe=>c6 (by rw[e];simp)
       have I6:MG K (a.toList++b.toList) (((o++a.extract i (i+k)).push xb++b.extract (j+1) (j+1+k2)).push xa).toList (a.toList.drop (i+k+1)) (b.toList.drop (j+1+k2)):=by
        rw[Array.toList_push]
        exact MG.gI (by rw[<-da];exact I5) u2
       refine wpS_bind (aY ea ?_)
       by_cases c7:(i+k+1+1==a.size)=true
       ·rw[if_pos c7]
        exact wpS_pure ⟨S3.set _,.inl ⟨_,_,rfl,LI.fla I6 (by simpa using c7) h2⟩⟩
       rw[if_neg c7]
       have n7:i+k+1+1≠a.size:=λe=>c7 (by rw[e];simp)
       split
       ·exact wpS_pure ⟨S3.set _,.inr ⟨_,_,_,_,_,_,rfl,⟨I6,by omega,by omega⟩,by omega⟩⟩
       ·exact wpS_pure ⟨S3.set _,_,_,_,_,_,_,rfl,⟨I6,by omega,by omega⟩,by omega⟩
      ·rw[if_neg hk2]
       have z2:k2=0:=by omega
       subst z2
       have I6:MG K (a.toList++b.toList) (((o++a.extract i (i+k)).push xb).push xa).toList (a.toList.drop (i+k+1)) (b.toList.drop (j+1)):=by
        rw[Array.toList_push]
        exact MG.gI (by rw[<-da];exact I4) u2
       refine wpS_bind (aY ea ?_)
       by_cases c7:(i+k+1+1==a.size)=true
       ·rw[if_pos c7]
        exact wpS_pure ⟨S3.set _,.inl ⟨_,_,rfl,LI.fla I6 (by simpa using c7) h2⟩⟩
       rw[if_neg c7]
       have n7:i+k+1+1≠a.size:=λe=>c7 (by rw[e];simp)
       split
       ·exact wpS_pure ⟨S3.set _,.inr ⟨_,_,_,_,_,_,rfl,⟨I6,by omega,by omega⟩,by omega⟩⟩
       ·exact wpS_pure ⟨S3.set _,_,_,_,_,_,_,rfl,⟨I6,by omega,by omega⟩,by omega⟩
     ·rw[if_neg hk0]
      have z0:k=0:=by omega
      subst z0
      replace J:=I2
      obtain⟨xa,ea,ma,da⟩:=iA (a:=a) (i:=i) (by omega)
      have sa':=J.sa
      rw[da]at sa'
      have I4:MG K (a.toList++b.toList) (o.push xb).toList (a.toList.drop (i)) (b.toList.drop (j+1)):=by
       rw[Array.toList_push]
       exact MG.nL (by rw[<-db];exact J) λz hz=>Int.le_of_lt (tJ z hz)
      refine wpS_bind (aY eb ?_)
      by_cases c5:(j+1==b.size)=true
      ·rw[if_pos c5]
       exact wpS_pure ⟨S3.set _,.inl ⟨_,_,rfl,LI.fin I4 (.inr (by simpa using c5))⟩⟩
      rw[if_neg c5]
      have n5:j+1≠b.size:=λe=>c5 (by rw[e];simp)
      refine wpS_bind (aY ea (wpS_bind (jN hL ((S3.set _).1.trans hk) (b.toList.drop (j+1)) (λz hz=>by simp) (by simp) (λx hx=>Db x (List.mem_of_mem_drop hx)) (Da _ ma) I4.sb (by omega) λk2 hk2 u1 u2=> ?_)))
      simp only[if_true]at u1 u2
      rw[List.drop_drop]at u2
      dsimp only
      have I5:MG K (a.toList++b.toList) (o.push xb++b.extract (j+1) (j+1+k2)).toList (a.toList.drop (i)) (b.toList.drop (j+1+k2)):=by
       rw[Array.toList_append,nv]
       refine MG.rE (by rw[<-g9];exact I4) λx hx y hy=> ?_
       rw[da]at hy
       exact Int.le_trans (Int.le_of_lt (u1 x hx)) (dZ sa' y hy)
      by_cases hk2:k2>0
      ·rw[if_pos hk2]
       by_cases c6:(j+1+k2==b.size)=true
       ·rw[if_pos c6]
        exact wpS_pure ⟨S3.set _,.inl ⟨_,_,rfl,LI.fin I5 (.inr (by simpa using c6))⟩⟩
       rw[if_neg c6]
       have n6:j+1+k2≠b.size:=λe=>c6 (by rw[e];simp)
       have I6:MG K (a.toList++b.toList) ((o.push xb++b.extract (j+1) (j+1+k2)).push xa).toList (a.toList.drop (i+1)) (b.toList.drop (j+1+k2)):=by
        rw[Array.toList_push]
        exact MG.gI (by rw[<-da];exact I5) u2
       refine wpS_bind (aY ea ?_)
       by_cases c7:(i+1+1==a.size)=true
       ·rw[if_pos c7]
        exact wpS_pure ⟨S3.set _,.inl ⟨_,_,rfl,LI.fla I6 (by simpa using c7) h2⟩⟩
       rw[if_neg c7]
       have n7:i+1+1≠a.size:=λe=>c7 (by rw[e];simp)
       split
       ·exact wpS_pure ⟨S3.set _,.inr ⟨_,_,_,_,_,_,rfl,⟨I6,by omega,by omega⟩,by omega⟩⟩
       ·exact wpS_pure ⟨S3.set _,_,_,_,_,_,_,rfl,⟨I6,by omega,by omega⟩,by omega⟩
      ·rw[if_neg hk2]
       have z2:k2=0:=by omega
       subst z2
       have I6:MG K (a.toList++b.toList) ((o.push xb).push xa).toList (a.toList.drop (i+1)) (b.toList.drop (j+1)):=by
        rw[Array.toList_push]
        exact MG.gI (by rw[<-da];exact I4) u2
       refine wpS_bind (aY ea ?_)
       by_cases c7:(i+1+1==a.size)=true
       ·rw[if_pos c7]
        exact wpS_pure ⟨S3.set _,.inl ⟨_,_,rfl,LI.fla I6 (by simpa using c7) h2⟩⟩
       rw[if_neg c7]
       have n7:i+1+1≠a.size:=λe=>c7 (by rw[e];simp)
       split
       ·exact wpS_pure ⟨S3.set _,.inr ⟨_,_,_,_,_,_,rfl,⟨I6,by omega,by omega⟩,by omega⟩⟩
       ·exact wpS_pure ⟨S3.set _,_,_,_,_,_,_,rfl,⟨I6,by omega,by omega⟩,by omega⟩
   ·rintro c s3 ⟨S3,o,i,j,g,ca,cb,rfl,⟨I2,l1,l2⟩,p2⟩
    omega
   ·rintro c s3 ⟨S3,⟨r,z,rfl,hr⟩|⟨o,i,j,g,ca,cb,rfl,I2,p2⟩⟩
    ·exact wpS_pure ⟨S3,r,_,rfl,hr⟩
    dsimp only
    rw[qg]
    exact wpS_bind (wpS_modify (wpS_pure ⟨S3.set _,_,_,_,_,rfl,I2,by omega⟩))
 ·rintro c s1 ⟨S1,o,i,j,g,rfl,⟨I1,l1,l2⟩,p1⟩
  omega
 ·rintro c s1 ⟨S1,r,z,rfl,hr⟩
  exact wpS_pure (hq r s1 S1 hr)
end
theorem LB(a b:Array Keyed):Qo a b=(do
 rule "list.sort.merge-hi"
 let tt:=a.size+b.size
 let fin (o:Array Keyed) (i j:Nat):=a.extract 0 i++b.extract 0 j++o.reverse
 let AG (o:Array Keyed) (i j:Nat):=b.extract 0 j++a.extract 0 i++o.reverse
 let mut i:=a.size-1
 let mut j:=b.size
 let mut o:Array Keyed:= #[<-elem' a i]
 if i==0 then return fin o i j
 if j==1 then return AG o i j
 let mut g:=gallopOf (<-get)
 for _ in [0:tt] do
  let mut ca:=0
  let mut cb:=0
  for _ in [0:tt] do
   let some aw<-lt' (<-elem' b (j-1)) (<-elem' a (i-1))|return fin o i j
   if aw then
    i:=i-1;o:=o.push (<-elem' a i);ca:=ca+1;cb:=0
    if i==0 then return fin o i j
    if ca≥g then break
   else
    j:=j-1;o:=o.push (<-elem' b j);cb:=cb+1;ca:=0
    if j==1 then return AG o i j
    if cb≥g then break
  rule "list.sort.gallop"
  g:=g+1
  for _ in [0:tt] do
   if g>1 then g:=g-1
   NP g
   let some at_<-IS false (<-elem' b (j-1)) a 0 i (i-1)|return fin o i j
   let k:=i-at_
   ca:=k
   if k>0 then
    o:=o++(a.extract at_ i).reverse;i:=at_
    if i==0 then return fin o i j
   j:=j-1;o:=o.push (<-elem' b j)
   if j==1 then return AG o i j
   let some at_<-IS true (<-elem' a (i-1)) b 0 j (j-1)|return fin o i j
   let k:=j-at_
   cb:=k
   if k>0 then
    o:=o++(b.extract at_ j).reverse;j:=at_
    if j==1 then return AG o i j
    if j==0 then return fin o i j
   i:=i-1;o:=o.push (<-elem' a i)
   if i==0 then return fin o i j
   if ca<7 && cb<7 then break
  g:=g+1
  NP g
 @unsupported _ "internal:list.sort.merge-bound"):=rfl
section
variable{prog:Program}{w:World}{A:Around}{E:Value->Shared->Prop}{s:Shared}{κ:SortKind}{K:Keyed->Int}{D:Keyed->Prop}{st:SortSt}
abbrev rv(a:Array Keyed)(i:Nat):List Keyed:=(a.toList.take i).reverse
abbrev MH(K:Keyed->Int)(a b o:Array Keyed)(i j:Nat):Prop:=MG (λx=> -(K x)) (a.toList++b.toList) o.toList (rv a i) (rv b j)
theorem pP{a:Array Keyed}{i:Nat}(h0:0<i)(h:i<=a.size):∃x,a[i-1]?=some x/\x∈a.toList/\rv a i=x::rv a (i-1):=by
 have h1:i-1<a.toList.length:=by simp;omega
 refine⟨a[i-1]'(by omega),getElem?_pos a (i-1) (by omega),by simp,?_⟩
 have e:a.toList.take i=a.toList.take (i-1)++ [a[i-1]'(by omega)]:=by
  have:=List.take_add_one (l:=a.toList) (i:=i-1)
  rw[show i-1+1=i by omega]at this
  rw[this,List.getElem?_eq_getElem h1]
  simp
 show(a.toList.take i).reverse=_
 rw[e,List.reverse_append]
 rfl
theorem kr(a:Array Keyed){i k:Nat}(h:k<=i):rv a i=((a.toList.take i).drop k).reverse++rv a k:=by
 show(a.toList.take i).reverse=_++(a.toList.take k).reverse
 rw[<-List.reverse_append]
 congr 1
 conv=>lhs;rw[<-List.take_append_drop k (a.toList.take i)]
 rw[List.take_take,Nat.min_eq_left h]
theorem qh{a:Array Keyed}{i k:Nat}:(a.extract k i).reverse.toList=((a.toList.take i).drop k).reverse:=by
 simp[List.drop_take]
theorem yY{K:Keyed->Int}{l:List Keyed}(h:l.Pairwise λx y=>K x<=K y):l.reverse.Pairwise λx y=> -(K x)<= -(K y):=
 List.pairwise_reverse.mpr (h.imp λq=>Int.neg_le_neg q)
theorem Gn{K:Keyed->Int}{l:List Keyed}(h:l.Pairwise λx y=> -(K x)<= -(K y)):l.reverse.Pairwise λx y=>K x<=K y:=
 List.pairwise_reverse.mpr (h.imp λq=>by omega)
theorem Good.rev{K:Keyed->Int}{tot l:List Keyed}(h:Good (λx=> -(K x)) tot l):Good K tot l.reverse:=⟨(List.reverse_perm _).trans h.1,Gn h.2⟩
theorem NU{K:Keyed->Int}{a:Array Keyed}{i:Nat}(h:a.toList.Pairwise λx y=>K x<=K y):(rv a i).Pairwise λx y=> -(K x)<= -(K y):=yY (List.Pairwise.sublist (List.take_sublist _ _) h)
theorem MH.fin{a b o:Array Keyed}{i j:Nat}(h:MH K a b o i j)(hj:i=0∨j=0):Good K (a.toList++b.toList) (a.extract 0 i++b.extract 0 j++o.reverse).toList:=by
 have e:(a.extract 0 i++b.extract 0 j++o.reverse).toList=(o.toList++(rv b j++rv a i)).reverse:=by
  simp[rv,List.reverse_append,List.append_assoc]
 rw[e]
 refine(MG.fin h List.perm_append_comm ?_).rev
 rcases hj with rfl|rfl
 ·rw[show rv a 0=[]from rfl,List.append_nil]
  exact h.sb
 ·rw[show rv b 0=[]from rfl,List.nil_append]
  exact h.sa
theorem MH.AG{a b o:Array Keyed}{i j:Nat}(h:MH K a b o i j)(hj:j=1)(hl:∀y∈b.toList.take 1,∀x∈a.toList,K y<=K x):Good K (a.toList++b.toList) (b.extract 0 j++a.extract 0 i++o.reverse).toList:=by
 have e:(b.extract 0 j++a.extract 0 i++o.reverse).toList=(o.toList++(rv a i++rv b j)).reverse:=by
  simp[rv,List.reverse_append,List.append_assoc]
 rw[e]
 refine(MG.fin h (.refl _) (List.pairwise_append.mpr ⟨h.sa,h.sb,λx hx y hy=> ?_⟩)).rev
 subst hj
 have:=hl y (List.mem_reverse.mp hy) x (List.mem_of_mem_take (List.mem_reverse.mp hx))
 show-(K x)<= -(K y)
 omega
theorem NV(hL:pO prog w A E s κ K D){a b:Array Keyed}{Q:Array Keyed->SortSt->Prop}(hk:kindOf st=κ)(ha:0<a.size)(hb:0<b.size)(Da:∀x∈a.toList,D x)(Db:∀x∈b.toList,D x)
  (sa:a.toList.Pairwise λx y=>K x<=K y)(sb:b.toList.Pairwise λx y=>K x<=K y)(h1:∀y∈b.toList.take 1,∀x∈a.toList,K y<=K x)(h2:∀y∈b.toList,∀x∈a.toList.drop (a.size-1),K y<=K x)
  (hq:∀r st',Sg st st'->Good K (a.toList++b.toList) r.toList->Q r st'):wpS (model prog w) A E s (Qo a b) Q st:=by
 rw[LB]
 refine wpS_bind (wpS_lift (wpAny_rule ⟨rfl,?_⟩))
 dsimp only
 obtain⟨a0,e0,m0,d0⟩:=pP (a:=a) (i:=a.size) ha (Nat.le_refl _)
 refine wpS_bind (aY e0 ?_)
 have M0:MH K a b #[a0] (a.size-1) b.size:=by
  have ea:a.toList.reverse=a0::rv a (a.size-1):=by
   rw[<-d0]
   show _=(a.toList.take a.size).reverse
   rw[List.take_of_length_le (by simp)]
  have eb:rv b b.size=b.toList.reverse:=by
   show(b.toList.take b.size).reverse=_
   rw[List.take_of_length_le (by simp)]
  have sa':=yY sa
  rw[ea]at sa'
  refine⟨?_,List.pairwise_singleton _ _,(List.pairwise_cons.mp sa').2,NU sb,λx hx y hy=> ?_,λx hx y hy=> ?_⟩
  ·show([a0]++(rv a (a.size-1)++rv b b.size)).Perm _
   rw[List.singleton_append,<-List.cons_append,<-ea,eb]
   exact List.Perm.append (List.reverse_perm _) (List.reverse_perm _)
  ·rw[List.mem_singleton.mp hx]
   exact(List.pairwise_cons.mp sa').1 y hy
  ·rw[List.mem_singleton.mp hx]
   have:K y<=K a0:=by
    refine h2 y (by rw[eb]at hy;exact List.mem_reverse.mp hy) a0 ?_
    obtain⟨x,e1,e2,e3⟩:=iA (a:=a) (i:=a.size-1) (by omega)
    rw[e0]at e1
    rw[e3,<-Option.some.inj e1]
    exact List.mem_cons_self
   show-(K a0)<= -(K y)
   omega
 by_cases c1:(a.size-1==0)=true
 ·rw[if_pos c1]
  exact wpS_pure (hq _ _ (Sg.refl _) (M0.fin (.inl (by simpa using c1))))
 rw[if_neg c1]
 by_cases c2:(b.size==1)=true
 ·rw[if_pos c2]
  exact wpS_pure (hq _ _ (Sg.refl _) (M0.AG (by simpa using c2) h1))
 rw[if_neg c2]
 have n1:a.size-1≠0:=λe=>c1 (by rw[e];rfl)
 have n2:b.size≠1:=λe=>c2 (by rw[e];rfl)
 refine wpS_bind (wpS_get ?_)
 refine wpS_bind (wpS_mono (wpS_forRange (I:=λx c st'=>Sg st st'/\ ∃i j o g,c=(none,i,j,o,g)/\(MH K a b o i j/\0<i/\i<=a.size/\1<j/\j<=b.size)/\x+i+j<=a.size+b.size)
  (Q:=λc st'=>Sg st st'/\ ∃r z,c=(some r,z)/\Good K (a.toList++b.toList) r.toList) ?_ ?_ ⟨Sg.refl _,_,_,_,_,rfl,⟨M0,by omega,by omega,by omega,by omega⟩,by omega⟩) ?_)
 ·rintro x c s1 _ hx ⟨S1,i,j,o,g,rfl,I1,p1⟩
  dsimp only
  refine wpS_bind (wpS_mono (wpS_forRange (I:=λy c st'=>Sg st st'/\ ∃i j o ca cb,c=(none,i,j,o,ca,cb)/\(MH K a b o i j/\0<i/\i<=a.size/\1<j/\j<=b.size)/\y+x+i+j<=a.size+b.size)
   (Q:=λc st'=>Sg st st'/\((∃r z,c=(some r,z)/\Good K (a.toList++b.toList) r.toList)∨ ∃i j o ca cb,c=(none,i,j,o,ca,cb)/\(MH K a b o i j/\0<i/\i<=a.size/\1<j/\j<=b.size)/\x+1+i+j<=a.size+b.size)) ?_ ?_ ⟨S1,i,j,o,_,_,rfl,I1,by omega⟩) ?_)
  ·rintro y c s2 _ hy ⟨S2,i,j,o,ca,cb,rfl,⟨I2,l1,l2,l3,l4⟩,p2⟩
   dsimp only
   obtain⟨xb,eb,mb,db⟩:=pP (a:=b) (i:=j) (by omega) l4
   obtain⟨xa,ea,ma,da⟩:=pP (a:=a) (i:=i) l1 l2
   have sa':=I2.sa
   have sb':=I2.sb
   rw[da]at sa'
   rw[db]at sb'
   refine wpS_bind (aY eb (wpS_bind (aY ea (wpS_bind (hL s2 xb xa _ (S2.1.trans hk) (Db _ mb) (Da _ ma) ?_)))))
   dsimp only
   by_cases lt:K xb<K xa
   ·rw[decide_eq_true lt,if_pos rfl]
    have I3:MH K a b (o.push xa) (i-1) j:=by
     show MG _ _ (o.push xa).toList _ _
     rw[Array.toList_push]
     refine MG.gI (by rw[<-da];exact I2) λz hz=> ?_
     rw[db]at hz
     exact Int.le_trans (by show-(K xa)<= -(K xb);omega) (dZ sb' z hz)
    refine wpS_bind (aY ea ?_)
    by_cases c3:(i-1==0)=true
    ·rw[if_pos c3]
     exact wpS_pure ⟨S2,.inl ⟨_,_,rfl,I3.fin (.inl (by simpa using c3))⟩⟩
    rw[if_neg c3]
    have n3:i-1≠0:=λe=>c3 (by rw[e];rfl)
    split
    ·exact wpS_pure ⟨S2,.inr ⟨_,_,_,_,_,rfl,⟨I3,by omega,by omega,by omega,by omega⟩,by omega⟩⟩
    ·exact wpS_pure ⟨S2,_,_,_,_,_,rfl,⟨I3,by omega,by omega,by omega,by omega⟩,by omega⟩
   ·rw[decide_eq_false lt,if_neg (by simp)]
    have I3:MH K a b (o.push xb) i (j-1):=by
     show MG _ _ (o.push xb).toList _ _
     rw[Array.toList_push]
     refine MG.nL (by rw[<-db];exact I2) λz hz=> ?_
     rw[da]at hz
     exact Int.le_trans (by show-(K xb)<= -(K xa);omega) (dZ sa' z hz)
    refine wpS_bind (aY eb ?_)
    by_cases c3:(j-1==1)=true
    ·rw[if_pos c3]
     exact wpS_pure ⟨S2,.inl ⟨_,_,rfl,I3.AG (by simpa using c3) h1⟩⟩
    rw[if_neg c3]
    have n3:j-1≠1:=λe=>c3 (by rw[e];rfl)
    split
    ·exact wpS_pure ⟨S2,.inr ⟨_,_,_,_,_,rfl,⟨I3,by omega,by omega,by omega,by omega⟩,by omega⟩⟩
    ·exact wpS_pure ⟨S2,_,_,_,_,_,rfl,⟨I3,by omega,by omega,by omega,by omega⟩,by omega⟩
  ·rintro c s2 ⟨S2,i,j,o,ca,cb,rfl,⟨I2,l1,l2,l3,l4⟩,p2⟩
   omega
  ·rintro c s2 ⟨S2,⟨r,z,rfl,hr⟩|⟨i,j,o,ca,cb,rfl,I2,p2⟩⟩
   ·exact wpS_pure ⟨S2,r,_,rfl,hr⟩
   dsimp only
   refine wpS_bind (wpS_lift (wpAny_rule ⟨rfl,?_⟩))
   refine wpS_bind (wpS_mono (wpS_forRange (I:=λy c st'=>Sg st st'/\ ∃i j o g ca cb,c=(none,i,j,o,g,ca,cb)/\(MH K a b o i j/\0<i/\i<=a.size/\1<j/\j<=b.size)/\y+x+1+i+j<=a.size+b.size)
    (Q:=λc st'=>Sg st st'/\((∃r z,c=(some r,z)/\Good K (a.toList++b.toList) r.toList)∨ ∃i j o g ca cb,c=(none,i,j,o,g,ca,cb)/\(MH K a b o i j/\0<i/\i<=a.size/\1<j/\j<=b.size)/\x+1+i+j<=a.size+b.size)) ?_ ?_ ⟨S2,_,_,_,_,_,_,rfl,I2,by omega⟩) ?_)
   ·rintro y c s3 _ hy ⟨S3,i,j,o,g,ca,cb,rfl,⟨I2,l1,l2,l3,l4⟩,p2⟩
    dsimp only
    by_cases hg:g>1
    ·rw[if_pos hg]
     rw[qg]
     refine wpS_bind (wpS_modify ?_)
     obtain⟨xb,eb,mb,db⟩:=pP (a:=b) (i:=j) (by omega) l4
     have sb':=I2.sb
     rw[db]at sb'
     refine wpS_bind (aY eb (wpS_bind (jN hL ((S3.set _).1.trans hk) (a.toList.take i) (λz hz=>by rw[Nat.zero_add,List.getElem?_take_of_lt hz];simp) (by simp;omega) (λx hx=>Da x (List.mem_of_mem_take hx)) (Db _ mb) (List.Pairwise.sublist (List.take_sublist _ _) sa) (by omega) λk hk1 t1 t2=> ?_)))
     simp only[Bool.false_eq_true,if_false]at t1 t2
     rw[List.take_take,Nat.min_eq_left hk1]at t1
     dsimp only
     have J:MH K a b (o++(a.extract k i).reverse) k j:=by
      show MG _ _ (o++(a.extract k i).reverse).toList _ _
      rw[Array.toList_append,qh]
      refine MG.vZ (by rw[<-kr a hk1];exact I2) λx hx y hy=> ?_
      rw[db]at hy
      have:=t2 x (List.mem_reverse.mp hx)
      exact Int.le_trans (by show-(K x)<= -(K xb);omega) (dZ sb' y hy)
     have tJ:=t1
     by_cases hk0:i-k>0
     ·rw[if_pos hk0]
      by_cases c4:(k==0)=true
      ·rw[if_pos c4]
       exact wpS_pure ⟨S3.set _,.inl ⟨_,_,rfl,J.fin (.inl (by simpa using c4))⟩⟩
      rw[if_neg c4]
      have n4:k≠0:=λe=>c4 (by rw[e];rfl)
      obtain⟨xa,ea,ma,da⟩:=pP (a:=a) (i:=k) (by omega) (by omega)
      have sa':=J.sa
      rw[da]at sa'
      have I4:MH K a b ((o++(a.extract k i).reverse).push xb) (k) (j-1):=by
       show MG _ _ ((o++(a.extract k i).reverse).push xb).toList _ _
       rw[Array.toList_push]
       refine MG.nL (by rw[<-db];exact J) λz hz=> ?_
       have:=tJ z (List.mem_reverse.mp hz)
       show-(K xb)<= -(K z)
       omega
      refine wpS_bind (aY eb ?_)
      by_cases c5:(j-1==1)=true
      ·rw[if_pos c5]
       exact wpS_pure ⟨S3.set _,.inl ⟨_,_,rfl,I4.AG (by simpa using c5) h1⟩⟩
      rw[if_neg c5]
      have n5:j-1≠1:=λe=>c5 (by rw[e];rfl)
      refine wpS_bind (aY ea (wpS_bind (jN hL ((S3.set _).1.trans hk) (b.toList.take (j-1)) (λz hz=>by rw[Nat.zero_add,List.getElem?_take_of_lt hz];simp) (by simp;omega) (λx hx=>Db x (List.mem_of_mem_take hx)) (Da _ ma) (List.Pairwise.sublist (List.take_sublist _ _) sb) (by omega) λk2 hk2 u1 u2=> ?_)))
      simp only[if_true]at u1 u2
      rw[List.take_take,Nat.min_eq_left hk2]at u1
      dsimp only
      have I5:MH K a b ((o++(a.extract k i).reverse).push xb++(b.extract k2 (j-1)).reverse) (k) k2:=by
       show MG _ _ ((o++(a.extract k i).reverse).push xb++(b.extract k2 (j-1)).reverse).toList _ _
       rw[Array.toList_append,qh]
       refine MG.rE (by rw[<-kr b hk2];exact I4) λx hx y hy=> ?_
       rw[da]at hy
       have:=u2 x (List.mem_reverse.mp hx)
       exact Int.le_trans (by show-(K x)<= -(K xa);omega) (dZ sa' y hy)
      have mC:∀y∈rv b k2,-(K xa)<= -(K y):=λy hy=>by
       have:=u1 y (List.mem_reverse.mp hy)
       omega
      by_cases tN:j-1-k2>0
      ·rw[if_pos tN]
       by_cases c6:(k2==1)=true
       ·rw[if_pos c6]
        exact wpS_pure ⟨S3.set _,.inl ⟨_,_,rfl,I5.AG (by simpa using c6) h1⟩⟩
       rw[if_neg c6]
       have n6:k2≠1:=λe=>c6 (by rw[e];rfl)
       by_cases c8:(k2==0)=true
       ·rw[if_pos c8]
        exact wpS_pure ⟨S3.set _,.inl ⟨_,_,rfl,I5.fin (.inr (by simpa using c8))⟩⟩
       rw[if_neg c8]
       have n8:k2≠0:=λe=>c8 (by rw[e];rfl)
       have I6:MH K a b (((o++(a.extract k i).reverse).push xb++(b.extract k2 (j-1)).reverse).push xa) (k-1) k2:=by
        show MG _ _ (((o++(a.extract k i).reverse).push xb++(b.extract k2 (j-1)).reverse).push xa).toList _ _
        rw[Array.toList_push]
        exact MG.gI (by rw[<-da];exact I5) mC
       refine wpS_bind (aY ea ?_)
       by_cases c7:(k-1==0)=true
       ·rw[if_pos c7]
        exact wpS_pure ⟨S3.set _,.inl ⟨_,_,rfl,I6.fin (.inl (by simpa using c7))⟩⟩
       rw[if_neg c7]
       have n7:k-1≠0:=λe=>c7 (by rw[e];rfl)
       split
       ·exact wpS_pure ⟨S3.set _,.inr ⟨_,_,_,_,_,_,rfl,⟨I6,by omega,by omega,by omega,by omega⟩,by omega⟩⟩
       ·exact wpS_pure ⟨S3.set _,_,_,_,_,_,_,rfl,⟨I6,by omega,by omega,by omega,by omega⟩,by omega⟩
      ·rw[if_neg tN]
       have z2:k2=j-1:=by omega
       subst z2
       have I6:MH K a b (((o++(a.extract k i).reverse).push xb).push xa) (k-1) (j-1):=by
        show MG _ _ (((o++(a.extract k i).reverse).push xb).push xa).toList _ _
        rw[Array.toList_push]
        exact MG.gI (by rw[<-da];exact I4) mC
       refine wpS_bind (aY ea ?_)
       by_cases c7:(k-1==0)=true
       ·rw[if_pos c7]
        exact wpS_pure ⟨S3.set _,.inl ⟨_,_,rfl,I6.fin (.inl (by simpa using c7))⟩⟩
       rw[if_neg c7]
       have n7:k-1≠0:=λe=>c7 (by rw[e];rfl)
       split
       ·exact wpS_pure ⟨S3.set _,.inr ⟨_,_,_,_,_,_,rfl,⟨I6,by omega,by omega,by omega,by omega⟩,by omega⟩⟩
       ·exact wpS_pure ⟨S3.set _,_,_,_,_,_,_,rfl,⟨I6,by omega,by omega,by omega,by omega⟩,by omega⟩
     ·rw[if_neg hk0]
      have z0:k=i:=by omega
      subst z0
      replace J:=I2
      obtain⟨xa,ea,ma,da⟩:=pP (a:=a) (i:=k) (by omega) (by omega)
      have sa':=J.sa
      rw[da]at sa'
      have I4:MH K a b (o.push xb) (k) (j-1):=by
       show MG _ _ (o.push xb).toList _ _
       rw[Array.toList_push]
       refine MG.nL (by rw[<-db];exact J) λz hz=> ?_
       have:=tJ z (List.mem_reverse.mp hz)
       show-(K xb)<= -(K z)
       omega
      refine wpS_bind (aY eb ?_)
      by_cases c5:(j-1==1)=true
      ·rw[if_pos c5]
       exact wpS_pure ⟨S3.set _,.inl ⟨_,_,rfl,I4.AG (by simpa using c5) h1⟩⟩
      rw[if_neg c5]
      have n5:j-1≠1:=λe=>c5 (by rw[e];rfl)
      refine wpS_bind (aY ea (wpS_bind (jN hL ((S3.set _).1.trans hk) (b.toList.take (j-1)) (λz hz=>by rw[Nat.zero_add,List.getElem?_take_of_lt hz];simp) (by simp;omega) (λx hx=>Db x (List.mem_of_mem_take hx)) (Da _ ma) (List.Pairwise.sublist (List.take_sublist _ _) sb) (by omega) λk2 hk2 u1 u2=> ?_)))
      simp only[if_true]at u1 u2
      rw[List.take_take,Nat.min_eq_left hk2]at u1
      dsimp only
      have I5:MH K a b (o.push xb++(b.extract k2 (j-1)).reverse) (k) k2:=by
       show MG _ _ (o.push xb++(b.extract k2 (j-1)).reverse).toList _ _
       rw[Array.toList_append,qh]
       refine MG.rE (by rw[<-kr b hk2];exact I4) λx hx y hy=> ?_
       rw[da]at hy
       have:=u2 x (List.mem_reverse.mp hx)
       exact Int.le_trans (by show-(K x)<= -(K xa);omega) (dZ sa' y hy)
      have mC:∀y∈rv b k2,-(K xa)<= -(K y):=λy hy=>by
       have:=u1 y (List.mem_reverse.mp hy)
       omega
      by_cases tN:j-1-k2>0
      ·rw[if_pos tN]
       by_cases c6:(k2==1)=true
       ·rw[if_pos c6]
        exact wpS_pure ⟨S3.set _,.inl ⟨_,_,rfl,I5.AG (by simpa using c6) h1⟩⟩
       rw[if_neg c6]
       have n6:k2≠1:=λe=>c6 (by rw[e];rfl)
       by_cases c8:(k2==0)=true
       ·rw[if_pos c8]
        exact wpS_pure ⟨S3.set _,.inl ⟨_,_,rfl,I5.fin (.inr (by simpa using c8))⟩⟩
       rw[if_neg c8]
       have n8:k2≠0:=λe=>c8 (by rw[e];rfl)
       have I6:MH K a b ((o.push xb++(b.extract k2 (j-1)).reverse).push xa) (k-1) k2:=by
        show MG _ _ ((o.push xb++(b.extract k2 (j-1)).reverse).push xa).toList _ _
        rw[Array.toList_push]
        exact MG.gI (by rw[<-da];exact I5) mC
       refine wpS_bind (aY ea ?_)
       by_cases c7:(k-1==0)=true
       ·rw[if_pos c7]
        exact wpS_pure ⟨S3.set _,.inl ⟨_,_,rfl,I6.fin (.inl (by simpa using c7))⟩⟩
       rw[if_neg c7]
       have n7:k-1≠0:=λe=>c7 (by rw[e];rfl)
       split
       ·exact wpS_pure ⟨S3.set _,.inr ⟨_,_,_,_,_,_,rfl,⟨I6,by omega,by omega,by omega,by omega⟩,by omega⟩⟩
       ·exact wpS_pure ⟨S3.set _,_,_,_,_,_,_,rfl,⟨I6,by omega,by omega,by omega,by omega⟩,by omega⟩
      ·rw[if_neg tN]
       have z2:k2=j-1:=by omega
       subst z2
       have I6:MH K a b ((o.push xb).push xa) (k-1) (j-1):=by
        show MG _ _ ((o.push xb).push xa).toList _ _
        rw[Array.toList_push]
        exact MG.gI (by rw[<-da];exact I4) mC
       refine wpS_bind (aY ea ?_)
       by_cases c7:(k-1==0)=true
       ·rw[if_pos c7]
        exact wpS_pure ⟨S3.set _,.inl ⟨_,_,rfl,I6.fin (.inl (by simpa using c7))⟩⟩
       rw[if_neg c7]
       have n7:k-1≠0:=λe=>c7 (by rw[e];rfl)
       split
       ·exact wpS_pure ⟨S3.set _,.inr ⟨_,_,_,_,_,_,rfl,⟨I6,by omega,by omega,by omega,by omega⟩,by omega⟩⟩
       ·exact wpS_pure ⟨S3.set _,_,_,_,_,_,_,rfl,⟨I6,by omega,by omega,by omega,by omega⟩,by omega⟩
    ·rw[if_neg hg]
     rw[qg]
     refine wpS_bind (wpS_modify ?_)
     obtain⟨xb,eb,mb,db⟩:=pP (a:=b) (i:=j) (by omega) l4
     have sb':=I2.sb
     rw[db]at sb'
     refine wpS_bind (aY eb (wpS_bind (jN hL ((S3.set _).1.trans hk) (a.toList.take i) (λz hz=>by rw[Nat.zero_add,List.getElem?_take_of_lt hz];simp) (by simp;omega) (λx hx=>Da x (List.mem_of_mem_take hx)) (Db _ mb) (List.Pairwise.sublist (List.take_sublist _ _) sa) (by omega) λk hk1 t1 t2=> ?_)))
     simp only[Bool.false_eq_true,if_false]at t1 t2
     rw[List.take_take,Nat.min_eq_left hk1]at t1
     dsimp only
     have J:MH K a b (o++(a.extract k i).reverse) k j:=by
      show MG _ _ (o++(a.extract k i).reverse).toList _ _
      rw[Array.toList_append,qh]
      refine MG.vZ (by rw[<-kr a hk1];exact I2) λx hx y hy=> ?_
      rw[db]at hy
      have:=t2 x (List.mem_reverse.mp hx)
      exact Int.le_trans (by show-(K x)<= -(K xb);omega) (dZ sb' y hy)
     have tJ:=t1
     by_cases hk0:i-k>0
     ·rw[if_pos hk0]
      by_cases c4:(k==0)=true
      ·rw[if_pos c4]
       exact wpS_pure ⟨S3.set _,.inl ⟨_,_,rfl,J.fin (.inl (by simpa using c4))⟩⟩
      rw[if_neg c4]
      have n4:k≠0:=λe=>c4 (by rw[e];rfl)
      obtain⟨xa,ea,ma,da⟩:=pP (a:=a) (i:=k) (by omega) (by omega)
      have sa':=J.sa
      rw[da]at sa'
      have I4:MH K a b ((o++(a.extract k i).reverse).push xb) (k) (j-1):=by
       show MG _ _ ((o++(a.extract k i).reverse).push xb).toList _ _
       rw[Array.toList_push]
       refine MG.nL (by rw[<-db];exact J) λz hz=> ?_
       have:=tJ z (List.mem_reverse.mp hz)
       show-(K xb)<= -(K z)
       omega
      refine wpS_bind (aY eb ?_)
      by_cases c5:(j-1==1)=true
      ·rw[if_pos c5]
       exact wpS_pure ⟨S3.set _,.inl ⟨_,_,rfl,I4.AG (by simpa using c5) h1⟩⟩
      rw[if_neg c5]
      have n5:j-1≠1:=λe=>c5 (by rw[e];rfl)
      refine wpS_bind (aY ea (wpS_bind (jN hL ((S3.set _).1.trans hk) (b.toList.take (j-1)) (λz hz=>by rw[Nat.zero_add,List.getElem?_take_of_lt hz];simp) (by simp;omega) (λx hx=>Db x (List.mem_of_mem_take hx)) (Da _ ma) (List.Pairwise.sublist (List.take_sublist _ _) sb) (by omega) λk2 hk2 u1 u2=> ?_)))
      simp only[if_true]at u1 u2
      rw[List.take_take,Nat.min_eq_left hk2]at u1
      dsimp only
      have I5:MH K a b ((o++(a.extract k i).reverse).push xb++(b.extract k2 (j-1)).reverse) (k) k2:=by
       show MG _ _ ((o++(a.extract k i).reverse).push xb++(b.extract k2 (j-1)).reverse).toList _ _
       rw[Array.toList_append,qh]
       refine MG.rE (by rw[<-kr b hk2];exact I4) λx hx y hy=> ?_
       rw[da]at hy
       have:=u2 x (List.mem_reverse.mp hx)
       exact Int.le_trans (by show-(K x)<= -(K xa);omega) (dZ sa' y hy)
      have mC:∀y∈rv b k2,-(K xa)<= -(K y):=λy hy=>by
       have:=u1 y (List.mem_reverse.mp hy)
       omega
      by_cases tN:j-1-k2>0
      ·rw[if_pos tN]
       by_cases c6:(k2==1)=true
       ·rw[if_pos c6]
        exact wpS_pure ⟨S3.set _,.inl ⟨_,_,rfl,I5.AG (by simpa using c6) h1⟩⟩
       rw[if_neg c6]
       have n6:k2≠1:=λe=>c6 (by rw[e];rfl)
       by_cases c8:(k2==0)=true
       ·rw[if_pos c8]
        exact wpS_pure ⟨S3.set _,.inl ⟨_,_,rfl,I5.fin (.inr (by simpa using c8))⟩⟩
       rw[if_neg c8]
       have n8:k2≠0:=λe=>c8 (by rw[e];rfl)
       have I6:MH K a b (((o++(a.extract k i).reverse).push xb++(b.extract k2 (j-1)).reverse).push xa) (k-1) k2:=by
        show MG _ _ (((o++(a.extract k i).reverse).push xb++(b.extract k2 (j-1)).reverse).push xa).toList _ _
        rw[Array.toList_push]
        exact MG.gI (by rw[<-da];exact I5) mC
       refine wpS_bind (aY ea ?_)
       by_cases c7:(k-1==0)=true
       ·rw[if_pos c7]
        exact wpS_pure ⟨S3.set _,.inl ⟨_,_,rfl,I6.fin (.inl (by simpa using c7))⟩⟩
       rw[if_neg c7]
       have n7:k-1≠0:=λe=>c7 (by rw[e];rfl)
       split
       ·exact wpS_pure ⟨S3.set _,.inr ⟨_,_,_,_,_,_,rfl,⟨I6,by omega,by omega,by omega,by omega⟩,by omega⟩⟩
       ·exact wpS_pure ⟨S3.set _,_,_,_,_,_,_,rfl,⟨I6,by omega,by omega,by omega,by omega⟩,by omega⟩
      ·rw[if_neg tN]
       have z2:k2=j-1:=by omega
       subst z2
       have I6:MH K a b (((o++(a.extract k i).reverse).push xb).push xa) (k-1) (j-1):=by
        show MG _ _ (((o++(a.extract k i).reverse).push xb).push xa).toList _ _
        rw[Array.toList_push]
        exact MG.gI (by rw[<-da];exact I4) mC
       refine wpS_bind (aY ea ?_)
       by_cases c7:(k-1==0)=true
       ·rw[if_pos c7]
        exact wpS_pure ⟨S3.set _,.inl ⟨_,_,rfl,I6.fin (.inl (by simpa using c7))⟩⟩
       rw[if_neg c7]
       have n7:k-1≠0:=λe=>c7 (by rw[e];rfl)
       split
       ·exact wpS_pure ⟨S3.set _,.inr ⟨_,_,_,_,_,_,rfl,⟨I6,by omega,by omega,by omega,by omega⟩,by omega⟩⟩
       ·exact wpS_pure ⟨S3.set _,_,_,_,_,_,_,rfl,⟨I6,by omega,by omega,by omega,by omega⟩,by omega⟩
     ·rw[if_neg hk0]
      have z0:k=i:=by omega
      subst z0
      replace J:=I2
      obtain⟨xa,ea,ma,da⟩:=pP (a:=a) (i:=k) (by omega) (by omega)
      have sa':=J.sa
      rw[da]at sa'
      have I4:MH K a b (o.push xb) (k) (j-1):=by
       show MG _ _ (o.push xb).toList _ _
       rw[Array.toList_push]
       refine MG.nL (by rw[<-db];exact J) λz hz=> ?_
       have:=tJ z (List.mem_reverse.mp hz)
       show-(K xb)<= -(K z)
       omega
      refine wpS_bind (aY eb ?_)
      by_cases c5:(j-1==1)=true
      ·rw[if_pos c5]
       exact wpS_pure ⟨S3.set _,.inl ⟨_,_,rfl,I4.AG (by simpa using c5) h1⟩⟩
      rw[if_neg c5]
      have n5:j-1≠1:=λe=>c5 (by rw[e];rfl)
      refine wpS_bind (aY ea (wpS_bind (jN hL ((S3.set _).1.trans hk) (b.toList.take (j-1)) (λz hz=>by rw[Nat.zero_add,List.getElem?_take_of_lt hz];simp) (by simp;omega) (λx hx=>Db x (List.mem_of_mem_take hx)) (Da _ ma) (List.Pairwise.sublist (List.take_sublist _ _) sb) (by omega) λk2 hk2 u1 u2=> ?_)))
      simp only[if_true]at u1 u2
      rw[List.take_take,Nat.min_eq_left hk2]at u1
      dsimp only
      have I5:MH K a b (o.push xb++(b.extract k2 (j-1)).reverse) (k) k2:=by
       show MG _ _ (o.push xb++(b.extract k2 (j-1)).reverse).toList _ _
       rw[Array.toList_append,qh]
       refine MG.rE (by rw[<-kr b hk2];exact I4) λx hx y hy=> ?_
       rw[da]at hy
       have:=u2 x (List.mem_reverse.mp hx)
       exact Int.le_trans (by show-(K x)<= -(K xa);omega) (dZ sa' y hy)
      have mC:∀y∈rv b k2,-(K xa)<= -(K y):=λy hy=>by
       have:=u1 y (List.mem_reverse.mp hy)
       omega
      by_cases tN:j-1-k2>0
      ·rw[if_pos tN]
       by_cases c6:(k2==1)=true
       ·rw[if_pos c6]
        exact wpS_pure ⟨S3.set _,.inl ⟨_,_,rfl,I5.AG (by simpa using c6) h1⟩⟩
       rw[if_neg c6]
       have n6:k2≠1:=λe=>c6 (by rw[e];rfl)
       by_cases c8:(k2==0)=true
       ·rw[if_pos c8]
        exact wpS_pure ⟨S3.set _,.inl ⟨_,_,rfl,I5.fin (.inr (by simpa using c8))⟩⟩
       rw[if_neg c8]
       have n8:k2≠0:=λe=>c8 (by rw[e];rfl)
       have I6:MH K a b ((o.push xb++(b.extract k2 (j-1)).reverse).push xa) (k-1) k2:=by
        show MG _ _ ((o.push xb++(b.extract k2 (j-1)).reverse).push xa).toList _ _
        rw[Array.toList_push]
        exact MG.gI (by rw[<-da];exact I5) mC
       refine wpS_bind (aY ea ?_)
       by_cases c7:(k-1==0)=true
       ·rw[if_pos c7]
        exact wpS_pure ⟨S3.set _,.inl ⟨_,_,rfl,I6.fin (.inl (by simpa using c7))⟩⟩
       rw[if_neg c7]
       have n7:k-1≠0:=λe=>c7 (by rw[e];rfl)
       split
       ·exact wpS_pure ⟨S3.set _,.inr ⟨_,_,_,_,_,_,rfl,⟨I6,by omega,by omega,by omega,by omega⟩,by omega⟩⟩
       ·exact wpS_pure ⟨S3.set _,_,_,_,_,_,_,rfl,⟨I6,by omega,by omega,by omega,by omega⟩,by omega⟩
      ·rw[if_neg tN]
       have z2:k2=j-1:=by omega
       subst z2
       have I6:MH K a b ((o.push xb).push xa) (k-1) (j-1):=by
        show MG _ _ ((o.push xb).push xa).toList _ _
        rw[Array.toList_push]
        exact MG.gI (by rw[<-da];exact I4) mC
       refine wpS_bind (aY ea ?_)
       by_cases c7:(k-1==0)=true
       ·rw[if_pos c7]
        exact wpS_pure ⟨S3.set _,.inl ⟨_,_,rfl,I6.fin (.inl (by simpa using c7))⟩⟩
       rw[if_neg c7]
       have n7:k-1≠0:=λe=>c7 (by rw[e];rfl)
       split
       ·exact wpS_pure ⟨S3.set _,.inr ⟨_,_,_,_,_,_,rfl,⟨I6,by omega,by omega,by omega,by omega⟩,by omega⟩⟩
       ·exact wpS_pure ⟨S3.set _,_,_,_,_,_,_,rfl,⟨I6,by omega,by omega,by omega,by omega⟩,by omega⟩
   ·rintro c s3 ⟨S3,i,j,o,g,ca,cb,rfl,⟨I2,l1,l2,l3,l4⟩,p2⟩
    omega
   ·rintro c s3 ⟨S3,⟨r,z,rfl,hr⟩|⟨i,j,o,g,ca,cb,rfl,I2,p2⟩⟩
    ·exact wpS_pure ⟨S3,r,_,rfl,hr⟩
    dsimp only
    rw[qg]
    exact wpS_bind (wpS_modify (wpS_pure ⟨S3.set _,_,_,_,_,rfl,I2,by omega⟩))
 ·rintro c s1 ⟨S1,i,j,o,g,rfl,⟨I1,l1,l2,l3,l4⟩,p1⟩
  omega
 ·rintro c s1 ⟨S1,r,z,rfl,hr⟩
  exact wpS_pure (hq r s1 S1 hr)
end
def kA(K:Keyed->Int)(xs:Array Keyed)(i:Nat):Int:=match xs[i]? with
 |some p=>K p
 |none=>0
theorem jz{K:Keyed->Int}{xs ys:Array Keyed}{i j:Nat}(h:xs[i]?=ys[j]?):kA K xs i=kA K ys j:=by unfold kA;rw[h]
def So(K:Keyed->Int)(xs:Array Keyed)(lo n:Nat):Prop:=∀i j,i<=j->j<n->kA K xs (lo+i)<=kA K xs (lo+j)
def Si(K:Keyed->Int)(xs:Array Keyed)(lo n:Nat):Prop:=∀i j,i<=j->j<n->kA K xs (lo+j)<=kA K xs (lo+i)
theorem qi{K:Keyed->Int}{xs:Array Keyed}{i j:Nat}(hj:j<=xs.size)(k:Nat):
  kA K (mirror xs i j ((j-i)/2)) k=if i<=k/\k<j then kA K xs (i+j-1-k)else kA K xs k:=by
 have e:=getElem?_mirror_all (i:=i) hj k
 by_cases h1:i<=k/\k<j
 ·rw[if_pos h1]at e ⊢;exact jz e
 ·rw[if_neg h1]at e ⊢;exact jz e
theorem xA{K:Keyed->Int}{xs:Array Keyed}{i j:Nat}(hj:j<=xs.size)(heq:∀k,i<=k->k<j->kA K xs k=kA K xs (j-1))(k:Nat):kA K (mirror xs i j ((j-i)/2)) k=kA K xs k:=by
 rw[qi hj]
 split
 ·rw[heq _ (by omega) (by omega),heq k (by omega) (by omega)]
 ·rfl
theorem DJ{K:Keyed->Int}{xs:Array Keyed}{src d:Nat}(hs:src<xs.size)(hd:d<=src)(k:Nat):
  kA K (bubble xs src d) k=if k=src-d then kA K xs src else if src-d<k/\k<=src then kA K xs (k-1)else kA K xs k:=by
 have e:=getElem?_bubble hs d hd k
 by_cases h1:k=src-d
 ·rw[if_pos h1]at e ⊢;exact jz e
 ·rw[if_neg h1]at e ⊢
  by_cases h2:src-d<k/\k<=src
  ·rw[if_pos h2]at e ⊢;exact jz e
  ·rw[if_neg h2]at e ⊢;exact jz e
structure SC(lo:Nat)(s0 st:SortSt):Prop where
 perm:(arrOf st).Perm (arrOf s0)
 kind:kindOf st=kindOf s0
 failed:failedOf st=failedOf s0
 pend:pendingOf st=pendingOf s0
 low:∀i,i<lo->(arrOf st)[i]?=(arrOf s0)[i]?
theorem SC.refl(lo:Nat)(st:SortSt):SC lo st st:=⟨Array.Perm.refl _,rfl,rfl,rfl,λ_ _=>rfl⟩
theorem SC.trans{lo:Nat}{a b c:SortSt}(x:SC lo a b)(y:SC lo b c):SC lo a c:=⟨y.perm.trans x.perm,y.kind.trans x.kind,y.failed.trans x.failed,y.pend.trans x.pend,λi h=>(y.low i h).trans (x.low i h)⟩
theorem SC.size{lo:Nat}{a b:SortSt}(x:SC lo a b):(arrOf b).size=(arrOf a).size:=x.perm.size_eq
theorem SC.mirror{lo:Nat}{s0 st:SortSt}(x:SC lo s0 st){i j:Nat}(hi:lo<=i)(hj:j<=(arrOf st).size):SC lo s0 (setArr st (mirror (arrOf st) i j ((j-i)/2))):=
 x.trans ⟨mirror_perm _ _ _ _,rfl,rfl,rfl,λk hk=>by
  show(PyProof.Rows.mirror (arrOf st) i j ((j-i)/2))[k]?=_
  rw[getElem?_mirror_all hj,if_neg (by omega)]⟩
theorem SC.bubble{lo:Nat}{s0 st:SortSt}(x:SC lo s0 st){src d:Nat}(hs:src<(arrOf st).size)(hd:lo+d<=src):SC lo s0 (setArr st (bubble (arrOf st) src d)):=
 x.trans ⟨bubble_perm _ _ _,rfl,rfl,rfl,λk hk=>by
  show(PyProof.Rows.bubble (arrOf st) src d)[k]?=_
  rw[getElem?_bubble hs d (by omega),if_neg (by omega),if_neg (by omega)]⟩
structure SB(κ:SortKind)(D:Keyed->Prop)(st:SortSt):Prop where
 kind:kindOf st=κ
 failed:failedOf st=none
 all:∀x∈(arrOf st).toList,D x
theorem SB.sc{κ:SortKind}{D:Keyed->Prop}{lo:Nat}{s0 st:SortSt}(b:SB κ D s0)(x:SC lo s0 st):SB κ D st:=
 ⟨x.kind.trans b.kind,x.failed.trans b.failed,λy hy=>b.all y ((Array.perm_iff_toList_perm.mp x.perm).mem_iff.mp hy)⟩
section
variable{prog:Program}{w:World}{A:Around}{E:Value->Shared->Prop}{s:Shared}{κ:SortKind}{K:Keyed->Int}{D:Keyed->Prop}{st:SortSt}
theorem qj(hL:pO prog w A E s κ K D){i j:Nat}{Q:Option Bool->SortSt->Prop}(hB:SB κ D st)(hi:i<(arrOf st).size)(hj:j<(arrOf st).size)
  (h:Q (some (decide (kA K (arrOf st) i<kA K (arrOf st) j))) st):wpS (model prog w) A E s (ltAt' i j) Q st:=by
 rw[ltAt'_eq]
 refine wpS_bind (wpS_get ?_)
 show wpS _ _ _ _ (do let x<-elem' (arrOf st) i;let y<-elem' (arrOf st) j;lt' x y) Q st
 have e1:(arrOf st)[i]?=some (arrOf st)[i]:=getElem?_pos _ i hi
 have e2:(arrOf st)[j]?=some (arrOf st)[j]:=getElem?_pos _ j hj
 refine wpS_bind (aY e1 (wpS_bind (aY e2 ?_)))
 refine hL st _ _ _ hB.kind (hB.all _ (by simp)) (hB.all _ (by simp)) ?_
 unfold kA at h
 rw[e1,e2]at h
 exact h
theorem w_rev{M:Model}{i j:Nat}{Q:Unit->SortSt->Prop}(h:Q ⟨⟩ (setArr st (mirror (arrOf st) i j ((j-i)/2)))):wpS M A E s (reverseSlice' i j) Q st:=by
 rw[reverseSlice'_eq]
 exact wpS_modify h
theorem w_count(hL:pO prog w A E s κ K D){lo nrem:Nat}{Q:Option Nat->SortSt->Prop}(hB:SB κ D st)(h1:1<=nrem)(hz:lo+nrem<=(arrOf st).size)
  (hq:∀n st',SC lo st st'->1<=n->n<=nrem->So K (arrOf st') lo n->Q (some n) st'):wpS (model prog w) A E s (countRun' lo nrem) Q st:=by
 rw[countRun'_eq]
 refine wpS_bind (wpS_mono (wpS_forRange (I:=λx c st'=>st'=st/\c=(none,x)/\So K (arrOf st) lo x)
  (Q:=λc st'=>st'=st/\ ∃n,c=(none,n)/\1<=n/\n<=nrem/\So K (arrOf st) lo n/\(n=nrem∨kA K (arrOf st) (lo+n)<kA K (arrOf st) (lo+n-1))) ?_ ?_ ⟨rfl,rfl,λi j hij hj=> ?_⟩) ?_)
 ·rintro x c st' ha hx ⟨rfl,rfl,hs⟩
  dsimp only
  refine wpS_bind (qj hL hB (by omega) (by omega) ?_)
  dsimp only
  by_cases lt:kA K (arrOf st') (lo+x)<kA K (arrOf st') (lo+x-1)
  ·rw[decide_eq_true lt,if_pos rfl]
   exact wpS_pure ⟨rfl,x,rfl,ha,by omega,hs,.inr lt⟩
  ·rw[decide_eq_false lt,if_neg (by simp)]
   refine wpS_pure ⟨rfl,rfl,λi j hij hj=> ?_⟩
   by_cases c:j=x
   ·subst c
    by_cases c2:i=j
    ·subst c2;exact Int.le_refl _
    ·have:=hs i (j-1) (by omega) (by omega)
     rw[show lo+(j-1)=lo+j-1 by omega]at this
     omega
   ·exact hs i j hij (by omega)
 ·rintro c st' ⟨rfl,rfl,hs⟩
  rw[Nat.max_eq_right h1]at hs ⊢
  exact⟨rfl,nrem,rfl,h1,Nat.le_refl _,hs,.inl rfl⟩
 ·have:i=j:=by omega
  subst this
  exact Int.le_refl _
 rintro c st' ⟨rfl,n,rfl,n1,n2,hs,hend⟩
 dsimp only
 by_cases c1:(n==nrem)=true
 ·rw[if_pos c1]
  exact wpS_pure (hq n st' (.refl _ _) n1 n2 hs)
 rw[if_neg c1]
 have nn:n<nrem:=by
  have:n≠nrem:=λe=>c1 (by rw[e];simp)
  omega
 have hlt:kA K (arrOf st') (lo+n)<kA K (arrOf st') (lo+n-1):=hend.resolve_left (by omega)
 have part:∀s1:SortSt,SC lo st' s1->(∀k,kA K (arrOf s1) k=kA K (arrOf st') k) ->Si K (arrOf st') lo (n+1) -> ∀F:StateT SortSt Sem (Option Nat),F=(do
   rule "list.sort.descending-run"
   let mut n:=n
   n:=n+1
   let mut q:=0
   for _ in [n:nrem] do
    let some m<-ltAt' (lo+n) (lo+n-1)|return none
    if m then
     if q>0 then reverseSlice' (lo+n- (q+1)) (lo+n)
     q:=0
    else
     let some g<-ltAt' (lo+n-1) (lo+n)|return none
     if g then break
     q:=q+1
    n:=n+1
   if q>0 then reverseSlice' (lo+n- (q+1)) (lo+n)
   reverseSlice' lo (lo+n)
   for _ in [n:nrem] do
    let some m<-ltAt' (lo+n) (lo+n-1)|return none
    if m then break
    n:=n+1
   return some n) ->wpS (model prog w) A E s F Q s1:=by
  intro s1 S1 hk1 hd F hF
  subst hF
  refine wpS_bind (wpS_lift (wpAny_rule ⟨rfl,?_⟩))
  dsimp only
  have rest:∀(s2:SortSt)(m:Nat),SC lo st' s2->n+1<=m->m<=nrem->Si K (arrOf s2) lo m-> ∀F:StateT SortSt Sem (Option Nat),F=(do
    reverseSlice' lo (lo+m)
    let mut n:=m
    for _ in [n:nrem] do
     let some m<-ltAt' (lo+n) (lo+n-1)|return none
     if m then break
     n:=n+1
    return some n) ->wpS (model prog w) A E s F Q s2:=by
   intro s2 m S2 m1 m2 hd2 F hF
   subst hF
   have z2:=S2.size
   refine wpS_bind (w_rev ?_)
   have S3:=S2.mirror (i:=lo) (j:=lo+m) (Nat.le_refl _) (by omega)
   have RM:So K (arrOf (setArr s2 (mirror (arrOf s2) lo (lo+m) ((lo+m-lo)/2)))) lo m:=by
    intro i j hij hj
    show kA K (mirror (arrOf s2) lo (lo+m) ((lo+m-lo)/2)) (lo+i)<=kA K (mirror (arrOf s2) lo (lo+m) ((lo+m-lo)/2)) (lo+j)
    rw[qi (by omega),qi (by omega),if_pos (by omega),if_pos (by omega)]
    have:=hd2 (m-1-j) (m-1-i) (by omega) (by omega)
    rw[show lo+(m-1-i)=lo+(lo+m) -1- (lo+i)by omega,show lo+(m-1-j)=lo+(lo+m) -1- (lo+j)by omega]at this
    exact this
   generalize setArr s2 (mirror (arrOf s2) lo (lo+m) ((lo+m-lo)/2))=s3 at S3 RM ⊢
   have z3:=S3.size
   have Uk:=hB.sc S3
   refine wpS_bind (wpS_mono (wpS_forRange (I:=λx c st''=>st''=s3/\c=(none,x)/\So K (arrOf s3) lo x)
    (Q:=λc st''=>st''=s3/\ ∃n,c=(none,n)/\1<=n/\n<=nrem/\So K (arrOf s3) lo n) ?_ ?_ ⟨rfl,rfl,RM⟩) ?_)
   ·rintro x c st'' ha hx ⟨rfl,rfl,hs⟩
    dsimp only
    refine wpS_bind (qj hL Uk (by omega) (by omega) ?_)
    dsimp only
    by_cases lt:kA K (arrOf st'') (lo+x)<kA K (arrOf st'') (lo+x-1)
    ·rw[decide_eq_true lt,if_pos rfl]
     exact wpS_pure ⟨rfl,x,rfl,by omega,by omega,hs⟩
    ·rw[decide_eq_false lt,if_neg (by simp)]
     refine wpS_pure ⟨rfl,rfl,λi j hij hj=> ?_⟩
     by_cases c:j=x
     ·subst c
      by_cases c2:i=j
      ·subst c2;exact Int.le_refl _
      ·have:=hs i (j-1) (by omega) (by omega)
       rw[show lo+(j-1)=lo+j-1 by omega]at this
       omega
     ·exact hs i j hij (by omega)
   ·rintro c st'' ⟨rfl,rfl,hs⟩
    rw[Nat.max_eq_right m2]at hs ⊢
    exact⟨rfl,nrem,rfl,by omega,Nat.le_refl _,hs⟩
   ·rintro c st'' ⟨rfl,n',rfl,a1,a2,a3⟩
    exact wpS_pure (hq n' st'' S3 a1 a2 a3)
  refine wpS_bind (wpS_mono (wpS_forRange (I:=λx c s2=> ∃q,c=(none,x,q)/\SC lo st' s2/\Si K (arrOf s2) lo x/\q+1<=x/\ ∀i,x- (q+1)<=i->i<x->kA K (arrOf s2) (lo+i)=kA K (arrOf s2) (lo+x-1))
   (Q:=λc s2=> ∃x q,c=(none,x,q)/\n+1<=x/\x<=nrem/\SC lo st' s2/\Si K (arrOf s2) lo x/\q+1<=x/\ ∀i,x- (q+1)<=i->i<x->kA K (arrOf s2) (lo+i)=kA K (arrOf s2) (lo+x-1)) ?_ ?_ ⟨0,rfl,S1,λi j hij hj=> ?_,by omega,λi h1 h2=> ?_⟩) ?_)
  ·rintro x c s2 ha hx ⟨q,rfl,S2,hd2,hq1,heq⟩
   dsimp only
   have z2:=S2.size
   have hB2:=hB.sc S2
   refine wpS_bind (qj hL hB2 (by omega) (by omega) ?_)
   dsimp only
   by_cases lt:kA K (arrOf s2) (lo+x)<kA K (arrOf s2) (lo+x-1)
   ·rw[decide_eq_true lt,if_pos rfl]
    have RN:∀s3:SortSt,SC lo st' s3->(∀k,kA K (arrOf s3) k=kA K (arrOf s2) k) -> ∃q,((none,x+1,0):Option (Option Nat)×Nat×Nat)=(none,x+1,q)/\SC lo st' s3/\Si K (arrOf s3) lo (x+1)/\q+1<=x+1/\ ∀i,x+1- (q+1)<=i->i<x+1->kA K (arrOf s3) (lo+i)=kA K (arrOf s3) (lo+(x+1) -1):=by
     intro s3 S3 JL
     refine⟨0,rfl,S3,λi j hij hj=> ?_,by omega,λi h1 h2=> ?_⟩
     ·rw[JL,JL]
      by_cases c:j=x
      ·subst c
       by_cases c2:i=j
       ·subst c2;exact Int.le_refl _
       ·have:=hd2 i (j-1) (by omega) (by omega)
        rw[show lo+(j-1)=lo+j-1 by omega]at this
        omega
      ·exact hd2 i j hij (by omega)
     ·have:i=x:=by omega
      subst this
      rfl
    by_cases NW:q>0
    ·rw[if_pos NW]
     refine wpS_bind (w_rev (wpS_pure (RN _ (S2.mirror (by omega) (by omega)) λk=> ?_)))
     refine xA (by omega) (λk k1 k2=> ?_) k
     have:=heq (k-lo) (by omega) (by omega)
     rw[show lo+(k-lo)=k by omega]at this
     exact this
    ·rw[if_neg NW]
     exact wpS_pure (RN s2 S2 λ_=>rfl)
   ·rw[decide_eq_false lt,if_neg (by simp)]
    refine wpS_bind (qj hL hB2 (by omega) (by omega) ?_)
    dsimp only
    by_cases OG:kA K (arrOf s2) (lo+x-1)<kA K (arrOf s2) (lo+x)
    ·rw[decide_eq_true OG,if_pos rfl]
     exact wpS_pure ⟨x,q,rfl,ha,by omega,S2,hd2,hq1,heq⟩
    ·rw[decide_eq_false OG,if_neg (by simp)]
     have e:kA K (arrOf s2) (lo+x)=kA K (arrOf s2) (lo+x-1):=by omega
     refine wpS_pure ⟨q+1,rfl,S2,λi j hij hj=> ?_,by omega,λi h1 h2=> ?_⟩
     ·by_cases c:j=x
      ·subst c
       by_cases c2:i=j
       ·subst c2;exact Int.le_refl _
       ·have:=hd2 i (j-1) (by omega) (by omega)
        rw[show lo+(j-1)=lo+j-1 by omega]at this
        omega
      ·exact hd2 i j hij (by omega)
     ·rw[show lo+(x+1) -1=lo+x by omega,e]
      by_cases c:i=x
      ·subst c;exact e
      ·exact heq i (by omega) (by omega)
  ·rintro c s2 ⟨q,rfl,S2,hd2,hq1,heq⟩
   rw[Nat.max_eq_right (show n+1<=nrem by omega)]at hd2 hq1 heq ⊢
   exact⟨nrem,q,rfl,by omega,Nat.le_refl _,S2,hd2,hq1,heq⟩
  ·rw[hk1,hk1]
   exact hd i j hij hj
  ·have:i=n:=by omega
   subst this
   rfl
  ·rintro c s2 ⟨x,q,rfl,x1,x2,S2,hd2,hq1,heq⟩
   dsimp only
   have z2:=S2.size
   by_cases NW:q>0
   ·rw[if_pos NW]
    refine wpS_bind (w_rev ?_)
    have hk:∀k,kA K (arrOf (setArr s2 (mirror (arrOf s2) (lo+x- (q+1)) (lo+x) ((lo+x- (lo+x- (q+1)))/2)))) k=kA K (arrOf s2) k:=λk=>by
     refine xA (by omega) (λk k1 k2=> ?_) k
     have:=heq (k-lo) (by omega) (by omega)
     rw[show lo+(k-lo)=k by omega]at this
     exact this
    exact rest _ x (S2.mirror (by omega) (by omega)) x1 x2 (λi j hij hj=>by rw[hk,hk];exact hd2 i j hij hj) _ rfl
   ·rw[if_neg NW]
    exact rest s2 x S2 x1 x2 hd2 _ rfl
 by_cases gt:n>1
 ·rw[if_pos gt]
  refine wpS_bind (qj hL hB (by omega) (by omega) ?_)
  dsimp only
  by_cases NX:kA K (arrOf st') lo<kA K (arrOf st') (lo+n-1)
  ·rw[decide_eq_true NX,if_pos rfl]
   exact wpS_pure (hq n st' (.refl _ _) n1 n2 hs)
  ·rw[decide_eq_false NX,if_neg (by simp)]
   have hall:∀k,lo<=k->k<lo+n->kA K (arrOf st') k=kA K (arrOf st') (lo+n-1):=λk k1 k2=>by
    have a1:=hs 0 (k-lo) (by omega) (by omega)
    have a2:=hs (k-lo) (n-1) (by omega) (by omega)
    rw[show lo+(k-lo)=k by omega]at a1 a2
    rw[show lo+(n-1)=lo+n-1 by omega]at a2
    rw[Nat.add_zero]at a1
    omega
   refine wpS_bind (w_rev (part _ ((SC.refl lo st').mirror (Nat.le_refl _) (by omega)) (λk=>xA (by omega) hall k) (λi j hij hj=> ?_) _ rfl))
   by_cases c:j=n
   ·subst c
    by_cases c2:i=j
    ·subst c2;exact Int.le_refl _
    ·rw[hall (lo+i) (by omega) (by omega)]
     omega
   ·rw[hall (lo+i) (by omega) (by omega),hall (lo+j) (by omega) (by omega)]
    exact Int.le_refl _
 ·rw[if_neg gt]
  have e1:n=1:=by omega
  subst e1
  refine part st' (.refl _ _) (λ_=>rfl) (λi j hij hj=> ?_) _ rfl
  by_cases c2:i=j
  ·subst c2;exact Int.le_refl _
  ·have:i=0:=by omega
   have:j=1:=by omega
   subst_vars
   rw[show lo+1-1=lo+0 by omega]at hlt
   omega
theorem JV(hL:pO prog w A E s κ K D){lo n ok:Nat}{Q:Bool->SortSt->Prop}(hB:SB κ D st)(hok:ok<=n)(hz:lo+n<=(arrOf st).size)(hs:So K (arrOf st) lo ok)
  (h:∀st',SC lo st st'->So K (arrOf st') lo n->Q true st'):wpS (model prog w) A E s (binarySort' lo n ok) Q st:=by
 rw[binarySort'_eq]
 refine wpS_bind (wpS_mono (wpS_forRange (I:=λk c st'=>c=(none,())/\SC lo st st'/\So K (arrOf st') lo (min k n))
  (Q:=λc st'=>c=(none,())/\SC lo st st'/\So K (arrOf st') lo n) ?_ ?_ ⟨rfl,.refl _ _,λi j hij hj=> ?_⟩) ?_)
 ·rintro k c st' Vv hkn ⟨rfl,S,hs'⟩
  rw[show min k n=k by omega]at hs'
  have z:=S.size
  have hk:lo+k<(arrOf st').size:=by omega
  have Ul:=hB.sc S
  refine wpS_bind (wpS_mono (wpS_forRange (I:=λx c s2=>s2=st'/\ ∃l r,c=(none,l,r)/\l<=r/\r<=k/\r-l<=k-x/\
    (∀i,i<l->kA K (arrOf st') (lo+i)<=kA K (arrOf st') (lo+k))/\(∀i,r<=i->i<k->kA K (arrOf st') (lo+k)<kA K (arrOf st') (lo+i)))
   (Q:=λc s2=>s2=st'/\ ∃l r,c=(none,l,r)/\l<=k/\
    (∀i,i<l->kA K (arrOf st') (lo+i)<=kA K (arrOf st') (lo+k))/\(∀i,l<=i->i<k->kA K (arrOf st') (lo+k)<kA K (arrOf st') (lo+i))) ?_ ?_ ⟨rfl,0,k,rfl,by omega,by omega,by omega,λi hi=>by omega,λi h1 h2=>by omega⟩) ?_)
  ·rintro x c s2 _ hxk ⟨rfl,l,r,rfl,hlr,hrk,hm,hlo,hhi⟩
   dsimp only
   by_cases hge:l≥r
   ·rw[if_pos hge]
    have:l=r:=by omega
    subst this
    exact wpS_pure ⟨rfl,l,l,rfl,hrk,hlo,hhi⟩
   ·rw[if_neg hge]
    refine wpS_bind (qj hL Ul hk (by omega) ?_)
    by_cases less:kA K (arrOf s2) (lo+k)<kA K (arrOf s2) (lo+(l+r)/2)
    ·simp only[less,decide_true,if_true]
     refine wpS_pure ⟨rfl,l,(l+r)/2,rfl,by omega,by omega,by omega,hlo,λi h1 h2=> ?_⟩
     exact Int.lt_of_lt_of_le less (hs' _ _ h1 h2)
    ·simp only[less,decide_false,Bool.false_eq_true,if_false]
     refine wpS_pure ⟨rfl,(l+r)/2+1,r,rfl,by omega,by omega,by omega,λi h1=> ?_,hhi⟩
     exact Int.le_trans (hs' i ((l+r)/2) (by omega) (by omega)) (Int.not_lt.mp less)
  ·rintro c s2 ⟨rfl,l,r,rfl,hlr,hrk,hm,hlo,hhi⟩
   have:l=r:=by omega
   subst this
   exact⟨rfl,l,l,rfl,hrk,hlo,hhi⟩
  ·rintro c s2 ⟨rfl,l,r,rfl,hlk,hlo,hhi⟩
   dsimp only
   rw[moveDown'_eq,show lo+k- (lo+l)=k-l by omega]
   refine wpS_bind (wpS_modify (wpS_pure ⟨rfl,S.bubble hk (by omega),?_⟩))
   rw[show min (k+1) n=k+1 by omega]
   intro i j hij hj
   show kA K (bubble (arrOf s2) (lo+k) (k-l)) (lo+i)<=kA K (bubble (arrOf s2) (lo+k) (k-l)) (lo+j)
   have e:∀t,t<k+1->kA K (bubble (arrOf s2) (lo+k) (k-l)) (lo+t)=if t=l then kA K (arrOf s2) (lo+k)else if l<t then kA K (arrOf s2) (lo+(t-1))else kA K (arrOf s2) (lo+t):=by
    intro t ht
    rw[DJ hk (by omega)]
    by_cases c1:t=l
    ·rw[if_pos (by omega),if_pos c1]
    ·rw[if_neg (by omega),if_neg c1]
     by_cases c2:l<t
     ·rw[if_pos (by omega),if_pos c2,show lo+t-1=lo+(t-1)by omega]
     ·rw[if_neg (by omega),if_neg c2]
   rw[e i (by omega),e j hj]
   repeat' split
   all_goals first
    |(exfalso;omega)
    |exact Int.le_refl _
    |exact hlo _ (by omega)
    |exact Int.le_of_lt (hhi _ (by omega) (by omega))
    |exact hs' _ _ (by omega) (by omega)
 ·rintro c st' ⟨hc,S,hs'⟩
  refine⟨hc,S,?_⟩
  rwa [show min (max (max ok 1) n) n=n by omega]at hs'
 ·by_cases h1:ok=0
  ·have:i=j:=by omega
   subst this;exact Int.le_refl _
  ·exact hs i j hij (by omega)
 ·rintro c st' ⟨rfl,S,hs'⟩
  exact wpS_pure (h st' S hs')
abbrev sl(a:Array Keyed)(lo n:Nat):List Keyed:=(a.toList.drop lo).take n
theorem qk{a:Array Keyed}{lo n:Nat}(h:lo+n<=a.size):So K a lo n↔(sl a lo n).Pairwise λx y=>K x<=K y:=by
 have len:(sl a lo n).length=n:=by simp[sl];omega
 have at':∀i (hi:i<n),∃x,(sl a lo n)[i]'(by omega)=x/\kA K a (lo+i)=K x:=λi hi=>by
  refine⟨_,rfl,?_⟩
  have e:a[lo+i]?=some ((sl a lo n)[i]'(by omega)):=by
   rw[<-List.getElem?_eq_getElem]
   simp[sl,List.getElem?_take_of_lt hi]
  unfold kA
  rw[e]
 constructor
 ·intro hs
  rw[List.pairwise_iff_getElem]
  intro i j hi hj hij
  obtain⟨x,ex,kx⟩:=at' i (by omega)
  obtain⟨y,ey,ky⟩:=at' j (by omega)
  have:=hs i j (by omega) (by omega)
  rw[ex,ey,<-kx,<-ky]
  exact this
 ·intro hs i j hij hj
  by_cases c:i=j
  ·subst c;exact Int.le_refl _
  obtain⟨x,ex,kx⟩:=at' i (by omega)
  obtain⟨y,ey,ky⟩:=at' j hj
  have:=List.pairwise_iff_getElem.mp hs i j (by omega) (by omega) (by omega)
  rw[ex,ey,<-kx,<-ky]at this
  exact this
def wr(sa:Nat)(a:Array Keyed)(l:List (Keyed×Nat)):Array Keyed:=l.foldl (λa (p,j)=>a.setIfInBounds (sa+j) p) a
theorem AH(sa:Nat):∀(l:List Keyed)(k:Nat)(a:Array Keyed)(t:Nat),sa+k+l.length<=a.size->(wr sa a (l.zipIdx k))[t]?=if sa+k<=t/\t<sa+k+l.length then l[t- (sa+k)]? else a[t]?
 | [],k,a,t,h=>by
  rw[if_neg (by simp)]
  rfl
 |x::l,k,a,t,h=>by
  have h':sa+k+(l.length+1)<=a.size:=h
  show(wr sa (a.setIfInBounds (sa+k) x) (l.zipIdx (k+1)))[t]?=_
  rw[AH sa l (k+1) _ t (by rw[Array.size_setIfInBounds];omega)]
  rw[List.length_cons]
  by_cases c1:sa+(k+1)<=t/\t<sa+(k+1)+l.length
  ·rw[if_pos c1,if_pos (by omega),show t- (sa+k)=t- (sa+(k+1))+1 by omega,List.getElem?_cons_succ]
  ·rw[if_neg c1,Array.getElem?_setIfInBounds]
   by_cases c2:sa+k=t
   ·subst c2
    rw[if_pos rfl,if_pos (by omega),if_pos (by omega),Nat.sub_self]
    rfl
   ·rw[if_neg c2,if_neg (by omega)]
theorem IU{sa:Nat}{l:List Keyed}{a:Array Keyed}(h:sa+l.length<=a.size):(wr sa a l.zipIdx).toList=a.toList.take sa++(l++a.toList.drop (sa+l.length)):=by
 refine List.ext_getElem? λt=> ?_
 rw[Array.getElem?_toList,AH sa l 0 a t (by omega),Nat.add_zero]
 have ls:(a.toList.take sa).length=sa:=by simp;omega
 by_cases c1:t<sa
 ·rw[if_neg (by omega),List.getElem?_append_left (by omega),List.getElem?_take_of_lt c1]
  simp
 ·rw[List.getElem?_append_right (by omega),ls]
  by_cases c2:t<sa+l.length
  ·rw[if_pos (by omega),List.getElem?_append_left (by omega)]
  ·rw[if_neg (by omega),List.getElem?_append_right (by omega),List.getElem?_drop,show sa+l.length+(t-sa-l.length)=t by omega]
   simp
theorem Gp(l:List Keyed)(u n:Nat):l=l.take u++((l.drop u).take n++l.drop (u+n)):=by
 rw[<-List.drop_drop,List.take_append_drop,List.take_append_drop]
theorem Gq{M:Model}{st':SortSt}{Q:PUnit->SortSt->Prop}(h:Q ⟨⟩ st'):wpS M A E s (set st':StateT SortSt Sem PUnit) Q st:=by
 unfold wpS
 rw[StateT.run_set]
 exact wpAny_pure ⟨rfl,h⟩
theorem jO{M:Model}{α:Type}{c:Prop}[Decidable c]{x y:StateT SortSt Sem α}{Q:α->SortSt->Prop}(h1:c->wpS M A E s x Q st)(h2:¬c->wpS M A E s y Q st):wpS M A E s (if c then x else y) Q st:=by
 split
 ·exact h1 ‹_›
 ·exact h2 ‹_›
theorem LC(i:Nat):mergeAt' i=(do
 let z<-get
 let(some (sa,na,pw),some (sb,nb,_)):=((pendingOf z)[i]?,(pendingOf z)[i+1]?)|(@unsupported _ "internal:list.sort.pending")
 set (SortSt.mk' (kindOf z) (arrOf z) (((pendingOf z).setIfInBounds i (sa,na+nb,pw)).eraseIdxIfInBounds (i+1)) (gallopOf z) (failedOf z))
 let some k<-IS false (<-elem' (arrOf z) sb) (arrOf z) sa na 0|return false
 let(ua,ma):=(sa+k,na-k)
 if ma==0 then return true
 let some mb<-IS true (<-elem' (arrOf z) (ua+ma-1)) (arrOf z) sb nb (nb-1)|return false
 if mb==0 then return true
 let x:=(arrOf z).extract ua sb
 let y:=(arrOf z).extract sb (sb+mb)
 let r<-if ma<=mb then Qn x y else Qo x y
 modify λz=>setArr z (wr ua (arrOf z) r.toList.zipIdx)
 return(failedOf (<-get)).isNone):=rfl
structure Mg(K:Keyed->Int)(sa n:Nat)(p:Array (Nat×Nat×Nat))(s0 st:SortSt):Prop where
 perm:(arrOf st).Perm (arrOf s0)
 kind:kindOf st=kindOf s0
 failed:failedOf st=failedOf s0
 pend:pendingOf st=p
 out:∀t,t<sa∨sa+n<=t->(arrOf st)[t]?=(arrOf s0)[t]?
 so:So K (arrOf st) sa n
theorem yZ{l:List Keyed}(h:l.Pairwise λx y=>K x<=K y){x:Keyed}(hx:x∈l){z:Keyed}(hz:l[l.length-1]?=some z):K x<=K z:=by
 obtain⟨i,hi,rfl⟩:=List.mem_iff_getElem.mp hx
 rw[List.getElem?_eq_getElem (by omega)]at hz
 rw[<-Option.some.inj hz]
 by_cases c:i=l.length-1
 ·subst c;exact Int.le_refl _
 ·exact List.pairwise_iff_getElem.mp h i (l.length-1) hi (by omega) (by omega)
theorem NY(hL:pO prog w A E s κ K D){i sa na nb pw:Nat}{q:Nat×Nat}{Q:Bool->SortSt->Prop}(hB:SB κ D st)(e1:(pendingOf st)[i]?=some (sa,na,pw))(e2:(pendingOf st)[i+1]?=some (sa+na,nb,q.1))
  (ha:0<na)(hb:0<nb)(hz:sa+na+nb<=(arrOf st).size)(s1:So K (arrOf st) sa na)(s2:So K (arrOf st) (sa+na) nb)
  (hq:∀st',Mg K sa (na+nb) (((pendingOf st).setIfInBounds i (sa,na+nb,pw)).eraseIdxIfInBounds (i+1)) st st'->Q true st'):wpS (model prog w) A E s (mergeAt' i) Q st:=by
 rw[LC]
 refine wpS_bind (wpS_get ?_)
 rw[e1,e2]
 dsimp only
 refine wpS_bind (Gq ?_)
 have P1:=(qk (K:=K) (a:=arrOf st) (lo:=sa) (n:=na) (by omega)).mp s1
 have P2:=(qk (K:=K) (a:=arrOf st) (lo:=sa+na) (n:=nb) (by omega)).mp s2
 have lA:(sl (arrOf st) sa na).length=na:=by simp[sl];omega
 have lB:(sl (arrOf st) (sa+na) nb).length=nb:=by simp[sl];omega
 have gA:∀t,t<na->(arrOf st)[sa+t]?=(sl (arrOf st) sa na)[t]?:=λt ht=>by simp[sl,List.getElem?_take_of_lt ht]
 have gB:∀t,t<nb->(arrOf st)[sa+na+t]?=(sl (arrOf st) (sa+na) nb)[t]?:=λt ht=>by simp[sl,List.getElem?_take_of_lt ht]
 have DA:∀x∈sl (arrOf st) sa na,D x:=λx hx=>hB.all x (List.mem_of_mem_drop (List.mem_of_mem_take hx))
 have DB:∀x∈sl (arrOf st) (sa+na) nb,D x:=λx hx=>hB.all x (List.mem_of_mem_drop (List.mem_of_mem_take hx))
 have whole:sl (arrOf st) sa (na+nb)=sl (arrOf st) sa na++sl (arrOf st) (sa+na) nb:=by
  show((arrOf st).toList.drop sa).take (na+nb)=_
  rw[List.take_add,List.drop_drop]
 have parts:(arrOf st).toList=(arrOf st).toList.take sa++((sl (arrOf st) sa na++sl (arrOf st) (sa+na) nb)++(arrOf st).toList.drop (sa+(na+nb))):=by
  rw[<-whole]
  exact Gp _ _ _
 have wA:∃A0,sl (arrOf st) sa na=A0:=⟨_,rfl⟩
 have wB:∃B0,sl (arrOf st) (sa+na) nb=B0:=⟨_,rfl⟩
 obtain⟨A0,eA⟩:=wA
 obtain⟨B0,eB⟩:=wB
 rw[eA]at P1 lA gA DA whole parts
 rw[eB]at P2 lB gB DB whole parts
 have JX:∀g,(A0++B0).Pairwise (λx y=>K x<=K y) ->Q true (SortSt.mk' (kindOf st) (arrOf st) (((pendingOf st).setIfInBounds i (sa,na+nb,pw)).eraseIdxIfInBounds (i+1)) g (failedOf st)):=λg hs=>
  hq _ ⟨Array.Perm.refl _,rfl,rfl,rfl,λ_ _=>rfl,(qk (by show sa+(na+nb)<=(arrOf st).size;omega)).mpr (by show(sl (arrOf st) sa (na+nb)).Pairwise _;rw[whole];exact hs)⟩
 obtain⟨b0,hb0⟩:∃b0,B0[0]?=some b0:=⟨_,List.getElem?_eq_getElem (by omega)⟩
 have Um:b0∈B0:=List.mem_of_getElem? hb0
 have Qq:∀y∈B0,K b0<=K y:=by
  cases B0 with
  |nil=>cases hb0
  |cons z B0=>
   have:z=b0:=Option.some.inj hb0
   subst this
   exact dZ P2
 refine wpS_bind (aY (by rw[<-hb0,<-gB 0 hb];rfl) (wpS_bind (jN hL hB.kind A0 gA lA.symm DA (DB _ Um) P1 ha λk hk1 t1 t2=> ?_)))
 simp only[Bool.false_eq_true,if_false]at t1 t2
 dsimp only
 by_cases c1:(na-k==0)=true
 ·rw[if_pos c1]
  refine wpS_pure (JX _ (List.pairwise_append.mpr ⟨P1,P2,λx hx y hy=>Int.le_trans (t1 x ?_) (Qq y hy)⟩))
  have:na-k=0:=by simpa using c1
  rw[List.take_of_length_le (by omega)]
  exact hx
 rw[if_neg c1]
 have n1:na-k≠0:=λe=>c1 (by rw[e];rfl)
 obtain⟨al,hal⟩:∃al,A0[na-1]?=some al:=⟨_,List.getElem?_eq_getElem (by omega)⟩
 have Uo:al∈A0:=List.mem_of_getElem? hal
 have JY:∀x∈A0,K x<=K al:=λx hx=>yZ P1 hx (by rw[lA];exact hal)
 refine wpS_bind (aY (by rw[show sa+k+(na-k) -1=sa+(na-1)by omega,gA (na-1) (by omega)];exact hal) (wpS_bind (jN hL hB.kind B0 gB lB.symm DB (DA _ Uo) P2 (by omega) λm hm1 u1 u2=> ?_)))
 simp only[if_true]at u1 u2
 dsimp only
 by_cases c2:(m==0)=true
 ·rw[if_pos c2]
  refine wpS_pure (JX _ (List.pairwise_append.mpr ⟨P1,P2,λx hx y hy=>Int.le_trans (JY x hx) (u2 y ?_)⟩))
  have:m=0:=by simpa using c2
  subst this
  exact hy
 rw[if_neg c2]
 have n2:m≠0:=λe=>c2 (by rw[e];rfl)
 have ex:((arrOf st).extract (sa+k) (sa+na)).toList=A0.drop k:=by
  rw[<-eA]
  simp[sl,List.drop_take,Nat.add_sub_add_left]
 have ey:((arrOf st).extract (sa+na) (sa+na+m)).toList=B0.take m:=by
  rw[<-eB]
  simp[sl,List.take_take,Nat.min_eq_left hm1]
 have RP:((arrOf st).extract (sa+k) (sa+na)).size=na-k:=by simp;omega
 have Vw:((arrOf st).extract (sa+na) (sa+na+m)).size=m:=by simp;omega
 have Xs:=List.Pairwise.sublist (List.drop_sublist k A0) P1
 have Ys:=List.Pairwise.sublist (List.take_sublist m B0) P2
 have dX:∀x∈A0.drop k,D x:=λx hx=>DA x (List.mem_of_mem_drop hx)
 have dY:∀x∈B0.take m,D x:=λx hx=>DB x (List.mem_of_mem_take hx)
 have LD:∀y∈(B0.take m).take 1,∀x∈A0.drop k,K y<=K x:=λy hy x hx=>by
  have e:(B0.take m).take 1=[b0]:=by
   cases B0 with
   |nil=>cases hb0
   |cons z B0=>
    have:z=b0:=Option.some.inj hb0
    subst this
    obtain⟨m,rfl⟩:∃m',m=m'+1:=⟨m-1,by omega⟩
    rfl
  rw[e,List.mem_singleton]at hy
  subst hy
  exact Int.le_of_lt (t2 x hx)
 have RQ:∀y∈B0.take m,∀x∈(A0.drop k).drop (na-k-1),K y<=K x:=λy hy x hx=>by
  have e:(A0.drop k).drop (na-k-1)=[al]:=by
   rw[List.drop_drop,show k+(na-k-1)=na-1 by omega]
   have e3:=List.drop_eq_getElem_cons (l:=A0) (i:=na-1) (by omega)
   rw[List.getElem?_eq_getElem (by omega)]at hal
   rw[e3,Option.some.inj hal,List.drop_eq_nil_of_le (by omega)]
  rw[e,List.mem_singleton]at hx
  subst hx
  exact Int.le_of_lt (u1 y hy)
 have goal:∀(r:Array Keyed)(s3:SortSt),Sg (SortSt.mk' (kindOf st) (arrOf st) (((pendingOf st).setIfInBounds i (sa,na+nb,pw)).eraseIdxIfInBounds (i+1)) (gallopOf st) (failedOf st)) s3->
   Good K (A0.drop k++B0.take m) r.toList->wpS (model prog w) A E s (do
    modify λz=>setArr z (wr (sa+k) (arrOf z) r.toList.zipIdx)
    return(failedOf (<-get)).isNone) Q s3:=by
  intro r s3 S3 G
  refine wpS_bind (wpS_modify (wpS_bind (wpS_get ?_)))
  have fl:failedOf s3=none:=S3.2.2.2.trans hB.failed
  show wpS _ _ _ _ (pure (failedOf s3).isNone) _ _
  rw[fl]
  refine wpS_pure (hq _ ?_)
  have ar:arrOf s3=arrOf st:=S3.2.1
  have lr:r.toList.length=na-k+m:=by rw[G.1.length_eq,List.length_append,List.length_drop,List.length_take];omega
  have lst:(wr (sa+k) (arrOf st) r.toList.zipIdx).toList=(arrOf st).toList.take sa++((A0.take k++(r.toList++B0.drop m))++(arrOf st).toList.drop (sa+(na+nb))):=by
   rw[IU (by omega),lr]
   have ts:((arrOf st).toList.take sa).length=sa:=by simp;omega
   have q1:(arrOf st).toList.take (sa+k)=(arrOf st).toList.take sa++A0.take k:=by
    rw[List.take_add,<-eA]
    show _=_++(((arrOf st).toList.drop sa).take na).take k
    rw[List.take_take,Nat.min_eq_left hk1]
   have q2:(arrOf st).toList.drop (sa+k+(na-k+m))=B0.drop m++(arrOf st).toList.drop (sa+(na+nb)):=by
    rw[<-eB]
    show _=(((arrOf st).toList.drop (sa+na)).take nb).drop m++_
    rw[List.drop_take,List.drop_drop,show sa+k+(na-k+m)=sa+na+m by omega]
    conv=>lhs;rw[<-List.take_append_drop (nb-m) ((arrOf st).toList.drop (sa+na+m))]
    rw[List.drop_drop,show sa+na+m+(nb-m)=sa+(na+nb)by omega]
   rw[q1,q2]
   simp[List.append_assoc]
  have Up:(A0.take k++(r.toList++B0.drop m)).Pairwise λx y=>K x<=K y:=by
   have sA:=List.pairwise_append.mp (by rw[List.take_append_drop];exact P1:(A0.take k++A0.drop k).Pairwise λx y=>K x<=K y)
   have sB:=List.pairwise_append.mp (by rw[List.take_append_drop];exact P2:(B0.take m++B0.drop m).Pairwise λx y=>K x<=K y)
   refine List.pairwise_append.mpr ⟨sA.1,List.pairwise_append.mpr ⟨G.2,sB.2.1,λx hx y hy=> ?_⟩,λx hx y hy=> ?_⟩
   ·rcases List.mem_append.mp (G.1.mem_iff.mp hx)with z|z
    ·exact Int.le_trans (JY x (List.mem_of_mem_drop z)) (u2 y hy)
    ·exact sB.2.2 x z y hy
   ·rcases List.mem_append.mp hy with z|z
    ·rcases List.mem_append.mp (G.1.mem_iff.mp z)with z|z
     ·exact sA.2.2 x hx y z
     ·exact Int.le_trans (t1 x hx) (Qq y (List.mem_of_mem_take z))
    ·exact Int.le_trans (t1 x hx) (Qq y (List.mem_of_mem_drop z))
  have Uq:(wr (sa+k) (arrOf st) r.toList.zipIdx).size=(arrOf st).size:=by
   rw[<-Array.length_toList,lst,<-Array.length_toList]
   conv=>rhs;rw[parts]
   simp only[List.length_append,lr,List.length_take,List.length_drop,lA,lB]
   omega
  have pm:(wr (sa+k) (arrOf st) r.toList.zipIdx).Perm (arrOf st):=by
   refine Array.perm_iff_toList_perm.mpr ?_
   rw[lst]
   conv=>rhs;rw[parts]
   refine List.Perm.append_left _ (List.Perm.append_right _ ?_)
   have h1:(A0.take k++(r.toList++B0.drop m)).Perm (A0.take k++((A0.drop k++B0.take m)++B0.drop m)):=List.Perm.append_left _ (List.Perm.append_right _ G.1)
   refine h1.trans (List.Perm.of_eq ?_)
   rw[List.append_assoc,List.take_append_drop,<-List.append_assoc,List.take_append_drop]
  refine⟨?_,S3.1,by show failedOf s3=failedOf st;rw[fl,hB.failed],S3.2.2.1,λt ht=> ?_,?_⟩
  ·show(wr (sa+k) (arrOf s3) r.toList.zipIdx).Perm _
   rw[ar]
   exact pm
  ·show(wr (sa+k) (arrOf s3) r.toList.zipIdx)[t]?=_
   rw[ar,AH (sa+k) r.toList 0 (arrOf st) t (by omega),if_neg (by omega)]
  ·show So K (wr (sa+k) (arrOf s3) r.toList.zipIdx) sa (na+nb)
   rw[ar,qk (by rw[Uq];omega)]
   show(((wr (sa+k) (arrOf st) r.toList.zipIdx).toList.drop sa).take (na+nb)).Pairwise _
   have ts:((arrOf st).toList.take sa).length=sa:=by simp;omega
   rw[lst,List.drop_append_of_le_length (by omega),List.drop_eq_nil_of_le (by omega),List.nil_append,List.take_append_of_le_length (by simp only[List.length_append,List.length_take,List.length_drop,lr,lA,lB];omega),
    List.take_of_length_le (by simp only[List.length_append,List.length_take,List.length_drop,lr,lA,lB];omega)]
   exact Up
 refine jO (λc=> ?_) (λc=> ?_)
 ·refine wpS_bind (NS hL hB.kind (by omega) (by omega) (by rw[ex];exact dX) (by rw[ey];exact dY) (by rw[ex];exact Xs) (by rw[ey];exact Ys) (by rw[ex,ey];exact LD) (by rw[ex,ey,RP];exact RQ) λr s3 S3 G=> ?_)
  rw[ex,ey]at G
  exact goal r s3 S3 G
 ·refine wpS_bind (NV hL hB.kind (by omega) (by omega) (by rw[ex];exact dX) (by rw[ey];exact dY) (by rw[ex];exact Xs) (by rw[ey];exact Ys) (by rw[ex,ey];exact LD) (by rw[ex,ey,RP];exact RQ) λr s3 S3 G=> ?_)
  rw[ex,ey]at G
  exact goal r s3 S3 G
end
def pQ(K:Keyed->Int)(ar:Array Keyed):Nat->List (Nat×Nat×Nat) ->Nat->Prop
 |a,[],e=>a=e
 |a,(u,n,_)::r,e=>u=a/\0<n/\So K ar a n/\pQ K ar (a+n) r e
theorem pQ.le{K:Keyed->Int}{ar:Array Keyed}:∀{l:List (Nat×Nat×Nat)}{a e:Nat},pQ K ar a l e->a+l.length<=e
 | [],a,e,h=>Nat.le_of_eq h
 |(u,n,z)::r,a,e,h=>by
  have:=pQ.le h.2.2.2
  have:=h.2.1
  rw[List.length_cons]
  omega
theorem So.congr{K:Keyed->Int}{x y:Array Keyed}{lo n:Nat}(h:So K x lo n)(e:∀t,lo<=t->t<lo+n->y[t]?=x[t]?):So K y lo n:=λi j hij hj=>by
 rw[jz (e (lo+i) (by omega) (by omega)),jz (e (lo+j) (by omega) (by omega))]
 exact h i j hij hj
theorem pQ.congr{K:Keyed->Int}{x y:Array Keyed}:∀{l:List (Nat×Nat×Nat)}{a e:Nat},pQ K x a l e->(∀t,a<=t->t<e->y[t]?=x[t]?) ->pQ K y a l e
 | [],a,e,h,_=>h
 |(u,n,z)::r,a,e,h,q=>⟨h.1,h.2.1,h.2.2.1.congr λt h1 h2=>q t h1 (by have:=h.2.2.2.le;omega),h.2.2.2.congr λt h1 h2=>q t (by omega) h2⟩
theorem pQ.append{K:Keyed->Int}{ar:Array Keyed}{r:List (Nat×Nat×Nat)}{e:Nat}:∀{l:List (Nat×Nat×Nat)}{a:Nat},pQ K ar a (l++r) e↔ ∃m,pQ K ar a l m/\pQ K ar m r e
 | [],a=>⟨λh=>⟨a,rfl,h⟩,λ ⟨m,h,q⟩=>by cases h;exact q⟩
 |(u,n,z)::l,a=>by
  constructor
  ·rintro⟨h1,h2,h3,h4⟩
   obtain⟨m,p,q⟩:=pQ.append.mp h4
   exact⟨m,⟨h1,h2,h3,p⟩,q⟩
  ·rintro⟨m,⟨h1,h2,h3,p⟩,q⟩
   exact⟨h1,h2,h3,pQ.append.mpr ⟨m,p,q⟩⟩
theorem pQ.push{K:Keyed->Int}{ar:Array Keyed}{l:List (Nat×Nat×Nat)}{a e n z:Nat}(h:pQ K ar a l e)(hn:0<n)(hs:So K ar e n):pQ K ar a (l++ [(e,n,z)]) (e+n):=pQ.append.mpr ⟨e,h,rfl,hn,hs,rfl⟩
theorem pQ.pow{K:Keyed->Int}{ar:Array Keyed}{l:List (Nat×Nat×Nat)}{a e u n z z':Nat}(h:pQ K ar a (l++ [(u,n,z)]) e):pQ K ar a (l++ [(u,n,z')]) e:=by
 obtain⟨m,p,q1,q2,q3,q4⟩:=pQ.append.mp h
 exact pQ.append.mpr ⟨m,p,q1,q2,q3,q4⟩
theorem Gr:sortRuns'=(do
 let zz:=(arrOf (<-get)).size
 let mr:=minRun' zz zz 0
 let mut lo:=0
 for _ in [0:zz] do
  if lo≥zz then break
  let some f<-countRun' lo (zz-lo)|return
  let mut n:=f
  if n<mr then
   rule "list.sort.binary-insertion"
   let fo:=min (zz-lo) mr
   if !(<-binarySort' lo fo n)then return
   n:=fo
  if let some (a1,b1,_):=(pendingOf (<-get)).back? then
   let pw:=power' zz (2*a1+b1) (2*a1+b1+b1+n) zz
   for _ in [0:zz] do
    let p:=pendingOf (<-get)
    let some (_,_,od):=(if p.size>1 then p[p.size-2]? else none)|break
    if od<=pw then break
    if !(<-mergeAt' (p.size-2))then return
   modify λy=>setPending y ((pendingOf y).modify ((pendingOf y).size-1) λ (c,d,_)=>(c,d,pw))
  modify λy=>setPending y ((pendingOf y).push (lo,n,0))
  lo:=lo+n
 for _ in [0:zz] do
  let p:=pendingOf (<-get)
  if p.size<=1 then break
  let i:=p.size-2
  let be:=if i>0 then p[i-1]?.map (·.2.1)else none
  let i:=if be.any (· <(p[i+1]?.elim 0 (·.2.1)))then i-1 else i
  if !(<-mergeAt' i)then return):=rfl
section
variable{prog:Program}{w:World}{A:Around}{E:Value->Shared->Prop}{s:Shared}{κ:SortKind}{K:Keyed->Int}{D:Keyed->Prop}{st:SortSt}{a₀:Array Keyed}
structure RI(κ:SortKind)(K:Keyed->Int)(D:Keyed->Prop)(a₀:Array Keyed)(lo:Nat)(st:SortSt):Prop where
 sb:SB κ D st
 perm:(arrOf st).Perm a₀
 LF:pQ K (arrOf st) 0 (pendingOf st).toList lo
 le:lo<=a₀.size
theorem RI.size{lo:Nat}(R:RI κ K D a₀ lo st):(arrOf st).size=a₀.size:=R.perm.size_eq
theorem RI.cnt{lo:Nat}(R:RI κ K D a₀ lo st):(pendingOf st).size<=lo:=by have:=R.LF.le;rw[Nat.zero_add,Array.length_toList]at this;exact this
theorem RI.sc{lo:Nat}{s1:SortSt}(R:RI κ K D a₀ lo st)(S:SC lo st s1):RI κ K D a₀ lo s1:=
 ⟨R.sb.sc S,S.perm.trans R.perm,by rw[S.pend];exact R.LF.congr λt _ h=>S.low t h,R.le⟩
theorem tO(hL:pO prog w A E s κ K D){lo i:Nat}{Q:Bool->SortSt->Prop}(R:RI κ K D a₀ lo st)(hi:i+1<(pendingOf st).size)
  (hq:∀st',RI κ K D a₀ lo st'->(pendingOf st').size+1=(pendingOf st).size->(∀t,lo<=t->(arrOf st')[t]?=(arrOf st)[t]?) ->Q true st'):wpS (model prog w) A E s (mergeAt' i) Q st:=by
 have hl:i+1<(pendingOf st).toList.length:=by simpa using hi
 obtain⟨⟨u,na,z1⟩,eu⟩:∃x,(pendingOf st).toList[i]?=some x:=⟨_,List.getElem?_eq_getElem (by omega)⟩
 obtain⟨⟨v,nb,z2⟩,ev⟩:∃x,(pendingOf st).toList[i+1]?=some x:=⟨_,List.getElem?_eq_getElem hl⟩
 obtain⟨pre,post,split,lt⟩:∃pre post,(pendingOf st).toList=pre++((u,na,z1)::(v,nb,z2)::post)/\pre.length=i:=by
  refine⟨(pendingOf st).toList.take i,(pendingOf st).toList.drop (i+2),?_,by rw[List.length_take];omega⟩
  conv=>lhs;rw[<-List.take_append_drop i (pendingOf st).toList]
  congr 1
  rw[List.drop_eq_getElem_cons (by omega),List.drop_eq_getElem_cons hl]
  rw[List.getElem?_eq_getElem (by omega)]at eu
  rw[List.getElem?_eq_getElem hl]at ev
  rw[Option.some.inj eu,Option.some.inj ev]
 have C:=R.LF
 rw[split]at C
 obtain⟨m,c1,rfl,hna,sa,c2⟩:=pQ.append.mp C
 obtain⟨rfl,hnb,sb,c3⟩:=c2
 have OJ:=c3.le
 have sz:=R.size
 have rl:=R.le
 refine NY hL (q:=(z2,0)) (nb:=nb) (na:=na) (sa:=u) (pw:=z1) R.sb (by rw[<-Array.getElem?_toList];exact eu) (by rw[<-Array.getElem?_toList];exact ev) hna hnb (by omega) sa sb λst' M=> ?_
 have pl:(pendingOf st').toList=pre++((u,na+nb,z1)::post):=by
  rw[M.pend]
  simp only[Array.toList_eraseIdxIfInBounds,Array.toList_setIfInBounds]
  rw[split,List.set_append_right _ _ (by omega),lt,Nat.sub_self,List.set_cons_zero,List.eraseIdx_append_of_length_le (by omega),lt,show i+1-i=1 by omega,List.eraseIdx_cons_succ,List.eraseIdx_cons_zero]
 have ov:=c3.le
 refine hq st' ⟨⟨M.kind.trans R.sb.kind,M.failed.trans R.sb.failed,λx hx=>R.sb.all x ((Array.perm_iff_toList_perm.mp M.perm).mem_iff.mp hx)⟩,M.perm.trans R.perm,?_,R.le⟩ ?_ λt h=>M.out t (.inr (by omega))
 ·rw[pl]
  exact pQ.append.mpr ⟨u,c1.congr λt _ h=>M.out t (.inl h),rfl,by omega,M.so,by rw[<-Nat.add_assoc];exact c3.congr λt h _=>M.out t (.inr (by omega))⟩
 ·have e1:(pendingOf st').toList.length=(pendingOf st').size:=Array.length_toList
  have e2:(pendingOf st).toList.length=(pendingOf st).size:=Array.length_toList
  rw[pl]at e1
  rw[split]at e2
  simp only[List.length_append,List.length_cons]at e1 e2
  omega
theorem IV(hL:pO prog w A E s κ K D){lo i:Nat}{Q:Bool->SortSt->Prop}(R:RI κ K D a₀ lo st)(hi:i+1<(pendingOf st).size)
  (hq:∀st',RI κ K D a₀ lo st'->(pendingOf st').size+1=(pendingOf st).size->Q true st'):wpS (model prog w) A E s (mergeAt' i) Q st:=tO hL R hi λst' r e _=>hq st' r e
theorem y9{α:Type}(f:α->α)(y:α):∀l:List α,(l++ [y]).modify l.length f=l++ [f y]
 | []=>rfl
 |x::l=>by
  show x::((l++ [y]).modify l.length f)=_
  rw[y9 f y l]
  rfl
theorem IW{ar:Array Keyed}{p:Array (Nat×Nat×Nat)}{lo pw:Nat}(C:pQ K ar 0 p.toList lo)(h:0<p.size):pQ K ar 0 (p.modify (p.size-1) λx=>(x.1,x.2.1,pw)).toList lo:=by
 rw[Array.toList_modify]
 obtain⟨⟨q1,q2,q3⟩,l',el⟩:∃y l',p.toList=l'++ [y]:=by
  have ne:p.toList≠ []:=λe=>by
   rw[<-Array.length_toList,e]at h
   cases h
  exact⟨_,_,(List.dropLast_concat_getLast ne).symm⟩
 have sz:p.size-1=l'.length:=by
  rw[<-Array.length_toList,el]
  simp
 rw[el]at C ⊢
 rw[sz,y9]
 exact C.pow
theorem RI.pow{lo:Nat}(R:RI κ K D a₀ lo st)(h:0<(pendingOf st).size)(pw:Nat):RI κ K D a₀ lo (setPending st ((pendingOf st).modify ((pendingOf st).size-1) λx=>(x.1,x.2.1,pw))):=
 ⟨⟨R.sb.kind,R.sb.failed,R.sb.all⟩,R.perm,IW R.LF h,R.le⟩
theorem IX(c:Prop)[Decidable c](k:Nat):(if c then k-1 else k)<=k:=by split<;>omega
theorem LG(hL:pO prog w A E s κ K D){Q:Unit->SortSt->Prop}(R:RI κ K D a₀ 0 st)(hq:∀st',(arrOf st').Perm a₀->failedOf st'=none->So K (arrOf st') 0 a₀.size->Q () st'):wpS (model prog w) A E s sortRuns' Q st:=by
 rw[Gr]
 refine wpS_bind (wpS_get ?_)
 dsimp only
 rw[R.size]
 generalize minRun' a₀.size a₀.size 0=mr
 refine wpS_bind (wpS_mono (wpS_forRange (I:=λx c s1=> ∃lo,c=(none,lo)/\x<=lo/\RI κ K D a₀ lo s1) (Q:=λc s1=> ∃lo,c=(none,lo)/\a₀.size<=lo/\RI κ K D a₀ lo s1) ?_ ?_ ⟨0,rfl,Nat.le_refl _,R⟩) ?_)
 ·rintro x c s1 _ hx ⟨lo,rfl,hlo,R1⟩
  dsimp only
  refine jO (λc=>wpS_pure ⟨lo,rfl,c,R1⟩) (λc=> ?_)
  have Vx:=R1.size
  refine wpS_bind (w_count hL R1.sb (by omega) (by omega) λn s2 S2 n1 n2 Mx=> ?_)
  dsimp only
  have R2:=R1.sc S2
  have Ur:=R2.size
  by_cases hm:n<mr
  ·rw[if_pos hm]
   refine wpS_bind (wpS_lift (wpAny_rule ⟨rfl,?_⟩))
   refine wpS_bind (JV hL R2.sb (by omega) (by omega) Mx λs3 S3 EK=> ?_)
   simp only[Bool.not_true,Bool.false_eq_true,if_false]
   have R3:=R2.sc S3
   have n1:1<=min (a₀.size-lo) mr:=by omega
   have n2:min (a₀.size-lo) mr<=a₀.size-lo:=by omega
   have note:∀s4:SortSt,RI κ K D a₀ lo s4->So K (arrOf s4) lo (min (a₀.size-lo) mr) -> ∀Q:ForInStep (Option Unit×Nat) ->SortSt->Prop,(∀s5,RI κ K D a₀ (lo+min (a₀.size-lo) mr) s5->Q (.yield (none,lo+min (a₀.size-lo) mr)) s5) ->wpS (model prog w) A E s (do
     modify λy=>setPending y ((pendingOf y).push (lo,min (a₀.size-lo) mr,0))
     pure (ForInStep.yield ((none,lo+min (a₀.size-lo) mr):Option Unit×Nat))) Q s4:=λs4 R4 AI Q hQ=>
    wpS_bind (wpS_modify (wpS_pure (hQ _ ⟨⟨R4.sb.kind,R4.sb.failed,R4.sb.all⟩,R4.perm,by
     show pQ K (arrOf s4) 0 ((pendingOf s4).push (lo,min (a₀.size-lo) mr,0)).toList (lo+min (a₀.size-lo) mr)
     rw[Array.toList_push]
     exact R4.LF.push n1 AI,by omega⟩)))
   refine wpS_bind (wpS_get ?_)
   cases eb:(pendingOf s3).back? with
   |none=>exact note s3 R3 EK _ λs5 R5=>⟨lo+min (a₀.size-lo) mr,rfl,by omega,R5⟩
   |some y=>
    obtain⟨a1,b1,z1⟩:=y
    dsimp only
    refine wpS_bind (wpS_mono (wpS_forRange (I:=λ_ c s4=>c=(none,())/\RI κ K D a₀ lo s4/\So K (arrOf s4) lo (min (a₀.size-lo) mr)/\0<(pendingOf s4).size) (Q:=λc s4=>c=(none,())/\RI κ K D a₀ lo s4/\So K (arrOf s4) lo (min (a₀.size-lo) mr)/\0<(pendingOf s4).size) ?_ (λ_ _ h=>h) ⟨rfl,R3,EK,?_⟩) ?_)
    ·rintro _ c s4 _ _ ⟨rfl,R4,AI,p4⟩
     refine wpS_bind (wpS_get ?_)
     by_cases c1:(pendingOf s4).size>1
     ·rw[if_pos c1]
      obtain⟨⟨p1,p2,p3⟩,ep⟩:∃y,(pendingOf s4)[(pendingOf s4).size-2]?=some y:=⟨_,Array.getElem?_eq_getElem (by omega)⟩
      rw[ep]
      refine jO (λ_=>wpS_pure ⟨rfl,R4,AI,p4⟩) (λ_=> ?_)
      exact wpS_bind (tO hL R4 (by omega) λs5 R5 e5 o5=>wpS_pure ⟨rfl,R5,AI.congr λt h _=>o5 t h,by omega⟩)
     ·rw[if_neg c1]
      exact wpS_pure ⟨rfl,R4,AI,p4⟩
    ·cases h:(pendingOf s3).size with
     |zero=>
      have:pendingOf s3= #[]:=Array.eq_empty_of_size_eq_zero h
      rw[this]at eb
      cases eb
     |succ k=>omega
    ·rintro c s4 ⟨rfl,R4,AI,p4⟩
     dsimp only
     refine wpS_bind (wpS_modify ?_)
     exact note _ (R4.pow p4 _) AI _ λs5 R5=>⟨lo+min (a₀.size-lo) mr,rfl,by omega,R5⟩
  ·rw[if_neg hm]
   have R3:=R2
   have EK:=Mx
   revert R3 EK
   generalize s2=s3
   intro R3 EK
   have note:∀s4:SortSt,RI κ K D a₀ lo s4->So K (arrOf s4) lo (n) -> ∀Q:ForInStep (Option Unit×Nat) ->SortSt->Prop,(∀s5,RI κ K D a₀ (lo+n) s5->Q (.yield (none,lo+n)) s5) ->wpS (model prog w) A E s (do
     modify λy=>setPending y ((pendingOf y).push (lo,n,0))
     pure (ForInStep.yield ((none,lo+n):Option Unit×Nat))) Q s4:=λs4 R4 AI Q hQ=>
    wpS_bind (wpS_modify (wpS_pure (hQ _ ⟨⟨R4.sb.kind,R4.sb.failed,R4.sb.all⟩,R4.perm,by
     show pQ K (arrOf s4) 0 ((pendingOf s4).push (lo,n,0)).toList (lo+n)
     rw[Array.toList_push]
     exact R4.LF.push n1 AI,by omega⟩)))
   refine wpS_bind (wpS_get ?_)
   cases eb:(pendingOf s3).back? with
   |none=>exact note s3 R3 EK _ λs5 R5=>⟨lo+n,rfl,by omega,R5⟩
   |some y=>
    obtain⟨a1,b1,z1⟩:=y
    dsimp only
    refine wpS_bind (wpS_mono (wpS_forRange (I:=λ_ c s4=>c=(none,())/\RI κ K D a₀ lo s4/\So K (arrOf s4) lo (n)/\0<(pendingOf s4).size) (Q:=λc s4=>c=(none,())/\RI κ K D a₀ lo s4/\So K (arrOf s4) lo (n)/\0<(pendingOf s4).size) ?_ (λ_ _ h=>h) ⟨rfl,R3,EK,?_⟩) ?_)
    ·rintro _ c s4 _ _ ⟨rfl,R4,AI,p4⟩
     refine wpS_bind (wpS_get ?_)
     by_cases c1:(pendingOf s4).size>1
     ·rw[if_pos c1]
      obtain⟨⟨p1,p2,p3⟩,ep⟩:∃y,(pendingOf s4)[(pendingOf s4).size-2]?=some y:=⟨_,Array.getElem?_eq_getElem (by omega)⟩
      rw[ep]
      refine jO (λ_=>wpS_pure ⟨rfl,R4,AI,p4⟩) (λ_=> ?_)
      exact wpS_bind (tO hL R4 (by omega) λs5 R5 e5 o5=>wpS_pure ⟨rfl,R5,AI.congr λt h _=>o5 t h,by omega⟩)
     ·rw[if_neg c1]
      exact wpS_pure ⟨rfl,R4,AI,p4⟩
    ·cases h:(pendingOf s3).size with
     |zero=>
      have:pendingOf s3= #[]:=Array.eq_empty_of_size_eq_zero h
      rw[this]at eb
      cases eb
     |succ k=>omega
    ·rintro c s4 ⟨rfl,R4,AI,p4⟩
     dsimp only
     refine wpS_bind (wpS_modify ?_)
     exact note _ (R4.pow p4 _) AI _ λs5 R5=>⟨lo+n,rfl,by omega,R5⟩
 ·rintro c s1 ⟨lo,rfl,hlo,R1⟩
  exact⟨lo,rfl,by omega,R1⟩
 ·rintro c s1 ⟨lo,rfl,hlo,R1⟩
  have hl:lo=a₀.size:=by have:=R1.le;omega
  subst hl
  dsimp only
  refine wpS_bind (wpS_mono (wpS_forRange (I:=λx c s2=>c=(none,())/\RI κ K D a₀ a₀.size s2/\((pendingOf s2).size<=1∨(pendingOf s2).size+x<=a₀.size)) (Q:=λc s2=>c=(none,())/\RI κ K D a₀ a₀.size s2/\(pendingOf s2).size<=1) ?_ ?_ ⟨rfl,R1,.inr R1.cnt⟩) ?_)
  ·rintro x c s2 _ hx ⟨rfl,R2,p2⟩
   refine wpS_bind (wpS_get ?_)
   refine jO (λc=>wpS_pure ⟨rfl,R2,c⟩) (λc=> ?_)
   have mg:∀i,i+1<(pendingOf s2).size-> ∀Q:ForInStep (Option Unit×Unit) ->SortSt->Prop,(∀s3,RI κ K D a₀ a₀.size s3->(pendingOf s3).size+1=(pendingOf s2).size->Q (.yield (none,())) s3) ->wpS (model prog w) A E s (do
     let b<-mergeAt' i
     if(!b)=true then pure (ForInStep.done ((some (),()):Option Unit×Unit))else pure (ForInStep.yield (none,()))) Q s2:=λi hi Q hQ=>
    wpS_bind (IV hL R2 hi λs3 R3 e3=>wpS_pure (hQ s3 R3 e3))
   refine mg _ ?_ _ λs3 R3 e3=>⟨rfl,R3,.inr (by omega)⟩
   exact Nat.lt_of_le_of_lt (Nat.succ_le_succ (IX _ _)) (by omega)
  ·rintro c s2 ⟨hc,R2,p2⟩
   exact⟨hc,R2,by omega⟩
  ·rintro c s2 ⟨rfl,R2,p2⟩
   refine wpS_pure (hq s2 R2.perm R2.sb.failed ?_)
   have C:=R2.LF
   have le:=p2
   rw[<-Array.length_toList]at le
   cases e:(pendingOf s2).toList with
   |nil=>
    rw[e]at C
    have z:0=a₀.size:=C
    intro i j h1 h2
    omega
   |cons y r=>
    rw[e]at C le
    have:r=[]:=by
     cases r with
     |nil=>rfl
     |cons _ _=>simp at le
    subst this
    obtain⟨c1,c2,c3,c4⟩:=C
    have:0+y.2.1=a₀.size:=c4
    rw[<-this,Nat.zero_add]
    exact c3
end
end xy
namespace L2
open PySem PySem.Spec PyProof.Rows PySem.SeqAt
open AutoSeq1 (wpAny_loadPart')
open MeetsSeq MeetsSeq2 MeetsSeq3 SeqRoads2
mutual
def HP:PyData->PyData->Bool
 | .int a,.int b=>decide (a<b)
 | .list xs,.list ys=>xB xs ys
 | .tuple xs,.tuple ys=>xB xs ys
 |_,_=>false
def xB:List PyData->List PyData->Bool
 |x::xs,y::ys=>if PyData.eqv x y then xB xs ys else HP x y
 |_,_=>false
end
mutual
inductive AJ:PyData->PyData->Prop
 |int(a b:Int):AJ (.int a) (.int b)
 |lst{xs ys:List PyData}:nM xs ys->AJ (.list xs) (.list ys)
inductive nM:List PyData->List PyData->Prop
 |nil:nM [] []
 |cons{x y:PyData}{xs ys:List PyData}:AJ x y->nM xs ys->nM (x::xs) (y::ys)
end
def rT(A:Around)(s:Shared)(y x:Value)(b:Bool):Prop:=
 ∀(prog:Program)(w:World)(E:Value->Shared->Prop)(Q:Value->Shared->Prop),Q (.bool b) s->wpAny (model prog w) A (richCompare .Lt y x) Q E s
def rV(e l:Nat->Bool):Nat->Nat->Bool
 |0,_=>false
 |k+1,i=>if e i then rV e l k (i+1)else l i
theorem DK(l b:Addr)(its gm:Array Value)(n n2:Nat)(dd dd2:Option Addr)(sl sl2:Array (Option Value))(hsz:its.size=gm.size)(e f:Nat->Bool)(k:Nat):
  ∀i:Nat,its.size-i=k->Meets (Builtin.«list.__eq__.loop» ⟨[.ref l,.ref b,rawInt i,rawInt 0],[]⟩)
   (λA R s=>s.heap.get? l=some {cls:= .type "list",dict:=dd,data:= .seq its n,slots:=sl}/\s.heap.get? b=some {cls:= .type "list",dict:=dd2,data:= .seq gm n2,slots:=sl2}/\
    (∀j (h1:j<its.size) (h2:j<gm.size),EqAt A.in1 s its[j] gm[j] (e j))/\
    (∀j (h1:j<its.size) (h2:j<gm.size),e j=false->rT A.in1 s its[j] gm[j] (f j))/\
    R (.ok (.ret (.bool (rV e f k i)))) s):=by
 induction k with
 |zero=>
  intro i hk prog w A R s h
  obtain⟨hp,g,d,tk,os⟩:=s;obtain⟨hl,hb,he,hf,h⟩:=h
  wp_walk using wpAny_loadPart' hl,wpAny_loadPart' hb
  have hi1:its[((i:Nat):Int).toNat]?=none:=by simp;omega
  have hi2:gm[((i:Nat):Int).toNat]?=none:=by simp;omega
  rw[hi1,hi2]
  wp_walk using wpAny_loadPart' hl,wpAny_loadPart' hb
  show R (.ok (.ret (.bool (decide (its.size<gm.size))))) _
  rw[hsz,decide_eq_false (Nat.lt_irrefl _)]
  exact h
 |succ k ih=>
  intro i hk prog w A R s h
  obtain⟨hp,g,d,tk,os⟩:=s;obtain⟨hl,hb,he,hf,h⟩:=h
  wp_walk using wpAny_loadPart' hl,wpAny_loadPart' hb
  have hlt:i<its.size:=by omega
  have AK:i<gm.size:=by omega
  have hi1:its[((i:Nat):Int).toNat]?=some its[i]:=by simp[hlt]
  have hi2:gm[((i:Nat):Int).toNat]?=some gm[i]:=by simp[AK]
  have hc:((i:Int)+1)=((i+1:Nat):Int):=by push_cast;rfl
  rw[hi1,hi2]
  refine wpAny_bind (he i hlt AK prog w _ _ ?_)
  unfold rV at h
  cases hb':e i with
  |true=>
   rw[hb',if_pos rfl]at h
   wp_walk
   rw[hc]
   exact⟨plainId_quiet plain_eq_loop _,codeAny_builtin entry_eq_loop (by
    rw[Around.under_plainId plain_eq_loop _]
    exact ih (i+1) (by omega) prog w A R _ ⟨hl,hb,he,hf,h⟩)⟩
  |false=>
   rw[hb',if_neg (by simp)]at h
   wp_walk using wpAny_loadPart' hl,wpAny_loadPart' hb
   rw[hi1,hi2]
   refine wpAny_bind (hf i hlt AK hb' prog w _ _ ?_)
   wp_walk
   exact h
theorem v5(l b:Addr)(its gm:Array Value)(n n2:Nat)(dd dd2:Option Addr)(sl sl2:Array (Option Value))(hsz:its.size=gm.size)(e f:Nat->Bool):
  Meets (Builtin.«list.__lt__» ⟨[.ref l,.ref b],[]⟩)
   (λA R s=>s.heap.get? l=some {cls:= .type "list",dict:=dd,data:= .seq its n,slots:=sl}/\s.heap.get? b=some {cls:= .type "list",dict:=dd2,data:= .seq gm n2,slots:=sl2}/\
    (∀j (h1:j<its.size) (h2:j<gm.size),EqAt A.in1 s its[j] gm[j] (e j))/\
    (∀j (h1:j<its.size) (h2:j<gm.size),e j=false->rT A.in1 s its[j] gm[j] (f j))/\
    R (.ok (.ret (.bool (rV e f its.size 0)))) s):=by
 intro prog w A R s h
 obtain⟨hp,g,d,tk,os⟩:=s;obtain⟨hl,hb,he,hf,h⟩:=h
 have f3:=AutoSeq1.sub_list_list
 wp_walk using wpAny_loadPart' hl,wpAny_loadPart' hb
 exact⟨plainId_quiet plain_eq_loop _,codeAny_builtin entry_eq_loop (by
  rw[Around.under_plainId plain_eq_loop _]
  exact DK l b its gm n n2 dd dd2 sl sl2 hsz e f _ 0 rfl prog w A R _ ⟨hl,hb,he,hf,h⟩)⟩
section
variable{A:Around}{s:Shared}
theorem rT.lists{l b:Addr}{its gm:Array Value}{e f:Nat->Bool}(hl:s.heap.IsList l its)(hb:s.heap.IsList b gm)(hsz:its.size=gm.size)(hu:A.units<cLine)
  (he:∀j (h1:j<its.size) (h2:j<gm.size),EqAt A.in1 s its[j] gm[j] (e j))(hf:∀j (h1:j<its.size) (h2:j<gm.size),e j=false->rT A.in1 s its[j] gm[j] (f j)):
  rT A s (.ref l) (.ref b) (rV e f its.size 0):=λprog w E Q h=>by
 obtain⟨⟨cls,dd,data,sl⟩,ho,hc,n,hd⟩:=id hl
 obtain⟨⟨NZ,dd2,data2,sl2⟩,ho2,hc2,n2,hd2⟩:=id hb
 simp only at hc hd hc2 hd2
 subst hc hd hc2 hd2
 exact richCompare_meets_room (op:= .Lt) ⟨_,ho,rfl⟩ ⟨_,ho2,rfl⟩ F.slot_list_lt F.entry_list_lt (F.args_list_lt_2 _ _) (v5 l b its gm n n2 dd dd2 sl sl2 hsz e f)
  ⟨ho,ho2,he,hf,show Value.bool (rV e f its.size 0)≠Value.notImplemented/\Q (.bool (rV e f its.size 0)) s from⟨(λx=>nomatch x),h⟩⟩ hu
theorem rT.int_int(a:Int)(t:Tok)(b:Int)(u:Tok):rT A s (.int a t) (.int b u) (decide (a<b)):=λprog w E Q h=>
 richCompare_gives (typeIs_int s a t) (typeIs_int s b u) F.slot_int_lt F.entry_int_lt (F.args_int_lt_2 _ _) (AutoIntG1.int___lt___int_int_0 a t b u) (λx=>nomatch x) h
end
abbrev HQ(xs ys:List PyData)(j:Nat):Bool:=HP (xs.getD j .none) (ys.getD j .none)
theorem tP(x y:PyData)(xs ys:List PyData):∀k i,rV (pairEq (x::xs) (y::ys)) (HQ (x::xs) (y::ys)) k (i+1)=rV (pairEq xs ys) (HQ xs ys) k i
 |0,_=>rfl
 |k+1,i=>by
  show(if pairEq (x::xs) (y::ys) (i+1)then _ else HQ (x::xs) (y::ys) (i+1))=if pairEq xs ys i then _ else HQ xs ys i
  rw[tP x y xs ys k (i+1)]
  rfl
theorem ql:∀{xs ys:List PyData},nM xs ys->rV (pairEq xs ys) (HQ xs ys) xs.length 0=xB xs ys
 |_,_,.nil=>rfl
 |_,_,.cons (x:=x) (y:=y) (xs:=xs) (ys:=ys) c cs=>by
  show(if pairEq (x::xs) (y::ys) 0 then rV (pairEq (x::xs) (y::ys)) (HQ (x::xs) (y::ys)) xs.length (0+1)else HQ (x::xs) (y::ys) 0)=if PyData.eqv x y then xB xs ys else HP x y
  rw[tP,ql cs]
  rfl
theorem nM.length:∀{xs ys:List PyData},nM xs ys->xs.length=ys.length
 |_,_,.nil=>rfl
 |_,_,.cons _ cs=>congrArg (· +1) cs.length
mutual
theorem tQ:∀{da db:PyData},AJ da db-> ∀{A:Around}{s:Shared}{a b:Value}{as bs:List Addr},Reads s.heap a da as->Reads s.heap b db bs->da.canLay0=true->db.canLay0=true->
  A.units+min da.depth db.depth<cLine->rT A s a b (HP da db)
 |_,_,.int x y,A,s,_,_,_,_,ra,rb,_,_,_=>by
  cases ra
  cases rb
  exact rT.int_int x _ y _
 |_,_,.lst (xs:=xs) (ys:=ys) cs,A,s,_,_,_,_,ra,rb,ha,hb,hu=>by
  cases ra with
  | @list l o vs n _ as₁ h1 h2 h3 h4=>
   cases rb with
   | @list l' o' vs' n' _ bs₁ k1 k2 k3 k4=>
    have n1:vs.size=xs.length:=by simpa using ReadsAll.length _ _ _ h4
    have n2:vs'.size=ys.length:=by simpa using ReadsAll.length _ _ _ k4
    have hl:s.heap.IsList l vs:=⟨_,h1,h2,_,h3⟩
    have hl':s.heap.IsList l' vs':=⟨_,k1,k2,_,k3⟩
    have:=rT.lists (e:=pairEq xs ys) (f:=HQ xs ys) hl hl' (by rw[n1,n2,cs.length]) (room_here hu) (λj j1 j2=>by
     have:=eqAt_readsAll xs ys A.in1 s vs.toList vs'.toList _ _ h4 k4 ha hb (room_in hu) j (by simpa using j1) (by simpa using j2)
     simpa using this) (λj j1 j2 _=>by
     have:=jX (A:=A.in1) cs h4 k4 ha hb (room_in hu) j (by simpa using j1) (by simpa using j2)
     simpa using this)
    rw[n1,ql cs]at this
    exact this
theorem jX:∀{xs ys:List PyData},nM xs ys-> ∀{A:Around}{s:Shared}{vs ws:List Value}{as bs:List Addr},ReadsAll s.heap vs xs as->ReadsAll s.heap ws ys bs->PyData.canLayAll0 xs=true->PyData.canLayAll0 ys=true->
  A.units+min (PyData.depthAll xs) (PyData.depthAll ys)<cLine-> ∀j (h1:j<vs.length) (h2:j<ws.length),rT A s vs[j] ws[j] (HQ xs ys j)
 |_,_,.nil,_,_,_,_,_,_,ra,_,_,_,_,j,h1,_=>by cases ra;exact absurd h1 (Nat.not_lt_zero _)
 |_,_,.cons (x:=x) (y:=y) (xs:=xs) (ys:=ys) c cs,A,s,_,_,_,_,ra,rb,ha,hb,hu,j,h1,h2=>by
  have ha':x.canLay0=true/\PyData.canLayAll0 xs=true:=by simpa [PyData.canLayAll0]using ha
  have hb':y.canLay0=true/\PyData.canLayAll0 ys=true:=by simpa [PyData.canLayAll0]using hb
  cases ra with
  |cons r rs=>
   cases rb with
   |cons r' rs'=>
    cases j with
    |zero=>exact tQ c r r' ha'.1 hb'.1 (room_head hu)
    |succ j=>exact jX cs rs rs' ha'.2 hb'.2 (room_tail hu) j (Nat.lt_of_succ_lt_succ h1) (Nat.lt_of_succ_lt_succ h2)
end
section
variable{prog:Program}{w:World}{A:Around}{E:Value->Shared->Prop}{s:Shared}
theorem xC{l b:Addr}{its gm:Array Value}{e f:Nat->Bool}{Q:Value->Shared->Prop}(hl:s.heap.IsList l its)(hb:s.heap.IsList b gm)(hsz:its.size=gm.size)
  (he:∀j (h1:j<its.size) (h2:j<gm.size),EqAt A.in1 s its[j] gm[j] (e j))(hf:∀j (h1:j<its.size) (h2:j<gm.size),e j=false->rT A.in1 s its[j] gm[j] (f j))
  (h:Q (.bool (rV e f its.size 0)) s):wpAny (model prog w) A (call (.builtin "list.__lt__") [.ref l,.ref b]) Q E s:=by
 obtain⟨⟨cls,dd,data,sl⟩,ho,hc,n,hd⟩:=id hl
 obtain⟨⟨NZ,dd2,data2,sl2⟩,ho2,hc2,n2,hd2⟩:=id hb
 simp only at hc hd hc2 hd2
 subst hc hd hc2 hd2
 exact call_meets F.slot_list_lt ⟨_,ho,rfl⟩ F.entry_list_lt (F.args_list_lt_2 _ _) (v5 l b its gm n n2 dd dd2 sl sl2 hsz e f) ⟨ho,ho2,he,hf,h⟩
theorem rF{da db:PyData}(c:AJ da db){a b:Value}{as bs:List Addr}(ra:Reads s.heap a da as)(rb:Reads s.heap b db bs)(ha:da.canLay0=true)(hb:db.canLay0=true)
  (hu:A.units+min da.depth db.depth<cLine){Q:Bool->Shared->Prop}(h:Q (HP da db) s):wpAny (model prog w) A (oneLt' true a b) Q E s:=by
 cases c with
 |int x y=>
  cases ra
  cases rb
  exact oneLt_int h
 | @lst xs ys cs=>
  cases ra with
  | @list l o vs n _ as₁ h1 h2 h3 h4=>
   cases rb with
   | @list l' o' vs' n' _ bs₁ k1 k2 k3 k4=>
    have n1:vs.size=xs.length:=by simpa using ReadsAll.length _ _ _ h4
    have n2:vs'.size=ys.length:=by simpa using ReadsAll.length _ _ _ k4
    have hl:s.heap.IsList l vs:=⟨_,h1,h2,_,h3⟩
    have hl':s.heap.IsList l' vs':=⟨_,k1,k2,_,k3⟩
    rw[oneLt'_eq]
    simp only[if_true]
    refine wpAny_bind (wpAny_cRoomFor_or (.inr (room_here hu)) ?_)
    refine wpAny_bind (wpAny_callSpecialIfBound?_slot (T:= "list") (id:= "list.__lt__") ⟨o,h1,h2⟩ F.slot_list_lt (xC (e:=pairEq xs ys) (f:=HQ xs ys) hl hl' (by rw[n1,n2,cs.length]) (λj j1 j2=>by
     have:=eqAt_readsAll xs ys A.in1 s vs.toList vs'.toList _ _ h4 k4 ha hb (room_in hu) j (by simpa using j1) (by simpa using j2)
     simpa using this) (λj j1 j2 _=>by
     have:=jX (A:=A.in1) cs h4 k4 ha hb (room_in hu) j (by simpa using j1) (by simpa using j2)
     simpa using this) ?_))
    rw[n1,ql cs]
    exact wpAny_truthy_bool h
theorem AL{da db:PyData}(c:AJ da db){a b:Value}{as bs:List Addr}(ra:Reads s.heap a da as)(rb:Reads s.heap b db bs)(ha:da.canLay0=true)(hb:db.canLay0=true)
  (hu:A.units+min da.depth db.depth<cLine)(k:Bool){Q:Bool->Shared->Prop}(h:Q (HP da db) s):wpAny (model prog w) A (oneLt' k a b) Q E s:=by
 cases k with
 |true=>exact rF c ra rb ha hb hu h
 |false=>
  refine PySem.W.kat_one a b (tQ c ra rb ha hb hu prog w E _ ?_)
  exact h
theorem v7{b:Bool}{Q:Bool->Shared->Prop}:∀{xs ys:List PyData},nM xs ys-> ∀{vs ws:List Value}{as bs:List Addr},ReadsAll s.heap vs xs as->ReadsAll s.heap ws ys bs->PyData.canLayAll0 xs=true->PyData.canLayAll0 ys=true->
  A.units+min (PyData.depthAll xs) (PyData.depthAll ys)<cLine-> ∀i,Q (xB xs ys) s->PySem.W.KatLex prog w A b false Q (vs.zip ws) i s
 |_,_,.nil,_,_,_,_,ra,rb,_,_,_,i,h=>by
  cases ra
  cases rb
  exact PySem.W.kat_nil h
 |_,_,.cons (x:=x) (y:=y) (xs:=xs) (ys:=ys) c cs,_,_,_,_,ra,rb,ha,hb,hu,i,h=>by
  have ha':x.canLay0=true/\PyData.canLayAll0 xs=true:=by simpa [PyData.canLayAll0]using ha
  have hb':y.canLay0=true/\PyData.canLayAll0 ys=true:=by simpa [PyData.canLayAll0]using hb
  cases ra with
  |cons r rs=>
   cases rb with
   |cons r' rs'=>
    refine PySem.W.kat_cons (eqAt_reads x y A s _ _ _ _ r r' ha'.1 hb'.1 (room_head hu) prog w _ _ ?_)
    have h':Q (if PyData.eqv x y then xB xs ys else HP x y) s:=h
    cases e:PyData.eqv x y with
    |true=>
     rw[e,if_pos rfl]at h'
     exact PySem.W.kat_yes (v7 cs rs rs' ha'.2 hb'.2 (room_tail hu) (i+1) h')
    |false=>
     rw[e,if_neg (by simp)]at h'
     exact PySem.W.kat_no (AL c r r' ha'.1 hb'.1 (room_head hu) _ h')
end
end L2
namespace L2
open PySem PySem.Spec PyProof.Rows PySem.SeqAt xy
section
variable{prog:Program}{w:World}{A:Around}{E:Value->Shared->Prop}{s:Shared}
structure xD(prog:Program)(w:World)(A:Around)(E:Value->Shared->Prop)(a:Addr)(vs:List Value)(κ:SortKind)(K:Keyed->Int)(s:Shared):Prop where
 kind:2<=vs.length-> ∀s':Shared,(∀b o,b≠a->s.heap.get? b=some o->s'.heap.get? b=some o) -> ∀Q:SortKind->Shared->Prop,Q κ s'->wpAny (model prog w) A (keyKind' vs.toArray) Q E s'
 lt:∀s':Shared,(∀b o,b≠a->s.heap.get? b=some o->s'.heap.get? b=some o) ->pO prog w A E s' κ K (λp=>p.1=p.2/\p.1∈vs)
theorem zc{vs:List Value}{K:Keyed->Int}{xs:Array Keyed}(hp:xs.Perm (pairsOf vs))(hs:So K xs 0 vs.length):
  ((xs.map (·.2)).toList).Perm vs/\((xs.map (·.2)).toList).Pairwise λx y=>K (x,x)<=K (y,y):=by
 have hl:xs.toList.Perm (vs.zip vs):=by rw[<-pairsOf_toList];exact Array.perm_iff_toList_perm.mp hp
 have hm:∀p,p∈xs.toList->p.1=p.2/\p.1∈vs:=λp q=>mem_zip_self (hl.mem_iff.mp q)
 have len:xs.toList.length=vs.length:=by rw[hl.length_eq];simp
 constructor
 ·have:=hl.map Prod.snd
  rw[List.map_snd_zip (Nat.le_refl _)]at this
  simpa using this
 ·have h2:=(qk (K:=K) (a:=xs) (lo:=0) (n:=vs.length) (by rw[Nat.zero_add,<-len];exact Nat.le_of_eq (Array.length_toList ..))).mp hs
  have e:sl xs 0 vs.length=xs.toList:=by
   show(xs.toList.drop 0).take vs.length=_
   rw[List.drop_zero,List.take_of_length_le (by omega)]
  rw[e]at h2
  rw[Array.toList_map,List.pairwise_map]
  refine h2.imp_of_mem λ {p q} p1 q1 h=> ?_
  have ep:(p.2,p.2)=p:=Prod.ext (hm p p1).1.symm rfl
  have eq:(q.2,q.2)=q:=Prod.ext (hm q q1).1.symm rfl
  rw[ep,eq]
  exact h
theorem IY{a:Addr}{vs:List Value}{n:Nat}{P:PySem.Fin->Shared->Prop}{κ:SortKind}{K:Keyed->Int}(ho:s.heap.get? a=some (seqObj "list" vs.toArray n))(hz:vs.length<=sizeLine)
  (ask:xD prog w A E a vs κ K s)(h:∀out:List Value,out.Perm vs->out.Pairwise (λx y=>K (x,x)<=K (y,y)) ->P (.done (.ret .none)) {s with heap:=sortedHeap s.heap a vs out.toArray}):
  wpAny (model prog w) A (Builtin.«list.sort» ⟨[.ref a],[]⟩) P E s:=by
 rw[list_sort_plain]
 have la:a<s.heap.objs.size:=Heap.lt_size ho
 have fin:∀st':SortSt,(arrOf st').Perm (pairsOf vs) ->So K (arrOf st') 0 vs.length->P (.done (.ret .none)) {s with heap:=sortedHeap s.heap a vs ((arrOf st').map (·.2))}:=λst' hp hs=>by
  obtain⟨q1,q2⟩:=zc hp hs
  have:=h _ q1 q2
  rwa [Array.toArray_toList]at this
 refine wpAny_bind (listItems_at ho rfl ?_)
 refine wpAny_bind (listUpdate_at ho rfl ?_ (by simpa using hz) (Nat.zero_le _))
 obtain⟨e1,RS⟩:∃e1,(s.heap.update a (Obj.mapSeq λ_=> #[])).get? a=some (seqObj "list" #[] e1):=⟨_,get?_update_seq ho (λ_=> #[])⟩
 refine wpAny_bind (seqEpoch_at RS rfl ?_)
 refine wpAny_bind (wpAny_newTuple ?_ (by simpa using hz))
 refine wpAny_bind (wpAny_newList ?_ (Nat.zero_le _))
 refine wpAny_holding ?_
 generalize hg:(((s.heap.update a (Obj.mapSeq λ_=> #[])).push (seqObj "tuple" vs.toArray 0)).push (seqObj "list" #[] 0))=iK
 have keep:∀b o,b≠a->s.heap.get? b=some o->iK.get? b=some o:=λb o hb e=>by
  rw[<-hg]
  refine Heap.get?_push_of_some _ (Heap.get?_push_of_some _ ?_)
  rw[Heap.get?_update_ne _ _ _ _ hb]
  exact e
 have ho6:iK.get? a=some (seqObj "list" #[] e1):=by
  rw[<-hg]
  exact Heap.get?_push_of_some _ (Heap.get?_push_of_some _ RS)
 have sh:∀out,sortedHeap s.heap a vs out=iK.update a (Obj.mapSeq λ_=>out):=λout=>by rw[<-hg];rfl
 have Vy:vs.toArray.size=vs.length:=by simp
 have bound:∀st':SortSt,(arrOf st').Perm (pairsOf vs) ->((arrOf st').map (·.2)).size<=sizeLine+1:=λst' hp=>by
  rw[Array.size_map,hp.size_eq,pairsOf_size]
  omega
 show wpAny (model prog w) A _ P E {s with heap:=iK}
 dsimp only
 by_cases h2:vs.toArray.size<2
 ·rw[if_pos h2,if_pos h2]
  refine wpAny_bind (wpAny_pure ?_)
  rw[StateT.run_pure]
  refine wpAny_bind (wpAny_pure ?_)
  dsimp only
  refine wpAny_bind (seqEpoch_at ho6 rfl ?_)
  refine wpAny_bind (listUpdate_at ho6 rfl ?_ (Nat.zero_le _) (bound (SortSt.mk' general' (pairsOf vs) #[] 7 none) (Array.Perm.refl _)))
  simp only[bne_self_eq_false,Bool.false_eq_true,if_false]
  have:=fin (SortSt.mk' general' (pairsOf vs) #[] 7 none) (Array.Perm.refl _) (λi j hij hj=>by
   have:i=j:=by omega
   subst this;exact Int.le_refl _)
  rw[sh]at this
  exact wpAny_pure this
 ·rw[if_neg h2,if_neg h2]
  refine wpAny_bind (ask.kind (by omega) {s with heap:=iK} keep _ ?_)
  have R:RI κ K (λp=>p.1=p.2/\p.1∈vs) (pairsOf vs) 0 (SortSt.mk' κ (pairsOf vs) #[] 7 none):=by
   refine⟨⟨rfl,rfl,λp hp=> ?_⟩,Array.Perm.refl _,rfl,Nat.zero_le _⟩
   have iK:p∈(pairsOf vs).toList:=hp
   rw[pairsOf_toList]at iK
   exact mem_zip_self iK
  refine wpAny_bind (wpAny_mono (LG (ask.lt {s with heap:=iK} keep) (Q:=λ_ st'=>(arrOf st').Perm (pairsOf vs)/\failedOf st'=none/\So K (arrOf st') 0 (pairsOf vs).size) R λst' a1 a2 a3=>⟨a1,a2,a3⟩) ?_ λ_ _ e=>e)
  rintro⟨⟨⟩,st'⟩ s' ⟨rfl,hp,hf,hs⟩
  dsimp only
  rw[pairsOf_size]at hs
  refine wpAny_bind (seqEpoch_at ho6 rfl ?_)
  refine wpAny_bind (listUpdate_at ho6 rfl ?_ (Nat.zero_le _) (bound st' hp))
  rw[hf]
  simp only[bne_self_eq_false,Bool.false_eq_true,if_false]
  have:=fin st' hp hs
  rw[sh]at this
  exact wpAny_pure this
theorem Gs{l:Addr}{vs:List Value}{Q:Value->Shared->Prop}{κ:SortKind}{K:Keyed->Int}(hl:s.heap.IsList l vs.toArray)(hz:vs.length<=sizeLine)
  (ask:∀(a:Addr)(s':Shared),s.heap.objs.size<=a->(∀b o,s.heap.get? b=some o->s'.heap.get? b=some o) ->xD prog w A.in1.in1 E a vs κ K s')
  (h:∀out:List Value,out.Perm vs->out.Pairwise (λx y=>K (x,x)<=K (y,y)) ->Q (.ref (s.heap.objs.size+1)) {s with heap:=sortedAll s.heap vs out.toArray}):
  wpAny (model prog w) A (call (.builtin "sorted") [.ref l]) Q E s:=by
 refine Calls.call_function_entry kind_sorted plain_sorted entry_sorted (args_sorted1 _) ?_
 unfold Builtin.«sorted»
 refine wpAny_bind (m:=checkCount "sorted" 1 1 _) (wpAny_pure ?_)
 refine wpAny_bind (collect_list hl ?_ hz)
 refine wpAny_bind (wpAny_newList ?_ (by simpa using hz))
 have z1:((s.heap.push (seqObj "list" #[] 0)).update s.heap.objs.size (Obj.mapSeq (· ++vs.toArray))).objs.size=s.heap.objs.size+1:=by
  rw[Heap.size_update,size_push']
 generalize hg:((s.heap.push (seqObj "list" #[] 0)).update s.heap.objs.size (Obj.mapSeq (· ++vs.toArray)))=h1 at z1
 have keep:∀b o,s.heap.get? b=some o->(h1.push (seqObj "list" vs.toArray 0)).get? b=some o:=λb o e=>by
  have lb:=Heap.lt_size e
  refine Heap.get?_push_of_some _ ?_
  rw[<-hg,Heap.get?_update_ne _ _ _ _ (Nat.ne_of_lt lb)]
  exact Heap.get?_push_of_some _ e
 have Ky:(h1.push (seqObj "list" vs.toArray 0)).get? (s.heap.objs.size+1)=some (seqObj "list" vs.toArray 0):=by
  rw[<-z1];exact Heap.get?_push_size _ rfl
 show wpAny _ _ _ _ _ {s with heap:=h1.push (seqObj "list" vs.toArray 0)}
 rw[z1]
 refine wpAny_bind (wpAny_holding (wpAny_call_entry slot_list_sort ⟨_,Ky,rfl⟩ entry_list_sort (IY Ky hz (ask _ _ (Nat.le_succ _) keep) λout a1 a2=>⟨_,rfl,?_⟩) (args_list_sort _)))
 refine wpAny_pure ⟨_,rfl,?_⟩
 have:=h out a1 a2
 unfold sortedAll at this
 rw[hg]at this
 exact this
end
def RT(rk:Addr->Int):Value->Int
 | .ref a=>rk a
 |_=>0
def Cu(K:PySem.W.Frag):List V->Hp->VK->Prop:=λxs H Q=> ∃(p:Addr)(as:List Addr)(rk:Addr->Int)(dt:Addr->PyData),xs=[.ref p]/\aP K H p (as.map V.ref)/\
 (∀a∈as,Cj K H (.ref a) (dt a)/\shaped (dt a)=true)/\
 ((∀a∈as,∀b∈as,AJ (dt a) (dt b)/\HP (dt a) (dt b)=decide (rk a<rk b))∨
  (∀a∈as,∀b∈as,∃i ds j es,dt a= .tuple (.int i::ds)/\dt b= .tuple (.int j::es)/\nM (.int i::ds) (.int j::es)/\xB (.int i::ds) (.int j::es)=decide (rk a<rk b)))/\
 ∀bs:List Addr,bs.Perm as->bs.Pairwise (λa b=>rk a<=rk b) -> ∀l,H l=none->Q (.ref l) (upd H l (.lst (bs.map V.ref)))
section
variable{prog:Program}{w:World}{A:Around}{E:Value->Shared->Prop}{s:Shared}
theorem xE{κ:SortKind}{K:Keyed->Int}{D:Keyed->Prop}(h:∀x y:Keyed,D x->D y-> ∀(E:Value->Shared->Prop) (Q:Bool->Shared->Prop),Q (decide (K x<K y)) s->wpAny (model prog w) A (keyLt' κ x.1 y.1) Q E s):pO prog w A E s κ K D:=by
 intro st x y Q hk hx hy hq
 rw[lt'_eq]
 refine wpS_bind (wpS_get ?_)
 rw[hk]
 refine wpS_bind (wpS_lift (wpAny_attempt (h x y hx hy _ _ ⟨rfl,?_⟩)))
 exact wpS_pure hq
theorem Cv:∀{as:List Addr}{us:List Value},Vals (as.map V.ref) us->us=as.map Value.ref
 | [],_,h=>by cases h;rfl
 |a::as,_,h=>by
  cases h with
  |cons r rs=>
   cases r
   rw[Cv rs]
   rfl
theorem Cw:∀as:List Addr,Vals (as.map V.ref) (as.map Value.ref)
 | []=> .nil
 |a::as=> .cons rfl (Cw as)
end
theorem ReadsAll.keeps'{h h':Heap}(hk:∀b o,h.get? b=some o->h'.get? b=some o){vs:List Value}{ds:List PyData}{as:List Addr}(r:ReadsAll h vs ds as):ReadsAll h' vs ds as:=by
 induction vs generalizing ds as with
 |nil=>cases r;exact .nil
 |cons v vs ih=>
  cases r with
  |cons r1 r2=>exact .cons (Reads.keeps hk r1) (ih r2)
section
variable{X:Cx}
theorem mD(hu:X.A.units+70<cLine):pC X (.builtin "sorted") (Cu X.K):=by
 intro pins s σ H xs us Q I r h
 obtain⟨p,as,rk,dt,rfl,hq,hd,hc,q⟩:=h
 obtain⟨u,rfl,rx⟩:=vals1 r
 cases rx
 obtain⟨its,rv,pl,hz⟩:=I.list hq
 obtain rfl:=Cv rv
 have len:(as.map Value.ref).length=as.length:=List.length_map _
 rw[List.length_map]at hz
 have rd:∀a∈as,∃xs,Reads s.heap (.ref a) (dt a) xs:=λa ha=>ki I (hd a ha).1 rfl
 have old:∀{a:Addr}{s1 s2:Shared},s.heap.objs.size<=a->(∀b o,s.heap.get? b=some o->s1.heap.get? b=some o) ->(∀b o,b≠a->s1.heap.get? b=some o->s2.heap.get? b=some o) -> ∀b o,s.heap.get? b=some o->s2.heap.get? b=some o:=λh1 h2 h3 b o e=>
  h3 b o (Nat.ne_of_lt (Nat.lt_of_lt_of_le (Heap.lt_size e) h1)) (h2 b o e)
 have mem:∀{v:Value},v∈as.map Value.ref-> ∃a,a∈as/\v= .ref a:=λhv=>by
  obtain⟨a,ha,rfl⟩:=List.mem_map.mp hv
  exact⟨a,ha,rfl⟩
 have fin:∀κ:SortKind,(∀(a:Addr)(s':Shared),s.heap.objs.size<=a->(∀b o,s.heap.get? b=some o->s'.heap.get? b=some o) ->xD X.prog X.w X.A.in1.in1 X.xe a (as.map Value.ref) κ (λp=>RT rk p.1) s') ->
   wpAny (model X.prog X.w) X.A (call (.builtin "sorted") [.ref p]) (EP X pins σ Q) X.xe s:=by
  intro κ ask
  refine Gs (κ:=κ) (K:=λp=>RT rk p.1) pl.isList (by rw[len];exact hz) ask λout hp hs=> ?_
  obtain⟨bs,rfl,pb⟩:∃bs:List Addr,out=bs.map Value.ref/\bs.Perm as:=by
   have g:∀v∈out,∃a,v=Value.ref a:=λv hv=>by
    obtain⟨a,_,e⟩:=mem (hp.mem_iff.mp hv)
    exact⟨a,e⟩
   have e:∀l:List Value,(∀v∈l,∃a,v=Value.ref a) ->l=(l.map λv=>match v with| .ref a=>a|_=>0).map Value.ref:=λl=>by
    induction l with
    |nil=>intro _;rfl
    |cons v l ih=>
     intro hl
     obtain⟨a,rfl⟩:=hl v List.mem_cons_self
     rw[List.map_cons,List.map_cons,<-ih λv hv=>hl v (List.mem_cons_of_mem _ hv)]
   refine⟨_,e out g,?_⟩
   have:=hp.map λv:Value=>match v with| .ref a=>a|_=>0
   rw[List.map_map]at this
   have e2:(as.map ((λv:Value=>match v with| .ref a=>a|_=>0) ∘ Value.ref))=as:=by
    conv=>rhs;rw[<-List.map_id as]
    rfl
   rwa [e2]at this
  have so:bs.Pairwise λa b=>rk a<=rk b:=by
   rw[List.pairwise_map]at hs
   exact hs
  have zb:bs.length<=sizeLine:=by rw[pb.length_eq];exact hz
  obtain⟨c,hc⟩:=sortedAll_at s.heap (as.map Value.ref) (bs.map Value.ref).toArray
  exact⟨.ref (s.heap.objs.size+1),_,I.laid (t':=s.toks) (λb o e=>sortedAll_old e) (Nat.le_succ _) (show eV X.prog X.w _ _ _ (.lst (bs.map V.ref))from⟨by rw[List.length_map];exact zb,_,c,Cw bs,hc⟩),rfl,q bs pb so _ (I.hok.fresh (Nat.le_succ _))⟩
 rcases hc with hc|hc
 ·--lists
  refine fin oneType' λa s1 h1 h2=>⟨λ_ s2 h3 Q' hQ=> ?_,λs2 h3=>xE λx y hx hy E' Q' hQ=> ?_⟩
  ·refine PySem.W.kas_kind (T:= .type "list") (by rw[len]at *;omega) (λv hv=> ?_) (by decide+kernel) (by decide+kernel) hQ
   obtain⟨b,hb,rfl⟩:=mem hv
   obtain⟨cs,rb⟩:=rd b hb
   have cm:=(hc b hb b hb).1
   cases e:dt b with
   |list ds=>
    rw[e]at rb
    cases rb with
    | @list l o vs n _ as₁ k1 k2 k3 k4=>
     have:PySem.W.Looks (model X.prog X.w) s2.heap (typeOf (.ref b)) o.cls:=(PySem.W.Looks.ld (old h1 h2 h3 _ _ k1)).andThen PySem.W.Looks.now
     rw[k2]at this
     exact this
   |_=>rw[e]at cm;cases cm<;>(rw[e]at rb;cases rb)
  ·obtain⟨e1,m1⟩:=hx
   obtain⟨e2,m2⟩:=hy
   obtain⟨b,hb,eb⟩:=mem m1
   obtain⟨c,hc',ec⟩:=mem m2
   obtain⟨cs,rb⟩:=rd b hb
   obtain⟨ds,rc⟩:=rd c hc'
   rw[eb,ec,keyLt'_oneType]
   obtain⟨cm,lt⟩:=hc b hb c hc'
   refine rF cm (Reads.keeps (old h1 h2 h3) rb) (Reads.keeps (old h1 h2 h3) rc) (canLay_of_shaped (hd b hb).2) (canLay_of_shaped (hd c hc').2) (room_of_shaped (hd b hb).2 (show X.A.units+1+1+64<cLine by omega)) ?_
   rw[lt]
   rw[eb,ec]at hQ
   exact hQ
 ·--tuples
  refine fin (PyProof.Rows.tuples' true) λa s1 h1 h2=>⟨λl2 s2 h3 Q' hQ=> ?_,λs2 h3=>xE λx y hx hy E' Q' hQ=> ?_⟩
  ·have tp:∀v∈as.map Value.ref,∃b∈as,v= .ref b:=λv hv=>mem hv
   obtain⟨f,hf⟩:∃f:Addr->Value,∀b∈as,∃o ys n i t,s2.heap.get? b=some o/\o.cls= .type "tuple"/\o.data= .seq ys n/\ys[0]?=some (f b)/\f b= .int i t:=by
    refine⟨λb=>match s2.heap.get? b with|some ⟨_,_,.seq ys _,_⟩=>(ys[0]?).getD .none|_=> .none,λb hb=> ?_⟩
    obtain⟨i,ds,_,_,e,_⟩:=hc b hb b hb
    obtain⟨cs,rb⟩:=rd b hb
    rw[e]at rb
    cases rb with
    | @tuple l o vs n _ as₁ k1 k2 k3 k4=>
     have g:=old h1 h2 h3 _ _ k1
     obtain⟨cls,dd,data,sl⟩:=o
     simp only at k2 k3
     subst k2 k3
     obtain⟨vl⟩:=vs
     cases k4 with
     |cons r1 r2=>
      cases r1 with
      |int i t=>
       refine⟨_,_,n,i,t,g,rfl,rfl,?_,?_⟩
       ·dsimp only
        rw[g];rfl
       ·dsimp only
        rw[g];rfl
   refine PySem.W.kat_kind (fs:=as.map f) (T:= .type "int") (?_:PySem.W.KatTups s2.heap (as.map Value.ref) (as.map f)) (by rw[List.length_map];rw[len]at l2;omega) (λv hv=> ?_) (by decide+kernel) hQ
   ·clear hQ l2 mem tp fin rd hd hc rv pl hz len hq q
    induction as with
    |nil=>exact PySem.W.KatTups.nil
    |cons b as ih=>
     obtain⟨o,ys,n,i,t,k1,k2,k3,k4,k5⟩:=hf b List.mem_cons_self
     exact PySem.W.KatTups.cons k1 k2 k3 k4 (ih λc hc=>hf c (List.mem_cons_of_mem _ hc))
   ·obtain⟨b,hb,rfl⟩:=List.mem_map.mp hv
    obtain⟨o,ys,n,i,t,k1,k2,k3,k4,k5⟩:=hf b hb
    rw[k5]
    exact PySem.W.Looks.now
  ·obtain⟨e1,m1⟩:=hx
   obtain⟨e2,m2⟩:=hy
   obtain⟨b,hb,eb⟩:=mem m1
   obtain⟨c,hc',ec⟩:=mem m2
   obtain⟨cs,rb⟩:=rd b hb
   obtain⟨ds,rc⟩:=rd c hc'
   obtain⟨i,di,j,dj,t1,t2,cm,lt⟩:=hc b hb c hc'
   have sb:=hd b hb
   have sc:=hd c hc'
   rw[eb,ec]
   rw[eb,ec]at hQ
   rw[t1]at rb sb
   rw[t2]at rc sc
   cases rb with
   | @tuple l o vs n _ as₁ k1 k2 k3 k4=>
    cases rc with
    | @tuple l' o' vs' n' _ bs₁ g1 g2 g3 g4=>
     have n1:vs.size=(PyData.int i::di).length:=by simpa using ReadsAll.length _ _ _ k4
     have n2:vs'.size=(PyData.int j::dj).length:=by simpa using ReadsAll.length _ _ _ g4
     have ee:decide (vs.size<vs'.size)=false:=by
      rw[n1,n2,cm.length]
      exact decide_eq_false (Nat.lt_irrefl _)
     refine PySem.W.kat_lt (old h1 h2 h3 _ _ k1) k3 (old h1 h2 h3 _ _ g1) g3 ?_
     rw[ee]
     have ca:=canLay_of_shaped sb.2
     have cb:=canLay_of_shaped sc.2
     refine v7 cm (ReadsAll.keeps' (old h1 h2 h3) k4) (ReadsAll.keeps' (old h1 h2 h3) g4) ca cb (room_in (room_of_shaped (A:=X.A.in1) (db:= .tuple (.int j::dj)) sb.2 (show X.A.units+1+64<cLine by omega))) 0 ?_
     rw[lt]
     exact hQ
end
end L2
namespace L2
open PySem PySem.Spec PyProof.Rows PySem.W PySem.Calls
abbrev kn(o:Obj):HO:= .wM o (.ext λ_=>True)
theorem Gu{P:Program}{w:World}{H:Hp}{h:Heap}{a:Addr}{o:Obj}(e:h.get? a=some o):eV P w H h a (kn o):=⟨e,trivial,⟨o,e⟩,λ_ _ _ _=>trivial⟩
theorem tR{pos pos2:Pos}{c:Value}:∀{l:List Value},TriplesOk l-> ∀{cv:Value},codeAmong pos (l++ [rawInt pos2.line,rawInt pos2.col,c])=some cv->codeAmong pos l=some cv∨cv=c
 | [],_,cv,h=>by
  simp only[List.nil_append,rawInt,codeAmong]at h
  split at h
  ·exact .inr (Option.some.inj h).symm
  ·cases h
 | .int x t:: .int y u::d::r,ht,cv,h=>by
  simp only[List.cons_append,codeAmong]at h ⊢
  split at h
  ·rename_i q
   rw[if_pos q]
   exact .inl h
  ·rename_i q
   rw[if_neg q]
   exact tR (l:=r) ht h
theorem pR{pos:Pos}{c:Value}:∀{l:List Value},TriplesOk l->TriplesOk (l++ [rawInt pos.line,rawInt pos.col,c])
 | [],_=>trivial
 | .int _ _:: .int _ _::_::r,h=>pR (l:=r) h
structure zd(X:Cx)(args:Arguments)(body:Expr)(sc:Scope)(H:Hp)(f:Addr):Prop where
 ex:∃(qual:Str)(pm ctv:Value)(c:Addr)(oc:Obj)(vs:Array Value)(q:Str)(t:Tok),
  H f=some (kn {cls:= .type "function",data:= .func (kla_fn "<lambda>" qual args body sc (b9 X.env sc.names []) pm (.ref c) ctv)})/\H c=some (kn oc)/\oc.data= .fields vs/\vs[1]?=some (.str q t)
theorem zd.same{X:Cx}{args:Arguments}{body:Expr}{sc:Scope}{H H':Hp}{f:Addr}(L:zd X args body sc H f)(s:ay H H'):zd X args body sc H' f:=by
 obtain⟨qual,pm,ctv,c,oc,vs,q,t,e1,e2,e3,e4⟩:=L.ex
 exact⟨qual,pm,ctv,c,oc,vs,q,t,s _ _ e1,s _ _ e2,e3,e4⟩
section
variable{X:Cx}{pins:List (Addr×Obj)}{σ:St}{H:Hp}{s:Shared}{P:Addr}{args:Arguments}{body:Expr}{sc:Scope}{pos:Pos}{own N2:List Str}
theorem DL(I:Inv X pins σ H s)(hcd:fW X.K X.env.code P)(hP:(H P).isSome=true):∃c,X.env.code= .ref c/\CodeHd s.heap c P:=by
 obtain⟨c,o,vs,file,tf,flags,tg,Le,text,tt,ec,hc,hcl,hd,h11,Nq,h7,h9,Lf⟩:=hcd.ex
 have hcs:s.heap.get? c=some o:=I.wN c o hc
 have hcn:H c=none:=(I.bs c o (I.ok.mod.Mq c o hc)).2
 have ne:c≠P:=λe=>by rw[<-e,hcn]at hP;cases hP
 have Lg:vs.getD 11 .none= .ref P:=by
  have:vs.getD 11 .none=(vs[11]?).getD .none:=by simp
  rw[this,h11];rfl
 exact⟨c,ec,o,vs,file,tf,flags,tg,Le,text,tt,hcs,hcl,hd,h11,Lg,Nq,h7,h9,Lf,ne⟩
theorem DM{Q:Value->Shared->Prop}{E:Value->Shared->Prop}{M:Model}{A:Around}(I:Inv X pins σ H s)(hcd:fW X.K X.env.code P)(hP:H P=some .yz)(bm:BM X.mg X.base)
  (Bk:rA sc.names X.env.scope.names own N2 X.N)(hdef:defaultsOf args X.env=([],[]))
  (h:∀f H' s',Inv X pins σ H' s'->ay H H'->H f=none->zd X args body sc H' f->Q (.ref f) s'):wpAny M A (eval (.Lambda args body sc pos) X.env) Q E s:=by
 obtain⟨c,ec,C⟩:=DL I hcd (by rw[hP];rfl)
 obtain⟨ps,eP,tr,cs⟩:=I.hok P _ hP
 obtain⟨OB,ob,b1,b2,b3,b4,b5,b6⟩:=bm
 have hg:s.heap.Ns mainGlobals X.mg:=by have:=I.mod.glob.keeps I.bk;exact this
 have hgP:mainGlobals≠P:=λq=>by
  obtain⟨o,es,ep,e,hd,_⟩:=hg
  rw[q,eP]at e;cases e;cases hd
 have Us:OB≠mainGlobals:=λq=>by
  obtain⟨o,es,ep,e,hd,_⟩:=I.mod.glob
  rw[q,e]at b3;cases b3;rw[hd]at b6;cases b6
 have Ut:OB≠P:=λq=>by
  have:=(I.bs _ _ b3).2
  rw[q,hP]at this;cases this
 have ba:s.heap.BuiltinsAt X.mg P:=⟨OB,ob,b1,b2,Us,Ut,I.bk _ _ b3,b4,b5,b6⟩
 refine kla_eval hdef ?_
 cases q:codeAmong pos ps.toList with
 |some cv=>
  obtain⟨c',oc,vs,q',t',rfl,e2,e3,e4⟩:=cs pos cv q
  refine kla_makeFunctionHit (mg:=X.mg) (sJ I Bk) I.ok.glob hg ec C eP tr q ba λctv h' tk hk hsz=> ?_
  have I1:Inv X pins σ H {s with heap:=h',toks:=tk}:=I.kept hk
  have I2:=I1.laid (a:=h'.objs.size) (o:=kn {cls:= .type "function",data:= .func (kla_fn "<lambda>" (X.env.qual++ "<lambda>") args body sc (b9 X.env sc.names []) ((X.mg "__name__").getD .none) (.ref c') ctv)}) (h':=h'.push _) (t':=tk) (λb o e=>Heap.get?_push_of_some _ e) (Nat.le_refl _) (Gu (Heap.get?_push_size _ rfl))
  have fr:H h'.objs.size=none:=I1.hok.fresh (Nat.le_refl _)
  exact h _ _ _ I2 (ay.up fr) fr ⟨_,_,_,c',oc,vs,q',t',au,(ay.up fr) _ _ e2,e3,e4⟩
 |none=>
  refine kla_makeFunction (mg:=X.mg) (sJ I Bk) I.ok.glob hg ec C eP tr q hgP ba λc' ctv h' tk hx hge hlt hrec htb=> ?_
  obtain⟨c2,oc,vs,t,e2,hoc,hd,hv⟩:=hrec
  cases e2
  have Mu:H c'=none:=I.hok.fresh hge
  have nP:P≠c':=λz=>by rw[z,Mu]at hP;cases hP
  have I1:Inv X pins σ (upd H c' (kn oc)) {s with heap:=h',toks:=tk}:=by
   have ne:∀{b u},H b=some u->b≠c':=λ {b u} e z=>by rw[z,Mu]at e;cases e
   have RU:∀{b},H b=none->b≠P:=λ {b} e z=>by rw[z,hP]at e;cases e
   refine I.un (t':=tk) ⟨λb o e n _ _=>hx b o (RU n) e,λb o e n _ _=>⟨o.slots,hx b o (RU n) e⟩,λb o e n _=>by rw[aH (Nat.ne_of_lt (Nat.lt_of_lt_of_le (Heap.lt_size e) hge))];exact n,λb o e _=> ?_,
    λb xs e=>by rw[aH (ne e)];exact e,λb o u e=>by rw[aH (ne e)];exact e,λb ps e=>⟨#[],by rw[aH (ne e),e];simp⟩⟩ (λb u e=> ?_)
   ·by_cases hb:b=P
    ·subst hb;exact⟨_,htb⟩
    ·exact⟨o,hx b o hb e⟩
   ·by_cases hb:b=c'
    ·subst hb
     rw[au]at e
     cases e
     exact Gu hoc
    ·rw[aH hb]at e
     by_cases hb2:b=P
     ·subst hb2
      rw[hP]at e
      cases e
      refine⟨_,htb,by simpa using pR tr,λpos2 cv e2=> ?_⟩
      have e3:codeAmong pos2 (ps.toList++ [rawInt pos.line,rawInt pos.col,.ref c'])=some cv:=by simpa using e2
      rcases tR tr e3 with z|z
      ·obtain⟨c3,Uu,Uv,q3,t3,f1,f2,f3,f4⟩:=cs pos2 cv z
       exact⟨c3,Uu,Uv,q3,t3,f1,by rw[aH (ne f2)];exact f2,f3,f4⟩
      ·exact⟨c',oc,vs,_,t,z,au,hd,hv⟩
     ·refine(I.hok b u e).stay (λd v hc2 q2=>hx d v (λz=> ?_) q2) (λd q2=>by rw[aH (ne q2)];exact q2) (λd xs q2=>by rw[aH (ne q2)];exact q2) (λd ob xs q2=>by rw[aH (ne q2)];exact q2)
      subst z
      rcases hc2 with z|z
      ·exact hb2 z.symm
      ·rw[hP]at z;cases z
  have I2:=I1.laid (a:=h'.objs.size) (o:=kn (kla_obj "<lambda>" (X.env.qual++ "<lambda>") args body sc (b9 X.env sc.names []) ((X.mg "__name__").getD .none) c' ctv)) (h':=h'.push _) (t':=tk) (λb o e=>Heap.get?_push_of_some _ e) (Nat.le_refl _) (Gu (Heap.get?_push_size _ rfl))
  have Nr:upd H c' (kn oc) h'.objs.size=none:=I1.hok.fresh (Nat.le_refl _)
  have KJ:H h'.objs.size=none:=by
   have:=Nr
   rwa [aH (Nat.ne_of_gt hlt)]at this
  exact h _ _ _ I2 ((ay.up Mu).trans (ay.up Nr)) KJ ⟨_,_,_,c',oc,vs,_,t,au,(ay.up Nr) _ _ au,hd,hv⟩
end
section
variable{prog:Program}{w:World}{A:Around}{R:Result->Shared->Prop}{s:Shared}
theorem AM{a:Addr}{ar:Args}{o:Obj}{fd:FuncData}{bd:Expr}{q:Str}(room:A.depth<recursionLimit)(ho:s.heap.get? a=some o)(hfd:o.data= .func fd)
  (co:fd.scope.isCoroutine=false)(gen:fd.scope.isGenerator=false)(hbd:fd.body= .expr bd)(cd:s.heap.CodeRec fd.code q)
  (h:wpAny (model prog w) A.in1 (bindArgs fd ar) (λbs s1=>
   wpAny (model prog w) A.in1 (newFunctionEnv fd.scope fd.globals fd.closure bs (q++ ".<locals>.") (some a) fd.code none fd.builtins)
    (λev s2=>s2.heap.NoLimit/\codeAny (model prog w) A (.expr bd ev) R s2) (λe s'=>R (.error e) s') s1) (λe s'=>R (.error e) s') s):
  codeAny (model prog w) A (.call (.ref a) ar) R s:=by
 refine codeAny_of_tree ?_
 show wpAny _ A.in1 (callAny (.ref a) ar) _ _ s
 simp only[callAny]
 refine wpAny_bind (wpAny_load ho ?_)
 obtain⟨c,oc,vs,tq,hc,hoc,hdc,hq⟩:=cd
 simp only[hfd,callFunction,co,gen,hbd,hc]
 rw[hc]at h
 refine wpAny_bind (m:=field (.ref c) 1) (wpAny_field hoc hdc hq (wpAny_bind (wpAny_pure ?_)))
 refine wpAny_bind (wpAny_mono h (λbs s1 h1=>wpAny_bind (wpAny_mono h1 (λev s2 h2=> ?_) λ_ _ e=>e)) λ_ _ e=>e)
 exact wpAny_bind (wpAny_enterFrame h2.1 room (wpAny_pure (And.intro rfl h2.2)))
end
def Cx.lam(X:Cx)(B:Around)(sc:Scope)(N':List Str)(q:Str)(f:Addr)(cd:Value)(s:Shared)(H:Hp):Cx:=
 {X with
  N:=N'
  s₀:=s
  H₀:=H
  A:=B.deeper (envX q sc s.heap.objs.size f cd (b9 X.env sc.names []))
  env:=envX q sc s.heap.objs.size f cd (b9 X.env sc.names [])
  outer:=X.stack
  stack:=envX q sc s.heap.objs.size f cd (b9 X.env sc.names [])::X.stack
  ex:=[]
  fn:=λ_=>false
  calm:=true
  pn:=[]
  xe:=λ_ _=>False}
section
variable{X:Cx}{pins:List (Addr×Obj)}{σ:St}{H:Hp}{s:Shared}{sc:Scope}{x:Str}{N2:List Str}{B:Around}{q:Str}{f:Addr}{cd:Value}
theorem IZ{h':Heap}{tk:Nat}{v:V}{u:Value}(I:Inv X pins σ H s)(Bk:rA sc.names X.env.scope.names [x] N2 X.N)(hk:sc.kind= .function)(hnc:∀y∈sc.names,y.2≠ .cell)(hx:sc.names.lookup x=some .local)
  (hB:B.frames=some X.stack)(hh:B.handled=none)(hn:h'.Ns s.heap.objs.size (λy=>([(x,u)]:List (Str×Value)).reverse.lookup y))(keep:∀b o,s.heap.get? b=some o->h'.get? b=some o)(rv:RelV v u):
  Inv (X.lam B sc ([x]++N2) q f cd s H) [] (some v::σ) H {s with heap:=h',toks:=tk}:=by
 have jd:∀y c,(b9 X.env sc.names []).lookup y=some c->(y,NameKind.free)∈sc.names/\X.env.cells.lookup y=some c:=λy c h=>by
  have h2:(cellsFrom 0 sc.names (b9 X.env sc.names [])).lookup y=some c:=by rw[eG hnc];exact h
  rcases iB I Bk (mem_of_lookup h2)with⟨_,z⟩|z
  ·exact absurd rfl (hnc _ z)
  ·exact z
 have EI:∀b:Addr,b∉(X.lam B sc ([x]++N2) q f cd s H).ex:=λb z=>absurd (show b∈([]:List Addr)from z) (by simp)
 have ok:(X.lam B sc ([x]++N2) q f cd s H).Ok:=by
  refine⟨I.ok.mod,hk,rfl,rfl,Nat.le_refl _,λy z c h1 h2=>I.ok.inj y z c (jd y c h1).2 (jd z c h2).2,λy hy=> ?_,λy c hy _=>absurd hy (by show ¬(false=true);decide),λ_=>hh,Around.frames_deeper hB,.inr ⟨rfl,rfl⟩,λb hb=>absurd hb (EI b),I.bs,Nat.le_trans I.ok.HX I.sz,λb _ _=>EI b,λb hb=>absurd hb (EI b),I.stack,I.sE⟩
  have hy':sc.names.lookup y=some .cell∨sc.names.lookup y=some .free:=hy
  rcases hy' with e|e
  ·exact absurd rfl (hnc _ (mem_of_lookup e))
  ·obtain⟨c,hc⟩:=jr I Bk y (mem_of_lookup e)
   have:=kO (n:=0) I Bk (mem_of_lookup e) hc
   rw[eG hnc]at this
   exact⟨c,this⟩
 refine⟨ok,rfl,.refl I.bare.bare,Un.kept keep,⟨_,hn,λi y w e1 e2 e3=> ?_⟩,λy c hc=> ?_,I.fresh,λy c hc=>I.lW y c (jd y c hc).2,λp hp=>absurd (show p∈([]:List (Addr×Obj))from hp) (by simp),I.hok.kept keep,?_⟩
 ·cases i with
  |zero=>
   have ey:x=y:=Option.some.inj e1
   have ew:v=w:=by
    have:some (some v)=some (some w):=e2
    cases this;rfl
   subst ey ew
   refine⟨u,rv,.inl ⟨hx,?_⟩⟩
   simp[List.lookup]
  |succ i=>
   have yK:N2[i]?=some y:=e1
   have Fv:σ[i]?=some (some w):=e2
   have hown:y∉([x]:List Str):=λhm=>by
    have nd:=Bk.Im
    rw[List.nodup_append]at nd
    exact nd.2.2 y hm y (List.mem_of_getElem? yK) rfl
   refine xh I Bk (n:=0) yK Fv (eG hnc).symm (λz hz=> .inr (cG Bk.nd hz)) (λhv=>let⟨k,e,_⟩:=nk hv;⟨k,e⟩) hown keep e3 (λk e=> ?_)
   obtain⟨k',e',hk'⟩:=nk e3
   have e4:sc.names.lookup y=some k':=e'
   rw[e]at e4;cases e4
   exact hk'
 ·obtain⟨w,z⟩:=I.cell y c (jd y c hc).2
  exact⟨w,z.keeps keep⟩
 ·show(some v::σ).length=([x]++N2).length
  rw[List.length_cons,I.len,<-Bk.len]
  rfl
theorem Ja{args:Arguments}{body:Expr}{tb:TE}{v:V}{u:Value}{Q:VK}{E:Value->Shared->Prop}(I:Inv X pins σ H s)(L:zd X args body sc H f)(Bk:rA sc.names X.env.scope.names [x] N2 X.N)
  (hk:sc.kind= .function)(hco:sc.isCoroutine=false)(hgen:sc.isGenerator=false)(hnc:∀y∈sc.names,y.2≠ .cell)(hx:sc.names.lookup x=some .local)
  (hbind:∀qual cl pm c ctv u,bindArgs (kla_fn "<lambda>" qual args body sc cl pm c ctv) ⟨[u],[]⟩=pure [(x,u)])(hB:B.frames=some X.stack)(hh:B.handled=none)(hroom:B.depth<recursionLimit)
  (hbody:∀q cd,PE (X.lam B sc ([x]++N2) q f cd s H) body tb)(rv:RelV v u)(h:tb (some v::σ) H Q):wpAny (model X.prog X.w) B (call (.ref f) [u]) (EP X pins σ Q) E s:=by
 obtain⟨qual,pm,ctv,c,oc,vs,q,t,e1,e2,e3,e4⟩:=L.ex
 obtain⟨g1,_⟩:s.heap.get? f=some _/\_:=I.hok f _ e1
 obtain⟨g2,_⟩:s.heap.get? c=some oc/\_:=I.hok c _ e2
 refine wpAny_call (AM (q:=q) hroom g1 rfl hco hgen rfl ⟨c,oc,vs,t,rfl,g2,e3,e4⟩ ?_)
 rw[hbind]
 refine wpAny_pure (wpAny_newFunctionEnv hnc (λy hy=> ?_) (λh1 hns RV=>⟨(I.Ce).fresh _ RV,?_⟩) hk)
 ·rw[List.mem_singleton.mp hy]
  exact hx
 have keep:∀b o,s.heap.get? b=some o->h1.get? b=some o:=λb o e=>RV.extBut b o (Nat.ne_of_lt (Heap.lt_size e)) (Heap.get?_push_of_some _ e)
 have J:=IZ (q:=q) (f:=f) (cd:= .ref c) (tk:=s.toks+1) I Bk hk hnc hx hB hh hns keep rv
 refine kla_codeExpr (wpAny_mono (hbody q (.ref c) [] _ _ H Q J h) (λu' s' hs=> ?_) λ_ _ z=>False.elim z)
 obtain⟨v',H',J',r',q'⟩:=hs
 have I':Inv X pins σ H' s':=I.ES (ch:=[]) J'.os J'.base J'.hok J'.bare λb z=>nomatch z
 exact⟨v',H',I',r',q'⟩
end
end L2
namespace L2
open PySem PySem.Spec PyProof.Rows PySem.Calls xy
theorem v8{α β:Type}{f:α->β}:∀{m n:List β},m.Perm n-> ∀l:List α,n=l.map f-> ∃l':List α,l'.Perm l/\m=l'.map f:=by
 intro m n p
 induction p with
 |nil=>
  intro l e
  exact⟨l,.refl _,e⟩
 |cons x _ ih=>
  intro l e
  cases l with
  |nil=>cases e
  |cons a l=>
   injection e with e1 e2
   obtain⟨l',p',e'⟩:=ih l e2
   exact⟨a::l',p'.cons a,by rw[List.map_cons,e1,e']⟩
 |swap x y r=>
  intro l e
  match l,e with
  |a::b::l,e=>
   injection e with e1 e2
   injection e2 with e2 e3
   exact⟨b::a::l,List.Perm.swap _ _ _,by simp[e1,e2,e3]⟩
 |trans _ _ ih1 ih2=>
  intro l e
  obtain⟨l2,p2,e2⟩:=ih2 l e
  obtain⟨l1,p1,e1⟩:=ih1 l2 e2
  exact⟨l1,p1.trans p2,e1⟩
inductive pT(kf:V->Int):List V->List Value->List Value->Prop
 |nil:pT kf [] [] []
 |cons{y:V}{u:Value}{ys:List V}{us ks:List Value}(t:Tok)(r:RelV y u):pT kf ys us ks->pT kf (y::ys) (u::us) (.int (kf y) t::ks)
theorem pT.out{kf:V->Int}{ys:List V}{us ks:List Value}(h:pT kf ys us ks):∃tr:List (Keyed×V),ks.zip us=tr.map Prod.fst/\ys=tr.map Prod.snd/\ ∀t∈tr,RelV t.2 t.1.2/\ ∃k,t.1.1= .int (kf t.2) k:=by
 induction h with
 |nil=>exact⟨[],rfl,rfl,λt h=>nomatch h⟩
 | @cons y u ys us ks t r _ ih=>
  obtain⟨tr,e1,e2,h⟩:=ih
  refine⟨((.int (kf y) t,u),y)::tr,by rw[List.zip_cons_cons,e1];rfl,by rw[e2];rfl,λz hz=> ?_⟩
  rcases List.mem_cons.mp hz with rfl|hz
  ·exact⟨r,t,rfl⟩
  ·exact h z hz
theorem pT.ints{kf:V->Int}{ys:List V}{us ks:List Value}(h:pT kf ys us ks):IntsAre ks (ys.map kf):=by
 induction h with
 |nil=>exact .nil
 |cons t r _ ih=>exact .cons _ t ih
theorem pT.snoc{kf:V->Int}{ys:List V}{us ks:List Value}{y:V}{u:Value}(h:pT kf ys us ks)(t:Tok)(r:RelV y u):pT kf (ys++ [y]) (us++ [u]) (ks++ [.int (kf y) t]):=by
 induction h with
 |nil=>exact .cons t r .nil
 |cons t' r' _ ih=>exact .cons t' r' ih
section
variable{prog:Program}{w:World}{A:Around}{E:Value->Shared->Prop}{s:Shared}
theorem DN:pO prog w A E s oneType' (λp=>numOf p.1) (λp=> ∃n t,p.1= .int n t):=
 xE λx y hx hy E' Q hq=>by
  obtain⟨n,t,e1⟩:=hx
  obtain⟨m,u,e2⟩:=hy
  rw[keyLt'_oneType,e1,e2]
  rw[e1,e2]at hq
  exact oneLt_int hq
end
section
variable{X:Cx}{pins:List (Addr×Obj)}{σ:St}{H:Hp}{s:Shared}{B:Around}{a:Addr}{f:Value}{kf:V->Int}{ys:List V}{us:List Value}
theorem Vals.at{ys:List V}{us:List Value}(r:Vals ys us){j:Nat}{x:Value}(h:us[j]?=some x):∃v,ys[j]?=some v/\RelV v x:=by
 induction r generalizing j with
 |nil=>cases h
 |cons a _ ih=>
  cases j with
  |zero=>cases h;exact⟨_,rfl,a⟩
  |succ j=>exact ih h
abbrev Cy(pins:List (Addr×Obj))(a:Addr)(e1:Nat)(kS:Addr)(ks:Array Value)(e:Nat):List (Addr×Obj):=pins++ [(a,seqObj "list" #[] e1),(kS,seqObj "list" ks e)]
theorem xF{a:Addr}{o:Obj}(fa:fV X pins H a)(h:s.heap.get? a=some o)(hd:∀v,o.data≠ .cell v):s.heap.get? a=some o/\H a=none/\a≠X.env.locals/\a∉X.fs/\ ∀v,o.data≠ .cell v:=⟨h,fa.1,fa.2.1,fa.2.2.1,hd⟩
theorem v9{H':Hp}(fa:fV X pins H a)(h:H' a=none):fV X pins H' a:=⟨h,fa.2⟩
end
theorem Gv{K:PySem.W.Frag}{H H':Hp}{a:Addr}{xs:List V}(h:aP K H a xs)(s:ay H H'):aP K H' a xs:=by
 rcases h with h|h
 ·rcases h with h|⟨o,h⟩
  ·exact .inl (.inl (s _ _ h))
  ·exact .inl (.inr ⟨o,s _ _ h⟩)
 ·exact .inr h
def Oa(sc:Scope)(ks:List (Str×NameKind))(own N2 N:List Str):Bool:=
 Ds sc.names ks own N2 N && (sc.kind== .function) && !sc.isCoroutine && !sc.isGenerator && sc.names.all (λy=>y.2 != .cell) && own.all (λx=>sc.names.lookup x==some NameKind.local)
section
variable{X:Cx}{P:Addr}{te tb:TE}{e body:Expr}{args:Arguments}{sc:Scope}{x:Str}{N2:List Str}{p pos Gw kpos:Pos}
theorem eU.xG{k:Nat}{A:Around}(r:eU k A):A.units+70<cLine:=by have:=r.un;omega
theorem Gx{k:Nat}{A:Around}{e:Env}(r:eU (k+3) A):eU k (A.in1.in1.deeper e):=r.in1.in1.deeper e
end
end L2
namespace L2
open PySem PySem.Spec PyProof.Rows
section
variable{X:Cx}
end
def gZ(H:Hp)(b:Addr):List Int:=match H b with
 |some (.lst xs)=>xs.map λv=>match v with| .int i=>i|_=>0
 |_=>[]
def DO(H:Hp)(b:Addr):Prop:=H b=some (.lst [.int (bL (gZ H b) 0),.int (bL (gZ H b) 1),.int (bL (gZ H b) 2)])/\(gZ H b).length=3
theorem JZ{H:Hp}{b:Addr}{x y z:Int}(e:H b=some (.lst [.int x,.int y,.int z])):DO H b/\gZ H b=[x,y,z]:=by
 have h:gZ H b=[x,y,z]:=by
  unfold gZ
  rw[e]
  rfl
 refine⟨⟨?_,by rw[h];rfl⟩,h⟩
 rw[h,e]
 rfl
theorem DO.keep{H H':Hp}{b:Addr}(h:DO H b)(s:∀o,H b=some o->H' b=some o):DO H' b/\gZ H' b=gZ H b:=by
 have e:gZ H' b=gZ H b:=by
  have e1:=s _ h.1
  have e2:=h.1
  unfold gZ at *
  rw[e1]
  conv=>rhs;rw[e2]
 exact⟨⟨by rw[e];exact s _ h.1,by rw[e];exact h.2⟩,e⟩
theorem Ka{r:List Int}(h:r.length=3):r=[bL r 0,bL r 1,bL r 2]:=by
 match r,h with
 | [a,b,c],_=>rfl
def eX(H:Hp)(as:List Addr):Prop:=∀b∈as,DO H b
def rws(H:Hp)(as:List Addr):List (List Int):=as.map (gZ H)
theorem eX.keep{H H':Hp}{as:List Addr}(h:eX H as)(s:∀b∈as,∀o,H b=some o->H' b=some o):eX H' as/\rws H' as=rws H as:=
 ⟨λb hb=>((h b hb).keep (s b hb)).1,List.map_congr_left λb hb=>((h b hb).keep (s b hb)).2⟩
theorem eX.same{H H':Hp}{as:List Addr}(h:eX H as)(s:ay H H'):eX H' as/\rws H' as=rws H as:=h.keep λb _ o e=>s b o e
theorem AN(H:Hp)(as bs:List Addr):rws H (as++bs)=rws H as++rws H bs:=List.map_append
theorem DP{zs:List V}{as:List Addr}(p:zs.Perm (as.map V.ref)):∃bs:List Addr,zs=bs.map V.ref/\bs.Perm as:=by
 obtain⟨l,p',e⟩:=v8 p as rfl
 exact⟨l,e,p'⟩
theorem ze{H:Hp}{b l:Addr}{as:List Addr}(h:DO H b)(e:H l=some (.lst (as.map V.ref))):b≠l:=by
 rintro rfl
 have e1:=h.1
 rw[e]at e1
 cases as with
 |nil=>cases e1
 |cons a as=>cases e1
theorem Jb{A B:List (List Int)}(ca:cB A)(cb:cB B)(h:∀i j,i<3->j<3->ent A i j=ent B i j):A=B:=by
 rw[xq ca,xq cb]
 exact g7 h
theorem Gy{J:It}{H1:Hp}{xs:List V}{σ:St}{te:TE}{Q:VK}(jw:JW J H1 xs)(hz:xs.length<=sizeLine){D:Addr}(hD:H1 D=none)(R:Nat->V->Hp->Prop)
  (mono:∀j v H H',R j v H->(∀b o,b≠D->H b=some o->H' b=some o) ->R j v H')
  (hs:∀j x,xs[j]?=some x-> ∀H' (Q':VK),ay H1 H'->(∃o,H' D=some o) ->(∀v H2,ay H' H2->R j v H2->Q' v H2) ->te (some x::σ) H' Q')
  (hq:∀vs H',ay H1 H'->vs.length=xs.length->(∀j v,vs[j]?=some v->R j v H') ->H' D=some (.lst vs) ->Q (.ref D) H'):ju 1 (dJ 0) te σ J H1 D Q:=by
 refine pH jw hz hD (λpre acc H'=> ∀j v,acc[j]?=some v->R j v H') (λj v e=>by simp at e) (λpre x post acc H' Q' e hl sm eD p k=> ?_) (λacc H' hl sm eD p=>hq acc H' sm hl p eD)
 refine hs pre.length x (by rw[e];simp) H' Q' sm ⟨_,eD⟩ λv H2 s2 r=>k v H2 s2 λj u eu=> ?_
 have off:∀b o,b≠D->H2 b=some o->upd H2 D (.lst (acc++ [v])) b=some o:=λb o n h=>by rw[aH n];exact h
 by_cases c:j<acc.length
 ·rw[List.getElem?_append_left c]at eu
  exact mono j u H' _ (p j u eu) λb o n h=>off b o n (s2 b o h)
 ·have:j=acc.length:=by
   have:=(List.getElem?_eq_some_iff.mp eu).1
   rw[List.length_append]at this
   simp at this
   omega
  subst this
  rw[List.getElem?_append_right (Nat.le_refl _)]at eu
  simp at eu
  subst eu
  rw[hl]
  exact mono _ v H2 _ r off
theorem DQ{K:PySem.W.Frag}{J:It}{H1:Hp}{xs:List V}{σ:St}{te:TE}{Q:VK}(jw:JW J H1 xs)(hz:xs.length<=sizeLine){D:Addr}(hD:H1 D=none)(us vs:Nat->V)(items:∀j x,xs[j]?=some x-> ∃p,x= .ref p/\uJ K H1 p [us j,vs j])(R:Nat->V->Hp->Prop)
  (mono:∀j v H H',R j v H->(∀b o,b≠D->H b=some o->H' b=some o) ->R j v H')
  (hs:∀j,j<xs.length-> ∀H' (Q':VK),ay H1 H'->(∃o,H' D=some o) ->(∀v H2,ay H' H2->R j v H2->Q' v H2) ->te (some (us j)::some (vs j)::σ) H' Q')
  (hq:∀ws H',ay H1 H'->ws.length=xs.length->(∀j v,ws[j]?=some v->R j v H') ->H' D=some (.lst ws) ->Q (.ref D) H'):ju 2 (g2 K) te σ J H1 D Q:=by
 refine⟨λi m acc σ' H'=>m=xs.length-i/\i<=xs.length/\acc.length=i/\(∃o o',σ'=o::o'::σ)/\ay H1 H'/\H' D=some (.lst acc)/\ ∀j v,acc[j]?=some v->R j v H',⟨xs.length,rfl,Nat.zero_le _,rfl,⟨none,none,rfl⟩,ay.up hD,au,λj v e=>by simp at e⟩,?_⟩
 rintro i m acc σ' H' ⟨rfl,hi,hl,⟨o,o',rfl⟩,sm,eD,p⟩
 by_cases hlt:i<xs.length
 ·refine .inr ⟨jw.go i H' sm hlt,by omega,λx H2 y=> ?_⟩
  obtain⟨rfl,ex⟩:=jw.Ae i H' x H2 sm hlt y
  obtain⟨T,rfl,hT⟩:=items i x ex
  refine⟨T,[us i,vs i],rfl,sm.TX hT,rfl,us i,[vs i],rfl,vs i,[],rfl,rfl,?_⟩
  show te (some (us i)::some (vs i)::σ) _ _
  refine hs i hlt H2 _ sm ⟨_,eD⟩ λv H4 s4 r=> ?_
  refine⟨s4 _ _ eD,xs.length- (i+1),by omega,rfl,hlt,by simp[hl],⟨_,_,rfl⟩,(sm.trans s4).upd hD,au,λj u eu=> ?_⟩
  have off:∀b o,b≠D->H4 b=some o->upd H4 D (.lst (acc++ [v])) b=some o:=λb o n h=>by rw[aH n];exact h
  by_cases c:j<acc.length
  ·rw[List.getElem?_append_left c]at eu
   exact mono j u H2 _ (p j u eu) λb o n h=>off b o n (s4 b o h)
  ·have:j=acc.length:=by
    have:=(List.getElem?_eq_some_iff.mp eu).1
    rw[List.length_append]at this
    simp at this
    omega
   subst this
   rw[List.getElem?_append_right (Nat.le_refl _)]at eu
   simp at eu
   subst eu
   rw[hl]
   exact mono _ v H4 _ r off
 ·have e:i=xs.length:=by omega
  subst e
  exact .inl ⟨jw.stop H' sm,eD,hq acc H' sm hl p eD⟩
def Gz(m:List (List Int))(i:Nat)(σ:St)(H:Hp):Nat:=match σ[i]? with
 |some (some (.ref a))=>match H a with
  |some (.lst [.int x0,.int x1,.int x2])=>(av m (bL [x0,x1,x2]) (bL [x0,x1,x2])).toNat
  |_=>0
 |_=>0
theorem qm{m:List (List Int)}{i:Nat}{σ:St}{H:Hp}{a:Addr}{x:Nat->Int}(hs:σ[i]?=some (some (.ref a)))(h:bf H a x):Gz m i σ H=(av m x x).toNat:=by
 unfold Gz
 have h:H a=some (.lst [.int (x 0),.int (x 1),.int (x 2)]):=h
 rw[hs]
 simp only[h]
 rw[f7 (m:=m) (x:=bL [x 0,x 1,x 2]) (y:=bL [x 0,x 1,x 2]) (x':=x) (y':=x) (λi hi=>by rcases bC hi with rfl|rfl|rfl<;>rfl) (λi hi=>by rcases bC hi with rfl|rfl|rfl<;>rfl)]
theorem jA(a:Int){b:Int}(h:0<b):(a/b).natAbs<=a.natAbs:=by
 have e:=Int.emod_add_mul_ediv a b
 have l:=Int.emod_nonneg a (show b≠0 by omega)
 have u:=Int.emod_lt_of_pos a h
 generalize a%b=r at e l u
 generalize a/b=q at e ⊢
 rcases Int.lt_or_le q 0 with z|z
 ·have:b*q<=1*q:=by
   have:=Int.mul_le_mul_of_nonpos_right (show(1:Int)<=b by omega) (Int.le_of_lt z)
   omega
  by_cases c:q= -1
  ·subst c
   omega
  ·have:b*(q+1)<=1*(q+1):=Int.mul_le_mul_of_nonpos_right (show(1:Int)<=b by omega) (by omega)
   have e2:b*(q+1)=b*q+b:=by grind
   omega
 ·have:1*q<=b*q:=Int.mul_le_mul_of_nonneg_right (show(1:Int)<=b by omega) z
  omega
abbrev aS(m:List (List Int))(x:Nat->Int):Int:=av m x x
theorem Jc{m:List (List Int)}(P:AB m){x:Nat->Int}(h:¬(x 0=0/\x 1=0/\x 2=0)):0<aS m x:=P x h
theorem dI{m:List (List Int)}(P:AB m)(x:Nat->Int):0<=aS m x:=by
 by_cases h:x 0=0/\x 1=0/\x 2=0
 ·have:aS m x=0:=by
   show av m x x=0
   rw[bh,h.1,h.2.1,h.2.2]
   grind
  omega
 ·exact Int.le_of_lt (P x h)
def iD(y:Nat->Int)(q:Int)(x:Nat->Int):Nat->Int:=λi=>y i-q*x i
theorem wc{m:List (List Int)}(y:Nat->Int)(q:Int)(x z:Nat->Int):av m (iD y q x) z=av m y z-q*av m x z:=by
 unfold iD
 rw[bh,bh,bh]
 grind
theorem gn{m:List (List Int)}(ev:cj m)(y:Nat->Int)(q:Int)(x z:Nat->Int):av m z (iD y q x)=av m z y-q*av m z x:=by
 rw[kq ev,wc,kq ev y,kq ev x]
theorem zf{m:List (List Int)}(ev:cj m)(y:Nat->Int)(q:Int)(x:Nat->Int):aS m (iD y q x)=aS m y-2*q*av m x y+q*q*aS m x:=by
 show av m _ _=_
 rw[wc,gn ev,gn ev,kq ev y x]
 grind
theorem qo{P A:Int}(h:0<A): -A<=2*(P- (2*P+A)/(2*A)*A)/\2*(P- (2*P+A)/(2*A)*A)<=A:=by
 have e:=Int.emod_add_mul_ediv (2*P+A) (2*A)
 have l:=Int.emod_nonneg (2*P+A) (show 2*A≠0 by omega)
 have u:=Int.emod_lt_of_pos (2*P+A) (show 0<2*A by omega)
 generalize(2*P+A)/(2*A)=q at e ⊢
 generalize(2*P+A)%(2*A)=r at e l u
 have e2:2*A*q=2*(q*A):=by grind
 rw[e2]at e
 omega
theorem Cz{A P q N:Int}(hA:0<=A)(h1: -A<=2*(P-q*A))(h2:2*(P-q*A)<=A):N-2*q*P+q*q*A<=N:=by
 obtain⟨e,he⟩:∃e,P-q*A=e:=⟨_,rfl⟩
 rw[he]at h1 h2
 have hP:P=q*A+e:=by omega
 rw[hP]
 have key:N-2*q*(q*A+e)+q*q*A=N- (q*q*A+q*(2*e)):=by grind
 rw[key]
 suffices 0<=q*q*A+q*(2*e)by omega
 rcases Int.lt_or_le 0 q with hq|hq
 ·have a1:q*(-A)<=q*(2*e):=Int.mul_le_mul_of_nonneg_left (by omega) (by omega)
  have a2:q*A<=q*(q*A):=Int.mul_le_mul_of_nonneg_left (by
   have:1*A<=q*A:=Int.mul_le_mul_of_nonneg_right (by omega) hA
   omega) (by omega)
  have e1:q*(-A)= -(q*A):=by grind
  have e2:q*(q*A)=q*q*A:=by grind
  omega
 ·have a1:(-q)*(2*e)<=(-q)*A:=Int.mul_le_mul_of_nonneg_left (by omega) (by omega)
  have e3:(-q)*(2*e)= -(q*(2*e)):=by grind
  rcases Int.lt_or_le q 0 with h|h
  ·have a2:(-q)*A<=(-q)*((-q)*A):=Int.mul_le_mul_of_nonneg_left (by
    have:1*A<=(-q)*A:=Int.mul_le_mul_of_nonneg_right (by omega) hA
    omega) (by omega)
   have e2:(-q)*((-q)*A)=q*q*A:=by grind
   omega
  ·have:q=0:=by omega
   subst this
   simp
def mE(s:Nat->Nat)(m:List (List Int)):List (List Int):=mk3 λi j=>ent m (s i) (s j)
theorem nX{m:List (List Int)}(hS:cQ m=m)(ab:b7 m=true)(x:Nat->Int):aA m*(x 2*x 2)<=fZ m 2 2*aS m x:=by
 obtain⟨c1,c2,c3⟩:=gv ab
 have e:=Gh hS x
 have hm:fZ m 2 2=ent m 0 0*ent m 1 1-ent m 0 1*ent m 0 1:=by
  show ent m 0 0*ent m 1 1-ent m 0 1*ent m 1 0=_
  rw[iz hS (i:=0) (j:=1) (by decide) (by decide)]
 rw[<-hm]at e
 have q1:=Int.mul_nonneg (show 0<=fZ m 2 2 by omega) (aZ (ent m 0 0*x 0+ent m 0 1*x 1+ent m 0 2*x 2))
 have q2:=aZ (fZ m 2 2*x 1+(ent m 0 0*ent m 1 2-ent m 0 1*ent m 0 2)*x 2)
 have e2:ent m 0 0*(aA m*(x 2*x 2))<=ent m 0 0*(fZ m 2 2*aS m x):=by
  have a1:ent m 0 0*(aA m*(x 2*x 2))=ent m 0 0*aA m*(x 2*x 2):=(Int.mul_assoc ..).symm
  have a2:ent m 0 0*(fZ m 2 2*aS m x)=ent m 0 0*fZ m 2 2*av m x x:=(Int.mul_assoc ..).symm
  omega
 exact Int.le_of_mul_le_mul_left e2 c1
theorem we{m:List (List Int)}(ev:cj m)(c:cB m)(ab:b7 m=true)(s:Nat->Nat)(hs:(s 0=2/\s 1=1/\s 2=0)∨(s 0=0/\s 1=2/\s 2=1))(x:Nat->Int):
  cQ (mE s m)=mE s m/\b7 (mE s m)=true/\aA (mE s m)=aA m/\aS (mE s m) (λi=>x (s i))=aS m x/\fZ (mE s m) 2 2=fZ m (s 2) (s 2):=by
 have hS:=d9 ev c
 have P:=g8 hS ab
 have Jd:ent m 1 0=ent m 0 1:=ev.sym.1
 have Je:ent m 2 0=ent m 0 2:=ev.sym.2.1
 have Jf:ent m 2 1=ent m 1 2:=ev.sym.2.2
 have en:∀i j,i<3->j<3->ent (mE s m) i j=ent m (s i) (s j):=λi j hi hj=>bE _ hi hj
 have hN:∀y:Nat->Int,av (mE s m) (λi=>y (s i)) (λi=>y (s i))=av m y y:=λy=>by
  rw[bh,bh,en 0 0 (by decide) (by decide),en 0 1 (by decide) (by decide),en 0 2 (by decide) (by decide),en 1 0 (by decide) (by decide),en 1 1 (by decide) (by decide),en 1 2 (by decide) (by decide),en 2 0 (by decide) (by decide),en 2 1 (by decide) (by decide),en 2 2 (by decide) (by decide)]
  rcases hs with⟨h0,h1,h2⟩|⟨h0,h1,h2⟩<;>rw[h0,h1,h2]<;>grind
 have ov:cQ (mE s m)=mE s m:=Jb (cH _) (cH _) λi j hi hj=>by
  rw[aV _ hi hj,en j i hj hi,en i j hi hj]
  rcases hs with⟨h0,h1,h2⟩|⟨h0,h1,h2⟩<;>rcases bC hi with rfl|rfl|rfl<;>rcases bC hj with rfl|rfl|rfl<;>simp only[h0,h1,h2,Jd,Je,Jf]
 have Pp:AB (mE s m):=λy n0=>by
  have e:=hN (λi=>y (s i))
  have back:∀i,i<3->s (s i)=i:=λi hi=>by
   rcases hs with⟨h0,h1,h2⟩|⟨h0,h1,h2⟩<;>rcases bC hi with rfl|rfl|rfl<;>simp only[h0,h1,h2]
  have e2:av (mE s m) y y=av (mE s m) (λi=>(λi=>y (s i)) (s i)) (λi=>(λi=>y (s i)) (s i)):=f7 (λi hi=>by show y i=y (s (s i));rw[back i hi]) (λi hi=>by show y i=y (s (s i));rw[back i hi])
  rw[e2,e]
  refine P _ λz=>n0 ?_
  rcases hs with⟨h0,h1,h2⟩|⟨h0,h1,h2⟩<;>rw[h0,h1,h2]at z<;>exact⟨by omega,by omega,by omega⟩
 refine⟨ov,vX ov Pp,?_,hN x,?_⟩
 ·rw[cU,cU,en 0 0 (by decide) (by decide),en 0 1 (by decide) (by decide),en 0 2 (by decide) (by decide),en 1 0 (by decide) (by decide),en 1 1 (by decide) (by decide),en 1 2 (by decide) (by decide),en 2 0 (by decide) (by decide),en 2 1 (by decide) (by decide),en 2 2 (by decide) (by decide)]
  rcases hs with⟨h0,h1,h2⟩|⟨h0,h1,h2⟩<;>rw[h0,h1,h2]<;>grind
 ·show ent (mE s m) 0 0*ent (mE s m) 1 1-ent (mE s m) 0 1*ent (mE s m) 1 0=_
  rw[en 0 0 (by decide) (by decide),en 0 1 (by decide) (by decide),en 1 0 (by decide) (by decide),en 1 1 (by decide) (by decide)]
  unfold fZ
  rcases hs with⟨h0,h1,h2⟩|⟨h0,h1,h2⟩<;>rw[h0,h1,h2]<;>simp only[Nat.reduceAdd,Nat.reduceMod]<;>grind
theorem ku{m:List (List Int)}(ev:cj m)(c:cB m)(ab:b7 m=true)(x:Nat->Int){i:Nat}(hi:i<3):aA m*(x i*x i)<=fZ m i i*aS m x:=by
 rcases bC hi with rfl|rfl|rfl
 ·obtain⟨h1,h2,h3,h4,h5⟩:=we ev c ab (λi=>2-i) (.inl ⟨rfl,rfl,rfl⟩) x
  have:=nX h1 h2 (λi=>x (2-i))
  rw[h3,h4,h5]at this
  exact this
 ·obtain⟨h1,h2,h3,h4,h5⟩:=we ev c ab (λi=>if i=0 then 0 else 3-i) (.inr ⟨rfl,rfl,rfl⟩) x
  have:=nX h1 h2 (λi=>x (if i=0 then 0 else 3-i))
  rw[h3,h4,h5]at this
  exact this
 ·exact nX (d9 ev c) ab x
theorem mF{m:List (List Int)}(ev:cj m)(c:cB m)(ab:b7 m=true)(hB:Bd 440 m){x:Nat->Int}(hx:(aS m x).natAbs<2^450){i:Nat}(hi:i<3):(x i).natAbs<2^666:=by
 have e:=ku ev c ab x hi
 have d1:=(gv ab).2.2
 have b1:=Cr hB i i
 have e2:x i*x i<=fZ m i i*aS m x:=by
  refine Int.le_trans ?_ e
  have:=Int.mul_le_mul_of_nonneg_right (show(1:Int)<=aA m by omega) (aZ (x i))
  omega
 have b2:(fZ m i i*aS m x).natAbs<2^(881+450):=bT b1 hx
 have b3:(x i*x i).natAbs<2^1332:=by
  have:=aZ (x i)
  refine Nat.lt_of_le_of_lt ?_ (aG b2 (show 881+450<=1332 by decide))
  omega
 rw[Int.natAbs_mul]at b3
 refine Nat.lt_of_not_le λz=> ?_
 have:=Nat.mul_le_mul z z
 rw[<-Nat.pow_add]at this
 omega
def eK(x y t:Nat->Int):List (List Int):=mk3 λi j=>if i=0 then x j else if i=1 then y j else t j
def bQ(x y t:Nat->Int):Int:=x 0*(y 1*t 2-y 2*t 1)+x 1*(y 2*t 0-y 0*t 2)+x 2*(y 0*t 1-y 1*t 0)
theorem DR(x y t:Nat->Int):aA (eK x y t)=bQ x y t:=by
 rw[cU]
 show x 0*(y 1*t 2-y 2*t 1)+x 1*(y 2*t 0-y 0*t 2)+x 2*(y 0*t 1-y 1*t 0)=_
 rfl
theorem DS(x y t:Nat->Int):bQ y x t= -bQ x y t:=by unfold bQ;grind
theorem AO(x y t:Nat->Int)(q:Int):bQ x (iD y q x) t=bQ x y t:=by unfold bQ iD;grind
theorem nY(x y t:Nat->Int)(i j:Int):bQ x y (iD (iD t i x) j y)=bQ x y t:=by unfold bQ iD;grind
theorem AQ{x:Nat->Int}(h:x 0=0/\x 1=0/\x 2=0)(y t:Nat->Int):bQ x y t=0:=by unfold bQ;rw[h.1,h.2.1,h.2.2];grind
structure gp(m:List (List Int))(x y x' y':Nat->Int):Prop where
 det:∃e:Int,(e=1∨e= -1)/\ ∀t,bQ x' y' t=e*bQ x y t
 sum:aS m x'+aS m y'<=aS m x+aS m y
theorem gp.refl(m:List (List Int))(x y:Nat->Int):gp m x y x y:=⟨⟨1,.inl rfl,λt=>by rw[Int.one_mul]⟩,Int.le_refl _⟩
theorem gp.trans{m:List (List Int)}{x y x1 y1 x2 y2:Nat->Int}(a:gp m x y x1 y1)(b:gp m x1 y1 x2 y2):gp m x y x2 y2:=by
 obtain⟨e,he,h⟩:=a.det
 obtain⟨f,hf,k⟩:=b.det
 refine⟨⟨f*e,?_,λt=>by rw[k,h,Int.mul_assoc]⟩,Int.le_trans b.sum a.sum⟩
 rcases he with rfl|rfl<;>rcases hf with rfl|rfl<;>simp
theorem gp.swap{m:List (List Int)}{x y x' y':Nat->Int}(a:gp m x y x' y'):gp m x y y' x':=by
 obtain⟨e,he,h⟩:=a.det
 refine⟨⟨-e,by omega,λt=>by rw[DS,h];grind⟩,by have:=a.sum;omega⟩
theorem gp.less{m:List (List Int)}(ev:cj m){x y:Nat->Int}(h:0<aS m x):gp m x y x (iD y ((2*av m x y+aS m x)/(2*aS m x)) x):=by
 obtain⟨h1,h2⟩:=qo (P:=av m x y) h
 refine⟨⟨1,.inl rfl,λt=>by rw[AO,Int.one_mul]⟩,?_⟩
 rw[zf ev]
 have:=Cz (N:=aS m y) (Int.le_of_lt h) h1 h2
 omega
theorem GA{m:List (List Int)}(ev:cj m){x y:Nat->Int}(h:0<aS m x):aS m (iD y ((2*av m x y+aS m x)/(2*aS m x)) x)<=aS m y:=by
 obtain⟨h1,h2⟩:=qo (P:=av m x y) h
 rw[zf ev]
 exact Cz (N:=aS m y) (Int.le_of_lt h) h1 h2
theorem DT{m:List (List Int)}(ev:cj m){x y:Nat->Int}(h:0<aS m x): -(aS m x)<=2*av m x (iD y ((2*av m x y+aS m x)/(2*aS m x)) x)/\2*av m x (iD y ((2*av m x y+aS m x)/(2*aS m x)) x)<=aS m x:=by
 rw[gn ev]
 exact qo h
structure mG(m:List (List Int))(x y:Nat->Int):Prop where
 pos:0<aS m x
 le:aS m x<=aS m y
 lo: -(aS m x)<=2*av m x y
 hi:2*av m x y<=aS m x
theorem mH{a b:Int}(h1: -b<=a)(h2:a<=b):a*a<=b*b:=by
 have hb:0<=b:=by omega
 rcases Int.le_total 0 a with h|h
 ·exact Int.mul_le_mul h2 h2 h hb
 ·have:(-a)*(-a)<=b*b:=Int.mul_le_mul (by omega) (by omega) (by omega) hb
  have e:(-a)*(-a)=a*a:=by grind
  omega
theorem mG.GB{m:List (List Int)}{x y:Nat->Int}(h:mG m x y):3*(aS m x*aS m y)<=4*(aS m x*aS m y-av m x y*av m x y)/\0<aS m x*aS m y-av m x y*av m x y:=by
 have s:=mH h.lo h.hi
 have l:aS m x*aS m x<=aS m x*aS m y:=Int.mul_le_mul_of_nonneg_left h.le (Int.le_of_lt h.pos)
 have p:=Int.mul_pos h.pos h.pos
 have e:2*av m x y*(2*av m x y)=4*(av m x y*av m x y):=by grind
 omega
theorem Qs{m:List (List Int)}(ev:cj m)(x y t:Nat->Int):
  (aS m x*aS m y-av m x y*av m x y)*aS m t=aA m*(bQ x y t*bQ x y t)+(aS m x*(av m y t*av m y t) -2*(av m x y*(av m x t*av m y t))+aS m y*(av m x t*av m x t)):=by
 have Jd:ent m 1 0=ent m 0 1:=ev.sym.1
 have Je:ent m 2 0=ent m 0 2:=ev.sym.2.1
 have Jf:ent m 2 1=ent m 1 2:=ev.sym.2.2
 show(av m x x*av m y y-_)*av m t t=_*_+(av m x x*_-_+av m y y*_)
 rw[cU]
 unfold bQ
 simp only[bh,Jd,Je,Jf]
 generalize ent m 0 0=a,ent m 0 1=p,ent m 0 2=q,ent m 1 1=b,ent m 1 2=r,ent m 2 2=c
 generalize x 0=x0,x 1=x1,x 2=x2,y 0=y0,y 1=y1,y 2=y2,t 0=t0,t 1=t1,t 2=t2
 grind
def bU(m:List (List Int))(x y t:Nat->Int):Int:=aS m y*av m x t-av m x y*av m y t
def bV(m:List (List Int))(x y t:Nat->Int):Int:=aS m x*av m y t-av m x y*av m x t
abbrev aq(m:List (List Int))(x y:Nat->Int):Int:=aS m x*aS m y-av m x y*av m x y
abbrev dw(t:Nat->Int)(i:Int)(x:Nat->Int)(j:Int)(y:Nat->Int):Nat->Int:=iD (iD t i x) j y
theorem wg{m:List (List Int)}(ev:cj m)(x y t:Nat->Int)(i j:Int):bU m x y (dw t i x j y)=bU m x y t-i*aq m x y/\bV m x y (dw t i x j y)=bV m x y t-j*aq m x y:=by
 unfold bU bV dw aq
 rw[gn ev,gn ev,gn ev,gn ev,kq ev y x]
 constructor<;>grind
theorem wj{m:List (List Int)}(ev:cj m)(x y t:Nat->Int):aq m x y*(aq m x y*aS m t)=aq m x y*(aA m*(bQ x y t*bQ x y t))+(aS m x*(bU m x y t*bU m x y t)+2*(av m x y*(bU m x y t*bV m x y t))+aS m y*(bV m x y t*bV m x y t)):=by
 have g:=Qs ev x y t
 show aq m x y*((aS m x*aS m y-av m x y*av m x y)*aS m t)=_
 rw[g]
 unfold bU bV aq
 generalize aS m x=A,aS m y=B,av m x y=P,av m x t=u,av m y t=v
 generalize aA m*(bQ x y t*bQ x y t)=D
 grind
theorem DU(m:List (List Int))(x y t:Nat->Int):aq m x y*av m x t=aS m x*bU m x y t+av m x y*bV m x y t/\aq m x y*av m y t=av m x y*bU m x y t+aS m y*bV m x y t:=by
 unfold bU bV aq
 constructor<;>grind
structure Drawn(m:List (List Int))(x y t t':Nat->Int):Prop where
 det:bQ x y t'=bQ x y t
 le:aS m t'<=aS m t∨True
 s: -(aq m x y)<=bU m x y t'/\bU m x y t'<=aq m x y
 r: -(aq m x y)<=bV m x y t'/\bV m x y t'<=aq m x y
 few:4*(aq m x y*aS m t')<=4*(aA m*(bQ x y t*bQ x y t))+3*(aq m x y*aS m y)
theorem CA{A B P s r d:Int}(hA:0<=A)(hB:0<=B)(h1: -A<=2*P)(h2:2*P<=A)(s1: -d<=2*s)(s2:2*s<=d)(r1: -d<=2*r)(r2:2*r<=d):4*(A*(s*s)+2*(P*(s*r))+B*(r*r))<=(2*A+B)*(d*d):=by
 have hd:0<=d:=by omega
 have ss:=mH s1 s2
 have rr:=mH r1 r2
 have e1:2*s*(2*s)=4*(s*s):=by grind
 have e2:2*r*(2*r)=4*(r*r):=by grind
 rw[e1]at ss
 rw[e2]at rr
 have sr:2*P*(2*s*(2*r))<=A*(d*d):=by
  have ab:∀a b c e:Int,-c<=a->a<=c-> -e<=b->b<=e->a*b<=c*e:=λa b c e h1 h2 h3 h4=>by
   have k1:=Int.mul_nonneg (show 0<=c-a by omega) (show 0<=e+b by omega)
   have k2:=Int.mul_nonneg (show 0<=c+a by omega) (show 0<=e-b by omega)
   have e3:(c-a)*(e+b)+(c+a)*(e-b)=2*(c*e) -2*(a*b):=by grind
   omega
  have My:∀a b c e:Int,-c<=a->a<=c-> -e<=b->b<=e-> -(c*e)<=a*b:=λa b c e h1 h2 h3 h4=>by
   have:=ab (-a) b c e (by omega) (by omega) h3 h4
   have e3: -a*b= -(a*b):=by grind
   omega
  exact ab _ _ _ _ h1 h2 (My _ _ _ _ s1 s2 r1 r2) (ab _ _ _ _ s1 s2 r1 r2)
 have f1:=Int.mul_le_mul_of_nonneg_left ss hA
 have f2:=Int.mul_le_mul_of_nonneg_left rr hB
 have e3:4*(A*(s*s)+2*(P*(s*r))+B*(r*r))=A*(4*(s*s))+2*P*(2*s*(2*r))+B*(4*(r*r)):=by grind
 have e4:(2*A+B)*(d*d)=A*(d*d)+A*(d*d)+B*(d*d):=by grind
 omega
theorem GC{m:List (List Int)}(ev:cj m){x y t:Nat->Int}(h:mG m x y){i j:Int}(i0:i=bU m x y t/aq m x y∨i=bU m x y t/aq m x y+1)(j0:j=bV m x y t/aq m x y∨j=bV m x y t/aq m x y+1)
  (least:∀i' j',(i'=bU m x y t/aq m x y∨i'=bU m x y t/aq m x y+1) ->(j'=bV m x y t/aq m x y∨j'=bV m x y t/aq m x y+1) ->aS m (dw t i x j y)<=aS m (dw t i' x j' y)):Drawn m x y t (dw t i x j y):=by
 obtain⟨_,ap⟩:=h.GB
 have fl:=wg ev x y t
 have em:=λz:Int=>Int.emod_add_mul_ediv z (aq m x y)
 have lo:=λz:Int=>Int.emod_nonneg z (show aq m x y≠0 by show aS m x*aS m y-av m x y*av m x y≠0;omega)
 have up:=λz:Int=>Int.emod_lt_of_pos z (show 0<aq m x y from ap)
 have DW:0<aq m x y:=ap
 have near:∀{z k:Int},(k=z/aq m x y∨k=z/aq m x y+1) -> -(aq m x y)<=z-k*aq m x y/\z-k*aq m x y<=aq m x y:=λ {z k} hk=>by
  have e:=em z
  have l:=lo z
  have u:=up z
  rcases hk with rfl|rfl
  ·generalize aq m x y=d at e l u ⊢
   have e2:z/d*d=d*(z/d):=Int.mul_comm ..
   omega
  ·generalize aq m x y=d at e l u ⊢
   have e2:(z/d+1)*d=d*(z/d)+d:=by rw[Int.add_mul,Int.one_mul,Int.mul_comm]
   omega
 have half:∀z:Int,∃k,(k=z/aq m x y∨k=z/aq m x y+1)/\ -(aq m x y)<=2*(z-k*aq m x y)/\2*(z-k*aq m x y)<=aq m x y:=λz=>by
  have e:=em z
  have l:=lo z
  have u:=up z
  by_cases c:2*(z%aq m x y)<=aq m x y
  ·refine⟨_,.inl rfl,?_⟩
   generalize aq m x y=d at e l u c ⊢
   have e2:z/d*d=d*(z/d):=Int.mul_comm ..
   omega
  ·refine⟨_,.inr rfl,?_⟩
   generalize aq m x y=d at e l u c ⊢
   have e2:(z/d+1)*d=d*(z/d)+d:=by rw[Int.add_mul,Int.one_mul,Int.mul_comm]
   omega
 have hn:=near i0
 have hr:=near j0
 refine⟨nY _ _ _ _ _,.inr trivial,by rw[(fl i j).1];exact hn,by rw[(fl i j).2];exact hr,?_⟩
 obtain⟨i1,hi1,s1,s2⟩:=half (bU m x y t)
 obtain⟨j1,hj1,r1,r2⟩:=half (bV m x y t)
 have best:=least i1 j1 hi1 hj1
 rw[<- (fl i1 j1).1]at s1 s2
 rw[<- (fl i1 j1).2]at r1 r2
 have g:=wj ev x y (dw t i1 x j1 y)
 have dt:bQ x y (dw t i1 x j1 y)=bQ x y t:=nY _ _ _ _ _
 rw[dt]at g
 have q:=CA (Int.le_of_lt h.pos) (Int.le_trans (Int.le_of_lt h.pos) h.le) h.lo h.hi s1 s2 r1 r2
 have OJ:2*aS m x+aS m y<=3*aS m y:=by have:=h.le;omega
 have q2:=Int.mul_le_mul_of_nonneg_right OJ (aZ (aq m x y))
 have RW:=Int.mul_le_mul_of_nonneg_left best (Int.le_of_lt DW)
 generalize aS m x*(bU m x y (dw t i1 x j1 y)*bU m x y (dw t i1 x j1 y))+2*(av m x y*(bU m x y (dw t i1 x j1 y)*bV m x y (dw t i1 x j1 y)))+aS m y*(bV m x y (dw t i1 x j1 y)*bV m x y (dw t i1 x j1 y))=qq at g q
 have fin:aq m x y*(4*(aq m x y*aS m (dw t i1 x j1 y)))<=aq m x y*(4*(aA m*(bQ x y t*bQ x y t))+3*(aq m x y*aS m y)):=by
  have e1:aq m x y*(4*(aq m x y*aS m (dw t i1 x j1 y)))=4*(aq m x y*(aq m x y*aS m (dw t i1 x j1 y))):=by grind
  have e2:aq m x y*(4*(aA m*(bQ x y t*bQ x y t))+3*(aq m x y*aS m y))=4*(aq m x y*(aA m*(bQ x y t*bQ x y t)))+3*aS m y*(aq m x y*aq m x y):=by grind
  rw[e1,e2,g]
  omega
 have:=Int.le_of_mul_le_mul_left fin DW
 omega
theorem DX{m:List (List Int)}(ev:cj m){x y t:Nat->Int}(h:mG m x y){i j:Int}(i0:i=bU m x y t/aq m x y∨i=bU m x y t/aq m x y+1)(j0:j=bV m x y t/aq m x y∨j=bV m x y t/aq m x y+1)(D0:0<=aA m):
  aS m (dw t i x j y)<=aA m*(bQ x y t*bQ x y t)+3*aS m y:=by
 obtain⟨_,ap⟩:=h.GB
 have fl:=wg ev x y t
 have DW:0<aq m x y:=ap
 have near:∀{z k:Int},(k=z/aq m x y∨k=z/aq m x y+1) -> -(2*aq m x y)<=2*(z-k*aq m x y)/\2*(z-k*aq m x y)<=2*aq m x y:=λ {z k} hk=>by
  have e:=Int.emod_add_mul_ediv z (aq m x y)
  have l:=Int.emod_nonneg z (show aq m x y≠0 by omega)
  have u:=Int.emod_lt_of_pos z DW
  rcases hk with rfl|rfl
  ·generalize aq m x y=d at e l u ⊢
   have e2:z/d*d=d*(z/d):=Int.mul_comm ..
   omega
  ·generalize aq m x y=d at e l u ⊢
   have e2:(z/d+1)*d=d*(z/d)+d:=by rw[Int.add_mul,Int.one_mul,Int.mul_comm]
   omega
 have s:=near i0
 have r:=near j0
 rw[<- (fl i j).1]at s
 rw[<- (fl i j).2]at r
 have g:=wj ev x y (dw t i x j y)
 have dt:bQ x y (dw t i x j y)=bQ x y t:=nY _ _ _ _ _
 rw[dt]at g
 have q:=CA (Int.le_of_lt h.pos) (Int.le_trans (Int.le_of_lt h.pos) h.le) h.lo h.hi s.1 s.2 r.1 r.2
 generalize aS m x*(bU m x y (dw t i x j y)*bU m x y (dw t i x j y))+2*(av m x y*(bU m x y (dw t i x j y)*bV m x y (dw t i x j y)))+aS m y*(bV m x y (dw t i x j y)*bV m x y (dw t i x j y))=qq at g q
 have OJ:2*aS m x+aS m y<=3*aS m y:=by have:=h.le;omega
 have q2:=Int.mul_le_mul_of_nonneg_right OJ (aZ (aq m x y))
 have DD:=Int.mul_nonneg D0 (aZ (bQ x y t))
 generalize aA m*(bQ x y t*bQ x y t)=dd at g DD ⊢
 have e3:(2*aS m x+aS m y)*(2*aq m x y*(2*aq m x y))=4*((2*aS m x+aS m y)*(aq m x y*aq m x y)):=by grind
 rw[e3]at q
 have fin:aq m x y*(aq m x y*aS m (dw t i x j y))<=aq m x y*(aq m x y*(dd+3*aS m y)):=by
  rw[g]
  have e1:aq m x y*(aq m x y*(dd+3*aS m y))=aq m x y*(aq m x y*dd)+3*aS m y*(aq m x y*aq m x y):=by grind
  have m1:aq m x y*dd<=aq m x y*(aq m x y*dd):=Int.mul_le_mul_of_nonneg_left (by
   have:=Int.mul_le_mul_of_nonneg_right (show(1:Int)<=aq m x y by omega) DD
   omega) (Int.le_of_lt DW)
  omega
 exact Int.le_of_mul_le_mul_left (Int.le_of_mul_le_mul_left fin DW) DW
theorem GD{α:Type}{a b:α}{l:List α}(h:l.Perm [a,b]):l=[a,b]∨l=[b,a]:=by
 match l,h.length_eq with
 | [p,q],_=>
  have hp:p∈ [a,b]:=h.mem_iff.mp (by simp)
  simp only[List.mem_cons,List.not_mem_nil,or_false]at hp
  rcases hp with rfl|rfl
  ·left
   have:=(List.perm_cons p).mp h
   rw[List.perm_singleton.mp this]
  ·right
   have h2: [p,q].Perm [p,a]:=h.trans (List.Perm.swap p a [])
   have:=(List.perm_cons p).mp h2
   rw[List.perm_singleton.mp this]
theorem Kc{α:Type}{a b c:α}{l:List α}(h:l.Perm [a,b,c]):l=[a,b,c]∨l=[a,c,b]∨l=[b,a,c]∨l=[b,c,a]∨l=[c,a,b]∨l=[c,b,a]:=by
 match l,h.length_eq with
 |p::r,_=>
  have hp:p∈ [a,b,c]:=h.mem_iff.mp (by simp)
  simp only[List.mem_cons,List.not_mem_nil,or_false]at hp
  rcases hp with rfl|rfl|rfl
  ·rcases GD ((List.perm_cons p).mp h)with z|z<;>rw[z]<;>simp
  ·have h2:(p::r).Perm [p,a,c]:=h.trans (List.Perm.swap p a [c])
   rcases GD ((List.perm_cons p).mp h2)with z|z<;>rw[z]<;>simp
  ·have h2:(p::r).Perm [p,a,b]:=h.trans (((List.Perm.swap p b []).cons a).trans (List.Perm.swap p a [b]))
   rcases GD ((List.perm_cons p).mp h2)with z|z<;>rw[z]<;>simp
theorem DY{α:Type}{a b c p q r:α}(X:α->Nat->Int)(h: [p,q,r].Perm [a,b,c]):bQ (X p) (X q) (X r)=bQ (X a) (X b) (X c)∨bQ (X p) (X q) (X r)= -bQ (X a) (X b) (X c):=by
 rcases Kc h with z|z|z|z|z|z<;>injection z with e1 z<;>injection z with e2 z<;>injection z with e3 z<;>subst e1 e2 e3<;>unfold bQ
 ·left;rfl
 ·right;grind
 ·right;grind
 ·left;grind
 ·left;grind
 ·right;grind
theorem gJ{H:Hp}{b:Addr}{x:Nat->Int}(h:bf H b x):∀i,i<3->bL (gZ H b) i=x i:=λi hi=>by
 have h:H b=some (.lst [.int (x 0),.int (x 1),.int (x 2)]):=h
 unfold gZ
 rw[h]
 rcases bC hi with rfl|rfl|rfl<;>rfl
theorem xH{H:Hp}{b:Addr}{x:Nat->Int}(h:bf H b x):bf H b (bL (gZ H b)):=by
 show H b=some (.lst [.int (bL (gZ H b) 0),.int (bL (gZ H b) 1),.int (bL (gZ H b) 2)])
 rw[gJ h 0 (by decide),gJ h 1 (by decide),gJ h 2 (by decide)]
 exact h
structure CB(m:List (List Int))(x y t:Nat->Int):Prop where
 pair:mG m x y
 le:aS m y<=aS m t
 unit:bQ x y t=1∨bQ x y t= -1
 few:3*(aS m x*aS m y*aS m t)<=16*aA m
 u: -(2*aS m x)<=av m x t/\av m x t<=2*aS m x
 v: -(2*aS m y)<=av m y t/\av m y t<=2*aS m y
theorem Jg{m:List (List Int)}{x y t t':Nat->Int}(h:mG m x y)(d:Drawn m x y t t')(un:bQ x y t=1∨bQ x y t= -1)(le:aS m y<=aS m t'):CB m x y t':=by
 obtain⟨ar,ap⟩:=h.GB
 have DW:0<aq m x y:=ap
 have one:bQ x y t*bQ x y t=1:=by rcases un with z|z<;>rw[z]<;>decide
 have f:=d.few
 rw[one,Int.mul_one]at f
 have g:=Int.mul_le_mul_of_nonneg_left le (Int.le_of_lt DW)
 have ht:0<=aS m t':=by have:=h.pos;have:=h.le;omega
 have k:=Int.mul_le_mul_of_nonneg_right ar ht
 obtain⟨p1,p2⟩:=DU m x y t'
 have cancel:∀{a b c:Int},aq m x y*a<=aq m x y*b->a<=b:=λh=>Int.le_of_mul_le_mul_left h DW
 have ab:∀a b c e:Int,-c<=a->a<=c-> -e<=b->b<=e->a*b<=c*e:=λa b c e h1 h2 h3 h4=>by
  have k1:=Int.mul_nonneg (show 0<=c-a by omega) (show 0<=e+b by omega)
  have k2:=Int.mul_nonneg (show 0<=c+a by omega) (show 0<=e-b by omega)
  have e3:(c-a)*(e+b)+(c+a)*(e-b)=2*(c*e) -2*(a*b):=by grind
  omega
 have My:∀a b c e:Int,-c<=a->a<=c-> -e<=b->b<=e-> -(c*e)<=a*b:=λa b c e h1 h2 h3 h4=>by
  have:=ab (-a) b c e (by omega) (by omega) h3 h4
  have e3: -a*b= -(a*b):=by grind
  omega
 have Ap:=h.pos
 have Bp:0<aS m y:=Int.lt_of_lt_of_le h.pos h.le
 have pl: -(aS m x)<=av m x y/\av m x y<=aS m x:=by have:=h.lo;have:=h.hi;omega
 have OL: -(aS m y)<=av m x y/\av m x y<=aS m y:=by have:=h.le;omega
 have s1:=ab (aS m x) (bU m x y t') (aS m x) (aq m x y) (by omega) (Int.le_refl _) d.s.1 d.s.2
 have s2:=My (aS m x) (bU m x y t') (aS m x) (aq m x y) (by omega) (Int.le_refl _) d.s.1 d.s.2
 have s3:=ab (av m x y) (bV m x y t') (aS m x) (aq m x y) pl.1 pl.2 d.r.1 d.r.2
 have s4:=My (av m x y) (bV m x y t') (aS m x) (aq m x y) pl.1 pl.2 d.r.1 d.r.2
 have r1:=ab (av m x y) (bU m x y t') (aS m y) (aq m x y) OL.1 OL.2 d.s.1 d.s.2
 have r2:=My (av m x y) (bU m x y t') (aS m y) (aq m x y) OL.1 OL.2 d.s.1 d.s.2
 have r3:=ab (aS m y) (bV m x y t') (aS m y) (aq m x y) (by omega) (Int.le_refl _) d.r.1 d.r.2
 have r4:=My (aS m y) (bV m x y t') (aS m y) (aq m x y) (by omega) (Int.le_refl _) d.r.1 d.r.2
 refine⟨h,le,by rw[d.det];exact un,?_,⟨?_,?_⟩,?_,?_⟩
 ·have e1:3*(aS m x*aS m y)*aS m t'=3*(aS m x*aS m y*aS m t'):=by grind
  have e2:4*(aS m x*aS m y-av m x y*av m x y)*aS m t'=4*(aq m x y*aS m t'):=by show _=4*((aS m x*aS m y-av m x y*av m x y)*aS m t');grind
  omega
 ·refine cancel (c:=0) ?_
  rw[p1]
  have e:aq m x y* -(2*aS m x)= -(2*(aS m x*aq m x y)):=by grind
  omega
 ·refine cancel (c:=0) ?_
  rw[p1]
  have e:aq m x y*(2*aS m x)=2*(aS m x*aq m x y):=by grind
  omega
 ·refine cancel (c:=0) ?_
  rw[p2]
  have e:aq m x y* -(2*aS m y)= -(2*(aS m y*aq m x y)):=by grind
  omega
 ·refine cancel (c:=0) ?_
  rw[p2]
  have e:aq m x y*(2*aS m y)=2*(aS m y*aq m x y):=by grind
  omega
theorem GF{x y z x' y' z':Nat->Int}(hx:∀i,i<3->x i=x' i)(hy:∀i,i<3->y i=y' i)(hz:∀i,i<3->z i=z' i):bQ x y z=bQ x' y' z':=by
 unfold bQ
 rw[hx 0 (by decide),hx 1 (by decide),hx 2 (by decide),hy 0 (by decide),hy 1 (by decide),hy 2 (by decide),hz 0 (by decide),hz 1 (by decide),hz 2 (by decide)]
theorem LH(m:List (List Int)){i:Nat}(hi:i<3):aS m (Mw i 1)=ent m i i:=by
 show av m _ _=_
 rw[bh]
 unfold Mw
 rcases bC hi with rfl|rfl|rfl<;>simp
theorem LJ{m:List (List Int)}(ev:cj m){a b c:Addr}{X:Addr->Nat->Int}{zs:List Addr}(h:zs.Perm [a,b,c])(so:zs.Pairwise λa b=>cg m (X a)<=cg m (X b)):
  ∃p q r,zs=[p,q,r]/\p∈ [a,b,c]/\q∈ [a,b,c]/\r∈ [a,b,c]/\(bQ (X p) (X q) (X r)=bQ (X a) (X b) (X c)∨bQ (X p) (X q) (X r)= -bQ (X a) (X b) (X c))/\aS m (X p)+aS m (X q)<=aS m (X a)+aS m (X c):=by
 match zs,h.length_eq with
 | [p,q,r],_=>
  refine⟨p,q,r,rfl,h.mem_iff.mp (by simp),h.mem_iff.mp (by simp),h.mem_iff.mp (by simp),DY X h,?_⟩
  have e:=λd=>d8 ev (X d)
  have ea:=e a
  have eb:=e b
  have ec:=e c
  simp only[List.pairwise_cons,List.mem_cons,List.not_mem_nil,or_false,forall_eq_or_imp,forall_eq]at so
  show av m _ _+av m _ _<=av m _ _+av m _ _
  rcases Kc h with z|z|z|z|z|z<;>injection z with e1 z<;>injection z with e2 z<;>injection z with e3 z<;>subst e1 e2 e3<;>omega
structure mJ(N:List (List Int)):Prop where
 CC:cB N
 ev:cj N
 ab:b7 N=true
 pos:0<ent N 0 0
 OM:ent N 0 0<=ent N 1 1
 ON:ent N 1 1<=ent N 2 2
 p: -(ent N 0 0)<=2*ent N 0 1/\2*ent N 0 1<=ent N 0 0
 u: -(2*ent N 0 0)<=ent N 0 2/\ent N 0 2<=2*ent N 0 0
 v: -(2*ent N 1 1)<=ent N 1 2/\ent N 1 2<=2*ent N 1 1
 few:3*(ent N 0 0*ent N 1 1*ent N 2 2)<=16*aA N
theorem nA(x y z:Nat->Int){j:Nat}(hj:j<3):ent (eK x y z) 0 j=x j/\ent (eK x y z) 1 j=y j/\ent (eK x y z) 2 j=z j:=⟨bE _ (by decide) hj,bE _ (by decide) hj,bE _ (by decide) hj⟩
theorem AR{m:List (List Int)}(ev:cj m)(c:cB m)(ab:b7 m=true){x y z:Nat->Int}(h:CB m x y z):mJ (fK m (eK x y z))/\(aA (eK x y z)=1∨aA (eK x y z)= -1)/\aA (fK m (eK x y z))=aA m:=by
 have hS:=d9 ev c
 have un:pN (aA (eK x y z)):=by rw[DR];exact h.unit
 have c3:cB (eK x y z):=cH _
 have e:∀i j,i<3->j<3->ent (fK m (eK x y z)) i j=av m (λk=>ent (eK x y z) i k) (λk=>ent (eK x y z) j k):=λi j hi hj=>yW m _ hi hj
 have r0:∀k,k<3->ent (eK x y z) 0 k=x k:=λk hk=>(nA x y z hk).1
 have r1:∀k,k<3->ent (eK x y z) 1 k=y k:=λk hk=>(nA x y z hk).2.1
 have r2:∀k,k<3->ent (eK x y z) 2 k=z k:=λk hk=>(nA x y z hk).2.2
 have Ob:ent (fK m (eK x y z)) 0 0=aS m x:=(e 0 0 (by decide) (by decide)).trans (f7 r0 r0)
 have OO:ent (fK m (eK x y z)) 1 1=aS m y:=(e 1 1 (by decide) (by decide)).trans (f7 r1 r1)
 have RX:ent (fK m (eK x y z)) 2 2=aS m z:=(e 2 2 (by decide) (by decide)).trans (f7 r2 r2)
 have Jd:ent (fK m (eK x y z)) 0 1=av m x y:=(e 0 1 (by decide) (by decide)).trans (f7 r0 r1)
 have Je:ent (fK m (eK x y z)) 0 2=av m x z:=(e 0 2 (by decide) (by decide)).trans (f7 r0 r2)
 have Jf:ent (fK m (eK x y z)) 1 2=av m y z:=(e 1 2 (by decide) (by decide)).trans (f7 r1 r2)
 have dt:=yU (m:=m) un
 refine⟨⟨(show cB (iC (iC (eK x y z) m) (cQ (eK x y z)))from cH _),vY ev c c3,tM hS ab c3 un,?_,?_,?_,?_,?_,?_,?_⟩,un,dt⟩
 ·rw[Ob];exact h.pair.pos
 ·rw[Ob,OO];exact h.pair.le
 ·rw[OO,RX];exact h.le
 ·rw[Ob,Jd];exact⟨h.pair.lo,h.pair.hi⟩
 ·rw[Ob,Je];exact h.u
 ·rw[OO,Jf];exact h.v
 ·rw[Ob,OO,RX,dt];exact h.few
theorem GG{m:List (List Int)}{x y z:Nat->Int}(h:CB m x y z):3*aS m x<=16*aA m/\3*aS m y<=16*aA m/\3*aS m z<=16*aA m:=by
 have p:=h.pair.pos
 have q:=h.pair.le
 have r:=h.le
 have f:=h.few
 have k1:aS m y<=aS m x*aS m y:=by
  have:=Int.mul_le_mul_of_nonneg_right (show 1<=aS m x by omega) (show 0<=aS m y by omega)
  omega
 have k2:1*aS m z<=aS m x*aS m y*aS m z:=Int.mul_le_mul_of_nonneg_right (by omega) (by omega)
 omega
end L2
namespace xy
open PySem PyProof.Rows
section
variable{prog:Program}{w:World}{A:Around}{E:Value->Shared->Prop}{s:Shared}{κ:SortKind}{K:Keyed->Int}{D:Keyed->Prop}{st:SortSt}
theorem Jh(hL:pO prog w A E s κ K D){Q:Unit->SortSt->Prop}(B:SB κ D st)(hp:pendingOf st= #[])(h64:(arrOf st).size<64)
  (hq:∀st',(arrOf st').Perm (arrOf st) ->failedOf st'=none->So K (arrOf st') 0 (arrOf st).size->Q () st'):wpS (model prog w) A E s sortRuns' Q st:=by
 rw[Gr]
 refine wpS_bind (wpS_get ?_)
 dsimp only
 have mr:minRun' (arrOf st).size (arrOf st).size 0=(arrOf st).size:=by
  cases h:(arrOf st).size with
  |zero=>rfl
  |succ k=>
   rw[minRun'_succ,if_pos (by omega)]
 rw[mr]
 refine wpS_bind (wpS_mono (wpS_forRange (I:=λx c s1=>(x=0/\c=(none,0)/\s1=st)∨(c=(none,(arrOf st).size)/\(arrOf s1).Perm (arrOf st)/\failedOf s1=none/\So K (arrOf s1) 0 (arrOf st).size/\(pendingOf s1).size=1))
  (Q:=λc s1=>c=(none,(arrOf st).size)/\(arrOf s1).Perm (arrOf st)/\failedOf s1=none/\So K (arrOf s1) 0 (arrOf st).size/\(pendingOf s1).size<=1) ?_ ?_ (.inl ⟨rfl,rfl,rfl⟩)) ?_)
 ·rintro x c s1 _ hx (⟨rfl,rfl,rfl⟩|⟨rfl,h⟩)
  ·dsimp only
   refine jO (λc=>by omega) (λ_=> ?_)
   refine wpS_bind (w_count hL B (by omega) (by omega) λn s2 S2 n1 n2 Mx=> ?_)
   dsimp only
   have Ur:=S2.size
   have note:∀s3:SortSt,SC 0 s1 s3->So K (arrOf s3) 0 (arrOf s1).size-> ∀m,m=(arrOf s1).size-> ∀Q:ForInStep (Option Unit×Nat) ->SortSt->Prop,(∀s5,(arrOf s5).Perm (arrOf s1) ->failedOf s5=none->So K (arrOf s5) 0 (arrOf s1).size->(pendingOf s5).size=1->Q (.yield (none,(arrOf s1).size)) s5) ->wpS (model prog w) A E s (do
     modify λy=>setPending y ((pendingOf y).push (0,m,0))
     pure (ForInStep.yield ((none,0+m):Option Unit×Nat))) Q s3:=λs3 S3 EK m em Q hQ=>by
    subst em
    rw[Nat.zero_add]
    refine wpS_bind (wpS_modify (wpS_pure (hQ _ S3.perm (S3.failed.trans B.failed) EK ?_)))
    show((pendingOf s3).push _).size=1
    rw[S3.pend,hp]
    rfl
   by_cases hm:n<(arrOf s1).size
   ·rw[if_pos hm]
    refine wpS_bind (wpS_lift (wpAny_rule ⟨rfl,?_⟩))
    refine wpS_bind (JV hL (B.sc S2) (by omega) (by omega) Mx λs3 S3 EK=> ?_)
    simp only[Bool.not_true,Bool.false_eq_true,if_false]
    refine wpS_bind (wpS_get ?_)
    rw[(S2.trans S3).pend,hp]
    have em:min ((arrOf s1).size-0) (arrOf s1).size=(arrOf s1).size:=by omega
    rw[em]at EK
    exact note s3 (S2.trans S3) EK _ em _ λs5 p f o q=> .inr ⟨rfl,p,f,o,q⟩
   ·rw[if_neg hm]
    have en:n=(arrOf s1).size:=by omega
    rw[en]at Mx
    refine wpS_bind (wpS_get ?_)
    rw[S2.pend,hp]
    exact note s2 S2 Mx _ en _ λs5 p f o q=> .inr ⟨rfl,p,f,o,q⟩
  ·dsimp only
   exact jO (λ_=>wpS_pure ⟨rfl,h.1,h.2.1,h.2.2.1,Nat.le_of_eq h.2.2.2⟩) (λc=>absurd (Nat.le_refl _) c)
 ·rintro c s1 (⟨h0,rfl,rfl⟩|⟨rfl,h⟩)
  ·have z:(arrOf s1).size=0:=by omega
   rw[z]
   exact⟨rfl,Array.Perm.refl _,B.failed,λi j _ h=>absurd h (Nat.not_lt_zero _),by rw[hp];decide⟩
  ·exact⟨rfl,h.1,h.2.1,h.2.2.1,Nat.le_of_eq h.2.2.2⟩
 ·rintro c s1 ⟨rfl,h1,h2,h3,h4⟩
  dsimp only
  refine wpS_bind (wpS_mono (wpS_forRange (I:=λ_ c s2=>c=(none,())/\s2=s1) (Q:=λc s2=>c=(none,())/\s2=s1) ?_ (λ_ _ h=>h) ⟨rfl,rfl⟩) ?_)
  ·rintro x c s2 _ hx ⟨rfl,rfl⟩
   refine wpS_bind (wpS_get ?_)
   exact jO (λc=>wpS_pure ⟨rfl,rfl⟩) (λc=>absurd h4 c)
  ·rintro c s2 ⟨rfl,rfl⟩
   exact wpS_pure (hq _ h1 h2 h3)
end
end xy
namespace L2
open PySem PySem.Spec PyProof.Rows PySem.Calls xy
section
variable{prog:Program}{w:World}{A:Around}{E:Value->Shared->Prop}{s:Shared}
theorem Ji{a kS:Addr}{P:PySem.Fin->Shared->Prop}{kf:V->Int}{ys:List V}{us:List Value}{keys:Array Value}{e1 e:Nat}(hk:pT kf ys us keys.toList)(hn:kS≠a)(hz:us.length<=sizeLine)(h64:us.length<64)
  (ha:s.heap.get? a=some (seqObj "list" #[] e1))(hS:s.heap.get? kS=some (seqObj "list" keys e))
  (h:∀(zs:List V)(out:List Value) h' tk,zs.Perm ys->zs.Pairwise (λx y=>kf x<=kf y) ->Vals zs out->out.length=us.length->(∀b o,b≠a->b≠kS->s.heap.get? b=some o->h'.get? b=some o) ->(∃c,h'.get? a=some (seqObj "list" out.toArray c)) ->(∃o,h'.get? kS=some o) ->
   P (.done (.ret .none)) {s with heap:=h',toks:=tk}):wpAny (model prog w) A (ksk_end a false us.toArray e1 (.ref kS) keys) P E s:=by
 have kl:keys.toList.length=us.length:=by
  have:∀{ys:List V}{us ks:List Value},pT kf ys us ks->ks.length=us.length:=λh=>by
   induction h with
   |nil=>rfl
   |cons t r _ ih=>simp[ih]
  exact this hk
 have kz:keys.size=us.length:=by rw[<-kl];exact(Array.length_toList ..).symm
 have RY:(keys.zip us.toArray).size=us.length:=by rw[Array.size_zip,kz,List.size_toArray,Nat.min_self]
 have zl:(keys.zip us.toArray).toList=keys.toList.zip us:=ksk_zip keys us
 have tail:∀st:SortSt,(arrOf st).Perm (keys.zip us.toArray) ->failedOf st=none->So (λp=>numOf p.1) (arrOf st) 0 us.length->wpAny (model prog w) A (ksk_tail a false e1 (.ref kS) st) P E s:=by
  intro st hp hf hs
  have pl:(arrOf st).toList.Perm (keys.toList.zip us):=by rw[<-zl];exact Array.perm_iff_toList_perm.mp hp
  obtain⟨tr,t1,t2,t3⟩:=hk.out
  obtain⟨OP,p',e'⟩:=v8 pl tr t1
  have len:(arrOf st).toList.length=us.length:=by rw[pl.length_eq,List.length_zip,kl,Nat.min_self]
  have oz:((arrOf st).map (·.2)).size=us.length:=by rw[Array.size_map,<-len,Array.length_toList]
  have oe:((arrOf st).map (·.2)).toList=OP.map λt=>t.1.2:=by
   rw[Array.toList_map,e',List.map_map]
   rfl
  unfold ksk_tail
  try dsimp only
  generalize(arrOf st).map (·.2)=ov at oz oe ⊢
  refine wpAny_bind (listUpdate_at hS rfl ?_ (by omega) (Nat.zero_le _))
  refine wpAny_bind (wpAny_letGo ?_)
  have RZ:=Heap.SameBut.update s.heap kS (Obj.mapSeq λ_=>(#[]:Array Value))
  have ha1:(s.heap.update kS (Obj.mapSeq λ_=>(#[]:Array Value))).get? a=some (seqObj "list" #[] e1):=(RZ.2 a hn.symm).trans ha
  have Sa:=Heap.SameBut.update (s.heap.update kS (Obj.mapSeq λ_=>(#[]:Array Value))) a (Obj.mapSeq λ_=>ov)
  refine wpAny_bind (seqEpoch_at ha1 rfl ?_)
  refine wpAny_bind (listUpdate_at ha1 rfl ?_ (Nat.zero_le _) (Nat.le_trans (Nat.le_of_eq oz) (Nat.le_succ_of_le hz)))
  rw[hf]
  simp only[bne_self_eq_false,Bool.false_eq_true,if_false]
  refine wpAny_pure (h (OP.map Prod.snd) (OP.map λt=>t.1.2) _ _ (by rw[t2];exact p'.map _) ?_ ?_ ?_ (λb o h1 h2 q=> ?_) ?_ ?_)
  ·have h2:=(qk (K:=λp=>numOf p.1) (a:=arrOf st) (lo:=0) (n:=us.length) (by rw[Nat.zero_add,<-len,Array.length_toList];exact Nat.le_refl _)).mp hs
   have e2:sl (arrOf st) 0 us.length=(arrOf st).toList:=by
    show((arrOf st).toList.drop 0).take us.length=_
    rw[List.drop_zero,List.take_of_length_le (by omega)]
   rw[e2,e',List.pairwise_map]at h2
   rw[List.pairwise_map]
   refine h2.imp_of_mem λ {x y} mx my q=> ?_
   obtain⟨_,k1,q1⟩:=t3 x (p'.mem_iff.mp mx)
   obtain⟨_,k2,q2⟩:=t3 y (p'.mem_iff.mp my)
   rw[q1,q2]at q
   exact q
  ·have:∀l:List (Keyed×V),(∀t∈l,RelV t.2 t.1.2) ->Vals (l.map Prod.snd) (l.map λt=>t.1.2):=λl=>by
    induction l with
    |nil=>intro _;exact .nil
    |cons t l ih=>intro hl;exact .cons (hl t List.mem_cons_self) (ih λz hz=>hl z (List.mem_cons_of_mem _ hz))
   exact this OP λt ht=>(t3 t (p'.mem_iff.mp ht)).1
  ·rw[<-oe,<-oz,Array.length_toList]
  ·exact(Sa.2 b h1).trans ((RZ.2 b h2).trans q)
  ·rw[<-oe,Array.toArray_toList]
   exact⟨_,get?_update_seq ha1 λ_=>ov⟩
  ·exact⟨_,(Sa.2 kS hn).trans (get?_update_seq hS λ_=> #[])⟩
 unfold ksk_end
 try dsimp only
 simp only[Bool.false_eq_true,if_false]
 by_cases h2:us.toArray.size<2
 ·rw[if_pos h2,if_pos h2]
  refine wpAny_bind (wpAny_pure ?_)
  rw[StateT.run_pure]
  refine wpAny_bind (wpAny_pure ?_)
  try dsimp only
  refine tail (SortSt.mk' general' (keys.zip us.toArray) #[] 7 none) (Array.Perm.refl _) rfl (λi j hij hj=> ?_)
  rw[List.size_toArray]at h2
  have:i=j:=by omega
  subst this
  exact Int.le_refl _
 ·rw[if_neg h2,if_neg h2]
  rw[List.size_toArray]at h2
  rw[ksk_kind hk.ints (by omega)]
  refine wpAny_bind (wpAny_pure ?_)
  have R:xy.SB oneType' (λp=> ∃n t,p.1= .int n t) (SortSt.mk' oneType' (keys.zip us.toArray) #[] 7 none):=by
   refine⟨rfl,rfl,λp hp=> ?_⟩
   have iK:p∈(keys.zip us.toArray).toList:=hp
   rw[zl]at iK
   exact hk.ints.all p.1 (List.of_mem_zip (a:=p.1) (b:=p.2) iK).1
  refine wpAny_bind (wpAny_mono (Jh DN (Q:=λ_ st'=>(arrOf st').Perm (keys.zip us.toArray)/\failedOf st'=none/\So (λp=>numOf p.1) (arrOf st') 0 (keys.zip us.toArray).size) R rfl (show(keys.zip us.toArray).size<64 by rw[RY];exact h64) λst' a1 a2 a3=>⟨a1,a2,a3⟩) ?_ λ_ _ e=>e)
  rintro⟨⟨⟩,st'⟩ s' ⟨rfl,hp,hf,hs⟩
  rw[RY]at hs
  try dsimp only
  exact tail st' hp hf hs
end
section
variable{X:Cx}{pins:List (Addr×Obj)}{σ:St}{H:Hp}{s:Shared}{B:Around}{a:Addr}{f:Value}{kf:V->Int}{ys:List V}{us:List Value}
theorem DZ(I:Inv X pins σ H s)(fa:fV X pins H a){n:Nat}(ha:s.heap.get? a=some (seqObj "list" us.toArray n))(r:Vals ys us)(hz:us.length<=sizeLine)(h64:us.length<64){E:Value->Shared->Prop}{P:PySem.Fin->Shared->Prop}
  (turn:∀(pA:List (Addr×Obj))(v:V)(Hi:Hp)(u:Value)(si:Shared),v∈ys->ay H Hi->RelV v u->Inv X pA σ Hi si->wpAny (model X.prog X.w) B (call f [u]) (EP X pA σ (λv' H'=>v'= .int (kf v)/\ay Hi H')) (λ_ _=>False) si)
  (done:∀(Hn:Hp)(s':Shared)(zs:List V),Inv X pins σ (upd Hn a (.lst zs)) s'->ay H Hn->Hn a=none->zs.Perm ys->zs.Pairwise (λx y=>kf x<=kf y) ->P (.done (.ret .none)) s'):
  wpAny (model X.prog X.w) B (ksk_tree a f false) P E s:=by
 have rl:=r.length
 unfold ksk_tree
 refine wpAny_bind (listItems_at ha rfl ?_)
 refine wpAny_bind (listUpdate_at ha rfl ?_ (by simpa using hz) (Nat.zero_le _))
 obtain⟨e1,ha1⟩:∃e1,(s.heap.update a (Obj.mapSeq λ_=> #[])).get? a=some (seqObj "list" #[] e1):=⟨_,get?_update_seq ha (λ_=> #[])⟩
 refine wpAny_bind (seqEpoch_at ha1 rfl ?_)
 refine wpAny_bind (wpAny_newTuple ?_ (by simpa using hz))
 refine wpAny_bind (wpAny_newList ?_ (Nat.zero_le _))
 refine wpAny_holding ?_
 have I1:Inv X pins σ H {s with heap:=s.heap.update a (Obj.mapSeq λ_=> #[])}:=I.pM (ch:=[a]) (t':=s.toks) (λb o hb e=>(Heap.get?_update_ne _ _ _ _ (by simpa using hb)).trans e) (λb hb=>by rw[List.mem_singleton.mp hb];exact fa)
 have I2:Inv X pins σ H {s with heap:=((s.heap.update a (Obj.mapSeq λ_=> #[])).push (seqObj "tuple" us.toArray 0))}:=I1.kept (t':=s.toks) λb o e=>Heap.get?_push_of_some _ e
 have I3:Inv X pins σ H {s with heap:=((s.heap.update a (Obj.mapSeq λ_=> #[])).push (seqObj "tuple" us.toArray 0)).push (seqObj "list" #[] 0)}:=I2.kept (t':=s.toks) λb o e=>Heap.get?_push_of_some _ e
 have fk:fV X pins H ((s.heap.update a (Obj.mapSeq λ_=> #[])).push (seqObj "tuple" us.toArray 0)).objs.size:=I2.Dg (Nat.le_refl _) I2.fresh
 have Sb:(((s.heap.update a (Obj.mapSeq λ_=> #[])).push (seqObj "tuple" us.toArray 0)).push (seqObj "list" #[] 0)).get? a=some (seqObj "list" #[] e1):=Heap.get?_push_of_some _ (Heap.get?_push_of_some _ ha1)
 have JL:(((s.heap.update a (Obj.mapSeq λ_=> #[])).push (seqObj "tuple" us.toArray 0)).push (seqObj "list" #[] 0)).get? ((s.heap.update a (Obj.mapSeq λ_=> #[])).push (seqObj "tuple" us.toArray 0)).objs.size=some (seqObj "list" #[] 0):=Heap.get?_push_size _ rfl
 have Qt:((s.heap.update a (Obj.mapSeq λ_=> #[])).push (seqObj "tuple" us.toArray 0)).objs.size≠a:=by
  have:=Heap.lt_size ha
  rw[size_push',Heap.size_update]
  exact Nat.ne_of_gt (Nat.lt_succ_of_lt this)
 generalize((s.heap.update a (Obj.mapSeq λ_=> #[])).push (seqObj "tuple" us.toArray 0)).objs.size=kS at fk JL Qt ⊢
 generalize((s.heap.update a (Obj.mapSeq λ_=> #[])).push (seqObj "tuple" us.toArray 0)).push (seqObj "list" #[] 0)=h3 at I3 Sb JL ⊢
 show wpAny _ B (ksk_rest a f false us.toArray e1 (.ref kS)) P E {s with heap:=h3}
 have nc:∀(xs:Array Value)(m:Nat)(v:Option Value),(seqObj "list" xs m).data≠ .cell v:=λxs m v z=>nomatch z
 have I4:Inv X (Cy pins a e1 kS #[] 0) σ H {s with heap:=h3}:=I3.je λp hp=>by
  rcases List.mem_append.mp hp with hp|hp
  ·exact I3.pin p (List.mem_append_right _ hp)
  ·rcases List.mem_cons.mp hp with rfl|hp
   ·exact xF fa Sb (nc _ _)
   ·rw[List.mem_singleton.mp hp]
    exact xF fk JL (nc _ _)
 unfold ksk_rest
 refine wpAny_bind (wpAny_rule ?_)
 first
  |rw[List.forIn_toArray]
  |(rw[<-Array.forIn_toList];simp only[List.toList_toArray])
 refine wpAny_bind (ksk_fold (λi s'=> ∃Hi ks e,Inv X (Cy pins a e1 kS ks e) σ Hi s'/\ay H Hi/\pT kf (ys.take i) (us.take i) ks.toList) us 0 {s with heap:=h3} ⟨H, #[],0,I4,ay.refl _,by simpa using pT.nil⟩ ?_ ?_)
 ·rintro j x s' hx ⟨Hi,ks,e,J,sm,hk⟩
  simp only[Nat.zero_add]at hk ⊢
  obtain⟨v,hv,rv⟩:=Vals.at r hx
  have hj:j<us.length:=(List.getElem?_eq_some_iff.mp hx).1
  refine wpAny_bind (wpAny_attempt (wpAny_mono (turn _ v Hi x s' (List.mem_of_getElem? hv) sm rv J) (λu s2 he=> ?_) λ_ _ hF=>hF.elim))
  obtain⟨v',H',J',ru,rfl,Uw⟩:=he
  obtain⟨t,rfl⟩:∃t,u= .int (kf v) t:=ru
  have pa:=J'.pin (a,seqObj "list" #[] e1) (by simp)
  have pk:=J'.pin (kS,seqObj "list" ks e) (by simp)
  have kl:ks.size=j:=by
   have h1:=hk.ints.length
   rw[Array.length_toList,List.length_map,List.length_take,rl]at h1
   omega
  try dsimp only
  refine wpAny_bind (listUpdate_at pk.1 rfl ?_ (by omega) (Nat.le_trans (Nat.le_of_eq (Array.size_push ..)) (by omega)))
  obtain⟨c2,hc2⟩:∃c2,(s2.heap.update kS (Obj.mapSeq (·.push (.int (kf v) t)))).get? kS=some (seqObj "list" (ks.push (.int (kf v) t)) c2):=⟨_,get?_update_seq pk.1 (·.push (.int (kf v) t))⟩
  have ya:ys.take (j+1)=ys.take j++ [v]:=by rw[List.take_add_one,hv];simp
  have ua:us.take (j+1)=us.take j++ [x]:=by rw[List.take_add_one,hx];simp
  have ea:(ks.push (Value.int (kf v) t)).toList=ks.toList++ [Value.int (kf v) t]:=by simp
  have J1:Inv X pins σ H' s2:=J'.je λp hp=>J'.pin p (List.mem_append_right _ (List.mem_append_left _ hp))
  have J2:Inv X pins σ H' {s2 with heap:=s2.heap.update kS (Obj.mapSeq (·.push (.int (kf v) t)))}:=J1.pM (ch:=[kS]) (t':=s2.toks) (λb o hb e=>(Heap.get?_update_ne _ _ _ _ (by simpa using hb)).trans e) (λb hb=>by rw[List.mem_singleton.mp hb];exact v9 fk pk.2.1)
  refine wpAny_pure ⟨rfl,H',ks.push (.int (kf v) t),c2,J2.je λp hp=> ?_,sm.trans Uw,by rw[ya,ua,ea];exact hk.snoc t rv⟩
  rcases List.mem_append.mp hp with hp|hp
  ·exact J2.pin p (List.mem_append_right _ hp)
  ·rcases List.mem_cons.mp hp with rfl|hp
   ·exact xF (v9 fa pa.2.1) ((Heap.get?_update_ne _ _ _ _ Qt.symm).trans pa.1) (nc _ _)
   ·rw[List.mem_singleton.mp hp]
    exact xF (v9 fk pk.2.1) hc2 (nc _ _)
 ·rintro s' ⟨Hi,ks,e,J,sm,hk⟩
  rw[Nat.zero_add,List.take_of_length_le (Nat.le_of_eq rl),List.take_of_length_le (Nat.le_refl _)]at hk
  have pa:=J.pin (a,seqObj "list" #[] e1) (by simp)
  have pk:=J.pin (kS,seqObj "list" ks e) (by simp)
  have J1:Inv X pins σ Hi s':=J.je λp hp=>J.pin p (List.mem_append_right _ (List.mem_append_left _ hp))
  try dsimp only
  refine wpAny_bind (listItems_at pk.1 rfl ?_)
  refine Ji hk Qt hz h64 pa.1 pk.1 λzs out h' tk pz so vo ol keep hA hS=> ?_
  have J2:Inv X pins σ Hi {s' with heap:=h',toks:=tk}:=J1.pM (ch:=[a,kS]) (t':=tk) (λb o hb e=>keep b o (λz=>hb (by simp[z])) (λz=>hb (by simp[z])) e) (λb hb=>by
   rcases List.mem_cons.mp hb with rfl|hb
   ·exact v9 fa pa.2.1
   ·rw[List.mem_singleton.mp hb];exact v9 fk pk.2.1)
  obtain⟨c,hc⟩:=hA
  exact done Hi _ zs (J2.JT (v9 fa pa.2.1) ⟨by rw[vo.length,ol];exact hz,out,c,vo,hc⟩) sm pa.2.1 pz so
theorem zg{l:Addr}{fa:Addr}(I:Inv X pins σ H s)(hq:aP X.K H l ys)(h64:ys.length<64){Q:VK}
  (turn:∀(pA:List (Addr×Obj))(v:V)(Hi:Hp)(u:Value)(si:Shared),v∈ys->ay H Hi->RelV v u->Inv X pA σ Hi si->wpAny (model X.prog X.w) X.A.in1.in1 (call (.ref fa) [u]) (EP X pA σ (λv' H'=>v'= .int (kf v)/\ay Hi H')) (λ_ _=>False) si)
  (done:∀(Hn:Hp)(zs:List V),ay H Hn->zs.Perm ys->zs.Pairwise (λx y=>kf x<=kf y) -> ∀p,Hn p=none->Q (.ref p) (upd Hn p (.lst zs))):
  wpAny (model X.prog X.w) X.A (call (.builtin "sorted") [.ref l] [(Str.ofString "key",.ref fa)]) (EP X pins σ Q) X.xe s:=by
 obtain⟨us,r,pl,hz⟩:=I.list hq
 have hz':us.length<=sizeLine:=by rw[<-r.length];exact hz
 refine call_function_entry_kw kind_sorted plain_sorted entry_sorted (ksk_s1 _ _) ?_
 unfold Builtin.«sorted»
 refine wpAny_bind (m:=checkCount "sorted" 1 1 _) (wpAny_pure ?_)
 refine wpAny_bind (collect_list pl.isList ?_ hz')
 refine wpAny_bind (wpAny_newList ?_ (by simpa using hz'))
 have z1:((s.heap.push (seqObj "list" #[] 0)).update s.heap.objs.size (Obj.mapSeq (· ++us.toArray))).objs.size=s.heap.objs.size+1:=by
  rw[Heap.size_update,size_push']
 generalize hg:((s.heap.push (seqObj "list" #[] 0)).update s.heap.objs.size (Obj.mapSeq (· ++us.toArray)))=h1 at z1
 have keep:∀b o,s.heap.get? b=some o->(h1.push (seqObj "list" us.toArray 0)).get? b=some o:=λb o e=>by
  have lb:=Heap.lt_size e
  refine Heap.get?_push_of_some _ ?_
  rw[<-hg,Heap.get?_update_ne _ _ _ _ (Nat.ne_of_lt lb)]
  exact Heap.get?_push_of_some _ e
 have Ky:(h1.push (seqObj "list" us.toArray 0)).get? (s.heap.objs.size+1)=some (seqObj "list" us.toArray 0):=by
  rw[<-z1];exact Heap.get?_push_size _ rfl
 have I1:Inv X pins σ H {s with heap:=h1.push (seqObj "list" us.toArray 0)}:=I.kept (t':=s.toks) keep
 have Ux:fV X pins H (s.heap.objs.size+1):=I.Dg (Nat.le_succ _) (I.hok.fresh (Nat.le_succ _))
 show wpAny _ _ _ _ _ {s with heap:=h1.push (seqObj "list" us.toArray 0)}
 rw[z1]
 refine wpAny_bind (wpAny_holding (wpAny_call_entry_kw slot_list_sort ⟨_,Ky,rfl⟩ entry_list_sort ?_ (ksk_l1 _ _)))
 show wpAny (model X.prog X.w) X.A.in1.in1 (Builtin.«list.sort» ⟨[.ref (s.heap.objs.size+1)],[(Str.ofString "key",.ref fa)]⟩) _ _ _
 rw[ksk_t1]
 refine DZ I1 Ux Ky r hz' (by rw[<-r.length];exact h64) turn λHn s' zs J sm hn pz so=>⟨_,rfl,?_⟩
 exact wpAny_pure ⟨_,rfl,.ref (s.heap.objs.size+1),_,J,rfl,done Hn zs sm pz so _ hn⟩
end
def CD(tb:TE)(K:PySem.W.Frag)(P:Addr)(σ:St)(x:V)(H1:Hp)(Q:VK):Prop:=∃(l:Addr)(ys:List V)(kf:V->Int),x= .ref l/\aP K H1 l ys/\ys.length<64/\H1 P=some .yz/\
 (∀v∈ys,∀Hi,ay H1 Hi->tb (some v::σ) Hi λv' H'=>v'= .int (kf v)/\ay Hi H')/\
 ∀(Hn:Hp)(zs:List V),ay H1 Hn->zs.Perm ys->zs.Pairwise (λx y=>kf x<=kf y) -> ∀p,Hn p=none->Q (.ref p) (upd Hn p (.lst zs))
def Jj(tb:TE)(K:PySem.W.Frag)(P:Addr)(te:TE):TE:=λσ H Q=>te σ H λx H1=>CD tb K P σ x H1 Q
section
variable{X:Cx}{P:Addr}{te tb:TE}{e body:Expr}{args:Arguments}{sc:Scope}{x:Str}{N2:List Str}{p pos Gw kpos:Pos}
theorem Ea(hc:X.calm=true){k:Nat}(hr:eU (k+3) X.A)(cd:fW X.K X.env.code P)(bm:BM X.mg X.base)(FH:Gl X "sorted")(hm:X.mg "sorted"=none)(he:PE X e te)(hB:Oa sc X.env.scope.names [x] N2 X.N=true)
  (hbind:∀qual cl pm c ctv u,bindArgs (PySem.W.kla_fn "<lambda>" qual args body sc cl pm c ctv) ⟨[u],[]⟩=pure [(x,u)])
  (hbody:∀q f cd s H,PE (X.lam X.A.in1.in1 sc ([x]++N2) q f cd s H) body tb)
  (hdef:defaultsOf args X.env=([],[]):=by rfl)
  (hkw:keywordEach [⟨some "key",.Lambda args body sc Gw,kpos⟩] X.env=[(some (Str.ofString "key"),eval (.Lambda args body sc Gw) X.env)]:=by rfl)
  (hse:starEach [e] X.env=(false,eval e X.env)::starEach [] X.env:=by rfl)(hst:backTo pos (starEach [e] X.env)=(false,eval e X.env)::backTo pos (starEach [] X.env):=by rfl)
  (hpl:(backTo pos (starEach [e] X.env)).any (·.1)=false:=by rfl):PE X (.Call (.Name "sorted" p) [e] [⟨some "key",.Lambda args body sc Gw,kpos⟩] pos) (Jj tb X.K P te):=by
 intro pins s σ H Q I h
 unfold Oa at hB
 simp only[Bool.and_eq_true]at hB
 obtain⟨⟨⟨⟨⟨h1,h2⟩,h3⟩,h4⟩,h5⟩,h6⟩:=hB
 have Bk:=qf h1
 have nc:∀y∈sc.names,y.2≠ .cell:=λy hy=>by
  have q:=List.all_eq_true.mp h5 y hy
  simpa using q
 have hx:sc.names.lookup x=some .local:=by
  have q:=List.all_eq_true.mp h6 x (by simp)
  simpa using q
 refine wpAny_Call_Name_kw (kK I FH hm PyProof.Rows.boot_sorted ?_)
 refine PyProof.Rows.callWith_kw (fX ((af he aj hse) pos pins s σ H (λvs H1=>match vs with| [v]=>CD tb X.K P σ v H1 Q|_=>False) I h) λus s1 ⟨vs,H1,I1,r,q⟩=> ?_) hst hpl
 match vs,r,q with
 | [v],r,q=>
  obtain⟨l,ys,kf,rfl,hq,h64,hP,step,fin⟩:=q
  obtain⟨u,rfl,ru⟩:=vals1 r
  cases ru
  show wpAny _ _ (evalAll [do let v<-eval (.Lambda args body sc Gw) X.env;standAt pos;pure v]) _ _ s1
  refine wpAny_evalAll_cons (wpAny_bind (DM I1 cd hP bm Bk hdef λf H2 s2 I2 sm fr L=>wpAny_bind (wpAny_standAt (wpAny_pure (wpAny_evalAll_nil ?_)))))
  refine zg (kf:=kf) I2 (Gv hq sm) h64 (λpA v Hi u si hv Sd rv J=> ?_) λHn zs Uy pz so=>fin Hn zs (sm.trans Uy) pz so
  exact Ja J (L.same Sd) Bk (by simpa using h2) (by simpa using h3) (by simpa using h4) nc hx hbind J.ok.frames (J.ok.hd hc) hr.depth (λq cd=>hbody q f cd si Hi) rv (step v hv Hi (sm.trans Sd))
end
end L2
namespace L2
open PySem PySem.Spec PyProof.Rows
section
variable{M:Model}{A:Around}{E:Value->Shared->Prop}{s:Shared}{base:Heap}{env:Env}{outer:List Env}{L e:Addr}{cls a0:Value}
end
section
variable{P:Program}{w:World}{K:PySem.W.Frag}{mg:Str->Option Value}{base:Heap}{N:List Str}{qual:Str}{scope:Scope}{f:Addr}{cd:Value}{A:Around}{outer:List Env}{s:Shared}{H:Hp}{E:XK}
end
section
variable{X:Cx}{pins:List (Addr×Obj)}{σ:St}{H:Hp}{s:Shared}
def Ends.behind(D:Ends)(i:Nat):Ends:={nx:=λσ H=>D.nx (σ.set i none) H,rt:=D.rt,bk:=λσ H=>D.bk (σ.set i none) H,ct:=λσ H=>D.ct (σ.set i none) H}
end
end L2
namespace L2
open PySem PySem.Spec PyProof.Rows PySem.W Builtin Builtin.ObjectAttr Builtin.Getset_descriptor
section
variable{K:Frag}{x D:Addr}
end
end L2
namespace L2
open PySem PySem.Spec PyProof.Rows
section
variable{P:Program}{w:World}{K:PySem.W.Frag}{mg:Str->Option Value}{base:Heap}
end
section
variable{X:Cx}{pins:List (Addr×Obj)}{σ:St}{H:Hp}{s:Shared}
end
section
variable{X:Cx}
end
structure cZ(P:Program)(w:World)(K:PySem.W.Frag)(mg:Str->Option Value)(base:Heap)(C:Dm)(k:Nat)(x:Str)(ps:List Str)(sp:Sp):Prop where
 ex:∃f fd,pD P w K mg base C k f fd ps sp/\Binds K fd ps []/\PySem.W.keepIn K (.ref f)=true/\mg x=some (.ref f)
structure eZ(K:PySem.W.Frag)(mg:Str->Option Value)(x:Str)(st:Stmt)(ps:List Str):Prop where
 ex:∃f fd,JK K x x st f fd/\Binds K fd ps []/\mg x=some (.ref f)
structure nN(K:PySem.W.Frag)(mg:Str->Option Value)(x:Str)(st:Stmt)(ps:List Str)(T:Addr):Prop where
 ex:∃f fd,DE K x x st f fd T/\Binds K fd ps []/\mg x=some (.ref f)
section
variable{P:Program}{w:World}{K:PySem.W.Frag}{mg:Str->Option Value}{base:Heap}{C:Dm}{x:Str}{st:Stmt}{N ps:List Str}{j k:Nat}{sp:Sp}{T:Addr}
theorem cZ.mono(F:cZ P w K mg base C j x ps sp)(h:j<=k:=by decide):cZ P w K mg base C k x ps sp:=by
 obtain⟨f,fd,a,b⟩:=F.ex
 exact⟨f,fd,a.mono h,b⟩
theorem eZ.ok(F:eZ K mg x st ps)(S:aK N ps (az st))(len:∀vs H Q E,sp vs H Q E->vs.length=ps.length)
  (hbody:∀f (cdv:Value) (A:Around) (outer:List Env) (s:Shared) (H:Hp) (vs:List V) (Q:VK) (E:XK),eU k (A.deeper (envOfC x (az st) s.heap.objs.size f cdv)) ->sp vs H Q E->
   ∃t,wO (wX cP P w K mg base N x (az st) f cdv A outer s H E).EI (eL st) t/\t {nx:=λ_ H'=>Q .jc H',rt:=Q} (start N vs) H):cZ P w K mg base cP (k+1) x ps sp:=by
 obtain⟨f,fd,a,b,m⟩:=F.ex
 exact⟨f,fd,a.ok S len (hbody f),b,a.kp,m⟩
theorem nN.ok(F:nN K mg x st ps T)(S:aK N ps (az st))(len:∀vs H Q E,sp vs H Q E->vs.length=ps.length)
  (hbody:∀f (cdv:Value) (A:Around) (outer:List Env) (s:Shared) (H:Hp) (vs:List V) (Q:VK) (E:XK),fW K cdv T->eU k (A.deeper (envOfC x (az st) s.heap.objs.size f cdv)) ->sp vs H Q E->
   ∃t,wO (wX cP P w K mg base N x (az st) f cdv A outer s H E).EI (eL st) t/\t {nx:=λ_ H'=>Q .jc H',rt:=Q} (start N vs) H):cZ P w K mg base cP (k+1) x ps sp:=by
 obtain⟨f,fd,a,b,m⟩:=F.ex
 exact⟨f,fd,a.ok S len (hbody f),b,a.kp,m⟩
end
theorem aN{X:Cx}{CX:Dm}{k:Nat}{ps:List Str}{sp:Sp}{E:XK}{x:Str}{p pos:Pos}{e:Expr}{es:List Expr}{t:TA}(F:cZ X.prog X.w X.K X.mg X.base CX k x ps sp)(hr:eU k X.A)(hg:Gl X x)(hx:Passes CX X E)(ha:PA X (e::es) t)
  (hdb:(x==("__debug__":Str))=false:=by decide)(he:starEach (e::es) X.env=(false,eval e X.env)::starEach es X.env:=by rfl)(hpl:(backTo pos (starEach es X.env)).any (·.1)=false:=by rfl):
  PE X (.Call (.Name x p) (e::es) [] pos) (lY sp [] E t):=by
 obtain⟨f,fd,a,b,kp,m⟩:=F.ex
 exact Ii a hr hg m kp b .nil hx ha hdb he hpl
def FnAt(K:PySem.W.Frag)(x:Str)(st:Stmt)(f:Addr):Prop:=∃(oc:Value)(od an:Option Addr)(sl:Array (Option Value))(kV dc pm cd ct:Value),PySem.W.nsIn K mainGlobals x=some (some (.ref f))/\
 K.lookup f=some ⟨oc,od,.func (PySem.W.fnOf x x (gi st) (eL st) (az st) .none kV dc pm an cd ct),sl⟩/\PySem.W.codeIn K cd x=true/\PySem.W.keepIn K (.ref f)=true
theorem fnAt{K:PySem.W.Frag}{x:Str}{st:Stmt}{f:Addr}{oc:Value}{od an:Option Addr}{sl:Array (Option Value)}{kV dc pm cd ct:Value}(a:PySem.W.nsIn K mainGlobals x=some (some (.ref f)):=by k_is)
  (l:K.lookup f=some ⟨oc,od,.func (PySem.W.fnOf x x (gi st) (eL st) (az st) .none kV dc pm an cd ct),sl⟩:=by k_is)(c:PySem.W.codeIn K cd x=true:=by k_is)(k:PySem.W.keepIn K (.ref f)=true:=by k_is):FnAt K x st f:=
 ⟨oc,od,an,sl,kV,dc,pm,cd,ct,a,l,c,k⟩
section
variable{q:Program}{loose:List Str}{mean:ExcName->Option Value}{mg mb:Str->Option Value}{h:Heap}{K:PySem.W.Frag}{x:Str}{st:Stmt}{f:Addr}{ps:List Str}
theorem FnAt.fun(Tp:Top q loose mean mg mb h)(X:K.In h)(A:FnAt K x st f)
  (hb:∀(kV doc pm:Value)(an:Option Addr)(cdv ct:Value)(us:List Value),us.length=ps.length->bindArgs (PySem.W.fnOf x x (gi st) (eL st) (az st) .none kV doc pm an cdv ct) ⟨us,[]⟩=pure (ps.zip us):=by exact λ_ _ _ _ _ _ us hl=>by first|(match us,hl with| [_],_=>rfl)|(match us,hl with| [_,_],_=>rfl)|(match us,hl with| [_,_,_],_=>rfl)|(match us,hl with| [_,_,_,_],_=>rfl)|(match us,hl with| [_,_,_,_,_],_=>rfl)|(match us,hl with| [_,_,_,_,_,_],_=>rfl)):eZ K mg x st ps:=by
 obtain⟨oc,od,an,sl,kV,dc,pm,cd,ct,a,l,c,k⟩:=A
 have F:=Fj (st:=st) l c k
 exact⟨f,_,F,F.binds hb,PySem.W.mg_of X Tp.g a⟩
theorem FnAt.AS(Tp:Top q loose mean mg mb h)(X:K.In h)(A:FnAt K x st f){d:DefRec}(r:(recsOf q).find? (λe=>e.name==x)=some d)
  (hb:∀(kV doc pm:Value)(an:Option Addr)(cdv ct:Value)(us:List Value),us.length=ps.length->bindArgs (PySem.W.fnOf x x (gi st) (eL st) (az st) .none kV doc pm an cdv ct) ⟨us,[]⟩=pure (ps.zip us):=by exact λ_ _ _ _ _ _ us hl=>by first|(match us,hl with| [_],_=>rfl)|(match us,hl with| [_,_],_=>rfl)|(match us,hl with| [_,_,_],_=>rfl)|(match us,hl with| [_,_,_,_],_=>rfl)|(match us,hl with| [_,_,_,_,_],_=>rfl)|(match us,hl with| [_,_,_,_,_,_],_=>rfl)):
  ∃T,nN K mg x st ps T/\isCodeTable h T/\h.get? T=some {cls:= .none,data:= .fields #[]}/\tabOf K f=some (.ref T):=by
 obtain⟨oc,od,an,sl,kV,dc,pm,cd,ct,a,l,c,k⟩:=A
 have m:=PySem.W.mg_of X Tp.g a
 obtain⟨T,cA,cT,cE⟩:=Aq Tp r X m l (show PySem.W.codeIn K (PySem.W.fnOf x x (gi st) (eL st) (az st) .none kV dc pm an cd ct).code x=true from c)
 have F:DE K x x st f _ T:=⟨⟨oc,od,kV,dc,pm,an,cd,ct,sl,rfl,l,c,cA⟩,k⟩
 exact⟨T,⟨f,_,F,F.fn.binds hb,m⟩,cT,cE,yN l cA⟩
end
end L2
set_option maxHeartbeats 1000000
namespace CR
open PySem L2
def top(i:Nat):Stmt:=PySem.Challenge.pw_conekin_k21_forms_far_off.main.body.getD i (.Pass ⟨0,0,0,0⟩)
abbrev nZ:Stmt:=top 6
abbrev ic:List Str:=["thing"]
theorem zh:aK ["thing"] ic (az nZ):=⟨rfl,rfl,rfl,by decide+kernel,rfl,by decide+kernel,by decide+kernel⟩
abbrev tS:Stmt:=top 7
abbrev mK:List Str:=["thing"]
theorem Eb:aK ["thing"] mK (az tS):=⟨rfl,rfl,rfl,by decide+kernel,rfl,by decide+kernel,by decide+kernel⟩
abbrev n9:Stmt:=top 8
abbrev jB:List Str:=["thing"]
theorem zj:aK ["thing"] jB (az n9):=⟨rfl,rfl,rfl,by decide+kernel,rfl,by decide+kernel,by decide+kernel⟩
abbrev qp:Stmt:=top 9
abbrev kB:List Str:=["one","other"]
theorem AU:aK ["one","other"] kB (az qp):=⟨rfl,rfl,rfl,by decide+kernel,rfl,by decide+kernel,by decide+kernel⟩
abbrev jY:Stmt:=top 10
abbrev fE:List Str:=["table"]
theorem tT:aK ["table"] fE (az jY):=⟨rfl,rfl,rfl,by decide+kernel,rfl,by decide+kernel,by decide+kernel⟩
abbrev jC:Stmt:=top 11
abbrev fM:List Str:=["table","i","j"]
theorem iP:aK ["table","i","j","row","next_row","column","next_column"] fM (az jC):=⟨rfl,rfl,rfl,by decide+kernel,rfl,by decide+kernel,by decide+kernel⟩
abbrev jZ:Stmt:=top 12
abbrev eH:List Str:=["table"]
theorem cu:aK ["table","a","b","c","d","e","f","g","h","i"] eH (az jZ):=⟨rfl,rfl,rfl,by decide+kernel,rfl,by decide+kernel,by decide+kernel⟩
abbrev xJ:Stmt:=top 13
abbrev pU:List Str:=["table"]
theorem GH:aK ["table"] pU (az xJ):=⟨rfl,rfl,rfl,by decide+kernel,rfl,by decide+kernel,by decide+kernel⟩
abbrev qt:Stmt:=top 14
abbrev kC:List Str:=["table","by"]
theorem AV:aK ["table","by"] kC (az qt):=⟨rfl,rfl,rfl,by decide+kernel,rfl,by decide+kernel,by decide+kernel⟩
abbrev iQ:Stmt:=top 17
abbrev fz:List Str:=["thing"]
theorem qu:aK ["thing"] fz (az iQ):=⟨rfl,rfl,rfl,by decide+kernel,rfl,by decide+kernel,by decide+kernel⟩
abbrev qv:Stmt:=top 18
abbrev kD:List Str:=["thing"]
theorem AW:aK ["thing"] kD (az qv):=⟨rfl,rfl,rfl,by decide+kernel,rfl,by decide+kernel,by decide+kernel⟩
abbrev qw:Stmt:=top 19
abbrev ie:List Str:=["table","one","other"]
theorem kW:aK ["table","one","other","x","y","z"] ie (az qw):=⟨rfl,rfl,rfl,by decide+kernel,rfl,by decide+kernel,by decide+kernel⟩
abbrev xK:Stmt:=top 20
abbrev kX:List Str:=["table","row"]
theorem GI:aK ["table","row"] kX (az xK):=⟨rfl,rfl,rfl,by decide+kernel,rfl,by decide+kernel,by decide+kernel⟩
abbrev qx:Stmt:=top 21
abbrev kE:List Str:=["table"]
theorem oh:aK ["table","first","mixed"] kE (az qx):=⟨rfl,rfl,rfl,by decide+kernel,rfl,by decide+kernel,by decide+kernel⟩
abbrev AX:Stmt:=top 22
abbrev qy:List Str:=["form"]
theorem CF:aK ["form","told"] qy (az AX):=⟨rfl,rfl,rfl,by decide+kernel,rfl,by decide+kernel,by decide+kernel⟩
abbrev om:Stmt:=top 24
abbrev ig:List Str:=["form","rows"]
theorem zk:aK ["form","rows"] ig (az om):=⟨rfl,rfl,rfl,by decide+kernel,rfl,by decide+kernel,by decide+kernel⟩
abbrev kY:Stmt:=top 25
abbrev fU:List Str:=["row","times","other"]
theorem uV:aK ["row","times","other"] fU (az kY):=⟨rfl,rfl,rfl,by decide+kernel,rfl,by decide+kernel,by decide+kernel⟩
abbrev qz:Stmt:=top 26
abbrev kF:List Str:=["top","bottom"]
theorem AY:aK ["top","bottom"] kF (az qz):=⟨rfl,rfl,rfl,by decide+kernel,rfl,by decide+kernel,by decide+kernel⟩
abbrev kZ:Stmt:=top 27
abbrev gK:List Str:=["form","one","other"]
theorem j3:aK ["form","one","other"] gK (az kZ):=⟨rfl,rfl,rfl,by decide+kernel,rfl,by decide+kernel,by decide+kernel⟩
abbrev oq:Stmt:=top 28
abbrev jD:List Str:=["form","one","other","third"]
theorem fN:aK ["form","one","other","third","across","along","aside","by_one","by_other","area","first","second","corners"] jD (az oq):=⟨rfl,rfl,rfl,by decide+kernel,rfl,by decide+kernel,by decide+kernel⟩
abbrev k8:Stmt:=top 29
abbrev gM:List Str:=["form"]
theorem cL:aK ["form","one","other","third"] gM (az k8):=⟨rfl,rfl,rfl,by decide+kernel,rfl,by decide+kernel,by decide+kernel⟩
abbrev AZ:Stmt:=top 30
abbrev qA:List Str:=["form"]
theorem CG:aK ["form","basis"] qA (az AZ):=⟨rfl,rfl,rfl,by decide+kernel,rfl,by decide+kernel,by decide+kernel⟩
abbrev Ba:Stmt:=top 33
abbrev qB:List Str:=["number"]
theorem xM:aK ["number","told"] qB (az Ba):=⟨rfl,rfl,rfl,by decide+kernel,rfl,by decide+kernel,by decide+kernel⟩
abbrev tU:Stmt:=top 34
abbrev mL:List Str:=["table","n"]
theorem cJ:aK ["table","n","first","mixed","far","second","third","flat","bent","high","whole","most","told","reach","z","span","y","left"] mL (az tU):=⟨rfl,rfl,rfl,by decide+kernel,rfl,by decide+kernel,by decide+kernel⟩
abbrev mO:Stmt:=top 35
abbrev gw:List Str:=["table","n"]
theorem c9:aK ["table","n","first","told","y","z","shift","left","side","sides","number"] gw (az mO):=⟨rfl,rfl,rfl,by decide+kernel,rfl,by decide+kernel,by decide+kernel⟩
abbrev ou:Stmt:=top 36
abbrev jE:List Str:=["row","basis"]
theorem zm:aK ["row","basis"] jE (az ou):=⟨rfl,rfl,rfl,by decide+kernel,rfl,by decide+kernel,by decide+kernel⟩
abbrev iR:Stmt:=top 37
abbrev ef:List Str:=["n","greatest"]
theorem qC:aK ["n","greatest"] ef (az iR):=⟨rfl,rfl,rfl,by decide+kernel,rfl,by decide+kernel,by decide+kernel⟩
abbrev qD:Stmt:=top 38
abbrev kG:List Str:=["form","n"]
theorem ow:aK ["form","n","table","basis"] kG (az qD):=⟨rfl,rfl,rfl,by decide+kernel,rfl,by decide+kernel,by decide+kernel⟩
abbrev oA:Stmt:=top 39
abbrev jF:List Str:=["form","n"]
theorem zo:aK ["form","n"] jF (az oA):=⟨rfl,rfl,rfl,by decide+kernel,rfl,by decide+kernel,by decide+kernel⟩
abbrev jG:Stmt:=top 41
abbrev fO:List Str:=["_law_script","_law_k"]
theorem rW:aK ["_law_script","_law_k"] fO (az jG):=⟨rfl,rfl,rfl,by decide+kernel,rfl,by decide+kernel,by decide+kernel⟩
abbrev j4:Stmt:=top 42
abbrev f9:List Str:=["_law_script","_law_k"]
theorem dW:aK ["_law_script","_law_k","_law_x","_law_total","_law_j"] f9 (az j4):=⟨rfl,rfl,rfl,by decide+kernel,rfl,by decide+kernel,by decide+kernel⟩
abbrev k9:Stmt:=top 43
abbrev gO:List Str:=["_law_row","_law_column"]
theorem uW:aK ["_law_row","_law_column"] gO (az k9):=⟨rfl,rfl,rfl,by decide+kernel,rfl,by decide+kernel,by decide+kernel⟩
abbrev jH:Stmt:=top 44
abbrev fP:List Str:=["_law_one","_law_other"]
theorem lZ:aK ["_law_one","_law_other","_law_over_here"] fP (az jH):=⟨rfl,rfl,rfl,by decide+kernel,rfl,by decide+kernel,by decide+kernel⟩
abbrev mP:Stmt:=top 45
abbrev gz:List Str:=["_law_table"]
theorem xN:aK ["_law_table"] gz (az mP):=⟨rfl,rfl,rfl,by decide+kernel,rfl,by decide+kernel,by decide+kernel⟩
abbrev oB:Stmt:=top 46
abbrev gq:List Str:=["_law_t"]
theorem jP:aK ["_law_t","_law_first","_law_second","_law_third"] gq (az oB):=⟨rfl,rfl,rfl,by decide+kernel,rfl,by decide+kernel,by decide+kernel⟩
abbrev lq:Stmt:=top 47
abbrev gP:List Str:=["_law_a","_law_b","_law_c","_law_big"]
theorem fF:aK ["_law_a","_law_b","_law_c","_law_big","_law_p","_law_q","_law_r","_law_found"] gP (az lq):=⟨rfl,rfl,rfl,by decide+kernel,rfl,by decide+kernel,by decide+kernel⟩
abbrev mQ:Stmt:=top 48
abbrev iE:List Str:=["_law_big","_law_most"]
theorem cy:aK ["_law_big","_law_most","_law_a","_law_b","_law_c","_law_found"] iE (az mQ):=⟨rfl,rfl,rfl,by decide+kernel,rfl,by decide+kernel,by decide+kernel⟩
abbrev lu:Stmt:=top 49
abbrev gQ:List Str:=["_law_big","_law_most","_law_far"]
theorem cN:aK ["_law_big","_law_most","_law_far","_law_rows_here","_law_many","_law_k","_law_i","_law_j","_law_often"] gQ (az lu):=⟨rfl,rfl,rfl,by decide+kernel,rfl,by decide+kernel,by decide+kernel⟩
abbrev mR:Stmt:=top 50
abbrev gC:List Str:=["_law_number_here"]
theorem e7:aK ["_law_number_here","_law_high","_law_low","_law_middle"] gC (az mR):=⟨rfl,rfl,rfl,by decide+kernel,rfl,by decide+kernel,by decide+kernel⟩
abbrev ly:Stmt:=top 51
abbrev gR:List Str:=["_law_t","_law_n","_law_k"]
theorem j5:aK ["_law_t","_law_n","_law_k","_law_i","_law_j","_law_plain"] gR (az ly):=⟨rfl,rfl,rfl,by decide+kernel,rfl,by decide+kernel,by decide+kernel⟩
abbrev mS:Stmt:=top 52
abbrev iF:List Str:=["_law_t","_law_n"]
theorem cR:aK ["_law_t","_law_n","_law_found","_law_wide","_law_far","_law_x","_law_y","_law_own","_law_mixed","_law_square","_law_side","_law_top"] iF (az mS):=⟨rfl,rfl,rfl,by decide+kernel,rfl,by decide+kernel,by decide+kernel⟩
abbrev iS:Stmt:=top 53
abbrev fB:List Str:=["_law_found"]
theorem kH:aK ["_law_found","_law_row"] fB (az iS):=⟨rfl,rfl,rfl,by decide+kernel,rfl,by decide+kernel,by decide+kernel⟩
abbrev lz:Stmt:=top 54
abbrev gS:List Str:=["_law_t","_law_row"]
theorem gb:aK ["_law_t","_law_row","_law_total","_law_i","_law_j"] gS (az lz):=⟨rfl,rfl,rfl,by decide+kernel,rfl,by decide+kernel,by decide+kernel⟩
abbrev pV:Stmt:=top 55
abbrev Oc:List Str:=["_law_script"]
theorem oE:aK ["_law_script","_law_form_here","_law_basis_here","_law_there","_law_n","_law_found","_law_k"] Oc (az pV):=⟨rfl,rfl,rfl,by decide+kernel,rfl,by decide+kernel,by decide+kernel⟩
section
variable{P:Program}{w:World}{K:PySem.W.Frag}{mg:Str->Option Value}{base:Heap}
inductive GJ(T0:Addr)(vs:List V)(H:Hp)(Q:VK)(E:XK):Prop
 |mk(t1:Addr)(b1:List Addr)(m1:List (List Int))(t2:Addr)(b2:List Addr)(m2:List (List Int))(_:vs=[.ref t1,.ref t2])(_:Tab H t1 b1 m1)(_:Tab H t2 b2 m2)(_:cB m1)(_:cB m2)(_:Bd 4096 m1)(_:Bd 4096 m2)(_:H T0=some (dH T0))(_:∀r bs H',ay H H'->H r=none->(∀b∈bs,H b=none) ->r∉bs->Tab H' r bs (iC m1 m2) ->Q (.ref r) H')
theorem Bb{bu:Addr}(F:nN K mg "product" qp kB bu)(bm:BM mg base)(pW:mg "sum"=none)(aO:mg "range"=none):cZ P w K mg base cP 1 "product" kB (GJ bu):=by
 refine F.ok AU (λvs H Q E h=> ?_) (λf cdv A outer s H vs Q E cd hr h=> ?_)
 ·obtain⟨t1,b1,m1,t2,b2,m2,rfl,h1,h2,c1,c2,d1,d2,hP,q⟩:=h
  rfl
 obtain⟨t1,b1,m1,t2,b2,m2,rfl,h1,h2,c1,c2,d1,d2,hP,q⟩:=h
 have hu:=hr.units
 refine⟨_,(cK (aT (gk (N2:=["one","other"]) (te:=(pG 1 (rq (cW (tC (.int 3)) jo)) (dJ 0) (vQ 1 bu (rq (cW (tC (.int 3)) jo)) (dJ 0) (gY (rI jv λi j=> .int (i*j)) (gY (fY K) (gY (fY K) (bH 3) (bH 2)) (bH 0)) (gY (fY K) (gY (fY K) (bH 4) (bH 0)) (bH 1)))))) rfl (cF rfl aO (af ah aj)) (by kernel_rfl) rfl (λ_ _ _=>by exact iM (gk (N2:=["i","one","other"]) (te:=(vQ 1 bu (rq (cW (tC (.int 3)) jo)) (dJ 0) (gY (rI jv λi j=> .int (i*j)) (gY (fY K) (gY (fY K) (bH 3) (bH 2)) (bH 0)) (gY (fY K) (gY (fY K) (bH 4) (bH 0)) (bH 1))))) rfl (cF rfl aO (af ah aj)) (by kernel_rfl) rfl (λ_ _ _=>by exact iM (Cm (N2:=["j","i","one","other"]) (te:=(gY (rI jv λi j=> .int (i*j)) (gY (fY K) (gY (fY K) (bH 3) (bH 2)) (bH 0)) (gY (fY K) (gY (fY K) (bH 4) (bH 0)) (bH 1)))) rfl (eU.depth hr) cd bm rfl pW (cF rfl aO (af ah aj)) (by kernel_rfl) (λ_ _ _ _=>by exact iM (ai aB (aC ao (aC ao (pv 3) (pv 2) (λ_ _=>rfl)) (pv 0) (λ_ _=>rfl)) (aC ao (aC ao (pv 4) (pv 0) (λ_ _=>rfl)) (pv 1) (λ_ _=>rfl))))))))))),?_⟩
 refine⟨3,rfl,by decide,by decide,λD hD=>pK (fy (n:=3)) rfl hD _ (λi x hi ex H1 Q1 s1 k1=> ?_) (λbs H1 s1 fr nD hT=>q D bs H1 s1 hD fr nD hT)⟩
 obtain⟨_,rfl⟩:=d7 ex
 refine⟨3,rfl,by decide,by decide,λD2 CH=>kT (fy (n:=3)) rfl CH (λj=>ent m1 i 0*ent m2 0 j+ent m1 i 1*ent m2 1 j+ent m1 i 2*ent m2 2 j) (λj x hj GK H2 Q2 s2 k2=> ?_) (λH2 s2 e2=>k1 D2 H2 CH s2 e2)⟩
 obtain⟨_,rfl⟩:=d7 GK
 refine⟨3,rfl,by decide,by decide,FT (fy (n:=3)) (s2 _ _ (s1 _ _ hP)) (λk=>ent m1 i k*ent m2 k j) (λk x Qu H3 Q3 s3 k3=> ?_) (λH3 s3=> ?_)⟩
 ·obtain⟨hk,rfl⟩:=d7 Qu
  have sm:=s1.trans (s2.trans s3)
  obtain⟨b,row,e1,e2,e3⟩:=kR (h1.same sm) c1 hi hk
  obtain⟨b',Qv,yK,Fv,Qw⟩:=kR (h2.same sm) c2 hk hj
  exact⟨_,rfl,_,rfl,t1,_,_,_,rfl,rfl,aP.of (h1.same sm).1,e1,_,rfl,b,_,_,_,rfl,rfl,aP.of e2,e3,_,rfl,_,rfl,t2,_,_,_,rfl,rfl,aP.of (h2.same sm).1,yK,_,rfl,b',_,_,_,rfl,rfl,aP.of Fv,Qw,_,_,rfl,rfl,⟨d1 i k hi hk,d2 k j hk hj⟩,k3 H3 (ay.refl _)⟩
 ·have:=k2 H3 s3
  rw[show preSum (λk=>ent m1 i k*ent m2 k j) (kQ 3).length=_ from ND _]
  exact this
inductive qE(vs:List V)(H:Hp)(Q:VK)(E:XK):Prop
 |mk(t1:Addr)(b1:List Addr)(m1:List (List Int))(_:vs=[.ref t1])(_:Tab H t1 b1 m1)(_:cB m1)(_:∀r bs H',ay H H'->H r=none->(∀b∈bs,H b=none) ->r∉bs->Tab H' r bs (cQ m1) ->Q (.ref r) H')
theorem tV(F:eZ K mg "turned_over" jY fE)(aO:mg "range"=none):cZ P w K mg base cP 1 "turned_over" fE qE:=by
 refine F.ok tT (λvs H Q E h=> ?_) (λf cdv A outer s H vs Q E hr h=> ?_)
 ·obtain⟨t1,b1,m1,rfl,h1,c1,q⟩:=h
  rfl
 obtain⟨t1,b1,m1,rfl,h1,c1,q⟩:=h
 have hu:=hr.units
 refine⟨_,(cK (aT (gk (N2:=["table"]) (te:=(pG 1 (rq (cW (tC (.int 3)) jo)) (dJ 0) (gY (fY K) (gY (fY K) (bH 2) (bH 0)) (bH 1)))) rfl (cF rfl aO (af ah aj)) (by kernel_rfl) rfl (λ_ _ _=>by exact iM (gk (N2:=["i","table"]) (te:=(gY (fY K) (gY (fY K) (bH 2) (bH 0)) (bH 1))) rfl (cF rfl aO (af ah aj)) (by kernel_rfl) rfl (λ_ _ _=>by exact iM (aC ao (aC ao (pv 2) (pv 0) (λ_ _=>rfl)) (pv 1) (λ_ _=>rfl)))))))),?_⟩
 refine⟨3,rfl,by decide,by decide,λD hD=>pK (fy (n:=3)) rfl hD _ (λi x hi ex H1 Q1 s1 k1=> ?_) (λbs H1 s1 fr nD hT=>q D bs H1 s1 hD fr nD hT)⟩
 obtain⟨_,rfl⟩:=d7 ex
 refine⟨3,rfl,by decide,by decide,λD2 CH=>kT (fy (n:=3)) rfl CH (λj=>ent m1 j i) (λj x hj GK H2 Q2 s2 k2=> ?_) (λH2 s2 e2=>k1 D2 H2 CH s2 e2)⟩
 obtain⟨_,rfl⟩:=d7 GK
 have sm:=s1.trans s2
 obtain⟨b,row,e1,e2,e3⟩:=kR (h1.same sm) c1 hj hi
 exact⟨_,rfl,_,rfl,t1,_,_,_,rfl,rfl,aP.of (h1.same sm).1,e1,_,rfl,b,_,_,_,rfl,rfl,aP.of e2,e3,k2 H2 (ay.refl _)⟩
inductive sM(K:PySem.W.Frag)(vs:List V)(H:Hp)(Q:VK)(E:XK):Prop
 |mk(t:Addr)(bs:List Addr)(m:List (List Int))(i j:Nat)(_:vs=[.ref t,.int (i:Int),.int (j:Int)])(_:Tab H t bs m)(_:cB m)(_:i<3)(_:j<3)(_:Bd 4096 m)(_:Q (.int (fZ m i j)) H)
theorem rX(F:eZ K mg "signed_minor" jC fM):cZ P w K mg base cP 1 "signed_minor" fM (sM K):=by
 refine F.ok iP (λvs H Q E h=> ?_) (λf cdv A outer s H vs Q E hr h=> ?_)
 ·obtain⟨t,bs,m,i,j,rfl,hT,bO,hi,hj,hB,q⟩:=h
  rfl
 obtain⟨t,bs,m,i,j,rfl,hT,bO,hi,hj,hB,q⟩:=h
 have hu:=hr.units
 refine⟨_,(kU (@ak _ _ _ _ _ (qc (i:=3) (j:=4) rfl iP.nd rfl rfl (by decide) rfl rfl (af (aC ao (pv 0) (ai cS (ai aR (pv 1) ah) ah) (λ_ _=>rfl)) (af (aC ao (pv 0) (ai cS (ai aR (pv 1) ah) ah) (λ_ _=>rfl)) aj)) rfl)
  (@ak _ _ _ _ _ (qc (i:=5) (j:=6) rfl iP.nd rfl rfl (by decide) rfl rfl (af (ai cS (ai aR (pv 2) ah) ah) (af (ai cS (ai aR (pv 2) ah) ah) aj)) rfl)
  (@aI _ _ _ (aT (ai bK (ai aB (aC ao (pv 3) (pv 5) (λ_ _=>rfl)) (aC ao (pv 4) (pv 6) (λ_ _=>rfl))) (ai aB (aC ao (pv 3) (pv 6) (λ_ _=>rfl)) (aC ao (pv 4) (pv 5) (λ_ _=>rfl))))))))),?_⟩
 obtain⟨b,e1,e2,_⟩:=aX hT bO (i:=(i+1)%3) (uK _)
 obtain⟨b',yK,Fv,_⟩:=aX hT bO (i:=(i+2)%3) (uK _)
 rw[<-m3 i 1]at e1
 rw[<-m3 i 2]at yK
 refine⟨_,rfl,_,rfl,_,_,rfl,rfl,_,_,rfl,rfl,(by show(0:Int)<3;decide),t,_,_,_,rfl,rfl,aP.of hT.1,e1,?_⟩
 refine⟨_,rfl,_,rfl,_,_,rfl,rfl,_,_,rfl,rfl,(by show(0:Int)<3;decide),t,_,_,_,rfl,rfl,aP.of hT.1,yK,_,_,rfl,?_⟩
 refine⟨_,rfl,_,_,rfl,rfl,_,_,rfl,rfl,(by show(0:Int)<3;decide),_,rfl,_,_,rfl,rfl,_,_,rfl,rfl,(by show(0:Int)<3;decide),_,_,rfl,?_⟩
 have a1:=uU (λc=>ent m ((i+1)%3) c) (c:=(j+1)%3) (uK _)
 have a2:=uU (λc=>ent m ((i+2)%3) c) (c:=(j+2)%3) (uK _)
 have a3:=uU (λc=>ent m ((i+1)%3) c) (c:=(j+2)%3) (uK _)
 have a4:=uU (λc=>ent m ((i+2)%3) c) (c:=(j+1)%3) (uK _)
 rw[<-m3 j 1]at a1 a4
 rw[<-m3 j 2]at a2 a3
 refine⟨_,rfl,_,rfl,b,_,_,_,rfl,rfl,aP.of e2,a1,_,rfl,_,rfl,b',_,_,_,rfl,rfl,aP.of Fv,a2,_,_,rfl,rfl,⟨hB _ _ (uK _) (uK _),hB _ _ (uK _) (uK _)⟩,?_⟩
 exact⟨_,rfl,_,rfl,b,_,_,_,rfl,rfl,aP.of e2,a3,_,rfl,_,rfl,b',_,_,_,rfl,rfl,aP.of Fv,a4,_,_,rfl,rfl,⟨hB _ _ (uK _) (uK _),hB _ _ (uK _) (uK _)⟩,_,_,rfl,rfl,q⟩
theorem tW{H:Hp}{t:Addr}{bs:List Addr}{m:List (List Int)}(hT:Tab H t bs m)(bO:cB m):∃c0 c1 c2,bs=[c0,c1,c2]/\bf H c0 (λc=>ent m 0 c)/\bf H c1 (λc=>ent m 1 c)/\bf H c2 (λc=>ent m 2 c):=by
 have l3:bs.length=3:=by rw[<-hT.2.length,bO.1]
 match bs,l3,hT with
 | [c0,c1,c2],_,hT=>
  obtain⟨b0,x1,x2,_⟩:=aX hT bO (i:=0) (by decide)
  obtain⟨b1,y1,y2,_⟩:=aX hT bO (i:=1) (by decide)
  obtain⟨b2,w1,w2,_⟩:=aX hT bO (i:=2) (by decide)
  cases x1;cases y1;cases w1
  exact⟨c0,c1,c2,rfl,x2,y2,w2⟩
inductive CI(vs:List V)(H:Hp)(Q:VK)(E:XK):Prop
 |mk(t:Addr)(bs:List Addr)(m:List (List Int))(_:vs=[.ref t])(_:Tab H t bs m)(_:cB m)(_:Bd 1000 m)(_:True)(_:∀H',ay H H'->Q (.int (aA m)) H')
theorem tX(F:eZ K mg "determinant" jZ eH):cZ P w K mg base cP 3 "determinant" eH CI:=by
 refine F.ok cu (λvs H Q E h=> ?_) (λf cdv A outer s H vs Q E hr h=> ?_)
 ·obtain⟨t,bs,m,rfl,hT,bO,hB,hP,q⟩:=h
  rfl
 obtain⟨t,bs,m,rfl,hT,bO,hB,hP,q⟩:=h
 have hu:=hr.units
 refine⟨_,(kU (@ak _ _ _ _ _ (kN (pv 0) (jh rfl (aQ (jh rfl (aQ (aL (i:=1) cu.nd rfl (Or.inl rfl)) (aQ (aL (i:=2) cu.nd rfl (Or.inl rfl)) (aQ (aL (i:=3) cu.nd rfl (Or.inl rfl)) fH)))) (aQ (jh rfl (aQ (aL (i:=4) cu.nd rfl (Or.inl rfl)) (aQ (aL (i:=5) cu.nd rfl (Or.inl rfl)) (aQ (aL (i:=6) cu.nd rfl (Or.inl rfl)) fH)))) (aQ (jh rfl (aQ (aL (i:=7) cu.nd rfl (Or.inl rfl)) (aQ (aL (i:=8) cu.nd rfl (Or.inl rfl)) (aQ (aL (i:=9) cu.nd rfl (Or.inl rfl)) fH)))) fH)))))
  (@aI _ _ _ (aT (ai aR (ai aR (ai aB (pv 1) (ai bK (ai aB (pv 5) (pv 9)) (ai aB (pv 6) (pv 8)))) (ai aB (pv 2) (ai bK (ai aB (pv 6) (pv 7)) (ai aB (pv 4) (pv 9))))) (ai aB (pv 3) (ai bK (ai aB (pv 4) (pv 8)) (ai aB (pv 5) (pv 7))))))))),?_⟩
 obtain⟨c0,c1,c2,rfl,x2,y2,w2⟩:=tW hT bO
 refine⟨_,rfl,t,_,rfl,aP.of hT.1,rfl,_,_,rfl,c0,_,rfl,aP.of x2,rfl,_,_,rfl,_,_,rfl,_,_,rfl,rfl,_,_,rfl,c1,_,rfl,aP.of y2,rfl,_,_,rfl,_,_,rfl,_,_,rfl,rfl,_,_,rfl,c2,_,rfl,aP.of w2,rfl,_,_,rfl,_,_,rfl,_,_,rfl,rfl,rfl,?_⟩
 refine⟨_,rfl,_,rfl,_,rfl,_,_,rfl,rfl,⟨aG (hB 1 1 (by decide) (by decide)) (by decide),aG (hB 2 2 (by decide) (by decide)) (by decide)⟩,_,rfl,_,rfl,_,_,rfl,rfl,⟨aG (hB 1 2 (by decide) (by decide)) (by decide),aG (hB 2 1 (by decide) (by decide)) (by decide)⟩,_,_,rfl,rfl,_,_,rfl,rfl,⟨aG (hB 0 0 (by decide) (by decide)) (by decide),aG (jW (bT (hB 1 1 (by decide) (by decide)) (hB 2 2 (by decide) (by decide))) (bT (hB 1 2 (by decide) (by decide)) (hB 2 1 (by decide) (by decide)))) (by decide)⟩,_,rfl,_,rfl,_,rfl,_,_,rfl,rfl,⟨aG (hB 1 2 (by decide) (by decide)) (by decide),aG (hB 2 0 (by decide) (by decide)) (by decide)⟩,_,rfl,_,rfl,_,_,rfl,rfl,⟨aG (hB 1 0 (by decide) (by decide)) (by decide),aG (hB 2 2 (by decide) (by decide)) (by decide)⟩,_,_,rfl,rfl,_,_,rfl,rfl,⟨aG (hB 0 1 (by decide) (by decide)) (by decide),aG (jW (bT (hB 1 2 (by decide) (by decide)) (hB 2 0 (by decide) (by decide))) (bT (hB 1 0 (by decide) (by decide)) (hB 2 2 (by decide) (by decide)))) (by decide)⟩,_,_,rfl,rfl,_,rfl,_,rfl,_,rfl,_,_,rfl,rfl,⟨aG (hB 1 0 (by decide) (by decide)) (by decide),aG (hB 2 1 (by decide) (by decide)) (by decide)⟩,_,rfl,_,rfl,_,_,rfl,rfl,⟨aG (hB 1 1 (by decide) (by decide)) (by decide),aG (hB 2 0 (by decide) (by decide)) (by decide)⟩,_,_,rfl,rfl,_,_,rfl,rfl,⟨aG (hB 0 2 (by decide) (by decide)) (by decide),aG (jW (bT (hB 1 0 (by decide) (by decide)) (hB 2 1 (by decide) (by decide))) (bT (hB 1 1 (by decide) (by decide)) (hB 2 0 (by decide) (by decide)))) (by decide)⟩,_,_,rfl,rfl,?_⟩
 have e:ent m 0 0*(ent m 1 1*ent m 2 2-ent m 1 2*ent m 2 1)+ent m 0 1*(ent m 1 2*ent m 2 0-ent m 1 0*ent m 2 2)+ent m 0 2*(ent m 1 0*ent m 2 1-ent m 1 1*ent m 2 0)=aA m:=by
  rw[cU]
 have q:=q H (ay.refl _)
 rw[<-e]at q
 exact q
inductive CJ(vs:List V)(H:Hp)(Q:VK)(E:XK):Prop
 |mk(t1:Addr)(b1:List Addr)(m1:List (List Int))(_:vs=[.ref t1])(_:Tab H t1 b1 m1)(_:cB m1)(_:Bd 4096 m1)(_:∀r bs H',ay H H'->H r=none->(∀b∈bs,H b=none) ->r∉bs->Tab H' r bs (iN m1) ->Q (.ref r) H')
theorem GL(F:eZ K mg "cover" xJ pU)(aO:mg "range"=none)(jI:cZ P w K mg base cP 1 "signed_minor" fM (sM K)):cZ P w K mg base cP 2 "cover" pU CJ:=by
 refine F.ok GH (λvs H Q E h=> ?_) (λf cdv A outer s H vs Q E hr h=> ?_)
 ·obtain⟨t1,b1,m1,rfl,h1,c1,d1,q⟩:=h
  rfl
 obtain⟨t1,b1,m1,rfl,h1,c1,d1,q⟩:=h
 have hu:=hr.units
 refine⟨_,(cK (aT (gk (N2:=["table"]) (te:=(pG 1 (rq (cW (tC (.int 3)) jo)) (dJ 0) (lY (sM K) [] E0 (cW (bH 2) (cW (bH 0) (cW (bH 1) jo)))))) rfl (cF rfl aO (af ah aj)) (by kernel_rfl) rfl (λ_ _ _=>by exact iM (gk (N2:=["i","table"]) (te:=(lY (sM K) [] E0 (cW (bH 2) (cW (bH 0) (cW (bH 1) jo))))) rfl (cF rfl aO (af ah aj)) (by kernel_rfl) rfl (λ_ _ _=>by exact iM (aN jI hr rfl aM (af (pv 2) (af (pv 0) (af (pv 1) aj)))))))))),?_⟩
 refine⟨3,rfl,by decide,by decide,λD hD=>pK (fy (n:=3)) rfl hD (λi j=>fZ m1 j i) (λi x hi ex H1 Q1 s1 k1=> ?_) (λbs H1 s1 fr nD hT=>q D bs H1 s1 hD fr nD hT)⟩
 obtain⟨_,rfl⟩:=d7 ex
 refine⟨3,rfl,by decide,by decide,λD2 CH=>kT (fy (n:=3)) rfl CH (λj=>fZ m1 j i) (λj x hj GK H2 Q2 s2 k2=> ?_) (λH2 s2 e2=>k1 D2 H2 CH s2 e2)⟩
 obtain⟨_,rfl⟩:=d7 GK
 exact⟨_,rfl,_,rfl,_,rfl,t1,b1,m1,j,i,rfl,h1.same (s1.trans s2),c1,hj,hi,d1,k2 H2 (ay.refl _)⟩
inductive wk(T0:Addr)(vs:List V)(H:Hp)(Q:VK)(E:XK):Prop
 |mk(t1:Addr)(b1:List Addr)(m1:List (List Int))(t2:Addr)(b2:List Addr)(m2:List (List Int))(_:vs=[.ref t1,.ref t2])(_:Tab H t1 b1 m1)(_:Tab H t2 b2 m2)(_:cB m1)(_:cB m2)(_:Bd 1000 m1)(_:Bd 1000 m2)(_:H T0=some (dH T0))(_:∀r bs H',ay H H'->H r=none->(∀b∈bs,H b=none) ->r∉bs->Tab H' r bs (iC (iC m2 m1) (cQ m2)) ->Q (.ref r) H')
theorem Bc{bu:Addr}(F:eZ K mg "carried" qt kC)(nB:cZ P w K mg base cP 1 "product" kB (GJ bu))(fG:cZ P w K mg base cP 1 "turned_over" fE qE):cZ P w K mg base cP 2 "carried" kC (wk bu):=by
 refine F.ok AV (λvs H Q E h=> ?_) (λf cdv A outer s H vs Q E hr h=> ?_)
 ·obtain⟨t1,b1,m1,t2,b2,m2,rfl,h1,h2,c1,c2,d1,d2,hP,q⟩:=h
  rfl
 obtain⟨t1,b1,m1,t2,b2,m2,rfl,h1,h2,c1,c2,d1,d2,hP,q⟩:=h
 have hu:=hr.units
 refine⟨_,(cK (aT (aN nB hr rfl aM (af (aN nB hr rfl aM (af (pv 1) (af (pv 0) aj))) (af (aN fG hr rfl aM (af (pv 1) aj)) aj))))),?_⟩
 refine⟨_,rfl,_,rfl,t2,b2,m2,t1,b1,m1,rfl,h2,h1,c2,c1,d2.mono (by decide),d1.mono (by decide),hP,λr rs H1 s1 fr frs nr hr=> ?_⟩
 refine⟨_,rfl,t2,b2,m2,rfl,h2.same s1,c2,λo os H2 s2 fo Uz no ho=> ?_⟩
 refine⟨r,rs,_,o,os,_,rfl,hr.same s2,ho,cH _,cH _,(sL d2 d1).mono (by decide),(tG d2).mono (by decide),s2 _ _ (s1 _ _ hP),λu us H3 s3 fu Qx nu UA=> ?_⟩
 have sm:=s1.trans s2
 exact q u us H3 (sm.trans s3) (sm.none fu) (λb hb=>sm.none (Qx b hb)) nu UA
inductive Kd(vs:List V)(H:Hp)(Q:VK)(E:XK):Prop
 |mk(t:Addr)(bs:List Addr)(m:List (List Int))(_:vs=[.ref t])(_:Tab H t bs m)(_:cB m)(_:Bd 440 m)(_:cQ m=m)(_:True)(_:b7 m=true-> ∀H',ay H H'->Q .jc H')(_:b7 m=false-> ∀(x:Nat->Int) a H',ay H H'->H a=none->bf H' a x-> ¬(x 0=0/\x 1=0/\x 2=0) ->av m x x<=0->(∀i,i<3->(x i).natAbs<2^1000) ->Q (.ref a) H')
theorem Be(F:eZ K mg "low_row" qx kE)(dg:cZ P w K mg base cP 3 "determinant" eH CI)(xO:cZ P w K mg base cP 3 "cover" pU CJ):cZ P w K mg base cP 4 "low_row" kE Kd:=by
 refine F.ok oh (λvs H Q E h=> ?_) (λf cdv A outer s H vs Q E hr h=> ?_)
 ·obtain⟨t,bs,m,rfl,hT,bO,hB,hS,hP,q1,q2⟩:=h
  rfl
 obtain⟨t,bs,m,rfl,hT,bO,hB,hS,hP,q1,q2⟩:=h
 have hu:=hr.units
 refine⟨_,(kU (@ak _ _ _ _ _ (aD (i:=1) oh.nd rfl (Or.inl rfl) (aC ao (aC ao (pv 0) ah (λ_ _=>rfl)) ah (λ_ _=>rfl)))
  (@ak _ _ _ _ _ (cY (bJ vG (pv 1) ah (b8 _)) (Lw (tL (eY iO (eY iO (eY iO tK (by kernel_rfl)) (by kernel_rfl)) (by kernel_rfl)))) dO)
  (@ak _ _ _ _ _ (aD (i:=2) oh.nd rfl (Or.inl rfl) (aC ao (aC ao (pv 0) ah (λ_ _=>rfl)) ah (λ_ _=>rfl)))
  (@ak _ _ _ _ _ (cY (bJ vG (ai bK (ai aB (pv 1) (aC ao (aC ao (pv 0) ah (λ_ _=>rfl)) ah (λ_ _=>rfl))) (ai aB (pv 2) (pv 2))) ah (b8 _)) (@aI _ _ _ (aT (dG (af (BW wV (pv 2)) (af (pv 1) (af ah aj)))))) dO)
  (@ak _ _ _ _ _ (cY (bJ vG (aN dg hr rfl aM (af (pv 0) aj)) ah (b8 _)) (@aI _ _ _ (aT (aC ao (aN xO hr rfl aM (af (pv 0) aj)) ah (λ_ _=>rfl)))) dO)
  (@aI _ _ _ (aT ET)))))))),?_⟩
 obtain⟨c0,x1,x2,_⟩:=aX hT bO (i:=0) (by decide)
 obtain⟨c1,y1,y2,_⟩:=aX hT bO (i:=1) (by decide)
 obtain⟨c2,w1,w2,_⟩:=aX hT bO (i:=2) (by decide)
 have b0:=hB 0 0 (by decide) (by decide)
 have b1:=hB 0 1 (by decide) (by decide)
 refine⟨_,rfl,t,_,_,_,rfl,rfl,aP.of hT.1,x1,c0,_,_,_,rfl,rfl,aP.of x2,rfl,?_⟩
 refine⟨_,rfl,_,_,rfl,rfl,_,rfl,iI (λc=> ?_) (λc=> ?_)⟩
 ·have c:ent m 0 0<=0:=of_decide_eq_true c
  have ab:b7 m=false:=by
   unfold b7
   rw[decide_eq_false (by omega),Bool.false_and]
  refine⟨(by show 3<=sizeLine;decide),λr hr=> ?_⟩
  refine q2 ab (λi=>if i=0 then 1 else 0) r _ (ay.up hr) hr au (λz=>by simp at z) (by rw[NK];exact c) (λi _=> ?_)
  show(if i=0 then(1:Int)else 0).natAbs<_
  exact aG (a:=1) (by split<;>decide) (by decide)
 have c:0<ent m 0 0:=by
  have:¬ent m 0 0<=0:=λz=>c (decide_eq_true z)
  omega
 refine⟨_,rfl,t,_,_,_,rfl,rfl,aP.of hT.1,x1,c0,_,_,_,rfl,rfl,aP.of x2,rfl,?_⟩
 refine⟨_,rfl,_,rfl,t,_,_,_,rfl,rfl,aP.of hT.1,y1,c1,_,_,_,rfl,rfl,aP.of y2,rfl,_,_,rfl,rfl,⟨aG (hB 0 0 (by decide) (by decide)) (by decide),aG (hB 1 1 (by decide) (by decide)) (by decide)⟩,_,rfl,_,rfl,_,_,rfl,rfl,⟨aG (hB 0 1 (by decide) (by decide)) (by decide),aG (hB 0 1 (by decide) (by decide)) (by decide)⟩,_,_,rfl,rfl,_,_,rfl,rfl,_,rfl,iI (λd=> ?_) (λd=> ?_)⟩
 ·have d:ent m 0 0*ent m 1 1-ent m 0 1*ent m 0 1<=0:=of_decide_eq_true d
  have ab:b7 m=false:=by
   unfold b7
   rw[decide_eq_false (p:=ent m 0 1*ent m 0 1<ent m 0 0*ent m 1 1) (by omega),Bool.false_and,Bool.and_false]
  refine⟨_,rfl,_,rfl,_,rfl,(by show 3<=sizeLine;decide),λr hr=> ?_⟩
  refine q2 ab (λi=>match i with|0=> -ent m 0 1|1=>ent m 0 0|_=>0) r _ (ay.up hr) hr au (λz=>by have y:ent m 0 0=0:=z.2.1;omega) ?_ (λi hi=> ?_)
  ·rw[NL hS _ rfl rfl rfl]
   exact Int.mul_nonpos_of_nonneg_of_nonpos (by omega) d
  ·rcases bC hi with rfl|rfl|rfl
   ·show(-ent m 0 1).natAbs<_
    exact aG (a:=440) (by omega) (by decide)
   ·exact aG b0 (by decide)
   ·show(0:Int).natAbs<_
    exact Nat.two_pow_pos _
 have d:0<ent m 0 0*ent m 1 1-ent m 0 1*ent m 0 1:=by
  have:¬ent m 0 0*ent m 1 1-ent m 0 1*ent m 0 1<=0:=λz=>d (decide_eq_true z)
  omega
 refine⟨_,rfl,t,bs,m,rfl,hT,bO,hB.mono (by decide),hP,λH1 s1=>⟨_,_,rfl,rfl,_,rfl,iI (λe=> ?_) (λe=> ?_)⟩⟩
 ·have e:aA m<=0:=of_decide_eq_true e
  have ab:b7 m=false:=by
   unfold b7
   rw[decide_eq_false (p:=0<aA m) (by omega),Bool.and_false,Bool.and_false]
  refine⟨_,rfl,t,bs,m,rfl,hT.same s1,bO,hB.mono (by decide),λr rs H2 s2 fr frs nr T2=> ?_⟩
  obtain⟨k,k1,k2,k3⟩:=aX T2 (cH _) (i:=2) (by decide)
  refine⟨r,_,_,_,rfl,rfl,aP.of T2.1,k1,?_⟩
  have RJ:0<ent (iN m) 2 2:=by
   rw[JU,iz hS (i:=0) (j:=1) (by decide) (by decide)]
   exact d
  refine q2 ab (λj=>ent (iN m) 2 j) k H2 (s1.trans s2) (s1.none (frs k k3)) k2 (λz=>by have y:ent (iN m) 2 2=0:=z.2.2;omega) ?_ (λj hj=> ?_)
  ·rw[NN]
   exact Int.mul_nonpos_of_nonpos_of_nonneg e (by omega)
  ·show(ent (iN m) 2 j).natAbs<_
   rw[mw m (by decide) hj]
   exact aG (Cr hB j 2) (by decide)
 ·have e:0<aA m:=by
   have:¬aA m<=0:=λz=>e (decide_eq_true z)
   omega
  refine q1 ?_ H1 s1
  unfold b7
  rw[decide_eq_true c,decide_eq_true e,decide_eq_true (p:=ent m 0 1*ent m 0 1<ent m 0 0*ent m 1 1) (by omega)]
  rfl
inductive nC(vs:List V)(H:Hp)(Q:VK)(E:XK):Prop
 |mk(z:Int)(_:vs=[.int z])(_:Q (.bl true) H)
theorem zp(F:eZ K mg "is_whole" nZ ic)(bI:mg "isinstance"=none)(pX:mg "int"=none)(qF:mg "bool"=none):cZ P w K mg base cP 1 "is_whole" ic nC:=by
 refine F.ok zh (λvs H Q E h=> ?_) (λf cdv A outer s H vs Q E hr h=> ?_)
 ·obtain⟨z,rfl,q⟩:=h
  rfl
 obtain⟨z,rfl,q⟩:=h
 have hu:=hr.units
 refine⟨_,(cK (aT (wU (ck eW rfl bI PyProof.Rows.boot_isinstance (af (pv 0) (af (jM (v:= .ty "int") rfl pX PyProof.Rows.boot_int rfl) aj))) (wR (EU (ck eW rfl bI PyProof.Rows.boot_isinstance (af (pv 0) (af (jM (v:= .ty "bool") rfl qF PyProof.Rows.boot_bool rfl) aj)))))))),?_⟩
 exact⟨_,rfl,_,_,_,_,rfl,.int _,ko K "int",_,rfl,Dr ⟨_,rfl,_,_,_,_,rfl,.int _,pJ K,_,rfl,q⟩⟩
inductive xP(T0:Addr)(vs:List V)(H:Hp)(Q:VK)(E:XK):Prop
 |mk(b:Addr)(x:Nat->Int)(_:vs=[.ref b])(_:bf H b x)(_:H T0=some (dH T0))(_:∀H',ay H H'->Q (.bl true) H')
theorem Ec{br:Addr}(F:nN K mg "is_row" tS mK br)(bm:BM mg base)(bI:mg "isinstance"=none)(ir:mg "list"=none)(gc:mg "len"=none)(l5:mg "all"=none)(iu:cZ P w K mg base cP 1 "is_whole" ic nC):cZ P w K mg base cP 3 "is_row" mK (xP br):=by
 refine F.ok Eb (λvs H Q E h=> ?_) (λf cdv A outer s H vs Q E cd hr h=> ?_)
 ·obtain⟨b,x,rfl,hx,hP,q⟩:=h
  rfl
 obtain⟨b,x,rfl,hx,hP,q⟩:=h
 have hu:=hr.units
 refine⟨_,(kU (@ak _ _ _ _ _ (cY (PW.pt (rm (kL (jn (ck eW rfl bI PyProof.Rows.boot_isinstance (af (pv 0) (af (jM (v:= .ty "list") rfl ir PyProof.Rows.boot_list rfl) aj))))) (qb (bJ vF (ck dN rfl gc PySem.boot_len (af (pv 0) aj)) ah (b8 _))))) (@aI _ _ _ (aT lX)) dO)
  (@aI _ _ _ (aT (xo (N2:=["thing"]) (te:=(lY nC [] E0 (cW (bH 0) jo))) rfl (eU.depth hr) cd bm rfl l5 (fQ (pv 0)) (by kernel_rfl) (λ_ _ _ _=>by exact iM (aN iu (yO hr) rfl aM (af (pv 0) aj)))))))),?_⟩
 refine⟨_,rfl,_,_,_,_,rfl,.lst hx,ko K "list",_,rfl,rS ⟨_,rfl,b,_,rfl,.inl (aP.of hx),rfl,_,rfl,vO rfl ?_⟩⟩
 refine⟨_,rfl,b,rfl,⟨_,aP.of hx⟩,Ar (jg (aP.of hx)) hP (λ_=>true) (λj y ey H1 Q1 s1 k1=> ?_) (λc H1 s1 hc=> ?_)⟩
 ·obtain⟨z,rfl⟩:∃z,y= .int z:=by
   have hy:=List.mem_of_getElem? ey
   simp only[List.mem_cons,List.not_mem_nil,or_false]at hy
   rcases hy with rfl|rfl|rfl<;>exact⟨_,rfl⟩
  exact⟨_,rfl,z,rfl,k1 H1 (ay.refl _)⟩
 ·have e:c=true:=hc.mpr λ_ _=>rfl
  subst e
  exact q H1 s1
inductive wm(T1 T0:Addr)(vs:List V)(H:Hp)(Q:VK)(E:XK):Prop
 |mk(t:Addr)(bs:List Addr)(m:List (List Int))(_:vs=[.ref t])(_:Tab H t bs m)(_:cB m)(_:H T1=some (dH T1))(_:H T0=some (dH T0))(_:∀H',ay H H'->Q (.bl true) H')
theorem zq{br aW:Addr}(F:nN K mg "is_table" n9 jB aW)(bm:BM mg base)(bI:mg "isinstance"=none)(ir:mg "list"=none)(gc:mg "len"=none)(l5:mg "all"=none)(tY:cZ P w K mg base cP 3 "is_row" mK (xP br)):cZ P w K mg base cP 5 "is_table" jB (wm br aW):=by
 refine F.ok zj (λvs H Q E h=> ?_) (λf cdv A outer s H vs Q E cd hr h=> ?_)
 ·obtain⟨t,bs,m,rfl,hT,bO,hR,hP,q⟩:=h
  rfl
 obtain⟨t,bs,m,rfl,hT,bO,hR,hP,q⟩:=h
 have hu:=hr.units
 refine⟨_,(kU (@ak _ _ _ _ _ (cY (PW.pt (rm (kL (jn (ck eW rfl bI PyProof.Rows.boot_isinstance (af (pv 0) (af (jM (v:= .ty "list") rfl ir PyProof.Rows.boot_list rfl) aj))))) (qb (bJ vF (ck dN rfl gc PySem.boot_len (af (pv 0) aj)) ah (b8 _))))) (@aI _ _ _ (aT lX)) dO)
  (@aI _ _ _ (aT (xo (N2:=["thing"]) (te:=(lY (xP br) [] E0 (cW (bH 0) jo))) rfl (eU.depth hr) cd bm rfl l5 (fQ (pv 0)) (by kernel_rfl) (λ_ _ _ _=>by exact iM (aN tY (yO hr) rfl aM (af (pv 0) aj)))))))),?_⟩
 have l3:(bs.map V.ref).length=3:=by rw[List.length_map,<-hT.2.length,bO.1]
 refine⟨_,rfl,_,_,_,_,rfl,.lst hT.1,ko K "list",_,rfl,rS ⟨_,rfl,t,_,rfl,.inl (aP.of hT.1),rfl,_,rfl,vO (by rw[l3];rfl) ?_⟩⟩
 refine⟨_,rfl,t,rfl,⟨_,aP.of hT.1⟩,Ar (jg (aP.of hT.1)) hP (λ_=>true) (λj y ey H1 Q1 s1 k1=> ?_) (λc H1 s1 hc=> ?_)⟩
 ·have hj:j<3:=by
   have:=(List.getElem?_eq_some_iff.mp ey).1
   rw[l3]at this
   exact this
  obtain⟨b,e1,e2,_⟩:=aX (hT.same s1) bO hj
  have ex':y= .ref b:=by
   have q1:=fS ey
   rw[e1]at q1
   exact(Option.some.inj q1).symm
  subst ex'
  exact⟨_,rfl,b,λc=>ent m j c,rfl,e2,s1 _ _ hR,k1⟩
 ·have e:c=true:=hc.mpr λ_ _=>rfl
  subst e
  exact q H1 s1
inductive zu(T1 T2 T0:Addr)(vs:List V)(H:Hp)(Q:VK)(E:XK):Prop
 |mk(t:Addr)(bs:List Addr)(m:List (List Int))(_:vs=[.ref t])(_:Tab H t bs m)(_:cB m)(_:cj m)(_:H T1=some (dH T1))(_:H T2=some (dH T2))(_:H T0=some (dH T0))(_:∀H',ay H H'->Q (.bl true) H')
theorem qG{br aW aE:Addr}(F:nN K mg "is_even_table" iQ fz aE)(bm:BM mg base)(l5:mg "all"=none)(aO:mg "range"=none)(oF:cZ P w K mg base cP 6 "is_table" jB (wm br aW))(fG:cZ P w K mg base cP 6 "turned_over" fE qE):cZ P w K mg base cP 7 "is_even_table" fz (zu br aW aE):=by
 refine F.ok qu (λvs H Q E h=> ?_) (λf cdv A outer s H vs Q E cd hr h=> ?_)
 ·obtain⟨t,bs,m,rfl,hT,bO,ev,hR,hU,hP,q⟩:=h
  rfl
 obtain⟨t,bs,m,rfl,hT,bO,ev,hR,hU,hP,q⟩:=h
 have hu:=hr.units
 refine⟨_,(kU (@ak _ _ _ _ _ (cY (kL (jn (aN oF hr rfl aM (af (pv 0) aj)))) (@aI _ _ _ (aT lX)) dO)
  (@aI _ _ _ (aT (wU (sI (Lm hu) (pv 0) (aN fG hr rfl aM (af (pv 0) aj)) (b8 _)) (wR (xo (N2:=["thing"]) (te:=(gY Rq (gY (rI (λ_ j=>0<j) λi j=> .int (i%j)) (gY (fY K) (gY (fY K) (bH 1) (bH 0)) (bH 0)) (tC (.int 2))) (tC (.int 0)))) rfl (eU.depth hr) cd bm rfl l5 (cF rfl aO (af ah aj)) (by kernel_rfl) (λ_ _ _ _=>by exact iM (sI yF (ai cS (aC ao (aC ao (pv 1) (pv 0) (λ_ _=>rfl)) (pv 0) (λ_ _=>rfl)) ah) ah (b8 _)))))))))),?_⟩
 refine⟨_,rfl,t,bs,m,rfl,hT,bO,hR,hU,λH1 s1=>⟨_,rfl,rS ?_⟩⟩
 refine⟨_,rfl,_,rfl,t,bs,m,rfl,hT.same s1,bO,λr rs H2 s2 fr frs nr Tr=> ?_⟩
 rw[d9 ev bO]at Tr
 refine IA (Ln m) (JS ((hT.same s1).same s2)) (JS Tr) (Ao m) ⟨_,rfl,Dr ?_⟩
 have s12:=s1.trans s2
 refine⟨3,rfl,by decide,by decide,Ar (fy (n:=3)) (s12 _ _ hP) (λ_=>true) (λj y ey H3 Q3 s3 k3=> ?_) (λc H3 s3 hc=> ?_)⟩
 ·obtain⟨hj,rfl⟩:=d7 ey
  obtain⟨b,row,e1,e2,e3⟩:=kR (hT.same (s12.trans s3)) bO hj hj
  refine⟨_,rfl,_,rfl,t,_,_,_,rfl,rfl,aP.of (hT.same (s12.trans s3)).1,e1,_,rfl,b,_,_,_,rfl,rfl,aP.of e2,e3,_,_,rfl,rfl,(by show(0:Int)<2;decide),rfl,?_⟩
  have e:ent m j j%2=0:=by
   obtain⟨_,a,b,c,p1,p2,p3⟩:=ev
   rcases bC hj with rfl|rfl|rfl<;>omega
  rw[decide_eq_true (congrArg V.int e)]
  exact k3 H3 (ay.refl _)
 ·have e:c=true:=hc.mpr λ_ _=>rfl
  subst e
  exact q H3 (s12.trans s3)
inductive zv(T1 T2 T3:Addr)(vs:List V)(H:Hp)(Q:VK)(E:XK):Prop
 |mk(t:Addr)(bs:List Addr)(m:List (List Int))(_:vs=[.ref t])(_:Tab H t bs m)(_:cB m)(_:Bd 440 m)(_:cj m)(_:b7 m=true)(_:H T1=some (dH T1))(_:H T2=some (dH T2))(_:H T3=some (dH T3))(_:True)(_:∀H',ay H H'->Q (.bl true) H')
theorem Bf{br aW aE:Addr}(F:eZ K mg "is_form" qv kD)(iT:cZ P w K mg base cP 7 "is_even_table" fz (zu br aW aE))(qH:cZ P w K mg base cP 7 "low_row" kE Kd):cZ P w K mg base cP 8 "is_form" kD (zv br aW aE):=by
 refine F.ok AW (λvs H Q E h=> ?_) (λf cdv A outer s H vs Q E hr h=> ?_)
 ·obtain⟨t,bs,m,rfl,hT,bO,hB,ev,ab,h1,h2,h3,h4,q⟩:=h
  rfl
 obtain⟨t,bs,m,rfl,hT,bO,hB,ev,ab,h1,h2,h3,h4,q⟩:=h
 have hu:=hr.units
 refine⟨_,(cK (aT (wU (aN iT hr rfl aM (af (pv 0) aj)) (wR (sI KQ (aN qH hr rfl aM (af (pv 0) aj)) ET (b8 _)))))),?_⟩
 refine⟨_,rfl,t,bs,m,rfl,hT,bO,ev,h1,h2,h3,λH1 s1=>⟨_,rfl,Dr ?_⟩⟩
 exact⟨_,rfl,t,bs,m,rfl,hT.same s1,bO,hB,d9 ev bO,trivial,λ_ H2 s2=>⟨rfl,q H2 (s1.trans s2)⟩,λUB=>absurd UB (by rw[ab];decide)⟩
inductive Bg(T1 T2 T3:Addr)(vs:List V)(H:Hp)(Q:VK)(E:XK):Prop
 |mk(t:Addr)(bs:List Addr)(m:List (List Int))(_:vs=[.ref t])(_:Tab H t bs m)(_:cB m)(_:Bd 440 m)(_:cj m)(_:b7 m=true)(_:aA m/2<=200)(_:H T1=some (dH T1))(_:H T2=some (dH T2))(_:H T3=some (dH T3))(_:True)(_:∀H',ay H H'->Q (.int (aA m/2)) H')
theorem Jk{br aW aE:Addr}(F:eZ K mg "half" AX qy){iU:_}(iV:mg "GREATEST_HALF"=some (Value.int 200 iU))(qI:cZ P w K mg base cP 8 "is_form" kD (zv br aW aE))(dg:cZ P w K mg base cP 8 "determinant" eH CI):cZ P w K mg base cP 9 "half" qy (Bg br aW aE):=by
 refine F.ok CF (λvs H Q E h=> ?_) (λf cdv A outer s H vs Q E hr h=> ?_)
 ·obtain⟨t,bs,m,rfl,hT,bO,hB,ev,ab,le,h1,h2,h3,h4,q⟩:=h
  rfl
 obtain⟨t,bs,m,rfl,hT,bO,hB,ev,ab,le,h1,h2,h3,h4,q⟩:=h
 have hu:=hr.units
 refine⟨_,(kU (@ak _ _ _ _ _ (cY (kL (jn (aN qI hr rfl aM (af (pv 0) aj)))) (@aI _ _ _ sV) dO)
  (@ak _ _ _ _ _ (aD (i:=1) CF.nd rfl (Or.inl rfl) (ai bZ (aN dg hr rfl aM (af (pv 0) aj)) ah))
  (@ak _ _ _ _ _ (cY (bJ nK (pv 1) (wQ (v:= .int 200) rfl iV ⟨_,rfl⟩) (b8 _)) (@aI _ _ _ sV) dO)
  (@aI _ _ _ (aT (pv 1))))))),?_⟩
 refine⟨_,rfl,t,bs,m,rfl,hT,bO,hB,ev,ab,h1,h2,h3,h4,λH1 s1=>⟨_,rfl,rS ?_⟩⟩
 refine⟨_,rfl,t,bs,m,rfl,hT.same s1,bO,hB.mono (by decide),trivial,λH2 s2=>⟨_,_,rfl,rfl,⟨by decide,by decide⟩,?_⟩⟩
 refine⟨_,rfl,_,_,rfl,rfl,_,rfl,iI (λc=> ?_) (λ_=>⟨_,rfl,q H2 (s1.trans s2)⟩)⟩
 have c:(200:Int)<aA m/2:=of_decide_eq_true c
 omega
theorem Ed{H:Hp}{t:Addr}{bs:List Addr}{m:List (List Int)}(hT:Tab H t bs m)(bO:cB m):∃c0 c1 c2,bs=[c0,c1,c2]/\bf H c0 (λc=>ent m 0 c)/\bf H c1 (λc=>ent m 1 c)/\bf H c2 (λc=>ent m 2 c):=by
 have l3:bs.length=3:=by rw[<-hT.2.length,bO.1]
 match bs,l3,hT with
 | [c0,c1,c2],_,hT=>
  obtain⟨b0,x1,x2,_⟩:=aX hT bO (i:=0) (by decide)
  obtain⟨b1,y1,y2,_⟩:=aX hT bO (i:=1) (by decide)
  obtain⟨b2,w1,w2,_⟩:=aX hT bO (i:=2) (by decide)
  cases x1;cases y1;cases w1
  exact⟨c0,c1,c2,rfl,x2,y2,w2⟩
inductive xQ(T0:Addr)(vs:List V)(H:Hp)(Q:VK)(E:XK):Prop
 |mk(t:Addr)(bs:List Addr)(m:List (List Int))(a b:Addr)(x y:Nat->Int)(_:vs=[.ref t,.ref a,.ref b])(_:Tab H t bs m)(_:cB m)(_:Bd 1000 m)(_:bf H a x)(_:bf H b y)(_:∀i,i<3->(x i).natAbs<2^1000)(_:∀i,i<3->(y i).natAbs<2^1000)(_:H T0=some (dH T0))(_:∀H',ay H H'->Q (.int (av m x y)) H')
theorem Bh{aF:Addr}(F:nN K mg "pairing" qw ie aF)(bm:BM mg base)(pW:mg "sum"=none)(pY:mg "zip"=none):cZ P w K mg base cP 1 "pairing" ie (xQ aF):=by
 refine F.ok kW (λvs H Q E h=> ?_) (λf cdv A outer s H vs Q E cd hr h=> ?_)
 ·obtain⟨t,bs,m,a,b,x,y,rfl,hT,bO,hB,hx,hy,bx,bY,hP,q⟩:=h
  rfl
 obtain⟨t,bs,m,a,b,x,y,rfl,hT,bO,hB,hx,hy,bx,bY,hP,q⟩:=h
 have hu:=hr.units
 refine⟨_,(kU (@ak _ _ _ _ _ (kN (pv 2) (jh rfl (aQ (aL (i:=3) kW.nd rfl (Or.inr rfl)) (aQ (aL (i:=4) kW.nd rfl (Or.inr rfl)) (aQ (aL (i:=5) kW.nd rfl (Or.inr rfl)) fH)))))
  (@aI _ _ _ (aT (IM (N2:=["table","one","other","x","y","z"]) (te:=(gY (rI jv λi j=> .int (i*j)) (bH 0) (gY (Di λi j=> .int (i+j)) (gY (Di λi j=> .int (i+j)) (gY (rI jv λi j=> .int (i*j)) (gY (fY K) (bH 1) (tC (.int 0))) (bH 5)) (gY (rI jv λi j=> .int (i*j)) (gY (fY K) (bH 1) (tC (.int 1))) (bH 6))) (gY (rI jv λi j=> .int (i*j)) (gY (fY K) (bH 1) (tC (.int 2))) (bH 7))))) rfl (eU.depth hr) cd bm rfl pW (Au rfl pY (af (pv 1) (af (pv 0) aj))) (by kernel_rfl) (λ_ _ _ _=>by exact iM (ai aB (pv 0) (ai aR (ai aR (ai aB (aC ao (pv 1) ah (λ_ _=>rfl)) (pv 5)) (ai aB (aC ao (pv 1) ah (λ_ _=>rfl)) (pv 6))) (ai aB (aC ao (pv 1) ah (λ_ _=>rfl)) (pv 7)))))))))),?_⟩
 obtain⟨c0,c1,c2,rfl,x2,y2,w2⟩:=Ed hT bO
 refine⟨_,rfl,b,_,rfl,aP.of hy,rfl,_,_,rfl,_,_,rfl,_,_,rfl,rfl,?_⟩
 refine⟨_,rfl,_,rfl,a,t,_,_,rfl,aP.of hx,aP.of hT.1,IQ (aP.of hx) (aP.of hT.1) rfl hP (λi=>x i*(ent m i 0*y 0+ent m i 1*y 1+ent m i 2*y 2)) (λi u v eu ev H' Q' sm k=> ?_) (λH' sm=> ?_)⟩
 ·have hi:i<3:=(List.getElem?_eq_some_iff.mp eu).1
  obtain⟨c,e1,e2,_⟩:=aX (hT.same sm) bO hi
  have Qy:u= .int (x i):=by
   rcases bC hi with rfl|rfl|rfl<;>exact(Option.some.inj eu).symm
  have ev':v= .ref c:=by
   have q1:=fS ev
   rw[e1]at q1
   exact(Option.some.inj q1).symm
  subst Qy ev'
  have b0:=bT (hB i 0 hi (by decide)) (bY 0 (by decide))
  have b1:=bT (hB i 1 hi (by decide)) (bY 1 (by decide))
  have b2:=bT (hB i 2 hi (by decide)) (bY 2 (by decide))
  have bs:=jx (jx b0 b1) (aG b2 (by decide))
  exact⟨_,rfl,_,rfl,c,_,_,_,rfl,rfl,aP.of e2,rfl,_,rfl,_,_,rfl,rfl,⟨aG (hB i 0 hi (by decide)) (by decide),aG (bY 0 (by decide)) (by decide)⟩,_,rfl,c,_,_,_,rfl,rfl,aP.of e2,rfl,_,rfl,_,_,rfl,rfl,⟨aG (hB i 1 hi (by decide)) (by decide),aG (bY 1 (by decide)) (by decide)⟩,_,_,rfl,rfl,_,rfl,c,_,_,_,rfl,rfl,aP.of e2,rfl,_,rfl,_,_,rfl,rfl,⟨aG (hB i 2 hi (by decide)) (by decide),aG (bY 2 (by decide)) (by decide)⟩,_,_,rfl,rfl,_,_,rfl,rfl,⟨aG (bx i hi) (by decide),aG bs (by decide)⟩,k H' (ay.refl _)⟩
 ·have e:PySem.preSum (λi=>x i*(ent m i 0*y 0+ent m i 1*y 1+ent m i 2*y 2)) 3=av m x y:=by
   rw[bh]
   show 0+x 0*(ent m 0 0*y 0+ent m 0 1*y 1+ent m 0 2*y 2)+x 1*(ent m 1 0*y 0+ent m 1 1*y 1+ent m 1 2*y 2)+x 2*(ent m 2 0*y 0+ent m 2 1*y 1+ent m 2 2*y 2)=_
   grind
  have q:=q H' sm
  rw[<-e]at q
  exact q
inductive pZ(T0:Addr)(vs:List V)(H:Hp)(Q:VK)(E:XK):Prop
 |mk(t:Addr)(bs:List Addr)(m:List (List Int))(a:Addr)(x:Nat->Int)(_:vs=[.ref t,.ref a])(_:Tab H t bs m)(_:cB m)(_:Bd 1000 m)(_:bf H a x)(_:∀i,i<3->(x i).natAbs<2^1000)(_:H T0=some (dH T0))(_:∀H',ay H H'->Q (.int (cg m x)) H')
theorem GN{aF:Addr}(F:eZ K mg "worth" xK kX)(dF:cZ P w K mg base cP 1 "pairing" ie (xQ aF)):cZ P w K mg base cP 2 "worth" kX (pZ aF):=by
 refine F.ok GI (λvs H Q E h=> ?_) (λf cdv A outer s H vs Q E hr h=> ?_)
 ·obtain⟨t,bs,m,a,x,rfl,hT,bO,hB,hx,bx,hP,q⟩:=h
  rfl
 obtain⟨t,bs,m,a,x,rfl,hT,bO,hB,hx,bx,hP,q⟩:=h
 have hu:=hr.units
 refine⟨_,(cK (aT (ai bZ (aN dF hr rfl aM (af (pv 0) (af (pv 1) (af (pv 1) aj)))) ah))),?_⟩
 exact⟨_,rfl,_,rfl,_,rfl,t,bs,m,a,a,x,x,rfl,hT,bO,hB,hx,hx,bx,bx,hP,λH' sm=>⟨_,_,rfl,rfl,⟨by decide,by decide⟩,q H' sm⟩⟩
inductive tZ(vs:List V)(H:Hp)(Q:VK)(E:XK):Prop
 |mk(a:Addr)(y:Nat->Int)(q:Int)(b:Addr)(x:Nat->Int)(_:vs=[.ref a,.int q,.ref b])(_:bf H a y)(_:bf H b x)(_:q.natAbs<2^4096)(_:∀i,i<3->(x i).natAbs<2^4096)(_:∀r H',ay H H'->H r=none->bf H' r (iD y q x) ->Q (.ref r) H')
theorem uX(F:eZ K mg "less_times" kY fU)(pY:mg "zip"=none):cZ P w K mg base cP 1 "less_times" fU tZ:=by
 refine F.ok uV (λvs H Q E h=> ?_) (λf cdv A outer s H vs Q E hr h=> ?_)
 ·obtain⟨a,y,q,b,x,rfl,hy,hx,bq,bx,k⟩:=h
  rfl
 obtain⟨a,y,q,b,x,rfl,hy,hx,bq,bx,k⟩:=h
 have hu:=hr.units
 refine⟨_,(cK (aT (Av (N2:=["row","times","other"]) (te:=(gY (Di λi j=> .int (i-j)) (bH 0) (gY (rI jv λi j=> .int (i*j)) (bH 3) (bH 1)))) rfl (Au rfl pY (af (pv 0) (af (pv 2) aj))) (by kernel_rfl) rfl (λ_ _ _=>by exact iM (ai bK (pv 0) (ai aB (pv 3) (pv 1))))))),?_⟩
 refine⟨_,rfl,_,rfl,a,b,_,_,rfl,aP.of hy,aP.of hx,λD hD=>yS (aP.of hy) (aP.of hx) rfl (by show 3<=sizeLine;decide) hD (λu v=>match u,v with| .int i,.int j=> .int (i-q*j)|_,_=> .jc) (λn u v eu ev G Q' sm kk=> ?_) (λH5 s5 e5=>k D H5 s5 hD e5)⟩
 have hn:n<3:=(List.getElem?_eq_some_iff.mp eu).1
 have Qy:u= .int (y n):=by rcases bC hn with rfl|rfl|rfl<;>exact(Option.some.inj eu).symm
 have ev':v= .int (x n):=by rcases bC hn with rfl|rfl|rfl<;>exact(Option.some.inj ev).symm
 subst Qy ev'
 exact⟨_,rfl,_,rfl,_,rfl,_,_,rfl,rfl,⟨bq,bx n hn⟩,_,_,rfl,rfl,kk⟩
inductive Ke(vs:List V)(H:Hp)(Q:VK)(E:XK):Prop
 |mk(P A:Int)(_:vs=[.int P,.int A])(_:0<A)(_:(2*A).natAbs.log2<9000)(_:Q (.int ((2*P+A)/(2*A))) H)
theorem Bj(F:eZ K mg "nearest" qz kF):cZ P w K mg base cP 1 "nearest" kF Ke:=by
 refine F.ok AY (λvs H Q E h=> ?_) (λf cdv A outer s H vs Q E hr h=> ?_)
 ·obtain⟨P,A,rfl,hA,bA,q⟩:=h
  rfl
 obtain⟨P,A,rfl,hA,bA,q⟩:=h
 have hu:=hr.units
 refine⟨_,(cK (aT (ai pI (ai aR (ai bg ah (pv 0)) (pv 1)) (ai bg ah (pv 1))))),?_⟩
 exact⟨_,rfl,_,_,rfl,rfl,.inl ⟨by decide,by decide⟩,_,rfl,_,_,rfl,rfl,_,rfl,_,_,rfl,rfl,.inl ⟨by decide,by decide⟩,_,_,rfl,rfl,⟨by show(0:Int)<2*A;omega,bA⟩,q⟩
inductive zw(T0:Addr)(vs:List V)(H:Hp)(Q:VK)(E:XK):Prop
 |mk(t:Addr)(bs:List Addr)(m:List (List Int))(a b:Addr)(x y:Nat->Int)(w:Int)(_:vs=[.ref t,.ref a,.ref b])(_:Tab H t bs m)(_:cB m)(_:Bd 440 m)(_:cj m)(_:b7 m=true)(_:bf H a x)(_:bf H b y)(_:∃t,bQ x y t≠0)(_:aS m x<=w)(_:aS m y<=w)(_:w.natAbs<2^446)(_:H T0=some (dH T0))(_:∀a' b' x' y' P H',mG m x' y'->gp m x y x' y'->aS m x'<=w->aS m y'<=w->ay H H'->bf H' a' x'->bf H' b' y'->H' P=some (.tup [.ref a',.ref b']) ->Q (.ref P) H')
theorem uY{aF:Addr}(F:eZ K mg "least_pair" kZ gK)(e9:cZ P w K mg base cP 3 "less_times" fU tZ)(qJ:cZ P w K mg base cP 3 "nearest" kF Ke)(dF:cZ P w K mg base cP 3 "pairing" ie (xQ aF))(gT:cZ P w K mg base cP 3 "worth" kX (pZ aF)):cZ P w K mg base cP 4 "least_pair" gK (zw aF):=by
 refine F.ok j3 (λvs H Q E h=> ?_) (λf cdv A outer s H vs Q E hr h=> ?_)
 ·obtain⟨t,bs,m,a,b,x,y,w,rfl,hT,bO,hB,ev,ab,hx,hy,⟨t0,ind⟩,wx,wy,bw,hP,q⟩:=h
  rfl
 obtain⟨t,bs,m,a,b,x,y,w,rfl,hT,bO,hB,ev,ab,hx,hy,⟨t0,ind⟩,wx,wy,bw,hP,q⟩:=h
 have hu:=hr.units
 refine⟨_,(cK (kg PassesOwn.never (jn lX) (kU (@ak _ _ _ _ _ (aD (i:=2) j3.nd rfl (Or.inl rfl) (aN e9 hr rfl aM (af (pv 2) (af (aN qJ hr rfl aM (af (aN dF hr rfl aM (af (pv 0) (af (pv 1) (af (pv 2) aj)))) (af (aN dF hr rfl aM (af (pv 0) (af (pv 1) (af (pv 1) aj)))) aj))) (af (pv 1) aj)))))
  (@ak _ _ _ _ _ (cY (bJ Ca (aN gT hr rfl aM (af (pv 0) (af (pv 2) aj))) (aN gT hr rfl aM (af (pv 0) (af (pv 1) aj))) (b8 _)) (@aI _ _ _ (aT (nS (af (pv 1) (af (pv 2) aj))))) dO)
  (@aI _ _ _ (qc (i:=1) (j:=2) rfl j3.nd rfl rfl (by decide) rfl rfl (af (pv 2) (af (pv 1) aj)) rfl))))))),?_⟩
 have Po:=g8 (d9 ev bO) ab
 have bits:∀z:Nat->Int,aS m z<=w-> ∀i,i<3->(z i).natAbs<2^666:=λz hz i hi=>mF ev bO ab hB (by have:=dI Po z;omega) hi
 refine l9 (λσ H'=> ∃(a' b':Addr)(x' y':Nat->Int),σ=[some (.ref t),some (.ref a'),some (.ref b')]/\ay H H'/\bf H' a' x'/\bf H' b' y'/\gp m x y x' y'/\aS m x'<=w/\aS m y'<=w) (Gz m 1) ⟨a,b,x,y,rfl,ay.refl _,hx,hy,gp.refl _ _ _,wx,wy⟩ (λσ H' hh=> ?_) ?_
 rotate_left
 ·rintro σ H' Q Q' h ⟨c,e,k⟩
  exact⟨c,e,h _ _ k⟩
 obtain⟨a',b',x',y',rfl,s1,hx',hy',pr,Mz,MA⟩:=hh
 have Qz:bQ x' y' t0≠0:=by
  obtain⟨e,he,hd⟩:=pr.det
  rw[hd]
  rcases he with rfl|rfl
  ·rw[Int.one_mul];exact ind
  ·intro z;apply ind;omega
 have nx:0<aS m x':=Jc Po λz=>Qz (AQ z _ _)
 have bx:=bits x' Mz
 have bY:=bits y' MA
 refine⟨true,rfl,Dr ?_⟩
 have b1:∀z:Nat->Int,(∀i,i<3->(z i).natAbs<2^666) -> ∀i,i<3->(z i).natAbs<2^1000:=λz h i hi=>aG (h i hi) (by decide)
 refine⟨_,rfl,_,rfl,_,rfl,_,rfl,t,bs,m,a',b',x',y',rfl,hT.same s1,bO,hB.mono (by decide),hx',hy',b1 _ bx,b1 _ bY,s1 _ _ hP,λH2 s2=> ?_⟩
 have s12:=s1.trans s2
 refine⟨_,rfl,_,rfl,_,rfl,t,bs,m,a',a',x',x',rfl,hT.same s12,bO,hB.mono (by decide),s2 _ _ hx',s2 _ _ hx',b1 _ bx,b1 _ bx,s12 _ _ hP,λH3 s3=> ?_⟩
 have yC:=s12.trans s3
 have QA:=s2.trans s3
 have bP:=jy (hB) bx bY
 have bA:=jy (hB) bx bx
 have lg:(2*aS m x').natAbs.log2<9000:=by
  refine(Nat.log2_lt (by omega)).mpr ?_
  have c0:(2*aS m x').natAbs<2^(2+1781):=bT (by decide) bA
  exact Nat.lt_of_lt_of_le c0 (Nat.pow_le_pow_right (by decide) (by decide))
 have bq:((2*av m x' y'+aS m x')/(2*aS m x')).natAbs<2^4096:=by
  refine Nat.lt_of_le_of_lt (jA _ (by omega)) ?_
  have c1:(2*av m x' y').natAbs<2^(2+1781):=bT (by decide) bP
  exact aG (jx c1 (aG bA (show 666+440+666+9<=2+1781 by decide))) (by decide)
 refine⟨_,_,rfl,nx,lg,_,rfl,b',y',_,a',x',rfl,QA _ _ hy',QA _ _ hx',bq,(λi hi=>aG (bx i hi) (by decide)),λr H4 s4 fr er=> ?_⟩
 have GO:=yC.trans s4
 have LK:=QA.trans s4
 have wl:=Int.le_trans (GA ev (y:=y') nx) MA
 have bl:=bits _ wl
 have pl:=pr.trans (gp.less ev (y:=y') nx)
 have lp:=DT ev (y:=y') nx
 have ax:bf H4 a' x':=LK _ _ hx'
 have UC:=qm (m:=m) (i:=1) (σ:=[some (.ref t),some (.ref a'),some (.ref b')]) (by rfl) hx'
 generalize iD y' ((2*av m x' y'+aS m x')/(2*aS m x')) x'=z at er wl bl pl lp
 refine⟨_,rfl,_,rfl,t,bs,m,r,z,rfl,hT.same GO,bO,hB.mono (by decide),er,b1 _ bl,GO _ _ hP,λH5 s5=> ?_⟩
 refine⟨_,rfl,_,rfl,t,bs,m,a',x',rfl,hT.same (GO.trans s5),bO,hB.mono (by decide),s5 _ _ ax,b1 _ bx,(GO.trans s5) _ _ hP,λH6 s6=> ?_⟩
 have MB:=s5.trans s6
 have LL:=GO.trans MB
 have ez:=d8 ev z
 have ex:=d8 ev x'
 refine⟨_,_,rfl,rfl,_,rfl,iI (λc=> ?_) (λc=> ?_)⟩
 ·have c:cg m x'<=cg m z:=of_decide_eq_true c
  refine⟨_,rfl,_,rfl,(by show 2<=sizeLine;decide),λP QB=> ?_⟩
  have uP:=ay.up (o:= .tup [.ref a',.ref r]) QB
  exact q a' r x' z P _ ⟨nx,by show av m x' x'<=av m z z;omega,lp.1,lp.2⟩ pl Mz wl (LL.trans uP) ((MB.trans uP) _ _ ax) ((MB.trans uP) _ _ er) au
 ·have c:¬cg m x'<=cg m z:=λy=>c (decide_eq_true y)
  refine⟨_,rfl,_,rfl,_,_,rfl,?_⟩
  refine⟨⟨r,a',z,x',rfl,LL,MB _ _ er,MB _ _ ax,pl.swap,wl,Mz⟩,?_⟩
  have at2:=qm (m:=m) (i:=1) (σ:=[some (.ref t),some (.ref r),some (.ref a')]) (by rfl) (MB _ _ er)
  show Gz m 1 [some (.ref t),some (.ref r),some (.ref a')] H6<Gz m 1 [some (.ref t),some (.ref a'),some (.ref b')] H'
  rw[UC,at2]
  have:=dI Po z
  have e1:aS m z=av m z z:=rfl
  have e2:aS m x'=av m x' x':=rfl
  omega
inductive xR(T1 T0:Addr)(vs:List V)(H:Hp)(Q:VK)(E:XK):Prop
 |mk(t:Addr)(bs:List Addr)(m:List (List Int))(p:Addr)(as:List Addr)(X:Addr->Nat->Int)(_:vs=[.ref t,.ref p])(_:Tab H t bs m)(_:cB m)(_:Bd 440 m)(_:H p=some (.lst (as.map V.ref)))(_:as.length<64)(_:∀b∈as,bf H b (X b))(_:∀b∈as,(∀i,i<3->(X b i).natAbs<2^1000))(_:H T1=some (dH T1))(_:H T0=some .yz)(_:∀(Hn:Hp) (zs:List Addr),ay H Hn->zs.Perm as->zs.Pairwise (λa b=>cg m (X a)<=cg m (X b)) -> ∀r,Hn r=none->Q (.ref r) (upd Hn r (.lst (zs.map V.ref))))
theorem zx{aF aU:Addr}(F:nN K mg "in_order" om ig aU)(bm:BM mg base)(fC:mg "sorted"=none)(gT:cZ P w K mg base cP 3 "worth" kX (pZ aF)):cZ P w K mg base cP 7 "in_order" ig (xR aF aU):=by
 refine F.ok zk (λvs H Q E h=> ?_) (λf cdv A outer s H vs Q E cd hr h=> ?_)
 ·obtain⟨t,bs,m,p,as,X,rfl,hT,bO,hB,hp,Se,hX,bX,hP,hC,q⟩:=h
  rfl
 obtain⟨t,bs,m,p,as,X,rfl,hT,bO,hB,hp,Se,hX,bX,hP,hC,q⟩:=h
 have hu:=hr.units
 refine⟨_,(cK (aT (Ea (N2:=["form","rows"]) (tb:=(lY (pZ aF) [] E0 (cW (bH 1) (cW (bH 0) jo)))) rfl hr cd bm rfl fC (pv 1) (by kernel_rfl) (λ_ _ _ _ _ _=>rfl) (λ_ _ _ _ _=>by exact iM (aN gT (Gx hr) rfl aM (af (pv 1) (af (pv 0) aj))))))),?_⟩
 refine⟨_,rfl,p,as.map V.ref,(λv=>match v with| .ref b=>cg m (X b)|_=>0),rfl,aP.of hp,(by rw[List.length_map];exact Se),hC,(λv hv Hi si=> ?_),λHn zs sn pz so r hr=> ?_⟩
 ·obtain⟨b,rfl,hb⟩:=tF hv
  exact⟨_,rfl,_,rfl,t,bs,m,b,X b,rfl,hT.same si,bO,hB.mono (by decide),si _ _ (hX b hb),bX b hb,si _ _ hP,λH' s=>⟨rfl,s⟩⟩
 ·obtain⟨zs,rfl,UD⟩:=DP pz
  rw[List.pairwise_map]at so
  exact q Hn zs sn UD so r hr
inductive GP(T1 T0:Addr)(vs:List V)(H:Hp)(Q:VK)(E:XK):Prop
 |mk(t:Addr)(bs:List Addr)(m:List (List Int))(a b c:Addr)(x y z:Nat->Int)(_:vs=[.ref t,.ref a,.ref b,.ref c])(_:Tab H t bs m)(_:cB m)(_:Bd 440 m)(_:cj m)(_:b7 m=true)(_:bf H a x)(_:bf H b y)(_:bf H c z)(_:mG m x y)(_:∀i,i<3->(x i).natAbs<2^666)(_:∀i,i<3->(y i).natAbs<2^666)(_:∀i,i<3->(z i).natAbs<2^666)(_:(aA m*(bQ x y z*bQ x y z)).natAbs<2^448)(_:(aS m y).natAbs<2^446)(_:H T1=some (dH T1))(_:H T0=some .yz)(_:∀r z' H',Drawn m x y z z'->ay H H'->bf H' r z'->Q (.ref r) H')
theorem zy{aF aU:Addr}(F:eZ K mg "drawn_in" oq jD)(dF:cZ P w K mg base cP 7 "pairing" ie (xQ aF))(e9:cZ P w K mg base cP 7 "less_times" fU tZ)(gr:cZ P w K mg base cP 7 "in_order" ig (xR aF aU)):cZ P w K mg base cP 8 "drawn_in" jD (GP aF aU):=by
 refine F.ok fN (λvs H Q E h=> ?_) (λf cdv A outer s H vs Q E hr h=> ?_)
 ·obtain⟨t,bs,m,a,b,c,x,y,z,rfl,hT,bO,hB,ev,ab,ha,hb,hc,lp,bx,bY,bz,bd,bw,hP,hC,q⟩:=h
  rfl
 obtain⟨t,bs,m,a,b,c,x,y,z,rfl,hT,bO,hB,ev,ab,ha,hb,hc,lp,bx,bY,bz,bd,bw,hP,hC,q⟩:=h
 have hu:=hr.units
 refine⟨_,(kU (@ak _ _ _ _ _ (ID (i:=4) (j:=5) (k:=6) rfl fN.nd rfl rfl rfl (by decide) (by decide) (by decide) rfl rfl rfl (af (aN dF hr rfl aM (af (pv 0) (af (pv 1) (af (pv 1) aj)))) (af (aN dF hr rfl aM (af (pv 0) (af (pv 1) (af (pv 2) aj)))) (af (aN dF hr rfl aM (af (pv 0) (af (pv 2) (af (pv 2) aj)))) aj))) rfl)
  (@ak _ _ _ _ _ (qc (i:=7) (j:=8) rfl fN.nd rfl rfl (by decide) rfl rfl (af (aN dF hr rfl aM (af (pv 0) (af (pv 1) (af (pv 3) aj)))) (af (aN dF hr rfl aM (af (pv 0) (af (pv 2) (af (pv 3) aj)))) aj)) rfl)
  (@ak _ _ _ _ _ (aD (i:=9) fN.nd rfl (Or.inl rfl) (ai bK (ai aB (pv 4) (pv 6)) (ai aB (pv 5) (pv 5))))
  (@ak _ _ _ _ _ (aD (i:=10) fN.nd rfl (Or.inl rfl) (ai pI (ai bK (ai aB (pv 6) (pv 7)) (ai aB (pv 5) (pv 8))) (pv 9)))
  (@ak _ _ _ _ _ (aD (i:=11) fN.nd rfl (Or.inl rfl) (ai pI (ai bK (ai aB (pv 4) (pv 8)) (ai aB (pv 5) (pv 7))) (pv 9)))
  (@ak _ _ _ _ _ (aD (i:=12) fN.nd rfl (Or.inl rfl) (dG (af (nS (af (pv 10) (af (pv 11) aj))) (af (nS (af (pv 10) (af (ai aR (pv 11) ah) aj))) (af (nS (af (ai aR (pv 10) ah) (af (pv 11) aj))) (af (nS (af (ai aR (pv 10) ah) (af (ai aR (pv 11) ah) aj))) aj))))))
  (@aI _ _ _ (aT (aC ao (aN gr hr rfl aM (af (pv 0) (af (Av (N2:=["form","one","other","third","across","along","aside","by_one","by_other","area","first","second","corners"]) (te:=(lY tZ [] E0 (cW (lY tZ [] E0 (cW (bH 5) (cW (bH 0) (cW (bH 3) jo)))) (cW (bH 1) (cW (bH 4) jo))))) rfl (fQ (pv 12)) (by kernel_rfl) rfl (λ_ _ _=>by exact iM (aN e9 hr rfl aM (af (aN e9 hr rfl aM (af (pv 5) (af (pv 0) (af (pv 3) aj)))) (af (pv 1) (af (pv 4) aj)))))) aj))) ah (λ_ _=>rfl))))))))))),?_⟩
 have b1:∀v:Nat->Int,(∀i,i<3->(v i).natAbs<2^666) -> ∀i,i<3->(v i).natAbs<2^1000:=λv h i hi=>aG (h i hi) (by decide)
 have Po:=g8 (d9 ev bO) ab
 obtain⟨_,ap⟩:=lp.GB
 have s0:=ay.refl H
 refine⟨_,rfl,_,rfl,_,rfl,t,bs,m,a,a,x,x,rfl,hT.same s0,bO,hB.mono (by decide),s0 _ _ ha,s0 _ _ ha,b1 _ bx,b1 _ bx,s0 _ _ hP,λH1 s1=> ?_⟩
 refine⟨_,rfl,_,rfl,_,rfl,t,bs,m,a,b,x,y,rfl,hT.same s1,bO,hB.mono (by decide),s1 _ _ ha,s1 _ _ hb,b1 _ bx,b1 _ bY,s1 _ _ hP,λH2 s2=> ?_⟩
 have s12:=s1.trans s2
 refine⟨_,rfl,_,rfl,_,rfl,t,bs,m,b,b,y,y,rfl,hT.same s12,bO,hB.mono (by decide),s12 _ _ hb,s12 _ _ hb,b1 _ bY,b1 _ bY,s12 _ _ hP,λH3 s3=> ?_⟩
 have yC:=s12.trans s3
 refine⟨_,_,_,rfl,?_⟩
 refine⟨_,rfl,_,rfl,_,rfl,t,bs,m,a,c,x,z,rfl,hT.same yC,bO,hB.mono (by decide),yC _ _ ha,yC _ _ hc,b1 _ bx,b1 _ bz,yC _ _ hP,λH4 s4=> ?_⟩
 have GO:=yC.trans s4
 refine⟨_,rfl,_,rfl,_,rfl,t,bs,m,b,c,y,z,rfl,hT.same GO,bO,hB.mono (by decide),GO _ _ hb,GO _ _ hc,b1 _ bY,b1 _ bz,GO _ _ hP,λH5 s5=> ?_⟩
 have Od:=GO.trans s5
 refine⟨_,_,rfl,?_⟩
 have c1:=jy hB bx bx
 have c2:=jy hB bx bY
 have c3:=jy hB bY bY
 have c4:=jy hB bx bz
 have c5:=jy hB bY bz
 have up:∀{v:Int},v.natAbs<2^(666+440+666+9) ->v.natAbs<2^4096:=λh=>aG h (by decide)
 refine⟨_,rfl,_,rfl,_,_,rfl,rfl,⟨up c1,up c3⟩,_,rfl,_,rfl,_,_,rfl,rfl,⟨up c2,up c2⟩,_,_,rfl,rfl,?_⟩
 have bA:(aq m x y).natAbs<2^3600:=aG (jW (bT c1 c3) (bT c2 c2)) (by decide)
 have bS:(bU m x y z).natAbs<2^3600:=aG (jW (bT c3 c4) (bT c2 c5)) (by decide)
 have bR:(bV m x y z).natAbs<2^3600:=aG (jW (bT c1 c5) (bT c2 c4)) (by decide)
 have lg:(aq m x y).natAbs.log2<9000:=(Nat.log2_lt (by show(aq m x y).natAbs≠0;have:0<aq m x y:=ap;omega)).mpr (Nat.lt_of_lt_of_le bA (Nat.pow_le_pow_right (by decide) (by decide)))
 refine⟨_,rfl,_,rfl,_,_,rfl,rfl,⟨up c3,up c4⟩,_,rfl,_,rfl,_,_,rfl,rfl,⟨up c2,up c5⟩,_,_,rfl,rfl,_,rfl,_,_,rfl,rfl,⟨ap,lg⟩,?_⟩
 refine⟨_,rfl,_,rfl,_,_,rfl,rfl,⟨up c1,up c5⟩,_,rfl,_,rfl,_,_,rfl,rfl,⟨up c2,up c4⟩,_,_,rfl,rfl,_,rfl,_,_,rfl,rfl,⟨ap,lg⟩,?_⟩
 have bF:(bU m x y z/aq m x y).natAbs<2^3600:=Nat.lt_of_le_of_lt (jA _ ap) bS
 have bG:(bV m x y z/aq m x y).natAbs<2^3600:=Nat.lt_of_le_of_lt (jA _ ap) bR
 refine⟨_,rfl,_,rfl,(by show 2<=sizeLine;decide),λp0 g0=>⟨_,rfl,_,rfl,_,_,rfl,rfl,(by show 2<=sizeLine;decide),λp1 g1=>⟨_,rfl,_,_,rfl,rfl,_,rfl,(by show 2<=sizeLine;decide),λp2 g2=>⟨_,rfl,_,_,rfl,rfl,_,rfl,_,_,rfl,rfl,(by show 2<=sizeLine;decide),λp3 g3=>⟨(by show 4<=sizeLine;decide),λL gL=> ?_⟩⟩⟩⟩⟩
 have v0:=ay.up (o:= .tup [.int (bU m x y z/aq m x y),.int (bV m x y z/aq m x y)]) g0
 have v1:=ay.up (o:= .tup [.int (bU m x y z/aq m x y),.int ((bV m x y z/aq m x y)+1)]) g1
 have v2:=ay.up (o:= .tup [.int ((bU m x y z/aq m x y)+1),.int (bV m x y z/aq m x y)]) g2
 have v3:=ay.up (o:= .tup [.int ((bU m x y z/aq m x y)+1),.int ((bV m x y z/aq m x y)+1)]) g3
 have vL:=ay.up (o:= .lst [.ref p0,.ref p1,.ref p2,.ref p3]) gL
 have Sf:=v3.trans vL
 have Sh:=v2.trans Sf
 have Sj:=v1.trans Sh
 have vv:=v0.trans Sj
 have t0:=Sj _ _ (au (H:=H5) (a:=p0) (o:= .tup [.int (bU m x y z/aq m x y),.int (bV m x y z/aq m x y)]))
 have t1:=Sh _ _ (au (a:=p1) (o:= .tup [.int (bU m x y z/aq m x y),.int ((bV m x y z/aq m x y)+1)]))
 have t2:=Sf _ _ (au (a:=p2) (o:= .tup [.int ((bU m x y z/aq m x y)+1),.int (bV m x y z/aq m x y)]))
 have t3:=vL _ _ (au (a:=p3) (o:= .tup [.int ((bU m x y z/aq m x y)+1),.int ((bV m x y z/aq m x y)+1)]))
 have LM:=Od.trans vv
 refine⟨_,rfl,_,rfl,L,rfl,⟨_,aP.of au⟩,λD hD=>DQ (jg (aP.of au)) (by show 4<=sizeLine;decide) hD (λj=> .int (if j<2 then(bU m x y z/aq m x y)else(bU m x y z/aq m x y)+1)) (λj=> .int (if j%2=0 then(bV m x y z/aq m x y)else(bV m x y z/aq m x y)+1)) (λj v ev'=> ?_) (λj v H=> ∃r,v= .ref r/\r≠D/\bf H r (dw z (if j<2 then(bU m x y z/aq m x y)else(bU m x y z/aq m x y)+1) x (if j%2=0 then(bV m x y z/aq m x y)else(bV m x y z/aq m x y)+1) y)) (λj v H H' h off=> ?_) (λj hj H6 Q6 s6 eD k6=> ?_) (λws H6 s6 lw rel eD=> ?_)⟩
 ·have hj:j<4:=(List.getElem?_eq_some_iff.mp ev').1
  obtain rfl|rfl|rfl|rfl:j=0∨j=1∨j=2∨j=3:=by omega
  ·exact⟨p0,(Option.some.inj ev').symm,uJ.of t0⟩
  ·exact⟨p1,(Option.some.inj ev').symm,uJ.of t1⟩
  ·exact⟨p2,(Option.some.inj ev').symm,uJ.of t2⟩
  ·exact⟨p3,(Option.some.inj ev').symm,uJ.of t3⟩
 ·obtain⟨r,e,nr,hr⟩:=h
  exact⟨r,e,nr,off _ _ nr hr⟩
 ·have sa:=LM.trans s6
  have b4:∀{v:Int},v.natAbs<2^3600->(v+1).natAbs<2^4096:=λh=>aG (jx h (show(1:Int).natAbs<2^3600 from aG (a:=1) (by decide) (by decide))) (by decide)
  have bi:(if j<2 then(bU m x y z/aq m x y)else(bU m x y z/aq m x y)+1).natAbs<2^4096:=by split;exact aG bF (by decide);exact b4 bF
  have bj:(if j%2=0 then(bV m x y z/aq m x y)else(bV m x y z/aq m x y)+1).natAbs<2^4096:=by split;exact aG bG (by decide);exact b4 bG
  obtain⟨oD,eD⟩:=eD
  refine⟨_,rfl,_,rfl,_,rfl,c,z,_,a,x,rfl,sa _ _ hc,sa _ _ ha,bi,(λi hi=>aG (bx i hi) (by decide)),λr1 H7 s7 f1 e1=> ?_⟩
  refine⟨_,rfl,_,rfl,r1,_,_,b,y,rfl,e1,(sa.trans s7) _ _ hb,bj,(λi hi=>aG (bY i hi) (by decide)),λr2 H8 s8 f2 e2=> ?_⟩
  exact k6 (.ref r2) H8 (s7.trans s8) ⟨r2,rfl,(λw=>by rw[w,s7 _ _ eD]at f2;cases f2),e2⟩
 have UE:ws.length=4:=lw
 obtain⟨w0,w1,w2,w3,rfl⟩:∃a b c d,ws=[a,b,c,d]:=by
  match ws,UE with
  | [a,b,c,d],_=>exact⟨a,b,c,d,rfl⟩
 obtain⟨r0,rfl,_,x0⟩:=rel 0 _ rfl
 obtain⟨r1,rfl,_,x1⟩:=rel 1 _ rfl
 obtain⟨r2,rfl,_,x2⟩:=rel 2 _ rfl
 obtain⟨r3,rfl,_,x3⟩:=rel 3 _ rfl
 have x0:bf H6 r0 (dw z (bU m x y z/aq m x y) x (bV m x y z/aq m x y) y):=x0
 have x1:bf H6 r1 (dw z (bU m x y z/aq m x y) x ((bV m x y z/aq m x y)+1) y):=x1
 have x2:bf H6 r2 (dw z ((bU m x y z/aq m x y)+1) x (bV m x y z/aq m x y) y):=x2
 have x3:bf H6 r3 (dw z ((bU m x y z/aq m x y)+1) x ((bV m x y z/aq m x y)+1) y):=x3
 have LL:=LM.trans s6
 have D0:0<=aA m:=Int.le_of_lt (gv ab).2.2
 have each:∀r∈ [r0,r1,r2,r3],∃i j,(i=(bU m x y z/aq m x y)∨i=(bU m x y z/aq m x y)+1)/\(j=(bV m x y z/aq m x y)∨j=(bV m x y z/aq m x y)+1)/\bf H6 r (dw z i x j y):=λr hr=>by
  simp only[List.mem_cons,List.not_mem_nil,or_false]at hr
  rcases hr with rfl|rfl|rfl|rfl
  ·exact⟨_,_,.inl rfl,.inl rfl,x0⟩
  ·exact⟨_,_,.inl rfl,.inr rfl,x1⟩
  ·exact⟨_,_,.inr rfl,.inl rfl,x2⟩
  ·exact⟨_,_,.inr rfl,.inr rfl,x3⟩
 have same:∀{r:Addr}{v:Nat->Int},bf H6 r v->aS m (bL (gZ H6 r))=aS m v:=λh=>f7 (gJ h) (gJ h)
 refine⟨t,bs,m,D,[r0,r1,r2,r3],(λr=>bL (gZ H6 r)),rfl,hT.same LL,bO,hB,eD,(by show 4<64;decide),(λr hr=> ?_),(λr hr i hi=> ?_),LL _ _ hP,LL _ _ hC,λHn zs sn pz so p hp=> ?_⟩
 ·obtain⟨i,j,_,_,h⟩:=each r hr
  exact xH h
 ·obtain⟨i',j',hi',hj',h⟩:=each r hr
  show(bL (gZ H6 r) i).natAbs<2^1000
  rw[gJ h i hi]
  have cl:=DX ev lp hi' hj' D0
  have n0:=dI Po (dw z i' x j' y)
  refine aG (mF ev bO ab hB ?_ hi) (by decide)
  have k1:=Int.mul_nonneg D0 (aZ (bQ x y z))
  have k2:0<=aS m y:=dI Po y
  have k3:(aA m*(bQ x y z*bQ x y z)+3*aS m y).natAbs<2^(448+1):=jx bd (aG (bT (show(3:Int).natAbs<2^2 by decide) bw) (by decide))
  refine Nat.lt_of_le_of_lt ?_ (aG k3 (show 448+1<=450 by decide))
  omega
 have UG:∃UH rest,zs=UH::rest:=by
  cases zs with
  |nil=>have:=pz.length_eq;simp at this
  |cons r rest=>exact⟨r,rest,rfl⟩
 obtain⟨rz,rest,rfl⟩:=UG
 obtain⟨i,j,hi,hj,hz⟩:=each rz (pz.mem_iff.mp List.mem_cons_self)
 have least:∀r∈ [r0,r1,r2,r3],aS m (dw z i x j y)<=aS m (bL (gZ H6 r)):=λr hr=>by
  rw[<-same hz]
  rcases List.mem_cons.mp (pz.mem_iff.mpr hr)with e|hr'
  ·rw[e]
   exact Int.le_refl _
  ·have:cg m (bL (gZ H6 rz))<=cg m (bL (gZ H6 r)):=(List.pairwise_cons.mp so).1 r hr'
   have p1:=d8 ev (bL (gZ H6 rz))
   have p2:=d8 ev (bL (gZ H6 r))
   show av m _ _<=av m _ _
   omega
 have sF:=LL.trans (sn.trans (ay.up (o:= .lst ((rz::rest).map V.ref)) hp))
 refine⟨p,_,_,_,rfl,rfl,aP.of au,Gk,q rz _ _ (GC ev lp hi hj λi' j' hi' hj'=> ?_) sF ((sn.trans (ay.up hp)) _ _ hz)⟩
 rcases hi' with rfl|rfl<;>rcases hj' with rfl|rfl
 ·rw[<-same x0];exact least r0 (by simp)
 ·rw[<-same x1];exact least r1 (by simp)
 ·rw[<-same x2];exact least r2 (by simp)
 ·rw[<-same x3];exact least r3 (by simp)
inductive CK(T1 T0:Addr)(vs:List V)(H:Hp)(Q:VK)(E:XK):Prop
 |mk(t:Addr)(bs:List Addr)(m:List (List Int))(_:vs=[.ref t])(_:Tab H t bs m)(_:cB m)(_:Bd 440 m)(_:cj m)(_:b7 m=true)(_:(aA m).natAbs<2^440)(_:H T1=some (dH T1))(_:H T0=some .yz)(_:∀(r a b c:Addr) (x y z:Nat->Int) H',CB m x y z->ay H H'->H r=none->H' r=some (.lst [.ref a,.ref b,.ref c]) ->bf H' a x->bf H' b y->bf H' c z->Q (.ref r) H')
theorem uZ{aF aU:Addr}(F:eZ K mg "near_basis" k8 gM)(gr:cZ P w K mg base cP 8 "in_order" ig (xR aF aU))(lC:cZ P w K mg base cP 8 "least_pair" gK (zw aF))(oG:cZ P w K mg base cP 8 "drawn_in" jD (GP aF aU))(gT:cZ P w K mg base cP 8 "worth" kX (pZ aF)):cZ P w K mg base cP 9 "near_basis" gM (CK aF aU):=by
 refine F.ok cL (λvs H Q E h=> ?_) (λf cdv A outer s H vs Q E hr h=> ?_)
 ·obtain⟨t,bs,m,rfl,hT,bO,hB,ev,ab,bD,hP,hC,q⟩:=h
  rfl
 obtain⟨t,bs,m,rfl,hT,bO,hB,ev,ab,bD,hP,hC,q⟩:=h
 have hu:=hr.units
 refine⟨_,(kU (@ak _ _ _ _ _ (kN (aN gr hr rfl aM (af (pv 0) (af (dG (af (dG (af ah (af ah (af ah aj)))) (af (dG (af ah (af ah (af ah aj)))) (af (dG (af ah (af ah (af ah aj)))) aj)))) aj))) (jh rfl (aQ (aL (i:=1) cL.nd rfl (Or.inl rfl)) (aQ (aL (i:=2) cL.nd rfl (Or.inl rfl)) (aQ (aL (i:=3) cL.nd rfl (Or.inl rfl)) fH)))))
  (@aI _ _ _ (kg PassesOwn.never (jn lX) (kU (@ak _ _ _ _ _ (kN (aN lC hr rfl aM (af (pv 0) (af (pv 1) (af (pv 2) aj)))) (sW rfl (aQ (aL (i:=1) cL.nd rfl (Or.inl rfl)) (aQ (aL (i:=2) cL.nd rfl (Or.inl rfl)) fH))))
  (@ak _ _ _ _ _ (aD (i:=3) cL.nd rfl (Or.inl rfl) (aN oG hr rfl aM (af (pv 0) (af (pv 1) (af (pv 2) (af (pv 3) aj))))))
  (@ak _ _ _ _ _ (cY (bJ Ca (aN gT hr rfl aM (af (pv 0) (af (pv 3) aj))) (aN gT hr rfl aM (af (pv 0) (af (pv 2) aj))) (b8 _)) (@aI _ _ _ (aT (dG (af (pv 1) (af (pv 2) (af (pv 3) aj)))))) dO)
  (@aI _ _ _ (kN (aN gr hr rfl aM (af (pv 0) (af (dG (af (pv 1) (af (pv 2) (af (pv 3) aj)))) aj))) (jh rfl (aQ (aL (i:=1) cL.nd rfl (Or.inl rfl)) (aQ (aL (i:=2) cL.nd rfl (Or.inl rfl)) (aQ (aL (i:=3) cL.nd rfl (Or.inl rfl)) fH)))))))))))))),?_⟩
 have Po:=g8 (d9 ev bO) ab
 have bits:∀z:Nat->Int,aS m z<=(2^440:Int) -> ∀i,i<3->(z i).natAbs<2^666:=λz hz i hi=>mF ev bO ab hB (by have:=dI Po z;omega) hi
 have b1:∀v:Nat->Int,(∀i,i<3->(v i).natAbs<2^666) -> ∀i,i<3->(v i).natAbs<2^1000:=λv h i hi=>aG (h i hi) (by decide)
 have ord:∀{H1:Hp}{a b c:Addr}{x y z:Nat->Int},bf H1 a x->bf H1 b y->bf H1 c z->(bQ x y z=1∨bQ x y z= -1) ->aS m x<=(2^440:Int) ->aS m y<=(2^440:Int) ->aS m z<=(2^440:Int) ->
   (∀r∈ [a,b,c],bf H1 r (bL (gZ H1 r)))/\(∀r∈ [a,b,c],∀i,i<3->(bL (gZ H1 r) i).natAbs<2^1000)/\ ∀zs:List Addr,zs.Perm [a,b,c] ->zs.Pairwise (λa b=>cg m (bL (gZ H1 a))<=cg m (bL (gZ H1 b))) ->
   ∃(p q r:Addr)(x1 y1 z1:Nat->Int),zs=[p,q,r]/\bf H1 p x1/\bf H1 q y1/\bf H1 r z1/\(bQ x1 y1 z1=1∨bQ x1 y1 z1= -1)/\aS m x1<=(2^440:Int)/\aS m y1<=(2^440:Int)/\aS m z1<=(2^440:Int)/\aS m x1+aS m y1<=aS m x+aS m z:=λ {H1 a b c x y z} ha hb hc un wx wy wz=>by
  have same:∀{r:Addr}{v:Nat->Int},bf H1 r v->aS m (bL (gZ H1 r))=aS m v:=λh=>f7 (gJ h) (gJ h)
  have each:∀r∈ [a,b,c],bf H1 r (bL (gZ H1 r))/\aS m (bL (gZ H1 r))<=(2^440:Int):=λr hr=>by
   simp only[List.mem_cons,List.not_mem_nil,or_false]at hr
   rcases hr with rfl|rfl|rfl
   ·exact⟨xH ha,by rw[same ha];exact wx⟩
   ·exact⟨xH hb,by rw[same hb];exact wy⟩
   ·exact⟨xH hc,by rw[same hc];exact wz⟩
  refine⟨λr hr=>(each r hr).1,λr hr=>b1 _ (bits _ (each r hr).2),λzs pz so=> ?_⟩
  obtain⟨p,q,r,rfl,hp,hq,hr,dt,sum⟩:=LJ (X:=λr=>bL (gZ H1 r)) ev pz so
  refine⟨p,q,r,_,_,_,rfl,(each p hp).1,(each q hq).1,(each r hr).1,?_,(each p hp).2,(each q hq).2,(each r hr).2,by rw[<-same ha,<-same hc];exact sum⟩
  have e:=GF (gJ ha) (gJ hb) (gJ hc)
  rcases un with u|u<;>rcases dt with d|d<;>rw[e,u]at d<;>rw[d]<;>simp
 refine⟨_,rfl,(by show 3<=sizeLine;decide),λa0 h0=>⟨(by show 3<=sizeLine;decide),λa1 h1=>⟨(by show 3<=sizeLine;decide),λa2 h2=>⟨(by show 3<=sizeLine;decide),λA hA=> ?_⟩⟩⟩⟩
 have v0:=ay.up (o:= .lst [.int 1,.int 0,.int 0]) h0
 have v1:=ay.up (o:= .lst [.int 0,.int 1,.int 0]) h1
 have v2:=ay.up (o:= .lst [.int 0,.int 0,.int 1]) h2
 have vA:=ay.up (o:= .lst [.ref a0,.ref a1,.ref a2]) hA
 have sA:=v0.trans (v1.trans (v2.trans vA))
 have r0:bf _ a0 (Mw 0 1):=vA _ _ (v2 _ _ (v1 _ _ (au (H:=H) (a:=a0) (o:= .lst [.int 1,.int 0,.int 0]))))
 have r1:bf _ a1 (Mw 1 1):=vA _ _ (v2 _ _ (au (a:=a1) (o:= .lst [.int 0,.int 1,.int 0])))
 have r2:bf _ a2 (Mw 2 1):=vA _ _ (au (a:=a2) (o:= .lst [.int 0,.int 0,.int 1]))
 have wE:∀i,i<3->aS m (Mw i 1)<=(2^440:Int):=λi hi=>by
  rw[LH m hi]
  have:=hB i i hi hi
  omega
 obtain⟨o1,o2,o3⟩:=ord r0 r1 r2 (.inl (by decide)) (wE 0 (by decide)) (wE 1 (by decide)) (wE 2 (by decide))
 refine⟨t,bs,m,A,[a0,a1,a2],_,rfl,hT.same sA,bO,hB,au,(by show 3<64;decide),o1,o2,sA _ _ hP,sA _ _ hC,λHn zs sn pz so R hR=> ?_⟩
 obtain⟨a,b,c,x,y,z,rfl,hx,hy,hz,un,wx,wy,wz,_⟩:=o3 zs pz so
 have uR:=ay.up (o:= .lst ([a,b,c].map V.ref)) hR
 have s1:=sn.trans uR
 have hx:=s1 _ _ hx
 have hy:=s1 _ _ hy
 have hz:=s1 _ _ hz
 have eR:upd Hn R (.lst ([a,b,c].map V.ref)) R=some (.lst [.ref a,.ref b,.ref c]):=au
 have sH:=sA.trans s1
 refine⟨R,[.ref a,.ref b,.ref c],rfl,aP.of eR,rfl,_,_,rfl,_,_,rfl,_,_,rfl,rfl,?_⟩
 refine l9 (λσ H'=> ∃(a b c:Addr)(x y z:Nat->Int),σ=[some (.ref t),some (.ref a),some (.ref b),some (.ref c)]/\ay H H'/\bf H' a x/\bf H' b y/\bf H' c z/\(bQ x y z=1∨bQ x y z= -1)/\aS m x<=(2^440:Int)/\aS m y<=(2^440:Int)/\aS m z<=(2^440:Int)) (λσ H=>Gz m 1 σ H+Gz m 2 σ H) ⟨a,b,c,x,y,z,rfl,sH,hx,hy,hz,un,wx,wy,wz⟩ (λσ H' hh=> ?_) ?_
 rotate_left
 ·rintro σ H' Q Q' h ⟨c,e,k⟩
  exact⟨c,e,h _ _ k⟩
 obtain⟨a,b,c,x,y,z,rfl,s1,hx,hy,hz,un,wx,wy,wz⟩:=hh
 refine⟨true,rfl,Dr ?_⟩
 have ne:bQ x y z≠0:=by omega
 refine⟨_,rfl,_,rfl,_,rfl,t,bs,m,a,b,x,y,(2^440:Int),rfl,hT.same s1,bO,hB,ev,ab,hx,hy,⟨z,ne⟩,wx,wy,(by decide),s1 _ _ hP,λa' b' x' y' P H2 lp pr Mz MA s2 hx' hy' eP=> ?_⟩
 refine⟨P,[.ref a',.ref b'],rfl,uJ.of eP,rfl,_,_,rfl,_,_,rfl,rfl,?_⟩
 have s12:=s1.trans s2
 have un':bQ x' y' z=1∨bQ x' y' z= -1:=by
  obtain⟨e,he,hd⟩:=pr.det
  rw[hd]
  rcases he with rfl|rfl<;>rcases un with u|u<;>rw[u]<;>simp
 have one:bQ x' y' z*bQ x' y' z=1:=by rcases un' with u|u<;>rw[u]<;>decide
 have ny:=dI Po y'
 refine⟨_,rfl,_,rfl,_,rfl,_,rfl,t,bs,m,a',b',c,x',y',z,rfl,hT.same s12,bO,hB,ev,ab,hx',hy',s2 _ _ hz,lp,bits _ Mz,bits _ MA,bits _ wz,(by rw[one,Int.mul_one];exact aG bD (by decide)),(by omega),s12 _ _ hP,s12 _ _ hC,λr z' H3 dr s3 hz'=> ?_⟩
 have yC:=s12.trans s3
 have nz:=dI Po z'
 have Sk:bf H3 a' x':=s3 _ _ hx'
 have QC:bf H3 b' y':=s3 _ _ hy'
 have UI:bQ x' y' z'=1∨bQ x' y' z'= -1:=by rw[dr.det];exact un'
 have bz:∀i,i<3->(z' i).natAbs<2^666:=λi hi=>by
  obtain⟨ar,ap⟩:=lp.GB
  have few:=dr.few
  rw[one,Int.mul_one]at few
  have D0:=(gv ab).2.2
  refine mF ev bO ab hB ?_ hi
  have DW:1<=aq m x' y':=ap
  have k1:aS m z'<=aq m x' y'*aS m z':=by
   have:=Int.mul_le_mul_of_nonneg_right DW nz
   omega
  have k2:4*(aq m x' y'*aS m z')<=4*(aq m x' y'*(aA m+aS m y')):=by
   have e1:aq m x' y'*(aA m+aS m y')=aq m x' y'*aA m+aq m x' y'*aS m y':=Int.mul_add ..
   have e2:1*aA m<=aq m x' y'*aA m:=Int.mul_le_mul_of_nonneg_right DW (Int.le_of_lt D0)
   have e3:0<=aq m x' y'*aS m y':=Int.mul_nonneg (by omega) ny
   omega
  have k3:aS m z'<=aA m+aS m y':=Int.le_of_mul_le_mul_left (a:=aq m x' y') (by omega) ap
  omega
 refine⟨_,rfl,_,rfl,t,bs,m,r,z',rfl,hT.same yC,bO,hB.mono (by decide),hz',b1 _ bz,yC _ _ hP,λH4 s4=> ?_⟩
 refine⟨_,rfl,_,rfl,t,bs,m,b',y',rfl,hT.same (yC.trans s4),bO,hB.mono (by decide),s4 _ _ QC,b1 _ (bits _ MA),(yC.trans s4) _ _ hP,λH5 s5=> ?_⟩
 have QD:=s4.trans s5
 have Od:=yC.trans QD
 have ez:=d8 ev z'
 have ey:=d8 ev y'
 refine⟨_,_,rfl,rfl,_,rfl,iI (λcd=> ?_) (λcd=> ?_)⟩
 ·have cd:cg m y'<=cg m z':=of_decide_eq_true cd
  refine⟨_,rfl,_,rfl,_,rfl,(by show 3<=sizeLine;decide),λR hR=> ?_⟩
  have uR:=ay.up (o:= .lst [.ref a',.ref b',.ref r]) hR
  have QE:=QD.trans uR
  exact q R a' b' r x' y' z' _ (Jg lp dr un' (by show av m y' y'<=av m z' z';omega)) (Od.trans uR) (Od.none hR) au (QE _ _ Sk) (QE _ _ QC) (QE _ _ hz')
 ·have cd:¬cg m y'<=cg m z':=λw=>cd (decide_eq_true w)
  have lt:aS m z'<aS m y':=by show av m z' z'<av m y' y';omega
  refine⟨_,rfl,_,rfl,_,rfl,_,rfl,(by show 3<=sizeLine;decide),λL hL=> ?_⟩
  have uL:=ay.up (o:= .lst [.ref a',.ref b',.ref r]) hL
  have QF:=QD.trans uL
  obtain⟨o1,o2,o3⟩:=ord (QF _ _ Sk) (QF _ _ QC) (QF _ _ hz') UI Mz MA (by omega)
  have LM:=Od.trans uL
  refine⟨t,bs,m,L,[a',b',r],_,rfl,hT.same LM,bO,hB,au,(by show 3<64;decide),o1,o2,LM _ _ hP,LM _ _ hC,λHn zs sn pz so R hR=> ?_⟩
  obtain⟨p1,q1,r1,x1,y1,z1,rfl,LD,hy1,hz1,UJ,UK,UL,UM,sum⟩:=o3 zs pz so
  have uR:=ay.up (o:= .lst ([p1,q1,r1].map V.ref)) hR
  have s6:=sn.trans uR
  have LD:=s6 _ _ LD
  have hy1:=s6 _ _ hy1
  have hz1:=s6 _ _ hz1
  have eR:upd Hn R (.lst ([p1,q1,r1].map V.ref)) R=some (.lst [.ref p1,.ref q1,.ref r1]):=au
  refine⟨R,[.ref p1,.ref q1,.ref r1],rfl,aP.of eR,rfl,_,_,rfl,_,_,rfl,_,_,rfl,rfl,?_⟩
  refine⟨⟨p1,q1,r1,x1,y1,z1,rfl,LM.trans s6,LD,hy1,hz1,UJ,UK,UL,UM⟩,?_⟩
  have m1:=qm (m:=m) (i:=1) (σ:=[some (.ref t),some (.ref p1),some (.ref q1),some (.ref r1)]) (by rfl) LD
  have m2:=qm (m:=m) (i:=2) (σ:=[some (.ref t),some (.ref p1),some (.ref q1),some (.ref r1)]) (by rfl) hy1
  have m3:=qm (m:=m) (i:=1) (σ:=[some (.ref t),some (.ref a),some (.ref b),some (.ref c)]) (by rfl) hx
  have m4:=qm (m:=m) (i:=2) (σ:=[some (.ref t),some (.ref a),some (.ref b),some (.ref c)]) (by rfl) hy
  show Gz m 1 [some (.ref t),some (.ref p1),some (.ref q1),some (.ref r1)] (upd Hn R (.lst ([p1,q1,r1].map V.ref)))+Gz m 2 [some (.ref t),some (.ref p1),some (.ref q1),some (.ref r1)] (upd Hn R (.lst ([p1,q1,r1].map V.ref)))<Gz m 1 [some (.ref t),some (.ref a),some (.ref b),some (.ref c)] H'+Gz m 2 [some (.ref t),some (.ref a),some (.ref b),some (.ref c)] H'
  rw[m1,m2,m3,m4]
  have n1:0<=av m x1 x1:=dI Po x1
  have n2:0<=av m y1 y1:=dI Po y1
  have n3:0<=av m x x:=dI Po x
  have n4:0<=av m y y:=dI Po y
  have ps:av m x' x'+av m y' y'<=av m x x+av m y y:=pr.sum
  have sm:av m x1 x1+av m y1 y1<=av m x' x'+av m z' z':=sum
  have lt:av m z' z'<av m y' y':=lt
  omega
inductive Bl(T2 T1 T0:Addr)(vs:List V)(H:Hp)(Q:VK)(E:XK):Prop
 |mk(t:Addr)(bs:List Addr)(m:List (List Int))(_:vs=[.ref t])(_:Tab H t bs m)(_:cB m)(_:Bd 440 m)(_:cj m)(_:b7 m=true)(_:(aA m).natAbs<2^440)(_:H T2=some (dH T2))(_:H T1=some (dH T1))(_:H T0=some .yz)(_:∀u us r rs B P H',mJ (fK m B) ->(aA B=1∨aA B= -1) ->aA (fK m B)=aA m->cB B->Bd 700 B->ay H H'->H' P=some (.tup [.ref u,.ref r]) ->Tab H' u us (fK m B) ->Tab H' r rs B->Q (.ref P) H')
theorem Jl{aF aU bu:Addr}(F:eZ K mg "near" AZ qA)(lD:cZ P w K mg base cP 9 "near_basis" gM (CK aF aU))(qK:cZ P w K mg base cP 9 "carried" kC (wk bu)):cZ P w K mg base cP 10 "near" qA (Bl bu aF aU):=by
 refine F.ok CG (λvs H Q E h=> ?_) (λf cdv A outer s H vs Q E hr h=> ?_)
 ·obtain⟨t,bs,m,rfl,hT,bO,hB,ev,ab,bD,hM,hP,hC,q⟩:=h
  rfl
 obtain⟨t,bs,m,rfl,hT,bO,hB,ev,ab,bD,hM,hP,hC,q⟩:=h
 have hu:=hr.units
 refine⟨_,(kU (@ak _ _ _ _ _ (aD (i:=1) CG.nd rfl (Or.inl rfl) (aN lD hr rfl aM (af (pv 0) aj)))
  (@aI _ _ _ (aT (nS (af (aN qK hr rfl aM (af (pv 0) (af (pv 1) aj))) (af (pv 1) aj))))))),?_⟩
 have Po:=g8 (d9 ev bO) ab
 refine⟨_,rfl,t,bs,m,rfl,hT,bO,hB,ev,ab,bD,hP,hC,λr a b c x y z H1 nr s1 fr er hx hy hz=> ?_⟩
 obtain⟨f1,f2,f3⟩:=GG nr
 have bits:∀v:Nat->Int,3*aS m v<=16*aA m-> ∀i,i<3->(v i).natAbs<2^666:=λv hv i hi=>mF ev bO ab hB (by have:=dI Po v;omega) hi
 obtain⟨nt,un,dt⟩:=AR ev bO ab nr
 have TB:Tab H1 r [a,b,c] (eK x y z):=iy (λi j=>if i=0 then x j else if i=1 then y j else z j) er hx hy hz
 have bB:Bd 666 (eK x y z):=λi j hi hj=>by
  obtain⟨g0,g1,g2⟩:=nA x y z hj
  rcases bC hi with rfl|rfl|rfl
  ·rw[g0];exact bits x f1 j hj
  ·rw[g1];exact bits y f2 j hj
  ·rw[g2];exact bits z f3 j hj
 refine⟨_,rfl,_,rfl,t,bs,m,r,[a,b,c],eK x y z,rfl,hT.same s1,TB,bO,cH _,hB.mono (by decide),bB.mono (by decide),s1 _ _ hM,λu us H2 s2 fu Qx nu Tu=> ?_⟩
 refine⟨_,rfl,(by show 2<=sizeLine;decide),λP QB=> ?_⟩
 have uP:=ay.up (o:= .tup [.ref u,.ref r]) QB
 exact q u us r [a,b,c] (eK x y z) P _ nt un dt (cH _) (bB.mono (by decide)) (s1.trans (s2.trans uP)) au (Tu.same uP) ((TB.same s2).same uP)
end
end CR
namespace L2
open PySem PySem.Spec PyProof.Rows
section
variable{X:Cx}
def Oe:V->List V->Hp->VK->Prop:=λx vs H Q=> ∃i:Int,x= .int i/\vs=[]/\Q (.int ((Builtin.Int.intBits i:Nat):Int)) H
theorem Jm:PB X "int.bit_length" Oe:=by
 intro pins s σ H x vs v us Q I rx rv h
 obtain⟨i,rfl,rfl,q⟩:=h
 obtain⟨t,rfl⟩:=rx
 have UN:=rv.zero
 subst UN
 exact PyProof.Rows.call_int_bit_length ⟨.int _,H,I.tok _,⟨_,rfl⟩,q⟩
end
theorem zA{N:Int}(h:0<=N):N<2^(Builtin.Int.intBits N):=by
 unfold Builtin.Int.intBits
 by_cases c:(N==0)=true
 ·rw[if_pos c]
  have:N=0:=by simpa using c
  subst this
  decide
 ·rw[if_neg c]
  have n0:N.natAbs≠0:=by
   have:¬N=0:=by simpa using c
   omega
  have:=Nat.lt_log2_self (n:=N.natAbs)
  have e:((2^(N.natAbs.log2+1):Nat):Int)=2^(N.natAbs.log2+1):=by push_cast;rfl
  omega
theorem Bm{N:Int}(h:0<=N){r:Int}(r0:0<=r)(hr:r*r<=N):r<=1*2^((((Builtin.Int.intBits N:Nat):Int)+1)/2).toNat:=by
 have b:=zA h
 generalize Builtin.Int.intBits N=k at b ⊢
 have e:(((k:Int)+1)/2).toNat=(k+1)/2:=by omega
 rw[e,Int.one_mul]
 refine Int.le_of_lt_add_one (Int.lt_of_not_ge λz=> ?_)
 have p0:(0:Int)<=2^((k+1)/2):=Int.le_of_lt (Int.pow_pos (by decide))
 have s:((2:Int)^((k+1)/2)+1)*(2^((k+1)/2)+1)<=r*r:=Int.mul_le_mul z z (by omega) r0
 have q:(2:Int)^k<=2^((k+1)/2)*2^((k+1)/2):=by
  rw[<-Int.pow_add]
  exact_mod_cast Nat.pow_le_pow_right (n:=2) (by decide) (show k<=(k+1)/2+(k+1)/2 by omega)
 have e2:((2:Int)^((k+1)/2)+1)*(2^((k+1)/2)+1)=2^((k+1)/2)*2^((k+1)/2)+2*2^((k+1)/2)+1:=by grind
 omega
theorem Ef{N t:Int}(t0:0<t)(h:N<t*t)(N0:0<=N):(∀r,0<=r->r*r<=N->r<=(t+N/t)/2)/\(t+N/t)/2<t/\0<=(t+N/t)/2:=by
 have q0:0<=N/t:=Int.ediv_nonneg N0 (Int.le_of_lt t0)
 refine⟨λr r0 hr=> ?_,?_,by omega⟩
 ·have k:(2*r-t)*t<=N:=by
   have s:=aZ (t-r)
   have e:(t-r)*(t-r)=t*t-2*(r*t)+r*r:=by grind
   have e2:(2*r-t)*t=2*(r*t) -t*t:=by grind
   omega
  have:2*r-t<=N/t:=(Int.le_ediv_iff_mul_le t0).mpr k
  omega
 ·have:N/t<t:=(Int.ediv_lt_iff_lt_mul t0).mpr h
  omega
theorem Eg{N t:Int}(t0:0<=t)(h:¬N<t*t)(up:∀r,0<=r->r*r<=N->r<=t):t*t<=N/\N<(t+1)*(t+1):=by
 refine⟨by omega,Int.lt_of_not_ge λz=> ?_⟩
 have:=up (t+1) (by omega) z
 omega
theorem wo{N a b:Int}(a0:0<=a)(b0:0<=b)(h1:a*a<=N)(h2:N<(b+1)*(b+1)):a<=b:=by
 refine Int.le_of_lt_add_one (Int.lt_of_not_ge λz=> ?_)
 have:=Int.mul_le_mul z z (show 0<=b+1 by omega) a0
 omega
end L2
set_option maxHeartbeats 1000000
namespace CR
open PySem L2
section
variable{P:Program}{w:World}{K:PySem.W.Frag}{mg:Str->Option Value}{base:Heap}
inductive Bo(vs:List V)(H:Hp)(Q:VK)(E:XK):Prop
 |mk(N:Int)(_:vs=[.int N])(_:0<=N)(_:N.natAbs<2^200)(_:∀r:Int,0<=r->r*r<=N->N<(r+1)*(r+1) ->Q (.int r) H)
theorem Jo(F:eZ K mg "root" Ba qB):cZ P w K mg base cP 1 "root" qB Bo:=by
 refine F.ok xM (λvs H Q E h=> ?_) (λf cdv A outer s H vs Q E hr h=> ?_)
 ·obtain⟨N,rfl,N0,bN,q⟩:=h
  rfl
 obtain⟨N,rfl,N0,bN,q⟩:=h
 have hu:=hr.units
 refine⟨_,(kU (@ak _ _ _ _ _ (aD (i:=1) xM.nd rfl (Or.inl rfl) (ai KP ah (ai bZ (ai aR (La PySem.F.plainAttrs_int PyProof.Rows.slot_int_bit_length PyProof.Rows.type_int_bit_length Jm (pv 0)) ah) ah)))
  (@ak _ _ _ _ _ (kg PassesOwn.never (bJ nK (ai aB (pv 1) (pv 1)) (pv 0) (b8 _)) (cK (aD (i:=1) xM.nd rfl (Or.inl rfl) (ai bZ (ai aR (pv 1) (ai pI (pv 0) (pv 1))) ah))))
  (@aI _ _ _ (aT (pv 1)))))),?_⟩
 have b0:=zA N0
 have bits:Builtin.Int.intBits N<=200:=by
  unfold Builtin.Int.intBits
  split
  ·omega
  ·rename_i c
   have n0:N.natAbs≠0:=by
    have:¬N=0:=by simpa using c
    omega
   have:=(Nat.log2_lt n0).mpr bN
   omega
 have start:=λr r0 hr=>Bm N0 (r:=r) r0 hr
 have t0:(0:Int)<1*2^((((Builtin.Int.intBits N:Nat):Int)+1)/2).toNat:=by
  rw[Int.one_mul]
  exact Int.pow_pos (by decide)
 have t1:(1*2^((((Builtin.Int.intBits N:Nat):Int)+1)/2).toNat:Int).natAbs<2^110:=by
  have e:(((Builtin.Int.intBits N:Int))+1)/2<=100:=by omega
  rw[Int.one_mul,Int.natAbs_pow]
  exact Nat.pow_lt_pow_right (by decide) (by omega)
 refine⟨_,rfl,rfl,⟨N,rfl,rfl,_,_,rfl,rfl,_,_,rfl,rfl,⟨by decide,by decide⟩,_,_,rfl,rfl,⟨by omega,by omega,by decide⟩,?_⟩⟩
 have t0:=Int.le_of_lt t0
 refine l9 (λσ H'=>H'=H/\ ∃t:Int,σ=[some (.int N),some (.int t)]/\0<=t/\t.natAbs<2^110/\ ∀r,0<=r->r*r<=N->r<=t) (λσ _=>match σ with| [_,some (.int t)]=>t.toNat|_=>0) ⟨rfl,_,rfl,t0,t1,start⟩ (λσ H' hh=> ?_) ?_
 rotate_left
 ·rintro σ H' Q Q' h ⟨v,e,v2,e',i,j,e1,e2,c,v3,e3,a,b,e4,e5,k,ek,kk⟩
  exact⟨v,e,v2,e',i,j,e1,e2,c,v3,e3,a,b,e4,e5,k,ek,h _ _ kk⟩
 obtain⟨rfl,t,rfl,t0,t1,up⟩:=hh
 refine⟨_,rfl,_,rfl,_,_,rfl,rfl,⟨aG t1 (by decide),aG t1 (by decide)⟩,_,rfl,_,_,rfl,rfl,_,rfl,iI (λc=> ?_) (λc=> ?_)⟩
 ·have c:N<t*t:=of_decide_eq_true c
  have tp:0<t:=by
   rcases Int.lt_or_le 0 t with z|z
   ·exact z
   ·exfalso
    have:t=0:=by omega
    rw[this]at c
    omega
  obtain⟨s1,s2,s3⟩:=Ef tp c N0
  have lg:t.natAbs.log2<9000:=(Nat.log2_lt (by omega)).mpr (Nat.lt_of_lt_of_le t1 (Nat.pow_le_pow_right (by decide) (by decide)))
  refine⟨_,rfl,_,rfl,_,rfl,_,_,rfl,rfl,⟨tp,lg⟩,_,_,rfl,rfl,_,_,rfl,rfl,⟨by decide,by decide⟩,⟨rfl,_,rfl,s3,by omega,s1⟩,?_⟩
  show((t+N/t)/2).toNat<t.toNat
  omega
 ·have c:¬N<t*t:=λz=>c (decide_eq_true z)
  obtain⟨d1,d2⟩:=Eg t0 c up
  exact⟨_,rfl,q t t0 d1 d2⟩
end
end CR
namespace L2
open PySem PySem.Spec PyProof.Rows
def dh(N:List (List Int)):Int:=ent N 0 0*ent N 1 1-ent N 0 1*ent N 0 1
def iG(N:List (List Int)):Int:=ent N 0 0*ent N 1 2-ent N 0 1*ent N 0 2
def hiT(N:List (List Int)):Int:=ent N 0 0*ent N 2 2-ent N 0 2*ent N 0 2
def j6(N:List (List Int))(n y z:Int):Int:=2*n*ent N 0 0- (dh N*y*y+2*iG N*y*z+hiT N*z*z)
def p9(N:List (List Int))(y z:Int):Int:=ent N 0 1*y+ent N 0 2*z
theorem nE{N:List (List Int)}(ev:cj N):dh N*hiT N-iG N*iG N=ent N 0 0*aA N:=by
 have Jd:ent N 1 0=ent N 0 1:=ev.sym.1
 have Je:ent N 2 0=ent N 0 2:=ev.sym.2.1
 have Jf:ent N 2 1=ent N 1 2:=ev.sym.2.2
 rw[cU,Jd,Je,Jf]
 unfold dh hiT iG
 grind
theorem qL{N:List (List Int)}(ev:cj N)(pos:0<ent N 0 0)(n:Int)(v:Nat->Int):cg N v=n↔(ent N 0 0*v 0+p9 N (v 1) (v 2))*(ent N 0 0*v 0+p9 N (v 1) (v 2))=j6 N n (v 1) (v 2):=by
 have Jd:ent N 1 0=ent N 0 1:=ev.sym.1
 have Je:ent N 2 0=ent N 0 2:=ev.sym.2.1
 have Jf:ent N 2 1=ent N 1 2:=ev.sym.2.2
 have h:=d8 ev v
 have id:ent N 0 0*av N v v=(ent N 0 0*v 0+p9 N (v 1) (v 2))*(ent N 0 0*v 0+p9 N (v 1) (v 2))+(dh N*v 1*v 1+2*iG N*v 1*v 2+hiT N*v 2*v 2):=by
  rw[bh,Jd,Je,Jf]
  unfold p9 dh iG hiT
  grind
 unfold j6
 generalize(ent N 0 0*v 0+p9 N (v 1) (v 2))*(ent N 0 0*v 0+p9 N (v 1) (v 2))=s at id ⊢
 generalize dh N*v 1*v 1+2*iG N*v 1*v 2+hiT N*v 2*v 2=t at id ⊢
 rw[h]at id
 have e:2*n*ent N 0 0=ent N 0 0*(2*n):=Int.mul_comm ..
 constructor
 ·intro z
  rw[z]at id
  omega
 ·intro z
  have:ent N 0 0*(2*cg N v)=ent N 0 0*(2*n):=by omega
  have:=Int.eq_of_mul_eq_mul_left (show ent N 0 0≠0 by omega) this
  omega
theorem t6{N:List (List Int)}(ev:cj N)(pos:0<ent N 0 0)(fl:0<dh N)(n y z:Int):0<=j6 N n y z↔(dh N*y+iG N*z)*(dh N*y+iG N*z)<=dh N*(2*n*ent N 0 0) -ent N 0 0*aA N*z*z:=by
 have fh:=nE ev
 have id:dh N*j6 N n y z=dh N*(2*n*ent N 0 0) -ent N 0 0*aA N*z*z- (dh N*y+iG N*z)*(dh N*y+iG N*z):=by
  unfold j6
  rw[<-fh]
  generalize dh N=f,iG N=b,hiT N=h,2*n*ent N 0 0=w
  grind
 constructor
 ·intro h
  have:=Int.mul_nonneg (Int.le_of_lt fl) h
  omega
 ·intro h
  have h2:0<=dh N*j6 N n y z:=by omega
  rcases Int.lt_or_le (j6 N n y z) 0 with c|c
  ·exfalso
   have:=Int.mul_lt_mul_of_pos_left c fl
   omega
  ·exact c
theorem sN{N x s:Int}(s0:0<=s)(h1:s*s<=N)(h2:N<(s+1)*(s+1)):x*x<=N↔ -s<=x/\x<=s:=by
 constructor
 ·intro h
  rcases Int.le_total 0 x with c|c
  ·have:=wo c s0 h h2
   omega
  ·have:(-x)*(-x)<=N:=by
    have e:(-x)*(-x)=x*x:=by grind
    omega
   have:=wo (a:= -x) (by omega) s0 this h2
   omega
 ·rintro⟨a,b⟩
  have:=mH a b
  omega
theorem nF{f b z s y:Int}(hf:0<f):(-s<=f*y+b*z/\f*y+b*z<=s)↔(-((s+b*z)/f)<=y/\y<(s-b*z)/f+1):=by
 have e1:y<=(s-b*z)/f↔y*f<=s-b*z:=Int.le_ediv_iff_mul_le hf
 have e2: -y<=(s+b*z)/f↔ -y*f<=s+b*z:=Int.le_ediv_iff_mul_le hf
 have c1:y*f=f*y:=Int.mul_comm ..
 have c2: -y*f= -(f*y):=by rw[Int.neg_mul,c1]
 rw[c1]at e1
 rw[c2]at e2
 constructor
 ·rintro⟨h1,h2⟩
  have:=e1.mpr (by omega)
  have:=e2.mpr (by omega)
  omega
 ·rintro⟨h1,h2⟩
  have:=e1.mp (by omega)
  have:=e2.mp (by omega)
  omega
theorem aO{N:List (List Int)}(D:0<aA N)(fl:0<dh N){n R z:Int}(R0:0<=R)(h1:R*R<=2*n*dh N/aA N)(h2:2*n*dh N/aA N<(R+1)*(R+1)):(-R<=z/\z<=R)↔aA N*z*z<=2*n*dh N:=by
 rw[<-sN R0 h1 h2,Int.le_ediv_iff_mul_le D]
 have e:z*z*aA N=aA N*z*z:=by grind
 rw[e]
theorem gu{N:List (List Int)}(h:mJ N)(dD:aA N<=401):0<dh N/\0<aA N/\2<=ent N 0 0/\ent N 0 0<=2200/\ent N 1 1<=2200/\ent N 2 2<=2200/\3*dh N<=8*aA N/\3*ent N 0 0<=2*dh N:=by
 obtain⟨c1,c2,c3⟩:=gv h.ab
 have p:=h.pos
 have l1:=h.OM
 have l2:=h.ON
 obtain⟨_,a,b,c,ea,eb,ec⟩:=h.ev
 have f:=h.few
 have a2:2<=ent N 0 0:=by omega
 have b2:2<=ent N 1 1:=by omega
 have UO:2<=ent N 2 2:=by omega
 have k1:2*2<=ent N 0 0*ent N 1 1:=Int.mul_le_mul a2 b2 (by omega) (by omega)
 have k2:4*ent N 2 2<=ent N 0 0*ent N 1 1*ent N 2 2:=Int.mul_le_mul_of_nonneg_right (by omega) (by omega)
 have sq:=mH h.p.1 h.p.2
 have e4:2*ent N 0 1*(2*ent N 0 1)=4*(ent N 0 1*ent N 0 1):=by grind
 have aa:ent N 0 0*ent N 0 0<=ent N 0 0*ent N 1 1:=Int.mul_le_mul_of_nonneg_left l1 (by omega)
 have s0:=aZ (ent N 0 1)
 have k3:ent N 0 0*ent N 1 1*2<=ent N 0 0*ent N 1 1*ent N 2 2:=Int.mul_le_mul_of_nonneg_left UO (by omega)
 have k4:ent N 0 0*2<=ent N 0 0*ent N 1 1:=Int.mul_le_mul_of_nonneg_left b2 (by omega)
 unfold dh
 refine⟨by omega,c3,a2,by omega,by omega,by omega,by omega,by omega⟩
theorem GQ{N:List (List Int)}(h:mJ N)(dD:aA N<=401){n R:Int}(n0:0<=n)(n6:n<=600)(R0:0<=R)(h1:R*R<=2*n*dh N/aA N):R<=60:=by
 obtain⟨f0,d0,_,_,_,_,k,_⟩:=gu h dD
 have:2*n*dh N/aA N<=3200:=by
  refine Int.le_of_lt_add_one ((Int.ediv_lt_iff_lt_mul d0).mpr ?_)
  have e:2*n*dh N<=1200*dh N:=Int.mul_le_mul_of_nonneg_right (by omega) (Int.le_of_lt f0)
  omega
 refine Int.le_of_lt_add_one (Int.lt_of_not_ge λz=> ?_)
 have:=Int.mul_le_mul z z (by decide) R0
 omega
theorem Jp{N:List (List Int)}(h:mJ N)(dD:aA N<=401){n z s:Int}(n0:0<=n)(n6:n<=600)(s0:0<=s)(h1:s*s<=dh N*(2*n*ent N 0 0) -ent N 0 0*aA N*z*z):s<=30*dh N:=by
 obtain⟨f0,d0,a2,_,_,_,_,k⟩:=gu h dD
 have zz:0<=ent N 0 0*aA N*z*z:=by
  have:=Int.mul_nonneg (Int.mul_nonneg (show 0<=ent N 0 0 by omega) (Int.le_of_lt d0)) (aZ z)
  rw[<-Int.mul_assoc]at this
  exact this
 have w:2*n*ent N 0 0<=1200*ent N 0 0:=Int.mul_le_mul_of_nonneg_right (by omega) (by omega)
 have w2:2*n*ent N 0 0<=800*dh N:=by omega
 have w3:dh N*(2*n*ent N 0 0)<=dh N*(800*dh N):=Int.mul_le_mul_of_nonneg_left w2 (Int.le_of_lt f0)
 refine Int.le_of_lt_add_one (Int.lt_of_not_ge λy=> ?_)
 have:=Int.mul_le_mul y y (by omega) s0
 have e1:(30*dh N+1)*(30*dh N+1)=900*(dh N*dh N)+60*dh N+1:=by grind
 have e2:dh N*(800*dh N)=800*(dh N*dh N):=by grind
 have ff:=aZ (dh N)
 omega
def gU(z y0:Int)(k:Nat):List (Int×Int):=(List.range k).map λj:Nat=>(y0+(j:Int),z)
def fJ(lo:Int->Int)(ln:Int->Nat)(R:Int)(m:Nat):List (Int×Int):=(List.range m).flatMap λi:Nat=>gU ((i:Int) -R) (lo ((i:Int) -R)) (ln ((i:Int) -R))
theorem t7{z y0:Int}{k:Nat}{p:Int×Int}:p∈gU z y0 k↔p.2=z/\y0<=p.1/\p.1<y0+k:=by
 obtain⟨y,z'⟩:=p
 simp only[gU,List.mem_map,List.mem_range,Prod.mk.injEq]
 constructor
 ·rintro⟨j,hj,rfl,rfl⟩
  exact⟨rfl,by omega,by omega⟩
 ·rintro⟨rfl,h1,h2⟩
  exact⟨(y-y0).toNat,by omega,by omega,rfl⟩
theorem xS{z y0:Int}{k:Nat}:(gU z y0 k).Nodup:=by
 unfold gU List.Nodup
 rw[List.pairwise_map]
 refine List.Pairwise.imp ?_ (List.nodup_range (n:=k))
 intro a b h e
 have:=(Prod.mk.inj e).1
 omega
theorem zB{z y0:Int}{k:Nat}:gU z y0 (k+1)=gU z y0 k++ [(y0+(k:Int),z)]:=by
 simp[gU,List.range_succ]
theorem lE{lo:Int->Int}{ln:Int->Nat}{R:Int}{m:Nat}:fJ lo ln R (m+1)=fJ lo ln R m++gU ((m:Int) -R) (lo ((m:Int) -R)) (ln ((m:Int) -R)):=by
 simp[fJ,List.range_succ]
theorem rG{lo:Int->Int}{ln:Int->Nat}{R:Int}{m:Nat}{p:Int×Int}:p∈fJ lo ln R m↔(-R<=p.2/\p.2<m-R)/\lo p.2<=p.1/\p.1<lo p.2+ln p.2:=by
 simp only[fJ,List.mem_flatMap,List.mem_range,t7]
 constructor
 ·rintro⟨i,hi,e,h1,h2⟩
  rw[e]
  exact⟨⟨by omega,by omega⟩,h1,h2⟩
 ·rintro⟨⟨a,b⟩,h1,h2⟩
  have e:p.2=((p.2+R).toNat:Int) -R:=by omega
  exact⟨(p.2+R).toNat,by omega,e,e▸h1,e▸h2⟩
theorem vc{lo:Int->Int}{ln:Int->Nat}{R:Int}{m:Nat}:(fJ lo ln R m).Nodup:=by
 induction m with
 |zero=>simp[fJ]
 |succ m ih=>
  rw[lE,List.nodup_append]
  refine⟨ih,xS,?_⟩
  intro a ha b hb e
  have h1:=(rG.mp ha).1.2
  have h2:=(t7.mp hb).1
  rw[e,h2]at h1
  omega
theorem t8{lo:Int->Int}{ln:Int->Nat}{R:Int}{m L:Nat}(h:∀i:Nat,i<m->ln ((i:Int) -R)<=L):(fJ lo ln R m).length<=m*L:=by
 induction m with
 |zero=>simp[fJ]
 |succ m ih=>
  rw[lE,List.length_append,Nat.succ_mul]
  have h1:=ih λi hi=>h i (by omega)
  have h2:=h m (by omega)
  simp only[gU,List.length_map,List.length_range]
  omega
theorem zC{N:List (List Int)}(ev:cj N)(pos:0<ent N 0 0)(fl:0<dh N)(D:0<aA N){n R:Int}(R0:0<=R)(h1:R*R<=2*n*dh N/aA N)(h2:2*n*dh N/aA N<(R+1)*(R+1)){sp:Int->Int}(s0:∀z,-R<=z->z<=R->0<=sp z/\sp z*sp z<=dh N*(2*n*ent N 0 0) -ent N 0 0*aA N*z*z/\dh N*(2*n*ent N 0 0) -ent N 0 0*aA N*z*z<(sp z+1)*(sp z+1))(y z:Int):
  (y,z)∈fJ (λz=> -((sp z+iG N*z)/dh N)) (λz=>((sp z-iG N*z)/dh N+1- -((sp z+iG N*z)/dh N)).toNat) R (2*R+1).toNat↔0<=j6 N n y z:=by
 rw[rG]
 simp only
 have zr:=aO D fl (n:=n) (z:=z) R0 h1 h2
 constructor
 ·rintro⟨⟨a,b⟩,c,d⟩
  have zb:z<=R:=by omega
  obtain⟨t0,t1,t2⟩:=s0 z a zb
  rw[t6 ev pos fl,sN t0 t1 t2]
  refine(nF fl).mpr ⟨c,?_⟩
  omega
 ·intro h
  rw[t6 ev pos fl]at h
  have zz:aA N*z*z<=2*n*dh N:=by
   have q:=aZ (dh N*y+iG N*z)
   have e:ent N 0 0*(aA N*z*z)<=ent N 0 0*(2*n*dh N):=by
    have:ent N 0 0*aA N*z*z=ent N 0 0*(aA N*z*z):=by grind
    have:dh N*(2*n*ent N 0 0)=ent N 0 0*(2*n*dh N):=by grind
    omega
   exact Int.le_of_mul_le_mul_left e pos
  obtain⟨a,b⟩:=zr.mpr zz
  obtain⟨t0,t1,t2⟩:=s0 z a b
  rw[sN t0 t1 t2]at h
  obtain⟨c,d⟩:=(nF fl).mp h
  refine⟨⟨a,by omega⟩,c,by omega⟩
theorem LN{X r r':Int}(h0:0<=r)(h1:r*r<=X)(h2:X<(r+1)*(r+1))(g0:0<=r')(g1:r'*r'<=X)(g2:X<(r'+1)*(r'+1)):r=r':=by
 rcases Int.lt_trichotomy r r' with c|c|c
 ·have:(r+1)*(r+1)<=r'*r':=Int.mul_le_mul (by omega) (by omega) (by omega) (by omega)
  omega
 ·exact c
 ·have:(r'+1)*(r'+1)<=r*r:=Int.mul_le_mul (by omega) (by omega) (by omega) (by omega)
  omega
open Classical in
noncomputable def gf(X:Int):Int:=if h:∃r:Int,0<=r/\r*r<=X/\X<(r+1)*(r+1)then Classical.choose h else 0
theorem nG{X r:Int}(h0:0<=r)(h1:r*r<=X)(h2:X<(r+1)*(r+1)):gf X=r:=by
 have h:∃r:Int,0<=r/\r*r<=X/\X<(r+1)*(r+1):=⟨r,h0,h1,h2⟩
 unfold gf
 rw[dif_pos h]
 obtain⟨g0,g1,g2⟩:=Classical.choose_spec h
 exact LN g0 g1 g2 h0 h1 h2
theorem Eh(n:Nat):∃r:Int,0<=r/\r*r<=(n:Int)/\(n:Int)<(r+1)*(r+1):=by
 induction n with
 |zero=>exact⟨0,by decide,by decide,by decide⟩
 |succ n ih=>
  obtain⟨r,h0,h1,h2⟩:=ih
  by_cases c:((n+1:Nat):Int)<(r+1)*(r+1)
  ·exact⟨r,h0,by omega,c⟩
  ·refine⟨r+1,by omega,by omega,?_⟩
   have e:(r+1+1)*(r+1+1)=(r+1)*(r+1)+2*r+3:=by grind
   omega
theorem kI{X:Int}(h:0<=X):0<=gf X/\gf X*gf X<=X/\X<(gf X+1)*(gf X+1):=by
 obtain⟨r,h0,h1,h2⟩:=Eh X.toNat
 have e:(X.toNat:Int)=X:=Int.toNat_of_nonneg h
 rw[e]at h1 h2
 rw[nG h0 h1 h2]
 exact⟨h0,h1,h2⟩
def SD(D:Addr)(H H':Hp):Prop:=∀a o,a≠D->H a=some o->H' a=some o
theorem SD.refl{D:Addr}{H:Hp}:SD D H H:=λ_ _ _ e=>e
theorem SD.trans{D:Addr}{H H' NO:Hp}(h:SD D H H')(h':SD D H' NO):SD D H NO:=λa o n e=>h' a o n (h a o n e)
theorem SD.of{D:Addr}{H H':Hp}(s:ay H H'):SD D H H':=λa o _ e=>s _ _ e
theorem SD.upd{D:Addr}{H H':Hp}{o:HO}(h:SD D H H'):SD D H (upd H' D o):=λa o n e=>by rw[aH n];exact h a o n e
theorem SD.same{D:Addr}{H H':Hp}(h:SD D H H')(f:H D=none):ay H H':=λa o e=>h a o (λz=>by rw[z,f]at e;cases e) e
def Of(N:List (List Int))(n:Int)(p:Int×Int):List V:=[.int p.1,.int p.2,.int (p9 N p.1 p.2),.int (j6 N n p.1 p.2)]
inductive dP(H:Hp)(N:List (List Int))(n:Int):List V->List (Int×Int) ->Prop
 |nil:dP H N n [] []
 |cons{a:Addr}{us:List V}{p:Int×Int}{ps:List (Int×Int)}:H a=some (.tup (Of N n p)) ->dP H N n us ps->dP H N n (.ref a::us) (p::ps)
theorem dP.same{H H':Hp}{N:List (List Int)}{n:Int}{us:List V}{ps:List (Int×Int)}(s:ay H H')(h:dP H N n us ps):dP H' N n us ps:=by
 induction h with
 |nil=>exact .nil
 |cons e _ ih=>exact .cons (s _ _ e) ih
theorem dP.upd{H:Hp}{N:List (List Int)}{n:Int}{us:List V}{ps:List (Int×Int)}{D:Addr}{xs:List V}{o:HO}(hD:H D=some (.lst xs))(h:dP H N n us ps):dP (upd H D o) N n us ps:=by
 induction h with
 |nil=>exact .nil
 |cons e _ ih=>exact .cons (by rw[aH (λz=>by rw[z,hD]at e;cases e)];exact e) ih
theorem dP.append{H:Hp}{N:List (List Int)}{n:Int}{us us':List V}{ps ps':List (Int×Int)}(h:dP H N n us ps)(h':dP H N n us' ps'):dP H N n (us++us') (ps++ps'):=by
 induction h with
 |nil=>exact h'
 |cons e _ ih=>exact .cons e ih
theorem dP.length{H:Hp}{N:List (List Int)}{n:Int}{us:List V}{ps:List (Int×Int)}(h:dP H N n us ps):us.length=ps.length:=by
 induction h with
 |nil=>rfl
 |cons _ _ ih=>simp[ih]
theorem iH{a b:Int}{A B:Nat}(ha:a.natAbs<=A)(hb:b.natAbs<=B):(a*b).natAbs<=A*B:=by
 rw[Int.natAbs_mul]
 exact Nat.mul_le_mul ha hb
theorem Og{x f:Int}(hf:0<f)(h:x.natAbs<=10000000000):(x/f).natAbs<=10000000000:=by
 have h1: -10000000000<=x/f:=(Int.le_ediv_iff_mul_le hf).mpr (by omega)
 have h2:x/f<10000000000+1:=(Int.ediv_lt_iff_lt_mul hf).mpr (by omega)
 omega
theorem Sl{x:Int}(h:x.natAbs<=10^30):x.natAbs<2^4096:=Nat.lt_of_le_of_lt h (Nat.lt_of_lt_of_le (m:=2^100) (by decide) (Nat.pow_le_pow_right (by decide) (by decide)))
theorem jQ{te:TE}{i:Nat}{b:TS}{D:Ends}{σ:St}{H H':Hp}{v:V}(h:∀R:VK,R v H'->te σ H R)(k:b D (σ.set i (some v)) H'):uO (EZ te (dJ i)) b D σ H:=h _ k
end L2
set_option maxHeartbeats 1000000
namespace CR
open PySem L2
section
variable{P:Program}{w:World}{K:PySem.W.Frag}{mg:Str->Option Value}{base:Heap}
inductive zD(vs:List V)(H:Hp)(Q:VK)(E:XK):Prop
 |mk(t:Addr)(bs:List Addr)(N:List (List Int))(n:Int)(_:vs=[.ref t,.int n])(_:Tab H t bs N)(_:cB N)(_:cj N)(_:Bd 700 N)(_:mJ N)(_:aA N<=401)(_:0<=n)(_:n<=600)(_:∀(u:Addr) (us:List V) (L:List (Int×Int)) (H':Hp),ay H H'->H' u=some (.lst us) ->dP H' N n us L->L.Nodup->(∀y z,(y,z)∈L↔0<=j6 N n y z) ->L.length<=7500->Q (.ref u) H')
theorem Ei(F:eZ K mg "slices" tU mL)(aO:mg "range"=none)(dg:cZ P w K mg base cP 3 "determinant" eH CI)(oH:cZ P w K mg base cP 3 "root" qB Bo):cZ P w K mg base cP 4 "slices" mL zD:=by
 refine F.ok cJ (λvs H Q E h=> ?_) (λf cdv A outer s H vs Q E hr h=> ?_)
 ·obtain⟨t,bs,N,n,rfl,hT,bO,ev,bN,NT,dD,n0,n6,q⟩:=h
  rfl
 obtain⟨t,bs,N,n,rfl,hT,bO,ev,bN,NT,dD,n0,n6,q⟩:=h
 have hu:=hr.units
 refine⟨_,(kU (@ak _ _ _ _ _ (kN (pv 0) (jh rfl (aQ (jh rfl (aQ (aL (i:=2) cJ.nd rfl (Or.inl rfl)) (aQ (aL (i:=3) cJ.nd rfl (Or.inl rfl)) (aQ (aL (i:=4) cJ.nd rfl (Or.inl rfl)) fH)))) (aQ (aL (i:=5) cJ.nd rfl (Or.inl rfl)) (aQ (aL (i:=6) cJ.nd rfl (Or.inl rfl)) fH)))))
  (@ak _ _ _ _ _ (aD (i:=7) cJ.nd rfl (Or.inl rfl) (ai bK (ai aB (pv 2) (aC ao (pv 5) ah (λ_ _=>rfl))) (ai aB (pv 3) (pv 3))))
  (@ak _ _ _ _ _ (aD (i:=8) cJ.nd rfl (Or.inl rfl) (ai bK (ai aB (pv 2) (aC ao (pv 5) ah (λ_ _=>rfl))) (ai aB (pv 3) (pv 4))))
  (@ak _ _ _ _ _ (aD (i:=9) cJ.nd rfl (Or.inl rfl) (ai bK (ai aB (pv 2) (aC ao (pv 6) ah (λ_ _=>rfl))) (ai aB (pv 4) (pv 4))))
  (@ak _ _ _ _ _ (aD (i:=10) cJ.nd rfl (Or.inl rfl) (aN dg hr rfl aM (af (pv 0) aj)))
  (@ak _ _ _ _ _ (aD (i:=11) cJ.nd rfl (Or.inl rfl) (ai aB (ai aB ah (pv 1)) (pv 2)))
  (@ak _ _ _ _ _ (aD (i:=12) cJ.nd rfl (Or.inl rfl) (dG aj))
  (@ak _ _ _ _ _ (aD (i:=13) cJ.nd rfl (Or.inl rfl) (aN oH hr rfl aM (af (ai bZ (ai aB (ai aB ah (pv 1)) (pv 7)) (pv 10)) aj)))
  (@ak _ _ _ _ _ (g6 PassesOwn.never rfl (ni rfl aO (af (BW wV (pv 13)) (af (ai aR (pv 13) ah) aj))) (aL (i:=14) cJ.nd rfl (Or.inl rfl)) (kU (@ak _ _ _ _ _ (aD (i:=15) cJ.nd rfl (Or.inl rfl) (aN oH hr rfl aM (af (ai bK (ai aB (pv 7) (pv 11)) (ai aB (ai aB (ai aB (pv 2) (pv 10)) (pv 14)) (pv 14))) aj)))
  (@aI _ _ _ (g6 PassesOwn.never rfl (ni rfl aO (af (BW wV (ai bZ (ai aR (pv 15) (ai aB (pv 8) (pv 14))) (pv 7))) (af (ai aR (ai bZ (ai bK (pv 15) (ai aB (pv 8) (pv 14))) (pv 7)) ah) aj))) (aL (i:=16) cJ.nd rfl (Or.inl rfl)) (kU (@ak _ _ _ _ _ (aD (i:=17) cJ.nd rfl (Or.inl rfl) (ai bK (pv 11) (ai aR (ai aR (ai aB (ai aB (pv 7) (pv 16)) (pv 16)) (ai aB (ai aB (ai aB ah (pv 8)) (pv 16)) (pv 14))) (ai aB (ai aB (pv 9) (pv 14)) (pv 14)))))
  (@aI _ _ _ (kM (Fi PySem.F.plainAttrs_list PySem.F.slot_list_append PySem.F.type_list_append nj (pv 12) (af (nS (af (pv 16) (af (pv 14) (af (ai aR (ai aB (pv 3) (pv 16)) (ai aB (pv 4) (pv 14))) (af (pv 17) aj))))) aj)))))))))))
  (@aI _ _ _ (aT (pv 12))))))))))))),?_⟩
 obtain⟨c0,c1,c2,rfl,x0,x1,x2⟩:=tW hT bO
 obtain⟨fl,D0,a2,LO,CL,MC,f8,fa⟩:=gu NT dD
 have k1:=uU (λc=>ent N 1 c) (c:=1) (by decide)
 have k2:=uU (λc=>ent N 1 c) (c:=2) (by decide)
 have k3:=uU (λc=>ent N 2 c) (c:=2) (by decide)
 have b:∀i j,i<3->j<3->(ent N i j).natAbs<2^4096:=λi j hi hj=>aG (bN i j hi hj) (by decide)
 refine⟨_,rfl,t,_,rfl,aP.of hT.1,rfl,_,_,rfl,c0,_,rfl,aP.of x0,rfl,_,_,rfl,_,_,rfl,_,_,rfl,rfl,_,_,rfl,_,_,rfl,rfl,?_⟩
 have l1:=NT.OM
 have l2:=NT.ON
 have tx:∀x:Int,0<=x->x<=1000000000000->x.natAbs<2^40:=λx h0 h1=>by omega
 have tw:∀x:Int,0<=x->x<=1000000000000->x.natAbs<2^4096:=λx h0 h1=>Nat.lt_of_lt_of_le (tx x h0 h1) (Nat.pow_le_pow_right (by decide) (by decide))
 with_reducible apply jQ
 ·exact λR hR=>⟨_,rfl,_,rfl,c1,_,_,_,rfl,rfl,aP.of x1,k1,_,_,rfl,rfl,⟨b 0 0 (by decide) (by decide),b 1 1 (by decide) (by decide)⟩,_,rfl,_,rfl,_,_,rfl,rfl,⟨b 0 1 (by decide) (by decide),b 0 1 (by decide) (by decide)⟩,_,_,rfl,rfl,hR⟩
 with_reducible apply jQ
 ·exact λR hR=>⟨_,rfl,_,rfl,c1,_,_,_,rfl,rfl,aP.of x1,k2,_,_,rfl,rfl,⟨b 0 0 (by decide) (by decide),b 1 2 (by decide) (by decide)⟩,_,rfl,_,rfl,_,_,rfl,rfl,⟨b 0 1 (by decide) (by decide),b 0 2 (by decide) (by decide)⟩,_,_,rfl,rfl,hR⟩
 with_reducible apply jQ
 ·exact λR hR=>⟨_,rfl,_,rfl,c2,_,_,_,rfl,rfl,aP.of x2,k3,_,_,rfl,rfl,⟨b 0 0 (by decide) (by decide),b 2 2 (by decide) (by decide)⟩,_,rfl,_,rfl,_,_,rfl,rfl,⟨b 0 2 (by decide) (by decide),b 0 2 (by decide) (by decide)⟩,_,_,rfl,rfl,hR⟩
 refine⟨_,rfl,t,_,N,rfl,hT,bO,bN.mono (by decide),trivial,λH1 s1=> ?_⟩
 refine⟨_,rfl,_,_,rfl,rfl,⟨by show(2:Int).natAbs<2^4096;exact tw 2 (by decide) (by decide),tw n n0 (by omega)⟩,_,rfl,_,_,rfl,rfl,⟨tw _ (by omega) (by omega),b 0 0 (by decide) (by decide)⟩,?_⟩
 refine⟨by decide,λD hD=> ?_⟩
 refine⟨_,rfl,_,_,rfl,rfl,⟨tw 2 (by decide) (by decide),tw n n0 (by omega)⟩,_,rfl,_,_,rfl,rfl,⟨tw _ (by omega) (by omega),tw (dh N) (by omega) (by omega)⟩,?_⟩
 have nf:n*dh N<=600*1069:=Int.mul_le_mul n6 (by omega) (by omega) (by decide)
 have Vz:0<=n*dh N:=Int.mul_nonneg n0 (by omega)
 have en:2*n*dh N=2*(n*dh N):=Int.mul_assoc _ _ _
 have X0:0<=2*n*dh N/aA N:=Int.ediv_nonneg (by omega) (by omega)
 have X1:2*n*dh N/aA N<=2*n*dh N:=Int.ediv_le_self _ (by omega)
 have bb:iG N*iG N<=1069*4840000:=by
  have h:=nE ev
  have h1:0<=ent N 0 0*aA N:=Int.mul_nonneg (by omega) (by omega)
  have h2:hiT N<=4840000:=by
   have h3:ent N 0 0*ent N 2 2<=2200*2200:=Int.mul_le_mul LO MC (by omega) (by omega)
   have h4:=aZ (ent N 0 2)
   unfold hiT
   omega
  have h5:dh N*hiT N<=dh N*4840000:=Int.mul_le_mul_of_nonneg_left h2 (by omega)
  omega
 have bn: -100000<=iG N/\iG N<=100000:=by
  constructor
  ·refine Classical.byContradiction λz=> ?_
   have:100000*100000<= -iG N* -iG N:=Int.mul_le_mul (by omega) (by omega) (by omega) (by omega)
   rw[Int.neg_mul_neg]at this
   omega
  ·refine Classical.byContradiction λz=> ?_
   have:100000*100000<=iG N*iG N:=Int.mul_le_mul (by omega) (by omega) (by omega) (by omega)
   omega
 refine⟨_,rfl,_,_,rfl,rfl,⟨D0,Int.lt_of_le_of_lt dD (by decide)⟩,2*n*dh N/aA N,rfl,X0,(by have:=tx _ X0 (Int.le_trans X1 (by omega));exact Nat.lt_of_lt_of_le this (by decide)),λR R0 r1 r2=> ?_⟩
 have VA:=GQ NT dD n0 n6 R0 r1
 obtain⟨sp,Sm⟩:∃sp:Int->Int,sp=λz=>gf (dh N*(2*n*ent N 0 0) -ent N 0 0*aA N*z*z):=⟨_,rfl⟩
 have Sn:∀z,-R<=z->z<=R->0<=dh N*(2*n*ent N 0 0) -ent N 0 0*aA N*z*z:=λz z0 z1=>by
  have h:=(L2.aO D0 fl R0 r1 r2).mp ⟨z0,z1⟩
  have h1:=Int.mul_le_mul_of_nonneg_left h (show 0<=ent N 0 0 by omega)
  have h2:ent N 0 0*aA N*z*z=ent N 0 0*(aA N*z*z):=by grind
  have h3:dh N*(2*n*ent N 0 0)=ent N 0 0*(2*n*dh N):=by grind
  omega
 have s0:∀z,-R<=z->z<=R->0<=sp z/\sp z*sp z<=dh N*(2*n*ent N 0 0) -ent N 0 0*aA N*z*z/\dh N*(2*n*ent N 0 0) -ent N 0 0*aA N*z*z<(sp z+1)*(sp z+1):=λz z0 z1=>by
  rw[Sm]
  exact kI (Sn z z0 z1)
 have sS:∀z,-R<=z->z<=R->sp z<=30*dh N:=λz z0 z1=>Jp NT dD n0 n6 (s0 z z0 z1).1 (s0 z z0 z1).2.1
 obtain⟨lo,Sq⟩:∃lo:Int->Int,lo=λz=> -((sp z+iG N*z)/dh N):=⟨_,rfl⟩
 obtain⟨ln,QG⟩:∃ln:Int->Nat,ln=λz=>((sp z-iG N*z)/dh N+1- -((sp z+iG N*z)/dh N)).toNat:=⟨_,rfl⟩
 have Oh:∀y z,(y,z)∈fJ lo ln R (2*R+1).toNat↔0<=j6 N n y z:=λy z=>by
  rw[Sq,QG]
  exact zC ev (by omega) fl D0 R0 r1 r2 s0 y z
 have Oi:∀z,-R<=z->z<=R->ln z<=61:=λz z0 z1=>by
  have h:=sS z z0 z1
  have h1:(sp z-iG N*z)/dh N*dh N<=sp z-iG N*z:=Int.ediv_mul_le _ (by omega)
  have h2:(sp z+iG N*z)/dh N*dh N<=sp z+iG N*z:=Int.ediv_mul_le _ (by omega)
  have h3:((sp z-iG N*z)/dh N+(sp z+iG N*z)/dh N)*dh N<=60*dh N:=by
   rw[Int.add_mul]
   omega
  have h4:=Int.le_of_mul_le_mul_right h3 fl
  rw[QG]
  show((sp z-iG N*z)/dh N+1- -((sp z+iG N*z)/dh N)).toNat<=61
  omega
 have Oj:∀m:Nat,(m:Int)<=2*R+1->(fJ lo ln R m).length<=m*61:=λm hm=>t8 λi hi=>Oi _ (by omega) (by omega)
 refine⟨_,rfl,_,rfl,_,rfl,_,_,rfl,rfl,_,_,rfl,⟨by omega,by omega,by omega,by omega⟩,?_⟩
 refine fR (λi σ H'=> ∃o1 o2 o3 o4 us,σ=[some (.ref t),some (.int n),some (.int (ent N 0 0)),some (.int (ent N 0 1)),some (.int (ent N 0 2)),some (.ref c1),some (.ref c2),some (.int (dh N)),some (.int (iG N)),some (.int (hiT N)),some (.int (aA N)),some (.int (2*n*ent N 0 0)),some (.ref D),some (.int R),o1,o2,o3,o4]/\SD D H1 H'/\H' D=some (.lst us)/\dP H' N n us (fJ lo ln R i)) ⟨_,_,_,_,_,rfl,SD.refl.upd,au,.nil⟩ (λi σ H' hi hh=> ?_) (λσ H' hh=> ?_)
 ·obtain⟨o1,o2,o3,o4,us,rfl,sD,eD,tu⟩:=hh
  obtain⟨z,ez⟩:∃z:Int,z=(i:Int) -R:=⟨_,rfl⟩
  have UP: -R+(i:Int)=z:=by omega
  rw[UP]
  have z0: -R<=z:=by omega
  have z1:z<=R:=by omega
  have nz:z.natAbs<=60:=by omega
  have OQ:(dh N).natAbs<=1069:=by omega
  have MD:(iG N).natAbs<=100000:=by omega
  have na:(ent N 0 0).natAbs<=2200:=by omega
  have nD:(aA N).natAbs<=401:=by omega
  have nm:(2*n*ent N 0 0).natAbs<=1200*2200:=iH (by omega) na
  have Su:=iH na nD
  have Ol:=iH Su nz
  have VB:=iH MD nz
  have UQ:(dh N*(2*n*ent N 0 0) -ent N 0 0*aA N*z*z).natAbs<2^200:=by
   have h1:=iH OQ nm
   have h2:=iH Ol nz
   exact Nat.lt_of_le_of_lt (m:=10^20) (by omega) (by decide)
  have nhi:(hiT N).natAbs<=30000000:=by
   have h1:=iH na (show(ent N 2 2).natAbs<=2200 by omega)
   have hu:=NT.u
   have h2:=iH (show(ent N 0 2).natAbs<=4400 by omega) (show(ent N 0 2).natAbs<=4400 by omega)
   unfold hiT
   omega
  have C:∀{x:Int}{A:Nat},x.natAbs<=A->A<=10^30->x.natAbs<2^4096:=λh g=>Sl (Nat.le_trans h g)
  refine⟨_,rfl,_,rfl,_,_,rfl,rfl,⟨C OQ (by decide),C nm (by decide)⟩,_,rfl,_,rfl,_,_,rfl,rfl,⟨C na (by decide),C nD (by decide)⟩,_,rfl,_,_,rfl,rfl,⟨C Su (by decide),C nz (by decide)⟩,_,rfl,_,_,rfl,rfl,⟨C Ol (by decide),C nz (by decide)⟩,_,_,rfl,rfl,_,rfl,Sn z z0 z1,UQ,λw h0 h1 h2=> ?_⟩
  have es:w=sp z:=by rw[Sm];exact(nG h0 h1 h2).symm
  have wS:=sS z z0 z1
  rw[<-es]at wS
  have q1:=Og (x:=w+iG N*z) fl (by omega)
  have q2:=Og (x:=w-iG N*z) fl (by omega)
  refine⟨_,rfl,_,rfl,_,rfl,_,_,rfl,rfl,⟨C MD (by decide),C nz (by decide)⟩,_,_,rfl,rfl,_,rfl,_,_,rfl,rfl,⟨fl,by omega⟩,_,rfl,?_⟩
  refine⟨_,rfl,_,rfl,_,rfl,_,_,rfl,rfl,⟨C MD (by decide),C nz (by decide)⟩,_,_,rfl,rfl,_,rfl,_,_,rfl,rfl,⟨fl,by omega⟩,_,_,rfl,rfl,_,_,rfl,⟨by omega,by omega,by omega,by omega⟩,?_⟩
  have VC:lo z= -((w+iG N*z)/dh N):=by rw[Sq,es]
  have UR:ln z=((w-iG N*z)/dh N+1- -((w+iG N*z)/dh N)).toNat:=by rw[QG,es]
  have VD:=Oi z z0 z1
  have li:=Oj i (by omega)
  refine fR (λj σ H2=> ∃o3 o4 us',σ=[some (.ref t),some (.int n),some (.int (ent N 0 0)),some (.int (ent N 0 1)),some (.int (ent N 0 2)),some (.ref c1),some (.ref c2),some (.int (dh N)),some (.int (iG N)),some (.int (hiT N)),some (.int (aA N)),some (.int (2*n*ent N 0 0)),some (.ref D),some (.int R),some (.int z),some (.int w),o3,o4]/\SD D H1 H2/\H2 D=some (.lst us')/\dP H2 N n us' (fJ lo ln R i++gU z (lo z) j)) ⟨_,_,_,rfl,sD,eD,by simpa [gU]using tu⟩ (λj σ H2 hj hh=> ?_) (λσ H2 hh=> ?_)
  ·obtain⟨o3,o4,us',rfl,QH,Ej,OR⟩:=hh
   obtain⟨y,ey⟩:∃y:Int,y=lo z+(j:Int):=⟨_,rfl⟩
   have QI: -((w+iG N*z)/dh N)+(j:Int)=y:=by omega
   rw[QI]
   have ny:y.natAbs<=20000000000:=by omega
   have US:=iH OQ ny
   have UT:=iH (iH (show(2:Int).natAbs<=2 by decide) MD) ny
   have UU:=iH nhi nz
   have hp:=NT.p
   have hu:=NT.u
   have np:(ent N 0 1).natAbs<=2200:=by omega
   have nq:(ent N 0 2).natAbs<=4400:=by omega
   show uO _ _ _ _ _
   with_reducible apply jQ
   ·exact λR hR=>⟨_,rfl,_,rfl,_,rfl,_,_,rfl,rfl,⟨C OQ (by decide),C ny (by decide)⟩,_,rfl,_,_,rfl,rfl,⟨C US (by decide),C ny (by decide)⟩,_,rfl,_,_,rfl,rfl,⟨C (A:=2) (by decide) (by decide),C MD (by decide)⟩,_,rfl,_,_,rfl,rfl,⟨C (iH (show(2:Int).natAbs<=2 by decide) MD) (by decide),C ny (by decide)⟩,_,rfl,_,_,rfl,rfl,⟨C UT (by decide),C nz (by decide)⟩,_,_,rfl,rfl,_,rfl,_,rfl,_,_,rfl,rfl,⟨C nhi (by decide),C nz (by decide)⟩,_,rfl,_,_,rfl,rfl,⟨C UU (by decide),C nz (by decide)⟩,_,_,rfl,rfl,_,_,rfl,rfl,hR⟩
   refine⟨_,rfl,.inl ⟨rfl,_,aP.of Ej⟩,_,rfl,_,rfl,_,rfl,_,rfl,_,_,rfl,rfl,⟨C np (by decide),C ny (by decide)⟩,_,rfl,_,rfl,_,_,rfl,rfl,⟨C nq (by decide),C nz (by decide)⟩,_,_,rfl,rfl,_,rfl,(by show 4<=sizeLine;decide),λb hb=> ?_⟩
   have ul:us'.length<sizeLine:=by
    have:=OR.length
    rw[List.length_append]at this
    have h2:(gU z (lo z) j).length=j:=by simp[gU]
    show us'.length<16777216
    omega
   have Sv:b≠D:=λz=>by rw[z,Ej]at hb;cases hb
   refine⟨D,us',.ref b,rfl,rfl,by rw[aH (λz=>Sv z.symm)];exact Ej,ul,?_⟩
   refine⟨_,_,_,rfl,(SD.trans QH (SD.of (ay.up hb))).upd,au,?_⟩
   rw[zB,<-List.append_assoc]
   refine dP.upd (by rw[aH (λz=>Sv z.symm)];exact Ej) ((OR.same (ay.up hb)).append (.cons ?_ .nil))
   rw[au,<-ey]
   rfl
  ·obtain⟨o3,o4,us',rfl,QH,Ej,OR⟩:=hh
   refine⟨_,_,_,_,_,rfl,QH,Ej,?_⟩
   rw[lE,<-ez,UR]
   exact OR
 ·obtain⟨o1,o2,o3,o4,us,rfl,sD,eD,tu⟩:=hh
  refine⟨_,rfl,?_⟩
  have nd:=Oj (2*R+1).toNat (by omega)
  refine q D us _ H' ?_ eD ?_ vc Oh (by omega)
  ·exact λa o e=>(sD.same hD) a o (s1 _ _ e)
  ·have e:(R+1- -R).toNat=(2*R+1).toNat:=by omega
   rw[<-e]
   exact tu
end
end CR
namespace L2
open PySem PySem.Spec PyProof.Rows PySem.SeqAt
noncomputable def p5:Int:=2^1001
theorem CM:p5=2*((2^1000:Nat):Int):=by
 unfold p5
 rw[show(1001:Nat)=1000+1 from rfl,Int.pow_succ,Int.mul_comm]
 congr 1
noncomputable def xT(r:List Int):Int:=bL r 0*(p5*p5)+bL r 1*p5+bL r 2
def lF(r:List Int):Prop:=∀i,i<3->(bL r i).natAbs<2^1000
theorem zE{B u v w:Int}(hB:0<B)(hu:1<=u)(hv: -(B-1)<=v)(hw: -(B-1)<=w):0<u*(B*B)+v*B+w:=by
 have h1:0<=B*B:=Int.mul_nonneg (by omega) (by omega)
 have h2:1*(B*B)<=u*(B*B):=Int.mul_le_mul_of_nonneg_right hu h1
 have h3: -(B-1)*B<=v*B:=Int.mul_le_mul_of_nonneg_right hv (by omega)
 have h4: -(B-1)*B=B-B*B:=by rw[Int.neg_mul,Int.sub_mul];omega
 omega
theorem wu{B v w:Int}(hB:0<B)(hv:1<=v)(hw: -(B-1)<=w):0<v*B+w:=by
 have h2:1*B<=v*B:=Int.mul_le_mul_of_nonneg_right hv (by omega)
 omega
theorem sO{B x y z x' y' z':Int}(hB:0<B)(a1:y'-y<=B-1/\y-y'<=B-1)(a2:z'-z<=B-1/\z-z'<=B-1):
  (x*(B*B)+y*B+z<x'*(B*B)+y'*B+z')↔(x<x'∨(x=x'/\(y<y'∨(y=y'/\z<z')))):=by
 have d:x'*(B*B)+y'*B+z'- (x*(B*B)+y*B+z)=(x'-x)*(B*B)+(y'-y)*B+(z'-z):=by grind
 have d':x*(B*B)+y*B+z- (x'*(B*B)+y'*B+z')=(x-x')*(B*B)+(y-y')*B+(z-z'):=by grind
 rcases Int.lt_trichotomy x x' with h|h|h
 ·have:=zE (u:=x'-x) (v:=y'-y) (w:=z'-z) hB (by omega) (by omega) (by omega)
  exact⟨λ_=> .inl h,λ_=>by omega⟩
 ·subst h
  rw[Int.sub_self,Int.zero_mul,Int.zero_add]at d d'
  rcases Int.lt_trichotomy y y' with h|h|h
  ·have:=wu (v:=y'-y) (w:=z'-z) hB (by omega) (by omega)
   exact⟨λ_=> .inr ⟨rfl,.inl h⟩,λ_=>by omega⟩
  ·subst h
   constructor
   ·intro _;exact .inr ⟨rfl,.inr ⟨rfl,by omega⟩⟩
   ·rintro(z|⟨_,z|⟨_,z⟩⟩)<;>omega
  ·have:=wu (v:=y-y') (w:=z-z') hB (by omega) (by omega)
   constructor
   ·intro _;omega
   ·rintro(z|⟨_,z|⟨z,_⟩⟩)<;>omega
 ·have:=zE (u:=x-x') (v:=y-y') (w:=z-z') hB (by omega) (by omega) (by omega)
  constructor
  ·intro _;omega
  ·rintro(z|⟨z,_⟩)<;>omega
theorem p6:0<p5:=by
 rw[CM]
 have:0<2^1000:=Nat.pow_pos (by decide)
 omega
theorem gD{a b:Int}(ha:a.natAbs<2^1000)(hb:b.natAbs<2^1000):a-b<=p5-1/\b-a<=p5-1:=by
 rw[CM]
 omega
theorem Jq{x y z x' y' z':Int}(a1:y.natAbs<2^1000)(a2:z.natAbs<2^1000)(b1:y'.natAbs<2^1000)(b2:z'.natAbs<2^1000):
  HP (.list [.int x,.int y,.int z]) (.list [.int x',.int y',.int z'])=decide (x*(p5*p5)+y*p5+z<x'*(p5*p5)+y'*p5+z'):=by
 have e1:∀a b:Int,PyData.eqv (.int a) (.int b)=decide (a=b):=λa b=>rfl
 have e:=sO (x:=x) (x':=x') p6 (gD b1 a1) (gD b2 a2)
 rw[Bool.eq_iff_iff,decide_eq_true_iff,e]
 simp only[HP,xB,e1]
 by_cases h1:x=x'
 ·by_cases h2:y=y'
  ·by_cases h3:z=z'
   ·simp[h1,h2,h3]
   ·simp[h1,h2,h3]
  ·simp[h1,h2]
 ·simp[h1]
theorem mT{K:PySem.W.Frag}{H:Hp}{p:Addr}{as:List Addr}{Q:VK}(hp:aP K H p (as.map V.ref))(ok:eX H as)(sm:∀b∈as,lF (gZ H b))
  (q:∀bs:List Addr,bs.Perm as->(rws H bs).Pairwise (λr s=>xT r<=xT s) -> ∀l,H l=none->Q (.ref l) (upd H l (.lst (bs.map V.ref)))):Cu K [.ref p] H Q:=by
 refine⟨p,as,λa=>xT (gZ H a),λa=> .list [.int (bL (gZ H a) 0),.int (bL (gZ H a) 1),.int (bL (gZ H a) 2)],rfl,hp,λa ha=>⟨?_,nW [bL (gZ H a) 0,bL (gZ H a) 1,bL (gZ H a) 2]⟩,.inl λa ha b hb=>⟨.lst (.cons (.int _ _) (.cons (.int _ _) (.cons (.int _ _) .nil))),?_⟩,λbs pb so l hl=> ?_⟩
 ·exact .lst (aP.of (ok a ha).1) (.cons (.int _) (.cons (.int _) (.cons (.int _) .nil)))
 ·exact Jq (sm a ha 1 (by decide)) (sm a ha 2 (by decide)) (sm b hb 1 (by decide)) (sm b hb 2 (by decide))
 ·exact q bs pb (by unfold rws;rw[List.pairwise_map];exact so) l hl
theorem Jr{r s:List Int}(hr:r.length=3)(hs:s.length=3)(a:lF r)(b:lF s)(e:xT r=xT s):r=s:=by
 have h1:=mt (sO p6 (x:=bL r 0) (x':=bL s 0) (gD (b 1 (by decide)) (a 1 (by decide))) (gD (b 2 (by decide)) (a 2 (by decide)))).mpr (by unfold xT at e;omega)
 have h2:=mt (sO p6 (x:=bL s 0) (x':=bL r 0) (gD (a 1 (by decide)) (b 1 (by decide))) (gD (a 2 (by decide)) (b 2 (by decide)))).mpr (by unfold xT at e;omega)
 have e0:bL r 0=bL s 0:=by omega
 have e1:bL r 1=bL s 1:=by omega
 have e2:bL r 2=bL s 2:=by omega
 rw[Ka hr,Ka hs,e0,e1,e2]
end L2
namespace L2
open PySem
noncomputable section
def dQ(s:Int):List Int:=if 0<s then [s,-s]else [0]
def bW(N:List (List Int))(p:Int×Int)(ks:List Int):List (List Int):=ks.flatMap λk=>if(k-p9 N p.1 p.2)%ent N 0 0=0 then [[(k-p9 N p.1 p.2)/ent N 0 0,p.1,p.2]]else []
def fj(N:List (List Int))(n:Int)(p:Int×Int):List (List Int):=if gf (j6 N n p.1 p.2)*gf (j6 N n p.1 p.2)=j6 N n p.1 p.2 then bW N p (dQ (gf (j6 N n p.1 p.2)))else []
theorem rH{s k:Int}(h:0<=s):k∈dQ s↔k*k=s*s:=by
 unfold dQ
 have key:k*k=s*s↔k=s∨k= -s:=by
  constructor
  ·intro e
   have:(k-s)*(k+s)=0:=by grind
   rcases Int.mul_eq_zero.mp this with z|z<;>omega
  ·rintro(rfl|rfl)<;>grind
 rw[key]
 split
 ·simp
 ·have:s=0:=by omega
  simp[this]
theorem ji{N:List (List Int)}(pos:0<ent N 0 0){p:Int×Int}{ks:List Int}{r:List Int}:r∈bW N p ks↔ ∃x,r=[x,p.1,p.2]/\ent N 0 0*x+p9 N p.1 p.2∈ks:=by
 unfold bW
 rw[List.mem_flatMap]
 constructor
 ·rintro⟨k,hk,h⟩
  split at h
  ·rename_i e
   rw[List.mem_singleton]at h
   refine⟨_,h,?_⟩
   have:=Int.mul_ediv_cancel' (Int.dvd_of_emod_eq_zero e)
   rw[this]
   rwa [Int.sub_add_cancel]
  ·cases h
 ·rintro⟨x,rfl,h⟩
  refine⟨_,h,?_⟩
  rw[Int.add_sub_cancel,if_pos (Int.mul_emod_right _ _),Int.mul_ediv_cancel_left _ (by omega)]
  simp
theorem lG{N:List (List Int)}(pos:0<ent N 0 0){n:Int}{p:Int×Int}(h0:0<=j6 N n p.1 p.2){r:List Int}:r∈fj N n p↔ ∃x,r=[x,p.1,p.2]/\(ent N 0 0*x+p9 N p.1 p.2)*(ent N 0 0*x+p9 N p.1 p.2)=j6 N n p.1 p.2:=by
 obtain⟨s0,s1,s2⟩:=kI h0
 unfold fj
 split
 ·rename_i e
  rw[ji pos]
  constructor
  ·rintro⟨x,e1,h⟩
   exact⟨x,e1,((rH s0).mp h).trans e⟩
  ·rintro⟨x,e1,h⟩
   exact⟨x,e1,(rH s0).mpr (h.trans e.symm)⟩
 ·rename_i e
  constructor
  ·intro h;cases h
  ·rintro⟨x,_,h⟩
   exfalso
   apply e
   have key:∀u:Int,0<=u->u*u=j6 N n p.1 p.2->gf (j6 N n p.1 p.2)=u:=λu u0 ue=>nG u0 (by omega) (by rw[<-ue];exact(by grind:(u+1)*(u+1)=u*u+2*u+1)▸(by omega))
   rcases Int.le_total 0 (ent N 0 0*x+p9 N p.1 p.2)with u0|u0
   ·rw[key _ u0 h];exact h
   ·have h':(-(ent N 0 0*x+p9 N p.1 p.2))*(-(ent N 0 0*x+p9 N p.1 p.2))=j6 N n p.1 p.2:=by rw[Int.neg_mul_neg];exact h
    rw[key _ (by omega) h'];exact h'
theorem mU{N:List (List Int)}(pos:0<ent N 0 0){p:Int×Int}:∀{ks:List Int},ks.Nodup->(bW N p ks).Nodup
 | [],_=>List.nodup_nil
 |k::ks,h=>by
  obtain⟨h1,h2⟩:=List.nodup_cons.mp h
  have e:bW N p (k::ks)=bW N p [k]++bW N p ks:=by simp[bW]
  rw[e]
  refine List.nodup_append.mpr ⟨?_,mU pos h2,λa ha b hb e=> ?_⟩
  ·unfold bW
   simp only[List.flatMap_cons,List.flatMap_nil,List.append_nil]
   split<;>simp
  ·subst e
   obtain⟨x,rfl,m1⟩:=(ji pos).mp ha
   obtain⟨x',e',m2⟩:=(ji pos).mp hb
   cases e'
   rw[List.mem_singleton]at m1
   rw[m1]at m2
   exact h1 m2
theorem xU{N:List (List Int)}(pos:0<ent N 0 0){n:Int}{p:Int×Int}:(fj N n p).Nodup:=by
 unfold fj
 split
 ·refine mU pos ?_
  unfold dQ
  split
  ·simp;omega
  ·simp
 ·exact List.nodup_nil
theorem vd{N:List (List Int)}{n:Int}{p:Int×Int}:(fj N n p).length<=2:=by
 unfold fj
 have one:∀k,(if(k-p9 N p.1 p.2)%ent N 0 0=0 then [[(k-p9 N p.1 p.2)/ent N 0 0,p.1,p.2]]else([]:List (List Int))).length<=1:=λk=>by split<;>simp
 split
 ·unfold bW dQ
  split
  ·simp only[List.flatMap_cons,List.flatMap_nil,List.append_nil,List.length_append]
   have:=one (gf (j6 N n p.1 p.2))
   have:=one (-gf (j6 N n p.1 p.2))
   omega
  ·simp only[List.flatMap_cons,List.flatMap_nil,List.append_nil]
   have:=one 0
   omega
 ·simp
def eN(N:List (List Int))(n:Int)(L:List (List Int)):Prop:=L.Nodup/\(∀r∈L,∃v:Nat->Int,r=[v 0,v 1,v 2])/\ ∀v:Nat->Int,[v 0,v 1,v 2]∈L↔cg N v=n
theorem eN.perm{N:List (List Int)}{n:Int}{L L':List (List Int)}(h:eN N n L)(p:L'.Perm L):eN N n L':=
 ⟨p.nodup_iff.mpr h.1,λr hr=>h.2.1 r (p.mem_iff.mp hr),λv=>p.mem_iff.trans (h.2.2 v)⟩
theorem ve{N:List (List Int)}(ev:cj N)(pos:0<ent N 0 0){n:Int}{ps:List (Int×Int)}(nd:ps.Nodup)(h:∀y z,(y,z)∈ps↔0<=j6 N n y z):eN N n (ps.flatMap (fj N n)):=by
 have sq:∀u:Int,0<=u*u:=λu=>by
  rcases Int.le_total 0 u with z|z
  ·exact Int.mul_nonneg z z
  ·rw[<-Int.neg_mul_neg];exact Int.mul_nonneg (by omega) (by omega)
 refine⟨?_,λr hr=> ?_,λv=> ?_⟩
 ·clear h
  induction ps with
  |nil=>exact List.nodup_nil
  |cons p ps ih=>
   obtain⟨h1,h2⟩:=List.nodup_cons.mp nd
   rw[List.flatMap_cons]
   refine List.nodup_append.mpr ⟨xU pos,ih h2,λa ha b hb e=> ?_⟩
   subst e
   obtain⟨p',iK,hb⟩:=List.mem_flatMap.mp hb
   have at_:∀{p:Int×Int},a∈fj N n p-> ∃x,a=[x,p.1,p.2]:=λ {p} ha=>by
    unfold fj at ha
    split at ha
    ·obtain⟨x,e,_⟩:=(ji pos).mp ha
     exact⟨x,e⟩
    ·cases ha
   obtain⟨x,e1⟩:=at_ ha
   obtain⟨x',e2⟩:=at_ hb
   rw[e1]at e2
   injection e2 with _ e3
   injection e3 with e4 e5
   injection e5 with e6 _
   have:p=p':=Prod.ext e4 e6
   rw[this]at h1
   exact h1 iK
 ·obtain⟨p,hp,hr⟩:=List.mem_flatMap.mp hr
  obtain⟨x,e,_⟩:=(lG pos ((h p.1 p.2).mp hp)).mp hr
  exact⟨λi=>match i with|0=>x|1=>p.1|_=>p.2,e⟩
 ·rw[qL ev pos,List.mem_flatMap]
  constructor
  ·rintro⟨p,hp,hr⟩
   obtain⟨x,e,k⟩:=(lG pos ((h p.1 p.2).mp hp)).mp hr
   injection e with e1 e
   injection e with e2 e
   injection e with e3 _
   rw[e1,e2,e3]
   exact k
  ·intro k
   have l0:0<=j6 N n (v 1) (v 2):=by rw[<-k];exact sq _
   exact⟨(v 1,v 2),(h _ _).mpr l0,(lG (p:=(v 1,v 2)) pos l0).mpr ⟨v 0,rfl,k⟩⟩
theorem dP.sd{H H':Hp}{N:List (List Int)}{n:Int}{us:List V}{ps:List (Int×Int)}{D:Addr}{xs:List V}(hD:H D=some (.lst xs))(s:SD D H H')(h:dP H N n us ps):dP H' N n us ps:=by
 induction h with
 |nil=>exact .nil
 |cons e _ ih=>exact .cons (s _ _ (λz=>by rw[z,hD]at e;cases e) e) ih
theorem dP.get{H:Hp}{N:List (List Int)}{n:Int}{us:List V}{ps:List (Int×Int)}(h:dP H N n us ps):∀{i:Nat}{x:V},us[i]?=some x-> ∃a p,x= .ref a/\ps[i]?=some p/\H a=some (.tup (Of N n p)):=by
 induction h with
 |nil=>intro i x h;simp at h
 | @cons a us p ps e _ ih=>
  intro i x h
  match i,h with
  |0,h=>cases h;exact⟨a,p,rfl,rfl,e⟩
  |i+1,h=>obtain⟨a,p,e1,e2,e3⟩:=ih (i:=i) (by simpa using h);exact⟨a,p,e1,by simpa using e2,e3⟩
theorem GR{te:TE}{i:Nat}{b:TS}{D:Ends}{σ:St}{H:Hp}(P:V->Hp->Prop)(h:∀R:VK,(∀v H',P v H'->R v H') ->te σ H R)(k:∀v H',P v H'->b D (σ.set i (some v)) H'):uO (EZ te (dJ i)) b D σ H:=h _ k
theorem t9{N:List (List Int)}(ev:cj N)(h:mJ N)(dD:aA N<=401){n y z:Int}(n0:0<=n)(n6:n<=600)(l:0<=j6 N n y z):y.natAbs<=10^10/\z.natAbs<=10^5/\j6 N n y z<=2640000:=by
 obtain⟨fl,D0,a2,LO,CL,MC,f8,fa⟩:=gu h dD
 have l1:=h.OM
 have l2:=h.ON
 have g:=(t6 ev (by omega) fl n y z).mp l
 have sq:∀u:Int,0<=u*u:=λu=>by
  rcases Int.le_total 0 u with z|z
  ·exact Int.mul_nonneg z z
  ·rw[<-Int.neg_mul_neg];exact Int.mul_nonneg (by omega) (by omega)
 have n1:n*ent N 0 0<=600*2200:=Int.mul_le_mul n6 LO (by omega) (by decide)
 have n2:0<=n*ent N 0 0:=Int.mul_nonneg n0 (by omega)
 have n3:dh N*(2*n*ent N 0 0)<=1069*2640000:=Int.mul_le_mul (by omega) (by rw[Int.mul_assoc];omega) (by rw[Int.mul_assoc];omega) (by decide)
 have e1:ent N 0 0*aA N*z*z=(ent N 0 0*aA N)*(z*z):=by grind
 have p1:1<=ent N 0 0*aA N:=Int.mul_pos (by omega) D0
 have p2:z*z<=(ent N 0 0*aA N)*(z*z):=by
  have:=Int.mul_le_mul_of_nonneg_right p1 (sq z)
  rwa [Int.one_mul]at this
 have root:∀(u X B:Int),u*u<=X->0<=B->X<B*B->u.natAbs<=B.natAbs:=λu X B h1 b0 h2=>by
  refine Classical.byContradiction λc=> ?_
  have:B.natAbs*B.natAbs<=u.natAbs*u.natAbs:=Nat.mul_le_mul (by omega) (by omega)
  have e:=Int.natAbs_mul_self (a:=u)
  have e':=Int.natAbs_mul_self (a:=B)
  omega
 have s1:=sq (dh N*y+iG N*z)
 have z1:z.natAbs<=60000:=root z (1069*2640000) 60000 (by omega) (by decide) (by decide)
 have w1:(dh N*y+iG N*z).natAbs<=60000:=root _ (1069*2640000) 60000 (by have:=sq z;omega) (by decide) (by decide)
 have q0:∀z w:Int,z*w=w*z:=Int.mul_comm
 have bb:iG N*iG N<=1069*4840000:=by
  have h:=nE ev
  have h1:0<=ent N 0 0*aA N:=by omega
  have h2:hiT N<=4840000:=by
   have h3:ent N 0 0*ent N 2 2<=2200*2200:=Int.mul_le_mul LO MC (by omega) (by omega)
   have h4:=sq (ent N 0 2)
   unfold hiT
   omega
  have h5:dh N*hiT N<=dh N*4840000:=Int.mul_le_mul_of_nonneg_left h2 (by omega)
  omega
 have bn:=root (iG N) (1069*4840000) 100000 bb (by decide) (by decide)
 have m1:=iH (show(iG N).natAbs<=100000 from bn) (show z.natAbs<=60000 from z1)
 have m2:y.natAbs<=(dh N*y).natAbs:=by
  rw[Int.natAbs_mul]
  exact Nat.le_mul_of_pos_left _ (by omega)
 have VE:(dh N*y+iG N*z).natAbs<=60000:=w1
 have m3:(dh N*y).natAbs<=6100000000:=by omega
 refine⟨by omega,by omega,?_⟩
 have VF:dh N*(2*n*ent N 0 0-j6 N n y z)=(dh N*y+iG N*z)*(dh N*y+iG N*z)+(ent N 0 0*aA N)*(z*z):=by
  have h:=nE ev
  rw[<-h]
  unfold j6
  grind
 have s2:=sq z
 have pos:0<=dh N*(2*n*ent N 0 0-j6 N n y z):=by omega
 have:0<=2*n*ent N 0 0-j6 N n y z:=by
  refine Classical.byContradiction λc=> ?_
  have h1:dh N*(2*n*ent N 0 0-j6 N n y z)<0:=Int.mul_neg_of_pos_of_neg fl (by omega)
  omega
 have e4:2*n*ent N 0 0=2*(n*ent N 0 0):=Int.mul_assoc _ _ _
 omega
theorem zF{N:List (List Int)}(h:mJ N)(dD:aA N<=401){n:Int}(n0:0<=n)(n6:n<=600){v:Nat->Int}(e:cg N v=n):∀i,i<3->(v i).natAbs<2^60:=by
 obtain⟨fl,D0,a2,LO,CL,MC,f8,fa⟩:=gu h dD
 have k:=(qL h.ev h.pos n v).mp e
 have l0:0<=j6 N n (v 1) (v 2):=by
  rw[<-k]
  rcases Int.le_total 0 (ent N 0 0*v 0+p9 N (v 1) (v 2))with z|z
  ·exact Int.mul_nonneg z z
  ·rw[<-Int.neg_mul_neg];exact Int.mul_nonneg (by omega) (by omega)
 obtain⟨y1,z1,s1⟩:=t9 h.ev h dD n0 n6 l0
 have hp:=h.p
 have hu:=h.u
 have m1:=iH (show(ent N 0 1).natAbs<=2200 by omega) y1
 have m2:=iH (show(ent N 0 2).natAbs<=4400 by omega) z1
 have w1:(ent N 0 0*v 0+p9 N (v 1) (v 2)).natAbs<=10000:=by
  refine Classical.byContradiction λc=> ?_
  have:10000*10000<=(ent N 0 0*v 0+p9 N (v 1) (v 2)).natAbs*(ent N 0 0*v 0+p9 N (v 1) (v 2)).natAbs:=Nat.mul_le_mul (by omega) (by omega)
  have e:=Int.natAbs_mul_self (a:=ent N 0 0*v 0+p9 N (v 1) (v 2))
  omega
 have m3:(ent N 0 0*v 0).natAbs<=10^15:=by
  unfold p9 at w1
  omega
 have m4:(v 0).natAbs<=(ent N 0 0*v 0).natAbs:=by
  rw[Int.natAbs_mul]
  exact Nat.le_mul_of_pos_left _ (by omega)
 intro i hi
 rcases bC hi with rfl|rfl|rfl
 ·exact Nat.lt_of_le_of_lt (Nat.le_trans m4 m3) (by decide)
 ·exact Nat.lt_of_le_of_lt y1 (by decide)
 ·exact Nat.lt_of_le_of_lt z1 (by decide)
theorem p7{N:List (List Int)}{p:Int×Int}:∀ks:List Int,(bW N p ks).length<=ks.length
 | []=>Nat.le_refl _
 |k::ks=>by
  have ih:=p7 (N:=N) (p:=p) ks
  have e:bW N p (k::ks)=bW N p [k]++bW N p ks:=by simp[bW]
  have h1:(bW N p [k]).length<=1:=by
   unfold bW
   simp only[List.flatMap_cons,List.flatMap_nil,List.append_nil]
   split<;>simp
  rw[e,List.length_append,List.length_cons]
  omega
theorem p8{N:List (List Int)}{n:Int}:∀ps:List (Int×Int),(ps.flatMap (fj N n)).length<=2*ps.length
 | []=>Nat.le_refl _
 |p::ps=>by
  have ih:=p8 (N:=N) (n:=n) ps
  have h1:=vd (N:=N) (n:=n) (p:=p)
  rw[List.flatMap_cons,List.length_append,List.length_cons]
  omega
theorem Ek(w:Int):(dQ w).length<=2:=by
 unfold dQ
 split<;>simp
theorem eX.push{H:Hp}{D b:Addr}{as:List Addr}{x y z:Int}{o:HO}(ok:eX H as)(eD:H D=some (.lst (as.map V.ref)))(hb:H b=none)(bD:b≠D):
  eX (upd (upd H b (.lst [.int x,.int y,.int z])) D o) (as++ [b])/\rws (upd (upd H b (.lst [.int x,.int y,.int z])) D o) (as++ [b])=rws H as++ [[x,y,z]]:=by
 obtain⟨r1,r2⟩:=JZ (H:=upd (upd H b (.lst [.int x,.int y,.int z])) D o) (b:=b) (x:=x) (y:=y) (z:=z) (by rw[aH bD];exact au)
 obtain⟨k1,k2⟩:=ok.keep (H':=upd (upd H b (.lst [.int x,.int y,.int z])) D o) λc hc o' e=>by
  rw[aH (ze (ok c hc) eD),aH (λz=>by rw[z,hb]at e;cases e)]
  exact e
 refine⟨λc hc=> ?_,?_⟩
 ·rcases List.mem_append.mp hc with h|h
  ·exact k1 c h
  ·rw[List.mem_singleton.mp h];exact r1
 ·rw[AN,k2]
  show _++ [gZ _ b]=_
  rw[r2]
theorem eN.small{N:List (List Int)}(h:mJ N)(dD:aA N<=401){n:Int}(n0:0<=n)(n6:n<=600){L:List (List Int)}(R:eN N n L):∀r∈L,r.length=3/\ ∀i,i<3->(bL r i).natAbs<2^60:=λr hr=>by
 obtain⟨v,rfl⟩:=R.2.1 r hr
 have e:=(R.2.2 v).mp hr
 have k:=zF h dD n0 n6 e
 refine⟨rfl,λi hi=> ?_⟩
 rcases bC hi with rfl|rfl|rfl<;>exact k _ (by decide)
theorem uc{H:Hp}{as bs:List Addr}(p:bs.Perm as):(rws H bs).Perm (rws H as):=p.map _
theorem jR{H:Hp}{as:List Addr}{b:Addr}(h:b∈as):gZ H b∈rws H as:=List.mem_map.mpr ⟨b,h,rfl⟩
end
noncomputable section
def vf(B:List (List Int))(r:List Int):List Int:=[dz (bL r) B 0,dz (bL r) B 1,dz (bL r) B 2]
theorem zG{m:List (List Int)}{x x' y y':Nat->Int}(hx:x 0=x' 0/\x 1=x' 1/\x 2=x' 2)(hy:y 0=y' 0/\y 1=y' 1/\y 2=y' 2):av m x y=av m x' y':=by
 obtain⟨a,b,c⟩:=hx
 obtain⟨d,e,f⟩:=hy
 rw[bh,bh,a,b,c,d,e,f]
theorem rJ{m:List (List Int)}{x x':Nat->Int}(hx:x 0=x' 0/\x 1=x' 1/\x 2=x' 2):cg m x=cg m x':=by
 unfold cg
 rw[zG hx hx]
theorem wC(m b:List (List Int))(x:Nat->Int):cg (fK m b) x=cg m (dz x b):=by
 unfold cg
 rw[vW]
theorem Js(x:Nat->Int)(a b:List (List Int)){j:Nat}(hj:j<3):dz (dz x a) b j=dz x (iC a b) j:=by
 unfold dz
 rw[aJ a b (i:=0) (by decide) hj,aJ a b (i:=1) (by decide) hj,aJ a b (i:=2) (by decide) hj]
 grind
theorem GU(x:Nat->Int){j:Nat}(hj:j<3):dz x (pL 1) j=x j:=by
 unfold dz
 unfold pL
 rw[bE _ (by decide) hj,bE _ (by decide) hj,bE _ (by decide) hj]
 rcases bC hj with rfl|rfl|rfl<;>simp
theorem nH{x x':Nat->Int}{b:List (List Int)}(h:x 0=x' 0/\x 1=x' 1/\x 2=x' 2)(j:Nat):dz x b j=dz x' b j:=by
 obtain⟨a,b,c⟩:=h
 unfold dz
 rw[a,b,c]
theorem ud{B:List (List Int)}(u:pN (aA B))(v:Nat->Int){j:Nat}(hj:j<3):dz (dz v (mz B)) B j=v j:=by
 rw[Js _ _ _ hj,DI u,GU v hj]
theorem Jt{B:List (List Int)}(u:pN (aA B)){x y:Nat->Int}(h:dz x B 0=dz y B 0/\dz x B 1=dz y B 1/\dz x B 2=dz y B 2):x 0=y 0/\x 1=y 1/\x 2=y 2:=by
 have QJ:∀j,dz (λi=>x i-y i) B j=dz x B j-dz y B j:=λj=>by
  unfold dz
  grind
 obtain⟨h0,h1,h2⟩:=h
 obtain⟨a,b,c⟩:=yV u (λi=>x i-y i) ⟨by rw[QJ];omega,by rw[QJ];omega,by rw[QJ];omega⟩
 omega
theorem nodup_map_on{α β:Type}{f:α->β}:∀{L:List α},L.Nodup->(∀a∈L,∀b∈L,f a=f b->a=b) ->(L.map f).Nodup
 | [],_,_=>List.nodup_nil
 |a::L,h,k=>by
  obtain⟨h1,h2⟩:=List.nodup_cons.mp h
  rw[List.map_cons,List.nodup_cons]
  refine⟨λm=> ?_,nodup_map_on h2 λx hx y hy=>k x (List.mem_cons_of_mem _ hx) y (List.mem_cons_of_mem _ hy)⟩
  obtain⟨b,hb,e⟩:=List.mem_map.mp m
  have:=k b (List.mem_cons_of_mem _ hb) a List.mem_cons_self e
  rw[this]at hb
  exact h1 hb
theorem oJ{m B:List (List Int)}(u:pN (aA B)){n:Int}{L:List (List Int)}(h:eN (fK m B) n L):eN m n (L.map (vf B)):=by
 obtain⟨nd,sh,iff⟩:=h
 refine⟨?_,λr hr=> ?_,λv=> ?_⟩
 ·refine nodup_map_on nd λr hr s hs e=> ?_
  obtain⟨v,rfl⟩:=sh r hr
  obtain⟨w,rfl⟩:=sh s hs
  unfold vf at e
  injection e with e0 e
  injection e with e1 e
  injection e with e2 _
  obtain⟨a,b,c⟩:=Jt u (x:=bL [v 0,v 1,v 2]) (y:=bL [w 0,w 1,w 2]) ⟨e0,e1,e2⟩
  change v 0=w 0 at a
  change v 1=w 1 at b
  change v 2=w 2 at c
  rw[a,b,c]
 ·obtain⟨s,hs,rfl⟩:=List.mem_map.mp hr
  exact⟨dz (bL s) B,rfl⟩
 ·rw[List.mem_map]
  constructor
  ·rintro⟨r,hr,e⟩
   obtain⟨w,rfl⟩:=sh r hr
   have k:=(iff w).mp hr
   rw[wC]at k
   rw[<-k]
   unfold vf at e
   injection e with e0 e
   injection e with e1 e
   injection e with e2 _
   refine rJ ⟨?_,?_,?_⟩
   ·rw[<-e0];exact nH ⟨rfl,rfl,rfl⟩ 0
   ·rw[<-e1];exact nH ⟨rfl,rfl,rfl⟩ 1
   ·rw[<-e2];exact nH ⟨rfl,rfl,rfl⟩ 2
  ·intro k
   have b0:=ud u v (j:=0) (by decide)
   have b1:=ud u v (j:=1) (by decide)
   have b2:=ud u v (j:=2) (by decide)
   refine⟨[dz v (mz B) 0,dz v (mz B) 1,dz v (mz B) 2],(iff (dz v (mz B))).mpr ?_,?_⟩
   ·rw[wC,<-k]
    exact rJ ⟨b0,b1,b2⟩
   ·unfold vf
    have c:∀j,dz (bL [dz v (mz B) 0,dz v (mz B) 1,dz v (mz B) 2]) B j=dz (dz v (mz B)) B j:=λj=>nH ⟨rfl,rfl,rfl⟩ j
    rw[c,c,c,b0,b1,b2]
theorem Bq{B:List (List Int)}(b:Bd 700 B){r:List Int}(h:∀i,i<3->(bL r i).natAbs<2^60):lF (vf B r):=λi hi=>by
 have k:=IK h b i hi
 have e:bL (vf B r) i=dz (bL r) B i:=by rcases bC hi with rfl|rfl|rfl<;>rfl
 rw[e]
 exact Nat.lt_of_lt_of_le k (Nat.pow_le_pow_right (by decide) (by decide))
theorem CN{N:List (List Int)}(h:mJ N)(dD:aA N<=401):Bd 700 N:=by
 obtain⟨fl,D0,a2,LO,CL,MC,f8,fa⟩:=gu h dD
 have l1:=h.OM
 have l2:=h.ON
 have hp:=h.p
 have hu:=h.u
 have hv:=h.v
 obtain⟨s1,s2,s3⟩:=h.ev.1
 intro i j hi hj
 refine Nat.lt_of_lt_of_le (m:=2^20) ?_ (Nat.pow_le_pow_right (by decide) (by decide))
 rcases bC hi with rfl|rfl|rfl<;>rcases bC hj with rfl|rfl|rfl<;>omega
theorem wD{H3 H':Hp}{D:Addr}{B:List (List Int)}:∀{vs:List V}{as:List Addr},vs.length=as.length->(∀(j:Nat)(v:V),vs[j]?=some v-> ∃a b,as[j]?=some a/\v=V.ref b/\b≠D/\H3 b=none/\bf H' b (dz (bL (gZ H3 a)) B)) ->
  ∃cs:List Addr,vs=cs.map V.ref/\(∀b∈cs,b≠D/\H3 b=none)/\eX H' cs/\rws H' cs=(rws H3 as).map (vf B)
 | [],[],_,_=>⟨[],rfl,λ_ h=>(nomatch h),λ_ h=>(nomatch h),rfl⟩
 | [],_::_,h,_=>nomatch h
 |_::_,[],h,_=>nomatch h
 |v::vs,a::as,h,items=>by
  obtain⟨a',b,e,rfl,nb,fb,hb⟩:=items 0 v rfl
  cases e
  obtain⟨cs,rfl,k1,k2,k3⟩:=wD (vs:=vs) (as:=as) (by simpa using h) λj v e=>items (j+1) v (by simpa using e)
  obtain⟨r1,r2⟩:=JZ (H:=H') (b:=b) hb
  refine⟨b::cs,rfl,λc hc=> ?_,λc hc=> ?_,?_⟩
  ·rcases List.mem_cons.mp hc with rfl|hc
   ·exact⟨nb,fb⟩
   ·exact k1 c hc
  ·rcases List.mem_cons.mp hc with rfl|hc
   ·exact r1
   ·exact k2 c hc
  ·show gZ H' b::rws H' cs=vf B (gZ H3 a)::_
   rw[k3,r2]
   rfl
end
noncomputable section
def Kf(m:List (List Int))(x y:Int):Int:=(ent m 0 0*x*x+ent m 1 1*y*y)/2+ent m 0 1*x*y
def nJ(m:List (List Int))(x y:Int):Int:=ent m 0 2*x+ent m 1 2*y
def sP(m:List (List Int))(n x y:Int):Int:=nJ m x y*nJ m x y-2*ent m 2 2*(Kf m x y-n)
theorem GV{m:List (List Int)}(ev:cj m)(pos:0<ent m 2 2)(n:Int)(v:Nat->Int):cg m v=n↔(ent m 2 2*v 2+nJ m (v 0) (v 1))*(ent m 2 2*v 2+nJ m (v 0) (v 1))=sP m n (v 0) (v 1):=by
 have pe:=d8 ev v
 obtain⟨⟨s1,s2,s3⟩,a,b,c,e1,e2,e3⟩:=ev
 have eo:Kf m (v 0) (v 1)=a*v 0*v 0+b*v 1*v 1+ent m 0 1*v 0*v 1:=by
  unfold Kf
  rw[e1,e2]
  have:2*a*v 0*v 0+2*b*v 1*v 1=2*(a*v 0*v 0+b*v 1*v 1):=by grind
  rw[this]
  omega
 have key:(ent m 2 2*v 2+nJ m (v 0) (v 1))*(ent m 2 2*v 2+nJ m (v 0) (v 1))=sP m n (v 0) (v 1)+2*ent m 2 2*(cg m v-n):=by
  unfold sP
  rw[eo]
  rw[bh,<-s1,<-s2,<-s3,e1,e2,e3]at pe
  have h2:cg m v=v 0*a*v 0+v 1*b*v 1+v 2*c*v 2+v 0*ent m 0 1*v 1+v 0*ent m 0 2*v 2+v 1*ent m 1 2*v 2:=by grind
  rw[h2,e3]
  unfold nJ
  grind
 rw[key]
 constructor
 ·intro h;rw[h];simp
 ·intro h
  have h1:2*ent m 2 2*(cg m v-n)=0:=by omega
  rcases Int.mul_eq_zero.mp h1 with z|z<;>omega
def gW(s mx:Int):List Int:=if 0<s then [0-mx-s,s-mx]else [0-mx-s]
def dR(m:List (List Int))(x y:Int)(ks:List Int):List (List Int):=ks.flatMap λk=>if k%ent m 2 2=0 then [[x,y,k/ent m 2 2]]else []
def cV(m:List (List Int))(n x y:Int):List (List Int):=if 0<=sP m n x y/\gf (sP m n x y)*gf (sP m n x y)=sP m n x y then dR m x y (gW (gf (sP m n x y)) (nJ m x y))else []
theorem uf{s mx k:Int}(h:0<=s):k∈gW s mx↔(k+mx)*(k+mx)=s*s:=by
 unfold gW
 have key:(k+mx)*(k+mx)=s*s↔k=0-mx-s∨k=s-mx:=by
  constructor
  ·intro e
   have:(k+mx-s)*(k+mx+s)=0:=by grind
   rcases Int.mul_eq_zero.mp this with z|z<;>omega
  ·rintro(rfl|rfl)<;>grind
 rw[key]
 split
 ·simp
 ·have:s=0:=by omega
  simp[this]
theorem mV{m:List (List Int)}(pos:0<ent m 2 2){x y:Int}{ks:List Int}{r:List Int}:r∈dR m x y ks↔ ∃z,r=[x,y,z]/\ent m 2 2*z∈ks:=by
 unfold dR
 rw[List.mem_flatMap]
 constructor
 ·rintro⟨k,hk,h⟩
  split at h
  ·rename_i e
   rw[List.mem_singleton]at h
   refine⟨_,h,?_⟩
   rw[Int.mul_ediv_cancel' (Int.dvd_of_emod_eq_zero e)]
   exact hk
  ·cases h
 ·rintro⟨z,rfl,h⟩
  refine⟨_,h,?_⟩
  rw[if_pos (Int.mul_emod_right _ _),Int.mul_ediv_cancel_left _ (by omega)]
  simp
theorem GW{X u:Int}(h:u*u=X):gf X*gf X=X:=by
 have key:∀u:Int,0<=u->u*u=X->gf X=u:=λu u0 ue=>nG u0 (by omega) (by rw[<-ue];exact(by grind:(u+1)*(u+1)=u*u+2*u+1)▸(by omega))
 rcases Int.le_total 0 u with u0|u0
 ·rw[key _ u0 h];exact h
 ·have h':(-u)*(-u)=X:=by rw[Int.neg_mul_neg];exact h
  rw[key _ (by omega) h'];exact h'
theorem mW{m:List (List Int)}(ev:cj m)(pos:0<ent m 2 2){n x y:Int}{r:List Int}:r∈cV m n x y↔ ∃z,r=[x,y,z]/\(ent m 2 2*z+nJ m x y)*(ent m 2 2*z+nJ m x y)=sP m n x y:=by
 unfold cV
 split
 ·rename_i h
  obtain⟨h0,e⟩:=h
  obtain⟨s0,s1,s2⟩:=kI h0
  rw[mV pos]
  constructor
  ·rintro⟨z,e1,h⟩
   exact⟨z,e1,((uf s0).mp h).trans e⟩
  ·rintro⟨z,e1,h⟩
   exact⟨z,e1,(uf s0).mpr (h.trans e.symm)⟩
 ·rename_i h
  constructor
  ·intro h;cases h
  ·rintro⟨z,_,e⟩
   exfalso
   refine h ⟨?_,GW e⟩
   rw[<-e]
   exact aZ _
theorem nO{m:List (List Int)}(pos:0<ent m 2 2){x y:Int}:∀{ks:List Int},ks.Nodup->(dR m x y ks).Nodup
 | [],_=>List.nodup_nil
 |k::ks,h=>by
  obtain⟨h1,h2⟩:=List.nodup_cons.mp h
  have e:dR m x y (k::ks)=dR m x y [k]++dR m x y ks:=by simp[dR]
  rw[e]
  refine List.nodup_append.mpr ⟨?_,nO pos h2,λa ha b hb e=> ?_⟩
  ·unfold dR
   simp only[List.flatMap_cons,List.flatMap_nil,List.append_nil]
   split<;>simp
  ·subst e
   obtain⟨z,rfl,m1⟩:=(mV pos).mp ha
   obtain⟨z',e',m2⟩:=(mV pos).mp hb
   cases e'
   rw[List.mem_singleton]at m1
   rw[m1]at m2
   exact h1 m2
theorem vg{m:List (List Int)}(pos:0<ent m 2 2){n x y:Int}:(cV m n x y).Nodup:=by
 unfold cV
 split
 ·refine nO pos ?_
  unfold gW
  split
  ·simp;omega
  ·simp
 ·exact List.nodup_nil
def dM(R:Int):List Int:=(List.range (2*R+1).toNat).map λi:Nat=>(i:Int) -R
theorem nI{R x:Int}(h:0<=R):x∈dM R↔ -R<=x/\x<=R:=by
 unfold dM
 rw[List.mem_map]
 constructor
 ·rintro⟨i,hi,rfl⟩
  rw[List.mem_range]at hi
  omega
 ·rintro⟨h1,h2⟩
  exact⟨(x+R).toNat,by rw[List.mem_range];omega,by omega⟩
theorem rK{R:Int}:(dM R).Nodup:=nodup_map_on List.nodup_range λa _ b _ e=>by omega
theorem qM{R:Int}:(dM R).length=(2*R+1).toNat:=by simp[dM]
theorem wF{R:Int}{i:Nat}(hi:i<(2*R+1).toNat):(dM R)[i]?=some ((i:Int) -R):=by
 unfold dM
 rw[List.getElem?_map,List.getElem?_range hi]
 rfl
def CO(m:List (List Int))(n R0 R1:Int):List (List Int):=(dM R0).flatMap λx=>(dM R1).flatMap λy=>cV m n x y
theorem oK{α β:Type}{f:α->List β}:∀{L:List α},L.Nodup->(∀a∈L,(f a).Nodup) ->(∀a∈L,∀b∈L,∀x,x∈f a->x∈f b->a=b) ->(L.flatMap f).Nodup
 | [],_,_,_=>List.nodup_nil
 |a::L,h,k1,k2=>by
  obtain⟨h1,h2⟩:=List.nodup_cons.mp h
  rw[List.flatMap_cons]
  refine List.nodup_append.mpr ⟨k1 a List.mem_cons_self,oK h2 (λb hb=>k1 b (List.mem_cons_of_mem _ hb)) (λb hb c hc=>k2 b (List.mem_cons_of_mem _ hb) c (List.mem_cons_of_mem _ hc)),λx hx y hy e=> ?_⟩
  subst e
  obtain⟨b,hb,hx'⟩:=List.mem_flatMap.mp hy
  have:=k2 a List.mem_cons_self b (List.mem_cons_of_mem _ hb) x hx hx'
  rw[this]at h1
  exact h1 hb
theorem xV{m:List (List Int)}(ev:cj m)(pos:0<ent m 2 2){n R0 R1:Int}(r0:0<=R0)(r1:0<=R1)(b0:∀v,cg m v=n-> -R0<=v 0/\v 0<=R0)(b1:∀v,cg m v=n-> -R1<=v 1/\v 1<=R1):eN m n (CO m n R0 R1):=by
 have at_:∀{x y:Int}{r:List Int},r∈cV m n x y-> ∃z,r=[x,y,z]:=λh=>by
  obtain⟨z,e,_⟩:=(mW ev pos).mp h
  exact⟨z,e⟩
 refine⟨?_,λr hr=> ?_,λv=> ?_⟩
 ·unfold CO
  refine oK rK (λx _=>oK rK (λy _=>vg pos) λy _ y' _ r h h'=> ?_) λx _ x' _ r h h'=> ?_
  ·obtain⟨z,e⟩:=at_ h
   obtain⟨z',e'⟩:=at_ h'
   rw[e]at e'
   injection e' with _ e'
   injection e' with e' _
  ·obtain⟨y,_,h⟩:=List.mem_flatMap.mp h
   obtain⟨y',_,h'⟩:=List.mem_flatMap.mp h'
   obtain⟨z,e⟩:=at_ h
   obtain⟨z',e'⟩:=at_ h'
   rw[e]at e'
   injection e' with e' _
 ·obtain⟨x,_,hr⟩:=List.mem_flatMap.mp hr
  obtain⟨y,_,hr⟩:=List.mem_flatMap.mp hr
  obtain⟨z,e⟩:=at_ hr
  exact⟨λi=>match i with|0=>x|1=>y|_=>z,e⟩
 ·constructor
  ·intro h
   obtain⟨x,_,h⟩:=List.mem_flatMap.mp h
   obtain⟨y,_,h⟩:=List.mem_flatMap.mp h
   obtain⟨z,e,k⟩:=(mW ev pos).mp h
   injection e with e1 e
   injection e with e2 e
   injection e with e3 _
   rw[GV ev pos,e1,e2,e3]
   exact k
  ·intro h
   refine List.mem_flatMap.mpr ⟨v 0,(nI r0).mpr (b0 v h),List.mem_flatMap.mpr ⟨v 1,(nI r1).mpr (b1 v h),(mW ev pos).mpr ⟨v 2,rfl,(GV ev pos n v).mp h⟩⟩⟩
theorem j7{α β:Type}(f:α->List β)(L:List α)(i:Nat):((L.take i).flatMap f).length<=(L.flatMap f).length:=by
 have e:L.flatMap f=(L.take i).flatMap f++(L.drop i).flatMap f:=by rw[<-List.flatMap_append,List.take_append_drop]
 rw[e,List.length_append]
 omega
theorem mX{α β:Type}(f:α->List β){L:List α}{i:Nat}{a:α}(h:L[i]?=some a):(L.take (i+1)).flatMap f=(L.take i).flatMap f++f a:=by
 rw[List.take_add_one,h]
 simp
theorem length_le_of_subset{α:Type}[DecidableEq α]:∀{L M:List α},L.Nodup->(∀x∈L,x∈M) ->L.length<=M.length
 | [],_,_,_=>Nat.zero_le _
 |a::L,M,h,k=>by
  obtain⟨h1,h2⟩:=List.nodup_cons.mp h
  have ha:=k a List.mem_cons_self
  have:=length_le_of_subset (L:=L) (M:=M.erase a) h2 λx hx=>(List.mem_erase_of_ne (show x≠a from λe=>h1 (by rw[<-e];exact hx))).mpr (k x (List.mem_cons_of_mem _ hx))
  rw[List.length_erase_of_mem ha]at this
  have:=List.length_pos_of_mem ha
  rw[List.length_cons]
  omega
theorem GX{m:List (List Int)}(ev:cj m)(pos:0<ent m 0 0){n:Int}{R1 R2:Int}(r1:0<=R1)(r2:0<=R2)(b1:∀v,cg m v=n-> -R1<=v 1/\v 1<=R1)(b2:∀v,cg m v=n-> -R2<=v 2/\v 2<=R2){L:List (List Int)}(h:eN m n L):
  L.length<=2*((2*R1+1).toNat*(2*R2+1).toNat):=by
 have sub:∀r∈L,r∈((dM R1).flatMap λy=>(dM R2).map λz=>(y,z)).flatMap (fj m n):=λr hr=>by
  obtain⟨v,rfl⟩:=h.2.1 r hr
  have e:=(h.2.2 v).mp hr
  have k:=(qL ev pos n v).mp e
  have l0:0<=j6 m n (v 1) (v 2):=by rw[<-k];exact aZ _
  refine List.mem_flatMap.mpr ⟨(v 1,v 2),List.mem_flatMap.mpr ⟨v 1,(nI r1).mpr (b1 v e),List.mem_map.mpr ⟨v 2,(nI r2).mpr (b2 v e),rfl⟩⟩,(lG (p:=(v 1,v 2)) pos l0).mpr ⟨v 0,rfl,k⟩⟩
 have le:=length_le_of_subset h.1 sub
 have l2:=p8 (N:=m) (n:=n) ((dM R1).flatMap λy=>(dM R2).map λz=>(y,z))
 have l3:((dM R1).flatMap λy=>(dM R2).map λz=>(y,z)).length=(2*R1+1).toNat*(2*R2+1).toNat:=by
  rw[List.length_flatMap]
  simp only[List.length_map,qM,List.map_const']
  rw[List.sum_replicate_nat]
 omega
end
noncomputable section
structure GY(m:List (List Int)):Prop where
 e0:0<ent m 0 0
 e1:0<ent m 1 1
 e2:0<ent m 2 2
 D0:0<aA m
 p0:0<=fZ m 0 0/\fZ m 0 0<=6900
 p1:0<=fZ m 1 1/\fZ m 1 1<=3680
 p2:0<=fZ m 2 2/\fZ m 2 2<=480
theorem El{m:List (List Int)}(ev:cj m)(bO:cB m)(ab:b7 m=true)(hB:∀i j,i<3->j<3->(ent m i j).natAbs<=230)(f0:ent m 0 0<=16)(f1:ent m 1 1<=30):GY m:=by
 obtain⟨Sw,QK,QL⟩:=ev.sym
 have D0:=(gv ab).2.2
 have Po:=g8 (d9 ev bO) ab
 have u0:av m (λi=>if i=0 then 1 else 0) (λi=>if i=0 then 1 else 0)=ent m 0 0:=by rw[bh];simp
 have u1:av m (λi=>if i=1 then 1 else 0) (λi=>if i=1 then 1 else 0)=ent m 1 1:=by rw[bh];simp
 have u2:av m (λi=>if i=2 then 1 else 0) (λi=>if i=2 then 1 else 0)=ent m 2 2:=by rw[bh];simp
 have q0:0<ent m 0 0:=by rw[<-u0];exact Po _ (by simp)
 have q1:0<ent m 1 1:=by rw[<-u1];exact Po _ (by simp)
 have q2:0<ent m 2 2:=by rw[<-u2];exact Po _ (by simp)
 have r0:=ku ev bO ab (λi=>if i=0 then 1 else 0) (i:=0) (by decide)
 have r1:=ku ev bO ab (λi=>if i=1 then 1 else 0) (i:=1) (by decide)
 have r2:=ku ev bO ab (λi=>if i=2 then 1 else 0) (i:=2) (by decide)
 have g:∀{a b:Int},aA m*(1*1)<=a*b->0<b->0<=a:=λ {a b} h hb=>by
  refine Classical.byContradiction λc=> ?_
  have:=Int.mul_nonneg (show 0<= -a by omega) (Int.le_of_lt hb)
  rw[Int.neg_mul]at this
  omega
 have CL:=hB 2 2 (by decide) (by decide)
 have m0:ent m 1 1*ent m 2 2<=30*230:=Int.mul_le_mul f1 (by omega) (by omega) (by decide)
 have m1:ent m 2 2*ent m 0 0<=230*16:=Int.mul_le_mul (by omega) f0 (by omega) (by decide)
 have m2:ent m 0 0*ent m 1 1<=16*30:=Int.mul_le_mul f0 f1 (by omega) (by decide)
 refine⟨q0,q1,q2,D0,⟨g (by simpa [u0]using r0) (u0▸q0),?_⟩,⟨g (by simpa [u1]using r1) (u1▸q1),?_⟩,⟨g (by simpa [u2]using r2) (u2▸q2),?_⟩⟩
 ·show ent m 1 1*ent m 2 2-ent m 1 2*ent m 2 1<=_
  rw[QL];have:=aZ (ent m 1 2);omega
 ·show ent m 2 2*ent m 0 0-ent m 2 0*ent m 0 2<=_
  rw[QK];have:=aZ (ent m 0 2);omega
 ·show ent m 0 0*ent m 1 1-ent m 0 1*ent m 1 0<=_
  rw[Sw];have:=aZ (ent m 0 1);omega
theorem qN{m:List (List Int)}(ev:cj m)(bO:cB m)(ab:b7 m=true){n:Int}{v:Nat->Int}(e:cg m v=n){i:Nat}(hi:i<3):aA m*(v i*v i)<=2*n*fZ m i i:=by
 have k:=ku ev bO ab v hi
 have pe:=d8 ev v
 have:aS m v=2*n:=by show av m v v=_;rw[pe,e]
 rw[this]at k
 rw[Int.mul_comm (2*n)]
 exact k
theorem wG{m:List (List Int)}(D0:0<aA m){n p R x:Int}(h:aA m*(x*x)<=2*n*p)(R0:0<=R)(r1:R*R<=2*n*p/aA m)(r2:2*n*p/aA m<(R+1)*(R+1)): -R<=x/\x<=R:=
 (sN R0 r1 r2).mp ((Int.le_ediv_iff_mul_le D0).mpr (by rw[Int.mul_comm];exact h))
theorem rL{m:List (List Int)}(D0:0<aA m){n p R B:Int}(n0:0<=n)(n6:n<=600)(p0:0<=p)(hp:1200*p<B*B)(B0:0<=B)(r1:R*R<=2*n*p/aA m):R<B:=by
 have h1:2*n*p<=1200*p:=Int.mul_le_mul_of_nonneg_right (by omega) p0
 have h0:0<=2*n*p:=Int.mul_nonneg (by omega) p0
 have h2:2*n*p/aA m<=2*n*p:=Int.ediv_le_self _ h0
 refine Classical.byContradiction λc=> ?_
 have:B*B<=R*R:=Int.mul_le_mul (by omega) (by omega) B0 (by omega)
 omega
theorem Em{m:List (List Int)}(D0:0<aA m){n p x:Int}{B:Nat}(n0:0<=n)(n6:n<=600)(p0:0<=p)(h:aA m*(x*x)<=2*n*p)(hp:1200*p<((B:Int)+1)*((B:Int)+1)): -(B:Int)<=x/\x<=B:=by
 have h1:2*n*p<=1200*p:=Int.mul_le_mul_of_nonneg_right (by omega) p0
 have h2:x*x<=aA m*(x*x):=by
  have:=Int.mul_le_mul_of_nonneg_right (show(1:Int)<=aA m by omega) (aZ x)
  omega
 have key:x.natAbs<=B:=by
  refine Classical.byContradiction λc=> ?_
  have:(B+1)*(B+1)<=x.natAbs*x.natAbs:=Nat.mul_le_mul (by omega) (by omega)
  have e:=Int.natAbs_mul_self (a:=x)
  have:((B:Int)+1)*((B:Int)+1)<=x*x:=by
   rw[<-e]
   exact_mod_cast this
  omega
 omega
theorem Ju{x:Int}{B:Nat}(h:x.natAbs<=B)(hB:B<2^64): -(2^64)<x/\x<2^64:=by omega
theorem zH{m:List (List Int)}(hB:∀i j,i<3->j<3->(ent m i j).natAbs<=230){x y:Int}(bx:x.natAbs<=2880)(bY:y.natAbs<=2880):(nJ m x y).natAbs<=2000000:=by
 have k6:=iH (hB 0 2 (by decide) (by decide)) bx
 have k7:=iH (hB 1 2 (by decide) (by decide)) bY
 unfold nJ
 omega
theorem GZ{m:List (List Int)}(hB:∀i j,i<3->j<3->(ent m i j).natAbs<=230){x y:Int}(bx:x.natAbs<=2880)(bY:y.natAbs<=2880):(Kf m x y).natAbs<=6000000000:=by
 have k2:=iH (iH (hB 0 0 (by decide) (by decide)) bx) bx
 have k4:=iH (iH (hB 1 1 (by decide) (by decide)) bY) bY
 have k5:=iH (iH (hB 0 1 (by decide) (by decide)) bx) bY
 unfold Kf
 omega
theorem Hf{m:List (List Int)}(hB:∀i j,i<3->j<3->(ent m i j).natAbs<=230){x y n:Int}(bx:x.natAbs<=2880)(bY:y.natAbs<=2880)(n0:0<=n)(n6:n<=600):(sP m n x y).natAbs<10^14:=by
 have nm:=zH hB bx bY
 have no:=GZ hB bx bY
 have h1:=iH nm nm
 have CL:=hB 2 2 (by decide) (by decide)
 have h2:=iH (show(2*ent m 2 2).natAbs<=460 by omega) (show(Kf m x y-n).natAbs<=6000001000 by omega)
 unfold sP
 omega
theorem Hg{a b c p q r:Int}{B:Nat}(ha:a.natAbs<=B)(hb:b.natAbs<=B)(hc:c.natAbs<=B)(hp:p.natAbs<=B)(hq:q.natAbs<=B)(hr:r.natAbs<=B):∀i j,i<3->j<3->(ent (f6 a b c p q r) i j).natAbs<=B:=λi j hi hj=>by
 unfold f6
 rw[bE _ hi hj]
 rcases bC hi with rfl|rfl|rfl<;>rcases bC hj with rfl|rfl|rfl<;>assumption
theorem zI{m:List (List Int)}{n:Int}{L L':List (List Int)}(h:eN m n L)(h':eN m n L'):L.length=L'.length:=by
 have sub:∀{A B:List (List Int)},eN m n A->eN m n B-> ∀r∈A,r∈B:=λ {A B} ha hb r hr=>by
  obtain⟨v,rfl⟩:=ha.2.1 r hr
  exact(hb.2.2 v).mpr ((ha.2.2 v).mp hr)
 exact Nat.le_antisymm (length_le_of_subset h.1 (sub h h')) (length_le_of_subset h'.1 (sub h' h))
end
end L2
set_option maxHeartbeats 1000000
namespace CR
open PySem L2
section
variable{P:Program}{w:World}{K:PySem.W.Frag}{mg:Str->Option Value}{base:Heap}
inductive oM(vs:List V)(H:Hp)(Q:VK)(E:XK):Prop
 |mk(t:Addr)(bs:List Addr)(N:List (List Int))(n:Int)(_:vs=[.ref t,.int n])(_:Tab H t bs N)(_:cB N)(_:cj N)(_:Bd 700 N)(_:mJ N)(_:aA N<=401)(_:0<=n)(_:n<=600)(_:∀(r:Addr) (as:List Addr) (H':Hp),ay H H'->H' r=some (.lst (as.map V.ref)) ->eX H' as->eN N n (rws H' as) ->as.length<=15000->Q (.ref r) H')
theorem xW(F:eZ K mg "near_rows" mO gw)(fC:mg "sorted"=none)(ug:cZ P w K mg base cP 4 "slices" mL zD)(oH:cZ P w K mg base cP 4 "root" qB Bo):cZ P w K mg base cP 5 "near_rows" gw oM:=by
 refine F.ok c9 (λvs H Q E h=> ?_) (λf cdv A outer s H vs Q E hr h=> ?_)
 ·obtain⟨t,bs,N,n,rfl,hT,bO,ev,bN,NT,dD,n0,n6,q⟩:=h
  rfl
 obtain⟨t,bs,N,n,rfl,hT,bO,ev,bN,NT,dD,n0,n6,q⟩:=h
 have hu:=hr.units
 refine⟨_,(kU (@ak _ _ _ _ _ (aD (i:=2) c9.nd rfl (Or.inl rfl) (aC ao (aC ao (pv 0) ah (λ_ _=>rfl)) ah (λ_ _=>rfl)))
  (@ak _ _ _ _ _ (aD (i:=3) c9.nd rfl (Or.inl rfl) (dG aj))
  (@ak _ _ _ _ _ (g6 PassesOwn.never rfl (fQ (aN ug hr rfl aM (af (pv 0) (af (pv 1) aj)))) (sW rfl (aQ (aL (i:=4) c9.nd rfl (Or.inl rfl)) (aQ (aL (i:=5) c9.nd rfl (Or.inl rfl)) (aQ (aL (i:=6) c9.nd rfl (Or.inl rfl)) (aQ (aL (i:=7) c9.nd rfl (Or.inl rfl)) fH))))) (kU (@ak _ _ _ _ _ (aD (i:=8) c9.nd rfl (Or.inl rfl) (aN oH hr rfl aM (af (pv 7) aj)))
  (@aI _ _ _ (cY (bJ yF (ai aB (pv 8) (pv 8)) (pv 7) (b8 _)) (@ak _ _ _ _ _ (aD (i:=9) c9.nd rfl (Or.inl rfl) (EV (bJ nK (pv 8) ah (b8 _)) (dG (af (pv 8) (af (BW wV (pv 8)) aj))) (dG (af ah aj))))
  (@aI _ _ _ (g6 PassesOwn.never rfl (fQ (pv 9)) (aL (i:=10) c9.nd rfl (Or.inl rfl)) (cK (cY (bJ yF (ai cS (ai bK (pv 10) (pv 6)) (pv 2)) ah (b8 _)) (@aI _ _ _ (kM (Fi PySem.F.plainAttrs_list PySem.F.slot_list_append PySem.F.type_list_append nj (pv 3) (af (dG (af (ai bZ (ai bK (pv 10) (pv 6)) (pv 2)) (af (pv 4) (af (pv 5) aj)))) aj)))) dO))))) dO)))))
  (@aI _ _ _ (aT (ck (mD (eU.xG hr)) rfl fC PyProof.Rows.boot_sorted (af (pv 3) aj)))))))),?_⟩
 obtain⟨c0,c1,c2,rfl,x0,x1,x2⟩:=tW hT bO
 obtain⟨fl,D0,a2,LO,CL,MC,f8,fa⟩:=gu NT dD
 refine⟨_,rfl,t,_,_,_,rfl,rfl,aP.of hT.1,rfl,c0,_,_,_,rfl,rfl,aP.of x0,rfl,?_⟩
 refine⟨by decide,λD hD=> ?_⟩
 have s0:ay H (upd H D (.lst [])):=ay.up hD
 refine⟨_,rfl,_,rfl,t,_,N,n,rfl,hT.same s0,bO,ev,bN,NT,dD,n0,n6,λu us L H1 s1 eu tu nd Oh VG=> ?_⟩
 have eD:H1 D=some (.lst []):=s1 _ _ au
 have l0:0<us.length:=by
  have h:((0:Int),(0:Int))∈L:=(Oh 0 0).mpr (by unfold j6;have:=Int.mul_nonneg n0 (show 0<=ent N 0 0 by omega);simp;rw[Int.mul_assoc];omega)
  rw[tu.length]
  exact List.length_pos_of_mem h
 have uD:u≠D:=λz=>by
  rw[z,eD]at eu
  cases eu
  exact Nat.lt_irrefl _ l0
 refine⟨u,rfl,⟨us,aP.of eu⟩,?_⟩
 refine pB (xs:=us) (λi σ H'=> ∃o4 o5 o6 o7 o8 o9 xX as,σ=[some (.ref t),some (.int n),some (.int (ent N 0 0)),some (.ref D),o4,o5,o6,o7,o8,o9,xX]/\SD D H1 H'/\H' D=some (.lst (as.map V.ref))/\eX H' as/\rws H' as=(L.take i).flatMap (fj N n)) ⟨_,_,_,_,_,_,_,[],rfl,SD.refl,eD,λ_ h=>(nomatch h),rfl⟩ (λi σ H' hi hh=> ?_) (λi x σ H' hx hh=> ?_) (λσ H' hh=> ?_)
 ·obtain⟨o4,o5,o6,o7,o8,o9,xX,as,rfl,sD,Ej,ok,er⟩:=hh
  exact aP.of (sD _ _ uD eu)
 ·obtain⟨o4,o5,o6,o7,o8,o9,xX,as,rfl,sD,Ej,ok,er⟩:=hh
  obtain⟨a,p,rfl,hp,ea⟩:=(tu.sd eD sD).get hx
  have lp:0<=j6 N n p.1 p.2:=(Oh _ _).mp (List.mem_of_getElem? hp)
  obtain⟨yb,zb,lb⟩:=t9 ev NT dD n0 n6 lp
  refine⟨a,_,rfl,uJ.of ea,rfl,_,_,rfl,_,_,rfl,_,_,rfl,_,_,rfl,rfl,?_⟩
  obtain⟨w0,w1,w2⟩:=kI lp
  have wb:gf (j6 N n p.1 p.2)<=1000000000:=by
   refine Classical.byContradiction λc=> ?_
   have:1000000000*1000000000<=gf (j6 N n p.1 p.2)*gf (j6 N n p.1 p.2):=Int.mul_le_mul (by omega) (by omega) (by decide) (by omega)
   omega
  refine⟨_,rfl,_,rfl,lp,Nat.lt_of_le_of_lt (show(j6 N n p.1 p.2).natAbs<=2640000 by omega) (by decide),λw h0 h1 h2=> ?_⟩
  obtain rfl:=nG h0 h1 h2
  generalize ew:gf (j6 N n p.1 p.2)=w at w0 w1 w2 wb h0 h1 h2 ⊢
  have wq:w.natAbs<2^4096:=Sl (show w.natAbs<=10^30 by omega)
  refine⟨_,rfl,_,rfl,_,_,rfl,rfl,⟨wq,wq⟩,_,rfl,rfl,_,rfl,?_⟩
  have tk:(L.take (i+1)).flatMap (fj N n)=(L.take i).flatMap (fj N n)++fj N n p:=by
   rw[List.take_add_one,hp]
   simp
  refine iI (λc=> ?_) (λc=> ?_)
  ·have c':w*w=j6 N n p.1 p.2:=V.int.inj (of_decide_eq_true c)
   with_reducible apply GR (λv H2=> ∃S,v= .ref S/\H' S=none/\H2=upd H' S (.lst ((dQ w).map V.int)))
   ·intro R hR
    refine⟨_,rfl,_,_,rfl,rfl,_,rfl,?_⟩
    refine iI (λc=> ?_) (λc=> ?_)
    ·have c2:0<w:=of_decide_eq_true c
     refine⟨_,rfl,_,rfl,_,rfl,(by show 2<=sizeLine;decide),λS hS=>hR _ _ ⟨S,rfl,hS,?_⟩⟩
     unfold dQ
     rw[if_pos c2]
     rfl
    ·have c2:¬0<w:=λz=>c (decide_eq_true z)
     refine⟨by decide,λS hS=>hR _ _ ⟨S,rfl,hS,?_⟩⟩
     unfold dQ
     rw[if_neg c2]
     rfl
   ·rintro _ _ ⟨S,rfl,hS,rfl⟩
    have QM:S≠D:=λz=>by rw[z,Ej]at hS;cases hS
    have sS:ay H' (upd H' S (.lst ((dQ w).map V.int))):=ay.up hS
    obtain⟨UW,UX⟩:=ok.same sS
    refine⟨_,rfl,S,rfl,⟨_,aP.of au⟩,?_⟩
    refine pB (xs:=(dQ w).map V.int) (λj σ H2=> ∃xX as',σ=[some (.ref t),some (.int n),some (.int (ent N 0 0)),some (.ref D),some (.int p.1),some (.int p.2),some (.int (p9 N p.1 p.2)),some (.int (j6 N n p.1 p.2)),some (.int w),some (.ref S),xX]/\SD D (upd H' S (.lst ((dQ w).map V.int))) H2/\H2 D=some (.lst (as'.map V.ref))/\eX H2 as'/\rws H2 as'=(L.take i).flatMap (fj N n)++bW N p ((dQ w).take j)) ⟨_,as,rfl,SD.refl,sS _ _ Ej,UW,by rw[UX,er];simp[bW]⟩ (λj σ H2 hj hh=> ?_) (λj x σ H2 hx hh=> ?_) (λσ H2 hh=> ?_)
    ·obtain⟨xX,as',rfl,ME,Kg,Om,MF⟩:=hh
     exact aP.of (ME _ _ QM au)
    ·obtain⟨xX,as',rfl,ME,Kg,Om,MF⟩:=hh
     obtain⟨k,rfl,hk⟩:∃k,x= .int k/\(dQ w)[j]?=some k:=by
      rw[List.getElem?_map]at hx
      cases e:(dQ w)[j]? with
      |none=>rw[e]at hx;cases hx
      |some k=>rw[e]at hx;cases hx;exact⟨k,rfl,rfl⟩
     have Sx:bW N p ((dQ w).take (j+1))=bW N p ((dQ w).take j)++bW N p [k]:=by
      rw[List.take_add_one,hk]
      simp[bW]
     refine⟨_,rfl,_,rfl,_,_,rfl,rfl,_,rfl,_,_,rfl,rfl,(by show 0<ent N 0 0;omega),rfl,_,rfl,?_⟩
     refine iI (λc3=> ?_) (λc3=> ?_)
     ·have c4:(k-p9 N p.1 p.2)%ent N 0 0=0:=V.int.inj (of_decide_eq_true c3)
      refine⟨_,rfl,.inl ⟨rfl,_,aP.of Kg⟩,?_⟩
      refine⟨_,rfl,_,rfl,_,_,rfl,rfl,_,rfl,_,_,rfl,rfl,⟨by omega,by omega⟩,_,rfl,_,rfl,(by show 3<=sizeLine;decide),λb hb=> ?_⟩
      have ll:as'.length<sizeLine:=by
       have e:as'.length=(rws H2 as').length:=(List.length_map _).symm
       have h1:=p8 (N:=N) (n:=n) (L.take i)
       have h2:=p7 (N:=N) (p:=p) ((dQ w).take j)
       have h3:=Ek w
       rw[e,MF,List.length_append]
       rw[List.length_take]at h1 h2
       show _<16777216
       omega
      have bD:b≠D:=λz=>by rw[z,Kg]at hb;cases hb
      obtain⟨QN,QO⟩:=eX.push (o:= .lst (as'.map V.ref++ [V.ref b])) (x:=(k-p9 N p.1 p.2)/ent N 0 0) (y:=p.1) (z:=p.2) Om Kg hb bD
      refine⟨D,as'.map V.ref,.ref b,rfl,rfl,by rw[aH (λz=>bD z.symm)];exact Kg,(by rw[List.length_map];exact ll),?_⟩
      refine⟨_,as'++ [b],rfl,(ME.trans (SD.of (ay.up hb))).upd,?_,QN,?_⟩
      ·rw[List.map_append]
       exact au
      ·rw[QO,MF,Sx,List.append_assoc]
       simp[bW,c4]
     ·have c4:¬(k-p9 N p.1 p.2)%ent N 0 0=0:=λz=>c3 (by rw[z];exact decide_eq_true rfl)
      refine⟨_,as',rfl,ME,Kg,Om,?_⟩
      rw[Sx,MF]
      simp[bW,c4]
    ·obtain⟨xX,as',rfl,ME,Kg,Om,MF⟩:=hh
     refine⟨_,_,_,_,_,_,_,as',rfl,(sD.trans (SD.of sS)).trans ME,Kg,Om,?_⟩
     rw[MF,tk,List.length_map,List.take_length]
     congr 1
     unfold fj
     rw[ew,if_pos c']
  ·have c':¬w*w=j6 N n p.1 p.2:=λz=>c (by rw[z];exact decide_eq_true rfl)
   refine⟨_,_,_,_,_,_,_,as,rfl,sD,Ej,ok,?_⟩
   rw[tk,er]
   have:fj N n p=[]:=by
    unfold fj
    rw[ew,if_neg c']
   rw[this,List.append_nil]
 ·obtain⟨o4,o5,o6,o7,o8,o9,xX,as,rfl,sD,Ej,ok,er⟩:=hh
  have el:L.take us.length=L:=by rw[tu.length,List.take_length]
  rw[el]at er
  have R0:=ve ev NT.pos nd Oh
  rw[<-er]at R0
  have sm:=R0.small NT dD n0 n6
  have al:as.length<=15000:=by
   have e:as.length=(rws H' as).length:=(List.length_map _).symm
   have h1:=p8 (N:=N) (n:=n) L
   rw[e,er]
   omega
  refine⟨_,rfl,mT (aP.of Ej) ok (λb hb i hi=>Nat.lt_of_lt_of_le ((sm _ (jR hb)).2 i hi) (by decide)) λbs pb so l hl=> ?_⟩
  have EL:eX H' bs:=λb hb=>ok b (pb.mem_iff.mp hb)
  obtain⟨LP,HR⟩:=EL.same (ay.up (o:= .lst (bs.map V.ref)) hl)
  refine q l bs _ ((λa o e=>(sD.trans (SD.of (ay.up hl))) a o (λz=>by rw[z,hD]at e;cases e) (s1 _ _ (s0 _ _ e)))) au LP ?_ (by rw[pb.length_eq];exact al)
  rw[HR]
  exact R0.perm (uc pb)
inductive Hh(T0:Addr)(vs:List V)(H:Hp)(Q:VK)(E:XK):Prop
 |mk(a:Addr)(x:Nat->Int)(t:Addr)(bs:List Addr)(B:List (List Int))(_:vs=[.ref a,.ref t])(_:bf H a x)(_:Tab H t bs B)(_:cB B)(_:∀i,i<3->(x i).natAbs<2^1000)(_:Bd 1000 B)(_:H T0=some (dH T0))(_:∀r H',ay H H'->H r=none->bf H' r (dz x B) ->Q (.ref r) H')
theorem zJ{cD:Addr}(F:nN K mg "by_basis" ou jE cD)(bm:BM mg base)(pW:mg "sum"=none)(aO:mg "range"=none):cZ P w K mg base cP 1 "by_basis" jE (Hh cD):=by
 refine F.ok zm (λvs H Q E h=> ?_) (λf cdv A outer s H vs Q E cd hr h=> ?_)
 ·obtain⟨a,x,t,bs,B,rfl,hx,hT,bO,bx,bB,hP,q⟩:=h
  rfl
 obtain⟨a,x,t,bs,B,rfl,hx,hT,bO,bx,bB,hP,q⟩:=h
 have hu:=hr.units
 refine⟨_,(cK (aT (gk (N2:=["row","basis"]) (te:=(vQ 1 cD (rq (cW (tC (.int 3)) jo)) (dJ 0) (gY (rI jv λi j=> .int (i*j)) (gY (fY K) (bH 2) (bH 0)) (gY (fY K) (gY (fY K) (bH 3) (bH 0)) (bH 1))))) rfl (cF rfl aO (af ah aj)) (by kernel_rfl) rfl (λ_ _ _=>by exact iM (Cm (N2:=["j","row","basis"]) (te:=(gY (rI jv λi j=> .int (i*j)) (gY (fY K) (bH 2) (bH 0)) (gY (fY K) (gY (fY K) (bH 3) (bH 0)) (bH 1)))) rfl (eU.depth hr) cd bm rfl pW (cF rfl aO (af ah aj)) (by kernel_rfl) (λ_ _ _ _=>by exact iM (ai aB (aC ao (pv 2) (pv 0) (λ_ _=>rfl)) (aC ao (aC ao (pv 3) (pv 0) (λ_ _=>rfl)) (pv 1) (λ_ _=>rfl))))))))),?_⟩
 refine⟨3,rfl,by decide,by decide,λD hD=>kT (fy (n:=3)) rfl hD (λj=>dz x B j) (λj y hj GK H2 Q2 s2 k2=> ?_) (λH2 s2 e2=>q D H2 s2 hD e2)⟩
 obtain⟨_,rfl⟩:=d7 GK
 refine⟨3,rfl,by decide,by decide,FT (fy (n:=3)) (s2 _ _ hP) (λk=>x k*ent B k j) (λk y Qu H3 Q3 s3 k3=> ?_) (λH3 s3=> ?_)⟩
 ·obtain⟨hk,rfl⟩:=d7 Qu
  have sm:=s2.trans s3
  obtain⟨b',Qv,yK,Fv,Qw⟩:=kR (hT.same sm) bO hk hj
  exact⟨_,rfl,_,rfl,a,_,_,_,rfl,rfl,aP.of (hx.same sm),uU x hk,_,rfl,_,rfl,t,_,_,_,rfl,rfl,aP.of (hT.same sm).1,yK,_,rfl,b',_,_,_,rfl,rfl,aP.of Fv,Qw,_,_,rfl,rfl,⟨aG (bx k hk) (by decide),bB.mono (by decide) k j hk hj⟩,k3 H3 (ay.refl _)⟩
 ·have:=k2 H3 s3
  rw[show preSum (λk=>x k*ent B k j) (kQ 3).length=_ from ND _]
  exact this
inductive uh(vs:List V)(H:Hp)(Q:VK)(E:XK):Prop
 |mk(n g:Int)(_:vs=[.int n,.int g])(_:0<=n)(_:n<=g)(_:Q .jc H)
theorem qO(F:eZ K mg "refuse_others" iR ef)(iu:cZ P w K mg base cP 1 "is_whole" ic nC):cZ P w K mg base cP 2 "refuse_others" ef uh:=by
 refine F.ok qC (λvs H Q E h=> ?_) (λf cdv A outer s H vs Q E hr h=> ?_)
 ·obtain⟨n,g,rfl,n0,ng,q⟩:=h
  rfl
 obtain⟨n,g,rfl,n0,ng,q⟩:=h
 have hu:=hr.units
 refine⟨_,(cK (cY (PW.pt (rm (kL (jn (aN iu hr rfl aM (af (pv 0) aj)))) (rm (bJ JH (pv 0) ah (b8 _)) (qb (bJ nK (pv 0) (pv 1) (b8 _)))))) (@aI _ _ _ sV) dO)),?_⟩
 refine⟨_,rfl,n,rfl,_,rfl,rS ?_⟩
 refine⟨_,rfl,_,_,rfl,rfl,_,rfl,iI (λc=>absurd (of_decide_eq_true c) (by omega)) λ_=> ?_⟩
 exact⟨_,rfl,_,rfl,_,_,rfl,rfl,_,rfl,iI (λc=>absurd (of_decide_eq_true c) (by omega)) λ_=>q⟩
inductive zK(T1 T2 T3 T4 T5 T6 T7:Addr)(vs:List V)(H:Hp)(Q:VK)(E:XK):Prop
 |mk(t:Addr)(bs:List Addr)(m:List (List Int))(n:Int)(_:vs=[.ref t,.int n])(_:Tab H t bs m)(_:cB m)(_:Bd 440 m)(_:cj m)(_:b7 m=true)(_:aA m/2<=200)(_:0<=n)(_:n<=600)(_:H T1=some (dH T1))(_:H T2=some (dH T2))(_:H T3=some (dH T3))(_:H T4=some (dH T4))(_:H T5=some (dH T5))(_:H T6=some .yz)(_:H T7=some (dH T7))(_:∀(r:Addr) (as:List Addr) (H':Hp),ay H H'->H r=none->(∀b∈as,H b=none) ->H' r=some (.lst (as.map V.ref)) ->eX H' as->r∉as->eN m n (rws H' as) ->(∀x∈rws H' as,lF x) ->(rws H' as).Pairwise (λr s=>xT r<=xT s) ->as.length<=15000->Q (.ref r) H')
theorem Br{br aW aE bu aF aU cD:Addr}(F:eZ K mg "rows_of" qD kG)(fC:mg "sorted"=none){eO:_}(dS:mg "GREATEST_WORTH"=some (Value.int 600 eO))(qP:cZ P w K mg base cP 10 "half" qy (Bg br aW aE))(eE:cZ P w K mg base cP 10 "refuse_others" ef uh)(qQ:cZ P w K mg base cP 10 "near" qA (Bl bu aF aU))(gE:cZ P w K mg base cP 10 "near_rows" gw oM)(oN:cZ P w K mg base cP 10 "by_basis" jE (Hh cD)):cZ P w K mg base cP 11 "rows_of" kG (zK br aW aE bu aF aU cD):=by
 refine F.ok ow (λvs H Q E h=> ?_) (λf cdv A outer s H vs Q E hr h=> ?_)
 ·obtain⟨t,bs,m,n,rfl,hT,bO,hB,ev,ab,hd,n0,n6,h1,h2,h3,h4,h5,h6,h7,q⟩:=h
  rfl
 obtain⟨t,bs,m,n,rfl,hT,bO,hB,ev,ab,hd,n0,n6,h1,h2,h3,h4,h5,h6,h7,q⟩:=h
 have hu:=hr.units
 refine⟨_,(kU (@ak _ _ _ _ _ (kM (aN qP hr rfl aM (af (pv 0) aj)))
  (@ak _ _ _ _ _ (kM (aN eE hr rfl aM (af (pv 1) (af (wQ (v:= .int 600) rfl dS ⟨_,rfl⟩) aj))))
  (@ak _ _ _ _ _ (kN (aN qQ hr rfl aM (af (pv 0) aj)) (sW rfl (aQ (aL (i:=2) ow.nd rfl (Or.inl rfl)) (aQ (aL (i:=3) ow.nd rfl (Or.inr rfl)) fH))))
  (@aI _ _ _ (aT (ck (mD (eU.xG hr)) rfl fC PyProof.Rows.boot_sorted (af (gk (N2:=["form","n","table","basis"]) (te:=(lY (Hh cD) [] E0 (cW (bH 0) (cW (bH 4) jo)))) rfl (fQ (aN gE hr rfl aM (af (pv 2) (af (pv 1) aj)))) (by kernel_rfl) rfl (λ_ _ _=>by exact iM (aN oN hr rfl aM (af (pv 0) (af (pv 4) aj))))) aj)))))))),?_⟩
 refine⟨_,rfl,t,bs,m,rfl,hT,bO,hB,ev,ab,hd,h1,h2,h3,trivial,λH1 s1=> ?_⟩
 refine⟨_,rfl,n,600,rfl,n0,n6,?_⟩
 have D4:aA m<=401:=by omega
 have D0:0<aA m:=by
  unfold b7 at ab
  simp only[Bool.and_eq_true,decide_eq_true_eq]at ab
  omega
 refine⟨_,rfl,t,bs,m,rfl,hT.same s1,bO,hB,ev,ab,Nat.lt_of_le_of_lt (show(aA m).natAbs<=401 by omega) (by decide),s1 _ _ h4,s1 _ _ h5,s1 _ _ h6,λu us r rs B P H2 NT un dt CC bB s2 eP Tu Tr=> ?_⟩
 refine⟨P,_,rfl,uJ.of eP,rfl,_,_,rfl,_,_,rfl,rfl,?_⟩
 have NB:=CN NT (by rw[dt];exact D4)
 refine⟨_,rfl,_,rfl,u,us,fK m B,n,rfl,Tu,NT.CC,NT.ev,NB,NT,(by rw[dt];exact D4),n0,n6,λp as H3 s3 ep ok R al=> ?_⟩
 have sm:=R.small NT (by rw[dt];exact D4) n0 n6
 have yC:ay H H3:=s1.trans (s2.trans s3)
 refine⟨p,rfl,⟨_,aP.of ep⟩,λD hD=>Gy (jg (aP.of ep)) (by rw[List.length_map];show as.length<=16777216;omega) hD (λj v H'=> ∃a b,as[j]?=some a/\v= .ref b/\b≠D/\H3 b=none/\bf H' b (dz (bL (gZ H3 a)) B)) ?_ ?_ ?_⟩
 ·rintro j v G G' ⟨a,b,e1,rfl,nb,fb,hb⟩ k
  exact⟨a,b,e1,rfl,nb,fb,k _ _ nb hb⟩
 ·intro j x ex H' Q' sG eo k
  rw[List.getElem?_map]at ex
  obtain⟨a,ea,rfl⟩:=Option.map_eq_some_iff.mp ex
  have ha:=List.mem_of_getElem? ea
  have sr:=sm _ (jR ha)
  exact⟨_,rfl,_,rfl,a,_,r,rs,B,rfl,sG _ _ (ok a ha).1,(Tr.same s3).same sG,CC,(λi hi=>Nat.lt_of_lt_of_le (sr.2 i hi) (Nat.pow_le_pow_right (by decide) (by decide))),bB.mono (by decide),sG _ _ (yC _ _ h7),λb H5 s5 fb hb=>k _ H5 s5 ⟨a,b,ea,rfl,(λz=>by obtain⟨o,eo⟩:=eo;rw[z,eo]at fb;cases fb),sG.none fb,hb⟩⟩
 ·intro vs H' sG hl items eD
  obtain⟨cs,rfl,k1,k2,k3⟩:=wD (by rw[hl,List.length_map]) items
  have R2:=oJ un R
  rw[<-k3]at R2
  have Sy:∀x∈rws H' cs,lF x:=λx hx=>by
   rw[k3]at hx
   obtain⟨y,hy,rfl⟩:=List.mem_map.mp hx
   exact Bq bB (sm y hy).2
  refine mT (aP.of eD) k2 (λb hb=>Sy _ (jR hb)) λbs' pb so l hl'=> ?_
  have EL:eX H' bs':=λb hb=>k2 b (pb.mem_iff.mp hb)
  have sl:=ay.up (o:= .lst (bs'.map V.ref)) hl'
  obtain⟨LP,HR⟩:=EL.same sl
  have pr:=uc (H:=H') pb
  have UY:H3 l=none:=sG.none hl'
  refine q l bs' _ (yC.trans (sG.trans sl)) (yC.none UY) (λb hb=>yC.none (k1 b (pb.mem_iff.mp hb)).2) au LP (λz=> ?_) ?_ (λx hx=> ?_) ?_ ?_
  ·have:=(EL l z).1
   rw[hl']at this
   cases this
  ·rw[HR];exact R2.perm pr
  ·rw[HR]at hx;exact Sy x (pr.mem_iff.mp hx)
  ·rw[HR];exact so
  ·have e:bs'.length=cs.length:=pb.length_eq
   have e2:cs.length=as.length:=by
    have:=congrArg List.length k3
    simpa [rws]using this
   omega
inductive Hj(T1 T2 T3 T4 T5 T6:Addr)(vs:List V)(H:Hp)(Q:VK)(E:XK):Prop
 |mk(t:Addr)(bs:List Addr)(m:List (List Int))(n:Int)(_:vs=[.ref t,.int n])(_:Tab H t bs m)(_:cB m)(_:Bd 440 m)(_:cj m)(_:b7 m=true)(_:aA m/2<=200)(_:0<=n)(_:n<=600)(_:H T1=some (dH T1))(_:H T2=some (dH T2))(_:H T3=some (dH T3))(_:H T4=some (dH T4))(_:H T5=some (dH T5))(_:H T6=some .yz)(_:∀(L:List (List Int)) (H':Hp),ay H H'->eN m n L->Q (.int (L.length:Int)) H')
theorem zL{br aW aE bu aF aU:Addr}(F:eZ K mg "how_many" oA jF)(gc:mg "len"=none){eO:_}(dS:mg "GREATEST_WORTH"=some (Value.int 600 eO))(qP:cZ P w K mg base cP 10 "half" qy (Bg br aW aE))(eE:cZ P w K mg base cP 10 "refuse_others" ef uh)(qQ:cZ P w K mg base cP 10 "near" qA (Bl bu aF aU))(gE:cZ P w K mg base cP 10 "near_rows" gw oM):cZ P w K mg base cP 11 "how_many" jF (Hj br aW aE bu aF aU):=by
 refine F.ok zo (λvs H Q E h=> ?_) (λf cdv A outer s H vs Q E hr h=> ?_)
 ·obtain⟨t,bs,m,n,rfl,hT,bO,hB,ev,ab,hd,n0,n6,h1,h2,h3,h4,h5,h6,q⟩:=h
  rfl
 obtain⟨t,bs,m,n,rfl,hT,bO,hB,ev,ab,hd,n0,n6,h1,h2,h3,h4,h5,h6,q⟩:=h
 have hu:=hr.units
 refine⟨_,(kU (@ak _ _ _ _ _ (kM (aN qP hr rfl aM (af (pv 0) aj)))
  (@ak _ _ _ _ _ (kM (aN eE hr rfl aM (af (pv 1) (af (wQ (v:= .int 600) rfl dS ⟨_,rfl⟩) aj))))
  (@aI _ _ _ (aT (ck dN rfl gc PySem.boot_len (af (aN gE hr rfl aM (af (aC KY (aN qQ hr rfl aM (af (pv 0) aj)) ah (λ_ _=>rfl)) (af (pv 1) aj))) aj))))))),?_⟩
 refine⟨_,rfl,t,bs,m,rfl,hT,bO,hB,ev,ab,hd,h1,h2,h3,trivial,λH1 s1=> ?_⟩
 refine⟨_,rfl,n,600,rfl,n0,n6,?_⟩
 have D4:aA m<=401:=by omega
 have D0:=(gv ab).2.2
 refine⟨_,rfl,t,bs,m,rfl,hT.same s1,bO,hB,ev,ab,Nat.lt_of_le_of_lt (show(aA m).natAbs<=401 by omega) (by decide),s1 _ _ h4,s1 _ _ h5,s1 _ _ h6,λu us r rs B P H2 NT un dt CC bB s2 eP Tu Tr=> ?_⟩
 have NB:=CN NT (by rw[dt];exact D4)
 refine⟨P,_,_,_,rfl,rfl,uJ.of eP,rfl,_,rfl,u,us,fK m B,n,rfl,Tu,NT.CC,NT.ev,NB,NT,(by rw[dt];exact D4),n0,n6,λp as H3 s3 ep ok R al=> ?_⟩
 refine⟨p,_,rfl,.inl (aP.of ep),?_⟩
 have e:(as.map V.ref).length=((rws H3 as).map (vf B)).length:=by simp[rws]
 rw[e]
 exact q _ H3 (s1.trans (s2.trans s3)) (oJ un R)
end
end CR
namespace L2
open PySem PySem.Spec PyProof.Rows PySem.SeqAt
open AutoSeq1 (wpAny_loadPart')
open MeetsSeq MeetsSeq2 MeetsSeq3 SeqRoads2
def vh(A:Around)(s:Shared)(y x:Value)(b:Bool):Prop:=
 ∀(prog:Program)(w:World)(E:Value->Shared->Prop)(Q:Value->Shared->Prop),Q (.bool b) s->wpAny (model prog w) A (richCompare .LtE y x) Q E s
def um(e l:Nat->Bool):Nat->Nat->Bool
 |0,_=>true
 |k+1,i=>if e i then um e l k (i+1)else l i
theorem En(l b:Addr)(its gm:Array Value)(n n2:Nat)(dd dd2:Option Addr)(sl sl2:Array (Option Value))(hsz:its.size=gm.size)(e f:Nat->Bool)(k:Nat):
  ∀i:Nat,its.size-i=k->Meets (Builtin.«list.__eq__.loop» ⟨[.ref l,.ref b,rawInt i,rawInt 1],[]⟩)
   (λA R s=>s.heap.get? l=some {cls:= .type "list",dict:=dd,data:= .seq its n,slots:=sl}/\s.heap.get? b=some {cls:= .type "list",dict:=dd2,data:= .seq gm n2,slots:=sl2}/\
    (∀j (h1:j<its.size) (h2:j<gm.size),EqAt A.in1 s its[j] gm[j] (e j))/\
    (∀j (h1:j<its.size) (h2:j<gm.size),e j=false->vh A.in1 s its[j] gm[j] (f j))/\
    R (.ok (.ret (.bool (um e f k i)))) s):=by
 induction k with
 |zero=>
  intro i hk prog w A R s h
  obtain⟨hp,g,d,tk,os⟩:=s;obtain⟨hl,hb,he,hf,h⟩:=h
  wp_walk using wpAny_loadPart' hl,wpAny_loadPart' hb
  have hi1:its[((i:Nat):Int).toNat]?=none:=by simp;omega
  have hi2:gm[((i:Nat):Int).toNat]?=none:=by simp;omega
  rw[hi1,hi2]
  wp_walk using wpAny_loadPart' hl,wpAny_loadPart' hb
  show R (.ok (.ret (.bool (decide (its.size<=gm.size))))) _
  rw[hsz,decide_eq_true (Nat.le_refl _)]
  exact h
 |succ k ih=>
  intro i hk prog w A R s h
  obtain⟨hp,g,d,tk,os⟩:=s;obtain⟨hl,hb,he,hf,h⟩:=h
  wp_walk using wpAny_loadPart' hl,wpAny_loadPart' hb
  have hlt:i<its.size:=by omega
  have AK:i<gm.size:=by omega
  have hi1:its[((i:Nat):Int).toNat]?=some its[i]:=by simp[hlt]
  have hi2:gm[((i:Nat):Int).toNat]?=some gm[i]:=by simp[AK]
  have hc:((i:Int)+1)=((i+1:Nat):Int):=by push_cast;rfl
  rw[hi1,hi2]
  refine wpAny_bind (he i hlt AK prog w _ _ ?_)
  unfold um at h
  cases hb':e i with
  |true=>
   rw[hb',if_pos rfl]at h
   wp_walk
   rw[hc]
   exact⟨plainId_quiet plain_eq_loop _,codeAny_builtin entry_eq_loop (by
    rw[Around.under_plainId plain_eq_loop _]
    exact ih (i+1) (by omega) prog w A R _ ⟨hl,hb,he,hf,h⟩)⟩
  |false=>
   rw[hb',if_neg (by simp)]at h
   wp_walk using wpAny_loadPart' hl,wpAny_loadPart' hb
   rw[hi1,hi2]
   refine wpAny_bind (hf i hlt AK hb' prog w _ _ ?_)
   wp_walk
   exact h
theorem Eo(l b:Addr)(its gm:Array Value)(n n2:Nat)(dd dd2:Option Addr)(sl sl2:Array (Option Value))(hsz:its.size=gm.size)(e f:Nat->Bool):
  Meets (Builtin.«list.__le__» ⟨[.ref l,.ref b],[]⟩)
   (λA R s=>s.heap.get? l=some {cls:= .type "list",dict:=dd,data:= .seq its n,slots:=sl}/\s.heap.get? b=some {cls:= .type "list",dict:=dd2,data:= .seq gm n2,slots:=sl2}/\
    (∀j (h1:j<its.size) (h2:j<gm.size),EqAt A.in1 s its[j] gm[j] (e j))/\
    (∀j (h1:j<its.size) (h2:j<gm.size),e j=false->vh A.in1 s its[j] gm[j] (f j))/\
    R (.ok (.ret (.bool (um e f its.size 0)))) s):=by
 intro prog w A R s h
 obtain⟨hp,g,d,tk,os⟩:=s;obtain⟨hl,hb,he,hf,h⟩:=h
 have f3:=AutoSeq1.sub_list_list
 wp_walk using wpAny_loadPart' hl,wpAny_loadPart' hb
 exact⟨plainId_quiet plain_eq_loop _,codeAny_builtin entry_eq_loop (by
  rw[Around.under_plainId plain_eq_loop _]
  exact En l b its gm n n2 dd dd2 sl sl2 hsz e f _ 0 rfl prog w A R _ ⟨hl,hb,he,hf,h⟩)⟩
section
variable{A:Around}{s:Shared}
theorem vh.lists{l b:Addr}{its gm:Array Value}{e f:Nat->Bool}(hl:s.heap.IsList l its)(hb:s.heap.IsList b gm)(hsz:its.size=gm.size)(hu:A.units<cLine)
  (he:∀j (h1:j<its.size) (h2:j<gm.size),EqAt A.in1 s its[j] gm[j] (e j))(hf:∀j (h1:j<its.size) (h2:j<gm.size),e j=false->vh A.in1 s its[j] gm[j] (f j)):
  vh A s (.ref l) (.ref b) (um e f its.size 0):=λprog w E Q h=>by
 obtain⟨⟨cls,dd,data,sl⟩,ho,hc,n,hd⟩:=id hl
 obtain⟨⟨NZ,dd2,data2,sl2⟩,ho2,hc2,n2,hd2⟩:=id hb
 simp only at hc hd hc2 hd2
 subst hc hd hc2 hd2
 exact richCompare_meets_room (op:= .LtE) ⟨_,ho,rfl⟩ ⟨_,ho2,rfl⟩ F.slot_list_le F.entry_list_le (F.args_list_le_2 _ _) (Eo l b its gm n n2 dd dd2 sl sl2 hsz e f)
  ⟨ho,ho2,he,hf,show Value.bool (um e f its.size 0)≠Value.notImplemented/\Q (.bool (um e f its.size 0)) s from⟨(λx=>nomatch x),h⟩⟩ hu
theorem vh.int_int(a:Int)(t:Tok)(b:Int)(u:Tok):vh A s (.int a t) (.int b u) (decide (a<=b)):=λprog w E Q h=>
 richCompare_gives (typeIs_int s a t) (typeIs_int s b u) F.slot_int_le F.entry_int_le (F.args_int_le_2 _ _) (AutoIntG1.int___le___int_int_0 a t b u) (λx=>nomatch x) h
end
def lH:List Int->List Int->Bool
 |x::xs,y::ys=>if x=y then lH xs ys else decide (x<=y)
 |_,_=>true
abbrev Kh(xs ys:List Int)(j:Nat):Bool:=decide (xs.getD j 0<=ys.getD j 0)
theorem uo(x y:Int)(xs ys:List Int):∀k i,um (pairEq ((x::xs).map .int) ((y::ys).map .int)) (Kh (x::xs) (y::ys)) k (i+1)=um (pairEq (xs.map .int) (ys.map .int)) (Kh xs ys) k i
 |0,_=>rfl
 |k+1,i=>by
  show(if pairEq _ _ (i+1)then _ else Kh (x::xs) (y::ys) (i+1))=if pairEq _ _ i then _ else Kh xs ys i
  rw[uo x y xs ys k (i+1)]
  rfl
theorem wH:∀{xs ys:List Int},xs.length=ys.length->um (pairEq (xs.map .int) (ys.map .int)) (Kh xs ys) xs.length 0=lH xs ys
 | [],[],_=>rfl
 |x::xs,y::ys,h=>by
  show(if pairEq ((x::xs).map PyData.int) ((y::ys).map PyData.int) 0 then um _ _ xs.length (0+1)else Kh (x::xs) (y::ys) 0)=_
  rw[uo,wH (by simpa using h)]
  have e:pairEq ((x::xs).map PyData.int) ((y::ys).map PyData.int) 0=decide (x=y):=rfl
  rw[e]
  show _=if x=y then lH xs ys else decide (x<=y)
  by_cases c:x=y
  ·rw[if_pos c,if_pos (decide_eq_true c)]
  ·rw[if_neg c,if_neg (λz=>c (of_decide_eq_true z))]
   rfl
theorem wI{A:Around}{s:Shared}:∀{xs ys:List Int}{vs ws:List Value}{as bs:List Addr},ReadsAll s.heap vs (xs.map .int) as->ReadsAll s.heap ws (ys.map .int) bs-> ∀j (h1:j<vs.length) (h2:j<ws.length),vh A s vs[j] ws[j] (Kh xs ys j)
 | [],_,_,_,_,_,ra,_,j,h1,_=>by cases ra;exact absurd h1 (Nat.not_lt_zero _)
 |_::_,[],_,_,_,_,_,rb,j,_,h2=>by cases rb;exact absurd h2 (Nat.not_lt_zero _)
 |x::xs,y::ys,_,_,_,_,ra,rb,j,h1,h2=>by
  cases ra with
  |cons r rs=>
   cases rb with
   |cons r' rs'=>
    cases j with
    |zero=>
     cases r
     cases r'
     exact vh.int_int x _ y _
    |succ j=>exact wI rs rs' j (Nat.lt_of_succ_lt_succ h1) (Nat.lt_of_succ_lt_succ h2)
def QS(K:PySem.W.Frag):R2:=λx y H Q=> ∃(a b:Addr)(xs ys:List Int),x= .ref a/\y= .ref b/\aP K H a (xs.map V.int)/\aP K H b (ys.map V.int)/\xs.length=ys.length/\Q (.bl (lH xs ys)) H
section
variable{X:Cx}
theorem LQ(hu:X.A.units+64<cLine):rQ X (compareOp .LtE) (QS X.K):=by
 intro pins s σ H x y v u Q I rx ry h
 obtain⟨a,b,xs,ys,rfl,rfl,ha,hb,hl,q⟩:=h
 obtain⟨as,r1⟩:=ki I (.lst (ds:=xs.map PyData.int) ha (Cp xs)) rx
 obtain⟨bs,r2⟩:=ki I (.lst (ds:=ys.map PyData.int) hb (Cp ys)) ry
 have sx:shaped (.list (xs.map PyData.int))=true:=nW xs
 have sy:shaped (.list (ys.map PyData.int))=true:=nW ys
 have ca:=canLay_of_shaped sx
 have cb:=canLay_of_shaped sy
 have hr:=room_of_shaped (A:=X.A) (db:= .list (ys.map PyData.int)) sx hu
 cases rx
 cases ry
 show wpAny _ _ (richCompare .LtE (.ref a) (.ref b)) _ _ s
 cases r1 with
 | @list l o vs n _ as₁ h1 h2 h3 h4=>
  cases r2 with
  | @list l' o' vs' n' _ bs₁ k1 k2 k3 k4=>
   have n1:vs.size=(xs.map PyData.int).length:=by simpa using ReadsAll.length _ _ _ h4
   have n2:vs'.size=(ys.map PyData.int).length:=by simpa using ReadsAll.length _ _ _ k4
   have g:=vh.lists (A:=X.A) (e:=pairEq (xs.map PyData.int) (ys.map PyData.int)) (f:=Kh xs ys) ⟨_,h1,h2,_,h3⟩ ⟨_,k1,k2,_,k3⟩ (by rw[n1,n2,List.length_map,List.length_map,hl]) (room_here hr) (λj j1 j2=>by
    have:=eqAt_readsAll (xs.map PyData.int) (ys.map PyData.int) X.A.in1 s vs.toList vs'.toList _ _ h4 k4 ca cb (room_in hr) j (by simpa using j1) (by simpa using j2)
    simpa using this) (λj j1 j2 _=>by
    have:=wI (A:=X.A.in1) h4 k4 j (by simpa using j1) (by simpa using j2)
    simpa using this)
   rw[n1,List.length_map,wH hl]at g
   exact g _ _ _ _ ⟨.bl (lH xs ys),H,I,rfl,q⟩
end
end L2
namespace L2
open PySem
noncomputable section
end
noncomputable section
end
end L2
namespace L2
open PySem PySem.Spec PyProof.Rows
section
variable{prog:Program}{w:World}{A:Around}{E:Value->Shared->Prop}{s:Shared}
end
section
variable{X:Cx}
end
section
variable{X:Cx}{pins:List (Addr×Obj)}{σ:St}{H:Hp}{s:Shared}
open Classical in
end
end L2
namespace L2
open PySem
noncomputable section
end
noncomputable section
theorem Hl{r s:List Int}(hr:r.length=3)(hs:s.length=3)(a:lF r)(b:lF s)(le:xT s<=xT r)(ne:s≠r):lH [bL r 0,bL r 1,bL r 2] [bL s 0,bL s 1,bL s 2]=false:=by
 have lt:xT s<xT r:=by
  rcases Int.lt_or_eq_of_le le with h|h
  ·exact h
  ·exact absurd (Jr hs hr b a h) ne
 have k:=(sO p6 (x:=bL s 0) (x':=bL r 0) (gD (a 1 (by decide)) (b 1 (by decide))) (gD (a 2 (by decide)) (b 2 (by decide)))).mp lt
 unfold lH
 split
 ·rename_i e0
  unfold lH
  split
  ·rename_i e1
   unfold lH
   split
   ·omega
   ·simp;omega
  ·simp;omega
 ·simp;omega
theorem CP{H:Hp}{as:List Addr}{k:Nat}{b:Addr}(h:as[k]?=some b):(rws H as)[k]?=some (gZ H b):=by
 unfold rws
 rw[List.getElem?_map,h]
 rfl
theorem zM{L:List (List Int)}(so:L.Pairwise λr s=>xT r<=xT s)(nd:L.Nodup){k:Nat}{r s:List Int}(h1:L[k]?=some s)(h2:L[k+1]?=some r):xT s<=xT r/\s≠r:=by
 obtain⟨l1,e1⟩:=List.getElem?_eq_some_iff.mp h1
 obtain⟨l2,e2⟩:=List.getElem?_eq_some_iff.mp h2
 refine⟨?_,λz=> ?_⟩
 ·rw[<-e1,<-e2]
  exact List.pairwise_iff_getElem.mp so k (k+1) l1 l2 (by omega)
 ·have:=List.pairwise_iff_getElem.mp nd k (k+1) l1 l2 (by omega)
  rw[e1,e2]at this
  exact this z
end
end L2
set_option maxHeartbeats 1000000
namespace CR
open PySem L2
section
variable{P:Program}{w:World}{K:PySem.W.Frag}{mg:Str->Option Value}{base:Heap}
inductive xY(K:PySem.W.Frag)(vs:List V)(H:Hp)(Q:VK)(E:XK):Prop
 |mk(a:Addr)(ns:List Int)(k:Int)(_:vs=[.ref a,.int k])(_:aP K H a (ns.map V.int))(_:ns.length<=63)(_:0<=k)(_:∀z:Int,Q (.int z) H)
theorem rY(F:eZ K mg "_law_cell_at" jG fO)(gc:mg "len"=none):cZ P w K mg base cP 1 "_law_cell_at" fO (xY K):=by
 refine F.ok rW (λvs H Q E h=> ?_) (λf cdv A outer s H vs Q E hr h=> ?_)
 ·obtain⟨a,ns,k,rfl,hS,h63,h0,q⟩:=h
  rfl
 obtain⟨a,ns,k,rfl,hS,h63,h0,q⟩:=h
 have hu:=hr.units
 refine⟨_,(kU (@ak _ _ _ _ _ (cY (bJ JH (pv 1) (ck dN rfl gc PySem.boot_len (af (pv 0) aj)) (b8 _)) (@aI _ _ _ (aT (aC ao (pv 0) (pv 1) (λ_ _=>rfl)))) dO)
  (@aI _ _ _ (aT ah)))),?_⟩
 have hl:(ns.map V.int).length=ns.length:=List.length_map _
 refine⟨_,rfl,_,rfl,a,_,rfl,.inl hS,_,_,rfl,rfl,_,rfl,?_⟩
 refine iI (λc=> ?_) (λc=> ?_)
 ·have c':k<(((ns.map V.int).length:Nat):Int):=of_decide_eq_true c
  rw[hl]at c'
  obtain⟨z,hz⟩:=Iz h0 c'
  exact⟨_,rfl,_,rfl,a,_,_,_,rfl,rfl,hS,hz,q z⟩
 ·exact q 0
theorem uq(F:eZ K mg "_law_number" j4 f9)(Ho:mg "abs"=none)(aO:mg "range"=none)(eT:cZ P w K mg base cP 1 "_law_cell_at" fO (xY K)):cZ P w K mg base cP 2 "_law_number" f9 (xY K):=by
 refine F.ok dW (λvs H Q E h=> ?_) (λf cdv A outer s H vs Q E hr h=> ?_)
 ·obtain⟨a,ns,k,rfl,hS,h63,h0,q⟩:=h
  rfl
 obtain⟨a,ns,k,rfl,hS,h63,h0,q⟩:=h
 have hu:=hr.units
 refine⟨_,(kU (@ak _ _ _ _ _ (cY (bJ Ca (ck Ff rfl Ho PyProof.Rows.boot_abs (af (aN eT hr rfl aM (af (pv 0) (af (pv 1) aj))) aj)) (ai Fd ah ah) (b8 _)) (@aI _ _ _ (aT (aN eT hr rfl aM (af (pv 0) (af (pv 1) aj))))) dO)
  (@ak _ _ _ _ _ (aD (i:=2) dW.nd rfl (Or.inl rfl) (ai aR (ai aR (aN eT hr rfl aM (af (pv 0) (af ah aj))) (ai bg ah (pv 1))) (ai bg ah (aN eT hr rfl aM (af (pv 0) (af (pv 1) aj))))))
  (@ak _ _ _ _ _ (aD (i:=2) dW.nd rfl (Or.inl rfl) (ai aR (ai cS (pv 2) ah) ah))
  (@ak _ _ _ _ _ (aD (i:=3) dW.nd rfl (Or.inl rfl) ah)
  (@ak _ _ _ _ _ (g6 PassesOwn.never rfl (cF rfl aO (af ah aj)) (aL (i:=4) dW.nd rfl (Or.inl rfl)) (kU (@ak _ _ _ _ _ (aD (i:=2) dW.nd rfl (Or.inl rfl) (ai cS (ai aR (ai aR (ai aR (ai bg (pv 2) ah) (ai bZ (pv 2) ah)) (ai bg (ai bg ah (pv 4)) (pv 4))) ah) ah))
  (@aI _ _ _ (aD (i:=3) dW.nd rfl (Or.inl rfl) (ai aR (ai bg (pv 3) ah) (ai cS (ai bg (pv 2) ah) ah)))))))
  (@aI _ _ _ (aT (pv 3))))))))),?_⟩
 refine⟨_,rfl,_,rfl,a,ns,k,rfl,hS,h63,h0,λz1=> ?_⟩
 refine⟨z1,rfl,_,_,rfl,rfl,⟨by decide,by decide,by decide⟩,_,_,rfl,rfl,_,rfl,?_⟩
 refine iI (λc=> ?_) (λc=> ?_)
 ·exact⟨_,rfl,_,rfl,a,ns,k,rfl,hS,h63,h0,q⟩
 refine⟨_,rfl,a,ns,0,rfl,hS,h63,Int.le_refl 0,λz2=> ?_⟩
 refine⟨_,rfl,_,_,rfl,rfl,.inl ⟨by decide,by decide⟩,_,_,rfl,rfl,?_⟩
 refine⟨_,rfl,_,rfl,a,ns,k,rfl,hS,h63,h0,λz3=> ?_⟩
 refine⟨_,_,rfl,rfl,.inl ⟨by decide,by decide⟩,_,_,rfl,rfl,?_⟩
 refine⟨_,rfl,_,_,rfl,rfl,(by show(0:Int)<2147483563;decide),_,_,rfl,rfl,?_⟩
 refine⟨10,rfl,by decide,by decide,fR (n:=10) (λi σ H'=> ∃x t j,H'=H/\σ=[some (.ref a),some (.int k),some (.int x),some (.int t),j]) ⟨_,_,_,rfl,rfl⟩ (λi σ H' hi h=> ?_) (λσ H' h=> ?_)⟩
 ·obtain⟨x,t,j,rfl,rfl⟩:=h
  refine⟨_,rfl,_,_,rfl,rfl,.inr ⟨by decide,by decide⟩,?_⟩
  refine⟨_,rfl,_,_,rfl,rfl,⟨by decide,by decide⟩,_,_,rfl,rfl,?_⟩
  refine⟨_,rfl,_,_,rfl,rfl,.inl ⟨by decide,by decide⟩,_,rfl,_,_,rfl,rfl,.inr ⟨by omega,by omega⟩,_,_,rfl,rfl,?_⟩
  refine⟨_,_,rfl,rfl,_,_,rfl,rfl,(by show(0:Int)<2147483647;decide),?_⟩
  refine⟨_,rfl,_,_,rfl,rfl,.inr ⟨by decide,by decide⟩,_,rfl,_,_,rfl,rfl,.inr ⟨by decide,by decide⟩,_,_,rfl,rfl,(by show(0:Int)<2147483629;decide),_,_,rfl,rfl,?_⟩
  exact⟨_,_,_,rfl,rfl⟩
 ·obtain⟨x,t,j,rfl,rfl⟩:=h
  exact⟨_,rfl,q _⟩
inductive xZ(vs:List V)(H:Hp)(Q:VK)(E:XK):Prop
 |mk(t:Addr)(bs:List Addr)(m:List (List Int))(_:vs=[.ref t])(_:Tab H t bs m)(_:cB m)(_:Bd 1000 m)(_:Q (.int (aA m)) H)
theorem zN(F:eZ K mg "_law_det" oB gq):cZ P w K mg base cP 1 "_law_det" gq xZ:=by
 refine F.ok jP (λvs H Q E h=> ?_) (λf cdv A outer s H vs Q E hr h=> ?_)
 ·obtain⟨t,bs,m,rfl,hT,bO,hB,q⟩:=h
  rfl
 obtain⟨t,bs,m,rfl,hT,bO,hB,q⟩:=h
 have hu:=hr.units
 refine⟨_,(kU (@ak _ _ _ _ _ (aD (i:=1) jP.nd rfl (Or.inl rfl) (ai bK (ai aB (aC ao (aC ao (pv 0) ah (λ_ _=>rfl)) ah (λ_ _=>rfl)) (aC ao (aC ao (pv 0) ah (λ_ _=>rfl)) ah (λ_ _=>rfl))) (ai aB (aC ao (aC ao (pv 0) ah (λ_ _=>rfl)) ah (λ_ _=>rfl)) (aC ao (aC ao (pv 0) ah (λ_ _=>rfl)) ah (λ_ _=>rfl)))))
  (@ak _ _ _ _ _ (aD (i:=2) jP.nd rfl (Or.inl rfl) (ai bK (ai aB (aC ao (aC ao (pv 0) ah (λ_ _=>rfl)) ah (λ_ _=>rfl)) (aC ao (aC ao (pv 0) ah (λ_ _=>rfl)) ah (λ_ _=>rfl))) (ai aB (aC ao (aC ao (pv 0) ah (λ_ _=>rfl)) ah (λ_ _=>rfl)) (aC ao (aC ao (pv 0) ah (λ_ _=>rfl)) ah (λ_ _=>rfl)))))
  (@ak _ _ _ _ _ (aD (i:=3) jP.nd rfl (Or.inl rfl) (ai bK (ai aB (aC ao (aC ao (pv 0) ah (λ_ _=>rfl)) ah (λ_ _=>rfl)) (aC ao (aC ao (pv 0) ah (λ_ _=>rfl)) ah (λ_ _=>rfl))) (ai aB (aC ao (aC ao (pv 0) ah (λ_ _=>rfl)) ah (λ_ _=>rfl)) (aC ao (aC ao (pv 0) ah (λ_ _=>rfl)) ah (λ_ _=>rfl)))))
  (@aI _ _ _ (aT (ai aR (ai bK (ai aB (aC ao (aC ao (pv 0) ah (λ_ _=>rfl)) ah (λ_ _=>rfl)) (pv 1)) (ai aB (aC ao (aC ao (pv 0) ah (λ_ _=>rfl)) ah (λ_ _=>rfl)) (pv 2))) (ai aB (aC ao (aC ao (pv 0) ah (λ_ _=>rfl)) ah (λ_ _=>rfl)) (pv 3))))))))),?_⟩
 obtain⟨c0,x1,x2,_⟩:=aX hT bO (i:=0) (by decide)
 obtain⟨c1,y1,y2,_⟩:=aX hT bO (i:=1) (by decide)
 obtain⟨c2,w1,w2,_⟩:=aX hT bO (i:=2) (by decide)
 refine⟨_,rfl,t,_,_,_,rfl,rfl,aP.of hT.1,y1,c1,_,_,_,rfl,rfl,aP.of y2,rfl,_,rfl,t,_,_,_,rfl,rfl,aP.of hT.1,w1,c2,_,_,_,rfl,rfl,aP.of w2,rfl,_,_,rfl,rfl,⟨aG (hB 1 1 (by decide) (by decide)) (by decide),aG (hB 2 2 (by decide) (by decide)) (by decide)⟩,_,rfl,t,_,_,_,rfl,rfl,aP.of hT.1,y1,c1,_,_,_,rfl,rfl,aP.of y2,rfl,_,rfl,t,_,_,_,rfl,rfl,aP.of hT.1,w1,c2,_,_,_,rfl,rfl,aP.of w2,rfl,_,_,rfl,rfl,⟨aG (hB 1 2 (by decide) (by decide)) (by decide),aG (hB 2 1 (by decide) (by decide)) (by decide)⟩,_,_,rfl,rfl,?_⟩
 refine⟨_,rfl,t,_,_,_,rfl,rfl,aP.of hT.1,y1,c1,_,_,_,rfl,rfl,aP.of y2,rfl,_,rfl,t,_,_,_,rfl,rfl,aP.of hT.1,w1,c2,_,_,_,rfl,rfl,aP.of w2,rfl,_,_,rfl,rfl,⟨aG (hB 1 0 (by decide) (by decide)) (by decide),aG (hB 2 2 (by decide) (by decide)) (by decide)⟩,_,rfl,t,_,_,_,rfl,rfl,aP.of hT.1,y1,c1,_,_,_,rfl,rfl,aP.of y2,rfl,_,rfl,t,_,_,_,rfl,rfl,aP.of hT.1,w1,c2,_,_,_,rfl,rfl,aP.of w2,rfl,_,_,rfl,rfl,⟨aG (hB 1 2 (by decide) (by decide)) (by decide),aG (hB 2 0 (by decide) (by decide)) (by decide)⟩,_,_,rfl,rfl,?_⟩
 refine⟨_,rfl,t,_,_,_,rfl,rfl,aP.of hT.1,y1,c1,_,_,_,rfl,rfl,aP.of y2,rfl,_,rfl,t,_,_,_,rfl,rfl,aP.of hT.1,w1,c2,_,_,_,rfl,rfl,aP.of w2,rfl,_,_,rfl,rfl,⟨aG (hB 1 0 (by decide) (by decide)) (by decide),aG (hB 2 1 (by decide) (by decide)) (by decide)⟩,_,rfl,t,_,_,_,rfl,rfl,aP.of hT.1,y1,c1,_,_,_,rfl,rfl,aP.of y2,rfl,_,rfl,t,_,_,_,rfl,rfl,aP.of hT.1,w1,c2,_,_,_,rfl,rfl,aP.of w2,rfl,_,_,rfl,rfl,⟨aG (hB 1 1 (by decide) (by decide)) (by decide),aG (hB 2 0 (by decide) (by decide)) (by decide)⟩,_,_,rfl,rfl,?_⟩
 refine⟨_,rfl,t,_,_,_,rfl,rfl,aP.of hT.1,x1,c0,_,_,_,rfl,rfl,aP.of x2,rfl,_,rfl,_,_,rfl,rfl,⟨aG (hB 0 0 (by decide) (by decide)) (by decide),aG (jW (bT (hB 1 1 (by decide) (by decide)) (hB 2 2 (by decide) (by decide))) (bT (hB 1 2 (by decide) (by decide)) (hB 2 1 (by decide) (by decide)))) (by decide)⟩,?_⟩
 refine⟨_,rfl,t,_,_,_,rfl,rfl,aP.of hT.1,x1,c0,_,_,_,rfl,rfl,aP.of x2,rfl,_,rfl,_,_,rfl,rfl,⟨aG (hB 0 1 (by decide) (by decide)) (by decide),aG (jW (bT (hB 1 0 (by decide) (by decide)) (hB 2 2 (by decide) (by decide))) (bT (hB 1 2 (by decide) (by decide)) (hB 2 0 (by decide) (by decide)))) (by decide)⟩,_,_,rfl,rfl,?_⟩
 refine⟨_,rfl,t,_,_,_,rfl,rfl,aP.of hT.1,x1,c0,_,_,_,rfl,rfl,aP.of x2,rfl,_,rfl,_,_,rfl,rfl,⟨aG (hB 0 2 (by decide) (by decide)) (by decide),aG (jW (bT (hB 1 0 (by decide) (by decide)) (hB 2 1 (by decide) (by decide))) (bT (hB 1 1 (by decide) (by decide)) (hB 2 0 (by decide) (by decide)))) (by decide)⟩,_,_,rfl,rfl,?_⟩
 have e:ent m 0 0*(ent m 1 1*ent m 2 2-ent m 1 2*ent m 2 1) -ent m 0 1*(ent m 1 0*ent m 2 2-ent m 1 2*ent m 2 0)+ent m 0 2*(ent m 1 0*ent m 2 1-ent m 1 1*ent m 2 0)=aA m:=by
  rw[cU]
  grind
 rw[<-e]at q
 exact q
inductive CQ(vs:List V)(H:Hp)(Q:VK)(E:XK):Prop
 |mk(a b c big:Int)(_:vs=[.int a,.int b,.int c,.int big])(_:0<a)(_:a<=b)(_:b<=c)(_:c<1000000)(_:∀p q r t bs H',-a<=p->p<=a-> -a<=q->q<=a-> -b<=r->r<=b->0<aA (f6 (2*a) (2*b) (2*c) p q r) ->ay H H'->H t=none->(∀b∈bs,H b=none) ->t∉bs->bs.Nodup->Tab H' t bs (f6 (2*a) (2*b) (2*c) p q r) ->Q (.ref t) H')
theorem vj(F:eZ K mg "_law_shape" lq gP)(fm:cZ P w K mg base cP 1 "_law_det" gq xZ):cZ P w K mg base cP 2 "_law_shape" gP CQ:=by
 refine F.ok fF (λvs H Q E h=> ?_) (λf cdv A outer s H vs Q E hr h=> ?_)
 ·obtain⟨a,b,c,big,rfl,ha,hab,hbc,hc,q⟩:=h
  rfl
 obtain⟨a,b,c,big,rfl,ha,hab,hbc,hc,q⟩:=h
 have hu:=hr.units
 refine⟨_,(kU (@ak _ _ _ _ _ (aD (i:=4) fF.nd rfl (Or.inl rfl) (ai bK (ai cS (pv 3) (ai aR (ai bg ah (pv 0)) ah)) (pv 0)))
  (@ak _ _ _ _ _ (aD (i:=5) fF.nd rfl (Or.inl rfl) (ai bK (ai cS (ai bZ (pv 3) (ai aR (ai bg ah (pv 0)) ah)) (ai aR (ai bg ah (pv 0)) ah)) (pv 0)))
  (@ak _ _ _ _ _ (aD (i:=6) fF.nd rfl (Or.inl rfl) (ai bK (ai cS (ai bZ (ai bZ (pv 3) (ai aR (ai bg ah (pv 0)) ah)) (ai aR (ai bg ah (pv 0)) ah)) (ai aR (ai bg ah (pv 1)) ah)) (pv 1)))
  (@ak _ _ _ _ _ (aD (i:=7) fF.nd rfl (Or.inl rfl) (dG (af (dG (af (ai bg ah (pv 0)) (af (pv 4) (af (pv 5) aj)))) (af (dG (af (pv 4) (af (ai bg ah (pv 1)) (af (pv 6) aj)))) (af (dG (af (pv 5) (af (pv 6) (af (ai bg ah (pv 2)) aj)))) aj)))))
  (@ak _ _ _ _ _ (cY (bJ vG (aN fm hr rfl aM (af (pv 7) aj)) ah (b8 _)) (@aI _ _ _ (aD (i:=7) fF.nd rfl (Or.inl rfl) (dG (af (dG (af (ai bg ah (pv 0)) (af (pv 4) (af (pv 5) aj)))) (af (dG (af (pv 4) (af (ai bg ah (pv 1)) (af ah aj)))) (af (dG (af (pv 5) (af ah (af (ai bg ah (pv 2)) aj)))) aj)))))) dO)
  (@aI _ _ _ (aT (pv 7))))))))),?_⟩
 have m1:0<2*a+1:=by omega
 have m2:0<2*b+1:=by omega
 refine⟨_,rfl,_,rfl,_,_,rfl,rfl,.inl ⟨by decide,by decide⟩,_,_,rfl,rfl,_,_,rfl,rfl,m1,_,rfl,_,_,rfl,rfl,?_⟩
 refine⟨_,rfl,_,rfl,_,_,rfl,rfl,.inl ⟨by decide,by decide⟩,_,_,rfl,rfl,_,_,rfl,rfl,⟨m1,by omega⟩,_,rfl,_,_,rfl,rfl,.inl ⟨by decide,by decide⟩,_,_,rfl,rfl,_,_,rfl,rfl,m1,_,rfl,_,_,rfl,rfl,?_⟩
 refine⟨_,rfl,_,rfl,_,_,rfl,rfl,.inl ⟨by decide,by decide⟩,_,_,rfl,rfl,_,_,rfl,rfl,⟨m1,by omega⟩,_,rfl,_,_,rfl,rfl,.inl ⟨by decide,by decide⟩,_,_,rfl,rfl,_,_,rfl,rfl,⟨m1,by omega⟩,_,rfl,_,_,rfl,rfl,.inl ⟨by decide,by decide⟩,_,_,rfl,rfl,_,_,rfl,rfl,m2,_,rfl,_,_,rfl,rfl,?_⟩
 obtain⟨p,ep,hp,iK⟩:∃p,p=big%(2*a+1) -a/\ -a<=p/\p<=a:=⟨_,rfl,by have:=Int.emod_nonneg big (show 2*a+1≠0 by omega);omega,by have:=Int.emod_lt_of_pos big m1;omega⟩
 obtain⟨qq,eq,hq,hq'⟩:∃p,p=big/(2*a+1)%(2*a+1) -a/\ -a<=p/\p<=a:=⟨_,rfl,by have:=Int.emod_nonneg (big/(2*a+1)) (show 2*a+1≠0 by omega);omega,by have:=Int.emod_lt_of_pos (big/(2*a+1)) m1;omega⟩
 obtain⟨r,er,hr,hr'⟩:∃p,p=big/(2*a+1)/(2*a+1)%(2*b+1) -b/\ -b<=p/\p<=b:=⟨_,rfl,by have:=Int.emod_nonneg (big/(2*a+1)/(2*a+1)) (show 2*b+1≠0 by omega);omega,by have:=Int.emod_lt_of_pos (big/(2*a+1)/(2*a+1)) m2;omega⟩
 simp only[<-ep,<-eq,<-er]
 clear ep eq er
 refine⟨_,rfl,_,_,rfl,rfl,.inl ⟨by decide,by decide⟩,_,rfl,_,rfl,(by show 3<=sizeLine;decide),λp0 h0=>⟨_,rfl,_,rfl,_,_,rfl,rfl,.inl ⟨by decide,by decide⟩,_,rfl,(by show 3<=sizeLine;decide),λp1 h1=>⟨_,rfl,_,rfl,_,rfl,_,_,rfl,rfl,.inl ⟨by decide,by decide⟩,(by show 3<=sizeLine;decide),λp2 h2=>⟨(by show 3<=sizeLine;decide),λt ht=> ?_⟩⟩⟩⟩
 have u0:=ay.up (o:= .lst [.int (2*a),.int p,.int qq]) h0
 have u1:=ay.up (o:= .lst [.int p,.int (2*b),.int r]) h1
 have u2:=ay.up (o:= .lst [.int qq,.int r,.int (2*c)]) h2
 have u3:=ay.up (o:= .lst [.ref p0,.ref p1,.ref p2]) ht
 have T:Tab _ t [p0,p1,p2] (f6 (2*a) (2*b) (2*c) p qq r):=iy _ au (u3 _ _ (u2 _ _ (u1 _ _ au))) (u3 _ _ (u2 _ _ au)) (u3 _ _ au)
 have us:=u0.trans (u1.trans (u2.trans u3))
 have fr:=Ax h0 h1 h2 ht
 have nn:=Gg h0 h1 h2
 refine⟨_,rfl,t,_,_,rfl,T,cH _,(xu (n:=30) (by omega) (by omega) (by omega) (by omega) (by omega) (by omega)).mono (by decide),_,_,rfl,rfl,_,rfl,iI (λdc=> ?_) (λdc=> ?_)⟩
 ·refine⟨_,rfl,_,_,rfl,rfl,.inl ⟨by decide,by decide⟩,_,rfl,_,rfl,(by show 3<=sizeLine;decide),λSz QT=>⟨_,rfl,_,rfl,_,_,rfl,rfl,.inl ⟨by decide,by decide⟩,(by show 3<=sizeLine;decide),λSA QU=>⟨_,rfl,_,rfl,_,_,rfl,rfl,.inl ⟨by decide,by decide⟩,(by show 3<=sizeLine;decide),λSE QV=>⟨(by show 3<=sizeLine;decide),λtx htx=> ?_⟩⟩⟩⟩
  have UZ:=ay.up (o:= .lst [.int (2*a),.int p,.int qq]) QT
  have SG:=ay.up (o:= .lst [.int p,.int (2*b),.int 0]) QU
  have QW:=ay.up (o:= .lst [.int qq,.int 0,.int (2*c)]) QV
  have OS:=ay.up (o:= .lst [.ref Sz,.ref SA,.ref SE]) htx
  have Tx:Tab _ tx [Sz,SA,SE] (f6 (2*a) (2*b) (2*c) p qq 0):=iy _ au (OS _ _ (QW _ _ (SG _ _ au))) (OS _ _ (QW _ _ au)) (OS _ _ au)
  have Va:=UZ.trans (SG.trans (QW.trans OS))
  have QX:=Ax QT QU QV htx
  have Vb:=Gg QT QU QV
  exact⟨_,rfl,q p qq 0 tx _ _ hp iK hq hq' (by omega) (by omega) (Ge ha hab hbc hp iK hq hq') (us.trans Va) (us.none QX.1) (λb hb=>us.none (QX.2.1 b hb)) QX.2.2 Vb Tx⟩
 ·have VH:¬aA (f6 (2*a) (2*b) (2*c) p qq r)<=0:=λz=>dc (decide_eq_true z)
  exact⟨_,rfl,q p qq r t _ _ hp iK hq hq' hr hr' (by omega) us fr.1 fr.2.1 fr.2.2 nn T⟩
def Kl(a b c p q r:Int):Prop:=0<a/\a<=b/\b<=c/\(c<=115/\a<=8/\b<=15)/\ -a<=p/\p<=a/\ -a<=q/\q<=a/\ -b<=r/\r<=b/\0<aA (f6 (2*a) (2*b) (2*c) p q r)
def Km(big most:Int)(H:Hp)(μ:Nat)(σ:St)(H':Hp):Prop:=∃(a b c p q r:Int)(t:Addr)(bs:List Addr),μ=(a+b+c).toNat/\Kl a b c p q r/\σ=[some (.int big),some (.int most),some (.int a),some (.int b),some (.int c),some (.ref t)]/\ay H H'/\H t=none/\(∀b∈bs,H b=none)/\t∉bs/\bs.Nodup/\Tab H' t bs (f6 (2*a) (2*b) (2*c) p q r)
inductive Hq(vs:List V)(H:Hp)(Q:VK)(E:XK):Prop
 |mk(big most:Int)(_:vs=[.int big,.int most])(_:4<=most)(_:∀a b c p q r t bs H',Kl a b c p q r->aA (f6 (2*a) (2*b) (2*c) p q r)/2<=most->ay H H'->H t=none->(∀b∈bs,H b=none) ->t∉bs->bs.Nodup->Tab H' t bs (f6 (2*a) (2*b) (2*c) p q r) ->Q (.ref t) H')
theorem x6(F:eZ K mg "_law_form" mQ iE)(jj:cZ P w K mg base cP 2 "_law_shape" gP CQ)(fm:cZ P w K mg base cP 2 "_law_det" gq xZ):cZ P w K mg base cP 3 "_law_form" iE Hq:=by
 refine F.ok cy (λvs H Q E h=> ?_) (λf cdv A outer s H vs Q E hr h=> ?_)
 ·obtain⟨big,most,rfl,hm,K0⟩:=h
  rfl
 obtain⟨big,most,rfl,hm,K0⟩:=h
 have hu:=hr.units
 refine⟨_,(kU (@ak _ _ _ _ _ (aD (i:=2) cy.nd rfl (Or.inl rfl) (ai aR ah (ai cS (pv 0) ah)))
  (@ak _ _ _ _ _ (aD (i:=3) cy.nd rfl (Or.inl rfl) (ai aR (pv 2) (ai cS (ai bZ (pv 0) ah) ah)))
  (@ak _ _ _ _ _ (aD (i:=4) cy.nd rfl (Or.inl rfl) (ai aR (pv 3) (ai cS (ai bZ (pv 0) ah) (ai aR ah (ai bZ ah (ai bg (pv 2) (pv 3)))))))
  (@ak _ _ _ _ _ (aD (i:=5) cy.nd rfl (Or.inl rfl) (aN jj hr rfl aM (af (pv 2) (af (pv 3) (af (pv 4) (af (ai bZ (pv 0) ah) aj))))))
  (@ak _ _ _ _ _ (kg PassesOwn.never (bJ nK (ai bZ (aN fm hr rfl aM (af (pv 5) aj)) ah) (pv 1) (b8 _)) (kU (@ak _ _ _ _ _ (cY (bJ nK (pv 4) (pv 3) (b8 _)) (@aI _ _ _ (aD (i:=4) cy.nd rfl (Or.inl rfl) (ai bK (pv 4) ah))) (@aI _ _ _ (cY (bJ nK (pv 3) (pv 2) (b8 _)) (@ak _ _ _ _ _ (aD (i:=3) cy.nd rfl (Or.inl rfl) (ai bK (pv 3) ah))
  (@aI _ _ _ (aD (i:=4) cy.nd rfl (Or.inl rfl) (pv 3)))) (@ak _ _ _ _ _ (aD (i:=2) cy.nd rfl (Or.inl rfl) (ai bK (pv 2) ah))
  (@ak _ _ _ _ _ (aD (i:=3) cy.nd rfl (Or.inl rfl) (pv 2))
  (@aI _ _ _ (aD (i:=4) cy.nd rfl (Or.inl rfl) (pv 2))))))))
  (@aI _ _ _ (aD (i:=5) cy.nd rfl (Or.inl rfl) (aN jj hr rfl aM (af (pv 2) (af (pv 3) (af (pv 4) (af (ai bZ (pv 0) ah) aj))))))))))
  (@aI _ _ _ (aT (pv 5))))))))),?_⟩
 refine⟨_,rfl,_,_,rfl,rfl,(by show(0:Int)<8;decide),_,_,rfl,rfl,?_⟩
 obtain⟨a,ea,a1,a8⟩:∃a,a=1+big%8/\0<a/\a<=8:=⟨_,rfl,by omega,by omega⟩
 refine⟨_,rfl,_,rfl,_,_,rfl,rfl,⟨by decide,by decide⟩,_,_,rfl,rfl,(by show(0:Int)<8;decide),_,_,rfl,rfl,?_⟩
 simp only[<-ea]
 obtain⟨b,eb,ab,SH⟩:∃b,b=a+big/8%8/\a<=b/\b<=15:=⟨_,rfl,by omega,by omega⟩
 simp only[<-eb]
 have SI:0<a*b:=Int.mul_pos a1 (by omega)
 have Vc:a*b<=8*15:=Int.mul_le_mul a8 SH (by omega) (by decide)
 have d0:0<=100/(a*b):=Int.ediv_nonneg (by decide) (by omega)
 have d1:100/(a*b)<=100:=Int.ediv_le_self _ (by decide)
 have d2:0<1+100/(a*b):=by omega
 refine⟨_,rfl,_,rfl,_,_,rfl,rfl,⟨by decide,by decide⟩,_,rfl,_,rfl,_,_,rfl,rfl,.inl ⟨by omega,by omega⟩,_,_,rfl,rfl,⟨SI,by omega⟩,_,_,rfl,rfl,_,_,rfl,rfl,d2,_,_,rfl,rfl,?_⟩
 obtain⟨c,ec,bc,QY⟩:∃c,c=b+big/64%(1+100/(a*b))/\b<=c/\c<=115:=⟨_,rfl,by have:=Int.emod_nonneg (big/64) (show 1+100/(a*b)≠0 by omega);omega,by have:=Int.emod_lt_of_pos (big/64) d2;omega⟩
 simp only[<-ec]
 refine⟨_,rfl,_,rfl,_,rfl,_,rfl,_,_,rfl,rfl,⟨by decide,by decide⟩,a,b,c,_,rfl,a1,ab,bc,by omega,λp q r t bs H' hp iK hq hq' hr hr' hd s ft fb nt nd T=> ?_⟩
 clear ea eb ec
 refine⟨Km big most H,⟨_,a,b,c,p,q,r,t,bs,rfl,⟨a1,ab,bc,by omega,hp,iK,hq,hq',hr,hr',hd⟩,rfl,s,ft,fb,nt,nd,T⟩,λμ σ H2 h=> ?_⟩
 clear a1 a8 ab SH SI Vc d0 d1 d2 bc QY hp iK hq hq' hr hr' hd s ft fb nt nd T
 obtain⟨a,b,c,p,q,r,t,bs,rfl,⟨a1,ab,bc,c6,hp,iK,hq,hq',hr,hr',hd⟩,rfl,s2,ft,fb,nt,nd,T⟩:=h
 refine⟨_,rfl,t,bs,_,rfl,T,cH _,(xu (n:=30) (by omega) (by omega) (by omega) (by omega) (by omega) (by omega)).mono (by decide),_,_,rfl,rfl,⟨by decide,by decide⟩,_,rfl,_,_,rfl,rfl,_,rfl,iI (λcd=> ?_) (λcd=> ?_)⟩
 ·have cd:most<aA (f6 (2*a) (2*b) (2*c) p q r)/2:=of_decide_eq_true cd
  refine⟨λσ' H'=> ∃SJ,SJ<(a+b+c).toNat/\Km big most H SJ σ' H',λ_ _ h=>h,?_⟩
  refine⟨_,rfl,_,rfl,_,_,rfl,rfl,_,rfl,iI (λc1=> ?_) (λc1=> ?_)⟩
  ·have c1:b<c:=of_decide_eq_true c1
   refine⟨_,rfl,_,_,rfl,rfl,?_⟩
   refine⟨_,rfl,_,rfl,_,rfl,_,rfl,_,_,rfl,rfl,⟨by decide,by decide⟩,a,b,c-1,_,rfl,by omega,by omega,by omega,by omega,λp q r t bs H' hp iK hq hq' hr hr' hd s ft fb nt nd T=> ?_⟩
   exact⟨_,by show((a)+(b)+(c-1)).toNat<(a+b+c).toNat;omega,a,b,c-1,p,q,r,t,bs,rfl,⟨by omega,by omega,by omega,by omega,hp,iK,hq,hq',hr,hr',hd⟩,rfl,s2.trans s,s2.none ft,λx hx=>s2.none (fb x hx),nt,nd,T⟩
  have c1:¬b<c:=λz=>c1 (decide_eq_true z)
  refine⟨_,rfl,_,rfl,_,_,rfl,rfl,_,rfl,iI (λc2=> ?_) (λc2=> ?_)⟩
  ·have c2:a<b:=of_decide_eq_true c2
   refine⟨_,rfl,_,_,rfl,rfl,_,rfl,?_⟩
   refine⟨_,rfl,_,rfl,_,rfl,_,rfl,_,_,rfl,rfl,⟨by decide,by decide⟩,a,b-1,b-1,_,rfl,by omega,by omega,by omega,by omega,λp q r t bs H' hp iK hq hq' hr hr' hd s ft fb nt nd T=> ?_⟩
   exact⟨_,by show((a)+(b-1)+(b-1)).toNat<(a+b+c).toNat;omega,a,b-1,b-1,p,q,r,t,bs,rfl,⟨by omega,by omega,by omega,by omega,hp,iK,hq,hq',hr,hr',hd⟩,rfl,s2.trans s,s2.none ft,λx hx=>s2.none (fb x hx),nt,nd,T⟩
  have c2:¬a<b:=λz=>c2 (decide_eq_true z)
  have h2:1<a:=by
   rcases Int.lt_or_le 1 a with z|z
   ·exact z
   ·exfalso
    obtain rfl:a=1:=by omega
    obtain rfl:b=1:=by omega
    obtain rfl:c=1:=by omega
    have:=Gf hp iK hq hq' hr hr'
    omega
  refine⟨_,rfl,_,_,rfl,rfl,_,rfl,_,rfl,?_⟩
  refine⟨_,rfl,_,rfl,_,rfl,_,rfl,_,_,rfl,rfl,⟨by decide,by decide⟩,a-1,a-1,a-1,_,rfl,by omega,by omega,by omega,by omega,λp q r t bs H' hp iK hq hq' hr hr' hd s ft fb nt nd T=> ?_⟩
  exact⟨_,by show((a-1)+(a-1)+(a-1)).toNat<(a+b+c).toNat;omega,a-1,a-1,a-1,p,q,r,t,bs,rfl,⟨by omega,by omega,by omega,by omega,hp,iK,hq,hq',hr,hr',hd⟩,rfl,s2.trans s,s2.none ft,λx hx=>s2.none (fb x hx),nt,nd,T⟩
 ·have cd:¬most<aA (f6 (2*a) (2*b) (2*c) p q r)/2:=λz=>cd (decide_eq_true z)
  exact⟨_,rfl,K0 a b c p q r t bs H2 ⟨a1,ab,bc,c6,hp,iK,hq,hq',hr,hr',hd⟩ (by omega) s2 ft fb nt nd T⟩
inductive CS(vs:List V)(H:Hp)(Q:VK)(E:XK):Prop
 |mk(big most HS:Int)(_:vs=[.int big,.int most,.int HS])(_:0<=most)(_:most<10)(_:0<=HS)(_:HS<=10000)(_:∀m t bs H',cB m->Bd (15*most.toNat+2) m->(aA m=1∨aA m= -1) ->ay H H'->H t=none->(∀b∈bs,H b=none) ->t∉bs->Tab H' t bs m->Q (.ref t) H')
theorem vm(F:eZ K mg "_law_basis" lu gQ)(aO:mg "range"=none)(pY:mg "zip"=none):cZ P w K mg base cP 1 "_law_basis" gQ CS:=by
 refine F.ok cN (λvs H Q E h=> ?_) (λf cdv A outer s H vs Q E hr h=> ?_)
 ·obtain⟨big,most,HS,rfl,h0,Lf,f0,f1,K0⟩:=h
  rfl
 obtain⟨big,most,HS,rfl,h0,Lf,f0,f1,K0⟩:=h
 have hu:=hr.units
 refine toF ?_
 refine⟨_,(Lv (i:=3) cN.nd rfl (Or.inl rfl) (tL (eY (tL (eY iO (eY iO (eY iO tK (by kernel_rfl)) (by kernel_rfl)) (by kernel_rfl))) (eY (tL (eY iO (eY iO (eY iO tK (by kernel_rfl)) (by kernel_rfl)) (by kernel_rfl))) (eY (tL (eY iO (eY iO (eY iO tK (by kernel_rfl)) (by kernel_rfl)) (by kernel_rfl))) tK (by kernel_rfl)) (by kernel_rfl)) (by kernel_rfl))) (by kernel_rfl) (by first|exact .inl rfl|exact .inr rfl)
  (@ak _ _ _ _ _ (aD (i:=4) cN.nd rfl (Or.inl rfl) (ai cS (pv 0) (ai aR (pv 1) ah)))
  (@ak _ _ _ _ _ (aD (i:=0) cN.nd rfl (Or.inr rfl) (ai bZ (pv 0) (ai aR (pv 1) ah)))
  (@ak _ _ _ _ _ (g6 PassesOwn.never rfl (cF rfl aO (af (pv 4) aj)) (aL (i:=5) cN.nd rfl (Or.inl rfl)) (kU (@ak _ _ _ _ _ (aD (i:=6) cN.nd rfl (Or.inl rfl) (ai cS (pv 0) ah))
  (@ak _ _ _ _ _ (aD (i:=7) cN.nd rfl (Or.inl rfl) (ai cS (ai aR (ai aR (pv 6) ah) (ai cS (ai bZ (pv 0) ah) ah)) ah))
  (@ak _ _ _ _ _ (aD (i:=8) cN.nd rfl (Or.inr rfl) (ai bK (ai cS (ai bZ (pv 0) ah) (ai aR (ai bg ah (pv 2)) ah)) (pv 2)))
  (@ak _ _ _ _ _ (kN (Av (N2:=["_law_big","_law_most","_law_far","_law_rows_here","_law_many","_law_k","_law_i","_law_j","_law_often"]) (te:=(gY (Di λi j=> .int (i+j)) (bH 0) (gY (rI jv λi j=> .int (i*j)) (bH 10) (bH 1)))) rfl (Au rfl pY (af (aC ao (pv 3) (pv 6) (λ_ _=>rfl)) (af (aC ao (pv 3) (pv 7) (λ_ _=>rfl)) aj))) (by kernel_rfl) rfl (λ_ _ _=>by exact iM (ai aR (pv 0) (ai aB (pv 10) (pv 1))))) (EY (pv 3) (pv 6) set_list))
  (@aI _ _ _ (aD (i:=0) cN.nd rfl (Or.inr rfl) (ai bZ (ai bZ (pv 0) ah) (ai aR (ai bg ah (pv 2)) ah))))))))))
  (@ak _ _ _ _ _ (aD (i:=6) cN.nd rfl (Or.inl rfl) (ai cS (pv 0) ah))
  (@ak _ _ _ _ _ (kN (gk (N2:=["_law_big","_law_most","_law_far","_law_rows_here","_law_many","_law_k","_law_i","_law_j","_law_often"]) (te:=(gY (rI jv λi j=> .int (i*j)) (gY (Di λi j=> .int (i-j)) (tC (.int 1)) (gY (rI Ie λi j=> .int (i*j)) (tC (.int 2)) (gY (rI (λ_ j=>0<j) λi j=> .int (i%j)) (gY (rI Ng λi j=> .int (i/j)) (bH 1) (tC (.int 3))) (tC (.int 2))))) (bH 0))) rfl (fQ (aC ao (pv 3) (pv 6) (λ_ _=>rfl))) (by kernel_rfl) rfl (λ_ _ _=>by exact iM (ai aB (ai bK ah (ai bg ah (ai cS (ai bZ (pv 1) ah) ah))) (pv 0)))) (EY (pv 3) (pv 6) set_list))
  (@aI _ _ _ (aT (ai Lc (sX w9 (pv 3) (wZ (ai cS (ai bZ (pv 0) ah) ah)) wY) (sX w9 (pv 3) wY (wZ (ai cS (ai bZ (pv 0) ah) ah)))))))))))),?_⟩
 refine⟨(by show 3<=sizeLine;decide),λp0 g0=>⟨(by show 3<=sizeLine;decide),λp1 g1=>⟨(by show 3<=sizeLine;decide),λp2 g2=>⟨(by show 3<=sizeLine;decide),λD hD=> ?_⟩⟩⟩⟩
 have u0:=ay.up (o:= .lst [.int 1,.int 0,.int 0]) g0
 have u1:=ay.up (o:= .lst [.int 0,.int 1,.int 0]) g1
 have u2:=ay.up (o:= .lst [.int 0,.int 0,.int 1]) g2
 have u3:=ay.up (o:= .lst [.ref p0,.ref p1,.ref p2]) hD
 have T:Tab _ D [p0,p1,p2] (pL 1):=iy _ au (u3 _ _ (u2 _ _ (u1 _ _ au))) (u3 _ _ (u2 _ _ au)) (u3 _ _ au)
 have us:=u0.trans (u1.trans (u2.trans u3))
 obtain⟨fD,fb,nD⟩:=Ax g0 g1 g2 hD
 have mm:0<most+1:=by omega
 refine⟨_,rfl,_,rfl,_,_,rfl,rfl,_,_,rfl,rfl,mm,?_⟩
 refine⟨_,rfl,_,rfl,_,_,rfl,rfl,_,_,rfl,rfl,⟨mm,by omega⟩,?_⟩
 have n0:=Int.emod_nonneg big (show most+1≠0 by omega)
 have n1:=Int.emod_lt_of_pos big mm
 have ff:0<2*HS+1:=by omega
 refine⟨_,rfl,_,rfl,by omega,by omega,fR (n:=(big%(most+1)).toNat) (λk σ H'=> ∃(x:Int)(o5 o6 o7 o8:Option V)(bs:List Addr)(m:List (List Int)),σ=[some (.int x),some (.int most),some (.int HS),some (.ref D),some (.int (big%(most+1))),o5,o6,o7,o8]/\ay H H'/\Tab H' D bs m/\cB m/\Bd (15*k+1) m/\aA m=1/\(∀b∈bs,H b=none)/\D∉bs) ⟨_,_,_,_,_,_,_,rfl,us,T,cH _,λi j hi hj=> ?_,rfl,fb,nD⟩ (λk σ H1 hk h=> ?_) (λσ H1 h=> ?_)⟩
 ·rw[pL,bE _ hi hj]
  split<;>decide
 ·obtain⟨x,o5,o6,o7,o8,bs,m,rfl,s1,T1,CC,dm,LR,fb,nD⟩:=h
  refine⟨_,rfl,_,_,rfl,rfl,(by show(0:Int)<3;decide),?_⟩
  refine⟨_,rfl,_,_,rfl,rfl,_,rfl,_,_,rfl,rfl,⟨by decide,by decide⟩,_,_,rfl,rfl,(by show(0:Int)<2;decide),_,_,rfl,rfl,_,_,rfl,rfl,(by show(0:Int)<3;decide),?_⟩
  refine⟨_,rfl,_,_,rfl,rfl,⟨by decide,by decide⟩,_,rfl,_,_,rfl,rfl,.inl ⟨by decide,by decide⟩,_,_,rfl,rfl,_,_,rfl,rfl,ff,_,rfl,_,_,rfl,rfl,?_⟩
  obtain⟨i,ei,hi⟩:∃i:Nat,x%3=(i:Int)/\i<3:=⟨(x%3).toNat,by omega,by omega⟩
  obtain⟨j,ej,hj⟩:∃j:Nat,((i:Int)+1+x/3%2)%3=(j:Int)/\j<3:=⟨(((i:Int)+1+x/3%2)%3).toNat,by omega,by omega⟩
  have hij:i≠j:=by omega
  obtain⟨o,eo,ho⟩:∃o:Int,o=x/6%(2*HS+1) -HS/\o.natAbs<2^14:=⟨_,rfl,by have:=Int.emod_nonneg (x/6) (show 2*HS+1≠0 by omega);have:=Int.emod_lt_of_pos (x/6) ff;omega⟩
  simp only[ei,ej,<-eo]
  obtain⟨bi,x1,x2,x3⟩:=aX T1 CC hi
  obtain⟨bj,y1,y2,y3⟩:=aX T1 CC hj
  refine⟨_,rfl,_,rfl,D,_,_,_,rfl,rfl,aP.of T1.1,x1,_,rfl,_,rfl,D,_,_,_,rfl,rfl,aP.of T1.1,y1,bi,bj,_,_,rfl,aP.of x2,aP.of y2,λR hR=> ?_⟩
  have bk:∀s,s<3->(ent m i s+o*ent m j s).natAbs<2^(15*(k+1)+1):=λs hs=>aG (jx (aG (dm i s hi hs) (show 15*k+1<=14+(15*k+1)by omega)) (bT ho (dm j s hj hs))) (by omega)
  have VI:k<10:=by omega
  refine yS (aP.of x2) (aP.of y2) rfl (by show 3<=sizeLine;decide) hR (λu v=>match u,v with| .int i,.int j=> .int (i+o*j)|_,_=> .jc) (λn u v eu ev G Q' sm kk=> ?_) (λH2 s2 e2=> ?_)
  ·have hn:n<3:=(List.getElem?_eq_some_iff.mp eu).1
   rcases bC hn with rfl|rfl|rfl<;>cases eu<;>cases ev<;>exact⟨_,rfl,_,rfl,_,rfl,_,_,rfl,rfl,⟨aG ho (by decide),aG (dm j _ hj (by decide)) (by omega)⟩,_,_,rfl,rfl,kk⟩
  have nR:R≠D:=Ne.symm (cX T1.1 hR)
  have l3:bs.length=3:=by rw[<-T1.2.length,CC.1]
  refine⟨_,rfl,_,rfl,D,_,_,i,rfl,rfl,s2 _ _ T1.1,(by rw[List.length_map,l3];rcases bC hi with rfl|rfl|rfl<;>rfl),?_⟩
  refine⟨_,rfl,_,_,rfl,rfl,⟨by decide,by decide⟩,_,rfl,_,_,rfl,rfl,.inl ⟨by decide,by decide⟩,_,_,rfl,rfl,_,_,rfl,rfl,⟨ff,by omega⟩,?_⟩
  refine⟨_,_,_,_,_,bs.set i R,Ay m i (λs=>ent m i s+o*ent m j s),rfl,(s1.trans s2).upd fD,Ct (T1.same s2) CC hi e2 nR nD,cH _,λr s hr hs=> ?_,(IE m hi hj hij o).trans LR,λb hb=> ?_,λhb=> ?_⟩
  ·rw[cI m _ hr hs]
   split
   ·exact bk s hs
   ·exact aG (dm r s hr hs) (by omega)
  ·rcases List.mem_or_eq_of_mem_set hb with z|z
   ·exact fb b z
   ·rw[z];exact s1.none hR
  ·rcases List.mem_or_eq_of_mem_set hb with z|z
   ·exact nD z
   ·exact nR z.symm
 ·obtain⟨x,o5,o6,o7,o8,bs,m,rfl,s1,T1,CC,dm,LR,fb,nD⟩:=h
  have dm:Bd (15*most.toNat+1) m:=dm.mono (by omega)
  obtain⟨i,ei,hi⟩:∃i:Nat,x%3=(i:Int)/\i<3:=⟨(x%3).toNat,by omega,by omega⟩
  obtain⟨o,eo,ho⟩:∃o:Int,o=1-2*(x/3%2)/\(o=1∨o= -1):=⟨_,rfl,by omega⟩
  obtain⟨k,ek,hk⟩:∃k:Nat,x/6%3=(k:Int)/\k<3:=⟨(x/6%3).toNat,by omega,by omega⟩
  refine⟨_,rfl,_,_,rfl,rfl,(by show(0:Int)<3;decide),?_⟩
  simp only[ei]
  obtain⟨bi,x1,x2,x3⟩:=aX T1 CC hi
  refine⟨_,rfl,_,rfl,D,_,_,_,rfl,rfl,aP.of T1.1,x1,bi,rfl,⟨_,aP.of x2⟩,λR hR=> ?_⟩
  have bo:(1-2*(x/3%2)).natAbs<2^1:=by omega
  refine kT (jg (aP.of x2)) rfl hR (λs=>o*ent m i s) (λj y hj ey H2 Q2 s2 k2=> ?_) (λH2 s2 e2=> ?_)
  ·rw[eo]at k2
   rcases bC hj with rfl|rfl|rfl<;>cases ey<;>exact⟨_,rfl,_,_,rfl,rfl,⟨by decide,by decide⟩,_,_,rfl,rfl,(by show(0:Int)<2;decide),_,_,rfl,rfl,.inl ⟨by decide,by decide⟩,_,_,rfl,rfl,_,rfl,_,_,rfl,rfl,⟨aG bo (by decide),aG (dm i _ hi (by decide)) (by omega)⟩,k2 H2 (ay.refl _)⟩
  have nR:R≠D:=Ne.symm (cX T1.1 hR)
  have l3:bs.length=3:=by rw[<-T1.2.length,CC.1]
  refine⟨_,rfl,_,rfl,D,_,_,i,rfl,rfl,s2 _ _ T1.1,(by rw[List.length_map,l3];rcases bC hi with rfl|rfl|rfl<;>rfl),?_⟩
  have T2:=Ct (g:=λs=>o*ent m i s) (T1.same s2) CC hi e2 nR nD
  have s3:=(s1.trans s2).upd (o:= .lst ((bs.map V.ref).set i (.ref R))) fD
  have Vd:∀b∈bs.set i R,H b=none:=λb hb=>by
   rcases List.mem_or_eq_of_mem_set hb with z|z
   ·exact fb b z
   ·rw[z];exact s1.none hR
  have e3:((bs.map V.ref).set i (.ref R))=(bs.set i R).map V.ref:=by rw[List.map_set]
  refine⟨_,rfl,_,rfl,_,_,rfl,rfl,⟨by decide,by decide⟩,_,_,rfl,rfl,(by show(0:Int)<3;decide),_,rfl,D,_,rfl,aP.of au,λp hp=> ?_⟩
  refine⟨_,rfl,_,rfl,_,_,rfl,rfl,⟨by decide,by decide⟩,_,_,rfl,rfl,(by show(0:Int)<3;decide),_,rfl,D,_,rfl,aP.of ((ay.up hp) _ _ au),λp' iK=> ?_⟩
  have u1:=ay.up (o:= .lst (qd ((bs.map V.ref).set i (.ref R)) (some (x/6%3)) none)) hp
  have u2:=ay.up (o:= .lst (qd ((bs.map V.ref).set i (.ref R)) none (some (x/6%3)))) iK
  refine⟨p,p',_,_,rfl,rfl,u2 _ _ au,au,?_,λr hr=> ?_⟩
  ·have c1:=mh ((bs.map V.ref).set i (.ref R)) (some (x/6%3)) none
   have c2:=mh ((bs.map V.ref).set i (.ref R)) none (some (x/6%3))
   rw[List.length_set,List.length_map,l3]at c1 c2
   exact Nat.le_trans (Nat.add_le_add c1 c2) (by show 6<=sizeLine;decide)
  have u3:=ay.up (o:= .lst (qd ((bs.map V.ref).set i (.ref R)) (some (x/6%3)) none++qd ((bs.map V.ref).set i (.ref R)) none (some (x/6%3)))) hr
  obtain⟨bs',T3,m3,n3⟩:=II (r:=r) (k:=k) T2 (cH _) hk (u1.trans (u2.trans u3)) (u1.none (u2.none hr)) (by rw[<-e3,<-ek];exact au)
  have hd:aA (Az (Ay m i λs=>o*ent m i s) k)=o:=(IF _ hk).trans ((DG m hi o).trans (by rw[LR];omega))
  refine K0 (Az (Ay m i λs=>o*ent m i s) k) r bs' _ (cH _) (IJ λa c ha hc=> ?_) ?_ (s3.trans (u1.trans (u2.trans u3))) (s3.none (u1.none (u2.none hr))) (λb hb=>Vd b (m3 b hb)) n3 T3
  ·rw[cI m _ ha hc]
   split
   ·exact aG (bT (show o.natAbs<2^1 by omega) (dm i c hi hc)) (by omega)
   ·exact aG (dm a c ha hc) (by omega)
  ·rw[hd]
   exact ho
theorem x8(F:eZ K mg "_law_over" mP gz)(aO:mg "range"=none):cZ P w K mg base cP 1 "_law_over" gz qE:=by
 refine F.ok xN (λvs H Q E h=> ?_) (λf cdv A outer s H vs Q E hr h=> ?_)
 ·obtain⟨t1,b1,m1,rfl,h1,c1,q⟩:=h
  rfl
 obtain⟨t1,b1,m1,rfl,h1,c1,q⟩:=h
 have hu:=hr.units
 refine⟨_,(cK (aT (gk (N2:=["_law_table"]) (te:=(pG 1 (rq (cW (tC (.int 3)) jo)) (dJ 0) (gY (fY K) (gY (fY K) (bH 2) (bH 0)) (bH 1)))) rfl (cF rfl aO (af ah aj)) (by kernel_rfl) rfl (λ_ _ _=>by exact iM (gk (N2:=["_law_j","_law_table"]) (te:=(gY (fY K) (gY (fY K) (bH 2) (bH 0)) (bH 1))) rfl (cF rfl aO (af ah aj)) (by kernel_rfl) rfl (λ_ _ _=>by exact iM (aC ao (aC ao (pv 2) (pv 0) (λ_ _=>rfl)) (pv 1) (λ_ _=>rfl)))))))),?_⟩
 refine⟨3,rfl,by decide,by decide,λD hD=>pK (fy (n:=3)) rfl hD _ (λi x hi ex H1 Q1 s1 k1=> ?_) (λbs H1 s1 fr nD hT=>q D bs H1 s1 hD fr nD hT)⟩
 obtain⟨_,rfl⟩:=d7 ex
 refine⟨3,rfl,by decide,by decide,λD2 CH=>kT (fy (n:=3)) rfl CH (λj=>ent m1 j i) (λj x hj GK H2 Q2 s2 k2=> ?_) (λH2 s2 e2=>k1 D2 H2 CH s2 e2)⟩
 obtain⟨_,rfl⟩:=d7 GK
 have sm:=s1.trans s2
 obtain⟨b,row,e1,e2,e3⟩:=kR (h1.same sm) c1 hj hi
 exact⟨_,rfl,_,rfl,t1,_,_,_,rfl,rfl,aP.of (h1.same sm).1,e1,_,rfl,b,_,_,_,rfl,rfl,aP.of e2,e3,k2 H2 (ay.refl _)⟩
inductive sQ(K:PySem.W.Frag)(vs:List V)(H:Hp)(Q:VK)(E:XK):Prop
 |mk(a b:Addr)(x0 x1 x2 y0 y1 y2:Int)(_:vs=[.ref a,.ref b])(_:H a=some (.lst [.int x0,.int x1,.int x2]))(_:H b=some (.lst [.int y0,.int y1,.int y2]))(_:x0.natAbs<2^4096)(_:x1.natAbs<2^4096)(_:x2.natAbs<2^4096)(_:y0.natAbs<2^4096)(_:y1.natAbs<2^4096)(_:y2.natAbs<2^4096)(_:Q (.int (x0*y0+x1*y1+x2*y2)) H)
theorem vn(F:eZ K mg "_law_along" k9 gO):cZ P w K mg base cP 1 "_law_along" gO (sQ K):=by
 refine F.ok uW (λvs H Q E h=> ?_) (λf cdv A outer s H vs Q E hr h=> ?_)
 ·obtain⟨a,b,x0,x1,x2,y0,y1,y2,rfl,ha,hb,p0,p1,p2,r0,r1,r2,q⟩:=h
  rfl
 obtain⟨a,b,x0,x1,x2,y0,y1,y2,rfl,ha,hb,p0,p1,p2,r0,r1,r2,q⟩:=h
 have hu:=hr.units
 refine⟨_,(cK (aT (ai aR (ai aR (ai aB (aC ao (pv 0) ah (λ_ _=>rfl)) (aC ao (pv 1) ah (λ_ _=>rfl))) (ai aB (aC ao (pv 0) ah (λ_ _=>rfl)) (aC ao (pv 1) ah (λ_ _=>rfl)))) (ai aB (aC ao (pv 0) ah (λ_ _=>rfl)) (aC ao (pv 1) ah (λ_ _=>rfl)))))),?_⟩
 refine⟨_,rfl,a,_,_,_,rfl,rfl,aP.of ha,rfl,_,rfl,b,_,_,_,rfl,rfl,aP.of hb,rfl,_,_,rfl,rfl,⟨p0,r0⟩,?_⟩
 refine⟨_,rfl,a,_,_,_,rfl,rfl,aP.of ha,rfl,_,rfl,b,_,_,_,rfl,rfl,aP.of hb,rfl,_,_,rfl,rfl,⟨p1,r1⟩,_,_,rfl,rfl,?_⟩
 exact⟨_,rfl,a,_,_,_,rfl,rfl,aP.of ha,rfl,_,rfl,b,_,_,_,rfl,rfl,aP.of hb,rfl,_,_,rfl,rfl,⟨p2,r2⟩,_,_,rfl,rfl,q⟩
inductive CT(vs:List V)(H:Hp)(Q:VK)(E:XK):Prop
 |mk(t1:Addr)(b1:List Addr)(m1:List (List Int))(t2:Addr)(b2:List Addr)(m2:List (List Int))(_:vs=[.ref t1,.ref t2])(_:Tab H t1 b1 m1)(_:Tab H t2 b2 m2)(_:cB m1)(_:cB m2)(_:Bd 4096 m1)(_:Bd 4096 m2)(_:∀r bs H',ay H H'->H r=none->(∀b∈bs,H b=none) ->r∉bs->Tab H' r bs (iC m1 m2) ->Q (.ref r) H')
theorem rZ(F:eZ K mg "_law_product" jH fP)(gF:cZ P w K mg base cP 1 "_law_over" gz qE)(lI:cZ P w K mg base cP 1 "_law_along" gO (sQ K)):cZ P w K mg base cP 2 "_law_product" fP CT:=by
 refine F.ok lZ (λvs H Q E h=> ?_) (λf cdv A outer s H vs Q E hr h=> ?_)
 ·obtain⟨t1,b1,m1,t2,b2,m2,rfl,h1,h2,c1,c2,d1,d2,q⟩:=h
  rfl
 obtain⟨t1,b1,m1,t2,b2,m2,rfl,h1,h2,c1,c2,d1,d2,q⟩:=h
 have hu:=hr.units
 refine⟨_,(kU (@ak _ _ _ _ _ (aD (i:=2) lZ.nd rfl (Or.inr rfl) (aN gF hr rfl aM (af (pv 1) aj)))
  (@aI _ _ _ (aT (gk (N2:=["_law_one","_law_other","_law_over_here"]) (te:=(pG 1 (JG K (bH 3)) (dJ 0) (lY (sQ K) [] E0 (cW (bH 1) (cW (bH 0) jo))))) rfl (fQ (pv 0)) (by kernel_rfl) rfl (λ_ _ _=>by exact iM (gk (N2:=["_law_row","_law_one","_law_other","_law_over_here"]) (te:=(lY (sQ K) [] E0 (cW (bH 1) (cW (bH 0) jo)))) rfl (fQ (pv 3)) (by kernel_rfl) rfl (λ_ _ _=>by exact iM (aN lI hr rfl aM (af (pv 1) (af (pv 0) aj))))))))))),?_⟩
 refine⟨_,rfl,t2,b2,m2,rfl,h2,c2,λt bs H0 s0 ft fb nt hO=> ?_⟩
 have c0:cB (cQ m2):=cH _
 have l1:(b1.map V.ref).length=3:=by rw[List.length_map,<-h1.2.length,c1.1]
 have l2:(bs.map V.ref).length=3:=by rw[List.length_map,<-hO.2.length,c0.1]
 refine⟨_,rfl,t1,rfl,⟨_,aP.of (h1.same s0).1⟩,λD hD=>pK (jg (aP.of (h1.same s0).1)) l1 hD (λi j=>ent m1 i 0*ent m2 0 j+ent m1 i 1*ent m2 1 j+ent m1 i 2*ent m2 2 j) (λi x hi ex H1 Q1 s1 k1=> ?_) (λbs' H1 s1 fr nD hT=>q D bs' H1 (s0.trans s1) (s0.none hD) (λb hb=>s0.none (fr b hb)) nD hT)⟩
 obtain⟨b,e1,e2,_⟩:=aX ((h1.same s0).same s1) c1 hi
 have ex':x= .ref b:=by
  have q1:=fS ex
  rw[e1]at q1
  exact(Option.some.inj q1).symm
 subst ex'
 refine⟨_,rfl,t,rfl,⟨_,aP.of (hO.same s1).1⟩,λD2 CH=>kT (jg (aP.of (hO.same s1).1)) l2 CH (λj=>ent m1 i 0*ent m2 0 j+ent m1 i 1*ent m2 1 j+ent m1 i 2*ent m2 2 j) (λj x hj GK H2 Q2 s2 k2=> ?_) (λH2 s2 e2=>k1 D2 H2 CH s2 e2)⟩
 obtain⟨b',f1,f2,_⟩:=aX ((hO.same s1).same s2) c0 hj
 have ex':x= .ref b':=by
  have q1:=fS GK
  rw[f1]at q1
  exact(Option.some.inj q1).symm
 subst ex'
 rw[cQ,bE _ hj (by decide),bE _ hj (by decide),bE _ hj (by decide)]at f2
 exact⟨_,rfl,_,rfl,b,b',_,_,_,_,_,_,rfl,s2 _ _ e2,f2,d1 i 0 hi (by decide),d1 i 1 hi (by decide),d1 i 2 hi (by decide),d2 0 j (by decide) hj,d2 1 j (by decide) hj,d2 2 j (by decide) hj,k2 H2 (ay.refl _)⟩
inductive zO(vs:List V)(H:Hp)(Q:VK)(E:XK):Prop
 |mk(t:Addr)(bs:List Addr)(m:List (List Int))(a:Addr)(x:Nat->Int)(_:vs=[.ref t,.ref a])(_:Tab H t bs m)(_:cB m)(_:Bd 1000 m)(_:bf H a x)(_:∀i,i<3->(x i).natAbs<2^1000)(_:Q (.int (av m x x)) H)
theorem vp(F:eZ K mg "_law_worth" lz gS)(aO:mg "range"=none):cZ P w K mg base cP 1 "_law_worth" gS zO:=by
 refine F.ok gb (λvs H Q E h=> ?_) (λf cdv A outer s H vs Q E hr h=> ?_)
 ·obtain⟨t,bs,m,a,x,rfl,hT,bO,hB,hx,bx,q⟩:=h
  rfl
 obtain⟨t,bs,m,a,x,rfl,hT,bO,hB,hx,bx,q⟩:=h
 have hu:=hr.units
 refine⟨_,(kU (@ak _ _ _ _ _ (aD (i:=2) gb.nd rfl (Or.inl rfl) ah)
  (@ak _ _ _ _ _ (g6 PassesOwn.never rfl (cF rfl aO (af ah aj)) (aL (i:=3) gb.nd rfl (Or.inl rfl)) (cK (g6 PassesOwn.never rfl (cF rfl aO (af ah aj)) (aL (i:=4) gb.nd rfl (Or.inl rfl)) (cK (aD (i:=2) gb.nd rfl (Or.inl rfl) (ai aR (pv 2) (ai aB (ai aB (aC ao (pv 1) (pv 3) (λ_ _=>rfl)) (aC ao (aC ao (pv 0) (pv 3) (λ_ _=>rfl)) (pv 4) (λ_ _=>rfl))) (aC ao (pv 1) (pv 4) (λ_ _=>rfl)))))))))
  (@aI _ _ _ (aT (pv 2)))))),?_⟩
 refine⟨3,rfl,by decide,by decide,fR (n:=3) (λi σ H'=> ∃(oi oj:Option V),H=H'/\σ=[some (.ref t),some (.ref a),some (.int (preSum (pairF m x x) (i*3))),oi,oj]) ⟨_,_,rfl,rfl⟩ (λi σ H' hi h=> ?_) (λσ H' h=> ?_)⟩
 ·obtain⟨oi,oj,rfl,rfl⟩:=h
  refine⟨3,rfl,by decide,by decide,fR (n:=3) (λj σ H'=> ∃(oj:Option V),H=H'/\σ=[some (.ref t),some (.ref a),some (.int (preSum (pairF m x x) (i*3+j))),some (.int (0+i)),oj]) ⟨_,rfl,rfl⟩ (λj σ H' hj h=> ?_) (λσ H' h=> ?_)⟩
  ·obtain⟨oj,rfl,rfl⟩:=h
   have e1:(i*3+j)/3=i:=by omega
   have e2:(i*3+j)%3=j:=by omega
   obtain⟨c,row,f1,f2,f3⟩:=kR hT bO hi hj
   simp only[Int.zero_add]
   refine⟨_,rfl,_,rfl,_,rfl,a,_,_,_,rfl,rfl,aP.of hx,uU x hi,_,rfl,_,rfl,t,_,_,_,rfl,rfl,aP.of hT.1,f1,_,rfl,c,_,_,_,rfl,rfl,aP.of f2,f3,_,_,rfl,rfl,⟨aG (bx i hi) (by decide),aG (hB i j hi hj) (by decide)⟩,_,rfl,_,rfl,a,_,_,_,rfl,rfl,aP.of hx,uU x hj,_,_,rfl,rfl,⟨aG (bT (bx i hi) (hB i j hi hj)) (by decide),aG (bx j hj) (by decide)⟩,_,_,rfl,rfl,?_⟩
   refine⟨some (.int j),rfl,?_⟩
   have e:preSum (pairF m x x) (i*3+(j+1))=preSum (pairF m x x) (i*3+j)+x i*ent m i j*x j:=by
    show preSum (pairF m x x) (i*3+j)+pairF m x x (i*3+j)=_
    unfold pairF
    rw[e1,e2]
   rw[e]
   rfl
  ·obtain⟨oj,rfl,rfl⟩:=h
   exact⟨some (.int (0+i)),oj,rfl,by rw[Nat.succ_mul]⟩
 ·obtain⟨oi,oj,rfl,rfl⟩:=h
  exact⟨_,rfl,q⟩
inductive x9(vs:List V)(H:Hp)(Q:VK)(E:XK):Prop
 |mk(N:Int)(_:vs=[.int N])(_:0<=N)(_:N<2^62)(_:∀r:Int,0<=r->r*r<=N->N<(r+1)*(r+1) ->Q (.int r) H)
theorem yc(F:eZ K mg "_law_root" mR gC):cZ P w K mg base cP 1 "_law_root" gC x9:=by
 refine F.ok e7 (λvs H Q E h=> ?_) (λf cdv A outer s H vs Q E hr h=> ?_)
 ·obtain⟨N,rfl,N0,bN,q⟩:=h
  rfl
 obtain⟨N,rfl,N0,bN,q⟩:=h
 have hu:=hr.units
 refine⟨_,(kU (@ak _ _ _ _ _ (aD (i:=1) e7.nd rfl (Or.inl rfl) ah)
  (@ak _ _ _ _ _ (kg PassesOwn.never (bJ vG (ai bg (pv 1) (pv 1)) (pv 0) (b8 _)) (cK (aD (i:=1) e7.nd rfl (Or.inl rfl) (ai bg ah (pv 1)))))
  (@ak _ _ _ _ _ (aD (i:=2) e7.nd rfl (Or.inl rfl) ah)
  (@ak _ _ _ _ _ (kg PassesOwn.never (bJ nK (ai bK (pv 1) (pv 2)) ah (b8 _)) (kU (@ak _ _ _ _ _ (aD (i:=3) e7.nd rfl (Or.inl rfl) (ai bZ (ai aR (pv 2) (pv 1)) ah))
  (@aI _ _ _ (cY (bJ vG (ai bg (pv 3) (pv 3)) (pv 0) (b8 _)) (@aI _ _ _ (aD (i:=2) e7.nd rfl (Or.inl rfl) (pv 3))) (@aI _ _ _ (aD (i:=1) e7.nd rfl (Or.inl rfl) (pv 3))))))))
  (@aI _ _ _ (aT (pv 2)))))))),?_⟩
 refine l9 (λσ H'=>H'=H/\ ∃h:Int,σ=[some (.int N),some (.int h),none,none]/\1<=h/\h<=2^33) (λσ _=>match σ with| [_,some (.int h),_,_]=>(2^34-h).toNat|_=>0) ⟨rfl,_,rfl,by decide,by decide⟩ (λσ H' hh=> ?_) ?_
 rotate_left
 ·rintro σ H' Q Q' h ⟨v,e,v2,e',i,j,e1,e2,c,v3,e3,a,b,e4,e5,k,ek,kk⟩
  exact⟨v,e,v2,e',i,j,e1,e2,c,v3,e3,a,b,e4,e5,k,ek,h _ _ kk⟩
 obtain⟨rfl,h,rfl,h1,h2⟩:=hh
 refine⟨_,rfl,_,rfl,_,_,rfl,rfl,.inl ⟨by omega,by omega⟩,_,rfl,_,_,rfl,rfl,_,rfl,iI (λc=> ?_) (λc=> ?_)⟩
 ·have c:h*h<=N:=of_decide_eq_true c
  have h3:h<2^32:=by
   refine Classical.byContradiction λz=> ?_
   have:(2^32:Int)*2^32<=h*h:=Int.mul_le_mul (by omega) (by omega) (by decide) (by omega)
   omega
  refine⟨_,rfl,_,_,rfl,rfl,.inl ⟨by decide,by decide⟩,⟨rfl,_,rfl,by omega,by omega⟩,?_⟩
  show(2^34-2*h).toNat<(2^34-h).toNat
  omega
 have c:N<h*h:=by
  have:¬h*h<=N:=λz=>c (decide_eq_true z)
  omega
 refine l9 (λσ H2=>H2=H'/\ ∃(h l:Int)(o:Option V),σ=[some (.int N),some (.int h),some (.int l),o]/\0<=l/\l<h/\h<=2^33/\l*l<=N/\N<h*h) (λσ _=>match σ with| [_,some (.int h),some (.int l),_]=>(h-l).toNat|_=>0) ⟨rfl,_,_,_,rfl,by decide,by omega,h2,by omega,c⟩ (λσ H' hh=> ?_) ?_
 rotate_left
 ·rintro σ H' Q Q' h ⟨v,e,v2,e2,i,j,e3,e4,a,b,e5,e6,k,ek,kk⟩
  exact⟨v,e,v2,e2,i,j,e3,e4,a,b,e5,e6,k,ek,h _ _ kk⟩
 obtain⟨rfl,h,l,o,rfl,l0,lh,h2,lN,hN⟩:=hh
 refine⟨_,rfl,_,rfl,_,_,rfl,rfl,_,_,rfl,rfl,_,rfl,iI (λc=> ?_) (λc=> ?_)⟩
 ·have c:1<h-l:=of_decide_eq_true c
  refine⟨_,rfl,_,rfl,_,_,rfl,rfl,_,_,rfl,rfl,⟨by decide,by decide⟩,_,rfl,_,rfl,_,_,rfl,rfl,.inl ⟨by omega,by omega⟩,_,rfl,_,_,rfl,rfl,_,rfl,iI (λc2=> ?_) (λc2=> ?_)⟩
  ·have c2:(l+h)/2*((l+h)/2)<=N:=of_decide_eq_true c2
   refine⟨_,rfl,⟨rfl,_,_,_,rfl,by omega,by omega,h2,c2,hN⟩,?_⟩
   show(h- (l+h)/2).toNat<(h-l).toNat
   omega
  ·have c2:N<(l+h)/2*((l+h)/2):=by
    have:¬(l+h)/2*((l+h)/2)<=N:=λz=>c2 (decide_eq_true z)
    omega
   refine⟨_,rfl,⟨rfl,_,_,_,rfl,l0,by omega,by omega,lN,c2⟩,?_⟩
   show((l+h)/2-l).toNat<(h-l).toNat
   omega
 ·have c:¬1<h-l:=λz=>c (decide_eq_true z)
  have e:h=l+1:=by omega
  rw[e]at hN
  exact⟨_,rfl,q l l0 lN hN⟩
def EM(m:List (List Int)):Nat->Int
 |0=>ent m 1 1*ent m 2 2-ent m 1 2*ent m 1 2
 |1=>ent m 2 2*ent m 0 0-ent m 2 0*ent m 2 0
 |_=>ent m 0 0*ent m 1 1-ent m 0 1*ent m 0 1
inductive CU(vs:List V)(H:Hp)(Q:VK)(E:XK):Prop
 |mk(t:Addr)(bs:List Addr)(m:List (List Int))(n:Int)(k:Nat)(_:vs=[.ref t,.int n,.int (k:Int)])(_:Tab H t bs m)(_:cB m)(_:Bd 20 m)(_:0<aA m)(_:aA m<=401)(_:0<=n)(_:n<=600)(_:k<3)(_:0<=EM m k)(_:EM m k<2^40)(_:∀R:Int,0<=R->R*R<=2*n*EM m k/aA m->2*n*EM m k/aA m<(R+1)*(R+1) ->Q (.int R) H)
theorem vq(F:eZ K mg "_law_reach" ly gR)(fm:cZ P w K mg base cP 1 "_law_det" gq xZ)(gG:cZ P w K mg base cP 1 "_law_root" gC x9):cZ P w K mg base cP 2 "_law_reach" gR CU:=by
 refine F.ok j5 (λvs H Q E h=> ?_) (λf cdv A outer s H vs Q E hr h=> ?_)
 ·obtain⟨t,bs,m,n,k,rfl,hT,bO,hB,D0,D4,n0,n6,hk,p0,p1,q⟩:=h
  rfl
 obtain⟨t,bs,m,n,k,rfl,hT,bO,hB,D0,D4,n0,n6,hk,p0,p1,q⟩:=h
 have hu:=hr.units
 refine⟨_,(kU (@ak _ _ _ _ _ (qc (i:=3) (j:=4) rfl j5.nd rfl rfl (by decide) rfl rfl (af (ai cS (ai aR (pv 2) ah) ah) (af (ai cS (ai aR (pv 2) ah) ah) aj)) rfl)
  (@ak _ _ _ _ _ (aD (i:=5) j5.nd rfl (Or.inl rfl) (ai bK (ai bg (aC ao (aC ao (pv 0) (pv 3) (λ_ _=>rfl)) (pv 3) (λ_ _=>rfl)) (aC ao (aC ao (pv 0) (pv 4) (λ_ _=>rfl)) (pv 4) (λ_ _=>rfl))) (ai bg (aC ao (aC ao (pv 0) (pv 3) (λ_ _=>rfl)) (pv 4) (λ_ _=>rfl)) (aC ao (aC ao (pv 0) (pv 3) (λ_ _=>rfl)) (pv 4) (λ_ _=>rfl)))))
  (@aI _ _ _ (aT (aN gG hr rfl aM (af (ai bZ (ai bg (ai bg ah (pv 1)) (pv 5)) (aN fm hr rfl aM (af (pv 0) aj))) aj))))))),?_⟩
 obtain⟨c0,x1,x2,_⟩:=aX hT bO (i:=0) (by decide)
 obtain⟨c1,y1,y2,_⟩:=aX hT bO (i:=1) (by decide)
 obtain⟨c2,w1,w2,_⟩:=aX hT bO (i:=2) (by decide)
 have b:∀i j,i<3->j<3->(ent m i j).natAbs<2^20:=λi j hi hj=>hB i j hi hj
 have LS:=b 0 0 (by decide) (by decide)
 have LU:=b 1 1 (by decide) (by decide)
 have CL:=b 2 2 (by decide) (by decide)
 have LV:=b 1 2 (by decide) (by decide)
 have VJ:=b 2 0 (by decide) (by decide)
 have np:0<=n*EM m k/\n*EM m k<=600*2^40:=⟨Int.mul_nonneg n0 p0,Int.mul_le_mul n6 (Int.le_of_lt p1) p0 (by decide)⟩
 have en:2*n*EM m k=2*(n*EM m k):=Int.mul_assoc _ _ _
 have X0:0<=2*n*EM m k/aA m:=Int.ediv_nonneg (by omega) (by omega)
 have X1:2*n*EM m k/aA m<2^62:=Int.lt_of_le_of_lt (Int.ediv_le_self _ (by omega)) (by omega)
 have LW:=b 0 1 (by decide) (by decide)
 have k2:k=0∨k=1∨k=2:=by omega
 rcases k2 with rfl|rfl|rfl
 ·refine⟨_,rfl,_,_,rfl,rfl,_,_,rfl,rfl,(by decide),_,rfl,_,_,rfl,rfl,_,_,rfl,rfl,(by decide),_,_,rfl,?_⟩
  refine⟨_,rfl,_,rfl,t,_,_,_,rfl,rfl,aP.of hT.1,y1,_,rfl,c1,_,_,_,rfl,rfl,aP.of y2,rfl,_,rfl,_,rfl,t,_,_,_,rfl,rfl,aP.of hT.1,w1,_,rfl,c2,_,_,_,rfl,rfl,aP.of w2,rfl,_,_,rfl,rfl,.inl ⟨by omega,by omega⟩,_,rfl,_,rfl,t,_,_,_,rfl,rfl,aP.of hT.1,y1,_,rfl,c1,_,_,_,rfl,rfl,aP.of y2,rfl,_,rfl,_,rfl,t,_,_,_,rfl,rfl,aP.of hT.1,y1,_,rfl,c1,_,_,_,rfl,rfl,aP.of y2,rfl,_,_,rfl,rfl,.inl ⟨by omega,by omega⟩,_,_,rfl,rfl,?_⟩
  refine⟨_,rfl,_,_,rfl,rfl,.inl ⟨by decide,by decide⟩,_,rfl,_,_,rfl,rfl,.inl ⟨by omega,by omega⟩,_,rfl,t,bs,m,rfl,hT,bO,hB.mono (by decide),_,_,rfl,rfl,⟨D0,by omega⟩,_,rfl,X0,X1,λw h0 h1 h2=>q w h0 h1 h2⟩
 ·refine⟨_,rfl,_,_,rfl,rfl,_,_,rfl,rfl,(by decide),_,rfl,_,_,rfl,rfl,_,_,rfl,rfl,(by decide),_,_,rfl,?_⟩
  refine⟨_,rfl,_,rfl,t,_,_,_,rfl,rfl,aP.of hT.1,w1,_,rfl,c2,_,_,_,rfl,rfl,aP.of w2,rfl,_,rfl,_,rfl,t,_,_,_,rfl,rfl,aP.of hT.1,x1,_,rfl,c0,_,_,_,rfl,rfl,aP.of x2,rfl,_,_,rfl,rfl,.inl ⟨by omega,by omega⟩,_,rfl,_,rfl,t,_,_,_,rfl,rfl,aP.of hT.1,w1,_,rfl,c2,_,_,_,rfl,rfl,aP.of w2,rfl,_,rfl,_,rfl,t,_,_,_,rfl,rfl,aP.of hT.1,w1,_,rfl,c2,_,_,_,rfl,rfl,aP.of w2,rfl,_,_,rfl,rfl,.inl ⟨by omega,by omega⟩,_,_,rfl,rfl,?_⟩
  refine⟨_,rfl,_,_,rfl,rfl,.inl ⟨by decide,by decide⟩,_,rfl,_,_,rfl,rfl,.inl ⟨by omega,by omega⟩,_,rfl,t,bs,m,rfl,hT,bO,hB.mono (by decide),_,_,rfl,rfl,⟨D0,by omega⟩,_,rfl,X0,X1,λw h0 h1 h2=>q w h0 h1 h2⟩
 ·refine⟨_,rfl,_,_,rfl,rfl,_,_,rfl,rfl,(by decide),_,rfl,_,_,rfl,rfl,_,_,rfl,rfl,(by decide),_,_,rfl,?_⟩
  refine⟨_,rfl,_,rfl,t,_,_,_,rfl,rfl,aP.of hT.1,x1,_,rfl,c0,_,_,_,rfl,rfl,aP.of x2,rfl,_,rfl,_,rfl,t,_,_,_,rfl,rfl,aP.of hT.1,y1,_,rfl,c1,_,_,_,rfl,rfl,aP.of y2,rfl,_,_,rfl,rfl,.inl ⟨by omega,by omega⟩,_,rfl,_,rfl,t,_,_,_,rfl,rfl,aP.of hT.1,x1,_,rfl,c0,_,_,_,rfl,rfl,aP.of x2,rfl,_,rfl,_,rfl,t,_,_,_,rfl,rfl,aP.of hT.1,x1,_,rfl,c0,_,_,_,rfl,rfl,aP.of x2,rfl,_,_,rfl,rfl,.inl ⟨by omega,by omega⟩,_,_,rfl,rfl,?_⟩
  refine⟨_,rfl,_,_,rfl,rfl,.inl ⟨by decide,by decide⟩,_,rfl,_,_,rfl,rfl,.inl ⟨by omega,by omega⟩,_,rfl,t,bs,m,rfl,hT,bO,hB.mono (by decide),_,_,rfl,rfl,⟨D0,by omega⟩,_,rfl,X0,X1,λw h0 h1 h2=>q w h0 h1 h2⟩
inductive CV(vs:List V)(H:Hp)(Q:VK)(E:XK):Prop
 |mk(t:Addr)(bs:List Addr)(m:List (List Int))(n:Int)(_:vs=[.ref t,.int n])(_:Tab H t bs m)(_:cB m)(_:cj m)(_:b7 m=true)(_:∀i j,i<3->j<3->(ent m i j).natAbs<=230)(_:ent m 0 0<=16)(_:ent m 1 1<=30)(_:aA m<=401)(_:0<=n)(_:n<=600)(_:∀(r:Addr) (as:List Addr) (H':Hp),ay H H'->H r=none->(∀b∈as,H b=none) ->H' r=some (.lst (as.map V.ref)) ->eX H' as->eN m n (rws H' as) ->(rws H' as).Pairwise (λr s=>xT r<=xT s) ->Q (.ref r) H')
theorem yd(F:eZ K mg "_law_rows" mS iF)(aO:mg "range"=none)(fC:mg "sorted"=none)(pX:mg "int"=none)(jk:cZ P w K mg base cP 3 "_law_reach" gR CU)(gG:cZ P w K mg base cP 3 "_law_root" gC x9):cZ P w K mg base cP 4 "_law_rows" iF CV:=by
 refine F.ok cR (λvs H Q E h=> ?_) (λf cdv A outer s H vs Q E hr h=> ?_)
 ·obtain⟨t,bs,m,n,rfl,hT,bO,ev,ab,hB,f0,f1,D4,n0,n6,q⟩:=h
  rfl
 obtain⟨t,bs,m,n,rfl,hT,bO,ev,ab,hB,f0,f1,D4,n0,n6,q⟩:=h
 have hu:=hr.units
 refine⟨_,(kU (@ak _ _ _ _ _ (aD (i:=2) cR.nd rfl (Or.inl rfl) (dG aj))
  (@ak _ _ _ _ _ (qc (i:=3) (j:=4) rfl cR.nd rfl rfl (by decide) rfl rfl (af (aN jk hr rfl aM (af (pv 0) (af (pv 1) (af ah aj)))) (af (aN jk hr rfl aM (af (pv 0) (af (pv 1) (af ah aj)))) aj)) rfl)
  (@ak _ _ _ _ _ (g6 PassesOwn.never rfl (ni rfl aO (af (ai bK ah (pv 3)) (af (ai aR (pv 3) ah) aj))) (aL (i:=5) cR.nd rfl (Or.inl rfl)) (cK (g6 PassesOwn.never rfl (ni rfl aO (af (ai bK ah (pv 4)) (af (ai aR (pv 4) ah) aj))) (aL (i:=6) cR.nd rfl (Or.inl rfl)) (kU (@ak _ _ _ _ _ (aD (i:=7) cR.nd rfl (Or.inl rfl) (ai bZ (ai aR (ai bg (ai bg (aC ao (aC ao (pv 0) ah (λ_ _=>rfl)) ah (λ_ _=>rfl)) (pv 5)) (pv 5)) (ai bg (ai bg (aC ao (aC ao (pv 0) ah (λ_ _=>rfl)) ah (λ_ _=>rfl)) (pv 6)) (pv 6))) ah))
  (@ak _ _ _ _ _ (aD (i:=7) cR.nd rfl (Or.inl rfl) (ai aR (pv 7) (ai bg (ai bg (aC ao (aC ao (pv 0) ah (λ_ _=>rfl)) ah (λ_ _=>rfl)) (pv 5)) (pv 6))))
  (@ak _ _ _ _ _ (aD (i:=8) cR.nd rfl (Or.inl rfl) (ai aR (ai bg (aC ao (aC ao (pv 0) ah (λ_ _=>rfl)) ah (λ_ _=>rfl)) (pv 5)) (ai bg (aC ao (aC ao (pv 0) ah (λ_ _=>rfl)) ah (λ_ _=>rfl)) (pv 6))))
  (@ak _ _ _ _ _ (aD (i:=9) cR.nd rfl (Or.inl rfl) (ai bK (ai bg (pv 8) (pv 8)) (ai bg (ai bg ah (aC ao (aC ao (pv 0) ah (λ_ _=>rfl)) ah (λ_ _=>rfl))) (ai bK (pv 7) (pv 1)))))
  (@aI _ _ _ (cY (bJ Ca (pv 9) ah (b8 _)) (@ak _ _ _ _ _ (aD (i:=10) cR.nd rfl (Or.inl rfl) (aN gG hr rfl aM (af (pv 9) aj)))
  (@aI _ _ _ (cY (bJ yF (ai bg (pv 10) (pv 10)) (pv 9) (b8 _)) (@aI _ _ _ (g6 PassesOwn.never rfl (fQ (sX w9 (dG (af (ai bK (ai bK ah (pv 8)) (pv 10)) (af (ai bK (pv 10) (pv 8)) aj))) wY (wZ (ai aR ah (vM Dj rfl pX PyProof.Rows.boot_int (af (sI nK (pv 10) ah (b8 _)) aj)))))) (aL (i:=11) cR.nd rfl (Or.inl rfl)) (cK (cY (bJ yF (ai cS (pv 11) (aC ao (aC ao (pv 0) ah (λ_ _=>rfl)) ah (λ_ _=>rfl))) ah (b8 _)) (@aI _ _ _ (kM (Fi PySem.F.plainAttrs_list PySem.F.slot_list_append PySem.F.type_list_append nj (pv 2) (af (dG (af (pv 5) (af (pv 6) (af (ai bZ (pv 11) (aC ao (aC ao (pv 0) ah (λ_ _=>rfl)) ah (λ_ _=>rfl))) aj)))) aj)))) dO)))) dO))) dO))))))))))
  (@aI _ _ _ (aT (ck (mD (eU.xG hr)) rfl fC PyProof.Rows.boot_sorted (af (pv 2) aj)))))))),?_⟩
 obtain⟨c0,x1,x2,_⟩:=aX hT bO (i:=0) (by decide)
 obtain⟨c1,y1,y2,_⟩:=aX hT bO (i:=1) (by decide)
 obtain⟨c2,w1,w2,_⟩:=aX hT bO (i:=2) (by decide)
 obtain⟨g0,g1,g2,D0,p0,p1,p2⟩:=El ev bO ab hB f0 f1
 obtain⟨Sw,QK,QL⟩:=ev.sym
 have LS:=hB 0 0 (by decide) (by decide)
 have LW:=hB 0 1 (by decide) (by decide)
 have MI:=hB 0 2 (by decide) (by decide)
 have LU:=hB 1 1 (by decide) (by decide)
 have LV:=hB 1 2 (by decide) (by decide)
 have CL:=hB 2 2 (by decide) (by decide)
 have Oo:Bd 20 m:=λi j hi hj=>Nat.lt_of_le_of_lt (hB i j hi hj) (by decide)
 have e0:EM m 0=fZ m 0 0:=by
  show ent m 1 1*ent m 2 2-ent m 1 2*ent m 1 2=ent m 1 1*ent m 2 2-ent m 1 2*ent m 2 1
  rw[QL]
 have e1:EM m 1=fZ m 1 1:=by
  show ent m 2 2*ent m 0 0-ent m 2 0*ent m 2 0=ent m 2 2*ent m 0 0-ent m 2 0*ent m 0 2
  rw[QK]
 refine⟨by decide,λD hD=> ?_⟩
 have s0:ay H (upd H D (.lst [])):=ay.up hD
 refine⟨_,rfl,_,rfl,t,bs,m,n,0,rfl,hT.same s0,bO,Oo,D0,D4,n0,n6,by decide,(by omega),(by omega),λR0 z0 r1 r2=> ?_⟩
 refine⟨_,rfl,_,rfl,t,bs,m,n,1,rfl,hT.same s0,bO,Oo,D0,D4,n0,n6,by decide,(by omega),(by omega),λR1 z1 r3 r4=> ?_⟩
 rw[e0]at r1 r2
 rw[e1]at r3 r4
 have L0:R0<2880:=rL D0 n0 n6 p0.1 (by omega) (by decide) r1
 have L1:R1<2102:=rL D0 n0 n6 p1.1 (by omega) (by decide) r3
 have SK:∀v:Nat->Int,cg m v=n-> -R0<=v 0/\v 0<=R0:=λv e=>wG D0 (qN ev bO ab e (by decide)) z0 r1 r2
 have in1:∀v:Nat->Int,cg m v=n-> -R1<=v 1/\v 1<=R1:=λv e=>wG D0 (qN ev bO ab e (by decide)) z1 r3 r4
 have SM:∀v:Nat->Int,cg m v=n-> -758<=v 2/\v 2<=758:=λv e=>Em (B:=758) D0 n0 n6 p2.1 (qN ev bO ab e (by decide)) (by omega)
 have RO:=xV ev g2 z0 z1 SK in1
 have few:(CO m n R0 R1).length<16000000:=by
  have:=GX ev g0 z1 (show(0:Int)<=758 by decide) in1 SM RO
  have k1:(2*R1+1).toNat<=4203:=by omega
  have k2:(2*(758:Int)+1).toNat=1517:=rfl
  rw[k2]at this
  have:=Nat.mul_le_mul_right 1517 k1
  omega
 refine⟨_,_,rfl,?_⟩
 refine⟨_,rfl,_,_,rfl,rfl,_,rfl,_,_,rfl,rfl,_,_,rfl,⟨by omega,by omega,by omega,by omega⟩,?_⟩
 refine fR (λi σ H'=> ∃o5 o6 o7 o8 o9 xX CW as,σ=[some (.ref t),some (.int n),some (.ref D),some (.int R0),some (.int R1),o5,o6,o7,o8,o9,xX,CW]/\SD D (upd H D (.lst [])) H'/\H' D=some (.lst (as.map V.ref))/\eX H' as/\(∀b∈as,H b=none)/\rws H' as=((dM R0).take i).flatMap λx=>(dM R1).flatMap λy=>cV m n x y) ⟨_,_,_,_,_,_,_,[],rfl,SD.refl,au,λ_ h=>(nomatch h),λ_ h=>(nomatch h),rfl⟩ (λi σ H1 hi hh=> ?_) (λσ H1 hh=> ?_)
 ·obtain⟨o5,o6,o7,o8,o9,xX,CW,as,rfl,sD,eD,ok,fr,er⟩:=hh
  obtain⟨x,ex⟩:∃x:Int,x=(i:Int) -R0:=⟨_,rfl⟩
  have ex':0-R0+(i:Int)=x:=by omega
  rw[ex']
  have gx:(dM R0)[i]?=some x:=by rw[ex];exact wF (by omega)
  have bx:x.natAbs<=2880:=by omega
  have tx:=mX (λx=>(dM R1).flatMap λy=>cV m n x y) gx
  refine⟨_,rfl,_,_,rfl,rfl,_,rfl,_,_,rfl,rfl,_,_,rfl,⟨by omega,by omega,by omega,by omega⟩,?_⟩
  refine fR (λj σ H'=> ∃o6 o7 o8 o9 xX CW as,σ=[some (.ref t),some (.int n),some (.ref D),some (.int R0),some (.int R1),some (.int x),o6,o7,o8,o9,xX,CW]/\SD D (upd H D (.lst [])) H'/\H' D=some (.lst (as.map V.ref))/\eX H' as/\(∀b∈as,H b=none)/\rws H' as=(((dM R0).take i).flatMap λx=>(dM R1).flatMap λy=>cV m n x y)++((dM R1).take j).flatMap λy=>cV m n x y) ⟨_,_,_,_,_,_,as,rfl,sD,eD,ok,fr,by rw[er];simp⟩ (λj σ H2 hj hh=> ?_) (λσ H2 hh=> ?_)
  ·clear sD eD ok fr er
   obtain⟨o6,o7,o8,o9,xX,CW,as,rfl,sD,eD,ok,fr,er⟩:=hh
   obtain⟨y,ey⟩:∃y:Int,y=(j:Int) -R1:=⟨_,rfl⟩
   have QI:0-R1+(j:Int)=y:=by omega
   rw[QI]
   have gy:(dM R1)[j]?=some y:=by rw[ey];exact wF (by omega)
   have bY:y.natAbs<=2880:=by omega
   have ty:=mX (λy=>cV m n x y) gy
   have sm:ay H H2:=λa o e=>sD a o (λz=>by rw[z,hD]at e;cases e) (s0 _ _ e)
   have hT2:=hT.same sm
   have Ve:ent m 2 2<1073741824:=by clear bx bY;omega
   have X:=Ju bx (by decide)
   have Y:=Ju bY (by decide)
   have MX:=Ju (zH hB bx bY) (by decide)
   have ns:=Hf hB bx bY n0 n6
   have C2:=Ju (show(2*ent m 2 2).natAbs<=460 by clear ns MX X Y;omega) (by decide)
   show uO _ _ _ _ _
   with_reducible apply jQ
   ·exact λR hR=>⟨_,rfl,t,_,_,_,rfl,rfl,aP.of hT2.1,x1,c0,_,_,_,rfl,rfl,aP.of (sm _ _ x2),rfl,_,rfl,_,_,rfl,rfl,.inr X,_,rfl,_,_,rfl,rfl,.inr X,_,rfl,t,_,_,_,rfl,rfl,aP.of hT2.1,y1,c1,_,_,_,rfl,rfl,aP.of (sm _ _ y2),rfl,_,rfl,_,_,rfl,rfl,.inr Y,_,rfl,_,_,rfl,rfl,.inr Y,_,_,rfl,rfl,_,_,rfl,rfl,⟨by decide,by decide⟩,hR⟩
   show uO _ _ _ _ _
   with_reducible apply jQ (v:= .int (Kf m x y))
   ·exact λR hR=>⟨_,rfl,_,rfl,t,_,_,_,rfl,rfl,aP.of hT2.1,x1,c0,_,_,_,rfl,rfl,aP.of (sm _ _ x2),rfl,_,rfl,_,_,rfl,rfl,.inr X,_,rfl,_,_,rfl,rfl,.inr Y,_,_,rfl,rfl,hR⟩
   show uO _ _ _ _ _
   with_reducible apply jQ (v:= .int (nJ m x y))
   ·exact λR hR=>⟨_,rfl,t,_,_,_,rfl,rfl,aP.of hT2.1,x1,c0,_,_,_,rfl,rfl,aP.of (sm _ _ x2),rfl,_,rfl,_,_,rfl,rfl,.inr X,_,rfl,t,_,_,_,rfl,rfl,aP.of hT2.1,y1,c1,_,_,_,rfl,rfl,aP.of (sm _ _ y2),rfl,_,rfl,_,_,rfl,rfl,.inr Y,_,_,rfl,rfl,hR⟩
   show uO _ _ _ _ _
   with_reducible apply jQ (v:= .int (sP m n x y))
   ·exact λR hR=>⟨_,rfl,_,rfl,_,_,rfl,rfl,.inl MX,_,rfl,t,_,_,_,rfl,rfl,aP.of hT2.1,w1,c2,_,_,_,rfl,rfl,aP.of (sm _ _ w2),rfl,_,_,rfl,rfl,.inl ⟨by decide,by decide⟩,_,rfl,_,rfl,_,_,rfl,rfl,_,_,rfl,rfl,.inl C2,_,_,rfl,rfl,hR⟩
   have stay:∀{o7 o8 o9 xX CW:Option V},cV m n x y=[] -> ∃Vf Vg Vh Vi QZ Ra as,[some (V.ref t),some (.int n),some (.ref D),some (.int R0),some (.int R1),some (.int x),some (.int y),o7,o8,o9,xX,CW]=[some (.ref t),some (.int n),some (.ref D),some (.int R0),some (.int R1),some (.int x),Vf,Vg,Vh,Vi,QZ,Ra]/\SD D (upd H D (.lst [])) H2/\H2 D=some (.lst (as.map V.ref))/\eX H2 as/\(∀b∈as,H b=none)/\rws H2 as=(((dM R0).take i).flatMap λx=>(dM R1).flatMap λy=>cV m n x y)++((dM R1).take (j+1)).flatMap λy=>cV m n x y:=λz=>⟨_,_,_,_,_,_,as,rfl,sD,eD,ok,fr,by rw[ty,z,List.append_nil];exact er⟩
   refine⟨_,rfl,_,_,rfl,rfl,_,rfl,iI (λc=> ?_) (λc=> ?_)⟩
   ·have q0:0<=sP m n x y:=of_decide_eq_true c
    obtain⟨v0,v1,v2⟩:=kI q0
    refine⟨_,rfl,_,rfl,q0,(by show sP m n x y<2^62;clear X Y MX C2 bx bY LS LW MI LU LV CL;omega),λw h0 h1 h2=> ?_⟩
    obtain rfl:=nG h0 h1 h2
    have wb: -(2^64)<gf (sP m n x y)/\gf (sP m n x y)<2^64:=by
     refine⟨by clear X Y MX C2 bx bY LS LW MI LU LV CL ns;omega,Classical.byContradiction λc=> ?_⟩
     have:(2^64:Int)*2^64<=gf (sP m n x y)*gf (sP m n x y):=Int.mul_le_mul (by clear X Y MX C2 bx bY LS LW MI LU LV CL ns;omega) (by clear X Y MX C2 bx bY LS LW MI LU LV CL ns;omega) (by decide) v0
     clear X Y MX C2 bx bY LS LW MI LU LV CL
     omega
    refine⟨_,rfl,_,rfl,_,_,rfl,rfl,.inl wb,_,rfl,rfl,_,rfl,iI (λcq=> ?_) (λcq=> ?_)⟩
    ·have qe:gf (sP m n x y)*gf (sP m n x y)=sP m n x y:=V.int.inj (of_decide_eq_true cq)
     have el:cV m n x y=dR m x y (gW (gf (sP m n x y)) (nJ m x y)):=by
      unfold cV
      rw[if_pos ⟨q0,qe⟩]
     generalize gf (sP m n x y)=w at v0 v1 v2 wb qe el h0 h1 h2 ⊢
     have Rb:qd [V.int (0-nJ m x y-w),.int (w-nJ m x y)] none (some (1+(if decide (0<w)=true then 1 else 0)))=(gW w (nJ m x y)).map V.int:=by
      unfold gW
      by_cases z:0<w
      ·rw[if_pos (decide_eq_true z),if_pos z];rfl
      ·rw[if_neg (λy=>z (of_decide_eq_true y)),if_neg z];rfl
     refine⟨_,rfl,_,_,rfl,rfl,_,rfl,_,_,rfl,rfl,_,rfl,_,rfl,_,_,rfl,rfl,(by show 2<=sizeLine;decide),λp hp=>⟨_,rfl,_,_,rfl,rfl,.inr ⟨_,rfl,_,_,rfl,rfl,_,rfl,p,_,rfl,aP.of au,λS hS=>⟨S,rfl,⟨_,aP.of au⟩,?_⟩⟩⟩⟩
     have LK:ay H2 (upd (upd H2 p (.lst [V.int (0-nJ m x y-w),.int (w-nJ m x y)])) S (.lst (qd [V.int (0-nJ m x y-w),.int (w-nJ m x y)] none (some (1+(if decide (0<w)=true then 1 else 0)))))):=(ay.up hp).trans (ay.up hS)
     obtain⟨H4,SN⟩:∃J,J=upd (upd H2 p (.lst [V.int (0-nJ m x y-w),.int (w-nJ m x y)])) S (.lst (qd [V.int (0-nJ m x y-w),.int (w-nJ m x y)] none (some (1+(if decide (0<w)=true then 1 else 0))))):=⟨_,rfl⟩
     have eS:H4 S=some (.lst ((gW w (nJ m x y)).map V.int)):=by rw[SN,<-Rb];exact au
     have QM:S≠D:=λz=>by rw[z,(ay.up hp) _ _ eD]at hS;cases hS
     rw[<-SN]at LK ⊢
     obtain⟨QN,QO⟩:=ok.same LK
     refine pB (xs:=(gW w (nJ m x y)).map V.int) (λk σ H5=> ∃CW as',σ=[some (.ref t),some (.int n),some (.ref D),some (.int R0),some (.int R1),some (.int x),some (.int y),some (.int (Kf m x y)),some (.int (nJ m x y)),some (.int (sP m n x y)),some (.int w),CW]/\SD D H4 H5/\H5 D=some (.lst (as'.map V.ref))/\eX H5 as'/\(∀b∈as',H b=none)/\rws H5 as'=rws H2 as++dR m x y ((gW w (nJ m x y)).take k)) ⟨_,as,rfl,SD.refl,LK _ _ eD,QN,fr,by rw[QO];simp[dR]⟩ (λk σ H5 hk hh=> ?_) (λk v σ H5 hv hh=> ?_) (λσ H5 hh=> ?_)
     ·obtain⟨CW,as',rfl,LX,Kn,EL,Ib,MJ⟩:=hh
      exact aP.of (LX _ _ QM eS)
     ·obtain⟨CW,as',rfl,LX,Kn,EL,Ib,MJ⟩:=hh
      obtain⟨k',rfl,hk⟩:∃k',v= .int k'/\(gW w (nJ m x y))[k]?=some k':=by
       rw[List.getElem?_map]at hv
       obtain⟨k',e,rfl⟩:=Option.map_eq_some_iff.mp hv
       exact⟨k',rfl,e⟩
      have tk:dR m x y ((gW w (nJ m x y)).take (k+1))=dR m x y ((gW w (nJ m x y)).take k)++dR m x y [k']:=by
       rw[List.take_add_one,hk]
       simp[dR]
      have OT:ay H H5:=λa o e=>LX a o (λz=>by rw[z,hD]at e;cases e) (LK _ _ (sm _ _ e))
      have SO:=hT.same OT
      refine⟨_,rfl,_,rfl,t,_,_,_,rfl,rfl,aP.of SO.1,w1,c2,_,_,_,rfl,rfl,aP.of (OT _ _ w2),rfl,_,_,rfl,rfl,g2,rfl,_,rfl,iI (λc3=> ?_) (λc3=> ?_)⟩
      ·have c4:k'%ent m 2 2=0:=V.int.inj (of_decide_eq_true c3)
       refine⟨_,rfl,.inl ⟨rfl,_,aP.of Kn⟩,?_⟩
       refine⟨_,rfl,_,rfl,_,rfl,_,rfl,t,_,_,_,rfl,rfl,aP.of SO.1,w1,c2,_,_,_,rfl,rfl,aP.of (OT _ _ w2),rfl,_,_,rfl,rfl,⟨g2,Ve⟩,(by show 3<=sizeLine;decide),λb hb=> ?_⟩
       have ll:as'.length<sizeLine:=by
        have e:as'.length=(rws H5 as').length:=(List.length_map _).symm
        have h1:(dR m x y ((gW w (nJ m x y)).take k)).length<=(cV m n x y).length:=by rw[el];exact j7 _ _ _
        have h2:=j7 (λy=>cV m n x y) (dM R1) (j+1)
        have h3:=j7 (λx=>(dM R1).flatMap λy=>cV m n x y) (dM R0) (i+1)
        rw[ty,List.length_append]at h2
        rw[tx,List.length_append]at h3
        have f:((dM R0).flatMap λx=>(dM R1).flatMap λy=>cV m n x y).length<16000000:=few
        rw[e,MJ,er,List.length_append,List.length_append]
        show _<16777216
        clear X Y MX C2 bx bY LS LW MI LU LV CL ns wb
        omega
       have bD:b≠D:=λz=>by rw[z,Kn]at hb;cases hb
       obtain⟨LP,HR⟩:=eX.push (o:= .lst (as'.map V.ref++ [V.ref b])) (x:=x) (y:=y) (z:=k'/ent m 2 2) EL Kn hb bD
       refine⟨D,as'.map V.ref,.ref b,rfl,rfl,by rw[aH (λz=>bD z.symm)];exact Kn,(by rw[List.length_map];exact ll),?_⟩
       refine⟨_,as'++ [b],rfl,(LX.trans (SD.of (ay.up hb))).upd,?_,LP,λc hc=> ?_,?_⟩
       ·rw[List.map_append]
        exact au
       ·rcases List.mem_append.mp hc with h|h
        ·exact Ib c h
        ·rw[List.mem_singleton.mp h];exact OT.none hb
       ·rw[HR,MJ,tk,List.append_assoc]
        simp[dR,c4]
      ·have c4:¬k'%ent m 2 2=0:=λz=>c3 (by rw[z];exact decide_eq_true rfl)
       refine⟨_,as',rfl,LX,Kn,EL,Ib,?_⟩
       rw[tk,MJ]
       simp[dR,c4]
     ·obtain⟨CW,as',rfl,LX,Kn,EL,Ib,MJ⟩:=hh
      refine⟨_,_,_,_,_,_,as',rfl,(sD.trans (SD.of LK)).trans LX,Kn,EL,Ib,?_⟩
      rw[MJ,er,ty,el,List.length_map,List.take_length,List.append_assoc]
    ·exact stay (by
      unfold cV
      rw[if_neg (λz=>cq (by rw[z.2];exact decide_eq_true rfl))])
   ·exact stay (by
     unfold cV
     rw[if_neg (λz=>c (decide_eq_true z.1))])
  ·obtain⟨o6,o7,o8,o9,xX,CW,as,rfl,sD,eD,ok,fr,er⟩:=hh
   refine⟨_,_,_,_,_,_,_,as,rfl,sD,eD,ok,fr,?_⟩
   have e:(R1+1- (0-R1)).toNat=(dM R1).length:=by rw[qM];omega
   rw[er,e,List.take_length,tx]
 ·obtain⟨o5,o6,o7,o8,o9,xX,CW,as,rfl,sD,eD,ok,fr,er⟩:=hh
  have e:(R0+1- (0-R0)).toNat=(dM R0).length:=by rw[qM];omega
  rw[e,List.take_length]at er
  have er:rws H1 as=CO m n R0 R1:=er
  rw[<-er]at RO
  have sm:=λ(v:Nat->Int)(z:cg m v=n)(i:Nat)(hi:i<3)=>(show(v i).natAbs<=2880 by
   have a:=SK v z
   have b:=in1 v z
   have c:=SM v z
   rcases bC hi with rfl|rfl|rfl<;>omega)
  have LY:∀r∈rws H1 as,lF r:=λr hr i hi=>by
   obtain⟨v,rfl⟩:=RO.2.1 r hr
   have k:=sm v ((RO.2.2 v).mp hr) i hi
   refine Nat.lt_of_le_of_lt (m:=2880) ?_ (Nat.lt_of_lt_of_le (m:=2^12) (by decide) (Nat.pow_le_pow_right (by decide) (by decide)))
   rcases bC hi with rfl|rfl|rfl<;>exact k
  refine⟨_,rfl,mT (aP.of eD) ok (λb hb=>LY _ (jR hb)) λbs' pb so l hl=> ?_⟩
  have EL:eX H1 bs':=λb hb=>ok b (pb.mem_iff.mp hb)
  obtain⟨LP,HR⟩:=EL.same (ay.up (o:= .lst (bs'.map V.ref)) hl)
  have s1:ay H (upd H1 l (.lst (bs'.map V.ref))):=λa o e=>(sD.trans (SD.of (ay.up hl))) a o (λz=>by rw[z,hD]at e;cases e) (s0 _ _ e)
  have s2:ay H H1:=λa o e=>sD a o (λz=>by rw[z,hD]at e;cases e) (s0 _ _ e)
  refine q l bs' _ s1 (s2.none hl) (λb hb=>fr b (pb.mem_iff.mp hb)) au LP ?_ (by rw[HR];exact so)
  rw[HR]
  exact RO.perm (uc pb)
inductive Ko(vs:List V)(H:Hp)(Q:VK)(E:XK):Prop
 |mk(r:Addr)(as:List Addr)(_:vs=[.ref r])(_:H r=some (.lst (as.map V.ref)))(_:eX H as)(_:∀H',ay H H'->Q (.bl true) H')
theorem qR(F:eZ K mg "_law_are_rows" iS fB)(bI:mg "isinstance"=none)(ir:mg "list"=none)(gc:mg "len"=none)(l5:mg "all"=none)(pX:mg "int"=none)(qF:mg "bool"=none):cZ P w K mg base cP 1 "_law_are_rows" fB Ko:=by
 refine F.ok kH (λvs H Q E h=> ?_) (λf cdv A outer s H vs Q E hr h=> ?_)
 ·obtain⟨r,as,rfl,er,ok,q⟩:=h
  rfl
 obtain⟨r,as,rfl,er,ok,q⟩:=h
 have hu:=hr.units
 refine⟨_,(kU (@ak _ _ _ _ _ (cY (kL (jn (ck eW rfl bI PyProof.Rows.boot_isinstance (af (pv 0) (af (jM (v:= .ty "list") rfl ir PyProof.Rows.boot_list rfl) aj))))) (@aI _ _ _ (aT lX)) dO)
  (@ak _ _ _ _ _ (g6 PassesOwn.never rfl (fQ (pv 0)) (aL (i:=1) kH.nd rfl (Or.inl rfl)) (kU (@ak _ _ _ _ _ (cY (PW.pt (rm (kL (jn (ck eW rfl bI PyProof.Rows.boot_isinstance (af (pv 1) (af (jM (v:= .ty "list") rfl ir PyProof.Rows.boot_list rfl) aj))))) (qb (bJ vF (ck dN rfl gc PySem.boot_len (af (pv 1) aj)) ah (b8 _))))) (@aI _ _ _ (aT lX)) dO)
  (@aI _ _ _ (cY (kL (jn (ck (uT rfl) rfl l5 PyProof.Rows.boot_all (af (gk (N2:=["_law_found","_law_row"]) (te:=(JC (Mt (Co K) (cW (bH 0) (cW (tC (.ty "int")) jo))) (JD (Mt (Co K) (cW (bH 0) (cW (tC (.ty "bool")) jo)))))) rfl (fQ (pv 1)) (by kernel_rfl) rfl (λ_ _ _=>by exact iM (wU (ck eW rfl bI PyProof.Rows.boot_isinstance (af (pv 0) (af (jM (v:= .ty "int") rfl pX PyProof.Rows.boot_int rfl) aj))) (wR (EU (ck eW rfl bI PyProof.Rows.boot_isinstance (af (pv 0) (af (jM (v:= .ty "bool") rfl qF PyProof.Rows.boot_bool rfl) aj)))))))) aj)))) (@aI _ _ _ (aT lX)) dO)))))
  (@aI _ _ _ (aT lX))))),?_⟩
 refine⟨_,rfl,_,_,_,_,rfl,.lst er,ko K "list",_,rfl,rS ?_⟩
 refine⟨_,rfl,r,rfl,⟨_,aP.of er⟩,pB (xs:=as.map V.ref) (λi σ H'=> ∃o,ay H H'/\σ=[some (.ref r),o]) ⟨_,ay.refl _,rfl⟩ (λi σ H' _ h=> ?_) (λi x σ H' ex h=> ?_) (λσ H' h=> ?_)⟩
 ·obtain⟨o,sm,_⟩:=h
  exact aP.of (sm _ _ er)
 ·obtain⟨o,sm,rfl⟩:=h
  obtain⟨b,rfl,hb⟩:=tF (List.mem_of_getElem? ex)
  have eb:=sm _ _ (ok b hb).1
  refine⟨_,rfl,_,_,_,_,rfl,.lst eb,ko K "list",_,rfl,rS ⟨_,rfl,b,_,rfl,.inl (aP.of eb),rfl,_,rfl,vO rfl ?_⟩⟩
  refine⟨_,rfl,b,rfl,⟨_,aP.of eb⟩,λD hD=>FW (jg (aP.of eb)) (by show 3<=sizeLine;decide) hD (λy hy H2 Q2 s2 q2=> ?_) (λH2 s2 eD=> ?_)⟩
  ·obtain⟨z,rfl⟩:∃z,y= .int z:=by
    simp only[List.mem_cons,List.not_mem_nil,or_false]at hy
    rcases hy with rfl|rfl|rfl<;>exact⟨_,rfl⟩
   exact⟨_,rfl,_,_,_,_,rfl,.int _,ko K "int",_,rfl,Dr ⟨_,rfl,_,_,_,_,rfl,.int _,pJ K,_,rfl,q2⟩⟩
  ·exact⟨D,_,rfl,aP.of eD,_,rfl,rS ⟨_,sm.trans s2,rfl⟩⟩
 ·obtain⟨o,sm,rfl⟩:=h
  exact q H' sm
def CY(K:PySem.W.Frag)(tabs gj:List Addr):Sp:=λvs H Q _=> ∃(a:Addr)(ns:List Int),vs=[.ref a]/\aP K H a (ns.map V.int)/\ns.length<=63/\(∀T∈tabs,H T=some (dH T))/\(∀T∈gj,H T=some .yz)/\ ∀H',ay H H'->Q (.bl true) H'
theorem LZ{f:Addr}{fd:FuncData}{br aW aE bu aF aU cD:Addr}{tabs gj:List Addr}(wJ:br∈tabs)(rM:aW∈tabs)(kJ:aE∈tabs)(ur:bu∈tabs)(uu:aF∈tabs)(rN:aU∈gj)(zP:cD∈tabs)(F:JK K "law" "law" pV f fd)(aO:mg "range"=none)(gc:mg "len"=none)(ir:mg "list"=none)(gh:cZ P w K mg base cP 12 "_law_number" f9 (xY K))(mY:cZ P w K mg base cP 12 "_law_form" iE Hq)(lJ:cZ P w K mg base cP 12 "_law_basis" gQ CS)(gX:cZ P w K mg base cP 12 "_law_product" fP CT)(gF:cZ P w K mg base cP 12 "_law_over" gz qE)(qS:cZ P w K mg base cP 12 "rows_of" kG (zK br aW aE bu aF aU cD))(iW:cZ P w K mg base cP 12 "_law_are_rows" fB Ko)(mZ:cZ P w K mg base cP 12 "_law_rows" iF CV)(oO:cZ P w K mg base cP 12 "how_many" jF (Hj br aW aE bu aF aU))(lK:cZ P w K mg base cP 12 "_law_worth" gS zO):pD P w K mg base cP 13 f fd ["_law_script"] (CY K tabs gj):=by
 refine F.ok oE (λvs H Q E h=> ?_) (λcdv A outer s H vs Q E hr h=> ?_)
 ·obtain⟨a,ns,rfl,hS,h63,hT,hC,q⟩:=h
  rfl
 obtain⟨a,ns,rfl,hS,h63,hT,hC,q⟩:=h
 have hu:=hr.units
 refine⟨_,(kU (@ak _ _ _ _ _ (aD (i:=1) oE.nd rfl (Or.inl rfl) (aN mY hr rfl aM (af (aN gh hr rfl aM (af (pv 0) (af ah aj))) (af ah aj))))
  (@ak _ _ _ _ _ (aD (i:=2) oE.nd rfl (Or.inl rfl) (aN lJ hr rfl aM (af (aN gh hr rfl aM (af (pv 0) (af ah aj))) (af ah (af (ai bg ah (ai Fd ah ah)) aj)))))
  (@ak _ _ _ _ _ (aD (i:=3) oE.nd rfl (Or.inl rfl) (aN gX hr rfl aM (af (aN gX hr rfl aM (af (pv 2) (af (pv 1) aj))) (af (aN gF hr rfl aM (af (pv 2) aj)) aj))))
  (@ak _ _ _ _ _ (aD (i:=4) oE.nd rfl (Or.inl rfl) (ai cS (aN gh hr rfl aM (af (pv 0) (af ah aj))) ah))
  (@ak _ _ _ _ _ (aD (i:=5) oE.nd rfl (Or.inl rfl) (aN qS hr rfl aM (af (gk (N2:=["_law_script","_law_form_here","_law_basis_here","_law_there","_law_n","_law_found","_law_k"]) (te:=(Mt (Cn K) (cW (bH 0) jo))) rfl (fQ (pv 3)) (by kernel_rfl) rfl (λ_ _ _=>by exact iM (vM xg rfl ir PyProof.Rows.boot_list (af (pv 0) aj)))) (af (pv 4) aj))))
  (@ak _ _ _ _ _ (cY (PW.pt (rm (kL (jn (aN iW hr rfl aM (af (pv 5) aj)))) (rm (bJ vF (ck dN rfl gc PySem.boot_len (af (pv 5) aj)) (ck dN rfl gc PySem.boot_len (af (aN mZ hr rfl aM (af (pv 1) (af (pv 4) aj))) aj)) (b8 _)) (qb (bJ vF (aN oO hr rfl aM (af (pv 3) (af (pv 4) aj))) (ck dN rfl gc PySem.boot_len (af (pv 5) aj)) (b8 _)))))) (@aI _ _ _ (aT lX)) dO)
  (@ak _ _ _ _ _ (g6 PassesOwn.never rfl (cF rfl aO (af (ck dN rfl gc PySem.boot_len (af (pv 5) aj)) aj)) (aL (i:=6) oE.nd rfl (Or.inl rfl)) (cK (cY (PW.pt (rm (bJ vF (aN lK hr rfl aM (af (pv 3) (af (aC ao (pv 5) (pv 6) (λ_ _=>rfl)) aj))) (ai bg ah (pv 4)) (b8 _)) (qb (PW.pt (KA (bJ nK (pv 6) ah (b8 _)) (HY (bJ (LQ hu) (aC ao (pv 5) (pv 6) (λ_ _=>rfl)) (aC ao (pv 5) (ai bK (pv 6) ah) (λ_ _=>rfl)) (b8 _)))))))) (@aI _ _ _ (aT lX)) dO)))
  (@aI _ _ _ (aT lX)))))))))),?_⟩
 refine⟨_,rfl,a,ns,_,rfl,hS,h63,by omega,λz0=>⟨_,_,rfl,by decide,λfa fb fc fp fq fr t bs H1 hF hd s1 ft VL nt nd T=> ?_⟩⟩
 obtain⟨i1,i2,i3,⟨i4,Vj,Rc⟩,i5,i6,i7,i8,i9,Vk,SQ⟩:=hF
 have bM:Bd 30 (f6 (2*fa) (2*fb) (2*fc) fp fq fr):=xu (by omega) (by omega) (by omega) (by omega) (by omega) (by omega)
 have hB:∀i j,i<3->j<3->(ent (f6 (2*fa) (2*fb) (2*fc) fp fq fr) i j).natAbs<=230:=Hg (by omega) (by omega) (by omega) (by omega) (by omega) (by omega)
 have cM:cB (f6 (2*fa) (2*fb) (2*fc) fp fq fr):=cH _
 have ev:=DF fa fb fc fp fq fr
 have ab:=AE i1 i2 i5 i6 SQ
 have f0:ent (f6 (2*fa) (2*fb) (2*fc) fp fq fr) 0 0<=16:=by show 2*fa<=16;omega
 have f1:ent (f6 (2*fa) (2*fb) (2*fc) fp fq fr) 1 1<=30:=by show 2*fb<=30;omega
 generalize f6 (2*fa) (2*fb) (2*fc) fp fq fr=M at T bM hB cM ev ab hd f0 f1
 have D4:aA M<=401:=by omega
 clear i1 i2 i3 i4 Vj Rc i5 i6 i7 i8 i9 Vk SQ
 have hl:(ns.map V.int).length=ns.length:=List.length_map _
 refine⟨_,rfl,a,ns,_,rfl,s1.seq hS,h63,by omega,λz1=>⟨_,_,rfl,rfl,⟨by decide,by decide,by decide⟩,_,_,rfl,rfl,.inl ⟨by decide,by decide⟩,_,_,_,rfl,by decide,by decide,by decide,by decide,λmb tb SR H2 cb dB Ma s2 VM VN VO Tb=> ?_⟩⟩
 have dB:Bd 77 mb:=dB.mono (by decide)
 refine⟨_,rfl,_,rfl,tb,SR,mb,t,bs,M,rfl,Tb,T.same s2,cb,cM,dB.mono (by decide),bM.mono (by decide),λr rs H3 s3 fr frs nr Tr=> ?_⟩
 refine⟨_,rfl,tb,SR,mb,rfl,Tb.same s3,cb,λo os H4 s4 fo Uz no To=> ?_⟩
 refine⟨r,rs,_,o,os,_,rfl,Tr.same s4,To,cH _,cH _,(sL dB bM).mono (by decide),(tG dB).mono (by decide),λu us H5 s5 fu Qx nu Tu=> ?_⟩
 have SS:=s2.trans (s3.trans (s4.trans s5))
 have OU:=s1.trans SS
 have T5:=T.same SS
 have Tu:Tab H5 u us (fK M mb):=Tu
 have cC:cB (fK M mb):=(show cB (iC (iC mb M) (cQ mb))from cH _)
 have dC:Bd 440 (fK M mb):=(sL (sL dB bM) (tG dB)).mono (by decide)
 have OV:=vY ev cM cb
 have Rf:=tM (d9 ev cM) ab cb Ma
 have Rg:aA (fK M mb)/2<=200:=by rw[yU Ma];exact hd
 have Oq:∀{n:Int}{L L':List (List Int)},eN (fK M mb) n L->eN M n L'->L.length=L'.length:=λh h'=>by
  rw[<-List.length_map (vf mb)]
  exact zI (oJ Ma h) h'
 generalize fK M mb=C at Tu cC dC OV Rf Rg Oq
 refine⟨_,rfl,a,ns,_,rfl,OU.seq hS,h63,by omega,λz2=>⟨_,_,rfl,rfl,(by decide),?_⟩⟩
 obtain⟨nn,en,VP⟩:∃nn:Nat,z2%61=(nn:Int)/\nn<=60:=⟨(z2%61).toNat,by omega,by omega⟩
 rw[en]
 have n0:(0:Int)<=nn:=by omega
 refine⟨_,rfl,u,rfl,⟨_,aP.of Tu.1⟩,λD hD=>Gj Tu (by rw[cC.1];decide) hD λVl H6 s6 VQ nh VR Th=> ?_⟩
 have Mb:=OU.trans s6
 refine⟨_,rfl,D,Vl,C,_,rfl,Th,cC,dC,OV,Rf,Rg,n0,by omega,(Mb) _ _ (hT _ wJ),(Mb) _ _ (hT _ rM),(Mb) _ _ (hT _ kJ),(Mb) _ _ (hT _ ur),(Mb) _ _ (hT _ uu),(Mb) _ _ (hC _ rN),(Mb) _ _ (hT _ zP),λr as H7 s7 fr frs er ok nr R sm so al=> ?_⟩
 have Vm:=s6.trans s7
 refine⟨_,rfl,r,as,rfl,er,ok,λH8 s8=>⟨_,rfl,rS ?_⟩⟩
 have SV:=Vm.trans s8
 have lr:(as.map V.ref).length=(rws H7 as).length:=by simp[rws]
 refine⟨_,rfl,r,_,rfl,.inl (aP.of (s8 _ _ er)),_,rfl,_,rfl,t,bs,M,_,rfl,T5.same SV,cM,ev,ab,hB,f0,f1,D4,n0,by omega,λdu SW H9 s9 Vn Rh SX okd Rd sd=> ?_⟩
 have Ri:=SV.trans s9
 have MK:=OU.trans Ri
 have ld:(SW.map V.ref).length=(rws H9 SW).length:=by simp[rws]
 refine⟨du,_,rfl,.inl (aP.of SX),rfl,_,rfl,vO (by rw[lr,ld,Oq R Rd]) ?_⟩
 refine⟨_,rfl,_,rfl,u,us,C,_,rfl,Tu.same Ri,cC,dC,OV,Rf,Rg,n0,by omega,(MK) _ _ (hT _ wJ),(MK) _ _ (hT _ rM),(MK) _ _ (hT _ kJ),(MK) _ _ (hT _ ur),(MK) _ _ (hT _ uu),(MK) _ _ (hC _ rN),λL2 Ha sa R2=> ?_⟩
 have SY:=s8.trans (s9.trans sa)
 have era:=SY _ _ er
 refine⟨_,rfl,r,_,rfl,.inl (aP.of era),rfl,_,rfl,vO (by rw[lr,zI R2 R]) ?_⟩
 have Tc:=Ri.trans sa
 have Vo:=OU.trans Tc
 have Vp:=Tu.same Tc
 clear Rd sd okd SX Rh Vn ld R2
 have VS:=s8 _ _ er
 refine⟨_,rfl,r,_,rfl,.inl (aP.of era),_,rfl,by omega,(by rw[List.length_map];omega),?_⟩
 have kk:(((as.map V.ref).length:Nat):Int).toNat=as.length:=by rw[List.length_map];omega
 rw[kk]
 refine fR (λi σ H'=> ∃o6,σ=[some (.ref a),some (.ref t),some (.ref tb),some (.ref u),some (.int (nn:Int)),some (.ref r),o6]/\ay Ha H') ⟨_,rfl,ay.refl _⟩ (λi σ Hb hi hh=> ?_) (λσ Hb hh=> ?_)
 ·obtain⟨o6,rfl,sb⟩:=hh
  rw[show(0:Int)+(i:Int)=(i:Int)by omega]
  have ea:as[i]?=some as[i]:=List.getElem?_eq_getElem hi
  have hb:=List.getElem_mem hi
  generalize as[i]=b at ea hb
  obtain⟨v,ev'⟩:=R.2.1 _ (jR hb)
  have eh:cg C v=nn:=(R.2.2 v).mp (ev'▸jR hb)
  have eb:=(ok b hb).1
  have Rj:=SY.trans sb
  have Rk:=Rj _ _ er
  have Td:=Rj _ _ eb
  have Vq:Hb b=some (.lst [.int (v 0),.int (v 1),.int (v 2)]):=by
   have:=Td
   rw[ev']at this
   exact this
  have sv:=sm _ (jR hb)
  have bits:∀i,i<3->(v i).natAbs<2^1000:=λi hi=>by
   have:=sv i hi
   rw[ev']at this
   rcases bC hi with rfl|rfl|rfl<;>exact this
  have Ot:w5 (as.map V.ref) (i:Int)=some (.ref b):=fS (by rw[List.getElem?_map,ea];rfl)
  refine⟨_,rfl,_,rfl,_,rfl,r,_,_,_,rfl,rfl,aP.of Rk,Ot,u,us,C,b,v,rfl,Vp.same sb,cC,dC.mono (by decide),Vq,bits,_,rfl,_,_,rfl,rfl,.inl ⟨by decide,by decide⟩,rfl,_,rfl,vO (by rw[d8 OV,eh]) ?_⟩
  have go:ay Ha Hb:=sb
  refine⟨_,rfl,_,_,rfl,rfl,_,rfl,iI (λc=> ?_) (λc=>rS ⟨_,rfl,sb⟩)⟩
  have c:(0:Int)<(i:Int):=of_decide_eq_true c
  obtain⟨j,rfl⟩:∃j,i=j+1:=⟨i-1,by omega⟩
  have Rl:as[j]?=some as[j]:=List.getElem?_eq_getElem (by omega)
  have hb2:=List.getElem_mem (show j<as.length by omega)
  generalize as[j]=b2 at Rl hb2
  obtain⟨le,ne⟩:=zM so R.1 (CP Rl) (CP ea)
  have lf:=Hl (ok b hb).2 (ok b2 hb2).2 sv (sm _ (jR hb2)) le ne
  have Rm:w5 (as.map V.ref) (((j+1:Nat):Int) -1)=some (.ref b2):=by
   rw[show((j+1:Nat):Int) -1=(j:Int)by omega]
   exact fS (by rw[List.getElem?_map,Rl];rfl)
  refine⟨_,rfl,_,rfl,r,_,_,_,rfl,rfl,aP.of Rk,Ot,_,rfl,_,rfl,_,_,rfl,rfl,r,_,_,_,rfl,rfl,aP.of Rk,Rm,b,b2,[bL (gZ H7 b) 0,bL (gZ H7 b) 1,bL (gZ H7 b) 2],[bL (gZ H7 b2) 0,bL (gZ H7 b2) 1,bL (gZ H7 b2) 2],rfl,rfl,aP.of Td,aP.of (Rj _ _ (ok b2 hb2).1),rfl,?_⟩
  rw[lf]
  exact⟨_,rfl,rS ⟨_,rfl,sb⟩⟩
 ·obtain⟨o6,rfl,sb⟩:=hh
  exact q _ (Vo.trans sb)
end
theorem all_mk{l:PySem.W.OpenLaw}{q:Program}{loose:List Str}{mean:ExcName->Option Value}{w:World}{K:PySem.W.Frag}{h:Heap}{mg mb:Str->Option Value}{fa wK vt uv vz Jv Ep Er Bs zQ uw l6 Es Mc wL Jw ye Et yf ux Bt yg Me Mf Hr zR uy r6 Eu Bu uz vB Bv yh zS yi zT yj uA yk zU ym zV r8 Hs:Addr}(X:K.In h)(Tp:PyProof.Rows.Top q loose mean mg mb h)(Vr:mg "law"=some (.ref fa))
  (qT:FnAt K "product" qp wK)
  (j8:FnAt K "turned_over" jY vt)
  (jJ:FnAt K "signed_minor" jC uv)
  (j9:FnAt K "determinant" jZ vz)
  (yo:FnAt K "cover" xJ Jv)
  (qU:FnAt K "carried" qt Ep)
  (qV:FnAt K "low_row" qx Er)
  (oQ:FnAt K "is_whole" nZ Bs)
  (uB:FnAt K "is_row" tS zQ)
  (oR:FnAt K "is_table" n9 uw)
  (iX:FnAt K "is_even_table" iQ l6)
  (qW:FnAt K "is_form" qv Es)
  (Bw:FnAt K "half" AX Mc)
  (qX:FnAt K "pairing" qw wL)
  (yp:FnAt K "worth" xK Jw)
  (lM:FnAt K "less_times" kY ye)
  (qY:FnAt K "nearest" qz Et)
  (lO:FnAt K "least_pair" kZ yf)
  (oS:FnAt K "in_order" om ux)
  (oU:FnAt K "drawn_in" oq Bt)
  (lP:FnAt K "near_basis" k8 yg)
  (Bx:FnAt K "near" AZ Me)
  (By:FnAt K "root" Ba Mf)
  (uC:FnAt K "slices" tU Hr)
  (m5:FnAt K "near_rows" mO zR)
  (oV:FnAt K "by_basis" ou uy)
  (iY:FnAt K "refuse_others" iR r6)
  (qZ:FnAt K "rows_of" qD Eu)
  (oW:FnAt K "how_many" oA Bu)
  (jK:FnAt K "_law_cell_at" jG uz)
  (kc:FnAt K "_law_number" j4 vB)
  (oX:FnAt K "_law_det" oB Bv)
  (lQ:FnAt K "_law_shape" lq yh)
  (m6:FnAt K "_law_form" mQ zS)
  (lR:FnAt K "_law_basis" lu yi)
  (m7:FnAt K "_law_over" mP zT)
  (lS:FnAt K "_law_along" k9 yj)
  (jL:FnAt K "_law_product" jH uA)
  (lT:FnAt K "_law_worth" lz yk)
  (m8:FnAt K "_law_root" mR zU)
  (lU:FnAt K "_law_reach" ly ym)
  (m9:FnAt K "_law_rows" mS zV)
  (iZ:FnAt K "_law_are_rows" iS r8)
  {Mh Ht:Option Addr}{Mi:Array (Option Value)}{Mj Hu Hv Hw BA Hx:Value}(CZ:PySem.W.nsIn K mainGlobals "law"=some (some (.ref Hs)))(Hy:K.lookup Hs=some ⟨Mj,Mh,.func (PySem.W.fnOf "law" "law" (gi pV) (eL pV) (az pV) .none Hu Hv Hw Ht BA Hx),Mi⟩)(Hz:PySem.W.codeIn K BA "law"=true)(HA:PySem.W.keepIn K (.ref Hs)=true)
  {Ew:DefRec}(q8:(PyProof.Rows.recsOf q).find? (λe=>e.name==("product":Str))=some Ew)
  {HB:DefRec}(uE:(PyProof.Rows.recsOf q).find? (λe=>e.name==("is_row":Str))=some HB)
  {BB:DefRec}(oY:(PyProof.Rows.recsOf q).find? (λe=>e.name==("is_table":Str))=some BB)
  {r9:DefRec}(ja:(PyProof.Rows.recsOf q).find? (λe=>e.name==("is_even_table":Str))=some r9)
  {Ex:DefRec}(q9:(PyProof.Rows.recsOf q).find? (λe=>e.name==("pairing":Str))=some Ex)
  {BC:DefRec}(oZ:(PyProof.Rows.recsOf q).find? (λe=>e.name==("in_order":Str))=some BC)
  {BD:DefRec}(pq:(PyProof.Rows.recsOf q).find? (λe=>e.name==("by_basis":Str))=some BD)
  (HD:PySem.W.nsIn K mainGlobals "sum"=some none)
  (nF:PySem.W.nsIn K mainGlobals "range"=some none)
  (lV:PySem.W.nsIn K mainGlobals "isinstance"=some none)
  (HE:PySem.W.nsIn K mainGlobals "int"=some none)
  (y_bool:PySem.W.nsIn K mainGlobals "bool"=some none)
  (BE:PySem.W.nsIn K mainGlobals "list"=some none)
  (HF:PySem.W.nsIn K mainGlobals "len"=some none)
  (HG:PySem.W.nsIn K mainGlobals "all"=some none)
  {iU:_}(jb:PySem.W.nsIn K mainGlobals "GREATEST_HALF"=some (some (Value.int 200 iU)))
  (HH:PySem.W.nsIn K mainGlobals "zip"=some none)
  (uF:PySem.W.nsIn K mainGlobals "sorted"=some none)
  {eO:_}(iw:PySem.W.nsIn K mainGlobals "GREATEST_WORTH"=some (some (Value.int 600 eO)))
  (HJ:PySem.W.nsIn K mainGlobals "abs"=some none)
  (ap:FJ K [wK,zQ,uw,l6,wL,uy] [ux]=true)
  :∃(fd:FuncData)(tabs gj:List Addr),(∀(s:Shared)(v:Value),BindsTo s fd ⟨[v],[]⟩ [("_law_script",v)])/\(∀T∈tabs++gj,isCodeTable h T/\h.get? T=some {cls:= .none,data:= .fields #[]})/\(∀T∈tabs,T∉gj)/\ ∀base:Heap,K.In base->base.Ns mainGlobals mg->BM mg base->pD l.prog w K mg base cP 40 fa fd ["_law_script"] (CY K tabs gj):=by
 have G:=Tp.g
 have e:=Vr.symm.trans (PySem.W.mg_of X G CZ)
 cases e
 have Te:=PySem.W.mg_of X G CZ
 obtain⟨bu,Ey,BF,BG,BH⟩:=qT.AS (ps:=kB) Tp X q8
 have vC:=j8.fun (ps:=fE) Tp X
 have uG:=jJ.fun (ps:=fM) Tp X
 have vD:=j9.fun (ps:=eH) Tp X
 have Jx:=yo.fun (ps:=pU) Tp X
 have Ez:=qU.fun (ps:=kC) Tp X
 have EA:=qV.fun (ps:=kE) Tp X
 have BI:=oQ.fun (ps:=ic) Tp X
 obtain⟨br,HK,EB,EC,ED⟩:=uB.AS (ps:=mK) Tp X uE
 obtain⟨aW,BJ,zW,zX,zY⟩:=oR.AS (ps:=jB) Tp X oY
 obtain⟨aE,se,rf,rg,rj⟩:=iX.AS (ps:=fz) Tp X ja
 have EE:=qW.fun (ps:=kD) Tp X
 have Mk:=Bw.fun (ps:=qy) Tp X
 obtain⟨aF,EF,BK,BL,BN⟩:=qX.AS (ps:=ie) Tp X q9
 have Jy:=yp.fun (ps:=kX) Tp X
 have yq:=lM.fun (ps:=fU) Tp X
 have EG:=qY.fun (ps:=kF) Tp X
 have yr:=lO.fun (ps:=gK) Tp X
 obtain⟨aU,BO,zZ,z4,gH⟩:=oS.AS (ps:=ig) Tp X oZ
 have BP:=oU.fun (ps:=jD) Tp X
 have yt:=lP.fun (ps:=gM) Tp X
 have Ml:=Bx.fun (ps:=qA) Tp X
 have Mm:=By.fun (ps:=qB) Tp X
 have HL:=uC.fun (ps:=mL) Tp X
 have z5:=m5.fun (ps:=gw) Tp X
 obtain⟨cD,BQ,z6,z7,z8⟩:=oV.AS (ps:=jE) Tp X pq
 have sf:=iY.fun (ps:=ef) Tp X
 have EH:=qZ.fun (ps:=kG) Tp X
 have BR:=oW.fun (ps:=jF) Tp X
 have uH:=jK.fun (ps:=fO) Tp X
 have vE:=kc.fun (ps:=f9) Tp X
 have BS:=oX.fun (ps:=gq) Tp X
 have yu:=lQ.fun (ps:=gP) Tp X
 have z9:=m6.fun (ps:=iE) Tp X
 have yv:=lR.fun (ps:=gQ) Tp X
 have Aa:=m7.fun (ps:=gz) Tp X
 have yw:=lS.fun (ps:=gO) Tp X
 have uI:=jL.fun (ps:=fP) Tp X
 have yx:=lT.fun (ps:=gS) Tp X
 have Ab:=m8.fun (ps:=gC) Tp X
 have yy:=lU.fun (ps:=gR) Tp X
 have Ac:=m9.fun (ps:=iF) Tp X
 have sj:=iZ.fun (ps:=fB) Tp X
 have Ou:=Fj (st:=pV) Hy Hz HA
 have pW:=PySem.W.mg_none_of X G HD
 have aO:=PySem.W.mg_none_of X G nF
 have bI:=PySem.W.mg_none_of X G lV
 have pX:=PySem.W.mg_none_of X G HE
 have qF:=PySem.W.mg_none_of X G y_bool
 have ir:=PySem.W.mg_none_of X G BE
 have gc:=PySem.W.mg_none_of X G HF
 have l5:=PySem.W.mg_none_of X G HG
 have iV:=PySem.W.mg_of X G jb
 have pY:=PySem.W.mg_none_of X G HH
 have fC:=PySem.W.mg_none_of X G uF
 have dS:=PySem.W.mg_of X G iw
 have Ho:=PySem.W.mg_none_of X G HJ
 refine⟨PySem.W.fnOf "law" "law" (gi pV) (eL pV) (az pV) .none Hu Hv Hw Ht BA Hx,[bu,br,aW,aE,aF,cD],[aU],λs v=> .of_eq rfl,λT hT=> ?_,λT hT hC=> ?_,λbase Mq _ bm=> ?_⟩
 ·simp only[List.mem_append,List.mem_cons,List.not_mem_nil,or_false,or_assoc]at hT
  rcases hT with rfl|rfl|rfl|rfl|rfl|rfl|rfl
  ·exact⟨BF,BG⟩
  ·exact⟨EB,EC⟩
  ·exact⟨zW,zX⟩
  ·exact⟨rf,rg⟩
  ·exact⟨BK,BL⟩
  ·exact⟨z6,z7⟩
  ·exact⟨zZ,z4⟩
 ·simp only[List.mem_cons,List.not_mem_nil,or_false]at hT hC
  rcases hT with e|e|e|e|e|e
  ·exact kj ap (by simp) (by simp) BH gH (e.symm.trans hC)
  ·exact kj ap (by simp) (by simp) ED gH (e.symm.trans hC)
  ·exact kj ap (by simp) (by simp) zY gH (e.symm.trans hC)
  ·exact kj ap (by simp) (by simp) rj gH (e.symm.trans hC)
  ·exact kj ap (by simp) (by simp) BN gH (e.symm.trans hC)
  ·exact kj ap (by simp) (by simp) z8 gH (e.symm.trans hC)
 have nB:=Bb (P:=l.prog) (w:=w) (mg:=mg) (base:=base) Ey bm pW aO
 have fG:=tV (P:=l.prog) (w:=w) (mg:=mg) (base:=base) vC aO
 have jI:=rX (P:=l.prog) (w:=w) (mg:=mg) (base:=base) uG
 have dg:=tX (P:=l.prog) (w:=w) (mg:=mg) (base:=base) vD
 have xO:=GL (P:=l.prog) (w:=w) (mg:=mg) (base:=base) Jx aO jI.mono
 have qK:=Bc (P:=l.prog) (w:=w) (mg:=mg) (base:=base) Ez nB.mono fG.mono
 have qH:=Be (P:=l.prog) (w:=w) (mg:=mg) (base:=base) EA dg.mono xO.mono
 have iu:=zp (P:=l.prog) (w:=w) (mg:=mg) (base:=base) BI bI pX qF
 have tY:=Ec (P:=l.prog) (w:=w) (mg:=mg) (base:=base) HK bm bI ir gc l5 iu.mono
 have oF:=zq (P:=l.prog) (w:=w) (mg:=mg) (base:=base) BJ bm bI ir gc l5 tY.mono
 have iT:=qG (P:=l.prog) (w:=w) (mg:=mg) (base:=base) se bm l5 aO oF.mono fG.mono
 have qI:=Bf (P:=l.prog) (w:=w) (mg:=mg) (base:=base) EE iT.mono qH.mono
 have qP:=Jk (P:=l.prog) (w:=w) (mg:=mg) (base:=base) Mk iV qI.mono dg.mono
 have dF:=Bh (P:=l.prog) (w:=w) (mg:=mg) (base:=base) EF bm pW pY
 have gT:=GN (P:=l.prog) (w:=w) (mg:=mg) (base:=base) Jy dF.mono
 have e9:=uX (P:=l.prog) (w:=w) (mg:=mg) (base:=base) yq pY
 have qJ:=Bj (P:=l.prog) (w:=w) (mg:=mg) (base:=base) EG
 have lC:=uY (P:=l.prog) (w:=w) (mg:=mg) (base:=base) yr e9.mono qJ.mono dF.mono gT.mono
 have gr:=zx (P:=l.prog) (w:=w) (mg:=mg) (base:=base) BO bm fC gT.mono
 have oG:=zy (P:=l.prog) (w:=w) (mg:=mg) (base:=base) BP dF.mono e9.mono gr.mono
 have lD:=uZ (P:=l.prog) (w:=w) (mg:=mg) (base:=base) yt gr.mono lC.mono oG.mono gT.mono
 have qQ:=Jl (P:=l.prog) (w:=w) (mg:=mg) (base:=base) Ml lD.mono qK.mono
 have oH:=Jo (P:=l.prog) (w:=w) (mg:=mg) (base:=base) Mm
 have ug:=Ei (P:=l.prog) (w:=w) (mg:=mg) (base:=base) HL aO dg.mono oH.mono
 have gE:=xW (P:=l.prog) (w:=w) (mg:=mg) (base:=base) z5 fC ug.mono oH.mono
 have oN:=zJ (P:=l.prog) (w:=w) (mg:=mg) (base:=base) BQ bm pW aO
 have eE:=qO (P:=l.prog) (w:=w) (mg:=mg) (base:=base) sf iu.mono
 have qS:=Br (P:=l.prog) (w:=w) (mg:=mg) (base:=base) EH fC dS qP.mono eE.mono qQ.mono gE.mono oN.mono
 have oO:=zL (P:=l.prog) (w:=w) (mg:=mg) (base:=base) BR gc dS qP.mono eE.mono qQ.mono gE.mono
 have eT:=rY (P:=l.prog) (w:=w) (mg:=mg) (base:=base) uH gc
 have gh:=uq (P:=l.prog) (w:=w) (mg:=mg) (base:=base) vE Ho aO eT.mono
 have fm:=zN (P:=l.prog) (w:=w) (mg:=mg) (base:=base) BS
 have jj:=vj (P:=l.prog) (w:=w) (mg:=mg) (base:=base) yu fm.mono
 have mY:=x6 (P:=l.prog) (w:=w) (mg:=mg) (base:=base) z9 jj.mono fm.mono
 have lJ:=vm (P:=l.prog) (w:=w) (mg:=mg) (base:=base) yv aO pY
 have gF:=x8 (P:=l.prog) (w:=w) (mg:=mg) (base:=base) Aa aO
 have lI:=vn (P:=l.prog) (w:=w) (mg:=mg) (base:=base) yw
 have gX:=rZ (P:=l.prog) (w:=w) (mg:=mg) (base:=base) uI gF.mono lI.mono
 have lK:=vp (P:=l.prog) (w:=w) (mg:=mg) (base:=base) yx aO
 have gG:=yc (P:=l.prog) (w:=w) (mg:=mg) (base:=base) Ab
 have jk:=vq (P:=l.prog) (w:=w) (mg:=mg) (base:=base) yy fm.mono gG.mono
 have mZ:=yd (P:=l.prog) (w:=w) (mg:=mg) (base:=base) Ac aO fC pX jk.mono gG.mono
 have iW:=qR (P:=l.prog) (w:=w) (mg:=mg) (base:=base) sj bI ir gc l5 pX qF
 exact(LZ (P:=l.prog) (w:=w) (mg:=mg) (base:=base) (tabs:=[bu,br,aW,aE,aF,cD]) (gj:=[aU]) (br:=br) (by simp) (aW:=aW) (by simp) (aE:=aE) (by simp) (bu:=bu) (by simp) (aF:=aF) (by simp) (aU:=aU) (by simp) (cD:=cD) (by simp) Ou aO gc ir gh.mono mY.mono lJ.mono gX.mono gF.mono qS.mono iW.mono mZ.mono oO.mono lK.mono).mono (by decide)
theorem walk{l:PySem.W.OpenLaw}{q:Program}{loose:List Str}{XP:(Str->Option Value) ->Heap->Prop}{YP:World->Heap->Prop}{d:DefRec}{K:Params->PySem.W.Frag}(hn:l.most=some 63)(hdf:d.params.defaults=[])
  (hY:∀(w:World)(h:Heap),YP w h->(K w.params).In h)(hcl:∀(w:World),PySem.W.kb_classed (K w.params)=true)
  (F:∀(w:World)(mg mb:Str->Option Value)(mean:ExcName->Option Value)(fa:Addr)(h:Heap),(K w.params).In h->PyProof.Rows.Top q (PySem.W.looseW q loose) mean mg mb h->mg d.name=some (.ref fa) ->
   ∃(fd:FuncData)(tabs gj:List Addr),(∀(s:Shared)(u:Value),BindsTo s fd ⟨[u],[]⟩ [("_law_script",u)])/\(∀T∈tabs++gj,isCodeTable h T/\h.get? T=some {cls:= .none,data:= .fields #[]})/\(∀T∈tabs,T∉gj)/\
    ∀base:Heap,(K w.params).In base->base.Ns mainGlobals mg->BM mg base->pD l.prog w (K w.params) mg base cP 40 fa fd ["_law_script"] (CY (K w.params) tabs gj)):
  PySem.W.WalkO q loose XP YP l.row.toRowW d [] (λf vs=>PySem.call f vs):=
 L2.FL (n:=63) (k:=40) (x:= "_law_script") (sp:=CY) hn (by decide) hdf ⟨rfl,by decide,by decide⟩ hY hcl F (λ_ tabs gj H a ns hl hT hC hS Q hQ=>⟨a,ns,rfl,hS,hl,hT,hC,hQ⟩)
theorem ws:PySem.W.OpenLaw.wellSaid PySem.Challenge.rw_conekin_k21_forms_far_off=true:=by kernel_rfl
end CR
namespace PySem.W.Fast
theorem tw186613781964378143:True:=⟨⟩
theorem tw989807157388308869:True:=⟨⟩
theorem tw2961871541865949693:True:=⟨⟩
theorem tw7930457638234896265:True:=⟨⟩
theorem tw12100787989544892657:True:=⟨⟩
theorem tw3921342609859311023:True:=⟨⟩
theorem tw17231367254621547497:True:=⟨⟩
theorem tw10773292182525497736:True:=⟨⟩
theorem tw2967722447440545700:True:=⟨⟩
theorem tw4790997635459536709:True:=⟨⟩
theorem tw15804181893561569091:True:=⟨⟩
theorem tw2587493812950195656:True:=⟨⟩
theorem tw17705345057364651916:True:=⟨⟩
theorem tw2049881298646014785:True:=⟨⟩
theorem tw8066042676893606377:True:=⟨⟩
theorem tw619230740629278791:True:=⟨⟩
theorem tw467775690852873848:True:=⟨⟩
theorem tw6759009017572362779:True:=⟨⟩
theorem tw2904874282068069867:True:=⟨⟩
theorem tw12983143475384547398:True:=⟨⟩
theorem tw10099514179273640224:True:=⟨⟩
theorem tw1392181589370059361:True:=⟨⟩
theorem tw1765974781990122498:True:=⟨⟩
theorem tw15951687072604271913:True:=⟨⟩
theorem tw3092812651149726835:True:=⟨⟩
theorem tw206958981954502410:True:=⟨⟩
theorem tw1084496545565080810:True:=⟨⟩
theorem tw16922213610642661195:True:=⟨⟩
theorem tw9044194485911704427:True:=⟨⟩
theorem tw4331721602504675307:True:=⟨⟩
theorem tw5392821025101567845:True:=⟨⟩
theorem tw4644296771185135978:True:=⟨⟩
theorem tw3400987031980462424:True:=⟨⟩
theorem tw88344364529269899:True:=⟨⟩
theorem tw10002249080181671521:True:=⟨⟩
theorem tw17100076641164486694:True:=⟨⟩
theorem tw4473589732762142137:True:=⟨⟩
theorem tw9884032326073689571:True:=⟨⟩
theorem tw11674283831317894514:True:=⟨⟩
theorem tw16203979887175035339:True:=⟨⟩
theorem tw14425791693206191845:True:=⟨⟩
theorem tw6661701142504375548:True:=⟨⟩
theorem tw3962811283877639639:True:=⟨⟩
theorem tw4085771113196154350:True:=⟨⟩
theorem tw8090508523533910359:True:=⟨⟩
theorem tw9620352901017683352:True:=⟨⟩
theorem tw13464131382202868254:True:=⟨⟩
theorem tw6104229091971657705:True:=⟨⟩
theorem tw14795917574284189986:True:=⟨⟩
theorem tw1064908371312921364:True:=⟨⟩
theorem tw18180837065826310506:True:=⟨⟩
theorem tw2893287403323538165:True:=⟨⟩
theorem tw1873411116722016744:True:=⟨⟩
theorem tw16766789168057623453:True:=⟨⟩
theorem tw14993249044651171774:True:=⟨⟩
theorem tw12796045251816919880:True:=⟨⟩
theorem tw14630804917865532959:True:=⟨⟩
theorem tw13267576623109944466:True:=⟨⟩
theorem tw12860180390418587603:True:=⟨⟩
theorem tw3469855299143212573:True:=⟨⟩
theorem tw3685998823121617997:True:=⟨⟩
theorem tw852261365771627682:True:=⟨⟩
theorem tw6614627904108747131:True:=⟨⟩
theorem tw18137637683740961050:True:=⟨⟩
theorem tw15637492587639231106:True:=⟨⟩
theorem tw13952969728619105254:True:=⟨⟩
theorem tw794928862755223059:True:=⟨⟩
theorem tw6093256353240008473:True:=⟨⟩
theorem tw15124406443801025152:True:=⟨⟩
theorem tw1391572264899942568:True:=⟨⟩
theorem tw16249964081633796442:True:=⟨⟩
theorem tw8601419307553733202:True:=⟨⟩
theorem tw12222234951958252464:True:=⟨⟩
theorem tw17128809295699774912:True:=⟨⟩
theorem tw13141514986388421569:True:=⟨⟩
theorem tw6514943809404949913:True:=⟨⟩
theorem tw11911247195531914090:True:=⟨⟩
theorem tw4621805543550494271:True:=⟨⟩
theorem tw14444316168820547700:True:=⟨⟩
theorem tw16790272703970518040:True:=⟨⟩
theorem tw8937887729651045169:True:=⟨⟩
theorem tw12661151966681282015:True:=⟨⟩
theorem tw9570417306449285675:True:=⟨⟩
theorem tw3468359993491130827:True:=⟨⟩
theorem tw12971275638739849167:True:=⟨⟩
theorem tw10784070793584215403:True:=⟨⟩
theorem tw330709520822854682:True:=⟨⟩
theorem tw3435920282588814007:True:=⟨⟩
theorem tw16370733825150159700:True:=⟨⟩
theorem tw9417099870423987747:True:=⟨⟩
theorem tw17832990917354860694:True:=⟨⟩
theorem tw9402494131758253018:True:=⟨⟩
theorem tw10893239237807186365:True:=⟨⟩
theorem tw12303156952947126818:True:=⟨⟩
theorem tw11950765838615991398:True:=⟨⟩
theorem tw6533897494908205986:True:=⟨⟩
theorem tw7336990925076379574:True:=⟨⟩
theorem tw9641349165641646547:True:=⟨⟩
theorem tw218463607813453923:True:=⟨⟩
theorem tw603352266635639844:True:=⟨⟩
theorem tw3574684730428376007:True:=⟨⟩
theorem tw4380233930409814589:True:=⟨⟩
theorem tw13209393096971845189:True:=⟨⟩
theorem tw1823302391958024494:True:=⟨⟩
theorem tw13238759354517587101:True:=⟨⟩
theorem tw9609038617169173263:True:=⟨⟩
theorem tw11896775370775573545:True:=⟨⟩
theorem tw7501480887377638573:True:=⟨⟩
theorem tw4264912935526295246:True:=⟨⟩
theorem tw15704354946055433168:True:=⟨⟩
theorem tw9380922073918457299:True:=⟨⟩
theorem tw5540013651303547485:True:=⟨⟩
theorem tw14046838238484009524:True:=⟨⟩
theorem tw10723912998048992147:True:=⟨⟩
theorem tw5393028361138826186:True:=⟨⟩
theorem tw8452273032996584776:True:=⟨⟩
theorem tw8004856492055494137:True:=⟨⟩
theorem tw5231443462965879757:True:=⟨⟩
theorem tw9559684054380488035:True:=⟨⟩
theorem tw13707740862964229006:True:=⟨⟩
theorem tw11740441859112730932:True:=⟨⟩
theorem tw15903915540384765124:True:=⟨⟩
theorem tw7484400886791691547:True:=⟨⟩
theorem tw152377359922825141:True:=⟨⟩
theorem tw2539135965696551301:True:=⟨⟩
theorem tw15349641501598133493:True:=⟨⟩
theorem tw5912673285407299543:True:=⟨⟩
theorem tw12097130371021730775:True:=⟨⟩
theorem tw4091854503842509578:True:=⟨⟩
theorem tw8140290906401550985:True:=⟨⟩
theorem tw5060861197228605213:True:=⟨⟩
theorem tw16095933935963916688:True:=⟨⟩
theorem tw14936926562206158444:True:=⟨⟩
theorem tw11244721943235296764:True:=⟨⟩
theorem tw10737797615846754883:True:=⟨⟩
theorem tw11382574940576781833:True:=⟨⟩
theorem tw4086326678842183686:True:=⟨⟩
theorem tw14815720367418795874:True:=⟨⟩
theorem tw10689690197052985157:True:=⟨⟩
theorem tw8404737649664241270:True:=⟨⟩
theorem tw12675426229398277323:True:=⟨⟩
theorem tw12601235066729804390:True:=⟨⟩
theorem tw12566615736997228198:True:=⟨⟩
theorem tw7706364430195316914:True:=⟨⟩
theorem tw7039348494883886834:True:=⟨⟩
theorem tw545631710305642334:True:=⟨⟩
theorem tw2132958696278457539:True:=⟨⟩
theorem tw1151957319407943043:True:=⟨⟩
theorem tw11311200534783733592:True:=⟨⟩
theorem tw5985689413143820467:True:=⟨⟩
theorem tw2561245951388984930:True:=⟨⟩
theorem tw12377155313980515440:True:=⟨⟩
theorem tw2680106281359956167:True:=⟨⟩
theorem tw17248850197858167530:True:=⟨⟩
theorem tw13847507693306215967:True:=⟨⟩
theorem tw1119544959172278804:True:=⟨⟩
theorem tw17014313997911434130:True:=⟨⟩
theorem tw17303850602243170971:True:=⟨⟩
theorem tw2002849837392215648:True:=⟨⟩
theorem tw7020727680493365387:True:=⟨⟩
theorem tw7276522716590380381:True:=⟨⟩
theorem tw5115381332468286749:True:=⟨⟩
theorem tw17604663287258112331:True:=⟨⟩
theorem tw14757221740154714759:True:=⟨⟩
theorem tw13898039006129194513:True:=⟨⟩
theorem tw9723792242318921506:True:=⟨⟩
theorem tw10416334357514652685:True:=⟨⟩
theorem tw8758828461992819081:True:=⟨⟩
theorem tw15117243088071397303:True:=⟨⟩
theorem tw6275912160563810618:True:=⟨⟩
theorem tw5160954604013376387:True:=⟨⟩
theorem tw4589208761789069041:True:=⟨⟩
theorem tw16274336953769813642:True:=⟨⟩
theorem tw12064815990715334477:True:=⟨⟩
theorem tw3543842037014737996:True:=⟨⟩
theorem tw2410236011246202356:True:=⟨⟩
theorem tw8259680078133428768:True:=⟨⟩
theorem tw6624736627769507395:True:=⟨⟩
theorem tw16780675243065754510:True:=⟨⟩
theorem tw6604771705227199309:True:=⟨⟩
theorem tw12172736391434514022:True:=⟨⟩
theorem tw9468967207661384348:True:=⟨⟩
theorem tw7353431065012710360:True:=⟨⟩
theorem tw9621540794734361786:True:=⟨⟩
theorem tw18294179987972941338:True:=⟨⟩
theorem tw6472424647791412425:True:=⟨⟩
theorem tw5800219027786617836:True:=⟨⟩
theorem tw4258726603398808156:True:=⟨⟩
theorem tw11210226628604395434:True:=⟨⟩
theorem tw11389165296745839154:True:=⟨⟩
theorem tw14453716658934764528:True:=⟨⟩
theorem tw5736458655819791635:True:=⟨⟩
theorem tw13768414550255248646:True:=⟨⟩
theorem tw12252751943477002854:True:=⟨⟩
theorem tw2059766258346828598:True:=⟨⟩
theorem tw3478607306559796585:True:=⟨⟩
theorem tw15447182311497349907:True:=⟨⟩
theorem tw9927133021587364274:True:=⟨⟩
theorem tw7254521785530169053:True:=⟨⟩
theorem tw2930720971917597896:True:=⟨⟩
theorem tw12994336302991756688:True:=⟨⟩
theorem tw3759951286505268336:True:=⟨⟩
theorem tw13715149567386885897:True:=⟨⟩
theorem tw15692191084666067805:True:=⟨⟩
theorem tw15010131033709746985:True:=⟨⟩
theorem tw18142480556928149114:True:=⟨⟩
theorem tw1275790263368378617:True:=⟨⟩
theorem tw10010044750163446762:True:=⟨⟩
theorem tw10559692970922500494:True:=⟨⟩
theorem tw4040710101727802043:True:=⟨⟩
theorem tw1615085574266669813:True:=⟨⟩
theorem tw14486834668322411550:True:=⟨⟩
theorem tw10102594060488433898:True:=⟨⟩
theorem tw8475145464189474163:True:=⟨⟩
theorem tw2259479318656881771:True:=⟨⟩
theorem tw7803797761746769609:True:=⟨⟩
theorem tw7751799737875991686:True:=⟨⟩
theorem tw7311029908055399517:True:=⟨⟩
theorem tw7035339780128739220:True:=⟨⟩
theorem tw6076727285178955705:True:=⟨⟩
theorem tw4200549288883683522:True:=⟨⟩
theorem tw13781816636721567289:True:=⟨⟩
theorem tw8015698175821183281:True:=⟨⟩
theorem tw5327467418682759436:True:=⟨⟩
theorem tw4735146214453098030:True:=⟨⟩
theorem tw14957948429714804698:True:=⟨⟩
theorem tw12721579857248272182:True:=⟨⟩
theorem tw12707385357451352782:True:=⟨⟩
theorem tw10390510448737423107:True:=⟨⟩
theorem tw6298344112023502624:True:=⟨⟩
theorem tw289707458043572247:True:=⟨⟩
theorem tw2192713089807241437:True:=⟨⟩
theorem tw13753977017531603028:True:=⟨⟩
theorem tw2430903868666413106:True:=⟨⟩
theorem tw5172967662408695856:True:=⟨⟩
theorem tw494302962509776067:True:=⟨⟩
theorem tw362244269891535106:True:=⟨⟩
theorem tw13061020289756398075:True:=⟨⟩
theorem tw7825907335273888086:True:=⟨⟩
theorem tw5775491154035933013:True:=⟨⟩
theorem tw1036749852781247458:True:=⟨⟩
theorem tw9806463169536177682:True:=⟨⟩
theorem tw9570696178124176659:True:=⟨⟩
theorem tw9154482184376066155:True:=⟨⟩
theorem tw8739771881357788232:True:=⟨⟩
theorem tw8316469411107499559:True:=⟨⟩
theorem tw7664766135259544670:True:=⟨⟩
theorem tw7658631634100131823:True:=⟨⟩
theorem tw7513452575465520211:True:=⟨⟩
theorem tw7503165860844932873:True:=⟨⟩
theorem tw7192148117468801970:True:=⟨⟩
theorem tw7158572044623612533:True:=⟨⟩
theorem tw707946606347863606:True:=⟨⟩
theorem tw680407104350386321:True:=⟨⟩
theorem tw6761838965993522366:True:=⟨⟩
theorem tw6657233918217110764:True:=⟨⟩
theorem tw5424279862623135818:True:=⟨⟩
theorem tw5380763021088901146:True:=⟨⟩
theorem tw5303110249667925643:True:=⟨⟩
theorem tw4858649638263965649:True:=⟨⟩
theorem tw4617300497882660924:True:=⟨⟩
theorem tw4415765003030723918:True:=⟨⟩
theorem tw4091274322400552557:True:=⟨⟩
theorem tw3870037471111659940:True:=⟨⟩
theorem tw3835051275371962183:True:=⟨⟩
theorem tw3641966854222183956:True:=⟨⟩
theorem tw3092015202166083938:True:=⟨⟩
theorem tw3015557461163404219:True:=⟨⟩
theorem tw2520633986342189976:True:=⟨⟩
theorem tw18255014568162608026:True:=⟨⟩
theorem tw18210738826311533860:True:=⟨⟩
theorem tw18171909847381605381:True:=⟨⟩
theorem tw18096019915128205442:True:=⟨⟩
theorem tw18013012586064955732:True:=⟨⟩
theorem tw17898913307540020822:True:=⟨⟩
theorem tw1788634487911261362:True:=⟨⟩
theorem tw17851968332440028090:True:=⟨⟩
theorem tw1771343069231998559:True:=⟨⟩
theorem tw17669749898731285210:True:=⟨⟩
theorem tw17518920035681240334:True:=⟨⟩
theorem tw17288292897807535769:True:=⟨⟩
theorem tw17233335365600560059:True:=⟨⟩
theorem tw17136867450211250442:True:=⟨⟩
theorem tw1690272745187874640:True:=⟨⟩
theorem tw16771745391145401951:True:=⟨⟩
theorem tw16767869196047050137:True:=⟨⟩
theorem tw166752953835878256:True:=⟨⟩
theorem tw16480080440688368324:True:=⟨⟩
theorem tw16455652345069090668:True:=⟨⟩
theorem tw16343054799250163562:True:=⟨⟩
theorem tw16091559344796823864:True:=⟨⟩
theorem tw16090959101508174013:True:=⟨⟩
theorem tw15815837071673216093:True:=⟨⟩
theorem tw15739510706857574539:True:=⟨⟩
theorem tw15719379531932169425:True:=⟨⟩
theorem tw15714442397158061078:True:=⟨⟩
theorem tw15619385324103564719:True:=⟨⟩
theorem tw15588797624472038824:True:=⟨⟩
theorem tw15469464710568188698:True:=⟨⟩
theorem tw14956453801515548419:True:=⟨⟩
theorem tw14482035203593570747:True:=⟨⟩
theorem tw14351815846391084512:True:=⟨⟩
theorem tw14198804511366014733:True:=⟨⟩
theorem tw14039405630376431505:True:=⟨⟩
theorem tw13996489343857179351:True:=⟨⟩
theorem tw13721959357347673814:True:=⟨⟩
theorem tw13113470002329013487:True:=⟨⟩
theorem tw1258617908405175253:True:=⟨⟩
theorem tw12574965437197804523:True:=⟨⟩
theorem tw12521879570430135574:True:=⟨⟩
theorem tw12495471971774290908:True:=⟨⟩
theorem tw12206540232404893080:True:=⟨⟩
theorem tw12139231899148182382:True:=⟨⟩
theorem tw1156856181279329085:True:=⟨⟩
theorem tw11345422444499490005:True:=⟨⟩
theorem tw11321170447216596311:True:=⟨⟩
theorem tw11078120375812295065:True:=⟨⟩
theorem tw11058438029439698543:True:=⟨⟩
theorem tw10701776798689294219:True:=⟨⟩
theorem tw10632307603958250273:True:=⟨⟩
theorem tw10354975144500828371:True:=⟨⟩
theorem tw10072145745131106444:True:=⟨⟩
theorem tw10050401270852043321:True:=⟨⟩
end PySem.W.Fast
end
open PySem PySem.W PyProof.Rows
set_option maxRecDepth 100000 in
set_option maxHeartbeats 0 in
theorem PySem.Challenge.cw_conekin_k21_forms_far_off_holds : PySem.Challenge.rw_conekin_k21_forms_far_off.Holds := by
 w_on;refine PySem.W.holds_law CR.ws λsaid=> ?_;k_head;(case hw=>w_witness2)
 k_fill
 refine CR.walk (l:=PySem.Challenge.rw_conekin_k21_forms_far_off) rfl rfl (λw h Y=>by first|exact PySem.W.kIn_of Y|exact PySem.W.km_in_of Y) ?cl ?F
 case cl=>
  intro w
  first|kernel_rfl|(trace_state;k_is)
 case F=>
  intro w mg mb mean fa h KX Tp hmg
  refine' CR.all_mk KX Tp hmg ?qT ?j8 ?jJ ?j9 ?yo ?qU ?qV ?oQ ?uB ?oR ?iX ?qW ?Bw ?qX ?yp ?lM ?qY ?lO ?oS ?oU ?lP ?Bx ?By ?uC ?m5 ?oV ?iY ?qZ ?oW ?jK ?kc ?oX ?lQ ?m6 ?lR ?m7 ?lS ?jL ?lT ?m8 ?lU ?m9 ?iZ ?CZ ?Hy ?Hz ?HA ?q8 ?uE ?oY ?ja ?q9 ?oZ ?pq ?HD ?nF ?lV ?HE ?y_bool ?BE ?HF ?HG ?jb ?HH ?uF ?iw ?HJ ?ap
  (case qT=>exact L2.fnAt)
  (case j8=>exact L2.fnAt)
  (case jJ=>exact L2.fnAt)
  (case j9=>exact L2.fnAt)
  (case yo=>exact L2.fnAt)
  (case qU=>exact L2.fnAt)
  (case qV=>exact L2.fnAt)
  (case oQ=>exact L2.fnAt)
  (case uB=>exact L2.fnAt)
  (case oR=>exact L2.fnAt)
  (case iX=>exact L2.fnAt)
  (case qW=>exact L2.fnAt)
  (case Bw=>exact L2.fnAt)
  (case qX=>exact L2.fnAt)
  (case yp=>exact L2.fnAt)
  (case lM=>exact L2.fnAt)
  (case qY=>exact L2.fnAt)
  (case lO=>exact L2.fnAt)
  (case oS=>exact L2.fnAt)
  (case oU=>exact L2.fnAt)
  (case lP=>exact L2.fnAt)
  (case Bx=>exact L2.fnAt)
  (case By=>exact L2.fnAt)
  (case uC=>exact L2.fnAt)
  (case m5=>exact L2.fnAt)
  (case oV=>exact L2.fnAt)
  (case iY=>exact L2.fnAt)
  (case qZ=>exact L2.fnAt)
  (case oW=>exact L2.fnAt)
  (case jK=>exact L2.fnAt)
  (case kc=>exact L2.fnAt)
  (case oX=>exact L2.fnAt)
  (case lQ=>exact L2.fnAt)
  (case m6=>exact L2.fnAt)
  (case lR=>exact L2.fnAt)
  (case m7=>exact L2.fnAt)
  (case lS=>exact L2.fnAt)
  (case jL=>exact L2.fnAt)
  (case lT=>exact L2.fnAt)
  (case m8=>exact L2.fnAt)
  (case lU=>exact L2.fnAt)
  (case m9=>exact L2.fnAt)
  (case iZ=>exact L2.fnAt)
  (case CZ=>k_is);(case Hy=>k_is);(case Hz=>k_is);(case HA=>k_is)
  (case q8=>rfl)
  (case uE=>rfl)
  (case oY=>rfl)
  (case ja=>rfl)
  (case q9=>rfl)
  (case oZ=>rfl)
  (case pq=>rfl)
  (case HD=>k_is)
  (case nF=>k_is)
  (case lV=>k_is)
  (case HE=>k_is)
  (case y_bool=>k_is)
  (case BE=>k_is)
  (case HF=>k_is)
  (case HG=>k_is)
  (case jb=>k_is)
  (case HH=>k_is)
  (case uF=>k_is)
  (case iw=>k_is)
  (case HJ=>k_is)
  (case ap=>kernel_rfl)
