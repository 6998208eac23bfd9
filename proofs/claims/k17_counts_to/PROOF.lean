import PyProof.Rows.All
import Wide.All
import Wide.FinOn
import PyProof.EqAt
import PyProof.EqKinds
import PyProof.TupleCall
import KE.KIsAll
import KE.KTryMore
import KE.KEqDeep
import KE.KEqSeq
import KE.KRegrown
import KE.KSortKey
import KE.KItem
import KE.KNestM
import OpenK.KOwn
import OpenK.KRaise
import OpenK.KWalk
import OpenK.KFacts
import OpenK.KMake
import OpenK.KExp
import OpenK.KDescr
import KE.KLam
import KE.KSortTup
import PyProof.Rows.SortRuns
import PyProof.Rows.RuleM_int
import PyProof.FactsAll.int_0
import PySem.Challenge.RW_conekin_k17_counts_to
set_option Elab.async false
set_option linter.all false
set_option maxRecDepth 100000
set_option genSizeOf false
noncomputable section
namespace L2
open PySem PySem.Spec PyProof.Rows
abbrev Key:=Sum Int Str
def Gb:Key->Value->Bool
 | .inl k,v=>Value.isInt k v
 | .inr x,v=>Value.isStrOf x v
def Ld(w:World):Key->Int
 | .inl k=>hashInt k
 | .inr x=>hashStr w x
theorem dG:∀{k:Key}{v:Value},Gb k v=true->(∃i t,k=Sum.inl i/\v=Value.int i t)∨(∃x t,k=Sum.inr x/\v=Value.str x t)
 | .inl i,v,h=>by
  obtain⟨t,e⟩:=Value.isInt_shape (k:=i) (v:=v) h
  exact .inl ⟨i,t,rfl,e⟩
 | .inr x,v,h=>by
  obtain⟨t,e⟩:=Value.isStrOf_shape (x:=x) (v:=v) h
  exact .inr ⟨x,t,rfl,e⟩
theorem GI(a b:Int):decide ((Sum.inl a:Key)=Sum.inl b)=(a==b):=by
 by_cases e:a=b
 ·subst e;simp
 ·have h:¬(Sum.inl a:Key)=Sum.inl b:=λq=>e (Sum.inl.inj q)
  rw[decide_eq_false h]
  exact(beq_eq_false_iff_ne.mpr e).symm
theorem GJ(a b:Str):decide ((Sum.inr a:Key)=Sum.inr b)=decide (a=b):=by
 by_cases e:a=b
 ·subst e;simp
 ·have h:¬(Sum.inr a:Key)=Sum.inr b:=λq=>e (Sum.inr.inj q)
  rw[decide_eq_false h,decide_eq_false e]
theorem GK(a:Int)(b:Str):decide ((Sum.inl a:Key)=Sum.inr b)=false:=decide_eq_false (λq=>nomatch q)
theorem GL(a:Str)(b:Int):decide ((Sum.inr a:Key)=Sum.inl b)=false:=decide_eq_false (λq=>nomatch q)
def yZ(prog:Program)(w:World):PySem.KeyKind prog w Key where
 is:=Gb
 hash:=Ld w
 inj:=λv a b ha hb=>by
  rcases dG ha with⟨i,t,rfl,rfl⟩|⟨x,t,rfl,rfl⟩
  ·rcases dG hb with⟨j,u,rfl,e⟩|⟨y,u,rfl,e⟩
   ·injection e with e1 _;rw[e1]
   ·exact nomatch e
  ·rcases dG hb with⟨j,u,rfl,e⟩|⟨y,u,rfl,e⟩
   ·exact nomatch e
   ·injection e with e1 _;rw[e1]
 byValue:=λk v h=>by
  rcases dG h with⟨i,t,rfl,rfl⟩|⟨x,t,rfl,rfl⟩<;>rfl
 pyHash:=λhv h=>by
  rcases dG hv with⟨i,t,rfl,rfl⟩|⟨x,t,rfl,rfl⟩
  ·exact wpAny_pyHash_int h
  ·exact wpAny_pyHash_str h
 eqBool:=λhu hv h=>by
  rcases dG hu with⟨i,t,rfl,rfl⟩|⟨x,t,rfl,rfl⟩
  ·rcases dG hv with⟨j,u,rfl,rfl⟩|⟨y,u,rfl,rfl⟩
   ·rw[GI]at h;exact wpAny_eqBool_int h
   ·rw[GK]at h;exact SeqAt.EqAt.int_str i t y u _ _ _ _ h
  ·rcases dG hv with⟨j,u,rfl,rfl⟩|⟨y,u,rfl,rfl⟩
   ·rw[GL]at h;exact SeqAt.EqAt.str_int x t j u _ _ _ _ h
   ·rw[GJ]at h;exact wpAny_eqBool_str h
 «strs» :=λk x t v h=>by
  rcases dG h with⟨i,u,rfl,e⟩|⟨y,u,rfl,e⟩
  ·exact nomatch e
  ·injection e with e1 _
   subst e1
   cases v<;>rfl
inductive V where
 |ig|bl (b:Bool)|int (i:Int)|str (x:Str)|BN (b:Array UInt8)|IF (b:UInt64)|ref (a:Addr)|ty (n:String)
 deriving DecidableEq
def RelV:V->Value->Prop
 | .ig,u=>u=Value.none
 | .bl b,u=>u=Value.bool b
 | .int i,u=> ∃t,u=Value.int i t
 | .str x,u=> ∃t,u=Value.str x t
 | .BN b,u=> ∃t,u=Value.bytes b t
 | .IF b,u=> ∃t,u=Value.float b t
 | .ref a,u=>u=Value.ref a
 | .ty n,u=>u=Value.type n
abbrev Vals:List V->List Value->Prop:=Paired RelV
theorem Vals.length{xs:List V}{us:List Value}(r:Vals xs us):xs.length=us.length:=Paired.length r
theorem Vals.get:∀{xs:List V}{us:List Value}{i:Nat}{x:V},Vals xs us->xs[i]?=some x-> ∃u,us[i]?=some u/\RelV x u
 |_,_,_,_,.nil,e=>by simp at e
 |_,_,0,_,.cons r _,e=>by simp at e;subst e;exact⟨_,rfl,r⟩
 |_,_,i+1,x,.cons _ t,e=>by
  obtain⟨u,h1,h2⟩:=Vals.get (i:=i) (x:=x) t (by simpa using e)
  exact⟨u,by simpa using h1,h2⟩
theorem Vals.set{x:V}{u:Value}(r:RelV x u):∀{xs:List V}{us:List Value}(i:Nat),Vals xs us->Vals (xs.set i x) (us.set i u)
 |_,_,_,.nil=> .nil
 |_,_,0,.cons _ t=> .cons r t
 |_,_,i+1,.cons q t=> .cons q (Vals.set r i t)
theorem Vals.append:∀{xs ys:List V}{us ws:List Value},Vals xs us->Vals ys ws->Vals (xs++ys) (us++ws)
 |_,_,_,_,.nil,s=>s
 |_,_,_,_,.cons r t,s=> .cons r (Vals.append t s)
theorem Vals.take:∀{xs:List V}{us:List Value}(n:Nat),Vals xs us->Vals (xs.take n) (us.take n)
 |_,_,0,_=> .nil
 |_,_,_+1,.nil=> .nil
 |_,_,n+1,.cons r t=> .cons r (Vals.take n t)
theorem Vals.drop:∀{xs:List V}{us:List Value}(n:Nat),Vals xs us->Vals (xs.drop n) (us.drop n)
 |_,_,0,r=>r
 |_,_,_+1,.nil=> .nil
 |_,_,n+1,.cons _ t=>Vals.drop n t
def GN:Option V->Option Value->Prop
 |some v,some u=>RelV v u
 |none,none=>True
 |_,_=>False
def KV{κ:Type}:List (κ×V) ->List (κ×Value) ->Prop:=Paired λ(p:κ×V)(q:κ×Value)=>p.1=q.1/\RelV p.2 q.2
def kV:Key->V
 | .inl i=> .int i
 | .inr x=> .str x
inductive HO where
 |lst(xs:List V)
 |tup(xs:List V)
 |dK(kvs:List (Key×V))|dT (kvs:List (List Key×V))
 |set(S:Int->Bool)(n:Nat)
 |ins(C dx:Addr)(fs:List (Str×V))
 |own(x:Addr)
 |xd(fs:List (Str×V))
 |met(f x:Addr)
 |Le(lo hi:Int)
 |tT(o:Obj)(u:HO)
 |GO(ps:Array Value)
 |ext(φ:Heap->Prop)
 |vE
abbrev Hp:=Addr->Option HO
def upd(H:Hp)(a:Addr)(o:HO):Hp:=λb=>if b=a then some o else H b
theorem av{H:Hp}{a:Addr}{o:HO}:upd H a o a=some o:=by unfold upd;rw[if_pos rfl]
theorem aH{H:Hp}{a b:Addr}{o:HO}(h:b≠a):upd H a o b=H b:=by unfold upd;rw[if_neg h]
theorem Et{H:Hp}{a:Addr}{o u:HO}:upd (upd H a o) a u=upd H a u:=by
 funext b;unfold upd;split<;>rfl
theorem cP{H:Hp}{a b:Addr}{o:HO}(h:H a=some o)(h':H b=none):a≠b:=by
 intro e;subst e;rw[h]at h';cases h'
section
variable(P:Program)(w:World)
def dW(H:Hp)(h:Heap)(a:Addr):HO->Prop
 | .lst xs=>xs.length<=sizeLine/\ ∃(its:List Value)(n:Nat),Vals xs its/\h.get? a=some {cls:= .type "list",data:= .seq its.toArray n}
 | .tup xs=>xs.length<=sizeLine/\ ∃its:List Value,Vals xs its/\IsTup h a its.toArray
 | .dK kvs=>kvs.length<=sizeLine/\(a==sysModules)=false/\ ∃vs,KV kvs vs/\h.DictOf (yZ P w) a vs
 | .dT kvs=>kvs.length<=sizeLine/\(a==sysModules)=false/\ ∃xs:List (List Key×Addr×Value),
   Paired (λ(p:List Key×V)(q:List Key×Addr×Value)=>p.1=q.1/\H q.2.1=some (.tup (p.1.map kV))/\RelV p.2 q.2.2) kvs xs/\
   ∃o es ep,h.get? a=some o/\o.ExactDict/\o.data= .dict es ep/\es.toList=xs.map (entryOfKey (tupleKind (yZ P w)))/\(xs.map (·.1)).Nodup
 | .set S n=>h.SetOf (intKind P w) a S n
 | .ins C dx fs=>H dx=some (.own a)/\fs.length<=1000/\dx≠a/\h.get? a=some (PySem.W.instObj C dx)/\
   ∃mA,h.Ns1 dx mA/\(∀f,GN (fs.lookup f) (mA f))/\PySem.Within mA (fs.map (·.1))
 | .own _=> ∃o,h.get? a=some o
 | .xd fs=> ∃mA,h.Ns1 a mA/\ ∀f,GN (fs.lookup f) (mA f)
 | .Le lo hi=> ∃t u v,h.get? a=some {cls:= .type "range",data:= .fields #[.int lo t,.int hi u,.int 1 v]}
 | .tT o u=>h.get? a=some o/\dW H h a u
 | .GO ps=>h.get? a=some {cls:= .none,data:= .fields ps}
 | .met f x=>h.get? a=some (PySem.W.methodObj (.ref f) (.ref x))
 | .ext φ=>φ h/\(∃o,h.get? a=some o)/\ ∀h1 h2:Heap,φ h1->(∀o,h1.get? a=some o->h2.get? a=some o) ->φ h2
 | .vE=> ∃ps:Array Value,h.get? a=some {cls:= .none,data:= .fields ps}/\TriplesOk ps.toList/\ ∀(pos:Pos)(cv:Value),codeAmong pos ps.toList=some cv->
   ∃(c:Addr)(oc:Obj)(vs:Array Value)(q:Str)(t:Tok),cv= .ref c/\H c=some (.tT oc (.ext λ_=>True))/\oc.data= .fields vs/\vs[1]?=some (.str q t)
def pW(H:Hp)(h:Heap):Prop:=∀a o,H a=some o->dW P w H h a o
end
section
variable{P:Program}{w:World}{H H':Hp}{h h':Heap}{a:Addr}{o:HO}
theorem dW.lt(x:dW P w H h a o):a<h.objs.size:=by
 cases o with
 |lst xs=>obtain⟨_,_,_,_,e⟩:=x;exact Heap.lt_size e
 |tup xs=>obtain⟨_,_,_,p⟩:=x;exact p.lt
 |dK kvs=>obtain⟨_,_,_,_,o,_,_,e,_⟩:=x;exact Heap.lt_size e
 |dT kvs=>obtain⟨_,_,_,_,o,_,_,e,_⟩:=x;exact Heap.lt_size e
 |set S n=>obtain⟨o,_,_,_,e,_⟩:=x;exact Heap.lt_size e
 |ins C dx fs=>obtain⟨_,_,_,e,_⟩:=x;exact Heap.lt_size e
 |own y=>obtain⟨_,e⟩:=x;exact Heap.lt_size e
 |xd fs=>obtain⟨_,⟨_,_,_,e,_⟩,_⟩:=x;exact Heap.lt_size e
 |Le lo hi=>obtain⟨_,_,_,e⟩:=x;exact Heap.lt_size e
 |tT ob u=>obtain⟨e,_⟩:=x;exact Heap.lt_size e
 |GO ps=>exact Heap.lt_size (show h.get? a=some _ from x)
 |met f y=>exact Heap.lt_size (show h.get? a=some _ from x)
 |ext φ=>obtain⟨_,⟨_,e⟩,_⟩:=x;exact Heap.lt_size e
 |vE=>obtain⟨_,e,_⟩:=x;exact Heap.lt_size e
theorem Paired.Jb{α β:Type}{F G:α->β->Prop}:∀{l₁:List α}{l₂:List β},Paired F l₁ l₂->(∀a b,F a b->G a b) ->Paired G l₁ l₂
 |_,_,.nil,_=> .nil
 |_,_,.cons r t,f=> .cons (f _ _ r) (Paired.Jb t f)
theorem dW.stay(x:dW P w H h a o)(k:∀b u,(b=a∨H b=some (.own a)) ->h.get? b=some u->h'.get? b=some u)
  (ho:∀b,H b=some (.own a) ->H' b=some (.own a))(ht:∀b xs,H b=some (.tup xs) ->H' b=some (.tup xs))(hz:∀b ob u,H b=some (.tT ob u) ->H' b=some (.tT ob u):=by first|exact λ_ _ _ q=>q|assumption):dW P w H' h' a o:=by
 induction o with
 |lst xs=>obtain⟨z,its,n,r,e⟩:=x;exact⟨z,its,n,r,k _ _ (.inl rfl) e⟩
 |tup xs=>obtain⟨z,its,r,ob,e,c⟩:=x;exact⟨z,its,r,ob,k _ _ (.inl rfl) e,c⟩
 |dK kvs=>obtain⟨z,y,vs,r,ob,es,ep,e,c⟩:=x;exact⟨z,y,vs,r,ob,es,ep,k _ _ (.inl rfl) e,c⟩
 |dT kvs=>
  obtain⟨z,y,xs,r,ob,es,ep,e,c⟩:=x
  exact⟨z,y,xs,Paired.Jb r λp q z=>⟨z.1,ht _ _ z.2.1,z.2.2⟩,ob,es,ep,k _ _ (.inl rfl) e,c⟩
 |set S n=>obtain⟨ob,es,ep,t,e,c⟩:=x;exact⟨ob,es,ep,t,k _ _ (.inl rfl) e,c⟩
 |ins C dx fs=>
  obtain⟨d,z,ne,e,mA,⟨od,es,ep,e2,c⟩,r⟩:=x
  exact⟨ho _ d,z,ne,k _ _ (.inl rfl) e,mA,⟨od,es,ep,k _ _ (.inr d) e2,c⟩,r⟩
 |own y=>obtain⟨ob,e⟩:=x;exact⟨ob,k _ _ (.inl rfl) e⟩
 |xd fs=>obtain⟨mA,⟨od,es,ep,e,c⟩,r⟩:=x;exact⟨mA,⟨od,es,ep,k _ _ (.inl rfl) e,c⟩,r⟩
 |Le lo hi=>obtain⟨t,u,v,e⟩:=x;exact⟨t,u,v,k _ _ (.inl rfl) e⟩
 |tT ob u ih=>obtain⟨e,q⟩:=x;exact⟨k _ _ (.inl rfl) e,ih q⟩
 |GO ps=>
  have e:h.get? a=some {cls:= .none,data:= .fields ps}:=x
  show h'.get? a=some {cls:= .none,data:= .fields ps}
  exact k a _ (.inl rfl) e
 |met f y=>
  have e:h.get? a=some (PySem.W.methodObj (.ref f) (.ref y)):=x
  show h'.get? a=some (PySem.W.methodObj (.ref f) (.ref y))
  exact k a _ (.inl rfl) e
 |ext φ=>obtain⟨p,⟨o,e⟩,st⟩:=x;exact⟨st _ _ p λo q=>k _ _ (.inl rfl) q,⟨o,k _ _ (.inl rfl) e⟩,st⟩
 |vE=>obtain⟨ps,e,t,r⟩:=x;exact⟨ps,k _ _ (.inl rfl) e,t,λpos cv q=>let⟨c,oc,vs,q2,t2,e1,e2,e3⟩:=r pos cv q;⟨c,oc,vs,q2,t2,e1,hz _ _ _ e2,e3⟩⟩
theorem pW.lt(x:pW P w H h)(e:H a=some o):a<h.objs.size:=(x a o e).lt
theorem pW.fresh(x:pW P w H h)(e:h.objs.size<=a):H a=none:=by
 cases q:H a with
 |none=>rfl
 |some u=>exact absurd (Nat.lt_of_lt_of_le (x.lt q) e) (Nat.lt_irrefl _)
theorem pW.kept(x:pW P w H h)(k:∀b u,h.get? b=some u->h'.get? b=some u):pW P w H h':=λa o e=>
 (x a o e).stay (λb u _ q=>k b u q) (λ_ q=>q) λ_ _ q=>q
theorem pW.laid(x:pW P w H h)(k:∀b u,h.get? b=some u->h'.get? b=some u)(hp:h.objs.size<=a)(new:dW P w (upd H a o) h' a o):pW P w (upd H a o) h':=λb u e=>by
 have hn:=x.fresh hp
 by_cases hb:b=a
 ·subst hb;rw[av]at e;cases e;exact new
 ·rw[aH hb]at e
  exact(x b u e).stay (λc v _ q=>k c v q) (λc q=>by rw[aH (cP q hn)];exact q) (λc xs q=>by rw[aH (cP q hn)];exact q) λc ob xs q=>by rw[aH (cP q hn)];exact q
end
def Rd(H:Hp)(a:Addr)(u:HO):Prop:=H a=some u∨ ∃o,H a=some (.tT o u)
theorem Rd.of{H:Hp}{a:Addr}{u:HO}(h:H a=some u):Rd H a u:= .inl h
theorem Rd.ok{P:Program}{w:World}{H:Hp}{h:Heap}{a:Addr}{u:HO}(r:Rd H a u)(x:pW P w H h):dW P w H h a u:=by
 rcases r with r|⟨o,r⟩
 ·exact x a u r
 ·obtain⟨_,q⟩:=x a _ r
  exact q
def Kw:Option HO->Prop
 |some (.lst _)=>True
 |some (.dK _)=>True
 |some (.dT _)=>True
 |some (.set _ _)=>True
 |some (.ins _ _ _)=>True
 |some (.ext _)=>True
 |some .vE=>True
 |_=>False
section
variable{P:Program}{w:World}{H:Hp}{h h':Heap}{x e:Addr}{o':HO}
theorem pW.write(ok:pW P w H h)(mu:Kw (H x))(he:e=x∨H e=some (.own x))(k:∀b u,b≠e->h.get? b=some u->h'.get? b=some u)(II:∃u,h'.get? e=some u)
  (new:dW P w (upd H x o') h' x o'):pW P w (upd H x o') h':=λb u q=>by
 have Jc:∀c y,H c=some (.own y) ->c≠x:=λc y r z=>by subst z;rw[r]at mu;exact mu
 have Lf:∀c xs,H c=some (.tup xs) ->c≠x:=λc xs r z=>by subst z;rw[r]at mu;exact mu
 by_cases hb:b=x
 ·subst hb;rw[av]at q;cases q;exact new
 ·rw[aH hb]at q
  by_cases GP:b=e
  ·have q':H b=some (.own x):=by
    rcases he with z|z
    ·exact absurd (GP.trans z) hb
    ·rw[GP];exact z
   rw[q]at q';cases q'
   obtain⟨v,hv⟩:=II
   exact⟨v,by rw[GP];exact hv⟩
  ·refine(ok b u q).stay (λc v hc r=>k c v ?_ r) (λc r=>by rw[aH (Jc c b r)];exact r) (λc xs r=>by rw[aH (Lf c xs r)];exact r) λc ob xs r=>by rw[aH (λz=>by subst z;rw[r]at mu;exact mu)];exact r
   rcases hc with rfl|hc
   ·exact GP
   ·rintro rfl
    rcases he with z|z
    ·exact Jc c b hc z
    ·rw[hc]at z;cases z;exact hb rfl
end
structure Un(fs ex:List Addr)(H H':Hp)(h h':Heap):Prop where
 keep:∀b o,h.get? b=some o->H b=none->b∉fs->b∉ex->h'.get? b=some o
 slot:∀b o,h.get? b=some o->H b=none->b∈fs->b∉ex-> ∃sl,h'.get? b=some {o with slots:=sl}
 free:∀b o,h.get? b=some o->H b=none->b∉ex->H' b=none
 there:∀b o,h.get? b=some o->b∉ex-> ∃o',h'.get? b=some o'
 tups:∀b xs,H b=some (.tup xs) ->H' b=some (.tup xs)
 pK:∀b o u,H b=some (.tT o u) ->H' b=some (.tT o u)
 p9:∀b ps,H b=some (.GO ps) -> ∃more,H' b=some (.GO (ps++more))
section
variable{fs fs' ex ex':List Addr}{H H1 H2:Hp}{h h1 h2 h':Heap}{a x e:Addr}{o:HO}
theorem Un.any(u:Un fs ex H H1 h h1){b:Addr}{ob:Obj}(q:h.get? b=some ob)(n:H b=none)(hx:b∉ex):∃sl,h1.get? b=some {ob with slots:=sl}:=by
 by_cases hb:b∈fs
 ·exact u.slot b ob q n hb hx
 ·exact⟨ob.slots,u.keep b ob q n hb hx⟩
theorem Un.trans(a:Un fs ex H H1 h h1)(b:Un fs ex H1 H2 h1 h2):Un fs ex H H2 h h2 where
 keep:=λc ob q n hc hx=>b.keep c ob (a.keep c ob q n hc hx) (a.free c ob q n hx) hc hx
 slot:=λc ob q n hc hx=>by
  obtain⟨sl,e1⟩:=a.slot c ob q n hc hx
  obtain⟨Lg,e2⟩:=b.slot c _ e1 (a.free c ob q n hx) hc hx
  exact⟨Lg,e2⟩
 free:=λc ob q n hx=>by
  obtain⟨o',e1⟩:=a.there c ob q hx
  exact b.free c o' e1 (a.free c ob q n hx) hx
 there:=λc ob q hx=>by
  obtain⟨o',e1⟩:=a.there c ob q hx
  exact b.there c o' e1 hx
 tups:=λc xs q=>b.tups c xs (a.tups c xs q)
 pK:=λc ob xs q=>b.pK c ob xs (a.pK c ob xs q)
 p9:=λc ps q=>by
  obtain⟨m1,e1⟩:=a.p9 c ps q
  obtain⟨m2,e2⟩:=b.p9 c _ e1
  exact⟨m1++m2,by rw[e2,Array.append_assoc]⟩
theorem Un.kept(k:∀b u,h.get? b=some u->h'.get? b=some u):Un fs ex H H h h':=
 ⟨λb ob q _ _ _=>k b ob q,λb ob q _ _ _=>⟨ob.slots,k b ob q⟩,λ_ _ _ n _=>n,λb ob q _=>⟨ob,k b ob q⟩,λ_ _ q=>q,λ_ _ _ q=>q,λ_ ps q=>⟨#[],by rw[q];simp⟩⟩
theorem Un.refl:Un fs ex H H h h:=Un.kept λ_ _ q=>q
theorem Un.laid(k:∀b u,h.get? b=some u->h'.get? b=some u)(hp:h.objs.size<=a)(hn:H a=none):Un fs ex H (upd H a o) h h' where
 keep:=λb u q _ _ _=>k b u q
 slot:=λb u q _ _ _=>⟨u.slots,k b u q⟩
 free:=λb u q n _=>by rw[aH (Nat.ne_of_lt (Nat.lt_of_lt_of_le (Heap.lt_size q) hp))];exact n
 there:=λb u q _=>⟨u,k b u q⟩
 tups:=λb xs q=>by rw[aH (cP q hn)];exact q
 pK:=λb u xs q=>by rw[aH (cP q hn)];exact q
 p9:=λb ps q=>⟨#[],by rw[aH (cP q hn),q];simp⟩
theorem Un.write(mu:Kw (H x))(he:e=x∨H e=some (.own x))(k:∀b u,b≠e->h.get? b=some u->h'.get? b=some u)(II:∃u,h'.get? e=some u):Un fs ex H (upd H x o) h h':=by
 have hx:∀b,H b=none->b≠x:=λb n z=>by subst z;rw[n]at mu;exact mu
 have hb:∀b,H b=none->b≠e:=λb n z=>by
  subst z
  rcases he with r|r
  ·exact hx b n r
  ·rw[n]at r;cases r
 have hm:∀b u,H b=some u-> ¬Kw (some u) ->b≠x:=λb u q nm z=>by subst z;rw[q]at mu;exact nm mu
 refine⟨λb u q n _ _=>k b u (hb b n) q,λb u q n _ _=>⟨u.slots,k b u (hb b n) q⟩,λb u q n _=>by rw[aH (hx b n)];exact n,λb u q _=> ?_,
  λb xs q=>by rw[aH (hm b _ q λz=>z)];exact q,λb u xs q=>by rw[aH (hm b _ q λz=>z)];exact q,λb ps q=>⟨#[],by rw[aH (hm b _ q λz=>z),q];simp⟩⟩
 by_cases GP:b=e
 ·subst GP;exact II
 ·exact⟨u,k b u GP q⟩
end
def Kx(h:Heap)(H:Hp):List Addr:=(List.range h.objs.size).filter λa=>(H a).isSome
def rC(h:Heap)(H:Hp):Heap:=PySem.W.hideAll h (Kx h H)
theorem z9(h:Heap)(H:Hp):(rC h H).objs.size=h.objs.size:=PySem.W.hideAll_size _ _
theorem BO{h:Heap}{H:Hp}{b:Addr}{o:Obj}(e:h.get? b=some o)(n:H b=none):(rC h H).get? b=some o:=
 PySem.W.hideAll_get _ e λhm=>by
  have q:(H b).isSome=true:=(List.mem_filter.mp hm).2
  rw[n]at q;simp at q
theorem Eu{h:Heap}{H:Hp}{b:Addr}{o:Obj}(e:(rC h H).get? b=some o):h.get? b=some o/\H b=none:=by
 have e':h.get? b=some o:=PySem.W.of_hideAll (Kx h H) e
 refine⟨e',?_⟩
 cases q:H b with
 |none=>rfl
 |some x=>
  have hm:b∈Kx h H:=List.mem_filter.mpr ⟨List.mem_range.mpr (Heap.lt_size e'),by simp[q]⟩
  have z:(rC h H).get? b=none:=PySem.W.hideAll_none (Kx h H) hm
  rw[z]at e;cases e
def Ew(g h:Heap)(L:Addr):List (Addr×Obj):=(List.range h.objs.size).filterMap λa=>if a=L∨(g.get? a).isSome=true then none else(h.get? a).map λo=>(a,o)
def rest(g h:Heap)(L d:Addr):List (Addr×Obj):=(Ew g h L).filter λp=>decide (p.1≠d)
structure Mod(K:PySem.W.Frag)(mg:Str->Option Value)(base:Heap):Prop where
 IJ:K.In base
 glob:base.Ns mainGlobals mg
 blt:∃mb,base.Ns builtinsNs mb/\ ∀x:Str,x≠ "__name__" ->mb x=bootBuiltins x
 nolimit:base.NoLimit
structure Cx where
 prog:Program
 w:World
 K:PySem.W.Frag
 mg:Str->Option Value
 base:Heap
 A:Around
 N:List Str
 s₀:Shared
 H₀:Hp
 env:Env
 outer:List Env
 stack:List Env
 ex:List Addr
 fn:Str->Bool
 calm:Bool
 pn:List (Addr×Obj)
 xe:Value->Shared->Prop
def frs(l:List Env):List Addr:=l.filterMap (·.frame)
abbrev Cx.fs(X:Cx):List Addr:=frs X.outer
def Gd(sc:Scope)(x:Str):Prop:=sc.names.lookup x=some .local∨sc.names.lookup x=some .cell∨sc.names.lookup x=some .free
def Loc(sc:Scope)(x:Str):Prop:=sc.names.lookup x=some .local∨sc.names.lookup x=some .cell
def Look(env:Env)(h:Heap)(m:Str->Option Value)(x:Str)(u:Value):Prop:=
 (env.kindOf x=some .local/\m x=some u)∨((env.kindOf x=some .cell∨env.kindOf x=some .free)/\ ∃c,env.cells.lookup x=some c/\h.IsCell c (some u))
structure Cx.Ok(X:Cx):Prop where
 mod:Mod X.K X.mg X.base
 kind:X.env.scope.kind= .function
 glob:X.env.globals=mainGlobals
 blt:X.env.builtins=builtinsNs
 above:X.s₀.heap.objs.size<=X.env.locals
 inj:∀x y c,X.env.cells.lookup x=some c->X.env.cells.lookup y=some c->x=y
 has:∀x,(X.env.kindOf x=some .cell∨X.env.kindOf x=some .free) -> ∃c,X.env.cells.lookup x=some c
 Jd:∀x c,X.fn x=true->X.env.cells.lookup x=some c->X.s₀.heap.objs.size<=c
 hd:X.calm=true->X.A.handled=none
 frames:X.A.frames=some X.stack
 stk:X.stack=X.outer∨(X.stack=X.env::X.outer/\X.env.frame=some X.env.locals)
 IK:∀b∈X.ex,b≠X.env.locals/\ ∀x c,X.env.cells.lookup x=some c->c≠b
 bs:∀b o,X.base.get? b=some o->X.s₀.heap.get? b=some o/\X.H₀ b=none
 Ex:X.base.objs.size<=X.s₀.heap.objs.size
 Aa:∀b o,X.base.get? b=some o->b∉X.ex
 Ab:∀b∈X.ex,b∉X.fs
 pL:X.s₀.heap.FunFrames X.base X.outer
 IL:∀b∈X.fs,X.H₀ b=none
structure BP(a b:Array GenState):Prop where
 bare:AllBare b
 size:a.size<=b.size
 old:∀k,k<a.size->b[k]?=a[k]?
theorem BP.refl{a:Array GenState}(h:AllBare a):BP a a:=⟨h,Nat.le_refl _,λ_ _=>rfl⟩
theorem BP.trans{a b c:Array GenState}(x:BP a b)(y:BP b c):BP a c:=⟨y.bare,Nat.le_trans x.size y.size,λk h=>(y.old k (Nat.lt_of_lt_of_le h x.size)).trans (x.old k h)⟩
structure Inv(X:Cx)(pins:List (Addr×Obj))(σ:List (Option V))(H:Hp)(s:Shared):Prop where
 ok:X.Ok
 os:s.os=X.s₀.os
 bare:BP X.s₀.gens s.gens
 base:Un X.fs X.ex X.H₀ H X.s₀.heap s.heap
 loc:∃m,s.heap.Ns X.env.locals m/\ ∀(i:Nat)(x:Str)(v:V),X.N[i]?=some x->σ[i]?=some (some v) ->Gd X.env.scope x-> ∃u,RelV v u/\Look X.env s.heap m x u
 cell:∀x c,X.env.cells.lookup x=some c-> ∃v,s.heap.IsCell c v
 free:H X.env.locals=none
 kL:∀x c,X.env.cells.lookup x=some c->H c=none
 pin:∀p∈X.pn++pins,s.heap.get? p.1=some p.2/\H p.1=none/\p.1≠X.env.locals/\p.1∉X.fs/\ ∀v,p.2.data≠ .cell v
 hok:pW X.prog X.w H s.heap
 len:σ.length=X.N.length
section
variable{X:Cx}{pins:List (Addr×Obj)}{σ:List (Option V)}{H H':Hp}{s:Shared}{h':Heap}
theorem Cx.Ok.Lh(ok:X.Ok){b:Addr}{o:Obj}(e:X.base.get? b=some o):b∉X.fs:=λhb=>by
 have:=(ok.pL.mem hb).1
 rw[e]at this;cases this
theorem Inv.bs(I:Inv X pins σ H s):∀b o,X.base.get? b=some o->s.heap.get? b=some o/\H b=none:=λb o e=>
 ⟨I.base.keep b o (I.ok.bs b o e).1 (I.ok.bs b o e).2 (I.ok.Lh e) (I.ok.Aa b o e),I.base.free b o (I.ok.bs b o e).1 (I.ok.bs b o e).2 (I.ok.Aa b o e)⟩
theorem Inv.bk(I:Inv X pins σ H s):∀b o,X.base.get? b=some o->s.heap.get? b=some o:=λb o e=>(I.bs b o e).1
theorem Inv.mod(I:Inv X pins σ H s):Mod X.K X.mg X.base:=I.ok.mod
theorem Inv.tU(I:Inv X pins σ H s):X.K.In s.heap:=I.ok.mod.IJ.keeps I.bk
theorem Inv.nolimit(I:Inv X pins σ H s):s.heap.NoLimit:=I.ok.mod.nolimit.keeps I.bk
theorem Inv.lt(I:Inv X pins σ H s):X.env.locals<s.heap.objs.size:=let⟨_,hn,_⟩:=I.loc;hn.lt
theorem Inv.sz(I:Inv X pins σ H s):X.s₀.heap.objs.size<=s.heap.objs.size:=Nat.le_trans I.ok.above (Nat.le_of_lt I.lt)
theorem Inv.Je(I:Inv X pins σ H s){a:Addr}(h:s.heap.objs.size<=a):a∉X.fs:=λhb=>by
 obtain⟨_,o,ho,_⟩:=I.ok.pL.mem hb
 exact absurd (Nat.lt_of_lt_of_le (Heap.lt_size ho) (Nat.le_trans I.sz h)) (Nat.lt_irrefl _)
theorem Inv.GQ(I:Inv X pins σ H s):∀x c,X.env.cells.lookup x=some c->c≠X.env.locals:=λx c e z=>by
 obtain⟨v,o,ho,hd⟩:=I.cell x c e
 obtain⟨m,⟨o',es,ep,ho',hd',_⟩,_⟩:=I.loc
 rw[z,ho']at ho;cases ho;rw[hd']at hd;cases hd
theorem Inv.pL(I:Inv X pins σ H s):s.heap.FunFrames X.base X.outer:=by
 have all:∀(l:List Env),(∀b∈frs l,b∈X.fs) ->X.s₀.heap.FunFrames X.base l->s.heap.FunFrames X.base l:=by
  intro l
  induction l with
  |nil=>intro _ _;trivial
  |cons env r ih=>
   intro hs hl
   obtain⟨hk,⟨L,o,hf,hn,ho,hd⟩,hr⟩:=hl
   have hL:L∈X.fs:=hs L (by unfold frs;rw[List.filterMap_cons,hf];exact List.mem_cons_self)
   obtain⟨sl,e⟩:=I.base.slot L o ho (I.ok.IL L hL) hL λz=>I.ok.Ab L z hL
   exact⟨hk,⟨L,_,hf,hn,e,hd⟩,ih (λb hb=>hs b (by unfold frs;rw[List.filterMap_cons,hf];exact List.mem_cons_of_mem _ hb)) hr⟩
 exact all X.outer (λ_ hb=>hb) I.ok.pL
theorem Inv.stack(I:Inv X pins σ H s):s.heap.FunFrames X.base X.stack:=by
 rcases I.ok.stk with e|⟨e,hf⟩
 ·rw[e];exact I.pL
 ·rw[e]
  obtain⟨m,hn,_⟩:=I.loc
  refine .cons (by rw[I.ok.kind];decide) hf hn ?_ I.pL
  exact Heap.get?_none_of_le (Nat.le_trans I.ok.Ex I.ok.above)
theorem Inv.qa(I:Inv X pins σ H s):∀b∈frs X.stack,b∈X.env.locals::X.fs:=λb hb=>by
 rcases I.ok.stk with e|⟨e,hf⟩
 ·rw[e]at hb;exact List.mem_cons_of_mem _ hb
 ·rw[e]at hb
  unfold frs at hb
  rw[List.filterMap_cons,hf]at hb
  exact hb
theorem Inv.pX(I:Inv X pins σ H s):∀b∈frs X.stack,H b=none:=λb hb=>by
 rcases List.mem_cons.mp (I.qa b hb)with e|hb
 ·rw[e];exact I.free
 ·obtain⟨_,o,ho,_⟩:=I.ok.pL.mem hb
  exact I.base.free b o ho (I.ok.IL b hb) λz=>I.ok.Ab b z hb
theorem Inv.step{g':Array GenState}{t':Nat}{d':Drawn}{ch:List Addr}(I:Inv X pins σ H s)
  (hch:∀b∈ch,(b∈X.ex∨X.s₀.heap.objs.size<=b)/\b≠X.env.locals/\(∀x c,X.env.cells.lookup x=some c->c≠b)/\ ∀p∈X.pn++pins,p.1≠b)
  (keep:∀b o,b≠X.env.locals->b∉X.fs->b∉ch->s.heap.get? b=some o->H b=none->h'.get? b=some o)
  (slot:∀b o,b≠X.env.locals->b∈X.fs->b∉ch->s.heap.get? b=some o->H b=none-> ∃sl,h'.get? b=some {o with slots:=sl})(free:∀b o,b∉ch->s.heap.get? b=some o->H b=none->H' b=none)
  (there:∀b o,b∉ch->s.heap.get? b=some o-> ∃o',h'.get? b=some o')
  (tups:∀b xs,H b=some (.tup xs) ->H' b=some (.tup xs))(pK:∀b o u,H b=some (.tT o u) ->H' b=some (.tT o u))(p9:∀b ps,H b=some (.GO ps) -> ∃more,H' b=some (.GO (ps++more)))
  (ns:∀m,s.heap.Ns X.env.locals m->h'.Ns X.env.locals m)(hok:pW X.prog X.w H' h')(hg:BP s.gens g'):
  Inv X pins σ H' {s with heap:=h',gens:=g',drawn:=d',toks:=t'}:=by
 have MI:∀b o,X.s₀.heap.get? b=some o->b≠X.env.locals:=λb o e=>Nat.ne_of_lt (Nat.lt_of_lt_of_le (Heap.lt_size e) I.ok.above)
 have IM:∀b o,X.s₀.heap.get? b=some o->b∉X.ex->b∉ch:=λb o e hx hb=>by
  rcases(hch b hb).1 with z|z
  ·exact hx z
  ·exact absurd (Nat.lt_of_lt_of_le (Heap.lt_size e) z) (Nat.lt_irrefl _)
 have cellK:∀x c,X.env.cells.lookup x=some c-> ∀v,s.heap.IsCell c v->h'.IsCell c v:=λx c e v ⟨o,ho,hd⟩=>by
  have Jf:c∉ch:=λz=>(hch c z).2.2.1 x c e rfl
  by_cases hc:c∈X.fs
  ·obtain⟨sl,q⟩:=slot c o (I.GQ x c e) hc Jf ho (I.kL x c e)
   exact⟨_,q,hd⟩
  ·exact⟨o,keep c o (I.GQ x c e) hc Jf ho (I.kL x c e),hd⟩
 refine⟨I.ok,I.os,I.bare.trans hg,⟨λb o e n hb hx=> ?_,λb o e n hb hx=> ?_,λb o e n hx=> ?_,λb o e hx=> ?_,λb xs e=>tups b xs (I.base.tups b xs e),λb o xs e=>pK b o xs (I.base.pK b o xs e),λb ps e=> ?_⟩,?_,λx c e=> ?_,?_,λx c e=> ?_,λp hp=> ?_,hok,I.len⟩
 ·exact keep b o (MI b o e) hb (IM b o e hx) (I.base.keep b o e n hb hx) (I.base.free b o e n hx)
 ·obtain⟨sl,e1⟩:=I.base.slot b o e n hb hx
  obtain⟨Lg,e2⟩:=slot b _ (MI b o e) hb (IM b o e hx) e1 (I.base.free b o e n hx)
  exact⟨Lg,e2⟩
 ·obtain⟨o',e1⟩:=I.base.there b o e hx
  exact free b o' (IM b o e hx) e1 (I.base.free b o e n hx)
 ·obtain⟨o',e1⟩:=I.base.there b o e hx
  exact there b o' (IM b o e hx) e1
 ·obtain⟨m1,e1⟩:=I.base.p9 b ps e
  obtain⟨m2,e2⟩:=p9 b _ e1
  exact⟨m1++m2,by rw[e2,Array.append_assoc]⟩
 ·obtain⟨m,hn,hl⟩:=I.loc
  refine⟨m,ns m hn,λi x v e1 e2 e3=> ?_⟩
  obtain⟨u,r,l⟩:=hl i x v e1 e2 e3
  refine⟨u,r,?_⟩
  rcases l with l|⟨k,c,e,z⟩
  ·exact .inl l
  ·exact .inr ⟨k,c,e,cellK x c e _ z⟩
 ·obtain⟨v,z⟩:=I.cell x c e
  exact⟨v,cellK x c e v z⟩
 ·obtain⟨m,⟨o,_,_,ho,_⟩,_⟩:=I.loc
  exact free _ o (λz=>(hch _ z).2.1 rfl) ho I.free
 ·obtain⟨v,o,ho,hd⟩:=I.cell x c e
  exact free c o (λz=>(hch c z).2.2.1 x c e rfl) ho (I.kL x c e)
 ·obtain⟨e,n,ne,nf,d⟩:=I.pin p hp
  have Jf:p.1∉ch:=λz=>(hch p.1 z).2.2.2 p hp rfl
  exact⟨keep p.1 p.2 ne nf Jf e n,free p.1 p.2 Jf e n,ne,nf,d⟩
theorem Inv.un{t':Nat}(I:Inv X pins σ H s)(u:Un X.fs [] H H' s.heap h')(hok:pW X.prog X.w H' h'):Inv X pins σ H' {s with heap:=h',toks:=t'}:=by
 obtain⟨m,⟨o,es,ep,ho,r⟩,_⟩:=id I.loc
 obtain⟨sl,hL⟩:=u.any ho I.free (by simp)
 exact I.step (g':=s.gens) (d':=s.drawn) (ch:=[]) (λ_ z=>nomatch z) (λb o _ hb _ e n=>u.keep b o e n hb (by simp)) (λb o _ hb _ e n=>u.slot b o e n hb (by simp)) (λb o _ e n=>u.free b o e n (by simp)) (λb o _ e=>u.there b o e (by simp)) u.tups u.pK u.p9 (λm' hm=>by
  obtain⟨o',es',Li,ho',r'⟩:=hm
  rw[ho]at ho';cases ho'
  exact⟨_,es',Li,hL,r'⟩) hok (.refl I.bare.bare)
theorem Inv.call{g':Array GenState}{t':Nat}{d':Drawn}{ch:List Addr}(I:Inv X pins σ H s)(u:Un (frs X.stack) ch H H' s.heap h')(hok:pW X.prog X.w H' h')(hg:BP s.gens g')
  (hch:∀b∈ch,(b∈X.ex∨X.s₀.heap.objs.size<=b)/\b≠X.env.locals/\(∀x c,X.env.cells.lookup x=some c->c≠b)/\ ∀p∈X.pn++pins,p.1≠b):
  Inv X pins σ H' {s with heap:=h',gens:=g',drawn:=d',toks:=t'}:=by
 obtain⟨m,⟨o,es,ep,ho,r⟩,_⟩:=id I.loc
 obtain⟨sl,hL⟩:=u.any ho I.free λz=>(hch _ z).2.1 rfl
 exact I.step (ch:=ch) hch (λb o hL hb hc e n=>u.keep b o e n (λz=>(List.mem_cons.mp (I.qa b z)).elim hL hb) hc) (λb o _ _ hc e n=>u.any e n hc) (λb o hc e n=>u.free b o e n hc) (λb o hc e=>u.there b o e hc) u.tups u.pK u.p9 (λm' hm=>by
  obtain⟨o',es',Li,ho',r'⟩:=hm
  rw[ho]at ho';cases ho'
  exact⟨_,es',Li,hL,r'⟩) hok hg
theorem Inv.turned{t':Nat}{it:Addr}(I:Inv X pins σ H s)(k:∀b o,b≠it->s.heap.get? b=some o->h'.get? b=some o)(hn:H it=none)(hL:it≠X.env.locals)
  (h1:it∈X.ex∨X.s₀.heap.objs.size<=it)(h2:∀x c,X.env.cells.lookup x=some c->c≠it)(h3:∀p∈X.pn++pins,p.1≠it):Inv X pins σ H {s with heap:=h',toks:=t'}:=by
 have Jg:∀b u,H b=some u->b≠it:=λb u e z=>by rw[z,hn]at e;cases e
 refine I.step (g':=s.gens) (d':=s.drawn) (ch:=[it]) (λb hb=> ?_) (λb o _ _ hc e _=>k b o (λz=>hc (by simp[z])) e) (λb o _ _ hc e _=>⟨o.slots,k b o (λz=>hc (by simp[z])) e⟩) (λ_ _ _ _ n=>n)
  (λb o hc e=>⟨o,k b o (λz=>hc (by simp[z])) e⟩) (λ_ _ e=>e) (λ_ _ _ e=>e) (λb ps e=>⟨#[],by rw[e];simp⟩) (λm hm=> ?_) (λb u e=> ?_) (.refl I.bare.bare)
 ·have e:b=it:=by simpa using hb
  subst e
  exact⟨h1,hL,h2,h3⟩
 ·obtain⟨o,es,ep,ho,r⟩:=hm
  exact⟨o,es,ep,k _ o (Ne.symm hL) ho,r⟩
 ·refine(I.hok b u e).stay (λc v hc q=>k c v ?_ q) (λ_ q=>q) λ_ _ q=>q
  rcases hc with z|z
  ·rw[z];exact Jg b u e
  ·exact Jg c _ z
theorem Inv.tok(I:Inv X pins σ H s)(t:Nat):Inv X pins σ H {s with toks:=t}:=I.un (h':=s.heap) (t':=t) Un.refl I.hok
theorem Inv.kept{t':Nat}(I:Inv X pins σ H s)(k:∀b u,s.heap.get? b=some u->h'.get? b=some u):Inv X pins σ H {s with heap:=h',toks:=t'}:=I.un (Un.kept k) (I.hok.kept k)
theorem Inv.laid{a:Addr}{o:HO}{t':Nat}(I:Inv X pins σ H s)(k:∀b u,s.heap.get? b=some u->h'.get? b=some u)(hp:s.heap.objs.size<=a)(new:dW X.prog X.w (upd H a o) h' a o):
  Inv X pins σ (upd H a o) {s with heap:=h',toks:=t'}:=I.un (Un.laid k hp (I.hok.fresh hp)) (I.hok.laid k hp new)
theorem Inv.write{x e:Addr}{o:HO}{t':Nat}(I:Inv X pins σ H s)(mu:Kw (H x))(he:e=x∨H e=some (.own x))(k:∀b u,b≠e->s.heap.get? b=some u->h'.get? b=some u)(II:∃u,h'.get? e=some u)
  (new:dW X.prog X.w (upd H x o) h' x o):Inv X pins σ (upd H x o) {s with heap:=h',toks:=t'}:=I.un (Un.write mu he k II) (I.hok.write mu he k II new)
theorem Inv.iw{m6:List (Addr×Obj)}(I:Inv X pins σ H s)(h:∀p∈m6,s.heap.get? p.1=some p.2/\H p.1=none/\p.1≠X.env.locals/\p.1∉X.fs/\ ∀v,p.2.data≠ .cell v):Inv X m6 σ H s:=
 ⟨I.ok,I.os,I.bare,I.base,I.loc,I.cell,I.free,I.kL,λp hp=>(List.mem_append.mp hp).elim (λz=>I.pin p (List.mem_append_left _ z)) (h p),I.hok,I.len⟩
theorem vF{N:List Str}(hN:N.Nodup){i j:Nat}{x:Str}(a:N[i]?=some x)(b:N[j]?=some x):i=j:=by
 obtain⟨h1,e1⟩:=List.getElem?_eq_some_iff.mp a
 obtain⟨h2,e2⟩:=List.getElem?_eq_some_iff.mp b
 exact(List.getElem_inj hN).mp (e1.trans e2.symm)
theorem su{M:Model}{A:Around}{E:Value->Shared->Prop}{i:Nat}{x:Str}{v:V}{u:Value}{Q:Unit->Shared->Prop}(I:Inv X pins σ H s)(hN:X.N.Nodup)(hi:X.N[i]?=some x)(hx:Loc X.env.scope x)(r:RelV v u)
  (h:∀s',Inv X pins (σ.set i (some v)) H s'->(∃a,Heap.SameBut a s.heap s'.heap/\(a=X.env.locals∨X.env.cells.lookup x=some a)) ->Q () s')(hf:X.fn x=true∨X.env.scope.names.lookup x=some .local:=by first|exact .inl rfl|exact .inr rfl|assumption):wpAny M A (storeName X.env x u) Q E s:=by
 obtain⟨m,hn,hl⟩:=id I.loc
 have hcls:(X.env.scope.kind== .class||(X.env.scope.kind== .module && X.env.locals !=X.env.globals))=false:=by rw[I.ok.kind];rfl
 have Jh:i<σ.length:=by rw[I.len];exact(List.getElem?_eq_some_iff.mp hi).1
 have GQ:=I.GQ
 have tracked:∀{a:Addr}{h':Heap},(∃o,s.heap.get? a=some o/\H a=none) ->Heap.SameBut a s.heap h'->pW X.prog X.w H h':=λ {a h'} ha hs b ob e=>by
  obtain⟨_,_,hfree⟩:=ha
  refine(I.hok b ob e).stay (λc w' hc q=>(hs.2 c ?_).trans q) (λ_ q=>q) λ_ _ q=>q
  rintro rfl
  rcases hc with rfl|hc
  ·rw[hfree]at e;cases e
  ·rw[hfree]at hc;cases hc
 rcases hx with hk|hk
 ·refine wpAny_storeName_local hk hn (λh' hn' hs=> ?_) hcls
  obtain⟨oL,_,_,Ky,_⟩:=id hn
  refine h _ ⟨I.ok,I.os,I.bare,⟨λb o e n hb hx=> ?_,λb o e n hb hx=> ?_,I.base.free,λb o e hx=> ?_,I.base.tups,I.base.pK,I.base.p9⟩,⟨_,hn',λj y v' e1 e2 e3=> ?_⟩,λy c e=> ?_,I.free,I.kL,λp hp=> ?_,tracked ⟨oL,Ky,I.free⟩ hs,by simpa using I.len⟩ ⟨_,hs,.inl rfl⟩
  ·exact(hs.2 b (Nat.ne_of_lt (Nat.lt_of_lt_of_le (Heap.lt_size e) I.ok.above))).trans (I.base.keep b o e n hb hx)
  ·obtain⟨sl,e1⟩:=I.base.slot b o e n hb hx
   exact⟨sl,(hs.2 b (Nat.ne_of_lt (Nat.lt_of_lt_of_le (Heap.lt_size e) I.ok.above))).trans e1⟩
  ·obtain⟨o',e1⟩:=I.base.there b o e hx
   exact⟨o',(hs.2 b (Nat.ne_of_lt (Nat.lt_of_lt_of_le (Heap.lt_size e) I.ok.above))).trans e1⟩
  ·by_cases hj:j=i
   ·subst hj
    rw[hi]at e1;cases e1
    rw[List.getElem?_set_self Jh]at e2
    cases e2
    exact⟨u,r,.inl ⟨hk,by simp⟩⟩
   ·rw[List.getElem?_set_ne (Ne.symm hj)]at e2
    obtain⟨u',r',q⟩:=hl j y v' e1 e2 e3
    refine⟨u',r',?_⟩
    rcases q with⟨k,e⟩|⟨k,c,e,z⟩
    ·refine .inl ⟨k,?_⟩
     have:y≠x:=λe=>hj (vF hN e1 (e▸hi))
     simp[this,e]
    ·exact .inr ⟨k,c,e,z.sameBut hs (GQ y c e)⟩
  ·obtain⟨w',z⟩:=I.cell y c e
   exact⟨w',z.sameBut hs (GQ y c e)⟩
  ·obtain⟨e,n,ne,nf,d⟩:=I.pin p hp
   exact⟨(hs.2 p.1 ne).trans e,n,ne,nf,d⟩
 ·have hfn:X.fn x=true:=by
   rcases hf with z|z
   ·exact z
   ·rw[z]at hk;cases hk
  obtain⟨c,hc⟩:=I.ok.has x (.inl hk)
  obtain⟨w',z⟩:=I.cell x c hc
  refine wpAny_storeName_cell I.ok.kind hk hc z (λh' hc' hs=> ?_)
  obtain⟨oc,hoc,Lj⟩:=id z
  refine h {s with heap:=h'} ⟨I.ok,I.os,I.bare,⟨λb o e n hb hx=> ?_,λb o e n hb hx=> ?_,I.base.free,λb o e hx=> ?_,I.base.tups,I.base.pK,I.base.p9⟩,⟨m,hn.sameBut hs (Ne.symm (GQ x c hc)),λj y v' e1 e2 e3=> ?_⟩,λy c' e=> ?_,I.free,I.kL,λp hp=> ?_,tracked ⟨oc,hoc,I.kL x c hc⟩ hs,by simpa using I.len⟩ ⟨c,hs,.inr hc⟩
  ·exact(hs.2 b (Nat.ne_of_lt (Nat.lt_of_lt_of_le (Heap.lt_size e) (I.ok.Jd x c hfn hc)))).trans (I.base.keep b o e n hb hx)
  ·obtain⟨sl,e1⟩:=I.base.slot b o e n hb hx
   exact⟨sl,(hs.2 b (Nat.ne_of_lt (Nat.lt_of_lt_of_le (Heap.lt_size e) (I.ok.Jd x c hfn hc)))).trans e1⟩
  ·obtain⟨o',e1⟩:=I.base.there b o e hx
   exact⟨o',(hs.2 b (Nat.ne_of_lt (Nat.lt_of_lt_of_le (Heap.lt_size e) (I.ok.Jd x c hfn hc)))).trans e1⟩
  ·by_cases hj:j=i
   ·subst hj
    rw[hi]at e1;cases e1
    rw[List.getElem?_set_self Jh]at e2
    cases e2
    exact⟨u,r,.inr ⟨.inl hk,c,hc,hc'⟩⟩
   ·rw[List.getElem?_set_ne (Ne.symm hj)]at e2
    obtain⟨u',r',q⟩:=hl j y v' e1 e2 e3
    refine⟨u',r',?_⟩
    rcases q with q|⟨k,c',e,z'⟩
    ·exact .inl q
    ·refine .inr ⟨k,c',e,z'.sameBut hs ?_⟩
     rintro rfl
     exact hj (vF hN e1 (I.ok.inj _ _ _ e hc▸hi))
  ·by_cases hcc:c'=c
   ·subst hcc;exact⟨_,hc'⟩
   ·obtain⟨w2,z2⟩:=I.cell y c' e
    exact⟨w2,z2.sameBut hs hcc⟩
  ·obtain⟨e,n,ne,nf,d⟩:=I.pin p hp
   refine⟨(hs.2 p.1 ?_).trans e,n,ne,nf,d⟩
   intro q
   rw[q,hoc]at e
   have q':oc=p.2:=Option.some.inj e
   exact d w' (by rw[<-q'];exact Lj)
theorem iF{M:Model}{A:Around}{E:Value->Shared->Prop}{i:Nat}{x:Str}{v:V}{u:Value}{Q:Unit->Shared->Prop}(I:Inv X pins σ H s)(hN:X.N.Nodup)(hi:X.N[i]?=some x)(hx:Loc X.env.scope x)(r:RelV v u)
  (h:∀s',Inv X pins (σ.set i (some v)) H s'->Q () s')(hf:X.fn x=true∨X.env.scope.names.lookup x=some .local:=by first|exact .inl rfl|exact .inr rfl|assumption):wpAny M A (storeName X.env x u) Q E s:=
 su I hN hi hx r (λs' I' _=>h s' I') hf
theorem Inv.BQ{s':Shared}{ch:List Addr}(I:Inv X pins σ H s)(ho:s'.os=s.os)(u:Un (frs X.stack) ch H H' s.heap s'.heap)(hok:pW X.prog X.w H' s'.heap)(hg:BP s.gens s'.gens)
  (hch:∀b∈ch,(b∈X.ex∨X.s₀.heap.objs.size<=b)/\b≠X.env.locals/\(∀x c,X.env.cells.lookup x=some c->c≠b)/\ ∀p∈X.pn++pins,p.1≠b):Inv X pins σ H' s':=by
 obtain⟨h',g',d',t',o'⟩:=s'
 have e:o'=s.os:=ho
 subst e
 exact I.call (g':=g') (t':=t') (d':=d') u hok hg hch
end
abbrev XK:=Value->Option Addr->Hp->Prop
abbrev St:=List (Option V)
abbrev VK:=V->Hp->Prop
abbrev TE:=St->Hp->VK->Prop
abbrev TT:=St->Hp->(Bool->Hp->Prop) ->Prop
abbrev TA:=St->Hp->(List V->Hp->Prop) ->Prop
structure Ends where
 nx:St->Hp->Prop
 rt:VK
 bk:St->Hp->Prop:=λ_ _=>False
 ct:St->Hp->Prop:=λ_ _=>False
abbrev TS:=Ends->St->Hp->Prop
def EP(X:Cx)(pins:List (Addr×Obj))(σ:St)(Q:VK)(u:Value)(s':Shared):Prop:=∃v H',Inv X pins σ H' s'/\RelV v u/\Q v H'
def TP(X:Cx)(pins:List (Addr×Obj))(σ:St)(Q:Bool->Hp->Prop)(b:Bool)(s':Shared):Prop:=∃H',Inv X pins σ H' s'/\Q b H'
def AP(X:Cx)(pins:List (Addr×Obj))(σ:St)(Q:List V->Hp->Prop)(us:List Value)(s':Shared):Prop:=∃vs H',Inv X pins σ H' s'/\Vals vs us/\Q vs H'
def SP(X:Cx)(pins:List (Addr×Obj))(D:Ends)(f:Flow)(s':Shared):Prop:=
 match f with
 | .next=> ∃σ' H',Inv X pins σ' H' s'/\D.nx σ' H'
 | .brk=> ∃σ' H',Inv X pins σ' H' s'/\D.bk σ' H'
 | .cont=> ∃σ' H',Inv X pins σ' H' s'/\D.ct σ' H'
 | .ret u=> ∃v σ' H',Inv X pins σ' H' s'/\RelV v u/\D.rt v H'
def PE(X:Cx)(e:Expr)(t:TE):Prop:=
 ∀(pins:List (Addr×Obj))(s:Shared)(σ:St)(H:Hp)(Q:VK),Inv X pins σ H s->t σ H Q->wpAny (model X.prog X.w) X.A (eval e X.env) (EP X pins σ Q) X.xe s
def PT(X:Cx)(e:Expr)(t:TT):Prop:=
 ∀(pins:List (Addr×Obj))(s:Shared)(σ:St)(H:Hp)(Q:Bool->Hp->Prop),Inv X pins σ H s->t σ H Q->wpAny (model X.prog X.w) X.A (isTrue e X.env (eval e X.env)) (TP X pins σ Q) X.xe s
def PW(X:Cx)(e:Expr)(t:TT):Prop:=
 ∀(whole:Sem Value)(pins:List (Addr×Obj))(s:Shared)(σ:St)(H:Hp)(Q:Bool->Hp->Prop),Inv X pins σ H s->t σ H Q->wpAny (model X.prog X.w) X.A (isTrue e X.env whole) (TP X pins σ Q) X.xe s
theorem PW.pt{X:Cx}{e:Expr}{t:TT}(h:PW X e t):PT X e t:=h _
def PA(X:Cx)(es:List Expr)(t:TA):Prop:=
 ∀(pos:Pos)(pins:List (Addr×Obj))(s:Shared)(σ:St)(H:Hp)(Q:List V->Hp->Prop),Inv X pins σ H s->t σ H Q->wpAny (model X.prog X.w) X.A (spliced (backTo pos (starEach es X.env))) (AP X pins σ Q) X.xe s
def PS(X:Cx)(st:Stmt)(t:TS):Prop:=
 ∀(pins:List (Addr×Obj))(s:Shared)(σ:St)(H:Hp)(D:Ends),Inv X pins σ H s->t D σ H->wpAny (model X.prog X.w) X.A (exec st X.env) (SP X pins D) X.xe s
def tV(X:Cx)(st:List Stmt)(t:TS):Prop:=
 ∀(pins:List (Addr×Obj))(s:Shared)(σ:St)(H:Hp)(D:Ends),Inv X pins σ H s->t D σ H->wpAny (model X.prog X.w) X.A (execs st X.env) (SP X pins D) X.xe s
theorem eV{α:Type}{t:Sem α}{Q Q':α->Shared->Prop}{M:Model}{A:Around}{E:Value->Shared->Prop}{s:Shared}(h:wpAny M A t Q E s)(hQ:∀a s,Q a s->Q' a s):wpAny M A t Q' E s:=wpAny_mono h hQ λ_ _ x=>x
section
variable{X:Cx}
inductive Lk(σ:St)(i:Nat)(H:Hp)(Q:VK):Prop
 |mk(v:V)(e:σ[i]?=some (some v))(q:Q v H)
def bT(i:Nat):TE:=λσ H Q=>Lk σ i H Q
def tC(v:V):TE:=λ_ H Q=>Q v H
theorem GR{i:Nat}{x:Str}{pos:Pos}(hN:X.N[i]?=some x)(hv:Gd X.env.scope x)(hd:(x==("__debug__":Str))=false:=by decide)(hcd:(x==("__classdict__":Str))=false:=by decide):PE X (.Name x pos) (bT i):=by
 intro pins s σ H Q I h
 obtain⟨v,e,h⟩:=h
 obtain⟨m,hn,hl⟩:=I.loc
 obtain⟨u,r,l⟩:=hl i x v hN e hv
 have fin:EP X pins σ Q u s:=⟨v,H,I,r,h⟩
 rcases l with⟨hk,hm⟩|⟨hk,c,hc,hcell⟩
 ·exact wpAny_Name (wpAny_loadName_local I.ok.kind hk hn hm fin) hd
 ·rcases hk with hk|hk
  ·exact wpAny_Name (wpAny_loadName_cell I.ok.kind hk hc hcell fin) hd
  ·exact wpAny_Name (wpAny_loadName_free I.ok.kind hk hc hcell fin hcd) hd
theorem ah{i j pos}:PE X (.Constant (.int i) j pos) (tC (.int i)):=λ_ _ _ H _ I h=>wpAny_Constant_int ⟨.int i,H,I.tok _,⟨_,rfl⟩,h⟩
theorem qb{b j pos}:PE X (.Constant (.bool b) j pos) (tC (.bl b)):=λ_ _ _ H _ I h=>Constant_bool ⟨.bl b,H,I,rfl,h⟩
theorem BR{j pos}:PE X (.Constant .none j pos) (tC .ig):=λ_ _ _ H _ I h=>Constant_none ⟨.ig,H,I,rfl,h⟩
def Gl(X:Cx)(x:Str):Prop:=X.env.kindOf x=some .globalImplicit
theorem y9{E:Value->Shared->Prop}{pins:List (Addr×Obj)}{s:Shared}{σ:St}{H:Hp}{x:Str}{u:Value}{pos:Pos}{Q:Value->Shared->Prop}(I:Inv X pins σ H s)(hg:Gl X x)(hm:X.mg x=some u)(h:Q u s)
  (hd:(x==("__debug__":Str))=false:=by decide):wpAny (model X.prog X.w) X.A (eval (.Name x pos) X.env) Q E s:=
 Calls.Name_function_global I.ok.kind hg (Calls.loadGlobal_global (by rw[I.ok.glob];exact I.mod.glob.keeps I.bk) hm h) hd
theorem jS{E:Value->Shared->Prop}{pins:List (Addr×Obj)}{s:Shared}{σ:St}{H:Hp}{x:Str}{u:Value}{pos:Pos}{Q:Value->Shared->Prop}(I:Inv X pins σ H s)(hg:Gl X x)(hm:X.mg x=none)(hv:bootBuiltins x=some u)(h:Q u s)
  (hn:x≠ "__name__":=by decide)(hd:(x==("__debug__":Str))=false:=by decide):wpAny (model X.prog X.w) X.A (eval (.Name x pos) X.env) Q E s:=by
 obtain⟨mb,h1,h2⟩:=I.mod.blt
 exact Calls.Name_function_global I.ok.kind hg (Calls.loadGlobal_builtin (by rw[I.ok.glob];exact I.mod.glob.keeps I.bk) hm (by rw[I.ok.blt];exact h1.keeps I.bk) ((h2 x hn).trans hv) h) hd
theorem zc{x:Str}{v:V}{u:Value}{pos:Pos}(hg:Gl X x)(hm:X.mg x=some u)(r:RelV v u)(hd:(x==("__debug__":Str))=false:=by decide):PE X (.Name x pos) (tC v):=
 λ_ _ _ H _ I h=>y9 I hg hm ⟨v,H,I,r,h⟩ hd
theorem jT{x:Str}{v:V}{u:Value}{pos:Pos}(hg:Gl X x)(hm:X.mg x=none)(hv:bootBuiltins x=some u)(r:RelV v u)(hn:x≠ "__name__":=by decide)(hd:(x==("__debug__":Str))=false:=by decide):PE X (.Name x pos) (tC v):=
 λ_ _ _ H _ I h=>jS I hg hm hv ⟨v,H,I,r,h⟩ hn hd
variable{a b:Expr}{ta tb:TE}{pos:Pos}
inductive MJ(x:V)(Q:Bool->Prop):Prop
 |mk(k:Bool)(e:x= .bl k)(q:Q k)
def tB(t:TE):TT:=λσ H Q=>t σ H λx H1=>MJ x λc=>Q c H1
theorem jU{e:Expr}{t:TE}(h:PE X e t)(he:∀whole,isTrue e X.env whole=(do let v<-whole;standAt e.pos;holding [v] (truthy v)):=by intro _;rfl):PT X e (tB t):=by
 intro pins s σ H Q I hw
 refine isTrue_plain (eV (h pins s σ H _ I hw) λv s1 ⟨x,H1,I1,r1,q1⟩=> ?_) (he _)
 obtain⟨d,rfl,q⟩:=q1
 cases r1
 exact wpAny_truthy_bool ⟨H1,I1,q⟩
variable{tA MK:TT}{rest:List Expr}
def Ob(t u:TT):TT:=λσ H Q=>t σ H λc H1=>if c=true then Q true H1 else u σ H1 Q
def Ll(t:TT):TT:=λσ H Q=>t σ H λc H1=>Q (!c) H1
theorem tW(ha:PT X a tA):PW X (.BoolOp .Or [a] pos) tA:=by
 intro wh pins s σ H Q I h
 refine isTrue_or (eV (ha pins s σ H Q I h) λc s1 e=> ?_)
 cases c with
 |false=>exact isTrue_or_nil e
 |true=>exact e
theorem sy(ha:PT X a tA)(hb:PW X (.BoolOp .Or (b::rest) pos) MK):PW X (.BoolOp .Or (a::b::rest) pos) (Ob tA MK):=by
 intro wh pins s σ H Q I h
 refine isTrue_or (eV (ha pins s σ H _ I h) λc s1 ⟨H1,I1,q1⟩=> ?_)
 cases c with
 |true=>exact⟨H1,I1,q1⟩
 |false=>exact hb wh pins s1 σ H1 Q I1 q1
theorem mh(ha:PT X a tA):PT X (.UnaryOp .Not a pos) (Ll tA):=by
 intro pins s σ H Q I h
 exact isTrue_not (ha pins s σ H (λc H1=>Q (!c) H1) I h)
def Ge(ta tb:TE):TE:=λσ H Q=>ta σ H λx H1=> ∃c,x= .bl c/\if c=true then tb σ H1 Q else Q (.bl false) H1
def Gf(ta:TE):TE:=λσ H Q=>ta σ H λx H1=> ∃c,x= .bl c/\Q (.bl (!c)) H1
theorem tX{op}{t:TE}(h:PE X a t):PE X (.BoolOp op [a] pos) t:=λpins s σ H Q I hw=>BoolOp_one (h pins s σ H Q I hw)
theorem tY(ha:PE X a ta)(hb:PE X (.BoolOp .And (b::rest) pos) tb):PE X (.BoolOp .And (a::b::rest) pos) (Ge ta tb):=by
 intro pins s σ H Q I h
 refine BoolOp_and (eV (ha pins s σ H _ I h) λv s1 ⟨x,H1,I1,r1,q1⟩=> ?_)
 obtain⟨c,rfl,q1⟩:=q1
 cases r1
 refine wpAny_truthy_bool ?_
 cases c with
 |true=>exact hb pins s1 σ H1 Q I1 q1
 |false=>exact⟨.bl false,H1,I1,rfl,q1⟩
theorem BS(ha:PE X a ta):PE X (.UnaryOp .Not a pos) (Gf ta):=by
 intro pins s σ H Q I h
 refine UnaryOp_ (eV (ha pins s σ H _ I h) λv s1 ⟨x,H1,I1,r1,q1⟩=> ?_)
 obtain⟨c,rfl,q1⟩:=q1
 cases r1
 exact not_of (wpAny_truthy_bool ⟨.bl (!c),H1,I1,rfl,q1⟩)
end
def aU(K:PySem.W.Frag)(H:Hp)(a:Addr)(xs:List V):Prop:=
 Rd H a (.lst xs)∨
  ∃(o:Obj)(its:Array Value)(n:Nat),K.lookup a=some o/\o.cls= .type "list"/\o.dict=none/\o.data= .seq its n/\its.size<=sizeLine/\Vals xs its.toList
def rD(K:PySem.W.Frag)(H:Hp)(a:Addr)(xs:List V):Prop:=
 Rd H a (.tup xs)∨
  ∃(o:Obj)(its:Array Value)(n:Nat),K.lookup a=some o/\o.cls= .type "tuple"/\o.data= .seq its n/\its.size<=sizeLine/\Vals xs its.toList
def Lm:Value->Option V
 | .none=>some .ig
 | .bool b=>some (.bl b)
 | .int i _=>some (.int i)
 | .str x _=>some (.str x)
 | .bytes b _=>some (.BN b)
 | .float b _=>some (.IF b)
 | .ref a=>some (.ref a)
 | .type n=>some (.ty n)
 |_=>none
theorem RelV.abs{x:V}{u:Value}(r:RelV x u):Lm u=some x:=by
 cases x with
 |ig=>cases r;rfl
 |bl _=>cases r;rfl
 |int _=>obtain⟨t,rfl⟩:=r;rfl
 |str _=>obtain⟨t,rfl⟩:=r;rfl
 |BN _=>obtain⟨t,rfl⟩:=r;rfl
 |IF _=>obtain⟨t,rfl⟩:=r;rfl
 |ref _=>cases r;rfl
 |ty _=>cases r;rfl
theorem RelV.inj{x y:V}{u:Value}(r:RelV x u)(q:RelV y u):x=y:=Option.some.inj (r.abs.symm.trans q.abs)
theorem Vals.inj:∀{xs ys:List V}{us:List Value},Vals xs us->Vals ys us->xs=ys
 |_,_,_,.nil,.nil=>rfl
 |_,_,_,.cons r t,.cons r' t'=>by rw[r.inj r',Vals.inj t t']
section
variable{X:Cx}{pins:List (Addr×Obj)}{σ:St}{H:Hp}{s:Shared}{a:Addr}{xs ys:List V}
theorem aU.of{K:PySem.W.Frag}(h:H a=some (.lst xs)):aU K H a xs:= .inl (.inl h)
theorem rD.of{K:PySem.W.Frag}(h:H a=some (.tup xs)):rD K H a xs:= .inl (.inl h)
theorem Inv.list(I:Inv X pins σ H s)(h:aU X.K H a xs):∃its:List Value,Vals xs its/\PlainL s.heap a its.toArray/\xs.length<=sizeLine:=by
 rcases h with h|⟨o,its,n,hk,hc,hd,hs,hz,r⟩
 ·obtain⟨z,its,n,r,e⟩:=h.ok I.hok
  exact⟨its,r,⟨_,n,e,rfl,rfl,rfl⟩,z⟩
 ·refine⟨its.toList,r,⟨o,n,I.tU a o hk,hc,hd,by simpa using hs⟩,?_⟩
  have e:=r.length
  simp only[Array.length_toList]at e
  omega
theorem Inv.tuple(I:Inv X pins σ H s)(h:rD X.K H a xs):∃its:List Value,Vals xs its/\IsTup s.heap a its.toArray/\xs.length<=sizeLine:=by
 rcases h with h|⟨o,its,n,hk,hc,hs,hz,r⟩
 ·obtain⟨z,its,r,p⟩:=h.ok I.hok
  exact⟨its,r,p,z⟩
 ·refine⟨its.toList,r,⟨o,I.tU a o hk,hc,n,by simpa using hs⟩,?_⟩
  have e:=r.length
  simp only[Array.length_toList]at e
  omega
theorem Inv.qc(I:Inv X pins σ H s)(h:aU X.K H a xs)(h':aU X.K H a ys):xs=ys:=by
 obtain⟨its,r,⟨o,n,e,_,_,d⟩,_⟩:=I.list h
 obtain⟨its',r',⟨o',n',e',_,_,d'⟩,_⟩:=I.list h'
 rw[e]at e';cases e'
 rw[d]at d'
 injection d' with d1 _
 have:its=its':=by simpa using congrArg Array.toList d1
 subst this
 exact r.inj r'
end
abbrev Cx.rE(X:Cx)(E:Value->Shared->Prop):Cx:={X with xe:=E}
abbrev Cx.BJ(X:Cx):Cx:=X.rE λ_ _=>False
theorem Cx.Ok.rE{X:Cx}(ok:X.Ok)(E:Value->Shared->Prop):(X.rE E).Ok:=
 ⟨ok.mod,ok.kind,ok.glob,ok.blt,ok.above,ok.inj,ok.has,ok.Jd,ok.hd,ok.frames,ok.stk,ok.IK,ok.bs,ok.Ex,ok.Aa,ok.Ab,ok.pL,ok.IL⟩
theorem Cx.Ok.kT{X:Cx}{E:Value->Shared->Prop}(ok:(X.rE E).Ok):X.Ok:=
 ⟨ok.mod,ok.kind,ok.glob,ok.blt,ok.above,ok.inj,ok.has,ok.Jd,ok.hd,ok.frames,ok.stk,ok.IK,ok.bs,ok.Ex,ok.Aa,ok.Ab,ok.pL,ok.IL⟩
section
variable{X:Cx}{pins:List (Addr×Obj)}{σ:St}{H:Hp}{s:Shared}{E:Value->Shared->Prop}
theorem Inv.rE(I:Inv X pins σ H s)(E:Value->Shared->Prop):Inv (X.rE E) pins σ H s:=⟨I.ok.rE E,I.os,I.bare,I.base,I.loc,I.cell,I.free,I.kL,I.pin,I.hok,I.len⟩
theorem Inv.kT(I:Inv (X.rE E) pins σ H s):Inv X pins σ H s:=⟨I.ok.kT,I.os,I.bare,I.base,I.loc,I.cell,I.free,I.kL,I.pin,I.hok,I.len⟩
theorem SP.kT{D:Ends}{f:Flow}{s':Shared}(h:SP (X.rE E) pins D f s'):SP X pins D f s':=by
 cases f with
 |next=>obtain⟨σ',H',I,q⟩:=h;exact⟨σ',H',I.kT,q⟩
 |brk=>obtain⟨σ',H',I,q⟩:=h;exact⟨σ',H',I.kT,q⟩
 |cont=>obtain⟨σ',H',I,q⟩:=h;exact⟨σ',H',I.kT,q⟩
 |ret u=>obtain⟨v,σ',H',I,r,q⟩:=h;exact⟨v,σ',H',I.kT,r,q⟩
theorem tV.BJ{st:List Stmt}{t:TS}(h:tV X.BJ st t):tV X st t:=λpins s σ H D I hw=>
 wpAny_mono (h pins s σ H D (I.rE _) hw) (λ_ _ q=>q.kT) λ_ _ z=>False.elim z
end
section
variable{X:Cx}{st:Stmt}{rest:List Stmt}{t u:TS}{e:Expr}{te:TE}{pos:Pos}
def Gg:TS:=λD σ H=>D.nx σ H
def tZ(t u:TS):TS:=λD σ H=>t {D with nx:=u D} σ H
theorem Ey:tV X [] Gg:=λ_ _ σ H _ I h=>wpAny_execs_nil ⟨σ,H,I,h⟩
theorem BU(h1:PS X st t)(h2:tV X rest u):tV X (st::rest) (tZ t u):=by
 intro pins s σ H D I h
 refine wpAny_execs_cons (eV (h1 pins s σ H {D with nx:=u D} I h) λf s1 q=> ?_)
 cases f with
 |next=>
  obtain⟨σ',H',I',q⟩:=q
  exact h2 pins s1 σ' H' D I' q
 |ret v=>exact q
 |brk=>exact q
 |cont=>exact q
theorem dz(h1:PS X st t):tV X [st] t:=by
 intro pins s σ H D I h
 refine wpAny_execs_cons (eV (h1 pins s σ H D I h) λf s1 q=> ?_)
 cases f with
 |next=>exact wpAny_execs_nil q
 |ret v=>exact q
 |brk=>exact q
 |cont=>exact q
theorem Inv.quiet{pins:List (Addr×Obj)}{σ:St}{H:Hp}{s:Shared}(I:Inv X pins σ H s):interactive X.env=false:=by simp[interactive,I.ok.kind]
def Ji(te:TE):TS:=λD σ H=>te σ H λ_ H1=>D.nx σ H1
theorem pY(he:PE X e te)(hs:swapsWith e none pos.line X.env=pure false:=by rfl):PS X (.Expr e pos) (Ji te):=by
 intro pins s σ H D I h
 exact wpAny_Expr_any (eV (he pins s σ H _ I h) λv s1 ⟨x,H1,I1,r1,q1⟩=>⟨σ,H1,I1,q1⟩) I.quiet hs
def Jj(te:TE):TS:=λD σ H=>te σ H D.rt
theorem aW(he:PE X e te):PS X (.Return (some e) pos) (Jj te):=by
 intro pins s σ H D I h
 exact wpAny_Return_some (eV (he pins s σ H _ I h) λv s1 ⟨x,H1,I1,r1,q1⟩=>⟨x,σ,H1,I1,r1,q1⟩)
def Jk(c:TT)(t u:TS):TS:=λD σ H=>c σ H λb H1=>if b=true then t D σ H1 else u D σ H1
theorem Jl{c:Expr}{a b:List Stmt}{tc:TT}(hc:PT X c tc)(ha:tV X a t)(hb:tV X b u):PS X (.If c a b pos) (Jk tc t u):=by
 intro pins s σ H D I h
 refine wpAny_If (eV (hc pins s σ H _ I h) λd s1 ⟨H1,I1,q1⟩=> ?_)
 cases d with
 |true=>exact ha pins s1 σ H1 D I1 q1
 |false=>exact hb pins s1 σ H1 D I1 q1
def GS:TS:=λ_ _ _=>False
theorem qd:PS X st GS:=λ_ _ _ _ _ _ h=>h.elim
end
abbrev TG:=V->St->Hp->(St->Hp->Prop) ->Prop
abbrev Ez:=List V->St->Hp->(St->Hp->Prop) ->Prop
def PG(X:Cx)(target:Expr)(t:TG):Prop:=
 ∀(pins:List (Addr×Obj))(s:Shared)(σ:St)(H:Hp)(v:V)(u:Value)(Q:St->Hp->Prop),Inv X pins σ H s->RelV v u->t v σ H Q->
  wpAny (model X.prog X.w) X.A (assign target X.env u) (λ_ s'=> ∃σ' H',Inv X pins σ' H' s'/\Q σ' H') X.xe s
def Jm(X:Cx)(ts:List Expr)(t:Ez):Prop:=
 ∀(pins:List (Addr×Obj))(s:Shared)(σ:St)(H:Hp)(vs:List V)(us:List Value)(Q:St->Hp->Prop),Inv X pins σ H s->Vals vs us->t vs σ H Q->
  wpAny (model X.prog X.w) X.A (assignInOrder ((assignEach ts X.env).map (·.2)) us) (λ_ s'=> ∃σ' H',Inv X pins σ' H' s'/\Q σ' H') X.xe s
abbrev BV:=V->V->V->Hp->(Hp->Prop) ->Prop
def GU(X:Cx)(t:BV):Prop:=
 ∀(pins:List (Addr×Obj))(s:Shared)(σ:St)(H:Hp)(o i v:V)(ov iv u:Value)(Q:Hp->Prop),Inv X pins σ H s->RelV o ov->RelV i iv->RelV v u->t o i v H Q->
  wpAny (model X.prog X.w) X.A (setItem ov iv u) (λ_ s'=> ∃H',Inv X pins σ H' s'/\Q H') X.xe s
abbrev Kz:=V->V->Hp->VK->Prop
def ML(X:Cx)(op:Operator)(t:Kz):Prop:=
 ∀(pins:List (Addr×Obj))(s:Shared)(σ:St)(H:Hp)(x y:V)(v u:Value)(Q:VK),Inv X pins σ H s->RelV x v->RelV y u->t x y H Q->
  wpAny (model X.prog X.w) X.A (inplaceOp op v u) (EP X pins σ Q) X.xe s
section
variable{X:Cx}{pos:Pos}
def cS(i:Nat):TG:=λv σ H Q=>Q (σ.set i (some v)) H
theorem aP{i:Nat}{x:Str}(hN:X.N.Nodup)(hi:X.N[i]?=some x)(hx:Loc X.env.scope x)(hf:X.fn x=true∨X.env.scope.names.lookup x=some .local:=by first|exact .inl rfl|exact .inr rfl|assumption):PG X (.Name x pos) (cS i):=by
 intro pins s σ H v u Q I r h
 exact wpAny_assign_Name (iF I hN hi hx r (λs' I'=>⟨_,H,I',h⟩) hf)
def Jo:Ez:=λvs σ H Q=>vs=[]/\Q σ H
inductive Jp(vs:List V)(Q:V->List V->Prop):Prop
 |mk(v:V)(r:List V)(e:vs=v::r)(q:Q v r)
def BW(t:TG)(u:Ez):Ez:=λvs σ H Q=>Jp vs λv r=>t v σ H λσ1 H1=>u r σ1 H1 Q
theorem eW:Jm X [] Jo:=by
 intro pins s σ H vs us Q I r h
 obtain⟨e,h⟩:=h
 subst e
 cases r
 exact assignInOrder_nil ⟨σ,H,I,h⟩
theorem aO{e:Expr}{es:List Expr}{t:TG}{u:Ez}(h1:PG X e t)(h2:Jm X es u)
  (hs:(assignEach (e::es) X.env).map (·.2)=assign e X.env::(assignEach es X.env).map (·.2):=by rfl):Jm X (e::es) (BW t u):=by
 intro pins s σ H vs us Q I r h
 obtain⟨v,vr,e1,h⟩:=h
 subst e1
 cases r with
 |cons r rr=>
  rw[hs]
  refine assignInOrder_cons (eV (h1 pins s σ H _ _ _ I r h) λ_ s1 ⟨σ1,H1,I1,q1⟩=> ?_)
  exact h2 pins s1 σ1 H1 _ _ Q I1 rr q1
inductive Ln(K:PySem.W.Frag)(n:Nat)(v:V)(H:Hp)(Q:List V->Prop):Prop
 |mk(a:Addr)(xs:List V)(e:v= .ref a)(s:rD K H a xs)(l:xs.length=n)(q:Q xs)
def Jq(K:PySem.W.Frag)(n:Nat)(t:Ez):TG:=λv σ H Q=>Ln K n v H λxs=>t xs σ H Q
theorem t6{es:List Expr}{k:Nat}{t:Ez}{n:Nat}(hc:X.calm=true)(h:Jm X es t)
  (hn:(assignEach es X.env).length=n:=by rfl)(hst:(assignEach es X.env).findIdx? (·.1)=none:=by rfl):PG X (.Tuple es k pos) (Jq X.K n t):=by
 intro pins s σ H v u Q I r hw
 obtain⟨a,xs,e1,hq,hl,hw⟩:=hw
 subst e1
 cases r
 obtain⟨its,rv,ht,hz⟩:=I.tuple hq
 refine assign_Tuple_tuple (I.ok.hd hc) ht (by simp[hn,<-hl,rv.length]) hst λh' hx=> ?_
 have I1:Inv X pins σ H {s with heap:=h'}:=I.kept (t':=s.toks) λb o e=>hx b o (Nat.ne_of_lt (Heap.lt_size e)) e
 exact h pins _ σ H xs _ Q I1 (by simpa using rv) hw
def Lo(to ti:TE)(t:BV):TG:=λv σ H Q=>to σ H λo H1=>ti σ H1 λi H2=>t o i v H2 λH3=>Q σ H3
theorem xu{o i:Expr}{to ti:TE}{t:BV}(ho:PE X o to)(hi:PE X i ti)(hs:GU X t)
  (ha:∀v,assign (.Subscript o i pos) X.env v=(do
   let ov<-holding [v] (eval o X.env)
   let iv<-holding [v,ov] (eval i X.env)
   standAt pos
   holding [v,ov,iv] (setItem ov iv v)
   release [v,ov,iv] []):=by intro _;rfl):PG X (.Subscript o i pos) (Lo to ti t):=by
 intro pins s σ H v u Q I r h
 rw[ha]
 refine wpAny_bind (wpAny_holding (eV (ho pins s σ H _ I h) λov s1 ⟨x,H1,I1,r1,q1⟩=> ?_))
 refine wpAny_bind (wpAny_holding (eV (hi pins s1 σ H1 _ I1 q1) λiv s2 ⟨y,H2,I2,r2,q2⟩=> ?_))
 refine wpAny_bind (wpAny_standAt (wpAny_bind (wpAny_holding (eV (hs pins s2 σ H2 x y v ov iv u _ I2 r1 r2 r q2) λ_ s3 ⟨H3,I3,q3⟩=> ?_))))
 exact wpAny_release ⟨σ,H3,I3,q3⟩
def Ac(te:TE)(g:TG):TS:=λD σ H=>te σ H λx H1=>g x σ H1 D.nx
theorem jV{tg e:Expr}{te:TE}{g:TG}(he:PE X e te)(hg:PG X tg g)(hs:swapsWithSole [tg] e pos.line X.env=pure false:=by rfl)(hw:swappedStores [tg] e X.env=pure none:=by rfl)
  (h1:(assignEach [tg] X.env).map (·.2)=[assign tg X.env]:=by rfl):PS X (.Assign [tg] e pos) (Ac te g):=by
 intro pins s σ H D I h
 refine wpAny_Assign_stores (eV (he pins s σ H _ I h) λv s1 ⟨x,H1,I1,r1,q1⟩=> ?_) hs hw
 rw[h1]
 exact eV (hg pins s1 σ H1 x v _ I1 r1 q1) λ_ s2 q=>q
theorem aC{i:Nat}{x:Str}{e:Expr}{te:TE}{pos':Pos}(hN:X.N.Nodup)(hi:X.N[i]?=some x)(hx:Loc X.env.scope x)(he:PE X e te)(hs:swapsWith e (some (.Name x pos')) pos.line X.env=pure false:=by rfl)(hf:X.fn x=true∨X.env.scope.names.lookup x=some .local:=by first|exact .inl rfl|exact .inr rfl|assumption):
  PS X (.Assign [.Name x pos'] e pos) (Ac te (cS i)):=by
 intro pins s σ H D I h
 refine wpAny_Assign_Name (eV (he pins s σ H _ I h) λv s1 ⟨y,H1,I1,r1,q1⟩=> ?_) hs
 exact iF I1 hN hi hx r1 (λs2 I2=>⟨_,H1,I2,q1⟩) hf
def Lp(i j:Nat)(ta:TA):TS:=λD σ H=>ta σ H λvs H1=> ∃v w,vs=[v,w]/\D.nx ((σ.set i (some v)).set j (some w)) H1
theorem qe{i j:Nat}{x y:Str}{a b:Expr}{ta:TA}{px py pt:Pos}{kt k2 GV}(hc:X.calm=true)(hN:X.N.Nodup)(hi:X.N[i]?=some x)(hj:X.N[j]?=some y)(hij:i≠j)
  (hx:X.env.scope.names.lookup x=some .local)(hy:X.env.scope.names.lookup y=some .local)(ha:PA X [a,b] ta)
  (hw:swappedStores [.Tuple [.Name x px,.Name y py] kt pt] (.Tuple [a,b] k2 GV) X.env=pure (some [x,y]))
  (hs:swapsWithSole [.Tuple [.Name x px,.Name y py] kt pt] (.Tuple [a,b] k2 GV) pos.line X.env=pure false:=by rfl):
  PS X (.Assign [.Tuple [.Name x px,.Name y py] kt pt] (.Tuple [a,b] k2 GV) pos) (Lp i j ta):=by
 intro pins s σ H D I h
 rw[exec_Assign_arm]
 refine wpAny_bind (wpAny_standAt ?_)
 rw[hs]
 refine wpAny_bind (wpAny_pure ?_)
 rw[if_neg (by decide)]
 refine wpAny_bind (Tuple_ (eV (ha _ pins s σ H _ I h) λus s1 ⟨vs,H1,I1,r1,q1⟩=> ?_))
 obtain⟨v,w,e1,q1⟩:=q1
 subst e1
 obtain⟨u1,u2,rfl,rv,rw'⟩:∃u1 u2,us=[u1,u2]/\RelV v u1/\RelV w u2:=by
  cases r1 with
  |cons p q=>
   cases q with
   |cons p' q'=>
    cases q'
    exact⟨_,_,rfl,p,p'⟩
 refine wpAny_newObj_type ?_ (by show 2<=sizeLine;decide)
 have I2:Inv X pins σ H1 {s1 with heap:=s1.heap.push {cls:= .type "tuple",data:= .seq [u1,u2].toArray}}:=I1.kept (t':=s1.toks) λb o e=>Heap.get?_push_of_some _ e
 rw[hw]
 refine wpAny_bind (wpAny_pure ?_)
 show wpAny (model X.prog X.w) X.A (do rule "assign.swapped-stores";let items<-unpackItems (.ref s1.heap.objs.size) 2 none;assignInOrder [λv=>bindName X.env y v,λv=>bindName X.env x v] items.reverse;pure Flow.next) _ _ _
 refine wpAny_bind (wpAny_rule (wpAny_bind (unpackItems_tuple (items:= #[u1,u2]) (I.ok.hd hc) (IsTup.new s1.heap _) λh' hx'=> ?_)))
 have I3:=I2.kept (h':=h') (t':=s1.toks) λb o e=>hx' b o (Nat.ne_of_lt (Heap.lt_size e)) e
 show wpAny _ _ (assignInOrder [λv=>bindName X.env y v,λv=>bindName X.env x v] [u2,u1]>>=λ_=>pure Flow.next) _ _ _
 refine wpAny_bind (assignInOrder_cons (wpAny_bindName (iF I3 hN hj (.inl hy) rw' (λs2 I4=> ?_) (.inr hy))))
 refine assignInOrder_cons (wpAny_bindName (iF I4 hN hi (.inl hx) rv (λs3 I5=>assignInOrder_nil (wpAny_pure ?_)) (.inr hx)))
 rw[List.set_comm _ _ (Ne.symm hij)]at I5
 exact⟨_,H1,I5,q1⟩
def Jr(to ti te:TE)(EA:V->V->Hp->VK->Prop)(KA:Kz)(EB:BV):TS:=λD σ H=>to σ H λo H1=>ti σ H1 λi H2=>EA o i H2 λx H3=>te σ H3 λy H4=>KA x y H4 λz H5=>EB o i z H5 λH6=>D.nx σ H6
def Js(X:Cx)(t:V->V->Hp->VK->Prop):Prop:=
 ∀(pins:List (Addr×Obj))(s:Shared)(σ:St)(H:Hp)(o i:V)(ov iv:Value)(Q:VK),Inv X pins σ H s->RelV o ov->RelV i iv->t o i H Q->
  wpAny (model X.prog X.w) X.A (getItem ov iv) (EP X pins σ Q) X.xe s
theorem EC{o i e:Expr}{to ti te:TE}{EA:V->V->Hp->VK->Prop}{KA:Kz}{EB:BV}{op:Operator}{tpos:Pos}(ho:PE X o to)(hi:PE X i ti)(hg:Js X EA)(he:PE X e te)(hp:ML X op KA)(hs:GU X EB)
  (ha:∀ov iv new,augStore i ov iv new=(do holding [new,ov,iv] (setItem ov iv new);release [new,ov,iv] [];pure .next):=by intros;rfl):PS X (.AugAssign (.Subscript o i tpos) op e pos) (Jr to ti te EA KA EB):=by
 intro pins s σ H D I h
 refine wpAny_AugAssign_SubscriptAny (eV (ho pins s σ H _ I h) λov s1 ⟨x1,H1,I1,r1,q1⟩=> ?_) ha
 refine eV (hi pins s1 σ H1 _ I1 q1) λiv s2 ⟨x2,H2,I2,r2,q2⟩=> ?_
 refine eV (hg pins s2 σ H2 x1 x2 ov iv _ I2 r1 r2 q2) λold s3 ⟨x3,H3,I3,r3,q3⟩=> ?_
 refine eV (he pins s3 σ H3 _ I3 q3) λv s4 ⟨x4,H4,I4,r4,q4⟩=> ?_
 refine eV (hp pins s4 σ H4 x3 x4 old v _ I4 r3 r4 q4) λnew s5 ⟨x5,H5,I5,r5,q5⟩=> ?_
 exact eV (hs pins s5 σ H5 x1 x2 x5 ov iv new _ I5 r1 r2 r5 q5) λ_ s6 ⟨H6,I6,q6⟩=>⟨σ,H6,I6,q6⟩
def Oc(f:Int->Int->Int):Kz:=λx y H Q=> ∃i j,x= .int i/\y= .int j/\Q (.int (f i j)) H
theorem GW:ML X .Add (Oc λi j=>i+j):=by
 intro pins s σ H x y v u Q I r1 r2 h
 obtain⟨i,j,e1,e2,q⟩:=h
 subst e1;subst e2
 obtain⟨t,rfl⟩:=r1
 obtain⟨t',rfl⟩:=r2
 exact iadd_int ⟨.int _,H,I.tok _,⟨_,rfl⟩,q⟩
end
section
variable{X:Cx}{pos:Pos}
def BX(c:TT)(tb:TS):TS:=λD σ H=> ∃W:Nat->St->Hp->Prop,(∃m,W m σ H)/\ ∀m σ H,W m σ H->
 c σ H λb H1=>if b=true then ∃N:St->Hp->Prop,(∀σ' H',N σ' H'-> ∃m',m'<m/\W m' σ' H')/\tb {D with nx:=N,ct:=N,bk:=D.nx} σ H1 else D.nx σ H1
theorem jB{c:Expr}{body:List Stmt}{tc:TT}{tb:TS}(hp:PassesOwn (model X.prog X.w) X.A X.env X.xe)(hc:PT X c tc)(hb:tV X body tb):PS X (.While c body [] pos) (BX tc tb):=by
 intro pins s σ H D I h
 obtain⟨W,⟨m0,w0⟩,turn⟩:=h
 refine wpAny_While (codeAny_whileLoop (λn s'=> ∃σ' H',Inv X pins σ' H' s'/\W n σ' H') ?_ m0 ⟨σ,H,I,w0⟩)
 rintro n s1 ⟨σ1,H1,I1,w1⟩
 refine wpAny_passesOwn hp (eV (hc pins s1 σ1 H1 _ I1 (turn n σ1 H1 w1)) λb s2 ⟨H2,I2,q2⟩=> ?_)
 cases b with
 |true=>
  obtain⟨N,hN,q2⟩:=q2
  rw[if_pos rfl]
  refine wpAny_passesOwn hp (eV (hb pins s2 σ1 H2 _ I2 q2) λf s3 q3=> ?_)
  cases f with
  |next=>
   obtain⟨σ3,H3,I3,n3⟩:=q3
   obtain⟨m',hm,w3⟩:=hN σ3 H3 n3
   exact⟨m',hm,σ3,H3,I3,w3⟩
  |cont=>
   obtain⟨σ3,H3,I3,n3⟩:=q3
   obtain⟨m',hm,w3⟩:=hN σ3 H3 n3
   exact⟨m',hm,σ3,H3,I3,w3⟩
  |brk=>exact q3
  |ret v=>exact q3
 |false=>
  rw[if_neg Bool.false_ne_true]
  exact wpAny_execs_nil ⟨σ1,H2,I2,q2⟩
end
structure It where
 go:Nat->Hp->Prop
 xw:Nat->Hp->V->Hp->Prop
 stop:Nat->Hp->Prop
def e9(X:Cx)(pins:List (Addr×Obj))(H:Hp)(b:Addr):Prop:=
 H b=none/\b≠X.env.locals/\b∉X.fs/\(b∈X.ex∨X.s₀.heap.objs.size<=b)/\(∀x c,X.env.cells.lookup x=some c->c≠b)/\ ∀p∈X.pn++pins,p.1≠b
theorem Inv.Ad{X:Cx}{pins:List (Addr×Obj)}{σ:St}{H H':Hp}{s:Shared}{b:Addr}(I:Inv X pins σ H s)(hb:s.heap.objs.size<=b)(hn:H' b=none):e9 X pins H' b:=by
 refine⟨hn,Nat.ne_of_gt (Nat.lt_of_lt_of_le I.lt hb),I.Je hb,.inr (Nat.le_trans I.sz hb),λx c e z=> ?_,λp hp z=> ?_⟩
 ·obtain⟨v,q⟩:=I.cell x c e
  exact absurd (Nat.lt_of_lt_of_le q.lt (by rw[z];exact hb)) (Nat.lt_irrefl _)
 ·exact absurd (Nat.lt_of_lt_of_le (Heap.lt_size (I.pin p hp).1) (by rw[z];exact hb)) (Nat.lt_irrefl _)
structure Turn(P:Program)(w:World)(K:PySem.W.Frag)(tg:Expr)(J:It)(fp:List Addr)(it:Addr)(tn:Nat->Heap->Prop):Prop where
 mem:it∈fp
 obj:∀i h,tn i h-> ∀b∈fp,∃o,h.get? b=some o/\ ∀v,o.data≠ .cell v
 keep:∀i h h',tn i h->(∀b∈fp,∀o,h.get? b=some o->h'.get? b=some o) ->tn i h'
 item:∀(X:Cx),X.prog=P->X.w=w->X.K=K->X.calm=true-> ∀(i:Nat)(pins:List (Addr×Obj))(s:Shared)(σ:St)(H:Hp)(E:Value->Shared->Prop),Inv X pins σ H s->(∀b∈fp,e9 X pins H b) ->tn i s.heap->J.go i H->
  wpAny (model P w) X.A (pyNext (.ref it)) (λr s1=> ∃u,r=some u/\
   wpAny (model P w) X.A (letOwnedTupleGo tg (.ref it) u) (λ_ s2=> ∃x H',Inv X pins σ H' s2/\RelV x u/\J.xw i H x H'/\tn (i+1) s2.heap/\ ∀b∈fp,H' b=none) E s1) E s
 done:∀(X:Cx),X.prog=P->X.w=w->X.K=K->X.calm=true-> ∀(i:Nat)(pins:List (Addr×Obj))(s:Shared)(σ:St)(H:Hp)(E:Value->Shared->Prop),Inv X pins σ H s->(∀b∈fp,e9 X pins H b) ->tn i s.heap->J.stop i H->
  wpAny (model P w) X.A (pyNext (.ref it)) (λr s1=>r=none/\Inv X pins σ H s1) E s
 self:∀(A:Around)(i:Nat)(s:Shared)(Q:Value->Shared->Prop)(E:Value->Shared->Prop),tn i s.heap->Q (.ref it) s->wpAny (model P w) A (pyIter (.ref it)) Q E s
abbrev TI:=St->Hp->(It->Hp->Prop) ->Prop
def MM(X:Cx)(pins:List (Addr×Obj))(σ:St)(tg:Expr)(R:It->Hp->Prop)(itv:Value)(s2:Shared):Prop:=
 ∃(it:Addr)(fp:List Addr)(tn:Nat->Heap->Prop)(J:It)(H':Hp),itv= .ref it/\Inv X pins σ H' s2/\Turn X.prog X.w X.K tg J fp it tn/\tn 0 s2.heap/\(∀b∈fp,e9 X pins H' b)/\R J H'
def PI(X:Cx)(tg iter:Expr)(wi:TI):Prop:=
 ∀(pins:List (Addr×Obj))(s:Shared)(σ:St)(H:Hp)(R:It->Hp->Prop),Inv X pins σ H s->wi σ H R->
  wpAny (model X.prog X.w) X.A (eval iter X.env) (λv s1=>wpAny (model X.prog X.w) X.A (pyIter v) (MM X pins σ tg R) X.xe s1) X.xe s
theorem Gh{M:Model}{A:Around}{E:Value->Shared->Prop}{s:Shared}{tg:Expr}{it:Addr}{u:Value}{o:Obj}{n:String}{vs:Array Value}{Q:Unit->Shared->Prop}(ho:s.heap.get? it=some o)(hc:o.cls= .type n)(hd:o.data= .fields vs)
  (hn: ["enumerate","zip","dict_itemiterator","dict_reverseitemiterator","odict_iterator","itertools.zip_longest","itertools.pairwise"].contains n=false)(hQ:Q () s):wpAny M A (letOwnedTupleGo tg (.ref it) u) Q E s:=by
 unfold letOwnedTupleGo
 cases tg<;>first
  |exact wpAny_pure hQ
  |(cases u<;>first
    |exact wpAny_pure hQ
    |(refine wpAny_bind (wpAny_load ho ?_)
      rw[hc,hd]
      show wpAny M A (if(["enumerate","zip","dict_itemiterator","dict_reverseitemiterator","odict_iterator","itertools.zip_longest","itertools.pairwise"].contains n && vs[0]?==some (rawInt _))=true then _ else _) Q E s
      rw[if_neg (by intro h;rw[hn,Bool.false_and]at h;cases h)]
      exact wpAny_pure hQ))
def GX(K:PySem.W.Frag)(a:Addr):It:=
 ⟨λi H=> ∃xs x,aU K H a xs/\xs[i]?=some x,λi H x H'=>H'=H/\ ∀xs,aU K H a xs->xs[i]?=some x,λi H=> ∃xs,aU K H a xs/\xs.length<=i⟩
def Eo(lo:Int)(n:Nat):It:=⟨λi _=>i<n,λi H x H'=>H'=H/\x= .int (lo+i),λi _=>n<=i⟩
theorem Ae{P:Program}{w:World}{K:PySem.W.Frag}{tg:Expr}(a it:Addr):Turn P w K tg (GX K a) [it] it (λi h=>h.IsListIter it a i) where
 mem:=by simp
 obj:=λi h st b hb=>by
  have e:b=it:=by simpa using hb
  subst e
  obtain⟨o,e,c,d⟩:=st
  exact⟨o,e,λv z=>by rw[d]at z;cases z⟩
 keep:=λi h h' st k=>st.at λo e=>k it (by simp) o e
 item:=by
  intro X hP hw hK hc i pins s σ H E I hf st hg
  subst hP hw hK
  obtain⟨xs,x,hq,hx⟩:=hg
  obtain⟨its,rv,p,hz⟩:=I.list hq
  obtain⟨u,hu,ru⟩:=rv.get hx
  obtain⟨f0,f1,f2,f3,f4,f5⟩:=hf it (by simp)
  refine wpAny_pyNext_list_item st p.isList (x:=u) (by simpa using hu) λh' st' sb=> ?_
  have I1:Inv X pins σ H {s with heap:=h'}:=I.turned (t':=s.toks) (λb o hb e=>(sb.2 b hb).trans e) f0 f1 f3 f4 f5
  obtain⟨o,e,c,d⟩:=id st'
  exact⟨u,rfl,Gh (s:={s with heap:=h'}) e c d (by decide) ⟨x,H,I1,ru,⟨rfl,λys hy=>by rw[I.qc hy hq];exact hx⟩,st',λb hb=>(hf b hb).1⟩⟩
 done:=by
  intro X hP hw hK hc i pins s σ H E I hf st hg
  subst hP hw hK
  obtain⟨xs,hq,hx⟩:=hg
  obtain⟨its,rv,p,hz⟩:=I.list hq
  obtain⟨f0,f1,f2,f3,f4,f5⟩:=hf it (by simp)
  have hl:=rv.length
  exact wpAny_pyNext_list_end (I.ok.hd hc) st p.isList (by simp;omega) λh' eb=>⟨rfl,I.turned (t':=s.toks) (λb o hb e=>eb b o hb e) f0 f1 f3 f4 f5⟩
 self:=λ_ _ _ _ _ st h=>wpAny_pyIter_listiter st h
theorem xx{P:Program}{w:World}{K:PySem.W.Frag}{tg:Expr}(it:Addr)(lo:Int)(n:Nat):Turn P w K tg (Eo lo n) [it] it (λi h=>IsRangeIter h it (lo+(i:Nat)*1) ((n:Int) - (i:Nat)) 1) where
 mem:=by simp
 obj:=λi h st b hb=>by
  have e:b=it:=by simpa using hb
  subst e
  exact⟨_,st,λv z=>by
   have z':Data.fields _=Data.cell v:=z
   cases z'⟩
 keep:=λi h h' st k=>k it (by simp) _ st
 item:=by
  intro X hP hw hK hc i pins s σ H E I hf st hg
  subst hP hw hK
  obtain⟨f0,f1,f2,f3,f4,f5⟩:=hf it (by simp)
  have W:=Walks.range (prog:=X.prog) (w:=X.w) (I.ok.hd hc) it lo 1 n
  refine W.item i s _ _ hg st λv h' tk hv st' kk=> ?_
  obtain⟨t,rfl⟩:=hv
  have I1:Inv X pins σ H {s with heap:=h',toks:=tk}:=I.turned (λb o hb e=>kk b o (by simpa using hb) e) f0 f1 f3 f4 f5
  refine⟨_,rfl,Gh (s:={s with heap:=h',toks:=tk}) (n:= "range_iterator") st' rfl rfl (by decide) ⟨.int (lo+i),H,I1,⟨t,?_⟩,⟨rfl,rfl⟩,st',λb hb=>(hf b hb).1⟩⟩
  rw[Int.mul_one]
 done:=by
  intro X hP hw hK hc i pins s σ H E I hf st hg
  subst hP hw hK
  obtain⟨f0,f1,f2,f3,f4,f5⟩:=hf it (by simp)
  exact wpAny_pyNext_range_end (I.ok.hd hc) st (by have:n<=i:=hg;omega) λh' eb=>⟨rfl,I.turned (t':=s.toks) (λb o hb e=>eb b o hb e) f0 f1 f3 f4 f5⟩
 self:=λ_ _ _ _ _ st h=>wpAny_pyIter_rangeiter st h
section
variable{X:Cx}{tg:Expr}
def Gi(K:PySem.W.Frag)(tl:TE):TI:=λσ H R=>tl σ H λx H1=> ∃a,x= .ref a/\(∃xs,aU K H1 a xs)/\R (GX K a) H1
theorem iy{l:Expr}{tl:TE}(hl:PE X l tl):PI X tg l (Gi X.K tl):=by
 intro pins s σ H R I h
 refine eV (hl pins s σ H _ I h) λv s1 ⟨x,H1,I1,r1,q1⟩=> ?_
 obtain⟨a,e,⟨xs,hq⟩,q⟩:=q1
 subst e
 cases r1
 obtain⟨its,rv,p,hz⟩:=I1.list hq
 refine wpAny_pyIter_list p.isList ?_
 refine⟨s1.heap.objs.size,[s1.heap.objs.size],_,_,H1,rfl,I1.kept (t':=s1.toks) λb o e=>Heap.get?_push_of_some _ e,Ae a _,⟨_,Heap.get?_push_size _ rfl,rfl,rfl⟩,λb hb=> ?_,q⟩
 have e:b=s1.heap.objs.size:=by simpa using hb
 subst e
 exact I1.Ad (Nat.le_refl _) (I1.hok.fresh (Nat.le_refl _))
theorem vG{pins:List (Addr×Obj)}{σ:St}{H:Hp}{s:Shared}{R:It->Hp->Prop}{E:Value->Shared->Prop}{lo hi:Int}{t u v:Tok}{tk:Nat}(I:Inv X pins σ H s)(h1: -(2^62)<=lo)(h2:lo<2^62)(h3: -(2^62)<=hi)(h4:hi<2^62)
  (q:R (Eo lo (hi-lo).toNat) H):wpAny (model X.prog X.w) X.A (pyIter (.ref s.heap.objs.size)) (MM X pins σ tg R) E {s with heap:=s.heap.push {cls:= .type "range",data:= .fields #[.int lo t,.int hi u,.int 1 v]},toks:=tk}:=by
 refine wpAny_pyIter_range (IsRange.new ..) (small_one h1 h2 h3 h4) ?_
 have I1:Inv X pins σ H {s with heap:=s.heap.push {cls:= .type "range",data:= .fields #[.int lo t,.int hi u,.int 1 v]},toks:=tk}:=I.kept λb o e=>Heap.get?_push_of_some _ e
 refine⟨(s.heap.push {cls:= .type "range",data:= .fields #[.int lo t,.int hi u,.int 1 v]}).objs.size,[(s.heap.push {cls:= .type "range",data:= .fields #[.int lo t,.int hi u,.int 1 v]}).objs.size],_,_,H,rfl,
  I1.kept (t':=tk) λb o e=>Heap.get?_push_of_some _ e,xx _ lo (hi-lo).toNat,?_,λb hb=> ?_,q⟩
 ·have e1:lo+((0:Nat):Int)*1=lo:=by simp
  have e2:(((hi-lo).toNat:Nat):Int) - ((0:Nat):Int)=Builtin.Range.rangeSize lo hi 1:=by rw[rangeSize_one];split<;>omega
  show IsRangeIter _ _ (lo+((0:Nat):Int)*1) ((((hi-lo).toNat:Nat):Int) - ((0:Nat):Int)) 1
  rw[e1,e2]
  exact Heap.get?_push_size _ rfl
 ·have e:b=(s.heap.push {cls:= .type "range",data:= .fields #[.int lo t,.int hi u,.int 1 v]}).objs.size:=by simpa using hb
  subst e
  exact I1.Ad (Nat.le_refl _) (I1.hok.fresh (Nat.le_refl _))
def qf(ta:TA):TI:=λσ H R=>ta σ H λvs H1=> ∃j:Int,vs=[.int j]/\ -(2^62)<=j/\j<2^62/\R (Eo 0 j.toNat) H1
def Jt(ta:TA):TI:=λσ H R=>ta σ H λvs H1=> ∃i j:Int,vs=[.int i,.int j]/\(-(2^62)<=i/\i<2^62/\ -(2^62)<=j/\j<2^62)/\R (Eo i (j-i).toNat) H1
theorem dh{a:Expr}{ta:TA}{p pos:Pos}(hg:Gl X "range")(hm:X.mg "range"=none)(ha:PA X [a] ta)(hs:starEach [a] X.env=[(false,eval a X.env)]:=by rfl):PI X tg (.Call (.Name "range" p) [a] [] pos) (qf ta):=by
 intro pins s σ H R I h
 refine Call_ (jS I hg hm boot_range (PyProof.Rows.callWith_type1 (eV (ha pos pins s σ H _ I h) λus s1 ⟨vs,H1,I1,r1,q1⟩=> ?_) hs rfl))
 obtain⟨j,e,q1,q2,q⟩:=q1
 subst e
 cases r1 with
 |cons r rr=>
  cases rr
  obtain⟨t,rfl⟩:=r
  exact call_range_1 (vG I1 (by omega) (by omega) q1 q2 (by simpa using q))
theorem iD{a b:Expr}{ta:TA}{p pos:Pos}(hg:Gl X "range")(hm:X.mg "range"=none)(ha:PA X [a,b] ta)(hs:starEach [a,b] X.env=[(false,eval a X.env),(false,eval b X.env)]:=by rfl)(hs2:starEach [b] X.env=[(false,eval b X.env)]:=by rfl):
  PI X tg (.Call (.Name "range" p) [a,b] [] pos) (Jt ta):=by
 intro pins s σ H R I h
 refine Call_ (jS I hg hm boot_range (PyProof.Rows.callWith_type1 (eV (ha pos pins s σ H _ I h) λus s1 ⟨vs,H1,I1,r1,q1⟩=> ?_) (by rw[hs,hs2]) (by rw[hs2];rfl)))
 obtain⟨i,j,e,⟨q1,q2,q3,q4⟩,q⟩:=q1
 subst e
 cases r1 with
 |cons r rr=>
  cases rr with
  |cons r' rr=>
   cases rr
   obtain⟨t,rfl⟩:=r
   obtain⟨t',rfl⟩:=r'
   exact call_range_2 (vG I1 q1 q2 q3 q4 q)
def Lq(wi:TI)(g:TG)(tb:TS):TS:=λD σ H=>wi σ H λJ H1=> ∃W:Nat->Nat->St->Hp->Prop,(∃m,W 0 m σ H1)/\ ∀i m σ H,W i m σ H->
 (J.stop i H/\D.nx σ H)∨(J.go i H/\ ∃N:St->Hp->Prop,(∀σ' H',N σ' H'-> ∃m',m'<m/\W (i+1) m' σ' H')/\ ∀x H',J.xw i H x H'->g x σ H' λσ2 H2=>tb {D with nx:=N,ct:=N,bk:=D.nx} σ2 H2)
def cI(fp:List Addr)(h:Heap):List (Addr×Obj):=fp.filterMap λb=>(h.get? b).map λo=>(b,o)
theorem dj{fp:List Addr}{h:Heap}{b:Addr}{o:Obj}(hb:b∈fp)(e:h.get? b=some o):(b,o)∈cI fp h:=List.mem_filterMap.mpr ⟨b,hb,by rw[e];rfl⟩
theorem iE{fp:List Addr}{h:Heap}{p:Addr×Obj}(hp:p∈cI fp h):p.1∈fp/\h.get? p.1=some p.2:=by
 obtain⟨b,hb,e⟩:=List.mem_filterMap.mp hp
 cases q:h.get? b with
 |none=>rw[q]at e;cases e
 |some o=>
  rw[q]at e
  have e':(b,o)=p:=Option.some.inj e
  subst e'
  exact⟨hb,q⟩
theorem Inv.pinned{pins:List (Addr×Obj)}{σ:St}{H:Hp}{s:Shared}{fp:List Addr}(I:Inv X pins σ H s)(hf:∀b∈fp,e9 X pins H b)(ho:∀b∈fp,∃o,s.heap.get? b=some o/\ ∀v,o.data≠ .cell v):Inv X (pins++cI fp s.heap) σ H s:=
 I.iw λp hp=>(List.mem_append.mp hp).elim (λz=>I.pin p (List.mem_append_right _ z)) λz=>by
  obtain⟨hb,e⟩:=iE z
  obtain⟨f0,f1,f2,_⟩:=hf p.1 hb
  obtain⟨o,e',d⟩:=ho p.1 hb
  rw[e]at e';cases e'
  exact⟨e,f0,f1,f2,d⟩
theorem Inv.kU{pins pl:List (Addr×Obj)}{σ:St}{H:Hp}{s:Shared}(I:Inv X (pins++pl) σ H s):Inv X pins σ H s:=I.iw λp hp=>I.pin p (List.mem_append_right _ (List.mem_append_left _ hp))
theorem jb{iter:Expr}{body:List Stmt}{wi:TI}{g:TG}{tb:TS}{pos:Pos}(hp:PassesOwn (model X.prog X.w) X.A X.env X.xe)(hc:X.calm=true)(hi:PI X tg iter wi)(hg:PG X tg g)(hb:tV X body tb)
  (hs:∀x,foldedSetIterable iter X.env x=pure x:=by intro _;rfl):PS X (.For tg iter body [] pos) (Lq wi g tb):=by
 intro pins s σ H D I h
 refine wpAny_For (eV (hi pins s σ H _ I h) λv s1 h1=>eV h1 λitv s2 h2=> ?_) hs
 obtain⟨it,fp,tn,J,H2,e,I2,T,st2,f2,W,⟨m0,w0⟩,turn⟩:=h2
 subst e
 have GY:∀{H':Hp},(∀b∈fp,H' b=none) -> ∀b∈fp,e9 X pins H' b:=λhn b hb=>⟨hn b hb,(f2 b hb).2⟩
 refine codeAny_forLoop_any (λn s'=> ∃i σ' H',Inv X pins σ' H' s'/\tn i s'.heap/\(∀b∈fp,H' b=none)/\W i n σ' H') ?_ m0 ⟨0,σ,H2,I2,st2,λb hb=>(f2 b hb).1,w0⟩
 rintro n s3 ⟨i,σ3,H3,I3,st3,GZ,w3⟩
 rcases turn i n σ3 H3 w3 with⟨stop,qn⟩|⟨go,N,hN,step⟩
 ·refine wpAny_passesOwn hp (eV (T.done X rfl rfl rfl hc i pins s3 σ3 H3 X.xe I3 (GY GZ) st3 stop) λr s4 ⟨hr,I4⟩=> ?_)
  subst hr
  exact wpAny_execs_nil ⟨σ3,H3,I4,qn⟩
 ·refine wpAny_passesOwn hp (eV (T.item X rfl rfl rfl hc i pins s3 σ3 H3 X.xe I3 (GY GZ) st3 go) λr s4 ⟨u,hr,h4⟩=> ?_)
  subst hr
  refine wpAny_passesOwn hp (eV h4 λ_ s5 ⟨x,H5,I5,r5,y5,Hf,Lr⟩=> ?_)
  have Ls:=I5.pinned (GY Lr) (T.obj _ _ Hf)
  refine wpAny_passesOwn hp (eV (hg _ s5 σ3 H5 x u _ Ls r5 (step x H5 y5)) λ_ s6 ⟨Ju,H6,I6,q6⟩=> ?_)
  refine wpAny_passesOwn hp (eV (hb _ s6 Ju H6 _ I6 q6) λf s7 q7=> ?_)
  have again:∀{BY:St}{H7:Hp},Inv X (pins++cI fp s5.heap) BY H7 s7->N BY H7-> ∃m,m<n/\ ∃i σ' H',Inv X pins σ' H' s7/\tn i s7.heap/\(∀b∈fp,H' b=none)/\W i m σ' H':=λ {BY H7} I7 n7=>by
   obtain⟨m',hm,w7⟩:=hN BY H7 n7
   refine⟨m',hm,i+1,BY,H7,I7.kU,T.keep _ _ _ Hf λb hb o e=>(I7.pin (b,o) (List.mem_append_right _ (List.mem_append_right _ (dj hb e)))).1,λb hb=> ?_,w7⟩
   obtain⟨o,e,d⟩:=T.obj _ _ Hf b hb
   exact(I7.pin (b,o) (List.mem_append_right _ (List.mem_append_right _ (dj hb e)))).2.1
  cases f with
  |next=>obtain⟨BY,H7,I7,n7⟩:=q7;exact again I7 n7
  |cont=>obtain⟨BY,H7,I7,n7⟩:=q7;exact again I7 n7
  |brk=>obtain⟨BY,H7,I7,q7⟩:=q7;exact⟨BY,H7,I7.kU,q7⟩
  |ret v=>obtain⟨x7,BY,H7,I7,r7,q7⟩:=q7;exact⟨x7,BY,H7,I7.kU,r7,q7⟩
end
theorem BZ{K:PySem.W.Frag}{a:Addr}{xs:List V}{g:TG}{tb:TS}{D:Ends}{σ:St}{H:Hp}(Pv:Nat->St->Hp->Prop)(h0:Pv 0 σ H)(hl:∀i σ H,i<=xs.length->Pv i σ H->aU K H a xs)
  (hs:∀i x σ H,xs[i]?=some x->Pv i σ H->g x σ H λσ2 H2=>tb {D with nx:=Pv (i+1),ct:=Pv (i+1),bk:=D.nx} σ2 H2)(hd:∀σ H,Pv xs.length σ H->D.nx σ H):
  ∃W:Nat->Nat->St->Hp->Prop,(∃m,W 0 m σ H)/\ ∀i m σ H,W i m σ H->
   ((GX K a).stop i H/\D.nx σ H)∨((GX K a).go i H/\ ∃N:St->Hp->Prop,(∀σ' H',N σ' H'-> ∃m',m'<m/\W (i+1) m' σ' H')/\ ∀x H',(GX K a).xw i H x H'->g x σ H' λσ2 H2=>tb {D with nx:=N,ct:=N,bk:=D.nx} σ2 H2):=by
 refine⟨λi m σ H=>m=xs.length-i/\i<=xs.length/\Pv i σ H,⟨xs.length,by simp,Nat.zero_le _,h0⟩,?_⟩
 rintro i m σ H ⟨rfl,hi,p⟩
 have q:=hl i σ H hi p
 by_cases hlt:i<xs.length
 ·refine .inr ⟨⟨xs,xs[i],q,by simp[hlt]⟩,Pv (i+1),λσ' H' p'=>⟨xs.length- (i+1),by omega,rfl,hlt,p'⟩,λx H' y=> ?_⟩
  obtain⟨e,y⟩:=y
  subst e
  exact hs i x σ _ (y xs q) p
 ·have e:i=xs.length:=by omega
  subst e
  exact .inl ⟨⟨xs,q,Nat.le_refl _⟩,hd σ H p⟩
theorem eX{lo:Int}{n:Nat}{g:TG}{tb:TS}{D:Ends}{σ:St}{H:Hp}(Pv:Nat->St->Hp->Prop)(h0:Pv 0 σ H)
  (hs:∀i σ H,i<n->Pv i σ H->g (.int (lo+i)) σ H λσ2 H2=>tb {D with nx:=Pv (i+1),ct:=Pv (i+1),bk:=D.nx} σ2 H2)(hd:∀σ H,Pv n σ H->D.nx σ H):
  ∃W:Nat->Nat->St->Hp->Prop,(∃m,W 0 m σ H)/\ ∀i m σ H,W i m σ H->
   ((Eo lo n).stop i H/\D.nx σ H)∨((Eo lo n).go i H/\ ∃N:St->Hp->Prop,(∀σ' H',N σ' H'-> ∃m',m'<m/\W (i+1) m' σ' H')/\ ∀x H',(Eo lo n).xw i H x H'->g x σ H' λσ2 H2=>tb {D with nx:=N,ct:=N,bk:=D.nx} σ2 H2):=by
 refine⟨λi m σ H=>m=n-i/\i<=n/\Pv i σ H,⟨n,by simp,Nat.zero_le _,h0⟩,?_⟩
 rintro i m σ H ⟨rfl,hi,p⟩
 by_cases hlt:i<n
 ·refine .inr ⟨hlt,Pv (i+1),λσ' H' p'=>⟨n- (i+1),by omega,rfl,hlt,p'⟩,λx H' y=> ?_⟩
  obtain⟨e,y⟩:=y
  subst e y
  exact hs i σ _ hlt p
 ·have e:i=n:=by omega
  subst e
  exact .inl ⟨Nat.le_refl _,hd σ H p⟩
theorem kW{c:TT}{tb:TS}{D:Ends}{σ:St}{H:Hp}(Pv:St->Hp->Prop)(μ:St->Hp->Nat)(h0:Pv σ H)
  (hs:∀σ H,Pv σ H->c σ H λb H1=>if b=true then tb {D with nx:=λσ' H'=>Pv σ' H'/\μ σ' H'<μ σ H,ct:=λσ' H'=>Pv σ' H'/\μ σ' H'<μ σ H,bk:=D.nx} σ H1 else D.nx σ H1)
  (mono:∀σ H Q Q',(∀b H1,Q b H1->Q' b H1) ->c σ H Q->c σ H Q'):BX c tb D σ H:=by
 refine⟨λm σ H=>m=μ σ H/\Pv σ H,⟨_,rfl,h0⟩,?_⟩
 rintro m σ H ⟨rfl,p⟩
 refine mono σ H _ _ (λb H1 q=> ?_) (hs σ H p)
 cases b with
 |true=>exact⟨_,λσ' H' ⟨p',l⟩=>⟨_,l,rfl,p'⟩,q⟩
 |false=>exact q
abbrev R2:=V->V->Hp->VK->Prop
def pq(X:Cx)(f:Value->Value->Sem Value)(r:R2):Prop:=
 ∀(pins:List (Addr×Obj))(s:Shared)(σ:St)(H:Hp)(x y:V)(v u:Value)(Q:VK),Inv X pins σ H s->RelV x v->RelV y u->r x y H Q->
  wpAny (model X.prog X.w) X.A (f v u) (EP X pins σ Q) X.xe s
def Lu(X:Cx)(f:Value->Sem Value)(r:V->Hp->VK->Prop):Prop:=
 ∀(pins:List (Addr×Obj))(s:Shared)(σ:St)(H:Hp)(x:V)(v:Value)(Q:VK),Inv X pins σ H s->RelV x v->r x H Q->
  wpAny (model X.prog X.w) X.A (f v) (EP X pins σ Q) X.xe s
def pA(X:Cx)(f:Value)(r:List V->Hp->VK->Prop):Prop:=
 ∀(pins:List (Addr×Obj))(s:Shared)(σ:St)(H:Hp)(xs:List V)(us:List Value)(Q:VK),Inv X pins σ H s->Vals xs us->r xs H Q->
  wpAny (model X.prog X.w) X.A (call f us) (EP X pins σ Q) X.xe s
def iz(r:R2)(ta tb:TE):TE:=λσ H Q=>ta σ H λx H1=>tb σ H1 λy H2=>r x y H2 Q
def Od(r:V->Hp->VK->Prop)(ta:TE):TE:=λσ H Q=>ta σ H λx H1=>r x H1 Q
inductive ZI(C:Int->Int->Prop)(g:Int->Int->V)(x y:V)(H:Hp)(Q:VK):Prop
 |mk(i j:Int)(ex:x= .int i)(ey:y= .int j)(c:C i j)(q:Q (g i j) H)
def rI(C:Int->Int->Prop)(g:Int->Int->V):R2:=ZI C g
inductive Oe(g:Int->Int->V)(x y:V)(H:Hp)(Q:VK):Prop
 |mk(i j:Int)(ex:x= .int i)(ey:y= .int j)(q:Q (g i j) H)
def Af(g:Int->Int->V):R2:=Oe g
inductive ZU(g:Int->V)(x:V)(H:Hp)(Q:VK):Prop
 |mk(i:Int)(ex:x= .int i)(q:Q (g i) H)
def rU(g:Int->V):V->Hp->VK->Prop:=ZU g
section
variable{X:Cx}{a b c:Expr}{ta tb tc:TE}{pos:Pos}
theorem Hg(ha:PE X a ta)(hb:PE X b tb){pins:List (Addr×Obj)}{s:Shared}{σ:St}{H:Hp}{R:V->V->Hp->Prop}(I:Inv X pins σ H s)
  (h:ta σ H λx H1=>tb σ H1 λy H2=>R x y H2){Q:Value->Shared->Prop}{f:Value->Value->Sem Value}
  (hf:∀v u s2 x y H2,Inv X pins σ H2 s2->RelV x v->RelV y u->R x y H2->wpAny (model X.prog X.w) X.A (f v u) Q X.xe s2):
  wpAny (model X.prog X.w) X.A (eval a X.env) (λv s₁=>wpAny (model X.prog X.w) X.A (eval b X.env) (λu s₂=>wpAny (model X.prog X.w) X.A (f v u) Q X.xe s₂) X.xe s₁) X.xe s:=by
 refine eV (ha pins s σ H _ I h) λv s1 ⟨x,H1,I1,r1,q1⟩=> ?_
 refine eV (hb pins s1 σ H1 _ I1 q1) λu s2 ⟨y,H2,I2,r2,q2⟩=> ?_
 exact hf v u s2 x y H2 I2 r1 r2 q2
theorem ai{op:Operator}{r:R2}(ho:pq X (binaryOp op) r)(ha:PE X a ta)(hb:PE X b tb):PE X (.BinOp a op b pos) (iz r ta tb):=by
 intro pins s σ H Q I h
 exact wpAny_BinOp (Hg ha hb I h λv u s2 x y H2 I2 rx ry q=>ho pins s2 σ H2 x y v u Q I2 rx ry q)
theorem zd{op:UnaryOp}{r:V->Hp->VK->Prop}(ho:Lu X (unaryOp op) r)(ha:PE X a ta):PE X (.UnaryOp op a pos) (Od r ta):=by
 intro pins s σ H Q I h
 exact UnaryOp_ (eV (ha pins s σ H _ I h) λv s1 ⟨x,H1,I1,r1,q1⟩=>ho pins s1 σ H1 x v Q I1 r1 q1)
theorem Hh{f:Value->Value->Sem Value}{C:Int->Int->Prop}{g:Int->Int->Int}
  (rule:∀(i j:Int)(t u:Tok)(s:Shared)(Q:Value->Shared->Prop)(E:Value->Shared->Prop),C i j->Q (.int (g i j) s.toks) {s with toks:=s.toks+1} ->wpAny (model X.prog X.w) X.A (f (.int i t) (.int j u)) Q E s):
  pq X f (rI C λi j=> .int (g i j)):=by
 intro pins s σ H x y v u Q I rx ry h
 obtain⟨i,j,rfl,rfl,hc,q⟩:=h
 obtain⟨t,rfl⟩:=rx
 obtain⟨t',rfl⟩:=ry
 exact rule i j t t' s _ _ hc ⟨.int (g i j),H,I.tok _,⟨_,rfl⟩,q⟩
theorem Jv{f:Value->Value->Sem Value}{g:Int->Int->Int}
  (rule:∀(i j:Int)(t u:Tok)(s:Shared)(Q:Value->Shared->Prop)(E:Value->Shared->Prop),Q (.int (g i j) s.toks) {s with toks:=s.toks+1} ->wpAny (model X.prog X.w) X.A (f (.int i t) (.int j u)) Q E s):
  pq X f (Af λi j=> .int (g i j)):=by
 intro pins s σ H x y v u Q I rx ry h
 obtain⟨i,j,rfl,rfl,q⟩:=h
 obtain⟨t,rfl⟩:=rx
 obtain⟨t',rfl⟩:=ry
 exact rule i j t t' s _ _ ⟨.int (g i j),H,I.tok _,⟨_,rfl⟩,q⟩
theorem ED{f:Value->Value->Sem Value}{g:Int->Int->Bool}
  (rule:∀(i j:Int)(t u:Tok)(s:Shared)(Q:Value->Shared->Prop)(E:Value->Shared->Prop),Q (.bool (g i j)) s->wpAny (model X.prog X.w) X.A (f (.int i t) (.int j u)) Q E s):
  pq X f (Af λi j=> .bl (g i j)):=by
 intro pins s σ H x y v u Q I rx ry h
 obtain⟨i,j,rfl,rfl,q⟩:=h
 obtain⟨t,rfl⟩:=rx
 obtain⟨t',rfl⟩:=ry
 exact rule i j t t' s _ _ ⟨.bl (g i j),H,I,rfl,q⟩
def Jw(i j:Int):Prop:=0<j/\j<1073741824
def Jx(i j:Int):Prop:=0<=j/\j<=1000000/\i.natAbs<2^64
def EE(i j:Int):Prop:=(-(2^64)<i/\i<2^64)∨(-(2^64)<j/\j<2^64)
theorem EE.ok{i j:Int}(h:EE i j):IntMulOk i j:=by
 rcases h with⟨h1,h2⟩|⟨h1,h2⟩
 ·exact .of_left (intBits_le_64 h1 h2)
 ·exact .of_right (intBits_le_64 h1 h2)
theorem aI:pq X (binaryOp .Add) (Af λi j=> .int (i+j)):=Jv λ_ _ _ _ _ _ _ q=>add_int q
theorem bW:pq X (binaryOp .Sub) (Af λi j=> .int (i-j)):=Jv λ_ _ _ _ _ _ _ q=>sub_int q
theorem aZ:pq X (binaryOp .Mult) (rI EE λi j=> .int (i*j)):=Hh λ_ _ _ _ _ _ _ hc q=>mul_int q hc.ok
theorem br:pq X (binaryOp .FloorDiv) (rI Jw λi j=> .int (i/j)):=Hh λi j _ _ _ _ _ hc q=>by
 have h1:(0:Int)<j:=hc.1
 have h2:j<1073741824:=hc.2
 exact floordiv_int (by omega) (by rw[Int.fdiv_eq_ediv_of_nonneg i (by omega)];exact q) (.inl (PyProof.noPylong_small (by omega)))
theorem cJ:pq X (binaryOp .Mod) (rI (λ_ j=>0<j) λi j=> .int (i%j)):=Hh λi j _ _ _ _ _ hc q=>by
 have h1:(0:Int)<j:=hc
 exact mod_int' (by omega) (by rw[Int.fmod_eq_emod_of_nonneg i (by omega)];exact q)
theorem Hj:pq X (binaryOp .Pow) (rI Jx λi j=> .int (i^j.toNat)):=Hh λ_ _ _ _ _ _ _ hc q=>pow_int_small hc.1 hc.2.1 hc.2.2 q
theorem Hl:pq X (binaryOp .LShift) (rI Jx λi j=> .int (i*2^j.toNat)):=Hh λ_ _ _ _ _ _ _ hc q=>lshift_int_small hc.1 hc.2.1 hc.2.2 q
theorem Of{f:Value->Sem Value}{g:Int->Int}
  (rule:∀(i:Int)(t:Tok)(s:Shared)(Q:Value->Shared->Prop)(E:Value->Shared->Prop),Q (.int (g i) s.toks) {s with toks:=s.toks+1} ->wpAny (model X.prog X.w) X.A (f (.int i t)) Q E s):
  Lu X f (rU λi=> .int (g i)):=by
 intro pins s σ H x v Q I rx h
 obtain⟨i,rfl,q⟩:=h
 obtain⟨t,rfl⟩:=rx
 exact rule i t s _ _ ⟨.int (g i),H,I.tok _,⟨_,rfl⟩,q⟩
theorem t7:Lu X (unaryOp .USub) (rU λi=> .int (-i)):=Of λ_ _ _ _ _ q=>neg_int q
end
def Jy:V->V->Bool
 | .ig,.ig=>true| .ig,.int _=>true| .int _,.ig=>true| .ig,.bl _=>true| .bl _,.ig=>true| .ig,.str _=>true| .str _,.ig=>true
 | .int _,.int _=>true| .bl _,.bl _=>true| .str _,.str _=>true| .BN _,.BN _=>true
 | .int _,.str _=>true| .str _,.int _=>true| .bl _,.str _=>true| .str _,.bl _=>true
 |_,_=>false
def MN:R2:=λx y H Q=>Jy x y=true/\Q (.bl (decide (x=y))) H
def Og:R2:=λx y H Q=>Jy x y=true/\Q (.bl (!decide (x=y))) H
theorem ze{i j:Int}:decide (V.int i=V.int j)=(i==j):=by
 rw[Bool.eq_iff_iff]
 simp
theorem Ca{i j:Bool}:decide (V.bl i=V.bl j)=(i==j):=by
 rw[Bool.eq_iff_iff]
 simp
theorem zf{i j:Str}:decide (V.str i=V.str j)=(i==j):=by
 rw[Bool.eq_iff_iff]
 simp
theorem zg{i j:Array UInt8}:decide (V.BN i=V.BN j)=(i.toList==j.toList):=by
 rw[Bool.eq_iff_iff]
 cases i
 cases j
 simp
section
variable{X:Cx}{a b c:Expr}{ta tb tc:TE}{pos:Pos}
theorem ck{pins:List (Addr×Obj)}{σ:St}{H:Hp}{s:Shared}{Q:VK}{k k':Bool}(I:Inv X pins σ H s)(q:Q (.bl k) H)(e:k=k'):EP X pins σ Q (.bool k') s:=by
 subst e
 exact⟨.bl k,H,I,rfl,q⟩
theorem Cb:pq X (compareOp .Eq) MN:=by
 intro pins s σ H x y v u Q I rx ry h
 obtain⟨hs,q⟩:=h
 cases x with
 |ig=>
  cases rx
  cases y with
  |ig=>cases ry;exact PySem.EqNone.eq_none_none (ck I q (by simp))
  |bl j=>cases ry;exact PySem.EqNone.eq_none_bool (ck I q (by simp))
  |int j=>obtain⟨t',rfl⟩:=ry;exact PySem.EqNone.eq_none_int (ck I q (by simp))
  |str j=>obtain⟨t',rfl⟩:=ry;exact PySem.EqNone.eq_none_str (ck I q (by simp))
  |_=>exact absurd (show false=true from hs) Bool.false_ne_true
 |bl i=>
  cases rx
  cases y with
  |ig=>cases ry;exact PySem.EqNone.eq_bool_none (ck I q (by simp))
  |bl j=>cases ry;exact eq_bool (ck I q Ca)
  |str j=>obtain⟨t',rfl⟩:=ry;exact PySem.EqMixed.eq_bool_str (ck I q (by simp))
  |_=>exact absurd (show false=true from hs) Bool.false_ne_true
 |int i=>
  obtain⟨t,rfl⟩:=rx
  cases y with
  |ig=>cases ry;exact PySem.EqNone.eq_int_none (ck I q (by simp))
  |int j=>obtain⟨t',rfl⟩:=ry;exact eq_int (ck I q ze)
  |str j=>obtain⟨t',rfl⟩:=ry;exact PySem.EqMixed.eq_int_str (ck I q (by simp))
  |_=>exact absurd (show false=true from hs) Bool.false_ne_true
 |str i=>
  obtain⟨t,rfl⟩:=rx
  cases y with
  |ig=>cases ry;exact PySem.EqNone.eq_str_none (ck I q (by simp))
  |bl j=>cases ry;exact PySem.EqMixed.eq_str_bool (ck I q (by simp))
  |int j=>obtain⟨t',rfl⟩:=ry;exact PySem.EqMixed.eq_str_int (ck I q (by simp))
  |str j=>obtain⟨t',rfl⟩:=ry;exact eq_str (ck I q zf)
  |_=>exact absurd (show false=true from hs) Bool.false_ne_true
 |BN i=>
  obtain⟨t,rfl⟩:=rx
  cases y with
  |BN j=>obtain⟨t',rfl⟩:=ry;exact PySem.W.eq_bytes (ck I q zg)
  |_=>exact absurd (show false=true from hs) Bool.false_ne_true
 |_=>cases y<;>exact absurd (show false=true from hs) Bool.false_ne_true
theorem Gj:pq X (compareOp .NotEq) Og:=by
 intro pins s σ H x y v u Q I rx ry h
 obtain⟨hs,q⟩:=h
 cases x with
 |ig=>
  cases rx
  cases y with
  |ig=>cases ry;exact PySem.EqNone.ne_none_none (ck I q (by simp))
  |bl j=>cases ry;exact PySem.EqNone.ne_none_bool (ck I q (by simp))
  |int j=>obtain⟨t',rfl⟩:=ry;exact PySem.EqNone.ne_none_int (ck I q (by simp))
  |str j=>obtain⟨t',rfl⟩:=ry;exact PySem.EqNone.ne_none_str (ck I q (by simp))
  |_=>exact absurd (show false=true from hs) Bool.false_ne_true
 |bl i=>
  cases rx
  cases y with
  |ig=>cases ry;exact PySem.EqNone.ne_bool_none (ck I q (by simp))
  |bl j=>cases ry;exact ne_bool (ck I q (congrArg not Ca))
  |str j=>obtain⟨t',rfl⟩:=ry;exact PySem.EqMixed.ne_bool_str (ck I q (by simp))
  |_=>exact absurd (show false=true from hs) Bool.false_ne_true
 |int i=>
  obtain⟨t,rfl⟩:=rx
  cases y with
  |ig=>cases ry;exact PySem.EqNone.ne_int_none (ck I q (by simp))
  |int j=>obtain⟨t',rfl⟩:=ry;exact ne_int (ck I q (congrArg not ze))
  |str j=>obtain⟨t',rfl⟩:=ry;exact PySem.EqMixed.ne_int_str (ck I q (by simp))
  |_=>exact absurd (show false=true from hs) Bool.false_ne_true
 |str i=>
  obtain⟨t,rfl⟩:=rx
  cases y with
  |ig=>cases ry;exact PySem.EqNone.ne_str_none (ck I q (by simp))
  |bl j=>cases ry;exact PySem.EqMixed.ne_str_bool (ck I q (by simp))
  |int j=>obtain⟨t',rfl⟩:=ry;exact PySem.EqMixed.ne_str_int (ck I q (by simp))
  |str j=>obtain⟨t',rfl⟩:=ry;exact ne_str (ck I q (congrArg not zf))
  |_=>exact absurd (show false=true from hs) Bool.false_ne_true
 |BN i=>
  obtain⟨t,rfl⟩:=rx
  cases y with
  |BN j=>obtain⟨t',rfl⟩:=ry;exact PySem.W.ne_bytes (ck I q (congrArg not zg))
  |_=>exact absurd (show false=true from hs) Bool.false_ne_true
 |_=>cases y<;>exact absurd (show false=true from hs) Bool.false_ne_true
theorem Gk:pq X (compareOp .Lt) (Af λi j=> .bl (decide (i<j))):=ED λ_ _ _ _ _ _ _ q=>lt_int q
theorem qg:pq X (compareOp .LtE) (Af λi j=> .bl (decide (i<=j))):=ED λ_ _ _ _ _ _ _ q=>le_int q
theorem qh:pq X (compareOp .Gt) (Af λi j=> .bl (decide (j<i))):=ED λ_ _ _ _ _ _ _ q=>gt_int q
theorem Cc:pq X (compareOp .GtE) (Af λi j=> .bl (decide (j<=i))):=ED λ_ _ _ _ _ _ _ q=>ge_int q
theorem Ho:pq X (compareOp .Is) (λx y H Q=>y= .ig/\Q (.bl (decide (x= .ig))) H):=by
 intro pins s σ H x y v u Q I rx ry h
 obtain⟨rfl,q⟩:=h
 cases ry
 refine is_none_gen (ck I q ?_)
 cases x<;>first
  |(cases rx;rfl)
  |(obtain⟨t,rfl⟩:=rx;rfl)
theorem cK(b:Expr){op:CmpOp}(h:op≠ .In:=by decide)(h2:op≠ .NotIn:=by decide):behindInMarks op b=false:=by
 have e1:(op==CmpOp.In)=false:=by cases op<;>first|rfl|exact absurd rfl h
 have e2:(op==CmpOp.NotIn)=false:=by cases op<;>first|rfl|exact absurd rfl h2
 cases b<;>simp[behindInMarks,e1,e2]
theorem m7{op:CmpOp}{r:R2}(ho:pq X (compareOp op) r)(ha:PE X a ta)(hb:PE X b tb)(hm:behindInMarks op b=false):PE X (.Compare a [op] [b] pos) (iz r ta tb):=by
 intro pins s σ H Q I h
 exact wpAny_Compare1 (Hg ha hb I h λv u s2 x y H2 I2 rx ry q=>ho pins s2 σ H2 x y v u Q I2 rx ry q) hm
def Jz(t:TE):TT:=λσ H Q=>t σ H λx H1=>MJ x λc=>Q c H1
theorem cF{op:CmpOp}{r:R2}(ho:pq X (compareOp op) r)(ha:PE X a ta)(hb:PE X b tb)(hm:behindInMarks op b=false):PT X (.Compare a [op] [b] pos) (Jz (iz r ta tb)):=by
 intro pins s σ H Q I h
 refine wpAny_isTrue_Compare1 (eV (ha pins s σ H _ I h) λv s1 ⟨x,H1,I1,r1,q1⟩=>eV (hb pins s1 σ H1 _ I1 q1) λu s2 ⟨y,H2,I2,r2,q2⟩=>
  eV (ho pins s2 σ H2 x y v u _ I2 r1 r2 q2) λc s3 ⟨z,H3,I3,r3,k,e,q3⟩=> ?_) hm
 subst e
 cases r3
 exact wpAny_truthy_bool ⟨H3,I3,q3⟩
theorem qi:(sizeLine:Nat)<2^63:=by rw[sizeLine_eq];decide
theorem vals1{x:V}{us:List Value}(r:Vals [x] us):∃u,us=[u]/\RelV x u:=by
 cases r with
 |cons r1 r2=>cases r2;exact⟨_,rfl,r1⟩
theorem Cd:pA X (.builtin "abs") (λxs H Q=> ∃i,xs=[.int i]/\Q (.int (if i<0 then-i else i)) H):=by
 intro pins s σ H xs us Q I r h
 obtain⟨i,rfl,q⟩:=h
 obtain⟨u,rfl,t,rfl⟩:=vals1 r
 exact call_abs_int λu tk=>⟨.int (if i<0 then-i else i),H,I.tok _,⟨_,rfl⟩,q⟩
theorem Ag:pA X (.type "int") (λxs H Q=>(∃i,xs=[.int i]/\Q (.int i) H)∨ ∃k,xs=[.bl k]/\Q (.int (if k then 1 else 0)) H):=by
 intro pins s σ H xs us Q I r h
 rcases h with⟨i,rfl,q⟩|⟨k,rfl,q⟩
 ·obtain⟨u,rfl,t,rfl⟩:=vals1 r
  exact call_int_int ⟨.int i,H,I,⟨_,rfl⟩,q⟩
 ·obtain⟨u,rfl,r1⟩:=vals1 r
  cases r1
  exact call_int_bool ⟨.int (if k then 1 else 0),H,I.tok _,⟨_,rfl⟩,q⟩
end
structure Hq(h:Heap)(x dx C:Addr)(mA:Str->Option Value):Prop where
 obj:h.get? x=some (PySem.W.instObj C dx)
 ns:h.Ns1 dx mA
 ne:dx≠x
theorem Ah{h:Heap}{dx:Addr}{mA:Str->Option Value}(n:h.Ns1 dx mA):∃od,h.get? dx=some od/\ ∀name,PySem.W.lookIn name od=some (mA name):=by
 obtain⟨o,es,ep,ho,hd,hk,_,hm⟩:=n
 refine⟨o,ho,λname=> ?_⟩
 have e:=hm name
 unfold nsFind findBy at e
 rw[<-Array.find?_toList]at e
 unfold PySem.W.lookIn
 rw[hd]
 dsimp only
 split
 ·rename_i y q
  rw[q]at e
  exact congrArg some e
 ·rename_i q
  rw[q]at e
  have a:es.toList.any (·.refKey)=false:=by
   rw[List.any_eq_false]
   intro y hy
   obtain⟨z,t,hkey⟩:=hk y (Array.mem_toList_iff.mp hy)
   simp[DictEntry.refKey,hkey]
  have a':¬es.toList.any (·.refKey)=true:=by rw[a];exact Bool.false_ne_true
  rw[if_neg a']
  exact congrArg some e
theorem Hq.look{h:Heap}{x dx C:Addr}{mA:Str->Option Value}(I:Hq h x dx C mA):∃od,PySem.W.InstAt h x (PySem.W.instObj C dx) C (some od)/\ ∀name,PySem.W.lookIn name od=some (mA name):=
 let⟨od,ho,hl⟩:=Ah I.ns
 ⟨od,⟨I.obj,rfl,rfl,ho⟩,hl⟩
section
variable{prog:Program}{w:World}{A:Around}{E:Value->Shared->Prop}{s:Shared}{K:PySem.W.Frag}{x dx C f:Addr}{mA:Str->Option Value}{name:Str}{v:Value}
end
section
variable{P:Program}{w:World}{H H':Hp}{h h':Heap}{a C dx:Addr}{fs fs':List (Str×V)}
theorem EF(hok:pW P w H h)(e:H a=some (.ins C dx fs)):∃mA,Hq h a dx C mA/\(∀f,GN (fs.lookup f) (mA f))/\PySem.Within mA (fs.map (·.1))/\fs.length<=1000/\H dx=some (.own a):=by
 obtain⟨d,z,ne,ob,mA,n,r,q⟩:=(show dW P w H h a (.ins C dx fs)from hok a _ e)
 exact⟨mA,⟨ob,n,ne⟩,r,q,z,d⟩
end
structure Lv(K:PySem.W.Frag)(C:Addr):Prop where
 pg:PySem.W.plainGet K C Str.empty=true
 hd:PySem.W.hasDictIn K C=true
 po:PySem.W.plainOver K C=true
 sa:PySem.W.findIn K (.ref C) "__setattr__"=some (some (.builtin "object.__setattr__"))
theorem Lv.get{K:PySem.W.Frag}{C:Addr}(c:Lv K C)(f:Str):PySem.W.plainGet K C f=true:=c.pg
section
variable{X:Cx}{pins:List (Addr×Obj)}{σ:St}{H:Hp}{s:Shared}{a C dx:Addr}{fs:List (Str×V)}{f:Str}{v:V}{A:Around}{E:Value->Shared->Prop}
end
section
variable{X:Cx}{o e value:Expr}{f:Str}{pos pos' tpos:Pos}{ta tv:TE}
end
section
variable{X:Cx}{pins:List (Addr×Obj)}{σ:St}{H:Hp}{s:Shared}{A:Around}{E:Value->Shared->Prop}{Q:Value->Shared->Prop}{c:Value}{b:Bool}
inductive mj(K:PySem.W.Frag)(H:Hp):V->Value->Prop where
 |ig:mj K H .ig (.type "NoneType")
 |bl(x:Bool):mj K H (.bl x) (.type "bool")
 |int(i:Int):mj K H (.int i) (.type "int")
 |str(x:Str):mj K H (.str x) (.type "str")
 |IF(x:UInt64):mj K H (.IF x) (.type "float")
 |lst{a:Addr}{xs:List V}(e:H a=some (.lst xs)):mj K H (.ref a) (.type "list")
 |tT{a:Addr}{o:Obj}{xs:List V}(e:H a=some (.tT o (.lst xs))):mj K H (.ref a) (.type "list")
 |tup{a:Addr}{xs:List V}(e:H a=some (.tup xs)):mj K H (.ref a) (.type "tuple")
 |dK{a:Addr}{kvs:List (Key×V)}(e:H a=some (.dK kvs)):mj K H (.ref a) (.type "dict")
 |dT{a:Addr}{kvs:List (List Key×V)}(e:H a=some (.dT kvs)):mj K H (.ref a) (.type "dict")
 |ins{a C dx:Addr}{fs:List (Str×V)}(e:H a=some (.ins C dx fs))(cl:Lv K C)(ha:PySem.W.findIn K (.ref C) "__class__"=some (some (.builtin "object.__class__")))
   (hn:PySem.W.specialIn K (.builtin "object.__class__") "__get__"=some (some (.builtin "getset_descriptor.__get__"))) (htk:PySem.W.takesIn K (.builtin "object.__class__")=some true)
   (hm:PySem.W.mroIn K C (.type "object")=some true):mj K H (.ref a) (.ref C)
theorem Ai{x:V}{u t:Value}(I:Inv X pins σ H s)(rx:RelV x u)(ty:mj X.K H x t)(e:PySem.W.kitOne X.K t c=some b)(h:∀tk,Q (.bool b) {s with toks:=tk}):
  wpAny (model X.prog X.w) A (call (.builtin "isinstance") [u,c]) Q E s:=by
 cases ty with
 |ig=>cases(show u=Value.none from rx);exact PySem.W.kia_one PySem.W.kitx_none I.tU True.intro e (λz=>nomatch z) h
 |bl y=>cases(show u=Value.bool y from rx);exact PySem.W.kia_one PySem.W.kitx_bool I.tU True.intro e (λz=>nomatch z) h
 |int i=>obtain⟨t,q⟩:=(show ∃t,u=Value.int i t from rx);cases q;exact PySem.W.kia_one PySem.W.kitx_int I.tU True.intro e (λz=>nomatch z) h
 |str y=>obtain⟨t,q⟩:=(show ∃t,u=Value.str y t from rx);cases q;exact PySem.W.kia_one PySem.W.kitx_str I.tU True.intro e (λz=>nomatch z) h
 |IF y=>obtain⟨t,q⟩:=(show ∃t,u=Value.float y t from rx);cases q;exact PySem.W.kia_one PySem.W.kitx_float I.tU True.intro e (λz=>nomatch z) h
 | @lst a xs ea=>
  cases(show u=Value.ref a from rx)
  obtain⟨_,_,n,_,h1⟩:=(show dW X.prog X.w H s.heap a (.lst xs)from I.hok a _ ea)
  exact PySem.W.kia_one PySem.W.kitx_list I.tU ⟨_,h1,rfl⟩ e (λz=>nomatch z) h
 | @tT a ob xs ea=>
  cases(show u=Value.ref a from rx)
  obtain⟨_,_,_,n,_,h1⟩:=(show dW X.prog X.w H s.heap a (.tT ob (.lst xs))from I.hok a _ ea)
  exact PySem.W.kia_one PySem.W.kitx_list I.tU ⟨_,h1,rfl⟩ e (λz=>nomatch z) h
 | @tup a xs ea=>
  cases(show u=Value.ref a from rx)
  obtain⟨_,_,_,p⟩:=(show dW X.prog X.w H s.heap a (.tup xs)from I.hok a _ ea)
  obtain⟨o,h1,h2,_⟩:=p
  exact PySem.W.kia_one PySem.W.kitx_tuple I.tU ⟨o,h1,h2⟩ e (λz=>nomatch z) h
 | @dK a kvs ea=>
  cases(show u=Value.ref a from rx)
  obtain⟨_,_,vs,_,p⟩:=(show dW X.prog X.w H s.heap a (.dK kvs)from I.hok a _ ea)
  obtain⟨o,es,ep,h1,h2,_⟩:=p
  exact PySem.W.kia_one PySem.W.kitx_dict I.tU ⟨o,h1,h2.1⟩ e (λz=>nomatch z) h
 | @dT a kvs ea=>
  cases(show u=Value.ref a from rx)
  obtain⟨_,_,xs,_,o,es,ep,h1,h2,_⟩:=(show dW X.prog X.w H s.heap a (.dT kvs)from I.hok a _ ea)
  exact PySem.W.kia_one PySem.W.kitx_dict I.tU ⟨o,h1,h2.1⟩ e (λz=>nomatch z) h
 | @ins a C dx fs ea cl ha hn htk hm=>
  cases(show u=Value.ref a from rx)
  obtain⟨mA,O,_⟩:=EF I.hok ea
  obtain⟨od,J,_⟩:=O.look
  exact PySem.W.kia_one (PySem.W.kitx_own (cl.get _) cl.hd ha hn htk hm) I.tU J e (λz=>nomatch z) h
end
structure eY(k:Nat)(A:Around):Prop where
 hd:A.handled=none
 dp:A.depth+3*k+5<recursionLimit
 un:A.units+16*k+200<cLine
theorem eY.mono{j k:Nat}{A:Around}(r:eY k A)(h:j<=k):eY j A:=⟨r.hd,by have:=r.dp;omega,by have:=r.un;omega⟩
theorem eY.deeper{k:Nat}{A:Around}(r:eY (k+1) A)(env:Env):eY k (A.deeper env):=
 ⟨r.hd,by have:=r.dp;show A.depth+1+3*k+5<_;omega,by have:=r.un;show A.units+3+16*k+200<_;omega⟩
theorem eY.in1{k:Nat}{A:Around}(r:eY (k+1) A):eY k A.in1:=
 ⟨r.hd,by have:=r.dp;show A.depth+3*k+5<_;omega,by have:=r.un;show A.units+1+16*k+200<_;omega⟩
theorem eY.depth{k:Nat}{A:Around}(r:eY k A):A.depth<recursionLimit:=by have:=r.dp;omega
theorem eY.units{k:Nat}{A:Around}(r:eY k A):A.units+64<cLine:=by have:=r.un;omega
def jc:TA:=λ_ H Q=>Q [] H
def cW(ta:TE)(tr:TA):TA:=λσ H Q=>ta σ H λx H1=>tr σ H1 λxs H2=>Q (x::xs) H2
section
variable{X:Cx}{e:Expr}{es:List Expr}{te:TE}{t:TA}{pos:Pos}
theorem aj:PA X [] jc:=λ_ _ _ _ H Q I h=>Calls.spliced_nil ⟨[],H,I,.nil,h⟩
theorem af(ha:PE X e te)(hr:PA X es t)(hs:starEach (e::es) X.env=(false,eval e X.env)::starEach es X.env:=by rfl):PA X (e::es) (cW te t):=by
 intro pos pins s σ H Q I h
 rw[hs]
 show wpAny _ _ (spliced ((false,eval e X.env)::backTo pos (starEach es X.env))) _ _ s
 refine Calls.spliced_cons (eV (ha pins s σ H _ I h) λu s1 ⟨x,H1,I1,r1,q1⟩=> ?_)
 exact eV (hr pos pins s1 σ H1 _ I1 q1) λus s2 ⟨xs,H2,I2,r2,q2⟩=>⟨x::xs,H2,I2,.cons r1 r2,q2⟩
def Lw(t:TA):TE:=λσ H Q=>t σ H λxs H1=>xs.length<=sizeLine/\ ∀p,H1 p=none->Q (.ref p) (upd H1 p (.tup xs))
def JA(t:TA):TE:=λσ H Q=>t σ H λxs H1=>xs.length<=sizeLine/\ ∀p,H1 p=none->Q (.ref p) (upd H1 p (.lst xs))
theorem mq{x1}(h:PA X es t):PE X (.Tuple es x1 pos) (Lw t):=by
 intro pins s σ H Q I hq
 refine wpAny_Tuple_spliced (eV (h pos pins s σ H _ I hq) λus s1 ⟨xs,H1,I1,r,z,q⟩=>⟨by rw[<-r.length];exact z,?_⟩)
 have hf:H1 s1.heap.objs.size=none:=I1.hok.fresh (Nat.le_refl _)
 refine⟨.ref s1.heap.objs.size,upd H1 s1.heap.objs.size (.tup xs),I1.laid (t':=s1.toks) (λb u e=>Heap.get?_push_of_some _ e) (Nat.le_refl _) ?_,rfl,q _ hf⟩
 exact⟨z,us,r,⟨_,Heap.get?_push_size _ rfl,rfl,_,rfl⟩⟩
theorem dF(h:PA X es t):PE X (.List es pos) (JA t):=by
 intro pins s σ H Q I hq
 refine wpAny_List_spliced (eV (h pos pins s σ H _ I hq) λus s1 ⟨xs,H1,I1,r,z,q⟩=>⟨by rw[<-r.length];exact z,?_⟩)
 have hf:H1 s1.heap.objs.size=none:=I1.hok.fresh (Nat.le_refl _)
 refine⟨.ref s1.heap.objs.size,upd H1 s1.heap.objs.size (.lst xs),I1.laid (t':=s1.toks) (λb u e=>Heap.get?_push_of_some _ e) (Nat.le_refl _) ?_,rfl,q _ hf⟩
 exact⟨z,us,0,r,Heap.get?_push_size _ rfl⟩
end
abbrev Sp:=List V->Hp->VK->XK->Prop
abbrev Aj:=List Env->Hp->Shared->XK->Value->Shared->Prop
structure EG(P:Program)(w:World)(K:PySem.W.Frag)(mg:Str->Option Value)(base:Heap)(A:Around)(outer:List Env)(s:Shared)(H:Hp):Prop where
 frames:A.frames=some outer
 mod:Mod K mg base
 bs:∀b o,base.get? b=some o->s.heap.get? b=some o/\H b=none
 Ex:base.objs.size<=s.heap.objs.size
 pL:s.heap.FunFrames base outer
 IL:∀b∈frs outer,H b=none
 hok:pW P w H s.heap
 bare:AllBare s.gens
def CE(outer:List Env)(P:Program)(w:World)(H:Hp)(s:Shared)(Q:VK)(u:Value)(s':Shared):Prop:=
 ∃v H',s'.os=s.os/\BP s.gens s'.gens/\Un (frs outer) [] H H' s.heap s'.heap/\pW P w H' s'.heap/\RelV v u/\Q v H'
def CR(CX:Aj)(outer:List Env)(P:Program)(w:World)(H:Hp)(s:Shared)(Q:VK)(E:XK)(r:Result)(s':Shared):Prop:=
 match r with
 | .ok (.ret u)=>CE outer P w H s Q u s'
 | .ok _=>False
 | .error e=>CX outer H s E e s'
structure m8(P:Program)(w:World)(K:PySem.W.Frag)(mg:Str->Option Value)(base:Heap)(CX:Aj)(k:Nat)(f:Addr)(fd:FuncData)(ps:List Str)(sp:Sp):Prop where
 len:∀vs H Q E,sp vs H Q E->vs.length=ps.length
 run:∀(A:Around)(outer:List Env)(s:Shared)(H:Hp)(args:Args)(us:List Value)(vs:List V)(Q:VK)(E:XK),eY k A->EG P w K mg base A outer s H->BindsTo s fd args (ps.zip us) ->Vals vs us->sp vs H Q E->
  codeAny (model P w) A (.call (.ref f) args) (CR CX outer P w H s Q E) s
theorem m8.mono{P:Program}{w:World}{K:PySem.W.Frag}{mg:Str->Option Value}{base:Heap}{CX:Aj}{j k:Nat}{f:Addr}{fd:FuncData}{ps:List Str}{sp:Sp}(F:m8 P w K mg base CX j f fd ps sp)(h:j<=k):
  m8 P w K mg base CX k f fd ps sp:=⟨F.len,λA outer s H args us vs Q E hr=>F.run A outer s H args us vs Q E (hr.mono h)⟩
section
variable{X:Cx}{pins:List (Addr×Obj)}{σ:St}{H:Hp}{s s':Shared}
theorem Inv.Lx(I:Inv X pins σ H s):EG X.prog X.w X.K X.mg X.base X.A X.stack s H:=
 ⟨I.ok.frames,I.ok.mod,I.bs,Nat.le_trans I.ok.Ex I.sz,I.stack,I.pX,I.hok,I.bare.bare⟩
theorem Inv.after{Q:VK}{u:Value}(I:Inv X pins σ H s)(h:CE X.stack X.prog X.w H s Q u s'):EP X pins σ Q u s':=by
 obtain⟨v,H',os,bare,un,hok,r,q⟩:=h
 obtain⟨hh,g,d,t,os'⟩:=s'
 obtain rfl:os'=s.os:=os
 exact⟨v,H',I.call (h':=hh) (g':=g) (d':=d) (t':=t) (ch:=[]) un hok bare (λb z=>absurd z (by simp)),r,q⟩
end
def kX(sp:Sp)(Gm:List V)(E:XK)(t:TA):TE:=λσ H Q=>t σ H λvs H1=>sp (vs++Gm) H1 Q E
def Binds(K:PySem.W.Frag)(fd:FuncData)(ps:List Str)(ds:List Value):Prop:=
 ∀(s:Shared)(us:List Value),K.In s.heap->(us++ds).length=ps.length->BindsTo s fd ⟨us,[]⟩ (ps.zip (us++ds))
theorem Binds.all{K:PySem.W.Frag}{fd:FuncData}{ps:List Str}(h:∀us:List Value,us.length=ps.length->bindArgs fd ⟨us,[]⟩=pure (ps.zip us)):Binds K fd ps []:=λs us _ hl=>by
 rw[List.append_nil]at hl ⊢
 exact .of_eq (h us hl)
def Passes(CX:Aj)(X:Cx)(E:XK):Prop:=∀(pins:List (Addr×Obj))(σ:St)(H:Hp)(s:Shared)(e:Value)(s':Shared),Inv X pins σ H s->CX X.stack H s E e s'->X.xe e s'
section
variable{X:Cx}{CX:Aj}{k:Nat}{f C:Addr}{fd:FuncData}{ps:List Str}{sp:Sp}{Gm:List V}{ds:List Value}{E:XK}{x m:Str}{p pos apos:Pos}{e o:Expr}{es:List Expr}{ta:TE}{t:TA}
theorem Hr{pins:List (Addr×Obj)}{σ:St}{H:Hp}{s:Shared}{Q:VK}{us:List Value}{vs:List V}(F:m8 X.prog X.w X.K X.mg X.base CX k f fd ps sp)(hr:eY k X.A)(hb:Binds X.K fd ps ds)(hd:Vals Gm ds)(hx:Passes CX X E)
  (I:Inv X pins σ H s)(r:Vals vs us)(h:sp (vs++Gm) H Q E):wpAny (model X.prog X.w) X.A (call (.ref f) us) (EP X pins σ Q) X.xe s:=by
 have r2:Vals (vs++Gm) (us++ds):=r.append hd
 have hl:(us++ds).length=ps.length:=by rw[<-r2.length];exact F.len _ _ _ _ h
 refine wpAny_call (codeAny_mono (F.run X.A X.stack s H ⟨us,[]⟩ (us++ds) (vs++Gm) Q E hr I.Lx (hb s us I.tU hl) r2 h) λr s' hq=> ?_)
 cases r with
 |error e=>exact hx pins σ H s e s' I hq
 |ok fl=>
  cases fl with
  |ret u=>exact I.after hq
  |next=>exact False.elim hq
  |brk=>exact False.elim hq
  |cont=>exact False.elim hq
theorem EH(F:m8 X.prog X.w X.K X.mg X.base CX k f fd ps sp)(hr:eY k X.A)(hg:Gl X x)(hm:X.mg x=some (.ref f))(hk:PySem.W.keepIn X.K (.ref f)=true)(hb:Binds X.K fd ps ds)(hd:Vals Gm ds)(hx:Passes CX X E)
  (ha:PA X (e::es) t)(hdb:(x==("__debug__":Str))=false:=by decide)(he:starEach (e::es) X.env=(false,eval e X.env)::starEach es X.env:=by rfl)(hpl:(backTo pos (starEach es X.env)).any (·.1)=false:=by rfl):
  PE X (.Call (.Name x p) (e::es) [] pos) (kX sp Gm E t):=by
 intro pins s σ H Q I h
 refine wpAny_Call_Name_kw (y9 I hg hm ?_ hdb)
 refine PySem.W.callWith_K (h₀:=X.base) I.ok.mod.IJ hk (eV (ha pos pins s σ H _ I h) λus s1 ⟨vs,H1,I1,r,q⟩=>⟨I1.tU,?_⟩) he hpl
 exact Hr F hr hb hd hx I1 r q
end
section
variable{X:Cx}{CX:Aj}{k:Nat}{f C:Addr}{fd:FuncData}{ps ks:List Str}{sp:Sp}{E:XK}{x m:Str}{p pos apos kpos:Pos}{e o:Expr}{es:List Expr}{kws:List Keyword}{te ta:TE}{t tk:TA}{nm:Option Str}
variable{g:List Value->List Value->List Value}{gV:List V->List V->List V}
end
structure aM(N P:List Str)(sc:Scope):Prop where
 kind:sc.kind= .function
 co:sc.isCoroutine=false
 gen:sc.isGenerator=false
 nd:N.Nodup
 pre:N.take P.length=P
 par:∀x∈P,sc.names.lookup x=some .local∨sc.names.lookup x=some .cell
 Hs:∀y∈sc.names,y.2≠ .free
theorem sE{kindOf:Str->Option NameKind}{x:Str}:∀{binds:List (Str×Value)}{m:Str->Option Value},(∀v,(x,v)∉binds) ->bindL kindOf binds m x=m x
 | [],_,_=>rfl
 |(n,v)::r,m,h=>by
  unfold bindL
  rw[sE λw hw=>h w (List.mem_cons_of_mem _ hw)]
  split
  ·have:x≠n:=by rintro rfl;exact h v List.mem_cons_self
   simp[this]
  ·rfl
theorem sG{kindOf:Str->Option NameKind}{x:Str}:∀{binds:List (Str×Value)}{m:Str->Option Value},(∀v,(x,v)∉binds) ->bindC kindOf binds m x=m x
 | [],_,_=>rfl
 |(n,v)::r,m,h=>by
  unfold bindC
  rw[sG λw hw=>h w (List.mem_cons_of_mem _ hw)]
  split
  ·rfl
  ·have:x≠n:=by rintro rfl;exact h v List.mem_cons_self
   simp[this]
theorem sI{kindOf:Str->Option NameKind}{x:Str}{v:Value}:∀{P:List Str}{vs:List Value}{i:Nat}{m:Str->Option Value},P.Nodup->P[i]?=some x->vs[i]?=some v->kindOf x=some .local->
  bindL kindOf (P.zip vs) m x=some v
 | [],_,_,_,_,h,_,_=>by simp at h
 |_::_,[],_,_,_,_,h,_=>by simp at h
 |p::P,w::vs,0,m,nd,h1,h2,hk=>by
  simp at h1 h2;subst h1;subst h2
  show bindL kindOf ((p,w)::P.zip vs) m p=_
  unfold bindL
  rw[sE λv hv=>(List.nodup_cons.mp nd).1 (List.of_mem_zip hv).1,if_pos hk]
  simp
 |p::P,w::vs,i+1,m,nd,h1,h2,hk=>by
  show bindL kindOf ((p,w)::P.zip vs) m x=_
  unfold bindL
  exact sI (i:=i) (List.nodup_cons.mp nd).2 (by simpa using h1) (by simpa using h2) hk
theorem sJ{kindOf:Str->Option NameKind}{x:Str}{v:Value}:∀{P:List Str}{vs:List Value}{i:Nat}{m:Str->Option Value},P.Nodup->P[i]?=some x->vs[i]?=some v->kindOf x≠some .local->
  bindC kindOf (P.zip vs) m x=some v
 | [],_,_,_,_,h,_,_=>by simp at h
 |_::_,[],_,_,_,_,h,_=>by simp at h
 |p::P,w::vs,0,m,nd,h1,h2,hk=>by
  simp at h1 h2;subst h1;subst h2
  show bindC kindOf ((p,w)::P.zip vs) m p=_
  unfold bindC
  rw[sG λv hv=>(List.nodup_cons.mp nd).1 (List.of_mem_zip hv).1,if_neg hk]
  simp
 |p::P,w::vs,i+1,m,nd,h1,h2,hk=>by
  show bindC kindOf ((p,w)::P.zip vs) m x=_
  unfold bindC
  exact sJ (i:=i) (List.nodup_cons.mp nd).2 (by simpa using h1) (by simpa using h2) hk
def start(N:List Str)(vs:List V):St:=vs.map some++List.replicate (N.length-vs.length) none
def t8(CX:Aj)(P:Program)(w:World)(K:PySem.W.Frag)(mg:Str->Option Value)(base:Heap)(N:List Str)(qual:Str)(scope:Scope)(f:Addr)(cd:Value)(A:Around)(outer:List Env)(s:Shared)(H:Hp)(E:XK):Cx where
 prog:=P
 w:=w
 K:=K
 mg:=mg
 base:=base
 A:=A.deeper (envOfC qual scope s.heap.objs.size f cd)
 N:=N
 s₀:=s
 H₀:=H
 env:=envOfC qual scope s.heap.objs.size f cd
 outer:=outer
 stack:=envOfC qual scope s.heap.objs.size f cd::outer
 ex:=[]
 calm:=true
 fn:=λ_=>true
 pn:=[]
 xe:=λe s'=>wpAny (model P w) (A.deeper (envOfC qual scope s.heap.objs.size f cd)) (leaving (envOfC qual scope s.heap.objs.size f cd) e) (λ_ s''=>CX outer H s E e s'') (λe' s''=>CX outer H s E e' s'') s'
theorem vH{sc:Scope}{n:Nat}{x:Str}(h:sc.names.lookup x=some .cell):∃c,(cellsFrom n sc.names []).lookup x=some c:=by
 have q:=PySem.W.cellsFrom_some sc.names n [] (.inl h)
 exact Option.isSome_iff_exists.mp q
theorem Ak{CX:Aj}{P:Program}{w:World}{K:PySem.W.Frag}{mg:Str->Option Value}{base:Heap}{N ps:List Str}{qual:Str}{scope:Scope}{f:Addr}{cd:Value}{A:Around}{outer:List Env}{s s1:Shared}{H:Hp}{E:XK}{us:List Value}{vs:List V}
  (S:aM N ps scope)(hd:A.handled=none)(e0:EG P w K mg base A outer s H)(hl:vs.length=ps.length)(r:Vals vs us)
  (x:InCallC s s.heap.objs.size (bindL (envOfC qual scope s.heap.objs.size f cd).kindOf (ps.zip us) λ_=>none) (cellsFrom (s.heap.objs.size+1) scope.names []) (bindC (envOfC qual scope s.heap.objs.size f cd).kindOf (ps.zip us) λ_=>none) s1):
  Inv (t8 CX P w K mg base N qual scope f cd A outer s H E) [] (start N vs) H s1:=by
 have hpl:ps.length<=N.length:=by have:=congrArg List.length S.pre;rw[List.length_take]at this;omega
 obtain⟨h1,tk,rfl,hk⟩:=x.done
 have Ly:∀b:Addr,b∉(t8 CX P w K mg base N qual scope f cd A outer s H E).ex:=λb z=>absurd (show b∈([]:List Addr)from z) (by simp)
 refine⟨⟨e0.mod,S.kind,rfl,rfl,Nat.le_refl _,λy z c h1 h2=> ?_,λy hy=> ?_,λy c _ h=> ?_,λ_=>hd,Around.frames_deeper e0.frames,.inr ⟨rfl,rfl⟩,λb z=>absurd z (Ly b),e0.bs,e0.Ex,λb _ _=>Ly b,λb z=>absurd z (Ly b),e0.pL,e0.IL⟩,
  rfl,.refl e0.bare,Un.kept hk,⟨_,x.toInCall.ns,λi y v h1 h2 h3=> ?_⟩,λy c h=>⟨_,x.cell y c h⟩,e0.hok.fresh (Nat.le_refl _),λy c h=> ?_,λp hp=>absurd (show p∈([]:List (Addr×Obj))from hp) (by simp),e0.hok.kept hk,?_⟩
 ·exact name_of_addr x.apart (PySem.mem_of_lookup h1) (PySem.mem_of_lookup h2)
 ·have hy:scope.names.lookup y=some .cell∨scope.names.lookup y=some .free:=hy
  rcases hy with hy|hy
  ·exact vH hy
  ·exact absurd rfl (S.Hs _ (PySem.mem_of_lookup hy))
 ·exact Nat.le_of_lt (x.above y c (PySem.mem_of_lookup h))
 ·have hi:i<vs.length:=by
   unfold start at h2
   by_cases hi:i<vs.length
   ·exact hi
   ·rw[List.getElem?_append_right (by simpa using hi)]at h2
    rw[List.getElem?_replicate]at h2
    split at h2<;>cases h2
  have ha:vs[i]?=some v:=by
   unfold start at h2
   rw[List.getElem?_append_left (by simpa using hi),List.getElem?_map]at h2
   cases e:vs[i]? with
   |none=>rw[e]at h2;cases h2
   |some a=>rw[e]at h2;cases h2;rfl
  obtain⟨u,hu,rv⟩:=r.get ha
  have hp:ps[i]?=some y:=by
   rw[<-S.pre,List.getElem?_take_of_lt (by omega)];exact h1
  have MO:ps.Nodup:=by rw[<-S.pre];exact S.nd.sublist (List.take_sublist _ _)
  refine⟨u,rv,?_⟩
  rcases S.par y (List.mem_of_getElem? hp)with k|k
  ·exact .inl ⟨k,sI MO hp hu k⟩
  ·obtain⟨c,e⟩:=vH (n:=s.heap.objs.size+1) k
   refine .inr ⟨.inl k,c,e,?_⟩
   have q:=x.cell y c e
   rw[sJ MO hp hu (by show scope.names.lookup y≠_;rw[k];decide)]at q
   exact q
 ·exact e0.hok.fresh (Nat.le_of_lt (x.above y c (PySem.mem_of_lookup h)))
 ·unfold start
  show _=N.length
  rw[List.length_append,List.length_map,List.length_replicate]
  omega
theorem Gn{CX:Aj}{P:Program}{w:World}{K:PySem.W.Frag}{mg:Str->Option Value}{base:Heap}{k:Nat}{f:Addr}{name qual:Str}{params:Arguments}{body:List Stmt}{scope:Scope}{dV kV doc pm cdv ct oc:Value}{an od:Option Addr}
  {osl:Array (Option Value)}{N ps:List Str}{sp:Sp}(lk:K.lookup f=some ⟨oc,od,.func (PySem.W.fnOf name qual params body scope dV kV doc pm an cdv ct),osl⟩)(hcd:PySem.W.codeIn K cdv qual=true)(S:aM N ps scope)
  (len:∀vs H Q E,sp vs H Q E->vs.length=ps.length)
  (hbody:∀(A:Around)(outer:List Env)(s:Shared)(H:Hp)(vs:List V)(Q:VK)(E:XK),eY k (A.deeper (envOfC qual scope s.heap.objs.size f cdv)) ->sp vs H Q E->
   ∃t,tV (t8 CX P w K mg base N qual scope f cdv A outer s H E) body t/\t {nx:=λ_ H'=>Q .ig H',rt:=Q} (start N vs) H):
  m8 P w K mg base CX (k+1) f (PySem.W.fnOf name qual params body scope dV kV doc pm an cdv ct) ps sp:=by
 refine⟨len,λA outer s H args us vs Q E hr e0 hb r Ep=> ?_⟩
 have hl:=len _ _ _ _ Ep
 have KX:K.In s.heap:=e0.mod.IJ.keeps λb o e=>(e0.bs b o e).1
 have lim:s.heap.NoLimit:=e0.mod.nolimit.keeps λb o e=>(e0.bs b o e).1
 have hkind:∀y∈ps.zip us,scope.names.lookup y.1=some .local∨(scope.names.lookup y.1=some .cell/\((cellsFrom (s.heap.objs.size+1) scope.names []).lookup y.1).isSome=true):=λ ⟨n,v⟩ hy=>by
  rcases S.par n (List.of_mem_zip hy).1 with q|q
  ·exact .inl q
  ·exact .inr ⟨q,PySem.W.cellsFrom_some _ _ _ (.inl q)⟩
 refine codeAny_call_function hr.depth (KX _ _ lk) rfl S.co S.gen rfl (PySem.W.codeRec_of KX hcd) (hb _ _ _ _ ?_)
 refine wpAny_newFunctionEnv_cells S.kind hkind λenv he s1 x=> ?_
 subst he
 refine⟨lim.keeps x.toInCall.keep,codeAny_func ?_⟩
 obtain⟨t,ht,hq⟩:=hbody A outer s H vs Q E (hr.deeper _) Ep
 have I:Inv (t8 CX P w K mg base N qual scope f cdv A outer s H E) [] (start N vs) H s1:=Ak S hr.hd e0 hl r x
 refine wpAny_mono (ht [] s1 (start N vs) H _ I hq) (λfl s' hs=> ?_) λe s' hs=>hs
 have fin:∀{σ':St}{H':Hp}{v:V}{u:Value},Inv (t8 CX P w K mg base N qual scope f cdv A outer s H E) [] σ' H' s'->RelV v u->Q v H'->CE outer P w H s Q u s':=
  λ {σ' H' v u} J rv q=>⟨v,H',J.os,J.bare,J.base,J.hok,rv,q⟩
 cases fl with
 |ret u=>
  obtain⟨v,σ',H',J,rv,q⟩:=hs
  exact fin J rv q
 |next=>
  obtain⟨σ',H',J,q⟩:=hs
  exact fin (v:=V.ig) (u:=Value.none) J rfl q
 |brk=>
  obtain⟨_,_,_,q⟩:=hs
  exact False.elim q
 |cont=>
  obtain⟨_,_,_,q⟩:=hs
  exact False.elim q
section
variable{X:Cx}{x:Str}{p pos:Pos}{e:Expr}{es:List Expr}{t:TA}{id T:String}{r:List V->Hp->VK->Prop}
def IP(r:List V->Hp->VK->Prop)(t:TA):TE:=λσ H Q=>t σ H λvs H1=>r vs H1 Q
theorem dX(hc:pA X (.builtin id) r)(hg:Gl X x)(hm:X.mg x=none)(hv:bootBuiltins x=some (.builtin id))(ha:PA X (e::es) t)(hn:x≠ "__name__":=by decide)(hdb:(x==("__debug__":Str))=false:=by decide)
  (he:starEach (e::es) X.env=(false,eval e X.env)::starEach es X.env:=by rfl)(hpl:(backTo pos (starEach es X.env)).any (·.1)=false:=by rfl):PE X (.Call (.Name x p) (e::es) [] pos) (IP r t):=by
 intro pins s σ H Q I h
 refine wpAny_Call_Name_kw (jS I hg hm hv ?_ hn hdb)
 exact PyProof.Rows.callWith_builtin1 (eV (ha pos pins s σ H _ I h) λus s1 ⟨vs,H1,I1,r1,q1⟩=>hc pins s1 σ H1 vs us Q I1 r1 q1) he hpl
theorem sL(hc:pA X (.type T) r)(hg:Gl X x)(hm:X.mg x=none)(hv:bootBuiltins x=some (.type T))(ha:PA X (e::es) t)(hn:x≠ "__name__":=by decide)(hdb:(x==("__debug__":Str))=false:=by decide)
  (he:starEach (e::es) X.env=(false,eval e X.env)::starEach es X.env:=by rfl)(hpl:(backTo pos (starEach es X.env)).any (·.1)=false:=by rfl):PE X (.Call (.Name x p) (e::es) [] pos) (IP r t):=by
 intro pins s σ H Q I h
 refine wpAny_Call_Name_kw (jS I hg hm hv ?_ hn hdb)
 exact PyProof.Rows.callWith_type1 (eV (ha pos pins s σ H _ I h) λus s1 ⟨vs,H1,I1,r1,q1⟩=>hc pins s1 σ H1 vs us Q I1 r1 q1) he hpl
end
end L2
namespace HT
open PySem PyProof.Rows
section
open PySem.SeqAt
open PySem.AutoSeq1 (wpAny_loadPart')
open PySem.MeetsSeq PySem.MeetsSeq2 PySem.MeetsSeq3
end
section
variable{prog:Program}{w:World}{A:Around}{E:Value->Shared->Prop}{s:Shared}
def xy(n d:Nat):Option Int->Nat
 |none=>d
 |some v=>if v<0 then(v+(n:Int)).toNat else min v.toNat n
end
end HT
namespace L2
open PySem PySem.Spec PyProof.Rows
abbrev TO:=St->Hp->(Option Int->Hp->Prop) ->Prop
def PO(X:Cx)(e:Option Expr)(t:TO):Prop:=
 ∀(pins:List (Addr×Obj))(s:Shared)(σ:St)(H:Hp)(Q:Option Int->Hp->Prop),Inv X pins σ H s->t σ H Q->
  wpAny (model X.prog X.w) X.A (evalPart e X.env) (λu s'=> ∃o H',Inv X pins σ H' s'/\IsPart u o/\Q o H') X.xe s
def EI:TO:=λ_ H Q=>Q none H
def JC(t:TE):TO:=λσ H Q=>t σ H λx H1=> ∃i,x= .int i/\Q (some i) H1
section
variable{X:Cx}{e:Expr}{te:TE}{lo hi:Option Expr}{tl th:TO}{pos p2:Pos}
theorem zh:PO X none EI:=by
 intro pins s σ H Q I h
 rw[evalPart_none]
 exact wpAny_pure ⟨none,H,I,.none,h⟩
theorem zj(h:PE X e te):PO X (some e) (JC te):=by
 intro pins s σ H Q I hw
 rw[evalPart_some]
 refine eV (h pins s σ H _ I hw) λu s1 ⟨x,H1,I1,r1,q1⟩=> ?_
 obtain⟨i,rfl,q⟩:=q1
 obtain⟨t,rfl⟩:=r1
 exact⟨some i,H1,I1,.int i t,q⟩
def MP(X:Cx)(r:V->Option Int->Option Int->Hp->VK->Prop):Prop:=
 ∀(pins:List (Addr×Obj))(s:Shared)(σ:St)(H:Hp)(x:V)(v vl vu:Value)(lo hi:Option Int)(sl:Addr)(Q:VK),Inv X pins σ H s->RelV x v->s.heap.IsSliceOf sl vl vu .none->IsPart vl lo->IsPart vu hi->r x lo hi H Q->
  ∃T id,typeLookup (.type T) "__getitem__"=pure (some (.builtin id))/\s.TypeIs v T/\wpAny (model X.prog X.w) X.A (getItem v (.ref sl)) (EP X pins σ Q) X.xe s
def Oh(r:V->Option Int->Option Int->Hp->VK->Prop)(te:TE)(tl th:TO):TE:=λσ H Q=>te σ H λx H1=>tl σ H1 λl H2=>th σ H2 λu H3=>r x l u H3 Q
theorem vI{r:V->Option Int->Option Int->Hp->VK->Prop}(hr:MP X r)(he:PE X e te)(hl:PO X lo tl)(hu:PO X hi th):PE X (.Subscript e (.Slice lo hi none p2) pos) (Oh r te tl th):=by
 intro pins s σ H Q I h
 refine Subscript_ (eV (he pins s σ H _ I h) λv s1 ⟨x,H1,I1,r1,q1⟩=> ?_)
 refine wpAny_Slice (eV (hl pins s1 σ H1 _ I1 q1) λvl s2 ⟨l,H2,I2,pl,q2⟩=>eV (hu pins s2 σ H2 _ I2 q2) λvu s3 ⟨u,H3,I3,pu,q3⟩=> ?_)
 rw[evalPart_none]
 refine wpAny_pure ?_
 have I4:Inv X pins σ H3 {s3 with heap:=s3.heap.push {cls:= .type "slice",data:= .fields #[vl,vu,.none]}}:=I3.kept (t':=s3.toks) λb ob q=>Heap.get?_push_of_some _ q
 obtain⟨T,id,hT,ht,hg⟩:=hr pins {s3 with heap:=s3.heap.push {cls:= .type "slice",data:= .fields #[vl,vu,.none]}} σ H3 x v vl vu l u s3.heap.objs.size Q I4 r1 (Heap.IsSliceOf.new ..) pl pu q3
 show wpAny (model X.prog X.w) X.A (subscriptTail e (.Slice lo hi none p2) v (.ref s3.heap.objs.size)) (EP X pins σ Q) X.xe {s3 with heap:=s3.heap.push {cls:= .type "slice",data:= .fields #[vl,vu,.none]}}
 exact tail_any (ops:=[.ref s3.heap.objs.size,v]) ht hT hg (by with_unfolding_all rfl)
def rF(xs:List V)(lo hi:Option Int):List V:=(xs.drop (HT.xy xs.length 0 lo)).take (HT.xy xs.length xs.length hi-HT.xy xs.length 0 lo)
theorem kY(xs:List V)(lo hi:Option Int):(rF xs lo hi).length<=xs.length:=by
 unfold rF
 rw[List.length_take,List.length_drop]
 omega
end
def EJ(n:Nat)(i:Int):Option Nat:=if 0<=i then(if i<n then some i.toNat else none)else if-(n:Int)<=i then some (i+n).toNat else none
def vD{α:Type}(xs:List α)(i:Int):Option α:=(EJ xs.length i).bind λj=>xs[j]?
theorem zk{n:Nat}{i:Int}{j:Nat}(h:EJ n i=some j):seqIndex? i n=some j/\j<n/\ -(n:Int)<=i/\i<n:=by
 unfold EJ at h
 by_cases h0:0<=i
 ·rw[if_pos h0]at h
  by_cases h1:i<n
  ·rw[if_pos h1]at h
   have e:i.toNat=j:=Option.some.inj h
   exact⟨by rw[seqIndex_of h0 h1,e],by omega,by omega,h1⟩
  ·rw[if_neg h1]at h;cases h
 ·rw[if_neg h0]at h
  by_cases h1: -(n:Int)<=i
  ·rw[if_pos h1]at h
   have e:(i+n).toNat=j:=Option.some.inj h
   exact⟨by rw[seqIndex_neg (by omega) h1,e],by omega,h1,by omega⟩
  ·rw[if_neg h1]at h;cases h
theorem zm{α:Type}{xs:List α}{i:Int}{v:α}(h:vD xs i=some v):∃j,seqIndex? i xs.length=some j/\xs[j]?=some v/\j<xs.length/\ -(xs.length:Int)<=i/\i<xs.length:=by
 unfold vD at h
 cases e:EJ xs.length i with
 |none=>rw[e]at h;cases h
 |some j=>
  rw[e]at h
  obtain⟨h1,h2,h3,h4⟩:=zk e
  exact⟨j,h1,h,h2,h3,h4⟩
theorem zo{α:Type}{xs:List α}{j:Nat}{v:α}(h:xs[j]?=some v):vD xs (j:Int)=some v:=by
 have hj:j<xs.length:=(List.getElem?_eq_some_iff.mp h).1
 have e:EJ xs.length (j:Int)=some j:=by
  unfold EJ
  rw[if_pos (by omega),if_pos (by omega)];simp
 unfold vD;rw[e];exact h
def EK(b:Expr):Prop:=∀o i,subscripted b false o i=operate [o,i] (getItem o i)
def Lz(X:Cx)(r:R2):Prop:=
 ∀(value slice:Expr)(pins:List (Addr×Obj))(s:Shared)(σ:St)(H:Hp)(x y:V)(v u:Value)(Q:VK),Inv X pins σ H s->RelV x v->RelV y u->r x y H Q->
  subscripted slice false v u=operate [v,u] (getItem v u) ->wpAny (model X.prog X.w) X.A (subscriptTail value slice v u) (EP X pins σ Q) X.xe s
def LA(X:Cx)(id:String)(r:V->List V->Hp->VK->Prop):Prop:=
 ∀(pins:List (Addr×Obj))(s:Shared)(σ:St)(H:Hp)(x:V)(xs:List V)(v:Value)(us:List Value)(Q:VK),Inv X pins σ H s->RelV x v->Vals xs us->r x xs H Q->
  wpAny (model X.prog X.w) X.A (call (.builtin id) (v::us)) (EP X pins σ Q) X.xe s
section
variable{X:Cx}{a b:Expr}{ta tb:TE}{pos:Pos}
theorem aD{r:R2}(hr:Lz X r)(ha:PE X a ta)(hb:PE X b tb)(hs:EK b):PE X (.Subscript a b pos) (iz r ta tb):=by
 intro pins s σ H Q I h
 exact Subscript_ (Hg ha hb I h λv u s2 x y H2 I2 rx ry q=>hr a b pins s2 σ H2 x y v u Q I2 rx ry q (hs _ _))
inductive LB(K:PySem.W.Frag)(x y:V)(H:Hp)(Q:VK):Prop
 |mk(p:Addr)(xs:List V)(i:Int)(v:V)(ex:x= .ref p)(ey:y= .int i)(s:aU K H p xs)(a:vD xs i=some v)(q:Q v H)
def gD(K:PySem.W.Frag):R2:=LB K
inductive LC(K:PySem.W.Frag)(x y:V)(H:Hp)(Q:VK):Prop
 |mk(p:Addr)(xs:List V)(i:Int)(v:V)(ex:x= .ref p)(ey:y= .int i)(s:rD K H p xs)(a:vD xs i=some v)(q:Q v H)
def LD(K:PySem.W.Frag):R2:=LC K
theorem aq:Lz X (gD X.K):=by
 intro value slice pins s σ H x y v u Q I rx ry h hs
 obtain⟨p,xs,i,z,rfl,rfl,hq,he,q⟩:=h
 cases rx
 obtain⟨t,rfl⟩:=ry
 obtain⟨its,r,pl,hz⟩:=I.list hq
 obtain⟨j,h1,h2,h3,h4,h5⟩:=zm he
 obtain⟨w,ew,rw'⟩:=r.get h2
 have hl:=r.length
 have hn:=qi
 have fin:EP X pins σ Q w s:=⟨z,H,I,rw',q⟩
 by_cases h0:0<=i
 ·have hj:i.toNat=j:=by
   rw[seqIndex_of h0 h5]at h1
   exact Option.some.inj h1
  exact item_listR pl.isList h0 (by omega) (by rw[hj];simpa using ew) fin hs
 ·have hj:(i+(its.toArray.size:Int)).toNat=j:=by
   rw[seqIndex_neg (by omega) h4]at h1
   rw[List.size_toArray,<-hl]
   exact Option.some.inj h1
  exact subscriptTail_builtinR (x:=w) pl.isList.typeIs slot_list_getitem.lookup
   (wpAny_getItem_list_neg (Q:=λr s'=>r=w/\EP X pins σ Q r s') pl.isList (by omega) (by rw[List.size_toArray]<;>omega) (by omega) (by rw[hj];simpa using ew) ⟨rfl,fin⟩) hs
theorem Ht:Lz X (LD X.K):=by
 intro value slice pins s σ H x y v u Q I rx ry h hs
 obtain⟨p,xs,i,z,rfl,rfl,hq,he,q⟩:=h
 cases rx
 obtain⟨t,rfl⟩:=ry
 obtain⟨its,r,pl,hz⟩:=I.tuple hq
 obtain⟨j,h1,h2,h3,h4,h5⟩:=zm he
 obtain⟨w,ew,rw'⟩:=r.get h2
 have hl:=r.length
 have hn:=qi
 have fin:EP X pins σ Q w s:=⟨z,H,I,rw',q⟩
 exact subscriptTail_builtinR (x:=w) pl.typeIs slot_tuple_getitem.lookup
  (getItem_tuple (j:=j) (Q:=λr s'=>r=w/\EP X pins σ Q r s') pl (by omega) (by omega) (by rw[List.size_toArray,<-hl];exact h1) (by simpa using ew) ⟨rfl,fin⟩) hs
theorem xA(its:List Value)(n j:Nat)(u:Value):Obj.mapSeq (·.setIfInBounds j u) {cls:= .type "list",data:= .seq its.toArray n}={cls:= .type "list",data:= .seq (its.set j u).toArray n}:=by
 simp[Obj.mapSeq]
theorem Inv.lst{pins:List (Addr×Obj)}{σ:St}{H:Hp}{s:Shared}{p:Addr}{xs:List V}(I:Inv X pins σ H s)(h:H p=some (.lst xs)):
  ∃(its:List Value)(n:Nat),Vals xs its/\s.heap.get? p=some {cls:= .type "list",data:= .seq its.toArray n}/\xs.length<=sizeLine:=by
 obtain⟨z,its,n,r,e⟩:=I.hok p _ h
 exact⟨its,n,r,e,z⟩
theorem Inv.Hu{pins:List (Addr×Obj)}{σ:St}{H:Hp}{s:Shared}{p:Addr}{xs ys:List V}{its its':List Value}{n n':Nat}{f:Obj->Obj}(I:Inv X pins σ H s)(h:H p=some (.lst xs))
  (ho:s.heap.get? p=some {cls:= .type "list",data:= .seq its.toArray n})(hf:f {cls:= .type "list",data:= .seq its.toArray n}={cls:= .type "list",data:= .seq its'.toArray n'})(r:Vals ys its')(hz:ys.length<=sizeLine)(t:Nat):
  Inv X pins σ (upd H p (.lst ys)) {s with heap:=s.heap.update p f,toks:=t}:=by
 have e:(s.heap.update p f).get? p=some {cls:= .type "list",data:= .seq its'.toArray n'}:=by
  rw[Heap.get?_update_self f ho (by rw[hf]<;>rfl),hf]
 refine I.write (x:=p) (e:=p) (by rw[h];trivial) (.inl rfl) (λb u hb q=>(Heap.get?_update_other _ _ (Ne.symm hb)).trans q) ⟨_,e⟩ ?_
 exact⟨hz,its',n',r,e⟩
def JD:V->V->V->Hp->(Hp->Prop) ->Prop:=λo i v H Q=> ∃p xs k j,o= .ref p/\i= .int k/\H p=some (.lst xs)/\EJ xs.length k=some j/\Q (upd H p (.lst (xs.set j v)))
theorem set_list:GU X JD:=by
 intro pins s σ H o i v ov iv u Q I ro ri rv h
 obtain⟨p,xs,k,j,rfl,rfl,hp,hj,q⟩:=h
 cases ro
 obtain⟨t,rfl⟩:=ri
 obtain⟨its,n,r,ho,hz⟩:=I.lst hp
 obtain⟨h1,h2,h3,h4⟩:=zk hj
 have hl:=r.length
 have hn:=qi
 have I':Inv X pins σ (upd H p (.lst (xs.set j v))) {s with heap:=s.heap.update p (Obj.mapSeq (·.setIfInBounds j u))}:=
  I.Hu hp ho (xA its n j u) (r.set rv j) (by rw[List.length_set];exact hz) s.toks
 by_cases h0:0<=k
 ·have hk:k.toNat=j:=by
   rw[seqIndex_of h0 h4]at h1
   exact Option.some.inj h1
  exact PySem.W.ki_setAt ho h0 (by omega) (by rw[List.size_toArray,<-hl];exact h4) (by rw[hk];exact⟨_,I',q⟩)
 ·have hk:(k+(its.toArray.size:Int)).toNat=j:=by
   rw[seqIndex_neg (by omega) h3]at h1
   rw[List.size_toArray,<-hl]
   exact Option.some.inj h1
  exact PySem.W.ki_setBack ho (by omega) (by rw[List.size_toArray,<-hl];exact h3) (by omega) (by rw[hk];exact⟨_,I',q⟩)
theorem t9(lo hi:Option Int)(n:Nat):(sliceBounds lo hi none n).1=((HT.xy n 0 lo:Nat):Int)/\(sliceBounds lo hi none n).2.1=((HT.xy n n hi:Nat):Int)/\(sliceBounds lo hi none n).2.2=1:=by
 refine⟨?_,?_,rfl⟩
 ·cases lo with
  |none=>simp[sliceBounds,HT.xy]
  |some i=>
   simp only[sliceBounds,HT.xy,Option.getD_none,show(1:Int)>0 by decide,if_true]
   by_cases h:i<0
   ·simp only[h,if_true]<;>omega
   ·simp only[h,if_false]<;>omega
 ·cases hi with
  |none=>simp[sliceBounds,HT.xy]
  |some i=>
   simp only[sliceBounds,HT.xy,Option.getD_none,show(1:Int)>0 by decide,if_true]
   by_cases h:i<0
   ·simp only[h,if_true]<;>omega
   ·simp only[h,if_false]<;>omega
theorem rG(its:List Value)(lo hi:Option Int):slicePick its.toArray lo hi none=((its.drop (HT.xy its.length 0 lo)).take (HT.xy its.length its.length hi-HT.xy its.length 0 lo)).toArray:=by
 obtain⟨h1,h2,h3⟩:=t9 lo hi its.toArray.size
 unfold slicePick
 rw[h1,h2,h3]
 simp only[sliceRange_one,pick_run,List.size_toArray]<;>rfl
def LF(K:PySem.W.Frag):V->Option Int->Option Int->Hp->VK->Prop:=λx lo hi H Q=> ∃a xs,x= .ref a/\aU K H a xs/\ ∀p,H p=none->Q (.ref p) (upd H p (.lst (rF xs lo hi)))
theorem zp:MP X (LF X.K):=by
 intro pins s σ H x v vl vu lo hi sl Q I rx hs pl pu h
 obtain⟨a,xs,rfl,hx,q⟩:=h
 cases rx
 obtain⟨its,r,ht,hz⟩:=I.list hx
 have hlen:=r.length
 refine⟨"list",_,slot_list_getitem.lookup,ht.isList.typeIs,?_⟩
 refine wpAny_getItem_list_slice ht.isList hs pl pu .none (by simp) ?_ (by rw[List.size_toArray]<;>omega)
 rw[rG,<-hlen]
 refine⟨.ref s.heap.objs.size,_,I.laid (t':=s.toks) (o:= .lst (rF xs lo hi)) (λb ob q=>Heap.get?_push_of_some _ q) (Nat.le_refl _) ?_,rfl,q _ (I.hok.fresh (Nat.le_refl _))⟩
 exact⟨Nat.le_trans (kY xs lo hi) hz,_,0,(r.drop (HT.xy xs.length 0 lo)).take (HT.xy xs.length xs.length hi-HT.xy xs.length 0 lo),Heap.get?_push_size _ rfl⟩
theorem jW:pA X (.builtin "len") (λxs H Q=> ∃p ys,xs=[.ref p]/\(aU X.K H p ys∨rD X.K H p ys)/\Q (.int ys.length) H):=by
 intro pins s σ H xs us Q I r h
 obtain⟨p,ys,rfl,hq,q⟩:=h
 obtain⟨u,rfl,rx⟩:=vals1 r
 cases rx
 have hn:=qi
 rcases hq with hq|hq
 ·obtain⟨its,r',pl,hz⟩:=I.list hq
  have hlen:=r'.length
  exact Calls.call_len_list pl.isList (by simp only[List.size_toArray]<;>omega) ⟨.int ys.length,H,I.tok _,⟨s.toks+1,by rw[List.size_toArray,hlen]⟩,q⟩
 ·obtain⟨its,r',pl,hz⟩:=I.tuple hq
  have hlen:=r'.length
  exact len_tuple pl (by simp only[List.size_toArray]<;>omega) ⟨.int ys.length,H,I.tok _,⟨s.toks+1,by rw[List.size_toArray,hlen]⟩,q⟩
theorem uc:pA X (.type "list") (λxs H Q=> ∃p ys,xs=[.ref p]/\(aU X.K H p ys∨rD X.K H p ys)/\ ∀l,H l=none->Q (.ref l) (upd H l (.lst ys))):=by
 intro pins s σ H xs us Q I r h
 obtain⟨p,ys,rfl,hq,q⟩:=h
 obtain⟨u,rfl,rx⟩:=vals1 r
 cases rx
 have fin:∀(its:List Value),Vals ys its->ys.length<=sizeLine-> ∀(h':Heap)(c':Nat),(∀b o',s.heap.get? b=some o'->h'.get? b=some o') ->
   h'.get? s.heap.objs.size=some {cls:= .type "list",dict:=none,data:= .seq its.toArray c',slots:= #[]} ->EP X pins σ Q (.ref s.heap.objs.size) {s with heap:=h'}:=λits r' hz h' c' kp e=>
  ⟨.ref s.heap.objs.size,_,I.laid (t':=s.toks) kp (Nat.le_refl _) (show dW X.prog X.w _ h' _ (.lst ys)from⟨hz,its,c',r',e⟩),rfl,q _ (I.hok.fresh (Nat.le_refl _))⟩
 rcases hq with hq|hq
 ·obtain⟨its,r',pl,hz⟩:=I.list hq
  have hlen:=r'.length
  obtain⟨o,ho,hc,n,hd⟩:=pl.isList
  exact call_list_seq p (.inl rfl) ho hc hd (λh' c' kp e=>fin its r' hz h' c' kp e) (by simp only[List.size_toArray]<;>omega)
 ·obtain⟨its,r',pl,hz⟩:=I.tuple hq
  have hlen:=r'.length
  obtain⟨o,ho,hc,n,hd⟩:=pl
  exact call_list_seq p (.inr rfl) ho hc hd (λh' c' kp e=>fin its r' hz h' c' kp e) (by simp only[List.size_toArray]<;>omega)
def LG(K:PySem.W.Frag)(T:String)(x:V)(H:Hp):Prop:=match x with
 | .str _=>T= "str"
 | .int _=>T= "int"
 | .ref p=>(T= "list"/\ ∃xs,aU K H p xs)∨(T= "tuple"/\ ∃o,K.lookup p=some o/\o.cls= .type "tuple"/\o.dict=none)∨
   (T= "dict"/\((∃kvs,H p=some (.dK kvs))∨ ∃kvs,H p=some (.dT kvs)))∨(T= "set"/\ ∃S n,H p=some (.set S n))
 |_=>False
theorem Ce{pins:List (Addr×Obj)}{σ:St}{H:Hp}{s:Shared}{T:String}{x:V}{v:Value}(I:Inv X pins σ H s)(r:RelV x v)(ty:LG X.K T x H):
  s.TypeIs v T/\ ∀a,v= .ref a-> ∃ob,s.heap.get? a=some ob/\ob.dict=none:=by
 cases x with
 |str z=>
  obtain⟨t,rfl⟩:=r
  cases(show T= "str" from ty)
  exact⟨typeIs_str s z t,λ_ e=>nomatch e⟩
 |int i=>
  obtain⟨t,rfl⟩:=r
  cases(show T= "int" from ty)
  exact⟨typeIs_int s i t,λ_ e=>nomatch e⟩
 |ref p=>
  cases r
  rcases ty with⟨rfl,xs,hq⟩|⟨rfl,o,hk,hc,hd⟩|⟨rfl,hk⟩|⟨rfl,S,n,hk⟩
  ·obtain⟨its,_,pl,_⟩:=I.list hq
   refine⟨pl.isList.typeIs,λa e=> ?_⟩
   cases e
   obtain⟨o,n,e,c,hd,_⟩:=pl
   exact⟨o,e,hd⟩
  ·refine⟨⟨o,I.tU p o hk,hc⟩,λa e=> ?_⟩
   cases e
   exact⟨o,I.tU _ o hk,hd⟩
  ·have z:∃o,s.heap.get? p=some o/\o.ExactDict:=by
    rcases hk with⟨kvs,hk⟩|⟨kvs,hk⟩
    ·obtain⟨_,_,_,_,o,_,_,e,ex,_⟩:=I.hok p _ hk
     exact⟨o,e,ex⟩
    ·obtain⟨_,_,_,_,o,_,_,e,ex,_⟩:=I.hok p _ hk
     exact⟨o,e,ex⟩
   obtain⟨o,e,ex⟩:=z
   refine⟨⟨o,e,ex.1⟩,λa e2=> ?_⟩
   cases e2
   exact⟨o,e,ex.2.1⟩
  ·obtain⟨o,_,_,_,e,ex,_⟩:=I.hok p _ hk
   refine⟨⟨o,e,ex.1⟩,λa e2=> ?_⟩
   cases e2
   exact⟨o,e,ex.2.1⟩
 |_=>exact False.elim ty
def LH(K:PySem.W.Frag)(T:String)(r:V->List V->Hp->VK->Prop)(to:TE):TE:=λσ H Q=>to σ H λx H1=>LG K T x H1/\r x [] H1 Q
def Oi(K:PySem.W.Frag)(T:String)(r:V->List V->Hp->VK->Prop)(to:TE)(t:TA):TE:=λσ H Q=>to σ H λx H1=>LG K T x H1/\t σ H1 λxs H2=>r x xs H2 Q
variable{o e:Expr}{es:List Expr}{to:TE}{t:TA}{name:Str}{apos cpos:Pos}{T id:String}{r:V->List V->Hp->VK->Prop}
theorem Hv(pa:PlainAttrs T)(slot:Slot T name id)(hty:typeOf (.builtin id)=pure (.type "method_descriptor"))(hm:LA X id r)(ho:PE X o to)
  (hbase:attributeBase o name X.env (eval o X.env)=eval o X.env:=by rfl)(hline:(apos.endLine==cpos.line)=true:=by rfl):PE X (.Call (.Attribute o name apos) [] [] cpos) (LH X.K T r to):=by
 intro pins s σ H Q I h
 refine wpAny_Call_method0_late hbase hline (eV (ho pins s σ H _ I h) λv s1 ⟨x,H1,I1,r1,ty,q1⟩=> ?_)
 obtain⟨h1,h2⟩:=Ce I1 r1 ty
 exact⟨T,id,pa,slot,hty,h1,h2,Calls.callWith_builtin rfl (PySem.evalArgs_none (hm pins s1 σ H1 x [] v [] Q I1 r1 .nil q1))⟩
theorem Gp(pa:PlainAttrs T)(slot:Slot T name id)(hty:typeOf (.builtin id)=pure (.type "method_descriptor"))(hm:LA X id r)(ho:PE X o to)(ha:PA X (e::es) t)
  (hbase:attributeBase o name X.env (eval o X.env)=eval o X.env:=by rfl)
  (hfew:((backTo cpos (starEach (e::es) X.env)).all (λx=> !x.1) && (backToKw cpos (keywordEach [] X.env)).all (λx=>x.1.isSome)
   && decide ((e::es).length+([]:List Keyword).length+(if([]:List Keyword).isEmpty then 0 else 1)<30))=true:=by rfl)
  (hline:(apos.endLine==cpos.line)=true:=by rfl)(hs:starEach (e::es) X.env=(false,eval e X.env)::starEach es X.env:=by rfl)(hplain:(backTo cpos (starEach es X.env)).any (·.1)=false:=by rfl):
  PE X (.Call (.Attribute o name apos) (e::es) [] cpos) (Oi X.K T r to t):=by
 intro pins s σ H Q I h
 refine wpAny_Call_method_late hbase hfew hline rfl (eV (ho pins s σ H _ I h) λv s1 ⟨x,H1,I1,r1,ty,q1⟩=> ?_)
 obtain⟨h1,h2⟩:=Ce I1 r1 ty
 refine⟨T,id,pa,slot,hty,h1,h2,?_⟩
 have hA:=ha cpos pins s1 σ H1 _ I1 q1
 rw[hs]at hA ⊢
 refine Calls.callWith_builtin (by show(false||(backTo cpos (starEach es X.env)).any (·.1))=false;rw[hplain]<;>rfl) (Calls.evalArgs_plain ?_)
 exact eV hA λus s2 ⟨vs,H2,I2,r2,q2⟩=>hm pins s2 σ H2 x vs v us Q I2 r1 r2 q2
end
def Oj(X:Cx)(id:String)(r:V->List V->Hp->VK->Prop):Prop:=
 ∀(pins:List (Addr×Obj))(s:Shared)(σ:St)(H:Hp)(x:V)(xs:List V)(v:Value)(us:List Value)(Q:VK),Inv X pins σ H s->RelV x v->Vals xs us->r x xs H Q->
  wpAny (model X.prog X.w) X.A (call (.builtin id) (v::us)) (EP X pins σ Q) X.xe s
theorem Vals.one:∀{x:V}{us:List Value},Vals [x] us-> ∃u,us=[u]/\RelV x u
 |_,_,.cons r .nil=>⟨_,rfl,r⟩
theorem Vals.two:∀{x y:V}{us:List Value},Vals [x,y] us-> ∃u v,us=[u,v]/\RelV x u/\RelV y v
 |_,_,_,.cons r (.cons q .nil)=>⟨_,_,rfl,r,q⟩
theorem Vals.zero:∀{us:List Value},Vals [] us->us=[]
 |_,.nil=>rfl
theorem Vals.reverse{xs:List V}{us:List Value}(h:Vals xs us):Vals xs.reverse us.reverse:=by
 induction h with
 |nil=>exact .nil
 |cons r t ih=>rw[List.reverse_cons,List.reverse_cons];exact Vals.append ih (.cons r .nil)
theorem Vals.rep{xs:List V}{us:List Value}(h:Vals xs us):∀k:Nat,Vals (List.replicate k xs).flatten (List.replicate k us).flatten
 |0=> .nil
 |k+1=>by
  rw[List.replicate_succ,List.replicate_succ,List.flatten_cons,List.flatten_cons]
  exact Vals.append h (Vals.rep h k)
theorem foldl_rep(its:List Value):∀(k:Nat)(acc:List Value),
  List.foldl (λx1 x2=>x1++x2) acc.toArray (List.replicate k its.toArray)=(acc++(List.replicate k its).flatten).toArray
 |0,acc=>by simp
 |k+1,acc=>by
  have e:acc.toArray++its.toArray=(acc++its).toArray:=by simp
  have e2:(acc++its)++(List.replicate k its).flatten=acc++(List.replicate (k+1) its).flatten:=by
   rw[List.replicate_succ,List.flatten_cons,List.append_assoc]
  rw[<-e2,<-foldl_rep its k (acc++its),<-e,List.replicate_succ,List.foldl_cons]
section
variable{X:Cx}{pins:List (Addr×Obj)}{σ:St}{H:Hp}{s:Shared}{l b:Addr}{xs ys zs:List V}
theorem Inv.LI{its its':List Value}{n:Nat}{f:Array Value->Array Value}{t':Nat}(I:Inv X pins σ H s)(hH:H l=some (.lst xs))
  (e:s.heap.get? l=some {cls:= .type "list",data:= .seq its.toArray n})(hf:f its.toArray=its'.toArray)(hv:Vals ys its')(hz:ys.length<=sizeLine):
  Inv X pins σ (upd H l (.lst ys)) {s with heap:=s.heap.update l (Obj.mapSeq f),toks:=t'}:=by
 have q:=PySem.IsL.update e f
 rw[hf]at q
 refine I.write (x:=l) (e:=l) (by rw[hH];exact trivial) (.inl rfl) (λb' u hb hu=>(Heap.get?_update_other s.heap (Obj.mapSeq f) (Ne.symm hb)).trans hu) ⟨_,q⟩ ?_
 exact⟨hz,its',_,hv,q⟩
theorem Inv.JE{its:List Value}{t':Nat}(I:Inv X pins σ H s)(hv:Vals ys its)(hz:ys.length<=sizeLine):
  Inv X pins σ (upd H s.heap.objs.size (.lst ys)) {s with heap:=s.heap.push {cls:= .type "list",data:= .seq its.toArray},toks:=t'}:=
 I.laid (λ_ _ q=>Heap.get?_push_of_some _ q) (Nat.le_refl _) ⟨hz,its,0,hv,Heap.get?_push_size _ rfl⟩
theorem Inv.fresh(I:Inv X pins σ H s):H s.heap.objs.size=none:=I.hok.fresh (Nat.le_refl _)
theorem Inv.EL(I:Inv X pins σ H s)(hH:H l=some (.lst xs)):xs.length<=sizeLine/\ ∃(its:List Value)(n:Nat),Vals xs its/\xs.length=its.length/\s.heap.get? l=some {cls:= .type "list",data:= .seq its.toArray n}:=by
 obtain⟨z,its,n,r,e⟩:=I.hok l _ hH
 exact⟨z,its,n,r,r.length,e⟩
theorem Cf{n:Nat}(h:n<=sizeLine):Builtin.List.listTooLong n=false:=by
 unfold Builtin.List.listTooLong
 exact decide_eq_false (by omega)
end
section
variable{X:Cx}
def EM:V->List V->Hp->VK->Prop:=λx vs H Q=> ∃l xs y,x= .ref l/\vs=[y]/\H l=some (.lst xs)/\xs.length<sizeLine/\Q .ig (upd H l (.lst (xs++ [y])))
theorem nN:Oj X "list.append" EM:=by
 intro pins s σ H x vs v us Q I rx rv h
 obtain⟨l,xs,y,rfl,rfl,hH,hz,q⟩:=h
 cases rx
 obtain⟨u,rfl,ru⟩:=rv.one
 obtain⟨z,its,n,r,hl,e⟩:=I.EL hH
 refine call_meets F.slot_list_append ⟨_,e,rfl⟩ F.entry_list_append (F.args_list_append_2 _ _) (PySem.list_append l its.toArray n u (by rw[List.size_toArray];omega)) ⟨e,?_⟩
 refine⟨.ig,_,I.LI (its':=its++ [u]) hH e (by simp) (r.append (.cons ru .nil)) ?_,rfl,q⟩
 rw[List.length_append,List.length_singleton]
 omega
def LJ:R2:=λx y H Q=> ∃l b xs zs,x= .ref l/\y= .ref b/\H l=some (.lst xs)/\H b=some (.lst zs)/\xs.length+zs.length<=sizeLine/\ ∀p,H p=none->Q (.ref p) (upd H p (.lst (xs++zs)))
theorem Hw:pq X (binaryOp .Add) LJ:=by
 intro pins s σ H x y v u Q I rx ry h
 obtain⟨l,b,xs,zs,rfl,rfl,hH,hB,hz,q⟩:=h
 cases rx
 cases ry
 obtain⟨z,its,n,r,hl,e⟩:=I.EL hH
 obtain⟨z2,its2,n2,r2,hl2,e2⟩:=I.EL hB
 refine PySem.P.add_list e e2 ?_ (by rw[List.size_toArray,List.size_toArray];omega)
 have ea:its.toArray++its2.toArray=(its++its2).toArray:=by simp
 rw[ea]
 exact⟨.ref _,_,I.JE (t':=s.toks) (r.append r2) (by rw[List.length_append];omega),rfl,q _ I.fresh⟩
def LK:R2:=λx y H Q=> ∃l k xs,x= .ref l/\y= .int k/\H l=some (.lst xs)/\ -(2^63)<=k/\k<2^63/\xs.length*k.toNat<=sizeLine/\
 ∀p,H p=none->Q (.ref p) (upd H p (.lst (List.replicate k.toNat xs).flatten))
theorem len_rep{α:Type}(xs:List α)(k:Nat):(List.replicate k xs).flatten.length=k*xs.length:=by
 induction k with
 |zero=>simp
 |succ k ih=>rw[List.replicate_succ,List.flatten_cons,List.length_append,ih,Nat.succ_mul,Nat.add_comm]
theorem Cg:pq X (binaryOp .Mult) LK:=by
 intro pins s σ H x y v u Q I rx ry h
 obtain⟨l,k,xs,rfl,rfl,hH,h1,h2,hz,q⟩:=h
 cases rx
 obtain⟨t,rfl⟩:=ry
 obtain⟨z,its,n,r,hl,e⟩:=I.EL hH
 have hlen:its.toArray.size*k.toNat<=sizeLine:=by rw[List.size_toArray,<-hl];exact hz
 have hcap:¬its.toArray.size*k.toNat>(2^63-1)/8:=by
  have:(sizeLine:Nat)<=(2^63-1)/8:=by decide
  omega
 have hfit:¬(!Builtin.List.listFitsIndex k)=true:=by
  rw[fitsIndex_both h1 h2]
  exact Bool.false_ne_true
 have JF:¬Builtin.List.listTooLong (its.toArray.size*k.toNat)=true:=by
  rw[Cf hlen]
  exact Bool.false_ne_true
 have hnew:List.foldl (λx1 x2=>x1++x2) #[] (List.replicate (if its.toArray.isEmpty=true then 0 else k.toNat) its.toArray)=(List.replicate k.toNat its).flatten.toArray:=by
  have f0:∀m:Nat,List.foldl (λx1 x2=>x1++x2) #[] (List.replicate m its.toArray)=(List.replicate m its).flatten.toArray:=λm=>by
   have:=foldl_rep its m []
   rw[List.nil_append]at this
   exact this
  rw[f0]
  cases its with
  |nil=>simp
  |cons a r'=>rw[if_neg (by simp)]
 refine wpAny_binaryOp_repeat_ref (T:= "list") (U:= "int") (by decide) ⟨_,e,rfl⟩ (λs'=>typeIs_int s' k t) noFill_list_mul F.fills_int_mul F.slot_int_rmul repeat_list F.slot_int_index.lookup
  (call_meets F.slot_int_rmul (typeIs_int s k t) F.entry_int_rmul (F.args_int_rmul_2 _ _) (int___rmul___int_list k t l its.toArray n)
   ⟨e,rfl,⟨_,e,rfl⟩,call_meets F.slot_list_mul ⟨_,e,rfl⟩ F.entry_list_mul (F.args_list_mul_2 _ _) (AutoListH.list___mul___list_int_3 l its.toArray n k t hfit hcap JF) ⟨e,?_⟩⟩)
 rw[hnew]
 exact⟨.ref _,_,I.JE (t':=s.toks) (r.rep k.toNat) (by rw[len_rep,Nat.mul_comm];exact hz),rfl,q _ I.fresh⟩
end
section
variable{prog:Program}{w:World}{A:Around}{E:Value->Shared->Prop}{s:Shared}
end
section
variable{X:Cx}
end
end L2
namespace MQ
open PySem PySem.W PySem.Calls PyProof.Rows
theorem pM{P:Params}{h:Heap}:∀(ns:List Int)(vs:List Value),WellAll P h vs (ns.map WData.int) ->IntsAre vs ns:=by
 intro ns
 induction ns with
 |nil=>
  intro vs w
  rw[List.map_nil]at w
  cases w
  exact .nil
 |cons n ns ih=>
  intro vs w
  rw[List.map_cons]at w
  cases w with
  |cons a b=>
   cases a
   exact .cons _ _ (ih _ b)
theorem Al{l:OpenLaw}{n:Nat}(hn:l.most=some n){P:Params}{h:Heap}{args:List WData}{vals:List Value}
  (hpre:l.row.toRowW.claim.pre args=true)(hwl:WellAll P h vals args):
  ∃a vs ns,vals=[Value.ref a]/\args=[WData.list (ns.map WData.int)]/\h.get? a=some {cls:= .type "list",data:= .seq vs.toArray}/\IntsAre vs ns/\ns.length<=n:=by
 have hsh:WShape.hasAll [] args [.list .int]=true:=(pre_splitW hpre).1
 have hc:l.pre.holds [] {args:=args}=true:=(pre_splitW hpre).2
 obtain⟨d,r,rfl,h1,h2⟩:=hasAllW_cons hsh
 obtain rfl:=hasAllW_nil h2
 obtain⟨xs,rfl,h3⟩:=hasW_list h1
 obtain⟨ns,rfl⟩:=items_int h3
 have hlen:ns.length<=n:=by
  unfold OpenLaw.pre at hc
  have h4:(WTm.not (.lt (.lit (.int (n:Int))) (.len (.arg 0)))).holds [] {args:=[.list (ns.map .int)]}=true:=by
   have h4:=(holds_andW hc).1
   rw[hn]at h4
   exact h4
  have h5:=condW_of h4 (w_not (w_lt w_lit (w_len_list (w_arg rfl))))
  rw[List.length_map]at h5
  refine Nat.le_of_not_lt λq=> ?_
  have q':(n:Int)<((ns.length:Nat):Int):=by omega
  first
   |(rw[decide_eq_true q']at h5;exact absurd h5 (by decide))
   |(simp at h5;omega)
 cases hwl with
 |cons w1 w2=>
  cases w2
  cases w1 with
  |list ho hall=>exact⟨_,_,ns,rfl,rfl,ho,pM ns _ hall,hlen⟩
theorem Am(l:OpenLaw)(args:List WData):l.row.toRowW.claim.post args (.bool true) args=true:=
 postW_of (r:=l.row.toRowW) (X:=(true==true))
  (show WShape.has [] (.bool true) .bool=true by first|rfl|decide|simp[WShape.has,WShape.arms,WShape.armsAll])
  (show(WTm.eq .res (.lit (.bool true))).value [] {args:=args,res:=some (.bool true),after:=args}=some (.bool (true==true))from w_eq_bool (w_res rfl) w_lit) rfl
theorem vJ{l:OpenLaw}{n:Nat}{q:Program}{loose:List Str}{XP:(Str->Option Value) ->Heap->Prop}{YP:World->Heap->Prop}{d:DefRec}
  (hn:l.most=some n)(hdf:d.params.defaults=[])
  (call:∀(w:World)(s₀ s₁:Shared)(mg mb:Str->Option Value)(fa:Addr)(o:Obj)(pm cd doc:Value)(a:Addr)(vs:List Value)(ns:List Int),
   Ground q loose [] XP w s₀ mg mb s₁.heap->YP w s₁.heap->
   s₁.heap.get? fa=some o->o.data= .func (docDef d.name d.params d.body d.scope pm cd doc) ->s₁.heap.CodeRec cd d.name->mg d.name=some (.ref fa) ->
   s₁.heap.get? a=some {cls:= .type "list",data:= .seq vs.toArray} ->IntsAre vs ns->ns.length<=n->s₁.gens= #[] ->
   codeAny (model l.prog w) callerA (.call (.ref fa) ⟨[.ref a],[]⟩) (λr s'=>r= .ok (.ret (.bool true))/\OldK s₁.heap s'.heap/\s'.os=s₁.os/\AllBare s'.gens) s₁):
  WalkO q loose XP YP l.row.toRowW d [] (λf vs=>PySem.call f vs):=by
 intro w s₀ s₁ mg mb G Y fa o pm cd doc dV kV ho hd hcd hD hmg hg args vals as hpre hlay hrd hwl hlo
 obtain rfl:dV= .none:=Dflts.none hD hdf
 obtain rfl:kV= .none:=Dflts.noKw hD
 obtain⟨a,vs,ns,rfl,rfl,hobj,hints,hlen⟩:=Al hn hpre hwl
 refine enter_call (codeAny_mono (call w s₀ s₁ mg mb fa o pm cd doc a vs ns G Y ho (fd_plain hd) hcd hmg hobj hints hlen hg) λr s' hq=> ?_)
 obtain⟨rfl,h2,h3,h4⟩:=hq
 exact⟨.inl ⟨.bool true,.bool true,[],rfl,λ_=>rfl,.bool true,Am l _,λ_=>⟨List.Pairwise.nil,λ_ hm=>(nomatch hm)⟩⟩,h2,h3,h4⟩
section
variable{prog:Program}{w:World}{A:Around}{E:Value->Shared->Prop}{s:Shared}{K:Frag}
def ledger(h:Heap)(L d:Addr):List (Addr×Obj):=(List.range h.objs.size).filterMap λa=>if a=L∨a=d then none else(h.get? a).map λo=>(a,o)
end
end MQ
namespace L2
open PySem PySem.Spec PyProof.Rows
theorem sM:∀{vs:List Value}{ns:List Int},IntsAre vs ns->Vals (ns.map V.int) vs
 |_,_,.nil=> .nil
 |_,_,.cons n t h=> .cons ⟨t,rfl⟩ (sM h)
abbrev Qi{K:PySem.W.Frag}{h:Heap}(_:K.In h):PySem.W.Frag:=K
def fH(s:Stmt):Arguments:=match s with
 | .FunctionDef _ a _ _ _ _ _ _ _ _=>a
 |_=>{posonlyargs:=[],args:=[],vararg:=none,kwonlyargs:=[],kw_defaults:=[],kwarg:=none,defaults:=[]}
def dO(s:Stmt):List Stmt:=match s with
 | .FunctionDef _ _ b _ _ _ _ _ _ _=>b
 |_=>[]
def az(s:Stmt):Scope:=match s with
 | .FunctionDef _ _ _ _ _ _ sc _ _ _=>sc
 |_=>{kind:= .function,names:=[],isGenerator:=false,isCoroutine:=false}
abbrev cV:Aj:=λ_ _ _ _ _ _=>False
abbrev E0:XK:=λ_ _ _=>False
theorem aQ{X:Cx}:Passes cV X E0:=λ_ _ _ _ _ _ _ h=>h.elim
structure Gq(K:PySem.W.Frag)(x qual:Str)(st:Stmt)(f:Addr)(fd:FuncData):Prop where
 ex:∃(oc:Value)(od:Option Addr)(kV doc pm:Value)(an:Option Addr)(cdv ct:Value)(osl:Array (Option Value)),
  fd=PySem.W.fnOf x qual (fH st) (dO st) (az st) .none kV doc pm an cdv ct/\K.lookup f=some ⟨oc,od,.func fd,osl⟩/\PySem.W.codeIn K cdv qual=true
 kp:PySem.W.keepIn K (.ref f)=true
section
variable{P:Program}{w:World}{K:PySem.W.Frag}{mg:Str->Option Value}{base:Heap}
theorem Gq.ok{x qual:Str}{st:Stmt}{f:Addr}{fd:FuncData}{N ps:List Str}{k:Nat}{sp:Sp}(F:Gq K x qual st f fd)(S:aM N ps (az st))(len:∀vs H Q E,sp vs H Q E->vs.length=ps.length)
  (hbody:∀(cdv:Value)(A:Around)(outer:List Env)(s:Shared)(H:Hp)(vs:List V)(Q:VK)(E:XK),eY k (A.deeper (envOfC qual (az st) s.heap.objs.size f cdv)) ->sp vs H Q E->
   ∃t,tV (t8 cV P w K mg base N qual (az st) f cdv A outer s H E).BJ (dO st) t/\t {nx:=λ_ H'=>Q .ig H',rt:=Q} (start N vs) H):m8 P w K mg base cV (k+1) f fd ps sp:=by
 obtain⟨oc,od,kV,doc,pm,an,cdv,ct,osl,rfl,lk,hcd⟩:=F.ex
 refine Gn lk hcd S len λA outer s H vs Q E hr Ep=> ?_
 obtain⟨t,h,q⟩:=hbody cdv A outer s H vs Q E hr Ep
 exact⟨t,h.BJ,q⟩
theorem Gq.binds{x qual:Str}{st:Stmt}{f:Addr}{fd:FuncData}{ps:List Str}(F:Gq K x qual st f fd)
  (h:∀(kV doc pm:Value)(an:Option Addr)(cdv ct:Value)(us:List Value),us.length=ps.length->bindArgs (PySem.W.fnOf x qual (fH st) (dO st) (az st) .none kV doc pm an cdv ct) ⟨us,[]⟩=pure (ps.zip us)):Binds K fd ps []:=by
 obtain⟨oc,od,kV,doc,pm,an,cdv,ct,osl,rfl,lk,hcd⟩:=F.ex
 exact .all (h kV doc pm an cdv ct)
theorem Ci{x qual:Str}{st:Stmt}{f:Addr}{oc:Value}{od an:Option Addr}{osl:Array (Option Value)}{kV doc pm cdv ct:Value}(l:K.lookup f=some ⟨oc,od,.func (PySem.W.fnOf x qual (fH st) (dO st) (az st) .none kV doc pm an cdv ct),osl⟩)
  (c:PySem.W.codeIn K cdv qual=true)(k:PySem.W.keepIn K (.ref f)=true):Gq K x qual st f (PySem.W.fnOf x qual (fH st) (dO st) (az st) .none kV doc pm an cdv ct):=⟨⟨oc,od,kV,doc,pm,an,cdv,ct,osl,rfl,l,c⟩,k⟩
end
section
variable{X:Cx}
theorem pv(i:Nat){x:Str}{pos:Pos}(hN:X.N[i]?=some x:=by rfl)(hv:Gd X.env.scope x:=by first|exact Or.inl rfl|exact Or.inr (Or.inl rfl)|exact Or.inr (Or.inr rfl))(hd:(x==("__debug__":Str))=false:=by decide)
  (hcd:(x==("__classdict__":Str))=false:=by decide):PE X (.Name x pos) (bT i):=GR hN hv hd hcd
end
theorem vK{A B:Prop}(h:B):if false=true then A else B:=by
 rw[if_neg Bool.false_ne_true]
 exact h
theorem An{A B:Prop}(h:A):if true=true then A else B:=by
 rw[if_pos rfl]
 exact h
theorem jC{c A B:Prop}[Decidable c](h1:c->A)(h2:¬c->B):if c then A else B:=by
 by_cases h:c
 ·rw[if_pos h]
  exact h1 h
 ·rw[if_neg h]
  exact h2 h
theorem zq{c A B:Prop}[Decidable c](hc:c)(h:B):if(!decide c)=true then A else B:=by
 rw[decide_eq_true hc]
 exact vK h
def ay(H H':Hp):Prop:=∀b o,H b=some o->H' b=some o
theorem ay.refl(H:Hp):ay H H:=λ_ _ h=>h
theorem ay.trans{H H1 H2:Hp}(a:ay H H1)(b:ay H1 H2):ay H H2:=λc o h=>b c o (a c o h)
theorem ay.free{H H':Hp}(e:ay H H'){l:Addr}(h:H' l=Option.none):H l=Option.none:=by
 cases q:H l with
 |none=>rfl
 |some o=>
  rw[e l o q]at h
  cases h
theorem ay.seq{K:PySem.W.Frag}{H H':Hp}{a:Addr}{xs:List V}(e:ay H H')(h:aU K H a xs):aU K H' a xs:=by
 rcases h with(h|⟨o,h⟩)|h
 ·exact .inl (.inl (e _ _ h))
 ·exact .inl (.inr ⟨o,e _ _ h⟩)
 ·exact .inr h
def bU(env:Env):List (Str×NameKind) ->List (Str×Addr) ->List (Str×Addr)
 | [],acc=>acc
 |(n,k)::r,acc=>if k== .free then bU env r ((n,(env.cells.lookup n).getD 0)::acc)else bU env r acc
theorem mw{env:Env}(f:Str×NameKind->List (Str×Addr) ->Sem (ForInStep (List (Str×Addr))))
  (hf:∀n k cs,f (n,k) cs=if k==NameKind.free then(do let a<-cellOf env n;pure (.yield ((n,a)::cs)))else pure (.yield cs)):
  ∀(ns:List (Str×NameKind))(acc:List (Str×Addr)),(∀y∈ns,y.2= .free->(env.cells.lookup y.1).isSome=true) ->forIn ns acc f=pure (bU env ns acc)
 | [],acc,_=>by rw[List.forIn_nil];rfl
 |(n,k)::r,acc,h=>by
  rw[List.forIn_cons,hf]
  have hr:∀y∈r,y.2= .free->(env.cells.lookup y.1).isSome=true:=λy hy=>h y (List.mem_cons_of_mem _ hy)
  unfold bU
  by_cases hk:(k==NameKind.free)=true
  ·rw[if_pos hk,if_pos hk]
   obtain⟨c,hc⟩:=Option.isSome_iff_exists.mp (h (n,k) List.mem_cons_self (beq_iff_eq.mp hk))
   have hc':env.cells.lookup n=some c:=hc
   have e:cellOf env n=pure c:=by unfold cellOf;rw[hc']
   rw[e,pure_bind,pure_bind,hc']
   exact mw f hf r _ hr
  ·rw[if_neg hk,if_neg hk,pure_bind]
   exact mw f hf r _ hr
theorem rH{env:Env}{scope:Scope}(h:∀y∈scope.names,y.2= .free->(env.cells.lookup y.1).isSome=true):closureFor scope env=pure (bU env scope.names []):=by
 simp only[closureFor]
 rw[mw (env:=env) _ (λn k cs=>by cases hk:k==NameKind.free<;>simp[hk]) _ _ h]
 rfl
theorem iG{env:Env}{y:Str}{c:Addr}:∀{ns:List (Str×NameKind)}{acc:List (Str×Addr)},(y,c)∈bU env ns acc->(y,c)∈acc∨((y,NameKind.free)∈ns/\c=(env.cells.lookup y).getD 0)
 | [],acc,h=> .inl h
 |(n,k)::r,acc,h=>by
  unfold bU at h
  split at h
  ·rename_i hk
   rcases iG h with h|⟨h,e⟩
   ·rcases List.mem_cons.mp h with e|h
    ·cases e
     exact .inr ⟨by rw[beq_iff_eq.mp hk];exact List.mem_cons_self,rfl⟩
    ·exact .inl h
   ·exact .inr ⟨List.mem_cons_of_mem _ h,e⟩
  ·rcases iG h with h|⟨h,e⟩
   ·exact .inl h
   ·exact .inr ⟨List.mem_cons_of_mem _ h,e⟩
theorem jd{env:Env}{y:Str}:∀{ns:List (Str×NameKind)}{acc:List (Str×Addr)},acc.lookup y=some ((env.cells.lookup y).getD 0)∨(y,NameKind.free)∈ns->(bU env ns acc).lookup y=some ((env.cells.lookup y).getD 0)
 | [],acc,h=>by
  rcases h with h|h
  ·exact h
  ·cases h
 |(n,k)::r,acc,h=>by
  unfold bU
  split
  ·rename_i hk
   refine jd ?_
   by_cases hy:y=n
   ·subst hy
    exact .inl (by simp[List.lookup])
   ·have hb:(y==n)=false:=by simpa using hy
    rcases h with h|h
    ·exact .inl (by rw[List.lookup_cons,hb];exact h)
    ·rcases List.mem_cons.mp h with e|h
     ·cases e;exact absurd rfl hy
     ·exact .inr h
  ·rename_i hk
   refine jd ?_
   rcases h with h|h
   ·exact .inl h
   ·rcases List.mem_cons.mp h with e|h
    ·cases e;exact absurd rfl hk
    ·exact .inr h
theorem eH{y:Str}:∀{ns:List (Str×NameKind)}{n:Nat}{acc:List (Str×Addr)},(y,NameKind.cell)∉ns->(cellsFrom n ns acc).lookup y=acc.lookup y
 | [],_,_,_=>rfl
 |(z,k)::r,n,acc,h=>by
  unfold cellsFrom
  have hr:(y,NameKind.cell)∉r:=λq=>h (List.mem_cons_of_mem _ q)
  split
  ·rename_i hk
   rw[eH hr]
   have hy:(y==z)=false:=by
    cases e:y==z with
    |false=>rfl
    |true=>exact absurd (by rw[beq_iff_eq.mp e,beq_iff_eq.mp hk];exact List.mem_cons_self) h
   rw[List.lookup_cons,hy]
  ·exact eH hr
theorem je{y:Str}{c:Addr}:∀{ns:List (Str×NameKind)}{n:Nat}{acc:List (Str×Addr)},(y,c)∈cellsFrom n ns acc->(y,c)∈acc∨(n<=c/\(y,NameKind.cell)∈ns)
 | [],_,_,h=> .inl h
 |(z,k)::r,n,acc,h=>by
  unfold cellsFrom at h
  split at h
  ·rename_i hk
   rcases je h with h|⟨h,e⟩
   ·rcases List.mem_cons.mp h with e|h
    ·cases e
     exact .inr ⟨Nat.le_refl _,by rw[beq_iff_eq.mp hk];exact List.mem_cons_self⟩
    ·exact .inl h
   ·exact .inr ⟨by omega,List.mem_cons_of_mem _ e⟩
  ·rcases je h with h|⟨h,e⟩
   ·exact .inl h
   ·exact .inr ⟨h,List.mem_cons_of_mem _ e⟩
theorem jf:∀{ns:List (Str×NameKind)}{n:Nat}{acc:List (Str×Addr)},(∀x y c,(x,c)∈acc->(y,c)∈acc->x=y) ->(∀y c,(y,c)∈acc->c<n) ->
  ∀x y c,(x,c)∈cellsFrom n ns acc->(y,c)∈cellsFrom n ns acc->x=y
 | [],_,_,h,_=>h
 |(z,k)::r,n,acc,h,hl=>by
  unfold cellsFrom
  split
  ·refine jf (λx y c h1 h2=> ?_) (λy c h1=> ?_)
   ·rcases List.mem_cons.mp h1 with e1|h1<;>rcases List.mem_cons.mp h2 with e2|h2
    ·cases e1;cases e2;rfl
    ·cases e1;exact absurd (hl _ _ h2) (Nat.lt_irrefl _)
    ·cases e2;exact absurd (hl _ _ h1) (Nat.lt_irrefl _)
    ·exact h x y c h1 h2
   ·rcases List.mem_cons.mp h1 with e1|h1
    ·cases e1;exact Nat.lt_succ_self _
    ·exact Nat.lt_succ_of_lt (hl _ _ h1)
  ·exact jf h hl
theorem gO:∀(ns:List (Str×NameKind))(h:Heap)(acc:List (Str×Addr))(y:Str)(c:Addr),(y,c)∈cellsFrom h.objs.size ns acc->(y,c)∈acc∨(pushCells h ns).IsCell c none
 | [],_,_,_,_,hm=> .inl hm
 |(z,k)::r,h,acc,y,c,hm=>by
  unfold cellsFrom at hm
  unfold pushCells
  split at hm
  ·rename_i hk
   rw[if_pos hk]
   have hm':(y,c)∈cellsFrom (h.push {cls:= .type "cell",data:= .cell none}).objs.size r ((z,h.objs.size)::acc):=by rw[Heap.size_push];exact hm
   rcases gO r _ _ y c hm' with hm|hm
   ·rcases List.mem_cons.mp hm with e|hm
    ·cases e
     exact .inr ⟨_,pushCells_keeps _ _ _ _ (Heap.get?_push_size _ rfl),rfl⟩
    ·exact .inl hm
   ·exact .inr hm
  ·rename_i hk
   rw[if_neg hk]
   exact gO r h acc y c hm
def kindB(names:List (Str×NameKind))(y:Str)(k:NameKind):Bool:=names.lookup y==some k
def qj:List Str->Bool
 | []=>true
 |x::r=> !r.contains x && qj r
theorem mz:∀{l:List Str},qj l=true->l.Nodup
 | [],_=>List.nodup_nil
 |x::r,h=>by
  unfold qj at h
  rw[Bool.and_eq_true]at h
  refine List.nodup_cons.mpr ⟨λhm=> ?_,mz h.2⟩
  have:r.contains x=true:=List.contains_iff_mem.mpr hm
  rw[this]at h
  exact absurd h.1 (by decide)
def xB:List Str->List Str->(Str->Str->Bool) ->Bool
 | [],[],_=>true
 |x::r,y::t,p=>p x y && xB r t p
 |_,_,_=>false
theorem vM:∀{l m:List Str}{p:Str->Str->Bool},xB l m p=true->l.length=m.length
 | [],[],_,_=>rfl
 | [],_::_,_,h=>by cases h
 |_::_,[],_,h=>by cases h
 |x::r,y::t,p,h=>by
  unfold xB at h
  rw[Bool.and_eq_true]at h
  simp[vM h.2]
theorem vN:∀{l m:List Str}{p:Str->Str->Bool},xB l m p=true-> ∀(i:Nat)(x:Str),l[i]?=some x-> ∃y,m[i]?=some y/\p x y=true
 | [],[],_,_,i,x,h=>by simp at h
 | [],_::_,_,h,_,_,_=>by cases h
 |_::_,[],_,h,_,_,_=>by cases h
 |x::r,y::t,p,h,0,z,e=>by
  unfold xB at h
  rw[Bool.and_eq_true]at h
  simp at e;subst e
  exact⟨y,rfl,h.1⟩
 |x::r,y::t,p,h,i+1,z,e=>by
  unfold xB at h
  rw[Bool.and_eq_true]at h
  obtain⟨w,e1,e2⟩:=vN h.2 i z (by simpa using e)
  exact⟨w,by simpa using e1,e2⟩
def xC(names ks:List (Str×NameKind))(own N2 N:List Str):Bool:=
 names.all (λy=>y.2 != .free||kindB ks y.1 .cell||kindB ks y.1 .free) &&
 qj (names.map (·.1)) && qj (own++N2) &&
 names.all (λy=> !(y.2== .local||y.2== .cell)||own.contains y.1||y.1==(".0":Str)) &&
 xB N2 N (λy z=>(y==z && y !=(".0":Str))||names.lookup y==none) &&
 own.all (λx=>kindB names x .local||kindB names x .cell)
structure nO(names ks:List (Str×NameKind))(own N2 N:List Str):Prop where
 fr:∀y,(y,NameKind.free)∈names->ks.lookup y=some .cell∨ks.lookup y=some .free
 nd:(names.map (·.1)).Nodup
 EN:(own++N2).Nodup
 owns:∀y k,(y,k)∈names->k= .local∨k= .cell->y∈own∨y=(".0":Str)
 zip:∀(j:Nat)(y:Str),N2[j]?=some y->(N[j]?=some y/\y≠(".0":Str))∨names.lookup y=none
 len:N2.length=N.length
 own:∀x∈own,names.lookup x=some .local∨names.lookup x=some .cell
theorem kZ{names ks:List (Str×NameKind)}{own N2 N:List Str}(h:xC names ks own N2 N=true):nO names ks own N2 N:=by
 unfold xC at h
 simp only[Bool.and_eq_true]at h
 obtain⟨⟨⟨⟨⟨h1,h2⟩,h3⟩,h4⟩,h5⟩,h6⟩:=h
 refine⟨λy hy=> ?_,mz h2,mz h3,λy k hy hk=> ?_,λj y e=> ?_,vM h5,λx hx=> ?_⟩
 ·have q:=List.all_eq_true.mp h1 _ hy
  simp only[Bool.or_eq_true]at q
  rcases q with(q|q)|q
  ·exact absurd q (by simp)
  ·exact .inl (by simpa [kindB]using q)
  ·exact .inr (by simpa [kindB]using q)
 ·have q:=List.all_eq_true.mp h4 _ hy
  simp only[Bool.or_eq_true]at q
  rcases q with(q|q)|q
  ·rcases hk with rfl|rfl<;>simp at q
  ·exact .inl (List.contains_iff_mem.mp q)
  ·exact .inr (by simpa using q)
 ·obtain⟨z,e1,e2⟩:=vN h5 j y e
  simp only[Bool.or_eq_true,Bool.and_eq_true]at e2
  rcases e2 with⟨e2,e3⟩|e2
  ·exact .inl ⟨by rw[e1,beq_iff_eq.mp e2],by simpa using e3⟩
  ·exact .inr (by simpa using e2)
 ·have q:=List.all_eq_true.mp h6 _ hx
  simp only[Bool.or_eq_true]at q
  rcases q with q|q
  ·exact .inl (by simpa [kindB]using q)
  ·exact .inr (by simpa [kindB]using q)
theorem cu{α:Type}:∀{l:List (Str×α)}{y:Str}{k:α},(l.map (·.1)).Nodup->(y,k)∈l->l.lookup y=some k
 |(z,v)::r,y,k,nd,h=>by
  rw[List.map_cons,List.nodup_cons]at nd
  rw[List.lookup_cons]
  rcases List.mem_cons.mp h with e|h'
  ·cases e;simp
  ·have:(y==z)=false:=by
    cases e:y==z with
    |false=>rfl
    |true=>
     have e':y=z:=beq_iff_eq.mp e
     have q:y∈r.map (λx=>x.1):=List.mem_map.mpr ⟨(y,k),h',rfl⟩
     exact absurd (by rw[<-e'];exact q) nd.1
   rw[this]
   exact cu nd.2 h'
theorem iA{sc:Scope}{env:Env}{y:Str}:∀{ns:List (Str×NameKind)},
  (ns.map λ (n,k)=>if(k==NameKind.free && env.scope.kind== .function && env.kindOf n==some .cell)then(n,NameKind.cell)else(n,k)).lookup y=
   (ns.lookup y).map λk=>if(k==NameKind.free && env.scope.kind== .function && env.kindOf y==some .cell)then .cell else k
 | []=>rfl
 |(n,k)::r=>by
  have ih:= @iA sc env y r
  rw[List.map_cons,List.lookup_cons]
  show List.lookup y ((if(k==NameKind.free && env.scope.kind== .function && env.kindOf n==some .cell)=true then(n,NameKind.cell)else(n,k))::_)=_
  cases hx:y==n with
  |true=>
   have e:y=n:=beq_iff_eq.mp hx
   subst e
   by_cases hc:(k==NameKind.free && env.scope.kind== .function && env.kindOf y==some .cell)=true
   ·rw[if_pos hc]
    simp only[List.lookup_cons,hx,Option.map_some,if_pos hc]
   ·rw[if_neg hc]
    simp only[List.lookup_cons,hx,Option.map_some,if_neg hc]
  |false=>
   by_cases hc:(k==NameKind.free && env.scope.kind== .function && env.kindOf n==some .cell)=true
   ·rw[if_pos hc];simp only[List.lookup_cons,hx];exact ih
   ·rw[if_neg hc];simp only[List.lookup_cons,hx];exact ih
def Cx.comp(X:Cx)(sc:Scope)(N':List Str)(s:Shared)(H:Hp)(fp:List Addr):Cx:=
 {X with
  N:=N'
  s₀:=s
  H₀:=H
  env:=compEnvC sc (cellsFrom (s.heap.objs.size+2) sc.names (bU X.env sc.names [])) (s.heap.objs.size+1) X.env
  outer:=X.stack
  ex:=fp
  fn:=λy=>sc.names.lookup y==some .cell
  pn:=[]
  xe:=λ_ _=>False}
section
variable{X:Cx}{pins:List (Addr×Obj)}{σ:St}{H:Hp}{s:Shared}{sc:Scope}{own N2:List Str}{fp:List Addr}
theorem iH(I:Inv X pins σ H s)(B:nO sc.names X.env.scope.names own N2 X.N):∀y,(y,NameKind.free)∈sc.names-> ∃c,X.env.cells.lookup y=some c:=λy hy=>by
 rcases B.fr y hy with q|q
 ·exact I.ok.has y (.inl q)
 ·exact I.ok.has y (.inr q)
theorem pZ(I:Inv X pins σ H s)(B:nO sc.names X.env.scope.names own N2 X.N):closureFor sc X.env=pure (bU X.env sc.names []):=
 rH λy hy hk=>by
  obtain⟨c,e⟩:=iH I B y.1 (by rw[<-hk];exact hy)
  rw[e];rfl
theorem gE(I:Inv X pins σ H s)(B:nO sc.names X.env.scope.names own N2 X.N){n:Nat}{y:Str}{c:Addr}(h:(y,c)∈cellsFrom n sc.names (bU X.env sc.names [])):
  (n<=c/\(y,NameKind.cell)∈sc.names)∨((y,NameKind.free)∈sc.names/\X.env.cells.lookup y=some c):=by
 rcases je h with h|h
 ·rcases iG h with h|⟨h,e⟩
  ·cases h
  ·obtain⟨c',e'⟩:=iH I B y h
   rw[e']at e
   exact .inr ⟨h,by rw[e',e];rfl⟩
 ·exact .inl h
theorem jX(I:Inv X pins σ H s)(B:nO sc.names X.env.scope.names own N2 X.N){n:Nat}{y:Str}{c:Addr}(hy:(y,NameKind.free)∈sc.names)(hc:X.env.cells.lookup y=some c):
  (cellsFrom n sc.names (bU X.env sc.names [])).lookup y=some c:=by
 rw[eH,jd (.inr hy),hc]
 ·rfl
 ·intro q
  have e1:=cu B.nd hy
  rw[cu B.nd q]at e1
  cases e1
theorem Ao(I:Inv X pins σ H s)(B:nO sc.names X.env.scope.names own N2 X.N){n:Nat}(hn:s.heap.objs.size<=n){x y:Str}{c:Addr}(h1:(x,c)∈cellsFrom n sc.names (bU X.env sc.names []))
  (h2:(y,c)∈cellsFrom n sc.names (bU X.env sc.names [])):x=y:=by
 have old:∀z c,(z,c)∈bU X.env sc.names [] ->X.env.cells.lookup z=some c:=λz c hm=>by
  rcases iG hm with h|⟨h,e⟩
  ·cases h
  ·obtain⟨c',e'⟩:=iH I B z h
   rw[e']at e
   rw[e',e];rfl
 refine jf (λx y c h1 h2=>I.ok.inj x y c (old _ _ h1) (old _ _ h2)) (λz c hm=> ?_) x y c h1 h2
 obtain⟨v,q⟩:=I.cell z c (old _ _ hm)
 exact Nat.lt_of_lt_of_le q.lt hn
theorem ud(I:Inv X pins σ H s)(B:nO sc.names X.env.scope.names own N2 X.N){n:Nat}{env':Env}{h':Heap}{m:Str->Option Value}{j:Nat}{y:Str}{v:V}(hN:N2[j]?=some y)(hs:σ[j]?=some (some v))
  (hcl:env'.cells=cellsFrom n sc.names (bU X.env sc.names []))(hkd:∀y,(y,NameKind.free)∈sc.names->env'.kindOf y=some .cell∨env'.kindOf y=some .free)
  (hin:Gd env'.scope y-> ∃k,sc.names.lookup y=some k)(hown:y∉own)
  (keep:∀b o,s.heap.get? b=some o->h'.get? b=some o)(hv:Gd env'.scope y)(hk2:∀k,sc.names.lookup y=some k->k= .local∨k= .cell∨k= .free):∃u,RelV v u/\Look env' h' m y u:=by
 obtain⟨k,hk⟩:=hin hv
 rcases B.zip j y hN with⟨e,n0⟩|e
 ·have hm:=mem_of_lookup hk
  have kf:k= .free:=by
   rcases hk2 k hk with z|z|z
   ·rcases B.owns y k hm (.inl z)with q|q
    ·exact absurd q hown
    ·exact absurd q n0
   ·rcases B.owns y k hm (.inr z)with q|q
    ·exact absurd q hown
    ·exact absurd q n0
   ·exact z
  subst kf
  have hX:Gd X.env.scope y:=by
   rcases B.fr y hm with q|q
   ·exact .inr (.inl q)
   ·exact .inr (.inr q)
  obtain⟨m0,_,hl⟩:=I.loc
  obtain⟨u,r,l⟩:=hl j y v e hs hX
  refine⟨u,r,.inr ⟨hkd y hm,?_⟩⟩
  rcases l with⟨kl,_⟩|⟨_,c,hc,z⟩
  ·rcases B.fr y hm with q|q
   ·have JG:X.env.scope.names.lookup y=some .local:=kl
    rw[q]at JG;cases JG
   ·have JG:X.env.scope.names.lookup y=some .local:=kl
    rw[q]at JG;cases JG
  ·exact⟨c,by rw[hcl];exact jX I B hm hc,z.keeps keep⟩
 ·rw[hk]at e;cases e
end
theorem m9{M:Model}{A:Around}{E:Value->Shared->Prop}{s:Shared}{sc:Scope}{g:Addr}{cl:List (Str×Addr)}{qual:Str}{env:Env}{Q:Env->Shared->Prop}
  (h:Q {scope:=sc,locals:=s.heap.objs.size,globals:=g,cells:=cellsFrom (s.heap.objs.size+1) sc.names cl,qual:=qual,func:=none,code:=env.code,frame:=env.frame,builtins:=env.builtins}
   {s with heap:=pushCells (s.heap.push {cls:= .type "dict",data:= .dict #[]}) sc.names}):
  wpAny M A (newFunctionEnv sc g cl [] qual none .none (some env)) Q E s:=by
 simp only[newFunctionEnv,Option.isSome_some,if_true]
 refine wpAny_bind (wpAny_alloc ?_)
 refine wpAny_bind (wpAny_layCells _ (λname kind cells=>by cases hkc:kind==NameKind.cell<;>simp[hkc]) _ _ _ _ ?_)
 rw[show({s with heap:=s.heap.push {cls:= .type "dict",data:= .dict #[]}}:Shared).heap.objs.size=s.heap.objs.size+1 from Heap.size_push ..]
 simp only[List.forIn_nil]
 exact wpAny_bind (wpAny_pure (wpAny_pure h))
section
variable{X:Cx}{pins:List (Addr×Obj)}{σ:St}{H:Hp}{s:Shared}{sc:Scope}{own N2:List Str}{fp:List Addr}
theorem qk{env:Env}{y:Str}(hv:Gd (relabel sc env) y):∃k,sc.names.lookup y=some k/\(k= .local∨k= .cell∨k= .free):=by
 have q:∀k,(relabel sc env).names.lookup y=some k->(k= .local∨k= .cell∨k= .free) -> ∃k,sc.names.lookup y=some k/\(k= .local∨k= .cell∨k= .free):=λk e hk=>by
  have e':=(iA (sc:=sc) (env:=env) (y:=y) (ns:=sc.names)).symm.trans e
  cases z:sc.names.lookup y with
  |none=>rw[z]at e';cases e'
  |some k0=>
   rw[z]at e'
   simp only[Option.map_some,Option.some.injEq]at e'
   refine⟨k0,rfl,?_⟩
   split at e'
   ·rename_i hc
    simp only[Bool.and_eq_true]at hc
    exact .inr (.inr (by simpa using hc.1.1))
   ·rw[e'];exact hk
 rcases hv with e|e|e
 ·exact q _ e (.inl rfl)
 ·exact q _ e (.inr (.inl rfl))
 ·exact q _ e (.inr (.inr rfl))
theorem kind_free(B:nO sc.names X.env.scope.names own N2 X.N){env:Env}{y:Str}(hy:(y,NameKind.free)∈sc.names):(relabel sc env).names.lookup y=some .cell∨(relabel sc env).names.lookup y=some .free:=by
 have e:=iA (sc:=sc) (env:=env) (y:=y) (ns:=sc.names)
 rw[cu B.nd hy]at e
 simp only[Option.map_some]at e
 split at e
 ·exact .inl e
 ·exact .inr e
theorem iI{env:Env}{y:Str}{k:NameKind}(hy:sc.names.lookup y=some k)(hk:k= .local∨k= .cell):(relabel sc env).names.lookup y=some k:=by
 have e:=iA (sc:=sc) (env:=env) (y:=y) (ns:=sc.names)
 rw[hy]at e
 simp only[Option.map_some]at e
 rcases hk with rfl|rfl
 ·exact e
 ·exact e
theorem EO(I:Inv X pins σ H s)(B:nO sc.names X.env.scope.names own N2 X.N)(hk:sc.kind= .function)(hf:∀b∈fp,e9 X pins H b)(ho:∀b∈fp,∃o,s.heap.get? b=some o):(X.comp sc (own++N2) s H fp).Ok:=by
 have lt:∀b∈fp,b<s.heap.objs.size:=λb hb=>let⟨o,e⟩:=ho b hb;Heap.lt_size e
 have ir:∀y c,(cellsFrom (s.heap.objs.size+2) sc.names (bU X.env sc.names [])).lookup y=some c->(s.heap.objs.size+2<=c/\(y,NameKind.cell)∈sc.names)∨((y,NameKind.free)∈sc.names/\X.env.cells.lookup y=some c):=
  λy c h=>gE I B (mem_of_lookup h)
 refine⟨I.ok.mod,hk,I.ok.glob,I.ok.blt,Nat.le_succ _,λx y c h1 h2=> ?_,λy hy=> ?_,λy c hy hc=> ?_,I.ok.hd,I.ok.frames,.inl rfl,λb hb=>⟨?_,λy c hc=> ?_⟩,I.bs,Nat.le_trans I.ok.Ex I.sz,λb o e hb=> ?_,λb hb hs=> ?_,I.stack,I.pX⟩
 ·exact Ao I B (by omega) (mem_of_lookup h1) (mem_of_lookup h2)
 ·have hy':(relabel sc X.env).names.lookup y=some .cell∨(relabel sc X.env).names.lookup y=some .free:=hy
  obtain⟨k,e,Gr⟩:=qk (env:=X.env) (y:=y) (sc:=sc) (by rcases hy' with q|q;exact .inr (.inl q);exact .inr (.inr q))
  rcases Gr with rfl|rfl|rfl
  ·have:=iI (env:=X.env) e (.inl rfl)
   rcases hy' with q|q
   ·rw[q]at this;cases this
   ·rw[q]at this;cases this
  ·exact Option.isSome_iff_exists.mp (PySem.W.cellsFrom_some sc.names _ _ (.inl e))
  ·obtain⟨c,hc⟩:=iH I B y (mem_of_lookup e)
   exact⟨c,jX I B (mem_of_lookup e) hc⟩
 ·have hy':sc.names.lookup y=some .cell:=by
   have q:(sc.names.lookup y==some NameKind.cell)=true:=hy
   simpa using q
  rcases ir y c hc with⟨q,_⟩|⟨q,_⟩
  ·show s.heap.objs.size<=c
   omega
  ·rw[cu B.nd q]at hy';cases hy'
 ·exact Nat.ne_of_lt (Nat.lt_succ_of_lt (lt b hb))
 ·have hl:=lt b hb
  rcases ir y c hc with⟨q,_⟩|⟨_,q⟩
  ·exact Nat.ne_of_gt (Nat.lt_of_lt_of_le hl (Nat.le_trans (Nat.le_add_right _ 2) q))
  ·exact(hf b hb).2.2.2.2.1 y c q
 ·rcases(hf b hb).2.2.2.1 with z|z
  ·exact I.ok.Aa b o e z
  ·exact absurd (Nat.lt_of_lt_of_le (Heap.lt_size (I.ok.bs b o e).1) z) (Nat.lt_irrefl _)
 ·rcases List.mem_cons.mp (I.qa b hs)with e|e
  ·exact(hf b hb).2.1 e
  ·exact(hf b hb).2.2.1 e
theorem Cj(I:Inv X pins σ H s)(B:nO sc.names X.env.scope.names own N2 X.N)(hk:sc.kind= .function)(hf:∀b∈fp,e9 X pins H b)(ho:∀b∈fp,∃o,s.heap.get? b=some o):
  Inv (X.comp sc (own++N2) s H fp) [] (List.replicate own.length none++σ) (upd H s.heap.objs.size (.lst []))
   {s with heap:=pushCells ((s.heap.push {cls:= .type "list",dict:=none,data:= .seq ([]:List Value).toArray}).push {cls:= .type "dict",data:= .dict #[]}) sc.names}:=by
 have k1:∀b o,(s.heap.push {cls:= .type "list",dict:=none,data:= .seq ([]:List Value).toArray}).get? b=some o->
   (pushCells ((s.heap.push {cls:= .type "list",dict:=none,data:= .seq ([]:List Value).toArray}).push {cls:= .type "dict",data:= .dict #[]}) sc.names).get? b=some o:=
  λb o e=>pushCells_keeps _ _ b o (Heap.get?_push_of_some _ e)
 have k0:∀b o,s.heap.get? b=some o->
   (pushCells ((s.heap.push {cls:= .type "list",dict:=none,data:= .seq ([]:List Value).toArray}).push {cls:= .type "dict",data:= .dict #[]}) sc.names).get? b=some o:=
  λb o e=>k1 b o (Heap.get?_push_of_some _ e)
 have sz:((s.heap.push {cls:= .type "list",dict:=none,data:= .seq ([]:List Value).toArray}).push {cls:= .type "dict",data:= .dict #[]}).objs.size=s.heap.objs.size+2:=by rw[Heap.size_push,Heap.size_push]
 have ir:∀y c,(cellsFrom (s.heap.objs.size+2) sc.names (bU X.env sc.names [])).lookup y=some c->(s.heap.objs.size+2<=c/\(y,NameKind.cell)∈sc.names)∨((y,NameKind.free)∈sc.names/\X.env.cells.lookup y=some c):=
  λy c h=>gE I B (mem_of_lookup h)
 have Ck:∀b,s.heap.objs.size<b->upd H s.heap.objs.size (.lst []) b=none:=λb hb=>by
  rw[aH (Nat.ne_of_gt hb)]
  exact I.hok.fresh (Nat.le_of_lt hb)
 refine⟨EO I B hk hf ho,rfl,.refl I.bare.bare,Un.laid k0 (Nat.le_refl _) I.fresh,⟨λ_=>none,?_,λi y v e1 e2 e3=> ?_⟩,λy c hc=> ?_,Ck _ (Nat.lt_succ_self _),λy c hc=> ?_,λp hp=> ?_,I.hok.laid k0 (Nat.le_refl _) ?_,?_⟩
 ·have:=Heap.Ns.new (s.heap.push {cls:= .type "list",dict:=none,data:= .seq ([]:List Value).toArray}) (.type "dict")
  rw[Heap.size_push]at this
  exact this.keeps (pushCells_keeps _ _)
 ·by_cases hi:i<own.length
  ·rw[List.getElem?_append_left (by simpa using hi),List.getElem?_replicate]at e2
   split at e2<;>cases e2
  ·have xD:(own++N2)[i]?=some y:=e1
   have hi':own.length<=i:=by omega
   rw[List.getElem?_append_right (by simpa using hi'),List.length_replicate]at e2
   rw[List.getElem?_append_right hi']at xD
   have hown:y∉own:=λhm=>by
    have nd:=B.EN
    rw[List.nodup_append]at nd
    exact nd.2.2 y hm y (List.mem_of_getElem? xD) rfl
   refine ud I B (n:=s.heap.objs.size+2) xD e2 rfl (λz hz=>kind_free B hz) (λhv=>let⟨k,e,_⟩:=qk hv;⟨k,e⟩) hown k0 e3 (λk e=> ?_)
   obtain⟨k',e',hk'⟩:=qk (sc:=sc) e3
   rw[e]at e';cases e'
   exact hk'
 ·rcases gO sc.names ((s.heap.push {cls:= .type "list",dict:=none,data:= .seq ([]:List Value).toArray}).push {cls:= .type "dict",data:= .dict #[]}) (bU X.env sc.names []) y c (by rw[sz];exact mem_of_lookup hc)with q|q
  ·rcases iG q with z|⟨z,e⟩
   ·cases z
   ·obtain⟨c',e'⟩:=iH I B y z
    rw[e']at e
    have e2:c=c':=e
    subst e2
    obtain⟨v,w⟩:=I.cell y c e'
    exact⟨v,w.keeps k0⟩
  ·exact⟨none,q⟩
 ·rcases ir y c hc with⟨q,_⟩|⟨_,q⟩
  ·exact Ck c (by omega)
  ·obtain⟨v,w⟩:=I.cell y c q
   rw[aH (Nat.ne_of_lt w.lt)]
   exact I.kL y c q
 ·have jR:p∈([]:List (Addr×Obj)):=hp
  cases jR
 ·exact⟨Nat.zero_le _,[],0,.nil,k1 _ _ (Heap.get?_push_size _ rfl)⟩
 ·show(List.replicate own.length none++σ).length=(own++N2).length
  rw[List.length_append,List.length_append,List.length_replicate,I.len,B.len]
theorem Inv.Cm{σ':St}{H':Hp}{s':Shared}{N':List Str}(I:Inv X pins σ H s)(hf:∀b∈fp,e9 X pins H b)(J:Inv (X.comp sc N' s H fp) [] σ' H' s'):Inv X pins σ H' s':=
 I.BQ (ch:=fp) J.os J.base J.hok J.bare λb hb=>⟨(hf b hb).2.2.2.1,(hf b hb).2.1,(hf b hb).2.2.2.2.1,(hf b hb).2.2.2.2.2⟩
end
section
variable{prog:Program}{w:World}{A:Around}{R:Result->Shared->Prop}{s:Shared}
theorem k8{elt target iter:Expr}{scope:Scope}{pos:Pos}{it acc:Value}{env:Env}(I:Nat->Shared->Prop)
  (turn:∀n s,I n s->wpAny (model prog w) A (pyNext it) (λr s₁=>match r with
   |none=>R (.ok .next) s₁
   |some v=>wpAny (model prog w) A (letOwnedTupleGo target it v) (λ_ s₁'=>wpAny (model prog w) A (assign target env v) (λ_ s₂=>wpAny (model prog w) A (eval elt env) (λx s₃=>
     wpAny (model prog w) A (call (.builtin "list.append") [acc,x]) (λ_ s₄=> ∃m,m<n/\I m s₄) (λ_ _=>False) s₃)
     (λ_ _=>False) s₂) (λ_ _=>False) s₁') (λ_ _=>False) s₁) (λ_ _=>False) s)
  (n:Nat)(h:I n s):
  codeAny (model prog w) A (.compLoop (.ListComp elt [⟨target,iter,[],0⟩] scope pos) 0 it acc env) R s:=by
 refine codeAny_loop rfl I (λn s hI=> ?_) n h
 show wpAny _ _ ((compTurn (.ListComp elt [⟨target,iter,[],0⟩] scope pos) 0 it acc env).onRaise (λx=>do noteFrame x env;theTreesLotGoes x)) _ _ s
 refine wpAny_noted ?_
 rw[compTurn_list1]
 refine wpAny_bind (wpAny_standAt (wpAny_bind (wpAny_mono (turn n s hI) (λr s₁ h₁=> ?_) λ_ _ h'=>h'.elim)))
 cases r with
 |none=>exact wpAny_pure h₁
 |some v=>
  exact wpAny_bind (wpAny_mono h₁ (λ_ s₁' h₁'=>wpAny_bind (wpAny_mono h₁' (λ_ s₂ h₂=>wpAny_bind (wpAny_bind (wpAny_mono h₂ (λx s₃ h₃=>wpAny_bind (wpAny_mono h₃
   (λ_ s₄ h₄=>wpAny_pure (wpAny_pure ⟨rfl,h₄⟩)) λ_ _ h'=>h'.elim)) λ_ _ h'=>h'.elim))) λ_ _ h'=>h'.elim)) λ_ _ h'=>h'.elim)
end
def jg(k:Nat)(g:TG)(te:TE)(σ:St)(J:It)(H1:Hp)(D:Addr)(Q:VK):Prop:=∃W:Nat->Nat->List V->St->Hp->Prop,(∃m,W 0 m [] (List.replicate k none++σ) (upd H1 D (.lst [])))/\
 ∀i m acc σ' H',W i m acc σ' H'->(J.stop i H'/\H' D=some (.lst acc)/\Q (.ref D) H')∨
  (J.go i H'/\acc.length<sizeLine/\ ∀x H2,J.xw i H' x H2->g x σ' H2 λσ3 H3=>te σ3 H3 λv H4=>H4 D=some (.lst acc)/\ ∃m',m'<m/\W (i+1) m' (acc++ [v]) σ3 (upd H4 D (.lst (acc++ [v]))))
def k9(k:Nat)(wi:TI)(g:TG)(te:TE):TE:=λσ H Q=>wi σ H λJ H1=> ∀D,H1 D=none->jg k g te σ J H1 D Q
section
variable{X:Cx}{sc:Scope}{own N2:List Str}
theorem ql{elt iter tg:Expr}{pos LL:Pos}{wi:TI}{g:TG}{te:TE}{use:Option (Value->Sem Unit)}{Qf:Value->Shared->Prop}(hc:X.calm=true)(hi:PI X tg iter wi)(B:nO sc.names X.env.scope.names own N2 X.N)(hk:sc.kind= .function)
  (hg:∀s H fp,PG (X.comp sc (own++N2) s H fp) tg g)(he:∀s H fp,PE (X.comp sc (own++N2) s H fp) elt te)
  (hs:∀x,foldedSetIterable iter X.env x=pure x){pins:List (Addr×Obj)}{s0:Shared}{σ:St}{H0:Hp}{Q:VK}(I0:Inv X pins σ H0 s0)(h0:k9 own.length wi g te σ H0 Q)
  (LM:∀s H fp,Inv X pins σ H s->(∀b∈fp,e9 X pins H b) -> ∀(σ':St)(H':Hp)(s':Shared),Inv (X.comp sc (own++N2) s H fp) [] σ' H' s'->Q (.ref s.heap.objs.size) H'->
   compPost (model X.prog X.w) X.A X.xe use Qf (.ref s.heap.objs.size) (s.heap.objs.size+1) (.ok .next) s'):
  wpAny (model X.prog X.w) X.A (comprehension (.ListComp elt [⟨tg,iter,[],0⟩] sc pos) sc X.env LL (newList []) false (eval iter X.env) use) Qf X.xe s0:=by
 refine wpAny_comprehension_free (use:=use) rfl hs (pZ I0 B) hk (λy hy hl=>cu B.nd (by rw[<-hl];exact hy)) ?_
 refine wpAny_mono (hi pins s0 σ H0 _ I0 h0) (λv s1 h1=>wpAny_mono h1 (λitv s h2=> ?_) λ_ _ e=>e) λ_ _ e=>e
 obtain⟨it,fp,tn,J,H,e,I,T,st,hf,rd⟩:=h2
 subst e
 have ho:∀b∈fp,∃o,s.heap.get? b=some o:=λb hb=>let⟨o,e,_⟩:=T.obj 0 _ st b hb;⟨o,e⟩
 obtain⟨W,⟨m0,w0⟩,turn⟩:=rd s.heap.objs.size I.fresh
 refine wpAny_newObj_type ?_
 refine m9 ?_
 have IB:=Cj I B hk hf ho
 have LN:∀{H':Hp},(∀b∈fp,H' b=none) -> ∀b∈fp,e9 (X.comp sc (own++N2) s H fp) [] H' b:=λhn b hb=>by
  have ok:=IB.ok
  refine⟨hn b hb,(ok.IK b hb).1,ok.Ab b hb,.inl hb,λy c hc=>(ok.IK b hb).2 y c hc,λp hp=> ?_⟩
  have jR:p∈([]:List (Addr×Obj)):=hp
  cases jR
 have lt:∀b∈fp,b≠s.heap.objs.size:=λb hb=>let⟨o,e⟩:=ho b hb;Nat.ne_of_lt (Heap.lt_size e)
 have fin:=LM s H fp I hf
 have loop:∀s3:Shared,s3={s with heap:=pushCells ((s.heap.push {cls:= .type "list",dict:=none,data:= .seq ([]:List Value).toArray}).push {cls:= .type "dict",data:= .dict #[]}) sc.names} ->
   codeAny (model X.prog X.w) X.A (.compLoop (.ListComp elt [⟨tg,iter,[],0⟩] sc pos) 0 (.ref it) (.ref s.heap.objs.size) (X.comp sc (own++N2) s H fp).env)
    (compPost (model X.prog X.w) X.A X.xe use Qf (.ref s.heap.objs.size) (s.heap.objs.size+1)) s3:=by
  rintro s3 rfl
  refine k8 (λn s'=> ∃i acc σ' H',Inv (X.comp sc (own++N2) s H fp) [] σ' H' s'/\tn i s'.heap/\(∀b∈fp,H' b=none)/\W i n acc σ' H') ?_ m0
   ⟨0,[],_,_,IB,T.keep _ _ _ st λb _ o e=>pushCells_keeps _ _ b o (Heap.get?_push_of_some _ (Heap.get?_push_of_some _ e)),λb hb=> ?_,w0⟩
  ·rintro n s3 ⟨i,acc,σ3,H3,I3,st3,GZ,w3⟩
   rcases turn i n acc σ3 H3 w3 with⟨stop,hD,qn⟩|⟨go,hz,step⟩
   ·refine eV (T.done (X.comp sc (own++N2) s H fp) rfl rfl rfl hc i [] s3 σ3 H3 _ I3 (LN GZ) st3 stop) λr s4 ⟨hr,I4⟩=> ?_
    subst hr
    exact fin σ3 H3 s4 I4 qn
   ·refine eV (T.item (X.comp sc (own++N2) s H fp) rfl rfl rfl hc i [] s3 σ3 H3 _ I3 (LN GZ) st3 go) λr s4 ⟨u,hr,h4⟩=> ?_
    subst hr
    refine eV h4 λ_ s5 ⟨x,H5,I5,r5,y5,Hf,Lr⟩=> ?_
    have Ls:=I5.pinned (LN Lr) (T.obj _ _ Hf)
    refine eV (hg s H fp _ s5 σ3 H5 x u _ Ls r5 (step x H5 y5)) λ_ s6 ⟨Ju,H6,I6,q6⟩=> ?_
    refine eV (he s H fp _ s6 Ju H6 _ I6 q6) λv s7 ⟨y,H7,I7,r7,Ol,m',hm',w7⟩=> ?_
    refine eV (nN _ s7 Ju H7 (.ref s.heap.objs.size) [y] (.ref s.heap.objs.size) [v] (λz H8=>z= .ig/\H8=upd H7 s.heap.objs.size (.lst (acc++ [y]))) I7 rfl (.cons r7 .nil) ⟨s.heap.objs.size,acc,y,rfl,rfl,Ol,hz,rfl,rfl⟩) λz s8 ⟨zz,H8,I8,_,_,e8⟩=> ?_
    subst e8
    refine⟨m',hm',i+1,acc++ [y],Ju,_,I8.kU,T.keep _ _ _ Hf λb hb o e=>(I8.pin (b,o) (List.mem_append_right _ (List.mem_append_right _ (dj hb e)))).1,λb hb=> ?_,w7⟩
    obtain⟨o,e,d⟩:=T.obj _ _ Hf b hb
    exact(I8.pin (b,o) (List.mem_append_right _ (List.mem_append_right _ (dj hb e)))).2.1
  ·rw[aH (lt b hb)]
   exact(hf b hb).1
 have e1:(s.heap.push {cls:= .type "list",dict:=none,data:= .seq ([]:List Value).toArray}).objs.size=s.heap.objs.size+1:=Heap.size_push ..
 dsimp only
 rw[e1]
 exact codeAny_compStart_list (loop _ rfl) (T.self _ 0 _ _ _ (T.keep _ _ _ st λb _ o e=>pushCells_keeps _ _ b o (Heap.get?_push_of_some _ (Heap.get?_push_of_some _ e))) (loop _ rfl))
theorem Inv.Gs{pins:List (Addr×Obj)}{σ σ1:St}{H H1:Hp}{s s1:Shared}{h':Heap}(I:Inv X pins σ H s)(I1:Inv X pins σ1 H1 s1)(hn:H1 (s.heap.objs.size+1)=none)(sb:Heap.SameBut (s.heap.objs.size+1) s1.heap h'):Inv X pins σ1 H1 {s1 with heap:=h'}:=by
 have ne:∀b o,s.heap.get? b=some o->b≠s.heap.objs.size+1:=λb o e=>Nat.ne_of_lt (Nat.lt_succ_of_lt (Heap.lt_size e))
 refine I1.turned (it:=s.heap.objs.size+1) (t':=s1.toks) (λb o hb e=>(sb.2 b hb).trans e) hn (Nat.ne_of_gt (Nat.lt_succ_of_lt I.lt)) (.inr (Nat.le_succ_of_le I.sz)) (λy c e=> ?_) (λp hp=>ne _ _ (I.pin p hp).1)
 obtain⟨v,w⟩:=I.cell y c e
 exact Nat.ne_of_lt (Nat.lt_succ_of_lt w.lt)
theorem vO{elt iter tg:Expr}{pos:Pos}{wi:TI}{g:TG}{te:TE}(hc:X.calm=true)(hi:PI X tg iter wi)(B:nO sc.names X.env.scope.names own N2 X.N)(hk:sc.kind= .function)
  (hg:∀s H fp,PG (X.comp sc (own++N2) s H fp) tg g)(he:∀s H fp,PE (X.comp sc (own++N2) s H fp) elt te)
  (hs:∀x,foldedSetIterable iter X.env x=pure x:=by intro _;rfl):PE X (.ListComp elt [⟨tg,iter,[],0⟩] sc pos) (k9 own.length wi g te):=by
 intro pins s0 σ H0 Q I0 h0
 rw[eval_ListComp]
 refine ql (use:=none) hc hi B hk hg he hs I0 h0 λs H fp I hf σ' H' s' JB q=> ?_
 obtain⟨m,hn,_⟩:=JB.loc
 exact⟨m,hn,λh' sb=>⟨.ref s.heap.objs.size,H',I.Gs (I.Cm hf JB) JB.free sb,rfl,q⟩⟩
theorem Cn{i:Nat}{y:Str}{py spos:Pos}{elt iter tg:Expr}{pos:Pos}{wi:TI}{g:TG}{te:TE}(hN:X.N.Nodup)(hi':X.N[i]?=some y)(hy:X.env.scope.names.lookup y=some .local)(hc:X.calm=true)(hi:PI X tg iter wi)(B:nO sc.names X.env.scope.names own N2 X.N)(hk:sc.kind= .function)
  (hg:∀s H fp,PG (X.comp sc (own++N2) s H fp) tg g)(he:∀s H fp,PE (X.comp sc (own++N2) s H fp) elt te)
  (hsw:swapsWith (.ListComp elt [⟨tg,iter,[],0⟩] sc pos) (some (.Name y py)) spos.line X.env=pure true:=by rfl)(hs:∀x,foldedSetIterable iter X.env x=pure x:=by intro _;rfl):
  PS X (.Assign [.Name y py] (.ListComp elt [⟨tg,iter,[],0⟩] sc pos) spos) (Ac (k9 own.length wi g te) (cS i)):=by
 intro pins s0 σ H0 D I0 h0
 rw[exec_Assign_Name_used _ _ _ _ hsw]
 refine wpAny_bind (wpAny_standAt (wpAny_bind ?_))
 show wpAny _ X.A (do let _<-comprehension (.ListComp elt [⟨tg,iter,[],0⟩] sc pos) sc X.env _ (newList []) false (eval iter X.env) (some (assign (.Name y py) X.env))) _ _ s0
 refine wpAny_bind (wpAny_mono (ql (use:=some (assign (.Name y py) X.env)) (Qf:=λ_ s'=>SP X pins D .next s') hc hi B hk hg he hs I0 h0 λs H fp I hf σ' H' s' JB q=> ?_) (λ_ s' hq=>wpAny_pure (wpAny_pure hq)) λ_ _ e=>e)
 have IX:=I.Cm hf JB
 refine wpAny_assign_Name (su IX hN hi' (.inl hy) (v:= .ref s.heap.objs.size) rfl (λs2 I2 ⟨a,KC,ha⟩=> ?_) (.inr hy))
 obtain⟨m,hn,_⟩:=JB.loc
 have ea:a=X.env.locals∨a<s.heap.objs.size:=by
  rcases ha with z|z
  ·exact .inl z
  ·obtain⟨v,w⟩:=I.cell y a z
   exact .inr w.lt
 have IM:s.heap.objs.size+1≠a:=by
  rcases ea with z|z
  ·rw[z];exact Nat.ne_of_gt (Nat.lt_succ_of_lt I.lt)
  ·exact Nat.ne_of_gt (Nat.lt_succ_of_lt z)
 refine⟨m,hn.sameBut KC IM,λh' sb=>⟨_,H',I.Gs I2 JB.free sb,q⟩⟩
end
def dH(P:Addr):HO:= .ext λh=> ∃ps:Array Value,h.get? P=some {cls:= .none,data:= .fields ps}/\TriplesOk ps.toList
structure fj(K:PySem.W.Frag)(cd:Value)(P:Addr):Prop where
 ex:∃(c:Addr)(o:Obj)(vs:Array Value)(file:Str)(tf:Tok)(flags:Int)(tg:Tok)(Hx:Bool)(text:Int)(tt:Tok),cd= .ref c/\K.lookup c=some o/\o.cls= .type "code"/\o.data= .fields vs/\vs[11]?=some (.ref P)/\
  vs.getD 18 .none= .str file tf/\vs.getD 7 .none= .int flags tg/\vs.getD 9 .none= .bool Hx/\vs.getD 10 .none= .int text tt
theorem Co{P:Program}{w:World}{H:Hp}{h:Heap}{T:Addr}{ps:Array Value}(e:h.get? T=some {cls:= .none,data:= .fields ps})(t:TriplesOk ps.toList):dW P w H h T (dH T):=
 ⟨⟨ps,e,t⟩,⟨_,e⟩,λh1 h2 ⟨qs,e1,t1⟩ k=>⟨qs,k _ e1,t1⟩⟩
theorem Cp{H:Hp}{a:Addr}{o:HO}(h:H a=some o):upd H a o=H:=by
 funext b
 unfold upd
 split
 ·rename_i e;rw[e,h]
 ·rfl
section
variable{X:Cx}{pins:List (Addr×Obj)}{σ:St}{H:Hp}{s:Shared}{P:Addr}
theorem xE{pos:Pos}{qn:Str}{sc:Scope}{Q:Value->Shared->Prop}{E:Value->Shared->Prop}{M:Model}{A:Around}(I:Inv X pins σ H s)(hcd:fj X.K X.env.code P)(hP:H P=some (dH P))
  (h:∀code h' tk,Inv X pins σ H {s with heap:=h',toks:=tk} ->Heap.ExtBut P s.heap h'->Q code {s with heap:=h',toks:=tk}):wpAny M A (genexprCode X.env pos qn sc) Q E s:=by
 obtain⟨c,o,vs,file,tf,flags,tg,Hx,text,tt,ec,hc,hcl,hd,h11,JH,h7,h9,Hy⟩:=hcd.ex
 obtain⟨⟨ps,eP,tr⟩,_,_⟩:=I.hok P _ hP
 have hcs:s.heap.get? c=some o:=I.tU c o hc
 have hcn:H c=none:=(I.bs c o (I.ok.mod.IJ c o hc)).2
 have ne:c≠P:=λe=>by rw[e,hP]at hcn;cases hcn
 have Hz:vs.getD 11 .none= .ref P:=by
  have:vs.getD 11 .none=(vs[11]?).getD .none:=by simp
  rw[this,h11];rfl
 have code:s.heap.IsCode c P ps:=⟨o,vs,file,tf,flags,tg,Hx,text,tt,_,hcs,hd,Hz,JH,h7,h9,Hy,eP,rfl,tr,ne⟩
 have tab:s.heap.TableAt c P ps:=⟨⟨o,vs,hcs,hcl,hd,h11⟩,eP⟩
 cases q:codeAmong pos ps.toList with
 |some c'=>exact wpAny_genexprCode_hit ec code q (h c' s.heap s.toks I (λ_ _ _ e=>e))
 |none=>
  refine wpAny_genexprCodeX ec code tab q λc' h' tk hx _ _ HA _ Cq _=>h _ h' tk ?_ hx
  have I':=I.write (x:=P) (e:=P) (o:=dH P) (h':=h') (t':=tk) (by rw[hP];exact trivial) (.inl rfl) (λb u hb e=>hx b u hb e) ⟨_,Cq.2⟩
   (Co Cq.2 (by obtain⟨_,_,_,_,_,_,_,_,_,op,_,_,_,_,_,_,_,e1,e2,e3,_⟩:=HA;rw[Cq.2]at e1;cases e1;exact e3))
  rw[Cp hP]at I'
  exact I'
end
def BM(mg:Str->Option Value)(base:Heap):Prop:=∃bm ob,mg "__builtins__"=some (.ref bm)/\bm≠builtinsNs/\base.get? bm=some ob/\ob.cls= .type "module"/\ob.dict=some builtinsNs/\ob.data= .plain
def ER(B:Around)(cenv:Env):Around:={handled:=B.handled,depth:=B.depth+1,frames:=B.frames.map (cenv:: ·),guards:=B.guards,units:=B.units+3}
def Cx.gen(X:Cx)(B:Around)(sc:Scope)(N':List Str)(code:Value)(s:Shared)(H:Hp)(fp:List Addr):Cx:=
 {X with
  N:=N'
  s₀:={s with gens:=s.gens.push .running}
  H₀:=H
  A:=ER B (genEnv sc (bU X.env sc.names []) s.heap.objs.size code builtinsNs X.env)
  env:=genEnv sc (bU X.env sc.names []) s.heap.objs.size code builtinsNs X.env
  outer:=X.stack
  stack:=genEnv sc (bU X.env sc.names []) s.heap.objs.size code builtinsNs X.env::X.stack
  ex:=fp
  fn:=λ_=>false
  pn:=[]
  xe:=λ_ _=>False}
section
variable{X:Cx}{pins:List (Addr×Obj)}{σ:St}{H:Hp}{s:Shared}{sc:Scope}{own N2:List Str}{fp:List Addr}{B:Around}{code:Value}
theorem lX{sc:Scope}{y:Str}(hv:Gd sc y):∃k,sc.names.lookup y=some k/\(k= .local∨k= .cell∨k= .free):=by
 rcases hv with e|e|e
 ·exact⟨_,e,.inl rfl⟩
 ·exact⟨_,e,.inr (.inl rfl)⟩
 ·exact⟨_,e,.inr (.inr rfl)⟩
theorem dI{n:Nat}:∀{ns:List (Str×NameKind)}{acc:List (Str×Addr)},(∀y∈ns,y.2≠ .cell) ->cellsFrom n ns acc=acc
 | [],_,_=>rfl
 |(y,k)::r,acc,h=>by
  unfold cellsFrom
  have hk:(k==NameKind.cell)=false:=by simpa using h (y,k) List.mem_cons_self
  rw[hk]
  exact dI λz hz=>h z (List.mem_cons_of_mem _ hz)
theorem HB(I:Inv X pins σ H s)(Bk:nO sc.names X.env.scope.names own N2 X.N)(hk:sc.kind= .function)(hnc:∀y∈sc.names,y.2≠ .cell)(hf:∀b∈fp,e9 X pins H b)(ho:∀b∈fp,∃o,s.heap.get? b=some o)
  (hB:B.frames=some X.stack)(hh:B.handled=none):(X.gen B sc (own++N2) code s H fp).Ok:=by
 have lt:∀b∈fp,b<s.heap.objs.size:=λb hb=>let⟨o,e⟩:=ho b hb;Heap.lt_size e
 have ir:∀y c,(bU X.env sc.names []).lookup y=some c->(y,NameKind.free)∈sc.names/\X.env.cells.lookup y=some c:=λy c h=>by
  have h':(cellsFrom 0 sc.names (bU X.env sc.names [])).lookup y=some c:=by rw[dI hnc];exact h
  rcases gE I Bk (mem_of_lookup h')with⟨_,q⟩|q
  ·exact absurd rfl (hnc _ q)
  ·exact q
 refine⟨I.ok.mod,hk,I.ok.glob,rfl,Nat.le_refl _,λx y c h1 h2=> ?_,λy hy=> ?_,λy c hy hc=>absurd hy (by show ¬(false=true);decide),λ_=>hh,?_,.inr ⟨rfl,rfl⟩,λb hb=>⟨?_,λy c hc=> ?_⟩,I.bs,Nat.le_trans I.ok.Ex I.sz,λb o e hb=> ?_,λb hb hs=> ?_,I.stack,I.pX⟩
 ·exact I.ok.inj x y c (ir x c h1).2 (ir y c h2).2
 ·have hy':sc.names.lookup y=some .cell∨sc.names.lookup y=some .free:=hy
  rcases hy' with e|e
  ·exact absurd rfl (hnc _ (mem_of_lookup e))
  ·obtain⟨c,hc⟩:=iH I Bk y (mem_of_lookup e)
   have:=jX (n:=0) I Bk (mem_of_lookup e) hc
   rw[dI hnc]at this
   exact⟨c,this⟩
 ·show B.frames.map _=_
  rw[hB];rfl
 ·exact Nat.ne_of_lt (lt b hb)
 ·exact(hf b hb).2.2.2.2.1 y c (ir y c hc).2
 ·rcases(hf b hb).2.2.2.1 with z|z
  ·exact I.ok.Aa b o e z
  ·exact absurd (Nat.lt_of_lt_of_le (Heap.lt_size (I.ok.bs b o e).1) z) (Nat.lt_irrefl _)
 ·rcases List.mem_cons.mp (I.qa b hs)with e|e
  ·exact(hf b hb).2.1 e
  ·exact(hf b hb).2.2.1 e
theorem ES{h':Heap}{tk:Nat}{m:Str->Option Value}(I:Inv X pins σ H s)(Bk:nO sc.names X.env.scope.names own N2 X.N)(hk:sc.kind= .function)(hnc:∀y∈sc.names,y.2≠ .cell)(hf:∀b∈fp,e9 X pins H b)(ho:∀b∈fp,∃o,s.heap.get? b=some o)
  (hB:B.frames=some X.stack)(hh:B.handled=none)(hn:h'.Ns s.heap.objs.size m)(keep:∀b o,s.heap.get? b=some o->h'.get? b=some o):
  Inv (X.gen B sc (own++N2) code s H fp) [] (List.replicate own.length none++σ) H {s with heap:=h',toks:=tk,gens:=s.gens.push .running}:=by
 have ir:∀y c,(bU X.env sc.names []).lookup y=some c->(y,NameKind.free)∈sc.names/\X.env.cells.lookup y=some c:=λy c h=>by
  have h':(cellsFrom 0 sc.names (bU X.env sc.names [])).lookup y=some c:=by rw[dI hnc];exact h
  rcases gE I Bk (mem_of_lookup h')with⟨_,q⟩|q
  ·exact absurd rfl (hnc _ q)
  ·exact q
 refine⟨HB I Bk hk hnc hf ho hB hh,rfl,.refl (I.bare.bare.push rfl),Un.kept keep,⟨m,hn,λi y v e1 e2 e3=> ?_⟩,λy c hc=> ?_,I.fresh,λy c hc=>I.kL y c (ir y c hc).2,λp hp=> ?_,I.hok.kept keep,?_⟩
 ·by_cases hi:i<own.length
  ·rw[List.getElem?_append_left (by simpa using hi),List.getElem?_replicate]at e2
   split at e2<;>cases e2
  ·have xD:(own++N2)[i]?=some y:=e1
   have hi':own.length<=i:=by omega
   rw[List.getElem?_append_right (by simpa using hi'),List.length_replicate]at e2
   rw[List.getElem?_append_right hi']at xD
   have hown:y∉own:=λhm=>by
    have nd:=Bk.EN
    rw[List.nodup_append]at nd
    exact nd.2.2 y hm y (List.mem_of_getElem? xD) rfl
   refine ud I Bk (n:=0) xD e2 (dI hnc).symm (λz hz=> .inr (cu Bk.nd hz)) (λhv=>let⟨k,e,_⟩:=lX hv;⟨k,e⟩) hown keep e3 (λk e=> ?_)
   obtain⟨k',e',hk'⟩:=lX e3
   have ET:sc.names.lookup y=some k':=e'
   rw[e]at ET;cases ET
   exact hk'
 ·obtain⟨v,w⟩:=I.cell y c (ir y c hc).2
  exact⟨v,w.keeps keep⟩
 ·have jR:p∈([]:List (Addr×Obj)):=hp
  cases jR
 ·show(List.replicate own.length none++σ).length=(own++N2).length
  rw[List.length_append,List.length_append,List.length_replicate,I.len,Bk.len]
theorem Inv.Gu{σ':St}{H':Hp}{s':Shared}{N':List Str}{pl:List (Addr×Obj)}{gs:GenState}(I:Inv X pins σ H s)(hf:∀b∈fp,e9 X pins H b)(hb:gs.bare=true)(J:Inv (X.gen B sc N' code s H fp) pl σ' H' s'):
  Inv X pins σ H' (s'.setGen s.gens.size gs):=by
 have sz:s.gens.size+1<=s'.gens.size:=by
  have:=J.bare.size
  simpa [Cx.gen]using this
 refine I.BQ (ch:=fp) J.os J.base J.hok ⟨?_,?_,λk hk=> ?_⟩ λb hb=>⟨(hf b hb).2.2.2.1,(hf b hb).2.1,(hf b hb).2.2.2.2.1,(hf b hb).2.2.2.2.2⟩
 ·intro y hy
  simp only[Shared.setGen]at hy
  rcases Array.mem_or_eq_of_mem_setIfInBounds hy with q|q
  ·exact J.bare.bare y q
  ·rw[q];exact hb
 ·simp only[Shared.setGen,Array.size_setIfInBounds]
  omega
 ·have e:=J.bare.old k (by simp[Cx.gen];omega)
  simp only[Shared.setGen]
  rw[Array.getElem?_setIfInBounds_ne (by omega),e]
  show(s.gens.push .running)[k]?=s.gens[k]?
  rw[Array.getElem?_push_lt (by omega)]
  simp[hk]
end
theorem jD{B:Around}{elt:Expr}{gens:List Comprehension}{sc:Scope}{pos:Pos}{it acc:Value}{cenv:Env}:
  B.over (.compLoop (.GeneratorExp elt gens sc pos) 0 it acc cenv) []=ER B cenv:=by
 unfold Around.over ER
 congr 1
section
variable(X:Cx)(B:Around)(sc:Scope)(N':List Str)(code:Value)(sC:Shared)(HC:Hp)(fp Ss:List Addr)(tn:Nat->Heap->Prop)(cnt:Nat)(R:Nat->V->Prop)(W:Nat->St->Hp->Prop)
def ue:Protocol:=λn s₀ v s Om=> ∃pl σ' H' x,(∀p∈pl,p.1∉Ss)/\Inv (X.gen B sc N' code sC HC fp) (cI Ss s₀.heap++pl) σ' H' s/\tn (cnt-n) s.heap/\(∀b∈fp,H' b=none)/\RelV x v/\R (cnt-n-1) x/\W (cnt-n) σ' H'/\
 ∀s'':Shared,(∀b∈Ss,∃o,s''.heap.get? b=some o) ->Inv (X.gen B sc N' code sC HC fp) (cI Ss s''.heap++pl) σ' H' s''->tn (cnt-n) s''.heap->Om (.send .none) s''
def EU:GenEnd:=λn s₀ r s₁=>r= .ok .next/\n=0/\ ∃σ' H',Inv (X.gen B sc N' code sC HC fp) (cI Ss s₀.heap) σ' H' s₁/\W cnt σ' H'
end
section
variable{X:Cx}{B:Around}{sc:Scope}{N':List Str}{code:Value}{sC:Shared}{HC:Hp}{fp Ss:List Addr}{tn:Nat->Heap->Prop}{cnt:Nat}{R:Nat->V->Prop}{W:Nat->St->Hp->Prop}
variable{elt iter tg:Expr}{pos:Pos}{it:Addr}{J:It}{g:TG}{te:TE}
theorem vP{Ss:List Addr}{h:Heap}{p:Addr×Obj}(hp:p∈cI Ss h):p.1∈Ss:=(iE hp).1
theorem xF{pl:List (Addr×Obj)}{σ':St}{H' H2:Hp}{s:Shared}(I:Inv (X.gen B sc N' code sC HC fp) pl σ' H2 s)(hn:∀b∈fp,H' b=none)(hd:∀p∈pl,p.1∉fp):∀b∈fp,e9 (X.gen B sc N' code sC HC fp) pl H' b:=λb hb=>by
 have ok:=I.ok
 refine⟨hn b hb,(ok.IK b hb).1,ok.Ab b hb,.inl hb,λy c hc=>(ok.IK b hb).2 y c hc,λp hp e=> ?_⟩
 have jR:p∈pl:=by simpa [Cx.gen]using hp
 exact hd p jR (by rw[e];exact hb)
theorem EV(hco:sc.isCoroutine=false)(hc:X.calm=true)(T:Turn X.prog X.w X.K tg J fp it tn)(hg:PG (X.gen B sc N' code sC HC fp) tg g)(he:PE (X.gen B sc N' code sC HC fp) elt te)(Cr:∀b∈fp,b∉Ss)
  (turn:∀i σ' H',i<cnt->W i σ' H'->J.go i H'/\ ∀x H2,J.xw i H' x H2->g x σ' H2 λσ3 H3=>te σ3 H3 λv H4=>R i v/\W (i+1) σ3 H4)
  (stop:∀σ' H',W cnt σ' H'->J.stop cnt H'):
  ∀(n i:Nat)(σ':St)(H':Hp)(s₀ s:Shared),n+i=cnt->W i σ' H'->Inv (X.gen B sc N' code sC HC fp) (cI Ss s₀.heap) σ' H' s->tn i s.heap->(∀b∈fp,H' b=none) ->
   Seg (model X.prog X.w) B (EU X B sc N' code sC HC fp Ss cnt W) (ue X B sc N' code sC HC fp Ss tn cnt R W) n s₀ (.compLoop (.GeneratorExp elt [⟨tg,iter,[],0⟩] sc pos) 0 (.ref it) .none (X.gen B sc N' code sC HC fp).env)
    ((model X.prog X.w).den (.compLoop (.GeneratorExp elt [⟨tg,iter,[],0⟩] sc pos) 0 (.ref it) .none (X.gen B sc N' code sC HC fp).env)) [] s:=by
 have LO:∀{h:Heap},∀p∈cI Ss h,p.1∉fp:=λp hp hb=>Cr p.1 hb (vP hp)
 intro n
 induction n with
 |zero=>
  intro i σ' H' s₀ s hn w I st fr
  obtain rfl:i=cnt:=by omega
  show Seg _ B _ _ _ s₀ _ ((compTurn (.GeneratorExp elt [⟨tg,iter,[],0⟩] sc pos) 0 (.ref it) .none (X.gen B sc N' code sC HC fp).env).onRaise (leaving (X.gen B sc N' code sC HC fp).env)) [] s
  rw[compTurn_gen,Sem.onRaise_eq_wrap]
  refine seg_bind_wrap (wpAny_standAt ?_)
  refine seg_bind_wrap ?_
  rw[jD]
  refine eV (T.done (X.gen B sc N' code sC HC fp) rfl rfl rfl hc i _ s σ' H' _ I (xF I fr LO) st (stop σ' H' w)) λr s1 ⟨hr,I1⟩=> ?_
  subst hr
  exact seg_end (.ok .next) ⟨rfl,rfl,σ',H',I1,w⟩
 |succ n ih=>
  intro i σ' H' s₀ s hn w I st fr
  have hi:i<cnt:=by omega
  obtain⟨go,step⟩:=turn i σ' H' hi w
  show Seg _ B _ _ _ s₀ _ ((compTurn (.GeneratorExp elt [⟨tg,iter,[],0⟩] sc pos) 0 (.ref it) .none (X.gen B sc N' code sC HC fp).env).onRaise (leaving (X.gen B sc N' code sC HC fp).env)) [] s
  rw[compTurn_gen,Sem.onRaise_eq_wrap]
  refine seg_bind_wrap (wpAny_standAt ?_)
  refine seg_bind_wrap ?_
  rw[jD]
  refine eV (T.item (X.gen B sc N' code sC HC fp) rfl rfl rfl hc i _ s σ' H' _ I (xF I fr LO) st go) λr s1 ⟨u,hr,h1⟩=> ?_
  subst hr
  refine seg_bind_wrap ?_
  rw[jD]
  refine wpAny_mono h1 (λ_ s2 ⟨x,H2,I2,r2,y2,st2,JI⟩=> ?_) λ_ _ z=>z
  have Oo:=I2.pinned (xF I2 JI LO) (T.obj _ _ st2)
  refine seg_bind_wrap ?_
  rw[jD]
  refine wpAny_mono (hg _ s2 σ' H2 x u _ Oo r2 (step x H2 y2)) (λ_ s3 ⟨σ3,H3,I3,q3⟩=> ?_) λ_ _ z=>z.elim
  simp only[List.forIn_nil,if_true]
  refine seg_bind_wrap (wpAny_pure ?_)
  have hy:∀v,yieldOut (X.gen B sc N' code sC HC fp).env v=yieldValue v:=λv=>by
   have q:(X.gen B sc N' code sC HC fp).env.scope.isCoroutine=false:=hco
   simp only[yieldOut,q,Bool.false_eq_true,if_false]
  simp only[if_true,hy]
  rw[Sem.bind_eq_wrap',Sem.bind_eq_wrap',Sem.wrap_wrap,Sem.wrap_wrap]
  refine seg_wrap ?_
  rw[jD]
  refine wpAny_mono (he _ s3 σ3 H3 _ I3 q3) (λv s4 ⟨y,H4,I4,r4,hR,w4⟩=> ?_) λ_ _ z=>z.elim
  have Oq:tn (i+1) s4.heap:=T.keep _ _ _ st2 λb hb o e=>(I4.pin (b,o) (List.mem_append_right _ (List.mem_append_right _ (dj hb e)))).1
  have MR:∀b∈fp,H4 b=none:=λb hb=>by
   obtain⟨o,e,d⟩:=T.obj _ _ st2 b hb
   exact(I4.pin (b,o) (List.mem_append_right _ (List.mem_append_right _ (dj hb e)))).2.1
  have ei:cnt-n=i+1:=by omega
  refine seg_at (seg_yield rfl rfl rfl ⟨[],σ3,H4,y,(λ_ h=>nomatch h),(by rw[List.append_nil];exact I4.kU),by rw[ei];exact Oq,MR,r4,by rw[ei];exact hR,by rw[ei];exact w4,λs'' _ HD st''=> ?_⟩)
  rw[ei]at st''
  rw[List.append_nil]at HD
  exact seg_again rfl (ih (i+1) σ3 H4 s'' s'' (by omega) w4 HD st'' MR)
end
theorem Cs{s:Shared}{g:Nat}{gs:GenState}(h:s.gens[g]?=some .running):(s.setGen g gs).setGen g .running=s:=by
 obtain⟨hh,gens,d,t,os⟩:=s
 have hlt:g<gens.size:=by
  rcases Nat.lt_or_ge g gens.size with q|q
  ·exact q
  ·have z:gens[g]?=none:=Array.getElem?_eq_none q
   have h':gens[g]?=some .running:=h
   rw[z]at h';cases h'
 have q:(gens.setIfInBounds g gs).setIfInBounds g .running=gens:=by
  apply Array.ext_getElem?
  intro i
  by_cases e:g=i
  ·subst e
   rw[Array.getElem?_setIfInBounds_self_of_lt (by simpa using hlt)]
   exact h.symm
  ·rw[Array.getElem?_setIfInBounds_ne e,Array.getElem?_setIfInBounds_ne e]
 show({heap:=hh,gens:=(gens.setIfInBounds g gs).setIfInBounds g .running,drawn:=d,toks:=t,os:=os}:Shared)=_
 rw[q]
theorem jY:∀{Ss:List Addr}{h h':Heap},(∀b∈Ss,∃o,h.get? b=some o/\h'.get? b=some o) ->cI Ss h'=cI Ss h
 | [],_,_,_=>rfl
 |b::r,h,h',k=>by
  obtain⟨o,e1,e2⟩:=k b List.mem_cons_self
  unfold cI
  rw[List.filterMap_cons,List.filterMap_cons,e1,e2]
  show(b,o)::cI r h'=(b,o)::cI r h
  rw[jY λc hc=>k c (List.mem_cons_of_mem _ hc)]
section
variable(X:Cx)(B:Around)(sc:Scope)(N':List Str)(code:Value)(sC:Shared)(HC:Hp)(fp Ss:List Addr)(tn:Nat->Heap->Prop)(cnt:Nat)(R:Nat->V->Prop)(W:Nat->St->Hp->Prop)
structure xq(a:Addr)(i:Nat)(s:Shared):Prop where
 gen:s.heap.IsGen a sC.gens.size
 ex:∃gs pl σ' H',(∀p∈pl,p.1∉Ss)/\s.gens[sC.gens.size]?=some gs/\gs.bare=true/\Inv (X.gen B sc N' code sC HC fp) (cI Ss s.heap++pl) σ' H' (s.setGen sC.gens.size .running)/\tn i s.heap/\(∀b∈fp,H' b=none)/\W i σ' H'/\
  ∀s'':Shared,(∀b∈Ss,∃o,s''.heap.get? b=some o) ->Inv (X.gen B sc N' code sC HC fp) (cI Ss s''.heap++pl) σ' H' s''->tn i s''.heap->gs.Goes (model X.prog X.w) B (EU X B sc N' code sC HC fp Ss cnt W) (ue X B sc N' code sC HC fp Ss tn cnt R W) (cnt-i) (.send .none) s''
end
section
variable{X:Cx}{D:Around}{sc:Scope}{N':List Str}{code:Value}{sC:Shared}{HC:Hp}{fp Ss:List Addr}{tn:Nat->Heap->Prop}{cnt:Nat}{R:Nat->V->Prop}{W:Nat->St->Hp->Prop}{a:Addr}{i:Nat}{s:Shared}
theorem Inv.zu{pl:List (Addr×Obj)}{σ':St}{H':Hp}{s':Shared}(I:Inv X pl σ' H' s'):s'.heap.NoLimit:=I.nolimit
theorem xG{B:Around}{pl:List (Addr×Obj)}{σ':St}{H':Hp}{s':Shared}(I:Inv (X.gen B sc N' code sC HC fp) pl σ' H' s'):s'.gens[sC.gens.size]?=some .running:=by
 have e:=I.bare.old sC.gens.size (by simp[Cx.gen])
 rw[e]
 show(sC.gens.push .running)[sC.gens.size]?=_
 simp
theorem xq.item{Q:Option Value->Shared->Prop}{E:Value->Shared->Prop}(G:xq X D.in1 sc N' code sC HC fp Ss tn cnt R W a i s)(hh:D.handled=none)(hroom:D.depth<recursionLimit)(ha:a∈Ss)(hs:∀b∈Ss,∃o,s.heap.get? b=some o)(hi:i<cnt)
  (hQ:∀v x s',RelV x v->R i x->xq X D.in1 sc N' code sC HC fp Ss tn cnt R W a (i+1) s'->(∀b∈Ss,∀o,s.heap.get? b=some o->s'.heap.get? b=some o) ->Q (some v) s'):
  wpAny (model X.prog X.w) D (pyNext (.ref a)) Q E s:=by
 obtain⟨gs,pl,σ',H',hpl,e1,e2,I,st,fr,w,go⟩:=G.ex
 have gg:=go (s.setGen sC.gens.size .running) hs I st
 obtain⟨m,hm⟩:∃m,cnt-i=m+1:=⟨cnt-i-1,by omega⟩
 rw[hm]at gg
 refine wpAny_pyNext_genexpQ (P:=λn s₀ s₁=>n=0/\ ∃σ' H',Inv (X.gen D.in1 sc N' code sC HC fp) (cI Ss s₀.heap) σ' H' s₁/\W cnt σ' H') hh I.zu hroom G.gen e1 gg (λv s1 gs' hb hy=> ?_) (λs1 hp=> ?_)
 ·obtain⟨LP,σ1,H1,x,JJ,I1,st1,IQ,r1,hR,w1,KD⟩:=hy
  have ei:cnt- (m+1-1)=i+1:=by omega
  rw[ei]at st1 w1 KD hR
  have kp:∀b∈Ss,∀o,s.heap.get? b=some o->s1.heap.get? b=some o:=λb hb o e=>(I1.pin (b,o) (List.mem_append_right _ (List.mem_append_left _ (dj hb e)))).1
  have eq:cI Ss s1.heap=cI Ss s.heap:=jY λb hb=>let⟨o,e⟩:=hs b hb;⟨o,e,kp b hb o e⟩
  have run:=xG I1
  refine hQ v x _ r1 hR ⟨?_,gs',LP,σ1,H1,JJ,setGen_self run,hb,?_,st1,IQ,w1,?_⟩ kp
  ·obtain⟨o,nm,qn,eo,r⟩:=G.gen
   exact⟨o,nm,qn,kp a ha o eo,r⟩
  ·rw[Cs run]
   show Inv _ (cI Ss s1.heap++LP) σ1 H1 s1
   rw[eq]
   exact I1
  ·have e3:cnt- (i+1)=m:=by omega
   rw[e3]
   exact KD
 ·exact absurd hp.1 (by omega)
theorem xq.done{pins:List (Addr×Obj)}{σ:St}{Q:Option Value->Shared->Prop}{E:Value->Shared->Prop}(G:xq X D.in1 sc N' code sC HC fp Ss tn cnt R W a cnt s)(IC:Inv X pins σ HC sC)(hf:∀b∈fp,e9 X pins HC b)(hh:D.handled=none)(hroom:D.depth<recursionLimit)(hs:∀b∈Ss,∃o,s.heap.get? b=some o)
  (hQ:∀s' σ' H',Inv X pins σ H' s'->W cnt σ' H'->Q none s'):
  wpAny (model X.prog X.w) D (pyNext (.ref a)) Q E s:=by
 obtain⟨gs,pl,σ',H',hpl,e1,e2,I,st,fr,w,go⟩:=G.ex
 have gg:=go (s.setGen sC.gens.size .running) hs I st
 rw[Nat.sub_self]at gg
 refine wpAny_pyNext_genexpQ (P:=λn s₀ s₁=>n=0/\ ∃σ' H',Inv (X.gen D.in1 sc N' code sC HC fp) (cI Ss s₀.heap) σ' H' s₁/\W cnt σ' H') hh I.zu hroom G.gen e1 gg (λv s1 gs' hb hy=> ?_) (λs1 hp h' k=> ?_)
 ·obtain⟨LP,σ1,H1,x,JJ,I1,st1,IQ,r1,hR,w1,KD⟩:=hy
  have kp:∀b∈Ss,∀o,s.heap.get? b=some o->s1.heap.get? b=some o:=λb hb o e=>(I1.pin (b,o) (List.mem_append_right _ (List.mem_append_left _ (dj hb e)))).1
  have eq:cI Ss s1.heap=cI Ss s.heap:=jY λb hb=>let⟨o,e⟩:=hs b hb;⟨o,e,kp b hb o e⟩
  exact False.elim (KD s1 (λb hb=>let⟨o,e⟩:=hs b hb;⟨o,kp b hb o e⟩) (by rw[eq];exact I1) st1)
 ·obtain⟨_,σ1,H1,I1,w1⟩:=hp
  have I2:=Inv.Gu (gs:= .finished) IC hf rfl I1
  exact hQ _ σ1 H1 (I2.kept (t':=s1.toks) k) w1
end
section
variable{X:Cx}{B:Around}{sc:Scope}{N':List Str}{code:Value}{sC:Shared}{HC:Hp}{fp Ss:List Addr}{tn:Nat->Heap->Prop}{cnt:Nat}{R:Nat->V->Prop}{W:Nat->St->Hp->Prop}
variable{elt iter tg:Expr}{pos:Pos}{it:Addr}{J:It}{g:TG}{te:TE}
theorem Ct(hco:sc.isCoroutine=false)(hc:X.calm=true)(T:Turn X.prog X.w X.K tg J fp it tn)(hg:PG (X.gen B sc N' code sC HC fp) tg g)(he:PE (X.gen B sc N' code sC HC fp) elt te)(Cr:∀b∈fp,b∉Ss)
  (turn:∀i σ' H',i<cnt->W i σ' H'->J.go i H'/\ ∀x H2,J.xw i H' x H2->g x σ' H2 λσ3 H3=>te σ3 H3 λv H4=>R i v/\W (i+1) σ3 H4)
  (stop:∀σ' H',W cnt σ' H'->J.stop cnt H'){σ':St}{H':Hp}{s:Shared}(w:W 0 σ' H')(I:Inv (X.gen B sc N' code sC HC fp) (cI Ss s.heap) σ' H' s)(st:tn 0 s.heap)(fr:∀b∈fp,H' b=none):
  Seg (model X.prog X.w) B (EU X B sc N' code sC HC fp Ss cnt W) (ue X B sc N' code sC HC fp Ss tn cnt R W) cnt s (.compStart (.GeneratorExp elt [⟨tg,iter,[],0⟩] sc pos) 0 (.ref it) .none (X.gen B sc N' code sC HC fp).env)
   ((model X.prog X.w).den (.compStart (.GeneratorExp elt [⟨tg,iter,[],0⟩] sc pos) 0 (.ref it) .none (X.gen B sc N' code sC HC fp).env)) [] s:=by
 have lp:=EV (iter:=iter) (pos:=pos) hco hc T hg he Cr turn stop cnt 0 σ' H' s s (Nat.add_zero _) w I st fr
 show Seg _ B _ _ _ s _ ((compStart (.GeneratorExp elt [⟨tg,iter,[],0⟩] sc pos) 0 (.ref it) .none (X.gen B sc N' code sC HC fp).env).onRaise (leaving (X.gen B sc N' code sC HC fp).env)) [] s
 unfold compStart
 rw[Sem.onRaise_eq_wrap]
 show Seg _ B _ _ _ s _ ((ask>>=_).wrap _ _ _ _) [] s
 refine seg_bind_wrap (wpAny_askSetting ?_)
 split
 ·exact seg_again rfl lp
 ·first
   |exact seg_bind_wrap (wpAny_rule (seg_bind_wrap (wpAny_standAt (seg_bind_wrap (T.self _ 0 s _ _ st (seg_again rfl lp))))))
   |(refine seg_bind_wrap (wpAny_rule ?_);(show Seg _ B _ _ _ s _ ((standAt iter.pos>>=_).wrap _ _ _ _) [] s);exact seg_bind_wrap (wpAny_standAt (seg_bind_wrap (T.self _ 0 s _ _ st (seg_again rfl lp)))))
end
def sN(k:Nat)(g:TG)(te:TE)(σ:St)(F:Nat->(Nat->V->Prop) ->(Nat->St->Hp->Prop) ->Prop)(J:It)(H:Hp):Prop:=∃(cnt:Nat)(R:Nat->V->Prop)(W:Nat->St->Hp->Prop),W 0 (List.replicate k none++σ) H/\
 (∀i σ' H',i<cnt->W i σ' H'->J.go i H'/\ ∀x H2,J.xw i H' x H2->g x σ' H2 λσ3 H3=>te σ3 H3 λv H4=>R i v/\W (i+1) σ3 H4)/\(∀σ' H',W cnt σ' H'->J.stop cnt H')/\F cnt R W
theorem mC(elt target iter:Expr)(ifs:List Expr)(cls:List Comprehension)(scope:Scope)(pos:Pos)(env:Env)(hco:scope.isCoroutine=false):
  eval (.GeneratorExp elt (⟨target,iter,ifs,0⟩::cls) scope pos) env=(do
   let x<-eval iter env
   standAt iter.pos
   let x<-genFold iter env x
   let it<-holding [x] (pyIter x)
   enterFrame
   let cl<-closureFor scope env
   let code<-genexprCode env pos (env.qual++ "<genexpr>") scope
   let bi<-builtinsFor env.globals env.builtins
   let cenv<-newFunctionEnv scope env.globals cl [(".0",it)] (env.qual++ "<genexpr>.") none code none bi
   newGenerator (.compStart (.GeneratorExp elt (⟨target,iter,ifs,0⟩::cls) scope pos) 0 it .none cenv) "<genexpr>" (env.qual++ "<genexpr>")):=by
 rw[arm_eval_GeneratorExp]
 simp only[hco,Bool.false_eq_true,if_false]
 cases iter<;>rfl
section
variable{M:Model}{A:Around}{E:Value->Shared->Prop}{s:Shared}
theorem jh{env:Env}{elt target iter:Expr}{ifs:List Expr}{cls:List Comprehension}{scope:Scope}{cl:List (Str×Addr)}{pos:Pos}{Q:Value->Shared->Prop}
  (hco:scope.isCoroutine=false)(hclos:closureFor scope env=pure cl)(hcell:∀y∈scope.names,y.2≠ .cell)(h0:scope.names.lookup (".0":Str)=some NameKind.local)(hkind:scope.kind= .function)
  (hroom:A.depth<recursionLimit)
  (h:wpAny M A (eval iter env) (λxv s₁=>wpAny M A (pyIter xv) (λit s₂=>s₂.heap.NoLimit/\
   wpAny M A (genexprCode env pos (env.qual++ "<genexpr>") scope) (λcode s₃=>wpAny M A (builtinsFor env.globals env.builtins) (λbi s₄=>
    ∀h',h'.Ns s₄.heap.objs.size (λy=>if y= ".0" then some it else none) ->Heap.SameBut s₄.heap.objs.size (s₄.heap.push {cls:= .type "frame",data:= .dict #[]}) h'->
     Q (.ref h'.objs.size) {s₄ with
      gens:=s₄.gens.push (.fresh (.compStart (.GeneratorExp elt (⟨target,iter,ifs,0⟩::cls) scope pos) 0 it .none (genEnv scope cl s₄.heap.objs.size code bi env))),
      toks:=s₄.toks+1+1+1,
      heap:=h'.push {cls:= .type "generator",data:= .fields #[.int s₄.gens.size 0,.str "<genexpr>" (s₄.toks+1),.str (env.qual++ "<genexpr>") (s₄.toks+1+1)]}}) E s₃) E s₂) E s₁) E s)
  (hs:∀x,genFold iter env x=pure x):
  wpAny M A (eval (.GeneratorExp elt (⟨target,iter,ifs,0⟩::cls) scope pos) env) Q E s:=by
 rw[mC _ _ _ _ _ _ _ _ hco,hclos]
 refine wpAny_bind (wpAny_mono h (λxv s₁ h₁=> ?_) λ_ _ e=>e)
 refine wpAny_bind (wpAny_standAt ?_)
 refine wpAny_bind (wpAny_of_eq (hs xv) ?_)
 refine wpAny_bind (wpAny_holding (wpAny_mono h₁ (λit s₂ h₂=> ?_) λ_ _ e=>e))
 refine wpAny_bind (wpAny_enterFrame h₂.1 hroom ?_)
 refine wpAny_bind (wpAny_pure ?_)
 refine wpAny_bind (wpAny_mono h₂.2 (λcode s₃ h₃=> ?_) λ_ _ e=>e)
 refine wpAny_bind (wpAny_mono h₃ (λbi s₄ h₄=> ?_) λ_ _ e=>e)
 have HE:∀y∈([((".0":Str),it)]:List (Str×Value)),scope.names.lookup y.1=some NameKind.local:=by
  intro y hy
  rcases List.mem_cons.mp hy with rfl|hy
  ·exact h0
  ·cases hy
 refine wpAny_bind (wpAny_newFunctionEnv hcell HE (λh' hn' hs'=> ?_) hkind)
 have e:(λy:Str=>([((".0":Str),it)]:List (Str×Value)).reverse.lookup y)=λy:Str=>if y=(".0":Str)then some it else none:=by
  funext y
  by_cases hy:y= ".0"
  ·subst hy;simp
  ·have:(y==(".0":Str))=false:=by simpa using hy
   simp[List.lookup,this,hy]
 rw[e]at hn'
 simp only[newGenerator,newFields]
 refine wpAny_bind (wpAny_newGen (wpAny_bind (wpAny_mkText (wpAny_bind (wpAny_mkText (wpAny_newObj_type ?_ (by size_fits)))))))
 exact h₄ h' hn' hs'
end
section
variable{X:Cx}{sc:Scope}{own N2:List Str}{elt iter tg:Expr}{pos:Pos}{wi:TI}{g:TG}{te:TE}{P:Addr}
theorem Cu{ifs:List Expr}{cls:List Comprehension}{Rd:It->Hp->Prop}{pins:List (Addr×Obj)}{σ:St}{H0:Hp}{s0:Shared}{F:Nat->(Nat->V->Prop) ->(Nat->St->Hp->Prop) ->Prop}(more:Nat->List Addr)(hmore:∀a,∀b∈more a,a<b)
  (hc:X.calm=true)(hroom:X.A.depth<recursionLimit)(hi:PI X tg iter wi)(Bk:nO sc.names X.env.scope.names own N2 X.N)(hk:sc.kind= .function)(hco:sc.isCoroutine=false)(hnc:∀y∈sc.names,y.2≠ .cell)(LQ:sc.names.lookup (".0":Str)=some NameKind.local)
  (hcd:fj X.K X.env.code P)(bm:BM X.mg X.base)
  (hs:∀x,genFold iter X.env x=pure x)
  (LR:∀code s H fp it Gv J,Turn X.prog X.w X.K tg J fp it Gv->(∀b∈fp,H b=none) ->Rd J H-> ∃cnt R W tn,F cnt R W/\W 0 (List.replicate own.length none++σ) H/\(∀h,Gv 0 h↔tn 0 h)/\(∀i h h',tn i h->(∀b∈fp,∀o,h.get? b=some o->h'.get? b=some o) ->tn i h')/\
   ∀Ss:List Addr,(∀b∈fp,b∉Ss) -> ∀s'':Shared,(∀b∈Ss,∃o,s''.heap.get? b=some o) ->Inv (X.gen X.A.in1.in1 sc (own++N2) code s H fp) (cI Ss s''.heap) (List.replicate own.length none++σ) H s''->Gv 0 s''.heap->
    Seg (model X.prog X.w) X.A.in1.in1 (EU X X.A.in1.in1 sc (own++N2) code s H fp Ss cnt W) (ue X X.A.in1.in1 sc (own++N2) code s H fp Ss tn cnt R W) cnt s'' (.compStart (.GeneratorExp elt (⟨tg,iter,ifs,0⟩::cls) sc pos) 0 (.ref it) .none (X.gen X.A.in1.in1 sc (own++N2) code s H fp).env)
     ((model X.prog X.w).den (.compStart (.GeneratorExp elt (⟨tg,iter,ifs,0⟩::cls) sc pos) 0 (.ref it) .none (X.gen X.A.in1.in1 sc (own++N2) code s H fp).env)) [] s'')
  (I0:Inv X pins σ H0 s0)(h:wi σ H0 λJ H=>H P=some (dH P)/\Rd J H):
  wpAny (model X.prog X.w) X.A (eval (.GeneratorExp elt (⟨tg,iter,ifs,0⟩::cls) sc pos) X.env) (λu s5=> ∃a cnt R W sC HC fp code tn,u= .ref a/\s5.heap.objs.size=a+1/\
   xq X X.A.in1.in1 sc (own++N2) code sC HC fp (a::more a) tn cnt R W a 0 s5/\Inv X pins σ HC sC/\(∀b∈fp,e9 X pins HC b)/\sC.heap.objs.size<a/\(∀b∈fp,b<sC.heap.objs.size)/\(∀i h h',tn i h->(∀b∈fp,∀o,h.get? b=some o->h'.get? b=some o) ->tn i h')/\F cnt R W) X.xe s0:=by
 refine jh hco (pZ I0 Bk) hnc LQ hk hroom ?_ hs
 refine wpAny_mono (hi pins s0 σ H0 _ I0 h) (λxv s1 h1=>wpAny_mono h1 (λitv s2 h2=> ?_) λ_ _ e=>e) λ_ _ e=>e
 obtain⟨it,fp,Gv,J,H,e,I,T,st,hf,hP,Ot⟩:=h2
 subst e
 refine⟨I.zu,xE I hcd hP λcode h3 MS I3 ext=> ?_⟩
 obtain⟨KG,ob,b1,b2,b3,b4,b5,b6⟩:=bm
 refine wpAny_builtinsFor (m:=X.mg) (by rw[I3.ok.glob];exact I3.mod.glob.keeps I3.bk) b1 b2 (I3.bk _ _ b3) b4 b5 b6 ?_
 intro h' hn' hs'
 have st3:Gv 0 h3:=T.keep _ _ _ st λb hb o e=>ext b o (λz=>by have:=(hf b hb).1;rw[z,hP]at this;cases this) e
 have LS:∀b∈fp,∃o,h3.get? b=some o:=λb hb=>let⟨o,e,_⟩:=T.obj 0 _ st3 b hb;⟨o,e⟩
 have Gw:∀b o,h3.get? b=some o->h'.get? b=some o:=λb o e=>hs'.extBut b o (Nat.ne_of_lt (Heap.lt_size e)) (Heap.get?_push_of_some _ e)
 have sz':h'.objs.size=h3.objs.size+1:=by rw[hs'.1,Heap.size_push]
 have IG:=λ(hx:Heap)(tk:Nat)(m:Str->Option Value)(hn:hx.Ns h3.objs.size m)(kp:∀b o,h3.get? b=some o->hx.get? b=some o)=>
  ES (B:=X.A.in1.in1) (code:=code) (fp:=fp) (h':=hx) (tk:=tk) I3 Bk hk hnc hf LS I3.ok.frames (I3.ok.hd hc) hn kp
 obtain⟨cnt,R,W,tn,hF,w0,MT,Cv,sg⟩:=LR code {s2 with heap:=h3,toks:=MS} H fp it Gv J T (λb hb=>(hf b hb).1) Ot
 refine⟨h'.objs.size,cnt,R,W,{s2 with heap:=h3,toks:=MS},H,fp,code,tn,rfl,by rw[Heap.size_push],⟨⟨_,_,_,Heap.get?_push_size _ rfl,rfl,rfl,rfl⟩,.fresh _,[],List.replicate own.length none++σ,H,(λ_ h=>nomatch h),Array.getElem?_push_size ..,rfl,?_,?_,λb hb=>(hf b hb).1,w0,?_⟩,I3,hf,by show h3.objs.size<h'.objs.size;omega,λb hb=>let⟨o,e⟩:=LS b hb;Heap.lt_size e,Cv,hF⟩
 ·have eg:(s2.gens.push (GenState.fresh (.compStart (.GeneratorExp elt (⟨tg,iter,ifs,0⟩::cls) sc pos) 0 (.ref it) .none (genEnv sc (bU X.env sc.names []) h3.objs.size code builtinsNs X.env)))).setIfInBounds s2.gens.size .running=s2.gens.push .running:=by
   apply Array.ext_getElem?
   intro i
   by_cases e:s2.gens.size=i
   ·subst e
    rw[Array.getElem?_setIfInBounds_self_of_lt (by simp)]
    simp
   ·rw[Array.getElem?_setIfInBounds_ne e,Array.getElem?_push,Array.getElem?_push]
    simp[Ne.symm e]
  simp only[Shared.setGen]
  rw[eg,List.append_nil]
  refine Inv.iw (pins:=[]) (IG _ _ _ (hn'.push _) (λb o e=>Heap.get?_push_of_some _ (Gw b o e))) λp hp=> ?_
  obtain⟨q1,q2⟩:=iE hp
  have ep:p.1=h'.objs.size:=by
   rcases List.mem_cons.mp q1 with z|z
   ·exact z
   ·have l1:=hmore _ _ z
    have l2:=Heap.lt_size q2
    rw[Heap.size_push]at l2
    exact absurd (Nat.lt_of_lt_of_le l1 (Nat.le_of_lt_succ l2)) (Nat.lt_irrefl _)
  have big:h3.objs.size<=p.1:=by rw[ep,sz'];exact Nat.le_succ _
  have HF:h3.objs.size<p.1:=by rw[ep,sz'];exact Nat.lt_succ_self _
  refine⟨q2,I3.hok.fresh big,Nat.ne_of_gt HF,λz=> ?_,λv=> ?_⟩
  ·rcases List.mem_cons.mp (I3.qa p.1 z)with y|y
   ·have l:X.env.locals<h3.objs.size:=I3.lt
    rw[y]at HF
    exact absurd (Nat.lt_trans l HF) (Nat.lt_irrefl _)
   ·exact I3.Je big y
  ·rw[ep]at q2
   rw[Heap.get?_push_size _ rfl]at q2
   intro z
   rw[<-Option.some.inj q2]at z
   cases z
 ·exact(MT _).1 (T.keep _ _ _ st3 λb hb o e=>Heap.get?_push_of_some _ (Gw b o e))
 ·intro s'' LU HD st''
  rw[List.append_nil]at HD
  refine⟨rfl,?_⟩
  rw[Nat.sub_zero]
  refine sg _ (λb hb z=> ?_) s'' LU HD ((MT _).2 st'')
  have l:b<h3.objs.size:=let⟨o,e⟩:=LS b hb;Heap.lt_size e
  rcases List.mem_cons.mp z with y|y
  ·rw[y,sz']at l
   exact absurd (Nat.lt_of_succ_lt l) (Nat.lt_irrefl _)
  ·have l2:=hmore _ _ y
   rw[sz']at l2
   exact absurd (Nat.lt_trans (Nat.lt_trans l (Nat.lt_succ_self _)) l2) (Nat.lt_irrefl _)
theorem zv{pins:List (Addr×Obj)}{σ:St}{H0:Hp}{s0:Shared}{F:Nat->(Nat->V->Prop) ->(Nat->St->Hp->Prop) ->Prop}(more:Nat->List Addr)(hmore:∀a,∀b∈more a,a<b)
  (hc:X.calm=true)(hroom:X.A.depth<recursionLimit)(hi:PI X tg iter wi)(Bk:nO sc.names X.env.scope.names own N2 X.N)(hk:sc.kind= .function)(hco:sc.isCoroutine=false)(hnc:∀y∈sc.names,y.2≠ .cell)(LQ:sc.names.lookup (".0":Str)=some NameKind.local)
  (hcd:fj X.K X.env.code P)(bm:BM X.mg X.base)
  (hg:∀code s H fp,PG (X.gen X.A.in1.in1 sc (own++N2) code s H fp) tg g)(he:∀code s H fp,PE (X.gen X.A.in1.in1 sc (own++N2) code s H fp) elt te)
  (hs:∀x,genFold iter X.env x=pure x)(I0:Inv X pins σ H0 s0)(h:wi σ H0 λJ H=>H P=some (dH P)/\sN own.length g te σ F J H):
  wpAny (model X.prog X.w) X.A (eval (.GeneratorExp elt [⟨tg,iter,[],0⟩] sc pos) X.env) (λu s5=> ∃a cnt R W sC HC fp code tn,u= .ref a/\s5.heap.objs.size=a+1/\
   xq X X.A.in1.in1 sc (own++N2) code sC HC fp (a::more a) tn cnt R W a 0 s5/\Inv X pins σ HC sC/\(∀b∈fp,e9 X pins HC b)/\sC.heap.objs.size<a/\(∀b∈fp,b<sC.heap.objs.size)/\(∀i h h',tn i h->(∀b∈fp,∀o,h.get? b=some o->h'.get? b=some o) ->tn i h')/\F cnt R W) X.xe s0:=
 Cu (cls:=[]) (Rd:=λJ H=>sN own.length g te σ F J H) more hmore hc hroom hi Bk hk hco hnc LQ hcd bm hs (λcode s H fp it Gv J T hfr ⟨cnt,R,W,w0,turn,stop,hF⟩=>
  ⟨cnt,R,W,Gv,hF,w0,λ_=>Iff.rfl,T.keep,λSs hd s'' _ HD st''=>Ct hco hc T (hg code s H fp) (he code s H fp) hd turn stop w0 HD st'' hfr⟩) I0 h
end
section
variable{X:Cx}{B:Around}{sc:Scope}{N':List Str}{code:Value}{sC:Shared}{HC:Hp}{fp:List Addr}{tn:Nat->Heap->Prop}{cnt:Nat}{R:Nat->V->Prop}{W:Nat->St->Hp->Prop}{a S:Addr}{i:Nat}{s:Shared}
theorem xq.frame{h':Heap}{tk:Nat}{o':Obj}(G:xq X B sc N' code sC HC fp [a,S] tn cnt R W a i s)(Gx:a≠S)(hC:sC.heap.objs.size<S)(hfp:∀b∈fp,b≠S)
  (Cv:∀i h h',tn i h->(∀b∈fp,∀o,h.get? b=some o->h'.get? b=some o) ->tn i h')(hS:(∃o,s.heap.get? S=some o)∨s.heap.objs.size<=S)
  (keep:∀b o,b≠S->s.heap.get? b=some o->h'.get? b=some o)(e':h'.get? S=some o')(nc:∀v,o'.data≠ .cell v):
  xq X B sc N' code sC HC fp [a,S] tn cnt R W a i {s with heap:=h',toks:=tk}:=by
 obtain⟨gs,pl,σ',H',hpl,e1,e2,I,st,fr,w,go⟩:=G.ex
 have I1:Inv (X.gen B sc N' code sC HC fp) (cI [a] s.heap++pl) σ' H' (s.setGen sC.gens.size .running):=I.iw λp hp=>by
  rcases List.mem_append.mp hp with hp|hp
  ·obtain⟨q1,q2⟩:=iE hp
   exact I.pin p (List.mem_append_right _ (List.mem_append_left _ (dj (fp:=[a,S]) (by rw[List.mem_singleton.mp q1];simp) q2)))
  ·exact I.pin p (List.mem_append_right _ (List.mem_append_right _ hp))
 have Ou:S∉(X.gen B sc N' code sC HC fp).fs:=λhb=>by
  obtain⟨_,o,ho,_⟩:=I.ok.pL.mem hb
  exact absurd (Nat.lt_trans (Heap.lt_size ho) hC) (Nat.lt_irrefl _)
 have ea:∃oa,s.heap.get? a=some oa:=let⟨o,_,_,q,_⟩:=G.gen;⟨o,q⟩
 obtain⟨oa,ea⟩:=ea
 have I2:Inv (X.gen B sc N' code sC HC fp) (cI [a] s.heap++pl) σ' H' {s.setGen sC.gens.size .running with heap:=h',toks:=tk}/\H' S=none:=by
  rcases hS with⟨o,eo⟩|hS
  ·have pS:=I.pin (S,o) (List.mem_append_right _ (List.mem_append_left _ (dj (fp:=[a,S]) (by simp) eo)))
   refine⟨I1.turned (it:=S) (h':=h') (t':=tk) keep pS.2.1 (Nat.ne_of_gt hC) (.inr (Nat.le_of_lt hC)) (λy c hc z=> ?_) (λp hp z=> ?_),pS.2.1⟩
   ·obtain⟨v,oc,q1,q2⟩:=I.cell y c hc
    rw[z]at q1
    have MU:s.heap.get? S=some oc:=q1
    rw[eo]at MU
    have q3:o=oc:=Option.some.inj MU
    exact pS.2.2.2.2 v (by rw[q3];exact q2)
   ·have jR:p∈cI [a] s.heap++pl:=hp
    rcases List.mem_append.mp jR with jR|jR
    ·exact Gx (by rw[<-z,List.mem_singleton.mp (iE jR).1])
    ·exact hpl p jR (by rw[z];simp)
  ·refine⟨I1.kept (h':=h') (t':=tk) λb o e=>keep b o (λz=> ?_) e,I.hok.fresh hS⟩
   exact absurd (Nat.lt_of_lt_of_le (Heap.lt_size e) (by rw[z];exact hS)) (Nat.lt_irrefl _)
 obtain⟨I2,Ov⟩:=I2
 refine⟨(let⟨o,nm,qn,q,r⟩:=G.gen;⟨o,nm,qn,keep a o Gx q,r⟩),gs,pl,σ',H',hpl,e1,e2,I2.iw λp hp=> ?_,Cv _ _ _ st λb hb o e=>keep b o (hfp b hb) e,fr,w,go⟩
 refine(List.mem_append.mp hp).elim (λhp=> ?_) (λhp=>I2.pin p (List.mem_append_right _ (List.mem_append_right _ hp)))
 obtain⟨q1,q2⟩:=iE hp
 rcases List.mem_cons.mp q1 with z|z
 ·have q:=I2.pin (a,oa) (List.mem_append_right _ (List.mem_append_left _ (dj (fp:=[a]) (by simp) ea)))
  have JK:h'.get? p.1=some p.2:=q2
  rw[z,keep a oa Gx ea]at JK
  have q3:oa=p.2:=Option.some.inj JK
  have ep:p=(a,oa):=by rw[<-z,q3]
  rw[ep]
  exact q
 ·have z':p.1=S:=List.mem_singleton.mp z
  have JK:h'.get? p.1=some p.2:=q2
  rw[z',e']at JK
  have q3:o'=p.2:=Option.some.inj JK
  refine⟨q2,by rw[z'];exact Ov,by rw[z'];exact Nat.ne_of_gt hC,by rw[z'];exact Ou,by rw[<-q3];exact nc⟩
end
section
variable{X:Cx}{sc:Scope}{N':List Str}{code:Value}{sC:Shared}{HC:Hp}{fp:List Addr}{tn:Nat->Heap->Prop}{cnt:Nat}{R:Nat->V->Prop}{W:Nat->St->Hp->Prop}{a S:Addr}{pins:List (Addr×Obj)}{σ:St}{Rr:Result->Shared->Prop}
theorem Aq(IC:Inv X pins σ HC sC)(hf:∀b∈fp,e9 X pins HC b)(hh:X.A.handled=none)(hroom:X.A.depth<recursionLimit)(Gx:a≠S)(hC:sC.heap.objs.size<S)(hfp:∀b∈fp,b≠S)
  (Cv:∀i h h',tn i h->(∀b∈fp,∀o,h.get? b=some o->h'.get? b=some o) ->tn i h')(val:Nat->Int)(hval:∀i v,i<cnt->R i v->v= .int (val i)):∀(k i:Nat)(s:Shared)(tA:Tok)(c:Nat)(st:Int),(st=0∨st=2) ->cnt-i=k->i<=cnt->
  xq X X.A.in1.in1 sc N' code sC HC fp [a,S] tn cnt R W a i s->s.heap.get? S=some {cls:= .type "list",dict:=none,data:= .seq #[.int (preSum val i) tA] c,slots:= #[]} ->
  (∀s' t' σ' H',Inv X pins σ H' s'->W cnt σ' H'->Rr (.ok (.ret (.int (preSum val cnt) t'))) s') ->codeAny (model X.prog X.w) X.A (.builtin "sum.loop" ⟨[.ref a,.ref S,rawInt st,rawInt 0],[]⟩) Rr s:=by
 intro k
 induction k with
 |zero=>
  intro i s tA c st hst hk hi G hS hR
  obtain rfl:i=cnt:=by omega
  refine codeAny_builtin PySem.F.entry_sum_loop (by
   rw[Around.under_plainId PySem.F.plain_sum_loop _]
   show wpAny _ X.A.in1 (seqItems? (.ref S)>>=_) _ _ s
   refine wpAny_bind (wpAny_seqItems hS rfl ?_)
   show wpAny _ X.A.in1 (tryCatch (pyNext (.ref a)) _>>=_) _ _ s
   have ex:∀b∈ [a,S],∃o,s.heap.get? b=some o:=λb hb=>by
    rcases List.mem_cons.mp hb with z|z
    ·obtain⟨o,_,_,q,_⟩:=G.gen;rw[z];exact⟨o,q⟩
    ·rw[List.mem_singleton.mp z];exact⟨_,hS⟩
   exact wpAny_bind (wpAny_tryCatch (G.done (D:=X.A.in1) IC hf hh hroom ex λs' σ' H' I' w'=>wpAny_pure (hR s' tA σ' H' I' w'))))
 |succ k ih=>
  intro i s tA c st hst hk hi G hS hR
  have hlt:i<cnt:=by omega
  have ex:∀b∈ [a,S],∃o,s.heap.get? b=some o:=λb hb=>by
   rcases List.mem_cons.mp hb with z|z
   ·obtain⟨o,_,_,q,_⟩:=G.gen;rw[z];exact⟨o,q⟩
   ·rw[List.mem_singleton.mp z];exact⟨_,hS⟩
  refine codeAny_builtin PySem.F.entry_sum_loop (by
   rw[Around.under_plainId PySem.F.plain_sum_loop _]
   show wpAny _ X.A.in1 (seqItems? (.ref S)>>=_) _ _ s
   refine wpAny_bind (wpAny_seqItems hS rfl ?_)
   show wpAny _ X.A.in1 (tryCatch (pyNext (.ref a)) _>>=_) _ _ s
   refine wpAny_bind (wpAny_tryCatch (G.item (D:=X.A.in1) hh hroom (by simp) ex hlt λv x s' rx LV G' kp=> ?_))
   obtain rfl:=hval i x hlt LV
   obtain⟨t,rfl⟩:=rx
   have hS':=kp S (by simp) _ hS
   have again:∀(h':Heap)(tk:Nat)(c':Nat)(tB:Tok)(st':Int),(st'=0∨st'=2) ->(∀b o,b≠S->s'.heap.get? b=some o->h'.get? b=some o) ->h'.get? S=some {cls:= .type "list",dict:=none,data:= .seq #[.int (preSum val i+val i) tB] c',slots:= #[]} ->
     codeAny (model X.prog X.w) X.A (.builtin "sum.loop" ⟨[.ref a,.ref S,rawInt st',rawInt 0],[]⟩) Rr {s' with heap:=h',toks:=tk}:=λh' tk c' tB st' LW Ow e'=>
    ih (i+1) _ tB c' st' LW (by omega) hlt (G'.frame Gx hC hfp Cv (.inl ⟨_,hS'⟩) Ow e' (λv z=>by cases z)) e' hR
   rcases hst with rfl|rfl
   ·show wpAny _ X.A.in1 (if(_:Bool)=true then(mkInt (preSum val i+val i)>>=_)else _) _ _ _
    split
    ·refine wpAny_bind (wpAny_mkInt ?_)
     show wpAny _ X.A.in1 (updateSeq S (λ_=> #[.int (preSum val i+val i) s'.toks])>>=_) _ _ _
     exact wpAny_bind (wpAny_updateSeq hS' rfl (wpAny_pure ⟨plainId_quiet PySem.F.plain_sum_loop _,again _ _ _ _ 0 (.inl rfl) (λb o hb e=>(Heap.get?_update_other _ _ (Ne.symm hb)).trans e) (Heap.get?_update_self _ hS' rfl)⟩))
    ·refine wpAny_bind (wpAny_rule (wpAny_bind (wpAny_attempt (wpAny_holding (wpAny_add_int ?_)))))
     show wpAny _ X.A.in1 (updateSeq S (λ_=> #[.int (preSum val i+val i) s'.toks])>>=_) _ _ _
     refine wpAny_bind (wpAny_updateSeq hS' rfl ?_)
     have JL:=Heap.get?_update_self (Obj.mapSeq λ_=> #[Value.int (preSum val i+val i) s'.toks]) hS' rfl
     exact wpAny_bind (wpAny_letGo (wpAny_bind (wpAny_updateSeq JL rfl (wpAny_pure ⟨plainId_quiet PySem.F.plain_sum_loop _,again _ _ _ _ 2 (.inr rfl) (λb o hb e=>(Heap.get?_update_other _ _ (Ne.symm hb)).trans ((Heap.get?_update_other _ _ (Ne.symm hb)).trans e)) (Heap.get?_update_self _ JL rfl)⟩))))
   ·show wpAny _ X.A.in1 ((holding [Value.int (val i) t] (binaryOp .Add (.int (preSum val i) tA) (.int (val i) t))).attempt>>=_) _ _ _
    refine wpAny_bind (wpAny_attempt (wpAny_holding (wpAny_add_int ?_)))
    show wpAny _ X.A.in1 (updateSeq S (λ_=> #[.int (preSum val i+val i) s'.toks])>>=_) _ _ _
    refine wpAny_bind (wpAny_updateSeq hS' rfl ?_)
    have JL:=Heap.get?_update_self (Obj.mapSeq λ_=> #[Value.int (preSum val i+val i) s'.toks]) hS' rfl
    exact wpAny_bind (wpAny_letGo (wpAny_bind (wpAny_updateSeq JL rfl (wpAny_pure ⟨plainId_quiet PySem.F.plain_sum_loop _,again _ _ _ _ 2 (.inr rfl) (λb o hb e=>(Heap.get?_update_other _ _ (Ne.symm hb)).trans ((Heap.get?_update_other _ _ (Ne.symm hb)).trans e)) (Heap.get?_update_self _ JL rfl)⟩)))))
theorem Ar{Q:Value->Shared->Prop}{E:Value->Shared->Prop}{s:Shared}(IC:Inv X pins σ HC sC)(hf:∀b∈fp,e9 X pins HC b)(hh:X.A.handled=none)(hroom:X.A.depth<recursionLimit)(hsz:s.heap.objs.size=a+1)(hC:sC.heap.objs.size<a)(hlt:∀b∈fp,b<sC.heap.objs.size)
  (Cv:∀i h h',tn i h->(∀b∈fp,∀o,h.get? b=some o->h'.get? b=some o) ->tn i h')(val:Nat->Int)(hval:∀i v,i<cnt->R i v->v= .int (val i))(G:xq X X.A.in1.in1 sc N' code sC HC fp [a,a+1] tn cnt R W a 0 s)
  (hQ:∀s' t' σ' H',Inv X pins σ H' s'->W cnt σ' H'->Q (.int (preSum val cnt) t') s'):wpAny (model X.prog X.w) X.A (call (.builtin "sum") [.ref a]) Q E s:=by
 refine call_function_tree PySem.F.kind_sum PySem.F.plain_sum PySem.F.entry_sum (PySem.F.args_sum1 _) ?_
 unfold Builtin.«sum»
 simp only[List.length_cons,List.length_nil]
 rw[if_neg (by decide)]
 refine wpAny_bind (wpAny_of_eq (a:=[none]) rfl ?_)
 refine wpAny_bind (wpAny_pyIter_gen G.gen ?_)
 refine wpAny_bind (wpAny_mkInt (wpAny_bind (wpAny_pure ?_)))
 simp only[List.forIn_cons,List.forIn_nil]
 refine wpAny_bind (wpAny_bind (wpAny_bind (wpAny_isInstance (T:= "int") (b:=false) (typeIs_int _ _ _) PySem.sub_int_str ?_)))
 simp only[Bool.false_eq_true,if_false]
 refine wpAny_pure (wpAny_bind (wpAny_bind (wpAny_isInstance (T:= "int") (b:=false) (typeIs_int _ _ _) PySem.sub_int_bytes ?_)))
 simp only[Bool.false_eq_true,if_false]
 refine wpAny_pure (wpAny_bind (wpAny_bind (wpAny_isInstance (T:= "int") (b:=false) (typeIs_int _ _ _) PySem.sub_int_bytearray ?_)))
 simp only[Bool.false_eq_true,if_false]
 refine wpAny_pure (wpAny_pure (wpAny_bind (wpAny_newObj_type ?_)))
 have Gx:a≠a+1:=Nat.ne_of_lt (Nat.lt_succ_self _)
 have LX:sC.heap.objs.size<a+1:=Nat.lt_succ_of_lt hC
 have MV:∀b∈fp,b≠a+1:=λb hb=>Nat.ne_of_lt (Nat.lt_trans (hlt b hb) LX)
 refine wpAny_pure ⟨plainId_quiet PySem.F.plain_sum_loop _,?_⟩
 have e0:({s with toks:=s.toks+1}:Shared).heap.objs.size=a+1:=hsz
 dsimp only
 rw[hsz]
 have eS:(s.heap.push {cls:= .type "list",dict:=none,data:= .seq #[Value.int 0 s.toks]}).get? (a+1)=some {cls:= .type "list",dict:=none,data:= .seq #[Value.int 0 s.toks]}:=by
  rw[<-hsz];exact Heap.get?_push_size _ rfl
 refine Aq IC hf hh hroom Gx LX MV Cv val hval cnt 0 _ s.toks 0 0 (.inl rfl) rfl (Nat.zero_le _) (G.frame Gx LX MV Cv (.inr (Nat.le_of_eq hsz)) (λb o _ e=>Heap.get?_push_of_some _ e) eS (λv z=>by cases z)) eS λs' t' σ' H' I' w'=> ?_
 exact hQ s' t' σ' H' I' w'
end
theorem set_same{s:Shared}{g:Nat}{x y:GenState}(h:s.gens[g]?=some x):(s.setGen g y).setGen g x=s:=by
 obtain⟨hh,gens,d,t,os⟩:=s
 have hlt:g<gens.size:=by
  rcases Nat.lt_or_ge g gens.size with q|q
  ·exact q
  ·have z:gens[g]?=none:=Array.getElem?_eq_none q
   have h':gens[g]?=some x:=h
   rw[z]at h';cases h'
 have q:(gens.setIfInBounds g y).setIfInBounds g x=gens:=by
  apply Array.ext_getElem?
  intro i
  by_cases e:g=i
  ·subst e
   rw[Array.getElem?_setIfInBounds_self_of_lt (by simpa using hlt)]
   exact h.symm
  ·rw[Array.getElem?_setIfInBounds_ne e,Array.getElem?_setIfInBounds_ne e]
 show({heap:=hh,gens:=(gens.setIfInBounds g y).setIfInBounds g x,drawn:=d,toks:=t,os:=os}:Shared)=_
 rw[q]
section
variable{X:Cx}{sc:Scope}{N':List Str}{code:Value}{sC:Shared}{HC:Hp}{fp Ss:List Addr}{tn:Nat->Heap->Prop}{cnt:Nat}{R:Nat->V->Prop}{W:Nat->St->Hp->Prop}{a:Addr}{pins:List (Addr×Obj)}{σ:St}{Rr:Result->Shared->Prop}
theorem xq.out{B:Around}{i:Nat}{s:Shared}(G:xq X B sc N' code sC HC fp Ss tn cnt R W a i s)(IC:Inv X pins σ HC sC)(hf:∀b∈fp,e9 X pins HC b):∃σ' H',Inv X pins σ H' s/\W i σ' H':=by
 obtain⟨gs,pl,σ',H',hpl,e1,e2,I,st,fr,w,go⟩:=G.ex
 have q:=Inv.Gu (gs:=gs) IC hf e2 I
 rw[set_same e1]at q
 exact⟨σ',H',q,w⟩
theorem As(IC:Inv X pins σ HC sC)(hf:∀b∈fp,e9 X pins HC b)(hh:X.A.handled=none)(hroom:X.A.depth<recursionLimit)(bv:Nat->Bool)(hval:∀i v,i<cnt->R i v->v= .bl (bv i)):∀(k i:Nat)(s:Shared),cnt-i=k->i<=cnt->
  xq X X.A.in1.in1 sc N' code sC HC fp [a] tn cnt R W a i s->(∀j,j<i->bv j=true) ->
  ((∀j,j<cnt->bv j=true) -> ∀s' σ' H',Inv X pins σ H' s'->W cnt σ' H'->Rr (.ok (.ret (.bool true))) s') ->
  (∀j,j<cnt->bv j=false->(∀l,l<j->bv l=true) -> ∀s' σ' H',Inv X pins σ H' s'->W (j+1) σ' H'->Rr (.ok (.ret (.bool false))) s') ->codeAny (model X.prog X.w) X.A (.builtin "all.loop" ⟨[.ref a],[]⟩) Rr s:=by
 intro k
 induction k with
 |zero=>
  intro i s hk hi G hp hT hF
  obtain rfl:i=cnt:=by omega
  have ex:∀b∈ [a],∃o,s.heap.get? b=some o:=λb hb=>by
   obtain⟨o,_,_,q,_⟩:=G.gen;rw[List.mem_singleton.mp hb];exact⟨o,q⟩
  refine codeAny_builtin PySem.F.entry_all_loop (by
   rw[Around.under_plainId PySem.F.plain_all_loop _]
   show wpAny _ X.A.in1 (pyNext (.ref a)>>=_) _ _ s
   exact wpAny_bind (G.done (D:=X.A.in1) IC hf hh hroom ex λs' σ' H' I' w'=>wpAny_bind (wpAny_rule (wpAny_pure (hT hp s' σ' H' I' w')))))
 |succ k ih=>
  intro i s hk hi G hp hT hF
  have hlt:i<cnt:=by omega
  have ex:∀b∈ [a],∃o,s.heap.get? b=some o:=λb hb=>by
   obtain⟨o,_,_,q,_⟩:=G.gen;rw[List.mem_singleton.mp hb];exact⟨o,q⟩
  refine codeAny_builtin PySem.F.entry_all_loop (by
   rw[Around.under_plainId PySem.F.plain_all_loop _]
   show wpAny _ X.A.in1 (pyNext (.ref a)>>=_) _ _ s
   refine wpAny_bind (G.item (D:=X.A.in1) hh hroom (by simp) ex hlt λv x s' rx LV G' kp=> ?_)
   obtain rfl:=hval i x hlt LV
   cases rx
   refine wpAny_bind (wpAny_holding (wpAny_truthy_bool (wpAny_bind (wpAny_letGo ?_))))
   cases hb:bv i with
   |true=>
    simp only[if_true]
    exact wpAny_pure ⟨plainId_quiet PySem.F.plain_all_loop _,ih (i+1) _ (by omega) hlt G' (λj hj=>by
     rcases Nat.lt_or_ge j i with q|q
     ·exact hp j q
     ·rw[show j=i by omega];exact hb) hT hF⟩
   |false=>
    simp only[Bool.false_eq_true,if_false]
    obtain⟨σ',H',I',w'⟩:=G'.out IC hf
    exact wpAny_bind (wpAny_rule (wpAny_pure (hF i hlt hb hp s' σ' H' I' w'))))
theorem Au{Q:Value->Shared->Prop}{E:Value->Shared->Prop}{s:Shared}(IC:Inv X pins σ HC sC)(hf:∀b∈fp,e9 X pins HC b)(hh:X.A.handled=none)(hroom:X.A.depth<recursionLimit)(bv:Nat->Bool)(hval:∀i v,i<cnt->R i v->v= .bl (bv i))(G:xq X X.A.in1.in1 sc N' code sC HC fp [a] tn cnt R W a 0 s)
  (hT:(∀j,j<cnt->bv j=true) -> ∀s' σ' H',Inv X pins σ H' s'->W cnt σ' H'->Q (.bool true) s')
  (hF:∀j,j<cnt->bv j=false->(∀l,l<j->bv l=true) -> ∀s' σ' H',Inv X pins σ H' s'->W (j+1) σ' H'->Q (.bool false) s'):wpAny (model X.prog X.w) X.A (call (.builtin "all") [.ref a]) Q E s:=by
 refine call_function_tree PySem.F.kind_all PySem.F.plain_all PySem.F.entry_all (PySem.F.args_all1 _) ?_
 unfold Builtin.«all»
 refine wpAny_bind (m:=oneArg "all" _) (wpAny_pure (wpAny_bind (wpAny_pyIter_gen G.gen ?_)))
 exact wpAny_pure ⟨plainId_quiet PySem.F.plain_all_loop _,As IC hf hh hroom bv hval cnt 0 s rfl (Nat.zero_le _) G (λj hj=>absurd hj (Nat.not_lt_zero _)) hT hF⟩
end
def Cw(k:Nat)(P:Addr)(g:TG)(te:TE)(σ:St)(J:It)(H1:Hp)(Q:VK):Prop:=H1 P=some (dH P)/\sN k g te σ (λcnt R W=> ∃val:Nat->Int,(∀i v,i<cnt->R i v->v= .int (val i))/\ ∀σ' H',W cnt σ' H'->Q (.int (preSum val cnt)) H') J H1
def vQ(k:Nat)(P:Addr)(wi:TI)(g:TG)(te:TE):TE:=λσ H Q=>wi σ H λJ H1=>Cw k P g te σ J H1 Q
def Gy(k:Nat)(P:Addr)(g:TG)(te:TE)(σ:St)(J:It)(H1:Hp)(Q:VK):Prop:=H1 P=some (dH P)/\sN k g te σ (λcnt R W=> ∃bv:Nat->Bool,(∀i v,i<cnt->R i v->v= .bl (bv i))/\
 ((∀j,j<cnt->bv j=true) -> ∀σ' H',W cnt σ' H'->Q (.bl true) H')/\(∀j,j<cnt->bv j=false->(∀l,l<j->bv l=true) -> ∀σ' H',W (j+1) σ' H'->Q (.bl false) H')) J H1
def Gz(k:Nat)(P:Addr)(wi:TI)(g:TG)(te:TE):TE:=λσ H Q=>wi σ H λJ H1=>Gy k P g te σ J H1 Q
section
variable{X:Cx}{sc:Scope}{own N2:List Str}{elt iter tg:Expr}{gP p pos:Pos}{wi:TI}{g:TG}{te:TE}{P:Addr}
structure Cy(X:Cx)(sc:Scope)(own N2:List Str)(P:Addr):Prop where
 calm:X.calm=true
 room:X.A.depth<recursionLimit
 JM:nO sc.names X.env.scope.names own N2 X.N
 kind:sc.kind= .function
 co:sc.isCoroutine=false
 nc:∀y∈sc.names,y.2≠ .cell
 MW:sc.names.lookup (".0":Str)=some NameKind.local
 code:fj X.K X.env.code P
 bm:BM X.mg X.base
theorem zw(K:Cy X sc own N2 P)(Cz:Gl X "sum")(hm:X.mg "sum"=none)(hi:PI X tg iter wi)
  (hg:∀code s H fp,PG (X.gen X.A.in1.in1 sc (own++N2) code s H fp) tg g)(he:∀code s H fp,PE (X.gen X.A.in1.in1 sc (own++N2) code s H fp) elt te)
  (hs:∀x,genFold iter X.env x=pure x:=by intro _;rfl)(hst:starEach [.GeneratorExp elt [⟨tg,iter,[],0⟩] sc gP] X.env=[(false,eval (.GeneratorExp elt [⟨tg,iter,[],0⟩] sc gP) X.env)]:=by rfl):
  PE X (.Call (.Name "sum" p) [.GeneratorExp elt [⟨tg,iter,[],0⟩] sc gP] [] pos) (vQ own.length P wi g te):=by
 intro pins s σ H Q I h
 refine wpAny_Call_Name_kw (jS I Cz hm PyProof.Rows.boot_sum ?_)
 refine PyProof.Rows.callWith_builtin1 ?_ hst rfl
 rw[hst]
 refine Calls.spliced_cons (eV (zv (pos:=gP) (λa=>[a+1]) (λa b hb=>by rw[List.mem_singleton.mp hb];exact Nat.lt_succ_self _) K.calm K.room hi K.JM K.kind K.co K.nc K.MW K.code K.bm hg he hs I h) λu s5 h5=> ?_)
 obtain⟨a,cnt,R,W,sC,HC,fp,code,tn,rfl,hsz,G,IC,hf,hC,hlt,Cv,val,hval,hq⟩:=h5
 exact Calls.spliced_nil (Ar IC hf (I.ok.hd K.calm) K.room hsz hC hlt Cv val hval G λs' t' σ' H' I' w'=>⟨.int (preSum val cnt),H',I',⟨_,rfl⟩,hq σ' H' w'⟩)
theorem EW(K:Cy X sc own N2 P)(Cz:Gl X "all")(hm:X.mg "all"=none)(hi:PI X tg iter wi)
  (hg:∀code s H fp,PG (X.gen X.A.in1.in1 sc (own++N2) code s H fp) tg g)(he:∀code s H fp,PE (X.gen X.A.in1.in1 sc (own++N2) code s H fp) elt te)
  (hs:∀x,genFold iter X.env x=pure x:=by intro _;rfl)(hst:starEach [.GeneratorExp elt [⟨tg,iter,[],0⟩] sc gP] X.env=[(false,eval (.GeneratorExp elt [⟨tg,iter,[],0⟩] sc gP) X.env)]:=by rfl):
  PE X (.Call (.Name "all" p) [.GeneratorExp elt [⟨tg,iter,[],0⟩] sc gP] [] pos) (Gz own.length P wi g te):=by
 intro pins s σ H Q I h
 refine wpAny_Call_Name_kw (jS I Cz hm PyProof.Rows.boot_all ?_)
 refine PyProof.Rows.callWith_builtin1 ?_ hst rfl
 rw[hst]
 refine Calls.spliced_cons (eV (zv (pos:=gP) (λa=>[]) (λa b hb=>by cases hb) K.calm K.room hi K.JM K.kind K.co K.nc K.MW K.code K.bm hg he hs I h) λu s5 h5=> ?_)
 obtain⟨a,cnt,R,W,sC,HC,fp,code,tn,rfl,hsz,G,IC,hf,hC,hlt,Cv,bv,hval,hT,hF⟩:=h5
 exact Calls.spliced_nil (Au IC hf (I.ok.hd K.calm) K.room bv hval G (λhb s' σ' H' I' w'=>⟨.bl true,H',I',rfl,hT hb σ' H' w'⟩) (λj hj hb hp s' σ' H' I' w'=>⟨.bl false,H',I',rfl,hF j hj hb hp σ' H' w'⟩))
end
section
variable{X:Cx}{B:Around}{sc:Scope}{N':List Str}{code:Value}{sC:Shared}{HC:Hp}{fp Ss:List Addr}{tn:Nat->Heap->Prop}{R:Nat->V->Prop}{W:Nat->St->Hp->Prop}
variable{elt iter tg zx MY:Expr}{pos:Pos}{it:Addr}{J:It}{g g':TG}{te:TE}{KH:TI}{c1 c2:Nat}
end
section
variable{X:Cx}{B:Around}{sc:Scope}{N':List Str}{code:Value}{sC:Shared}{HC:Hp}{fp Ss:List Addr}{tn:Nat->Heap->Prop}{R:Nat->V->Prop}{W:Nat->St->Hp->Prop}
variable{elt iter tg zx MY:Expr}{pos:Pos}{it:Addr}{J:It}{g g':TG}{te:TE}{KH:TI}{c1 c2:Nat}
end
section
variable{X:Cx}{sc:Scope}{own N2:List Str}{elt iter tg zx MY:Expr}{gP p pos:Pos}{wi KH:TI}{g g':TG}{te:TE}{P:Addr}
end
mutual
inductive zy(K:PySem.W.Frag)(H:Hp):V->PyData->Prop
 |ig:zy K H .ig .none
 |bl(b:Bool):zy K H (.bl b) (.bool b)
 |int(i:Int):zy K H (.int i) (.int i)
 |str(x:Str):zy K H (.str x) (.str x)
 |lst{a:Addr}{xs:List V}{ds:List PyData}:aU K H a xs->xH K H xs ds->zy K H (.ref a) (.list ds)
 |tup{a:Addr}{xs:List V}{ds:List PyData}:rD K H a xs->xH K H xs ds->zy K H (.ref a) (.tuple ds)
inductive xH(K:PySem.W.Frag)(H:Hp):List V->List PyData->Prop
 |nil:xH K H [] []
 |cons{x:V}{d:PyData}{xs:List V}{ds:List PyData}:zy K H x d->xH K H xs ds->xH K H (x::xs) (d::ds)
end
section
variable{X:Cx}{pins:List (Addr×Obj)}{σ:St}{H:Hp}{s:Shared}
mutual
theorem lq(I:Inv X pins σ H s):∀{x:V}{d:PyData}{u:Value},zy X.K H x d->RelV x u-> ∃as,Reads s.heap u d as
 |_,_,_,.ig,r=>by cases r;exact⟨_,.none⟩
 |_,_,_,.bl b,r=>by cases r;exact⟨_,.bool b⟩
 |_,_,_,.int i,r=>by obtain⟨t,rfl⟩:=r;exact⟨_,.int i t⟩
 |_,_,_,.str x,r=>by obtain⟨t,rfl⟩:=r;exact⟨_,.str x t⟩
 |_,_,_,.lst hq hs,r=>by
  cases r
  obtain⟨its,rv,⟨o,n,e,c,_,dd⟩,_⟩:=I.list hq
  obtain⟨as,q⟩:=lu I hs rv
  exact⟨_,.list e c dd (by simpa using q)⟩
 |_,_,_,.tup hq hs,r=>by
  cases r
  obtain⟨its,rv,⟨o,e,c,n,dd⟩,_⟩:=I.tuple hq
  obtain⟨as,q⟩:=lu I hs rv
  exact⟨_,.tuple e c dd (by simpa using q)⟩
theorem lu(I:Inv X pins σ H s):∀{xs:List V}{ds:List PyData}{us:List Value},xH X.K H xs ds->Vals xs us-> ∃as,ReadsAll s.heap us ds as
 |_,_,_,.nil,r=>by cases r;exact⟨_,.nil⟩
 |_,_,_,.cons h t,r=>by
  cases r with
  |cons r1 r2=>
   obtain⟨as,q1⟩:=lq I h r1
   obtain⟨bs,q2⟩:=lu I t r2
   exact⟨_,.cons q1 q2⟩
end
end
def Av(K:PySem.W.Frag)(neg:Bool):R2:=λx y H Q=> ∃da db,zy K H x da/\zy K H y db/\SeqAt.shaped da=true/\SeqAt.shaped db=true/\Q (.bl (if neg then !PyData.eqv da db else PyData.eqv da db)) H
section
variable{X:Cx}
theorem CA(hu:X.A.units+64<cLine):pq X (compareOp .Eq) (Av X.K false):=by
 intro pins s σ H x y v u Q I rx ry h
 obtain⟨da,db,h1,h2,s1,s2,q⟩:=h
 obtain⟨as,r1⟩:=lq I h1 rx
 obtain⟨bs,r2⟩:=lq I h2 ry
 exact eq_dataH r1 r2 s1 s2 hu ⟨.bl _,H,I,rfl,q⟩
theorem CB(hu:X.A.units+64<cLine):pq X (compareOp .NotEq) (Av X.K true):=by
 intro pins s σ H x y v u Q I rx ry h
 obtain⟨da,db,h1,h2,s1,s2,q⟩:=h
 obtain⟨as,r1⟩:=lq I h1 rx
 obtain⟨bs,r2⟩:=lq I h2 ry
 exact ne_dataH r1 r2 s1 s2 hu ⟨.bl _,H,I,rfl,q⟩
theorem eK:pA X (.builtin "isinstance") (λxs H Q=> ∃x n t b,xs=[x,.ty n]/\mj X.K H x t/\PySem.W.kitOne X.K t (.type n)=some b/\Q (.bl b) H):=by
 intro pins s σ H xs us Q I r h
 obtain⟨x,n,t,b,rfl,ty,e,q⟩:=h
 cases r with
 |cons r1 r2=>
  cases r2 with
  |cons r2 r3=>
   cases r3
   cases r2
   exact Ai I r1 ty e λtk=>⟨.bl b,H,I.tok _,rfl,q⟩
end
abbrev l8(r:List Int):PyData:= .list (r.map .int)
abbrev xJ(m:List (List Int)):PyData:= .list (m.map l8)
theorem pB:∀m:List (List Int),PyData.canLayAll0 (m.map l8)=true
 | []=>rfl
 |r::m=>by simp[PyData.canLayAll0,PyData.canLay0,PySem.W.ke_canLayAll0,pB m]
theorem qm:∀m:List (List Int),PyData.depthAll (m.map l8)<=1
 | []=>by simp[PyData.depthAll]
 |r::m=>by
  have:=qm m
  simp only[List.map_cons,PyData.depthAll,PyData.depth,PySem.W.ke_depthAll]
  omega
theorem mD(m:List (List Int)):SeqAt.shaped (xJ m)=true:=by
 have q:=qm m
 simp only[SeqAt.shaped,PyData.canLay0,PyData.depth,pB,Bool.true_and,decide_eq_true_eq]
 exact decide_eq_true (show PyData.depthAll (m.map l8)+1<=64 by omega)
theorem jZ(r:List Int):SeqAt.shaped (l8 r)=true:=PySem.W.ke_shaped_ints r
theorem uf(r t:List Int):PyData.eqv (l8 r) (l8 t)=decide (r=t):=by
 simp only[PyData.eqv]
 exact PySem.W.ked_eqvAll r t
theorem pC:∀m n:List (List Int),PyData.eqvAll (m.map l8) (n.map l8)=decide (m=n)
 | [],[]=>by simp[PyData.eqvAll]
 | [],_::_=>by simp[PyData.eqvAll]
 |_::_,[]=>by simp[PyData.eqvAll]
 |a::r,b::t=>by
  have e:=uf a b
  simp only[l8]at e
  simp only[List.map_cons,PyData.eqvAll,pC r t,l8,e]
  by_cases h:a=b<;>by_cases h':r=t<;>simp[h,h']
theorem EX(m n:List (List Int)):PyData.eqv (xJ m) (xJ n)=decide (m=n):=by
 simp only[PyData.eqv]
 exact pC m n
structure HG(tz:Addr->HO):Prop where
 new:∀{P:Program}{w:World}{H:Hp}{h:Heap}{T:Addr},h.get? T=some {cls:= .none,data:= .fields #[]} ->dW P w H h T (tz T)
 get:∀{P:Program}{w:World}{H:Hp}{h:Heap}{T:Addr},dW P w H h T (tz T) -> ∃ps:Array Value,h.get? T=some {cls:= .none,data:= .fields ps}
theorem zA:HG dH:=⟨λe=>Co e (by simp[TriplesOk]),λh=>let⟨⟨ps,e,_⟩,_⟩:=h;⟨ps,e⟩⟩
theorem HH(fJ:List Addr):HG (λT=>if T∈fJ then .vE else dH T):=by
 refine⟨λ {P w H h T} e=> ?_,λ {P w H h T} x=> ?_⟩
 ·by_cases c:T∈fJ
  ·rw[if_pos c]
   exact⟨#[],e,trivial,λpos cv z=>nomatch z⟩
  ·rw[if_neg c]
   exact zA.new e
 ·by_cases c:T∈fJ
  ·rw[if_pos c]at x
   obtain⟨ps,e,_⟩:=x
   exact⟨ps,e⟩
  ·rw[if_neg c]at x
   exact zA.get x
theorem Aw{P:Program}{w:World}{K:PySem.W.Frag}{mg mb:Str->Option Value}{k:Nat}{fa a:Addr}{fd:FuncData}{x:Str}{sp:Sp}{s₁:Shared}{vs:List Value}{ns:List Int}{tabs:List Addr}{tz:Addr->HO}(TZ:HG tz)
  (KX:K.In s₁.heap)(hns:s₁.heap.Ns mainGlobals mg)(hb:s₁.heap.Ns builtinsNs mb)(Ox:∀x:Str,x≠ "__name__" ->mb x=bootBuiltins x)(hlim:s₁.heap.NoLimit)(hbm:BM mg s₁.heap)(hg:s₁.gens= #[])
  (htab:∀T∈tabs,isCodeTable s₁.heap T/\s₁.heap.get? T=some {cls:= .none,data:= .fields #[]})
  (ha:s₁.heap.get? a=some {cls:= .type "list",data:= .seq vs.toArray})(hi:IntsAre vs ns)(hl:ns.length<=sizeLine)(hr:eY k callerA)(hcl:PySem.W.kb_classed K=true)
  (F:∀base:Heap,K.In base->base.Ns mainGlobals mg->BM mg base->m8 P w K mg base cV k fa fd [x] sp)(hbind:∀(s:Shared)(u:Value),BindsTo s fd ⟨[u],[]⟩ [(x,u)])
  (Ep:∀H:Hp,(∀T∈tabs,H T=some (tz T)) ->aU K H a (ns.map V.int) ->sp [.ref a] H (λv H'=>v= .bl true/\ ∀T∈tabs,H' T=some (tz T)) λ_ _ _=>False):
  codeAny (model P w) callerA (.call (.ref fa) ⟨[.ref a],[]⟩) (λr s'=>r= .ok (.ret (.bool true))/\OldK s₁.heap s'.heap/\s'.os=s₁.os/\AllBare s'.gens) s₁:=by
 have rv:=sM hi
 have LY:=hi.length
 have MZ:a∉tabs:=λz=>by
  have e:=(htab a z).2
  rw[ha]at e
  cases e
 have core:∀H:Hp,(∀T∈tabs,H T=some (tz T)) ->(∀b u,H b=some u->b∈tabs∨(b=a/\ ∃o xs,u= .tT o (.lst xs))) ->aU K H a (ns.map V.int) ->pW P w H s₁.heap->(H a≠none->K.lookup a=none) ->
   codeAny (model P w) callerA (.call (.ref fa) ⟨[.ref a],[]⟩) (λr s'=>r= .ok (.ret (.bool true))/\OldK s₁.heap s'.heap/\s'.os=s₁.os/\AllBare s'.gens) s₁:=by
  intro H hT hO hS hok hK
  have free:∀{b:Addr}{o:Obj},s₁.heap.get? b=some o->o.cls≠ .none->b≠a->H b=none:=λ {b o} e hc hba=>by
   cases q:H b with
   |none=>rfl
   |some u=>
    rcases hO b u q with z|⟨z,_⟩
    ·have e':=(htab b z).2
     rw[e]at e'
     cases e'
     exact absurd rfl hc
    ·exact absurd z hba
  have ug:∀{b:Addr}{o:Obj},s₁.heap.get? b=some o->H b=none->(rC s₁.heap H).get? b=some o:=λe n=>BO e n
  have LZ:∀{b:Addr}{o:Obj}{es:Array DictEntry}{ep:Nat},s₁.heap.get? b=some o->o.data= .dict es ep->H b=none:=λ {b o es ep} e d=>by
   cases q:H b with
   |none=>rfl
   |some u=>
    rcases hO b u q with z|⟨z,_⟩
    ·have e':=(htab b z).2
     rw[e]at e'
     cases e'
     cases d
    ·rw[z,ha]at e
     cases e
     cases d
  have KI:∀{b:Addr}{m:Str->Option Value},s₁.heap.Ns b m->(rC s₁.heap H).Ns b m:=λ {b m} ⟨o,es,ep,e,d,r⟩=>⟨o,es,ep,ug e (LZ e d),d,r⟩
  have Na:K.In (rC s₁.heap H):=λb o e=>ug (KX b o e) (by
   by_cases hba:b=a
   ·cases q:H b with
    |none=>rfl
    |some u=>
     subst hba
     rw[hK (by rw[q];simp)]at e
     cases e
   ·have q:=List.all_eq_true.mp hcl (b,o) (PySem.W.kb_mem e)
    simp only[Bool.or_eq_true,decide_eq_true_eq,beq_iff_eq]at q
    rcases q with(q|q)|q
    ·exact free (KX b o e) q hba
    ·obtain⟨mc,⟨oc,es,ep,z1,z2,_⟩,_⟩:=hlim
     rw[q];exact LZ z1 z2
    ·obtain⟨oc,es,ep,z1,z2,_⟩:=hns
     rw[q];exact LZ z1 z2)
  have hM:Mod K mg (rC s₁.heap H):=⟨Na,KI hns,⟨mb,KI hb,Ox⟩,let⟨mc,h1,h2⟩:=hlim;⟨mc,KI h1,h2⟩⟩
  have Oz:BM mg (rC s₁.heap H):=by
   obtain⟨bm,ob,q1,q2,q3,q4,q5,q6⟩:=hbm
   refine⟨bm,ob,q1,q2,ug q3 (free q3 (by rw[q4];simp) λz=> ?_),q4,q5,q6⟩
   rw[z,ha]at q3
   rw[<-Option.some.inj q3]at q4
   exact absurd q4 (by simp)
  have e0:EG P w K mg (rC s₁.heap H) callerA [] s₁ H:=⟨rfl,hM,λb o e=>Eu e,Nat.le_of_eq (z9 _ _),trivial,λb hb=>absurd (show b∈([]:List Addr)from hb) (by simp),hok,.of_eq hg⟩
  refine codeAny_mono ((F _ Na (KI hns) Oz).run callerA [] s₁ H ⟨[.ref a],[]⟩ [.ref a] [.ref a] _ _ hr e0 (hbind s₁ (.ref a)) (.cons rfl .nil) (Ep H hT hS)) λr s' h=> ?_
  cases r with
  |error e=>exact False.elim h
  |ok fl=>
   cases fl with
   |next=>exact False.elim h
   |brk=>exact False.elim h
   |cont=>exact False.elim h
   |ret u=>
    obtain⟨v,H',os,bare,un,JN,r',q⟩:=h
    obtain⟨q',OA⟩:=q
    have q':v= .bl true:=q'
    subst q'
    obtain rfl:u=Value.bool true:=r'
    refine⟨rfl,⟨λb o e=> ?_,λb o e=>un.there b o e (by simp)⟩,os,bare.bare⟩
    cases q:H b with
    |none=>exact .inl (un.keep b o e q (by intro z;exact absurd (show b∈([]:List Addr)from z) (by simp)) (by simp))
    |some u=>
     rcases hO b u q with z|⟨z,ob,xs,eu⟩
     ·obtain⟨ct,e'⟩:=htab b z
      obtain⟨ps,ep⟩:=TZ.get (JN b _ (OA b z))
      rw[e]at e'
      cases e'
      exact .inr (.inl ⟨ct,rfl, #[],ps,rfl,by simpa using ep⟩)
     ·subst eu
      have z2:=un.pK b ob _ q
      obtain⟨e1,_⟩:=hok b _ q
      obtain⟨e2,_⟩:=JN b _ z2
      rw[e]at e1;cases e1
      exact .inl e2
 have Nb:∀(H:Hp)(T:Addr),T∈tabs->dW P w H s₁.heap T (tz T):=λH T hT=>TZ.new (htab T hT).2
 cases hk:K.lookup a with
 |some o=>
  have e:=KX a o hk
  rw[ha]at e
  cases e
  refine core (λb=>if b∈tabs then some (tz b)else none) (λT hT=>if_pos hT) (λb u z=> ?_) (.inr ⟨_,vs.toArray,_,hk,rfl,rfl,rfl,by rw[List.size_toArray,LY];exact hl,by simpa using rv⟩) (λb u z=> ?_) (λz=>absurd (if_neg MZ) z)
  ·by_cases hb:b∈tabs
   ·exact .inl hb
   ·have z':=(if_neg hb).symm.trans z;cases z'
  ·by_cases hb:b∈tabs
   ·have z':=(if_pos hb).symm.trans z;cases z';exact Nb _ b hb
   ·have z':=(if_neg hb).symm.trans z;cases z'
 |none=>
  have q1:∀{b:Addr},b∈tabs->(if b=a then some (HO.tT {cls:= .type "list",data:= .seq vs.toArray} (.lst (ns.map V.int)))else if b∈tabs then some (tz b)else none)=some (tz b):=λ {b} hb=>by
   rw[if_neg (λ(z:b=a)=>MZ (by rw[<-z];exact hb)),if_pos hb]
  refine core (λb=>if b=a then some (.tT {cls:= .type "list",data:= .seq vs.toArray} (.lst (ns.map V.int)))else if b∈tabs then some (tz b)else none) (λT hT=>q1 hT) (λb u z=> ?_) (.inl (.inr ⟨{cls:= .type "list",data:= .seq vs.toArray},if_pos rfl⟩)) (λb u z=> ?_) λ_=>hk
  ·by_cases hb:b=a
   ·have z':=(if_pos hb).symm.trans z
    cases z'
    exact .inr ⟨hb,_,_,rfl⟩
   ·by_cases hb2:b∈tabs
    ·exact .inl hb2
    ·have z':=((if_neg hb).trans (if_neg hb2)).symm.trans z;cases z'
  ·by_cases hb:b=a
   ·have z':=(if_pos hb).symm.trans z
    cases z'
    subst hb
    exact⟨ha,by rw[List.length_map];exact hl,vs,_,rv,ha⟩
   ·by_cases hb2:b∈tabs
    ·have z':=(q1 hb2).symm.trans z
     cases z'
     exact Nb _ b hb2
    ·have z':=((if_neg hb).trans (if_neg hb2)).symm.trans z;cases z'
theorem xK{p:Program}{loose:List Str}{mean:ExcName->Option Value}{mg mb:Str->Option Value}{h:Heap}(T:Top p loose mean mg mb h){d:DefRec}{x qual:Str}(hf:(recsOf p).find? (λe=>e.name==x)=some d){K:PySem.W.Frag}(KX:K.In h){f:Addr}
  (hm:mg x=some (.ref f)){oc:Value}{od:Option Addr}{sl:Array (Option Value)}{fd:FuncData}(l:K.lookup f=some ⟨oc,od,.func fd,sl⟩)(c:PySem.W.codeIn K fd.code qual=true):
  ∃P,fj K fd.code P/\isCodeTable h P/\h.get? P=some {cls:= .none,data:= .fields #[]}:=by
 have hn:d.name=x:=beq_iff_eq.mp (List.find?_some (p:=λe:DefRec=>e.name==x) hf)
 obtain⟨a',o',fd',cc,P,h1,h2,h3,h4,h5,h6⟩:=T.tab d (List.mem_of_find?_eq_some hf)
 rw[hn,hm]at h1;cases h1
 rw[KX f _ l]at h2;cases h2
 cases h3
 refine⟨P,?_,h6.isCodeTable,h6.2⟩
 obtain⟨o,vs,file,tf,flags,tg,Hx,text,tt,op,ho,hd,h11,JH,h7,h9,Hy,_⟩:=h5
 obtain⟨⟨o2,Qj,g1,g2,g3,g4⟩,_⟩:=h6
 rw[ho]at g1;cases g1
 rw[hd]at g3;cases g3
 rw[h4]at c
 cases q:K.lookup cc with
 |none=>unfold PySem.W.codeIn at c;simp[q]at c
 |some o3=>
  have e3:=KX cc o3 q
  rw[ho]at e3
  have e4:o=o3:=Option.some.inj e3
  subst e4
  exact⟨cc,o,vs,file,tf,flags,tg,Hx,text,tt,h4,q,g2,hd,g4,JH,h7,h9,Hy⟩
def tabOf(K:PySem.W.Frag)(f:Addr):Option Value:=match K.lookup f with
 |some ⟨_,_,.func fd,_⟩=>match fd.code with
  | .ref c=>match K.lookup c with
   |some o=>match o.data with
    | .fields vs=>vs[11]?
    |_=>none
   |none=>none
  |_=>none
 |_=>none
def CC(K:PySem.W.Frag)(fs gs:List Addr):Bool:=fs.all λf=>gs.all λg=>tabOf K f !=tabOf K g
theorem vR{K:PySem.W.Frag}{f P:Addr}{oc:Value}{od:Option Addr}{sl:Array (Option Value)}{fd:FuncData}(l:K.lookup f=some ⟨oc,od,.func fd,sl⟩)(c:fj K fd.code P):tabOf K f=some (.ref P):=by
 obtain⟨cc,o,vs,_,_,_,_,_,_,_,e1,e2,e3,e4,e5,_⟩:=c.ex
 unfold tabOf
 rw[l]
 simp only[e1,e2,e4,e5]
theorem ly{K:PySem.W.Frag}{fs gs:List Addr}(h:CC K fs gs=true){f g P Q:Addr}(hf:f∈fs)(hg:g∈gs)(a:tabOf K f=some (.ref P))(b:tabOf K g=some (.ref Q)):P≠Q:=λe=>by
 have h1:=List.all_eq_true.mp (List.all_eq_true.mp h f hf) g hg
 rw[a,b,e]at h1
 simp at h1
theorem CD{l:PySem.W.OpenLaw}{n k:Nat}{q:Program}{loose:List Str}{XP:(Str->Option Value) ->Heap->Prop}{YP:World->Heap->Prop}{d:DefRec}{K:Params->PySem.W.Frag}{x:Str}{sp:PySem.W.Frag->List Addr->List Addr->Sp}
  (hn:l.most=some n)(hn2:n<=sizeLine)(hdf:d.params.defaults=[])(hr:eY k callerA)
  (hY:∀(w:World)(h:Heap),YP w h->(K w.params).In h)
  (hcl:∀(w:World),PySem.W.kb_classed (K w.params)=true)
  (F:∀(w:World)(mg mb:Str->Option Value)(mean:ExcName->Option Value)(fa:Addr)(h:Heap),(K w.params).In h->Top q (PySem.W.looseW q loose) mean mg mb h->mg d.name=some (.ref fa) ->
   ∃(fd:FuncData)(tabs fJ:List Addr),(∀(s:Shared)(u:Value),BindsTo s fd ⟨[u],[]⟩ [(x,u)])/\(∀T∈tabs++fJ,isCodeTable h T/\h.get? T=some {cls:= .none,data:= .fields #[]})/\(∀T∈tabs,T∉fJ)/\
    ∀base:Heap,(K w.params).In base->base.Ns mainGlobals mg->BM mg base->m8 l.prog w (K w.params) mg base cV k fa fd [x] (sp (K w.params) tabs fJ))
  (Ep:∀(K:PySem.W.Frag)(tabs fJ:List Addr)(H:Hp)(a:Addr)(ns:List Int),ns.length<=n->(∀T∈tabs,H T=some (dH T)) ->(∀T∈fJ,H T=some .vE) ->aU K H a (ns.map V.int) -> ∀Q:VK,(∀H',ay H H'->Q (.bl true) H') ->sp K tabs fJ [.ref a] H Q λ_ _ _=>False):
  PySem.W.WalkO q loose XP YP l.row.toRowW d [] (λf vs=>PySem.call f vs):=by
 refine MQ.vJ hn hdf λw s₀ s₁ mg mb fa o pm cd doc a vs ns G Y ho hd hcd hmg hobj hints hlen hg=> ?_
 have KX:=hY w _ Y
 obtain⟨fd,tabs,fJ,hb,ht,Cr,hF⟩:=F w mg mb _ fa _ KX G.T hmg
 have e1:∀T∈tabs,(if T∈fJ then HO.vE else dH T)=dH T:=λT hT=>if_neg (Cr T hT)
 have e2:∀T∈fJ,(if T∈fJ then HO.vE else dH T)= .vE:=λT hT=>if_pos hT
 refine Aw (HH fJ) KX G.T.g G.T.b G.T.builtins G.T.nolimit G.T.bmain hg ht hobj hints (Nat.le_trans hlen hn2) hr (hcl w) hF hb (λH hO hS=> ?_)
 refine Ep _ tabs fJ H a ns hlen (λT hT=>by rw[hO T (List.mem_append_left _ hT),e1 T hT]) (λT hT=>by rw[hO T (List.mem_append_right _ hT),e2 T hT]) hS _ λH' s=>⟨rfl,λT hT=>s _ _ (hO T hT)⟩
theorem ay.up{H:Hp}{D:Addr}{o:HO}(h:H D=none):ay H (upd H D o):=λb u q=>by rw[aH (cP q h)];exact q
theorem ay.upd{H H':Hp}{D:Addr}{o:HO}(s:ay H H')(h:H D=none):ay H (upd H' D o):=λb u q=>by rw[aH (cP q h)];exact s b u q
theorem ay.none{H H':Hp}(s:ay H H'){D:Addr}(h:H' D=Option.none):H D=Option.none:=s.free h
theorem ay.OB{K:PySem.W.Frag}{H H':Hp}{a:Addr}{xs:List V}(e:ay H H')(h:rD K H a xs):rD K H' a xs:=by
 rcases h with(h|⟨o,h⟩)|h
 ·exact .inl (.inl (e _ _ h))
 ·exact .inl (.inr ⟨o,e _ _ h⟩)
 ·exact .inr h
theorem _root_.PySem.Paired.CF{α β:Type}{F F':α->β->Prop}:∀{l:List α}{m:List β},Paired F l m->(∀a b,b∈m->F a b->F' a b) ->Paired F' l m
 |_,_,.nil,_=> .nil
 |_,_,.cons h t,k=> .cons (k _ _ List.mem_cons_self h) (t.CF λa b hb q=>k a b (List.mem_cons_of_mem _ hb) q)
structure JW(J:It)(H1:Hp)(xs:List V):Prop where
 go:∀i H',ay H1 H'->i<xs.length->J.go i H'
 xw:∀i H' x H2,ay H1 H'->i<xs.length->J.xw i H' x H2->H2=H'/\xs[i]?=some x
 stop:∀H',ay H1 H'->J.stop xs.length H'
theorem iW{K:PySem.W.Frag}{H1:Hp}{a:Addr}{xs:List V}(h:aU K H1 a xs):JW (GX K a) H1 xs where
 go:=λi H' s hi=>⟨xs,xs[i],s.seq h,by simp[hi]⟩
 xw:=λi H' x H2 s hi ⟨e,y⟩=>⟨e,y xs (s.seq h)⟩
 stop:=λH' s=>⟨xs,s.seq h,Nat.le_refl _⟩
def lz(n:Nat):List V:=(List.range n).map λ(i:Nat)=>V.int (i:Int)
theorem fy{H1:Hp}{n:Nat}:JW (Eo 0 n) H1 (lz n) where
 go:=λi H' s hi=>by simpa [lz,Eo]using hi
 xw:=λi H' x H2 s hi ⟨e,y⟩=>⟨e,by
  have hi':i<n:=by simpa [lz]using hi
  subst y
  simp[lz,hi']⟩
 stop:=λH' s=>by simp[lz,Eo]
theorem p5{J:It}{H1:Hp}{xs:List V}{σ:St}{te:TE}{Q:VK}(jw:JW J H1 xs)(hz:xs.length<=sizeLine){D:Addr}(hD:H1 D=none)(P:List V->List V->Hp->Prop)(h0:P [] [] (upd H1 D (.lst [])))
  (hs:∀pre x post acc H' (Q':VK),xs=pre++x::post->acc.length=pre.length->ay H1 H'->H' D=some (.lst acc) ->P pre acc H'->(∀v H4,ay H' H4->P (pre++ [x]) (acc++ [v]) (upd H4 D (.lst (acc++ [v]))) ->Q' v H4) ->te (some x::σ) H' Q')
  (hq:∀acc H',acc.length=xs.length->ay H1 H'->H' D=some (.lst acc) ->P xs acc H'->Q (.ref D) H'):
  jg 1 (cS 0) te σ J H1 D Q:=by
 refine⟨λi m acc σ' H'=>m=xs.length-i/\i<=xs.length/\acc.length=i/\(∃o,σ'=o::σ)/\ay H1 H'/\H' D=some (.lst acc)/\P (xs.take i) acc H',⟨xs.length,rfl,Nat.zero_le _,rfl,⟨none,rfl⟩,ay.up hD,av,h0⟩,?_⟩
 rintro i m acc σ' H' ⟨rfl,hi,hl,⟨o,rfl⟩,sm,eD,p⟩
 by_cases hlt:i<xs.length
 ·refine .inr ⟨jw.go i H' sm hlt,by omega,λx H2 y=> ?_⟩
  obtain⟨rfl,ex⟩:=jw.xw i H' x H2 sm hlt y
  have hx:xs[i]=x:=by rw[List.getElem?_eq_getElem hlt]at ex;exact Option.some.inj ex
  have sp:xs=xs.take i++x::xs.drop (i+1):=by
   rw[<-hx,<-List.drop_eq_getElem_cons hlt,List.take_append_drop]
  have tk:xs.take (i+1)=xs.take i++ [x]:=by rw[List.take_succ,ex];rfl
  show te (some x::σ) H2 _
  refine hs (xs.take i) x (xs.drop (i+1)) acc H2 _ sp (by rw[hl,List.length_take];omega) sm eD p λv H4 s4 p4=> ?_
  refine⟨s4 _ _ eD,xs.length- (i+1),by omega,rfl,hlt,by simp[hl],⟨_,rfl⟩,(sm.trans s4).upd hD,av,?_⟩
  rw[tk]
  exact p4
 ·have e:i=xs.length:=by omega
  subst e
  refine .inl ⟨jw.stop H' sm,eD,hq acc H' hl sm eD ?_⟩
  rw[List.take_length]at p
  exact p
theorem Ax{J:It}{H1:Hp}{xs:List V}{σ:St}{te:TE}{Q:VK}(jw:JW J H1 xs)(hz:xs.length<=sizeLine){D:Addr}(hD:H1 D=none)(f:V->V)
  (hs:∀x∈xs,∀H' (Q':VK),ay H1 H'->Q' (f x) H'->te (some x::σ) H' Q')
  (hq:∀H',ay H1 H'->H'=upd H1 D (.lst (xs.map f)) ->Q (.ref D) H'):
  jg 1 (cS 0) te σ J H1 D Q:=by
 refine p5 jw hz hD (λpre acc H'=>acc=pre.map f/\H'=upd H1 D (.lst acc)) ⟨rfl,rfl⟩ (λpre x post acc H' Q' e hl sm eD p k=> ?_) (λacc H' hl sm eD p=> ?_)
 ·obtain⟨rfl,rfl⟩:=p
  refine hs x (by rw[e];simp) _ _ sm (k _ _ (ay.refl _) ⟨by simp,?_⟩)
  rw[Et]
 ·obtain⟨rfl,rfl⟩:=p
  exact hq _ sm rfl
section
variable{X:Cx}{sc:Scope}{N2:List Str}{x:Str}{px:Pos}{elt iter:Expr}{gP p pos:Pos}{wi:TI}{te:TE}{P:Addr}
theorem zB(B:nO sc.names X.env.scope.names [x] N2 X.N)(s:Shared)(H:Hp)(fp:List Addr):PG (X.comp sc ([x]++N2) s H fp) (.Name x px) (cS 0):=by
 rcases B.own x (by simp)with e|e
 ·exact aP (i:=0) B.EN rfl (.inl (iI (env:=X.env) e (.inl rfl))) (.inr (iI (env:=X.env) e (.inl rfl)))
 ·refine aP (i:=0) B.EN rfl (.inr (iI (env:=X.env) e (.inr rfl))) (.inl ?_)
  show(sc.names.lookup x==some NameKind.cell)=true
  rw[e];rfl
theorem gQ(hc:X.calm=true)(hi:PI X (.Name x px) iter wi)(hB:xC sc.names X.env.scope.names [x] N2 X.N=true)(hk:sc.kind= .function)(he:∀s H fp,PE (X.comp sc ([x]++N2) s H fp) elt te)
  (hs:∀x,foldedSetIterable iter X.env x=pure x:=by intro _;rfl):PE X (.ListComp elt [⟨.Name x px,iter,[],0⟩] sc pos) (k9 1 wi (cS 0) te):=
 vO (own:=[x]) hc hi (kZ hB) hk (λs H fp=>zB (kZ hB) s H fp) he hs
theorem HJ{i:Nat}{y:Str}{py spos:Pos}(hN:X.N.Nodup)(hi':X.N[i]?=some y)(hy:X.env.scope.names.lookup y=some .local)(hc:X.calm=true)(hi:PI X (.Name x px) iter wi)(hB:xC sc.names X.env.scope.names [x] N2 X.N=true)(hk:sc.kind= .function)(he:∀s H fp,PE (X.comp sc ([x]++N2) s H fp) elt te)
  (hsw:swapsWith (.ListComp elt [⟨.Name x px,iter,[],0⟩] sc pos) (some (.Name y py)) spos.line X.env=pure true:=by rfl)(hs:∀x,foldedSetIterable iter X.env x=pure x:=by intro _;rfl):
  PS X (.Assign [.Name y py] (.ListComp elt [⟨.Name x px,iter,[],0⟩] sc pos) spos) (Ac (k9 1 wi (cS 0) te) (cS i)):=
 Cn (own:=[x]) hN hi' hy hc hi (kZ hB) hk (λs H fp=>zB (kZ hB) s H fp) he hsw hs
theorem CG{B:Around}(Bk:nO sc.names X.env.scope.names [x] N2 X.N)(hnc:∀y∈sc.names,y.2≠ .cell)(code:Value)(s:Shared)(H:Hp)(fp:List Addr):PG (X.gen B sc ([x]++N2) code s H fp) (.Name x px) (cS 0):=by
 rcases Bk.own x (by simp)with e|e
 ·exact aP (i:=0) Bk.EN rfl (.inl e) (.inr e)
 ·exact absurd rfl (hnc _ (mem_of_lookup e))
def CH(sc:Scope)(ks:List (Str×NameKind))(own N2 N:List Str):Bool:=
 xC sc.names ks own N2 N && (sc.kind== .function) && !sc.isCoroutine && sc.names.all (λy=>y.2 != .cell) && (sc.names.lookup (".0":Str)==some NameKind.local)
theorem qo{own:List Str}(hc:X.calm=true)(hr:X.A.depth<recursionLimit)(cd:fj X.K X.env.code P)(bm:BM X.mg X.base)(h:CH sc X.env.scope.names own N2 X.N=true):Cy X sc own N2 P:=by
 unfold CH at h
 simp only[Bool.and_eq_true]at h
 obtain⟨⟨⟨⟨h1,h2⟩,h3⟩,h4⟩,h5⟩:=h
 refine⟨hc,hr,kZ h1,by simpa using h2,by simpa using h3,λy hy=> ?_,by simpa using h5,cd,bm⟩
 have q:=List.all_eq_true.mp h4 y hy
 simpa using q
theorem EY(hc:X.calm=true)(hr:X.A.depth<recursionLimit)(cd:fj X.K X.env.code P)(bm:BM X.mg X.base)(Cz:Gl X "sum")(hm:X.mg "sum"=none)(hi:PI X (.Name x px) iter wi)(hB:CH sc X.env.scope.names [x] N2 X.N=true)
  (he:∀code s H fp,PE (X.gen X.A.in1.in1 sc ([x]++N2) code s H fp) elt te)
  (hs:∀x,genFold iter X.env x=pure x:=by intro _;rfl)(hst:starEach [.GeneratorExp elt [⟨.Name x px,iter,[],0⟩] sc gP] X.env=[(false,eval (.GeneratorExp elt [⟨.Name x px,iter,[],0⟩] sc gP) X.env)]:=by rfl):
  PE X (.Call (.Name "sum" p) [.GeneratorExp elt [⟨.Name x px,iter,[],0⟩] sc gP] [] pos) (vQ 1 P wi (cS 0) te):=
 have K:=qo hc hr cd bm hB
 zw (own:=[x]) K Cz hm hi (λcode s H fp=>CG K.JM K.nc code s H fp) he hs hst
theorem uh(hc:X.calm=true)(hr:X.A.depth<recursionLimit)(cd:fj X.K X.env.code P)(bm:BM X.mg X.base)(Cz:Gl X "all")(hm:X.mg "all"=none)(hi:PI X (.Name x px) iter wi)(hB:CH sc X.env.scope.names [x] N2 X.N=true)
  (he:∀code s H fp,PE (X.gen X.A.in1.in1 sc ([x]++N2) code s H fp) elt te)
  (hs:∀x,genFold iter X.env x=pure x:=by intro _;rfl)(hst:starEach [.GeneratorExp elt [⟨.Name x px,iter,[],0⟩] sc gP] X.env=[(false,eval (.GeneratorExp elt [⟨.Name x px,iter,[],0⟩] sc gP) X.env)]:=by rfl):
  PE X (.Call (.Name "all" p) [.GeneratorExp elt [⟨.Name x px,iter,[],0⟩] sc gP] [] pos) (Gz 1 P wi (cS 0) te):=
 have K:=qo hc hr cd bm hB
 EW (own:=[x]) K Cz hm hi (λcode s H fp=>CG K.JM K.nc code s H fp) he hs hst
theorem vS{k:Nat}{A:Around}{e:Env}(r:eY (k+1) A):eY k (ER A.in1.in1 e):=
 ⟨r.hd,by have:=r.dp;show A.depth+1+3*k+5<_;omega,by have:=r.un;show A.units+1+1+3+16*k+200<_;omega⟩
end
theorem CI{J:It}{H1:Hp}{xs:List V}{σ:St}{te:TE}{F:Nat->(Nat->V->Prop) ->(Nat->St->Hp->Prop) ->Prop}(jw:JW J H1 xs)(R:Nat->V->Prop)
  (hs:∀i x,xs[i]?=some x-> ∀H' (Q':VK),ay H1 H'->(∀v H2,R i v->ay H' H2->Q' v H2) ->te (some x::σ) H' Q')
  (hF:F xs.length R (λ_ σ' H'=>(∃o,σ'=o::σ)/\ay H1 H')):sN 1 (cS 0) te σ F J H1:=by
 refine⟨xs.length,R,_,⟨⟨none,rfl⟩,ay.refl _⟩,λi σ' H' hi w=> ?_,λσ' H' w=>jw.stop H' w.2,hF⟩
 obtain⟨⟨o,rfl⟩,sm⟩:=w
 refine⟨jw.go i H' sm hi,λx H2 y=> ?_⟩
 obtain⟨rfl,ex⟩:=jw.xw i H' x H2 sm hi y
 show te (some x::σ) H2 _
 exact hs i x ex H2 _ sm λv H3 r s3=>⟨r,⟨_,rfl⟩,sm.trans s3⟩
theorem HK{J:It}{H1:Hp}{xs:List V}{σ:St}{te:TE}{Q:VK}{P:Addr}(jw:JW J H1 xs)(hP:H1 P=some (dH P))(val:Nat->Int)
  (hs:∀i x,xs[i]?=some x-> ∀H' (Q':VK),ay H1 H'->(∀H2,ay H' H2->Q' (.int (val i)) H2) ->te (some x::σ) H' Q')
  (hq:∀H',ay H1 H'->Q (.int (preSum val xs.length)) H'):
  Cw 1 P (cS 0) te σ J H1 Q:=
 ⟨hP,CI jw (λi v=>v= .int (val i)) (λi x ex H' Q' sm k=>hs i x ex H' Q' sm λH2 s2=>k _ _ rfl s2) ⟨val,λi v _ r=>r,λσ' H' w=>hq H' w.2⟩⟩
theorem xM{J:It}{H1:Hp}{xs:List V}{σ:St}{te:TE}{Q:VK}{P:Addr}(jw:JW J H1 xs)(hP:H1 P=some (dH P))(bv:Nat->Bool)
  (hs:∀i x,xs[i]?=some x-> ∀H' (Q':VK),ay H1 H'->(∀H2,ay H' H2->Q' (.bl (bv i)) H2) ->te (some x::σ) H' Q')
  (hq:∀b H',ay H1 H'->(b=true↔ ∀j,j<xs.length->bv j=true) ->Q (.bl b) H'):
  Gy 1 P (cS 0) te σ J H1 Q:=
 ⟨hP,CI jw (λi v=>v= .bl (bv i)) (λi x ex H' Q' sm k=>hs i x ex H' Q' sm λH2 s2=>k _ _ rfl s2) ⟨bv,λi v _ r=>r,λhb σ' H' w=>hq _ H' w.2 ⟨λ_=>hb,λ_=>rfl⟩,
  λj hj hb _ σ' H' w=>hq _ H' w.2 ⟨λz=>(by cases z),λz=>by rw[z j hj]at hb;cases hb⟩⟩⟩
structure Ay(K:PySem.W.Frag)(x qual:Str)(st:Stmt)(f:Addr)(fd:FuncData)(T:Addr):Prop where
 ex:∃(oc:Value)(od:Option Addr)(kV doc pm:Value)(an:Option Addr)(cdv ct:Value)(osl:Array (Option Value)),
  fd=PySem.W.fnOf x qual (fH st) (dO st) (az st) .none kV doc pm an cdv ct/\K.lookup f=some ⟨oc,od,.func fd,osl⟩/\PySem.W.codeIn K cdv qual=true/\fj K cdv T
 kp:PySem.W.keepIn K (.ref f)=true
theorem Ay.ok{P:Program}{w:World}{K:PySem.W.Frag}{mg:Str->Option Value}{base:Heap}{x qual:Str}{st:Stmt}{f T:Addr}{fd:FuncData}{N ps:List Str}{k:Nat}{sp:Sp}(F:Ay K x qual st f fd T)(S:aM N ps (az st))(len:∀vs H Q E,sp vs H Q E->vs.length=ps.length)
  (hbody:∀(cdv:Value)(A:Around)(outer:List Env)(s:Shared)(H:Hp)(vs:List V)(Q:VK)(E:XK),fj K cdv T->eY k (A.deeper (envOfC qual (az st) s.heap.objs.size f cdv)) ->sp vs H Q E->
   ∃t,tV (t8 cV P w K mg base N qual (az st) f cdv A outer s H E).BJ (dO st) t/\t {nx:=λ_ H'=>Q .ig H',rt:=Q} (start N vs) H):m8 P w K mg base cV (k+1) f fd ps sp:=by
 obtain⟨oc,od,kV,doc,pm,an,cdv,ct,osl,rfl,lk,hcd,cd⟩:=F.ex
 refine Gn lk hcd S len λA outer s H vs Q E hr Ep=> ?_
 obtain⟨t,h,q⟩:=hbody cdv A outer s H vs Q E cd hr Ep
 exact⟨t,h.BJ,q⟩
theorem Ay.fn{K:PySem.W.Frag}{x qual:Str}{st:Stmt}{f T:Addr}{fd:FuncData}(F:Ay K x qual st f fd T):Gq K x qual st f fd:=by
 obtain⟨oc,od,kV,doc,pm,an,cdv,ct,osl,e,lk,hcd,cd⟩:=F.ex
 exact⟨⟨oc,od,kV,doc,pm,an,cdv,ct,osl,e,lk,hcd⟩,F.kp⟩
abbrev zC(K:PySem.W.Frag):List V->Hp->VK->Prop:=λxs H Q=> ∃p ys,xs=[.ref p]/\(aU K H p ys∨rD K H p ys)/\ ∀l,H l=none->Q (.ref l) (upd H l (.lst ys))
abbrev zD(K:PySem.W.Frag):List V->Hp->VK->Prop:=λxs H Q=> ∃x n t b,xs=[x,.ty n]/\mj K H x t/\PySem.W.kitOne K t (.type n)=some b/\Q (.bl b) H
theorem iV{X:Cx}{e:Expr}{t:TE}(h:PE X e t):PE X e t:=h
theorem bits_le{k:Int}{n:Nat}(h:k.natAbs<2^n):Builtin.Int.intBits k<=n:=by
 unfold Builtin.Int.intBits
 split
 ·exact Nat.zero_le _
 ·rename_i h0
  have h1:k.natAbs≠0:=λz=>h0 (by have:k=0:=Int.natAbs_eq_zero.mp z;rw[this];rfl)
  exact(Nat.log2_lt h1).mpr h
def jE(i j:Int):Prop:=i.natAbs<2^4096/\j.natAbs<2^4096
theorem jE.ok{i j:Int}(h:jE i j):IntMulOk i j:=by
 have h1:=bits_le h.1
 have h2:=bits_le h.2
 have h3:Builtin.Int.intTooBig (Builtin.Int.intBits i+Builtin.Int.intBits j)=false:=by
  unfold Builtin.Int.intTooBig
  refine decide_eq_false ?_
  have:((Builtin.Int.intBits i+Builtin.Int.intBits j:Nat):Int)<=8192:=by omega
  have e:(8192:Int)<=((bitsLine:Nat):Int):=by decide
  omega
 unfold IntMulOk
 rw[h3]
 simp
section
variable{X:Cx}
theorem aB:pq X (binaryOp .Mult) (rI jE λi j=> .int (i*j)):=Hh λ_ _ _ _ _ _ _ hc q=>mul_int q hc.ok
def JO(i j:Int):Prop:=0<j/\j.natAbs.log2<9000
theorem ni:pq X (binaryOp .FloorDiv) (rI JO λi j=> .int (i/j)):=Hh λi j _ _ _ _ _ hc q=>by
 have h1:(0:Int)<j:=hc.1
 exact floordiv_int (by omega) (by rw[Int.fdiv_eq_ediv_of_nonneg i (by omega)];exact q) (.inl (PyProof.noPylong_of_log2 hc.2))
end
def Tab(H:Hp)(t:Addr)(bs:List Addr)(m:List (List Int)):Prop:=H t=some (.lst (bs.map V.ref))/\Paired (λrow b=>H b=some (.lst (row.map V.int))) m bs
theorem Tab.same{H H':Hp}{t:Addr}{bs:List Addr}{m:List (List Int)}(s:ay H H')(h:Tab H t bs m):Tab H' t bs m:=⟨s _ _ h.1,h.2.CF λ_ _ _ q=>s _ _ q⟩
def cg(m:List (List Int)):Prop:=m.length=3/\ ∀r∈m,r.length=3
theorem HL{H:Hp}{m:List (List Int)}{bs:List Addr}(pr:Paired (λrow b=>H b=some (.lst (row.map V.int))) m bs){b:Addr}(hb:b∈bs):∃row,row∈m/\H b=some (.lst (row.map V.int)):=by
 induction pr with
 |nil=>cases hb
 | @cons r c m bs h t ih=>
  rcases List.mem_cons.mp hb with e|hb
  ·exact⟨r,List.mem_cons_self,by rw[e];exact h⟩
  ·obtain⟨row,q1,q2⟩:=ih hb
   exact⟨row,List.mem_cons_of_mem _ q1,q2⟩
theorem Tab.upd{H:Hp}{t x:Addr}{bs:List Addr}{m:List (List Int)}{o:HO}(h:Tab H t bs m)(h1:t≠x)(h2:x∉bs):Tab (upd H x o) t bs m:=
 ⟨by rw[aH h1];exact h.1,h.2.CF λr b hb e=>by rw[aH (λz=>h2 (by rw[<-z];exact hb))];exact e⟩
theorem CJ{K:PySem.W.Frag}{H:Hp}:∀r:List Int,xH K H (r.map V.int) (r.map PyData.int)
 | []=> .nil
 |x::r=> .cons (.int x) (CJ r)
theorem zE{K:PySem.W.Frag}{H:Hp}{t:Addr}{bs:List Addr}{m:List (List Int)}(h:Tab H t bs m):zy K H (.ref t) (xJ m):=by
 obtain⟨e,pr⟩:=h
 refine .lst (aU.of e) ?_
 clear e
 induction pr with
 |nil=>exact .nil
 | @cons r b m bs h t ih=>exact .cons (.lst (aU.of h) (CJ r)) ih
theorem vU{bs:List Addr}{x:V}(h:x∈bs.map V.ref):∃b,x= .ref b/\b∈bs:=by
 obtain⟨b,hb,e⟩:=List.mem_map.mp h
 exact⟨b,e.symm,hb⟩
def itemsOf(H:Hp)(g:V->V)(x:V):List V:=match x with
 | .ref b=>(match H b with|some (.lst xs)=>xs.map g|_=>[])
 |_=>[]
theorem pD{H:Hp}{g:V->V}{b:Addr}{xs:List V}(h:H b=some (.lst xs)):itemsOf H g (.ref b)=xs.map g:=by
 show(match H b with|some (.lst xs)=>xs.map g|_=>[])=_
 rw[h]
theorem sO{H H':Hp}{f:V->List V}{g:List Int->List Int}:∀{m:List (List Int)}{bs bs':List Addr},Paired (λrow b=>H b=some (.lst (row.map V.int))) m bs->Paired (λx b'=>H' b'=some (.lst (f x))) (bs.map V.ref) bs'->
  (∀row b,H b=some (.lst (row.map V.int)) ->f (.ref b)=(g row).map V.int) ->Paired (λrow b'=>H' b'=some (.lst (row.map V.int))) (m.map g) bs'
 |_,_,_,.nil,h2,_=>by cases h2;exact .nil
 |_,_,_,.cons h t,h2,k=>by
  cases h2 with
  |cons h' t'=>exact .cons (by rw[h',k _ _ h]) (sO t t' k)
def ent(m:List (List Int))(i j:Nat):Int:=(m.getD i []).getD j 0
def mk3(g:Nat->Nat->Int):List (List Int):=[[g 0 0,g 0 1,g 0 2],[g 1 0,g 1 1,g 1 2],[g 2 0,g 2 1,g 2 2]]
theorem cy(g:Nat->Nat->Int):cg (mk3 g):=⟨rfl,λr hr=>by
 simp only[mk3,List.mem_cons,List.not_mem_nil,or_false]at hr
 rcases hr with rfl|rfl|rfl<;>rfl⟩
theorem bK{i:Nat}(h:i<3):i=0∨i=1∨i=2:=by omega
theorem bu(g:Nat->Nat->Int){i j:Nat}(hi:i<3)(hj:j<3):ent (mk3 g) i j=g i j:=by
 rcases bK hi with rfl|rfl|rfl<;>rcases bK hj with rfl|rfl|rfl<;>rfl
theorem um{m:List (List Int)}(h:cg m):m=mk3 (ent m):=by
 obtain⟨h1,h2⟩:=h
 match m,h1,h2 with
 | [r0,r1,r2],_,h2=>
  have l0:=h2 r0 (by simp)
  have l1:=h2 r1 (by simp)
  have l2:=h2 r2 (by simp)
  match r0,r1,r2,l0,l1,l2 with
  | [a,b,c],[d,e,f],[g,h,i],_,_,_=>rfl
theorem fS{xs:List V}{i:Nat}{v:V}(h:xs[i]?=some v):vD xs (i:Int)=some v:=zo h
theorem zF{H:Hp}{t:Addr}{bs:List Addr}{m:List (List Int)}(h:Tab H t bs m){i:Nat}(hi:i<m.length):∃b row,vD (bs.map V.ref) (i:Int)=some (.ref b)/\H b=some (.lst (row.map V.int))/\m[i]?=some row/\b∈bs:=by
 obtain⟨_,pr⟩:=h
 have q:∀{m:List (List Int)}{bs:List Addr}{i:Nat},Paired (λrow b=>H b=some (.lst (row.map V.int))) m bs->i<m.length-> ∃b row,bs[i]?=some b/\H b=some (.lst (row.map V.int))/\m[i]?=some row:=by
  intro m bs i pr
  induction pr generalizing i with
  |nil=>intro hi;exact absurd hi (Nat.not_lt_zero _)
  | @cons r b m bs h t ih=>
   intro hi
   cases i with
   |zero=>exact⟨b,r,rfl,h,rfl⟩
   |succ i=>
    obtain⟨b',r',e1,e2,e3⟩:=ih (i:=i) (by simpa using hi)
    exact⟨b',r',by simpa using e1,e2,by simpa using e3⟩
 obtain⟨b,row,e1,e2,e3⟩:=q pr hi
 exact⟨b,row,fS (by rw[List.getElem?_map,e1];rfl),e2,e3,List.mem_of_getElem? e1⟩
theorem nj{H:Hp}{t:Addr}{bs:List Addr}{m:List (List Int)}(h:Tab H t bs m)(bI:cg m){i j:Nat}(hi:i<3)(hj:j<3):
  ∃(b:Addr)(row:List Int),vD (bs.map V.ref) (i:Int)=some (.ref b)/\H b=some (.lst (row.map V.int))/\vD (row.map V.int) (j:Int)=some (.int (ent m i j)):=by
 obtain⟨b,row,e1,e2,e3,_⟩:=zF h (i:=i) (by rw[bI.1];exact hi)
 refine⟨b,row,e1,e2,fS ?_⟩
 have rl:row.length=3:=bI.2 row (List.mem_of_getElem? e3)
 have e4:m.getD i []=row:=by rw[List.getD_eq_getElem?_getD,e3];rfl
 rw[List.getElem?_map,List.getElem?_eq_getElem (by rw[rl];exact hj)]
 unfold ent
 rw[e4,List.getD_eq_getElem?_getD,List.getElem?_eq_getElem (by rw[rl];exact hj)]
 rfl
theorem aV{H:Hp}{t:Addr}{bs:List Addr}{m:List (List Int)}(h:Tab H t bs m)(bI:cg m){i:Nat}(hi:i<3):
  ∃b,vD (bs.map V.ref) (i:Int)=some (.ref b)/\H b=some (.lst [.int (ent m i 0),.int (ent m i 1),.int (ent m i 2)])/\b∈bs:=by
 obtain⟨b,row,e1,e2,e3,e5⟩:=zF h (i:=i) (by rw[bI.1];exact hi)
 refine⟨b,e1,?_,e5⟩
 have rl:row.length=3:=bI.2 row (List.mem_of_getElem? e3)
 have e4:m.getD i []=row:=by rw[List.getD_eq_getElem?_getD,e3];rfl
 rw[e2]
 unfold ent
 rw[e4]
 match row,rl with
 | [a,b,c],_=>rfl
def Bd(n:Nat)(m:List (List Int)):Prop:=∀i j,i<3->j<3->(ent m i j).natAbs<2^n
theorem Bd.mono{a b:Nat}{m:List (List Int)}(h:Bd a m)(hab:a<=b):Bd b m:=λi j hi hj=>Nat.lt_of_lt_of_le (h i j hi hj) (Nat.pow_le_pow_right (by decide) hab)
theorem bZ{x y:Int}{a b:Nat}(hx:x.natAbs<2^a)(hy:y.natAbs<2^b):(x*y).natAbs<2^(a+b):=by
 rw[Int.natAbs_mul,Nat.pow_add]
 exact Nat.mul_lt_mul_of_lt_of_lt hx hy
theorem j3{x y:Int}{a:Nat}(hx:x.natAbs<2^a)(hy:y.natAbs<2^a):(x+y).natAbs<2^(a+1):=by
 have e:2^(a+1)=2^a+2^a:=by rw[Nat.pow_succ];omega
 omega
theorem ji{x y:Int}{a:Nat}(hx:x.natAbs<2^a)(hy:y.natAbs<2^a):(x-y).natAbs<2^(a+1):=by
 have e:2^(a+1)=2^a+2^a:=by rw[Nat.pow_succ];omega
 omega
theorem aF{x:Int}{a b:Nat}(hx:x.natAbs<2^a)(h:a<=b):x.natAbs<2^b:=Nat.lt_of_lt_of_le hx (Nat.pow_le_pow_right (by decide) h)
def gF(a b:List (List Int)):List (List Int):=mk3 λi j=>ent a i 0*ent b 0 j+ent a i 1*ent b 1 j+ent a i 2*ent b 2 j
def cL(a:List (List Int)):List (List Int):=mk3 λi j=>ent a j i
theorem p6{a b:List (List Int)}{p q:Nat}(ha:Bd p a)(hb:Bd q b):Bd (p+q+2) (gF a b):=λi j hi hj=>by
 unfold gF
 rw[bu _ hi hj]
 exact j3 (j3 (bZ (ha i 0 hi (by decide)) (hb 0 j (by decide) hj)) (bZ (ha i 1 hi (by decide)) (hb 1 j (by decide) hj))) (aF (bZ (ha i 2 hi (by decide)) (hb 2 j (by decide) hj)) (Nat.le_succ _))
theorem qp{a:List (List Int)}{p:Nat}(ha:Bd p a):Bd p (cL a):=λi j hi hj=>by
 unfold cL
 rw[bu _ hi hj]
 exact ha j i hj hi
theorem lA(K:PySem.W.Frag)(n:String):PySem.W.kitOne K (.type n) (.type n)=some true:=by
 unfold PySem.W.kitOne
 rw[if_pos (by simp)]
theorem nk(K:PySem.W.Frag):PySem.W.kitOne K (.type "int") (.type "bool")=some false:=by kernel_rfl
theorem HM{xs:List V}{k:Int}(h0:0<=k)(h:k<(xs.length:Int)):∃v,vD xs k=some v/\xs[k.toNat]?=some v:=by
 have hk:k.toNat<xs.length:=by omega
 have ek:k=((k.toNat:Nat):Int):=by omega
 have q:vD xs ((k.toNat:Nat):Int)=some xs[k.toNat]:=zo (by rw[List.getElem?_eq_getElem hk])
 rw[<-ek]at q
 exact⟨xs[k.toNat],q,by rw[List.getElem?_eq_getElem hk]⟩
theorem EZ{ns:List Int}{k:Int}(h0:0<=k)(h:k<(ns.length:Int)):∃z:Int,vD (ns.map V.int) k=some (.int z):=by
 obtain⟨v,h1,h2⟩:=HM (xs:=ns.map V.int) h0 (by rw[List.length_map];exact h)
 rw[List.getElem?_map]at h2
 cases q:ns[k.toNat]? with
 |none=>rw[q]at h2;cases h2
 |some z=>rw[q]at h2;cases h2;exact⟨z,h1⟩
theorem at2{x y:V}{i:Int}(h0:0<=i)(h:i<2):∃v,vD [x,y] i=some v/\(v=x∨v=y):=by
 have c:i=0∨i=1:=by omega
 rcases c with rfl|rfl
 ·exact⟨x,rfl,.inl rfl⟩
 ·exact⟨y,rfl,.inr rfl⟩
section
variable{X:Cx}
theorem HN{bs:List Bool}{its:List Value}{i:Nat}{v:Value}(r:Vals (bs.map V.bl) its)(h:its[i]?=some v):∃b,bs[i]?=some b/\v= .bool b:=by
 have hl:=r.length
 rw[List.length_map]at hl
 have hi:i<bs.length:=by
  have:=(List.getElem?_eq_some_iff.mp h).1
  omega
 have e:(bs.map V.bl)[i]?=some (.bl bs[i]):=by rw[List.getElem?_map,List.getElem?_eq_getElem hi];rfl
 obtain⟨u,h1,h2⟩:=r.get e
 rw[h]at h1
 cases h1
 exact⟨bs[i],List.getElem?_eq_getElem hi,h2⟩
theorem rJ(hc:X.calm=true):pA X (.builtin "all") (λxs H Q=> ∃p bs,xs=[.ref p]/\aU X.K H p ((bs:List Bool).map V.bl)/\Q (.bl (bs.all id)) H):=by
 intro pins s σ H xs us Q I r h
 obtain⟨p,bs,rfl,hq,q⟩:=h
 obtain⟨u,rfl,rx⟩:=vals1 r
 cases rx
 obtain⟨its,rv,pl,hz⟩:=I.list hq
 have hl:=rv.length
 rw[List.length_map]at hl
 refine call_all_walk (wpAny_pyIter_list pl.isList ?_)
 have hp:p<s.heap.objs.size:=let⟨o,n,e,_⟩:=pl;Heap.lt_size e
 have keep:∀b o,s.heap.get? b=some o->(s.heap.push {cls:= .type "list_iterator",data:= .fields #[rawInt 0,.ref p]}).get? b=some o:=λb o e=>Heap.get?_push_of_some _ e
 refine⟨s.heap.objs.size,[s.heap.objs.size,p],[s.heap.objs.size],its.toArray.size,_,_,λi=>(bs[i]?).getD true,rfl,Walks.list (A:=X.A.in1) (show X.A.in1.handled=none from I.ok.hd hc) s.heap.objs.size p (Nat.ne_of_lt hp) its.toArray,⟨⟨_,Heap.get?_push_size _ rfl,rfl,rfl⟩,pl.isList.at λo e=>Heap.get?_push_of_some _ e⟩,λi v s' Q' E' hv OC=> ?_,λh' tk k=> ?_⟩
 ·obtain⟨b,e1,rfl⟩:=HN rv (by simpa using hv)
  have Nc:Q' ((bs[i]?).getD true) s':=OC
  rw[e1]at Nc
  exact wpAny_truthy_bool Nc
 ·refine⟨.bl (bs.all id),H,I.kept (t':=tk) λb o e=>k b o (λz=> ?_) (Heap.get?_push_of_some _ e),?_,q⟩
  ·exact absurd (Heap.lt_size e) (by rw[List.mem_singleton.mp z];exact Nat.lt_irrefl _)
  ·have e:(List.range its.toArray.size).all (λi=>(bs[i]?).getD true)=bs.all id:=by
    rw[List.size_toArray,<-hl,Bool.eq_iff_iff,List.all_eq_true,List.all_eq_true]
    constructor
    ·intro h b hb
     obtain⟨j,hj,rfl⟩:=List.getElem_of_mem hb
     have:=h j (List.mem_range.mpr hj)
     rw[List.getElem?_eq_getElem hj]at this
     exact this
    ·intro h j hj
     have hj':=List.mem_range.mp hj
     rw[List.getElem?_eq_getElem hj']
     exact h _ (List.getElem_mem hj')
   show Value.bool _=Value.bool _
   rw[e]
end
theorem lY{J:It}{xs:List V}{H1:Hp}{σ:St}{te:TE}{Q:VK}{D:Addr}(jw:JW J H1 xs)(h3:xs.length=3)(hD:H1 D=none)(g:Nat->Int)(hs:∀j x,j<3->xs[j]?=some x-> ∀H' (Q':VK),ay H1 H'->(∀H2,ay H' H2->Q' (.int (g j)) H2) ->te (some x::σ) H' Q')
  (hq:∀H',ay H1 H'->H' D=some (.lst [.int (g 0),.int (g 1),.int (g 2)]) ->Q (.ref D) H'):jg 1 (cS 0) te σ J H1 D Q:=by
 refine p5 jw (by rw[h3];decide) hD (λpre acc H'=>acc=(List.range pre.length).map λj=>V.int (g j)) rfl (λpre x post acc H' Q' e hl sm eD p k=> ?_) (λacc H' hl sm eD p=> ?_)
 ·have hlen:pre.length<3:=by
   have:=congrArg List.length e
   rw[h3]at this
   simp at this
   omega
  refine hs pre.length x hlen (by rw[e];simp) H' Q' sm λH2 s2=>k _ H2 s2 ?_
  rw[p]
  simp[List.range_succ]
 ·refine hq H' sm ?_
  rw[eD,p,h3]
  rfl
theorem nv{J:It}{xs:List V}{H1:Hp}{σ:St}{te:TE}{Q:VK}{D:Addr}(jw:JW J H1 xs)(h3:xs.length=3)(hD:H1 D=none)(g:Nat->Nat->Int)
  (hs:∀i x,i<3->xs[i]?=some x-> ∀H' (Q':VK),ay H1 H'->(∀b H2,H' b=none->ay H' H2->H2 b=some (.lst [.int (g i 0),.int (g i 1),.int (g i 2)]) ->Q' (.ref b) H2) ->te (some x::σ) H' Q')
  (hq:∀bs H',ay H1 H'->(∀b∈bs,H1 b=none) ->D∉bs->Tab H' D bs (mk3 g) ->Q (.ref D) H'):jg 1 (cS 0) te σ J H1 D Q:=by
 refine p5 jw (by rw[h3];decide) hD (λpre acc H'=> ∃bs:List Addr,acc=bs.map V.ref/\(∀b∈bs,H1 b=none)/\D∉bs/\Paired (λi b=>H' b=some (.lst [.int (g i 0),.int (g i 1),.int (g i 2)])) (List.range pre.length) bs) ⟨[],rfl,λ_ h=>(nomatch h),by simp,.nil⟩ (λpre x post acc H' Q' e hl sm eD p k=> ?_) (λacc H' hl sm eD p=> ?_)
 ·obtain⟨bs,rfl,fr,nD,pr⟩:=p
  have hlen:pre.length<3:=by
   have:=congrArg List.length e
   rw[h3]at this
   simp at this
   omega
  refine hs pre.length x hlen (by rw[e];simp) H' _ sm λb H2 hb s2 eb=>k _ _ s2 ⟨bs++ [b],by simp,?_,?_,?_⟩
  ·intro c hc
   rcases List.mem_append.mp hc with z|z
   ·exact fr c z
   ·rw[List.mem_singleton.mp z];exact sm.none hb
  ·intro z
   rcases List.mem_append.mp z with z|z
   ·exact nD z
   ·rw[<-List.mem_singleton.mp z,eD]at hb;cases hb
  ·have nb:b≠D:=λz=>by rw[z,eD]at hb;cases hb
   have er:List.range (pre++ [x]).length=List.range pre.length++ [pre.length]:=by simp[List.range_succ]
   rw[er]
   refine Paired.snoc (pr.CF λy c hc q=> ?_) (by rw[aH nb];exact eb)
   rw[aH (λz=>nD (by rw[<-z];exact hc))]
   exact s2 _ _ q
 ·obtain⟨bs,rfl,fr,nD,pr⟩:=p
  refine hq bs H' sm fr nD ⟨eD,?_⟩
  rw[h3]at pr
  have OD:Paired (λi b=>H' b=some (.lst [.int (g i 0),.int (g i 1),.int (g i 2)])) [0,1,2] bs:=pr
  cases OD with
  |cons h0 t0=>cases t0 with
   |cons h1 t1=>cases t1 with
    |cons h2 t2=>
     cases t2
     exact .cons h0 (.cons h1 (.cons h2 .nil))
theorem d7{n k:Nat}{x:V}(h:(lz n)[k]?=some x):k<n/\x= .int (k:Int):=by
 unfold lz at h
 rw[List.getElem?_map]at h
 cases q:(List.range n)[k]? with
 |none=>rw[q]at h;cases h
 |some z=>
  rw[q]at h
  have hz:=List.getElem?_eq_some_iff.mp q
  obtain⟨h1,h2⟩:=hz
  have OE:k<n:=by simpa using h1
  rw[List.getElem_range]at h2
  subst h2
  cases h
  exact⟨OE,rfl⟩
theorem Ma(val:Nat->Int):preSum val 3=val 0+val 1+val 2:=by simp[preSum]
theorem CK{d:PyData}(h:SeqAt.shaped d=true):PyData.eqv d d=true:=SeqAt.eqv_refl d (SeqAt.canLay_of_shaped h)
theorem Fb{K:PySem.W.Frag}{H:Hp}{x y:V}{Q:VK}(d:PyData)(hx:zy K H x d)(hy:zy K H y d)(hs:SeqAt.shaped d=true)(q:Q (.bl true) H):Av K false x y H Q:=
 ⟨d,d,hx,hy,hs,hs,by rw[CK hs];exact q⟩
theorem CL{J:It}{xs:List V}{H1:Hp}{σ:St}{te:TE}{Q:VK}{D:Addr}(jw:JW J H1 xs)(hz:xs.length<=sizeLine)(hD:H1 D=none)(hs:∀x∈xs,∀H' (Q':VK),ay H1 H'->Q' (.bl true) H'->te (some x::σ) H' Q')
  (hq:∀H',ay H1 H'->H' D=some (.lst ((List.replicate xs.length true).map V.bl)) ->Q (.ref D) H'):jg 1 (cS 0) te σ J H1 D Q:=
 Ax jw hz hD (λ_=> .bl true) hs λH' s e=>hq H' s (by rw[e,av];simp[List.map_const'])
theorem gq{f g:Nat->Nat->Int}(h:∀i j,i<3->j<3->f i j=g i j):mk3 f=mk3 g:=by
 simp only[mk3,h 0 0 (by decide) (by decide),h 0 1 (by decide) (by decide),h 0 2 (by decide) (by decide),h 1 0 (by decide) (by decide),h 1 1 (by decide) (by decide),h 1 2 (by decide) (by decide),h 2 0 (by decide) (by decide),h 2 1 (by decide) (by decide),h 2 2 (by decide) (by decide)]
theorem aJ(a b:List (List Int)){i j:Nat}(hi:i<3)(hj:j<3):ent (gF a b) i j=ent a i 0*ent b 0 j+ent a i 1*ent b 1 j+ent a i 2*ent b 2 j:=bu _ hi hj
theorem aT(a:List (List Int)){i j:Nat}(hi:i<3)(hj:j<3):ent (cL a) i j=ent a j i:=bu _ hi hj
theorem xN(a b c:List (List Int)):gF (gF a b) c=gF a (gF b c):=by
 refine gq λi j hi hj=> ?_
 rw[aJ a b hi (by decide),aJ a b hi (by decide),aJ a b hi (by decide),aJ b c (by decide) hj,aJ b c (by decide) hj,aJ b c (by decide) hj]
 grind
theorem qt(a b:List (List Int)):cL (gF a b)=gF (cL b) (cL a):=by
 refine gq λi j hi hj=> ?_
 rw[aJ a b hj hi,aT b hi (by decide),aT b hi (by decide),aT b hi (by decide),aT a (by decide) hj,aT a (by decide) hj,aT a (by decide) hj]
 grind
theorem vV{a:List (List Int)}(h:cg a):cL (cL a)=a:=by
 rw[um h]
 refine gq λi j hi hj=> ?_
 rw[aT _ hj hi,bu _ hi hj]
def fm(m b:List (List Int)):List (List Int):=gF (gF b m) (cL b)
theorem sP{m:List (List Int)}(b:List (List Int))(hb:cg b):cL (fm m b)=fm (cL m) b:=by
 unfold fm
 rw[qt,qt,vV hb,xN]
def ef(m:List (List Int))(i j:Nat):Int:=ent m ((i+1)%3) ((j+1)%3)*ent m ((i+2)%3) ((j+2)%3) -ent m ((i+1)%3) ((j+2)%3)*ent m ((i+2)%3) ((j+1)%3)
def aA(m:List (List Int)):Int:=ent m 0 0*ef m 0 0+ent m 0 1*ef m 0 1+ent m 0 2*ef m 0 2
theorem cO(m:List (List Int)):aA m=ent m 0 0*(ent m 1 1*ent m 2 2-ent m 1 2*ent m 2 1)+ent m 0 1*(ent m 1 2*ent m 2 0-ent m 1 0*ent m 2 2)+ent m 0 2*(ent m 1 0*ent m 2 1-ent m 1 1*ent m 2 0):=rfl
theorem sQ(a b:List (List Int)):aA (gF a b)=aA a*aA b:=by
 rw[cO,cO,cO]
 simp only[aJ a b (show 0<3 by decide) (show 0<3 by decide),aJ a b (show 0<3 by decide) (show 1<3 by decide),aJ a b (show 0<3 by decide) (show 2<3 by decide),aJ a b (show 1<3 by decide) (show 0<3 by decide),aJ a b (show 1<3 by decide) (show 1<3 by decide),aJ a b (show 1<3 by decide) (show 2<3 by decide),aJ a b (show 2<3 by decide) (show 0<3 by decide),aJ a b (show 2<3 by decide) (show 1<3 by decide),aJ a b (show 2<3 by decide) (show 2<3 by decide)]
 grind
theorem m3(i:Nat)(k:Nat):((i:Int)+(k:Int))%3=(((i+k)%3:Nat):Int):=by omega
theorem rA(i:Nat):i%3<3:=Nat.mod_lt _ (by decide)
theorem xO(f:Nat->Int){c:Nat}(h:c<3):vD [V.int (f 0),.int (f 1),.int (f 2)] (c:Int)=some (.int (f c)):=by
 rcases bK h with rfl|rfl|rfl<;>rfl
theorem zG{m:List (List Int)}{n:Nat}(h:Bd n m)(i j:Nat):(ef m i j).natAbs<2^(n+n+1):=
 ji (bZ (h _ _ (rA _) (rA _)) (h _ _ (rA _) (rA _))) (bZ (h _ _ (rA _) (rA _)) (h _ _ (rA _) (rA _)))
theorem gB{H:Hp}{t b0 b1 b2:Addr}(g:Nat->Nat->Int)(e:H t=some (.lst [.ref b0,.ref b1,.ref b2]))(h0:H b0=some (.lst [.int (g 0 0),.int (g 0 1),.int (g 0 2)]))(h1:H b1=some (.lst [.int (g 1 0),.int (g 1 1),.int (g 1 2)]))
  (h2:H b2=some (.lst [.int (g 2 0),.int (g 2 1),.int (g 2 2)])):Tab H t [b0,b1,b2] (mk3 g):=⟨e,.cons h0 (.cons h1 (.cons h2 .nil))⟩
def gR(m:List (List Int)):List (List Int):=mk3 λi j=>ef m j i
def nA(d:Int):List (List Int):=mk3 λi j=>if i=j then d else 0
theorem lB(m:List (List Int)){i j:Nat}(hi:i<3)(hj:j<3):ent (gR m) i j=ef m j i:=bu _ hi hj
theorem vW(m:List (List Int)):gF (gR m) m=nA (aA m):=by
 refine gq λi j hi hj=> ?_
 rw[lB m hi (by decide),lB m hi (by decide),lB m hi (by decide),cO]
 rcases bK hi with rfl|rfl|rfl<;>rcases bK hj with rfl|rfl|rfl<;>simp only[ef,Nat.reduceAdd,Nat.reduceMod,Nat.reduceEqDiff,if_true,if_false]<;>grind
structure CN(X:Cx)(st:List Stmt)(t:TS):Prop where
 h:tV X st t
theorem kM{X:Cx}{st:List Stmt}{t:TS}(h:CN X st t):tV X st t:=h.h
theorem ak{X:Cx}{a:Stmt}{b:List Stmt}{ta tb:TS}(ha:PS X a ta)(hb:CN X b tb):CN X (a::b) (tZ ta tb):=⟨BU ha hb.h⟩
theorem aL{X:Cx}{a:Stmt}{ta:TS}(ha:PS X a ta):CN X [a] ta:=⟨dz ha⟩
section
variable{X:Cx}{pins:List (Addr×Obj)}{σ:St}{H:Hp}{s:Shared}{h':Heap}
theorem Inv.nB{t':Nat}{ch:List Addr}(I:Inv X pins σ H s)(k:∀b o,b∉ch->s.heap.get? b=some o->h'.get? b=some o)(hf:∀b∈ch,e9 X pins H b):Inv X pins σ H {s with heap:=h',toks:=t'}:=by
 have Jg:∀b u,H b=some u->b∉ch:=λb u e z=>by have:=(hf b z).1;rw[e]at this;cases this
 refine I.step (g':=s.gens) (d':=s.drawn) (ch:=ch) (λb hb=> ?_) (λb o _ _ hc e _=>k b o hc e) (λb o _ _ hc e _=>⟨o.slots,k b o hc e⟩) (λ_ _ _ _ n=>n)
  (λb o hc e=>⟨o,k b o hc e⟩) (λ_ _ e=>e) (λ_ _ _ e=>e) (λb ps e=>⟨#[],by rw[e];simp⟩) (λm hm=> ?_) (λb u e=> ?_) (.refl I.bare.bare)
 ·obtain⟨f0,f1,f2,f3,f4,f5⟩:=hf b hb
  exact⟨f3,f1,f4,f5⟩
 ·obtain⟨o,es,ep,ho,r⟩:=hm
  exact⟨o,es,ep,k _ o (λz=>(hf _ z).2.1 rfl) ho,r⟩
 ·refine(I.hok b u e).stay (λc v hc q=>k c v ?_ q) (λ_ q=>q) λ_ _ q=>q
  rcases hc with z|z
  ·rw[z];exact Jg b u e
  ·exact Jg c _ z
theorem Inv.GA{T:Addr}{o:HO}(I:Inv X pins σ H s)(hf:e9 X pins H T)(new:dW X.prog X.w (upd H T o) s.heap T o):Inv X pins σ (upd H T o) s:=by
 obtain⟨f0,f1,f2,f3,f4,f5⟩:=hf
 have ne:∀{b u},H b=some u->b≠T:=λ {b u} e z=>by rw[z,f0]at e;cases e
 refine I.step (g':=s.gens) (d':=s.drawn) (t':=s.toks) (h':=s.heap) (ch:=[T]) (λb hb=> ?_) (λb o _ _ _ e _=>e) (λb o _ _ _ e _=>⟨o.slots,e⟩) (λb o hc _ n=> ?_)
  (λb o _ e=>⟨o,e⟩) (λb xs e=>by rw[aH (ne e)];exact e) (λb _ _ e=>by rw[aH (ne e)];exact e) (λb ps e=>⟨#[],by rw[aH (ne e),e];simp⟩) (λm hm=>hm) (λb u e=> ?_) (.refl I.bare.bare)
 ·have e:b=T:=by simpa using hb
  subst e
  exact⟨f3,f1,f4,f5⟩
 ·rw[aH (λz=>hc (by simp[z]))];exact n
 ·by_cases hb:b=T
  ·subst hb;rw[av]at e;cases e;exact new
  ·rw[aH hb]at e
   exact(I.hok b u e).stay (λc v _ q=>q) (λc q=>by rw[aH (ne q)];exact q) (λc xs q=>by rw[aH (ne q)];exact q) λc ob xs q=>by rw[aH (ne q)];exact q
end
def JP(K:PySem.W.Frag)(a b:Addr):It:=
 ⟨λi H=> ∃xs ys x y,aU K H a xs/\aU K H b ys/\xs[i]?=some x/\ys[i]?=some y,
  λi H v H'=> ∃T x y,v= .ref T/\H T=none/\(∀xs,aU K H a xs->xs[i]?=some x)/\(∀ys,aU K H b ys->ys[i]?=some y)/\H'=upd H T (.tup [x,y]),
  λi H=> ∃xs ys,aU K H a xs/\aU K H b ys/\(xs.length<=i∨ys.length<=i)⟩
def JQ(z TI TO i1 i2 a b:Addr)(i:Nat)(h:Heap):Prop:=
 IsZip h z TI TO .none/\IsPair h TI (.ref i1) (.ref i2)/\(∃p q,IsPair h TO p q)/\h.IsListIter i1 a i/\h.IsListIter i2 b i
theorem CO{P:Program}{w:World}{K:PySem.W.Frag}{elts:List Expr}{x1}{pos:Pos}(z TI TO i1 i2 a b:Addr)(D:ZipApart z TI TO i1 i2 a b):Turn P w K (.Tuple elts x1 pos) (JP K a b) [z,TI,TO,i1,i2] z (JQ z TI TO i1 i2 a b) where
 mem:=by simp
 obj:=λi h st c hc=>by
  obtain⟨hz,hTI,⟨p,q,hTO⟩,⟨o1,e1,c1,d1⟩,⟨o2,e2,c2,d2⟩⟩:=st
  simp only[List.mem_cons,List.not_mem_nil,or_false]at hc
  rcases hc with rfl|rfl|rfl|rfl|rfl
  ·exact⟨_,hz,λv e=>by cases e⟩
  ·exact⟨_,hTI,λv e=>by cases e⟩
  ·exact⟨_,hTO,λv e=>by cases e⟩
  ·exact⟨_,e1,λv e=>by rw[d1]at e;cases e⟩
  ·exact⟨_,e2,λv e=>by rw[d2]at e;cases e⟩
 keep:=λi h h' st k=>by
  obtain⟨hz,hTI,⟨p,q,hTO⟩,h1,h2⟩:=st
  exact⟨k z (by simp) _ hz,k TI (by simp) _ hTI,⟨p,q,k TO (by simp) _ hTO⟩,h1.at λo e=>k i1 (by simp) o e,h2.at λo e=>k i2 (by simp) o e⟩
 item:=by
  intro X hP hw hK hc i pins s σ H E I hf st hg
  subst hP hw hK
  obtain⟨xs,ys,x,y,KJ,KL,hx,hy⟩:=hg
  obtain⟨hz,hTI,⟨p,q,hTO⟩,h1,h2⟩:=st
  obtain⟨ia,ra,pa,za⟩:=I.list KJ
  obtain⟨ib,rb,pb,zb⟩:=I.list KL
  obtain⟨u,hu,ru⟩:=ra.get hx
  obtain⟨v,hv,rv⟩:=rb.get hy
  refine wpAny_pyNext_zip_item D hz hTI hTO h1 h2 pa.isList pb.isList (x:=u) (y:=v) (by simpa using hu) (by simpa using hv) λh' a1 a2 a3 a4 a5 a6 hk=> ?_
  refine⟨_,rfl,?_⟩
  have Mb:=hk _ _ D.TIz D.TITO D.TIi1 D.TIi2 hTI
  have f4:∀c∈ [z,TO,i1,i2],e9 X pins H c:=λc hc=>hf c (by simp only[List.mem_cons,List.not_mem_nil,or_false]at hc ⊢;rcases hc with rfl|rfl|rfl|rfl<;>simp)
  have I1:Inv X pins σ H {s with heap:=h'}:=I.nB (t':=s.toks) (ch:=[z,TO,i1,i2]) (λc o hc e=>hk c o (λq=>hc (by simp[q])) (λq=>hc (by simp[q])) (λq=>hc (by simp[q])) (λq=>hc (by simp[q])) e) f4
  have hn:H s.heap.objs.size=none:=I.hok.fresh (Nat.le_refl _)
  have fT:=I.Ad (b:=s.heap.objs.size) (Nat.le_refl _) hn
  have I2:Inv X pins σ (upd H s.heap.objs.size (.tup [x,y])) {s with heap:=h'}:=I1.GA fT ⟨by show 2<=sizeLine;decide,[u,v],.cons ru (.cons rv .nil),⟨_,a5,rfl,_,rfl⟩⟩
  refine wpAny_letOwnedTupleGo_zip (s:={s with heap:=h'}) a1 λh2' hz' hs'=> ?_
  have lt:∀{c o},s.heap.get? c=some o->c≠s.heap.objs.size:=λe=>Nat.ne_of_lt (Heap.lt_size e)
  obtain⟨o1,e1,_⟩:=id h1
  obtain⟨o2,e2,_⟩:=id h2
  have neT:∀c∈ [z,TI,TO,i1,i2],c≠s.heap.objs.size:=λc hc=>by
   simp only[List.mem_cons,List.not_mem_nil,or_false]at hc
   rcases hc with rfl|rfl|rfl|rfl|rfl
   ·exact lt hz
   ·exact lt hTI
   ·exact lt hTO
   ·exact lt e1
   ·exact lt e2
  obtain⟨g0,g1,g2,g3,g4,g5⟩:=hf z (by simp)
  have I3:Inv X pins σ (upd H s.heap.objs.size (.tup [x,y])) {s with heap:=h2'}:=Inv.turned (s:={s with heap:=h'}) (h':=h2') I2 (it:=z) (t':=s.toks) (λc o hc e=>hs'.extBut _ _ hc e) (by rw[aH (neT z (by simp))];exact g0) g1 g3 g4 g5
  refine⟨.ref s.heap.objs.size,_,I3,rfl,⟨_,x,y,rfl,hn,λzs hzs=>by rw[I.qc hzs KJ];exact hx,λzs hzs=>by rw[I.qc hzs KL];exact hy,rfl⟩,?_,λc hc=> ?_⟩
  ·exact⟨hz',hs'.extBut _ _ D.TIz Mb,⟨_,_,hs'.extBut _ _ D.TOz a2⟩,a3.extBut hs'.extBut D.i1z,a4.extBut hs'.extBut D.i2z⟩
  ·rw[aH (neT c hc)];exact(hf c hc).1
 done:=by
  intro X hP hw hK hc i pins s σ H E I hf st hg
  subst hP hw hK
  obtain⟨xs,ys,KJ,KL,hend⟩:=hg
  obtain⟨hz,hTI,⟨p,q,hTO⟩,h1,h2⟩:=st
  obtain⟨ia,ra,pa,za⟩:=I.list KJ
  obtain⟨ib,rb,pb,zb⟩:=I.list KL
  have la:=ra.length
  have lb:=rb.length
  have f4:∀c∈ [z,TO,i1,i2],e9 X pins H c:=λc hc=>hf c (by simp only[List.mem_cons,List.not_mem_nil,or_false]at hc ⊢;rcases hc with rfl|rfl|rfl|rfl<;>simp)
  refine wpAny_pyNext_zip_end (I.ok.hd hc) D hz hTI hTO h1 h2 pa.isList pb.isList (hend.imp (λq=>by simp;omega) (λq=>by simp;omega)) λh' hk=>⟨rfl,?_⟩
  exact I.nB (t':=s.toks) (ch:=[z,TO,i1,i2]) (λc o hc e=>hk c o (λq=>hc (by simp[q])) (λq=>hc (by simp[q])) (λq=>hc (by simp[q])) (λq=>hc (by simp[q])) e) f4
 self:=λ_ _ _ _ _ st h=>wpAny_pyIter_zip st.1 h
def Mc(K:PySem.W.Frag)(ta:TA):TI:=λσ H R=>ta σ H λvs H1=> ∃a b xs ys,vs=[.ref a,.ref b]/\aU K H1 a xs/\aU K H1 b ys/\R (JP K a b) H1
section
variable{X:Cx}
theorem xP{elts:List Expr}{x1}{tpos:Pos}{a b:Expr}{ta:TA}{p pos:Pos}(hg:Gl X "zip")(hm:X.mg "zip"=none)(ha:PA X [a,b] ta)(hs:starEach [a,b] X.env=[(false,eval a X.env),(false,eval b X.env)]:=by rfl)(hs2:starEach [b] X.env=[(false,eval b X.env)]:=by rfl):
  PI X (.Tuple elts x1 tpos) (.Call (.Name "zip" p) [a,b] [] pos) (Mc X.K ta):=by
 intro pins s σ H R I h
 refine Call_ (jS I hg hm boot_zip (PyProof.Rows.callWith_type1 (eV (ha pos pins s σ H _ I h) λus s1 ⟨vs,H1,I1,r1,q1⟩=> ?_) (by rw[hs,hs2]) (by rw[hs2];rfl)))
 obtain⟨l1,l2,xs,ys,e,q1,q2,q⟩:=q1
 subst e
 cases r1 with
 |cons r rr=>
  cases rr with
  |cons r' rr=>
   cases rr
   cases r
   cases r'
   obtain⟨ia,ra,pa,za⟩:=I1.list q1
   obtain⟨ib,rb,pb,zb⟩:=I1.list q2
   have OF:l1<s1.heap.objs.size:=by obtain⟨o,e,_⟩:=pa.isList;exact Heap.lt_size e
   have KN:l2<s1.heap.objs.size:=by obtain⟨o,e,_⟩:=pb.isList;exact Heap.lt_size e
   refine call_zip_2 pa.isList pb.isList λh' hz hTI hTO hi1 hi2 hsz hk=> ?_
   refine wpAny_pyIter_zip hz ?_
   refine⟨_,[s1.heap.objs.size+4,s1.heap.objs.size+2,s1.heap.objs.size+3,s1.heap.objs.size,s1.heap.objs.size+1],_,_,H1,rfl,I1.kept (t':=s1.toks) hk,CO _ _ _ _ _ l1 l2 (zipApart_new OF KN),⟨hz,hTI,⟨_,_,hTO⟩,hi1,hi2⟩,λc hc=> ?_,q⟩
   have hc':s1.heap.objs.size<=c:=by
    simp only[List.mem_cons,List.not_mem_nil,or_false]at hc
    rcases hc with rfl|rfl|rfl|rfl|rfl<;>first|exact Nat.le_refl _|exact Nat.le_add_right _ _
   exact I1.Ad hc' (I1.hok.fresh hc')
end
section
variable{X:Cx}{sc:Scope}{N2:List Str}{x y:Str}{px BK tpos:Pos}{x1:Nat}{elt iter:Expr}{gP p pos:Pos}{wi:TI}{te:TE}{P:Addr}
theorem vX{own:List Str}{i:Nat}{z:Str}(B:nO sc.names X.env.scope.names own N2 X.N)(hz:own[i]?=some z)(s:Shared)(H:Hp)(fp:List Addr):PG (X.comp sc (own++N2) s H fp) (.Name z px) (cS i):=by
 have hi:(X.comp sc (own++N2) s H fp).N[i]?=some z:=by
  show(own++N2)[i]?=some z
  rw[List.getElem?_append_left (List.getElem?_eq_some_iff.mp hz).1];exact hz
 rcases B.own z (List.mem_of_getElem? hz)with e|e
 ·exact aP (i:=i) B.EN hi (.inl (iI (env:=X.env) e (.inl rfl))) (.inr (iI (env:=X.env) e (.inl rfl)))
 ·refine aP (i:=i) B.EN hi (.inr (iI (env:=X.env) e (.inr rfl))) (.inl ?_)
  show(sc.names.lookup z==some NameKind.cell)=true
  rw[e];rfl
def g2(K:PySem.W.Frag):TG:=Jq K 2 (BW (cS 0) (BW (cS 1) Jo))
theorem CP(hc:X.calm=true)(B:nO sc.names X.env.scope.names [x,y] N2 X.N)(s:Shared)(H:Hp)(fp:List Addr):PG (X.comp sc ([x,y]++N2) s H fp) (.Tuple [.Name x px,.Name y BK] x1 tpos) (g2 X.K):=
 t6 (X:=X.comp sc ([x,y]++N2) s H fp) hc (aO (vX (i:=0) B rfl s H fp) (aO (vX (i:=1) B rfl s H fp) eW))
theorem xQ(hc:X.calm=true)(hi:PI X (.Tuple [.Name x px,.Name y BK] x1 tpos) iter wi)(hB:xC sc.names X.env.scope.names [x,y] N2 X.N=true)(hk:sc.kind= .function)(he:∀s H fp,PE (X.comp sc ([x,y]++N2) s H fp) elt te)
  (hs:∀x,foldedSetIterable iter X.env x=pure x:=by intro _;rfl):PE X (.ListComp elt [⟨.Tuple [.Name x px,.Name y BK] x1 tpos,iter,[],0⟩] sc pos) (k9 2 wi (g2 X.K) te):=
 vO (own:=[x,y]) hc hi (kZ hB) hk (λs H fp=>CP hc (kZ hB) s H fp) he hs
end
theorem vY{K:PySem.W.Frag}{H1:Hp}{a b:Addr}{xs ys:List V}{σ:St}{te:TE}{Q:VK}(ha:aU K H1 a xs)(hb:aU K H1 b ys)(hl:xs.length=ys.length)(hz:xs.length<=sizeLine){D:Addr}(hD:H1 D=none)(f:V->V->V)
  (hs:∀(i:Nat) x y,xs[i]?=some x->ys[i]?=some y-> ∀H' (Q':VK),ay H1 H'->Q' (f x y) H'->te (some x::some y::σ) H' Q')
  (hq:∀H',ay H1 H'->H' D=some (.lst (List.zipWith f xs ys)) ->Q (.ref D) H'):jg 2 (g2 K) te σ (JP K a b) H1 D Q:=by
 refine⟨λi m acc σ' H'=>m=xs.length-i/\i<=xs.length/\acc=(List.zipWith f xs ys).take i/\(∃o o',σ'=o::o'::σ)/\ay H1 H'/\H' D=some (.lst acc),⟨xs.length,rfl,Nat.zero_le _,by simp,⟨none,none,rfl⟩,ay.up hD,av⟩,?_⟩
 rintro i m acc σ' H' ⟨rfl,hi,hacc,⟨o,o',rfl⟩,sm,eD⟩
 have OG:acc.length=i:=by rw[hacc];simp;omega
 by_cases hlt:i<xs.length
 ·have hlt':i<ys.length:=by omega
  refine .inr ⟨⟨xs,ys,xs[i],ys[i],sm.seq ha,sm.seq hb,by simp[hlt],by simp[hlt']⟩,by omega,λv H2 yl=> ?_⟩
  obtain⟨T,x,y,rfl,hT,hx,hy,rfl⟩:=yl
  have ex:=hx xs (sm.seq ha)
  have ey:=hy ys (sm.seq hb)
  have s2:ay H' (upd H' T (.tup [x,y])):=ay.up hT
  refine⟨T,[x,y],rfl,rD.of av,rfl,x,[y],rfl,y,[],rfl,rfl,?_⟩
  show te (some x::some y::σ) _ _
  refine hs i x y ex ey _ _ (sm.trans s2) ?_
  refine⟨s2 _ _ eD,xs.length- (i+1),by omega,rfl,hlt,?_,⟨_,_,rfl⟩,(sm.trans s2).upd hD,av⟩
  rw[hacc,List.take_succ,List.getElem?_zipWith,ex,ey]
  rfl
 ·have e:i=xs.length:=by omega
  subst e
  refine .inl ⟨⟨xs,ys,sm.seq ha,sm.seq hb,.inl (Nat.le_refl _)⟩,eD,hq H' sm ?_⟩
  rw[eD,hacc]
  rw[List.take_of_length_le (by rw[List.length_zipWith];exact Nat.min_le_left ..)]
section
variable{X:Cx}{sc:Scope}{N2:List Str}{x y:Str}{px BK:Pos}{elt iter zx:Expr}{gP p pos:Pos}{wi KH:TI}{te:TE}{P:Addr}
theorem zH{B:Around}{own:List Str}{i:Nat}{z:Str}(Bk:nO sc.names X.env.scope.names own N2 X.N)(hnc:∀y∈sc.names,y.2≠ .cell)(hz:own[i]?=some z)(code:Value)(s:Shared)(H:Hp)(fp:List Addr):PG (X.gen B sc (own++N2) code s H fp) (.Name z px) (cS i):=by
 have hi:(X.gen B sc (own++N2) code s H fp).N[i]?=some z:=by
  show(own++N2)[i]?=some z
  rw[List.getElem?_append_left (List.getElem?_eq_some_iff.mp hz).1];exact hz
 rcases Bk.own z (List.mem_of_getElem? hz)with e|e
 ·exact aP (i:=i) Bk.EN hi (.inl e) (.inr e)
 ·exact absurd rfl (hnc _ (mem_of_lookup e))
end
section
variable{prog:Program}{w:World}{A:Around}{E:Value->Shared->Prop}{s:Shared}
theorem sR{it t:Addr}{items:Array Value}(hne:t≠it):∀(n i:Nat)(s:Shared)(Q:List Value->Shared->Prop),s.heap.IsListIter it t i->s.heap.IsList t items->i+n<=items.size->
  (∀h',h'.IsListIter it t (i+n) ->Heap.SameBut it s.heap h'->Q ((items.toList.drop i).take n) {s with heap:=h'}) ->wpAny (model prog w) A (draw (.ref it) n) Q E s
 |0,i,s,Q,hit,_,_,hQ=>by
  show wpAny _ _ (pure []) Q E s
  exact wpAny_pure (by simpa using hQ s.heap hit (Heap.SameBut.refl ..))
 |n+1,i,s,Q,hit,ht,hle,hQ=>by
  have hlt:i<items.size:=by omega
  show wpAny _ _ (pyNext (.ref it)>>=_) Q E s
  refine wpAny_bind (wpAny_pyNext_list_item hit ht (x:=items[i]) (by simp[hlt]) λh₁ xR hs₁=> ?_)
  refine wpAny_bind (wpAny_holding (sR hne n (i+1) _ _ xR (ht.extBut hs₁.extBut hne) (by omega) λh₂ HP hs₂=>wpAny_pure ?_))
  have hd:items.toList.drop i=items[i]::items.toList.drop (i+1):=by simp[List.drop_eq_getElem_cons,hlt]
  have:=hQ h₂ (by rw[show i+(n+1)=i+1+n by omega];exact HP) (hs₁.trans hs₂)
  rw[hd,List.take_succ_cons]at this
  exact this
theorem uo{t:Addr}{items:Array Value}{targets:List (Bool×(Value->Sem Unit))}{Q:Unit->Shared->Prop}(hh:A.handled=none)(ht:s.heap.IsList t items)
  (hn:targets.length=items.size)(hstar:targets.findIdx? (·.1)=none)
  (h:∀h',Heap.ExtBut s.heap.objs.size s.heap h'->wpAny (model prog w) A (assignInOrder (targets.map (·.2)) items.toList) Q E {s with heap:=h'}):
  wpAny (model prog w) A (unpack (.ref t) targets) Q E s:=by
 have hlt:t≠s.heap.objs.size:=by obtain⟨o,ho,_⟩:=ht;exact Nat.ne_of_lt (Heap.lt_size ho)
 unfold unpack
 rw[hn,hstar]
 refine wpAny_bind (wpAny_holding ?_)
 unfold unpackItems
 refine wpAny_bind ?_
 unfold notIterableAtAll
 refine wpAny_bind (wpAny_specialOf ht.typeIs PySem.F.slot_list_iter.lookup ?_)
 refine wpAny_pure ?_
 simp only[Bool.false_eq_true,if_false]
 refine wpAny_bind (wpAny_holding (wpAny_pyIter_list ht ?_))
 refine wpAny_bind (wpAny_holding (sR hlt items.size 0 _ _ ⟨_,Heap.get?_push_size _ rfl,rfl,rfl⟩ (Heap.IsList.push ht _) (by omega) λh₁ xR hs₁=> ?_))
 have hall:List.take items.size (List.drop 0 items.toList)=items.toList:=by
  rw[List.drop_zero];exact List.take_of_length_le (by simp)
 rw[hall]
 rw[if_neg (by simp)]
 have ht₁:h₁.IsList t items:=(Heap.IsList.push ht _).extBut hs₁.extBut hlt
 refine wpAny_bind (wpAny_holding (wpAny_pyNext_list_end hh xR ht₁ (by simp) λh₂ JR=> ?_))
 simp only[Option.isSome_none,Bool.false_eq_true,if_false]
 refine wpAny_pure (h h₂ λb o hb e=>JR b o hb (hs₁.extBut b o hb (Heap.get?_push_of_some _ e)))
end
section
variable{X:Cx}
def JS(K:PySem.W.Frag)(n:Nat)(t:Ez):TG:=λv σ H Q=> ∃a xs,v= .ref a/\aU K H a xs/\xs.length=n/\t xs σ H Q
theorem iB{es:List Expr}{k:Nat}{t:Ez}{n:Nat}{pos:Pos}(hc:X.calm=true)(h:Jm X es t)
  (hn:(assignEach es X.env).length=n:=by rfl)(hst:(assignEach es X.env).findIdx? (·.1)=none:=by rfl):PG X (.Tuple es k pos) (JS X.K n t):=by
 intro pins s σ H v u Q I r hw
 obtain⟨a,xs,e1,hq,hl,hw⟩:=hw
 subst e1
 cases r
 obtain⟨its,rv,ht,hz⟩:=I.list hq
 rw[PyProof.Rows.assign_Tuple]
 refine wpAny_bind (wpAny_standAt (uo (I.ok.hd hc) ht.isList (by simp[hn,<-hl,rv.length]) hst λh' hx=> ?_))
 have I1:Inv X pins σ H {s with heap:=h'}:=I.kept (t':=s.toks) λb o e=>hx b o (Nat.ne_of_lt (Heap.lt_size e)) e
 exact h pins _ σ H xs _ Q I1 (by simpa using rv) hw
end
def bh(H:Hp)(a:Addr)(x:Nat->Int):Prop:=H a=some (.lst [.int (x 0),.int (x 1),.int (x 2)])
theorem bh.same{H H':Hp}{a:Addr}{x:Nat->Int}(h:bh H a x)(s:ay H H'):bh H' a x:=s _ _ h
def pairF(m:List (List Int))(x y:Nat->Int)(t:Nat):Int:=x (t/3)*ent m (t/3) (t%3)*y (t%3)
def au(m:List (List Int))(x y:Nat->Int):Int:=PySem.preSum (pairF m x y) 9
theorem aX(m:List (List Int))(x y:Nat->Int):au m x y=
  x 0*ent m 0 0*y 0+x 0*ent m 0 1*y 1+x 0*ent m 0 2*y 2+x 1*ent m 1 0*y 0+x 1*ent m 1 1*y 1+x 1*ent m 1 2*y 2+x 2*ent m 2 0*y 0+x 2*ent m 2 1*y 1+x 2*ent m 2 2*y 2:=by
 show PySem.preSum (pairF m x y) 9=_
 simp only[PySem.preSum,pairF,Nat.reduceDiv,Nat.reduceMod]
 omega
structure bV(m:List (List Int)):Prop where
 sym:ent m 1 0=ent m 0 1/\ent m 2 0=ent m 0 2/\ent m 2 1=ent m 1 2
 OH:∃a b c,ent m 0 0=2*a/\ent m 1 1=2*b/\ent m 2 2=2*c
def aE(m:List (List Int))(x:Nat->Int):Int:=au m x x/2
theorem di{m:List (List Int)}(h:bV m)(x:Nat->Int):au m x x=2*aE m x:=by
 obtain⟨⟨s1,s2,s3⟩,a,b,c,e1,e2,e3⟩:=h
 have q:au m x x=2*(x 0*a*x 0+x 1*b*x 1+x 2*c*x 2+x 0*ent m 0 1*x 1+x 0*ent m 0 2*x 2+x 1*ent m 1 2*x 2):=by
  rw[aX,s1,s2,s3,e1,e2,e3];grind
 unfold aE
 rw[q,Int.mul_ediv_cancel_left _ (by decide)]
theorem CQ{f:Nat->Int}{n:Nat}:∀k,(∀t,t<k->(f t).natAbs<2^n) ->(PySem.preSum f k).natAbs<2^(n+k)
 |0,_=>Nat.two_pow_pos _
 |k+1,h=>j3 (CQ k λt ht=>h t (by omega)) (aF (h k (by omega)) (Nat.le_add_right n k))
theorem iJ{m:List (List Int)}{x y:Nat->Int}{a b c:Nat}(hm:Bd a m)(hx:∀i,i<3->(x i).natAbs<2^b)(hy:∀i,i<3->(y i).natAbs<2^c):(au m x y).natAbs<2^(b+a+c+9):=
 CQ 9 λt ht=>bZ (bZ (hx _ (by omega)) (hm _ _ (by omega) (Nat.mod_lt _ (by decide)))) (hy _ (Nat.mod_lt _ (by decide)))
section
variable{X:Cx}{pos:Pos}
def JT(i j k:Nat)(ta:TA):TS:=λD σ H=>ta σ H λvs H1=> ∃v w u,vs=[v,w,u]/\D.nx (((σ.set i (some v)).set j (some w)).set k (some u)) H1
theorem zI{i j k:Nat}{x y z:Str}{a b c:Expr}{ta:TA}{px py pz pt:Pos}{kt k2 GV}(hc:X.calm=true)(hN:X.N.Nodup)(hi:X.N[i]?=some x)(hj:X.N[j]?=some y)(hk:X.N[k]?=some z)(hij:i≠j)(hik:i≠k)(hjk:j≠k)
  (hx:X.env.scope.names.lookup x=some .local)(hy:X.env.scope.names.lookup y=some .local)(hz:X.env.scope.names.lookup z=some .local)(ha:PA X [a,b,c] ta)
  (hw:swappedStores [.Tuple [.Name x px,.Name y py,.Name z pz] kt pt] (.Tuple [a,b,c] k2 GV) X.env=pure (some [x,y,z]))
  (hs:swapsWithSole [.Tuple [.Name x px,.Name y py,.Name z pz] kt pt] (.Tuple [a,b,c] k2 GV) pos.line X.env=pure false:=by rfl):
  PS X (.Assign [.Tuple [.Name x px,.Name y py,.Name z pz] kt pt] (.Tuple [a,b,c] k2 GV) pos) (JT i j k ta):=by
 intro pins s σ H D I h
 rw[exec_Assign_arm]
 refine wpAny_bind (wpAny_standAt ?_)
 rw[hs]
 refine wpAny_bind (wpAny_pure ?_)
 rw[if_neg (by decide)]
 refine wpAny_bind (Tuple_ (eV (ha _ pins s σ H _ I h) λus s1 ⟨vs,H1,I1,r1,q1⟩=> ?_))
 obtain⟨v,w,u,e1,q1⟩:=q1
 subst e1
 obtain⟨u1,u2,u3,rfl,rv,rw',ru⟩:∃u1 u2 u3,us=[u1,u2,u3]/\RelV v u1/\RelV w u2/\RelV u u3:=by
  cases r1 with
  |cons p q=>
   cases q with
   |cons p' q'=>
    cases q' with
    |cons p'' OI=>
     cases OI
     exact⟨_,_,_,rfl,p,p',p''⟩
 refine wpAny_newObj_type ?_ (by show 3<=sizeLine;decide)
 have I2:Inv X pins σ H1 {s1 with heap:=s1.heap.push {cls:= .type "tuple",data:= .seq [u1,u2,u3].toArray}}:=I1.kept (t':=s1.toks) λb o e=>Heap.get?_push_of_some _ e
 rw[hw]
 refine wpAny_bind (wpAny_pure ?_)
 show wpAny (model X.prog X.w) X.A (do rule "assign.swapped-stores";let items<-unpackItems (.ref s1.heap.objs.size) 3 none;assignInOrder [λv=>bindName X.env z v,λv=>bindName X.env y v,λv=>bindName X.env x v] items.reverse;pure Flow.next) _ _ _
 refine wpAny_bind (wpAny_rule (wpAny_bind (unpackItems_tuple (items:= #[u1,u2,u3]) (I.ok.hd hc) (IsTup.new s1.heap _) λh' hx'=> ?_)))
 have I3:=I2.kept (h':=h') (t':=s1.toks) λb o e=>hx' b o (Nat.ne_of_lt (Heap.lt_size e)) e
 show wpAny _ _ (assignInOrder [λv=>bindName X.env z v,λv=>bindName X.env y v,λv=>bindName X.env x v] [u3,u2,u1]>>=λ_=>pure Flow.next) _ _ _
 refine wpAny_bind (assignInOrder_cons (wpAny_bindName (iF I3 hN hk (.inl hz) ru (λs2 I4=> ?_) (.inr hz))))
 refine assignInOrder_cons (wpAny_bindName (iF I4 hN hj (.inl hy) rw' (λs3 I5=> ?_) (.inr hy)))
 refine assignInOrder_cons (wpAny_bindName (iF I5 hN hi (.inl hx) rv (λs4 I6=>assignInOrder_nil (wpAny_pure ?_)) (.inr hx)))
 have e:((σ.set k (some u)).set j (some w)).set i (some v)=((σ.set i (some v)).set j (some w)).set k (some u):=by
  rw[List.set_comm _ _ (Ne.symm hjk),List.set_comm _ _ (Ne.symm hik),List.set_comm _ _ (Ne.symm hij)]
 rw[e]at I6
 exact⟨_,H1,I6,q1⟩
end
def fz(a b c p q r:Int):List (List Int):=mk3 λi j=>match i,j with|0,0=>a|0,1=>p|0,_=>q|1,0=>p|1,1=>b|1,_=>r|_,0=>q|_,1=>r|_,_=>c
theorem vZ(a b c p q r:Int):aA (fz a b c p q r)=a*b*c+2*(p*q*r) -a*(r*r) -b*(q*q) -c*(p*p):=by
 rw[cO]
 show a*(b*c-r*r)+p*(r*q-p*c)+q*(p*r-b*q)=_
 grind
theorem uq{n:Nat}{a b c p q r:Int}(ha:a.natAbs<2^n)(hb:b.natAbs<2^n)(hc:c.natAbs<2^n)(hp:p.natAbs<2^n)(hq:q.natAbs<2^n)(hr:r.natAbs<2^n):Bd n (fz a b c p q r):=λi j hi hj=>by
 unfold fz
 rw[bu _ hi hj]
 rcases bK hi with rfl|rfl|rfl<;>rcases bK hj with rfl|rfl|rfl<;>assumption
theorem Az(a b c p q r:Int):bV (fz (2*a) (2*b) (2*c) p q r):=⟨⟨rfl,rfl,rfl⟩,a,b,c,rfl,rfl,rfl⟩
theorem CS{p a:Int}(h: -a<=p)(h':p<=a):p*p<=a*a:=by
 have h1:0<=a-p:=by omega
 have h2:0<=a+p:=by omega
 have:=Int.mul_nonneg h1 h2
 grind
theorem CT{a b c p q:Int}(ha:0<a)(hab:a<=b)(hbc:b<=c)(hp: -a<=p)(jR:p<=a)(hq: -a<=q)(hq':q<=a):0<aA (fz (2*a) (2*b) (2*c) p q 0):=by
 rw[vZ]
 have e1:=CS hp jR
 have e2:=CS hq hq'
 have hb:0<b:=by omega
 have hc:0<c:=by omega
 have k1:b*(q*q)<=b*(a*a):=Int.mul_le_mul_of_nonneg_left e2 (by omega)
 have k2:c*(p*p)<=c*(a*a):=Int.mul_le_mul_of_nonneg_left e1 (by omega)
 have ab:0<a*b:=Int.mul_pos ha hb
 have Qk:0<a*b*c:=Int.mul_pos ab hc
 have k3:b*(a*a)<=a*b*c:=by
  have:a*b*a<=a*b*c:=Int.mul_le_mul_of_nonneg_left (by omega) (by omega)
  grind
 have k4:c*(a*a)<=a*b*c:=by
  have h0:0<=c*a:=Int.mul_nonneg (by omega) (by omega)
  have:c*a*a<=c*a*b:=Int.mul_le_mul_of_nonneg_left hab h0
  grind
 grind
theorem CU{p q r:Int}(hp: -1<=p)(jR:p<=1)(hq: -1<=q)(hq':q<=1)(hr: -1<=r)(hr':r<=1):aA (fz (2*1) (2*1) (2*1) p q r)<=8:=by
 rw[vZ]
 have h1:p= -1∨p=0∨p=1:=by omega
 have h2:q= -1∨q=0∨q=1:=by omega
 have h3:r= -1∨r=0∨r=1:=by omega
 rcases h1 with rfl|rfl|rfl<;>rcases h2 with rfl|rfl|rfl<;>rcases h3 with rfl|rfl|rfl<;>decide
theorem xS{H:Hp}{a b c d:Addr}{x y z:HO}(h0:H a=none)(h1:upd H a x b=none)(h2:upd (upd H a x) b y c=none)(h3:upd (upd (upd H a x) b y) c z d=none):H d=none/\(∀e∈ [a,b,c],H e=none)/\d∉ [a,b,c]:=by
 have s0:ay H (upd H a x):=ay.up h0
 have s1:ay (upd H a x) (upd (upd H a x) b y):=ay.up h1
 have s2:ay (upd (upd H a x) b y) (upd (upd (upd H a x) b y) c z):=ay.up h2
 refine⟨(s0.trans (s1.trans s2)).none h3,λe he=> ?_,λhd=> ?_⟩
 ·simp only[List.mem_cons,List.not_mem_nil,or_false]at he
  rcases he with rfl|rfl|rfl
  ·exact h0
  ·exact s0.none h1
  ·exact(s0.trans s1).none h2
 ·simp only[List.mem_cons,List.not_mem_nil,or_false]at hd
  rcases hd with rfl|rfl|rfl
  ·have:=(s1.trans s2) _ _ (av (H:=H) (a:=d) (o:=x));rw[h3]at this;cases this
  ·have:=s2 _ _ (av (H:=upd H a x) (a:=d) (o:=y));rw[h3]at this;cases this
  ·rw[av]at h3;cases h3
def xT(m:List (List Int))(i:Nat)(g:Nat->Int):List (List Int):=mk3 λr s=>if r=i then g s else ent m r s
theorem zJ{H:Hp}{D R:Addr}{bs:List Addr}{m:List (List Int)}{i:Nat}{g:Nat->Int}(hT:Tab H D bs m)(bI:cg m)(hi:i<3)(hR:H R=some (.lst [.int (g 0),.int (g 1),.int (g 2)]))(nR:R≠D)(nD:D∉bs):
  Tab (upd H D (.lst ((bs.map V.ref).set i (.ref R)))) D (bs.set i R) (xT m i g):=by
 obtain⟨b0,x1,x2,_⟩:=aV hT bI (i:=0) (by decide)
 obtain⟨b1,y1,y2,_⟩:=aV hT bI (i:=1) (by decide)
 obtain⟨b2,w1,w2,_⟩:=aV hT bI (i:=2) (by decide)
 have hl3:bs.length=3:=by rw[<-hT.2.length,bI.1]
 obtain⟨a0,a1,a2,rfl⟩:∃a0 a1 a2,bs=[a0,a1,a2]:=by
  match bs,hl3 with
  | [a,b,c],_=>exact⟨a,b,c,rfl⟩
 obtain rfl:a0=b0:=V.ref.inj (Option.some.inj x1)
 obtain rfl:a1=b1:=V.ref.inj (Option.some.inj y1)
 obtain rfl:a2=b2:=V.ref.inj (Option.some.inj w1)
 have n0:a0≠D:=λz=>nD (by rw[<-z];simp)
 have n1:a1≠D:=λz=>nD (by rw[<-z];simp)
 have n2:a2≠D:=λz=>nD (by rw[<-z];simp)
 rcases bK hi with rfl|rfl|rfl
 ·exact gB _ av (by rw[aH nR];exact hR) (by rw[aH n1];exact y2) (by rw[aH n2];exact w2)
 ·exact gB _ av (by rw[aH n0];exact x2) (by rw[aH nR];exact hR) (by rw[aH n2];exact w2)
 ·exact gB _ av (by rw[aH n0];exact x2) (by rw[aH n1];exact y2) (by rw[aH nR];exact hR)
theorem cz(m:List (List Int)){i r s:Nat}(g:Nat->Int)(hr:r<3)(hs:s<3):ent (xT m i g) r s=if r=i then g s else ent m r s:=bu _ hr hs
theorem Fc(m:List (List Int)){i j:Nat}(hi:i<3)(hj:j<3)(hij:i≠j)(o:Int):aA (xT m i λs=>ent m i s+o*ent m j s)=aA m:=by
 rw[cO,cO]
 simp only[cz m _ (show 0<3 by decide) (show 0<3 by decide),cz m _ (show 0<3 by decide) (show 1<3 by decide),cz m _ (show 0<3 by decide) (show 2<3 by decide),cz m _ (show 1<3 by decide) (show 0<3 by decide),cz m _ (show 1<3 by decide) (show 1<3 by decide),cz m _ (show 1<3 by decide) (show 2<3 by decide),cz m _ (show 2<3 by decide) (show 0<3 by decide),cz m _ (show 2<3 by decide) (show 1<3 by decide),cz m _ (show 2<3 by decide) (show 2<3 by decide)]
 rcases bK hi with rfl|rfl|rfl<;>rcases bK hj with rfl|rfl|rfl<;>first|(exact absurd rfl hij)|(simp only[Nat.reduceEqDiff,if_true,if_false];grind)
theorem AA(m:List (List Int)){i:Nat}(hi:i<3)(o:Int):aA (xT m i λs=>o*ent m i s)=o*aA m:=by
 rw[cO,cO]
 simp only[cz m _ (show 0<3 by decide) (show 0<3 by decide),cz m _ (show 0<3 by decide) (show 1<3 by decide),cz m _ (show 0<3 by decide) (show 2<3 by decide),cz m _ (show 1<3 by decide) (show 0<3 by decide),cz m _ (show 1<3 by decide) (show 1<3 by decide),cz m _ (show 1<3 by decide) (show 2<3 by decide),cz m _ (show 2<3 by decide) (show 0<3 by decide),cz m _ (show 2<3 by decide) (show 1<3 by decide),cz m _ (show 2<3 by decide) (show 2<3 by decide)]
 rcases bK hi with rfl|rfl|rfl<;>simp only[Nat.reduceEqDiff,if_true,if_false]<;>grind
def xU(m:List (List Int))(k:Nat):List (List Int):=mk3 λr s=>ent m ((r+k)%3) s
theorem Fd(m:List (List Int)){k:Nat}(hk:k<3):aA (xU m k)=aA m:=by
 rw[cO,cO]
 unfold xU
 simp only[bu _ (show 0<3 by decide) (show 0<3 by decide),bu _ (show 0<3 by decide) (show 1<3 by decide),bu _ (show 0<3 by decide) (show 2<3 by decide),bu _ (show 1<3 by decide) (show 0<3 by decide),bu _ (show 1<3 by decide) (show 1<3 by decide),bu _ (show 1<3 by decide) (show 2<3 by decide),bu _ (show 2<3 by decide) (show 0<3 by decide),bu _ (show 2<3 by decide) (show 1<3 by decide),bu _ (show 2<3 by decide) (show 2<3 by decide)]
 rcases bK hk with rfl|rfl|rfl<;>simp only[Nat.reduceAdd,Nat.reduceMod]<;>grind
structure FE(X:Cx)(e:Expr)(t:TE):Prop where
 h:PE X e t
structure FA(X:Cx)(es:List Expr)(t:TA):Prop where
 h:PA X es t
variable{X:Cx}
theorem gS{i j pos}:FE X (.Constant (.int i) j pos) (tC (.int i)):=⟨ah⟩
theorem qu:FA X [] jc:=⟨aj⟩
theorem dQ{e es te t}(ha:FE X e te)(hr:FA X es t)(hs:starEach (e::es) X.env=(false,eval e X.env)::starEach es X.env):FA X (e::es) (cW te t):=⟨af ha.h hr.h hs⟩
theorem qv{es t pos}(h:FA X es t):FE X (.List es pos) (JA t):=⟨dF h.h⟩
theorem HQ{i:Nat}{x:Str}{e:Expr}{te:TE}{pos' pos:Pos}{b:List Stmt}{tb:TS}(hN:X.N.Nodup)(hi:X.N[i]?=some x)(hx:Loc X.env.scope x)(he:FE X e te)(hs:swapsWith e (some (.Name x pos')) pos.line X.env=pure false)(hf:X.fn x=true∨X.env.scope.names.lookup x=some .local)(hb:CN X b tb):
  CN X (.Assign [.Name x pos'] e pos::b) (tZ (Ac te (cS i)) tb):=ak (aC hN hi hx he.h hs hf) hb
theorem HR{e:Expr}{te:TE}{pos:Pos}(he:FE X e te):CN X [.Return (some e) pos] (Jj te):=aL (aW he.h)
theorem toF{st:List Stmt}{R:TS->Prop}(h:∃t,CN X st t/\R t):∃t,tV X st t/\R t:=by
 obtain⟨t,a,b⟩:=h
 exact⟨t,a.h,b⟩
theorem Fe{H H':Hp}{D r:Addr}{bs:List Addr}{m:List (List Int)}{k:Nat}(hT:Tab H D bs m)(bI:cg m)(hk:k<3)(s:ay H H')(hn:H r=none)(hr:H' r=some (.lst (rF (bs.map V.ref) (some (k:Int)) none++rF (bs.map V.ref) none (some (k:Int))))):
  ∃bs',Tab H' r bs' (xU m k)/\(∀b∈bs',b∈bs)/\r∉bs':=by
 obtain⟨b0,x1,x2,_⟩:=aV hT bI (i:=0) (by decide)
 obtain⟨b1,y1,y2,_⟩:=aV hT bI (i:=1) (by decide)
 obtain⟨b2,w1,w2,_⟩:=aV hT bI (i:=2) (by decide)
 have hl3:bs.length=3:=by rw[<-hT.2.length,bI.1]
 obtain⟨a0,a1,a2,rfl⟩:∃a0 a1 a2,bs=[a0,a1,a2]:=by
  match bs,hl3 with
  | [a,b,c],_=>exact⟨a,b,c,rfl⟩
 obtain rfl:a0=b0:=V.ref.inj (Option.some.inj x1)
 obtain rfl:a1=b1:=V.ref.inj (Option.some.inj y1)
 obtain rfl:a2=b2:=V.ref.inj (Option.some.inj w1)
 have n0:r≠a0:=Ne.symm (cP x2 hn)
 have n1:r≠a1:=Ne.symm (cP y2 hn)
 have n2:r≠a2:=Ne.symm (cP w2 hn)
 rcases bK hk with rfl|rfl|rfl
 ·exact⟨[a0,a1,a2],gB _ hr (s _ _ x2) (s _ _ y2) (s _ _ w2),by simp,by simp[n0,n1,n2]⟩
 ·exact⟨[a1,a2,a0],gB _ hr (s _ _ y2) (s _ _ w2) (s _ _ x2),by simp,by simp[n0,n1,n2]⟩
 ·exact⟨[a2,a0,a1],gB _ hr (s _ _ w2) (s _ _ x2) (s _ _ y2),by simp,by simp[n0,n1,n2]⟩
theorem Ff{n:Nat}{m:List (List Int)}{k:Nat}(h:Bd n m):Bd n (xU m k):=by
 intro i j hi hj
 unfold xU
 rw[bu _ hi hj]
 exact h _ j (Nat.mod_lt _ (by decide)) hj
def bC(m:List (List Int)):Bool:=decide (0<ent m 0 0) && (decide (ent m 0 1*ent m 0 1<ent m 0 0*ent m 1 1) && decide (0<aA m))
theorem gC{m:List (List Int)}(h:cL m=m){i j:Nat}(hi:i<3)(hj:j<3):ent m j i=ent m i j:=by
 rw[<-aT m hi hj,h]
theorem JU(m:List (List Int)):au m (λi=>if i=0 then 1 else 0) (λi=>if i=0 then 1 else 0)=ent m 0 0:=by
 rw[aX]
 simp
theorem JV{m:List (List Int)}(h:cL m=m)(x:Nat->Int)(h0:x 0= -ent m 0 1)(h1:x 1=ent m 0 0)(h2:x 2=0):au m x x=ent m 0 0*(ent m 0 0*ent m 1 1-ent m 0 1*ent m 0 1):=by
 rw[aX,h0,h1,h2,gC h (i:=0) (j:=1) (by decide) (by decide)]
 grind
theorem JX(m:List (List Int)):au m (λj=>ent (gR m) 2 j) (λj=>ent (gR m) 2 j)=aA m*ent (gR m) 2 2:=by
 have e:∀j,j<3->ent (gR m) 2 0*ent m 0 j+ent (gR m) 2 1*ent m 1 j+ent (gR m) 2 2*ent m 2 j=if 2=j then aA m else 0:=λj hj=>by
  rw[<-aJ _ _ (by decide) hj,vW,nA,bu _ (by decide) hj]
 have e0:=e 0 (by decide)
 have e1:=e 1 (by decide)
 have e2:=e 2 (by decide)
 rw[if_neg (by decide)]at e0 e1
 rw[if_pos rfl]at e2
 rw[aX,<-e2]
 grind
theorem GB(m:List (List Int)):ent (gR m) 2 2=ent m 0 0*ent m 1 1-ent m 0 1*ent m 1 0:=by
 rw[lB m (by decide) (by decide)]
 rfl
theorem CV{H:Hp}{a b c:Addr}{x y:HO}(h0:H a=none)(h1:upd H a x b=none)(h2:upd (upd H a x) b y c=none): [a,b,c].Nodup:=by
 have n1:a≠b:=λe=>by rw[e,av]at h1;cases h1
 have n2:b≠c:=λe=>by rw[e,av]at h2;cases h2
 have n3:a≠c:=λe=>by rw[aH (λz=>n2 z.symm),e,av]at h2;cases h2
 simp[n1,n2,n3]
section
variable{X:Cx}
end
def cN(x:Nat->Int)(b:List (List Int)):Nat->Int:=λj=>x 0*ent b 0 j+x 1*ent b 1 j+x 2*ent b 2 j
theorem AB(b m:List (List Int))(x y:Nat->Int):au (gF b m) x y=au m (cN x b) y:=by
 rw[aX,aX]
 unfold cN
 simp only[aJ b m (show 0<3 by decide) (show 0<3 by decide),aJ b m (show 0<3 by decide) (show 1<3 by decide),aJ b m (show 0<3 by decide) (show 2<3 by decide),aJ b m (show 1<3 by decide) (show 0<3 by decide),aJ b m (show 1<3 by decide) (show 1<3 by decide),aJ b m (show 1<3 by decide) (show 2<3 by decide),aJ b m (show 2<3 by decide) (show 0<3 by decide),aJ b m (show 2<3 by decide) (show 1<3 by decide),aJ b m (show 2<3 by decide) (show 2<3 by decide)]
 grind
theorem xV(b m:List (List Int))(x y:Nat->Int):au (gF m (cL b)) x y=au m x (cN y b):=by
 rw[aX,aX]
 unfold cN
 simp only[aJ m (cL b) (show 0<3 by decide) (show 0<3 by decide),aJ m (cL b) (show 0<3 by decide) (show 1<3 by decide),aJ m (cL b) (show 0<3 by decide) (show 2<3 by decide),aJ m (cL b) (show 1<3 by decide) (show 0<3 by decide),aJ m (cL b) (show 1<3 by decide) (show 1<3 by decide),aJ m (cL b) (show 1<3 by decide) (show 2<3 by decide),aJ m (cL b) (show 2<3 by decide) (show 0<3 by decide),aJ m (cL b) (show 2<3 by decide) (show 1<3 by decide),aJ m (cL b) (show 2<3 by decide) (show 2<3 by decide),
  aT b (show 0<3 by decide) (show 0<3 by decide),aT b (show 0<3 by decide) (show 1<3 by decide),aT b (show 0<3 by decide) (show 2<3 by decide),aT b (show 1<3 by decide) (show 0<3 by decide),aT b (show 1<3 by decide) (show 1<3 by decide),aT b (show 1<3 by decide) (show 2<3 by decide),aT b (show 2<3 by decide) (show 0<3 by decide),aT b (show 2<3 by decide) (show 1<3 by decide),aT b (show 2<3 by decide) (show 2<3 by decide)]
 grind
theorem sU(m b:List (List Int))(x y:Nat->Int):au (fm m b) x y=au m (cN x b) (cN y b):=by
 unfold fm
 rw[xV,AB]
theorem ur{a b:Int}(h:0<a*b)(ha:0<a):0<b:=by
 rcases Int.lt_or_le 0 b with z|z
 ·exact z
 ·have:=Int.mul_nonpos_of_nonneg_of_nonpos (show 0<=a by omega) z
  omega
def xW(m:List (List Int)):Prop:=∀x:Nat->Int,¬(x 0=0/\x 1=0/\x 2=0) ->0<au m x x
theorem sV{m:List (List Int)}(hS:cL m=m)(h:xW m):bC m=true:=by
 have c1:0<ent m 0 0:=by
  have:=h (λi=>if i=0 then 1 else 0) (λz=>by simp at z)
  rw[JU]at this
  exact this
 have c2:ent m 0 1*ent m 0 1<ent m 0 0*ent m 1 1:=by
  have:=h (λi=>match i with|0=> -ent m 0 1|1=>ent m 0 0|_=>0) (λz=>by have y:ent m 0 0=0:=z.2.1;omega)
  rw[JV hS _ rfl rfl rfl]at this
  have:=ur this c1
  omega
 have Nd:0<ent (gR m) 2 2:=by
  rw[GB,gC hS (i:=0) (j:=1) (by decide) (by decide)]
  omega
 have c3:0<aA m:=by
  have:=h (λj=>ent (gR m) 2 j) (λz=>by have y:ent (gR m) 2 2=0:=z.2.2;omega)
  rw[JX]at this
  exact ur (by rw[Int.mul_comm];exact this) Nd
 unfold bC
 rw[decide_eq_true c1,decide_eq_true c2,decide_eq_true c3]
 rfl
theorem fU{m:List (List Int)}(h:bC m=true):0<ent m 0 0/\ent m 0 1*ent m 0 1<ent m 0 0*ent m 1 1/\0<aA m:=by
 unfold bC at h
 simp only[Bool.and_eq_true,decide_eq_true_eq]at h
 exact⟨h.1,h.2.1,h.2.2⟩
theorem bf(a:Int):0<=a*a:=by
 rcases Int.le_total 0 a with h|h
 ·exact Int.mul_nonneg h h
 ·have:=Int.mul_nonneg (show 0<= -a by omega) (show 0<= -a by omega)
  rwa [Int.neg_mul_neg]at this
theorem uu{a:Int}(h:a*a<=0):a=0:=by
 have:=bf a
 have:a*a=0:=by omega
 rcases Int.mul_eq_zero.mp this with z|z<;>exact z
theorem CW{m:List (List Int)}(hS:cL m=m)(x:Nat->Int):ent m 0 0*(ent m 0 0*ent m 1 1-ent m 0 1*ent m 0 1)*au m x x=
  (ent m 0 0*ent m 1 1-ent m 0 1*ent m 0 1)*((ent m 0 0*x 0+ent m 0 1*x 1+ent m 0 2*x 2)*(ent m 0 0*x 0+ent m 0 1*x 1+ent m 0 2*x 2))
  +((ent m 0 0*ent m 1 1-ent m 0 1*ent m 0 1)*x 1+(ent m 0 0*ent m 1 2-ent m 0 1*ent m 0 2)*x 2)*((ent m 0 0*ent m 1 1-ent m 0 1*ent m 0 1)*x 1+(ent m 0 0*ent m 1 2-ent m 0 1*ent m 0 2)*x 2)
  +ent m 0 0*aA m*(x 2*x 2):=by
 rw[aX,cO,gC hS (i:=0) (j:=1) (by decide) (by decide),gC hS (i:=0) (j:=2) (by decide) (by decide),gC hS (i:=1) (j:=2) (by decide) (by decide)]
 generalize ent m 0 0=a,ent m 0 1=p,ent m 0 2=q,ent m 1 1=b,ent m 1 2=r,ent m 2 2=c
 generalize x 0=u,x 1=v,x 2=w
 grind
theorem eZ{m:List (List Int)}(hS:cL m=m)(h:bC m=true):xW m:=by
 intro x n0
 obtain⟨c1,c2,c3⟩:=fU h
 have e:=CW hS x
 have f1:0<ent m 0 0*ent m 1 1-ent m 0 1*ent m 0 1:=by omega
 generalize ent m 0 0*ent m 1 1-ent m 0 1*ent m 0 1=fl at e f1
 have q1:=bf (ent m 0 0*x 0+ent m 0 1*x 1+ent m 0 2*x 2)
 have q2:=bf (fl*x 1+(ent m 0 0*ent m 1 2-ent m 0 1*ent m 0 2)*x 2)
 have q3:=bf (x 2)
 have r1:=Int.mul_nonneg (show 0<=fl by omega) q1
 have d1:=Int.mul_pos c1 c3
 have r3:=Int.mul_nonneg (show 0<=ent m 0 0*aA m by omega) q3
 have g1:=Int.mul_pos c1 f1
 refine ur ?_ g1
 rcases Int.lt_or_le 0 (ent m 0 0*fl*au m x x)with z|z
 ·exact z
 ·exfalso
  have s3:ent m 0 0*aA m*(x 2*x 2)<=0:=by omega
  have s2:=uu (a:=fl*x 1+(ent m 0 0*ent m 1 2-ent m 0 1*ent m 0 2)*x 2) (by omega)
  have s1:fl*((ent m 0 0*x 0+ent m 0 1*x 1+ent m 0 2*x 2)*(ent m 0 0*x 0+ent m 0 1*x 1+ent m 0 2*x 2))<=0:=by omega
  have x2:x 2=0:=by
   refine uu ?_
   rcases Int.lt_or_le 0 (x 2*x 2)with y|y
   ·have:=Int.mul_pos d1 y
    omega
   ·exact y
  rw[x2,Int.mul_zero,Int.add_zero]at s2
  have x1:x 1=0:=by
   rcases Int.mul_eq_zero.mp s2 with y|y
   ·omega
   ·exact y
  rw[x1,x2,Int.mul_zero,Int.mul_zero,Int.add_zero,Int.add_zero]at s1
  have x0:x 0=0:=by
   have:ent m 0 0*x 0=0:=by
    refine uu ?_
    rcases Int.lt_or_le 0 (ent m 0 0*x 0*(ent m 0 0*x 0))with y|y
    ·have:=Int.mul_pos f1 y
     omega
    ·exact y
   rcases Int.mul_eq_zero.mp this with y|y
   ·omega
   ·exact y
  exact n0 ⟨x0,x1,x2⟩
theorem xX(b:List (List Int)):aA (cL b)=aA b:=by
 rw[cO,cO]
 simp only[aT b (show 0<3 by decide) (show 0<3 by decide),aT b (show 0<3 by decide) (show 1<3 by decide),aT b (show 0<3 by decide) (show 2<3 by decide),aT b (show 1<3 by decide) (show 0<3 by decide),aT b (show 1<3 by decide) (show 1<3 by decide),aT b (show 1<3 by decide) (show 2<3 by decide),aT b (show 2<3 by decide) (show 0<3 by decide),aT b (show 2<3 by decide) (show 1<3 by decide),aT b (show 2<3 by decide) (show 2<3 by decide)]
 grind
def l9(d:Int):Prop:=d=1∨d= -1
theorem v5{m b:List (List Int)}(hb:l9 (aA b)):aA (fm m b)=aA m:=by
 unfold fm
 rw[sQ,sQ,xX]
 rcases hb with h|h<;>rw[h]<;>omega
def fZ(b:List (List Int)):List (List Int):=mk3 λi j=>aA b*ent (gR b) i j
theorem AD{b:List (List Int)}(hb:l9 (aA b)):gF (fZ b) b=nA 1:=by
 have e:=vW b
 have h2:aA b*aA b=1:=by rcases hb with h|h<;>rw[h]<;>rfl
 refine gq λi j hi hj=> ?_
 have e':ent (gF (gR b) b) i j=ent (nA (aA b)) i j:=by rw[e]
 rw[aJ _ _ hi hj,nA,bu _ hi hj]at e'
 unfold fZ
 rw[bu _ hi (show 0<3 by decide),bu _ hi (show 1<3 by decide),bu _ hi (show 2<3 by decide)]
 have:aA b*ent (gR b) i 0*ent b 0 j+aA b*ent (gR b) i 1*ent b 1 j+aA b*ent (gR b) i 2*ent b 2 j=aA b*(ent (gR b) i 0*ent b 0 j+ent (gR b) i 1*ent b 1 j+ent (gR b) i 2*ent b 2 j):=by grind
 rw[this,e']
 split
 ·exact h2
 ·exact Int.mul_zero _
theorem v7{b:List (List Int)}(hb:l9 (aA b))(x:Nat->Int)(h:cN x b 0=0/\cN x b 1=0/\cN x b 2=0):x 0=0/\x 1=0/\x 2=0:=by
 obtain⟨h0,h1,h2⟩:=h
 unfold cN at h0 h1 h2
 have d0:aA b≠0:=by rcases hb with z|z<;>rw[z]<;>decide
 have k:∀z:Int,aA b*z=0->z=0:=λz e=>by
  rcases Int.mul_eq_zero.mp e with y|y
  ·exact absurd y d0
  ·exact y
 refine⟨k _ ?_,k _ ?_,k _ ?_⟩<;>rw[cO]<;>grind
theorem CY{m b:List (List Int)}(h:xW m)(hb:l9 (aA b)):xW (fm m b):=λx n0=>by
 rw[sU]
 exact h _ λz=>n0 (v7 hb x z)
theorem qw{m b:List (List Int)}(hS:cL m=m)(h:bC m=true)(cb:cg b)(hb:l9 (aA b)):bC (fm m b)=true:=
 sV ((sP b cb).trans (congrArg (fm · b) hS)) (CY (eZ hS h) hb)
theorem cX{m:List (List Int)}(h:bV m)(c:cg m):cL m=m:=by
 obtain⟨⟨s1,s2,s3⟩,_⟩:=h
 conv=>rhs;rw[um c]
 refine gq λi j hi hj=> ?_
 rcases bK hi with rfl|rfl|rfl<;>rcases bK hj with rfl|rfl|rfl<;>first|rfl|assumption|(symm;assumption)
theorem v8(m b:List (List Int)){i j:Nat}(hi:i<3)(hj:j<3):ent (fm m b) i j=au m (λk=>ent b i k) (λk=>ent b j k):=by
 unfold fm
 rw[aJ _ _ hi hj,aJ _ _ hi (by decide),aJ _ _ hi (by decide),aJ _ _ hi (by decide),aT b (by decide) hj,aT b (by decide) hj,aT b (by decide) hj,aX]
 grind
theorem sW{m b:List (List Int)}(h:bV m)(c:cg m)(cb:cg b):bV (fm m b):=by
 have hS:=(sP b cb).trans (congrArg (fm · b) (cX h c))
 refine⟨⟨gC hS (i:=0) (j:=1) (by decide) (by decide),gC hS (i:=0) (j:=2) (by decide) (by decide),gC hS (i:=1) (j:=2) (by decide) (by decide)⟩,aE m (λk=>ent b 0 k),aE m (λk=>ent b 1 k),aE m (λk=>ent b 2 k),?_,?_,?_⟩<;>rw[v8 m b (by decide) (by decide),di h]
theorem xY{a b c p q r:Int}(ha:0<a)(hab:a<=b)(hp: -a<=p)(jR:p<=a)(hd:0<aA (fz (2*a) (2*b) (2*c) p q r)):bC (fz (2*a) (2*b) (2*c) p q r)=true:=by
 have h1:=CS hp jR
 have h2:a*a<=a*b:=Int.mul_le_mul_of_nonneg_left hab (by omega)
 have h3:0<a*b:=Int.mul_pos ha (by omega)
 have h4:p*p<2*a*(2*b):=by
  have:2*a*(2*b)=4*(a*b):=by grind
  omega
 unfold bC
 rw[decide_eq_true hd,decide_eq_true (p:=0<ent (fz (2*a) (2*b) (2*c) p q r) 0 0) (by show 0<2*a;omega),decide_eq_true (p:=ent (fz (2*a) (2*b) (2*c) p q r) 0 1*ent (fz (2*a) (2*b) (2*c) p q r) 0 1<ent (fz (2*a) (2*b) (2*c) p q r) 0 0*ent (fz (2*a) (2*b) (2*c) p q r) 1 1) h4]
 rfl
section
variable{X:Cx}{sc:Scope}{N2:List Str}{x y:Str}{px BK tpos:Pos}{x1:Nat}{elt iter:Expr}{gP p pos:Pos}{wi:TI}{te:TE}{P:Addr}
end
mutual
inductive DV(H:Hp):V->PyData->Prop
 |ig:DV H .ig .none
 |bl(b:Bool):DV H (.bl b) (.bool b)
 |int(i:Int):DV H (.int i) (.int i)
 |str(x:Str):DV H (.str x) (.str x)
 |lst{a:Addr}{xs:List V}{ds:List PyData}:H a=some (.lst xs) ->v9 H xs ds->DV H (.ref a) (.list ds)
 |tup{a:Addr}{xs:List V}{ds:List PyData}:H a=some (.tup xs) ->v9 H xs ds->DV H (.ref a) (.tuple ds)
inductive v9(H:Hp):List V->List PyData->Prop
 |nil:v9 H [] []
 |cons{x:V}{d:PyData}{xs:List V}{ds:List PyData}:DV H x d->v9 H xs ds->v9 H (x::xs) (d::ds)
end
mutual
theorem DV.same{H H':Hp}(s:ay H H'):∀{x:V}{d:PyData},DV H x d->DV H' x d
 |_,_,.ig=> .ig
 |_,_,.bl b=> .bl b
 |_,_,.int i=> .int i
 |_,_,.str x=> .str x
 |_,_,.lst e q=> .lst (s _ _ e) (v9.same s q)
 |_,_,.tup e q=> .tup (s _ _ e) (v9.same s q)
theorem v9.same{H H':Hp}(s:ay H H'):∀{xs:List V}{ds:List PyData},v9 H xs ds->v9 H' xs ds
 |_,_,.nil=> .nil
 |_,_,.cons a q=> .cons (DV.same s a) (v9.same s q)
end
theorem v9.length{H:Hp}:∀{xs:List V}{ds:List PyData},v9 H xs ds->xs.length=ds.length
 |_,_,.nil=>rfl
 |_,_,.cons _ q=>congrArg (· +1) (v9.length q)
theorem v9.get{H:Hp}:∀{xs:List V}{ds:List PyData}{i:Nat}{x:V},v9 H xs ds->xs[i]?=some x-> ∃d,ds[i]?=some d/\DV H x d
 |_,_,0,_,.cons a q,e=>by cases e;exact⟨_,rfl,a⟩
 |_,_,i+1,_,.cons a q,e=>v9.get (i:=i) q (by simpa using e)
def OJ:PyData->Value
 | .none=> .type "NoneType"
 | .bool _=> .type "bool"
 | .int _=> .type "int"
 | .str _=> .type "str"
 | .list _=> .type "list"
 | .tuple _=> .type "tuple"
 |_=> .none
theorem DV.ty(K:PySem.W.Frag){H:Hp}{x:V}{d:PyData}(h:DV H x d):mj K H x (OJ d):=by
 cases h with
 |ig=>exact .ig
 |bl b=>exact .bl b
 |int i=>exact .int i
 |str s=>exact .str s
 |lst e _=>exact .lst e
 |tup e _=>exact .tup e
theorem xZ{J:It}{H1:Hp}{xs:List V}{σ:St}{te:TE}{Q:VK}(jw:JW J H1 xs)(hz:xs.length<=sizeLine){D:Addr}(hD:H1 D=none)(f:V->HO)
  (hs:∀x∈xs,∀H' (Q':VK),ay H1 H'->(∀b H2,H' b=none->ay H' H2->H2 b=some (f x) ->Q' (.ref b) H2) ->te (some x::σ) H' Q')
  (hq:∀bs H',ay H1 H'->H' D=some (.lst (bs.map V.ref)) ->(∀b∈bs,H1 b=none) ->D∉bs->bs.Nodup->Paired (λx b=>H' b=some (f x)) xs bs->Q (.ref D) H'):
  jg 1 (cS 0) te σ J H1 D Q:=by
 refine p5 jw hz hD (λpre acc H'=> ∃bs:List Addr,acc=bs.map V.ref/\(∀b∈bs,H1 b=none/\H' b≠none)/\D∉bs/\bs.Nodup/\Paired (λx b=>H' b=some (f x)) pre bs) ⟨[],rfl,λ_ h=>(nomatch h),by simp,List.nodup_nil,.nil⟩ (λpre x post acc H' Q' e hl sm eD p k=> ?_) (λacc H' hl sm eD p=> ?_)
 ·obtain⟨bs,rfl,fr,nD,nn,pr⟩:=p
  refine hs x (by rw[e];simp) H' _ sm λb H2 hb s2 eb=> ?_
  have nb:b≠D:=λz=>by rw[z,eD]at hb;cases hb
  refine k _ _ s2 ⟨bs++ [b],by simp,?_,?_,?_,?_⟩
  ·intro c hc
   rcases List.mem_append.mp hc with z|z
   ·refine⟨(fr c z).1,λy=> ?_⟩
    rw[aH (λw=>nD (by rw[<-w];exact z))]at y
    exact(fr c z).2 (s2.none y)
   ·rw[List.mem_singleton.mp z]
    refine⟨sm.none hb,λy=> ?_⟩
    rw[aH nb,eb]at y
    cases y
  ·intro z
   rcases List.mem_append.mp z with z|z
   ·exact nD z
   ·exact nb (List.mem_singleton.mp z).symm
  ·rw[List.nodup_append]
   refine⟨nn,by simp,λc hc d hd z=> ?_⟩
   rw[List.mem_singleton.mp hd]at z
   exact(fr c hc).2 (by rw[z];exact hb)
  ·refine Paired.snoc (pr.CF λy c hc q=> ?_) (by rw[aH nb];exact eb)
   rw[aH (λz=>nD (by rw[<-z];exact hc))]
   exact s2 _ _ q
 ·obtain⟨bs,rfl,fr,nD,nn,pr⟩:=p
  exact hq bs H' sm eD (λb hb=>(fr b hb).1) nD nn pr
theorem CZ{K:PySem.W.Frag}{H:Hp}{t:Addr}{bs:List Addr}{m:List (List Int)}{σ:St}{Q:VK}(h:Tab H t bs m)(hz:m.length<=sizeLine){D:Addr}(hD:H D=none)
  (hq:∀bs' H',ay H H'->(∀b∈bs',H b=none) ->D∉bs'->bs'.Nodup->Tab H' D bs' m->Q (.ref D) H'):jg 1 (cS 0) (IP (zC K) (cW (bT 0) jc)) σ (GX K t) H D Q:=by
 refine xZ (iW (aU.of h.1)) (by rw[List.length_map,<-h.2.length];exact hz) hD (λx=> .lst (itemsOf H id x)) (λx hx H' Q' sm k=> ?_) (λbs' H' sm eD fr nD nn pr=> ?_)
 ·obtain⟨b,rfl,hb⟩:=vU hx
  obtain⟨row,OL,eb⟩:=HL h.2 hb
  refine⟨_,rfl,b,_,rfl,.inl (aU.of (sm _ _ eb)),λl hl=>k l _ hl (ay.up hl) ?_⟩
  rw[av,pD eb,List.map_id]
 ·refine hq bs' H' sm fr nD nn ⟨eD,?_⟩
  have:=sO (g:=id) h.2 pr λrow b e=>by rw[pD e,List.map_id];rfl
  rwa [List.map_id]at this
theorem Dc{X:Cx}:Js X (λo i H Q=> ∃(p:Addr)(xs:List V)(k:Nat)(v:V),o= .ref p/\i= .int (k:Int)/\aU X.K H p xs/\xs[k]?=some v/\Q v H):=by
 intro pins s σ H o i ov iv Q I ro ri h
 obtain⟨p,xs,k,v,rfl,rfl,hq,he,q⟩:=h
 cases ro
 obtain⟨t,rfl⟩:=ri
 obtain⟨its,r,pl,hz⟩:=I.list hq
 obtain⟨w,ew,rw'⟩:=r.get he
 have hl:=r.length
 have hk:k<xs.length:=(List.getElem?_eq_some_iff.mp he).1
 have hn:=qi
 exact wpAny_getItem_list pl.isList (by omega) (by omega) (by simpa using ew) ⟨v,H,I,rw',q⟩
section
variable{X:Cx}
theorem eB:CN X [] Gg:=⟨Ey⟩
end
theorem dJ{X:Cx}{c:Expr}{a b:List Stmt}{tc:TT}{t u:TS}{pos:Pos}(hc:PT X c tc)(ha:CN X a t)(hb:CN X b u):PS X (.If c a b pos) (Jk tc t u):=Jl hc ha.h hb.h
section
variable{prog:Program}{w:World}{A:Around}{R:Result->Shared->Prop}{s:Shared}
end
section
variable{X:Cx}{sc:Scope}{own N2:List Str}
end
section
variable{X:Cx}{sc:Scope}{N2:List Str}{x:Str}{px:Pos}{elt iter c:Expr}{pos:Pos}{wi:TI}{tt:TT}{te:TE}
end
end L2
namespace L2
end L2
namespace L2
open PySem PySem.Spec PyProof.Rows
def pF(H:Hp)(B:Addr):Prop:=∃g s:Int,H B=some (.lst [.int g,.int s])/\0<=g/\0<=s
def SB(B:Addr)(H H':Hp):Prop:=(∀a o,a≠B->H a=some o->H' a=some o)/\pF H' B
theorem SB.refl{B:Addr}{H:Hp}(h:pF H B):SB B H H:=⟨λ_ _ _ e=>e,h⟩
theorem SB.trans{B:Addr}{H H' JY:Hp}(h:SB B H H')(h':SB B H' JY):SB B H JY:=⟨λa o n e=>h'.1 a o n (h.1 a o n e),h'.2⟩
theorem pF.same{H H':Hp}{B:Addr}(h:pF H B)(s:ay H H'):pF H' B:=by
 obtain⟨g,t,e,r⟩:=h
 exact⟨g,t,s _ _ e,r⟩
theorem SB.of{B:Addr}{H H':Hp}(b:pF H B)(s:ay H H'):SB B H H':=⟨λa o _ e=>s _ _ e,b.same s⟩
theorem SB.gone{B:Addr}{H H':Hp}(h:SB B H H'){r:Addr}(e:H' r=none):H r=none:=by
 cases q:H r with
 |none=>rfl
 |some o=>
  by_cases z:r=B
  ·obtain⟨g,t,e2,_⟩:=h.2
   rw[<-z,e]at e2
   cases e2
  ·rw[h.1 r o z q]at e
   cases e
theorem SB.ne{B:Addr}{H H':Hp}(h:SB B H H'){r:Addr}(e:H' r=none):r≠B:=λz=>by
 obtain⟨g,t,e2,_⟩:=h.2
 rw[<-z,e]at e2
 cases e2
theorem pF.ne{H:Hp}{B r:Addr}(h:pF H B)(e:H r=none):r≠B:=(SB.refl h).ne e
end L2
namespace L2
end L2
namespace L2
open PySem PySem.Spec PyProof.Rows
def c7(r:List Int):Nat->Int:=λi=>r.getD i 0
section
variable{X:Cx}{sc:Scope}{N2:List Str}{x y:Str}{px BK tpos:Pos}{x1:Nat}{elt iter:Expr}{gP p pos:Pos}{wi:TI}{te:TE}{P:Addr}
theorem Fg{B:Around}(hc:X.calm=true)(Bk:nO sc.names X.env.scope.names [x,y] N2 X.N)(hnc:∀y∈sc.names,y.2≠ .cell)(code:Value)(s:Shared)(H:Hp)(fp:List Addr):PG (X.gen B sc ([x,y]++N2) code s H fp) (.Tuple [.Name x px,.Name y BK] x1 tpos) (g2 X.K):=
 t6 (X:=X.gen B sc ([x,y]++N2) code s H fp) hc (aO (zH (i:=0) Bk hnc rfl code s H fp) (aO (zH (i:=1) Bk hnc rfl code s H fp) eW))
theorem Fi(hc:X.calm=true)(hr:X.A.depth<recursionLimit)(cd:fj X.K X.env.code P)(bm:BM X.mg X.base)(Cz:Gl X "sum")(hm:X.mg "sum"=none)(hi:PI X (.Tuple [.Name x px,.Name y BK] x1 tpos) iter wi)(hB:CH sc X.env.scope.names [x,y] N2 X.N=true)
  (he:∀code s H fp,PE (X.gen X.A.in1.in1 sc ([x,y]++N2) code s H fp) elt te)
  (hs:∀x,genFold iter X.env x=pure x:=by intro _;rfl)(hst:starEach [.GeneratorExp elt [⟨.Tuple [.Name x px,.Name y BK] x1 tpos,iter,[],0⟩] sc gP] X.env=[(false,eval (.GeneratorExp elt [⟨.Tuple [.Name x px,.Name y BK] x1 tpos,iter,[],0⟩] sc gP) X.env)]:=by rfl):
  PE X (.Call (.Name "sum" p) [.GeneratorExp elt [⟨.Tuple [.Name x px,.Name y BK] x1 tpos,iter,[],0⟩] sc gP] [] pos) (vQ 2 P wi (g2 X.K) te):=
 have K:=qo hc hr cd bm hB
 zw (own:=[x,y]) K Cz hm hi (λcode s H fp=>Fg hc K.JM K.nc code s H fp) he hs hst
end
theorem Fj{K:PySem.W.Frag}{H1:Hp}{a b:Addr}{xs ys:List V}{σ:St}{te:TE}{F:Nat->(Nat->V->Prop) ->(Nat->St->Hp->Prop) ->Prop}(ha:aU K H1 a xs)(hb:aU K H1 b ys)(hl:xs.length=ys.length)(R:Nat->V->Prop)
  (hs:∀(i:Nat) x y,xs[i]?=some x->ys[i]?=some y-> ∀H' (Q':VK),ay H1 H'->(∀v H2,R i v->ay H' H2->Q' v H2) ->te (some x::some y::σ) H' Q')
  (hF:F xs.length R (λ_ σ' H'=>(∃o o',σ'=o::o'::σ)/\ay H1 H')):sN 2 (g2 K) te σ F (JP K a b) H1:=by
 refine⟨xs.length,R,_,⟨⟨none,none,rfl⟩,ay.refl _⟩,λi σ' H' hi w=> ?_,λσ' H' w=>⟨xs,ys,w.2.seq ha,w.2.seq hb,.inl (Nat.le_refl _)⟩,hF⟩
 obtain⟨⟨o,o',rfl⟩,sm⟩:=w
 have hi':i<ys.length:=by omega
 refine⟨⟨xs,ys,xs[i],ys[i],sm.seq ha,sm.seq hb,by simp[hi],by simp[hi']⟩,λv H2 yl=> ?_⟩
 obtain⟨T,x,y,rfl,hT,hx,hy,rfl⟩:=yl
 have ex:=hx xs (sm.seq ha)
 have ey:=hy ys (sm.seq hb)
 have s2:ay H' (upd H' T (.tup [x,y])):=ay.up hT
 refine⟨T,[x,y],rfl,rD.of av,rfl,x,[y],rfl,y,[],rfl,rfl,?_⟩
 show te (some x::some y::σ) _ _
 exact hs i x y ex ey _ _ (sm.trans s2) λv H3 r s3=>⟨r,⟨_,_,rfl⟩,(sm.trans s2).trans s3⟩
theorem Fl{K:PySem.W.Frag}{H1:Hp}{a b:Addr}{xs ys:List V}{σ:St}{te:TE}{Q:VK}{P:Addr}(ha:aU K H1 a xs)(hb:aU K H1 b ys)(hl:xs.length=ys.length)(hP:H1 P=some (dH P))(val:Nat->Int)
  (hs:∀(i:Nat) x y,xs[i]?=some x->ys[i]?=some y-> ∀H' (Q':VK),ay H1 H'->(∀H2,ay H' H2->Q' (.int (val i)) H2) ->te (some x::some y::σ) H' Q')
  (hq:∀H',ay H1 H'->Q (.int (preSum val xs.length)) H'):Cw 2 P (g2 K) te σ (JP K a b) H1 Q:=
 ⟨hP,Fj ha hb hl (λi v=>v= .int (val i)) (λi x y ex ey H' Q' sm k=>hs i x y ex ey H' Q' sm λH2 s2=>k _ _ rfl s2) ⟨val,λi v _ r=>r,λσ' H' w=>hq H' w.2⟩⟩
section
variable{X:Cx}{sc:Scope}{N2:List Str}{x:Str}{px:Pos}{elt iter:Expr}{gP p pos:Pos}{wi:TI}{te:TE}{P:Addr}
end
theorem Dd{v:V}{r:List V}:vD (v::r) 0=some v:=fS (i:=0) rfl
theorem uv{K:PySem.W.Frag}{H:Hp}{a:Addr}{xs:List Int}(h:aU K H a (xs.map V.int)):zy K H (.ref a) (l8 xs):= .lst h (CJ xs)
theorem HS{K:PySem.W.Frag}{H:Hp}{a b:Addr}{xs ys:List Int}{Q:VK}(ha:aU K H a (xs.map V.int))(hb:aU K H b (ys.map V.int))(q:Q (.bl (decide (xs=ys))) H):Av K false (.ref a) (.ref b) H Q:=
 ⟨l8 xs,l8 ys,uv ha,uv hb,jZ _,jZ _,by rw[uf];exact q⟩
theorem HU{K:PySem.W.Frag}{H:Hp}{a b:Addr}{xs ys:List Int}{Q:VK}(ha:aU K H a (xs.map V.int))(hb:aU K H b (ys.map V.int))(q:Q (.bl (!decide (xs=ys))) H):Av K true (.ref a) (.ref b) H Q:=
 ⟨l8 xs,l8 ys,uv ha,uv hb,jZ _,jZ _,by rw[uf];exact q⟩
section
variable{X:Cx}{B:Around}{sc:Scope}{N':List Str}{code:Value}{sC:Shared}{HC:Hp}{fp Ss:List Addr}{tn:Nat->Heap->Prop}{N:Nat}{sel:Nat->Bool}{R:Nat->V->Prop}{W:St->Hp->Prop}
variable{elt iter tg c:Expr}{pos:Pos}{it:Addr}{J:It}{g:TG}{tt:TT}{te:TE}
end
section
variable{X:Cx}{sc:Scope}{own N2:List Str}{elt iter tg c:Expr}{pos:Pos}{wi:TI}{g:TG}{tt:TT}{te:TE}{P:Addr}
end
def mx(val:Nat->Int):Nat->Int
 |0=>val 0
 |k+1=>if val (k+1)>mx val k then val (k+1)else mx val k
section
variable{X:Cx}{sc:Scope}{N':List Str}{code:Value}{sC:Shared}{HC:Hp}{fp:List Addr}{tn:Nat->Heap->Prop}{cnt:Nat}{R:Nat->V->Prop}{W:Nat->St->Hp->Prop}{a S:Addr}{pins:List (Addr×Obj)}{σ:St}{Rr:Result->Shared->Prop}
end
section
variable{X:Cx}{sc:Scope}{N2:List Str}{x:Str}{px:Pos}{elt iter c:Expr}{gP p pos:Pos}{wi:TI}{tt:TT}{te:TE}{P:Addr}
end
section
variable{X:Cx}
abbrev TB:=St->Hp->(St->Hp->Prop) ->Prop
end
section
variable{X:Cx}{sc:Scope}{own N2:List Str}
variable{x y:Str}{px BK:Pos}{elt iter zx:Expr}{pos:Pos}{wi KH:TI}{te:TE}
end
section
variable{X:Cx}
end
def IS(i:Nat)(z:Int):Nat->Int:=λj=>if j=i then z else 0
theorem jF{m:List (List Int)}(h:bV m)(x y:Nat->Int):au m x y=au m y x:=by
 obtain⟨⟨s1,s2,s3⟩,_⟩:=h
 rw[aX,aX,s1,s2,s3]
 grind
theorem fB{m:List (List Int)}{x y x' y':Nat->Int}(h:∀i,i<3->x i=x' i)(k:∀i,i<3->y i=y' i):au m x y=au m x' y':=by
 rw[aX,aX,h 0 (by decide),h 1 (by decide),h 2 (by decide),k 0 (by decide),k 1 (by decide),k 2 (by decide)]
def In(M:(Nat->Int) ->Prop)(L:List (List Int)):Prop:=∀r∈L,M (c7 r)
end L2
namespace uw
open PySem PyProof.Rows
section
variable{M:Model}{A:Around}{E:Value->Shared->Prop}{s:Shared}{st:SortSt}{b:Nat->Bool}{n:Nat}{bd:Nat->StateT SortSt Sem (Option Bool)}
end
def AE(prog:Program)(w:World)(A:Around)(E:Value->Shared->Prop)(s:Shared)(κ:SortKind)(K:Keyed->Int)(D:Keyed->Prop):Prop:=
 ∀(st:SortSt)(x y:Keyed)(Q:Option Bool->SortSt->Prop),kindOf st=κ->D x->D y->Q (some (decide (K x<K y))) st->wpS (model prog w) A E s (lt' x y) Q st
section
variable{prog:Program}{w:World}{A:Around}{E:Value->Shared->Prop}{s:Shared}{κ:SortKind}{K:Keyed->Int}{D:Keyed->Prop}{st:SortSt}
theorem De{ar:Array Keyed}{i:Nat}{x:Keyed}{Q:Keyed->SortSt->Prop}{M:Model}(h:ar[i]?=some x)(hq:Q x st):wpS M A E s (elem' ar i) Q st:=by
 rw[elem'_eq,h]
 exact wpS_pure hq
abbrev rv(a:Array Keyed)(i:Nat):List Keyed:=(a.toList.take i).reverse
end
def kA(K:Keyed->Int)(xs:Array Keyed)(i:Nat):Int:=match xs[i]? with
 |some p=>K p
 |none=>0
theorem lC{K:Keyed->Int}{xs ys:Array Keyed}{i j:Nat}(h:xs[i]?=ys[j]?):kA K xs i=kA K ys j:=by unfold kA;rw[h]
def So(K:Keyed->Int)(xs:Array Keyed)(lo n:Nat):Prop:=∀i j,i<=j->j<n->kA K xs (lo+i)<=kA K xs (lo+j)
def Si(K:Keyed->Int)(xs:Array Keyed)(lo n:Nat):Prop:=∀i j,i<=j->j<n->kA K xs (lo+j)<=kA K xs (lo+i)
theorem nQ{K:Keyed->Int}{xs:Array Keyed}{i j:Nat}(hj:j<=xs.size)(k:Nat):
  kA K (mirror xs i j ((j-i)/2)) k=if i<=k/\k<j then kA K xs (i+j-1-k)else kA K xs k:=by
 have e:=getElem?_mirror_all (i:=i) hj k
 by_cases h1:i<=k/\k<j
 ·rw[if_pos h1]at e ⊢;exact lC e
 ·rw[if_neg h1]at e ⊢;exact lC e
theorem ux{K:Keyed->Int}{xs:Array Keyed}{i j:Nat}(hj:j<=xs.size)(heq:∀k,i<=k->k<j->kA K xs k=kA K xs (j-1))(k:Nat):kA K (mirror xs i j ((j-i)/2)) k=kA K xs k:=by
 rw[nQ hj]
 split
 ·rw[heq _ (by omega) (by omega),heq k (by omega) (by omega)]
 ·rfl
theorem AF{K:Keyed->Int}{xs:Array Keyed}{src d:Nat}(hs:src<xs.size)(hd:d<=src)(k:Nat):
  kA K (bubble xs src d) k=if k=src-d then kA K xs src else if src-d<k/\k<=src then kA K xs (k-1)else kA K xs k:=by
 have e:=getElem?_bubble hs d hd k
 by_cases h1:k=src-d
 ·rw[if_pos h1]at e ⊢;exact lC e
 ·rw[if_neg h1]at e ⊢
  by_cases h2:src-d<k/\k<=src
  ·rw[if_pos h2]at e ⊢;exact lC e
  ·rw[if_neg h2]at e ⊢;exact lC e
structure SC(lo:Nat)(s0 st:SortSt):Prop where
 perm:(arrOf st).Perm (arrOf s0)
 kind:kindOf st=kindOf s0
 failed:failedOf st=failedOf s0
 pend:pendingOf st=pendingOf s0
 low:∀i,i<lo->(arrOf st)[i]?=(arrOf s0)[i]?
theorem SC.refl(lo:Nat)(st:SortSt):SC lo st st:=⟨Array.Perm.refl _,rfl,rfl,rfl,λ_ _=>rfl⟩
theorem SC.trans{lo:Nat}{a b c:SortSt}(x:SC lo a b)(y:SC lo b c):SC lo a c:=⟨y.perm.trans x.perm,y.kind.trans x.kind,y.failed.trans x.failed,y.pend.trans x.pend,λi h=>(y.low i h).trans (x.low i h)⟩
theorem SC.size{lo:Nat}{a b:SortSt}(x:SC lo a b):(arrOf b).size=(arrOf a).size:=x.perm.size_eq
theorem SC.mirror{lo:Nat}{s0 st:SortSt}(x:SC lo s0 st){i j:Nat}(hi:lo<=i)(hj:j<=(arrOf st).size):SC lo s0 (setArr st (mirror (arrOf st) i j ((j-i)/2))):=
 x.trans ⟨mirror_perm _ _ _ _,rfl,rfl,rfl,λk hk=>by
  show(PyProof.Rows.mirror (arrOf st) i j ((j-i)/2))[k]?=_
  rw[getElem?_mirror_all hj,if_neg (by omega)]⟩
theorem SC.bubble{lo:Nat}{s0 st:SortSt}(x:SC lo s0 st){src d:Nat}(hs:src<(arrOf st).size)(hd:lo+d<=src):SC lo s0 (setArr st (bubble (arrOf st) src d)):=
 x.trans ⟨bubble_perm _ _ _,rfl,rfl,rfl,λk hk=>by
  show(PyProof.Rows.bubble (arrOf st) src d)[k]?=_
  rw[getElem?_bubble hs d (by omega),if_neg (by omega),if_neg (by omega)]⟩
structure SB(κ:SortKind)(D:Keyed->Prop)(st:SortSt):Prop where
 kind:kindOf st=κ
 failed:failedOf st=none
 all:∀x∈(arrOf st).toList,D x
theorem SB.sc{κ:SortKind}{D:Keyed->Prop}{lo:Nat}{s0 st:SortSt}(b:SB κ D s0)(x:SC lo s0 st):SB κ D st:=
 ⟨x.kind.trans b.kind,x.failed.trans b.failed,λy hy=>b.all y ((Array.perm_iff_toList_perm.mp x.perm).mem_iff.mp hy)⟩
section
variable{prog:Program}{w:World}{A:Around}{E:Value->Shared->Prop}{s:Shared}{κ:SortKind}{K:Keyed->Int}{D:Keyed->Prop}{st:SortSt}
theorem nS(hL:AE prog w A E s κ K D){i j:Nat}{Q:Option Bool->SortSt->Prop}(hB:SB κ D st)(hi:i<(arrOf st).size)(hj:j<(arrOf st).size)
  (h:Q (some (decide (kA K (arrOf st) i<kA K (arrOf st) j))) st):wpS (model prog w) A E s (ltAt' i j) Q st:=by
 rw[ltAt'_eq]
 refine wpS_bind (wpS_get ?_)
 show wpS _ _ _ _ (do let x<-elem' (arrOf st) i;let y<-elem' (arrOf st) j;lt' x y) Q st
 have e1:(arrOf st)[i]?=some (arrOf st)[i]:=getElem?_pos _ i hi
 have e2:(arrOf st)[j]?=some (arrOf st)[j]:=getElem?_pos _ j hj
 refine wpS_bind (De e1 (wpS_bind (De e2 ?_)))
 refine hL st _ _ _ hB.kind (hB.all _ (by simp)) (hB.all _ (by simp)) ?_
 unfold kA at h
 rw[e1,e2]at h
 exact h
theorem w_rev{M:Model}{i j:Nat}{Q:Unit->SortSt->Prop}(h:Q ⟨⟩ (setArr st (mirror (arrOf st) i j ((j-i)/2)))):wpS M A E s (reverseSlice' i j) Q st:=by
 rw[reverseSlice'_eq]
 exact wpS_modify h
theorem w_count(hL:AE prog w A E s κ K D){lo nrem:Nat}{Q:Option Nat->SortSt->Prop}(hB:SB κ D st)(h1:1<=nrem)(hz:lo+nrem<=(arrOf st).size)
  (hq:∀n st',SC lo st st'->1<=n->n<=nrem->So K (arrOf st') lo n->Q (some n) st'):wpS (model prog w) A E s (countRun' lo nrem) Q st:=by
 rw[countRun'_eq]
 refine wpS_bind (wpS_mono (wpS_forRange (I:=λx c st'=>st'=st/\c=(none,x)/\So K (arrOf st) lo x)
  (Q:=λc st'=>st'=st/\ ∃n,c=(none,n)/\1<=n/\n<=nrem/\So K (arrOf st) lo n/\(n=nrem∨kA K (arrOf st) (lo+n)<kA K (arrOf st) (lo+n-1))) ?_ ?_ ⟨rfl,rfl,λi j hij hj=> ?_⟩) ?_)
 ·rintro x c st' ha hx ⟨rfl,rfl,hs⟩
  dsimp only
  refine wpS_bind (nS hL hB (by omega) (by omega) ?_)
  dsimp only
  by_cases lt:kA K (arrOf st') (lo+x)<kA K (arrOf st') (lo+x-1)
  ·rw[decide_eq_true lt,if_pos rfl]
   exact wpS_pure ⟨rfl,x,rfl,ha,by omega,hs,.inr lt⟩
  ·rw[decide_eq_false lt,if_neg (by simp)]
   refine wpS_pure ⟨rfl,rfl,λi j hij hj=> ?_⟩
   by_cases c:j=x
   ·subst c
    by_cases c2:i=j
    ·subst c2;exact Int.le_refl _
    ·have:=hs i (j-1) (by omega) (by omega)
     rw[show lo+(j-1)=lo+j-1 by omega]at this
     omega
   ·exact hs i j hij (by omega)
 ·rintro c st' ⟨rfl,rfl,hs⟩
  rw[Nat.max_eq_right h1]at hs ⊢
  exact⟨rfl,nrem,rfl,h1,Nat.le_refl _,hs,.inl rfl⟩
 ·have:i=j:=by omega
  subst this
  exact Int.le_refl _
 rintro c st' ⟨rfl,n,rfl,n1,n2,hs,hend⟩
 dsimp only
 by_cases c1:(n==nrem)=true
 ·rw[if_pos c1]
  exact wpS_pure (hq n st' (.refl _ _) n1 n2 hs)
 rw[if_neg c1]
 have nn:n<nrem:=by
  have:n≠nrem:=λe=>c1 (by rw[e];simp)
  omega
 have hlt:kA K (arrOf st') (lo+n)<kA K (arrOf st') (lo+n-1):=hend.resolve_left (by omega)
 have part:∀s1:SortSt,SC lo st' s1->(∀k,kA K (arrOf s1) k=kA K (arrOf st') k) ->Si K (arrOf st') lo (n+1) -> ∀F:StateT SortSt Sem (Option Nat),F=(do
   rule "list.sort.descending-run"
   let mut n:=n
   n:=n+1
   let mut q:=0
   for _ in [n:nrem] do
    let some m<-ltAt' (lo+n) (lo+n-1)|return none
    if m then
     if q>0 then reverseSlice' (lo+n- (q+1)) (lo+n)
     q:=0
    else
     let some g<-ltAt' (lo+n-1) (lo+n)|return none
     if g then break
     q:=q+1
    n:=n+1
   if q>0 then reverseSlice' (lo+n- (q+1)) (lo+n)
   reverseSlice' lo (lo+n)
   for _ in [n:nrem] do
    let some m<-ltAt' (lo+n) (lo+n-1)|return none
    if m then break
    n:=n+1
   return some n) ->wpS (model prog w) A E s F Q s1:=by
  intro s1 S1 hk1 hd F hF
  subst hF
  refine wpS_bind (wpS_lift (wpAny_rule ⟨rfl,?_⟩))
  dsimp only
  have rest:∀(s2:SortSt)(m:Nat),SC lo st' s2->n+1<=m->m<=nrem->Si K (arrOf s2) lo m-> ∀F:StateT SortSt Sem (Option Nat),F=(do
    reverseSlice' lo (lo+m)
    let mut n:=m
    for _ in [n:nrem] do
     let some m<-ltAt' (lo+n) (lo+n-1)|return none
     if m then break
     n:=n+1
    return some n) ->wpS (model prog w) A E s F Q s2:=by
   intro s2 m S2 m1 m2 hd2 F hF
   subst hF
   have z2:=S2.size
   refine wpS_bind (w_rev ?_)
   have S3:=S2.mirror (i:=lo) (j:=lo+m) (Nat.le_refl _) (by omega)
   have Nf:So K (arrOf (setArr s2 (mirror (arrOf s2) lo (lo+m) ((lo+m-lo)/2)))) lo m:=by
    intro i j hij hj
    show kA K (mirror (arrOf s2) lo (lo+m) ((lo+m-lo)/2)) (lo+i)<=kA K (mirror (arrOf s2) lo (lo+m) ((lo+m-lo)/2)) (lo+j)
    rw[nQ (by omega),nQ (by omega),if_pos (by omega),if_pos (by omega)]
    have:=hd2 (m-1-j) (m-1-i) (by omega) (by omega)
    rw[show lo+(m-1-i)=lo+(lo+m) -1- (lo+i)by omega,show lo+(m-1-j)=lo+(lo+m) -1- (lo+j)by omega]at this
    exact this
   generalize setArr s2 (mirror (arrOf s2) lo (lo+m) ((lo+m-lo)/2))=s3 at S3 Nf ⊢
   have z3:=S3.size
   have OM:=hB.sc S3
   refine wpS_bind (wpS_mono (wpS_forRange (I:=λx c st''=>st''=s3/\c=(none,x)/\So K (arrOf s3) lo x)
    (Q:=λc st''=>st''=s3/\ ∃n,c=(none,n)/\1<=n/\n<=nrem/\So K (arrOf s3) lo n) ?_ ?_ ⟨rfl,rfl,Nf⟩) ?_)
   ·rintro x c st'' ha hx ⟨rfl,rfl,hs⟩
    dsimp only
    refine wpS_bind (nS hL OM (by omega) (by omega) ?_)
    dsimp only
    by_cases lt:kA K (arrOf st'') (lo+x)<kA K (arrOf st'') (lo+x-1)
    ·rw[decide_eq_true lt,if_pos rfl]
     exact wpS_pure ⟨rfl,x,rfl,by omega,by omega,hs⟩
    ·rw[decide_eq_false lt,if_neg (by simp)]
     refine wpS_pure ⟨rfl,rfl,λi j hij hj=> ?_⟩
     by_cases c:j=x
     ·subst c
      by_cases c2:i=j
      ·subst c2;exact Int.le_refl _
      ·have:=hs i (j-1) (by omega) (by omega)
       rw[show lo+(j-1)=lo+j-1 by omega]at this
       omega
     ·exact hs i j hij (by omega)
   ·rintro c st'' ⟨rfl,rfl,hs⟩
    rw[Nat.max_eq_right m2]at hs ⊢
    exact⟨rfl,nrem,rfl,by omega,Nat.le_refl _,hs⟩
   ·rintro c st'' ⟨rfl,n',rfl,a1,a2,a3⟩
    exact wpS_pure (hq n' st'' S3 a1 a2 a3)
  refine wpS_bind (wpS_mono (wpS_forRange (I:=λx c s2=> ∃q,c=(none,x,q)/\SC lo st' s2/\Si K (arrOf s2) lo x/\q+1<=x/\ ∀i,x- (q+1)<=i->i<x->kA K (arrOf s2) (lo+i)=kA K (arrOf s2) (lo+x-1))
   (Q:=λc s2=> ∃x q,c=(none,x,q)/\n+1<=x/\x<=nrem/\SC lo st' s2/\Si K (arrOf s2) lo x/\q+1<=x/\ ∀i,x- (q+1)<=i->i<x->kA K (arrOf s2) (lo+i)=kA K (arrOf s2) (lo+x-1)) ?_ ?_ ⟨0,rfl,S1,λi j hij hj=> ?_,by omega,λi h1 h2=> ?_⟩) ?_)
  ·rintro x c s2 ha hx ⟨q,rfl,S2,hd2,hq1,heq⟩
   dsimp only
   have z2:=S2.size
   have hB2:=hB.sc S2
   refine wpS_bind (nS hL hB2 (by omega) (by omega) ?_)
   dsimp only
   by_cases lt:kA K (arrOf s2) (lo+x)<kA K (arrOf s2) (lo+x-1)
   ·rw[decide_eq_true lt,if_pos rfl]
    have Ng:∀s3:SortSt,SC lo st' s3->(∀k,kA K (arrOf s3) k=kA K (arrOf s2) k) -> ∃q,((none,x+1,0):Option (Option Nat)×Nat×Nat)=(none,x+1,q)/\SC lo st' s3/\Si K (arrOf s3) lo (x+1)/\q+1<=x+1/\ ∀i,x+1- (q+1)<=i->i<x+1->kA K (arrOf s3) (lo+i)=kA K (arrOf s3) (lo+(x+1) -1):=by
     intro s3 S3 Gr
     refine⟨0,rfl,S3,λi j hij hj=> ?_,by omega,λi h1 h2=> ?_⟩
     ·rw[Gr,Gr]
      by_cases c:j=x
      ·subst c
       by_cases c2:i=j
       ·subst c2;exact Int.le_refl _
       ·have:=hd2 i (j-1) (by omega) (by omega)
        rw[show lo+(j-1)=lo+j-1 by omega]at this
        omega
      ·exact hd2 i j hij (by omega)
     ·have:i=x:=by omega
      subst this
      rfl
    by_cases JZ:q>0
    ·rw[if_pos JZ]
     refine wpS_bind (w_rev (wpS_pure (Ng _ (S2.mirror (by omega) (by omega)) λk=> ?_)))
     refine ux (by omega) (λk k1 k2=> ?_) k
     have:=heq (k-lo) (by omega) (by omega)
     rw[show lo+(k-lo)=k by omega]at this
     exact this
    ·rw[if_neg JZ]
     exact wpS_pure (Ng s2 S2 λ_=>rfl)
   ·rw[decide_eq_false lt,if_neg (by simp)]
    refine wpS_bind (nS hL hB2 (by omega) (by omega) ?_)
    dsimp only
    by_cases KN:kA K (arrOf s2) (lo+x-1)<kA K (arrOf s2) (lo+x)
    ·rw[decide_eq_true KN,if_pos rfl]
     exact wpS_pure ⟨x,q,rfl,ha,by omega,S2,hd2,hq1,heq⟩
    ·rw[decide_eq_false KN,if_neg (by simp)]
     have e:kA K (arrOf s2) (lo+x)=kA K (arrOf s2) (lo+x-1):=by omega
     refine wpS_pure ⟨q+1,rfl,S2,λi j hij hj=> ?_,by omega,λi h1 h2=> ?_⟩
     ·by_cases c:j=x
      ·subst c
       by_cases c2:i=j
       ·subst c2;exact Int.le_refl _
       ·have:=hd2 i (j-1) (by omega) (by omega)
        rw[show lo+(j-1)=lo+j-1 by omega]at this
        omega
      ·exact hd2 i j hij (by omega)
     ·rw[show lo+(x+1) -1=lo+x by omega,e]
      by_cases c:i=x
      ·subst c;exact e
      ·exact heq i (by omega) (by omega)
  ·rintro c s2 ⟨q,rfl,S2,hd2,hq1,heq⟩
   rw[Nat.max_eq_right (show n+1<=nrem by omega)]at hd2 hq1 heq ⊢
   exact⟨nrem,q,rfl,by omega,Nat.le_refl _,S2,hd2,hq1,heq⟩
  ·rw[hk1,hk1]
   exact hd i j hij hj
  ·have:i=n:=by omega
   subst this
   rfl
  ·rintro c s2 ⟨x,q,rfl,x1,x2,S2,hd2,hq1,heq⟩
   dsimp only
   have z2:=S2.size
   by_cases JZ:q>0
   ·rw[if_pos JZ]
    refine wpS_bind (w_rev ?_)
    have hk:∀k,kA K (arrOf (setArr s2 (mirror (arrOf s2) (lo+x- (q+1)) (lo+x) ((lo+x- (lo+x- (q+1)))/2)))) k=kA K (arrOf s2) k:=λk=>by
     refine ux (by omega) (λk k1 k2=> ?_) k
     have:=heq (k-lo) (by omega) (by omega)
     rw[show lo+(k-lo)=k by omega]at this
     exact this
    exact rest _ x (S2.mirror (by omega) (by omega)) x1 x2 (λi j hij hj=>by rw[hk,hk];exact hd2 i j hij hj) _ rfl
   ·rw[if_neg JZ]
    exact rest s2 x S2 x1 x2 hd2 _ rfl
 by_cases gt:n>1
 ·rw[if_pos gt]
  refine wpS_bind (nS hL hB (by omega) (by omega) ?_)
  dsimp only
  by_cases Ka:kA K (arrOf st') lo<kA K (arrOf st') (lo+n-1)
  ·rw[decide_eq_true Ka,if_pos rfl]
   exact wpS_pure (hq n st' (.refl _ _) n1 n2 hs)
  ·rw[decide_eq_false Ka,if_neg (by simp)]
   have hall:∀k,lo<=k->k<lo+n->kA K (arrOf st') k=kA K (arrOf st') (lo+n-1):=λk k1 k2=>by
    have a1:=hs 0 (k-lo) (by omega) (by omega)
    have a2:=hs (k-lo) (n-1) (by omega) (by omega)
    rw[show lo+(k-lo)=k by omega]at a1 a2
    rw[show lo+(n-1)=lo+n-1 by omega]at a2
    rw[Nat.add_zero]at a1
    omega
   refine wpS_bind (w_rev (part _ ((SC.refl lo st').mirror (Nat.le_refl _) (by omega)) (λk=>ux (by omega) hall k) (λi j hij hj=> ?_) _ rfl))
   by_cases c:j=n
   ·subst c
    by_cases c2:i=j
    ·subst c2;exact Int.le_refl _
    ·rw[hall (lo+i) (by omega) (by omega)]
     omega
   ·rw[hall (lo+i) (by omega) (by omega),hall (lo+j) (by omega) (by omega)]
    exact Int.le_refl _
 ·rw[if_neg gt]
  have e1:n=1:=by omega
  subst e1
  refine part st' (.refl _ _) (λ_=>rfl) (λi j hij hj=> ?_) _ rfl
  by_cases c2:i=j
  ·subst c2;exact Int.le_refl _
  ·have:i=0:=by omega
   have:j=1:=by omega
   subst_vars
   rw[show lo+1-1=lo+0 by omega]at hlt
   omega
theorem Kc(hL:AE prog w A E s κ K D){lo n ok:Nat}{Q:Bool->SortSt->Prop}(hB:SB κ D st)(hok:ok<=n)(hz:lo+n<=(arrOf st).size)(hs:So K (arrOf st) lo ok)
  (h:∀st',SC lo st st'->So K (arrOf st') lo n->Q true st'):wpS (model prog w) A E s (binarySort' lo n ok) Q st:=by
 rw[binarySort'_eq]
 refine wpS_bind (wpS_mono (wpS_forRange (I:=λk c st'=>c=(none,())/\SC lo st st'/\So K (arrOf st') lo (min k n))
  (Q:=λc st'=>c=(none,())/\SC lo st st'/\So K (arrOf st') lo n) ?_ ?_ ⟨rfl,.refl _ _,λi j hij hj=> ?_⟩) ?_)
 ·rintro k c st' Ql hkn ⟨rfl,S,hs'⟩
  rw[show min k n=k by omega]at hs'
  have z:=S.size
  have hk:lo+k<(arrOf st').size:=by omega
  have ON:=hB.sc S
  refine wpS_bind (wpS_mono (wpS_forRange (I:=λx c s2=>s2=st'/\ ∃l r,c=(none,l,r)/\l<=r/\r<=k/\r-l<=k-x/\
    (∀i,i<l->kA K (arrOf st') (lo+i)<=kA K (arrOf st') (lo+k))/\(∀i,r<=i->i<k->kA K (arrOf st') (lo+k)<kA K (arrOf st') (lo+i)))
   (Q:=λc s2=>s2=st'/\ ∃l r,c=(none,l,r)/\l<=k/\
    (∀i,i<l->kA K (arrOf st') (lo+i)<=kA K (arrOf st') (lo+k))/\(∀i,l<=i->i<k->kA K (arrOf st') (lo+k)<kA K (arrOf st') (lo+i))) ?_ ?_ ⟨rfl,0,k,rfl,by omega,by omega,by omega,λi hi=>by omega,λi h1 h2=>by omega⟩) ?_)
  ·rintro x c s2 _ hxk ⟨rfl,l,r,rfl,hlr,hrk,hm,hlo,hhi⟩
   dsimp only
   by_cases hge:l≥r
   ·rw[if_pos hge]
    have:l=r:=by omega
    subst this
    exact wpS_pure ⟨rfl,l,l,rfl,hrk,hlo,hhi⟩
   ·rw[if_neg hge]
    refine wpS_bind (nS hL ON hk (by omega) ?_)
    by_cases less:kA K (arrOf s2) (lo+k)<kA K (arrOf s2) (lo+(l+r)/2)
    ·simp only[less,decide_true,if_true]
     refine wpS_pure ⟨rfl,l,(l+r)/2,rfl,by omega,by omega,by omega,hlo,λi h1 h2=> ?_⟩
     exact Int.lt_of_lt_of_le less (hs' _ _ h1 h2)
    ·simp only[less,decide_false,Bool.false_eq_true,if_false]
     refine wpS_pure ⟨rfl,(l+r)/2+1,r,rfl,by omega,by omega,by omega,λi h1=> ?_,hhi⟩
     exact Int.le_trans (hs' i ((l+r)/2) (by omega) (by omega)) (Int.not_lt.mp less)
  ·rintro c s2 ⟨rfl,l,r,rfl,hlr,hrk,hm,hlo,hhi⟩
   have:l=r:=by omega
   subst this
   exact⟨rfl,l,l,rfl,hrk,hlo,hhi⟩
  ·rintro c s2 ⟨rfl,l,r,rfl,hlk,hlo,hhi⟩
   dsimp only
   rw[moveDown'_eq,show lo+k- (lo+l)=k-l by omega]
   refine wpS_bind (wpS_modify (wpS_pure ⟨rfl,S.bubble hk (by omega),?_⟩))
   rw[show min (k+1) n=k+1 by omega]
   intro i j hij hj
   show kA K (bubble (arrOf s2) (lo+k) (k-l)) (lo+i)<=kA K (bubble (arrOf s2) (lo+k) (k-l)) (lo+j)
   have e:∀t,t<k+1->kA K (bubble (arrOf s2) (lo+k) (k-l)) (lo+t)=if t=l then kA K (arrOf s2) (lo+k)else if l<t then kA K (arrOf s2) (lo+(t-1))else kA K (arrOf s2) (lo+t):=by
    intro t ht
    rw[AF hk (by omega)]
    by_cases c1:t=l
    ·rw[if_pos (by omega),if_pos c1]
    ·rw[if_neg (by omega),if_neg c1]
     by_cases c2:l<t
     ·rw[if_pos (by omega),if_pos c2,show lo+t-1=lo+(t-1)by omega]
     ·rw[if_neg (by omega),if_neg c2]
   rw[e i (by omega),e j hj]
   repeat' split
   all_goals first
    |(exfalso;omega)
    |exact Int.le_refl _
    |exact hlo _ (by omega)
    |exact Int.le_of_lt (hhi _ (by omega) (by omega))
    |exact hs' _ _ (by omega) (by omega)
 ·rintro c st' ⟨hc,S,hs'⟩
  refine⟨hc,S,?_⟩
  rwa [show min (max (max ok 1) n) n=n by omega]at hs'
 ·by_cases h1:ok=0
  ·have:i=j:=by omega
   subst this;exact Int.le_refl _
  ·exact hs i j hij (by omega)
 ·rintro c st' ⟨rfl,S,hs'⟩
  exact wpS_pure (h st' S hs')
abbrev sl(a:Array Keyed)(lo n:Nat):List Keyed:=(a.toList.drop lo).take n
theorem HV{a:Array Keyed}{lo n:Nat}(h:lo+n<=a.size):So K a lo n↔(sl a lo n).Pairwise λx y=>K x<=K y:=by
 have len:(sl a lo n).length=n:=by simp[sl];omega
 have at':∀i (hi:i<n),∃x,(sl a lo n)[i]'(by omega)=x/\kA K a (lo+i)=K x:=λi hi=>by
  refine⟨_,rfl,?_⟩
  have e:a[lo+i]?=some ((sl a lo n)[i]'(by omega)):=by
   rw[<-List.getElem?_eq_getElem]
   simp[sl,List.getElem?_take_of_lt hi]
  unfold kA
  rw[e]
 constructor
 ·intro hs
  rw[List.pairwise_iff_getElem]
  intro i j hi hj hij
  obtain⟨x,ex,kx⟩:=at' i (by omega)
  obtain⟨y,ey,ky⟩:=at' j (by omega)
  have:=hs i j (by omega) (by omega)
  rw[ex,ey,<-kx,<-ky]
  exact this
 ·intro hs i j hij hj
  by_cases c:i=j
  ·subst c;exact Int.le_refl _
  obtain⟨x,ex,kx⟩:=at' i (by omega)
  obtain⟨y,ey,ky⟩:=at' j hj
  have:=List.pairwise_iff_getElem.mp hs i j (by omega) (by omega) (by omega)
  rw[ex,ey,<-kx,<-ky]at this
  exact this
theorem uy{M:Model}{α:Type}{c:Prop}[Decidable c]{x y:StateT SortSt Sem α}{Q:α->SortSt->Prop}(h1:c->wpS M A E s x Q st)(h2:¬c->wpS M A E s y Q st):wpS M A E s (if c then x else y) Q st:=by
 split
 ·exact h1 ‹_›
 ·exact h2 ‹_›
end
theorem HW:sortRuns'=(do
 let zz:=(arrOf (<-get)).size
 let mr:=minRun' zz zz 0
 let mut lo:=0
 for _ in [0:zz] do
  if lo≥zz then break
  let some f<-countRun' lo (zz-lo)|return
  let mut n:=f
  if n<mr then
   rule "list.sort.binary-insertion"
   let fo:=min (zz-lo) mr
   if !(<-binarySort' lo fo n)then return
   n:=fo
  if let some (a1,b1,_):=(pendingOf (<-get)).back? then
   let pw:=power' zz (2*a1+b1) (2*a1+b1+b1+n) zz
   for _ in [0:zz] do
    let p:=pendingOf (<-get)
    let some (_,_,od):=(if p.size>1 then p[p.size-2]? else none)|break
    if od<=pw then break
    if !(<-mergeAt' (p.size-2))then return
   modify λy=>setPending y ((pendingOf y).modify ((pendingOf y).size-1) λ (c,d,_)=>(c,d,pw))
  modify λy=>setPending y ((pendingOf y).push (lo,n,0))
  lo:=lo+n
 for _ in [0:zz] do
  let p:=pendingOf (<-get)
  if p.size<=1 then break
  let i:=p.size-2
  let be:=if i>0 then p[i-1]?.map (·.2.1)else none
  let i:=if be.any (· <(p[i+1]?.elim 0 (·.2.1)))then i-1 else i
  if !(<-mergeAt' i)then return):=rfl
section
variable{prog:Program}{w:World}{A:Around}{E:Value->Shared->Prop}{s:Shared}{κ:SortKind}{K:Keyed->Int}{D:Keyed->Prop}{st:SortSt}{a₀:Array Keyed}
end
end uw
namespace L2
open PySem PySem.Spec PyProof.Rows PySem.SeqAt
open AutoSeq1 (wpAny_loadPart')
open MeetsSeq MeetsSeq2 MeetsSeq3 SeqRoads2
mutual
inductive HX:PyData->PyData->Prop
 |int(a b:Int):HX (.int a) (.int b)
 |lst{xs ys:List PyData}:sX xs ys->HX (.list xs) (.list ys)
inductive sX:List PyData->List PyData->Prop
 |nil:sX [] []
 |cons{x y:PyData}{xs ys:List PyData}:HX x y->sX xs ys->sX (x::xs) (y::ys)
end
section
variable{A:Around}{s:Shared}
end
theorem sX.length:∀{xs ys:List PyData},sX xs ys->xs.length=ys.length
 |_,_,.nil=>rfl
 |_,_,.cons _ cs=>congrArg (· +1) cs.length
section
variable{prog:Program}{w:World}{A:Around}{E:Value->Shared->Prop}{s:Shared}
end
end L2
namespace L2
open PySem PySem.Spec PyProof.Rows PySem.SeqAt uw
section
variable{prog:Program}{w:World}{A:Around}{E:Value->Shared->Prop}{s:Shared}
theorem Fo{κ:SortKind}{K:Keyed->Int}{D:Keyed->Prop}(h:∀x y:Keyed,D x->D y-> ∀(E:Value->Shared->Prop) (Q:Bool->Shared->Prop),Q (decide (K x<K y)) s->wpAny (model prog w) A (keyLt' κ x.1 y.1) Q E s):AE prog w A E s κ K D:=by
 intro st x y Q hk hx hy hq
 rw[lt'_eq]
 refine wpS_bind (wpS_get ?_)
 rw[hk]
 refine wpS_bind (wpS_lift (wpAny_attempt (h x y hx hy _ _ ⟨rfl,?_⟩)))
 exact wpS_pure hq
end
section
variable{X:Cx}
end
end L2
namespace L2
open PySem PySem.Spec PyProof.Rows PySem.W PySem.Calls
abbrev kn(o:Obj):HO:= .tT o (.ext λ_=>True)
theorem Df{P:Program}{w:World}{H:Hp}{h:Heap}{a:Addr}{o:Obj}(e:h.get? a=some o):dW P w H h a (kn o):=⟨e,trivial,⟨o,e⟩,λ_ _ _ _=>trivial⟩
theorem qx{pos pos2:Pos}{c:Value}:∀{l:List Value},TriplesOk l-> ∀{cv:Value},codeAmong pos (l++ [rawInt pos2.line,rawInt pos2.col,c])=some cv->codeAmong pos l=some cv∨cv=c
 | [],_,cv,h=>by
  simp only[List.nil_append,rawInt,codeAmong]at h
  split at h
  ·exact .inr (Option.some.inj h).symm
  ·cases h
 | .int x t:: .int y u::d::r,ht,cv,h=>by
  simp only[List.cons_append,codeAmong]at h ⊢
  split at h
  ·rename_i q
   rw[if_pos q]
   exact .inl h
  ·rename_i q
   rw[if_neg q]
   exact qx (l:=r) ht h
theorem nC{pos:Pos}{c:Value}:∀{l:List Value},TriplesOk l->TriplesOk (l++ [rawInt pos.line,rawInt pos.col,c])
 | [],_=>trivial
 | .int _ _:: .int _ _::_::r,h=>nC (l:=r) h
structure wc(X:Cx)(args:Arguments)(body:Expr)(sc:Scope)(H:Hp)(f:Addr):Prop where
 ex:∃(qual:Str)(pm ctv:Value)(c:Addr)(oc:Obj)(vs:Array Value)(q:Str)(t:Tok),
  H f=some (kn {cls:= .type "function",data:= .func (kla_fn "<lambda>" qual args body sc (bU X.env sc.names []) pm (.ref c) ctv)})/\H c=some (kn oc)/\oc.data= .fields vs/\vs[1]?=some (.str q t)
theorem wc.same{X:Cx}{args:Arguments}{body:Expr}{sc:Scope}{H H':Hp}{f:Addr}(L:wc X args body sc H f)(s:ay H H'):wc X args body sc H' f:=by
 obtain⟨qual,pm,ctv,c,oc,vs,q,t,e1,e2,e3,e4⟩:=L.ex
 exact⟨qual,pm,ctv,c,oc,vs,q,t,s _ _ e1,s _ _ e2,e3,e4⟩
section
variable{X:Cx}{pins:List (Addr×Obj)}{σ:St}{H:Hp}{s:Shared}{P:Addr}{args:Arguments}{body:Expr}{sc:Scope}{pos:Pos}{own N2:List Str}
theorem AG(I:Inv X pins σ H s)(hcd:fj X.K X.env.code P)(hP:(H P).isSome=true):∃c,X.env.code= .ref c/\CodeHd s.heap c P:=by
 obtain⟨c,o,vs,file,tf,flags,tg,Hx,text,tt,ec,hc,hcl,hd,h11,JH,h7,h9,Hy⟩:=hcd.ex
 have hcs:s.heap.get? c=some o:=I.tU c o hc
 have hcn:H c=none:=(I.bs c o (I.ok.mod.IJ c o hc)).2
 have ne:c≠P:=λe=>by rw[<-e,hcn]at hP;cases hP
 have Hz:vs.getD 11 .none= .ref P:=by
  have:vs.getD 11 .none=(vs[11]?).getD .none:=by simp
  rw[this,h11];rfl
 exact⟨c,ec,o,vs,file,tf,flags,tg,Hx,text,tt,hcs,hcl,hd,h11,Hz,JH,h7,h9,Hy,ne⟩
theorem AH{Q:Value->Shared->Prop}{E:Value->Shared->Prop}{M:Model}{A:Around}(I:Inv X pins σ H s)(hcd:fj X.K X.env.code P)(hP:H P=some .vE)(bm:BM X.mg X.base)
  (Bk:nO sc.names X.env.scope.names own N2 X.N)(hdef:defaultsOf args X.env=([],[]))
  (h:∀f H' s',Inv X pins σ H' s'->ay H H'->H f=none->wc X args body sc H' f->Q (.ref f) s'):wpAny M A (eval (.Lambda args body sc pos) X.env) Q E s:=by
 obtain⟨c,ec,C⟩:=AG I hcd (by rw[hP];rfl)
 obtain⟨ps,eP,tr,cs⟩:=I.hok P _ hP
 obtain⟨KG,ob,b1,b2,b3,b4,b5,b6⟩:=bm
 have hg:s.heap.Ns mainGlobals X.mg:=by have:=I.mod.glob.keeps I.bk;exact this
 have hgP:mainGlobals≠P:=λq=>by
  obtain⟨o,es,ep,e,hd,_⟩:=hg
  rw[q,eP]at e;cases e;cases hd
 have OO:KG≠mainGlobals:=λq=>by
  obtain⟨o,es,ep,e,hd,_⟩:=I.mod.glob
  rw[q,e]at b3;cases b3;rw[hd]at b6;cases b6
 have OP:KG≠P:=λq=>by
  have:=(I.bs _ _ b3).2
  rw[q,hP]at this;cases this
 have ba:s.heap.BuiltinsAt X.mg P:=⟨KG,ob,b1,b2,OO,OP,I.bk _ _ b3,b4,b5,b6⟩
 refine kla_eval hdef ?_
 cases q:codeAmong pos ps.toList with
 |some cv=>
  obtain⟨c',oc,vs,q',t',rfl,e2,e3,e4⟩:=cs pos cv q
  refine kla_makeFunctionHit (mg:=X.mg) (pZ I Bk) I.ok.glob hg ec C eP tr q ba λctv h' tk hk hsz=> ?_
  have I1:Inv X pins σ H {s with heap:=h',toks:=tk}:=I.kept hk
  have I2:=I1.laid (a:=h'.objs.size) (o:=kn {cls:= .type "function",data:= .func (kla_fn "<lambda>" (X.env.qual++ "<lambda>") args body sc (bU X.env sc.names []) ((X.mg "__name__").getD .none) (.ref c') ctv)}) (h':=h'.push _) (t':=tk) (λb o e=>Heap.get?_push_of_some _ e) (Nat.le_refl _) (Df (Heap.get?_push_size _ rfl))
  have fr:H h'.objs.size=none:=I1.hok.fresh (Nat.le_refl _)
  exact h _ _ _ I2 (ay.up fr) fr ⟨_,_,_,c',oc,vs,q',t',av,(ay.up fr) _ _ e2,e3,e4⟩
 |none=>
  refine kla_makeFunction (mg:=X.mg) (pZ I Bk) I.ok.glob hg ec C eP tr q hgP ba λc' ctv h' tk hx hge hlt hrec htb=> ?_
  obtain⟨c2,oc,vs,t,e2,hoc,hd,hv⟩:=hrec
  cases e2
  have IQ:H c'=none:=I.hok.fresh hge
  have nP:P≠c':=λz=>by rw[z,IQ]at hP;cases hP
  have I1:Inv X pins σ (upd H c' (kn oc)) {s with heap:=h',toks:=tk}:=by
   have ne:∀{b u},H b=some u->b≠c':=λ {b u} e z=>by rw[z,IQ]at e;cases e
   have Nh:∀{b},H b=none->b≠P:=λ {b} e z=>by rw[z,hP]at e;cases e
   refine I.un (t':=tk) ⟨λb o e n _ _=>hx b o (Nh n) e,λb o e n _ _=>⟨o.slots,hx b o (Nh n) e⟩,λb o e n _=>by rw[aH (Nat.ne_of_lt (Nat.lt_of_lt_of_le (Heap.lt_size e) hge))];exact n,λb o e _=> ?_,
    λb xs e=>by rw[aH (ne e)];exact e,λb o u e=>by rw[aH (ne e)];exact e,λb ps e=>⟨#[],by rw[aH (ne e),e];simp⟩⟩ (λb u e=> ?_)
   ·by_cases hb:b=P
    ·subst hb;exact⟨_,htb⟩
    ·exact⟨o,hx b o hb e⟩
   ·by_cases hb:b=c'
    ·subst hb
     rw[av]at e
     cases e
     exact Df hoc
    ·rw[aH hb]at e
     by_cases hb2:b=P
     ·subst hb2
      rw[hP]at e
      cases e
      refine⟨_,htb,by simpa using nC tr,λpos2 cv e2=> ?_⟩
      have e3:codeAmong pos2 (ps.toList++ [rawInt pos.line,rawInt pos.col,.ref c'])=some cv:=by simpa using e2
      rcases qx tr e3 with z|z
      ·obtain⟨c3,OQ,OR,q3,t3,f1,f2,f3,f4⟩:=cs pos2 cv z
       exact⟨c3,OQ,OR,q3,t3,f1,by rw[aH (ne f2)];exact f2,f3,f4⟩
      ·exact⟨c',oc,vs,_,t,z,av,hd,hv⟩
     ·refine(I.hok b u e).stay (λd v hc2 q2=>hx d v (λz=> ?_) q2) (λd q2=>by rw[aH (ne q2)];exact q2) (λd xs q2=>by rw[aH (ne q2)];exact q2) (λd ob xs q2=>by rw[aH (ne q2)];exact q2)
      subst z
      rcases hc2 with z|z
      ·exact hb2 z.symm
      ·rw[hP]at z;cases z
  have I2:=I1.laid (a:=h'.objs.size) (o:=kn (kla_obj "<lambda>" (X.env.qual++ "<lambda>") args body sc (bU X.env sc.names []) ((X.mg "__name__").getD .none) c' ctv)) (h':=h'.push _) (t':=tk) (λb o e=>Heap.get?_push_of_some _ e) (Nat.le_refl _) (Df (Heap.get?_push_size _ rfl))
  have JI:upd H c' (kn oc) h'.objs.size=none:=I1.hok.fresh (Nat.le_refl _)
  have GZ:H h'.objs.size=none:=by
   have:=JI
   rwa [aH (Nat.ne_of_gt hlt)]at this
  exact h _ _ _ I2 ((ay.up IQ).trans (ay.up JI)) GZ ⟨_,_,_,c',oc,vs,_,t,av,(ay.up JI) _ _ av,hd,hv⟩
end
section
variable{prog:Program}{w:World}{A:Around}{R:Result->Shared->Prop}{s:Shared}
theorem x6{a:Addr}{ar:Args}{o:Obj}{fd:FuncData}{bd:Expr}{q:Str}(room:A.depth<recursionLimit)(ho:s.heap.get? a=some o)(hfd:o.data= .func fd)
  (co:fd.scope.isCoroutine=false)(gen:fd.scope.isGenerator=false)(hbd:fd.body= .expr bd)(cd:s.heap.CodeRec fd.code q)
  (h:wpAny (model prog w) A.in1 (bindArgs fd ar) (λbs s1=>
   wpAny (model prog w) A.in1 (newFunctionEnv fd.scope fd.globals fd.closure bs (q++ ".<locals>.") (some a) fd.code none fd.builtins)
    (λev s2=>s2.heap.NoLimit/\codeAny (model prog w) A (.expr bd ev) R s2) (λe s'=>R (.error e) s') s1) (λe s'=>R (.error e) s') s):
  codeAny (model prog w) A (.call (.ref a) ar) R s:=by
 refine codeAny_of_tree ?_
 show wpAny _ A.in1 (callAny (.ref a) ar) _ _ s
 simp only[callAny]
 refine wpAny_bind (wpAny_load ho ?_)
 obtain⟨c,oc,vs,tq,hc,hoc,hdc,hq⟩:=cd
 simp only[hfd,callFunction,co,gen,hbd,hc]
 rw[hc]at h
 refine wpAny_bind (m:=field (.ref c) 1) (wpAny_field hoc hdc hq (wpAny_bind (wpAny_pure ?_)))
 refine wpAny_bind (wpAny_mono h (λbs s1 h1=>wpAny_bind (wpAny_mono h1 (λev s2 h2=> ?_) λ_ _ e=>e)) λ_ _ e=>e)
 exact wpAny_bind (wpAny_enterFrame h2.1 room (wpAny_pure (And.intro rfl h2.2)))
end
def Cx.lam(X:Cx)(B:Around)(sc:Scope)(N':List Str)(q:Str)(f:Addr)(cd:Value)(s:Shared)(H:Hp):Cx:=
 {X with
  N:=N'
  s₀:=s
  H₀:=H
  A:=B.deeper (envX q sc s.heap.objs.size f cd (bU X.env sc.names []))
  env:=envX q sc s.heap.objs.size f cd (bU X.env sc.names [])
  outer:=X.stack
  stack:=envX q sc s.heap.objs.size f cd (bU X.env sc.names [])::X.stack
  ex:=[]
  fn:=λ_=>false
  calm:=true
  pn:=[]
  xe:=λ_ _=>False}
section
variable{X:Cx}{pins:List (Addr×Obj)}{σ:St}{H:Hp}{s:Shared}{sc:Scope}{x:Str}{N2:List Str}{B:Around}{q:Str}{f:Addr}{cd:Value}
theorem Fp{h':Heap}{tk:Nat}{v:V}{u:Value}(I:Inv X pins σ H s)(Bk:nO sc.names X.env.scope.names [x] N2 X.N)(hk:sc.kind= .function)(hnc:∀y∈sc.names,y.2≠ .cell)(hx:sc.names.lookup x=some .local)
  (hB:B.frames=some X.stack)(hh:B.handled=none)(hn:h'.Ns s.heap.objs.size (λy=>([(x,u)]:List (Str×Value)).reverse.lookup y))(keep:∀b o,s.heap.get? b=some o->h'.get? b=some o)(rv:RelV v u):
  Inv (X.lam B sc ([x]++N2) q f cd s H) [] (some v::σ) H {s with heap:=h',toks:=tk}:=by
 have ir:∀y c,(bU X.env sc.names []).lookup y=some c->(y,NameKind.free)∈sc.names/\X.env.cells.lookup y=some c:=λy c h=>by
  have h2:(cellsFrom 0 sc.names (bU X.env sc.names [])).lookup y=some c:=by rw[dI hnc];exact h
  rcases gE I Bk (mem_of_lookup h2)with⟨_,z⟩|z
  ·exact absurd rfl (hnc _ z)
  ·exact z
 have BJ:∀b:Addr,b∉(X.lam B sc ([x]++N2) q f cd s H).ex:=λb z=>absurd (show b∈([]:List Addr)from z) (by simp)
 have ok:(X.lam B sc ([x]++N2) q f cd s H).Ok:=by
  refine⟨I.ok.mod,hk,rfl,rfl,Nat.le_refl _,λy z c h1 h2=>I.ok.inj y z c (ir y c h1).2 (ir z c h2).2,λy hy=> ?_,λy c hy _=>absurd hy (by show ¬(false=true);decide),λ_=>hh,Around.frames_deeper hB,.inr ⟨rfl,rfl⟩,λb hb=>absurd hb (BJ b),I.bs,Nat.le_trans I.ok.Ex I.sz,λb _ _=>BJ b,λb hb=>absurd hb (BJ b),I.stack,I.pX⟩
  have hy':sc.names.lookup y=some .cell∨sc.names.lookup y=some .free:=hy
  rcases hy' with e|e
  ·exact absurd rfl (hnc _ (mem_of_lookup e))
  ·obtain⟨c,hc⟩:=iH I Bk y (mem_of_lookup e)
   have:=jX (n:=0) I Bk (mem_of_lookup e) hc
   rw[dI hnc]at this
   exact⟨c,this⟩
 refine⟨ok,rfl,.refl I.bare.bare,Un.kept keep,⟨_,hn,λi y w e1 e2 e3=> ?_⟩,λy c hc=> ?_,I.fresh,λy c hc=>I.kL y c (ir y c hc).2,λp hp=>absurd (show p∈([]:List (Addr×Obj))from hp) (by simp),I.hok.kept keep,?_⟩
 ·cases i with
  |zero=>
   have ey:x=y:=Option.some.inj e1
   have ew:v=w:=by
    have:some (some v)=some (some w):=e2
    cases this;rfl
   subst ey ew
   refine⟨u,rv,.inl ⟨hx,?_⟩⟩
   simp[List.lookup]
  |succ i=>
   have xD:N2[i]?=some y:=e1
   have ET:σ[i]?=some (some w):=e2
   have hown:y∉([x]:List Str):=λhm=>by
    have nd:=Bk.EN
    rw[List.nodup_append]at nd
    exact nd.2.2 y hm y (List.mem_of_getElem? xD) rfl
   refine ud I Bk (n:=0) xD ET (dI hnc).symm (λz hz=> .inr (cu Bk.nd hz)) (λhv=>let⟨k,e,_⟩:=lX hv;⟨k,e⟩) hown keep e3 (λk e=> ?_)
   obtain⟨k',e',hk'⟩:=lX e3
   have e4:sc.names.lookup y=some k':=e'
   rw[e]at e4;cases e4
   exact hk'
 ·obtain⟨w,z⟩:=I.cell y c (ir y c hc).2
  exact⟨w,z.keeps keep⟩
 ·show(some v::σ).length=([x]++N2).length
  rw[List.length_cons,I.len,<-Bk.len]
  rfl
theorem Fq{args:Arguments}{body:Expr}{tb:TE}{v:V}{u:Value}{Q:VK}{E:Value->Shared->Prop}(I:Inv X pins σ H s)(L:wc X args body sc H f)(Bk:nO sc.names X.env.scope.names [x] N2 X.N)
  (hk:sc.kind= .function)(hco:sc.isCoroutine=false)(hgen:sc.isGenerator=false)(hnc:∀y∈sc.names,y.2≠ .cell)(hx:sc.names.lookup x=some .local)
  (hbind:∀qual cl pm c ctv u,bindArgs (kla_fn "<lambda>" qual args body sc cl pm c ctv) ⟨[u],[]⟩=pure [(x,u)])(hB:B.frames=some X.stack)(hh:B.handled=none)(hroom:B.depth<recursionLimit)
  (hbody:∀q cd,PE (X.lam B sc ([x]++N2) q f cd s H) body tb)(rv:RelV v u)(h:tb (some v::σ) H Q):wpAny (model X.prog X.w) B (call (.ref f) [u]) (EP X pins σ Q) E s:=by
 obtain⟨qual,pm,ctv,c,oc,vs,q,t,e1,e2,e3,e4⟩:=L.ex
 obtain⟨g1,_⟩:s.heap.get? f=some _/\_:=I.hok f _ e1
 obtain⟨g2,_⟩:s.heap.get? c=some oc/\_:=I.hok c _ e2
 refine wpAny_call (x6 (q:=q) hroom g1 rfl hco hgen rfl ⟨c,oc,vs,t,rfl,g2,e3,e4⟩ ?_)
 rw[hbind]
 refine wpAny_pure (wpAny_newFunctionEnv hnc (λy hy=> ?_) (λh1 hns Ni=>⟨(I.zu).fresh _ Ni,?_⟩) hk)
 ·rw[List.mem_singleton.mp hy]
  exact hx
 have keep:∀b o,s.heap.get? b=some o->h1.get? b=some o:=λb o e=>Ni.extBut b o (Nat.ne_of_lt (Heap.lt_size e)) (Heap.get?_push_of_some _ e)
 have J:=Fp (q:=q) (f:=f) (cd:= .ref c) (tk:=s.toks+1) I Bk hk hnc hx hB hh hns keep rv
 refine kla_codeExpr (wpAny_mono (hbody q (.ref c) [] _ _ H Q J h) (λu' s' hs=> ?_) λ_ _ z=>False.elim z)
 obtain⟨v',H',J',r',q'⟩:=hs
 have I':Inv X pins σ H' s':=I.BQ (ch:=[]) J'.os J'.base J'.hok J'.bare λb z=>nomatch z
 exact⟨v',H',I',r',q'⟩
end
end L2
namespace L2
open PySem PySem.Spec PyProof.Rows PySem.Calls uw
theorem sY{α β:Type}{f:α->β}:∀{m n:List β},m.Perm n-> ∀l:List α,n=l.map f-> ∃l':List α,l'.Perm l/\m=l'.map f:=by
 intro m n p
 induction p with
 |nil=>
  intro l e
  exact⟨l,.refl _,e⟩
 |cons x _ ih=>
  intro l e
  cases l with
  |nil=>cases e
  |cons a l=>
   injection e with e1 e2
   obtain⟨l',p',e'⟩:=ih l e2
   exact⟨a::l',p'.cons a,by rw[List.map_cons,e1,e']⟩
 |swap x y r=>
  intro l e
  match l,e with
  |a::b::l,e=>
   injection e with e1 e2
   injection e2 with e2 e3
   exact⟨b::a::l,List.Perm.swap _ _ _,by simp[e1,e2,e3]⟩
 |trans _ _ ih1 ih2=>
  intro l e
  obtain⟨l2,p2,e2⟩:=ih2 l e
  obtain⟨l1,p1,e1⟩:=ih1 l2 e2
  exact⟨l1,p1.trans p2,e1⟩
inductive nE(kf:V->Int):List V->List Value->List Value->Prop
 |nil:nE kf [] [] []
 |cons{y:V}{u:Value}{ys:List V}{us ks:List Value}(t:Tok)(r:RelV y u):nE kf ys us ks->nE kf (y::ys) (u::us) (.int (kf y) t::ks)
theorem nE.out{kf:V->Int}{ys:List V}{us ks:List Value}(h:nE kf ys us ks):∃tr:List (Keyed×V),ks.zip us=tr.map Prod.fst/\ys=tr.map Prod.snd/\ ∀t∈tr,RelV t.2 t.1.2/\ ∃k,t.1.1= .int (kf t.2) k:=by
 induction h with
 |nil=>exact⟨[],rfl,rfl,λt h=>nomatch h⟩
 | @cons y u ys us ks t r _ ih=>
  obtain⟨tr,e1,e2,h⟩:=ih
  refine⟨((.int (kf y) t,u),y)::tr,by rw[List.zip_cons_cons,e1];rfl,by rw[e2];rfl,λz hz=> ?_⟩
  rcases List.mem_cons.mp hz with rfl|hz
  ·exact⟨r,t,rfl⟩
  ·exact h z hz
theorem nE.ints{kf:V->Int}{ys:List V}{us ks:List Value}(h:nE kf ys us ks):IntsAre ks (ys.map kf):=by
 induction h with
 |nil=>exact .nil
 |cons t r _ ih=>exact .cons _ t ih
theorem nE.snoc{kf:V->Int}{ys:List V}{us ks:List Value}{y:V}{u:Value}(h:nE kf ys us ks)(t:Tok)(r:RelV y u):nE kf (ys++ [y]) (us++ [u]) (ks++ [.int (kf y) t]):=by
 induction h with
 |nil=>exact .cons t r .nil
 |cons t' r' _ ih=>exact .cons t' r' ih
section
variable{prog:Program}{w:World}{A:Around}{E:Value->Shared->Prop}{s:Shared}
theorem AI:AE prog w A E s oneType' (λp=>numOf p.1) (λp=> ∃n t,p.1= .int n t):=
 Fo λx y hx hy E' Q hq=>by
  obtain⟨n,t,e1⟩:=hx
  obtain⟨m,u,e2⟩:=hy
  rw[keyLt'_oneType,e1,e2]
  rw[e1,e2]at hq
  exact oneLt_int hq
end
section
variable{X:Cx}{pins:List (Addr×Obj)}{σ:St}{H:Hp}{s:Shared}{B:Around}{a:Addr}{f:Value}{kf:V->Int}{ys:List V}{us:List Value}
theorem Vals.at{ys:List V}{us:List Value}(r:Vals ys us){j:Nat}{x:Value}(h:us[j]?=some x):∃v,ys[j]?=some v/\RelV v x:=by
 induction r generalizing j with
 |nil=>cases h
 |cons a _ ih=>
  cases j with
  |zero=>cases h;exact⟨_,rfl,a⟩
  |succ j=>exact ih h
abbrev zK(pins:List (Addr×Obj))(a:Addr)(e1:Nat)(kS:Addr)(ks:Array Value)(e:Nat):List (Addr×Obj):=pins++ [(a,seqObj "list" #[] e1),(kS,seqObj "list" ks e)]
theorem uz{a:Addr}{o:Obj}(fa:e9 X pins H a)(h:s.heap.get? a=some o)(hd:∀v,o.data≠ .cell v):s.heap.get? a=some o/\H a=none/\a≠X.env.locals/\a∉X.fs/\ ∀v,o.data≠ .cell v:=⟨h,fa.1,fa.2.1,fa.2.2.1,hd⟩
theorem sZ{H':Hp}(fa:e9 X pins H a)(h:H' a=none):e9 X pins H' a:=⟨h,fa.2⟩
end
theorem Dg{K:PySem.W.Frag}{H H':Hp}{a:Addr}{xs:List V}(h:aU K H a xs)(s:ay H H'):aU K H' a xs:=by
 rcases h with h|h
 ·rcases h with h|⟨o,h⟩
  ·exact .inl (.inl (s _ _ h))
  ·exact .inl (.inr ⟨o,s _ _ h⟩)
 ·exact .inr h
def Kd(sc:Scope)(ks:List (Str×NameKind))(own N2 N:List Str):Bool:=
 xC sc.names ks own N2 N && (sc.kind== .function) && !sc.isCoroutine && !sc.isGenerator && sc.names.all (λy=>y.2 != .cell) && own.all (λx=>sc.names.lookup x==some NameKind.local)
section
variable{X:Cx}{P:Addr}{te tb:TE}{e body:Expr}{args:Arguments}{sc:Scope}{x:Str}{N2:List Str}{p pos Dh kpos:Pos}
theorem Di{k:Nat}{A:Around}{e:Env}(r:eY (k+3) A):eY k (A.in1.in1.deeper e):=r.in1.in1.deeper e
end
end L2
namespace L2
open PySem PySem.Spec PyProof.Rows
section
variable{X:Cx}
end
def rB(H:Hp)(b:Addr):List Int:=match H b with
 |some (.lst xs)=>xs.map λv=>match v with| .int i=>i|_=>0
 |_=>[]
theorem AJ{zs:List V}{as:List Addr}(p:zs.Perm (as.map V.ref)):∃bs:List Addr,zs=bs.map V.ref/\bs.Perm as:=by
 obtain⟨l,p',e⟩:=sY p as rfl
 exact⟨l,e,p'⟩
theorem Ft{A B:List (List Int)}(ca:cg A)(cb:cg B)(h:∀i j,i<3->j<3->ent A i j=ent B i j):A=B:=by
 rw[um ca,um cb]
 exact gq h
theorem AK{K:PySem.W.Frag}{J:It}{H1:Hp}{xs:List V}{σ:St}{te:TE}{Q:VK}(jw:JW J H1 xs)(hz:xs.length<=sizeLine){D:Addr}(hD:H1 D=none)(us vs:Nat->V)(items:∀j x,xs[j]?=some x-> ∃p,x= .ref p/\rD K H1 p [us j,vs j])(R:Nat->V->Hp->Prop)
  (mono:∀j v H H',R j v H->(∀b o,b≠D->H b=some o->H' b=some o) ->R j v H')
  (hs:∀j,j<xs.length-> ∀H' (Q':VK),ay H1 H'->(∃o,H' D=some o) ->(∀v H2,ay H' H2->R j v H2->Q' v H2) ->te (some (us j)::some (vs j)::σ) H' Q')
  (hq:∀ws H',ay H1 H'->ws.length=xs.length->(∀j v,ws[j]?=some v->R j v H') ->H' D=some (.lst ws) ->Q (.ref D) H'):jg 2 (g2 K) te σ J H1 D Q:=by
 refine⟨λi m acc σ' H'=>m=xs.length-i/\i<=xs.length/\acc.length=i/\(∃o o',σ'=o::o'::σ)/\ay H1 H'/\H' D=some (.lst acc)/\ ∀j v,acc[j]?=some v->R j v H',⟨xs.length,rfl,Nat.zero_le _,rfl,⟨none,none,rfl⟩,ay.up hD,av,λj v e=>by simp at e⟩,?_⟩
 rintro i m acc σ' H' ⟨rfl,hi,hl,⟨o,o',rfl⟩,sm,eD,p⟩
 by_cases hlt:i<xs.length
 ·refine .inr ⟨jw.go i H' sm hlt,by omega,λx H2 y=> ?_⟩
  obtain⟨rfl,ex⟩:=jw.xw i H' x H2 sm hlt y
  obtain⟨T,rfl,hT⟩:=items i x ex
  refine⟨T,[us i,vs i],rfl,sm.OB hT,rfl,us i,[vs i],rfl,vs i,[],rfl,rfl,?_⟩
  show te (some (us i)::some (vs i)::σ) _ _
  refine hs i hlt H2 _ sm ⟨_,eD⟩ λv H4 s4 r=> ?_
  refine⟨s4 _ _ eD,xs.length- (i+1),by omega,rfl,hlt,by simp[hl],⟨_,_,rfl⟩,(sm.trans s4).upd hD,av,λj u eu=> ?_⟩
  have off:∀b o,b≠D->H4 b=some o->upd H4 D (.lst (acc++ [v])) b=some o:=λb o n h=>by rw[aH n];exact h
  by_cases c:j<acc.length
  ·rw[List.getElem?_append_left c]at eu
   exact mono j u H2 _ (p j u eu) λb o n h=>off b o n (s4 b o h)
  ·have:j=acc.length:=by
    have:=(List.getElem?_eq_some_iff.mp eu).1
    rw[List.length_append]at this
    simp at this
    omega
   subst this
   rw[List.getElem?_append_right (Nat.le_refl _)]at eu
   simp at eu
   subst eu
   rw[hl]
   exact mono _ v H4 _ r off
 ·have e:i=xs.length:=by omega
  subst e
  exact .inl ⟨jw.stop H' sm,eD,hq acc H' sm hl p eD⟩
def Dj(m:List (List Int))(i:Nat)(σ:St)(H:Hp):Nat:=match σ[i]? with
 |some (some (.ref a))=>match H a with
  |some (.lst [.int x0,.int x1,.int x2])=>(au m (c7 [x0,x1,x2]) (c7 [x0,x1,x2])).toNat
  |_=>0
 |_=>0
theorem nT{m:List (List Int)}{i:Nat}{σ:St}{H:Hp}{a:Addr}{x:Nat->Int}(hs:σ[i]?=some (some (.ref a)))(h:bh H a x):Dj m i σ H=(au m x x).toNat:=by
 unfold Dj
 have h:H a=some (.lst [.int (x 0),.int (x 1),.int (x 2)]):=h
 rw[hs]
 simp only[h]
 rw[fB (m:=m) (x:=c7 [x 0,x 1,x 2]) (y:=c7 [x 0,x 1,x 2]) (x':=x) (y':=x) (λi hi=>by rcases bK hi with rfl|rfl|rfl<;>rfl) (λi hi=>by rcases bK hi with rfl|rfl|rfl<;>rfl)]
theorem eL(a:Int){b:Int}(h:0<b):(a/b).natAbs<=a.natAbs:=by
 have e:=Int.emod_add_mul_ediv a b
 have l:=Int.emod_nonneg a (show b≠0 by omega)
 have u:=Int.emod_lt_of_pos a h
 generalize a%b=r at e l u
 generalize a/b=q at e ⊢
 rcases Int.lt_or_le q 0 with z|z
 ·have:b*q<=1*q:=by
   have:=Int.mul_le_mul_of_nonpos_right (show(1:Int)<=b by omega) (Int.le_of_lt z)
   omega
  by_cases c:q= -1
  ·subst c
   omega
  ·have:b*(q+1)<=1*(q+1):=Int.mul_le_mul_of_nonpos_right (show(1:Int)<=b by omega) (by omega)
   have e2:b*(q+1)=b*q+b:=by grind
   omega
 ·have:1*q<=b*q:=Int.mul_le_mul_of_nonneg_right (show(1:Int)<=b by omega) z
  omega
abbrev aN(m:List (List Int))(x:Nat->Int):Int:=au m x x
theorem Fv{m:List (List Int)}(P:xW m){x:Nat->Int}(h:¬(x 0=0/\x 1=0/\x 2=0)):0<aN m x:=P x h
theorem cZ{m:List (List Int)}(P:xW m)(x:Nat->Int):0<=aN m x:=by
 by_cases h:x 0=0/\x 1=0/\x 2=0
 ·have:aN m x=0:=by
   show au m x x=0
   rw[aX,h.1,h.2.1,h.2.2]
   grind
  omega
 ·exact Int.le_of_lt (P x h)
def gG(y:Nat->Int)(q:Int)(x:Nat->Int):Nat->Int:=λi=>y i-q*x i
theorem tD{m:List (List Int)}(y:Nat->Int)(q:Int)(x z:Nat->Int):au m (gG y q x) z=au m y z-q*au m x z:=by
 unfold gG
 rw[aX,aX,aX]
 grind
theorem fK{m:List (List Int)}(ev:bV m)(y:Nat->Int)(q:Int)(x z:Nat->Int):au m z (gG y q x)=au m z y-q*au m z x:=by
 rw[jF ev,tD,jF ev y,jF ev x]
theorem we{m:List (List Int)}(ev:bV m)(y:Nat->Int)(q:Int)(x:Nat->Int):aN m (gG y q x)=aN m y-2*q*au m x y+q*q*aN m x:=by
 show au m _ _=_
 rw[tD,fK ev,fK ev,jF ev y x]
 grind
theorem nU{P A:Int}(h:0<A): -A<=2*(P- (2*P+A)/(2*A)*A)/\2*(P- (2*P+A)/(2*A)*A)<=A:=by
 have e:=Int.emod_add_mul_ediv (2*P+A) (2*A)
 have l:=Int.emod_nonneg (2*P+A) (show 2*A≠0 by omega)
 have u:=Int.emod_lt_of_pos (2*P+A) (show 0<2*A by omega)
 generalize(2*P+A)/(2*A)=q at e ⊢
 generalize(2*P+A)%(2*A)=r at e l u
 have e2:2*A*q=2*(q*A):=by grind
 rw[e2]at e
 omega
theorem zL{A P q N:Int}(hA:0<=A)(h1: -A<=2*(P-q*A))(h2:2*(P-q*A)<=A):N-2*q*P+q*q*A<=N:=by
 obtain⟨e,he⟩:∃e,P-q*A=e:=⟨_,rfl⟩
 rw[he]at h1 h2
 have hP:P=q*A+e:=by omega
 rw[hP]
 have key:N-2*q*(q*A+e)+q*q*A=N- (q*q*A+q*(2*e)):=by grind
 rw[key]
 suffices 0<=q*q*A+q*(2*e)by omega
 rcases Int.lt_or_le 0 q with hq|hq
 ·have a1:q*(-A)<=q*(2*e):=Int.mul_le_mul_of_nonneg_left (by omega) (by omega)
  have a2:q*A<=q*(q*A):=Int.mul_le_mul_of_nonneg_left (by
   have:1*A<=q*A:=Int.mul_le_mul_of_nonneg_right (by omega) hA
   omega) (by omega)
  have e1:q*(-A)= -(q*A):=by grind
  have e2:q*(q*A)=q*q*A:=by grind
  omega
 ·have a1:(-q)*(2*e)<=(-q)*A:=Int.mul_le_mul_of_nonneg_left (by omega) (by omega)
  have e3:(-q)*(2*e)= -(q*(2*e)):=by grind
  rcases Int.lt_or_le q 0 with h|h
  ·have a2:(-q)*A<=(-q)*((-q)*A):=Int.mul_le_mul_of_nonneg_left (by
    have:1*A<=(-q)*A:=Int.mul_le_mul_of_nonneg_right (by omega) hA
    omega) (by omega)
   have e2:(-q)*((-q)*A)=q*q*A:=by grind
   omega
  ·have:q=0:=by omega
   subst this
   simp
def lD(s:Nat->Nat)(m:List (List Int)):List (List Int):=mk3 λi j=>ent m (s i) (s j)
theorem mE{m:List (List Int)}(hS:cL m=m)(ab:bC m=true)(x:Nat->Int):aA m*(x 2*x 2)<=ef m 2 2*aN m x:=by
 obtain⟨c1,c2,c3⟩:=fU ab
 have e:=CW hS x
 have hm:ef m 2 2=ent m 0 0*ent m 1 1-ent m 0 1*ent m 0 1:=by
  show ent m 0 0*ent m 1 1-ent m 0 1*ent m 1 0=_
  rw[gC hS (i:=0) (j:=1) (by decide) (by decide)]
 rw[<-hm]at e
 have q1:=Int.mul_nonneg (show 0<=ef m 2 2 by omega) (bf (ent m 0 0*x 0+ent m 0 1*x 1+ent m 0 2*x 2))
 have q2:=bf (ef m 2 2*x 1+(ent m 0 0*ent m 1 2-ent m 0 1*ent m 0 2)*x 2)
 have e2:ent m 0 0*(aA m*(x 2*x 2))<=ent m 0 0*(ef m 2 2*aN m x):=by
  have a1:ent m 0 0*(aA m*(x 2*x 2))=ent m 0 0*aA m*(x 2*x 2):=(Int.mul_assoc ..).symm
  have a2:ent m 0 0*(ef m 2 2*aN m x)=ent m 0 0*ef m 2 2*au m x x:=(Int.mul_assoc ..).symm
  omega
 exact Int.le_of_mul_le_mul_left e2 c1
theorem tE{m:List (List Int)}(ev:bV m)(c:cg m)(ab:bC m=true)(s:Nat->Nat)(hs:(s 0=2/\s 1=1/\s 2=0)∨(s 0=0/\s 1=2/\s 2=1))(x:Nat->Int):
  cL (lD s m)=lD s m/\bC (lD s m)=true/\aA (lD s m)=aA m/\aN (lD s m) (λi=>x (s i))=aN m x/\ef (lD s m) 2 2=ef m (s 2) (s 2):=by
 have hS:=cX ev c
 have P:=eZ hS ab
 have Fw:ent m 1 0=ent m 0 1:=ev.sym.1
 have Fx:ent m 2 0=ent m 0 2:=ev.sym.2.1
 have Fy:ent m 2 1=ent m 1 2:=ev.sym.2.2
 have en:∀i j,i<3->j<3->ent (lD s m) i j=ent m (s i) (s j):=λi j hi hj=>bu _ hi hj
 have hN:∀y:Nat->Int,au (lD s m) (λi=>y (s i)) (λi=>y (s i))=au m y y:=λy=>by
  rw[aX,aX,en 0 0 (by decide) (by decide),en 0 1 (by decide) (by decide),en 0 2 (by decide) (by decide),en 1 0 (by decide) (by decide),en 1 1 (by decide) (by decide),en 1 2 (by decide) (by decide),en 2 0 (by decide) (by decide),en 2 1 (by decide) (by decide),en 2 2 (by decide) (by decide)]
  rcases hs with⟨h0,h1,h2⟩|⟨h0,h1,h2⟩<;>rw[h0,h1,h2]<;>grind
 have ov:cL (lD s m)=lD s m:=Ft (cy _) (cy _) λi j hi hj=>by
  rw[aT _ hi hj,en j i hj hi,en i j hi hj]
  rcases hs with⟨h0,h1,h2⟩|⟨h0,h1,h2⟩<;>rcases bK hi with rfl|rfl|rfl<;>rcases bK hj with rfl|rfl|rfl<;>simp only[h0,h1,h2,Fw,Fx,Fy]
 have Pp:xW (lD s m):=λy n0=>by
  have e:=hN (λi=>y (s i))
  have back:∀i,i<3->s (s i)=i:=λi hi=>by
   rcases hs with⟨h0,h1,h2⟩|⟨h0,h1,h2⟩<;>rcases bK hi with rfl|rfl|rfl<;>simp only[h0,h1,h2]
  have e2:au (lD s m) y y=au (lD s m) (λi=>(λi=>y (s i)) (s i)) (λi=>(λi=>y (s i)) (s i)):=fB (λi hi=>by show y i=y (s (s i));rw[back i hi]) (λi hi=>by show y i=y (s (s i));rw[back i hi])
  rw[e2,e]
  refine P _ λz=>n0 ?_
  rcases hs with⟨h0,h1,h2⟩|⟨h0,h1,h2⟩<;>rw[h0,h1,h2]at z<;>exact⟨by omega,by omega,by omega⟩
 refine⟨ov,sV ov Pp,?_,hN x,?_⟩
 ·rw[cO,cO,en 0 0 (by decide) (by decide),en 0 1 (by decide) (by decide),en 0 2 (by decide) (by decide),en 1 0 (by decide) (by decide),en 1 1 (by decide) (by decide),en 1 2 (by decide) (by decide),en 2 0 (by decide) (by decide),en 2 1 (by decide) (by decide),en 2 2 (by decide) (by decide)]
  rcases hs with⟨h0,h1,h2⟩|⟨h0,h1,h2⟩<;>rw[h0,h1,h2]<;>grind
 ·show ent (lD s m) 0 0*ent (lD s m) 1 1-ent (lD s m) 0 1*ent (lD s m) 1 0=_
  rw[en 0 0 (by decide) (by decide),en 0 1 (by decide) (by decide),en 1 0 (by decide) (by decide),en 1 1 (by decide) (by decide)]
  unfold ef
  rcases hs with⟨h0,h1,h2⟩|⟨h0,h1,h2⟩<;>rw[h0,h1,h2]<;>simp only[Nat.reduceAdd,Nat.reduceMod]<;>grind
theorem jG{m:List (List Int)}(ev:bV m)(c:cg m)(ab:bC m=true)(x:Nat->Int){i:Nat}(hi:i<3):aA m*(x i*x i)<=ef m i i*aN m x:=by
 rcases bK hi with rfl|rfl|rfl
 ·obtain⟨h1,h2,h3,h4,h5⟩:=tE ev c ab (λi=>2-i) (.inl ⟨rfl,rfl,rfl⟩) x
  have:=mE h1 h2 (λi=>x (2-i))
  rw[h3,h4,h5]at this
  exact this
 ·obtain⟨h1,h2,h3,h4,h5⟩:=tE ev c ab (λi=>if i=0 then 0 else 3-i) (.inr ⟨rfl,rfl,rfl⟩) x
  have:=mE h1 h2 (λi=>x (if i=0 then 0 else 3-i))
  rw[h3,h4,h5]at this
  exact this
 ·exact mE (cX ev c) ab x
theorem lE{m:List (List Int)}(ev:bV m)(c:cg m)(ab:bC m=true)(hB:Bd 440 m){x:Nat->Int}(hx:(aN m x).natAbs<2^450){i:Nat}(hi:i<3):(x i).natAbs<2^666:=by
 have e:=jG ev c ab x hi
 have d1:=(fU ab).2.2
 have b1:=zG hB i i
 have e2:x i*x i<=ef m i i*aN m x:=by
  refine Int.le_trans ?_ e
  have:=Int.mul_le_mul_of_nonneg_right (show(1:Int)<=aA m by omega) (bf (x i))
  omega
 have b2:(ef m i i*aN m x).natAbs<2^(881+450):=bZ b1 hx
 have b3:(x i*x i).natAbs<2^1332:=by
  have:=bf (x i)
  refine Nat.lt_of_le_of_lt ?_ (aF b2 (show 881+450<=1332 by decide))
  omega
 rw[Int.natAbs_mul]at b3
 refine Nat.lt_of_not_le λz=> ?_
 have:=Nat.mul_le_mul z z
 rw[<-Nat.pow_add]at this
 omega
def dN(x y t:Nat->Int):List (List Int):=mk3 λi j=>if i=0 then x j else if i=1 then y j else t j
def bJ(x y t:Nat->Int):Int:=x 0*(y 1*t 2-y 2*t 1)+x 1*(y 2*t 0-y 0*t 2)+x 2*(y 0*t 1-y 1*t 0)
theorem AL(x y t:Nat->Int):aA (dN x y t)=bJ x y t:=by
 rw[cO]
 show x 0*(y 1*t 2-y 2*t 1)+x 1*(y 2*t 0-y 0*t 2)+x 2*(y 0*t 1-y 1*t 0)=_
 rfl
theorem AM(x y t:Nat->Int):bJ y x t= -bJ x y t:=by unfold bJ;grind
theorem x8(x y t:Nat->Int)(q:Int):bJ x (gG y q x) t=bJ x y t:=by unfold bJ gG;grind
theorem mF(x y t:Nat->Int)(i j:Int):bJ x y (gG (gG t i x) j y)=bJ x y t:=by unfold bJ gG;grind
theorem x9{x:Nat->Int}(h:x 0=0/\x 1=0/\x 2=0)(y t:Nat->Int):bJ x y t=0:=by unfold bJ;rw[h.1,h.2.1,h.2.2];grind
structure fL(m:List (List Int))(x y x' y':Nat->Int):Prop where
 det:∃e:Int,(e=1∨e= -1)/\ ∀t,bJ x' y' t=e*bJ x y t
 sum:aN m x'+aN m y'<=aN m x+aN m y
theorem fL.refl(m:List (List Int))(x y:Nat->Int):fL m x y x y:=⟨⟨1,.inl rfl,λt=>by rw[Int.one_mul]⟩,Int.le_refl _⟩
theorem fL.trans{m:List (List Int)}{x y x1 y1 x2 y2:Nat->Int}(a:fL m x y x1 y1)(b:fL m x1 y1 x2 y2):fL m x y x2 y2:=by
 obtain⟨e,he,h⟩:=a.det
 obtain⟨f,hf,k⟩:=b.det
 refine⟨⟨f*e,?_,λt=>by rw[k,h,Int.mul_assoc]⟩,Int.le_trans b.sum a.sum⟩
 rcases he with rfl|rfl<;>rcases hf with rfl|rfl<;>simp
theorem fL.swap{m:List (List Int)}{x y x' y':Nat->Int}(a:fL m x y x' y'):fL m x y y' x':=by
 obtain⟨e,he,h⟩:=a.det
 refine⟨⟨-e,by omega,λt=>by rw[AM,h];grind⟩,by have:=a.sum;omega⟩
theorem fL.less{m:List (List Int)}(ev:bV m){x y:Nat->Int}(h:0<aN m x):fL m x y x (gG y ((2*au m x y+aN m x)/(2*aN m x)) x):=by
 obtain⟨h1,h2⟩:=nU (P:=au m x y) h
 refine⟨⟨1,.inl rfl,λt=>by rw[x8,Int.one_mul]⟩,?_⟩
 rw[we ev]
 have:=zL (N:=aN m y) (Int.le_of_lt h) h1 h2
 omega
theorem Dk{m:List (List Int)}(ev:bV m){x y:Nat->Int}(h:0<aN m x):aN m (gG y ((2*au m x y+aN m x)/(2*aN m x)) x)<=aN m y:=by
 obtain⟨h1,h2⟩:=nU (P:=au m x y) h
 rw[we ev]
 exact zL (N:=aN m y) (Int.le_of_lt h) h1 h2
theorem AN{m:List (List Int)}(ev:bV m){x y:Nat->Int}(h:0<aN m x): -(aN m x)<=2*au m x (gG y ((2*au m x y+aN m x)/(2*aN m x)) x)/\2*au m x (gG y ((2*au m x y+aN m x)/(2*aN m x)) x)<=aN m x:=by
 rw[fK ev]
 exact nU h
structure lF(m:List (List Int))(x y:Nat->Int):Prop where
 pos:0<aN m x
 le:aN m x<=aN m y
 lo: -(aN m x)<=2*au m x y
 hi:2*au m x y<=aN m x
theorem lG{a b:Int}(h1: -b<=a)(h2:a<=b):a*a<=b*b:=by
 have hb:0<=b:=by omega
 rcases Int.le_total 0 a with h|h
 ·exact Int.mul_le_mul h2 h2 h hb
 ·have:(-a)*(-a)<=b*b:=Int.mul_le_mul (by omega) (by omega) (by omega) hb
  have e:(-a)*(-a)=a*a:=by grind
  omega
theorem lF.Dl{m:List (List Int)}{x y:Nat->Int}(h:lF m x y):3*(aN m x*aN m y)<=4*(aN m x*aN m y-au m x y*au m x y)/\0<aN m x*aN m y-au m x y*au m x y:=by
 have s:=lG h.lo h.hi
 have l:aN m x*aN m x<=aN m x*aN m y:=Int.mul_le_mul_of_nonneg_left h.le (Int.le_of_lt h.pos)
 have p:=Int.mul_pos h.pos h.pos
 have e:2*au m x y*(2*au m x y)=4*(au m x y*au m x y):=by grind
 omega
theorem Me{m:List (List Int)}(ev:bV m)(x y t:Nat->Int):
  (aN m x*aN m y-au m x y*au m x y)*aN m t=aA m*(bJ x y t*bJ x y t)+(aN m x*(au m y t*au m y t) -2*(au m x y*(au m x t*au m y t))+aN m y*(au m x t*au m x t)):=by
 have Fw:ent m 1 0=ent m 0 1:=ev.sym.1
 have Fx:ent m 2 0=ent m 0 2:=ev.sym.2.1
 have Fy:ent m 2 1=ent m 1 2:=ev.sym.2.2
 show(au m x x*au m y y-_)*au m t t=_*_+(au m x x*_-_+au m y y*_)
 rw[cO]
 unfold bJ
 simp only[aX,Fw,Fx,Fy]
 generalize ent m 0 0=a,ent m 0 1=p,ent m 0 2=q,ent m 1 1=b,ent m 1 2=r,ent m 2 2=c
 generalize x 0=x0,x 1=x1,x 2=x2,y 0=y0,y 1=y1,y 2=y2,t 0=t0,t 1=t1,t 2=t2
 grind
def bL(m:List (List Int))(x y t:Nat->Int):Int:=aN m y*au m x t-au m x y*au m y t
def bO(m:List (List Int))(x y t:Nat->Int):Int:=aN m x*au m y t-au m x y*au m x t
abbrev ao(m:List (List Int))(x y:Nat->Int):Int:=aN m x*aN m y-au m x y*au m x y
abbrev cU(t:Nat->Int)(i:Int)(x:Nat->Int)(j:Int)(y:Nat->Int):Nat->Int:=gG (gG t i x) j y
theorem tF{m:List (List Int)}(ev:bV m)(x y t:Nat->Int)(i j:Int):bL m x y (cU t i x j y)=bL m x y t-i*ao m x y/\bO m x y (cU t i x j y)=bO m x y t-j*ao m x y:=by
 unfold bL bO cU ao
 rw[fK ev,fK ev,fK ev,fK ev,jF ev y x]
 constructor<;>grind
theorem tG{m:List (List Int)}(ev:bV m)(x y t:Nat->Int):ao m x y*(ao m x y*aN m t)=ao m x y*(aA m*(bJ x y t*bJ x y t))+(aN m x*(bL m x y t*bL m x y t)+2*(au m x y*(bL m x y t*bO m x y t))+aN m y*(bO m x y t*bO m x y t)):=by
 have g:=Me ev x y t
 show ao m x y*((aN m x*aN m y-au m x y*au m x y)*aN m t)=_
 rw[g]
 unfold bL bO ao
 generalize aN m x=A,aN m y=B,au m x y=P,au m x t=u,au m y t=v
 generalize aA m*(bJ x y t*bJ x y t)=D
 grind
theorem AO(m:List (List Int))(x y t:Nat->Int):ao m x y*au m x t=aN m x*bL m x y t+au m x y*bO m x y t/\ao m x y*au m y t=au m x y*bL m x y t+aN m y*bO m x y t:=by
 unfold bL bO ao
 constructor<;>grind
structure Drawn(m:List (List Int))(x y t t':Nat->Int):Prop where
 det:bJ x y t'=bJ x y t
 le:aN m t'<=aN m t∨True
 s: -(ao m x y)<=bL m x y t'/\bL m x y t'<=ao m x y
 r: -(ao m x y)<=bO m x y t'/\bO m x y t'<=ao m x y
 few:4*(ao m x y*aN m t')<=4*(aA m*(bJ x y t*bJ x y t))+3*(ao m x y*aN m y)
theorem zM{A B P s r d:Int}(hA:0<=A)(hB:0<=B)(h1: -A<=2*P)(h2:2*P<=A)(s1: -d<=2*s)(s2:2*s<=d)(r1: -d<=2*r)(r2:2*r<=d):4*(A*(s*s)+2*(P*(s*r))+B*(r*r))<=(2*A+B)*(d*d):=by
 have hd:0<=d:=by omega
 have ss:=lG s1 s2
 have rr:=lG r1 r2
 have e1:2*s*(2*s)=4*(s*s):=by grind
 have e2:2*r*(2*r)=4*(r*r):=by grind
 rw[e1]at ss
 rw[e2]at rr
 have sr:2*P*(2*s*(2*r))<=A*(d*d):=by
  have ab:∀a b c e:Int,-c<=a->a<=c-> -e<=b->b<=e->a*b<=c*e:=λa b c e h1 h2 h3 h4=>by
   have k1:=Int.mul_nonneg (show 0<=c-a by omega) (show 0<=e+b by omega)
   have k2:=Int.mul_nonneg (show 0<=c+a by omega) (show 0<=e-b by omega)
   have e3:(c-a)*(e+b)+(c+a)*(e-b)=2*(c*e) -2*(a*b):=by grind
   omega
  have IT:∀a b c e:Int,-c<=a->a<=c-> -e<=b->b<=e-> -(c*e)<=a*b:=λa b c e h1 h2 h3 h4=>by
   have:=ab (-a) b c e (by omega) (by omega) h3 h4
   have e3: -a*b= -(a*b):=by grind
   omega
  exact ab _ _ _ _ h1 h2 (IT _ _ _ _ s1 s2 r1 r2) (ab _ _ _ _ s1 s2 r1 r2)
 have f1:=Int.mul_le_mul_of_nonneg_left ss hA
 have f2:=Int.mul_le_mul_of_nonneg_left rr hB
 have e3:4*(A*(s*s)+2*(P*(s*r))+B*(r*r))=A*(4*(s*s))+2*P*(2*s*(2*r))+B*(4*(r*r)):=by grind
 have e4:(2*A+B)*(d*d)=A*(d*d)+A*(d*d)+B*(d*d):=by grind
 omega
theorem Dm{m:List (List Int)}(ev:bV m){x y t:Nat->Int}(h:lF m x y){i j:Int}(i0:i=bL m x y t/ao m x y∨i=bL m x y t/ao m x y+1)(j0:j=bO m x y t/ao m x y∨j=bO m x y t/ao m x y+1)
  (least:∀i' j',(i'=bL m x y t/ao m x y∨i'=bL m x y t/ao m x y+1) ->(j'=bO m x y t/ao m x y∨j'=bO m x y t/ao m x y+1) ->aN m (cU t i x j y)<=aN m (cU t i' x j' y)):Drawn m x y t (cU t i x j y):=by
 obtain⟨_,ap⟩:=h.Dl
 have fl:=tF ev x y t
 have em:=λz:Int=>Int.emod_add_mul_ediv z (ao m x y)
 have lo:=λz:Int=>Int.emod_nonneg z (show ao m x y≠0 by show aN m x*aN m y-au m x y*au m x y≠0;omega)
 have up:=λz:Int=>Int.emod_lt_of_pos z (show 0<ao m x y from ap)
 have AQ:0<ao m x y:=ap
 have near:∀{z k:Int},(k=z/ao m x y∨k=z/ao m x y+1) -> -(ao m x y)<=z-k*ao m x y/\z-k*ao m x y<=ao m x y:=λ {z k} hk=>by
  have e:=em z
  have l:=lo z
  have u:=up z
  rcases hk with rfl|rfl
  ·generalize ao m x y=d at e l u ⊢
   have e2:z/d*d=d*(z/d):=Int.mul_comm ..
   omega
  ·generalize ao m x y=d at e l u ⊢
   have e2:(z/d+1)*d=d*(z/d)+d:=by rw[Int.add_mul,Int.one_mul,Int.mul_comm]
   omega
 have half:∀z:Int,∃k,(k=z/ao m x y∨k=z/ao m x y+1)/\ -(ao m x y)<=2*(z-k*ao m x y)/\2*(z-k*ao m x y)<=ao m x y:=λz=>by
  have e:=em z
  have l:=lo z
  have u:=up z
  by_cases c:2*(z%ao m x y)<=ao m x y
  ·refine⟨_,.inl rfl,?_⟩
   generalize ao m x y=d at e l u c ⊢
   have e2:z/d*d=d*(z/d):=Int.mul_comm ..
   omega
  ·refine⟨_,.inr rfl,?_⟩
   generalize ao m x y=d at e l u c ⊢
   have e2:(z/d+1)*d=d*(z/d)+d:=by rw[Int.add_mul,Int.one_mul,Int.mul_comm]
   omega
 have hn:=near i0
 have hr:=near j0
 refine⟨mF _ _ _ _ _,.inr trivial,by rw[(fl i j).1];exact hn,by rw[(fl i j).2];exact hr,?_⟩
 obtain⟨i1,hi1,s1,s2⟩:=half (bL m x y t)
 obtain⟨j1,hj1,r1,r2⟩:=half (bO m x y t)
 have best:=least i1 j1 hi1 hj1
 rw[<- (fl i1 j1).1]at s1 s2
 rw[<- (fl i1 j1).2]at r1 r2
 have g:=tG ev x y (cU t i1 x j1 y)
 have dt:bJ x y (cU t i1 x j1 y)=bJ x y t:=mF _ _ _ _ _
 rw[dt]at g
 have q:=zM (Int.le_of_lt h.pos) (Int.le_trans (Int.le_of_lt h.pos) h.le) h.lo h.hi s1 s2 r1 r2
 have Mf:2*aN m x+aN m y<=3*aN m y:=by have:=h.le;omega
 have q2:=Int.mul_le_mul_of_nonneg_right Mf (bf (ao m x y))
 have Nj:=Int.mul_le_mul_of_nonneg_left best (Int.le_of_lt AQ)
 generalize aN m x*(bL m x y (cU t i1 x j1 y)*bL m x y (cU t i1 x j1 y))+2*(au m x y*(bL m x y (cU t i1 x j1 y)*bO m x y (cU t i1 x j1 y)))+aN m y*(bO m x y (cU t i1 x j1 y)*bO m x y (cU t i1 x j1 y))=qq at g q
 have fin:ao m x y*(4*(ao m x y*aN m (cU t i1 x j1 y)))<=ao m x y*(4*(aA m*(bJ x y t*bJ x y t))+3*(ao m x y*aN m y)):=by
  have e1:ao m x y*(4*(ao m x y*aN m (cU t i1 x j1 y)))=4*(ao m x y*(ao m x y*aN m (cU t i1 x j1 y))):=by grind
  have e2:ao m x y*(4*(aA m*(bJ x y t*bJ x y t))+3*(ao m x y*aN m y))=4*(ao m x y*(aA m*(bJ x y t*bJ x y t)))+3*aN m y*(ao m x y*ao m x y):=by grind
  rw[e1,e2,g]
  omega
 have:=Int.le_of_mul_le_mul_left fin AQ
 omega
theorem AR{m:List (List Int)}(ev:bV m){x y t:Nat->Int}(h:lF m x y){i j:Int}(i0:i=bL m x y t/ao m x y∨i=bL m x y t/ao m x y+1)(j0:j=bO m x y t/ao m x y∨j=bO m x y t/ao m x y+1)(D0:0<=aA m):
  aN m (cU t i x j y)<=aA m*(bJ x y t*bJ x y t)+3*aN m y:=by
 obtain⟨_,ap⟩:=h.Dl
 have fl:=tF ev x y t
 have AQ:0<ao m x y:=ap
 have near:∀{z k:Int},(k=z/ao m x y∨k=z/ao m x y+1) -> -(2*ao m x y)<=2*(z-k*ao m x y)/\2*(z-k*ao m x y)<=2*ao m x y:=λ {z k} hk=>by
  have e:=Int.emod_add_mul_ediv z (ao m x y)
  have l:=Int.emod_nonneg z (show ao m x y≠0 by omega)
  have u:=Int.emod_lt_of_pos z AQ
  rcases hk with rfl|rfl
  ·generalize ao m x y=d at e l u ⊢
   have e2:z/d*d=d*(z/d):=Int.mul_comm ..
   omega
  ·generalize ao m x y=d at e l u ⊢
   have e2:(z/d+1)*d=d*(z/d)+d:=by rw[Int.add_mul,Int.one_mul,Int.mul_comm]
   omega
 have s:=near i0
 have r:=near j0
 rw[<- (fl i j).1]at s
 rw[<- (fl i j).2]at r
 have g:=tG ev x y (cU t i x j y)
 have dt:bJ x y (cU t i x j y)=bJ x y t:=mF _ _ _ _ _
 rw[dt]at g
 have q:=zM (Int.le_of_lt h.pos) (Int.le_trans (Int.le_of_lt h.pos) h.le) h.lo h.hi s.1 s.2 r.1 r.2
 generalize aN m x*(bL m x y (cU t i x j y)*bL m x y (cU t i x j y))+2*(au m x y*(bL m x y (cU t i x j y)*bO m x y (cU t i x j y)))+aN m y*(bO m x y (cU t i x j y)*bO m x y (cU t i x j y))=qq at g q
 have Mf:2*aN m x+aN m y<=3*aN m y:=by have:=h.le;omega
 have q2:=Int.mul_le_mul_of_nonneg_right Mf (bf (ao m x y))
 have DD:=Int.mul_nonneg D0 (bf (bJ x y t))
 generalize aA m*(bJ x y t*bJ x y t)=dd at g DD ⊢
 have e3:(2*aN m x+aN m y)*(2*ao m x y*(2*ao m x y))=4*((2*aN m x+aN m y)*(ao m x y*ao m x y)):=by grind
 rw[e3]at q
 have fin:ao m x y*(ao m x y*aN m (cU t i x j y))<=ao m x y*(ao m x y*(dd+3*aN m y)):=by
  rw[g]
  have e1:ao m x y*(ao m x y*(dd+3*aN m y))=ao m x y*(ao m x y*dd)+3*aN m y*(ao m x y*ao m x y):=by grind
  have m1:ao m x y*dd<=ao m x y*(ao m x y*dd):=Int.mul_le_mul_of_nonneg_left (by
   have:=Int.mul_le_mul_of_nonneg_right (show(1:Int)<=ao m x y by omega) DD
   omega) (Int.le_of_lt AQ)
  omega
 exact Int.le_of_mul_le_mul_left (Int.le_of_mul_le_mul_left fin AQ) AQ
theorem Dn{α:Type}{a b:α}{l:List α}(h:l.Perm [a,b]):l=[a,b]∨l=[b,a]:=by
 match l,h.length_eq with
 | [p,q],_=>
  have hp:p∈ [a,b]:=h.mem_iff.mp (by simp)
  simp only[List.mem_cons,List.not_mem_nil,or_false]at hp
  rcases hp with rfl|rfl
  ·left
   have:=(List.perm_cons p).mp h
   rw[List.perm_singleton.mp this]
  ·right
   have h2: [p,q].Perm [p,a]:=h.trans (List.Perm.swap p a [])
   have:=(List.perm_cons p).mp h2
   rw[List.perm_singleton.mp this]
theorem GC{α:Type}{a b c:α}{l:List α}(h:l.Perm [a,b,c]):l=[a,b,c]∨l=[a,c,b]∨l=[b,a,c]∨l=[b,c,a]∨l=[c,a,b]∨l=[c,b,a]:=by
 match l,h.length_eq with
 |p::r,_=>
  have hp:p∈ [a,b,c]:=h.mem_iff.mp (by simp)
  simp only[List.mem_cons,List.not_mem_nil,or_false]at hp
  rcases hp with rfl|rfl|rfl
  ·rcases Dn ((List.perm_cons p).mp h)with z|z<;>rw[z]<;>simp
  ·have h2:(p::r).Perm [p,a,c]:=h.trans (List.Perm.swap p a [c])
   rcases Dn ((List.perm_cons p).mp h2)with z|z<;>rw[z]<;>simp
  ·have h2:(p::r).Perm [p,a,b]:=h.trans (((List.Perm.swap p b []).cons a).trans (List.Perm.swap p a [b]))
   rcases Dn ((List.perm_cons p).mp h2)with z|z<;>rw[z]<;>simp
theorem AS{α:Type}{a b c p q r:α}(X:α->Nat->Int)(h: [p,q,r].Perm [a,b,c]):bJ (X p) (X q) (X r)=bJ (X a) (X b) (X c)∨bJ (X p) (X q) (X r)= -bJ (X a) (X b) (X c):=by
 rcases GC h with z|z|z|z|z|z<;>injection z with e1 z<;>injection z with e2 z<;>injection z with e3 z<;>subst e1 e2 e3<;>unfold bJ
 ·left;rfl
 ·right;grind
 ·right;grind
 ·left;grind
 ·left;grind
 ·right;grind
theorem f6{H:Hp}{b:Addr}{x:Nat->Int}(h:bh H b x):∀i,i<3->c7 (rB H b) i=x i:=λi hi=>by
 have h:H b=some (.lst [.int (x 0),.int (x 1),.int (x 2)]):=h
 unfold rB
 rw[h]
 rcases bK hi with rfl|rfl|rfl<;>rfl
theorem uA{H:Hp}{b:Addr}{x:Nat->Int}(h:bh H b x):bh H b (c7 (rB H b)):=by
 show H b=some (.lst [.int (c7 (rB H b) 0),.int (c7 (rB H b) 1),.int (c7 (rB H b) 2)])
 rw[f6 h 0 (by decide),f6 h 1 (by decide),f6 h 2 (by decide)]
 exact h
structure zN(m:List (List Int))(x y t:Nat->Int):Prop where
 pair:lF m x y
 le:aN m y<=aN m t
 unit:bJ x y t=1∨bJ x y t= -1
 few:3*(aN m x*aN m y*aN m t)<=16*aA m
 u: -(2*aN m x)<=au m x t/\au m x t<=2*aN m x
 v: -(2*aN m y)<=au m y t/\au m y t<=2*aN m y
theorem Fz{m:List (List Int)}{x y t t':Nat->Int}(h:lF m x y)(d:Drawn m x y t t')(un:bJ x y t=1∨bJ x y t= -1)(le:aN m y<=aN m t'):zN m x y t':=by
 obtain⟨ar,ap⟩:=h.Dl
 have AQ:0<ao m x y:=ap
 have one:bJ x y t*bJ x y t=1:=by rcases un with z|z<;>rw[z]<;>decide
 have f:=d.few
 rw[one,Int.mul_one]at f
 have g:=Int.mul_le_mul_of_nonneg_left le (Int.le_of_lt AQ)
 have ht:0<=aN m t':=by have:=h.pos;have:=h.le;omega
 have k:=Int.mul_le_mul_of_nonneg_right ar ht
 obtain⟨p1,p2⟩:=AO m x y t'
 have cancel:∀{a b c:Int},ao m x y*a<=ao m x y*b->a<=b:=λh=>Int.le_of_mul_le_mul_left h AQ
 have ab:∀a b c e:Int,-c<=a->a<=c-> -e<=b->b<=e->a*b<=c*e:=λa b c e h1 h2 h3 h4=>by
  have k1:=Int.mul_nonneg (show 0<=c-a by omega) (show 0<=e+b by omega)
  have k2:=Int.mul_nonneg (show 0<=c+a by omega) (show 0<=e-b by omega)
  have e3:(c-a)*(e+b)+(c+a)*(e-b)=2*(c*e) -2*(a*b):=by grind
  omega
 have IT:∀a b c e:Int,-c<=a->a<=c-> -e<=b->b<=e-> -(c*e)<=a*b:=λa b c e h1 h2 h3 h4=>by
  have:=ab (-a) b c e (by omega) (by omega) h3 h4
  have e3: -a*b= -(a*b):=by grind
  omega
 have Ap:=h.pos
 have Bp:0<aN m y:=Int.lt_of_lt_of_le h.pos h.le
 have pl: -(aN m x)<=au m x y/\au m x y<=aN m x:=by have:=h.lo;have:=h.hi;omega
 have KO: -(aN m y)<=au m x y/\au m x y<=aN m y:=by have:=h.le;omega
 have s1:=ab (aN m x) (bL m x y t') (aN m x) (ao m x y) (by omega) (Int.le_refl _) d.s.1 d.s.2
 have s2:=IT (aN m x) (bL m x y t') (aN m x) (ao m x y) (by omega) (Int.le_refl _) d.s.1 d.s.2
 have s3:=ab (au m x y) (bO m x y t') (aN m x) (ao m x y) pl.1 pl.2 d.r.1 d.r.2
 have s4:=IT (au m x y) (bO m x y t') (aN m x) (ao m x y) pl.1 pl.2 d.r.1 d.r.2
 have r1:=ab (au m x y) (bL m x y t') (aN m y) (ao m x y) KO.1 KO.2 d.s.1 d.s.2
 have r2:=IT (au m x y) (bL m x y t') (aN m y) (ao m x y) KO.1 KO.2 d.s.1 d.s.2
 have r3:=ab (aN m y) (bO m x y t') (aN m y) (ao m x y) (by omega) (Int.le_refl _) d.r.1 d.r.2
 have r4:=IT (aN m y) (bO m x y t') (aN m y) (ao m x y) (by omega) (Int.le_refl _) d.r.1 d.r.2
 refine⟨h,le,by rw[d.det];exact un,?_,⟨?_,?_⟩,?_,?_⟩
 ·have e1:3*(aN m x*aN m y)*aN m t'=3*(aN m x*aN m y*aN m t'):=by grind
  have e2:4*(aN m x*aN m y-au m x y*au m x y)*aN m t'=4*(ao m x y*aN m t'):=by show _=4*((aN m x*aN m y-au m x y*au m x y)*aN m t');grind
  omega
 ·refine cancel (c:=0) ?_
  rw[p1]
  have e:ao m x y* -(2*aN m x)= -(2*(aN m x*ao m x y)):=by grind
  omega
 ·refine cancel (c:=0) ?_
  rw[p1]
  have e:ao m x y*(2*aN m x)=2*(aN m x*ao m x y):=by grind
  omega
 ·refine cancel (c:=0) ?_
  rw[p2]
  have e:ao m x y* -(2*aN m y)= -(2*(aN m y*ao m x y)):=by grind
  omega
 ·refine cancel (c:=0) ?_
  rw[p2]
  have e:ao m x y*(2*aN m y)=2*(aN m y*ao m x y):=by grind
  omega
theorem Dp{x y z x' y' z':Nat->Int}(hx:∀i,i<3->x i=x' i)(hy:∀i,i<3->y i=y' i)(hz:∀i,i<3->z i=z' i):bJ x y z=bJ x' y' z':=by
 unfold bJ
 rw[hx 0 (by decide),hx 1 (by decide),hx 2 (by decide),hy 0 (by decide),hy 1 (by decide),hy 2 (by decide),hz 0 (by decide),hz 1 (by decide),hz 2 (by decide)]
theorem HY(m:List (List Int)){i:Nat}(hi:i<3):aN m (IS i 1)=ent m i i:=by
 show au m _ _=_
 rw[aX]
 unfold IS
 rcases bK hi with rfl|rfl|rfl<;>simp
theorem HZ{m:List (List Int)}(ev:bV m){a b c:Addr}{X:Addr->Nat->Int}{zs:List Addr}(h:zs.Perm [a,b,c])(so:zs.Pairwise λa b=>aE m (X a)<=aE m (X b)):
  ∃p q r,zs=[p,q,r]/\p∈ [a,b,c]/\q∈ [a,b,c]/\r∈ [a,b,c]/\(bJ (X p) (X q) (X r)=bJ (X a) (X b) (X c)∨bJ (X p) (X q) (X r)= -bJ (X a) (X b) (X c))/\aN m (X p)+aN m (X q)<=aN m (X a)+aN m (X c):=by
 match zs,h.length_eq with
 | [p,q,r],_=>
  refine⟨p,q,r,rfl,h.mem_iff.mp (by simp),h.mem_iff.mp (by simp),h.mem_iff.mp (by simp),AS X h,?_⟩
  have e:=λd=>di ev (X d)
  have ea:=e a
  have eb:=e b
  have ec:=e c
  simp only[List.pairwise_cons,List.mem_cons,List.not_mem_nil,or_false,forall_eq_or_imp,forall_eq]at so
  show au m _ _+au m _ _<=au m _ _+au m _ _
  rcases GC h with z|z|z|z|z|z<;>injection z with e1 z<;>injection z with e2 z<;>injection z with e3 z<;>subst e1 e2 e3<;>omega
structure nF(N:List (List Int)):Prop where
 Dq:cg N
 ev:bV N
 ab:bC N=true
 pos:0<ent N 0 0
 KP:ent N 0 0<=ent N 1 1
 KQ:ent N 1 1<=ent N 2 2
 p: -(ent N 0 0)<=2*ent N 0 1/\2*ent N 0 1<=ent N 0 0
 u: -(2*ent N 0 0)<=ent N 0 2/\ent N 0 2<=2*ent N 0 0
 v: -(2*ent N 1 1)<=ent N 1 2/\ent N 1 2<=2*ent N 1 1
 few:3*(ent N 0 0*ent N 1 1*ent N 2 2)<=16*aA N
theorem lZ(x y z:Nat->Int){j:Nat}(hj:j<3):ent (dN x y z) 0 j=x j/\ent (dN x y z) 1 j=y j/\ent (dN x y z) 2 j=z j:=⟨bu _ (by decide) hj,bu _ (by decide) hj,bu _ (by decide) hj⟩
theorem yc{m:List (List Int)}(ev:bV m)(c:cg m)(ab:bC m=true){x y z:Nat->Int}(h:zN m x y z):nF (fm m (dN x y z))/\(aA (dN x y z)=1∨aA (dN x y z)= -1)/\aA (fm m (dN x y z))=aA m:=by
 have hS:=cX ev c
 have un:l9 (aA (dN x y z)):=by rw[AL];exact h.unit
 have c3:cg (dN x y z):=cy _
 have e:∀i j,i<3->j<3->ent (fm m (dN x y z)) i j=au m (λk=>ent (dN x y z) i k) (λk=>ent (dN x y z) j k):=λi j hi hj=>v8 m _ hi hj
 have r0:∀k,k<3->ent (dN x y z) 0 k=x k:=λk hk=>(lZ x y z hk).1
 have r1:∀k,k<3->ent (dN x y z) 1 k=y k:=λk hk=>(lZ x y z hk).2.1
 have r2:∀k,k<3->ent (dN x y z) 2 k=z k:=λk hk=>(lZ x y z hk).2.2
 have Ke:ent (fm m (dN x y z)) 0 0=aN m x:=(e 0 0 (by decide) (by decide)).trans (fB r0 r0)
 have KR:ent (fm m (dN x y z)) 1 1=aN m y:=(e 1 1 (by decide) (by decide)).trans (fB r1 r1)
 have Nk:ent (fm m (dN x y z)) 2 2=aN m z:=(e 2 2 (by decide) (by decide)).trans (fB r2 r2)
 have Fw:ent (fm m (dN x y z)) 0 1=au m x y:=(e 0 1 (by decide) (by decide)).trans (fB r0 r1)
 have Fx:ent (fm m (dN x y z)) 0 2=au m x z:=(e 0 2 (by decide) (by decide)).trans (fB r0 r2)
 have Fy:ent (fm m (dN x y z)) 1 2=au m y z:=(e 1 2 (by decide) (by decide)).trans (fB r1 r2)
 have dt:=v5 (m:=m) un
 refine⟨⟨(show cg (gF (gF (dN x y z) m) (cL (dN x y z)))from cy _),sW ev c c3,qw hS ab c3 un,?_,?_,?_,?_,?_,?_,?_⟩,un,dt⟩
 ·rw[Ke];exact h.pair.pos
 ·rw[Ke,KR];exact h.pair.le
 ·rw[KR,Nk];exact h.le
 ·rw[Ke,Fw];exact⟨h.pair.lo,h.pair.hi⟩
 ·rw[Ke,Fx];exact h.u
 ·rw[KR,Fy];exact h.v
 ·rw[Ke,KR,Nk,dt];exact h.few
theorem Dr{m:List (List Int)}{x y z:Nat->Int}(h:zN m x y z):3*aN m x<=16*aA m/\3*aN m y<=16*aA m/\3*aN m z<=16*aA m:=by
 have p:=h.pair.pos
 have q:=h.pair.le
 have r:=h.le
 have f:=h.few
 have k1:aN m y<=aN m x*aN m y:=by
  have:=Int.mul_le_mul_of_nonneg_right (show 1<=aN m x by omega) (show 0<=aN m y by omega)
  omega
 have k2:1*aN m z<=aN m x*aN m y*aN m z:=Int.mul_le_mul_of_nonneg_right (by omega) (by omega)
 omega
end L2
namespace uw
open PySem PyProof.Rows
section
variable{prog:Program}{w:World}{A:Around}{E:Value->Shared->Prop}{s:Shared}{κ:SortKind}{K:Keyed->Int}{D:Keyed->Prop}{st:SortSt}
theorem FD(hL:AE prog w A E s κ K D){Q:Unit->SortSt->Prop}(B:SB κ D st)(hp:pendingOf st= #[])(h64:(arrOf st).size<64)
  (hq:∀st',(arrOf st').Perm (arrOf st) ->failedOf st'=none->So K (arrOf st') 0 (arrOf st).size->Q () st'):wpS (model prog w) A E s sortRuns' Q st:=by
 rw[HW]
 refine wpS_bind (wpS_get ?_)
 dsimp only
 have mr:minRun' (arrOf st).size (arrOf st).size 0=(arrOf st).size:=by
  cases h:(arrOf st).size with
  |zero=>rfl
  |succ k=>
   rw[minRun'_succ,if_pos (by omega)]
 rw[mr]
 refine wpS_bind (wpS_mono (wpS_forRange (I:=λx c s1=>(x=0/\c=(none,0)/\s1=st)∨(c=(none,(arrOf st).size)/\(arrOf s1).Perm (arrOf st)/\failedOf s1=none/\So K (arrOf s1) 0 (arrOf st).size/\(pendingOf s1).size=1))
  (Q:=λc s1=>c=(none,(arrOf st).size)/\(arrOf s1).Perm (arrOf st)/\failedOf s1=none/\So K (arrOf s1) 0 (arrOf st).size/\(pendingOf s1).size<=1) ?_ ?_ (.inl ⟨rfl,rfl,rfl⟩)) ?_)
 ·rintro x c s1 _ hx (⟨rfl,rfl,rfl⟩|⟨rfl,h⟩)
  ·dsimp only
   refine uy (λc=>by omega) (λ_=> ?_)
   refine wpS_bind (w_count hL B (by omega) (by omega) λn s2 S2 n1 n2 Mg=> ?_)
   dsimp only
   have Qm:=S2.size
   have note:∀s3:SortSt,SC 0 s1 s3->So K (arrOf s3) 0 (arrOf s1).size-> ∀m,m=(arrOf s1).size-> ∀Q:ForInStep (Option Unit×Nat) ->SortSt->Prop,(∀s5,(arrOf s5).Perm (arrOf s1) ->failedOf s5=none->So K (arrOf s5) 0 (arrOf s1).size->(pendingOf s5).size=1->Q (.yield (none,(arrOf s1).size)) s5) ->wpS (model prog w) A E s (do
     modify λy=>setPending y ((pendingOf y).push (0,m,0))
     pure (ForInStep.yield ((none,0+m):Option Unit×Nat))) Q s3:=λs3 S3 KS m em Q hQ=>by
    subst em
    rw[Nat.zero_add]
    refine wpS_bind (wpS_modify (wpS_pure (hQ _ S3.perm (S3.failed.trans B.failed) KS ?_)))
    show((pendingOf s3).push _).size=1
    rw[S3.pend,hp]
    rfl
   by_cases hm:n<(arrOf s1).size
   ·rw[if_pos hm]
    refine wpS_bind (wpS_lift (wpAny_rule ⟨rfl,?_⟩))
    refine wpS_bind (Kc hL (B.sc S2) (by omega) (by omega) Mg λs3 S3 KS=> ?_)
    simp only[Bool.not_true,Bool.false_eq_true,if_false]
    refine wpS_bind (wpS_get ?_)
    rw[(S2.trans S3).pend,hp]
    have em:min ((arrOf s1).size-0) (arrOf s1).size=(arrOf s1).size:=by omega
    rw[em]at KS
    exact note s3 (S2.trans S3) KS _ em _ λs5 p f o q=> .inr ⟨rfl,p,f,o,q⟩
   ·rw[if_neg hm]
    have en:n=(arrOf s1).size:=by omega
    rw[en]at Mg
    refine wpS_bind (wpS_get ?_)
    rw[S2.pend,hp]
    exact note s2 S2 Mg _ en _ λs5 p f o q=> .inr ⟨rfl,p,f,o,q⟩
  ·dsimp only
   exact uy (λ_=>wpS_pure ⟨rfl,h.1,h.2.1,h.2.2.1,Nat.le_of_eq h.2.2.2⟩) (λc=>absurd (Nat.le_refl _) c)
 ·rintro c s1 (⟨h0,rfl,rfl⟩|⟨rfl,h⟩)
  ·have z:(arrOf s1).size=0:=by omega
   rw[z]
   exact⟨rfl,Array.Perm.refl _,B.failed,λi j _ h=>absurd h (Nat.not_lt_zero _),by rw[hp];decide⟩
  ·exact⟨rfl,h.1,h.2.1,h.2.2.1,Nat.le_of_eq h.2.2.2⟩
 ·rintro c s1 ⟨rfl,h1,h2,h3,h4⟩
  dsimp only
  refine wpS_bind (wpS_mono (wpS_forRange (I:=λ_ c s2=>c=(none,())/\s2=s1) (Q:=λc s2=>c=(none,())/\s2=s1) ?_ (λ_ _ h=>h) ⟨rfl,rfl⟩) ?_)
  ·rintro x c s2 _ hx ⟨rfl,rfl⟩
   refine wpS_bind (wpS_get ?_)
   exact uy (λc=>wpS_pure ⟨rfl,rfl⟩) (λc=>absurd h4 c)
  ·rintro c s2 ⟨rfl,rfl⟩
   exact wpS_pure (hq _ h1 h2 h3)
end
end uw
namespace L2
open PySem PySem.Spec PyProof.Rows PySem.Calls uw
section
variable{prog:Program}{w:World}{A:Around}{E:Value->Shared->Prop}{s:Shared}
theorem FF{a kS:Addr}{P:PySem.Fin->Shared->Prop}{kf:V->Int}{ys:List V}{us:List Value}{keys:Array Value}{e1 e:Nat}(hk:nE kf ys us keys.toList)(hn:kS≠a)(hz:us.length<=sizeLine)(h64:us.length<64)
  (ha:s.heap.get? a=some (seqObj "list" #[] e1))(hS:s.heap.get? kS=some (seqObj "list" keys e))
  (h:∀(zs:List V)(out:List Value) h' tk,zs.Perm ys->zs.Pairwise (λx y=>kf x<=kf y) ->Vals zs out->out.length=us.length->(∀b o,b≠a->b≠kS->s.heap.get? b=some o->h'.get? b=some o) ->(∃c,h'.get? a=some (seqObj "list" out.toArray c)) ->(∃o,h'.get? kS=some o) ->
   P (.done (.ret .none)) {s with heap:=h',toks:=tk}):wpAny (model prog w) A (ksk_end a false us.toArray e1 (.ref kS) keys) P E s:=by
 have kl:keys.toList.length=us.length:=by
  have:∀{ys:List V}{us ks:List Value},nE kf ys us ks->ks.length=us.length:=λh=>by
   induction h with
   |nil=>rfl
   |cons t r _ ih=>simp[ih]
  exact this hk
 have kz:keys.size=us.length:=by rw[<-kl];exact(Array.length_toList ..).symm
 have Nl:(keys.zip us.toArray).size=us.length:=by rw[Array.size_zip,kz,List.size_toArray,Nat.min_self]
 have zl:(keys.zip us.toArray).toList=keys.toList.zip us:=ksk_zip keys us
 have tail:∀st:SortSt,(arrOf st).Perm (keys.zip us.toArray) ->failedOf st=none->So (λp=>numOf p.1) (arrOf st) 0 us.length->wpAny (model prog w) A (ksk_tail a false e1 (.ref kS) st) P E s:=by
  intro st hp hf hs
  have pl:(arrOf st).toList.Perm (keys.toList.zip us):=by rw[<-zl];exact Array.perm_iff_toList_perm.mp hp
  obtain⟨tr,t1,t2,t3⟩:=hk.out
  obtain⟨KU,p',e'⟩:=sY pl tr t1
  have len:(arrOf st).toList.length=us.length:=by rw[pl.length_eq,List.length_zip,kl,Nat.min_self]
  have oz:((arrOf st).map (·.2)).size=us.length:=by rw[Array.size_map,<-len,Array.length_toList]
  have oe:((arrOf st).map (·.2)).toList=KU.map λt=>t.1.2:=by
   rw[Array.toList_map,e',List.map_map]
   rfl
  unfold ksk_tail
  try dsimp only
  generalize(arrOf st).map (·.2)=ov at oz oe ⊢
  refine wpAny_bind (listUpdate_at hS rfl ?_ (by omega) (Nat.zero_le _))
  refine wpAny_bind (wpAny_letGo ?_)
  have Nm:=Heap.SameBut.update s.heap kS (Obj.mapSeq λ_=>(#[]:Array Value))
  have ha1:(s.heap.update kS (Obj.mapSeq λ_=>(#[]:Array Value))).get? a=some (seqObj "list" #[] e1):=(Nm.2 a hn.symm).trans ha
  have KC:=Heap.SameBut.update (s.heap.update kS (Obj.mapSeq λ_=>(#[]:Array Value))) a (Obj.mapSeq λ_=>ov)
  refine wpAny_bind (seqEpoch_at ha1 rfl ?_)
  refine wpAny_bind (listUpdate_at ha1 rfl ?_ (Nat.zero_le _) (Nat.le_trans (Nat.le_of_eq oz) (Nat.le_succ_of_le hz)))
  rw[hf]
  simp only[bne_self_eq_false,Bool.false_eq_true,if_false]
  refine wpAny_pure (h (KU.map Prod.snd) (KU.map λt=>t.1.2) _ _ (by rw[t2];exact p'.map _) ?_ ?_ ?_ (λb o h1 h2 q=> ?_) ?_ ?_)
  ·have h2:=(HV (K:=λp=>numOf p.1) (a:=arrOf st) (lo:=0) (n:=us.length) (by rw[Nat.zero_add,<-len,Array.length_toList];exact Nat.le_refl _)).mp hs
   have e2:sl (arrOf st) 0 us.length=(arrOf st).toList:=by
    show((arrOf st).toList.drop 0).take us.length=_
    rw[List.drop_zero,List.take_of_length_le (by omega)]
   rw[e2,e',List.pairwise_map]at h2
   rw[List.pairwise_map]
   refine h2.imp_of_mem λ {x y} mx my q=> ?_
   obtain⟨_,k1,q1⟩:=t3 x (p'.mem_iff.mp mx)
   obtain⟨_,k2,q2⟩:=t3 y (p'.mem_iff.mp my)
   rw[q1,q2]at q
   exact q
  ·have:∀l:List (Keyed×V),(∀t∈l,RelV t.2 t.1.2) ->Vals (l.map Prod.snd) (l.map λt=>t.1.2):=λl=>by
    induction l with
    |nil=>intro _;exact .nil
    |cons t l ih=>intro hl;exact .cons (hl t List.mem_cons_self) (ih λz hz=>hl z (List.mem_cons_of_mem _ hz))
   exact this KU λt ht=>(t3 t (p'.mem_iff.mp ht)).1
  ·rw[<-oe,<-oz,Array.length_toList]
  ·exact(KC.2 b h1).trans ((Nm.2 b h2).trans q)
  ·rw[<-oe,Array.toArray_toList]
   exact⟨_,get?_update_seq ha1 λ_=>ov⟩
  ·exact⟨_,(KC.2 kS hn).trans (get?_update_seq hS λ_=> #[])⟩
 unfold ksk_end
 try dsimp only
 simp only[Bool.false_eq_true,if_false]
 by_cases h2:us.toArray.size<2
 ·rw[if_pos h2,if_pos h2]
  refine wpAny_bind (wpAny_pure ?_)
  rw[StateT.run_pure]
  refine wpAny_bind (wpAny_pure ?_)
  try dsimp only
  refine tail (SortSt.mk' general' (keys.zip us.toArray) #[] 7 none) (Array.Perm.refl _) rfl (λi j hij hj=> ?_)
  rw[List.size_toArray]at h2
  have:i=j:=by omega
  subst this
  exact Int.le_refl _
 ·rw[if_neg h2,if_neg h2]
  rw[List.size_toArray]at h2
  rw[ksk_kind hk.ints (by omega)]
  refine wpAny_bind (wpAny_pure ?_)
  have R:uw.SB oneType' (λp=> ∃n t,p.1= .int n t) (SortSt.mk' oneType' (keys.zip us.toArray) #[] 7 none):=by
   refine⟨rfl,rfl,λp hp=> ?_⟩
   have jR:p∈(keys.zip us.toArray).toList:=hp
   rw[zl]at jR
   exact hk.ints.all p.1 (List.of_mem_zip (a:=p.1) (b:=p.2) jR).1
  refine wpAny_bind (wpAny_mono (FD AI (Q:=λ_ st'=>(arrOf st').Perm (keys.zip us.toArray)/\failedOf st'=none/\So (λp=>numOf p.1) (arrOf st') 0 (keys.zip us.toArray).size) R rfl (show(keys.zip us.toArray).size<64 by rw[Nl];exact h64) λst' a1 a2 a3=>⟨a1,a2,a3⟩) ?_ λ_ _ e=>e)
  rintro⟨⟨⟩,st'⟩ s' ⟨rfl,hp,hf,hs⟩
  rw[Nl]at hs
  try dsimp only
  exact tail st' hp hf hs
end
section
variable{X:Cx}{pins:List (Addr×Obj)}{σ:St}{H:Hp}{s:Shared}{B:Around}{a:Addr}{f:Value}{kf:V->Int}{ys:List V}{us:List Value}
theorem AU(I:Inv X pins σ H s)(fa:e9 X pins H a){n:Nat}(ha:s.heap.get? a=some (seqObj "list" us.toArray n))(r:Vals ys us)(hz:us.length<=sizeLine)(h64:us.length<64){E:Value->Shared->Prop}{P:PySem.Fin->Shared->Prop}
  (turn:∀(m6:List (Addr×Obj))(v:V)(Hi:Hp)(u:Value)(si:Shared),v∈ys->ay H Hi->RelV v u->Inv X m6 σ Hi si->wpAny (model X.prog X.w) B (call f [u]) (EP X m6 σ (λv' H'=>v'= .int (kf v)/\ay Hi H')) (λ_ _=>False) si)
  (done:∀(Hn:Hp)(s':Shared)(zs:List V),Inv X pins σ (upd Hn a (.lst zs)) s'->ay H Hn->Hn a=none->zs.Perm ys->zs.Pairwise (λx y=>kf x<=kf y) ->P (.done (.ret .none)) s'):
  wpAny (model X.prog X.w) B (ksk_tree a f false) P E s:=by
 have rl:=r.length
 unfold ksk_tree
 refine wpAny_bind (listItems_at ha rfl ?_)
 refine wpAny_bind (listUpdate_at ha rfl ?_ (by simpa using hz) (Nat.zero_le _))
 obtain⟨e1,ha1⟩:∃e1,(s.heap.update a (Obj.mapSeq λ_=> #[])).get? a=some (seqObj "list" #[] e1):=⟨_,get?_update_seq ha (λ_=> #[])⟩
 refine wpAny_bind (seqEpoch_at ha1 rfl ?_)
 refine wpAny_bind (wpAny_newTuple ?_ (by simpa using hz))
 refine wpAny_bind (wpAny_newList ?_ (Nat.zero_le _))
 refine wpAny_holding ?_
 have I1:Inv X pins σ H {s with heap:=s.heap.update a (Obj.mapSeq λ_=> #[])}:=I.nB (ch:=[a]) (t':=s.toks) (λb o hb e=>(Heap.get?_update_ne _ _ _ _ (by simpa using hb)).trans e) (λb hb=>by rw[List.mem_singleton.mp hb];exact fa)
 have I2:Inv X pins σ H {s with heap:=((s.heap.update a (Obj.mapSeq λ_=> #[])).push (seqObj "tuple" us.toArray 0))}:=I1.kept (t':=s.toks) λb o e=>Heap.get?_push_of_some _ e
 have I3:Inv X pins σ H {s with heap:=((s.heap.update a (Obj.mapSeq λ_=> #[])).push (seqObj "tuple" us.toArray 0)).push (seqObj "list" #[] 0)}:=I2.kept (t':=s.toks) λb o e=>Heap.get?_push_of_some _ e
 have fk:e9 X pins H ((s.heap.update a (Obj.mapSeq λ_=> #[])).push (seqObj "tuple" us.toArray 0)).objs.size:=I2.Ad (Nat.le_refl _) I2.fresh
 have Nn:(((s.heap.update a (Obj.mapSeq λ_=> #[])).push (seqObj "tuple" us.toArray 0)).push (seqObj "list" #[] 0)).get? a=some (seqObj "list" #[] e1):=Heap.get?_push_of_some _ (Heap.get?_push_of_some _ ha1)
 have Gr:(((s.heap.update a (Obj.mapSeq λ_=> #[])).push (seqObj "tuple" us.toArray 0)).push (seqObj "list" #[] 0)).get? ((s.heap.update a (Obj.mapSeq λ_=> #[])).push (seqObj "tuple" us.toArray 0)).objs.size=some (seqObj "list" #[] 0):=Heap.get?_push_size _ rfl
 have Mh:((s.heap.update a (Obj.mapSeq λ_=> #[])).push (seqObj "tuple" us.toArray 0)).objs.size≠a:=by
  have:=Heap.lt_size ha
  rw[size_push',Heap.size_update]
  exact Nat.ne_of_gt (Nat.lt_succ_of_lt this)
 generalize((s.heap.update a (Obj.mapSeq λ_=> #[])).push (seqObj "tuple" us.toArray 0)).objs.size=kS at fk Gr Mh ⊢
 generalize((s.heap.update a (Obj.mapSeq λ_=> #[])).push (seqObj "tuple" us.toArray 0)).push (seqObj "list" #[] 0)=h3 at I3 Nn Gr ⊢
 show wpAny _ B (ksk_rest a f false us.toArray e1 (.ref kS)) P E {s with heap:=h3}
 have nc:∀(xs:Array Value)(m:Nat)(v:Option Value),(seqObj "list" xs m).data≠ .cell v:=λxs m v z=>nomatch z
 have I4:Inv X (zK pins a e1 kS #[] 0) σ H {s with heap:=h3}:=I3.iw λp hp=>by
  rcases List.mem_append.mp hp with hp|hp
  ·exact I3.pin p (List.mem_append_right _ hp)
  ·rcases List.mem_cons.mp hp with rfl|hp
   ·exact uz fa Nn (nc _ _)
   ·rw[List.mem_singleton.mp hp]
    exact uz fk Gr (nc _ _)
 unfold ksk_rest
 refine wpAny_bind (wpAny_rule ?_)
 first
  |rw[List.forIn_toArray]
  |(rw[<-Array.forIn_toList];simp only[List.toList_toArray])
 refine wpAny_bind (ksk_fold (λi s'=> ∃Hi ks e,Inv X (zK pins a e1 kS ks e) σ Hi s'/\ay H Hi/\nE kf (ys.take i) (us.take i) ks.toList) us 0 {s with heap:=h3} ⟨H, #[],0,I4,ay.refl _,by simpa using nE.nil⟩ ?_ ?_)
 ·rintro j x s' hx ⟨Hi,ks,e,J,sm,hk⟩
  simp only[Nat.zero_add]at hk ⊢
  obtain⟨v,hv,rv⟩:=Vals.at r hx
  have hj:j<us.length:=(List.getElem?_eq_some_iff.mp hx).1
  refine wpAny_bind (wpAny_attempt (wpAny_mono (turn _ v Hi x s' (List.mem_of_getElem? hv) sm rv J) (λu s2 he=> ?_) λ_ _ hF=>hF.elim))
  obtain⟨v',H',J',ru,rfl,OS⟩:=he
  obtain⟨t,rfl⟩:∃t,u= .int (kf v) t:=ru
  have pa:=J'.pin (a,seqObj "list" #[] e1) (by simp)
  have pk:=J'.pin (kS,seqObj "list" ks e) (by simp)
  have kl:ks.size=j:=by
   have h1:=hk.ints.length
   rw[Array.length_toList,List.length_map,List.length_take,rl]at h1
   omega
  try dsimp only
  refine wpAny_bind (listUpdate_at pk.1 rfl ?_ (by omega) (Nat.le_trans (Nat.le_of_eq (Array.size_push ..)) (by omega)))
  obtain⟨c2,hc2⟩:∃c2,(s2.heap.update kS (Obj.mapSeq (·.push (.int (kf v) t)))).get? kS=some (seqObj "list" (ks.push (.int (kf v) t)) c2):=⟨_,get?_update_seq pk.1 (·.push (.int (kf v) t))⟩
  have ya:ys.take (j+1)=ys.take j++ [v]:=by rw[List.take_add_one,hv];simp
  have ua:us.take (j+1)=us.take j++ [x]:=by rw[List.take_add_one,hx];simp
  have ea:(ks.push (Value.int (kf v) t)).toList=ks.toList++ [Value.int (kf v) t]:=by simp
  have J1:Inv X pins σ H' s2:=J'.iw λp hp=>J'.pin p (List.mem_append_right _ (List.mem_append_left _ hp))
  have J2:Inv X pins σ H' {s2 with heap:=s2.heap.update kS (Obj.mapSeq (·.push (.int (kf v) t)))}:=J1.nB (ch:=[kS]) (t':=s2.toks) (λb o hb e=>(Heap.get?_update_ne _ _ _ _ (by simpa using hb)).trans e) (λb hb=>by rw[List.mem_singleton.mp hb];exact sZ fk pk.2.1)
  refine wpAny_pure ⟨rfl,H',ks.push (.int (kf v) t),c2,J2.iw λp hp=> ?_,sm.trans OS,by rw[ya,ua,ea];exact hk.snoc t rv⟩
  rcases List.mem_append.mp hp with hp|hp
  ·exact J2.pin p (List.mem_append_right _ hp)
  ·rcases List.mem_cons.mp hp with rfl|hp
   ·exact uz (sZ fa pa.2.1) ((Heap.get?_update_ne _ _ _ _ Mh.symm).trans pa.1) (nc _ _)
   ·rw[List.mem_singleton.mp hp]
    exact uz (sZ fk pk.2.1) hc2 (nc _ _)
 ·rintro s' ⟨Hi,ks,e,J,sm,hk⟩
  rw[Nat.zero_add,List.take_of_length_le (Nat.le_of_eq rl),List.take_of_length_le (Nat.le_refl _)]at hk
  have pa:=J.pin (a,seqObj "list" #[] e1) (by simp)
  have pk:=J.pin (kS,seqObj "list" ks e) (by simp)
  have J1:Inv X pins σ Hi s':=J.iw λp hp=>J.pin p (List.mem_append_right _ (List.mem_append_left _ hp))
  try dsimp only
  refine wpAny_bind (listItems_at pk.1 rfl ?_)
  refine FF hk Mh hz h64 pa.1 pk.1 λzs out h' tk pz so vo ol keep hA hS=> ?_
  have J2:Inv X pins σ Hi {s' with heap:=h',toks:=tk}:=J1.nB (ch:=[a,kS]) (t':=tk) (λb o hb e=>keep b o (λz=>hb (by simp[z])) (λz=>hb (by simp[z])) e) (λb hb=>by
   rcases List.mem_cons.mp hb with rfl|hb
   ·exact sZ fa pa.2.1
   ·rw[List.mem_singleton.mp hb];exact sZ fk pk.2.1)
  obtain⟨c,hc⟩:=hA
  exact done Hi _ zs (J2.GA (sZ fa pa.2.1) ⟨by rw[vo.length,ol];exact hz,out,c,vo,hc⟩) sm pa.2.1 pz so
theorem wg{l:Addr}{fa:Addr}(I:Inv X pins σ H s)(hq:aU X.K H l ys)(h64:ys.length<64){Q:VK}
  (turn:∀(m6:List (Addr×Obj))(v:V)(Hi:Hp)(u:Value)(si:Shared),v∈ys->ay H Hi->RelV v u->Inv X m6 σ Hi si->wpAny (model X.prog X.w) X.A.in1.in1 (call (.ref fa) [u]) (EP X m6 σ (λv' H'=>v'= .int (kf v)/\ay Hi H')) (λ_ _=>False) si)
  (done:∀(Hn:Hp)(zs:List V),ay H Hn->zs.Perm ys->zs.Pairwise (λx y=>kf x<=kf y) -> ∀p,Hn p=none->Q (.ref p) (upd Hn p (.lst zs))):
  wpAny (model X.prog X.w) X.A (call (.builtin "sorted") [.ref l] [(Str.ofString "key",.ref fa)]) (EP X pins σ Q) X.xe s:=by
 obtain⟨us,r,pl,hz⟩:=I.list hq
 have hz':us.length<=sizeLine:=by rw[<-r.length];exact hz
 refine call_function_entry_kw kind_sorted plain_sorted entry_sorted (ksk_s1 _ _) ?_
 unfold Builtin.«sorted»
 refine wpAny_bind (m:=checkCount "sorted" 1 1 _) (wpAny_pure ?_)
 refine wpAny_bind (collect_list pl.isList ?_ hz')
 refine wpAny_bind (wpAny_newList ?_ (by simpa using hz'))
 have z1:((s.heap.push (seqObj "list" #[] 0)).update s.heap.objs.size (Obj.mapSeq (· ++us.toArray))).objs.size=s.heap.objs.size+1:=by
  rw[Heap.size_update,size_push']
 generalize hg:((s.heap.push (seqObj "list" #[] 0)).update s.heap.objs.size (Obj.mapSeq (· ++us.toArray)))=h1 at z1
 have keep:∀b o,s.heap.get? b=some o->(h1.push (seqObj "list" us.toArray 0)).get? b=some o:=λb o e=>by
  have lb:=Heap.lt_size e
  refine Heap.get?_push_of_some _ ?_
  rw[<-hg,Heap.get?_update_ne _ _ _ _ (Nat.ne_of_lt lb)]
  exact Heap.get?_push_of_some _ e
 have Ky:(h1.push (seqObj "list" us.toArray 0)).get? (s.heap.objs.size+1)=some (seqObj "list" us.toArray 0):=by
  rw[<-z1];exact Heap.get?_push_size _ rfl
 have I1:Inv X pins σ H {s with heap:=h1.push (seqObj "list" us.toArray 0)}:=I.kept (t':=s.toks) keep
 have OT:e9 X pins H (s.heap.objs.size+1):=I.Ad (Nat.le_succ _) (I.hok.fresh (Nat.le_succ _))
 show wpAny _ _ _ _ _ {s with heap:=h1.push (seqObj "list" us.toArray 0)}
 rw[z1]
 refine wpAny_bind (wpAny_holding (wpAny_call_entry_kw slot_list_sort ⟨_,Ky,rfl⟩ entry_list_sort ?_ (ksk_l1 _ _)))
 show wpAny (model X.prog X.w) X.A.in1.in1 (Builtin.«list.sort» ⟨[.ref (s.heap.objs.size+1)],[(Str.ofString "key",.ref fa)]⟩) _ _ _
 rw[ksk_t1]
 refine AU I1 OT Ky r hz' (by rw[<-r.length];exact h64) turn λHn s' zs J sm hn pz so=>⟨_,rfl,?_⟩
 exact wpAny_pure ⟨_,rfl,.ref (s.heap.objs.size+1),_,J,rfl,done Hn zs sm pz so _ hn⟩
end
def zO(tb:TE)(K:PySem.W.Frag)(P:Addr)(σ:St)(x:V)(H1:Hp)(Q:VK):Prop:=∃(l:Addr)(ys:List V)(kf:V->Int),x= .ref l/\aU K H1 l ys/\ys.length<64/\H1 P=some .vE/\
 (∀v∈ys,∀Hi,ay H1 Hi->tb (some v::σ) Hi λv' H'=>v'= .int (kf v)/\ay Hi H')/\
 ∀(Hn:Hp)(zs:List V),ay H1 Hn->zs.Perm ys->zs.Pairwise (λx y=>kf x<=kf y) -> ∀p,Hn p=none->Q (.ref p) (upd Hn p (.lst zs))
def FG(tb:TE)(K:PySem.W.Frag)(P:Addr)(te:TE):TE:=λσ H Q=>te σ H λx H1=>zO tb K P σ x H1 Q
section
variable{X:Cx}{P:Addr}{te tb:TE}{e body:Expr}{args:Arguments}{sc:Scope}{x:Str}{N2:List Str}{p pos Dh kpos:Pos}
theorem AV(hc:X.calm=true){k:Nat}(hr:eY (k+3) X.A)(cd:fj X.K X.env.code P)(bm:BM X.mg X.base)(Cz:Gl X "sorted")(hm:X.mg "sorted"=none)(he:PE X e te)(hB:Kd sc X.env.scope.names [x] N2 X.N=true)
  (hbind:∀qual cl pm c ctv u,bindArgs (PySem.W.kla_fn "<lambda>" qual args body sc cl pm c ctv) ⟨[u],[]⟩=pure [(x,u)])
  (hbody:∀q f cd s H,PE (X.lam X.A.in1.in1 sc ([x]++N2) q f cd s H) body tb)
  (hdef:defaultsOf args X.env=([],[]):=by rfl)
  (hkw:keywordEach [⟨some "key",.Lambda args body sc Dh,kpos⟩] X.env=[(some (Str.ofString "key"),eval (.Lambda args body sc Dh) X.env)]:=by rfl)
  (hse:starEach [e] X.env=(false,eval e X.env)::starEach [] X.env:=by rfl)(hst:backTo pos (starEach [e] X.env)=(false,eval e X.env)::backTo pos (starEach [] X.env):=by rfl)
  (hpl:(backTo pos (starEach [e] X.env)).any (·.1)=false:=by rfl):PE X (.Call (.Name "sorted" p) [e] [⟨some "key",.Lambda args body sc Dh,kpos⟩] pos) (FG tb X.K P te):=by
 intro pins s σ H Q I h
 unfold Kd at hB
 simp only[Bool.and_eq_true]at hB
 obtain⟨⟨⟨⟨⟨h1,h2⟩,h3⟩,h4⟩,h5⟩,h6⟩:=hB
 have Bk:=kZ h1
 have nc:∀y∈sc.names,y.2≠ .cell:=λy hy=>by
  have q:=List.all_eq_true.mp h5 y hy
  simpa using q
 have hx:sc.names.lookup x=some .local:=by
  have q:=List.all_eq_true.mp h6 x (by simp)
  simpa using q
 refine wpAny_Call_Name_kw (jS I Cz hm PyProof.Rows.boot_sorted ?_)
 refine PyProof.Rows.callWith_kw (eV ((af he aj hse) pos pins s σ H (λvs H1=>match vs with| [v]=>zO tb X.K P σ v H1 Q|_=>False) I h) λus s1 ⟨vs,H1,I1,r,q⟩=> ?_) hst hpl
 match vs,r,q with
 | [v],r,q=>
  obtain⟨l,ys,kf,rfl,hq,h64,hP,step,fin⟩:=q
  obtain⟨u,rfl,ru⟩:=vals1 r
  cases ru
  show wpAny _ _ (evalAll [do let v<-eval (.Lambda args body sc Dh) X.env;standAt pos;pure v]) _ _ s1
  refine wpAny_evalAll_cons (wpAny_bind (AH I1 cd hP bm Bk hdef λf H2 s2 I2 sm fr L=>wpAny_bind (wpAny_standAt (wpAny_pure (wpAny_evalAll_nil ?_)))))
  refine wg (kf:=kf) I2 (Dg hq sm) h64 (λm6 v Hi u si hv Np rv J=> ?_) λHn zs OU pz so=>fin Hn zs (sm.trans OU) pz so
  exact Fq J (L.same Np) Bk (by simpa using h2) (by simpa using h3) (by simpa using h4) nc hx hbind J.ok.frames (J.ok.hd hc) hr.depth (λq cd=>hbody q f cd si Hi) rv (step v hv Hi (sm.trans Np))
end
end L2
namespace L2
open PySem PySem.Spec PyProof.Rows
section
variable{M:Model}{A:Around}{E:Value->Shared->Prop}{s:Shared}{base:Heap}{env:Env}{outer:List Env}{L e:Addr}{cls a0:Value}
end
section
variable{P:Program}{w:World}{K:PySem.W.Frag}{mg:Str->Option Value}{base:Heap}{N:List Str}{qual:Str}{scope:Scope}{f:Addr}{cd:Value}{A:Around}{outer:List Env}{s:Shared}{H:Hp}{E:XK}
end
section
variable{X:Cx}{pins:List (Addr×Obj)}{σ:St}{H:Hp}{s:Shared}
def Ends.behind(D:Ends)(i:Nat):Ends:={nx:=λσ H=>D.nx (σ.set i none) H,rt:=D.rt,bk:=λσ H=>D.bk (σ.set i none) H,ct:=λσ H=>D.ct (σ.set i none) H}
end
end L2
namespace L2
open PySem PySem.Spec PyProof.Rows PySem.W Builtin Builtin.ObjectAttr Builtin.Getset_descriptor
section
variable{K:Frag}{x D:Addr}
end
end L2
namespace L2
open PySem PySem.Spec PyProof.Rows
section
variable{P:Program}{w:World}{K:PySem.W.Frag}{mg:Str->Option Value}{base:Heap}
end
section
variable{X:Cx}{pins:List (Addr×Obj)}{σ:St}{H:Hp}{s:Shared}
end
section
variable{X:Cx}
end
structure dg(P:Program)(w:World)(K:PySem.W.Frag)(mg:Str->Option Value)(base:Heap)(C:Aj)(k:Nat)(x:Str)(ps:List Str)(sp:Sp):Prop where
 ex:∃f fd,m8 P w K mg base C k f fd ps sp/\Binds K fd ps []/\PySem.W.keepIn K (.ref f)=true/\mg x=some (.ref f)
structure eG(K:PySem.W.Frag)(mg:Str->Option Value)(x:Str)(st:Stmt)(ps:List Str):Prop where
 ex:∃f fd,Gq K x x st f fd/\Binds K fd ps []/\mg x=some (.ref f)
structure nG(K:PySem.W.Frag)(mg:Str->Option Value)(x:Str)(st:Stmt)(ps:List Str)(T:Addr):Prop where
 ex:∃f fd,Ay K x x st f fd T/\Binds K fd ps []/\mg x=some (.ref f)
section
variable{P:Program}{w:World}{K:PySem.W.Frag}{mg:Str->Option Value}{base:Heap}{C:Aj}{x:Str}{st:Stmt}{N ps:List Str}{j k:Nat}{sp:Sp}{T:Addr}
theorem dg.mono(F:dg P w K mg base C j x ps sp)(h:j<=k:=by decide):dg P w K mg base C k x ps sp:=by
 obtain⟨f,fd,a,b⟩:=F.ex
 exact⟨f,fd,a.mono h,b⟩
theorem eG.ok(F:eG K mg x st ps)(S:aM N ps (az st))(len:∀vs H Q E,sp vs H Q E->vs.length=ps.length)
  (hbody:∀f (cdv:Value) (A:Around) (outer:List Env) (s:Shared) (H:Hp) (vs:List V) (Q:VK) (E:XK),eY k (A.deeper (envOfC x (az st) s.heap.objs.size f cdv)) ->sp vs H Q E->
   ∃t,tV (t8 cV P w K mg base N x (az st) f cdv A outer s H E).BJ (dO st) t/\t {nx:=λ_ H'=>Q .ig H',rt:=Q} (start N vs) H):dg P w K mg base cV (k+1) x ps sp:=by
 obtain⟨f,fd,a,b,m⟩:=F.ex
 exact⟨f,fd,a.ok S len (hbody f),b,a.kp,m⟩
theorem nG.ok(F:nG K mg x st ps T)(S:aM N ps (az st))(len:∀vs H Q E,sp vs H Q E->vs.length=ps.length)
  (hbody:∀f (cdv:Value) (A:Around) (outer:List Env) (s:Shared) (H:Hp) (vs:List V) (Q:VK) (E:XK),fj K cdv T->eY k (A.deeper (envOfC x (az st) s.heap.objs.size f cdv)) ->sp vs H Q E->
   ∃t,tV (t8 cV P w K mg base N x (az st) f cdv A outer s H E).BJ (dO st) t/\t {nx:=λ_ H'=>Q .ig H',rt:=Q} (start N vs) H):dg P w K mg base cV (k+1) x ps sp:=by
 obtain⟨f,fd,a,b,m⟩:=F.ex
 exact⟨f,fd,a.ok S len (hbody f),b,a.kp,m⟩
end
theorem aR{X:Cx}{CX:Aj}{k:Nat}{ps:List Str}{sp:Sp}{E:XK}{x:Str}{p pos:Pos}{e:Expr}{es:List Expr}{t:TA}(F:dg X.prog X.w X.K X.mg X.base CX k x ps sp)(hr:eY k X.A)(hg:Gl X x)(hx:Passes CX X E)(ha:PA X (e::es) t)
  (hdb:(x==("__debug__":Str))=false:=by decide)(he:starEach (e::es) X.env=(false,eval e X.env)::starEach es X.env:=by rfl)(hpl:(backTo pos (starEach es X.env)).any (·.1)=false:=by rfl):
  PE X (.Call (.Name x p) (e::es) [] pos) (kX sp [] E t):=by
 obtain⟨f,fd,a,b,kp,m⟩:=F.ex
 exact EH a hr hg m kp b .nil hx ha hdb he hpl
def FnAt(K:PySem.W.Frag)(x:Str)(st:Stmt)(f:Addr):Prop:=∃(oc:Value)(od an:Option Addr)(sl:Array (Option Value))(kV dc pm cd ct:Value),PySem.W.nsIn K mainGlobals x=some (some (.ref f))/\
 K.lookup f=some ⟨oc,od,.func (PySem.W.fnOf x x (fH st) (dO st) (az st) .none kV dc pm an cd ct),sl⟩/\PySem.W.codeIn K cd x=true/\PySem.W.keepIn K (.ref f)=true
theorem fnAt{K:PySem.W.Frag}{x:Str}{st:Stmt}{f:Addr}{oc:Value}{od an:Option Addr}{sl:Array (Option Value)}{kV dc pm cd ct:Value}(a:PySem.W.nsIn K mainGlobals x=some (some (.ref f)):=by k_is)
  (l:K.lookup f=some ⟨oc,od,.func (PySem.W.fnOf x x (fH st) (dO st) (az st) .none kV dc pm an cd ct),sl⟩:=by k_is)(c:PySem.W.codeIn K cd x=true:=by k_is)(k:PySem.W.keepIn K (.ref f)=true:=by k_is):FnAt K x st f:=
 ⟨oc,od,an,sl,kV,dc,pm,cd,ct,a,l,c,k⟩
section
variable{q:Program}{loose:List Str}{mean:ExcName->Option Value}{mg mb:Str->Option Value}{h:Heap}{K:PySem.W.Frag}{x:Str}{st:Stmt}{f:Addr}{ps:List Str}
theorem FnAt.fun(Tp:Top q loose mean mg mb h)(X:K.In h)(A:FnAt K x st f)
  (hb:∀(kV doc pm:Value)(an:Option Addr)(cdv ct:Value)(us:List Value),us.length=ps.length->bindArgs (PySem.W.fnOf x x (fH st) (dO st) (az st) .none kV doc pm an cdv ct) ⟨us,[]⟩=pure (ps.zip us):=by exact λ_ _ _ _ _ _ us hl=>by first|(match us,hl with| [_],_=>rfl)|(match us,hl with| [_,_],_=>rfl)|(match us,hl with| [_,_,_],_=>rfl)|(match us,hl with| [_,_,_,_],_=>rfl)|(match us,hl with| [_,_,_,_,_],_=>rfl)|(match us,hl with| [_,_,_,_,_,_],_=>rfl)):eG K mg x st ps:=by
 obtain⟨oc,od,an,sl,kV,dc,pm,cd,ct,a,l,c,k⟩:=A
 have F:=Ci (st:=st) l c k
 exact⟨f,_,F,F.binds hb,PySem.W.mg_of X Tp.g a⟩
theorem FnAt.AW(Tp:Top q loose mean mg mb h)(X:K.In h)(A:FnAt K x st f){d:DefRec}(r:(recsOf q).find? (λe=>e.name==x)=some d)
  (hb:∀(kV doc pm:Value)(an:Option Addr)(cdv ct:Value)(us:List Value),us.length=ps.length->bindArgs (PySem.W.fnOf x x (fH st) (dO st) (az st) .none kV doc pm an cdv ct) ⟨us,[]⟩=pure (ps.zip us):=by exact λ_ _ _ _ _ _ us hl=>by first|(match us,hl with| [_],_=>rfl)|(match us,hl with| [_,_],_=>rfl)|(match us,hl with| [_,_,_],_=>rfl)|(match us,hl with| [_,_,_,_],_=>rfl)|(match us,hl with| [_,_,_,_,_],_=>rfl)|(match us,hl with| [_,_,_,_,_,_],_=>rfl)):
  ∃T,nG K mg x st ps T/\isCodeTable h T/\h.get? T=some {cls:= .none,data:= .fields #[]}/\tabOf K f=some (.ref T):=by
 obtain⟨oc,od,an,sl,kV,dc,pm,cd,ct,a,l,c,k⟩:=A
 have m:=PySem.W.mg_of X Tp.g a
 obtain⟨T,cA,cT,cE⟩:=xK Tp r X m l (show PySem.W.codeIn K (PySem.W.fnOf x x (fH st) (dO st) (az st) .none kV dc pm an cd ct).code x=true from c)
 have F:Ay K x x st f _ T:=⟨⟨oc,od,kV,dc,pm,an,cd,ct,sl,rfl,l,c,cA⟩,k⟩
 exact⟨T,⟨f,_,F,F.fn.binds hb,m⟩,cT,cE,vR l cA⟩
end
end L2
set_option maxHeartbeats 1000000
namespace CM
open PySem L2
def top(i:Nat):Stmt:=PySem.Challenge.pw_conekin_k17_counts_to.main.body.getD i (.Pass ⟨0,0,0,0⟩)
abbrev mG:Stmt:=top 6
abbrev gr:List Str:=["thing"]
theorem wj:aM ["thing"] gr (az mG):=⟨rfl,rfl,rfl,by decide+kernel,rfl,by decide+kernel,by decide+kernel⟩
abbrev qy:Stmt:=top 7
abbrev lH:List Str:=["thing"]
theorem AX:aM ["thing"] lH (az qy):=⟨rfl,rfl,rfl,by decide+kernel,rfl,by decide+kernel,by decide+kernel⟩
abbrev mH:Stmt:=top 8
abbrev iK:List Str:=["thing"]
theorem wk:aM ["thing"] iK (az mH):=⟨rfl,rfl,rfl,by decide+kernel,rfl,by decide+kernel,by decide+kernel⟩
abbrev nV:Stmt:=top 9
abbrev jH:List Str:=["one","other"]
theorem yd:aM ["one","other"] jH (az nV):=⟨rfl,rfl,rfl,by decide+kernel,rfl,by decide+kernel,by decide+kernel⟩
abbrev jj:Stmt:=top 10
abbrev d8:List Str:=["table"]
theorem qz:aM ["table"] d8 (az jj):=⟨rfl,rfl,rfl,by decide+kernel,rfl,by decide+kernel,by decide+kernel⟩
abbrev iL:Stmt:=top 11
abbrev eN:List Str:=["table","i","j"]
theorem gT:aM ["table","i","j","row","next_row","column","next_column"] eN (az iL):=⟨rfl,rfl,rfl,by decide+kernel,rfl,by decide+kernel,by decide+kernel⟩
abbrev jk:Stmt:=top 12
abbrev dM:List Str:=["table"]
theorem b7:aM ["table","a","b","c","d","e","f","g","h","i"] dM (az jk):=⟨rfl,rfl,rfl,by decide+kernel,rfl,by decide+kernel,by decide+kernel⟩
abbrev uB:Stmt:=top 13
abbrev nH:List Str:=["table"]
theorem Ds:aM ["table"] nH (az uB):=⟨rfl,rfl,rfl,by decide+kernel,rfl,by decide+kernel,by decide+kernel⟩
abbrev nW:Stmt:=top 14
abbrev jI:List Str:=["table","by"]
theorem ye:aM ["table","by"] jI (az nW):=⟨rfl,rfl,rfl,by decide+kernel,rfl,by decide+kernel,by decide+kernel⟩
abbrev gU:Stmt:=top 17
abbrev dY:List Str:=["thing"]
theorem nX:aM ["thing"] dY (az gU):=⟨rfl,rfl,rfl,by decide+kernel,rfl,by decide+kernel,by decide+kernel⟩
abbrev nY:Stmt:=top 18
abbrev jJ:List Str:=["thing"]
theorem yf:aM ["thing"] jJ (az nY):=⟨rfl,rfl,rfl,by decide+kernel,rfl,by decide+kernel,by decide+kernel⟩
abbrev nZ:Stmt:=top 19
abbrev gu:List Str:=["table","one","other"]
theorem j4:aM ["table","one","other","x","y","z"] gu (az nZ):=⟨rfl,rfl,rfl,by decide+kernel,rfl,by decide+kernel,by decide+kernel⟩
abbrev uC:Stmt:=top 20
abbrev j5:List Str:=["table","row"]
theorem Dt:aM ["table","row"] j5 (az uC):=⟨rfl,rfl,rfl,by decide+kernel,rfl,by decide+kernel,by decide+kernel⟩
abbrev n5:Stmt:=top 21
abbrev jK:List Str:=["table"]
theorem mJ:aM ["table","first","mixed"] jK (az n5):=⟨rfl,rfl,rfl,by decide+kernel,rfl,by decide+kernel,by decide+kernel⟩
abbrev yg:Stmt:=top 22
abbrev qA:List Str:=["form"]
theorem zP:aM ["form","told"] qA (az yg):=⟨rfl,rfl,rfl,by decide+kernel,rfl,by decide+kernel,by decide+kernel⟩
abbrev mK:Stmt:=top 24
abbrev gv:List Str:=["form","rows"]
theorem wm:aM ["form","rows"] gv (az mK):=⟨rfl,rfl,rfl,by decide+kernel,rfl,by decide+kernel,by decide+kernel⟩
abbrev j6:Stmt:=top 25
abbrev e7:List Str:=["row","times","other"]
theorem rK:aM ["row","times","other"] e7 (az j6):=⟨rfl,rfl,rfl,by decide+kernel,rfl,by decide+kernel,by decide+kernel⟩
abbrev n8:Stmt:=top 26
abbrev jL:List Str:=["top","bottom"]
theorem yh:aM ["top","bottom"] jL (az n8):=⟨rfl,rfl,rfl,by decide+kernel,rfl,by decide+kernel,by decide+kernel⟩
abbrev j7:Stmt:=top 27
abbrev f7:List Str:=["form","one","other"]
theorem jl:aM ["form","one","other"] f7 (az j7):=⟨rfl,rfl,rfl,by decide+kernel,rfl,by decide+kernel,by decide+kernel⟩
abbrev mL:Stmt:=top 28
abbrev iM:List Str:=["form","one","other","third"]
theorem eO:aM ["form","one","other","third","across","along","aside","by_one","by_other","area","first","second","corners"] iM (az mL):=⟨rfl,rfl,rfl,by decide+kernel,rfl,by decide+kernel,by decide+kernel⟩
abbrev j8:Stmt:=top 29
abbrev f9:List Str:=["form"]
theorem cG:aM ["form","one","other","third"] f9 (az j8):=⟨rfl,rfl,rfl,by decide+kernel,rfl,by decide+kernel,by decide+kernel⟩
abbrev yi:Stmt:=top 30
abbrev qB:List Str:=["form"]
theorem zQ:aM ["form","basis"] qB (az yi):=⟨rfl,rfl,rfl,by decide+kernel,rfl,by decide+kernel,by decide+kernel⟩
abbrev yj:Stmt:=top 33
abbrev n9:List Str:=["number"]
theorem uE:aM ["number","told"] n9 (az yj):=⟨rfl,rfl,rfl,by decide+kernel,rfl,by decide+kernel,by decide+kernel⟩
abbrev qC:Stmt:=top 34
abbrev lI:List Str:=["table","n"]
theorem cB:aM ["table","n","first","mixed","far","second","third","flat","bent","high","whole","most","told","reach","z","span","y","left"] lI (az qC):=⟨rfl,rfl,rfl,by decide+kernel,rfl,by decide+kernel,by decide+kernel⟩
abbrev jm:Stmt:=top 35
abbrev fC:List Str:=["table","n"]
theorem b8:aM ["table","n","first","told","y","z","shift","left","side","x","number"] fC (az jm):=⟨rfl,rfl,rfl,by decide+kernel,rfl,by decide+kernel,by decide+kernel⟩
abbrev gW:Stmt:=top 36
abbrev dZ:List Str:=["n","greatest"]
theorem oh:aM ["n","greatest"] dZ (az gW):=⟨rfl,rfl,rfl,by decide+kernel,rfl,by decide+kernel,by decide+kernel⟩
abbrev lJ:Stmt:=top 37
abbrev gH:List Str:=["form","n"]
theorem uF:aM ["form","n"] gH (az lJ):=⟨rfl,rfl,rfl,by decide+kernel,rfl,by decide+kernel,by decide+kernel⟩
abbrev iN:Stmt:=top 39
abbrev eT:List Str:=["_law_script","_law_k"]
theorem pN:aM ["_law_script","_law_k"] eT (az iN):=⟨rfl,rfl,rfl,by decide+kernel,rfl,by decide+kernel,by decide+kernel⟩
abbrev jn:Stmt:=top 40
abbrev fE:List Str:=["_law_script","_law_k"]
theorem dw:aM ["_law_script","_law_k","_law_x","_law_total","_law_j"] fE (az jn):=⟨rfl,rfl,rfl,by decide+kernel,rfl,by decide+kernel,by decide+kernel⟩
abbrev j9:Stmt:=top 41
abbrev gb:List Str:=["_law_row","_law_column"]
theorem rL:aM ["_law_row","_law_column"] gb (az j9):=⟨rfl,rfl,rfl,by decide+kernel,rfl,by decide+kernel,by decide+kernel⟩
abbrev iO:Stmt:=top 42
abbrev eU:List Str:=["_law_one","_law_other"]
theorem kN:aM ["_law_one","_law_other","_law_over_here"] eU (az iO):=⟨rfl,rfl,rfl,by decide+kernel,rfl,by decide+kernel,by decide+kernel⟩
abbrev lK:Stmt:=top 43
abbrev fV:List Str:=["_law_table"]
theorem uG:aM ["_law_table"] fV (az lK):=⟨rfl,rfl,rfl,by decide+kernel,rfl,by decide+kernel,by decide+kernel⟩
abbrev mO:Stmt:=top 44
abbrev fM:List Str:=["_law_t"]
theorem iX:aM ["_law_t","_law_first","_law_second","_law_third"] fM (az mO):=⟨rfl,rfl,rfl,by decide+kernel,rfl,by decide+kernel,by decide+kernel⟩
abbrev kc:Stmt:=top 45
abbrev gc:List Str:=["_law_a","_law_b","_law_c","_law_big"]
theorem d9:aM ["_law_a","_law_b","_law_c","_law_big","_law_p","_law_q","_law_r","_law_found"] gc (az kc):=⟨rfl,rfl,rfl,by decide+kernel,rfl,by decide+kernel,by decide+kernel⟩
abbrev lM:Stmt:=top 46
abbrev gI:List Str:=["_law_big","_law_most"]
theorem cj:aM ["_law_big","_law_most","_law_a","_law_b","_law_c","_law_found"] gI (az lM):=⟨rfl,rfl,rfl,by decide+kernel,rfl,by decide+kernel,by decide+kernel⟩
abbrev kg:Stmt:=top 47
abbrev gf:List Str:=["_law_big","_law_most","_law_far"]
theorem cH:aM ["_law_big","_law_most","_law_far","_law_rows","_law_many","_law_k","_law_i","_law_j","_law_often"] gf (az kg):=⟨rfl,rfl,rfl,by decide+kernel,rfl,by decide+kernel,by decide+kernel⟩
abbrev lO:Stmt:=top 48
abbrev gJ:List Str:=["_law_number_here"]
theorem dR:aM ["_law_number_here","_law_high","_law_low","_law_middle"] gJ (az lO):=⟨rfl,rfl,rfl,by decide+kernel,rfl,by decide+kernel,by decide+kernel⟩
abbrev kh:Stmt:=top 49
abbrev gh:List Str:=["_law_t","_law_n","_law_k"]
theorem jo:aM ["_law_t","_law_n","_law_k","_law_i","_law_j","_law_plain"] gh (az kh):=⟨rfl,rfl,rfl,by decide+kernel,rfl,by decide+kernel,by decide+kernel⟩
abbrev jq:Stmt:=top 50
abbrev fF:List Str:=["_law_t","_law_n"]
theorem b9:aM ["_law_t","_law_n","_law_found","_law_wide","_law_far","_law_deep","_law_x","_law_y","_law_own","_law_mixed","_law_z","_law_here"] fF (az jq):=⟨rfl,rfl,rfl,by decide+kernel,rfl,by decide+kernel,by decide+kernel⟩
abbrev nI:Stmt:=top 51
abbrev Kf:List Str:=["_law_script"]
theorem iP:aM ["_law_script","_law_form_here","_law_big","_law_n","_law_due","_law_there","_law_basis_here","_law_handed","_law_turn","_law_found"] Kf (az nI):=⟨rfl,rfl,rfl,by decide+kernel,rfl,by decide+kernel,by decide+kernel⟩
section
variable{P:Program}{w:World}{K:PySem.W.Frag}{mg:Str->Option Value}{base:Heap}
inductive Du(T0:Addr)(vs:List V)(H:Hp)(Q:VK)(E:XK):Prop
 |mk(t1:Addr)(b1:List Addr)(m1:List (List Int))(t2:Addr)(b2:List Addr)(m2:List (List Int))(_:vs=[.ref t1,.ref t2])(_:Tab H t1 b1 m1)(_:Tab H t2 b2 m2)(_:cg m1)(_:cg m2)(_:Bd 4096 m1)(_:Bd 4096 m2)(_:H T0=some (dH T0))(_:∀r bs H',ay H H'->H r=none->(∀b∈bs,H b=none) ->r∉bs->Tab H' r bs (gF m1 m2) ->Q (.ref r) H')
theorem yk{bQ:Addr}(F:nG K mg "product" nV jH bQ)(bm:BM mg base)(tH:mg "sum"=none)(aS:mg "range"=none):dg P w K mg base cV 1 "product" jH (Du bQ):=by
 refine F.ok yd (λvs H Q E h=> ?_) (λf cdv A outer s H vs Q E cd hr h=> ?_)
 ·obtain⟨t1,b1,m1,t2,b2,m2,rfl,h1,h2,c1,c2,d1,d2,hP,q⟩:=h
  rfl
 obtain⟨t1,b1,m1,t2,b2,m2,rfl,h1,h2,c1,c2,d1,d2,hP,q⟩:=h
 have hu:=hr.units
 refine⟨_,(dz (aW (gQ (N2:=["one","other"]) (te:=(k9 1 (qf (cW (tC (.int 3)) jc)) (cS 0) (vQ 1 bQ (qf (cW (tC (.int 3)) jc)) (cS 0) (iz (rI jE λi j=> .int (i*j)) (iz (gD K) (iz (gD K) (bT 3) (bT 2)) (bT 0)) (iz (gD K) (iz (gD K) (bT 4) (bT 0)) (bT 1)))))) rfl (dh rfl aS (af ah aj)) (by kernel_rfl) rfl (λ_ _ _=>by exact iV (gQ (N2:=["i","one","other"]) (te:=(vQ 1 bQ (qf (cW (tC (.int 3)) jc)) (cS 0) (iz (rI jE λi j=> .int (i*j)) (iz (gD K) (iz (gD K) (bT 3) (bT 2)) (bT 0)) (iz (gD K) (iz (gD K) (bT 4) (bT 0)) (bT 1))))) rfl (dh rfl aS (af ah aj)) (by kernel_rfl) rfl (λ_ _ _=>by exact iV (EY (N2:=["j","i","one","other"]) (te:=(iz (rI jE λi j=> .int (i*j)) (iz (gD K) (iz (gD K) (bT 3) (bT 2)) (bT 0)) (iz (gD K) (iz (gD K) (bT 4) (bT 0)) (bT 1)))) rfl (eY.depth hr) cd bm rfl tH (dh rfl aS (af ah aj)) (by kernel_rfl) (λ_ _ _ _=>by exact iV (ai aB (aD aq (aD aq (pv 3) (pv 2) (λ_ _=>rfl)) (pv 0) (λ_ _=>rfl)) (aD aq (aD aq (pv 4) (pv 0) (λ_ _=>rfl)) (pv 1) (λ_ _=>rfl))))))))))),?_⟩
 refine⟨3,rfl,by decide,by decide,λD hD=>nv (fy (n:=3)) rfl hD _ (λi x hi ex H1 Q1 s1 k1=> ?_) (λbs H1 s1 fr nD hT=>q D bs H1 s1 hD fr nD hT)⟩
 obtain⟨_,rfl⟩:=d7 ex
 refine⟨3,rfl,by decide,by decide,λD2 zR=>lY (fy (n:=3)) rfl zR (λj=>ent m1 i 0*ent m2 0 j+ent m1 i 1*ent m2 1 j+ent m1 i 2*ent m2 2 j) (λj x hj FH H2 Q2 s2 k2=> ?_) (λH2 s2 e2=>k1 D2 H2 zR s2 e2)⟩
 obtain⟨_,rfl⟩:=d7 FH
 refine⟨3,rfl,by decide,by decide,HK (fy (n:=3)) (s2 _ _ (s1 _ _ hP)) (λk=>ent m1 i k*ent m2 k j) (λk x OV H3 Q3 s3 k3=> ?_) (λH3 s3=> ?_)⟩
 ·obtain⟨hk,rfl⟩:=d7 OV
  have sm:=s1.trans (s2.trans s3)
  obtain⟨b,row,e1,e2,e3⟩:=nj (h1.same sm) c1 hi hk
  obtain⟨b',OW,xD,ET,OX⟩:=nj (h2.same sm) c2 hk hj
  exact⟨_,rfl,_,rfl,t1,_,_,_,rfl,rfl,aU.of (h1.same sm).1,e1,_,rfl,b,_,_,_,rfl,rfl,aU.of e2,e3,_,rfl,_,rfl,t2,_,_,_,rfl,rfl,aU.of (h2.same sm).1,xD,_,rfl,b',_,_,_,rfl,rfl,aU.of ET,OX,_,_,rfl,rfl,⟨d1 i k hi hk,d2 k j hk hj⟩,k3 H3 (ay.refl _)⟩
 ·have:=k2 H3 s3
  rw[show preSum (λk=>ent m1 i k*ent m2 k j) (lz 3).length=_ from Ma _]
  exact this
inductive oi(vs:List V)(H:Hp)(Q:VK)(E:XK):Prop
 |mk(t1:Addr)(b1:List Addr)(m1:List (List Int))(_:vs=[.ref t1])(_:Tab H t1 b1 m1)(_:cg m1)(_:∀r bs H',ay H H'->H r=none->(∀b∈bs,H b=none) ->r∉bs->Tab H' r bs (cL m1) ->Q (.ref r) H')
theorem qD(F:eG K mg "turned_over" jj d8)(aS:mg "range"=none):dg P w K mg base cV 1 "turned_over" d8 oi:=by
 refine F.ok qz (λvs H Q E h=> ?_) (λf cdv A outer s H vs Q E hr h=> ?_)
 ·obtain⟨t1,b1,m1,rfl,h1,c1,q⟩:=h
  rfl
 obtain⟨t1,b1,m1,rfl,h1,c1,q⟩:=h
 have hu:=hr.units
 refine⟨_,(dz (aW (gQ (N2:=["table"]) (te:=(k9 1 (qf (cW (tC (.int 3)) jc)) (cS 0) (iz (gD K) (iz (gD K) (bT 2) (bT 0)) (bT 1)))) rfl (dh rfl aS (af ah aj)) (by kernel_rfl) rfl (λ_ _ _=>by exact iV (gQ (N2:=["i","table"]) (te:=(iz (gD K) (iz (gD K) (bT 2) (bT 0)) (bT 1))) rfl (dh rfl aS (af ah aj)) (by kernel_rfl) rfl (λ_ _ _=>by exact iV (aD aq (aD aq (pv 2) (pv 0) (λ_ _=>rfl)) (pv 1) (λ_ _=>rfl)))))))),?_⟩
 refine⟨3,rfl,by decide,by decide,λD hD=>nv (fy (n:=3)) rfl hD _ (λi x hi ex H1 Q1 s1 k1=> ?_) (λbs H1 s1 fr nD hT=>q D bs H1 s1 hD fr nD hT)⟩
 obtain⟨_,rfl⟩:=d7 ex
 refine⟨3,rfl,by decide,by decide,λD2 zR=>lY (fy (n:=3)) rfl zR (λj=>ent m1 j i) (λj x hj FH H2 Q2 s2 k2=> ?_) (λH2 s2 e2=>k1 D2 H2 zR s2 e2)⟩
 obtain⟨_,rfl⟩:=d7 FH
 have sm:=s1.trans s2
 obtain⟨b,row,e1,e2,e3⟩:=nj (h1.same sm) c1 hj hi
 exact⟨_,rfl,_,rfl,t1,_,_,_,rfl,rfl,aU.of (h1.same sm).1,e1,_,rfl,b,_,_,_,rfl,rfl,aU.of e2,e3,k2 H2 (ay.refl _)⟩
inductive p7(K:PySem.W.Frag)(vs:List V)(H:Hp)(Q:VK)(E:XK):Prop
 |mk(t:Addr)(bs:List Addr)(m:List (List Int))(i j:Nat)(_:vs=[.ref t,.int (i:Int),.int (j:Int)])(_:Tab H t bs m)(_:cg m)(_:i<3)(_:j<3)(_:Bd 4096 m)(_:Q (.int (ef m i j)) H)
theorem pO(F:eG K mg "signed_minor" iL eN):dg P w K mg base cV 1 "signed_minor" eN (p7 K):=by
 refine F.ok gT (λvs H Q E h=> ?_) (λf cdv A outer s H vs Q E hr h=> ?_)
 ·obtain⟨t,bs,m,i,j,rfl,hT,bI,hi,hj,hB,q⟩:=h
  rfl
 obtain⟨t,bs,m,i,j,rfl,hT,bI,hi,hj,hB,q⟩:=h
 have hu:=hr.units
 refine⟨_,(kM (@ak _ _ _ _ _ (qe (i:=3) (j:=4) rfl gT.nd rfl rfl (by decide) rfl rfl (af (aD aq (pv 0) (ai cJ (ai aI (pv 1) ah) ah) (λ_ _=>rfl)) (af (aD aq (pv 0) (ai cJ (ai aI (pv 1) ah) ah) (λ_ _=>rfl)) aj)) rfl)
  (@ak _ _ _ _ _ (qe (i:=5) (j:=6) rfl gT.nd rfl rfl (by decide) rfl rfl (af (ai cJ (ai aI (pv 2) ah) ah) (af (ai cJ (ai aI (pv 2) ah) ah) aj)) rfl)
  (@aL _ _ _ (aW (ai bW (ai aB (aD aq (pv 3) (pv 5) (λ_ _=>rfl)) (aD aq (pv 4) (pv 6) (λ_ _=>rfl))) (ai aB (aD aq (pv 3) (pv 6) (λ_ _=>rfl)) (aD aq (pv 4) (pv 5) (λ_ _=>rfl))))))))),?_⟩
 obtain⟨b,e1,e2,_⟩:=aV hT bI (i:=(i+1)%3) (rA _)
 obtain⟨b',xD,ET,_⟩:=aV hT bI (i:=(i+2)%3) (rA _)
 rw[<-m3 i 1]at e1
 rw[<-m3 i 2]at xD
 refine⟨_,rfl,_,rfl,_,_,rfl,rfl,_,_,rfl,rfl,(by show(0:Int)<3;decide),t,_,_,_,rfl,rfl,aU.of hT.1,e1,?_⟩
 refine⟨_,rfl,_,rfl,_,_,rfl,rfl,_,_,rfl,rfl,(by show(0:Int)<3;decide),t,_,_,_,rfl,rfl,aU.of hT.1,xD,_,_,rfl,?_⟩
 refine⟨_,rfl,_,_,rfl,rfl,_,_,rfl,rfl,(by show(0:Int)<3;decide),_,rfl,_,_,rfl,rfl,_,_,rfl,rfl,(by show(0:Int)<3;decide),_,_,rfl,?_⟩
 have a1:=xO (λc=>ent m ((i+1)%3) c) (c:=(j+1)%3) (rA _)
 have a2:=xO (λc=>ent m ((i+2)%3) c) (c:=(j+2)%3) (rA _)
 have a3:=xO (λc=>ent m ((i+1)%3) c) (c:=(j+2)%3) (rA _)
 have a4:=xO (λc=>ent m ((i+2)%3) c) (c:=(j+1)%3) (rA _)
 rw[<-m3 j 1]at a1 a4
 rw[<-m3 j 2]at a2 a3
 refine⟨_,rfl,_,rfl,b,_,_,_,rfl,rfl,aU.of e2,a1,_,rfl,_,rfl,b',_,_,_,rfl,rfl,aU.of ET,a2,_,_,rfl,rfl,⟨hB _ _ (rA _) (rA _),hB _ _ (rA _) (rA _)⟩,?_⟩
 exact⟨_,rfl,_,rfl,b,_,_,_,rfl,rfl,aU.of e2,a3,_,rfl,_,rfl,b',_,_,_,rfl,rfl,aU.of ET,a4,_,_,rfl,rfl,⟨hB _ _ (rA _) (rA _),hB _ _ (rA _) (rA _)⟩,_,_,rfl,rfl,q⟩
theorem qE{H:Hp}{t:Addr}{bs:List Addr}{m:List (List Int)}(hT:Tab H t bs m)(bI:cg m):∃c0 c1 c2,bs=[c0,c1,c2]/\bh H c0 (λc=>ent m 0 c)/\bh H c1 (λc=>ent m 1 c)/\bh H c2 (λc=>ent m 2 c):=by
 have l3:bs.length=3:=by rw[<-hT.2.length,bI.1]
 match bs,l3,hT with
 | [c0,c1,c2],_,hT=>
  obtain⟨b0,x1,x2,_⟩:=aV hT bI (i:=0) (by decide)
  obtain⟨b1,y1,y2,_⟩:=aV hT bI (i:=1) (by decide)
  obtain⟨b2,w1,w2,_⟩:=aV hT bI (i:=2) (by decide)
  cases x1;cases y1;cases w1
  exact⟨c0,c1,c2,rfl,x2,y2,w2⟩
inductive zS(vs:List V)(H:Hp)(Q:VK)(E:XK):Prop
 |mk(t:Addr)(bs:List Addr)(m:List (List Int))(_:vs=[.ref t])(_:Tab H t bs m)(_:cg m)(_:Bd 1000 m)(_:True)(_:∀H',ay H H'->Q (.int (aA m)) H')
theorem qF(F:eG K mg "determinant" jk dM):dg P w K mg base cV 3 "determinant" dM zS:=by
 refine F.ok b7 (λvs H Q E h=> ?_) (λf cdv A outer s H vs Q E hr h=> ?_)
 ·obtain⟨t,bs,m,rfl,hT,bI,hB,hP,q⟩:=h
  rfl
 obtain⟨t,bs,m,rfl,hT,bI,hB,hP,q⟩:=h
 have hu:=hr.units
 refine⟨_,(kM (@ak _ _ _ _ _ (jV (pv 0) (iB rfl (aO (iB rfl (aO (aP (i:=1) b7.nd rfl (Or.inl rfl)) (aO (aP (i:=2) b7.nd rfl (Or.inl rfl)) (aO (aP (i:=3) b7.nd rfl (Or.inl rfl)) eW)))) (aO (iB rfl (aO (aP (i:=4) b7.nd rfl (Or.inl rfl)) (aO (aP (i:=5) b7.nd rfl (Or.inl rfl)) (aO (aP (i:=6) b7.nd rfl (Or.inl rfl)) eW)))) (aO (iB rfl (aO (aP (i:=7) b7.nd rfl (Or.inl rfl)) (aO (aP (i:=8) b7.nd rfl (Or.inl rfl)) (aO (aP (i:=9) b7.nd rfl (Or.inl rfl)) eW)))) eW)))))
  (@aL _ _ _ (aW (ai aI (ai aI (ai aB (pv 1) (ai bW (ai aB (pv 5) (pv 9)) (ai aB (pv 6) (pv 8)))) (ai aB (pv 2) (ai bW (ai aB (pv 6) (pv 7)) (ai aB (pv 4) (pv 9))))) (ai aB (pv 3) (ai bW (ai aB (pv 4) (pv 8)) (ai aB (pv 5) (pv 7))))))))),?_⟩
 obtain⟨c0,c1,c2,rfl,x2,y2,w2⟩:=qE hT bI
 refine⟨_,rfl,t,_,rfl,aU.of hT.1,rfl,_,_,rfl,c0,_,rfl,aU.of x2,rfl,_,_,rfl,_,_,rfl,_,_,rfl,rfl,_,_,rfl,c1,_,rfl,aU.of y2,rfl,_,_,rfl,_,_,rfl,_,_,rfl,rfl,_,_,rfl,c2,_,rfl,aU.of w2,rfl,_,_,rfl,_,_,rfl,_,_,rfl,rfl,rfl,?_⟩
 refine⟨_,rfl,_,rfl,_,rfl,_,_,rfl,rfl,⟨aF (hB 1 1 (by decide) (by decide)) (by decide),aF (hB 2 2 (by decide) (by decide)) (by decide)⟩,_,rfl,_,rfl,_,_,rfl,rfl,⟨aF (hB 1 2 (by decide) (by decide)) (by decide),aF (hB 2 1 (by decide) (by decide)) (by decide)⟩,_,_,rfl,rfl,_,_,rfl,rfl,⟨aF (hB 0 0 (by decide) (by decide)) (by decide),aF (ji (bZ (hB 1 1 (by decide) (by decide)) (hB 2 2 (by decide) (by decide))) (bZ (hB 1 2 (by decide) (by decide)) (hB 2 1 (by decide) (by decide)))) (by decide)⟩,_,rfl,_,rfl,_,rfl,_,_,rfl,rfl,⟨aF (hB 1 2 (by decide) (by decide)) (by decide),aF (hB 2 0 (by decide) (by decide)) (by decide)⟩,_,rfl,_,rfl,_,_,rfl,rfl,⟨aF (hB 1 0 (by decide) (by decide)) (by decide),aF (hB 2 2 (by decide) (by decide)) (by decide)⟩,_,_,rfl,rfl,_,_,rfl,rfl,⟨aF (hB 0 1 (by decide) (by decide)) (by decide),aF (ji (bZ (hB 1 2 (by decide) (by decide)) (hB 2 0 (by decide) (by decide))) (bZ (hB 1 0 (by decide) (by decide)) (hB 2 2 (by decide) (by decide)))) (by decide)⟩,_,_,rfl,rfl,_,rfl,_,rfl,_,rfl,_,_,rfl,rfl,⟨aF (hB 1 0 (by decide) (by decide)) (by decide),aF (hB 2 1 (by decide) (by decide)) (by decide)⟩,_,rfl,_,rfl,_,_,rfl,rfl,⟨aF (hB 1 1 (by decide) (by decide)) (by decide),aF (hB 2 0 (by decide) (by decide)) (by decide)⟩,_,_,rfl,rfl,_,_,rfl,rfl,⟨aF (hB 0 2 (by decide) (by decide)) (by decide),aF (ji (bZ (hB 1 0 (by decide) (by decide)) (hB 2 1 (by decide) (by decide))) (bZ (hB 1 1 (by decide) (by decide)) (hB 2 0 (by decide) (by decide)))) (by decide)⟩,_,_,rfl,rfl,?_⟩
 have e:ent m 0 0*(ent m 1 1*ent m 2 2-ent m 1 2*ent m 2 1)+ent m 0 1*(ent m 1 2*ent m 2 0-ent m 1 0*ent m 2 2)+ent m 0 2*(ent m 1 0*ent m 2 1-ent m 1 1*ent m 2 0)=aA m:=by
  rw[cO]
 have q:=q H (ay.refl _)
 rw[<-e]at q
 exact q
inductive zT(vs:List V)(H:Hp)(Q:VK)(E:XK):Prop
 |mk(t1:Addr)(b1:List Addr)(m1:List (List Int))(_:vs=[.ref t1])(_:Tab H t1 b1 m1)(_:cg m1)(_:Bd 4096 m1)(_:∀r bs H',ay H H'->H r=none->(∀b∈bs,H b=none) ->r∉bs->Tab H' r bs (gR m1) ->Q (.ref r) H')
theorem Dv(F:eG K mg "cover" uB nH)(aS:mg "range"=none)(iQ:dg P w K mg base cV 1 "signed_minor" eN (p7 K)):dg P w K mg base cV 2 "cover" nH zT:=by
 refine F.ok Ds (λvs H Q E h=> ?_) (λf cdv A outer s H vs Q E hr h=> ?_)
 ·obtain⟨t1,b1,m1,rfl,h1,c1,d1,q⟩:=h
  rfl
 obtain⟨t1,b1,m1,rfl,h1,c1,d1,q⟩:=h
 have hu:=hr.units
 refine⟨_,(dz (aW (gQ (N2:=["table"]) (te:=(k9 1 (qf (cW (tC (.int 3)) jc)) (cS 0) (kX (p7 K) [] E0 (cW (bT 2) (cW (bT 0) (cW (bT 1) jc)))))) rfl (dh rfl aS (af ah aj)) (by kernel_rfl) rfl (λ_ _ _=>by exact iV (gQ (N2:=["i","table"]) (te:=(kX (p7 K) [] E0 (cW (bT 2) (cW (bT 0) (cW (bT 1) jc))))) rfl (dh rfl aS (af ah aj)) (by kernel_rfl) rfl (λ_ _ _=>by exact iV (aR iQ hr rfl aQ (af (pv 2) (af (pv 0) (af (pv 1) aj)))))))))),?_⟩
 refine⟨3,rfl,by decide,by decide,λD hD=>nv (fy (n:=3)) rfl hD (λi j=>ef m1 j i) (λi x hi ex H1 Q1 s1 k1=> ?_) (λbs H1 s1 fr nD hT=>q D bs H1 s1 hD fr nD hT)⟩
 obtain⟨_,rfl⟩:=d7 ex
 refine⟨3,rfl,by decide,by decide,λD2 zR=>lY (fy (n:=3)) rfl zR (λj=>ef m1 j i) (λj x hj FH H2 Q2 s2 k2=> ?_) (λH2 s2 e2=>k1 D2 H2 zR s2 e2)⟩
 obtain⟨_,rfl⟩:=d7 FH
 exact⟨_,rfl,_,rfl,_,rfl,t1,b1,m1,j,i,rfl,h1.same (s1.trans s2),c1,hj,hi,d1,k2 H2 (ay.refl _)⟩
inductive tK(T0:Addr)(vs:List V)(H:Hp)(Q:VK)(E:XK):Prop
 |mk(t1:Addr)(b1:List Addr)(m1:List (List Int))(t2:Addr)(b2:List Addr)(m2:List (List Int))(_:vs=[.ref t1,.ref t2])(_:Tab H t1 b1 m1)(_:Tab H t2 b2 m2)(_:cg m1)(_:cg m2)(_:Bd 1000 m1)(_:Bd 1000 m2)(_:H T0=some (dH T0))(_:∀r bs H',ay H H'->H r=none->(∀b∈bs,H b=none) ->r∉bs->Tab H' r bs (gF (gF m2 m1) (cL m2)) ->Q (.ref r) H')
theorem ym{bQ:Addr}(F:eG K mg "carried" nW jI)(l5:dg P w K mg base cV 1 "product" jH (Du bQ))(ee:dg P w K mg base cV 1 "turned_over" d8 oi):dg P w K mg base cV 2 "carried" jI (tK bQ):=by
 refine F.ok ye (λvs H Q E h=> ?_) (λf cdv A outer s H vs Q E hr h=> ?_)
 ·obtain⟨t1,b1,m1,t2,b2,m2,rfl,h1,h2,c1,c2,d1,d2,hP,q⟩:=h
  rfl
 obtain⟨t1,b1,m1,t2,b2,m2,rfl,h1,h2,c1,c2,d1,d2,hP,q⟩:=h
 have hu:=hr.units
 refine⟨_,(dz (aW (aR l5 hr rfl aQ (af (aR l5 hr rfl aQ (af (pv 1) (af (pv 0) aj))) (af (aR ee hr rfl aQ (af (pv 1) aj)) aj))))),?_⟩
 refine⟨_,rfl,_,rfl,t2,b2,m2,t1,b1,m1,rfl,h2,h1,c2,c1,d2.mono (by decide),d1.mono (by decide),hP,λr rs H1 s1 fr frs nr hr=> ?_⟩
 refine⟨_,rfl,t2,b2,m2,rfl,h2.same s1,c2,λo os H2 s2 fo OY no ho=> ?_⟩
 refine⟨r,rs,_,o,os,_,rfl,hr.same s2,ho,cy _,cy _,(p6 d2 d1).mono (by decide),(qp d2).mono (by decide),s2 _ _ (s1 _ _ hP),λu us H3 s3 fu Mi nu Nq=> ?_⟩
 have sm:=s1.trans s2
 exact q u us H3 (sm.trans s3) (sm.none fu) (λb hb=>sm.none (Mi b hb)) nu Nq
inductive GD(vs:List V)(H:Hp)(Q:VK)(E:XK):Prop
 |mk(t:Addr)(bs:List Addr)(m:List (List Int))(_:vs=[.ref t])(_:Tab H t bs m)(_:cg m)(_:Bd 440 m)(_:cL m=m)(_:True)(_:bC m=true-> ∀H',ay H H'->Q .ig H')(_:bC m=false-> ∀(x:Nat->Int) a H',ay H H'->H a=none->bh H' a x-> ¬(x 0=0/\x 1=0/\x 2=0) ->au m x x<=0->(∀i,i<3->(x i).natAbs<2^1000) ->Q (.ref a) H')
theorem yo(F:eG K mg "low_row" n5 jK)(cQ:dg P w K mg base cV 3 "determinant" dM zS)(uH:dg P w K mg base cV 3 "cover" nH zT):dg P w K mg base cV 4 "low_row" jK GD:=by
 refine F.ok mJ (λvs H Q E h=> ?_) (λf cdv A outer s H vs Q E hr h=> ?_)
 ·obtain⟨t,bs,m,rfl,hT,bI,hB,hS,hP,q1,q2⟩:=h
  rfl
 obtain⟨t,bs,m,rfl,hT,bI,hB,hS,hP,q1,q2⟩:=h
 have hu:=hr.units
 refine⟨_,(kM (@ak _ _ _ _ _ (aC (i:=1) mJ.nd rfl (Or.inl rfl) (aD aq (aD aq (pv 0) ah (λ_ _=>rfl)) ah (λ_ _=>rfl)))
  (@ak _ _ _ _ _ (dJ (cF qg (pv 1) ah (cK _)) (HR (qv (dQ gS (dQ gS (dQ gS qu (by kernel_rfl)) (by kernel_rfl)) (by kernel_rfl)))) eB)
  (@ak _ _ _ _ _ (aC (i:=2) mJ.nd rfl (Or.inl rfl) (aD aq (aD aq (pv 0) ah (λ_ _=>rfl)) ah (λ_ _=>rfl)))
  (@ak _ _ _ _ _ (dJ (cF qg (ai bW (ai aB (pv 1) (aD aq (aD aq (pv 0) ah (λ_ _=>rfl)) ah (λ_ _=>rfl))) (ai aB (pv 2) (pv 2))) ah (cK _)) (@aL _ _ _ (aW (dF (af (zd t7 (pv 2)) (af (pv 1) (af ah aj)))))) eB)
  (@ak _ _ _ _ _ (dJ (cF qg (aR cQ hr rfl aQ (af (pv 0) aj)) ah (cK _)) (@aL _ _ _ (aW (aD aq (aR uH hr rfl aQ (af (pv 0) aj)) ah (λ_ _=>rfl)))) eB)
  (@aL _ _ _ (aW BR)))))))),?_⟩
 obtain⟨c0,x1,x2,_⟩:=aV hT bI (i:=0) (by decide)
 obtain⟨c1,y1,y2,_⟩:=aV hT bI (i:=1) (by decide)
 obtain⟨c2,w1,w2,_⟩:=aV hT bI (i:=2) (by decide)
 have b0:=hB 0 0 (by decide) (by decide)
 have b1:=hB 0 1 (by decide) (by decide)
 refine⟨_,rfl,t,_,_,_,rfl,rfl,aU.of hT.1,x1,c0,_,_,_,rfl,rfl,aU.of x2,rfl,?_⟩
 refine⟨_,rfl,_,_,rfl,rfl,_,rfl,jC (λc=> ?_) (λc=> ?_)⟩
 ·have c:ent m 0 0<=0:=of_decide_eq_true c
  have ab:bC m=false:=by
   unfold bC
   rw[decide_eq_false (by omega),Bool.false_and]
  refine⟨(by show 3<=sizeLine;decide),λr hr=> ?_⟩
  refine q2 ab (λi=>if i=0 then 1 else 0) r _ (ay.up hr) hr av (λz=>by simp at z) (by rw[JU];exact c) (λi _=> ?_)
  show(if i=0 then(1:Int)else 0).natAbs<_
  exact aF (a:=1) (by split<;>decide) (by decide)
 have c:0<ent m 0 0:=by
  have:¬ent m 0 0<=0:=λz=>c (decide_eq_true z)
  omega
 refine⟨_,rfl,t,_,_,_,rfl,rfl,aU.of hT.1,x1,c0,_,_,_,rfl,rfl,aU.of x2,rfl,?_⟩
 refine⟨_,rfl,_,rfl,t,_,_,_,rfl,rfl,aU.of hT.1,y1,c1,_,_,_,rfl,rfl,aU.of y2,rfl,_,_,rfl,rfl,⟨aF (hB 0 0 (by decide) (by decide)) (by decide),aF (hB 1 1 (by decide) (by decide)) (by decide)⟩,_,rfl,_,rfl,_,_,rfl,rfl,⟨aF (hB 0 1 (by decide) (by decide)) (by decide),aF (hB 0 1 (by decide) (by decide)) (by decide)⟩,_,_,rfl,rfl,_,_,rfl,rfl,_,rfl,jC (λd=> ?_) (λd=> ?_)⟩
 ·have d:ent m 0 0*ent m 1 1-ent m 0 1*ent m 0 1<=0:=of_decide_eq_true d
  have ab:bC m=false:=by
   unfold bC
   rw[decide_eq_false (p:=ent m 0 1*ent m 0 1<ent m 0 0*ent m 1 1) (by omega),Bool.false_and,Bool.and_false]
  refine⟨_,rfl,_,rfl,_,rfl,(by show 3<=sizeLine;decide),λr hr=> ?_⟩
  refine q2 ab (λi=>match i with|0=> -ent m 0 1|1=>ent m 0 0|_=>0) r _ (ay.up hr) hr av (λz=>by have y:ent m 0 0=0:=z.2.1;omega) ?_ (λi hi=> ?_)
  ·rw[JV hS _ rfl rfl rfl]
   exact Int.mul_nonpos_of_nonneg_of_nonpos (by omega) d
  ·rcases bK hi with rfl|rfl|rfl
   ·show(-ent m 0 1).natAbs<_
    exact aF (a:=440) (by omega) (by decide)
   ·exact aF b0 (by decide)
   ·show(0:Int).natAbs<_
    exact Nat.two_pow_pos _
 have d:0<ent m 0 0*ent m 1 1-ent m 0 1*ent m 0 1:=by
  have:¬ent m 0 0*ent m 1 1-ent m 0 1*ent m 0 1<=0:=λz=>d (decide_eq_true z)
  omega
 refine⟨_,rfl,t,bs,m,rfl,hT,bI,hB.mono (by decide),hP,λH1 s1=>⟨_,_,rfl,rfl,_,rfl,jC (λe=> ?_) (λe=> ?_)⟩⟩
 ·have e:aA m<=0:=of_decide_eq_true e
  have ab:bC m=false:=by
   unfold bC
   rw[decide_eq_false (p:=0<aA m) (by omega),Bool.and_false,Bool.and_false]
  refine⟨_,rfl,t,bs,m,rfl,hT.same s1,bI,hB.mono (by decide),λr rs H2 s2 fr frs nr T2=> ?_⟩
  obtain⟨k,k1,k2,k3⟩:=aV T2 (cy _) (i:=2) (by decide)
  refine⟨r,_,_,_,rfl,rfl,aU.of T2.1,k1,?_⟩
  have Nd:0<ent (gR m) 2 2:=by
   rw[GB,gC hS (i:=0) (j:=1) (by decide) (by decide)]
   exact d
  refine q2 ab (λj=>ent (gR m) 2 j) k H2 (s1.trans s2) (s1.none (frs k k3)) k2 (λz=>by have y:ent (gR m) 2 2=0:=z.2.2;omega) ?_ (λj hj=> ?_)
  ·rw[JX]
   exact Int.mul_nonpos_of_nonpos_of_nonneg e (by omega)
  ·show(ent (gR m) 2 j).natAbs<_
   rw[lB m (by decide) hj]
   exact aF (zG hB j 2) (by decide)
 ·have e:0<aA m:=by
   have:¬aA m<=0:=λz=>e (decide_eq_true z)
   omega
  refine q1 ?_ H1 s1
  unfold bC
  rw[decide_eq_true c,decide_eq_true e,decide_eq_true (p:=ent m 0 1*ent m 0 1<ent m 0 0*ent m 1 1) (by omega)]
  rfl
inductive l6(vs:List V)(H:Hp)(Q:VK)(E:XK):Prop
 |mk(z:Int)(_:vs=[.int z])(_:Q (.bl true) H)
theorem wo(F:eG K mg "is_whole" mG gr)(bH:mg "isinstance"=none)(qG:mg "int"=none)(oj:mg "bool"=none):dg P w K mg base cV 1 "is_whole" gr l6:=by
 refine F.ok wj (λvs H Q E h=> ?_) (λf cdv A outer s H vs Q E hr h=> ?_)
 ·obtain⟨z,rfl,q⟩:=h
  rfl
 obtain⟨z,rfl,q⟩:=h
 have hu:=hr.units
 refine⟨_,(dz (aW (tY (dX eK rfl bH PyProof.Rows.boot_isinstance (af (pv 0) (af (jT (v:= .ty "int") rfl qG PyProof.Rows.boot_int rfl) aj))) (tX (BS (dX eK rfl bH PyProof.Rows.boot_isinstance (af (pv 0) (af (jT (v:= .ty "bool") rfl oj PyProof.Rows.boot_bool rfl) aj)))))))),?_⟩
 exact⟨_,rfl,_,_,_,_,rfl,.int _,lA K "int",_,rfl,An ⟨_,rfl,_,_,_,_,rfl,.int _,nk K,_,rfl,q⟩⟩
inductive uI(T0:Addr)(vs:List V)(H:Hp)(Q:VK)(E:XK):Prop
 |mk(b:Addr)(x:Nat->Int)(_:vs=[.ref b])(_:bh H b x)(_:H T0=some (dH T0))(_:∀H',ay H H'->Q (.bl true) H')
theorem AY{bE:Addr}(F:nG K mg "is_row" qy lH bE)(bm:BM mg base)(bH:mg "isinstance"=none)(jr:mg "list"=none)(nJ:mg "len"=none)(kO:mg "all"=none)(gw:dg P w K mg base cV 1 "is_whole" gr l6):dg P w K mg base cV 3 "is_row" lH (uI bE):=by
 refine F.ok AX (λvs H Q E h=> ?_) (λf cdv A outer s H vs Q E cd hr h=> ?_)
 ·obtain⟨b,x,rfl,hx,hP,q⟩:=h
  rfl
 obtain⟨b,x,rfl,hx,hP,q⟩:=h
 have hu:=hr.units
 refine⟨_,(kM (@ak _ _ _ _ _ (dJ (PW.pt (sy (mh (jU (dX eK rfl bH PyProof.Rows.boot_isinstance (af (pv 0) (af (jT (v:= .ty "list") rfl jr PyProof.Rows.boot_list rfl) aj))))) (tW (cF Gj (dX jW rfl nJ PySem.boot_len (af (pv 0) aj)) ah (cK _))))) (@aL _ _ _ (aW qb)) eB)
  (@aL _ _ _ (aW (uh (N2:=["thing"]) (te:=(kX l6 [] E0 (cW (bT 0) jc))) rfl (eY.depth hr) cd bm rfl kO (iy (pv 0)) (by kernel_rfl) (λ_ _ _ _=>by exact iV (aR gw (vS hr) rfl aQ (af (pv 0) aj)))))))),?_⟩
 refine⟨_,rfl,_,_,_,_,rfl,.lst hx,lA K "list",_,rfl,vK ⟨_,rfl,b,_,rfl,.inl (aU.of hx),rfl,_,rfl,zq rfl ?_⟩⟩
 refine⟨_,rfl,b,rfl,⟨_,aU.of hx⟩,xM (iW (aU.of hx)) hP (λ_=>true) (λj y ey H1 Q1 s1 k1=> ?_) (λc H1 s1 hc=> ?_)⟩
 ·obtain⟨z,rfl⟩:∃z,y= .int z:=by
   have hy:=List.mem_of_getElem? ey
   simp only[List.mem_cons,List.not_mem_nil,or_false]at hy
   rcases hy with rfl|rfl|rfl<;>exact⟨_,rfl⟩
  exact⟨_,rfl,z,rfl,k1 H1 (ay.refl _)⟩
 ·have e:c=true:=hc.mpr λ_ _=>rfl
  subst e
  exact q H1 s1
inductive tL(T1 T0:Addr)(vs:List V)(H:Hp)(Q:VK)(E:XK):Prop
 |mk(t:Addr)(bs:List Addr)(m:List (List Int))(_:vs=[.ref t])(_:Tab H t bs m)(_:cg m)(_:H T1=some (dH T1))(_:H T0=some (dH T0))(_:∀H',ay H H'->Q (.bl true) H')
theorem wu{bE bg:Addr}(F:nG K mg "is_table" mH iK bg)(bm:BM mg base)(bH:mg "isinstance"=none)(jr:mg "list"=none)(nJ:mg "len"=none)(kO:mg "all"=none)(qH:dg P w K mg base cV 3 "is_row" lH (uI bE)):dg P w K mg base cV 5 "is_table" iK (tL bE bg):=by
 refine F.ok wk (λvs H Q E h=> ?_) (λf cdv A outer s H vs Q E cd hr h=> ?_)
 ·obtain⟨t,bs,m,rfl,hT,bI,hR,hP,q⟩:=h
  rfl
 obtain⟨t,bs,m,rfl,hT,bI,hR,hP,q⟩:=h
 have hu:=hr.units
 refine⟨_,(kM (@ak _ _ _ _ _ (dJ (PW.pt (sy (mh (jU (dX eK rfl bH PyProof.Rows.boot_isinstance (af (pv 0) (af (jT (v:= .ty "list") rfl jr PyProof.Rows.boot_list rfl) aj))))) (tW (cF Gj (dX jW rfl nJ PySem.boot_len (af (pv 0) aj)) ah (cK _))))) (@aL _ _ _ (aW qb)) eB)
  (@aL _ _ _ (aW (uh (N2:=["thing"]) (te:=(kX (uI bE) [] E0 (cW (bT 0) jc))) rfl (eY.depth hr) cd bm rfl kO (iy (pv 0)) (by kernel_rfl) (λ_ _ _ _=>by exact iV (aR qH (vS hr) rfl aQ (af (pv 0) aj)))))))),?_⟩
 have l3:(bs.map V.ref).length=3:=by rw[List.length_map,<-hT.2.length,bI.1]
 refine⟨_,rfl,_,_,_,_,rfl,.lst hT.1,lA K "list",_,rfl,vK ⟨_,rfl,t,_,rfl,.inl (aU.of hT.1),rfl,_,rfl,zq (by rw[l3];rfl) ?_⟩⟩
 refine⟨_,rfl,t,rfl,⟨_,aU.of hT.1⟩,xM (iW (aU.of hT.1)) hP (λ_=>true) (λj y ey H1 Q1 s1 k1=> ?_) (λc H1 s1 hc=> ?_)⟩
 ·have hj:j<3:=by
   have:=(List.getElem?_eq_some_iff.mp ey).1
   rw[l3]at this
   exact this
  obtain⟨b,e1,e2,_⟩:=aV (hT.same s1) bI hj
  have ex':y= .ref b:=by
   have q1:=fS ey
   rw[e1]at q1
   exact(Option.some.inj q1).symm
  subst ex'
  exact⟨_,rfl,b,λc=>ent m j c,rfl,e2,s1 _ _ hR,k1⟩
 ·have e:c=true:=hc.mpr λ_ _=>rfl
  subst e
  exact q H1 s1
inductive wA(T1 T2 T0:Addr)(vs:List V)(H:Hp)(Q:VK)(E:XK):Prop
 |mk(t:Addr)(bs:List Addr)(m:List (List Int))(_:vs=[.ref t])(_:Tab H t bs m)(_:cg m)(_:bV m)(_:H T1=some (dH T1))(_:H T2=some (dH T2))(_:H T0=some (dH T0))(_:∀H',ay H H'->Q (.bl true) H')
theorem om{bE bg aK:Addr}(F:nG K mg "is_even_table" gU dY aK)(bm:BM mg base)(kO:mg "all"=none)(aS:mg "range"=none)(mP:dg P w K mg base cV 6 "is_table" iK (tL bE bg))(ee:dg P w K mg base cV 6 "turned_over" d8 oi):dg P w K mg base cV 7 "is_even_table" dY (wA bE bg aK):=by
 refine F.ok nX (λvs H Q E h=> ?_) (λf cdv A outer s H vs Q E cd hr h=> ?_)
 ·obtain⟨t,bs,m,rfl,hT,bI,ev,hR,hU,hP,q⟩:=h
  rfl
 obtain⟨t,bs,m,rfl,hT,bI,ev,hR,hU,hP,q⟩:=h
 have hu:=hr.units
 refine⟨_,(kM (@ak _ _ _ _ _ (dJ (mh (jU (aR mP hr rfl aQ (af (pv 0) aj)))) (@aL _ _ _ (aW qb)) eB)
  (@aL _ _ _ (aW (tY (m7 (CA hu) (pv 0) (aR ee hr rfl aQ (af (pv 0) aj)) (cK _)) (tX (uh (N2:=["thing"]) (te:=(iz MN (iz (rI (λ_ j=>0<j) λi j=> .int (i%j)) (iz (gD K) (iz (gD K) (bT 1) (bT 0)) (bT 0)) (tC (.int 2))) (tC (.int 0)))) rfl (eY.depth hr) cd bm rfl kO (dh rfl aS (af ah aj)) (by kernel_rfl) (λ_ _ _ _=>by exact iV (m7 Cb (ai cJ (aD aq (aD aq (pv 1) (pv 0) (λ_ _=>rfl)) (pv 0) (λ_ _=>rfl)) ah) ah (cK _)))))))))),?_⟩
 refine⟨_,rfl,t,bs,m,rfl,hT,bI,hR,hU,λH1 s1=>⟨_,rfl,vK ?_⟩⟩
 refine⟨_,rfl,_,rfl,t,bs,m,rfl,hT.same s1,bI,λr rs H2 s2 fr frs nr Tr=> ?_⟩
 rw[cX ev bI]at Tr
 refine Fb (xJ m) (zE ((hT.same s1).same s2)) (zE Tr) (mD m) ⟨_,rfl,An ?_⟩
 have s12:=s1.trans s2
 refine⟨3,rfl,by decide,by decide,xM (fy (n:=3)) (s12 _ _ hP) (λ_=>true) (λj y ey H3 Q3 s3 k3=> ?_) (λc H3 s3 hc=> ?_)⟩
 ·obtain⟨hj,rfl⟩:=d7 ey
  obtain⟨b,row,e1,e2,e3⟩:=nj (hT.same (s12.trans s3)) bI hj hj
  refine⟨_,rfl,_,rfl,t,_,_,_,rfl,rfl,aU.of (hT.same (s12.trans s3)).1,e1,_,rfl,b,_,_,_,rfl,rfl,aU.of e2,e3,_,_,rfl,rfl,(by show(0:Int)<2;decide),rfl,?_⟩
  have e:ent m j j%2=0:=by
   obtain⟨_,a,b,c,p1,p2,p3⟩:=ev
   rcases bK hj with rfl|rfl|rfl<;>omega
  rw[decide_eq_true (congrArg V.int e)]
  exact k3 H3 (ay.refl _)
 ·have e:c=true:=hc.mpr λ_ _=>rfl
  subst e
  exact q H3 (s12.trans s3)
inductive wB(T1 T2 T3:Addr)(vs:List V)(H:Hp)(Q:VK)(E:XK):Prop
 |mk(t:Addr)(bs:List Addr)(m:List (List Int))(_:vs=[.ref t])(_:Tab H t bs m)(_:cg m)(_:Bd 440 m)(_:bV m)(_:bC m=true)(_:H T1=some (dH T1))(_:H T2=some (dH T2))(_:H T3=some (dH T3))(_:True)(_:∀H',ay H H'->Q (.bl true) H')
theorem yp{bE bg aK:Addr}(F:eG K mg "is_form" nY jJ)(gX:dg P w K mg base cV 7 "is_even_table" dY (wA bE bg aK))(oq:dg P w K mg base cV 7 "low_row" jK GD):dg P w K mg base cV 8 "is_form" jJ (wB bE bg aK):=by
 refine F.ok yf (λvs H Q E h=> ?_) (λf cdv A outer s H vs Q E hr h=> ?_)
 ·obtain⟨t,bs,m,rfl,hT,bI,hB,ev,ab,h1,h2,h3,h4,q⟩:=h
  rfl
 obtain⟨t,bs,m,rfl,hT,bI,hB,ev,ab,h1,h2,h3,h4,q⟩:=h
 have hu:=hr.units
 refine⟨_,(dz (aW (tY (aR gX hr rfl aQ (af (pv 0) aj)) (tX (m7 Ho (aR oq hr rfl aQ (af (pv 0) aj)) BR (cK _)))))),?_⟩
 refine⟨_,rfl,t,bs,m,rfl,hT,bI,ev,h1,h2,h3,λH1 s1=>⟨_,rfl,An ?_⟩⟩
 exact⟨_,rfl,t,bs,m,rfl,hT.same s1,bI,hB,cX ev bI,trivial,λ_ H2 s2=>⟨rfl,q H2 (s1.trans s2)⟩,λOZ=>absurd OZ (by rw[ab];decide)⟩
inductive Dw(T1 T2 T3:Addr)(vs:List V)(H:Hp)(Q:VK)(E:XK):Prop
 |mk(t:Addr)(bs:List Addr)(m:List (List Int))(_:vs=[.ref t])(_:Tab H t bs m)(_:cg m)(_:Bd 440 m)(_:bV m)(_:bC m=true)(_:aA m/2<=200)(_:H T1=some (dH T1))(_:H T2=some (dH T2))(_:H T3=some (dH T3))(_:True)(_:∀H',ay H H'->Q (.int (aA m/2)) H')
theorem FI{bE bg aK:Addr}(F:eG K mg "half" yg qA){gY:_}(gZ:mg "GREATEST_HALF"=some (Value.int 200 gY))(ou:dg P w K mg base cV 8 "is_form" jJ (wB bE bg aK))(cQ:dg P w K mg base cV 8 "determinant" dM zS):dg P w K mg base cV 9 "half" qA (Dw bE bg aK):=by
 refine F.ok zP (λvs H Q E h=> ?_) (λf cdv A outer s H vs Q E hr h=> ?_)
 ·obtain⟨t,bs,m,rfl,hT,bI,hB,ev,ab,le,h1,h2,h3,h4,q⟩:=h
  rfl
 obtain⟨t,bs,m,rfl,hT,bI,hB,ev,ab,le,h1,h2,h3,h4,q⟩:=h
 have hu:=hr.units
 refine⟨_,(kM (@ak _ _ _ _ _ (dJ (mh (jU (aR ou hr rfl aQ (af (pv 0) aj)))) (@aL _ _ _ qd) eB)
  (@ak _ _ _ _ _ (aC (i:=1) zP.nd rfl (Or.inl rfl) (ai br (aR cQ hr rfl aQ (af (pv 0) aj)) ah))
  (@ak _ _ _ _ _ (dJ (cF qh (pv 1) (zc (v:= .int 200) rfl gZ ⟨_,rfl⟩) (cK _)) (@aL _ _ _ qd) eB)
  (@aL _ _ _ (aW (pv 1))))))),?_⟩
 refine⟨_,rfl,t,bs,m,rfl,hT,bI,hB,ev,ab,h1,h2,h3,h4,λH1 s1=>⟨_,rfl,vK ?_⟩⟩
 refine⟨_,rfl,t,bs,m,rfl,hT.same s1,bI,hB.mono (by decide),trivial,λH2 s2=>⟨_,_,rfl,rfl,⟨by decide,by decide⟩,?_⟩⟩
 refine⟨_,rfl,_,_,rfl,rfl,_,rfl,jC (λc=> ?_) (λ_=>⟨_,rfl,q H2 (s1.trans s2)⟩)⟩
 have c:(200:Int)<aA m/2:=of_decide_eq_true c
 omega
theorem AZ{H:Hp}{t:Addr}{bs:List Addr}{m:List (List Int)}(hT:Tab H t bs m)(bI:cg m):∃c0 c1 c2,bs=[c0,c1,c2]/\bh H c0 (λc=>ent m 0 c)/\bh H c1 (λc=>ent m 1 c)/\bh H c2 (λc=>ent m 2 c):=by
 have l3:bs.length=3:=by rw[<-hT.2.length,bI.1]
 match bs,l3,hT with
 | [c0,c1,c2],_,hT=>
  obtain⟨b0,x1,x2,_⟩:=aV hT bI (i:=0) (by decide)
  obtain⟨b1,y1,y2,_⟩:=aV hT bI (i:=1) (by decide)
  obtain⟨b2,w1,w2,_⟩:=aV hT bI (i:=2) (by decide)
  cases x1;cases y1;cases w1
  exact⟨c0,c1,c2,rfl,x2,y2,w2⟩
inductive uJ(T0:Addr)(vs:List V)(H:Hp)(Q:VK)(E:XK):Prop
 |mk(t:Addr)(bs:List Addr)(m:List (List Int))(a b:Addr)(x y:Nat->Int)(_:vs=[.ref t,.ref a,.ref b])(_:Tab H t bs m)(_:cg m)(_:Bd 1000 m)(_:bh H a x)(_:bh H b y)(_:∀i,i<3->(x i).natAbs<2^1000)(_:∀i,i<3->(y i).natAbs<2^1000)(_:H T0=some (dH T0))(_:∀H',ay H H'->Q (.int (au m x y)) H')
theorem yq{aG:Addr}(F:nG K mg "pairing" nZ gu aG)(bm:BM mg base)(tH:mg "sum"=none)(nK:mg "zip"=none):dg P w K mg base cV 1 "pairing" gu (uJ aG):=by
 refine F.ok j4 (λvs H Q E h=> ?_) (λf cdv A outer s H vs Q E cd hr h=> ?_)
 ·obtain⟨t,bs,m,a,b,x,y,rfl,hT,bI,hB,hx,hy,bx,bY,hP,q⟩:=h
  rfl
 obtain⟨t,bs,m,a,b,x,y,rfl,hT,bI,hB,hx,hy,bx,bY,hP,q⟩:=h
 have hu:=hr.units
 refine⟨_,(kM (@ak _ _ _ _ _ (jV (pv 2) (iB rfl (aO (aP (i:=3) j4.nd rfl (Or.inr rfl)) (aO (aP (i:=4) j4.nd rfl (Or.inr rfl)) (aO (aP (i:=5) j4.nd rfl (Or.inr rfl)) eW)))))
  (@aL _ _ _ (aW (Fi (N2:=["table","one","other","x","y","z"]) (te:=(iz (rI jE λi j=> .int (i*j)) (bT 0) (iz (Af λi j=> .int (i+j)) (iz (Af λi j=> .int (i+j)) (iz (rI jE λi j=> .int (i*j)) (iz (gD K) (bT 1) (tC (.int 0))) (bT 5)) (iz (rI jE λi j=> .int (i*j)) (iz (gD K) (bT 1) (tC (.int 1))) (bT 6))) (iz (rI jE λi j=> .int (i*j)) (iz (gD K) (bT 1) (tC (.int 2))) (bT 7))))) rfl (eY.depth hr) cd bm rfl tH (xP rfl nK (af (pv 1) (af (pv 0) aj))) (by kernel_rfl) (λ_ _ _ _=>by exact iV (ai aB (pv 0) (ai aI (ai aI (ai aB (aD aq (pv 1) ah (λ_ _=>rfl)) (pv 5)) (ai aB (aD aq (pv 1) ah (λ_ _=>rfl)) (pv 6))) (ai aB (aD aq (pv 1) ah (λ_ _=>rfl)) (pv 7)))))))))),?_⟩
 obtain⟨c0,c1,c2,rfl,x2,y2,w2⟩:=AZ hT bI
 refine⟨_,rfl,b,_,rfl,aU.of hy,rfl,_,_,rfl,_,_,rfl,_,_,rfl,rfl,?_⟩
 refine⟨_,rfl,_,rfl,a,t,_,_,rfl,aU.of hx,aU.of hT.1,Fl (aU.of hx) (aU.of hT.1) rfl hP (λi=>x i*(ent m i 0*y 0+ent m i 1*y 1+ent m i 2*y 2)) (λi u v eu ev H' Q' sm k=> ?_) (λH' sm=> ?_)⟩
 ·have hi:i<3:=(List.getElem?_eq_some_iff.mp eu).1
  obtain⟨c,e1,e2,_⟩:=aV (hT.same sm) bI hi
  have Mj:u= .int (x i):=by
   rcases bK hi with rfl|rfl|rfl<;>exact(Option.some.inj eu).symm
  have ev':v= .ref c:=by
   have q1:=fS ev
   rw[e1]at q1
   exact(Option.some.inj q1).symm
  subst Mj ev'
  have b0:=bZ (hB i 0 hi (by decide)) (bY 0 (by decide))
  have b1:=bZ (hB i 1 hi (by decide)) (bY 1 (by decide))
  have b2:=bZ (hB i 2 hi (by decide)) (bY 2 (by decide))
  have bs:=j3 (j3 b0 b1) (aF b2 (by decide))
  exact⟨_,rfl,_,rfl,c,_,_,_,rfl,rfl,aU.of e2,rfl,_,rfl,_,_,rfl,rfl,⟨aF (hB i 0 hi (by decide)) (by decide),aF (bY 0 (by decide)) (by decide)⟩,_,rfl,c,_,_,_,rfl,rfl,aU.of e2,rfl,_,rfl,_,_,rfl,rfl,⟨aF (hB i 1 hi (by decide)) (by decide),aF (bY 1 (by decide)) (by decide)⟩,_,_,rfl,rfl,_,rfl,c,_,_,_,rfl,rfl,aU.of e2,rfl,_,rfl,_,_,rfl,rfl,⟨aF (hB i 2 hi (by decide)) (by decide),aF (bY 2 (by decide)) (by decide)⟩,_,_,rfl,rfl,_,_,rfl,rfl,⟨aF (bx i hi) (by decide),aF bs (by decide)⟩,k H' (ay.refl _)⟩
 ·have e:PySem.preSum (λi=>x i*(ent m i 0*y 0+ent m i 1*y 1+ent m i 2*y 2)) 3=au m x y:=by
   rw[aX]
   show 0+x 0*(ent m 0 0*y 0+ent m 0 1*y 1+ent m 0 2*y 2)+x 1*(ent m 1 0*y 0+ent m 1 1*y 1+ent m 1 2*y 2)+x 2*(ent m 2 0*y 0+ent m 2 1*y 1+ent m 2 2*y 2)=_
   grind
  have q:=q H' sm
  rw[<-e]at q
  exact q
inductive nL(T0:Addr)(vs:List V)(H:Hp)(Q:VK)(E:XK):Prop
 |mk(t:Addr)(bs:List Addr)(m:List (List Int))(a:Addr)(x:Nat->Int)(_:vs=[.ref t,.ref a])(_:Tab H t bs m)(_:cg m)(_:Bd 1000 m)(_:bh H a x)(_:∀i,i<3->(x i).natAbs<2^1000)(_:H T0=some (dH T0))(_:∀H',ay H H'->Q (.int (aE m x)) H')
theorem Dy{aG:Addr}(F:eG K mg "worth" uC j5)(cY:dg P w K mg base cV 1 "pairing" gu (uJ aG)):dg P w K mg base cV 2 "worth" j5 (nL aG):=by
 refine F.ok Dt (λvs H Q E h=> ?_) (λf cdv A outer s H vs Q E hr h=> ?_)
 ·obtain⟨t,bs,m,a,x,rfl,hT,bI,hB,hx,bx,hP,q⟩:=h
  rfl
 obtain⟨t,bs,m,a,x,rfl,hT,bI,hB,hx,bx,hP,q⟩:=h
 have hu:=hr.units
 refine⟨_,(dz (aW (ai br (aR cY hr rfl aQ (af (pv 0) (af (pv 1) (af (pv 1) aj)))) ah))),?_⟩
 exact⟨_,rfl,_,rfl,_,rfl,t,bs,m,a,a,x,x,rfl,hT,bI,hB,hx,hx,bx,bx,hP,λH' sm=>⟨_,_,rfl,rfl,⟨by decide,by decide⟩,q H' sm⟩⟩
inductive qI(vs:List V)(H:Hp)(Q:VK)(E:XK):Prop
 |mk(a:Addr)(y:Nat->Int)(q:Int)(b:Addr)(x:Nat->Int)(_:vs=[.ref a,.int q,.ref b])(_:bh H a y)(_:bh H b x)(_:q.natAbs<2^4096)(_:∀i,i<3->(x i).natAbs<2^4096)(_:∀r H',ay H H'->H r=none->bh H' r (gG y q x) ->Q (.ref r) H')
theorem rM(F:eG K mg "less_times" j6 e7)(nK:mg "zip"=none):dg P w K mg base cV 1 "less_times" e7 qI:=by
 refine F.ok rK (λvs H Q E h=> ?_) (λf cdv A outer s H vs Q E hr h=> ?_)
 ·obtain⟨a,y,q,b,x,rfl,hy,hx,bq,bx,k⟩:=h
  rfl
 obtain⟨a,y,q,b,x,rfl,hy,hx,bq,bx,k⟩:=h
 have hu:=hr.units
 refine⟨_,(dz (aW (xQ (N2:=["row","times","other"]) (te:=(iz (Af λi j=> .int (i-j)) (bT 0) (iz (rI jE λi j=> .int (i*j)) (bT 3) (bT 1)))) rfl (xP rfl nK (af (pv 0) (af (pv 2) aj))) (by kernel_rfl) rfl (λ_ _ _=>by exact iV (ai bW (pv 0) (ai aB (pv 3) (pv 1))))))),?_⟩
 refine⟨_,rfl,_,rfl,a,b,_,_,rfl,aU.of hy,aU.of hx,λD hD=>vY (aU.of hy) (aU.of hx) rfl (by show 3<=sizeLine;decide) hD (λu v=>match u,v with| .int i,.int j=> .int (i-q*j)|_,_=> .ig) (λn u v eu ev G Q' sm kk=> ?_) (λH5 s5 e5=>k D H5 s5 hD e5)⟩
 have hn:n<3:=(List.getElem?_eq_some_iff.mp eu).1
 have Mj:u= .int (y n):=by rcases bK hn with rfl|rfl|rfl<;>exact(Option.some.inj eu).symm
 have ev':v= .int (x n):=by rcases bK hn with rfl|rfl|rfl<;>exact(Option.some.inj ev).symm
 subst Mj ev'
 exact⟨_,rfl,_,rfl,_,rfl,_,_,rfl,rfl,⟨bq,bx n hn⟩,_,_,rfl,rfl,kk⟩
inductive GF(vs:List V)(H:Hp)(Q:VK)(E:XK):Prop
 |mk(P A:Int)(_:vs=[.int P,.int A])(_:0<A)(_:(2*A).natAbs.log2<9000)(_:Q (.int ((2*P+A)/(2*A))) H)
theorem yr(F:eG K mg "nearest" n8 jL):dg P w K mg base cV 1 "nearest" jL GF:=by
 refine F.ok yh (λvs H Q E h=> ?_) (λf cdv A outer s H vs Q E hr h=> ?_)
 ·obtain⟨P,A,rfl,hA,bA,q⟩:=h
  rfl
 obtain⟨P,A,rfl,hA,bA,q⟩:=h
 have hu:=hr.units
 refine⟨_,(dz (aW (ai ni (ai aI (ai aZ ah (pv 0)) (pv 1)) (ai aZ ah (pv 1))))),?_⟩
 exact⟨_,rfl,_,_,rfl,rfl,.inl ⟨by decide,by decide⟩,_,rfl,_,_,rfl,rfl,_,rfl,_,_,rfl,rfl,.inl ⟨by decide,by decide⟩,_,_,rfl,rfl,⟨by show(0:Int)<2*A;omega,bA⟩,q⟩
inductive wC(T0:Addr)(vs:List V)(H:Hp)(Q:VK)(E:XK):Prop
 |mk(t:Addr)(bs:List Addr)(m:List (List Int))(a b:Addr)(x y:Nat->Int)(w:Int)(_:vs=[.ref t,.ref a,.ref b])(_:Tab H t bs m)(_:cg m)(_:Bd 440 m)(_:bV m)(_:bC m=true)(_:bh H a x)(_:bh H b y)(_:∃t,bJ x y t≠0)(_:aN m x<=w)(_:aN m y<=w)(_:w.natAbs<2^446)(_:H T0=some (dH T0))(_:∀a' b' x' y' P H',lF m x' y'->fL m x y x' y'->aN m x'<=w->aN m y'<=w->ay H H'->bh H' a' x'->bh H' b' y'->H' P=some (.tup [.ref a',.ref b']) ->Q (.ref P) H')
theorem rN{aG:Addr}(F:eG K mg "least_pair" j7 f7)(dS:dg P w K mg base cV 3 "less_times" e7 qI)(ow:dg P w K mg base cV 3 "nearest" jL GF)(cY:dg P w K mg base cV 3 "pairing" gu (uJ aG))(gi:dg P w K mg base cV 3 "worth" j5 (nL aG)):dg P w K mg base cV 4 "least_pair" f7 (wC aG):=by
 refine F.ok jl (λvs H Q E h=> ?_) (λf cdv A outer s H vs Q E hr h=> ?_)
 ·obtain⟨t,bs,m,a,b,x,y,w,rfl,hT,bI,hB,ev,ab,hx,hy,⟨t0,ind⟩,wx,wy,bw,hP,q⟩:=h
  rfl
 obtain⟨t,bs,m,a,b,x,y,w,rfl,hT,bI,hB,ev,ab,hx,hy,⟨t0,ind⟩,wx,wy,bw,hP,q⟩:=h
 have hu:=hr.units
 refine⟨_,(dz (jB PassesOwn.never (jU qb) (kM (@ak _ _ _ _ _ (aC (i:=2) jl.nd rfl (Or.inl rfl) (aR dS hr rfl aQ (af (pv 2) (af (aR ow hr rfl aQ (af (aR cY hr rfl aQ (af (pv 0) (af (pv 1) (af (pv 2) aj)))) (af (aR cY hr rfl aQ (af (pv 0) (af (pv 1) (af (pv 1) aj)))) aj))) (af (pv 1) aj)))))
  (@ak _ _ _ _ _ (dJ (cF Cc (aR gi hr rfl aQ (af (pv 0) (af (pv 2) aj))) (aR gi hr rfl aQ (af (pv 0) (af (pv 1) aj))) (cK _)) (@aL _ _ _ (aW (mq (af (pv 1) (af (pv 2) aj))))) eB)
  (@aL _ _ _ (qe (i:=1) (j:=2) rfl jl.nd rfl rfl (by decide) rfl rfl (af (pv 2) (af (pv 1) aj)) rfl))))))),?_⟩
 have Po:=eZ (cX ev bI) ab
 have bits:∀z:Nat->Int,aN m z<=w-> ∀i,i<3->(z i).natAbs<2^666:=λz hz i hi=>lE ev bI ab hB (by have:=cZ Po z;omega) hi
 refine kW (λσ H'=> ∃(a' b':Addr)(x' y':Nat->Int),σ=[some (.ref t),some (.ref a'),some (.ref b')]/\ay H H'/\bh H' a' x'/\bh H' b' y'/\fL m x y x' y'/\aN m x'<=w/\aN m y'<=w) (Dj m 1) ⟨a,b,x,y,rfl,ay.refl _,hx,hy,fL.refl _ _ _,wx,wy⟩ (λσ H' hh=> ?_) ?_
 rotate_left
 ·rintro σ H' Q Q' h ⟨c,e,k⟩
  exact⟨c,e,h _ _ k⟩
 obtain⟨a',b',x',y',rfl,s1,hx',hy',pr,IU,IV⟩:=hh
 have Mk:bJ x' y' t0≠0:=by
  obtain⟨e,he,hd⟩:=pr.det
  rw[hd]
  rcases he with rfl|rfl
  ·rw[Int.one_mul];exact ind
  ·intro z;apply ind;omega
 have nx:0<aN m x':=Fv Po λz=>Mk (x9 z _ _)
 have bx:=bits x' IU
 have bY:=bits y' IV
 refine⟨true,rfl,An ?_⟩
 have b1:∀z:Nat->Int,(∀i,i<3->(z i).natAbs<2^666) -> ∀i,i<3->(z i).natAbs<2^1000:=λz h i hi=>aF (h i hi) (by decide)
 refine⟨_,rfl,_,rfl,_,rfl,_,rfl,t,bs,m,a',b',x',y',rfl,hT.same s1,bI,hB.mono (by decide),hx',hy',b1 _ bx,b1 _ bY,s1 _ _ hP,λH2 s2=> ?_⟩
 have s12:=s1.trans s2
 refine⟨_,rfl,_,rfl,_,rfl,t,bs,m,a',a',x',x',rfl,hT.same s12,bI,hB.mono (by decide),s2 _ _ hx',s2 _ _ hx',b1 _ bx,b1 _ bx,s12 _ _ hP,λH3 s3=> ?_⟩
 have Ba:=s12.trans s3
 have Ml:=s2.trans s3
 have bP:=iJ (hB) bx bY
 have bA:=iJ (hB) bx bx
 have lg:(2*aN m x').natAbs.log2<9000:=by
  refine(Nat.log2_lt (by omega)).mpr ?_
  have c0:(2*aN m x').natAbs<2^(2+1781):=bZ (by decide) bA
  exact Nat.lt_of_lt_of_le c0 (Nat.pow_le_pow_right (by decide) (by decide))
 have bq:((2*au m x' y'+aN m x')/(2*aN m x')).natAbs<2^4096:=by
  refine Nat.lt_of_le_of_lt (eL _ (by omega)) ?_
  have c1:(2*au m x' y').natAbs<2^(2+1781):=bZ (by decide) bP
  exact aF (j3 c1 (aF bA (show 666+440+666+9<=2+1781 by decide))) (by decide)
 refine⟨_,_,rfl,nx,lg,_,rfl,b',y',_,a',x',rfl,Ml _ _ hy',Ml _ _ hx',bq,(λi hi=>aF (bx i hi) (by decide)),λr H4 s4 fr er=> ?_⟩
 have Dz:=Ba.trans s4
 have Pa:=Ml.trans s4
 have wl:=Int.le_trans (Dk ev (y:=y') nx) IV
 have bl:=bits _ wl
 have pl:=pr.trans (fL.less ev (y:=y') nx)
 have lp:=AN ev (y:=y') nx
 have ax:bh H4 a' x':=Pa _ _ hx'
 have Pb:=nT (m:=m) (i:=1) (σ:=[some (.ref t),some (.ref a'),some (.ref b')]) (by rfl) hx'
 generalize gG y' ((2*au m x' y'+aN m x')/(2*aN m x')) x'=z at er wl bl pl lp
 refine⟨_,rfl,_,rfl,t,bs,m,r,z,rfl,hT.same Dz,bI,hB.mono (by decide),er,b1 _ bl,Dz _ _ hP,λH5 s5=> ?_⟩
 refine⟨_,rfl,_,rfl,t,bs,m,a',x',rfl,hT.same (Dz.trans s5),bI,hB.mono (by decide),s5 _ _ ax,b1 _ bx,(Dz.trans s5) _ _ hP,λH6 s6=> ?_⟩
 have IW:=s5.trans s6
 have Ia:=Dz.trans IW
 have ez:=di ev z
 have ex:=di ev x'
 refine⟨_,_,rfl,rfl,_,rfl,jC (λc=> ?_) (λc=> ?_)⟩
 ·have c:aE m x'<=aE m z:=of_decide_eq_true c
  refine⟨_,rfl,_,rfl,(by show 2<=sizeLine;decide),λP Mm=> ?_⟩
  have uP:=ay.up (o:= .tup [.ref a',.ref r]) Mm
  exact q a' r x' z P _ ⟨nx,by show au m x' x'<=au m z z;omega,lp.1,lp.2⟩ pl IU wl (Ia.trans uP) ((IW.trans uP) _ _ ax) ((IW.trans uP) _ _ er) av
 ·have c:¬aE m x'<=aE m z:=λy=>c (decide_eq_true y)
  refine⟨_,rfl,_,rfl,_,_,rfl,?_⟩
  refine⟨⟨r,a',z,x',rfl,Ia,IW _ _ er,IW _ _ ax,pl.swap,wl,IU⟩,?_⟩
  have at2:=nT (m:=m) (i:=1) (σ:=[some (.ref t),some (.ref r),some (.ref a')]) (by rfl) (IW _ _ er)
  show Dj m 1 [some (.ref t),some (.ref r),some (.ref a')] H6<Dj m 1 [some (.ref t),some (.ref a'),some (.ref b')] H'
  rw[Pb,at2]
  have:=cZ Po z
  have e1:aN m z=au m z z:=rfl
  have e2:aN m x'=au m x' x':=rfl
  omega
inductive uK(T1 T0:Addr)(vs:List V)(H:Hp)(Q:VK)(E:XK):Prop
 |mk(t:Addr)(bs:List Addr)(m:List (List Int))(p:Addr)(as:List Addr)(X:Addr->Nat->Int)(_:vs=[.ref t,.ref p])(_:Tab H t bs m)(_:cg m)(_:Bd 440 m)(_:H p=some (.lst (as.map V.ref)))(_:as.length<64)(_:∀b∈as,bh H b (X b))(_:∀b∈as,(∀i,i<3->(X b i).natAbs<2^1000))(_:H T1=some (dH T1))(_:H T0=some .vE)(_:∀(Hn:Hp) (zs:List Addr),ay H Hn->zs.Perm as->zs.Pairwise (λa b=>aE m (X a)<=aE m (X b)) -> ∀r,Hn r=none->Q (.ref r) (upd Hn r (.lst (zs.map V.ref))))
theorem wD{aG aY:Addr}(F:nG K mg "in_order" mK gv aY)(bm:BM mg base)(qJ:mg "sorted"=none)(gi:dg P w K mg base cV 3 "worth" j5 (nL aG)):dg P w K mg base cV 7 "in_order" gv (uK aG aY):=by
 refine F.ok wm (λvs H Q E h=> ?_) (λf cdv A outer s H vs Q E cd hr h=> ?_)
 ·obtain⟨t,bs,m,p,as,X,rfl,hT,bI,hB,hp,Nr,hX,bX,hP,hC,q⟩:=h
  rfl
 obtain⟨t,bs,m,p,as,X,rfl,hT,bI,hB,hp,Nr,hX,bX,hP,hC,q⟩:=h
 have hu:=hr.units
 refine⟨_,(dz (aW (AV (N2:=["form","rows"]) (tb:=(kX (nL aG) [] E0 (cW (bT 1) (cW (bT 0) jc)))) rfl hr cd bm rfl qJ (pv 1) (by kernel_rfl) (λ_ _ _ _ _ _=>rfl) (λ_ _ _ _ _=>by exact iV (aR gi (Di hr) rfl aQ (af (pv 1) (af (pv 0) aj))))))),?_⟩
 refine⟨_,rfl,p,as.map V.ref,(λv=>match v with| .ref b=>aE m (X b)|_=>0),rfl,aU.of hp,(by rw[List.length_map];exact Nr),hC,(λv hv Hi si=> ?_),λHn zs sn pz so r hr=> ?_⟩
 ·obtain⟨b,rfl,hb⟩:=vU hv
  exact⟨_,rfl,_,rfl,t,bs,m,b,X b,rfl,hT.same si,bI,hB.mono (by decide),si _ _ (hX b hb),bX b hb,si _ _ hP,λH' s=>⟨rfl,s⟩⟩
 ·obtain⟨zs,rfl,Pc⟩:=AJ pz
  rw[List.pairwise_map]at so
  exact q Hn zs sn Pc so r hr
inductive DA(T1 T0:Addr)(vs:List V)(H:Hp)(Q:VK)(E:XK):Prop
 |mk(t:Addr)(bs:List Addr)(m:List (List Int))(a b c:Addr)(x y z:Nat->Int)(_:vs=[.ref t,.ref a,.ref b,.ref c])(_:Tab H t bs m)(_:cg m)(_:Bd 440 m)(_:bV m)(_:bC m=true)(_:bh H a x)(_:bh H b y)(_:bh H c z)(_:lF m x y)(_:∀i,i<3->(x i).natAbs<2^666)(_:∀i,i<3->(y i).natAbs<2^666)(_:∀i,i<3->(z i).natAbs<2^666)(_:(aA m*(bJ x y z*bJ x y z)).natAbs<2^448)(_:(aN m y).natAbs<2^446)(_:H T1=some (dH T1))(_:H T0=some .vE)(_:∀r z' H',Drawn m x y z z'->ay H H'->bh H' r z'->Q (.ref r) H')
theorem wF{aG aY:Addr}(F:eG K mg "drawn_in" mL iM)(cY:dg P w K mg base cV 7 "pairing" gu (uJ aG))(dS:dg P w K mg base cV 7 "less_times" e7 qI)(fN:dg P w K mg base cV 7 "in_order" gv (uK aG aY)):dg P w K mg base cV 8 "drawn_in" iM (DA aG aY):=by
 refine F.ok eO (λvs H Q E h=> ?_) (λf cdv A outer s H vs Q E hr h=> ?_)
 ·obtain⟨t,bs,m,a,b,c,x,y,z,rfl,hT,bI,hB,ev,ab,ha,hb,hc,lp,bx,bY,bz,bd,bw,hP,hC,q⟩:=h
  rfl
 obtain⟨t,bs,m,a,b,c,x,y,z,rfl,hT,bI,hB,ev,ab,ha,hb,hc,lp,bx,bY,bz,bd,bw,hP,hC,q⟩:=h
 have hu:=hr.units
 refine⟨_,(kM (@ak _ _ _ _ _ (zI (i:=4) (j:=5) (k:=6) rfl eO.nd rfl rfl rfl (by decide) (by decide) (by decide) rfl rfl rfl (af (aR cY hr rfl aQ (af (pv 0) (af (pv 1) (af (pv 1) aj)))) (af (aR cY hr rfl aQ (af (pv 0) (af (pv 1) (af (pv 2) aj)))) (af (aR cY hr rfl aQ (af (pv 0) (af (pv 2) (af (pv 2) aj)))) aj))) rfl)
  (@ak _ _ _ _ _ (qe (i:=7) (j:=8) rfl eO.nd rfl rfl (by decide) rfl rfl (af (aR cY hr rfl aQ (af (pv 0) (af (pv 1) (af (pv 3) aj)))) (af (aR cY hr rfl aQ (af (pv 0) (af (pv 2) (af (pv 3) aj)))) aj)) rfl)
  (@ak _ _ _ _ _ (aC (i:=9) eO.nd rfl (Or.inl rfl) (ai bW (ai aB (pv 4) (pv 6)) (ai aB (pv 5) (pv 5))))
  (@ak _ _ _ _ _ (aC (i:=10) eO.nd rfl (Or.inl rfl) (ai ni (ai bW (ai aB (pv 6) (pv 7)) (ai aB (pv 5) (pv 8))) (pv 9)))
  (@ak _ _ _ _ _ (aC (i:=11) eO.nd rfl (Or.inl rfl) (ai ni (ai bW (ai aB (pv 4) (pv 8)) (ai aB (pv 5) (pv 7))) (pv 9)))
  (@ak _ _ _ _ _ (aC (i:=12) eO.nd rfl (Or.inl rfl) (dF (af (mq (af (pv 10) (af (pv 11) aj))) (af (mq (af (pv 10) (af (ai aI (pv 11) ah) aj))) (af (mq (af (ai aI (pv 10) ah) (af (pv 11) aj))) (af (mq (af (ai aI (pv 10) ah) (af (ai aI (pv 11) ah) aj))) aj))))))
  (@aL _ _ _ (aW (aD aq (aR fN hr rfl aQ (af (pv 0) (af (xQ (N2:=["form","one","other","third","across","along","aside","by_one","by_other","area","first","second","corners"]) (te:=(kX qI [] E0 (cW (kX qI [] E0 (cW (bT 5) (cW (bT 0) (cW (bT 3) jc)))) (cW (bT 1) (cW (bT 4) jc))))) rfl (iy (pv 12)) (by kernel_rfl) rfl (λ_ _ _=>by exact iV (aR dS hr rfl aQ (af (aR dS hr rfl aQ (af (pv 5) (af (pv 0) (af (pv 3) aj)))) (af (pv 1) (af (pv 4) aj)))))) aj))) ah (λ_ _=>rfl))))))))))),?_⟩
 have b1:∀v:Nat->Int,(∀i,i<3->(v i).natAbs<2^666) -> ∀i,i<3->(v i).natAbs<2^1000:=λv h i hi=>aF (h i hi) (by decide)
 have Po:=eZ (cX ev bI) ab
 obtain⟨_,ap⟩:=lp.Dl
 have s0:=ay.refl H
 refine⟨_,rfl,_,rfl,_,rfl,t,bs,m,a,a,x,x,rfl,hT.same s0,bI,hB.mono (by decide),s0 _ _ ha,s0 _ _ ha,b1 _ bx,b1 _ bx,s0 _ _ hP,λH1 s1=> ?_⟩
 refine⟨_,rfl,_,rfl,_,rfl,t,bs,m,a,b,x,y,rfl,hT.same s1,bI,hB.mono (by decide),s1 _ _ ha,s1 _ _ hb,b1 _ bx,b1 _ bY,s1 _ _ hP,λH2 s2=> ?_⟩
 have s12:=s1.trans s2
 refine⟨_,rfl,_,rfl,_,rfl,t,bs,m,b,b,y,y,rfl,hT.same s12,bI,hB.mono (by decide),s12 _ _ hb,s12 _ _ hb,b1 _ bY,b1 _ bY,s12 _ _ hP,λH3 s3=> ?_⟩
 have Ba:=s12.trans s3
 refine⟨_,_,_,rfl,?_⟩
 refine⟨_,rfl,_,rfl,_,rfl,t,bs,m,a,c,x,z,rfl,hT.same Ba,bI,hB.mono (by decide),Ba _ _ ha,Ba _ _ hc,b1 _ bx,b1 _ bz,Ba _ _ hP,λH4 s4=> ?_⟩
 have Dz:=Ba.trans s4
 refine⟨_,rfl,_,rfl,_,rfl,t,bs,m,b,c,y,z,rfl,hT.same Dz,bI,hB.mono (by decide),Dz _ _ hb,Dz _ _ hc,b1 _ bY,b1 _ bz,Dz _ _ hP,λH5 s5=> ?_⟩
 have Kg:=Dz.trans s5
 refine⟨_,_,rfl,?_⟩
 have c1:=iJ hB bx bx
 have c2:=iJ hB bx bY
 have c3:=iJ hB bY bY
 have c4:=iJ hB bx bz
 have c5:=iJ hB bY bz
 have up:∀{v:Int},v.natAbs<2^(666+440+666+9) ->v.natAbs<2^4096:=λh=>aF h (by decide)
 refine⟨_,rfl,_,rfl,_,_,rfl,rfl,⟨up c1,up c3⟩,_,rfl,_,rfl,_,_,rfl,rfl,⟨up c2,up c2⟩,_,_,rfl,rfl,?_⟩
 have bA:(ao m x y).natAbs<2^3600:=aF (ji (bZ c1 c3) (bZ c2 c2)) (by decide)
 have bS:(bL m x y z).natAbs<2^3600:=aF (ji (bZ c3 c4) (bZ c2 c5)) (by decide)
 have bR:(bO m x y z).natAbs<2^3600:=aF (ji (bZ c1 c5) (bZ c2 c4)) (by decide)
 have lg:(ao m x y).natAbs.log2<9000:=(Nat.log2_lt (by show(ao m x y).natAbs≠0;have:0<ao m x y:=ap;omega)).mpr (Nat.lt_of_lt_of_le bA (Nat.pow_le_pow_right (by decide) (by decide)))
 refine⟨_,rfl,_,rfl,_,_,rfl,rfl,⟨up c3,up c4⟩,_,rfl,_,rfl,_,_,rfl,rfl,⟨up c2,up c5⟩,_,_,rfl,rfl,_,rfl,_,_,rfl,rfl,⟨ap,lg⟩,?_⟩
 refine⟨_,rfl,_,rfl,_,_,rfl,rfl,⟨up c1,up c5⟩,_,rfl,_,rfl,_,_,rfl,rfl,⟨up c2,up c4⟩,_,_,rfl,rfl,_,rfl,_,_,rfl,rfl,⟨ap,lg⟩,?_⟩
 have bF:(bL m x y z/ao m x y).natAbs<2^3600:=Nat.lt_of_le_of_lt (eL _ ap) bS
 have bG:(bO m x y z/ao m x y).natAbs<2^3600:=Nat.lt_of_le_of_lt (eL _ ap) bR
 refine⟨_,rfl,_,rfl,(by show 2<=sizeLine;decide),λp0 g0=>⟨_,rfl,_,rfl,_,_,rfl,rfl,(by show 2<=sizeLine;decide),λp1 g1=>⟨_,rfl,_,_,rfl,rfl,_,rfl,(by show 2<=sizeLine;decide),λp2 g2=>⟨_,rfl,_,_,rfl,rfl,_,rfl,_,_,rfl,rfl,(by show 2<=sizeLine;decide),λp3 g3=>⟨(by show 4<=sizeLine;decide),λL gL=> ?_⟩⟩⟩⟩⟩
 have v0:=ay.up (o:= .tup [.int (bL m x y z/ao m x y),.int (bO m x y z/ao m x y)]) g0
 have v1:=ay.up (o:= .tup [.int (bL m x y z/ao m x y),.int ((bO m x y z/ao m x y)+1)]) g1
 have v2:=ay.up (o:= .tup [.int ((bL m x y z/ao m x y)+1),.int (bO m x y z/ao m x y)]) g2
 have v3:=ay.up (o:= .tup [.int ((bL m x y z/ao m x y)+1),.int ((bO m x y z/ao m x y)+1)]) g3
 have vL:=ay.up (o:= .lst [.ref p0,.ref p1,.ref p2,.ref p3]) gL
 have Nt:=v3.trans vL
 have Nu:=v2.trans Nt
 have Nv:=v1.trans Nu
 have vv:=v0.trans Nv
 have t0:=Nv _ _ (av (H:=H5) (a:=p0) (o:= .tup [.int (bL m x y z/ao m x y),.int (bO m x y z/ao m x y)]))
 have t1:=Nu _ _ (av (a:=p1) (o:= .tup [.int (bL m x y z/ao m x y),.int ((bO m x y z/ao m x y)+1)]))
 have t2:=Nt _ _ (av (a:=p2) (o:= .tup [.int ((bL m x y z/ao m x y)+1),.int (bO m x y z/ao m x y)]))
 have t3:=vL _ _ (av (a:=p3) (o:= .tup [.int ((bL m x y z/ao m x y)+1),.int ((bO m x y z/ao m x y)+1)]))
 have Ib:=Kg.trans vv
 refine⟨_,rfl,_,rfl,L,rfl,⟨_,aU.of av⟩,λD hD=>AK (iW (aU.of av)) (by show 4<=sizeLine;decide) hD (λj=> .int (if j<2 then(bL m x y z/ao m x y)else(bL m x y z/ao m x y)+1)) (λj=> .int (if j%2=0 then(bO m x y z/ao m x y)else(bO m x y z/ao m x y)+1)) (λj v ev'=> ?_) (λj v H=> ∃r,v= .ref r/\r≠D/\bh H r (cU z (if j<2 then(bL m x y z/ao m x y)else(bL m x y z/ao m x y)+1) x (if j%2=0 then(bO m x y z/ao m x y)else(bO m x y z/ao m x y)+1) y)) (λj v H H' h off=> ?_) (λj hj H6 Q6 s6 eD k6=> ?_) (λws H6 s6 lw rel eD=> ?_)⟩
 ·have hj:j<4:=(List.getElem?_eq_some_iff.mp ev').1
  obtain rfl|rfl|rfl|rfl:j=0∨j=1∨j=2∨j=3:=by omega
  ·exact⟨p0,(Option.some.inj ev').symm,rD.of t0⟩
  ·exact⟨p1,(Option.some.inj ev').symm,rD.of t1⟩
  ·exact⟨p2,(Option.some.inj ev').symm,rD.of t2⟩
  ·exact⟨p3,(Option.some.inj ev').symm,rD.of t3⟩
 ·obtain⟨r,e,nr,hr⟩:=h
  exact⟨r,e,nr,off _ _ nr hr⟩
 ·have sa:=Ib.trans s6
  have b4:∀{v:Int},v.natAbs<2^3600->(v+1).natAbs<2^4096:=λh=>aF (j3 h (show(1:Int).natAbs<2^3600 from aF (a:=1) (by decide) (by decide))) (by decide)
  have bi:(if j<2 then(bL m x y z/ao m x y)else(bL m x y z/ao m x y)+1).natAbs<2^4096:=by split;exact aF bF (by decide);exact b4 bF
  have bj:(if j%2=0 then(bO m x y z/ao m x y)else(bO m x y z/ao m x y)+1).natAbs<2^4096:=by split;exact aF bG (by decide);exact b4 bG
  obtain⟨oD,eD⟩:=eD
  refine⟨_,rfl,_,rfl,_,rfl,c,z,_,a,x,rfl,sa _ _ hc,sa _ _ ha,bi,(λi hi=>aF (bx i hi) (by decide)),λr1 H7 s7 f1 e1=> ?_⟩
  refine⟨_,rfl,_,rfl,r1,_,_,b,y,rfl,e1,(sa.trans s7) _ _ hb,bj,(λi hi=>aF (bY i hi) (by decide)),λr2 H8 s8 f2 e2=> ?_⟩
  exact k6 (.ref r2) H8 (s7.trans s8) ⟨r2,rfl,(λw=>by rw[w,s7 _ _ eD]at f2;cases f2),e2⟩
 have Pd:ws.length=4:=lw
 obtain⟨w0,w1,w2,w3,rfl⟩:∃a b c d,ws=[a,b,c,d]:=by
  match ws,Pd with
  | [a,b,c,d],_=>exact⟨a,b,c,d,rfl⟩
 obtain⟨r0,rfl,_,x0⟩:=rel 0 _ rfl
 obtain⟨r1,rfl,_,x1⟩:=rel 1 _ rfl
 obtain⟨r2,rfl,_,x2⟩:=rel 2 _ rfl
 obtain⟨r3,rfl,_,x3⟩:=rel 3 _ rfl
 have x0:bh H6 r0 (cU z (bL m x y z/ao m x y) x (bO m x y z/ao m x y) y):=x0
 have x1:bh H6 r1 (cU z (bL m x y z/ao m x y) x ((bO m x y z/ao m x y)+1) y):=x1
 have x2:bh H6 r2 (cU z ((bL m x y z/ao m x y)+1) x (bO m x y z/ao m x y) y):=x2
 have x3:bh H6 r3 (cU z ((bL m x y z/ao m x y)+1) x ((bO m x y z/ao m x y)+1) y):=x3
 have Ia:=Ib.trans s6
 have D0:0<=aA m:=Int.le_of_lt (fU ab).2.2
 have each:∀r∈ [r0,r1,r2,r3],∃i j,(i=(bL m x y z/ao m x y)∨i=(bL m x y z/ao m x y)+1)/\(j=(bO m x y z/ao m x y)∨j=(bO m x y z/ao m x y)+1)/\bh H6 r (cU z i x j y):=λr hr=>by
  simp only[List.mem_cons,List.not_mem_nil,or_false]at hr
  rcases hr with rfl|rfl|rfl|rfl
  ·exact⟨_,_,.inl rfl,.inl rfl,x0⟩
  ·exact⟨_,_,.inl rfl,.inr rfl,x1⟩
  ·exact⟨_,_,.inr rfl,.inl rfl,x2⟩
  ·exact⟨_,_,.inr rfl,.inr rfl,x3⟩
 have same:∀{r:Addr}{v:Nat->Int},bh H6 r v->aN m (c7 (rB H6 r))=aN m v:=λh=>fB (f6 h) (f6 h)
 refine⟨t,bs,m,D,[r0,r1,r2,r3],(λr=>c7 (rB H6 r)),rfl,hT.same Ia,bI,hB,eD,(by show 4<64;decide),(λr hr=> ?_),(λr hr i hi=> ?_),Ia _ _ hP,Ia _ _ hC,λHn zs sn pz so p hp=> ?_⟩
 ·obtain⟨i,j,_,_,h⟩:=each r hr
  exact uA h
 ·obtain⟨i',j',hi',hj',h⟩:=each r hr
  show(c7 (rB H6 r) i).natAbs<2^1000
  rw[f6 h i hi]
  have cl:=AR ev lp hi' hj' D0
  have n0:=cZ Po (cU z i' x j' y)
  refine aF (lE ev bI ab hB ?_ hi) (by decide)
  have k1:=Int.mul_nonneg D0 (bf (bJ x y z))
  have k2:0<=aN m y:=cZ Po y
  have k3:(aA m*(bJ x y z*bJ x y z)+3*aN m y).natAbs<2^(448+1):=j3 bd (aF (bZ (show(3:Int).natAbs<2^2 by decide) bw) (by decide))
  refine Nat.lt_of_le_of_lt ?_ (aF k3 (show 448+1<=450 by decide))
  omega
 have Pe:∃Pf rest,zs=Pf::rest:=by
  cases zs with
  |nil=>have:=pz.length_eq;simp at this
  |cons r rest=>exact⟨r,rest,rfl⟩
 obtain⟨rz,rest,rfl⟩:=Pe
 obtain⟨i,j,hi,hj,hz⟩:=each rz (pz.mem_iff.mp List.mem_cons_self)
 have least:∀r∈ [r0,r1,r2,r3],aN m (cU z i x j y)<=aN m (c7 (rB H6 r)):=λr hr=>by
  rw[<-same hz]
  rcases List.mem_cons.mp (pz.mem_iff.mpr hr)with e|hr'
  ·rw[e]
   exact Int.le_refl _
  ·have:aE m (c7 (rB H6 rz))<=aE m (c7 (rB H6 r)):=(List.pairwise_cons.mp so).1 r hr'
   have p1:=di ev (c7 (rB H6 rz))
   have p2:=di ev (c7 (rB H6 r))
   show au m _ _<=au m _ _
   omega
 have sF:=Ia.trans (sn.trans (ay.up (o:= .lst ((rz::rest).map V.ref)) hp))
 refine⟨p,_,_,_,rfl,rfl,aU.of av,Dd,q rz _ _ (Dm ev lp hi hj λi' j' hi' hj'=> ?_) sF ((sn.trans (ay.up hp)) _ _ hz)⟩
 rcases hi' with rfl|rfl<;>rcases hj' with rfl|rfl
 ·rw[<-same x0];exact least r0 (by simp)
 ·rw[<-same x1];exact least r1 (by simp)
 ·rw[<-same x2];exact least r2 (by simp)
 ·rw[<-same x3];exact least r3 (by simp)
inductive zU(T1 T0:Addr)(vs:List V)(H:Hp)(Q:VK)(E:XK):Prop
 |mk(t:Addr)(bs:List Addr)(m:List (List Int))(_:vs=[.ref t])(_:Tab H t bs m)(_:cg m)(_:Bd 440 m)(_:bV m)(_:bC m=true)(_:(aA m).natAbs<2^440)(_:H T1=some (dH T1))(_:H T0=some .vE)(_:∀(r a b c:Addr) (x y z:Nat->Int) H',zN m x y z->ay H H'->H r=none->H' r=some (.lst [.ref a,.ref b,.ref c]) ->bh H' a x->bh H' b y->bh H' c z->Q (.ref r) H')
theorem rO{aG aY:Addr}(F:eG K mg "near_basis" j8 f9)(fN:dg P w K mg base cV 8 "in_order" gv (uK aG aY))(ki:dg P w K mg base cV 8 "least_pair" f7 (wC aG))(mQ:dg P w K mg base cV 8 "drawn_in" iM (DA aG aY))(gi:dg P w K mg base cV 8 "worth" j5 (nL aG)):dg P w K mg base cV 9 "near_basis" f9 (zU aG aY):=by
 refine F.ok cG (λvs H Q E h=> ?_) (λf cdv A outer s H vs Q E hr h=> ?_)
 ·obtain⟨t,bs,m,rfl,hT,bI,hB,ev,ab,bD,hP,hC,q⟩:=h
  rfl
 obtain⟨t,bs,m,rfl,hT,bI,hB,ev,ab,bD,hP,hC,q⟩:=h
 have hu:=hr.units
 refine⟨_,(kM (@ak _ _ _ _ _ (jV (aR fN hr rfl aQ (af (pv 0) (af (dF (af (dF (af ah (af ah (af ah aj)))) (af (dF (af ah (af ah (af ah aj)))) (af (dF (af ah (af ah (af ah aj)))) aj)))) aj))) (iB rfl (aO (aP (i:=1) cG.nd rfl (Or.inl rfl)) (aO (aP (i:=2) cG.nd rfl (Or.inl rfl)) (aO (aP (i:=3) cG.nd rfl (Or.inl rfl)) eW)))))
  (@aL _ _ _ (jB PassesOwn.never (jU qb) (kM (@ak _ _ _ _ _ (jV (aR ki hr rfl aQ (af (pv 0) (af (pv 1) (af (pv 2) aj)))) (t6 rfl (aO (aP (i:=1) cG.nd rfl (Or.inl rfl)) (aO (aP (i:=2) cG.nd rfl (Or.inl rfl)) eW))))
  (@ak _ _ _ _ _ (aC (i:=3) cG.nd rfl (Or.inl rfl) (aR mQ hr rfl aQ (af (pv 0) (af (pv 1) (af (pv 2) (af (pv 3) aj))))))
  (@ak _ _ _ _ _ (dJ (cF Cc (aR gi hr rfl aQ (af (pv 0) (af (pv 3) aj))) (aR gi hr rfl aQ (af (pv 0) (af (pv 2) aj))) (cK _)) (@aL _ _ _ (aW (dF (af (pv 1) (af (pv 2) (af (pv 3) aj)))))) eB)
  (@aL _ _ _ (jV (aR fN hr rfl aQ (af (pv 0) (af (dF (af (pv 1) (af (pv 2) (af (pv 3) aj)))) aj))) (iB rfl (aO (aP (i:=1) cG.nd rfl (Or.inl rfl)) (aO (aP (i:=2) cG.nd rfl (Or.inl rfl)) (aO (aP (i:=3) cG.nd rfl (Or.inl rfl)) eW)))))))))))))),?_⟩
 have Po:=eZ (cX ev bI) ab
 have bits:∀z:Nat->Int,aN m z<=(2^440:Int) -> ∀i,i<3->(z i).natAbs<2^666:=λz hz i hi=>lE ev bI ab hB (by have:=cZ Po z;omega) hi
 have b1:∀v:Nat->Int,(∀i,i<3->(v i).natAbs<2^666) -> ∀i,i<3->(v i).natAbs<2^1000:=λv h i hi=>aF (h i hi) (by decide)
 have ord:∀{H1:Hp}{a b c:Addr}{x y z:Nat->Int},bh H1 a x->bh H1 b y->bh H1 c z->(bJ x y z=1∨bJ x y z= -1) ->aN m x<=(2^440:Int) ->aN m y<=(2^440:Int) ->aN m z<=(2^440:Int) ->
   (∀r∈ [a,b,c],bh H1 r (c7 (rB H1 r)))/\(∀r∈ [a,b,c],∀i,i<3->(c7 (rB H1 r) i).natAbs<2^1000)/\ ∀zs:List Addr,zs.Perm [a,b,c] ->zs.Pairwise (λa b=>aE m (c7 (rB H1 a))<=aE m (c7 (rB H1 b))) ->
   ∃(p q r:Addr)(x1 y1 z1:Nat->Int),zs=[p,q,r]/\bh H1 p x1/\bh H1 q y1/\bh H1 r z1/\(bJ x1 y1 z1=1∨bJ x1 y1 z1= -1)/\aN m x1<=(2^440:Int)/\aN m y1<=(2^440:Int)/\aN m z1<=(2^440:Int)/\aN m x1+aN m y1<=aN m x+aN m z:=λ {H1 a b c x y z} ha hb hc un wx wy wz=>by
  have same:∀{r:Addr}{v:Nat->Int},bh H1 r v->aN m (c7 (rB H1 r))=aN m v:=λh=>fB (f6 h) (f6 h)
  have each:∀r∈ [a,b,c],bh H1 r (c7 (rB H1 r))/\aN m (c7 (rB H1 r))<=(2^440:Int):=λr hr=>by
   simp only[List.mem_cons,List.not_mem_nil,or_false]at hr
   rcases hr with rfl|rfl|rfl
   ·exact⟨uA ha,by rw[same ha];exact wx⟩
   ·exact⟨uA hb,by rw[same hb];exact wy⟩
   ·exact⟨uA hc,by rw[same hc];exact wz⟩
  refine⟨λr hr=>(each r hr).1,λr hr=>b1 _ (bits _ (each r hr).2),λzs pz so=> ?_⟩
  obtain⟨p,q,r,rfl,hp,hq,hr,dt,sum⟩:=HZ (X:=λr=>c7 (rB H1 r)) ev pz so
  refine⟨p,q,r,_,_,_,rfl,(each p hp).1,(each q hq).1,(each r hr).1,?_,(each p hp).2,(each q hq).2,(each r hr).2,by rw[<-same ha,<-same hc];exact sum⟩
  have e:=Dp (f6 ha) (f6 hb) (f6 hc)
  rcases un with u|u<;>rcases dt with d|d<;>rw[e,u]at d<;>rw[d]<;>simp
 refine⟨_,rfl,(by show 3<=sizeLine;decide),λa0 h0=>⟨(by show 3<=sizeLine;decide),λa1 h1=>⟨(by show 3<=sizeLine;decide),λa2 h2=>⟨(by show 3<=sizeLine;decide),λA hA=> ?_⟩⟩⟩⟩
 have v0:=ay.up (o:= .lst [.int 1,.int 0,.int 0]) h0
 have v1:=ay.up (o:= .lst [.int 0,.int 1,.int 0]) h1
 have v2:=ay.up (o:= .lst [.int 0,.int 0,.int 1]) h2
 have vA:=ay.up (o:= .lst [.ref a0,.ref a1,.ref a2]) hA
 have sA:=v0.trans (v1.trans (v2.trans vA))
 have r0:bh _ a0 (IS 0 1):=vA _ _ (v2 _ _ (v1 _ _ (av (H:=H) (a:=a0) (o:= .lst [.int 1,.int 0,.int 0]))))
 have r1:bh _ a1 (IS 1 1):=vA _ _ (v2 _ _ (av (a:=a1) (o:= .lst [.int 0,.int 1,.int 0])))
 have r2:bh _ a2 (IS 2 1):=vA _ _ (av (a:=a2) (o:= .lst [.int 0,.int 0,.int 1]))
 have wE:∀i,i<3->aN m (IS i 1)<=(2^440:Int):=λi hi=>by
  rw[HY m hi]
  have:=hB i i hi hi
  omega
 obtain⟨o1,o2,o3⟩:=ord r0 r1 r2 (.inl (by decide)) (wE 0 (by decide)) (wE 1 (by decide)) (wE 2 (by decide))
 refine⟨t,bs,m,A,[a0,a1,a2],_,rfl,hT.same sA,bI,hB,av,(by show 3<64;decide),o1,o2,sA _ _ hP,sA _ _ hC,λHn zs sn pz so R hR=> ?_⟩
 obtain⟨a,b,c,x,y,z,rfl,hx,hy,hz,un,wx,wy,wz,_⟩:=o3 zs pz so
 have uR:=ay.up (o:= .lst ([a,b,c].map V.ref)) hR
 have s1:=sn.trans uR
 have hx:=s1 _ _ hx
 have hy:=s1 _ _ hy
 have hz:=s1 _ _ hz
 have eR:upd Hn R (.lst ([a,b,c].map V.ref)) R=some (.lst [.ref a,.ref b,.ref c]):=av
 have sH:=sA.trans s1
 refine⟨R,[.ref a,.ref b,.ref c],rfl,aU.of eR,rfl,_,_,rfl,_,_,rfl,_,_,rfl,rfl,?_⟩
 refine kW (λσ H'=> ∃(a b c:Addr)(x y z:Nat->Int),σ=[some (.ref t),some (.ref a),some (.ref b),some (.ref c)]/\ay H H'/\bh H' a x/\bh H' b y/\bh H' c z/\(bJ x y z=1∨bJ x y z= -1)/\aN m x<=(2^440:Int)/\aN m y<=(2^440:Int)/\aN m z<=(2^440:Int)) (λσ H=>Dj m 1 σ H+Dj m 2 σ H) ⟨a,b,c,x,y,z,rfl,sH,hx,hy,hz,un,wx,wy,wz⟩ (λσ H' hh=> ?_) ?_
 rotate_left
 ·rintro σ H' Q Q' h ⟨c,e,k⟩
  exact⟨c,e,h _ _ k⟩
 obtain⟨a,b,c,x,y,z,rfl,s1,hx,hy,hz,un,wx,wy,wz⟩:=hh
 refine⟨true,rfl,An ?_⟩
 have ne:bJ x y z≠0:=by omega
 refine⟨_,rfl,_,rfl,_,rfl,t,bs,m,a,b,x,y,(2^440:Int),rfl,hT.same s1,bI,hB,ev,ab,hx,hy,⟨z,ne⟩,wx,wy,(by decide),s1 _ _ hP,λa' b' x' y' P H2 lp pr IU IV s2 hx' hy' eP=> ?_⟩
 refine⟨P,[.ref a',.ref b'],rfl,rD.of eP,rfl,_,_,rfl,_,_,rfl,rfl,?_⟩
 have s12:=s1.trans s2
 have un':bJ x' y' z=1∨bJ x' y' z= -1:=by
  obtain⟨e,he,hd⟩:=pr.det
  rw[hd]
  rcases he with rfl|rfl<;>rcases un with u|u<;>rw[u]<;>simp
 have one:bJ x' y' z*bJ x' y' z=1:=by rcases un' with u|u<;>rw[u]<;>decide
 have ny:=cZ Po y'
 refine⟨_,rfl,_,rfl,_,rfl,_,rfl,t,bs,m,a',b',c,x',y',z,rfl,hT.same s12,bI,hB,ev,ab,hx',hy',s2 _ _ hz,lp,bits _ IU,bits _ IV,bits _ wz,(by rw[one,Int.mul_one];exact aF bD (by decide)),(by omega),s12 _ _ hP,s12 _ _ hC,λr z' H3 dr s3 hz'=> ?_⟩
 have Ba:=s12.trans s3
 have nz:=cZ Po z'
 have Nx:bh H3 a' x':=s3 _ _ hx'
 have Mn:bh H3 b' y':=s3 _ _ hy'
 have Pg:bJ x' y' z'=1∨bJ x' y' z'= -1:=by rw[dr.det];exact un'
 have bz:∀i,i<3->(z' i).natAbs<2^666:=λi hi=>by
  obtain⟨ar,ap⟩:=lp.Dl
  have few:=dr.few
  rw[one,Int.mul_one]at few
  have D0:=(fU ab).2.2
  refine lE ev bI ab hB ?_ hi
  have AQ:1<=ao m x' y':=ap
  have k1:aN m z'<=ao m x' y'*aN m z':=by
   have:=Int.mul_le_mul_of_nonneg_right AQ nz
   omega
  have k2:4*(ao m x' y'*aN m z')<=4*(ao m x' y'*(aA m+aN m y')):=by
   have e1:ao m x' y'*(aA m+aN m y')=ao m x' y'*aA m+ao m x' y'*aN m y':=Int.mul_add ..
   have e2:1*aA m<=ao m x' y'*aA m:=Int.mul_le_mul_of_nonneg_right AQ (Int.le_of_lt D0)
   have e3:0<=ao m x' y'*aN m y':=Int.mul_nonneg (by omega) ny
   omega
  have k3:aN m z'<=aA m+aN m y':=Int.le_of_mul_le_mul_left (a:=ao m x' y') (by omega) ap
  omega
 refine⟨_,rfl,_,rfl,t,bs,m,r,z',rfl,hT.same Ba,bI,hB.mono (by decide),hz',b1 _ bz,Ba _ _ hP,λH4 s4=> ?_⟩
 refine⟨_,rfl,_,rfl,t,bs,m,b',y',rfl,hT.same (Ba.trans s4),bI,hB.mono (by decide),s4 _ _ Mn,b1 _ (bits _ IV),(Ba.trans s4) _ _ hP,λH5 s5=> ?_⟩
 have Ic:=s4.trans s5
 have Kg:=Ba.trans Ic
 have ez:=di ev z'
 have ey:=di ev y'
 refine⟨_,_,rfl,rfl,_,rfl,jC (λcd=> ?_) (λcd=> ?_)⟩
 ·have cd:aE m y'<=aE m z':=of_decide_eq_true cd
  refine⟨_,rfl,_,rfl,_,rfl,(by show 3<=sizeLine;decide),λR hR=> ?_⟩
  have uR:=ay.up (o:= .lst [.ref a',.ref b',.ref r]) hR
  have Mp:=Ic.trans uR
  exact q R a' b' r x' y' z' _ (Fz lp dr un' (by show au m y' y'<=au m z' z';omega)) (Kg.trans uR) (Kg.none hR) av (Mp _ _ Nx) (Mp _ _ Mn) (Mp _ _ hz')
 ·have cd:¬aE m y'<=aE m z':=λw=>cd (decide_eq_true w)
  have lt:aN m z'<aN m y':=by show au m z' z'<au m y' y';omega
  refine⟨_,rfl,_,rfl,_,rfl,_,rfl,(by show 3<=sizeLine;decide),λL hL=> ?_⟩
  have uL:=ay.up (o:= .lst [.ref a',.ref b',.ref r]) hL
  have Mq:=Ic.trans uL
  obtain⟨o1,o2,o3⟩:=ord (Mq _ _ Nx) (Mq _ _ Mn) (Mq _ _ hz') Pg IU IV (by omega)
  have Ib:=Kg.trans uL
  refine⟨t,bs,m,L,[a',b',r],_,rfl,hT.same Ib,bI,hB,av,(by show 3<64;decide),o1,o2,Ib _ _ hP,Ib _ _ hC,λHn zs sn pz so R hR=> ?_⟩
  obtain⟨p1,q1,r1,x1,y1,z1,rfl,KW,hy1,hz1,Ph,Pj,Pk,Pn,sum⟩:=o3 zs pz so
  have uR:=ay.up (o:= .lst ([p1,q1,r1].map V.ref)) hR
  have s6:=sn.trans uR
  have KW:=s6 _ _ KW
  have hy1:=s6 _ _ hy1
  have hz1:=s6 _ _ hz1
  have eR:upd Hn R (.lst ([p1,q1,r1].map V.ref)) R=some (.lst [.ref p1,.ref q1,.ref r1]):=av
  refine⟨R,[.ref p1,.ref q1,.ref r1],rfl,aU.of eR,rfl,_,_,rfl,_,_,rfl,_,_,rfl,rfl,?_⟩
  refine⟨⟨p1,q1,r1,x1,y1,z1,rfl,Ib.trans s6,KW,hy1,hz1,Ph,Pj,Pk,Pn⟩,?_⟩
  have m1:=nT (m:=m) (i:=1) (σ:=[some (.ref t),some (.ref p1),some (.ref q1),some (.ref r1)]) (by rfl) KW
  have m2:=nT (m:=m) (i:=2) (σ:=[some (.ref t),some (.ref p1),some (.ref q1),some (.ref r1)]) (by rfl) hy1
  have m3:=nT (m:=m) (i:=1) (σ:=[some (.ref t),some (.ref a),some (.ref b),some (.ref c)]) (by rfl) hx
  have m4:=nT (m:=m) (i:=2) (σ:=[some (.ref t),some (.ref a),some (.ref b),some (.ref c)]) (by rfl) hy
  show Dj m 1 [some (.ref t),some (.ref p1),some (.ref q1),some (.ref r1)] (upd Hn R (.lst ([p1,q1,r1].map V.ref)))+Dj m 2 [some (.ref t),some (.ref p1),some (.ref q1),some (.ref r1)] (upd Hn R (.lst ([p1,q1,r1].map V.ref)))<Dj m 1 [some (.ref t),some (.ref a),some (.ref b),some (.ref c)] H'+Dj m 2 [some (.ref t),some (.ref a),some (.ref b),some (.ref c)] H'
  rw[m1,m2,m3,m4]
  have n1:0<=au m x1 x1:=cZ Po x1
  have n2:0<=au m y1 y1:=cZ Po y1
  have n3:0<=au m x x:=cZ Po x
  have n4:0<=au m y y:=cZ Po y
  have ps:au m x' x'+au m y' y'<=au m x x+au m y y:=pr.sum
  have sm:au m x1 x1+au m y1 y1<=au m x' x'+au m z' z':=sum
  have lt:au m z' z'<au m y' y':=lt
  omega
inductive DB(T2 T1 T0:Addr)(vs:List V)(H:Hp)(Q:VK)(E:XK):Prop
 |mk(t:Addr)(bs:List Addr)(m:List (List Int))(_:vs=[.ref t])(_:Tab H t bs m)(_:cg m)(_:Bd 440 m)(_:bV m)(_:bC m=true)(_:(aA m).natAbs<2^440)(_:H T2=some (dH T2))(_:H T1=some (dH T1))(_:H T0=some .vE)(_:∀u us r rs B P H',nF (fm m B) ->(aA B=1∨aA B= -1) ->aA (fm m B)=aA m->cg B->Bd 700 B->ay H H'->H' P=some (.tup [.ref u,.ref r]) ->Tab H' u us (fm m B) ->Tab H' r rs B->Q (.ref P) H')
theorem FJ{aG aY bQ:Addr}(F:eG K mg "near" yi qB)(kj:dg P w K mg base cV 9 "near_basis" f9 (zU aG aY))(oA:dg P w K mg base cV 9 "carried" jI (tK bQ)):dg P w K mg base cV 10 "near" qB (DB bQ aG aY):=by
 refine F.ok zQ (λvs H Q E h=> ?_) (λf cdv A outer s H vs Q E hr h=> ?_)
 ·obtain⟨t,bs,m,rfl,hT,bI,hB,ev,ab,bD,hM,hP,hC,q⟩:=h
  rfl
 obtain⟨t,bs,m,rfl,hT,bI,hB,ev,ab,bD,hM,hP,hC,q⟩:=h
 have hu:=hr.units
 refine⟨_,(kM (@ak _ _ _ _ _ (aC (i:=1) zQ.nd rfl (Or.inl rfl) (aR kj hr rfl aQ (af (pv 0) aj)))
  (@aL _ _ _ (aW (mq (af (aR oA hr rfl aQ (af (pv 0) (af (pv 1) aj))) (af (pv 1) aj))))))),?_⟩
 have Po:=eZ (cX ev bI) ab
 refine⟨_,rfl,t,bs,m,rfl,hT,bI,hB,ev,ab,bD,hP,hC,λr a b c x y z H1 nr s1 fr er hx hy hz=> ?_⟩
 obtain⟨f1,f2,f3⟩:=Dr nr
 have bits:∀v:Nat->Int,3*aN m v<=16*aA m-> ∀i,i<3->(v i).natAbs<2^666:=λv hv i hi=>lE ev bI ab hB (by have:=cZ Po v;omega) hi
 obtain⟨nt,un,dt⟩:=yc ev bI ab nr
 have TB:Tab H1 r [a,b,c] (dN x y z):=gB (λi j=>if i=0 then x j else if i=1 then y j else z j) er hx hy hz
 have bB:Bd 666 (dN x y z):=λi j hi hj=>by
  obtain⟨g0,g1,g2⟩:=lZ x y z hj
  rcases bK hi with rfl|rfl|rfl
  ·rw[g0];exact bits x f1 j hj
  ·rw[g1];exact bits y f2 j hj
  ·rw[g2];exact bits z f3 j hj
 refine⟨_,rfl,_,rfl,t,bs,m,r,[a,b,c],dN x y z,rfl,hT.same s1,TB,bI,cy _,hB.mono (by decide),bB.mono (by decide),s1 _ _ hM,λu us H2 s2 fu Mi nu Tu=> ?_⟩
 refine⟨_,rfl,(by show 2<=sizeLine;decide),λP Mm=> ?_⟩
 have uP:=ay.up (o:= .tup [.ref u,.ref r]) Mm
 exact q u us r [a,b,c] (dN x y z) P _ nt un dt (cy _) (bB.mono (by decide)) (s1.trans (s2.trans uP)) av (Tu.same uP) ((TB.same s2).same uP)
end
end CM
namespace L2
open PySem PySem.Spec PyProof.Rows
section
variable{X:Cx}
def Kh:V->List V->Hp->VK->Prop:=λx vs H Q=> ∃i:Int,x= .int i/\vs=[]/\Q (.int ((Builtin.Int.intBits i:Nat):Int)) H
theorem FL:LA X "int.bit_length" Kh:=by
 intro pins s σ H x vs v us Q I rx rv h
 obtain⟨i,rfl,rfl,q⟩:=h
 obtain⟨t,rfl⟩:=rx
 have Pq:=rv.zero
 subst Pq
 exact PyProof.Rows.call_int_bit_length ⟨.int _,H,I.tok _,⟨_,rfl⟩,q⟩
end
theorem wG{N:Int}(h:0<=N):N<2^(Builtin.Int.intBits N):=by
 unfold Builtin.Int.intBits
 by_cases c:(N==0)=true
 ·rw[if_pos c]
  have:N=0:=by simpa using c
  subst this
  decide
 ·rw[if_neg c]
  have n0:N.natAbs≠0:=by
   have:¬N=0:=by simpa using c
   omega
  have:=Nat.lt_log2_self (n:=N.natAbs)
  have e:((2^(N.natAbs.log2+1):Nat):Int)=2^(N.natAbs.log2+1):=by push_cast;rfl
  omega
theorem yt{N:Int}(h:0<=N){r:Int}(r0:0<=r)(hr:r*r<=N):r<=1*2^((((Builtin.Int.intBits N:Nat):Int)+1)/2).toNat:=by
 have b:=wG h
 generalize Builtin.Int.intBits N=k at b ⊢
 have e:(((k:Int)+1)/2).toNat=(k+1)/2:=by omega
 rw[e,Int.one_mul]
 refine Int.le_of_lt_add_one (Int.lt_of_not_ge λz=> ?_)
 have p0:(0:Int)<=2^((k+1)/2):=Int.le_of_lt (Int.pow_pos (by decide))
 have s:((2:Int)^((k+1)/2)+1)*(2^((k+1)/2)+1)<=r*r:=Int.mul_le_mul z z (by omega) r0
 have q:(2:Int)^k<=2^((k+1)/2)*2^((k+1)/2):=by
  rw[<-Int.pow_add]
  exact_mod_cast Nat.pow_le_pow_right (n:=2) (by decide) (show k<=(k+1)/2+(k+1)/2 by omega)
 have e2:((2:Int)^((k+1)/2)+1)*(2^((k+1)/2)+1)=2^((k+1)/2)*2^((k+1)/2)+2*2^((k+1)/2)+1:=by grind
 omega
theorem Bb{N t:Int}(t0:0<t)(h:N<t*t)(N0:0<=N):(∀r,0<=r->r*r<=N->r<=(t+N/t)/2)/\(t+N/t)/2<t/\0<=(t+N/t)/2:=by
 have q0:0<=N/t:=Int.ediv_nonneg N0 (Int.le_of_lt t0)
 refine⟨λr r0 hr=> ?_,?_,by omega⟩
 ·have k:(2*r-t)*t<=N:=by
   have s:=bf (t-r)
   have e:(t-r)*(t-r)=t*t-2*(r*t)+r*r:=by grind
   have e2:(2*r-t)*t=2*(r*t) -t*t:=by grind
   omega
  have:2*r-t<=N/t:=(Int.le_ediv_iff_mul_le t0).mpr k
  omega
 ·have:N/t<t:=(Int.ediv_lt_iff_lt_mul t0).mpr h
  omega
theorem Bc{N t:Int}(t0:0<=t)(h:¬N<t*t)(up:∀r,0<=r->r*r<=N->r<=t):t*t<=N/\N<(t+1)*(t+1):=by
 refine⟨by omega,Int.lt_of_not_ge λz=> ?_⟩
 have:=up (t+1) (by omega) z
 omega
theorem tM{N a b:Int}(a0:0<=a)(b0:0<=b)(h1:a*a<=N)(h2:N<(b+1)*(b+1)):a<=b:=by
 refine Int.le_of_lt_add_one (Int.lt_of_not_ge λz=> ?_)
 have:=Int.mul_le_mul z z (show 0<=b+1 by omega) a0
 omega
end L2
set_option maxHeartbeats 1000000
namespace CM
open PySem L2
section
variable{P:Program}{w:World}{K:PySem.W.Frag}{mg:Str->Option Value}{base:Heap}
inductive yu(vs:List V)(H:Hp)(Q:VK)(E:XK):Prop
 |mk(N:Int)(_:vs=[.int N])(_:0<=N)(_:N.natAbs<2^200)(_:∀r:Int,0<=r->r*r<=N->N<(r+1)*(r+1) ->Q (.int r) H)
theorem FN(F:eG K mg "root" yj n9):dg P w K mg base cV 1 "root" n9 yu:=by
 refine F.ok uE (λvs H Q E h=> ?_) (λf cdv A outer s H vs Q E hr h=> ?_)
 ·obtain⟨N,rfl,N0,bN,q⟩:=h
  rfl
 obtain⟨N,rfl,N0,bN,q⟩:=h
 have hu:=hr.units
 refine⟨_,(kM (@ak _ _ _ _ _ (aC (i:=1) uE.nd rfl (Or.inl rfl) (ai Hl ah (ai br (ai aI (Hv PySem.F.plainAttrs_int PyProof.Rows.slot_int_bit_length PyProof.Rows.type_int_bit_length FL (pv 0)) ah) ah)))
  (@ak _ _ _ _ _ (jB PassesOwn.never (cF qh (ai aB (pv 1) (pv 1)) (pv 0) (cK _)) (dz (aC (i:=1) uE.nd rfl (Or.inl rfl) (ai br (ai aI (pv 1) (ai ni (pv 0) (pv 1))) ah))))
  (@aL _ _ _ (aW (pv 1)))))),?_⟩
 have b0:=wG N0
 have bits:Builtin.Int.intBits N<=200:=by
  unfold Builtin.Int.intBits
  split
  ·omega
  ·rename_i c
   have n0:N.natAbs≠0:=by
    have:¬N=0:=by simpa using c
    omega
   have:=(Nat.log2_lt n0).mpr bN
   omega
 have start:=λr r0 hr=>yt N0 (r:=r) r0 hr
 have t0:(0:Int)<1*2^((((Builtin.Int.intBits N:Nat):Int)+1)/2).toNat:=by
  rw[Int.one_mul]
  exact Int.pow_pos (by decide)
 have t1:(1*2^((((Builtin.Int.intBits N:Nat):Int)+1)/2).toNat:Int).natAbs<2^110:=by
  have e:(((Builtin.Int.intBits N:Int))+1)/2<=100:=by omega
  rw[Int.one_mul,Int.natAbs_pow]
  exact Nat.pow_lt_pow_right (by decide) (by omega)
 refine⟨_,rfl,rfl,⟨N,rfl,rfl,_,_,rfl,rfl,_,_,rfl,rfl,⟨by decide,by decide⟩,_,_,rfl,rfl,⟨by omega,by omega,by decide⟩,?_⟩⟩
 have t0:=Int.le_of_lt t0
 refine kW (λσ H'=>H'=H/\ ∃t:Int,σ=[some (.int N),some (.int t)]/\0<=t/\t.natAbs<2^110/\ ∀r,0<=r->r*r<=N->r<=t) (λσ _=>match σ with| [_,some (.int t)]=>t.toNat|_=>0) ⟨rfl,_,rfl,t0,t1,start⟩ (λσ H' hh=> ?_) ?_
 rotate_left
 ·rintro σ H' Q Q' h ⟨v,e,v2,e',i,j,e1,e2,c,v3,e3,a,b,e4,e5,k,ek,kk⟩
  exact⟨v,e,v2,e',i,j,e1,e2,c,v3,e3,a,b,e4,e5,k,ek,h _ _ kk⟩
 obtain⟨rfl,t,rfl,t0,t1,up⟩:=hh
 refine⟨_,rfl,_,rfl,_,_,rfl,rfl,⟨aF t1 (by decide),aF t1 (by decide)⟩,_,rfl,_,_,rfl,rfl,_,rfl,jC (λc=> ?_) (λc=> ?_)⟩
 ·have c:N<t*t:=of_decide_eq_true c
  have tp:0<t:=by
   rcases Int.lt_or_le 0 t with z|z
   ·exact z
   ·exfalso
    have:t=0:=by omega
    rw[this]at c
    omega
  obtain⟨s1,s2,s3⟩:=Bb tp c N0
  have lg:t.natAbs.log2<9000:=(Nat.log2_lt (by omega)).mpr (Nat.lt_of_lt_of_le t1 (Nat.pow_le_pow_right (by decide) (by decide)))
  refine⟨_,rfl,_,rfl,_,rfl,_,_,rfl,rfl,⟨tp,lg⟩,_,_,rfl,rfl,_,_,rfl,rfl,⟨by decide,by decide⟩,⟨rfl,_,rfl,s3,by omega,s1⟩,?_⟩
  show((t+N/t)/2).toNat<t.toNat
  omega
 ·have c:¬N<t*t:=λz=>c (decide_eq_true z)
  obtain⟨d1,d2⟩:=Bc t0 c up
  exact⟨_,rfl,q t t0 d1 d2⟩
end
end CM
namespace L2
open PySem PySem.Spec PyProof.Rows
def cR(N:List (List Int)):Int:=ent N 0 0*ent N 1 1-ent N 0 1*ent N 0 1
def gK(N:List (List Int)):Int:=ent N 0 0*ent N 1 2-ent N 0 1*ent N 0 2
def hiT(N:List (List Int)):Int:=ent N 0 0*ent N 2 2-ent N 0 2*ent N 0 2
def kP(N:List (List Int))(n y z:Int):Int:=2*n*ent N 0 0- (cR N*y*y+2*gK N*y*z+hiT N*z*z)
def mR(N:List (List Int))(y z:Int):Int:=ent N 0 1*y+ent N 0 2*z
theorem l7{N:List (List Int)}(ev:bV N):cR N*hiT N-gK N*gK N=ent N 0 0*aA N:=by
 have Fw:ent N 1 0=ent N 0 1:=ev.sym.1
 have Fx:ent N 2 0=ent N 0 2:=ev.sym.2.1
 have Fy:ent N 2 1=ent N 1 2:=ev.sym.2.2
 rw[cO,Fw,Fx,Fy]
 unfold cR hiT gK
 grind
theorem qK{N:List (List Int)}(ev:bV N)(pos:0<ent N 0 0)(fl:0<cR N)(n y z:Int):0<=kP N n y z↔(cR N*y+gK N*z)*(cR N*y+gK N*z)<=cR N*(2*n*ent N 0 0) -ent N 0 0*aA N*z*z:=by
 have fh:=l7 ev
 have id:cR N*kP N n y z=cR N*(2*n*ent N 0 0) -ent N 0 0*aA N*z*z- (cR N*y+gK N*z)*(cR N*y+gK N*z):=by
  unfold kP
  rw[<-fh]
  generalize cR N=f,gK N=b,hiT N=h,2*n*ent N 0 0=w
  grind
 constructor
 ·intro h
  have:=Int.mul_nonneg (Int.le_of_lt fl) h
  omega
 ·intro h
  have h2:0<=cR N*kP N n y z:=by omega
  rcases Int.lt_or_le (kP N n y z) 0 with c|c
  ·exfalso
   have:=Int.mul_lt_mul_of_pos_left c fl
   omega
  ·exact c
theorem nM{N x s:Int}(s0:0<=s)(h1:s*s<=N)(h2:N<(s+1)*(s+1)):x*x<=N↔ -s<=x/\x<=s:=by
 constructor
 ·intro h
  rcases Int.le_total 0 x with c|c
  ·have:=tM c s0 h h2
   omega
  ·have:(-x)*(-x)<=N:=by
    have e:(-x)*(-x)=x*x:=by grind
    omega
   have:=tM (a:= -x) (by omega) s0 this h2
   omega
 ·rintro⟨a,b⟩
  have:=lG a b
  omega
theorem ko{f b z s y:Int}(hf:0<f):(-s<=f*y+b*z/\f*y+b*z<=s)↔(-((s+b*z)/f)<=y/\y<(s-b*z)/f+1):=by
 have e1:y<=(s-b*z)/f↔y*f<=s-b*z:=Int.le_ediv_iff_mul_le hf
 have e2: -y<=(s+b*z)/f↔ -y*f<=s+b*z:=Int.le_ediv_iff_mul_le hf
 have c1:y*f=f*y:=Int.mul_comm ..
 have c2: -y*f= -(f*y):=by rw[Int.neg_mul,c1]
 rw[c1]at e1
 rw[c2]at e2
 constructor
 ·rintro⟨h1,h2⟩
  have:=e1.mpr (by omega)
  have:=e2.mpr (by omega)
  omega
 ·rintro⟨h1,h2⟩
  have:=e1.mp (by omega)
  have:=e2.mp (by omega)
  omega
theorem aS{N:List (List Int)}(D:0<aA N)(fl:0<cR N){n R z:Int}(R0:0<=R)(h1:R*R<=2*n*cR N/aA N)(h2:2*n*cR N/aA N<(R+1)*(R+1)):(-R<=z/\z<=R)↔aA N*z*z<=2*n*cR N:=by
 rw[<-nM R0 h1 h2,Int.le_ediv_iff_mul_le D]
 have e:z*z*aA N=aA N*z*z:=by grind
 rw[e]
theorem gA{N:List (List Int)}(h:nF N)(dD:aA N<=401):0<cR N/\0<aA N/\2<=ent N 0 0/\ent N 0 0<=2200/\ent N 1 1<=2200/\ent N 2 2<=2200/\3*cR N<=8*aA N/\3*ent N 0 0<=2*cR N:=by
 obtain⟨c1,c2,c3⟩:=fU h.ab
 have p:=h.pos
 have l1:=h.KP
 have l2:=h.KQ
 obtain⟨_,a,b,c,ea,eb,ec⟩:=h.ev
 have f:=h.few
 have a2:2<=ent N 0 0:=by omega
 have b2:2<=ent N 1 1:=by omega
 have Pu:2<=ent N 2 2:=by omega
 have k1:2*2<=ent N 0 0*ent N 1 1:=Int.mul_le_mul a2 b2 (by omega) (by omega)
 have k2:4*ent N 2 2<=ent N 0 0*ent N 1 1*ent N 2 2:=Int.mul_le_mul_of_nonneg_right (by omega) (by omega)
 have sq:=lG h.p.1 h.p.2
 have e4:2*ent N 0 1*(2*ent N 0 1)=4*(ent N 0 1*ent N 0 1):=by grind
 have aa:ent N 0 0*ent N 0 0<=ent N 0 0*ent N 1 1:=Int.mul_le_mul_of_nonneg_left l1 (by omega)
 have s0:=bf (ent N 0 1)
 have k3:ent N 0 0*ent N 1 1*2<=ent N 0 0*ent N 1 1*ent N 2 2:=Int.mul_le_mul_of_nonneg_left Pu (by omega)
 have k4:ent N 0 0*2<=ent N 0 0*ent N 1 1:=Int.mul_le_mul_of_nonneg_left b2 (by omega)
 unfold cR
 refine⟨by omega,c3,a2,by omega,by omega,by omega,by omega,by omega⟩
theorem DC{N:List (List Int)}(h:nF N)(dD:aA N<=401){n R:Int}(n0:0<=n)(n6:n<=600)(R0:0<=R)(h1:R*R<=2*n*cR N/aA N):R<=60:=by
 obtain⟨f0,d0,_,_,_,_,k,_⟩:=gA h dD
 have:2*n*cR N/aA N<=3200:=by
  refine Int.le_of_lt_add_one ((Int.ediv_lt_iff_lt_mul d0).mpr ?_)
  have e:2*n*cR N<=1200*cR N:=Int.mul_le_mul_of_nonneg_right (by omega) (Int.le_of_lt f0)
  omega
 refine Int.le_of_lt_add_one (Int.lt_of_not_ge λz=> ?_)
 have:=Int.mul_le_mul z z (by decide) R0
 omega
theorem FO{N:List (List Int)}(h:nF N)(dD:aA N<=401){n z s:Int}(n0:0<=n)(n6:n<=600)(s0:0<=s)(h1:s*s<=cR N*(2*n*ent N 0 0) -ent N 0 0*aA N*z*z):s<=30*cR N:=by
 obtain⟨f0,d0,a2,_,_,_,_,k⟩:=gA h dD
 have zz:0<=ent N 0 0*aA N*z*z:=by
  have:=Int.mul_nonneg (Int.mul_nonneg (show 0<=ent N 0 0 by omega) (Int.le_of_lt d0)) (bf z)
  rw[<-Int.mul_assoc]at this
  exact this
 have w:2*n*ent N 0 0<=1200*ent N 0 0:=Int.mul_le_mul_of_nonneg_right (by omega) (by omega)
 have w2:2*n*ent N 0 0<=800*cR N:=by omega
 have w3:cR N*(2*n*ent N 0 0)<=cR N*(800*cR N):=Int.mul_le_mul_of_nonneg_left w2 (Int.le_of_lt f0)
 refine Int.le_of_lt_add_one (Int.lt_of_not_ge λy=> ?_)
 have:=Int.mul_le_mul y y (by omega) s0
 have e1:(30*cR N+1)*(30*cR N+1)=900*(cR N*cR N)+60*cR N+1:=by grind
 have e2:cR N*(800*cR N)=800*(cR N*cR N):=by grind
 have ff:=bf (cR N)
 omega
def gj(z y0:Int)(k:Nat):List (Int×Int):=(List.range k).map λj:Nat=>(y0+(j:Int),z)
def eF(lo:Int->Int)(ln:Int->Nat)(R:Int)(m:Nat):List (Int×Int):=(List.range m).flatMap λi:Nat=>gj ((i:Int) -R) (lo ((i:Int) -R)) (ln ((i:Int) -R))
theorem qL{z y0:Int}{k:Nat}{p:Int×Int}:p∈gj z y0 k↔p.2=z/\y0<=p.1/\p.1<y0+k:=by
 obtain⟨y,z'⟩:=p
 simp only[gj,List.mem_map,List.mem_range,Prod.mk.injEq]
 constructor
 ·rintro⟨j,hj,rfl,rfl⟩
  exact⟨rfl,by omega,by omega⟩
 ·rintro⟨rfl,h1,h2⟩
  exact⟨(y-y0).toNat,by omega,by omega,rfl⟩
theorem uM{z y0:Int}{k:Nat}:(gj z y0 k).Nodup:=by
 unfold gj List.Nodup
 rw[List.pairwise_map]
 refine List.Pairwise.imp ?_ (List.nodup_range (n:=k))
 intro a b h e
 have:=(Prod.mk.inj e).1
 omega
theorem wH{z y0:Int}{k:Nat}:gj z y0 (k+1)=gj z y0 k++ [(y0+(k:Int),z)]:=by
 simp[gj,List.range_succ]
theorem kq{lo:Int->Int}{ln:Int->Nat}{R:Int}{m:Nat}:eF lo ln R (m+1)=eF lo ln R m++gj ((m:Int) -R) (lo ((m:Int) -R)) (ln ((m:Int) -R)):=by
 simp[eF,List.range_succ]
theorem pG{lo:Int->Int}{ln:Int->Nat}{R:Int}{m:Nat}{p:Int×Int}:p∈eF lo ln R m↔(-R<=p.2/\p.2<m-R)/\lo p.2<=p.1/\p.1<lo p.2+ln p.2:=by
 simp only[eF,List.mem_flatMap,List.mem_range,qL]
 constructor
 ·rintro⟨i,hi,e,h1,h2⟩
  rw[e]
  exact⟨⟨by omega,by omega⟩,h1,h2⟩
 ·rintro⟨⟨a,b⟩,h1,h2⟩
  have e:p.2=((p.2+R).toNat:Int) -R:=by omega
  exact⟨(p.2+R).toNat,by omega,e,e▸h1,e▸h2⟩
theorem rP{lo:Int->Int}{ln:Int->Nat}{R:Int}{m:Nat}:(eF lo ln R m).Nodup:=by
 induction m with
 |zero=>simp[eF]
 |succ m ih=>
  rw[kq,List.nodup_append]
  refine⟨ih,uM,?_⟩
  intro a ha b hb e
  have h1:=(pG.mp ha).1.2
  have h2:=(qL.mp hb).1
  rw[e,h2]at h1
  omega
theorem qM{lo:Int->Int}{ln:Int->Nat}{R:Int}{m L:Nat}(h:∀i:Nat,i<m->ln ((i:Int) -R)<=L):(eF lo ln R m).length<=m*L:=by
 induction m with
 |zero=>simp[eF]
 |succ m ih=>
  rw[kq,List.length_append,Nat.succ_mul]
  have h1:=ih λi hi=>h i (by omega)
  have h2:=h m (by omega)
  simp only[gj,List.length_map,List.length_range]
  omega
theorem wI{N:List (List Int)}(ev:bV N)(pos:0<ent N 0 0)(fl:0<cR N)(D:0<aA N){n R:Int}(R0:0<=R)(h1:R*R<=2*n*cR N/aA N)(h2:2*n*cR N/aA N<(R+1)*(R+1)){sp:Int->Int}(s0:∀z,-R<=z->z<=R->0<=sp z/\sp z*sp z<=cR N*(2*n*ent N 0 0) -ent N 0 0*aA N*z*z/\cR N*(2*n*ent N 0 0) -ent N 0 0*aA N*z*z<(sp z+1)*(sp z+1))(y z:Int):
  (y,z)∈eF (λz=> -((sp z+gK N*z)/cR N)) (λz=>((sp z-gK N*z)/cR N+1- -((sp z+gK N*z)/cR N)).toNat) R (2*R+1).toNat↔0<=kP N n y z:=by
 rw[pG]
 simp only
 have zr:=aS D fl (n:=n) (z:=z) R0 h1 h2
 constructor
 ·rintro⟨⟨a,b⟩,c,d⟩
  have zb:z<=R:=by omega
  obtain⟨t0,t1,t2⟩:=s0 z a zb
  rw[qK ev pos fl,nM t0 t1 t2]
  refine(ko fl).mpr ⟨c,?_⟩
  omega
 ·intro h
  rw[qK ev pos fl]at h
  have zz:aA N*z*z<=2*n*cR N:=by
   have q:=bf (cR N*y+gK N*z)
   have e:ent N 0 0*(aA N*z*z)<=ent N 0 0*(2*n*cR N):=by
    have:ent N 0 0*aA N*z*z=ent N 0 0*(aA N*z*z):=by grind
    have:cR N*(2*n*ent N 0 0)=ent N 0 0*(2*n*cR N):=by grind
    omega
   exact Int.le_of_mul_le_mul_left e pos
  obtain⟨a,b⟩:=zr.mpr zz
  obtain⟨t0,t1,t2⟩:=s0 z a b
  rw[nM t0 t1 t2]at h
  obtain⟨c,d⟩:=(ko fl).mp h
  refine⟨⟨a,by omega⟩,c,by omega⟩
theorem Ie{X r r':Int}(h0:0<=r)(h1:r*r<=X)(h2:X<(r+1)*(r+1))(g0:0<=r')(g1:r'*r'<=X)(g2:X<(r'+1)*(r'+1)):r=r':=by
 rcases Int.lt_trichotomy r r' with c|c|c
 ·have:(r+1)*(r+1)<=r'*r':=Int.mul_le_mul (by omega) (by omega) (by omega) (by omega)
  omega
 ·exact c
 ·have:(r'+1)*(r'+1)<=r*r:=Int.mul_le_mul (by omega) (by omega) (by omega) (by omega)
  omega
open Classical in
noncomputable def kr(X:Int):Int:=if h:∃r:Int,0<=r/\r*r<=X/\X<(r+1)*(r+1)then Classical.choose h else 0
theorem uN{X r:Int}(h0:0<=r)(h1:r*r<=X)(h2:X<(r+1)*(r+1)):kr X=r:=by
 have h:∃r:Int,0<=r/\r*r<=X/\X<(r+1)*(r+1):=⟨r,h0,h1,h2⟩
 unfold kr
 rw[dif_pos h]
 obtain⟨g0,g1,g2⟩:=Classical.choose_spec h
 exact Ie g0 g1 g2 h0 h1 h2
theorem Be(n:Nat):∃r:Int,0<=r/\r*r<=(n:Int)/\(n:Int)<(r+1)*(r+1):=by
 induction n with
 |zero=>exact⟨0,by decide,by decide,by decide⟩
 |succ n ih=>
  obtain⟨r,h0,h1,h2⟩:=ih
  by_cases c:((n+1:Nat):Int)<(r+1)*(r+1)
  ·exact⟨r,h0,by omega,c⟩
  ·refine⟨r+1,by omega,by omega,?_⟩
   have e:(r+1+1)*(r+1+1)=(r+1)*(r+1)+2*r+3:=by grind
   omega
theorem oB{X:Int}(h:0<=X):0<=kr X/\kr X*kr X<=X/\X<(kr X+1)*(kr X+1):=by
 obtain⟨r,h0,h1,h2⟩:=Be X.toNat
 have e:(X.toNat:Int)=X:=Int.toNat_of_nonneg h
 rw[e]at h1 h2
 rw[uN h0 h1 h2]
 exact⟨h0,h1,h2⟩
def SD(D:Addr)(H H':Hp):Prop:=∀a o,a≠D->H a=some o->H' a=some o
theorem SD.refl{D:Addr}{H:Hp}:SD D H H:=λ_ _ _ e=>e
theorem SD.trans{D:Addr}{H H' JY:Hp}(h:SD D H H')(h':SD D H' JY):SD D H JY:=λa o n e=>h' a o n (h a o n e)
theorem SD.of{D:Addr}{H H':Hp}(s:ay H H'):SD D H H':=λa o _ e=>s _ _ e
theorem SD.upd{D:Addr}{H H':Hp}{o:HO}(h:SD D H H'):SD D H (upd H' D o):=λa o n e=>by rw[aH n];exact h a o n e
theorem SD.same{D:Addr}{H H':Hp}(h:SD D H H')(f:H D=none):ay H H':=λa o e=>h a o (λz=>by rw[z,f]at e;cases e) e
def Kl(N:List (List Int))(n:Int)(p:Int×Int):List V:=[.int p.1,.int p.2,.int (mR N p.1 p.2),.int (kP N n p.1 p.2)]
inductive c9(H:Hp)(N:List (List Int))(n:Int):List V->List (Int×Int) ->Prop
 |nil:c9 H N n [] []
 |cons{a:Addr}{us:List V}{p:Int×Int}{ps:List (Int×Int)}:H a=some (.tup (Kl N n p)) ->c9 H N n us ps->c9 H N n (.ref a::us) (p::ps)
theorem c9.same{H H':Hp}{N:List (List Int)}{n:Int}{us:List V}{ps:List (Int×Int)}(s:ay H H')(h:c9 H N n us ps):c9 H' N n us ps:=by
 induction h with
 |nil=>exact .nil
 |cons e _ ih=>exact .cons (s _ _ e) ih
theorem c9.upd{H:Hp}{N:List (List Int)}{n:Int}{us:List V}{ps:List (Int×Int)}{D:Addr}{xs:List V}{o:HO}(hD:H D=some (.lst xs))(h:c9 H N n us ps):c9 (upd H D o) N n us ps:=by
 induction h with
 |nil=>exact .nil
 |cons e _ ih=>exact .cons (by rw[aH (λz=>by rw[z,hD]at e;cases e)];exact e) ih
theorem c9.append{H:Hp}{N:List (List Int)}{n:Int}{us us':List V}{ps ps':List (Int×Int)}(h:c9 H N n us ps)(h':c9 H N n us' ps'):c9 H N n (us++us') (ps++ps'):=by
 induction h with
 |nil=>exact h'
 |cons e _ ih=>exact .cons e ih
theorem c9.length{H:Hp}{N:List (List Int)}{n:Int}{us:List V}{ps:List (Int×Int)}(h:c9 H N n us ps):us.length=ps.length:=by
 induction h with
 |nil=>rfl
 |cons _ _ ih=>simp[ih]
theorem kR{a b:Int}{A B:Nat}(ha:a.natAbs<=A)(hb:b.natAbs<=B):(a*b).natAbs<=A*B:=by
 rw[Int.natAbs_mul]
 exact Nat.mul_le_mul ha hb
theorem Km{x f:Int}(hf:0<f)(h:x.natAbs<=10000000000):(x/f).natAbs<=10000000000:=by
 have h1: -10000000000<=x/f:=(Int.le_ediv_iff_mul_le hf).mpr (by omega)
 have h2:x/f<10000000000+1:=(Int.ediv_lt_iff_lt_mul hf).mpr (by omega)
 omega
theorem Ny{x:Int}(h:x.natAbs<=10^30):x.natAbs<2^4096:=Nat.lt_of_le_of_lt h (Nat.lt_of_lt_of_le (m:=2^100) (by decide) (Nat.pow_le_pow_right (by decide) (by decide)))
theorem iY{te:TE}{i:Nat}{b:TS}{D:Ends}{σ:St}{H H':Hp}{v:V}(h:∀R:VK,R v H'->te σ H R)(k:b D (σ.set i (some v)) H'):tZ (Ac te (cS i)) b D σ H:=h _ k
end L2
set_option maxHeartbeats 1000000
namespace CM
open PySem L2
section
variable{P:Program}{w:World}{K:PySem.W.Frag}{mg:Str->Option Value}{base:Heap}
inductive wJ(vs:List V)(H:Hp)(Q:VK)(E:XK):Prop
 |mk(t:Addr)(bs:List Addr)(N:List (List Int))(n:Int)(_:vs=[.ref t,.int n])(_:Tab H t bs N)(_:cg N)(_:bV N)(_:Bd 700 N)(_:nF N)(_:aA N<=401)(_:0<=n)(_:n<=600)(_:∀(u:Addr) (us:List V) (L:List (Int×Int)) (H':Hp),ay H H'->H' u=some (.lst us) ->c9 H' N n us L->L.Nodup->(∀y z,(y,z)∈L↔0<=kP N n y z) ->L.length<=7500->Q (.ref u) H')
theorem Bf(F:eG K mg "slices" qC lI)(aS:mg "range"=none)(cQ:dg P w K mg base cV 3 "determinant" dM zS)(mS:dg P w K mg base cV 3 "root" n9 yu):dg P w K mg base cV 4 "slices" lI wJ:=by
 refine F.ok cB (λvs H Q E h=> ?_) (λf cdv A outer s H vs Q E hr h=> ?_)
 ·obtain⟨t,bs,N,n,rfl,hT,bI,ev,bN,NT,dD,n0,n6,q⟩:=h
  rfl
 obtain⟨t,bs,N,n,rfl,hT,bI,ev,bN,NT,dD,n0,n6,q⟩:=h
 have hu:=hr.units
 refine⟨_,(kM (@ak _ _ _ _ _ (jV (pv 0) (iB rfl (aO (iB rfl (aO (aP (i:=2) cB.nd rfl (Or.inl rfl)) (aO (aP (i:=3) cB.nd rfl (Or.inl rfl)) (aO (aP (i:=4) cB.nd rfl (Or.inl rfl)) eW)))) (aO (aP (i:=5) cB.nd rfl (Or.inl rfl)) (aO (aP (i:=6) cB.nd rfl (Or.inl rfl)) eW)))))
  (@ak _ _ _ _ _ (aC (i:=7) cB.nd rfl (Or.inl rfl) (ai bW (ai aB (pv 2) (aD aq (pv 5) ah (λ_ _=>rfl))) (ai aB (pv 3) (pv 3))))
  (@ak _ _ _ _ _ (aC (i:=8) cB.nd rfl (Or.inl rfl) (ai bW (ai aB (pv 2) (aD aq (pv 5) ah (λ_ _=>rfl))) (ai aB (pv 3) (pv 4))))
  (@ak _ _ _ _ _ (aC (i:=9) cB.nd rfl (Or.inl rfl) (ai bW (ai aB (pv 2) (aD aq (pv 6) ah (λ_ _=>rfl))) (ai aB (pv 4) (pv 4))))
  (@ak _ _ _ _ _ (aC (i:=10) cB.nd rfl (Or.inl rfl) (aR cQ hr rfl aQ (af (pv 0) aj)))
  (@ak _ _ _ _ _ (aC (i:=11) cB.nd rfl (Or.inl rfl) (ai aB (ai aB ah (pv 1)) (pv 2)))
  (@ak _ _ _ _ _ (aC (i:=12) cB.nd rfl (Or.inl rfl) (dF aj))
  (@ak _ _ _ _ _ (aC (i:=13) cB.nd rfl (Or.inl rfl) (aR mS hr rfl aQ (af (ai br (ai aB (ai aB ah (pv 1)) (pv 7)) (pv 10)) aj)))
  (@ak _ _ _ _ _ (jb PassesOwn.never rfl (iD rfl aS (af (zd t7 (pv 13)) (af (ai aI (pv 13) ah) aj))) (aP (i:=14) cB.nd rfl (Or.inl rfl)) (kM (@ak _ _ _ _ _ (aC (i:=15) cB.nd rfl (Or.inl rfl) (aR mS hr rfl aQ (af (ai bW (ai aB (pv 7) (pv 11)) (ai aB (ai aB (ai aB (pv 2) (pv 10)) (pv 14)) (pv 14))) aj)))
  (@aL _ _ _ (jb PassesOwn.never rfl (iD rfl aS (af (zd t7 (ai br (ai aI (pv 15) (ai aB (pv 8) (pv 14))) (pv 7))) (af (ai aI (ai br (ai bW (pv 15) (ai aB (pv 8) (pv 14))) (pv 7)) ah) aj))) (aP (i:=16) cB.nd rfl (Or.inl rfl)) (kM (@ak _ _ _ _ _ (aC (i:=17) cB.nd rfl (Or.inl rfl) (ai bW (pv 11) (ai aI (ai aI (ai aB (ai aB (pv 7) (pv 16)) (pv 16)) (ai aB (ai aB (ai aB ah (pv 8)) (pv 16)) (pv 14))) (ai aB (ai aB (pv 9) (pv 14)) (pv 14)))))
  (@aL _ _ _ (pY (Gp PySem.F.plainAttrs_list PySem.F.slot_list_append PySem.F.type_list_append nN (pv 12) (af (mq (af (pv 16) (af (pv 14) (af (ai aI (ai aB (pv 3) (pv 16)) (ai aB (pv 4) (pv 14))) (af (pv 17) aj))))) aj)))))))))))
  (@aL _ _ _ (aW (pv 12))))))))))))),?_⟩
 obtain⟨c0,c1,c2,rfl,x0,x1,x2⟩:=qE hT bI
 obtain⟨fl,D0,a2,IY,xr,Kn,f8,fa⟩:=gA NT dD
 have k1:=xO (λc=>ent N 1 c) (c:=1) (by decide)
 have k2:=xO (λc=>ent N 1 c) (c:=2) (by decide)
 have k3:=xO (λc=>ent N 2 c) (c:=2) (by decide)
 have b:∀i j,i<3->j<3->(ent N i j).natAbs<2^4096:=λi j hi hj=>aF (bN i j hi hj) (by decide)
 refine⟨_,rfl,t,_,rfl,aU.of hT.1,rfl,_,_,rfl,c0,_,rfl,aU.of x0,rfl,_,_,rfl,_,_,rfl,_,_,rfl,rfl,_,_,rfl,_,_,rfl,rfl,?_⟩
 have l1:=NT.KP
 have l2:=NT.KQ
 have tx:∀x:Int,0<=x->x<=1000000000000->x.natAbs<2^40:=λx h0 h1=>by omega
 have tw:∀x:Int,0<=x->x<=1000000000000->x.natAbs<2^4096:=λx h0 h1=>Nat.lt_of_lt_of_le (tx x h0 h1) (Nat.pow_le_pow_right (by decide) (by decide))
 with_reducible apply iY
 ·exact λR hR=>⟨_,rfl,_,rfl,c1,_,_,_,rfl,rfl,aU.of x1,k1,_,_,rfl,rfl,⟨b 0 0 (by decide) (by decide),b 1 1 (by decide) (by decide)⟩,_,rfl,_,rfl,_,_,rfl,rfl,⟨b 0 1 (by decide) (by decide),b 0 1 (by decide) (by decide)⟩,_,_,rfl,rfl,hR⟩
 with_reducible apply iY
 ·exact λR hR=>⟨_,rfl,_,rfl,c1,_,_,_,rfl,rfl,aU.of x1,k2,_,_,rfl,rfl,⟨b 0 0 (by decide) (by decide),b 1 2 (by decide) (by decide)⟩,_,rfl,_,rfl,_,_,rfl,rfl,⟨b 0 1 (by decide) (by decide),b 0 2 (by decide) (by decide)⟩,_,_,rfl,rfl,hR⟩
 with_reducible apply iY
 ·exact λR hR=>⟨_,rfl,_,rfl,c2,_,_,_,rfl,rfl,aU.of x2,k3,_,_,rfl,rfl,⟨b 0 0 (by decide) (by decide),b 2 2 (by decide) (by decide)⟩,_,rfl,_,rfl,_,_,rfl,rfl,⟨b 0 2 (by decide) (by decide),b 0 2 (by decide) (by decide)⟩,_,_,rfl,rfl,hR⟩
 refine⟨_,rfl,t,_,N,rfl,hT,bI,bN.mono (by decide),trivial,λH1 s1=> ?_⟩
 refine⟨_,rfl,_,_,rfl,rfl,⟨by show(2:Int).natAbs<2^4096;exact tw 2 (by decide) (by decide),tw n n0 (by omega)⟩,_,rfl,_,_,rfl,rfl,⟨tw _ (by omega) (by omega),b 0 0 (by decide) (by decide)⟩,?_⟩
 refine⟨by decide,λD hD=> ?_⟩
 refine⟨_,rfl,_,_,rfl,rfl,⟨tw 2 (by decide) (by decide),tw n n0 (by omega)⟩,_,rfl,_,_,rfl,rfl,⟨tw _ (by omega) (by omega),tw (cR N) (by omega) (by omega)⟩,?_⟩
 have nf:n*cR N<=600*1069:=Int.mul_le_mul n6 (by omega) (by omega) (by decide)
 have Qn:0<=n*cR N:=Int.mul_nonneg n0 (by omega)
 have en:2*n*cR N=2*(n*cR N):=Int.mul_assoc _ _ _
 have X0:0<=2*n*cR N/aA N:=Int.ediv_nonneg (by omega) (by omega)
 have X1:2*n*cR N/aA N<=2*n*cR N:=Int.ediv_le_self _ (by omega)
 have bb:gK N*gK N<=1069*4840000:=by
  have h:=l7 ev
  have h1:0<=ent N 0 0*aA N:=Int.mul_nonneg (by omega) (by omega)
  have h2:hiT N<=4840000:=by
   have h3:ent N 0 0*ent N 2 2<=2200*2200:=Int.mul_le_mul IY Kn (by omega) (by omega)
   have h4:=bf (ent N 0 2)
   unfold hiT
   omega
  have h5:cR N*hiT N<=cR N*4840000:=Int.mul_le_mul_of_nonneg_left h2 (by omega)
  omega
 have bn: -100000<=gK N/\gK N<=100000:=by
  constructor
  ·refine Classical.byContradiction λz=> ?_
   have:100000*100000<= -gK N* -gK N:=Int.mul_le_mul (by omega) (by omega) (by omega) (by omega)
   rw[Int.neg_mul_neg]at this
   omega
  ·refine Classical.byContradiction λz=> ?_
   have:100000*100000<=gK N*gK N:=Int.mul_le_mul (by omega) (by omega) (by omega) (by omega)
   omega
 refine⟨_,rfl,_,_,rfl,rfl,⟨D0,Int.lt_of_le_of_lt dD (by decide)⟩,2*n*cR N/aA N,rfl,X0,(by have:=tx _ X0 (Int.le_trans X1 (by omega));exact Nat.lt_of_lt_of_le this (by decide)),λR R0 r1 r2=> ?_⟩
 have Qo:=DC NT dD n0 n6 R0 r1
 obtain⟨sp,Nz⟩:∃sp:Int->Int,sp=λz=>kr (cR N*(2*n*ent N 0 0) -ent N 0 0*aA N*z*z):=⟨_,rfl⟩
 have NC:∀z,-R<=z->z<=R->0<=cR N*(2*n*ent N 0 0) -ent N 0 0*aA N*z*z:=λz z0 z1=>by
  have h:=(L2.aS D0 fl R0 r1 r2).mp ⟨z0,z1⟩
  have h1:=Int.mul_le_mul_of_nonneg_left h (show 0<=ent N 0 0 by omega)
  have h2:ent N 0 0*aA N*z*z=ent N 0 0*(aA N*z*z):=by grind
  have h3:cR N*(2*n*ent N 0 0)=ent N 0 0*(2*n*cR N):=by grind
  omega
 have s0:∀z,-R<=z->z<=R->0<=sp z/\sp z*sp z<=cR N*(2*n*ent N 0 0) -ent N 0 0*aA N*z*z/\cR N*(2*n*ent N 0 0) -ent N 0 0*aA N*z*z<(sp z+1)*(sp z+1):=λz z0 z1=>by
  rw[Nz]
  exact oB (NC z z0 z1)
 have sS:∀z,-R<=z->z<=R->sp z<=30*cR N:=λz z0 z1=>FO NT dD n0 n6 (s0 z z0 z1).1 (s0 z z0 z1).2.1
 obtain⟨lo,ND⟩:∃lo:Int->Int,lo=λz=> -((sp z+gK N*z)/cR N):=⟨_,rfl⟩
 obtain⟨ln,Mr⟩:∃ln:Int->Nat,ln=λz=>((sp z-gK N*z)/cR N+1- -((sp z+gK N*z)/cR N)).toNat:=⟨_,rfl⟩
 have KY:∀y z,(y,z)∈eF lo ln R (2*R+1).toNat↔0<=kP N n y z:=λy z=>by
  rw[ND,Mr]
  exact wI ev (by omega) fl D0 R0 r1 r2 s0 y z
 have Ko:∀z,-R<=z->z<=R->ln z<=61:=λz z0 z1=>by
  have h:=sS z z0 z1
  have h1:(sp z-gK N*z)/cR N*cR N<=sp z-gK N*z:=Int.ediv_mul_le _ (by omega)
  have h2:(sp z+gK N*z)/cR N*cR N<=sp z+gK N*z:=Int.ediv_mul_le _ (by omega)
  have h3:((sp z-gK N*z)/cR N+(sp z+gK N*z)/cR N)*cR N<=60*cR N:=by
   rw[Int.add_mul]
   omega
  have h4:=Int.le_of_mul_le_mul_right h3 fl
  rw[Mr]
  show((sp z-gK N*z)/cR N+1- -((sp z+gK N*z)/cR N)).toNat<=61
  omega
 have Kp:∀m:Nat,(m:Int)<=2*R+1->(eF lo ln R m).length<=m*61:=λm hm=>qM λi hi=>Ko _ (by omega) (by omega)
 refine⟨_,rfl,_,rfl,_,rfl,_,_,rfl,rfl,_,_,rfl,⟨by omega,by omega,by omega,by omega⟩,?_⟩
 refine eX (λi σ H'=> ∃o1 o2 o3 o4 us,σ=[some (.ref t),some (.int n),some (.int (ent N 0 0)),some (.int (ent N 0 1)),some (.int (ent N 0 2)),some (.ref c1),some (.ref c2),some (.int (cR N)),some (.int (gK N)),some (.int (hiT N)),some (.int (aA N)),some (.int (2*n*ent N 0 0)),some (.ref D),some (.int R),o1,o2,o3,o4]/\SD D H1 H'/\H' D=some (.lst us)/\c9 H' N n us (eF lo ln R i)) ⟨_,_,_,_,_,rfl,SD.refl.upd,av,.nil⟩ (λi σ H' hi hh=> ?_) (λσ H' hh=> ?_)
 ·obtain⟨o1,o2,o3,o4,us,rfl,sD,eD,tu⟩:=hh
  obtain⟨z,ez⟩:∃z:Int,z=(i:Int) -R:=⟨_,rfl⟩
  have Ms: -R+(i:Int)=z:=by omega
  rw[Ms]
  have z0: -R<=z:=by omega
  have z1:z<=R:=by omega
  have nz:z.natAbs<=60:=by omega
  have KZ:(cR N).natAbs<=1069:=by omega
  have IZ:(gK N).natAbs<=100000:=by omega
  have na:(ent N 0 0).natAbs<=2200:=by omega
  have nD:(aA N).natAbs<=401:=by omega
  have nm:(2*n*ent N 0 0).natAbs<=1200*2200:=kR (by omega) na
  have NF:=kR na nD
  have Kq:=kR NF nz
  have Qp:=kR IZ nz
  have Pw:(cR N*(2*n*ent N 0 0) -ent N 0 0*aA N*z*z).natAbs<2^200:=by
   have h1:=kR KZ nm
   have h2:=kR Kq nz
   exact Nat.lt_of_le_of_lt (m:=10^20) (by omega) (by decide)
  have nhi:(hiT N).natAbs<=30000000:=by
   have h1:=kR na (show(ent N 2 2).natAbs<=2200 by omega)
   have hu:=NT.u
   have h2:=kR (show(ent N 0 2).natAbs<=4400 by omega) (show(ent N 0 2).natAbs<=4400 by omega)
   unfold hiT
   omega
  have C:∀{x:Int}{A:Nat},x.natAbs<=A->A<=10^30->x.natAbs<2^4096:=λh g=>Ny (Nat.le_trans h g)
  refine⟨_,rfl,_,rfl,_,_,rfl,rfl,⟨C KZ (by decide),C nm (by decide)⟩,_,rfl,_,rfl,_,_,rfl,rfl,⟨C na (by decide),C nD (by decide)⟩,_,rfl,_,_,rfl,rfl,⟨C NF (by decide),C nz (by decide)⟩,_,rfl,_,_,rfl,rfl,⟨C Kq (by decide),C nz (by decide)⟩,_,_,rfl,rfl,_,rfl,NC z z0 z1,Pw,λw h0 h1 h2=> ?_⟩
  have es:w=sp z:=by rw[Nz];exact(uN h0 h1 h2).symm
  have wS:=sS z z0 z1
  rw[<-es]at wS
  have q1:=Km (x:=w+gK N*z) fl (by omega)
  have q2:=Km (x:=w-gK N*z) fl (by omega)
  refine⟨_,rfl,_,rfl,_,rfl,_,_,rfl,rfl,⟨C IZ (by decide),C nz (by decide)⟩,_,_,rfl,rfl,_,rfl,_,_,rfl,rfl,⟨fl,by omega⟩,_,rfl,?_⟩
  refine⟨_,rfl,_,rfl,_,rfl,_,_,rfl,rfl,⟨C IZ (by decide),C nz (by decide)⟩,_,_,rfl,rfl,_,rfl,_,_,rfl,rfl,⟨fl,by omega⟩,_,_,rfl,rfl,_,_,rfl,⟨by omega,by omega,by omega,by omega⟩,?_⟩
  have Qq:lo z= -((w+gK N*z)/cR N):=by rw[ND,es]
  have Px:ln z=((w-gK N*z)/cR N+1- -((w+gK N*z)/cR N)).toNat:=by rw[Mr,es]
  have Qs:=Ko z z0 z1
  have li:=Kp i (by omega)
  refine eX (λj σ H2=> ∃o3 o4 us',σ=[some (.ref t),some (.int n),some (.int (ent N 0 0)),some (.int (ent N 0 1)),some (.int (ent N 0 2)),some (.ref c1),some (.ref c2),some (.int (cR N)),some (.int (gK N)),some (.int (hiT N)),some (.int (aA N)),some (.int (2*n*ent N 0 0)),some (.ref D),some (.int R),some (.int z),some (.int w),o3,o4]/\SD D H1 H2/\H2 D=some (.lst us')/\c9 H2 N n us' (eF lo ln R i++gj z (lo z) j)) ⟨_,_,_,rfl,sD,eD,by simpa [gj]using tu⟩ (λj σ H2 hj hh=> ?_) (λσ H2 hh=> ?_)
  ·obtain⟨o3,o4,us',rfl,Mt,BL,La⟩:=hh
   obtain⟨y,ey⟩:∃y:Int,y=lo z+(j:Int):=⟨_,rfl⟩
   have Mu: -((w+gK N*z)/cR N)+(j:Int)=y:=by omega
   rw[Mu]
   have ny:y.natAbs<=20000000000:=by omega
   have Py:=kR KZ ny
   have Pz:=kR (kR (show(2:Int).natAbs<=2 by decide) IZ) ny
   have PB:=kR nhi nz
   have hp:=NT.p
   have hu:=NT.u
   have np:(ent N 0 1).natAbs<=2200:=by omega
   have nq:(ent N 0 2).natAbs<=4400:=by omega
   show tZ _ _ _ _ _
   with_reducible apply iY
   ·exact λR hR=>⟨_,rfl,_,rfl,_,rfl,_,_,rfl,rfl,⟨C KZ (by decide),C ny (by decide)⟩,_,rfl,_,_,rfl,rfl,⟨C Py (by decide),C ny (by decide)⟩,_,rfl,_,_,rfl,rfl,⟨C (A:=2) (by decide) (by decide),C IZ (by decide)⟩,_,rfl,_,_,rfl,rfl,⟨C (kR (show(2:Int).natAbs<=2 by decide) IZ) (by decide),C ny (by decide)⟩,_,rfl,_,_,rfl,rfl,⟨C Pz (by decide),C nz (by decide)⟩,_,_,rfl,rfl,_,rfl,_,rfl,_,_,rfl,rfl,⟨C nhi (by decide),C nz (by decide)⟩,_,rfl,_,_,rfl,rfl,⟨C PB (by decide),C nz (by decide)⟩,_,_,rfl,rfl,_,_,rfl,rfl,hR⟩
   refine⟨_,rfl,.inl ⟨rfl,_,aU.of BL⟩,_,rfl,_,rfl,_,rfl,_,rfl,_,_,rfl,rfl,⟨C np (by decide),C ny (by decide)⟩,_,rfl,_,rfl,_,_,rfl,rfl,⟨C nq (by decide),C nz (by decide)⟩,_,_,rfl,rfl,_,rfl,(by show 4<=sizeLine;decide),λb hb=> ?_⟩
   have ul:us'.length<sizeLine:=by
    have:=La.length
    rw[List.length_append]at this
    have h2:(gj z (lo z) j).length=j:=by simp[gj]
    show us'.length<16777216
    omega
   have NG:b≠D:=λz=>by rw[z,BL]at hb;cases hb
   refine⟨D,us',.ref b,rfl,rfl,by rw[aH (λz=>NG z.symm)];exact BL,ul,?_⟩
   refine⟨_,_,_,rfl,(SD.trans Mt (SD.of (ay.up hb))).upd,av,?_⟩
   rw[wH,<-List.append_assoc]
   refine c9.upd (by rw[aH (λz=>NG z.symm)];exact BL) ((La.same (ay.up hb)).append (.cons ?_ .nil))
   rw[av,<-ey]
   rfl
  ·obtain⟨o3,o4,us',rfl,Mt,BL,La⟩:=hh
   refine⟨_,_,_,_,_,rfl,Mt,BL,?_⟩
   rw[kq,<-ez,Px]
   exact La
 ·obtain⟨o1,o2,o3,o4,us,rfl,sD,eD,tu⟩:=hh
  refine⟨_,rfl,?_⟩
  have nd:=Kp (2*R+1).toNat (by omega)
  refine q D us _ H' ?_ eD ?_ rP KY (by omega)
  ·exact λa o e=>(sD.same hD) a o (s1 _ _ e)
  ·have e:(R+1- -R).toNat=(2*R+1).toNat:=by omega
   rw[<-e]
   exact tu
end
end CM
namespace L2
open PySem PySem.Spec PyProof.Rows PySem.SeqAt
end L2
namespace L2
open PySem
noncomputable section
def g6(N:List (List Int))(n:Int)(L:List (List Int)):Prop:=L.Nodup/\(∀r∈L,∃v:Nat->Int,r=[v 0,v 1,v 2])/\ ∀v:Nat->Int,[v 0,v 1,v 2]∈L↔aE N v=n
theorem c9.sd{H H':Hp}{N:List (List Int)}{n:Int}{us:List V}{ps:List (Int×Int)}{D:Addr}{xs:List V}(hD:H D=some (.lst xs))(s:SD D H H')(h:c9 H N n us ps):c9 H' N n us ps:=by
 induction h with
 |nil=>exact .nil
 |cons e _ ih=>exact .cons (s _ _ (λz=>by rw[z,hD]at e;cases e) e) ih
theorem c9.get{H:Hp}{N:List (List Int)}{n:Int}{us:List V}{ps:List (Int×Int)}(h:c9 H N n us ps):∀{i:Nat}{x:V},us[i]?=some x-> ∃a p,x= .ref a/\ps[i]?=some p/\H a=some (.tup (Kl N n p)):=by
 induction h with
 |nil=>intro i x h;simp at h
 | @cons a us p ps e _ ih=>
  intro i x h
  match i,h with
  |0,h=>cases h;exact⟨a,p,rfl,rfl,e⟩
  |i+1,h=>obtain⟨a,p,e1,e2,e3⟩:=ih (i:=i) (by simpa using h);exact⟨a,p,e1,by simpa using e2,e3⟩
theorem Ig{t:TS}{b:TS}{D:Ends}{σ:St}{H:Hp}(P:St->Hp->Prop)(h:∀R:St->Hp->Prop,(∀σ' H',P σ' H'->R σ' H') ->t {D with nx:=R} σ H)(k:∀σ' H',P σ' H'->b D σ' H'):tZ t b D σ H:=h _ k
theorem yv{N:List (List Int)}(ev:bV N)(h:nF N)(dD:aA N<=401){n y z:Int}(n0:0<=n)(n6:n<=600)(l:0<=kP N n y z):y.natAbs<=10^10/\z.natAbs<=10^5/\kP N n y z<=2640000:=by
 obtain⟨fl,D0,a2,IY,xr,Kn,f8,fa⟩:=gA h dD
 have l1:=h.KP
 have l2:=h.KQ
 have g:=(qK ev (by omega) fl n y z).mp l
 have sq:∀u:Int,0<=u*u:=λu=>by
  rcases Int.le_total 0 u with z|z
  ·exact Int.mul_nonneg z z
  ·rw[<-Int.neg_mul_neg];exact Int.mul_nonneg (by omega) (by omega)
 have n1:n*ent N 0 0<=600*2200:=Int.mul_le_mul n6 IY (by omega) (by decide)
 have n2:0<=n*ent N 0 0:=Int.mul_nonneg n0 (by omega)
 have n3:cR N*(2*n*ent N 0 0)<=1069*2640000:=Int.mul_le_mul (by omega) (by rw[Int.mul_assoc];omega) (by rw[Int.mul_assoc];omega) (by decide)
 have e1:ent N 0 0*aA N*z*z=(ent N 0 0*aA N)*(z*z):=by grind
 have p1:1<=ent N 0 0*aA N:=Int.mul_pos (by omega) D0
 have p2:z*z<=(ent N 0 0*aA N)*(z*z):=by
  have:=Int.mul_le_mul_of_nonneg_right p1 (sq z)
  rwa [Int.one_mul]at this
 have root:∀(u X B:Int),u*u<=X->0<=B->X<B*B->u.natAbs<=B.natAbs:=λu X B h1 b0 h2=>by
  refine Classical.byContradiction λc=> ?_
  have:B.natAbs*B.natAbs<=u.natAbs*u.natAbs:=Nat.mul_le_mul (by omega) (by omega)
  have e:=Int.natAbs_mul_self (a:=u)
  have e':=Int.natAbs_mul_self (a:=B)
  omega
 have s1:=sq (cR N*y+gK N*z)
 have z1:z.natAbs<=60000:=root z (1069*2640000) 60000 (by omega) (by decide) (by decide)
 have w1:(cR N*y+gK N*z).natAbs<=60000:=root _ (1069*2640000) 60000 (by have:=sq z;omega) (by decide) (by decide)
 have q0:∀z w:Int,z*w=w*z:=Int.mul_comm
 have bb:gK N*gK N<=1069*4840000:=by
  have h:=l7 ev
  have h1:0<=ent N 0 0*aA N:=by omega
  have h2:hiT N<=4840000:=by
   have h3:ent N 0 0*ent N 2 2<=2200*2200:=Int.mul_le_mul IY Kn (by omega) (by omega)
   have h4:=sq (ent N 0 2)
   unfold hiT
   omega
  have h5:cR N*hiT N<=cR N*4840000:=Int.mul_le_mul_of_nonneg_left h2 (by omega)
  omega
 have bn:=root (gK N) (1069*4840000) 100000 bb (by decide) (by decide)
 have m1:=kR (show(gK N).natAbs<=100000 from bn) (show z.natAbs<=60000 from z1)
 have m2:y.natAbs<=(cR N*y).natAbs:=by
  rw[Int.natAbs_mul]
  exact Nat.le_mul_of_pos_left _ (by omega)
 have Qt:(cR N*y+gK N*z).natAbs<=60000:=w1
 have m3:(cR N*y).natAbs<=6100000000:=by omega
 refine⟨by omega,by omega,?_⟩
 have Qu:cR N*(2*n*ent N 0 0-kP N n y z)=(cR N*y+gK N*z)*(cR N*y+gK N*z)+(ent N 0 0*aA N)*(z*z):=by
  have h:=l7 ev
  rw[<-h]
  unfold kP
  grind
 have s2:=sq z
 have pos:0<=cR N*(2*n*ent N 0 0-kP N n y z):=by omega
 have:0<=2*n*ent N 0 0-kP N n y z:=by
  refine Classical.byContradiction λc=> ?_
  have h1:cR N*(2*n*ent N 0 0-kP N n y z)<0:=Int.mul_neg_of_pos_of_neg fl (by omega)
  omega
 have e4:2*n*ent N 0 0=2*(n*ent N 0 0):=Int.mul_assoc _ _ _
 omega
end
noncomputable section
def qN(B:List (List Int))(r:List Int):List Int:=[cN (c7 r) B 0,cN (c7 r) B 1,cN (c7 r) B 2]
theorem wK{m:List (List Int)}{x x' y y':Nat->Int}(hx:x 0=x' 0/\x 1=x' 1/\x 2=x' 2)(hy:y 0=y' 0/\y 1=y' 1/\y 2=y' 2):au m x y=au m x' y':=by
 obtain⟨a,b,c⟩:=hx
 obtain⟨d,e,f⟩:=hy
 rw[aX,aX,a,b,c,d,e,f]
theorem cD{m:List (List Int)}{x x':Nat->Int}(hx:x 0=x' 0/\x 1=x' 1/\x 2=x' 2):aE m x=aE m x':=by
 unfold aE
 rw[wK hx hx]
theorem jM(m b:List (List Int))(x:Nat->Int):aE (fm m b) x=aE m (cN x b):=by
 unfold aE
 rw[sU]
theorem FP(x:Nat->Int)(a b:List (List Int)){j:Nat}(hj:j<3):cN (cN x a) b j=cN x (gF a b) j:=by
 unfold cN
 rw[aJ a b (i:=0) (by decide) hj,aJ a b (i:=1) (by decide) hj,aJ a b (i:=2) (by decide) hj]
 grind
theorem DE(x:Nat->Int){j:Nat}(hj:j<3):cN x (nA 1) j=x j:=by
 unfold cN
 unfold nA
 rw[bu _ (by decide) hj,bu _ (by decide) hj,bu _ (by decide) hj]
 rcases bK hj with rfl|rfl|rfl<;>simp
theorem fW{x x':Nat->Int}{b:List (List Int)}(h:x 0=x' 0/\x 1=x' 1/\x 2=x' 2)(j:Nat):cN x b j=cN x' b j:=by
 obtain⟨a,b,c⟩:=h
 unfold cN
 rw[a,b,c]
theorem jN{B:List (List Int)}(u:l9 (aA B))(v:Nat->Int){j:Nat}(hj:j<3):cN (cN v (fZ B)) B j=v j:=by
 rw[FP _ _ _ hj,AD u,DE v hj]
theorem zV{B:List (List Int)}(u:l9 (aA B)){x y:Nat->Int}(h:cN x B 0=cN y B 0/\cN x B 1=cN y B 1/\cN x B 2=cN y B 2):x 0=y 0/\x 1=y 1/\x 2=y 2:=by
 have Mv:∀j,cN (λi=>x i-y i) B j=cN x B j-cN y B j:=λj=>by
  unfold cN
  grind
 obtain⟨h0,h1,h2⟩:=h
 obtain⟨a,b,c⟩:=v7 u (λi=>x i-y i) ⟨by rw[Mv];omega,by rw[Mv];omega,by rw[Mv];omega⟩
 omega
theorem nodup_map_on{α β:Type}{f:α->β}:∀{L:List α},L.Nodup->(∀a∈L,∀b∈L,f a=f b->a=b) ->(L.map f).Nodup
 | [],_,_=>List.nodup_nil
 |a::L,h,k=>by
  obtain⟨h1,h2⟩:=List.nodup_cons.mp h
  rw[List.map_cons,List.nodup_cons]
  refine⟨λm=> ?_,nodup_map_on h2 λx hx y hy=>k x (List.mem_cons_of_mem _ hx) y (List.mem_cons_of_mem _ hy)⟩
  obtain⟨b,hb,e⟩:=List.mem_map.mp m
  have:=k b (List.mem_cons_of_mem _ hb) a List.mem_cons_self e
  rw[this]at hb
  exact h1 hb
theorem yw{m B:List (List Int)}(u:l9 (aA B)){n:Int}{L:List (List Int)}(h:g6 (fm m B) n L):g6 m n (L.map (qN B)):=by
 obtain⟨nd,sh,iff⟩:=h
 refine⟨?_,λr hr=> ?_,λv=> ?_⟩
 ·refine nodup_map_on nd λr hr s hs e=> ?_
  obtain⟨v,rfl⟩:=sh r hr
  obtain⟨w,rfl⟩:=sh s hs
  unfold qN at e
  injection e with e0 e
  injection e with e1 e
  injection e with e2 _
  obtain⟨a,b,c⟩:=zV u (x:=c7 [v 0,v 1,v 2]) (y:=c7 [w 0,w 1,w 2]) ⟨e0,e1,e2⟩
  change v 0=w 0 at a
  change v 1=w 1 at b
  change v 2=w 2 at c
  rw[a,b,c]
 ·obtain⟨s,hs,rfl⟩:=List.mem_map.mp hr
  exact⟨cN (c7 s) B,rfl⟩
 ·rw[List.mem_map]
  constructor
  ·rintro⟨r,hr,e⟩
   obtain⟨w,rfl⟩:=sh r hr
   have k:=(iff w).mp hr
   rw[jM]at k
   rw[<-k]
   unfold qN at e
   injection e with e0 e
   injection e with e1 e
   injection e with e2 _
   refine cD ⟨?_,?_,?_⟩
   ·rw[<-e0];exact fW ⟨rfl,rfl,rfl⟩ 0
   ·rw[<-e1];exact fW ⟨rfl,rfl,rfl⟩ 1
   ·rw[<-e2];exact fW ⟨rfl,rfl,rfl⟩ 2
  ·intro k
   have b0:=jN u v (j:=0) (by decide)
   have b1:=jN u v (j:=1) (by decide)
   have b2:=jN u v (j:=2) (by decide)
   refine⟨[cN v (fZ B) 0,cN v (fZ B) 1,cN v (fZ B) 2],(iff (cN v (fZ B))).mpr ?_,?_⟩
   ·rw[jM,<-k]
    exact cD ⟨b0,b1,b2⟩
   ·unfold qN
    have c:∀j,cN (c7 [cN v (fZ B) 0,cN v (fZ B) 1,cN v (fZ B) 2]) B j=cN (cN v (fZ B)) B j:=λj=>fW ⟨rfl,rfl,rfl⟩ j
    rw[c,c,c,b0,b1,b2]
theorem FQ{N:List (List Int)}(h:nF N)(dD:aA N<=401):Bd 700 N:=by
 obtain⟨fl,D0,a2,IY,xr,Kn,f8,fa⟩:=gA h dD
 have l1:=h.KP
 have l2:=h.KQ
 have hp:=h.p
 have hu:=h.u
 have hv:=h.v
 obtain⟨s1,s2,s3⟩:=h.ev.1
 intro i j hi hj
 refine Nat.lt_of_lt_of_le (m:=2^20) ?_ (Nat.pow_le_pow_right (by decide) (by decide))
 rcases bK hi with rfl|rfl|rfl<;>rcases bK hj with rfl|rfl|rfl<;>omega
end
noncomputable section
def Ja(m:List (List Int))(x y:Int):Int:=(ent m 0 0*x*x+ent m 1 1*y*y)/2+ent m 0 1*x*y
def Ih(m:List (List Int))(x y:Int):Int:=ent m 0 2*x+ent m 1 2*y
def c8(R:Int):List Int:=(List.range (2*R+1).toNat).map λi:Nat=>(i:Int) -R
theorem oE{R x:Int}(h:0<=R):x∈c8 R↔ -R<=x/\x<=R:=by
 unfold c8
 rw[List.mem_map]
 constructor
 ·rintro⟨i,hi,rfl⟩
  rw[List.mem_range]at hi
  omega
 ·rintro⟨h1,h2⟩
  exact⟨(x+R).toNat,by rw[List.mem_range];omega,by omega⟩
theorem lP{R:Int}:(c8 R).Nodup:=nodup_map_on List.nodup_range λa _ b _ e=>by omega
theorem oF{R:Int}:(c8 R).length=(2*R+1).toNat:=by simp[c8]
theorem oG{R:Int}{i:Nat}(hi:i<(2*R+1).toNat):(c8 R)[i]?=some ((i:Int) -R):=by
 unfold c8
 rw[List.getElem?_map,List.getElem?_range hi]
 rfl
theorem iR{α β:Type}{f:α->List β}:∀{L:List α},L.Nodup->(∀a∈L,(f a).Nodup) ->(∀a∈L,∀b∈L,∀x,x∈f a->x∈f b->a=b) ->(L.flatMap f).Nodup
 | [],_,_,_=>List.nodup_nil
 |a::L,h,k1,k2=>by
  obtain⟨h1,h2⟩:=List.nodup_cons.mp h
  rw[List.flatMap_cons]
  refine List.nodup_append.mpr ⟨k1 a List.mem_cons_self,iR h2 (λb hb=>k1 b (List.mem_cons_of_mem _ hb)) (λb hb c hc=>k2 b (List.mem_cons_of_mem _ hb) c (List.mem_cons_of_mem _ hc)),λx hx y hy e=> ?_⟩
  subst e
  obtain⟨b,hb,hx'⟩:=List.mem_flatMap.mp hy
  have:=k2 a List.mem_cons_self b (List.mem_cons_of_mem _ hb) x hx hx'
  rw[this]at h1
  exact h1 hb
theorem gk{α β:Type}(f:α->List β){L:List α}{i:Nat}{a:α}(h:L[i]?=some a):(L.take (i+1)).flatMap f=(L.take i).flatMap f++f a:=by
 rw[List.take_add_one,h]
 simp
theorem length_le_of_subset{α:Type}[DecidableEq α]:∀{L M:List α},L.Nodup->(∀x∈L,x∈M) ->L.length<=M.length
 | [],_,_,_=>Nat.zero_le _
 |a::L,M,h,k=>by
  obtain⟨h1,h2⟩:=List.nodup_cons.mp h
  have ha:=k a List.mem_cons_self
  have:=length_le_of_subset (L:=L) (M:=M.erase a) h2 λx hx=>(List.mem_erase_of_ne (show x≠a from λe=>h1 (by rw[<-e];exact hx))).mpr (k x (List.mem_cons_of_mem _ hx))
  rw[List.length_erase_of_mem ha]at this
  have:=List.length_pos_of_mem ha
  rw[List.length_cons]
  omega
end
noncomputable section
structure DF(m:List (List Int)):Prop where
 e0:0<ent m 0 0
 e1:0<ent m 1 1
 e2:0<ent m 2 2
 D0:0<aA m
 p0:0<=ef m 0 0/\ef m 0 0<=6900
 p1:0<=ef m 1 1/\ef m 1 1<=3680
 p2:0<=ef m 2 2/\ef m 2 2<=480
theorem Bg{m:List (List Int)}(ev:bV m)(bI:cg m)(ab:bC m=true)(hB:∀i j,i<3->j<3->(ent m i j).natAbs<=230)(f0:ent m 0 0<=16)(f1:ent m 1 1<=30):DF m:=by
 obtain⟨Mw,Mx,My⟩:=ev.sym
 have D0:=(fU ab).2.2
 have Po:=eZ (cX ev bI) ab
 have u0:au m (λi=>if i=0 then 1 else 0) (λi=>if i=0 then 1 else 0)=ent m 0 0:=by rw[aX];simp
 have u1:au m (λi=>if i=1 then 1 else 0) (λi=>if i=1 then 1 else 0)=ent m 1 1:=by rw[aX];simp
 have u2:au m (λi=>if i=2 then 1 else 0) (λi=>if i=2 then 1 else 0)=ent m 2 2:=by rw[aX];simp
 have q0:0<ent m 0 0:=by rw[<-u0];exact Po _ (by simp)
 have q1:0<ent m 1 1:=by rw[<-u1];exact Po _ (by simp)
 have q2:0<ent m 2 2:=by rw[<-u2];exact Po _ (by simp)
 have r0:=jG ev bI ab (λi=>if i=0 then 1 else 0) (i:=0) (by decide)
 have r1:=jG ev bI ab (λi=>if i=1 then 1 else 0) (i:=1) (by decide)
 have r2:=jG ev bI ab (λi=>if i=2 then 1 else 0) (i:=2) (by decide)
 have g:∀{a b:Int},aA m*(1*1)<=a*b->0<b->0<=a:=λ {a b} h hb=>by
  refine Classical.byContradiction λc=> ?_
  have:=Int.mul_nonneg (show 0<= -a by omega) (Int.le_of_lt hb)
  rw[Int.neg_mul]at this
  omega
 have xr:=hB 2 2 (by decide) (by decide)
 have m0:ent m 1 1*ent m 2 2<=30*230:=Int.mul_le_mul f1 (by omega) (by omega) (by decide)
 have m1:ent m 2 2*ent m 0 0<=230*16:=Int.mul_le_mul (by omega) f0 (by omega) (by decide)
 have m2:ent m 0 0*ent m 1 1<=16*30:=Int.mul_le_mul f0 f1 (by omega) (by decide)
 refine⟨q0,q1,q2,D0,⟨g (by simpa [u0]using r0) (u0▸q0),?_⟩,⟨g (by simpa [u1]using r1) (u1▸q1),?_⟩,⟨g (by simpa [u2]using r2) (u2▸q2),?_⟩⟩
 ·show ent m 1 1*ent m 2 2-ent m 1 2*ent m 2 1<=_
  rw[My];have:=bf (ent m 1 2);omega
 ·show ent m 2 2*ent m 0 0-ent m 2 0*ent m 0 2<=_
  rw[Mx];have:=bf (ent m 0 2);omega
 ·show ent m 0 0*ent m 1 1-ent m 0 1*ent m 1 0<=_
  rw[Mw];have:=bf (ent m 0 1);omega
theorem Bh{m:List (List Int)}(ev:bV m)(bI:cg m)(ab:bC m=true){n:Int}{v:Nat->Int}(e:aE m v=n){i:Nat}(hi:i<3):aA m*(v i*v i)<=2*n*ef m i i:=by
 have k:=jG ev bI ab v hi
 have pe:=di ev v
 have:aN m v=2*n:=by show au m v v=_;rw[pe,e]
 rw[this]at k
 rw[Int.mul_comm (2*n)]
 exact k
theorem oH{m:List (List Int)}(D0:0<aA m){n p R x:Int}(h:aA m*(x*x)<=2*n*p)(R0:0<=R)(r1:R*R<=2*n*p/aA m)(r2:2*n*p/aA m<(R+1)*(R+1)): -R<=x/\x<=R:=
 (nM R0 r1 r2).mp ((Int.le_ediv_iff_mul_le D0).mpr (by rw[Int.mul_comm];exact h))
theorem lQ{m:List (List Int)}(D0:0<aA m){n p R B:Int}(n0:0<=n)(n6:n<=600)(p0:0<=p)(hp:1200*p<B*B)(B0:0<=B)(r1:R*R<=2*n*p/aA m):R<B:=by
 have h1:2*n*p<=1200*p:=Int.mul_le_mul_of_nonneg_right (by omega) p0
 have h0:0<=2*n*p:=Int.mul_nonneg (by omega) p0
 have h2:2*n*p/aA m<=2*n*p:=Int.ediv_le_self _ h0
 refine Classical.byContradiction λc=> ?_
 have:B*B<=R*R:=Int.mul_le_mul (by omega) (by omega) B0 (by omega)
 omega
theorem DG{x:Int}{B:Nat}(h:x.natAbs<=B)(hB:B<2^64): -(2^64)<x/\x<2^64:=by omega
theorem DH{m:List (List Int)}(hB:∀i j,i<3->j<3->(ent m i j).natAbs<=230){x y:Int}(bx:x.natAbs<=2880)(bY:y.natAbs<=2880):(Ih m x y).natAbs<=2000000:=by
 have k6:=kR (hB 0 2 (by decide) (by decide)) bx
 have k7:=kR (hB 1 2 (by decide) (by decide)) bY
 unfold Ih
 omega
theorem FT{K:PySem.W.Frag}{H:Hp}{t t':Addr}{bs bs':List Addr}{m m':List (List Int)}{Q:VK}(h:Tab H t bs m)(h':Tab H t' bs' m')(q:Q (.bl (!decide (m=m'))) H):Av K true (.ref t) (.ref t') H Q:=
 ⟨xJ m,xJ m',zE h,zE h',mD _,mD _,by rw[EX];exact q⟩
theorem Bj{m:List (List Int)}(ev:bV m)(bI:cg m)(ab:bC m=true){L:List (List Int)}(h:g6 m 0 L):L=[[0,0,0]]:=by
 have Po:=eZ (cX ev bI) ab
 have z0:aE m (λ_=>0)=0:=by
  unfold aE
  rw[aX]
  simp
 have all:∀r∈L,r=[0,0,0]:=λr hr=>by
  obtain⟨v,rfl⟩:=h.2.1 r hr
  have e:=(h.2.2 v).mp hr
  have pe:=di ev v
  rw[e]at pe
  have:v 0=0/\v 1=0/\v 2=0:=Classical.byContradiction λc=>by
   have:=Po v c
   omega
  rw[this.1,this.2.1,this.2.2]
 have mem: [0,0,0]∈L:=(h.2.2 λ_=>0).mpr z0
 match L,h.1,all,mem with
 | [],_,_,mem=>cases mem
 | [r],_,all,_=>rw[all r List.mem_cons_self]
 |r::s::L,nd,all,_=>
  have e:r=s:=(all r List.mem_cons_self).trans (all s (List.mem_cons_of_mem _ List.mem_cons_self)).symm
  exact absurd (e▸List.mem_cons_self) (List.nodup_cons.mp nd).1
theorem DI{a b c p q r:Int}{B:Nat}(ha:a.natAbs<=B)(hb:b.natAbs<=B)(hc:c.natAbs<=B)(hp:p.natAbs<=B)(hq:q.natAbs<=B)(hr:r.natAbs<=B):∀i j,i<3->j<3->(ent (fz a b c p q r) i j).natAbs<=B:=λi j hi hj=>by
 unfold fz
 rw[bu _ hi hj]
 rcases bK hi with rfl|rfl|rfl<;>rcases bK hj with rfl|rfl|rfl<;>assumption
theorem DJ{H H':Hp}{a:Addr}{o:HO}(s:ay H H')(f:H a=none):ay H (upd H' a o):=λb o' e=>by rw[aH (λz=>by rw[z,f]at e;cases e)];exact s b o' e
theorem wL{m:List (List Int)}{n:Int}{L L':List (List Int)}(h:g6 m n L)(h':g6 m n L'):L.length=L'.length:=by
 have sub:∀{A B:List (List Int)},g6 m n A->g6 m n B-> ∀r∈A,r∈B:=λ {A B} ha hb r hr=>by
  obtain⟨v,rfl⟩:=ha.2.1 r hr
  exact(hb.2.2 v).mpr ((ha.2.2 v).mp hr)
 exact Nat.le_antisymm (length_le_of_subset h.1 (sub h h')) (length_le_of_subset h'.1 (sub h' h))
theorem gN{i:Nat}{v:V}{σ:St}{H:Hp}{f bk ct:St->Hp->Prop}{rt:VK}(h:f (σ.set i (some v)) H):cS i v σ H (Ends.mk f rt bk ct).nx:=h
end
noncomputable section
theorem mT{N:List (List Int)}(ev:bV N)(n:Int)(v:Nat->Int):kP N n (v 1) (v 2) - (ent N 0 0*v 0+mR N (v 1) (v 2))*(ent N 0 0*v 0+mR N (v 1) (v 2))=2*ent N 0 0*(n-aE N v):=by
 have Fw:ent N 1 0=ent N 0 1:=ev.sym.1
 have Fx:ent N 2 0=ent N 0 2:=ev.sym.2.1
 have Fy:ent N 2 1=ent N 1 2:=ev.sym.2.2
 have h:=di ev v
 have id:ent N 0 0*au N v v=(ent N 0 0*v 0+mR N (v 1) (v 2))*(ent N 0 0*v 0+mR N (v 1) (v 2))+(cR N*v 1*v 1+2*gK N*v 1*v 2+hiT N*v 2*v 2):=by
  rw[aX,Fw,Fx,Fy]
  unfold mR cR gK hiT
  grind
 rw[h]at id
 unfold kP
 generalize(ent N 0 0*v 0+mR N (v 1) (v 2))*(ent N 0 0*v 0+mR N (v 1) (v 2))=s at id ⊢
 generalize cR N*v 1*v 1+2*gK N*v 1*v 2+hiT N*v 2*v 2=t at id ⊢
 have e:2*ent N 0 0*(n-aE N v)=2*n*ent N 0 0-ent N 0 0*(2*aE N v):=by grind
 omega
def fO(x y z:Int):Nat->Int:=λi=>match i with|0=>x|1=>y|_=>z
theorem Bl{N:List (List Int)}(v:Nat->Int):aE N (fO (v 0) (v 1) (v 2))=aE N v:=cD ⟨rfl,rfl,rfl⟩
def fY(N:List (List Int))(n:Nat)(P:List (List Int)):List Int:=(List.range (n+1)).map λk:Nat=>((P.filter λr=>decide (aE N (c7 r)=(k:Int))).length:Int)
theorem gm{N:List (List Int)}{n:Nat}{P:List (List Int)}:(fY N n P).length=n+1:=by simp[fY]
theorem wM{N:List (List Int)}{n:Nat}:fY N n []=List.replicate (n+1) 0:=by
 unfold fY
 simp only[List.filter_nil,List.length_nil,Int.natCast_zero]
 rw[List.map_const',List.length_range]
theorem jO{N:List (List Int)}{n k:Nat}{P:List (List Int)}(hk:k<=n):(fY N n P)[k]?=some ((P.filter λr=>decide (aE N (c7 r)=(k:Int))).length:Int):=by
 unfold fY
 rw[List.getElem?_map,List.getElem?_range (by omega)]
 rfl
theorem tN{N:List (List Int)}{n k:Nat}{P:List (List Int)}{r:List Int}(hk:k<=n)(h:aE N (c7 r)=(k:Int)):fY N n (P++ [r])=(fY N n P).set k (((P.filter λr=>decide (aE N (c7 r)=(k:Int))).length:Int)+1):=by
 refine List.ext_getElem? λj=> ?_
 by_cases hj:j<=n
 ·rw[jO hj,List.filter_append,List.length_append]
  by_cases e:j=k
  ·subst e
   rw[List.getElem?_set_self (by rw[gm];omega)]
   simp[h]
  ·rw[List.getElem?_set_ne (λz=>e z.symm),jO hj]
   have:¬(k:Int)=(j:Int):=by omega
   simp[h,this]
 ·rw[List.getElem?_eq_none (by rw[gm];omega),List.getElem?_eq_none (by rw[List.length_set,gm];omega)]
def jP(N:List (List Int))(n:Int)(P:List (List Int)):Prop:=P.Nodup/\(∀r∈P,∃v:Nat->Int,r=[v 0,v 1,v 2])/\ ∀v:Nat->Int,[v 0,v 1,v 2]∈P↔aE N v<=n
theorem yx{N:List (List Int)}(v:Nat->Int):aE N (c7 [v 0,v 1,v 2])=aE N v:=cD ⟨rfl,rfl,rfl⟩
theorem jP.rows{N:List (List Int)}{n k:Int}{P:List (List Int)}(h:jP N n P)(hk:k<=n):g6 N k (P.filter λr=>decide (aE N (c7 r)=k)):=by
 refine⟨h.1.sublist List.filter_sublist,λr hr=>h.2.1 r (List.mem_filter.mp hr).1,λv=> ?_⟩
 rw[List.mem_filter,decide_eq_true_eq,yx,h.2.2]
 constructor
 ·exact λz=>z.2
 ·intro e;exact⟨by omega,e⟩
theorem jP.led{m B:List (List Int)}(u:l9 (aA B)){n:Int}{P:List (List Int)}(h:jP (fm m B) n P):jP m n (P.map (qN B)):=by
 obtain⟨nd,sh,iff⟩:=h
 refine⟨?_,λr hr=> ?_,λv=> ?_⟩
 ·refine nodup_map_on nd λr hr s hs e=> ?_
  obtain⟨v,rfl⟩:=sh r hr
  obtain⟨w,rfl⟩:=sh s hs
  unfold qN at e
  injection e with e0 e
  injection e with e1 e
  injection e with e2 _
  obtain⟨a,b,c⟩:=zV u (x:=c7 [v 0,v 1,v 2]) (y:=c7 [w 0,w 1,w 2]) ⟨e0,e1,e2⟩
  change v 0=w 0 at a
  change v 1=w 1 at b
  change v 2=w 2 at c
  rw[a,b,c]
 ·obtain⟨s,hs,rfl⟩:=List.mem_map.mp hr
  exact⟨cN (c7 s) B,rfl⟩
 ·rw[List.mem_map]
  constructor
  ·rintro⟨r,hr,e⟩
   obtain⟨w,rfl⟩:=sh r hr
   have k:=(iff w).mp hr
   rw[jM]at k
   unfold qN at e
   injection e with e0 e
   injection e with e1 e
   injection e with e2 _
   have:aE m (cN w B)=aE m v:=cD ⟨(fW ⟨rfl,rfl,rfl⟩ 0).trans e0,(fW ⟨rfl,rfl,rfl⟩ 1).trans e1,(fW ⟨rfl,rfl,rfl⟩ 2).trans e2⟩
   omega
  ·intro k
   have b0:=jN u v (j:=0) (by decide)
   have b1:=jN u v (j:=1) (by decide)
   have b2:=jN u v (j:=2) (by decide)
   refine⟨[cN v (fZ B) 0,cN v (fZ B) 1,cN v (fZ B) 2],(iff (cN v (fZ B))).mpr ?_,?_⟩
   ·rw[jM,cD ⟨b0,b1,b2⟩]
    exact k
   ·unfold qN
    have c:∀j,cN (c7 [cN v (fZ B) 0,cN v (fZ B) 1,cN v (fZ B) 2]) B j=cN (cN v (fZ B)) B j:=λj=>fW ⟨rfl,rfl,rfl⟩ j
    rw[c,c,c,b0,b1,b2]
def uO(N:List (List Int))(n:Int)(p:Int×Int):Nat:=((kr (kP N n p.1 p.2) -mR N p.1 p.2)/ent N 0 0+1- -((kr (kP N n p.1 p.2)+mR N p.1 p.2)/ent N 0 0)).toNat
def xlo(N:List (List Int))(n:Int)(p:Int×Int):Int:= -((kr (kP N n p.1 p.2)+mR N p.1 p.2)/ent N 0 0)
def iZ(N:List (List Int))(n:Int)(p:Int×Int)(k:Nat):List (List Int):=(List.range k).map λi:Nat=>[xlo N n p+(i:Int),p.1,p.2]
theorem yy{N:List (List Int)}{n:Int}{p:Int×Int}{k:Nat}:iZ N n p (k+1)=iZ N n p k++ [[xlo N n p+(k:Int),p.1,p.2]]:=by
 unfold iZ
 rw[List.range_succ,List.map_append]
 rfl
theorem FU{a s h x:Int}(ha:0<a):(-((s+h)/a)<=x/\x<(s-h)/a+1)↔(-s<=a*x+h/\a*x+h<=s):=by
 have:=ko (f:=a) (b:=h) (z:=1) (s:=s) (y:=x) ha
 rw[Int.mul_one]at this
 exact this.symm
theorem oJ{N:List (List Int)}(ev:bV N)(pos:0<ent N 0 0){n:Int}{p:Int×Int}(h0:0<=kP N n p.1 p.2){r:List Int}:r∈iZ N n p (uO N n p)↔ ∃x,r=[x,p.1,p.2]/\aE N (fO x p.1 p.2)<=n:=by
 obtain⟨s0,s1,s2⟩:=oB h0
 have key:∀x,(-((kr (kP N n p.1 p.2)+mR N p.1 p.2)/ent N 0 0)<=x/\x<(kr (kP N n p.1 p.2) -mR N p.1 p.2)/ent N 0 0+1)↔aE N (fO x p.1 p.2)<=n:=λx=>by
  rw[FU pos,<-nM s0 s1 s2]
  have w:=mT ev n (fO x p.1 p.2)
  change kP N n p.1 p.2- (ent N 0 0*x+mR N p.1 p.2)*(ent N 0 0*x+mR N p.1 p.2)=2*ent N 0 0*(n-aE N (fO x p.1 p.2))at w
  constructor
  ·intro le
   refine Classical.byContradiction λc=> ?_
   have:2*ent N 0 0*(n-aE N (fO x p.1 p.2))<0:=Int.mul_neg_of_pos_of_neg (by omega) (by omega)
   omega
  ·intro le
   have:0<=2*ent N 0 0*(n-aE N (fO x p.1 p.2)):=Int.mul_nonneg (by omega) (by omega)
   omega
 unfold iZ
 rw[List.mem_map]
 constructor
 ·rintro⟨i,hi,rfl⟩
  rw[List.mem_range]at hi
  refine⟨_,rfl,(key _).mp ⟨?_,?_⟩⟩
  ·unfold xlo;omega
  ·unfold uO at hi;unfold xlo;omega
 ·rintro⟨x,rfl,h⟩
  obtain⟨k1,k2⟩:=(key x).mpr h
  refine⟨(x-xlo N n p).toNat,?_,?_⟩
  ·rw[List.mem_range];unfold uO xlo;omega
  ·have:xlo N n p+((x-xlo N n p).toNat:Int)=x:=by unfold xlo;omega
   rw[this]
theorem uQ{N:List (List Int)}(ev:bV N)(pos:0<ent N 0 0){n:Int}{ps:List (Int×Int)}(nd:ps.Nodup)(h:∀y z,(y,z)∈ps↔0<=kP N n y z):jP N n (ps.flatMap λp=>iZ N n p (uO N n p)):=by
 have at_:∀{p:Int×Int}{k:Nat}{r:List Int},r∈iZ N n p k-> ∃x,r=[x,p.1,p.2]:=λh=>by
  obtain⟨i,_,rfl⟩:=List.mem_map.mp h
  exact⟨_,rfl⟩
 refine⟨iR nd (λp _=>nodup_map_on List.nodup_range λi _ j _ e=> ?_) (λp _ p' _ r hr hr'=> ?_),λr hr=> ?_,λv=> ?_⟩
 ·injection e with e _
  omega
 ·obtain⟨x,e⟩:=at_ hr
  obtain⟨x',e'⟩:=at_ hr'
  rw[e]at e'
  injection e' with _ e'
  injection e' with e1 e'
  injection e' with e2 _
  exact Prod.ext e1 e2
 ·obtain⟨p,_,hr⟩:=List.mem_flatMap.mp hr
  obtain⟨x,e⟩:=at_ hr
  exact⟨fO x p.1 p.2,e⟩
 ·have hv:aE N (fO (v 0) (v 1) (v 2))=aE N v:=cD ⟨rfl,rfl,rfl⟩
  rw[List.mem_flatMap]
  constructor
  ·rintro⟨p,hp,hr⟩
   obtain⟨x,e,k⟩:=(oJ ev pos ((h p.1 p.2).mp hp)).mp hr
   simp only[List.cons.injEq,and_true]at e
   obtain⟨e1,e2,e3⟩:=e
   have hx:aE N v=aE N (fO x p.1 p.2):=cD ⟨e1,e2,e3⟩
   rw[hx]
   exact k
  ·intro k
   have w:=mT ev n v
   have sq:=bf (ent N 0 0*v 0+mR N (v 1) (v 2))
   have:0<=2*ent N 0 0*(n-aE N v):=Int.mul_nonneg (by omega) (by omega)
   have l0:0<=kP N n (v 1) (v 2):=by omega
   refine⟨(v 1,v 2),(h _ _).mpr l0,(oJ (p:=(v 1,v 2)) ev pos l0).mpr ⟨v 0,rfl,?_⟩⟩
   show aE N (fO (v 0) (v 1) (v 2))<=n
   rw[hv]
   exact k
theorem qO(k:Nat):(List.replicate k [V.int 0]).flatten=(List.replicate k (0:Int)).map V.int:=by
 induction k with
 |zero=>rfl
 |succ k ih=>
  rw[List.replicate_succ,List.flatten_cons,ih,List.replicate_succ]
  rfl
end
noncomputable section
def iu(m:List (List Int))(n x y:Int)(zs:List Int):List (List Int):=zs.flatMap λz=>if aE m (fO x y z)<=n then [[x,y,z]]else []
theorem oK{m:List (List Int)}{n x y:Int}{zs:List Int}{r:List Int}:r∈iu m n x y zs↔ ∃z,r=[x,y,z]/\z∈zs/\aE m (fO x y z)<=n:=by
 unfold iu
 rw[List.mem_flatMap]
 constructor
 ·rintro⟨z,hz,h⟩
  split at h
  ·rename_i e
   exact⟨z,List.mem_singleton.mp h,hz,e⟩
  ·cases h
 ·rintro⟨z,rfl,hz,e⟩
  refine⟨z,hz,?_⟩
  rw[if_pos e]
  simp
theorem wN{m:List (List Int)}{n x y:Int}:∀{zs:List Int},zs.Nodup->(iu m n x y zs).Nodup:=λ {zs} h=>by
 refine iR h (λz _=>by split<;>simp) λz _ z' _ r hr hr'=> ?_
 split at hr
 ·split at hr'
  ·rw[List.mem_singleton]at hr hr'
   rw[hr]at hr'
   simp only[List.cons.injEq,and_true,true_and]at hr'
   exact hr'
  ·cases hr'
 ·cases hr
def Kr(m:List (List Int))(n R0 R1 R2:Int):List (List Int):=(c8 R0).flatMap λx=>(c8 R1).flatMap λy=>iu m n x y (c8 R2)
theorem Bm{m:List (List Int)}{n R0 R1 R2:Int}(r0:0<=R0)(r1:0<=R1)(r2:0<=R2)(b0:∀v,aE m v<=n-> -R0<=v 0/\v 0<=R0)(b1:∀v,aE m v<=n-> -R1<=v 1/\v 1<=R1)(b2:∀v,aE m v<=n-> -R2<=v 2/\v 2<=R2):jP m n (Kr m n R0 R1 R2):=by
 have at_:∀{x y:Int}{zs:List Int}{r:List Int},r∈iu m n x y zs-> ∃z,r=[x,y,z]:=λh=>by
  obtain⟨z,e,_⟩:=oK.mp h
  exact⟨z,e⟩
 refine⟨?_,λr hr=> ?_,λv=> ?_⟩
 ·unfold Kr
  refine iR lP (λx _=>iR lP (λy _=>wN lP) λy _ y' _ r h h'=> ?_) λx _ x' _ r h h'=> ?_
  ·obtain⟨z,e⟩:=at_ h
   obtain⟨z',e'⟩:=at_ h'
   rw[e]at e'
   simp only[List.cons.injEq,true_and]at e'
   exact e'.1
  ·obtain⟨y,_,h⟩:=List.mem_flatMap.mp h
   obtain⟨y',_,h'⟩:=List.mem_flatMap.mp h'
   obtain⟨z,e⟩:=at_ h
   obtain⟨z',e'⟩:=at_ h'
   rw[e]at e'
   simp only[List.cons.injEq]at e'
   exact e'.1
 ·obtain⟨x,_,hr⟩:=List.mem_flatMap.mp hr
  obtain⟨y,_,hr⟩:=List.mem_flatMap.mp hr
  obtain⟨z,e⟩:=at_ hr
  exact⟨fO x y z,e⟩
 ·constructor
  ·intro h
   obtain⟨x,_,h⟩:=List.mem_flatMap.mp h
   obtain⟨y,_,h⟩:=List.mem_flatMap.mp h
   obtain⟨z,e,_,k⟩:=oK.mp h
   simp only[List.cons.injEq,and_true]at e
   have hx:aE m v=aE m (fO x y z):=cD e
   rw[hx]
   exact k
  ·intro h
   refine List.mem_flatMap.mpr ⟨v 0,(oE r0).mpr (b0 v h),List.mem_flatMap.mpr ⟨v 1,(oE r1).mpr (b1 v h),oK.mpr ⟨v 2,rfl,(oE r2).mpr (b2 v h),?_⟩⟩⟩
   rw[Bl]
   exact h
theorem ku{m:List (List Int)}(ev:bV m)(bI:cg m)(ab:bC m=true){n:Int}{v:Nat->Int}(e:aE m v<=n){i:Nat}(hi:i<3)(p0:0<=ef m i i):aA m*(v i*v i)<=2*n*ef m i i:=by
 have k:=Bh ev bI ab (n:=aE m v) rfl hi
 have:2*aE m v*ef m i i<=2*n*ef m i i:=Int.mul_le_mul_of_nonneg_right (by omega) p0
 omega
theorem yz{m:List (List Int)}(ev:bV m)(x y z:Int):Ja m x y+Ih m x y*z+ent m 2 2*z*z/2=aE m (fO x y z):=by
 have pe:=di ev (fO x y z)
 obtain⟨⟨s1,s2,s3⟩,a,b,c,e1,e2,e3⟩:=ev
 have eo:Ja m x y=a*x*x+b*y*y+ent m 0 1*x*y:=by
  unfold Ja
  rw[e1,e2]
  have:2*a*x*x+2*b*y*y=2*(a*x*x+b*y*y):=by grind
  rw[this]
  omega
 rw[aX,<-s1,<-s2,<-s3,e1,e2,e3]at pe
 have v0:fO x y z 0=x:=rfl
 have v1:fO x y z 1=y:=rfl
 have v2:fO x y z 2=z:=rfl
 rw[v0,v1,v2]at pe
 have ec:2*c*z*z/2=c*z*z:=by
  have:2*c*z*z=2*(c*z*z):=by grind
  rw[this]
  omega
 rw[eo,e3,ec]
 unfold Ih
 grind
theorem pH{m:List (List Int)}(ev:bV m)(bI:cg m)(ab:bC m=true)(v:Nat->Int):0<=aE m v:=by
 have Po:=eZ (cX ev bI) ab
 have pe:=di ev v
 by_cases z:v 0=0/\v 1=0/\v 2=0
 ·have:aE m v=aE m (λ_=>0):=cD z
  rw[this]
  unfold aE
  rw[aX]
  simp
 ·have:=Po v z
  omega
theorem zW{n k:Nat}(h:k<n):EJ n (k:Int)=some k:=by
 unfold EJ
 rw[if_pos (by omega),if_pos (by omega),Int.toNat_natCast]
theorem PC{i:Nat}{v:V}{σ:St}{H:Hp}{f:St->Hp->Prop}(h:f (σ.set i (some v)) H):cS i v σ H f:=h
theorem DK{m B:List (List Int)}{n:Nat}{P:List (List Int)}(sh:∀r∈P,∃v:Nat->Int,r=[v 0,v 1,v 2]):fY (fm m B) n P=fY m n (P.map (qN B)):=by
 have key:∀r∈P,aE (fm m B) (c7 r)=aE m (c7 (qN B r)):=λr hr=>by
  rw[jM]
  exact cD ⟨rfl,rfl,rfl⟩
 unfold fY
 refine List.map_congr_left λk _=> ?_
 rw[List.filter_map,List.length_map]
 congr 2
 refine List.filter_congr λr hr=> ?_
 show decide _=decide _
 rw[key r hr]
theorem Bo{C M:List (List Int)}{n:Nat}{P P':List (List Int)}(Ii:∀{k:Int} {L L':List (List Int)},g6 C k L->g6 M k L'->L.length=L'.length)(h:jP C (n:Int) P)(h':jP M (n:Int) P'):fY C n P=fY M n P':=by
 refine List.ext_getElem? λj=> ?_
 by_cases hj:j<=n
 ·rw[jO hj,jO hj,Ii (h.rows (k:=(j:Int)) (by omega)) (h'.rows (k:=(j:Int)) (by omega))]
 ·rw[List.getElem?_eq_none (by rw[gm];omega),List.getElem?_eq_none (by rw[gm];omega)]
theorem Bq{m:List (List Int)}(ev:bV m)(bI:cg m)(ab:bC m=true){P:List (List Int)}(h:jP m 0 P):fY m 0 P=[1]:=by
 have R:=h.rows (k:=0) (Int.le_refl 0)
 have e:=Bj ev bI ab R
 unfold fY
 show [((P.filter λr=>decide (aE m (c7 r)=((0:Nat):Int))).length:Int)]=[1]
 rw[show((0:Nat):Int)=0 from rfl,e]
 rfl
theorem Ij(z:Int):∃n:Int,vD [V.int (z/8%13),.int (z/8%61)] (if decide (V.int (z%4)=V.int 3)=true then 1 else 0)=some (.int n)/\0<=n/\n<=60:=by
 by_cases c:V.int (z%4)=V.int 3
 ·rw[if_pos (decide_eq_true c)]
  exact⟨_,rfl,by omega,by omega⟩
 ·rw[if_neg (λy=>c (of_decide_eq_true y))]
  exact⟨_,rfl,by omega,by omega⟩
end
end L2
set_option maxHeartbeats 1000000
namespace CM
open PySem L2
section
variable{P:Program}{w:World}{K:PySem.W.Frag}{mg:Str->Option Value}{base:Heap}
inductive tO(vs:List V)(H:Hp)(Q:VK)(E:XK):Prop
 |mk(t:Addr)(bs:List Addr)(N:List (List Int))(n:Int)(_:vs=[.ref t,.int n])(_:Tab H t bs N)(_:cg N)(_:bV N)(_:Bd 700 N)(_:nF N)(_:aA N<=401)(_:0<=n)(_:n<=600)(_:∀(r:Addr) (P:List (List Int)) (H':Hp),ay H H'->H r=none->H' r=some (.lst ((fY N n.toNat P).map V.int)) ->jP N n P->Q (.ref r) H')
theorem qP(F:eG K mg "near_counts" jm fC)(aS:mg "range"=none)(qQ:dg P w K mg base cV 4 "slices" lI wJ)(mS:dg P w K mg base cV 4 "root" n9 yu):dg P w K mg base cV 5 "near_counts" fC tO:=by
 refine F.ok b8 (λvs H Q E h=> ?_) (λf cdv A outer s H vs Q E hr h=> ?_)
 ·obtain⟨t,bs,N,n,rfl,hT,bI,ev,bN,NT,dD,n0,n6,q⟩:=h
  rfl
 obtain⟨t,bs,N,n,rfl,hT,bI,ev,bN,NT,dD,n0,n6,q⟩:=h
 have hu:=hr.units
 refine⟨_,(kM (@ak _ _ _ _ _ (aC (i:=2) b8.nd rfl (Or.inl rfl) (aD aq (aD aq (pv 0) ah (λ_ _=>rfl)) ah (λ_ _=>rfl)))
  (@ak _ _ _ _ _ (aC (i:=3) b8.nd rfl (Or.inl rfl) (ai Cg (dF (af ah aj)) (ai aI (pv 1) ah)))
  (@ak _ _ _ _ _ (jb PassesOwn.never rfl (iy (aR qQ hr rfl aQ (af (pv 0) (af (pv 1) aj)))) (t6 rfl (aO (aP (i:=4) b8.nd rfl (Or.inl rfl)) (aO (aP (i:=5) b8.nd rfl (Or.inl rfl)) (aO (aP (i:=6) b8.nd rfl (Or.inl rfl)) (aO (aP (i:=7) b8.nd rfl (Or.inl rfl)) eW))))) (kM (@ak _ _ _ _ _ (aC (i:=8) b8.nd rfl (Or.inl rfl) (aR mS hr rfl aQ (af (pv 7) aj)))
  (@aL _ _ _ (jb PassesOwn.never rfl (iD rfl aS (af (zd t7 (ai br (ai aI (pv 8) (pv 6)) (pv 2))) (af (ai aI (ai br (ai bW (pv 8) (pv 6)) (pv 2)) ah) aj))) (aP (i:=9) b8.nd rfl (Or.inl rfl)) (kM (@ak _ _ _ _ _ (aC (i:=10) b8.nd rfl (Or.inl rfl) (ai aI (ai aZ (pv 2) (pv 9)) (pv 6)))
  (@aL _ _ _ (EC (pv 3) (ai bW (pv 1) (ai br (ai bW (pv 7) (ai aB (pv 10) (pv 10))) (ai aZ ah (pv 2)))) Dc ah GW set_list)))))))))
  (@aL _ _ _ (aW (pv 3))))))),?_⟩
 obtain⟨c0,c1,c2,rfl,x0,x1,x2⟩:=qE hT bI
 obtain⟨fl,D0,a2,IY,xr,Kn,f8,fa⟩:=gA NT dD
 refine⟨_,rfl,t,_,_,_,rfl,rfl,aU.of hT.1,rfl,c0,_,_,_,rfl,rfl,aU.of x0,rfl,?_⟩
 refine⟨(by show 1<=sizeLine;decide),λp0 g0=>⟨_,rfl,_,_,rfl,rfl,p0,_,_,rfl,rfl,av,by omega,by omega,(by show 1*(n+1).toNat<=16777216;omega),λD hD=> ?_⟩⟩
 have u0:=ay.up (o:= .lst [V.int 0]) g0
 have s0:=u0.trans (ay.up (o:= .lst (List.replicate (n+1).toNat [V.int 0]).flatten) hD)
 have Ik:H D=none:=u0.none hD
 obtain⟨nn,rfl⟩:∃nn:Nat,n=(nn:Int):=⟨n.toNat,by omega⟩
 have Lb:upd (upd H p0 (.lst [V.int 0])) D (.lst (List.replicate ((nn:Int)+1).toNat [V.int 0]).flatten) D=some (.lst ((fY N nn []).map V.int)):=by
  rw[av,wM,qO,show((nn:Int)+1).toNat=nn+1 by omega]
 refine⟨_,rfl,_,rfl,t,_,N,_,rfl,hT.same s0,bI,ev,bN,NT,dD,n0,n6,λu us L H1 s1 eu tu nd KY Qv=> ?_⟩
 have eD:H1 D=some (.lst ((fY N nn []).map V.int)):=s1 _ _ Lb
 have uD:u≠D:=λz=>by
  have e2:=eu
  rw[z,eD]at e2
  have e3:=(HO.lst.inj (Option.some.inj e2))
  have l0:=congrArg List.length e3
  rw[List.length_map,gm]at l0
  obtain⟨x,hx⟩:∃x,us[0]?=some x:=⟨_,List.getElem?_eq_getElem (by omega)⟩
  obtain⟨a,p,rfl,_,_⟩:=tu.get hx
  rw[<-e3,List.getElem?_map]at hx
  obtain⟨y,_,hy⟩:=Option.map_eq_some_iff.mp hx
  cases hy
 refine⟨u,rfl,⟨us,aU.of eu⟩,?_⟩
 refine BZ (xs:=us) (λi σ H'=> ∃o4 o5 o6 o7 o8 o9 tP,σ=[some (.ref t),some (.int (nn:Int)),some (.int (ent N 0 0)),some (.ref D),o4,o5,o6,o7,o8,o9,tP]/\SD D H1 H'/\H' D=some (.lst ((fY N nn ((L.take i).flatMap λp=>iZ N nn p (uO N nn p))).map V.int))) ⟨_,_,_,_,_,_,_,rfl,SD.refl,eD⟩ (λi σ H' hi hh=> ?_) (λi x σ H' hx hh=> ?_) (λσ H' hh=> ?_)
 ·obtain⟨o4,o5,o6,o7,o8,o9,tP,rfl,sD,BL⟩:=hh
  exact aU.of (sD _ _ uD eu)
 ·obtain⟨o4,o5,o6,o7,o8,o9,tP,rfl,sD,BL⟩:=hh
  obtain⟨a,p,rfl,hp,ea⟩:=(tu.sd eD sD).get hx
  have lp:0<=kP N nn p.1 p.2:=(KY _ _).mp (List.mem_of_getElem? hp)
  obtain⟨yb,zb,lb⟩:=yv ev NT dD n0 n6 lp
  refine⟨a,_,rfl,rD.of ea,rfl,_,_,rfl,_,_,rfl,_,_,rfl,_,_,rfl,rfl,?_⟩
  obtain⟨w0,w1,w2⟩:=oB lp
  have wb:kr (kP N nn p.1 p.2)<=1000000000:=by
   refine Classical.byContradiction λc=> ?_
   have:1000000000*1000000000<=kr (kP N nn p.1 p.2)*kr (kP N nn p.1 p.2):=Int.mul_le_mul (by omega) (by omega) (by decide) (by omega)
   omega
  refine⟨_,rfl,_,rfl,lp,Nat.lt_of_le_of_lt (show(kP N nn p.1 p.2).natAbs<=2640000 by omega) (by decide),λw h0 h1 h2=> ?_⟩
  obtain rfl:=uN h0 h1 h2
  have jR:=NT.p
  have Nq:=NT.u
  have nsh:(mR N p.1 p.2).natAbs<=10^14:=by
   have m1:=kR (show(ent N 0 1).natAbs<=2200 by omega) yb
   have m2:=kR (show(ent N 0 2).natAbs<=4400 by omega) zb
   unfold mR
   omega
  have q1:=eL (kr (kP N nn p.1 p.2)+mR N p.1 p.2) (show 0<ent N 0 0 by omega)
  have q2:=eL (kr (kP N nn p.1 p.2) -mR N p.1 p.2) (show 0<ent N 0 0 by omega)
  clear yb zb
  refine⟨_,rfl,_,rfl,_,_,rfl,rfl,_,rfl,_,_,rfl,rfl,⟨by omega,by omega⟩,_,rfl,_,rfl,_,rfl,_,_,rfl,rfl,_,rfl,_,_,rfl,rfl,⟨by omega,by omega⟩,_,_,rfl,rfl,_,_,rfl,⟨by omega,by omega,by omega,by omega⟩,?_⟩
  refine eX (lo:=xlo N nn p) (n:=uO N nn p) (λj σ H2=> ∃o9 tP,σ=[some (.ref t),some (.int (nn:Int)),some (.int (ent N 0 0)),some (.ref D),some (.int p.1),some (.int p.2),some (.int (mR N p.1 p.2)),some (.int (kP N nn p.1 p.2)),some (.int (kr (kP N nn p.1 p.2))),o9,tP]/\SD D H1 H2/\H2 D=some (.lst ((fY N nn (((L.take i).flatMap λp=>iZ N nn p (uO N nn p))++iZ N nn p j)).map V.int))) ⟨_,_,rfl,sD,by simpa [iZ]using BL⟩ (λj σ H2 hj hh=> ?_) (λσ H2 hh=> ?_)
  ·obtain⟨o9,tP,rfl,Br,uS⟩:=hh
   obtain⟨x,ex⟩:∃x:Int,x=xlo N nn p+(j:Int):=⟨_,rfl⟩
   rw[<-ex]
   have hx:aE N (fO x p.1 p.2)<=nn:=by
    have m: [x,p.1,p.2]∈iZ N nn p (uO N nn p):=by rw[ex];exact List.mem_map.mpr ⟨j,List.mem_range.mpr hj,rfl⟩
    obtain⟨x',e,k⟩:=(oJ ev NT.pos lp).mp m
    simp only[List.cons.injEq,and_true]at e
    rw[e]
    exact k
   have h0:=pH ev bI NT.ab (fO x p.1 p.2)
   obtain⟨k,ek⟩:∃k:Nat,aE N (fO x p.1 p.2)=(k:Int):=⟨_,(Int.toNat_of_nonneg h0).symm⟩
   have kn:k<=nn:=by omega
   have wl:=mT ev nn (fO x p.1 p.2)
   change kP N nn p.1 p.2- (ent N 0 0*x+mR N p.1 p.2)*(ent N 0 0*x+mR N p.1 p.2)=2*ent N 0 0*(nn-aE N (fO x p.1 p.2))at wl
   have PD:(ent N 0 0*x+mR N p.1 p.2)*(ent N 0 0*x+mR N p.1 p.2)<=2640000:=by
    have:0<=2*ent N 0 0*(nn-aE N (fO x p.1 p.2)):=Int.mul_nonneg (by omega) (by omega)
    omega
   have nb:(ent N 0 0*x+mR N p.1 p.2).natAbs<2^4096:=by
    refine Ny (Nat.le_trans (m:=10000) (Classical.byContradiction λc=> ?_) (by decide))
    have:10000*10000<=(ent N 0 0*x+mR N p.1 p.2).natAbs*(ent N 0 0*x+mR N p.1 p.2).natAbs:=Nat.mul_le_mul (by omega) (by omega)
    have e:=Int.natAbs_mul_self (a:=ent N 0 0*x+mR N p.1 p.2)
    omega
   have Ks:(nn:Int) - (kP N nn p.1 p.2- (ent N 0 0*x+mR N p.1 p.2)*(ent N 0 0*x+mR N p.1 p.2))/(2*ent N 0 0)=(k:Int):=by
    rw[wl,Int.mul_ediv_cancel_left _ (by omega),ek]
    omega
   obtain⟨P,eP⟩:∃P,P=((L.take i).flatMap λp=>iZ N nn p (uO N nn p))++iZ N nn p j:=⟨_,rfl⟩
   rw[<-eP]at uS
   have hg:((fY N nn P).map V.int)[k]?=some (.int ((P.filter λr=>decide (aE N (c7 r)=(k:Int))).length:Int)):=by
    rw[List.getElem?_map,jO kn]
    rfl
   have hr:aE N (c7 [x,p.1,p.2])=(k:Int):=by
    rw[<-ek]
    exact cD ⟨rfl,rfl,rfl⟩
   have pos2:0<2*ent N 0 0/\2*ent N 0 0<1073741824:=⟨by omega,by omega⟩
   have a64: -(2^64)<ent N 0 0/\ent N 0 0<2^64:=⟨by omega,by omega⟩
   refine⟨_,rfl,_,rfl,_,_,rfl,rfl,.inl a64,_,rfl,_,_,rfl,rfl,?_⟩
   refine⟨_,rfl,_,rfl,_,rfl,_,rfl,_,rfl,_,_,rfl,rfl,⟨nb,nb⟩,_,_,rfl,rfl,_,rfl,_,_,rfl,rfl,.inl ⟨by decide,by decide⟩,_,_,rfl,rfl,pos2,_,_,rfl,rfl,D,_,k,_,rfl,congrArg V.int Ks,aU.of uS,hg,_,_,rfl,rfl,D,_,(k:Int),k,rfl,congrArg V.int Ks,uS,zW (by rw[List.length_map,gm];omega),?_⟩
   refine⟨_,_,rfl,Br.upd,?_⟩
   rw[yy,<-List.append_assoc,<-eP,<-ex,tN kn hr,List.map_set]
   exact av
  ·obtain⟨o9,tP,rfl,Br,uS⟩:=hh
   refine⟨_,_,_,_,_,_,_,rfl,Br,?_⟩
   rw[gk _ hp]
   exact uS
 ·obtain⟨o4,o5,o6,o7,o8,o9,tP,rfl,sD,BL⟩:=hh
  have el:L.take us.length=L:=by rw[tu.length,List.take_length]
  rw[el]at BL
  refine⟨_,rfl,q D _ H' ((λa o e=>sD a o (λz=>by rw[z,Ik]at e;cases e) (s1 _ _ (s0 _ _ e)))) Ik ?_ (uQ ev NT.pos nd KY)⟩
  rw[Int.toNat_natCast]
  exact BL
inductive wO(vs:List V)(H:Hp)(Q:VK)(E:XK):Prop
 |mk(n g:Int)(_:vs=[.int n,.int g])(_:0<=n)(_:n<=g)(_:Q .ig H)
theorem oM(F:eG K mg "refuse_others" gW dZ)(gw:dg P w K mg base cV 1 "is_whole" gr l6):dg P w K mg base cV 2 "refuse_others" dZ wO:=by
 refine F.ok oh (λvs H Q E h=> ?_) (λf cdv A outer s H vs Q E hr h=> ?_)
 ·obtain⟨n,g,rfl,n0,ng,q⟩:=h
  rfl
 obtain⟨n,g,rfl,n0,ng,q⟩:=h
 have hu:=hr.units
 refine⟨_,(dz (dJ (PW.pt (sy (mh (jU (aR gw hr rfl aQ (af (pv 0) aj)))) (sy (cF Gk (pv 0) ah (cK _)) (tW (cF qh (pv 0) (pv 1) (cK _)))))) (@aL _ _ _ qd) eB)),?_⟩
 refine⟨_,rfl,n,rfl,_,rfl,vK ?_⟩
 refine⟨_,rfl,_,_,rfl,rfl,_,rfl,jC (λc=>absurd (of_decide_eq_true c) (by omega)) λ_=> ?_⟩
 exact⟨_,rfl,_,rfl,_,_,rfl,rfl,_,rfl,jC (λc=>absurd (of_decide_eq_true c) (by omega)) λ_=>q⟩
inductive wQ(T1 T2 T3 T4 T5 T6:Addr)(vs:List V)(H:Hp)(Q:VK)(E:XK):Prop
 |mk(t:Addr)(bs:List Addr)(m:List (List Int))(n:Int)(_:vs=[.ref t,.int n])(_:Tab H t bs m)(_:cg m)(_:Bd 440 m)(_:bV m)(_:bC m=true)(_:aA m/2<=200)(_:0<=n)(_:n<=60)(_:H T1=some (dH T1))(_:H T2=some (dH T2))(_:H T3=some (dH T3))(_:H T4=some (dH T4))(_:H T5=some (dH T5))(_:H T6=some .vE)(_:∀(r:Addr) (P:List (List Int)) (H':Hp),ay H H'->H r=none->H' r=some (.lst ((fY m n.toNat P).map V.int)) ->jP m n P->Q (.ref r) H')
theorem uT{bE bg aK bQ aG aY:Addr}(F:eG K mg "counts_to" lJ gH){fP:_}(fQ:mg "GREATEST_COUNTED"=some (Value.int 60 fP))(yC:dg P w K mg base cV 10 "half" qA (Dw bE bg aK))(g7:dg P w K mg base cV 10 "refuse_others" dZ wO)(yD:dg P w K mg base cV 10 "near" qB (DB bQ aG aY))(jt:dg P w K mg base cV 10 "near_counts" fC tO):dg P w K mg base cV 11 "counts_to" gH (wQ bE bg aK bQ aG aY):=by
 refine F.ok uF (λvs H Q E h=> ?_) (λf cdv A outer s H vs Q E hr h=> ?_)
 ·obtain⟨t,bs,m,n,rfl,hT,bI,hB,ev,ab,hd,n0,n6,h1,h2,h3,h4,h5,h6,q⟩:=h
  rfl
 obtain⟨t,bs,m,n,rfl,hT,bI,hB,ev,ab,hd,n0,n6,h1,h2,h3,h4,h5,h6,q⟩:=h
 have hu:=hr.units
 refine⟨_,(kM (@ak _ _ _ _ _ (pY (aR yC hr rfl aQ (af (pv 0) aj)))
  (@ak _ _ _ _ _ (pY (aR g7 hr rfl aQ (af (pv 1) (af (zc (v:= .int 60) rfl fQ ⟨_,rfl⟩) aj))))
  (@aL _ _ _ (aW (aR jt hr rfl aQ (af (aD Ht (aR yD hr rfl aQ (af (pv 0) aj)) ah (λ_ _=>rfl)) (af (pv 1) aj)))))))),?_⟩
 refine⟨_,rfl,t,bs,m,rfl,hT,bI,hB,ev,ab,hd,h1,h2,h3,trivial,λH1 s1=> ?_⟩
 refine⟨_,rfl,n,60,rfl,n0,n6,?_⟩
 have D4:aA m<=401:=by omega
 have D0:=(fU ab).2.2
 refine⟨_,rfl,t,bs,m,rfl,hT.same s1,bI,hB,ev,ab,Nat.lt_of_le_of_lt (show(aA m).natAbs<=401 by omega) (by decide),s1 _ _ h4,s1 _ _ h5,s1 _ _ h6,λu us r rs B P H2 NT un dt Dq bB s2 eP Tu Tr=> ?_⟩
 have NB:=FQ NT (by rw[dt];exact D4)
 refine⟨P,_,_,_,rfl,rfl,rD.of eP,rfl,_,rfl,u,us,fm m B,n,rfl,Tu,NT.Dq,NT.ev,NB,NT,(by rw[dt];exact D4),n0,by omega,λp Pr H3 s3 fp ep R=> ?_⟩
 obtain⟨nn,rfl⟩:∃nn:Nat,n=(nn:Int):=⟨n.toNat,by omega⟩
 rw[Int.toNat_natCast]at ep
 rw[DK R.2.1]at ep
 exact q p _ H3 (s1.trans (s2.trans s3)) ((s1.trans s2).none fp) (by rw[Int.toNat_natCast];exact ep) (R.led un)
inductive uU(K:PySem.W.Frag)(vs:List V)(H:Hp)(Q:VK)(E:XK):Prop
 |mk(a:Addr)(ns:List Int)(k:Int)(_:vs=[.ref a,.int k])(_:aU K H a (ns.map V.int))(_:ns.length<=63)(_:0<=k)(_:∀z:Int,Q (.int z) H)
theorem pP(F:eG K mg "_law_cell_at" iN eT)(nJ:mg "len"=none):dg P w K mg base cV 1 "_law_cell_at" eT (uU K):=by
 refine F.ok pN (λvs H Q E h=> ?_) (λf cdv A outer s H vs Q E hr h=> ?_)
 ·obtain⟨a,ns,k,rfl,hS,h63,h0,q⟩:=h
  rfl
 obtain⟨a,ns,k,rfl,hS,h63,h0,q⟩:=h
 have hu:=hr.units
 refine⟨_,(kM (@ak _ _ _ _ _ (dJ (cF Gk (pv 1) (dX jW rfl nJ PySem.boot_len (af (pv 0) aj)) (cK _)) (@aL _ _ _ (aW (aD aq (pv 0) (pv 1) (λ_ _=>rfl)))) eB)
  (@aL _ _ _ (aW ah)))),?_⟩
 have hl:(ns.map V.int).length=ns.length:=List.length_map _
 refine⟨_,rfl,_,rfl,a,_,rfl,.inl hS,_,_,rfl,rfl,_,rfl,?_⟩
 refine jC (λc=> ?_) (λc=> ?_)
 ·have c':k<(((ns.map V.int).length:Nat):Int):=of_decide_eq_true c
  rw[hl]at c'
  obtain⟨z,hz⟩:=EZ h0 c'
  exact⟨_,rfl,_,rfl,a,_,_,_,rfl,rfl,hS,hz,q z⟩
 ·exact q 0
theorem qR(F:eG K mg "_law_number" jn fE)(DL:mg "abs"=none)(aS:mg "range"=none)(dP:dg P w K mg base cV 1 "_law_cell_at" eT (uU K)):dg P w K mg base cV 2 "_law_number" fE (uU K):=by
 refine F.ok dw (λvs H Q E h=> ?_) (λf cdv A outer s H vs Q E hr h=> ?_)
 ·obtain⟨a,ns,k,rfl,hS,h63,h0,q⟩:=h
  rfl
 obtain⟨a,ns,k,rfl,hS,h63,h0,q⟩:=h
 have hu:=hr.units
 refine⟨_,(kM (@ak _ _ _ _ _ (dJ (cF Cc (dX Cd rfl DL PyProof.Rows.boot_abs (af (aR dP hr rfl aQ (af (pv 0) (af (pv 1) aj))) aj)) (ai Hj ah ah) (cK _)) (@aL _ _ _ (aW (aR dP hr rfl aQ (af (pv 0) (af (pv 1) aj))))) eB)
  (@ak _ _ _ _ _ (aC (i:=2) dw.nd rfl (Or.inl rfl) (ai aI (ai aI (aR dP hr rfl aQ (af (pv 0) (af ah aj))) (ai aZ ah (pv 1))) (ai aZ ah (aR dP hr rfl aQ (af (pv 0) (af (pv 1) aj))))))
  (@ak _ _ _ _ _ (aC (i:=2) dw.nd rfl (Or.inl rfl) (ai aI (ai cJ (pv 2) ah) ah))
  (@ak _ _ _ _ _ (aC (i:=3) dw.nd rfl (Or.inl rfl) ah)
  (@ak _ _ _ _ _ (jb PassesOwn.never rfl (dh rfl aS (af ah aj)) (aP (i:=4) dw.nd rfl (Or.inl rfl)) (kM (@ak _ _ _ _ _ (aC (i:=2) dw.nd rfl (Or.inl rfl) (ai cJ (ai aI (ai aI (ai aI (ai aZ (pv 2) ah) (ai br (pv 2) ah)) (ai aZ (ai aZ ah (pv 4)) (pv 4))) ah) ah))
  (@aL _ _ _ (aC (i:=3) dw.nd rfl (Or.inl rfl) (ai aI (ai aZ (pv 3) ah) (ai cJ (ai aZ (pv 2) ah) ah)))))))
  (@aL _ _ _ (aW (pv 3))))))))),?_⟩
 refine⟨_,rfl,_,rfl,a,ns,k,rfl,hS,h63,h0,λz1=> ?_⟩
 refine⟨z1,rfl,_,_,rfl,rfl,⟨by decide,by decide,by decide⟩,_,_,rfl,rfl,_,rfl,?_⟩
 refine jC (λc=> ?_) (λc=> ?_)
 ·exact⟨_,rfl,_,rfl,a,ns,k,rfl,hS,h63,h0,q⟩
 refine⟨_,rfl,a,ns,0,rfl,hS,h63,Int.le_refl 0,λz2=> ?_⟩
 refine⟨_,rfl,_,_,rfl,rfl,.inl ⟨by decide,by decide⟩,_,_,rfl,rfl,?_⟩
 refine⟨_,rfl,_,rfl,a,ns,k,rfl,hS,h63,h0,λz3=> ?_⟩
 refine⟨_,_,rfl,rfl,.inl ⟨by decide,by decide⟩,_,_,rfl,rfl,?_⟩
 refine⟨_,rfl,_,_,rfl,rfl,(by show(0:Int)<2147483563;decide),_,_,rfl,rfl,?_⟩
 refine⟨10,rfl,by decide,by decide,eX (n:=10) (λi σ H'=> ∃x t j,H'=H/\σ=[some (.ref a),some (.int k),some (.int x),some (.int t),j]) ⟨_,_,_,rfl,rfl⟩ (λi σ H' hi h=> ?_) (λσ H' h=> ?_)⟩
 ·obtain⟨x,t,j,rfl,rfl⟩:=h
  refine⟨_,rfl,_,_,rfl,rfl,.inr ⟨by decide,by decide⟩,?_⟩
  refine⟨_,rfl,_,_,rfl,rfl,⟨by decide,by decide⟩,_,_,rfl,rfl,?_⟩
  refine⟨_,rfl,_,_,rfl,rfl,.inl ⟨by decide,by decide⟩,_,rfl,_,_,rfl,rfl,.inr ⟨by omega,by omega⟩,_,_,rfl,rfl,?_⟩
  refine⟨_,_,rfl,rfl,_,_,rfl,rfl,(by show(0:Int)<2147483647;decide),?_⟩
  refine⟨_,rfl,_,_,rfl,rfl,.inr ⟨by decide,by decide⟩,_,rfl,_,_,rfl,rfl,.inr ⟨by decide,by decide⟩,_,_,rfl,rfl,(by show(0:Int)<2147483629;decide),_,_,rfl,rfl,?_⟩
  exact⟨_,_,_,rfl,rfl⟩
 ·obtain⟨x,t,j,rfl,rfl⟩:=h
  exact⟨_,rfl,q _⟩
inductive uV(vs:List V)(H:Hp)(Q:VK)(E:XK):Prop
 |mk(t:Addr)(bs:List Addr)(m:List (List Int))(_:vs=[.ref t])(_:Tab H t bs m)(_:cg m)(_:Bd 1000 m)(_:Q (.int (aA m)) H)
theorem wR(F:eG K mg "_law_det" mO fM):dg P w K mg base cV 1 "_law_det" fM uV:=by
 refine F.ok iX (λvs H Q E h=> ?_) (λf cdv A outer s H vs Q E hr h=> ?_)
 ·obtain⟨t,bs,m,rfl,hT,bI,hB,q⟩:=h
  rfl
 obtain⟨t,bs,m,rfl,hT,bI,hB,q⟩:=h
 have hu:=hr.units
 refine⟨_,(kM (@ak _ _ _ _ _ (aC (i:=1) iX.nd rfl (Or.inl rfl) (ai bW (ai aB (aD aq (aD aq (pv 0) ah (λ_ _=>rfl)) ah (λ_ _=>rfl)) (aD aq (aD aq (pv 0) ah (λ_ _=>rfl)) ah (λ_ _=>rfl))) (ai aB (aD aq (aD aq (pv 0) ah (λ_ _=>rfl)) ah (λ_ _=>rfl)) (aD aq (aD aq (pv 0) ah (λ_ _=>rfl)) ah (λ_ _=>rfl)))))
  (@ak _ _ _ _ _ (aC (i:=2) iX.nd rfl (Or.inl rfl) (ai bW (ai aB (aD aq (aD aq (pv 0) ah (λ_ _=>rfl)) ah (λ_ _=>rfl)) (aD aq (aD aq (pv 0) ah (λ_ _=>rfl)) ah (λ_ _=>rfl))) (ai aB (aD aq (aD aq (pv 0) ah (λ_ _=>rfl)) ah (λ_ _=>rfl)) (aD aq (aD aq (pv 0) ah (λ_ _=>rfl)) ah (λ_ _=>rfl)))))
  (@ak _ _ _ _ _ (aC (i:=3) iX.nd rfl (Or.inl rfl) (ai bW (ai aB (aD aq (aD aq (pv 0) ah (λ_ _=>rfl)) ah (λ_ _=>rfl)) (aD aq (aD aq (pv 0) ah (λ_ _=>rfl)) ah (λ_ _=>rfl))) (ai aB (aD aq (aD aq (pv 0) ah (λ_ _=>rfl)) ah (λ_ _=>rfl)) (aD aq (aD aq (pv 0) ah (λ_ _=>rfl)) ah (λ_ _=>rfl)))))
  (@aL _ _ _ (aW (ai aI (ai bW (ai aB (aD aq (aD aq (pv 0) ah (λ_ _=>rfl)) ah (λ_ _=>rfl)) (pv 1)) (ai aB (aD aq (aD aq (pv 0) ah (λ_ _=>rfl)) ah (λ_ _=>rfl)) (pv 2))) (ai aB (aD aq (aD aq (pv 0) ah (λ_ _=>rfl)) ah (λ_ _=>rfl)) (pv 3))))))))),?_⟩
 obtain⟨c0,x1,x2,_⟩:=aV hT bI (i:=0) (by decide)
 obtain⟨c1,y1,y2,_⟩:=aV hT bI (i:=1) (by decide)
 obtain⟨c2,w1,w2,_⟩:=aV hT bI (i:=2) (by decide)
 refine⟨_,rfl,t,_,_,_,rfl,rfl,aU.of hT.1,y1,c1,_,_,_,rfl,rfl,aU.of y2,rfl,_,rfl,t,_,_,_,rfl,rfl,aU.of hT.1,w1,c2,_,_,_,rfl,rfl,aU.of w2,rfl,_,_,rfl,rfl,⟨aF (hB 1 1 (by decide) (by decide)) (by decide),aF (hB 2 2 (by decide) (by decide)) (by decide)⟩,_,rfl,t,_,_,_,rfl,rfl,aU.of hT.1,y1,c1,_,_,_,rfl,rfl,aU.of y2,rfl,_,rfl,t,_,_,_,rfl,rfl,aU.of hT.1,w1,c2,_,_,_,rfl,rfl,aU.of w2,rfl,_,_,rfl,rfl,⟨aF (hB 1 2 (by decide) (by decide)) (by decide),aF (hB 2 1 (by decide) (by decide)) (by decide)⟩,_,_,rfl,rfl,?_⟩
 refine⟨_,rfl,t,_,_,_,rfl,rfl,aU.of hT.1,y1,c1,_,_,_,rfl,rfl,aU.of y2,rfl,_,rfl,t,_,_,_,rfl,rfl,aU.of hT.1,w1,c2,_,_,_,rfl,rfl,aU.of w2,rfl,_,_,rfl,rfl,⟨aF (hB 1 0 (by decide) (by decide)) (by decide),aF (hB 2 2 (by decide) (by decide)) (by decide)⟩,_,rfl,t,_,_,_,rfl,rfl,aU.of hT.1,y1,c1,_,_,_,rfl,rfl,aU.of y2,rfl,_,rfl,t,_,_,_,rfl,rfl,aU.of hT.1,w1,c2,_,_,_,rfl,rfl,aU.of w2,rfl,_,_,rfl,rfl,⟨aF (hB 1 2 (by decide) (by decide)) (by decide),aF (hB 2 0 (by decide) (by decide)) (by decide)⟩,_,_,rfl,rfl,?_⟩
 refine⟨_,rfl,t,_,_,_,rfl,rfl,aU.of hT.1,y1,c1,_,_,_,rfl,rfl,aU.of y2,rfl,_,rfl,t,_,_,_,rfl,rfl,aU.of hT.1,w1,c2,_,_,_,rfl,rfl,aU.of w2,rfl,_,_,rfl,rfl,⟨aF (hB 1 0 (by decide) (by decide)) (by decide),aF (hB 2 1 (by decide) (by decide)) (by decide)⟩,_,rfl,t,_,_,_,rfl,rfl,aU.of hT.1,y1,c1,_,_,_,rfl,rfl,aU.of y2,rfl,_,rfl,t,_,_,_,rfl,rfl,aU.of hT.1,w1,c2,_,_,_,rfl,rfl,aU.of w2,rfl,_,_,rfl,rfl,⟨aF (hB 1 1 (by decide) (by decide)) (by decide),aF (hB 2 0 (by decide) (by decide)) (by decide)⟩,_,_,rfl,rfl,?_⟩
 refine⟨_,rfl,t,_,_,_,rfl,rfl,aU.of hT.1,x1,c0,_,_,_,rfl,rfl,aU.of x2,rfl,_,rfl,_,_,rfl,rfl,⟨aF (hB 0 0 (by decide) (by decide)) (by decide),aF (ji (bZ (hB 1 1 (by decide) (by decide)) (hB 2 2 (by decide) (by decide))) (bZ (hB 1 2 (by decide) (by decide)) (hB 2 1 (by decide) (by decide)))) (by decide)⟩,?_⟩
 refine⟨_,rfl,t,_,_,_,rfl,rfl,aU.of hT.1,x1,c0,_,_,_,rfl,rfl,aU.of x2,rfl,_,rfl,_,_,rfl,rfl,⟨aF (hB 0 1 (by decide) (by decide)) (by decide),aF (ji (bZ (hB 1 0 (by decide) (by decide)) (hB 2 2 (by decide) (by decide))) (bZ (hB 1 2 (by decide) (by decide)) (hB 2 0 (by decide) (by decide)))) (by decide)⟩,_,_,rfl,rfl,?_⟩
 refine⟨_,rfl,t,_,_,_,rfl,rfl,aU.of hT.1,x1,c0,_,_,_,rfl,rfl,aU.of x2,rfl,_,rfl,_,_,rfl,rfl,⟨aF (hB 0 2 (by decide) (by decide)) (by decide),aF (ji (bZ (hB 1 0 (by decide) (by decide)) (hB 2 1 (by decide) (by decide))) (bZ (hB 1 1 (by decide) (by decide)) (hB 2 0 (by decide) (by decide)))) (by decide)⟩,_,_,rfl,rfl,?_⟩
 have e:ent m 0 0*(ent m 1 1*ent m 2 2-ent m 1 2*ent m 2 1) -ent m 0 1*(ent m 1 0*ent m 2 2-ent m 1 2*ent m 2 0)+ent m 0 2*(ent m 1 0*ent m 2 1-ent m 1 1*ent m 2 0)=aA m:=by
  rw[cO]
  grind
 rw[<-e]at q
 exact q
inductive zX(vs:List V)(H:Hp)(Q:VK)(E:XK):Prop
 |mk(a b c big:Int)(_:vs=[.int a,.int b,.int c,.int big])(_:0<a)(_:a<=b)(_:b<=c)(_:c<1000000)(_:∀p q r t bs H',-a<=p->p<=a-> -a<=q->q<=a-> -b<=r->r<=b->0<aA (fz (2*a) (2*b) (2*c) p q r) ->ay H H'->H t=none->(∀b∈bs,H b=none) ->t∉bs->bs.Nodup->Tab H' t bs (fz (2*a) (2*b) (2*c) p q r) ->Q (.ref t) H')
theorem rQ(F:eG K mg "_law_shape" kc gc)(dU:dg P w K mg base cV 1 "_law_det" fM uV):dg P w K mg base cV 2 "_law_shape" gc zX:=by
 refine F.ok d9 (λvs H Q E h=> ?_) (λf cdv A outer s H vs Q E hr h=> ?_)
 ·obtain⟨a,b,c,big,rfl,ha,hab,hbc,hc,q⟩:=h
  rfl
 obtain⟨a,b,c,big,rfl,ha,hab,hbc,hc,q⟩:=h
 have hu:=hr.units
 refine⟨_,(kM (@ak _ _ _ _ _ (aC (i:=4) d9.nd rfl (Or.inl rfl) (ai bW (ai cJ (pv 3) (ai aI (ai aZ ah (pv 0)) ah)) (pv 0)))
  (@ak _ _ _ _ _ (aC (i:=5) d9.nd rfl (Or.inl rfl) (ai bW (ai cJ (ai br (pv 3) (ai aI (ai aZ ah (pv 0)) ah)) (ai aI (ai aZ ah (pv 0)) ah)) (pv 0)))
  (@ak _ _ _ _ _ (aC (i:=6) d9.nd rfl (Or.inl rfl) (ai bW (ai cJ (ai br (ai br (pv 3) (ai aI (ai aZ ah (pv 0)) ah)) (ai aI (ai aZ ah (pv 0)) ah)) (ai aI (ai aZ ah (pv 1)) ah)) (pv 1)))
  (@ak _ _ _ _ _ (aC (i:=7) d9.nd rfl (Or.inl rfl) (dF (af (dF (af (ai aZ ah (pv 0)) (af (pv 4) (af (pv 5) aj)))) (af (dF (af (pv 4) (af (ai aZ ah (pv 1)) (af (pv 6) aj)))) (af (dF (af (pv 5) (af (pv 6) (af (ai aZ ah (pv 2)) aj)))) aj)))))
  (@ak _ _ _ _ _ (dJ (cF qg (aR dU hr rfl aQ (af (pv 7) aj)) ah (cK _)) (@aL _ _ _ (aC (i:=7) d9.nd rfl (Or.inl rfl) (dF (af (dF (af (ai aZ ah (pv 0)) (af (pv 4) (af (pv 5) aj)))) (af (dF (af (pv 4) (af (ai aZ ah (pv 1)) (af ah aj)))) (af (dF (af (pv 5) (af ah (af (ai aZ ah (pv 2)) aj)))) aj)))))) eB)
  (@aL _ _ _ (aW (pv 7))))))))),?_⟩
 have m1:0<2*a+1:=by omega
 have m2:0<2*b+1:=by omega
 refine⟨_,rfl,_,rfl,_,_,rfl,rfl,.inl ⟨by decide,by decide⟩,_,_,rfl,rfl,_,_,rfl,rfl,m1,_,rfl,_,_,rfl,rfl,?_⟩
 refine⟨_,rfl,_,rfl,_,_,rfl,rfl,.inl ⟨by decide,by decide⟩,_,_,rfl,rfl,_,_,rfl,rfl,⟨m1,by omega⟩,_,rfl,_,_,rfl,rfl,.inl ⟨by decide,by decide⟩,_,_,rfl,rfl,_,_,rfl,rfl,m1,_,rfl,_,_,rfl,rfl,?_⟩
 refine⟨_,rfl,_,rfl,_,_,rfl,rfl,.inl ⟨by decide,by decide⟩,_,_,rfl,rfl,_,_,rfl,rfl,⟨m1,by omega⟩,_,rfl,_,_,rfl,rfl,.inl ⟨by decide,by decide⟩,_,_,rfl,rfl,_,_,rfl,rfl,⟨m1,by omega⟩,_,rfl,_,_,rfl,rfl,.inl ⟨by decide,by decide⟩,_,_,rfl,rfl,_,_,rfl,rfl,m2,_,rfl,_,_,rfl,rfl,?_⟩
 obtain⟨p,ep,hp,jR⟩:∃p,p=big%(2*a+1) -a/\ -a<=p/\p<=a:=⟨_,rfl,by have:=Int.emod_nonneg big (show 2*a+1≠0 by omega);omega,by have:=Int.emod_lt_of_pos big m1;omega⟩
 obtain⟨qq,eq,hq,hq'⟩:∃p,p=big/(2*a+1)%(2*a+1) -a/\ -a<=p/\p<=a:=⟨_,rfl,by have:=Int.emod_nonneg (big/(2*a+1)) (show 2*a+1≠0 by omega);omega,by have:=Int.emod_lt_of_pos (big/(2*a+1)) m1;omega⟩
 obtain⟨r,er,hr,hr'⟩:∃p,p=big/(2*a+1)/(2*a+1)%(2*b+1) -b/\ -b<=p/\p<=b:=⟨_,rfl,by have:=Int.emod_nonneg (big/(2*a+1)/(2*a+1)) (show 2*b+1≠0 by omega);omega,by have:=Int.emod_lt_of_pos (big/(2*a+1)/(2*a+1)) m2;omega⟩
 simp only[<-ep,<-eq,<-er]
 clear ep eq er
 refine⟨_,rfl,_,_,rfl,rfl,.inl ⟨by decide,by decide⟩,_,rfl,_,rfl,(by show 3<=sizeLine;decide),λp0 h0=>⟨_,rfl,_,rfl,_,_,rfl,rfl,.inl ⟨by decide,by decide⟩,_,rfl,(by show 3<=sizeLine;decide),λp1 h1=>⟨_,rfl,_,rfl,_,rfl,_,_,rfl,rfl,.inl ⟨by decide,by decide⟩,(by show 3<=sizeLine;decide),λp2 h2=>⟨(by show 3<=sizeLine;decide),λt ht=> ?_⟩⟩⟩⟩
 have u0:=ay.up (o:= .lst [.int (2*a),.int p,.int qq]) h0
 have u1:=ay.up (o:= .lst [.int p,.int (2*b),.int r]) h1
 have u2:=ay.up (o:= .lst [.int qq,.int r,.int (2*c)]) h2
 have u3:=ay.up (o:= .lst [.ref p0,.ref p1,.ref p2]) ht
 have T:Tab _ t [p0,p1,p2] (fz (2*a) (2*b) (2*c) p qq r):=gB _ av (u3 _ _ (u2 _ _ (u1 _ _ av))) (u3 _ _ (u2 _ _ av)) (u3 _ _ av)
 have us:=u0.trans (u1.trans (u2.trans u3))
 have fr:=xS h0 h1 h2 ht
 have nn:=CV h0 h1 h2
 refine⟨_,rfl,t,_,_,rfl,T,cy _,(uq (n:=30) (by omega) (by omega) (by omega) (by omega) (by omega) (by omega)).mono (by decide),_,_,rfl,rfl,_,rfl,jC (λdc=> ?_) (λdc=> ?_)⟩
 ·refine⟨_,rfl,_,_,rfl,rfl,.inl ⟨by decide,by decide⟩,_,rfl,_,rfl,(by show 3<=sizeLine;decide),λNH Mz=>⟨_,rfl,_,rfl,_,_,rfl,rfl,.inl ⟨by decide,by decide⟩,(by show 3<=sizeLine;decide),λNI MA=>⟨_,rfl,_,rfl,_,_,rfl,rfl,.inl ⟨by decide,by decide⟩,(by show 3<=sizeLine;decide),λNJ MB=>⟨(by show 3<=sizeLine;decide),λtx htx=> ?_⟩⟩⟩⟩
  have PF:=ay.up (o:= .lst [.int (2*a),.int p,.int qq]) Mz
  have NK:=ay.up (o:= .lst [.int p,.int (2*b),.int 0]) MA
  have MC:=ay.up (o:= .lst [.int qq,.int 0,.int (2*c)]) MB
  have Lc:=ay.up (o:= .lst [.ref NH,.ref NI,.ref NJ]) htx
  have Tx:Tab _ tx [NH,NI,NJ] (fz (2*a) (2*b) (2*c) p qq 0):=gB _ av (Lc _ _ (MC _ _ (NK _ _ av))) (Lc _ _ (MC _ _ av)) (Lc _ _ av)
  have PJ:=PF.trans (NK.trans (MC.trans Lc))
  have MD:=xS Mz MA MB htx
  have PK:=CV Mz MA MB
  exact⟨_,rfl,q p qq 0 tx _ _ hp jR hq hq' (by omega) (by omega) (CT ha hab hbc hp jR hq hq') (us.trans PJ) (us.none MD.1) (λb hb=>us.none (MD.2.1 b hb)) MD.2.2 PK Tx⟩
 ·have Qw:¬aA (fz (2*a) (2*b) (2*c) p qq r)<=0:=λz=>dc (decide_eq_true z)
  exact⟨_,rfl,q p qq r t _ _ hp jR hq hq' hr hr' (by omega) us fr.1 fr.2.1 fr.2.2 nn T⟩
def GG(a b c p q r:Int):Prop:=0<a/\a<=b/\b<=c/\(c<=115/\a<=8/\b<=15)/\ -a<=p/\p<=a/\ -a<=q/\q<=a/\ -b<=r/\r<=b/\0<aA (fz (2*a) (2*b) (2*c) p q r)
def GH(big most:Int)(H:Hp)(μ:Nat)(σ:St)(H':Hp):Prop:=∃(a b c p q r:Int)(t:Addr)(bs:List Addr),μ=(a+b+c).toNat/\GG a b c p q r/\σ=[some (.int big),some (.int most),some (.int a),some (.int b),some (.int c),some (.ref t)]/\ay H H'/\H t=none/\(∀b∈bs,H b=none)/\t∉bs/\bs.Nodup/\Tab H' t bs (fz (2*a) (2*b) (2*c) p q r)
inductive DM(vs:List V)(H:Hp)(Q:VK)(E:XK):Prop
 |mk(big most:Int)(_:vs=[.int big,.int most])(_:4<=most)(_:∀a b c p q r t bs H',GG a b c p q r->aA (fz (2*a) (2*b) (2*c) p q r)/2<=most->ay H H'->H t=none->(∀b∈bs,H b=none) ->t∉bs->bs.Nodup->Tab H' t bs (fz (2*a) (2*b) (2*c) p q r) ->Q (.ref t) H')
theorem uW(F:eG K mg "_law_form" lM gI)(iC:dg P w K mg base cV 2 "_law_shape" gc zX)(dU:dg P w K mg base cV 2 "_law_det" fM uV):dg P w K mg base cV 3 "_law_form" gI DM:=by
 refine F.ok cj (λvs H Q E h=> ?_) (λf cdv A outer s H vs Q E hr h=> ?_)
 ·obtain⟨big,most,rfl,hm,K0⟩:=h
  rfl
 obtain⟨big,most,rfl,hm,K0⟩:=h
 have hu:=hr.units
 refine⟨_,(kM (@ak _ _ _ _ _ (aC (i:=2) cj.nd rfl (Or.inl rfl) (ai aI ah (ai cJ (pv 0) ah)))
  (@ak _ _ _ _ _ (aC (i:=3) cj.nd rfl (Or.inl rfl) (ai aI (pv 2) (ai cJ (ai br (pv 0) ah) ah)))
  (@ak _ _ _ _ _ (aC (i:=4) cj.nd rfl (Or.inl rfl) (ai aI (pv 3) (ai cJ (ai br (pv 0) ah) (ai aI ah (ai br ah (ai aZ (pv 2) (pv 3)))))))
  (@ak _ _ _ _ _ (aC (i:=5) cj.nd rfl (Or.inl rfl) (aR iC hr rfl aQ (af (pv 2) (af (pv 3) (af (pv 4) (af (ai br (pv 0) ah) aj))))))
  (@ak _ _ _ _ _ (jB PassesOwn.never (cF qh (ai br (aR dU hr rfl aQ (af (pv 5) aj)) ah) (pv 1) (cK _)) (kM (@ak _ _ _ _ _ (dJ (cF qh (pv 4) (pv 3) (cK _)) (@aL _ _ _ (aC (i:=4) cj.nd rfl (Or.inl rfl) (ai bW (pv 4) ah))) (@aL _ _ _ (dJ (cF qh (pv 3) (pv 2) (cK _)) (@ak _ _ _ _ _ (aC (i:=3) cj.nd rfl (Or.inl rfl) (ai bW (pv 3) ah))
  (@aL _ _ _ (aC (i:=4) cj.nd rfl (Or.inl rfl) (pv 3)))) (@ak _ _ _ _ _ (aC (i:=2) cj.nd rfl (Or.inl rfl) (ai bW (pv 2) ah))
  (@ak _ _ _ _ _ (aC (i:=3) cj.nd rfl (Or.inl rfl) (pv 2))
  (@aL _ _ _ (aC (i:=4) cj.nd rfl (Or.inl rfl) (pv 2))))))))
  (@aL _ _ _ (aC (i:=5) cj.nd rfl (Or.inl rfl) (aR iC hr rfl aQ (af (pv 2) (af (pv 3) (af (pv 4) (af (ai br (pv 0) ah) aj))))))))))
  (@aL _ _ _ (aW (pv 5))))))))),?_⟩
 refine⟨_,rfl,_,_,rfl,rfl,(by show(0:Int)<8;decide),_,_,rfl,rfl,?_⟩
 obtain⟨a,ea,a1,a8⟩:∃a,a=1+big%8/\0<a/\a<=8:=⟨_,rfl,by omega,by omega⟩
 refine⟨_,rfl,_,rfl,_,_,rfl,rfl,⟨by decide,by decide⟩,_,_,rfl,rfl,(by show(0:Int)<8;decide),_,_,rfl,rfl,?_⟩
 simp only[<-ea]
 obtain⟨b,eb,ab,NL⟩:∃b,b=a+big/8%8/\a<=b/\b<=15:=⟨_,rfl,by omega,by omega⟩
 simp only[<-eb]
 have NN:0<a*b:=Int.mul_pos a1 (by omega)
 have PL:a*b<=8*15:=Int.mul_le_mul a8 NL (by omega) (by decide)
 have d0:0<=100/(a*b):=Int.ediv_nonneg (by decide) (by omega)
 have d1:100/(a*b)<=100:=Int.ediv_le_self _ (by decide)
 have d2:0<1+100/(a*b):=by omega
 refine⟨_,rfl,_,rfl,_,_,rfl,rfl,⟨by decide,by decide⟩,_,rfl,_,rfl,_,_,rfl,rfl,.inl ⟨by omega,by omega⟩,_,_,rfl,rfl,⟨NN,by omega⟩,_,_,rfl,rfl,_,_,rfl,rfl,d2,_,_,rfl,rfl,?_⟩
 obtain⟨c,ec,bc,ME⟩:∃c,c=b+big/64%(1+100/(a*b))/\b<=c/\c<=115:=⟨_,rfl,by have:=Int.emod_nonneg (big/64) (show 1+100/(a*b)≠0 by omega);omega,by have:=Int.emod_lt_of_pos (big/64) d2;omega⟩
 simp only[<-ec]
 refine⟨_,rfl,_,rfl,_,rfl,_,rfl,_,_,rfl,rfl,⟨by decide,by decide⟩,a,b,c,_,rfl,a1,ab,bc,by omega,λp q r t bs H' hp jR hq hq' hr hr' hd s ft fb nt nd T=> ?_⟩
 clear ea eb ec
 refine⟨GH big most H,⟨_,a,b,c,p,q,r,t,bs,rfl,⟨a1,ab,bc,by omega,hp,jR,hq,hq',hr,hr',hd⟩,rfl,s,ft,fb,nt,nd,T⟩,λμ σ H2 h=> ?_⟩
 clear a1 a8 ab NL NN PL d0 d1 d2 bc ME hp jR hq hq' hr hr' hd s ft fb nt nd T
 obtain⟨a,b,c,p,q,r,t,bs,rfl,⟨a1,ab,bc,c6,hp,jR,hq,hq',hr,hr',hd⟩,rfl,s2,ft,fb,nt,nd,T⟩:=h
 refine⟨_,rfl,t,bs,_,rfl,T,cy _,(uq (n:=30) (by omega) (by omega) (by omega) (by omega) (by omega) (by omega)).mono (by decide),_,_,rfl,rfl,⟨by decide,by decide⟩,_,rfl,_,_,rfl,rfl,_,rfl,jC (λcd=> ?_) (λcd=> ?_)⟩
 ·have cd:most<aA (fz (2*a) (2*b) (2*c) p q r)/2:=of_decide_eq_true cd
  refine⟨λσ' H'=> ∃NO,NO<(a+b+c).toNat/\GH big most H NO σ' H',λ_ _ h=>h,?_⟩
  refine⟨_,rfl,_,rfl,_,_,rfl,rfl,_,rfl,jC (λc1=> ?_) (λc1=> ?_)⟩
  ·have c1:b<c:=of_decide_eq_true c1
   refine⟨_,rfl,_,_,rfl,rfl,?_⟩
   refine⟨_,rfl,_,rfl,_,rfl,_,rfl,_,_,rfl,rfl,⟨by decide,by decide⟩,a,b,c-1,_,rfl,by omega,by omega,by omega,by omega,λp q r t bs H' hp jR hq hq' hr hr' hd s ft fb nt nd T=> ?_⟩
   exact⟨_,by show((a)+(b)+(c-1)).toNat<(a+b+c).toNat;omega,a,b,c-1,p,q,r,t,bs,rfl,⟨by omega,by omega,by omega,by omega,hp,jR,hq,hq',hr,hr',hd⟩,rfl,s2.trans s,s2.none ft,λx hx=>s2.none (fb x hx),nt,nd,T⟩
  have c1:¬b<c:=λz=>c1 (decide_eq_true z)
  refine⟨_,rfl,_,rfl,_,_,rfl,rfl,_,rfl,jC (λc2=> ?_) (λc2=> ?_)⟩
  ·have c2:a<b:=of_decide_eq_true c2
   refine⟨_,rfl,_,_,rfl,rfl,_,rfl,?_⟩
   refine⟨_,rfl,_,rfl,_,rfl,_,rfl,_,_,rfl,rfl,⟨by decide,by decide⟩,a,b-1,b-1,_,rfl,by omega,by omega,by omega,by omega,λp q r t bs H' hp jR hq hq' hr hr' hd s ft fb nt nd T=> ?_⟩
   exact⟨_,by show((a)+(b-1)+(b-1)).toNat<(a+b+c).toNat;omega,a,b-1,b-1,p,q,r,t,bs,rfl,⟨by omega,by omega,by omega,by omega,hp,jR,hq,hq',hr,hr',hd⟩,rfl,s2.trans s,s2.none ft,λx hx=>s2.none (fb x hx),nt,nd,T⟩
  have c2:¬a<b:=λz=>c2 (decide_eq_true z)
  have h2:1<a:=by
   rcases Int.lt_or_le 1 a with z|z
   ·exact z
   ·exfalso
    obtain rfl:a=1:=by omega
    obtain rfl:b=1:=by omega
    obtain rfl:c=1:=by omega
    have:=CU hp jR hq hq' hr hr'
    omega
  refine⟨_,rfl,_,_,rfl,rfl,_,rfl,_,rfl,?_⟩
  refine⟨_,rfl,_,rfl,_,rfl,_,rfl,_,_,rfl,rfl,⟨by decide,by decide⟩,a-1,a-1,a-1,_,rfl,by omega,by omega,by omega,by omega,λp q r t bs H' hp jR hq hq' hr hr' hd s ft fb nt nd T=> ?_⟩
  exact⟨_,by show((a-1)+(a-1)+(a-1)).toNat<(a+b+c).toNat;omega,a-1,a-1,a-1,p,q,r,t,bs,rfl,⟨by omega,by omega,by omega,by omega,hp,jR,hq,hq',hr,hr',hd⟩,rfl,s2.trans s,s2.none ft,λx hx=>s2.none (fb x hx),nt,nd,T⟩
 ·have cd:¬most<aA (fz (2*a) (2*b) (2*c) p q r)/2:=λz=>cd (decide_eq_true z)
  exact⟨_,rfl,K0 a b c p q r t bs H2 ⟨a1,ab,bc,c6,hp,jR,hq,hq',hr,hr',hd⟩ (by omega) s2 ft fb nt nd T⟩
inductive zY(vs:List V)(H:Hp)(Q:VK)(E:XK):Prop
 |mk(big most Er:Int)(_:vs=[.int big,.int most,.int Er])(_:0<=most)(_:most<10)(_:0<=Er)(_:Er<=10000)(_:∀m t bs H',cg m->Bd (15*most.toNat+2) m->(aA m=1∨aA m= -1) ->ay H H'->H t=none->(∀b∈bs,H b=none) ->t∉bs->Tab H' t bs m->Q (.ref t) H')
theorem rR(F:eG K mg "_law_basis" kg gf)(aS:mg "range"=none)(nK:mg "zip"=none):dg P w K mg base cV 1 "_law_basis" gf zY:=by
 refine F.ok cH (λvs H Q E h=> ?_) (λf cdv A outer s H vs Q E hr h=> ?_)
 ·obtain⟨big,most,Er,rfl,h0,Hy,f0,f1,K0⟩:=h
  rfl
 obtain⟨big,most,Er,rfl,h0,Hy,f0,f1,K0⟩:=h
 have hu:=hr.units
 refine toF ?_
 refine⟨_,(HQ (i:=3) cH.nd rfl (Or.inl rfl) (qv (dQ (qv (dQ gS (dQ gS (dQ gS qu (by kernel_rfl)) (by kernel_rfl)) (by kernel_rfl))) (dQ (qv (dQ gS (dQ gS (dQ gS qu (by kernel_rfl)) (by kernel_rfl)) (by kernel_rfl))) (dQ (qv (dQ gS (dQ gS (dQ gS qu (by kernel_rfl)) (by kernel_rfl)) (by kernel_rfl))) qu (by kernel_rfl)) (by kernel_rfl)) (by kernel_rfl))) (by kernel_rfl) (by first|exact .inl rfl|exact .inr rfl)
  (@ak _ _ _ _ _ (aC (i:=4) cH.nd rfl (Or.inl rfl) (ai cJ (pv 0) (ai aI (pv 1) ah)))
  (@ak _ _ _ _ _ (aC (i:=0) cH.nd rfl (Or.inr rfl) (ai br (pv 0) (ai aI (pv 1) ah)))
  (@ak _ _ _ _ _ (jb PassesOwn.never rfl (dh rfl aS (af (pv 4) aj)) (aP (i:=5) cH.nd rfl (Or.inl rfl)) (kM (@ak _ _ _ _ _ (aC (i:=6) cH.nd rfl (Or.inl rfl) (ai cJ (pv 0) ah))
  (@ak _ _ _ _ _ (aC (i:=7) cH.nd rfl (Or.inl rfl) (ai cJ (ai aI (ai aI (pv 6) ah) (ai cJ (ai br (pv 0) ah) ah)) ah))
  (@ak _ _ _ _ _ (aC (i:=8) cH.nd rfl (Or.inr rfl) (ai bW (ai cJ (ai br (pv 0) ah) (ai aI (ai aZ ah (pv 2)) ah)) (pv 2)))
  (@ak _ _ _ _ _ (jV (xQ (N2:=["_law_big","_law_most","_law_far","_law_rows","_law_many","_law_k","_law_i","_law_j","_law_often"]) (te:=(iz (Af λi j=> .int (i+j)) (bT 0) (iz (rI jE λi j=> .int (i*j)) (bT 10) (bT 1)))) rfl (xP rfl nK (af (aD aq (pv 3) (pv 6) (λ_ _=>rfl)) (af (aD aq (pv 3) (pv 7) (λ_ _=>rfl)) aj))) (by kernel_rfl) rfl (λ_ _ _=>by exact iV (ai aI (pv 0) (ai aB (pv 10) (pv 1))))) (xu (pv 3) (pv 6) set_list))
  (@aL _ _ _ (aC (i:=0) cH.nd rfl (Or.inr rfl) (ai br (ai br (pv 0) ah) (ai aI (ai aZ ah (pv 2)) ah))))))))))
  (@ak _ _ _ _ _ (aC (i:=6) cH.nd rfl (Or.inl rfl) (ai cJ (pv 0) ah))
  (@ak _ _ _ _ _ (jV (gQ (N2:=["_law_big","_law_most","_law_far","_law_rows","_law_many","_law_k","_law_i","_law_j","_law_often"]) (te:=(iz (rI jE λi j=> .int (i*j)) (iz (Af λi j=> .int (i-j)) (tC (.int 1)) (iz (rI EE λi j=> .int (i*j)) (tC (.int 2)) (iz (rI (λ_ j=>0<j) λi j=> .int (i%j)) (iz (rI Jw λi j=> .int (i/j)) (bT 1) (tC (.int 3))) (tC (.int 2))))) (bT 0))) rfl (iy (aD aq (pv 3) (pv 6) (λ_ _=>rfl))) (by kernel_rfl) rfl (λ_ _ _=>by exact iV (ai aB (ai bW ah (ai aZ ah (ai cJ (ai br (pv 1) ah) ah))) (pv 0)))) (xu (pv 3) (pv 6) set_list))
  (@aL _ _ _ (aW (ai Hw (vI zp (pv 3) (zj (ai cJ (ai br (pv 0) ah) ah)) zh) (vI zp (pv 3) zh (zj (ai cJ (ai br (pv 0) ah) ah)))))))))))),?_⟩
 refine⟨(by show 3<=sizeLine;decide),λp0 g0=>⟨(by show 3<=sizeLine;decide),λp1 g1=>⟨(by show 3<=sizeLine;decide),λp2 g2=>⟨(by show 3<=sizeLine;decide),λD hD=> ?_⟩⟩⟩⟩
 have u0:=ay.up (o:= .lst [.int 1,.int 0,.int 0]) g0
 have u1:=ay.up (o:= .lst [.int 0,.int 1,.int 0]) g1
 have u2:=ay.up (o:= .lst [.int 0,.int 0,.int 1]) g2
 have u3:=ay.up (o:= .lst [.ref p0,.ref p1,.ref p2]) hD
 have T:Tab _ D [p0,p1,p2] (nA 1):=gB _ av (u3 _ _ (u2 _ _ (u1 _ _ av))) (u3 _ _ (u2 _ _ av)) (u3 _ _ av)
 have us:=u0.trans (u1.trans (u2.trans u3))
 obtain⟨fD,fb,nD⟩:=xS g0 g1 g2 hD
 have mm:0<most+1:=by omega
 refine⟨_,rfl,_,rfl,_,_,rfl,rfl,_,_,rfl,rfl,mm,?_⟩
 refine⟨_,rfl,_,rfl,_,_,rfl,rfl,_,_,rfl,rfl,⟨mm,by omega⟩,?_⟩
 have n0:=Int.emod_nonneg big (show most+1≠0 by omega)
 have n1:=Int.emod_lt_of_pos big mm
 have ff:0<2*Er+1:=by omega
 refine⟨_,rfl,_,rfl,by omega,by omega,eX (n:=(big%(most+1)).toNat) (λk σ H'=> ∃(x:Int)(o5 o6 o7 o8:Option V)(bs:List Addr)(m:List (List Int)),σ=[some (.int x),some (.int most),some (.int Er),some (.ref D),some (.int (big%(most+1))),o5,o6,o7,o8]/\ay H H'/\Tab H' D bs m/\cg m/\Bd (15*k+1) m/\aA m=1/\(∀b∈bs,H b=none)/\D∉bs) ⟨_,_,_,_,_,_,_,rfl,us,T,cy _,λi j hi hj=> ?_,rfl,fb,nD⟩ (λk σ H1 hk h=> ?_) (λσ H1 h=> ?_)⟩
 ·rw[nA,bu _ hi hj]
  split<;>decide
 ·obtain⟨x,o5,o6,o7,o8,bs,m,rfl,s1,T1,Dq,dm,Il,fb,nD⟩:=h
  refine⟨_,rfl,_,_,rfl,rfl,(by show(0:Int)<3;decide),?_⟩
  refine⟨_,rfl,_,_,rfl,rfl,_,rfl,_,_,rfl,rfl,⟨by decide,by decide⟩,_,_,rfl,rfl,(by show(0:Int)<2;decide),_,_,rfl,rfl,_,_,rfl,rfl,(by show(0:Int)<3;decide),?_⟩
  refine⟨_,rfl,_,_,rfl,rfl,⟨by decide,by decide⟩,_,rfl,_,_,rfl,rfl,.inl ⟨by decide,by decide⟩,_,_,rfl,rfl,_,_,rfl,rfl,ff,_,rfl,_,_,rfl,rfl,?_⟩
  obtain⟨i,ei,hi⟩:∃i:Nat,x%3=(i:Int)/\i<3:=⟨(x%3).toNat,by omega,by omega⟩
  obtain⟨j,ej,hj⟩:∃j:Nat,((i:Int)+1+x/3%2)%3=(j:Int)/\j<3:=⟨(((i:Int)+1+x/3%2)%3).toNat,by omega,by omega⟩
  have hij:i≠j:=by omega
  obtain⟨o,eo,ho⟩:∃o:Int,o=x/6%(2*Er+1) -Er/\o.natAbs<2^14:=⟨_,rfl,by have:=Int.emod_nonneg (x/6) (show 2*Er+1≠0 by omega);have:=Int.emod_lt_of_pos (x/6) ff;omega⟩
  simp only[ei,ej,<-eo]
  obtain⟨bi,x1,x2,x3⟩:=aV T1 Dq hi
  obtain⟨bj,y1,y2,y3⟩:=aV T1 Dq hj
  refine⟨_,rfl,_,rfl,D,_,_,_,rfl,rfl,aU.of T1.1,x1,_,rfl,_,rfl,D,_,_,_,rfl,rfl,aU.of T1.1,y1,bi,bj,_,_,rfl,aU.of x2,aU.of y2,λR hR=> ?_⟩
  have bk:∀s,s<3->(ent m i s+o*ent m j s).natAbs<2^(15*(k+1)+1):=λs hs=>aF (j3 (aF (dm i s hi hs) (show 15*k+1<=14+(15*k+1)by omega)) (bZ ho (dm j s hj hs))) (by omega)
  have Qx:k<10:=by omega
  refine vY (aU.of x2) (aU.of y2) rfl (by show 3<=sizeLine;decide) hR (λu v=>match u,v with| .int i,.int j=> .int (i+o*j)|_,_=> .ig) (λn u v eu ev G Q' sm kk=> ?_) (λH2 s2 e2=> ?_)
  ·have hn:n<3:=(List.getElem?_eq_some_iff.mp eu).1
   rcases bK hn with rfl|rfl|rfl<;>cases eu<;>cases ev<;>exact⟨_,rfl,_,rfl,_,rfl,_,_,rfl,rfl,⟨aF ho (by decide),aF (dm j _ hj (by decide)) (by omega)⟩,_,_,rfl,rfl,kk⟩
  have nR:R≠D:=Ne.symm (cP T1.1 hR)
  have l3:bs.length=3:=by rw[<-T1.2.length,Dq.1]
  refine⟨_,rfl,_,rfl,D,_,_,i,rfl,rfl,s2 _ _ T1.1,(by rw[List.length_map,l3];rcases bK hi with rfl|rfl|rfl<;>rfl),?_⟩
  refine⟨_,rfl,_,_,rfl,rfl,⟨by decide,by decide⟩,_,rfl,_,_,rfl,rfl,.inl ⟨by decide,by decide⟩,_,_,rfl,rfl,_,_,rfl,rfl,⟨ff,by omega⟩,?_⟩
  refine⟨_,_,_,_,_,bs.set i R,xT m i (λs=>ent m i s+o*ent m j s),rfl,(s1.trans s2).upd fD,zJ (T1.same s2) Dq hi e2 nR nD,cy _,λr s hr hs=> ?_,(Fc m hi hj hij o).trans Il,λb hb=> ?_,λhb=> ?_⟩
  ·rw[cz m _ hr hs]
   split
   ·exact bk s hs
   ·exact aF (dm r s hr hs) (by omega)
  ·rcases List.mem_or_eq_of_mem_set hb with z|z
   ·exact fb b z
   ·rw[z];exact s1.none hR
  ·rcases List.mem_or_eq_of_mem_set hb with z|z
   ·exact nD z
   ·exact nR z.symm
 ·obtain⟨x,o5,o6,o7,o8,bs,m,rfl,s1,T1,Dq,dm,Il,fb,nD⟩:=h
  have dm:Bd (15*most.toNat+1) m:=dm.mono (by omega)
  obtain⟨i,ei,hi⟩:∃i:Nat,x%3=(i:Int)/\i<3:=⟨(x%3).toNat,by omega,by omega⟩
  obtain⟨o,eo,ho⟩:∃o:Int,o=1-2*(x/3%2)/\(o=1∨o= -1):=⟨_,rfl,by omega⟩
  obtain⟨k,ek,hk⟩:∃k:Nat,x/6%3=(k:Int)/\k<3:=⟨(x/6%3).toNat,by omega,by omega⟩
  refine⟨_,rfl,_,_,rfl,rfl,(by show(0:Int)<3;decide),?_⟩
  simp only[ei]
  obtain⟨bi,x1,x2,x3⟩:=aV T1 Dq hi
  refine⟨_,rfl,_,rfl,D,_,_,_,rfl,rfl,aU.of T1.1,x1,bi,rfl,⟨_,aU.of x2⟩,λR hR=> ?_⟩
  have bo:(1-2*(x/3%2)).natAbs<2^1:=by omega
  refine lY (iW (aU.of x2)) rfl hR (λs=>o*ent m i s) (λj y hj ey H2 Q2 s2 k2=> ?_) (λH2 s2 e2=> ?_)
  ·rw[eo]at k2
   rcases bK hj with rfl|rfl|rfl<;>cases ey<;>exact⟨_,rfl,_,_,rfl,rfl,⟨by decide,by decide⟩,_,_,rfl,rfl,(by show(0:Int)<2;decide),_,_,rfl,rfl,.inl ⟨by decide,by decide⟩,_,_,rfl,rfl,_,rfl,_,_,rfl,rfl,⟨aF bo (by decide),aF (dm i _ hi (by decide)) (by omega)⟩,k2 H2 (ay.refl _)⟩
  have nR:R≠D:=Ne.symm (cP T1.1 hR)
  have l3:bs.length=3:=by rw[<-T1.2.length,Dq.1]
  refine⟨_,rfl,_,rfl,D,_,_,i,rfl,rfl,s2 _ _ T1.1,(by rw[List.length_map,l3];rcases bK hi with rfl|rfl|rfl<;>rfl),?_⟩
  have T2:=zJ (g:=λs=>o*ent m i s) (T1.same s2) Dq hi e2 nR nD
  have s3:=(s1.trans s2).upd (o:= .lst ((bs.map V.ref).set i (.ref R))) fD
  have PM:∀b∈bs.set i R,H b=none:=λb hb=>by
   rcases List.mem_or_eq_of_mem_set hb with z|z
   ·exact fb b z
   ·rw[z];exact s1.none hR
  have e3:((bs.map V.ref).set i (.ref R))=(bs.set i R).map V.ref:=by rw[List.map_set]
  refine⟨_,rfl,_,rfl,_,_,rfl,rfl,⟨by decide,by decide⟩,_,_,rfl,rfl,(by show(0:Int)<3;decide),_,rfl,D,_,rfl,aU.of av,λp hp=> ?_⟩
  refine⟨_,rfl,_,rfl,_,_,rfl,rfl,⟨by decide,by decide⟩,_,_,rfl,rfl,(by show(0:Int)<3;decide),_,rfl,D,_,rfl,aU.of ((ay.up hp) _ _ av),λp' jR=> ?_⟩
  have u1:=ay.up (o:= .lst (rF ((bs.map V.ref).set i (.ref R)) (some (x/6%3)) none)) hp
  have u2:=ay.up (o:= .lst (rF ((bs.map V.ref).set i (.ref R)) none (some (x/6%3)))) jR
  refine⟨p,p',_,_,rfl,rfl,u2 _ _ av,av,?_,λr hr=> ?_⟩
  ·have c1:=kY ((bs.map V.ref).set i (.ref R)) (some (x/6%3)) none
   have c2:=kY ((bs.map V.ref).set i (.ref R)) none (some (x/6%3))
   rw[List.length_set,List.length_map,l3]at c1 c2
   exact Nat.le_trans (Nat.add_le_add c1 c2) (by show 6<=sizeLine;decide)
  have u3:=ay.up (o:= .lst (rF ((bs.map V.ref).set i (.ref R)) (some (x/6%3)) none++rF ((bs.map V.ref).set i (.ref R)) none (some (x/6%3)))) hr
  obtain⟨bs',T3,m3,n3⟩:=Fe (r:=r) (k:=k) T2 (cy _) hk (u1.trans (u2.trans u3)) (u1.none (u2.none hr)) (by rw[<-e3,<-ek];exact av)
  have hd:aA (xU (xT m i λs=>o*ent m i s) k)=o:=(Fd _ hk).trans ((AA m hi o).trans (by rw[Il];omega))
  refine K0 (xU (xT m i λs=>o*ent m i s) k) r bs' _ (cy _) (Ff λa c ha hc=> ?_) ?_ (s3.trans (u1.trans (u2.trans u3))) (s3.none (u1.none (u2.none hr))) (λb hb=>PM b (m3 b hb)) n3 T3
  ·rw[cz m _ ha hc]
   split
   ·exact aF (bZ (show o.natAbs<2^1 by omega) (dm i c hi hc)) (by omega)
   ·exact aF (dm a c ha hc) (by omega)
  ·rw[hd]
   exact ho
theorem uX(F:eG K mg "_law_over" lK fV)(aS:mg "range"=none):dg P w K mg base cV 1 "_law_over" fV oi:=by
 refine F.ok uG (λvs H Q E h=> ?_) (λf cdv A outer s H vs Q E hr h=> ?_)
 ·obtain⟨t1,b1,m1,rfl,h1,c1,q⟩:=h
  rfl
 obtain⟨t1,b1,m1,rfl,h1,c1,q⟩:=h
 have hu:=hr.units
 refine⟨_,(dz (aW (gQ (N2:=["_law_table"]) (te:=(k9 1 (qf (cW (tC (.int 3)) jc)) (cS 0) (iz (gD K) (iz (gD K) (bT 2) (bT 0)) (bT 1)))) rfl (dh rfl aS (af ah aj)) (by kernel_rfl) rfl (λ_ _ _=>by exact iV (gQ (N2:=["_law_j","_law_table"]) (te:=(iz (gD K) (iz (gD K) (bT 2) (bT 0)) (bT 1))) rfl (dh rfl aS (af ah aj)) (by kernel_rfl) rfl (λ_ _ _=>by exact iV (aD aq (aD aq (pv 2) (pv 0) (λ_ _=>rfl)) (pv 1) (λ_ _=>rfl)))))))),?_⟩
 refine⟨3,rfl,by decide,by decide,λD hD=>nv (fy (n:=3)) rfl hD _ (λi x hi ex H1 Q1 s1 k1=> ?_) (λbs H1 s1 fr nD hT=>q D bs H1 s1 hD fr nD hT)⟩
 obtain⟨_,rfl⟩:=d7 ex
 refine⟨3,rfl,by decide,by decide,λD2 zR=>lY (fy (n:=3)) rfl zR (λj=>ent m1 j i) (λj x hj FH H2 Q2 s2 k2=> ?_) (λH2 s2 e2=>k1 D2 H2 zR s2 e2)⟩
 obtain⟨_,rfl⟩:=d7 FH
 have sm:=s1.trans s2
 obtain⟨b,row,e1,e2,e3⟩:=nj (h1.same sm) c1 hj hi
 exact⟨_,rfl,_,rfl,t1,_,_,_,rfl,rfl,aU.of (h1.same sm).1,e1,_,rfl,b,_,_,_,rfl,rfl,aU.of e2,e3,k2 H2 (ay.refl _)⟩
inductive p8(K:PySem.W.Frag)(vs:List V)(H:Hp)(Q:VK)(E:XK):Prop
 |mk(a b:Addr)(x0 x1 x2 y0 y1 y2:Int)(_:vs=[.ref a,.ref b])(_:H a=some (.lst [.int x0,.int x1,.int x2]))(_:H b=some (.lst [.int y0,.int y1,.int y2]))(_:x0.natAbs<2^4096)(_:x1.natAbs<2^4096)(_:x2.natAbs<2^4096)(_:y0.natAbs<2^4096)(_:y1.natAbs<2^4096)(_:y2.natAbs<2^4096)(_:Q (.int (x0*y0+x1*y1+x2*y2)) H)
theorem rS(F:eG K mg "_law_along" j9 gb):dg P w K mg base cV 1 "_law_along" gb (p8 K):=by
 refine F.ok rL (λvs H Q E h=> ?_) (λf cdv A outer s H vs Q E hr h=> ?_)
 ·obtain⟨a,b,x0,x1,x2,y0,y1,y2,rfl,ha,hb,p0,p1,p2,r0,r1,r2,q⟩:=h
  rfl
 obtain⟨a,b,x0,x1,x2,y0,y1,y2,rfl,ha,hb,p0,p1,p2,r0,r1,r2,q⟩:=h
 have hu:=hr.units
 refine⟨_,(dz (aW (ai aI (ai aI (ai aB (aD aq (pv 0) ah (λ_ _=>rfl)) (aD aq (pv 1) ah (λ_ _=>rfl))) (ai aB (aD aq (pv 0) ah (λ_ _=>rfl)) (aD aq (pv 1) ah (λ_ _=>rfl)))) (ai aB (aD aq (pv 0) ah (λ_ _=>rfl)) (aD aq (pv 1) ah (λ_ _=>rfl)))))),?_⟩
 refine⟨_,rfl,a,_,_,_,rfl,rfl,aU.of ha,rfl,_,rfl,b,_,_,_,rfl,rfl,aU.of hb,rfl,_,_,rfl,rfl,⟨p0,r0⟩,?_⟩
 refine⟨_,rfl,a,_,_,_,rfl,rfl,aU.of ha,rfl,_,rfl,b,_,_,_,rfl,rfl,aU.of hb,rfl,_,_,rfl,rfl,⟨p1,r1⟩,_,_,rfl,rfl,?_⟩
 exact⟨_,rfl,a,_,_,_,rfl,rfl,aU.of ha,rfl,_,rfl,b,_,_,_,rfl,rfl,aU.of hb,rfl,_,_,rfl,rfl,⟨p2,r2⟩,_,_,rfl,rfl,q⟩
inductive zZ(vs:List V)(H:Hp)(Q:VK)(E:XK):Prop
 |mk(t1:Addr)(b1:List Addr)(m1:List (List Int))(t2:Addr)(b2:List Addr)(m2:List (List Int))(_:vs=[.ref t1,.ref t2])(_:Tab H t1 b1 m1)(_:Tab H t2 b2 m2)(_:cg m1)(_:cg m2)(_:Bd 4096 m1)(_:Bd 4096 m2)(_:∀r bs H',ay H H'->H r=none->(∀b∈bs,H b=none) ->r∉bs->Tab H' r bs (gF m1 m2) ->Q (.ref r) H')
theorem pQ(F:eG K mg "_law_product" iO eU)(fX:dg P w K mg base cV 1 "_law_over" fV oi)(kB:dg P w K mg base cV 1 "_law_along" gb (p8 K)):dg P w K mg base cV 2 "_law_product" eU zZ:=by
 refine F.ok kN (λvs H Q E h=> ?_) (λf cdv A outer s H vs Q E hr h=> ?_)
 ·obtain⟨t1,b1,m1,t2,b2,m2,rfl,h1,h2,c1,c2,d1,d2,q⟩:=h
  rfl
 obtain⟨t1,b1,m1,t2,b2,m2,rfl,h1,h2,c1,c2,d1,d2,q⟩:=h
 have hu:=hr.units
 refine⟨_,(kM (@ak _ _ _ _ _ (aC (i:=2) kN.nd rfl (Or.inr rfl) (aR fX hr rfl aQ (af (pv 1) aj)))
  (@aL _ _ _ (aW (gQ (N2:=["_law_one","_law_other","_law_over_here"]) (te:=(k9 1 (Gi K (bT 3)) (cS 0) (kX (p8 K) [] E0 (cW (bT 1) (cW (bT 0) jc))))) rfl (iy (pv 0)) (by kernel_rfl) rfl (λ_ _ _=>by exact iV (gQ (N2:=["_law_row","_law_one","_law_other","_law_over_here"]) (te:=(kX (p8 K) [] E0 (cW (bT 1) (cW (bT 0) jc)))) rfl (iy (pv 3)) (by kernel_rfl) rfl (λ_ _ _=>by exact iV (aR kB hr rfl aQ (af (pv 1) (af (pv 0) aj))))))))))),?_⟩
 refine⟨_,rfl,t2,b2,m2,rfl,h2,c2,λt bs H0 s0 ft fb nt hO=> ?_⟩
 have c0:cg (cL m2):=cy _
 have l1:(b1.map V.ref).length=3:=by rw[List.length_map,<-h1.2.length,c1.1]
 have l2:(bs.map V.ref).length=3:=by rw[List.length_map,<-hO.2.length,c0.1]
 refine⟨_,rfl,t1,rfl,⟨_,aU.of (h1.same s0).1⟩,λD hD=>nv (iW (aU.of (h1.same s0).1)) l1 hD (λi j=>ent m1 i 0*ent m2 0 j+ent m1 i 1*ent m2 1 j+ent m1 i 2*ent m2 2 j) (λi x hi ex H1 Q1 s1 k1=> ?_) (λbs' H1 s1 fr nD hT=>q D bs' H1 (s0.trans s1) (s0.none hD) (λb hb=>s0.none (fr b hb)) nD hT)⟩
 obtain⟨b,e1,e2,_⟩:=aV ((h1.same s0).same s1) c1 hi
 have ex':x= .ref b:=by
  have q1:=fS ex
  rw[e1]at q1
  exact(Option.some.inj q1).symm
 subst ex'
 refine⟨_,rfl,t,rfl,⟨_,aU.of (hO.same s1).1⟩,λD2 zR=>lY (iW (aU.of (hO.same s1).1)) l2 zR (λj=>ent m1 i 0*ent m2 0 j+ent m1 i 1*ent m2 1 j+ent m1 i 2*ent m2 2 j) (λj x hj FH H2 Q2 s2 k2=> ?_) (λH2 s2 e2=>k1 D2 H2 zR s2 e2)⟩
 obtain⟨b',f1,f2,_⟩:=aV ((hO.same s1).same s2) c0 hj
 have ex':x= .ref b':=by
  have q1:=fS FH
  rw[f1]at q1
  exact(Option.some.inj q1).symm
 subst ex'
 rw[cL,bu _ hj (by decide),bu _ hj (by decide),bu _ hj (by decide)]at f2
 exact⟨_,rfl,_,rfl,b,b',_,_,_,_,_,_,rfl,s2 _ _ e2,f2,d1 i 0 hi (by decide),d1 i 1 hi (by decide),d1 i 2 hi (by decide),d2 0 j (by decide) hj,d2 1 j (by decide) hj,d2 2 j (by decide) hj,k2 H2 (ay.refl _)⟩
inductive z4(vs:List V)(H:Hp)(Q:VK)(E:XK):Prop
 |mk(N:Int)(_:vs=[.int N])(_:0<=N)(_:N<2^62)(_:∀r:Int,0<=r->r*r<=N->N<(r+1)*(r+1) ->Q (.int r) H)
theorem uY(F:eG K mg "_law_root" lO gJ):dg P w K mg base cV 1 "_law_root" gJ z4:=by
 refine F.ok dR (λvs H Q E h=> ?_) (λf cdv A outer s H vs Q E hr h=> ?_)
 ·obtain⟨N,rfl,N0,bN,q⟩:=h
  rfl
 obtain⟨N,rfl,N0,bN,q⟩:=h
 have hu:=hr.units
 refine⟨_,(kM (@ak _ _ _ _ _ (aC (i:=1) dR.nd rfl (Or.inl rfl) ah)
  (@ak _ _ _ _ _ (jB PassesOwn.never (cF qg (ai aZ (pv 1) (pv 1)) (pv 0) (cK _)) (dz (aC (i:=1) dR.nd rfl (Or.inl rfl) (ai aZ ah (pv 1)))))
  (@ak _ _ _ _ _ (aC (i:=2) dR.nd rfl (Or.inl rfl) ah)
  (@ak _ _ _ _ _ (jB PassesOwn.never (cF qh (ai bW (pv 1) (pv 2)) ah (cK _)) (kM (@ak _ _ _ _ _ (aC (i:=3) dR.nd rfl (Or.inl rfl) (ai br (ai aI (pv 2) (pv 1)) ah))
  (@aL _ _ _ (dJ (cF qg (ai aZ (pv 3) (pv 3)) (pv 0) (cK _)) (@aL _ _ _ (aC (i:=2) dR.nd rfl (Or.inl rfl) (pv 3))) (@aL _ _ _ (aC (i:=1) dR.nd rfl (Or.inl rfl) (pv 3))))))))
  (@aL _ _ _ (aW (pv 2)))))))),?_⟩
 refine kW (λσ H'=>H'=H/\ ∃h:Int,σ=[some (.int N),some (.int h),none,none]/\1<=h/\h<=2^33) (λσ _=>match σ with| [_,some (.int h),_,_]=>(2^34-h).toNat|_=>0) ⟨rfl,_,rfl,by decide,by decide⟩ (λσ H' hh=> ?_) ?_
 rotate_left
 ·rintro σ H' Q Q' h ⟨v,e,v2,e',i,j,e1,e2,c,v3,e3,a,b,e4,e5,k,ek,kk⟩
  exact⟨v,e,v2,e',i,j,e1,e2,c,v3,e3,a,b,e4,e5,k,ek,h _ _ kk⟩
 obtain⟨rfl,h,rfl,h1,h2⟩:=hh
 refine⟨_,rfl,_,rfl,_,_,rfl,rfl,.inl ⟨by omega,by omega⟩,_,rfl,_,_,rfl,rfl,_,rfl,jC (λc=> ?_) (λc=> ?_)⟩
 ·have c:h*h<=N:=of_decide_eq_true c
  have h3:h<2^32:=by
   refine Classical.byContradiction λz=> ?_
   have:(2^32:Int)*2^32<=h*h:=Int.mul_le_mul (by omega) (by omega) (by decide) (by omega)
   omega
  refine⟨_,rfl,_,_,rfl,rfl,.inl ⟨by decide,by decide⟩,⟨rfl,_,rfl,by omega,by omega⟩,?_⟩
  show(2^34-2*h).toNat<(2^34-h).toNat
  omega
 have c:N<h*h:=by
  have:¬h*h<=N:=λz=>c (decide_eq_true z)
  omega
 refine kW (λσ H2=>H2=H'/\ ∃(h l:Int)(o:Option V),σ=[some (.int N),some (.int h),some (.int l),o]/\0<=l/\l<h/\h<=2^33/\l*l<=N/\N<h*h) (λσ _=>match σ with| [_,some (.int h),some (.int l),_]=>(h-l).toNat|_=>0) ⟨rfl,_,_,_,rfl,by decide,by omega,h2,by omega,c⟩ (λσ H' hh=> ?_) ?_
 rotate_left
 ·rintro σ H' Q Q' h ⟨v,e,v2,e2,i,j,e3,e4,a,b,e5,e6,k,ek,kk⟩
  exact⟨v,e,v2,e2,i,j,e3,e4,a,b,e5,e6,k,ek,h _ _ kk⟩
 obtain⟨rfl,h,l,o,rfl,l0,lh,h2,lN,hN⟩:=hh
 refine⟨_,rfl,_,rfl,_,_,rfl,rfl,_,_,rfl,rfl,_,rfl,jC (λc=> ?_) (λc=> ?_)⟩
 ·have c:1<h-l:=of_decide_eq_true c
  refine⟨_,rfl,_,rfl,_,_,rfl,rfl,_,_,rfl,rfl,⟨by decide,by decide⟩,_,rfl,_,rfl,_,_,rfl,rfl,.inl ⟨by omega,by omega⟩,_,rfl,_,_,rfl,rfl,_,rfl,jC (λc2=> ?_) (λc2=> ?_)⟩
  ·have c2:(l+h)/2*((l+h)/2)<=N:=of_decide_eq_true c2
   refine⟨_,rfl,⟨rfl,_,_,_,rfl,by omega,by omega,h2,c2,hN⟩,?_⟩
   show(h- (l+h)/2).toNat<(h-l).toNat
   omega
  ·have c2:N<(l+h)/2*((l+h)/2):=by
    have:¬(l+h)/2*((l+h)/2)<=N:=λz=>c2 (decide_eq_true z)
    omega
   refine⟨_,rfl,⟨rfl,_,_,_,rfl,l0,by omega,by omega,lN,c2⟩,?_⟩
   show((l+h)/2-l).toNat<(h-l).toNat
   omega
 ·have c:¬1<h-l:=λz=>c (decide_eq_true z)
  have e:h=l+1:=by omega
  rw[e]at hN
  exact⟨_,rfl,q l l0 lN hN⟩
def Bs(m:List (List Int)):Nat->Int
 |0=>ent m 1 1*ent m 2 2-ent m 1 2*ent m 1 2
 |1=>ent m 2 2*ent m 0 0-ent m 2 0*ent m 2 0
 |_=>ent m 0 0*ent m 1 1-ent m 0 1*ent m 0 1
inductive z5(vs:List V)(H:Hp)(Q:VK)(E:XK):Prop
 |mk(t:Addr)(bs:List Addr)(m:List (List Int))(n:Int)(k:Nat)(_:vs=[.ref t,.int n,.int (k:Int)])(_:Tab H t bs m)(_:cg m)(_:Bd 20 m)(_:0<aA m)(_:aA m<=401)(_:0<=n)(_:n<=600)(_:k<3)(_:0<=Bs m k)(_:Bs m k<2^40)(_:∀R:Int,0<=R->R*R<=2*n*Bs m k/aA m->2*n*Bs m k/aA m<(R+1)*(R+1) ->Q (.int R) H)
theorem rT(F:eG K mg "_law_reach" kh gh)(dU:dg P w K mg base cV 1 "_law_det" fM uV)(lR:dg P w K mg base cV 1 "_law_root" gJ z4):dg P w K mg base cV 2 "_law_reach" gh z5:=by
 refine F.ok jo (λvs H Q E h=> ?_) (λf cdv A outer s H vs Q E hr h=> ?_)
 ·obtain⟨t,bs,m,n,k,rfl,hT,bI,hB,D0,D4,n0,n6,hk,p0,p1,q⟩:=h
  rfl
 obtain⟨t,bs,m,n,k,rfl,hT,bI,hB,D0,D4,n0,n6,hk,p0,p1,q⟩:=h
 have hu:=hr.units
 refine⟨_,(kM (@ak _ _ _ _ _ (qe (i:=3) (j:=4) rfl jo.nd rfl rfl (by decide) rfl rfl (af (ai cJ (ai aI (pv 2) ah) ah) (af (ai cJ (ai aI (pv 2) ah) ah) aj)) rfl)
  (@ak _ _ _ _ _ (aC (i:=5) jo.nd rfl (Or.inl rfl) (ai bW (ai aZ (aD aq (aD aq (pv 0) (pv 3) (λ_ _=>rfl)) (pv 3) (λ_ _=>rfl)) (aD aq (aD aq (pv 0) (pv 4) (λ_ _=>rfl)) (pv 4) (λ_ _=>rfl))) (ai aZ (aD aq (aD aq (pv 0) (pv 3) (λ_ _=>rfl)) (pv 4) (λ_ _=>rfl)) (aD aq (aD aq (pv 0) (pv 3) (λ_ _=>rfl)) (pv 4) (λ_ _=>rfl)))))
  (@aL _ _ _ (aW (aR lR hr rfl aQ (af (ai br (ai aZ (ai aZ ah (pv 1)) (pv 5)) (aR dU hr rfl aQ (af (pv 0) aj))) aj))))))),?_⟩
 obtain⟨c0,x1,x2,_⟩:=aV hT bI (i:=0) (by decide)
 obtain⟨c1,y1,y2,_⟩:=aV hT bI (i:=1) (by decide)
 obtain⟨c2,w1,w2,_⟩:=aV hT bI (i:=2) (by decide)
 have b:∀i j,i<3->j<3->(ent m i j).natAbs<2^20:=λi j hi hj=>hB i j hi hj
 have DN:=b 0 0 (by decide) (by decide)
 have DO:=b 1 1 (by decide) (by decide)
 have xr:=b 2 2 (by decide) (by decide)
 have DP:=b 1 2 (by decide) (by decide)
 have Qy:=b 2 0 (by decide) (by decide)
 have np:0<=n*Bs m k/\n*Bs m k<=600*2^40:=⟨Int.mul_nonneg n0 p0,Int.mul_le_mul n6 (Int.le_of_lt p1) p0 (by decide)⟩
 have en:2*n*Bs m k=2*(n*Bs m k):=Int.mul_assoc _ _ _
 have X0:0<=2*n*Bs m k/aA m:=Int.ediv_nonneg (by omega) (by omega)
 have X1:2*n*Bs m k/aA m<2^62:=Int.lt_of_le_of_lt (Int.ediv_le_self _ (by omega)) (by omega)
 have DQ:=b 0 1 (by decide) (by decide)
 have k2:k=0∨k=1∨k=2:=by omega
 rcases k2 with rfl|rfl|rfl
 ·refine⟨_,rfl,_,_,rfl,rfl,_,_,rfl,rfl,(by decide),_,rfl,_,_,rfl,rfl,_,_,rfl,rfl,(by decide),_,_,rfl,?_⟩
  refine⟨_,rfl,_,rfl,t,_,_,_,rfl,rfl,aU.of hT.1,y1,_,rfl,c1,_,_,_,rfl,rfl,aU.of y2,rfl,_,rfl,_,rfl,t,_,_,_,rfl,rfl,aU.of hT.1,w1,_,rfl,c2,_,_,_,rfl,rfl,aU.of w2,rfl,_,_,rfl,rfl,.inl ⟨by omega,by omega⟩,_,rfl,_,rfl,t,_,_,_,rfl,rfl,aU.of hT.1,y1,_,rfl,c1,_,_,_,rfl,rfl,aU.of y2,rfl,_,rfl,_,rfl,t,_,_,_,rfl,rfl,aU.of hT.1,y1,_,rfl,c1,_,_,_,rfl,rfl,aU.of y2,rfl,_,_,rfl,rfl,.inl ⟨by omega,by omega⟩,_,_,rfl,rfl,?_⟩
  refine⟨_,rfl,_,_,rfl,rfl,.inl ⟨by decide,by decide⟩,_,rfl,_,_,rfl,rfl,.inl ⟨by omega,by omega⟩,_,rfl,t,bs,m,rfl,hT,bI,hB.mono (by decide),_,_,rfl,rfl,⟨D0,by omega⟩,_,rfl,X0,X1,λw h0 h1 h2=>q w h0 h1 h2⟩
 ·refine⟨_,rfl,_,_,rfl,rfl,_,_,rfl,rfl,(by decide),_,rfl,_,_,rfl,rfl,_,_,rfl,rfl,(by decide),_,_,rfl,?_⟩
  refine⟨_,rfl,_,rfl,t,_,_,_,rfl,rfl,aU.of hT.1,w1,_,rfl,c2,_,_,_,rfl,rfl,aU.of w2,rfl,_,rfl,_,rfl,t,_,_,_,rfl,rfl,aU.of hT.1,x1,_,rfl,c0,_,_,_,rfl,rfl,aU.of x2,rfl,_,_,rfl,rfl,.inl ⟨by omega,by omega⟩,_,rfl,_,rfl,t,_,_,_,rfl,rfl,aU.of hT.1,w1,_,rfl,c2,_,_,_,rfl,rfl,aU.of w2,rfl,_,rfl,_,rfl,t,_,_,_,rfl,rfl,aU.of hT.1,w1,_,rfl,c2,_,_,_,rfl,rfl,aU.of w2,rfl,_,_,rfl,rfl,.inl ⟨by omega,by omega⟩,_,_,rfl,rfl,?_⟩
  refine⟨_,rfl,_,_,rfl,rfl,.inl ⟨by decide,by decide⟩,_,rfl,_,_,rfl,rfl,.inl ⟨by omega,by omega⟩,_,rfl,t,bs,m,rfl,hT,bI,hB.mono (by decide),_,_,rfl,rfl,⟨D0,by omega⟩,_,rfl,X0,X1,λw h0 h1 h2=>q w h0 h1 h2⟩
 ·refine⟨_,rfl,_,_,rfl,rfl,_,_,rfl,rfl,(by decide),_,rfl,_,_,rfl,rfl,_,_,rfl,rfl,(by decide),_,_,rfl,?_⟩
  refine⟨_,rfl,_,rfl,t,_,_,_,rfl,rfl,aU.of hT.1,x1,_,rfl,c0,_,_,_,rfl,rfl,aU.of x2,rfl,_,rfl,_,rfl,t,_,_,_,rfl,rfl,aU.of hT.1,y1,_,rfl,c1,_,_,_,rfl,rfl,aU.of y2,rfl,_,_,rfl,rfl,.inl ⟨by omega,by omega⟩,_,rfl,_,rfl,t,_,_,_,rfl,rfl,aU.of hT.1,x1,_,rfl,c0,_,_,_,rfl,rfl,aU.of x2,rfl,_,rfl,_,rfl,t,_,_,_,rfl,rfl,aU.of hT.1,x1,_,rfl,c0,_,_,_,rfl,rfl,aU.of x2,rfl,_,_,rfl,rfl,.inl ⟨by omega,by omega⟩,_,_,rfl,rfl,?_⟩
  refine⟨_,rfl,_,_,rfl,rfl,.inl ⟨by decide,by decide⟩,_,rfl,_,_,rfl,rfl,.inl ⟨by omega,by omega⟩,_,rfl,t,bs,m,rfl,hT,bI,hB.mono (by decide),_,_,rfl,rfl,⟨D0,by omega⟩,_,rfl,X0,X1,λw h0 h1 h2=>q w h0 h1 h2⟩
inductive DR(vs:List V)(H:Hp)(Q:VK)(E:XK):Prop
 |mk(t:Addr)(bs:List Addr)(m:List (List Int))(n:Int)(_:vs=[.ref t,.int n])(_:Tab H t bs m)(_:cg m)(_:bV m)(_:bC m=true)(_:∀i j,i<3->j<3->(ent m i j).natAbs<=230)(_:ent m 0 0<=16)(_:ent m 1 1<=30)(_:aA m<=401)(_:0<=n)(_:n<=600)(_:∀(r:Addr) (P:List (List Int)) (H':Hp),ay H H'->H r=none->H' r=some (.lst ((fY m n.toNat P).map V.int)) ->jP m n P->Q (.ref r) H')
theorem qS(F:eG K mg "_law_counts" jq fF)(aS:mg "range"=none)(gn:dg P w K mg base cV 3 "_law_reach" gh z5):dg P w K mg base cV 4 "_law_counts" fF DR:=by
 refine F.ok b9 (λvs H Q E h=> ?_) (λf cdv A outer s H vs Q E hr h=> ?_)
 ·obtain⟨t,bs,m,n,rfl,hT,bI,ev,ab,hB,f0,f1,D4,n0,n6,q⟩:=h
  rfl
 obtain⟨t,bs,m,n,rfl,hT,bI,ev,ab,hB,f0,f1,D4,n0,n6,q⟩:=h
 have hu:=hr.units
 refine⟨_,(kM (@ak _ _ _ _ _ (aC (i:=2) b9.nd rfl (Or.inl rfl) (ai Cg (dF (af ah aj)) (ai aI (pv 1) ah)))
  (@ak _ _ _ _ _ (zI (i:=3) (j:=4) (k:=5) rfl b9.nd rfl rfl rfl (by decide) (by decide) (by decide) rfl rfl rfl (af (aR gn hr rfl aQ (af (pv 0) (af (pv 1) (af ah aj)))) (af (aR gn hr rfl aQ (af (pv 0) (af (pv 1) (af ah aj)))) (af (aR gn hr rfl aQ (af (pv 0) (af (pv 1) (af ah aj)))) aj))) rfl)
  (@ak _ _ _ _ _ (jb PassesOwn.never rfl (iD rfl aS (af (ai bW ah (pv 3)) (af (ai aI (pv 3) ah) aj))) (aP (i:=6) b9.nd rfl (Or.inl rfl)) (dz (jb PassesOwn.never rfl (iD rfl aS (af (ai bW ah (pv 4)) (af (ai aI (pv 4) ah) aj))) (aP (i:=7) b9.nd rfl (Or.inl rfl)) (kM (@ak _ _ _ _ _ (aC (i:=8) b9.nd rfl (Or.inl rfl) (ai br (ai aI (ai aZ (ai aZ (aD aq (aD aq (pv 0) ah (λ_ _=>rfl)) ah (λ_ _=>rfl)) (pv 6)) (pv 6)) (ai aZ (ai aZ (aD aq (aD aq (pv 0) ah (λ_ _=>rfl)) ah (λ_ _=>rfl)) (pv 7)) (pv 7))) ah))
  (@ak _ _ _ _ _ (aC (i:=8) b9.nd rfl (Or.inl rfl) (ai aI (pv 8) (ai aZ (ai aZ (aD aq (aD aq (pv 0) ah (λ_ _=>rfl)) ah (λ_ _=>rfl)) (pv 6)) (pv 7))))
  (@ak _ _ _ _ _ (aC (i:=9) b9.nd rfl (Or.inl rfl) (ai aI (ai aZ (aD aq (aD aq (pv 0) ah (λ_ _=>rfl)) ah (λ_ _=>rfl)) (pv 6)) (ai aZ (aD aq (aD aq (pv 0) ah (λ_ _=>rfl)) ah (λ_ _=>rfl)) (pv 7))))
  (@aL _ _ _ (jb PassesOwn.never rfl (iD rfl aS (af (ai bW ah (pv 5)) (af (ai aI (pv 5) ah) aj))) (aP (i:=10) b9.nd rfl (Or.inl rfl)) (kM (@ak _ _ _ _ _ (aC (i:=11) b9.nd rfl (Or.inl rfl) (ai aI (ai aI (pv 8) (ai aZ (pv 9) (pv 10))) (ai br (ai aZ (ai aZ (aD aq (aD aq (pv 0) ah (λ_ _=>rfl)) ah (λ_ _=>rfl)) (pv 10)) (pv 10)) ah)))
  (@aL _ _ _ (dJ (cF qg (pv 11) (pv 1) (cK _)) (@aL _ _ _ (jV (ai aI (aD aq (pv 2) (pv 11) (λ_ _=>rfl)) ah) (xu (pv 2) (pv 11) set_list))) eB)))))))))))))
  (@aL _ _ _ (aW (pv 2))))))),?_⟩
 obtain⟨c0,x1,x2,_⟩:=aV hT bI (i:=0) (by decide)
 obtain⟨c1,y1,y2,_⟩:=aV hT bI (i:=1) (by decide)
 obtain⟨c2,w1,w2,_⟩:=aV hT bI (i:=2) (by decide)
 obtain⟨g0,g1,g2,D0,p0,p1,p2⟩:=Bg ev bI ab hB f0 f1
 obtain⟨Mw,Mx,My⟩:=ev.sym
 have DN:=hB 0 0 (by decide) (by decide)
 have DQ:=hB 0 1 (by decide) (by decide)
 have Es:=hB 0 2 (by decide) (by decide)
 have DO:=hB 1 1 (by decide) (by decide)
 have DP:=hB 1 2 (by decide) (by decide)
 have xr:=hB 2 2 (by decide) (by decide)
 have Im:Bd 20 m:=λi j hi hj=>Nat.lt_of_le_of_lt (hB i j hi hj) (by decide)
 have e0:Bs m 0=ef m 0 0:=by
  show ent m 1 1*ent m 2 2-ent m 1 2*ent m 1 2=ent m 1 1*ent m 2 2-ent m 1 2*ent m 2 1
  rw[My]
 have e2:Bs m 2=ef m 2 2:=by
  show ent m 0 0*ent m 1 1-ent m 0 1*ent m 0 1=ent m 0 0*ent m 1 1-ent m 0 1*ent m 1 0
  rw[Mw]
 have e1:Bs m 1=ef m 1 1:=by
  show ent m 2 2*ent m 0 0-ent m 2 0*ent m 2 0=ent m 2 2*ent m 0 0-ent m 2 0*ent m 0 2
  rw[Mx]
 refine⟨(by show 1<=sizeLine;decide),λMF NP=>⟨_,rfl,_,_,rfl,rfl,MF,_,_,rfl,rfl,av,by omega,by omega,(by show 1*(n+1).toNat<=16777216;omega),λD hD=> ?_⟩⟩
 have u0:=ay.up (o:= .lst [V.int 0]) NP
 have s0:=u0.trans (ay.up (o:= .lst (List.replicate (n+1).toNat [V.int 0]).flatten) hD)
 have Ik:H D=none:=u0.none hD
 obtain⟨nn,rfl⟩:∃nn:Nat,n=(nn:Int):=⟨n.toNat,by omega⟩
 have Lb:upd (upd H MF (.lst [V.int 0])) D (.lst (List.replicate ((nn:Int)+1).toNat [V.int 0]).flatten) D=some (.lst ((fY m nn []).map V.int)):=by
  rw[av,wM,qO,show((nn:Int)+1).toNat=nn+1 by omega]
 obtain⟨H0,NQ⟩:∃J,J=upd (upd H MF (.lst [V.int 0])) D (.lst (List.replicate ((nn:Int)+1).toNat [V.int 0]).flatten):=⟨_,rfl⟩
 rw[<-NQ]at s0 Lb ⊢
 clear NQ hD u0 NP
 refine⟨_,rfl,_,rfl,t,bs,m,_,0,rfl,hT.same s0,bI,Im,D0,D4,n0,n6,by decide,(by omega),(by omega),λR0 z0 r1 r2=> ?_⟩
 refine⟨_,rfl,_,rfl,t,bs,m,_,1,rfl,hT.same s0,bI,Im,D0,D4,n0,n6,by decide,(by omega),(by omega),λR1 z1 r3 r4=> ?_⟩
 refine⟨_,rfl,_,rfl,t,bs,m,_,2,rfl,hT.same s0,bI,Im,D0,D4,n0,n6,by decide,(by omega),(by omega),λR2 z2 r5 r6=> ?_⟩
 rw[e0]at r1 r2
 rw[e1]at r3 r4
 rw[e2]at r5 r6
 have L0:R0<2880:=lQ D0 n0 n6 p0.1 (by omega) (by decide) r1
 have L1:R1<2102:=lQ D0 n0 n6 p1.1 (by omega) (by decide) r3
 have Qz:R2<2102:=lQ D0 n0 n6 p2.1 (by omega) (by decide) r5
 have PN:∀v:Nat->Int,aE m v<=nn-> -R0<=v 0/\v 0<=R0:=λv e=>oH D0 (ku ev bI ab e (by decide) p0.1) z0 r1 r2
 have in1:∀v:Nat->Int,aE m v<=nn-> -R1<=v 1/\v 1<=R1:=λv e=>oH D0 (ku ev bI ab e (by decide) p1.1) z1 r3 r4
 have PR:∀v:Nat->Int,aE m v<=nn-> -R2<=v 2/\v 2<=R2:=λv e=>oH D0 (ku ev bI ab e (by decide) p2.1) z2 r5 r6
 have RO:=Bm z0 z1 z2 PN in1 PR
 refine⟨_,_,_,rfl,?_⟩
 refine⟨_,rfl,_,_,rfl,rfl,_,rfl,_,_,rfl,rfl,_,_,rfl,⟨by omega,by omega,by omega,by omega⟩,?_⟩
 refine eX (λi σ H'=> ∃o6 o7 o8 o9 tP DS,σ=[some (.ref t),some (.int (nn:Int)),some (.ref D),some (.int R0),some (.int R1),some (.int R2),o6,o7,o8,o9,tP,DS]/\SD D H0 H'/\H' D=some (.lst ((fY m nn (((c8 R0).take i).flatMap λx=>(c8 R1).flatMap λy=>iu m nn x y (c8 R2))).map V.int))) ⟨_,_,_,_,_,_,rfl,SD.refl,Lb⟩ (λi σ H1 hi hh=> ?_) (λσ H1 hh=> ?_)
 ·obtain⟨o6,o7,o8,o9,tP,DS,rfl,sD,eD⟩:=hh
  obtain⟨x,ex⟩:∃x:Int,x=(i:Int) -R0:=⟨_,rfl⟩
  have ex':0-R0+(i:Int)=x:=by omega
  rw[ex']
  have gx:(c8 R0)[i]?=some x:=by rw[ex];exact oG (by omega)
  have bx:x.natAbs<=2880:=by omega
  have tx:=gk (λx=>(c8 R1).flatMap λy=>iu m nn x y (c8 R2)) gx
  refine⟨_,rfl,_,_,rfl,rfl,_,rfl,_,_,rfl,rfl,_,_,rfl,⟨by omega,by omega,by omega,by omega⟩,?_⟩
  obtain⟨P0,PU⟩:∃P,P=((c8 R0).take i).flatMap λx=>(c8 R1).flatMap λy=>iu m nn x y (c8 R2):=⟨_,rfl⟩
  rw[<-PU]at eD tx
  refine eX (λj σ H'=> ∃o7 o8 o9 tP DS,σ=[some (.ref t),some (.int (nn:Int)),some (.ref D),some (.int R0),some (.int R1),some (.int R2),some (.int x),o7,o8,o9,tP,DS]/\SD D H0 H'/\H' D=some (.lst ((fY m nn (P0++((c8 R1).take j).flatMap λy=>iu m nn x y (c8 R2))).map V.int))) ⟨_,_,_,_,_,rfl,sD,by simpa using eD⟩ (λj σ H2 hj hh=> ?_) (λσ H2 hh=> ?_)
  ·clear sD eD
   obtain⟨o7,o8,o9,tP,DS,rfl,sD,eD⟩:=hh
   obtain⟨y,ey⟩:∃y:Int,y=(j:Int) -R1:=⟨_,rfl⟩
   have Mu:0-R1+(j:Int)=y:=by omega
   rw[Mu]
   have gy:(c8 R1)[j]?=some y:=by rw[ey];exact oG (by omega)
   have bY:y.natAbs<=2880:=by omega
   have ty:=gk (λy=>iu m nn x y (c8 R2)) gy
   have sm:ay H H2:=λa o e=>sD a o (λz=>by rw[z,Ik]at e;cases e) (s0 _ _ e)
   have hT2:=hT.same sm
   have X:=DG bx (by decide)
   have Y:=DG bY (by decide)
   have MX:=DG (DH hB bx bY) (by decide)
   have C2:=DG (show(2*ent m 2 2).natAbs<=460 by clear MX X Y;omega) (by decide)
   show tZ _ _ _ _ _
   with_reducible apply iY
   ·exact λR hR=>⟨_,rfl,t,_,_,_,rfl,rfl,aU.of hT2.1,x1,c0,_,_,_,rfl,rfl,aU.of (sm _ _ x2),rfl,_,rfl,_,_,rfl,rfl,.inr X,_,rfl,_,_,rfl,rfl,.inr X,_,rfl,t,_,_,_,rfl,rfl,aU.of hT2.1,y1,c1,_,_,_,rfl,rfl,aU.of (sm _ _ y2),rfl,_,rfl,_,_,rfl,rfl,.inr Y,_,rfl,_,_,rfl,rfl,.inr Y,_,_,rfl,rfl,_,_,rfl,rfl,⟨by decide,by decide⟩,hR⟩
   show tZ _ _ _ _ _
   with_reducible apply iY (v:= .int (Ja m x y))
   ·exact λR hR=>⟨_,rfl,_,rfl,t,_,_,_,rfl,rfl,aU.of hT2.1,x1,c0,_,_,_,rfl,rfl,aU.of (sm _ _ x2),rfl,_,rfl,_,_,rfl,rfl,.inr X,_,rfl,_,_,rfl,rfl,.inr Y,_,_,rfl,rfl,hR⟩
   show tZ _ _ _ _ _
   with_reducible apply iY (v:= .int (Ih m x y))
   ·exact λR hR=>⟨_,rfl,t,_,_,_,rfl,rfl,aU.of hT2.1,x1,c0,_,_,_,rfl,rfl,aU.of (sm _ _ x2),rfl,_,rfl,_,_,rfl,rfl,.inr X,_,rfl,t,_,_,_,rfl,rfl,aU.of hT2.1,y1,c1,_,_,_,rfl,rfl,aU.of (sm _ _ y2),rfl,_,rfl,_,_,rfl,rfl,.inr Y,_,_,rfl,rfl,hR⟩
   refine⟨_,rfl,_,_,rfl,rfl,_,rfl,_,_,rfl,rfl,_,_,rfl,⟨by clear X Y MX C2 bx bY DN DQ Es DO DP xr;omega,by clear X Y MX C2 bx bY DN DQ Es DO DP xr;omega,by clear X Y MX C2 bx bY DN DQ Es DO DP xr;omega,by clear X Y MX C2 bx bY DN DQ Es DO DP xr;omega⟩,?_⟩
   obtain⟨P1,NR⟩:∃P,P=P0++((c8 R1).take j).flatMap λy=>iu m nn x y (c8 R2):=⟨_,rfl⟩
   rw[<-NR]at eD
   refine eX (λk σ H'=> ∃tP DS,σ=[some (.ref t),some (.int (nn:Int)),some (.ref D),some (.int R0),some (.int R1),some (.int R2),some (.int x),some (.int y),some (.int (Ja m x y)),some (.int (Ih m x y)),tP,DS]/\SD D H0 H'/\H' D=some (.lst ((fY m nn (P1++iu m nn x y ((c8 R2).take k))).map V.int))) ⟨_,_,rfl,sD,by simpa [iu]using eD⟩ (λk σ H3 hk hh=> ?_) (λσ H3 hh=> ?_)
   ·obtain⟨tP,DS,rfl,Br,uS⟩:=hh
    obtain⟨z,ez⟩:∃z:Int,z=(k:Int) -R2:=⟨_,rfl⟩
    have Ms:0-R2+(k:Int)=z:=by clear X Y MX C2 bx bY DN DQ Es DO DP xr;omega
    rw[Ms]
    have gz:(c8 R2)[k]?=some z:=by rw[ez];exact oG (by clear X Y MX C2 bx bY DN DQ Es DO DP xr;omega)
    have Z:=DG (x:=z) (B:=2880) (by clear X Y MX C2 bx bY DN DQ Es DO DP xr;omega) (by decide)
    have tz:=gk (λz=>if aE m (fO x y z)<=(nn:Int)then [[x,y,z]]else([]:List (List Int))) gz
    change iu m nn x y ((c8 R2).take (k+1))=iu m nn x y ((c8 R2).take k)++_ at tz
    have NS:ay H H3:=λa o e=>Br a o (λz=>by rw[z,Ik]at e;cases e) (s0 _ _ e)
    have PV:=hT.same NS
    obtain⟨P,eP⟩:∃P,P=P1++iu m nn x y ((c8 R2).take k):=⟨_,rfl⟩
    rw[<-eP]at uS
    refine PC ?_
    with_reducible apply iY (v:= .int (Ja m x y+Ih m x y*z+ent m 2 2*z*z/2))
    ·exact λR hR=>⟨_,rfl,_,rfl,_,rfl,_,_,rfl,rfl,.inl MX,_,_,rfl,rfl,_,rfl,t,_,_,_,rfl,rfl,aU.of PV.1,w1,c2,_,_,_,rfl,rfl,aU.of (NS _ _ w2),rfl,_,rfl,_,_,rfl,rfl,.inr Z,_,rfl,_,_,rfl,rfl,.inr Z,_,_,rfl,rfl,⟨by decide,by decide⟩,_,_,rfl,rfl,hR⟩
    rw[yz ev]
    have h0:=pH ev bI ab (fO x y z)
    obtain⟨kk,ek⟩:∃kk:Nat,aE m (fO x y z)=(kk:Int):=⟨_,(Int.toNat_of_nonneg h0).symm⟩
    refine⟨_,rfl,_,rfl,_,_,rfl,rfl,_,rfl,jC (λc=> ?_) (λc=> ?_)⟩
    ·have c:aE m (fO x y z)<=nn:=of_decide_eq_true c
     have kn:kk<=nn:=by clear X Y MX C2 bx bY DN DQ Es DO DP xr Z;omega
     have hg:((fY m nn P).map V.int)[kk]?=some (.int ((P.filter λr=>decide (aE m (c7 r)=(kk:Int))).length:Int)):=by
      rw[List.getElem?_map,jO kn]
      rfl
     have hr:aE m (c7 [x,y,z])=(kk:Int):=by
      rw[<-ek]
      exact cD ⟨rfl,rfl,rfl⟩
     refine⟨_,rfl,_,rfl,D,_,(kk:Int),_,rfl,congrArg V.int ek,aU.of uS,fS hg,_,_,rfl,rfl,_,rfl,_,rfl,D,_,(kk:Int),kk,rfl,congrArg V.int ek,uS,zW (by rw[List.length_map,gm];clear X Y MX C2 bx bY DN DQ Es DO DP xr Z;omega),?_⟩
     refine⟨_,_,rfl,Br.upd,?_⟩
     rw[if_pos c]at tz
     rw[tz,<-List.append_assoc,<-eP,tN kn hr,List.map_set]
     exact av
    ·have c:¬aE m (fO x y z)<=nn:=λy=>c (decide_eq_true y)
     rw[if_neg c,List.append_nil]at tz
     refine⟨_,_,rfl,Br,?_⟩
     rw[tz,<-eP]
     exact uS
   ·obtain⟨tP,DS,rfl,Br,uS⟩:=hh
    refine⟨_,_,_,_,_,rfl,Br,?_⟩
    have e:(R2+1- (0-R2)).toNat=(c8 R2).length:=by rw[oF];clear X Y MX C2 bx bY DN DQ Es DO DP xr;omega
    rw[e,List.take_length,NR,List.append_assoc]at uS
    rw[ty]
    exact uS
  ·obtain⟨o7,o8,o9,tP,DS,rfl,Br,uS⟩:=hh
   refine⟨_,_,_,_,_,_,rfl,Br,?_⟩
   have e:(R1+1- (0-R1)).toNat=(c8 R1).length:=by rw[oF];omega
   rw[e,List.take_length]at uS
   rw[tx]
   exact uS
 ·obtain⟨o6,o7,o8,o9,tP,DS,rfl,Br,uS⟩:=hh
  have e:(R0+1- (0-R0)).toNat=(c8 R0).length:=by rw[oF];omega
  rw[e,List.take_length]at uS
  refine⟨_,rfl,q D _ H1 (λa o e=>Br a o (λz=>by rw[z,Ik]at e;cases e) (s0 _ _ e)) Ik ?_ RO⟩
  rw[Int.toNat_natCast]
  exact uS
def z6(K:PySem.W.Frag)(tabs fJ:List Addr):Sp:=λvs H Q _=> ∃(a:Addr)(ns:List Int),vs=[.ref a]/\aU K H a (ns.map V.int)/\ns.length<=63/\(∀T∈tabs,H T=some (dH T))/\(∀T∈fJ,H T=some .vE)/\ ∀H',ay H H'->Q (.bl true) H'
theorem Io{f:Addr}{fd:FuncData}{bE bg aK bQ aG aY:Addr}{tabs fJ:List Addr}(tQ:bE∈tabs)(pI:bg∈tabs)(jQ:aK∈tabs)(qT:bQ∈tabs)(qU:aG∈tabs)(pJ:aY∈fJ)(F:Gq K "law" "law" nI f fd)(aS:mg "range"=none)(jr:mg "list"=none)(qG:mg "int"=none)(bH:mg "isinstance"=none)(oj:mg "bool"=none)(kO:mg "all"=none)(fG:dg P w K mg base cV 12 "_law_number" fE (uU K))(lS:dg P w K mg base cV 12 "_law_form" gI DM)(kC:dg P w K mg base cV 12 "_law_basis" gf zY)(gp:dg P w K mg base cV 12 "_law_product" eU zZ)(fX:dg P w K mg base cV 12 "_law_over" fV oi)(ju:dg P w K mg base cV 12 "_law_counts" fF DR)(ja:dg P w K mg base cV 12 "counts_to" gH (wQ bE bg aK bQ aG aY)):m8 P w K mg base cV 13 f fd ["_law_script"] (z6 K tabs fJ):=by
 refine F.ok iP (λvs H Q E h=> ?_) (λcdv A outer s H vs Q E hr h=> ?_)
 ·obtain⟨a,ns,rfl,hS,h63,hT,hC,q⟩:=h
  rfl
 obtain⟨a,ns,rfl,hS,h63,hT,hC,q⟩:=h
 have hu:=hr.units
 refine⟨_,(kM (@ak _ _ _ _ _ (aC (i:=1) iP.nd rfl (Or.inl rfl) (aR lS hr rfl aQ (af (aR fG hr rfl aQ (af (pv 0) (af ah aj))) (af ah aj))))
  (@ak _ _ _ _ _ (aC (i:=2) iP.nd rfl (Or.inl rfl) (aR fG hr rfl aQ (af (pv 0) (af ah aj))))
  (@ak _ _ _ _ _ (aC (i:=3) iP.nd rfl (Or.inl rfl) (aD aq (dF (af (ai cJ (ai br (pv 2) ah) ah) (af (ai cJ (ai br (pv 2) ah) ah) aj))) (sL Ag rfl qG PyProof.Rows.boot_int (af (m7 Cb (ai cJ (pv 2) ah) ah (cK _)) aj)) (λ_ _=>rfl)))
  (@ak _ _ _ _ _ (aC (i:=4) iP.nd rfl (Or.inl rfl) (aR ju hr rfl aQ (af (pv 1) (af (pv 3) aj))))
  (@ak _ _ _ _ _ (aC (i:=5) iP.nd rfl (Or.inl rfl) (pv 1))
  (@ak _ _ _ _ _ (dJ (cF Cb (ai cJ (ai br (pv 2) ah) ah) ah (cK _)) (@ak _ _ _ _ _ (aC (i:=6) iP.nd rfl (Or.inl rfl) (aR kC hr rfl aQ (af (aR fG hr rfl aQ (af (pv 0) (af ah aj))) (af ah (af ah aj)))))
  (@aL _ _ _ (aC (i:=5) iP.nd rfl (Or.inl rfl) (aR gp hr rfl aQ (af (aR gp hr rfl aQ (af (pv 6) (af (pv 1) aj))) (af (aR fX hr rfl aQ (af (pv 6) aj)) aj)))))) eB)
  (@ak _ _ _ _ _ (HJ (i:=7) iP.nd rfl rfl (N2:=["_law_script","_law_form_here","_law_big","_law_n","_law_due","_law_there","_law_basis_here","_law_handed","_law_turn","_law_found"]) (te:=(IP (zC K) (cW (bT 0) jc))) rfl (iy (pv 5)) (by kernel_rfl) rfl (λ_ _ _=>by exact iV (sL uc rfl jr PyProof.Rows.boot_list (af (pv 0) aj))))
  (@ak _ _ _ _ _ (jb PassesOwn.never rfl (dh rfl aS (af ah aj)) (aP (i:=8) iP.nd rfl (Or.inl rfl)) (kM (@ak _ _ _ _ _ (aC (i:=9) iP.nd rfl (Or.inl rfl) (aR ja hr rfl aQ (af (pv 7) (af (pv 3) aj))))
  (@ak _ _ _ _ _ (dJ (PW.pt (sy (mh (jU (dX eK rfl bH PyProof.Rows.boot_isinstance (af (pv 9) (af (jT (v:= .ty "list") rfl jr PyProof.Rows.boot_list rfl) aj))))) (sy (cF (CB hu) (pv 9) (pv 4) (cK _)) (tW (cF (CB hu) (pv 7) (pv 5) (cK _)))))) (@aL _ _ _ (aW qb)) eB)
  (@ak _ _ _ _ _ (dJ (mh (jU (dX (rJ rfl) rfl kO PyProof.Rows.boot_all (af (gQ (N2:=["_law_script","_law_form_here","_law_big","_law_n","_law_due","_law_there","_law_basis_here","_law_handed","_law_turn","_law_found"]) (te:=(Ge (IP (zD K) (cW (bT 0) (cW (tC (.ty "int")) jc))) (Gf (IP (zD K) (cW (bT 0) (cW (tC (.ty "bool")) jc)))))) rfl (iy (pv 9)) (by kernel_rfl) rfl (λ_ _ _=>by exact iV (tY (dX eK rfl bH PyProof.Rows.boot_isinstance (af (pv 0) (af (jT (v:= .ty "int") rfl qG PyProof.Rows.boot_int rfl) aj))) (tX (BS (dX eK rfl bH PyProof.Rows.boot_isinstance (af (pv 0) (af (jT (v:= .ty "bool") rfl oj PyProof.Rows.boot_bool rfl) aj)))))))) aj)))) (@aL _ _ _ (aW qb)) eB)
  (@aL _ _ _ (pY (Gp PySem.F.plainAttrs_list PySem.F.slot_list_append PySem.F.type_list_append nN (pv 9) (af ah aj)))))))))
  (@aL _ _ _ (aW (m7 (CA hu) (aR ja hr rfl aQ (af (pv 1) (af ah aj))) (dF (af ah aj)) (cK _))))))))))))),?_⟩
 refine⟨_,rfl,a,ns,_,rfl,hS,h63,by omega,λz0=>⟨_,_,rfl,by decide,λfa fb fc fp fq fr t bs H1 hF hd s1 ft QA nt nd T=> ?_⟩⟩
 obtain⟨i1,i2,i3,⟨i4,PX,MG⟩,i5,i6,i7,i8,i9,PY,NU⟩:=hF
 have bM:Bd 30 (fz (2*fa) (2*fb) (2*fc) fp fq fr):=uq (by omega) (by omega) (by omega) (by omega) (by omega) (by omega)
 have hB:∀i j,i<3->j<3->(ent (fz (2*fa) (2*fb) (2*fc) fp fq fr) i j).natAbs<=230:=DI (by omega) (by omega) (by omega) (by omega) (by omega) (by omega)
 have cM:cg (fz (2*fa) (2*fb) (2*fc) fp fq fr):=cy _
 have ev:=Az fa fb fc fp fq fr
 have ab:=xY i1 i2 i5 i6 NU
 have f0:ent (fz (2*fa) (2*fb) (2*fc) fp fq fr) 0 0<=16:=by show 2*fa<=16;omega
 have f1:ent (fz (2*fa) (2*fb) (2*fc) fp fq fr) 1 1<=30:=by show 2*fb<=30;omega
 generalize fz (2*fa) (2*fb) (2*fc) fp fq fr=M at T bM hB cM ev ab hd f0 f1
 have D4:aA M<=401:=by omega
 clear i1 i2 i3 i4 PX MG i5 i6 i7 i8 i9 PY NU
 have hl:(ns.map V.int).length=ns.length:=List.length_map _
 refine⟨_,rfl,a,ns,_,rfl,s1.seq hS,h63,by omega,λz1=> ?_⟩
 obtain⟨n,hn,n0,n6⟩:=Ij z1
 refine⟨_,rfl,_,_,rfl,rfl,⟨by decide,by decide⟩,_,_,rfl,rfl,(by decide),_,rfl,_,_,rfl,rfl,⟨by decide,by decide⟩,_,_,rfl,rfl,(by decide),(by show 2<=sizeLine;decide),λp hp=>⟨_,rfl,_,_,rfl,rfl,(by decide),rfl,.inr ⟨_,rfl,p,_,_,_,rfl,rfl,aU.of av,hn,?_⟩⟩⟩
 have uP:=ay.up (o:= .lst [V.int (z1/8%13),.int (z1/8%61)]) hp
 obtain⟨H2,NV⟩:∃J,J=upd H1 p (.lst [V.int (z1/8%13),.int (z1/8%61)]):=⟨_,rfl⟩
 rw[<-NV]at uP ⊢
 refine⟨_,rfl,_,rfl,t,bs,M,n,rfl,T.same uP,cM,ev,ab,hB,f0,f1,D4,n0,by omega,λdu P H3 s3 QB NW RP=> ?_⟩
 obtain⟨nn,rfl⟩:∃nn:Nat,n=(nn:Int):=⟨n.toNat,by omega⟩
 rw[Int.toNat_natCast]at NW
 have T3:=(T.same uP).same s3
 have NX:=s1.trans (uP.trans s3)
 clear uP NV hp hn
 refine⟨_,rfl,?_⟩
 refine gN ?_
 refine Ig (λσ' H'=> ∃u us C o6,σ'=[some (.ref a),some (.ref t),some (.int z1),some (.int (nn:Int)),some (.ref du),some (.ref u),o6,none,none,none]/\ay H3 H'/\Tab H' u us C/\cg C/\Bd 440 C/\bV C/\bC C=true/\aA C/2<=200/\(∀{k:Int}{L L':List (List Int)},g6 C k L->g6 M k L'->L.length=L'.length)) (λR hR=> ?_) ?_
 ·refine⟨_,rfl,_,_,rfl,rfl,⟨by decide,by decide⟩,_,_,rfl,rfl,(by decide),rfl,_,rfl,jC (λc=> ?_) (λc=> ?_)⟩
  ·refine⟨_,rfl,a,ns,_,rfl,NX.seq hS,h63,by omega,λz2=>⟨_,_,_,rfl,by decide,by decide,by decide,by decide,λmb tb NY Ha cb dB Ip sa QC QD QE Tb=> ?_⟩⟩
   have dB:Bd 77 mb:=dB.mono (by decide)
   refine⟨_,rfl,_,rfl,tb,NY,mb,t,bs,M,rfl,Tb,T3.same sa,cb,cM,dB.mono (by decide),bM.mono (by decide),λr rs Hb sb fr frs nr Tr=> ?_⟩
   refine⟨_,rfl,tb,NY,mb,rfl,Tb.same sb,cb,λo os Hc sc fo OY no To=> ?_⟩
   refine⟨r,rs,_,o,os,_,rfl,Tr.same sc,To,cy _,cy _,(p6 dB bM).mono (by decide),(qp dB).mono (by decide),λu us Hd sd fu Mi nu Tu=> ?_⟩
   refine hR _ _ ⟨u,us,fm M mb,_,rfl,sa.trans (sb.trans (sc.trans sd)),Tu,(show cg (gF (gF mb M) (cL mb))from cy _),(p6 (p6 dB bM) (qp dB)).mono (by decide),sW ev cM cb,qw (cX ev cM) ab cb Ip,(by rw[v5 Ip];exact hd),λh h'=> ?_⟩
   rw[<-List.length_map (qN mb)]
   exact wL (yw Ip h) h'
  ·exact hR _ _ ⟨t,bs,M,_,rfl,ay.refl _,T3,cM,bM.mono (by decide),ev,ab,hd,wL⟩
 rintro _ H4 ⟨u,us,C,o6,rfl,s4,Tu,cC,dC,PZ,Qa,Qc,Ii⟩
 refine⟨_,rfl,u,rfl,⟨_,aU.of Tu.1⟩,λD hD=>CZ Tu (by rw[cC.1];decide) hD λQd H5 s5 QF nh QG Th=> ?_⟩
 have Ic:=s4.trans s5
 have NZ:=NX.trans Ic
 have T5:=T3.same Ic
 have Qe:=Tu.same s5
 have Ku:=Ic _ _ NW
 refine gN ?_
 refine⟨2,rfl,by decide,by decide,eX (n:=2) (λi σ H'=> ∃o8 o9,σ=[some (.ref a),some (.ref t),some (.int z1),some (.int (nn:Int)),some (.ref du),some (.ref u),o6,some (.ref D),o8,o9]/\ay H5 H') ⟨_,_,rfl,ay.refl _⟩ (λi σ H6 hi hh=> ?_) (λσ H6 hh=> ?_)⟩
 ·obtain⟨o8,o9,rfl,s6⟩:=hh
  have z7:=NZ.trans s6
  refine⟨_,rfl,_,rfl,D,Qd,C,_,rfl,Th.same s6,cC,dC,PZ,Qa,Qc,n0,n6,(z7) _ _ (hT _ tQ),(z7) _ _ (hT _ pI),(z7) _ _ (hT _ jQ),(z7) _ _ (hT _ qT),(z7) _ _ (hT _ qU),(z7) _ _ (hC _ pJ),λr Pr H7 s7 fr er R7=> ?_⟩
  have MH:=s6.trans s7
  rw[Int.toNat_natCast,Bo Ii R7 RP]at er
  have Qg:(fY M nn P).length=nn+1:=gm
  generalize fY M nn P=W at er Ku Qg
  refine⟨_,rfl,_,_,_,_,rfl,.lst er,lA K "list",_,rfl,vK ?_⟩
  refine⟨_,rfl,_,rfl,HU (aU.of er) (aU.of (MH _ _ Ku)) ⟨_,rfl,zq rfl ?_⟩⟩
  refine⟨_,rfl,_,rfl,FT (Th.same MH) (Qe.same MH) ⟨_,rfl,zq rfl ?_⟩⟩
  have wl:(W.map V.int).length<=sizeLine:=by rw[List.length_map];show W.length<=16777216;omega
  refine⟨_,rfl,r,rfl,⟨_,aU.of er⟩,λE hE=>CL (iW (aU.of er)) wl hE (λy hy Ha Q2 sa q2=> ?_) (λHa sa eE=> ?_)⟩
  ·obtain⟨z,_,rfl⟩:=List.mem_map.mp hy
   exact⟨_,rfl,_,_,_,_,rfl,.int _,lA K "int",_,rfl,An ⟨_,rfl,_,_,_,_,rfl,.int _,nk K,_,rfl,q2⟩⟩
  ·refine⟨E,_,rfl,aU.of eE,_,rfl,?_⟩
   have e:(List.replicate (W.map V.int).length true).all id=true:=by simp
   rw[e]
   refine vK ?_
   refine⟨_,rfl,.inl ⟨rfl,_,aU.of (sa _ _ er)⟩,r,_,.int 0,rfl,rfl,sa _ _ er,(by rw[List.length_map];show W.length<16777216;omega),?_⟩
   exact⟨_,_,rfl,s6.trans (DJ (s7.trans sa) fr)⟩
 ·obtain⟨o8,o9,rfl,s6⟩:=hh
  have z7:=NZ.trans s6
  refine⟨_,rfl,t,bs,M,0,rfl,T5.same s6,cM,bM.mono (by decide),ev,ab,hd,Int.le_refl 0,by decide,(z7) _ _ (hT _ tQ),(z7) _ _ (hT _ pI),(z7) _ _ (hT _ jQ),(z7) _ _ (hT _ qT),(z7) _ _ (hT _ qU),(z7) _ _ (hC _ pJ),λr Pr H7 s7 fr er R7=> ?_⟩
  rw[show(0:Int).toNat=0 from rfl,Bq ev cM ab R7]at er
  refine⟨(by show 1<=sizeLine;decide),λp hp=>HS (xs:=[1]) (ys:=[1]) (aU.of (ay.up hp _ _ er)) (aU.of av) ?_⟩
  exact q _ (z7.trans (s7.trans (ay.up hp)))
end
theorem all_mk{l:PySem.W.OpenLaw}{q:Program}{loose:List Str}{mean:ExcName->Option Value}{w:World}{K:PySem.W.Frag}{h:Heap}{mg mb:Str->Option Value}{fa tR rV qV rW FW Bt Bu yE wU qW kQ Bv Iq tS FY uZ Bw vc qX yF vd Ir Iu DT rX pR wV qY rY yG ve wW vf wX vg qZ wY vh rZ DU:Addr}(X:K.In h)(Tp:PyProof.Rows.Top q loose mean mg mb h)(Qh:mg "law"=some (.ref fa))
  (oN:FnAt K "product" nV tR)
  (jv:FnAt K "turned_over" jj rV)
  (iS:FnAt K "signed_minor" iL qV)
  (jx:FnAt K "determinant" jk rW)
  (vj:FnAt K "cover" uB FW)
  (oO:FnAt K "carried" nW Bt)
  (oQ:FnAt K "low_row" n5 Bu)
  (mU:FnAt K "is_whole" mG yE)
  (q8:FnAt K "is_row" qy wU)
  (mV:FnAt K "is_table" mH qW)
  (g8:FnAt K "is_even_table" gU kQ)
  (oR:FnAt K "is_form" nY Bv)
  (yH:FnAt K "half" yg Iq)
  (oS:FnAt K "pairing" nZ tS)
  (vm:FnAt K "worth" uC FY)
  (kD:FnAt K "less_times" j6 uZ)
  (oU:FnAt K "nearest" n8 Bw)
  (kE:FnAt K "least_pair" j7 vc)
  (mW:FnAt K "in_order" mK qX)
  (mX:FnAt K "drawn_in" mL yF)
  (kF:FnAt K "near_basis" j8 vd)
  (yI:FnAt K "near" yi Ir)
  (yJ:FnAt K "root" yj Iu)
  (q9:FnAt K "slices" qC DT)
  (jy:FnAt K "near_counts" jm rX)
  (g9:FnAt K "refuse_others" gW pR)
  (lT:FnAt K "counts_to" lJ wV)
  (iT:FnAt K "_law_cell_at" iN qY)
  (jz:FnAt K "_law_number" jn rY)
  (mY:FnAt K "_law_det" mO yG)
  (kG:FnAt K "_law_shape" kc ve)
  (lU:FnAt K "_law_form" lM wW)
  (kH:FnAt K "_law_basis" kg vf)
  (lV:FnAt K "_law_over" lK wX)
  (kI:FnAt K "_law_along" j9 vg)
  (iU:FnAt K "_law_product" iO qZ)
  (lW:FnAt K "_law_root" lO wY)
  (kJ:FnAt K "_law_reach" kh vh)
  (jA:FnAt K "_law_counts" jq rZ)
  {Iv DW:Option Addr}{Iw:Array (Option Value)}{Iz DX DY DZ yK Ea:Value}(z8:PySem.W.nsIn K mainGlobals "law"=some (some (.ref DU)))(Eb:K.lookup DU=some ⟨Iz,Iv,.func (PySem.W.fnOf "law" "law" (fH nI) (dO nI) (az nI) .none DX DY DZ DW yK Ea),Iw⟩)(Ec:PySem.W.codeIn K yK "law"=true)(Ed:PySem.W.keepIn K (.ref DU)=true)
  {Bx:DefRec}(oV:(PyProof.Rows.recsOf q).find? (λe=>e.name==("product":Str))=some Bx)
  {Ef:DefRec}(rf:(PyProof.Rows.recsOf q).find? (λe=>e.name==("is_row":Str))=some Ef)
  {yL:DefRec}(mZ:(PyProof.Rows.recsOf q).find? (λe=>e.name==("is_table":Str))=some yL)
  {pT:DefRec}(ic:(PyProof.Rows.recsOf q).find? (λe=>e.name==("is_even_table":Str))=some pT)
  {By:DefRec}(oW:(PyProof.Rows.recsOf q).find? (λe=>e.name==("pairing":Str))=some By)
  {yM:DefRec}(m5:(PyProof.Rows.recsOf q).find? (λe=>e.name==("in_order":Str))=some yM)
  (Eg:PySem.W.nsIn K mainGlobals "sum"=some none)
  (ko:PySem.W.nsIn K mainGlobals "range"=some none)
  (kK:PySem.W.nsIn K mainGlobals "isinstance"=some none)
  (Eh:PySem.W.nsIn K mainGlobals "int"=some none)
  (y_bool:PySem.W.nsIn K mainGlobals "bool"=some none)
  (yN:PySem.W.nsIn K mainGlobals "list"=some none)
  (Ei:PySem.W.nsIn K mainGlobals "len"=some none)
  (Ej:PySem.W.nsIn K mainGlobals "all"=some none)
  {gY:_}(ie:PySem.W.nsIn K mainGlobals "GREATEST_HALF"=some (some (Value.int 200 gY)))
  (Ek:PySem.W.nsIn K mainGlobals "zip"=some none)
  (rg:PySem.W.nsIn K mainGlobals "sorted"=some none)
  {fP:_}(fR:PySem.W.nsIn K mainGlobals "GREATEST_COUNTED"=some (some (Value.int 60 fP)))
  (El:PySem.W.nsIn K mainGlobals "abs"=some none)
  (ap:CC K [tR,wU,qW,kQ,tS] [qX]=true)
  :∃(fd:FuncData)(tabs fJ:List Addr),(∀(s:Shared)(v:Value),BindsTo s fd ⟨[v],[]⟩ [("_law_script",v)])/\(∀T∈tabs++fJ,isCodeTable h T/\h.get? T=some {cls:= .none,data:= .fields #[]})/\(∀T∈tabs,T∉fJ)/\ ∀base:Heap,K.In base->base.Ns mainGlobals mg->BM mg base->m8 l.prog w K mg base cV 40 fa fd ["_law_script"] (z6 K tabs fJ):=by
 have G:=Tp.g
 have e:=Qh.symm.trans (PySem.W.mg_of X G z8)
 cases e
 have Oa:=PySem.W.mg_of X G z8
 obtain⟨bQ,BA,yO,yP,yQ⟩:=oN.AW (ps:=jH) Tp X oV
 have r8:=jv.fun (ps:=d8) Tp X
 have rj:=iS.fun (ps:=eN) Tp X
 have r9:=jx.fun (ps:=dM) Tp X
 have FZ:=vj.fun (ps:=nH) Tp X
 have BB:=oO.fun (ps:=jI) Tp X
 have BC:=oQ.fun (ps:=jK) Tp X
 have yR:=mU.fun (ps:=gr) Tp X
 obtain⟨bE,Em,BD,BE,BF⟩:=q8.AW (ps:=lH) Tp X rf
 obtain⟨bg,yS,wZ,w5,w6⟩:=mV.AW (ps:=iK) Tp X mZ
 obtain⟨aK,pU,oX,oY,oZ⟩:=g8.AW (ps:=dY) Tp X ic
 have BG:=oR.fun (ps:=jJ) Tp X
 have IA:=yH.fun (ps:=qA) Tp X
 obtain⟨aG,BH,yT,yU,yV⟩:=oS.AW (ps:=gu) Tp X oW
 have Ga:=vm.fun (ps:=j5) Tp X
 have vn:=kD.fun (ps:=e7) Tp X
 have BI:=oU.fun (ps:=jL) Tp X
 have vp:=kE.fun (ps:=f7) Tp X
 obtain⟨aY,yW,w9,xg,gM⟩:=mW.AW (ps:=gv) Tp X m5
 have yX:=mX.fun (ps:=iM) Tp X
 have vq:=kF.fun (ps:=f9) Tp X
 have ID:=yI.fun (ps:=qB) Tp X
 have IE:=yJ.fun (ps:=n9) Tp X
 have En:=q9.fun (ps:=lI) Tp X
 have se:=jy.fun (ps:=fC) Tp X
 have pV:=g9.fun (ps:=dZ) Tp X
 have xh:=lT.fun (ps:=gH) Tp X
 have rm:=iT.fun (ps:=eT) Tp X
 have sf:=jz.fun (ps:=fE) Tp X
 have yY:=mY.fun (ps:=fM) Tp X
 have vt:=kG.fun (ps:=gc) Tp X
 have xj:=lU.fun (ps:=gI) Tp X
 have vz:=kH.fun (ps:=gf) Tp X
 have xm:=lV.fun (ps:=fV) Tp X
 have vB:=kI.fun (ps:=gb) Tp X
 have rq:=iU.fun (ps:=eU) Tp X
 have xo:=lW.fun (ps:=gJ) Tp X
 have vC:=kJ.fun (ps:=gh) Tp X
 have sj:=jA.fun (ps:=fF) Tp X
 have Kv:=Ci (st:=nI) Eb Ec Ed
 have tH:=PySem.W.mg_none_of X G Eg
 have aS:=PySem.W.mg_none_of X G ko
 have bH:=PySem.W.mg_none_of X G kK
 have qG:=PySem.W.mg_none_of X G Eh
 have oj:=PySem.W.mg_none_of X G y_bool
 have jr:=PySem.W.mg_none_of X G yN
 have nJ:=PySem.W.mg_none_of X G Ei
 have kO:=PySem.W.mg_none_of X G Ej
 have gZ:=PySem.W.mg_of X G ie
 have nK:=PySem.W.mg_none_of X G Ek
 have qJ:=PySem.W.mg_none_of X G rg
 have fQ:=PySem.W.mg_of X G fR
 have DL:=PySem.W.mg_none_of X G El
 refine⟨PySem.W.fnOf "law" "law" (fH nI) (dO nI) (az nI) .none DX DY DZ DW yK Ea,[bQ,bE,bg,aK,aG],[aY],λs v=> .of_eq rfl,λT hT=> ?_,λT hT hC=> ?_,λbase IJ _ bm=> ?_⟩
 ·simp only[List.mem_append,List.mem_cons,List.not_mem_nil,or_false,or_assoc]at hT
  rcases hT with rfl|rfl|rfl|rfl|rfl|rfl
  ·exact⟨yO,yP⟩
  ·exact⟨BD,BE⟩
  ·exact⟨wZ,w5⟩
  ·exact⟨oX,oY⟩
  ·exact⟨yT,yU⟩
  ·exact⟨w9,xg⟩
 ·simp only[List.mem_cons,List.not_mem_nil,or_false]at hT hC
  rcases hT with e|e|e|e|e
  ·exact ly ap (by simp) (by simp) yQ gM (e.symm.trans hC)
  ·exact ly ap (by simp) (by simp) BF gM (e.symm.trans hC)
  ·exact ly ap (by simp) (by simp) w6 gM (e.symm.trans hC)
  ·exact ly ap (by simp) (by simp) oZ gM (e.symm.trans hC)
  ·exact ly ap (by simp) (by simp) yV gM (e.symm.trans hC)
 have l5:=yk (P:=l.prog) (w:=w) (mg:=mg) (base:=base) BA bm tH aS
 have ee:=qD (P:=l.prog) (w:=w) (mg:=mg) (base:=base) r8 aS
 have iQ:=pO (P:=l.prog) (w:=w) (mg:=mg) (base:=base) rj
 have cQ:=qF (P:=l.prog) (w:=w) (mg:=mg) (base:=base) r9
 have uH:=Dv (P:=l.prog) (w:=w) (mg:=mg) (base:=base) FZ aS iQ.mono
 have oA:=ym (P:=l.prog) (w:=w) (mg:=mg) (base:=base) BB l5.mono ee.mono
 have oq:=yo (P:=l.prog) (w:=w) (mg:=mg) (base:=base) BC cQ.mono uH.mono
 have gw:=wo (P:=l.prog) (w:=w) (mg:=mg) (base:=base) yR bH qG oj
 have qH:=AY (P:=l.prog) (w:=w) (mg:=mg) (base:=base) Em bm bH jr nJ kO gw.mono
 have mP:=wu (P:=l.prog) (w:=w) (mg:=mg) (base:=base) yS bm bH jr nJ kO qH.mono
 have gX:=om (P:=l.prog) (w:=w) (mg:=mg) (base:=base) pU bm kO aS mP.mono ee.mono
 have ou:=yp (P:=l.prog) (w:=w) (mg:=mg) (base:=base) BG gX.mono oq.mono
 have yC:=FI (P:=l.prog) (w:=w) (mg:=mg) (base:=base) IA gZ ou.mono cQ.mono
 have cY:=yq (P:=l.prog) (w:=w) (mg:=mg) (base:=base) BH bm tH nK
 have gi:=Dy (P:=l.prog) (w:=w) (mg:=mg) (base:=base) Ga cY.mono
 have dS:=rM (P:=l.prog) (w:=w) (mg:=mg) (base:=base) vn nK
 have ow:=yr (P:=l.prog) (w:=w) (mg:=mg) (base:=base) BI
 have ki:=rN (P:=l.prog) (w:=w) (mg:=mg) (base:=base) vp dS.mono ow.mono cY.mono gi.mono
 have fN:=wD (P:=l.prog) (w:=w) (mg:=mg) (base:=base) yW bm qJ gi.mono
 have mQ:=wF (P:=l.prog) (w:=w) (mg:=mg) (base:=base) yX cY.mono dS.mono fN.mono
 have kj:=rO (P:=l.prog) (w:=w) (mg:=mg) (base:=base) vq fN.mono ki.mono mQ.mono gi.mono
 have yD:=FJ (P:=l.prog) (w:=w) (mg:=mg) (base:=base) ID kj.mono oA.mono
 have mS:=FN (P:=l.prog) (w:=w) (mg:=mg) (base:=base) IE
 have qQ:=Bf (P:=l.prog) (w:=w) (mg:=mg) (base:=base) En aS cQ.mono mS.mono
 have jt:=qP (P:=l.prog) (w:=w) (mg:=mg) (base:=base) se aS qQ.mono mS.mono
 have g7:=oM (P:=l.prog) (w:=w) (mg:=mg) (base:=base) pV gw.mono
 have ja:=uT (P:=l.prog) (w:=w) (mg:=mg) (base:=base) xh fQ yC.mono g7.mono yD.mono jt.mono
 have dP:=pP (P:=l.prog) (w:=w) (mg:=mg) (base:=base) rm nJ
 have fG:=qR (P:=l.prog) (w:=w) (mg:=mg) (base:=base) sf DL aS dP.mono
 have dU:=wR (P:=l.prog) (w:=w) (mg:=mg) (base:=base) yY
 have iC:=rQ (P:=l.prog) (w:=w) (mg:=mg) (base:=base) vt dU.mono
 have lS:=uW (P:=l.prog) (w:=w) (mg:=mg) (base:=base) xj iC.mono dU.mono
 have kC:=rR (P:=l.prog) (w:=w) (mg:=mg) (base:=base) vz aS nK
 have fX:=uX (P:=l.prog) (w:=w) (mg:=mg) (base:=base) xm aS
 have kB:=rS (P:=l.prog) (w:=w) (mg:=mg) (base:=base) vB
 have gp:=pQ (P:=l.prog) (w:=w) (mg:=mg) (base:=base) rq fX.mono kB.mono
 have lR:=uY (P:=l.prog) (w:=w) (mg:=mg) (base:=base) xo
 have gn:=rT (P:=l.prog) (w:=w) (mg:=mg) (base:=base) vC dU.mono lR.mono
 have ju:=qS (P:=l.prog) (w:=w) (mg:=mg) (base:=base) sj aS gn.mono
 exact(Io (P:=l.prog) (w:=w) (mg:=mg) (base:=base) (tabs:=[bQ,bE,bg,aK,aG]) (fJ:=[aY]) (bE:=bE) (by simp) (bg:=bg) (by simp) (aK:=aK) (by simp) (bQ:=bQ) (by simp) (aG:=aG) (by simp) (aY:=aY) (by simp) Kv aS jr qG bH oj kO fG.mono lS.mono kC.mono gp.mono fX.mono ju.mono ja.mono).mono (by decide)
theorem walk{l:PySem.W.OpenLaw}{q:Program}{loose:List Str}{XP:(Str->Option Value) ->Heap->Prop}{YP:World->Heap->Prop}{d:DefRec}{K:Params->PySem.W.Frag}(hn:l.most=some 63)(hdf:d.params.defaults=[])
  (hY:∀(w:World)(h:Heap),YP w h->(K w.params).In h)(hcl:∀(w:World),PySem.W.kb_classed (K w.params)=true)
  (F:∀(w:World)(mg mb:Str->Option Value)(mean:ExcName->Option Value)(fa:Addr)(h:Heap),(K w.params).In h->PyProof.Rows.Top q (PySem.W.looseW q loose) mean mg mb h->mg d.name=some (.ref fa) ->
   ∃(fd:FuncData)(tabs fJ:List Addr),(∀(s:Shared)(u:Value),BindsTo s fd ⟨[u],[]⟩ [("_law_script",u)])/\(∀T∈tabs++fJ,isCodeTable h T/\h.get? T=some {cls:= .none,data:= .fields #[]})/\(∀T∈tabs,T∉fJ)/\
    ∀base:Heap,(K w.params).In base->base.Ns mainGlobals mg->BM mg base->m8 l.prog w (K w.params) mg base cV 40 fa fd ["_law_script"] (z6 (K w.params) tabs fJ)):
  PySem.W.WalkO q loose XP YP l.row.toRowW d [] (λf vs=>PySem.call f vs):=
 L2.CD (n:=63) (k:=40) (x:= "_law_script") (sp:=z6) hn (by decide) hdf ⟨rfl,by decide,by decide⟩ hY hcl F (λ_ tabs fJ H a ns hl hT hC hS Q hQ=>⟨a,ns,rfl,hS,hl,hT,hC,hQ⟩)
theorem ws:PySem.W.OpenLaw.wellSaid PySem.Challenge.rw_conekin_k17_counts_to=true:=by kernel_rfl
end CM
namespace PySem.W.Fast
def tw5511787373643620465:=0
def tw6302107788555788169:=0
def tw6149017048067002707:=0
def tw6405479173866484475:=0
def tw10211899983312290274:=0
def tw7930904437288082135:=0
def tw6308033334484936824:=0
def tw6959224051635971038:=0
def tw2807062774233249771:=0
def tw15522271819524024301:=0
def tw4181811040257089383:=0
def tw1920964064327580881:=0
def tw2127109846294247129:=0
def tw1712076879108590575:=0
def tw17611924619884920270:=0
def tw16830351958251610784:=0
def tw14604658865959539983:=0
def tw9418601825074994727:=0
def tw7526956183962272863:=0
def tw2290976236437085591:=0
def tw6111723935418824733:=0
def tw10116632319279189596:=0
def tw5935509564330256325:=0
def tw4861485254093626784:=0
def tw10925393755422564005:=0
def tw5745208308568277524:=0
def tw13011856392507061512:=0
def tw9834894078362758738:=0
def tw6574715044847382341:=0
def tw3150800196476152118:=0
def tw6540767113733616918:=0
def tw5242655396865502894:=0
def tw15631479832614180891:=0
def tw6801741854482095562:=0
def tw18060010379272350093:=0
def tw5418091189855548555:=0
def tw14343990582210244158:=0
def tw7664352634363501464:=0
def tw303465960510409423:=0
def tw17442949380911924424:=0
def tw10484659598202345703:=0
def tw4821127250361457684:=0
def tw8958318847890273554:=0
def tw11551419617754947260:=0
def tw15228785214700409243:=0
def tw10099622705239204083:=0
def tw13095405280189529004:=0
def tw6657598714073094248:=0
def tw13234918233253867422:=0
def tw231420417044266609:=0
def tw5697559614942907284:=0
def tw3853877098131249779:=0
def tw2162548221667279267:=0
def tw2133618141422872846:=0
def tw1151083223215498148:=0
def tw8688486254752446572:=0
def tw15878166257434542351:=0
def tw14549718592970326080:=0
def tw16667531799000141501:=0
def tw13812613064073008382:=0
def tw3859175269330077356:=0
def tw8083620480333494283:=0
def tw10817544845059800070:=0
def tw11477247132279835734:=0
def tw14079166350756318876:=0
def tw16296816994092922513:=0
def tw5402584318477967123:=0
def tw531795311104248434:=0
def tw9925328010257449695:=0
def tw5363944775919267889:=0
def tw4738353530302809733:=0
def tw1587364655507059749:=0
def tw9467336225634028065:=0
def tw4703503603637284454:=0
def tw12240122510332096535:=0
def tw10882723191561152876:=0
def tw5898478930977403065:=0
def tw16433587882935347794:=0
def tw5270977975183909837:=0
def tw14606331372870517629:=0
def tw8879796131428903923:=0
def tw2345427312516914724:=0
def tw8291247256929571596:=0
def tw5752182029226939328:=0
def tw7671512829119331492:=0
def tw15077482901646822050:=0
def tw2592999665876952445:=0
def tw17155592728461753101:=0
def tw15317435912957268002:=0
def tw14893964199773816009:=0
def tw14774909405400368787:=0
def tw4485374639900005611:=0
def tw3150462496958586584:=0
def tw401954412560444620:=0
def tw6137259588743667809:=0
def tw4794423087033135911:=0
def tw2857856320553745411:=0
def tw17701755210185304440:=0
def tw72238607422425469:=0
def tw10485383877898452915:=0
def tw11433882764517227314:=0
def tw7316208437636910198:=0
def tw20272732106946877:=0
def tw15360234256326655865:=0
def tw8225703610382445423:=0
def tw4781378253970163703:=0
def tw4430899001373488675:=0
def tw11871914063476424205:=0
def tw3381373024012732216:=0
def tw13202429288638636082:=0
def tw5083525377867958466:=0
def tw16928010555788158837:=0
def tw3883777784719454592:=0
def tw423700296128119707:=0
def tw392363024365805355:=0
def tw2576210181596323844:=0
def tw8963660193494635737:=0
def tw17230115017356821084:=0
def tw2014549212476136230:=0
def tw14915506693547615973:=0
def tw14839201543641901444:=0
def tw11314769504736963821:=0
def tw10408480784048430436:=0
def tw14913252593051695456:=0
def tw10712392191243173573:=0
def tw10793523136649719787:=0
def tw14534129077478295571:=0
def tw9626102215940174272:=0
def tw6069041279155405637:=0
def tw12201170709352274137:=0
def tw11168618128749408201:=0
def tw12620348077615088384:=0
def tw7232350219993793716:=0
def tw2575502779349842823:=0
def tw16231417606044174856:=0
def tw15576342384983814515:=0
def tw15352843726874820378:=0
def tw1294258706511147357:=0
def tw6790074281579308310:=0
def tw14469457941930035909:=0
def tw7764893341712813244:=0
def tw16612685463858596976:=0
def tw12109176787650140574:=0
def tw11711160218242466964:=0
def tw7101894416926040565:=0
def tw5414517422475190022:=0
def tw137586259244029940:=0
def tw9195558405345221513:=0
def tw5361068095312915377:=0
def tw2274177136378697587:=0
def tw1456314597858131123:=0
def tw7848481862828479331:=0
def tw14198803016678827300:=0
def tw6576314423819041721:=0
def tw1756720610962142940:=0
def tw1754417464203993484:=0
def tw15490266093889298733:=0
def tw14203938120987281059:=0
def tw11592155612273545631:=0
def tw1727757072149785842:=0
def tw16365088380535948282:=0
def tw4884798449512978630:=0
def tw11466178914412069101:=0
def tw5639093835497138851:=0
def tw2937237704220528064:=0
def tw9470526668643137610:=0
def tw15832729964336769070:=0
def tw7665925877576647180:=0
def tw12751310929828023148:=0
def tw3961204581588272071:=0
def tw15729090084552259994:=0
def tw12461967328215806730:=0
def tw17033908949699566076:=0
def tw3103731158137282871:=0
def tw3626231486398548374:=0
def tw6288306533546745789:=0
def tw7129106348674250512:=0
def tw12728950653639631296:=0
def tw3187921272888457104:=0
def tw101025221617226789:=0
def tw2032990715132976573:=0
def tw5298389507287544627:=0
def tw2404539065565641014:=0
def tw16263903437612674996:=0
def tw15307812593499224606:=0
def tw11685222683921655062:=0
def tw4146070190971630343:=0
def tw15734168192483975859:=0
def tw18102841757615801383:=0
def tw6815543436357261617:=0
def tw4215782515795349692:=0
def tw16428440314684464375:=0
def tw15723981073981545532:=0
def tw8590480692995171640:=0
def tw4651244315127469768:=0
def tw3227938186090021275:=0
def tw16569491130350539285:=0
def tw6943296363474527005:=0
end PySem.W.Fast
end
open PySem PySem.W PyProof.Rows
set_option maxRecDepth 100000 in
set_option maxHeartbeats 0 in
theorem PySem.Challenge.cw_conekin_k17_counts_to_holds : PySem.Challenge.rw_conekin_k17_counts_to.Holds := by
 w_on;refine PySem.W.holds_law CM.ws λsaid=> ?_;k_head;(case hw=>w_witness2)
 k_fill
 refine CM.walk (l:=PySem.Challenge.rw_conekin_k17_counts_to) rfl rfl (λw h Y=>by first|exact PySem.W.kIn_of Y|exact PySem.W.km_in_of Y) ?cl ?F
 case cl=>
  intro w
  first|kernel_rfl|(trace_state;k_is)
 case F=>
  intro w mg mb mean fa h KX Tp hmg
  refine' CM.all_mk KX Tp hmg ?oN ?jv ?iS ?jx ?vj ?oO ?oQ ?mU ?q8 ?mV ?g8 ?oR ?yH ?oS ?vm ?kD ?oU ?kE ?mW ?mX ?kF ?yI ?yJ ?q9 ?jy ?g9 ?lT ?iT ?jz ?mY ?kG ?lU ?kH ?lV ?kI ?iU ?lW ?kJ ?jA ?z8 ?Eb ?Ec ?Ed ?oV ?rf ?mZ ?ic ?oW ?m5 ?Eg ?ko ?kK ?Eh ?y_bool ?yN ?Ei ?Ej ?ie ?Ek ?rg ?fR ?El ?ap
  (case oN=>exact L2.fnAt)
  (case jv=>exact L2.fnAt)
  (case iS=>exact L2.fnAt)
  (case jx=>exact L2.fnAt)
  (case vj=>exact L2.fnAt)
  (case oO=>exact L2.fnAt)
  (case oQ=>exact L2.fnAt)
  (case mU=>exact L2.fnAt)
  (case q8=>exact L2.fnAt)
  (case mV=>exact L2.fnAt)
  (case g8=>exact L2.fnAt)
  (case oR=>exact L2.fnAt)
  (case yH=>exact L2.fnAt)
  (case oS=>exact L2.fnAt)
  (case vm=>exact L2.fnAt)
  (case kD=>exact L2.fnAt)
  (case oU=>exact L2.fnAt)
  (case kE=>exact L2.fnAt)
  (case mW=>exact L2.fnAt)
  (case mX=>exact L2.fnAt)
  (case kF=>exact L2.fnAt)
  (case yI=>exact L2.fnAt)
  (case yJ=>exact L2.fnAt)
  (case q9=>exact L2.fnAt)
  (case jy=>exact L2.fnAt)
  (case g9=>exact L2.fnAt)
  (case lT=>exact L2.fnAt)
  (case iT=>exact L2.fnAt)
  (case jz=>exact L2.fnAt)
  (case mY=>exact L2.fnAt)
  (case kG=>exact L2.fnAt)
  (case lU=>exact L2.fnAt)
  (case kH=>exact L2.fnAt)
  (case lV=>exact L2.fnAt)
  (case kI=>exact L2.fnAt)
  (case iU=>exact L2.fnAt)
  (case lW=>exact L2.fnAt)
  (case kJ=>exact L2.fnAt)
  (case jA=>exact L2.fnAt)
  (case z8=>k_is);(case Eb=>k_is);(case Ec=>k_is);(case Ed=>k_is)
  (case oV=>rfl)
  (case rf=>rfl)
  (case mZ=>rfl)
  (case ic=>rfl)
  (case oW=>rfl)
  (case m5=>rfl)
  (case Eg=>k_is)
  (case ko=>k_is)
  (case kK=>k_is)
  (case Eh=>k_is)
  (case y_bool=>k_is)
  (case yN=>k_is)
  (case Ei=>k_is)
  (case Ej=>k_is)
  (case ie=>k_is)
  (case Ek=>k_is)
  (case rg=>k_is)
  (case fR=>k_is)
  (case El=>k_is)
  (case ap=>kernel_rfl)
