import PyProof.Rows.All
import Wide.All
import Wide.FinOn
import PyProof.EqAt
import PyProof.EqKinds
import PyProof.TupleCall
import KE.KIsAll
import KE.KTryMore
import KE.KEqDeep
import KE.KEqSeq
import KE.KRegrown
import KE.KSortKey
import KE.KItem
import KE.KNestM
import OpenK.KOwn
import OpenK.KRaise
import OpenK.KWalk
import OpenK.KFacts
import OpenK.KMake
import OpenK.KExp
import OpenK.KDescr
import KE.KLam
import KE.KSortTup
import PyProof.Rows.SortRuns
import PyProof.Rows.RuleM_int
import PyProof.FactsAll.int_0
import PySem.Challenge.RW_conekin_k27_the_basis_leads_there
set_option Elab.async false
set_option linter.all false
set_option maxRecDepth 100000
set_option genSizeOf false
noncomputable section
namespace L2
open PySem PySem.Spec PyProof.Rows
abbrev Key:=Sum Int Str
def Kl:Key->Value->Bool
 | .inl k,v=>Value.isInt k v
 | .inr x,v=>Value.isStrOf x v
def Qg(w:World):Key->Int
 | .inl k=>hashInt k
 | .inr x=>hashStr w x
theorem dZ:∀{k:Key}{v:Value},Kl k v=true->(∃i t,k=Sum.inl i/\v=Value.int i t)∨(∃x t,k=Sum.inr x/\v=Value.str x t)
 | .inl i,v,h=>by
  obtain⟨t,e⟩:=Value.isInt_shape (k:=i) (v:=v) h
  exact .inl ⟨i,t,rfl,e⟩
 | .inr x,v,h=>by
  obtain⟨t,e⟩:=Value.isStrOf_shape (x:=x) (v:=v) h
  exact .inr ⟨x,t,rfl,e⟩
theorem KY(a b:Int):decide ((Sum.inl a:Key)=Sum.inl b)=(a==b):=by
 by_cases e:a=b
 ·subst e;simp
 ·have h:¬(Sum.inl a:Key)=Sum.inl b:=λq=>e (Sum.inl.inj q)
  rw[decide_eq_false h]
  exact(beq_eq_false_iff_ne.mpr e).symm
theorem KZ(a b:Str):decide ((Sum.inr a:Key)=Sum.inr b)=decide (a=b):=by
 by_cases e:a=b
 ·subst e;simp
 ·have h:¬(Sum.inr a:Key)=Sum.inr b:=λq=>e (Sum.inr.inj q)
  rw[decide_eq_false h,decide_eq_false e]
theorem La(a:Int)(b:Str):decide ((Sum.inl a:Key)=Sum.inr b)=false:=decide_eq_false (λq=>nomatch q)
theorem Lb(a:Str)(b:Int):decide ((Sum.inr a:Key)=Sum.inl b)=false:=decide_eq_false (λq=>nomatch q)
def Ce(prog:Program)(w:World):PySem.KeyKind prog w Key where
 is:=Kl
 hash:=Qg w
 inj:=λv a b ha hb=>by
  rcases dZ ha with⟨i,t,rfl,rfl⟩|⟨x,t,rfl,rfl⟩
  ·rcases dZ hb with⟨j,u,rfl,e⟩|⟨y,u,rfl,e⟩
   ·injection e with e1 _;rw[e1]
   ·exact nomatch e
  ·rcases dZ hb with⟨j,u,rfl,e⟩|⟨y,u,rfl,e⟩
   ·exact nomatch e
   ·injection e with e1 _;rw[e1]
 byValue:=λk v h=>by
  rcases dZ h with⟨i,t,rfl,rfl⟩|⟨x,t,rfl,rfl⟩<;>rfl
 pyHash:=λhv h=>by
  rcases dZ hv with⟨i,t,rfl,rfl⟩|⟨x,t,rfl,rfl⟩
  ·exact wpAny_pyHash_int h
  ·exact wpAny_pyHash_str h
 eqBool:=λhu hv h=>by
  rcases dZ hu with⟨i,t,rfl,rfl⟩|⟨x,t,rfl,rfl⟩
  ·rcases dZ hv with⟨j,u,rfl,rfl⟩|⟨y,u,rfl,rfl⟩
   ·rw[KY]at h;exact wpAny_eqBool_int h
   ·rw[La]at h;exact SeqAt.EqAt.int_str i t y u _ _ _ _ h
  ·rcases dZ hv with⟨j,u,rfl,rfl⟩|⟨y,u,rfl,rfl⟩
   ·rw[Lb]at h;exact SeqAt.EqAt.str_int x t j u _ _ _ _ h
   ·rw[KZ]at h;exact wpAny_eqBool_str h
 «strs» :=λk x t v h=>by
  rcases dZ h with⟨i,u,rfl,e⟩|⟨y,u,rfl,e⟩
  ·exact nomatch e
  ·injection e with e1 _
   subst e1
   cases v<;>rfl
inductive V where
 |fZ|bl (b:Bool)|int (i:Int)|str (x:Str)|EV (b:Array UInt8)|MP (b:UInt64)|ref (a:Addr)|ty (n:String)
 deriving DecidableEq
def RelV:V->Value->Prop
 | .fZ,u=>u=Value.none
 | .bl b,u=>u=Value.bool b
 | .int i,u=> ∃t,u=Value.int i t
 | .str x,u=> ∃t,u=Value.str x t
 | .EV b,u=> ∃t,u=Value.bytes b t
 | .MP b,u=> ∃t,u=Value.float b t
 | .ref a,u=>u=Value.ref a
 | .ty n,u=>u=Value.type n
abbrev Vals:List V->List Value->Prop:=Paired RelV
theorem Vals.length{xs:List V}{us:List Value}(r:Vals xs us):xs.length=us.length:=Paired.length r
theorem Vals.get:∀{xs:List V}{us:List Value}{i:Nat}{x:V},Vals xs us->xs[i]?=some x-> ∃u,us[i]?=some u/\RelV x u
 |_,_,_,_,.nil,e=>by simp at e
 |_,_,0,_,.cons r _,e=>by simp at e;subst e;exact⟨_,rfl,r⟩
 |_,_,i+1,x,.cons _ t,e=>by
  obtain⟨u,h1,h2⟩:=Vals.get (i:=i) (x:=x) t (by simpa using e)
  exact⟨u,by simpa using h1,h2⟩
theorem Vals.set{x:V}{u:Value}(r:RelV x u):∀{xs:List V}{us:List Value}(i:Nat),Vals xs us->Vals (xs.set i x) (us.set i u)
 |_,_,_,.nil=> .nil
 |_,_,0,.cons _ t=> .cons r t
 |_,_,i+1,.cons q t=> .cons q (Vals.set r i t)
theorem Vals.append:∀{xs ys:List V}{us ws:List Value},Vals xs us->Vals ys ws->Vals (xs++ys) (us++ws)
 |_,_,_,_,.nil,s=>s
 |_,_,_,_,.cons r t,s=> .cons r (Vals.append t s)
theorem Vals.take:∀{xs:List V}{us:List Value}(n:Nat),Vals xs us->Vals (xs.take n) (us.take n)
 |_,_,0,_=> .nil
 |_,_,_+1,.nil=> .nil
 |_,_,n+1,.cons r t=> .cons r (Vals.take n t)
theorem Vals.drop:∀{xs:List V}{us:List Value}(n:Nat),Vals xs us->Vals (xs.drop n) (us.drop n)
 |_,_,0,r=>r
 |_,_,_+1,.nil=> .nil
 |_,_,n+1,.cons _ t=>Vals.drop n t
def Lc:Option V->Option Value->Prop
 |some v,some u=>RelV v u
 |none,none=>True
 |_,_=>False
def KV{κ:Type}:List (κ×V) ->List (κ×Value) ->Prop:=Paired λ(p:κ×V)(q:κ×Value)=>p.1=q.1/\RelV p.2 q.2
def kV:Key->V
 | .inl i=> .int i
 | .inr x=> .str x
inductive HO where
 |lst(xs:List V)
 |tup(xs:List V)
 |dK(kvs:List (Key×V))|dT (kvs:List (List Key×V))
 |set(S:Int->Bool)(n:Nat)
 |ins(C dx:Addr)(fs:List (Str×V))
 |own(x:Addr)
 |xd(fs:List (Str×V))
 |met(f x:Addr)
 |Qh(lo hi:Int)
 |wR(o:Obj)(u:HO)
 |Ld(ps:Array Value)
 |ext(φ:Heap->Prop)
 |yw
abbrev Hp:=Addr->Option HO
def upd(H:Hp)(a:Addr)(o:HO):Hp:=λb=>if b=a then some o else H b
theorem ao{H:Hp}{a:Addr}{o:HO}:upd H a o a=some o:=by unfold upd;rw[if_pos rfl]
theorem aD{H:Hp}{a b:Addr}{o:HO}(h:b≠a):upd H a o b=H b:=by unfold upd;rw[if_neg h]
theorem eE{H:Hp}{a b:Addr}{o:HO}(h:H a=some o)(h':H b=none):a≠b:=by
 intro e;subst e;rw[h]at h';cases h'
section
variable(P:Program)(w:World)
def eO(H:Hp)(h:Heap)(a:Addr):HO->Prop
 | .lst xs=>xs.length<=sizeLine/\ ∃(its:List Value)(n:Nat),Vals xs its/\h.get? a=some {cls:= .type "list",data:= .seq its.toArray n}
 | .tup xs=>xs.length<=sizeLine/\ ∃its:List Value,Vals xs its/\IsTup h a its.toArray
 | .dK kvs=>kvs.length<=sizeLine/\(a==sysModules)=false/\ ∃vs,KV kvs vs/\h.DictOf (Ce P w) a vs
 | .dT kvs=>kvs.length<=sizeLine/\(a==sysModules)=false/\ ∃xs:List (List Key×Addr×Value),
   Paired (λ(p:List Key×V)(q:List Key×Addr×Value)=>p.1=q.1/\H q.2.1=some (.tup (p.1.map kV))/\RelV p.2 q.2.2) kvs xs/\
   ∃o es ep,h.get? a=some o/\o.ExactDict/\o.data= .dict es ep/\es.toList=xs.map (entryOfKey (tupleKind (Ce P w)))/\(xs.map (·.1)).Nodup
 | .set S n=>h.SetOf (intKind P w) a S n
 | .ins C dx fs=>H dx=some (.own a)/\fs.length<=1000/\dx≠a/\h.get? a=some (PySem.W.instObj C dx)/\
   ∃mA,h.Ns1 dx mA/\(∀f,Lc (fs.lookup f) (mA f))/\PySem.Within mA (fs.map (·.1))
 | .own _=> ∃o,h.get? a=some o
 | .xd fs=> ∃mA,h.Ns1 a mA/\ ∀f,Lc (fs.lookup f) (mA f)
 | .Qh lo hi=> ∃t u v,h.get? a=some {cls:= .type "range",data:= .fields #[.int lo t,.int hi u,.int 1 v]}
 | .wR o u=>h.get? a=some o/\eO H h a u
 | .Ld ps=>h.get? a=some {cls:= .none,data:= .fields ps}
 | .met f x=>h.get? a=some (PySem.W.methodObj (.ref f) (.ref x))
 | .ext φ=>φ h/\(∃o,h.get? a=some o)/\ ∀h1 h2:Heap,φ h1->(∀o,h1.get? a=some o->h2.get? a=some o) ->φ h2
 | .yw=> ∃ps:Array Value,h.get? a=some {cls:= .none,data:= .fields ps}/\TriplesOk ps.toList/\ ∀(pos:Pos)(cv:Value),codeAmong pos ps.toList=some cv->
   ∃(c:Addr)(oc:Obj)(vs:Array Value)(q:Str)(t:Tok),cv= .ref c/\H c=some (.wR oc (.ext λ_=>True))/\oc.data= .fields vs/\vs[1]?=some (.str q t)
def rW(H:Hp)(h:Heap):Prop:=∀a o,H a=some o->eO P w H h a o
end
section
variable{P:Program}{w:World}{H H':Hp}{h h':Heap}{a:Addr}{o:HO}
theorem eO.lt(x:eO P w H h a o):a<h.objs.size:=by
 cases o with
 |lst xs=>obtain⟨_,_,_,_,e⟩:=x;exact Heap.lt_size e
 |tup xs=>obtain⟨_,_,_,p⟩:=x;exact p.lt
 |dK kvs=>obtain⟨_,_,_,_,o,_,_,e,_⟩:=x;exact Heap.lt_size e
 |dT kvs=>obtain⟨_,_,_,_,o,_,_,e,_⟩:=x;exact Heap.lt_size e
 |set S n=>obtain⟨o,_,_,_,e,_⟩:=x;exact Heap.lt_size e
 |ins C dx fs=>obtain⟨_,_,_,e,_⟩:=x;exact Heap.lt_size e
 |own y=>obtain⟨_,e⟩:=x;exact Heap.lt_size e
 |xd fs=>obtain⟨_,⟨_,_,_,e,_⟩,_⟩:=x;exact Heap.lt_size e
 |Qh lo hi=>obtain⟨_,_,_,e⟩:=x;exact Heap.lt_size e
 |wR ob u=>obtain⟨e,_⟩:=x;exact Heap.lt_size e
 |Ld ps=>exact Heap.lt_size (show h.get? a=some _ from x)
 |met f y=>exact Heap.lt_size (show h.get? a=some _ from x)
 |ext φ=>obtain⟨_,⟨_,e⟩,_⟩:=x;exact Heap.lt_size e
 |yw=>obtain⟨_,e,_⟩:=x;exact Heap.lt_size e
theorem Paired.Nk{α β:Type}{F G:α->β->Prop}:∀{l₁:List α}{l₂:List β},Paired F l₁ l₂->(∀a b,F a b->G a b) ->Paired G l₁ l₂
 |_,_,.nil,_=> .nil
 |_,_,.cons r t,f=> .cons (f _ _ r) (Paired.Nk t f)
theorem eO.stay(x:eO P w H h a o)(k:∀b u,(b=a∨H b=some (.own a)) ->h.get? b=some u->h'.get? b=some u)
  (ho:∀b,H b=some (.own a) ->H' b=some (.own a))(ht:∀b xs,H b=some (.tup xs) ->H' b=some (.tup xs))(hz:∀b ob u,H b=some (.wR ob u) ->H' b=some (.wR ob u):=by first|exact λ_ _ _ q=>q|assumption):eO P w H' h' a o:=by
 induction o with
 |lst xs=>obtain⟨z,its,n,r,e⟩:=x;exact⟨z,its,n,r,k _ _ (.inl rfl) e⟩
 |tup xs=>obtain⟨z,its,r,ob,e,c⟩:=x;exact⟨z,its,r,ob,k _ _ (.inl rfl) e,c⟩
 |dK kvs=>obtain⟨z,y,vs,r,ob,es,ep,e,c⟩:=x;exact⟨z,y,vs,r,ob,es,ep,k _ _ (.inl rfl) e,c⟩
 |dT kvs=>
  obtain⟨z,y,xs,r,ob,es,ep,e,c⟩:=x
  exact⟨z,y,xs,Paired.Nk r λp q z=>⟨z.1,ht _ _ z.2.1,z.2.2⟩,ob,es,ep,k _ _ (.inl rfl) e,c⟩
 |set S n=>obtain⟨ob,es,ep,t,e,c⟩:=x;exact⟨ob,es,ep,t,k _ _ (.inl rfl) e,c⟩
 |ins C dx fs=>
  obtain⟨d,z,ne,e,mA,⟨od,es,ep,e2,c⟩,r⟩:=x
  exact⟨ho _ d,z,ne,k _ _ (.inl rfl) e,mA,⟨od,es,ep,k _ _ (.inr d) e2,c⟩,r⟩
 |own y=>obtain⟨ob,e⟩:=x;exact⟨ob,k _ _ (.inl rfl) e⟩
 |xd fs=>obtain⟨mA,⟨od,es,ep,e,c⟩,r⟩:=x;exact⟨mA,⟨od,es,ep,k _ _ (.inl rfl) e,c⟩,r⟩
 |Qh lo hi=>obtain⟨t,u,v,e⟩:=x;exact⟨t,u,v,k _ _ (.inl rfl) e⟩
 |wR ob u ih=>obtain⟨e,q⟩:=x;exact⟨k _ _ (.inl rfl) e,ih q⟩
 |Ld ps=>
  have e:h.get? a=some {cls:= .none,data:= .fields ps}:=x
  show h'.get? a=some {cls:= .none,data:= .fields ps}
  exact k a _ (.inl rfl) e
 |met f y=>
  have e:h.get? a=some (PySem.W.methodObj (.ref f) (.ref y)):=x
  show h'.get? a=some (PySem.W.methodObj (.ref f) (.ref y))
  exact k a _ (.inl rfl) e
 |ext φ=>obtain⟨p,⟨o,e⟩,st⟩:=x;exact⟨st _ _ p λo q=>k _ _ (.inl rfl) q,⟨o,k _ _ (.inl rfl) e⟩,st⟩
 |yw=>obtain⟨ps,e,t,r⟩:=x;exact⟨ps,k _ _ (.inl rfl) e,t,λpos cv q=>let⟨c,oc,vs,q2,t2,e1,e2,e3⟩:=r pos cv q;⟨c,oc,vs,q2,t2,e1,hz _ _ _ e2,e3⟩⟩
theorem rW.lt(x:rW P w H h)(e:H a=some o):a<h.objs.size:=(x a o e).lt
theorem rW.fresh(x:rW P w H h)(e:h.objs.size<=a):H a=none:=by
 cases q:H a with
 |none=>rfl
 |some u=>exact absurd (Nat.lt_of_lt_of_le (x.lt q) e) (Nat.lt_irrefl _)
theorem rW.kept(x:rW P w H h)(k:∀b u,h.get? b=some u->h'.get? b=some u):rW P w H h':=λa o e=>
 (x a o e).stay (λb u _ q=>k b u q) (λ_ q=>q) λ_ _ q=>q
theorem rW.laid(x:rW P w H h)(k:∀b u,h.get? b=some u->h'.get? b=some u)(hp:h.objs.size<=a)(new:eO P w (upd H a o) h' a o):rW P w (upd H a o) h':=λb u e=>by
 have hn:=x.fresh hp
 by_cases hb:b=a
 ·subst hb;rw[ao]at e;cases e;exact new
 ·rw[aD hb]at e
  exact(x b u e).stay (λc v _ q=>k c v q) (λc q=>by rw[aD (eE q hn)];exact q) (λc xs q=>by rw[aD (eE q hn)];exact q) λc ob xs q=>by rw[aD (eE q hn)];exact q
end
def Rd(H:Hp)(a:Addr)(u:HO):Prop:=H a=some u∨ ∃o,H a=some (.wR o u)
theorem Rd.of{H:Hp}{a:Addr}{u:HO}(h:H a=some u):Rd H a u:= .inl h
theorem Rd.ok{P:Program}{w:World}{H:Hp}{h:Heap}{a:Addr}{u:HO}(r:Rd H a u)(x:rW P w H h):eO P w H h a u:=by
 rcases r with r|⟨o,r⟩
 ·exact x a u r
 ·obtain⟨_,q⟩:=x a _ r
  exact q
def Pj:Option HO->Prop
 |some (.lst _)=>True
 |some (.dK _)=>True
 |some (.dT _)=>True
 |some (.set _ _)=>True
 |some (.ins _ _ _)=>True
 |some (.ext _)=>True
 |some .yw=>True
 |_=>False
section
variable{P:Program}{w:World}{H:Hp}{h h':Heap}{x e:Addr}{o':HO}
theorem rW.write(ok:rW P w H h)(mu:Pj (H x))(he:e=x∨H e=some (.own x))(k:∀b u,b≠e->h.get? b=some u->h'.get? b=some u)(MQ:∃u,h'.get? e=some u)
  (new:eO P w (upd H x o') h' x o'):rW P w (upd H x o') h':=λb u q=>by
 have Nl:∀c y,H c=some (.own y) ->c≠x:=λc y r z=>by subst z;rw[r]at mu;exact mu
 have Qi:∀c xs,H c=some (.tup xs) ->c≠x:=λc xs r z=>by subst z;rw[r]at mu;exact mu
 by_cases hb:b=x
 ·subst hb;rw[ao]at q;cases q;exact new
 ·rw[aD hb]at q
  by_cases Le:b=e
  ·have q':H b=some (.own x):=by
    rcases he with z|z
    ·exact absurd (Le.trans z) hb
    ·rw[Le];exact z
   rw[q]at q';cases q'
   obtain⟨v,hv⟩:=MQ
   exact⟨v,by rw[Le];exact hv⟩
  ·refine(ok b u q).stay (λc v hc r=>k c v ?_ r) (λc r=>by rw[aD (Nl c b r)];exact r) (λc xs r=>by rw[aD (Qi c xs r)];exact r) λc ob xs r=>by rw[aD (λz=>by subst z;rw[r]at mu;exact mu)];exact r
   rcases hc with rfl|hc
   ·exact Le
   ·rintro rfl
    rcases he with z|z
    ·exact Nl c b hc z
    ·rw[hc]at z;cases z;exact hb rfl
end
structure Un(fs ex:List Addr)(H H':Hp)(h h':Heap):Prop where
 keep:∀b o,h.get? b=some o->H b=none->b∉fs->b∉ex->h'.get? b=some o
 slot:∀b o,h.get? b=some o->H b=none->b∈fs->b∉ex-> ∃sl,h'.get? b=some {o with slots:=sl}
 free:∀b o,h.get? b=some o->H b=none->b∉ex->H' b=none
 there:∀b o,h.get? b=some o->b∉ex-> ∃o',h'.get? b=some o'
 tups:∀b xs,H b=some (.tup xs) ->H' b=some (.tup xs)
 pZ:∀b o u,H b=some (.wR o u) ->H' b=some (.wR o u)
 rC:∀b ps,H b=some (.Ld ps) -> ∃more,H' b=some (.Ld (ps++more))
section
variable{fs fs' ex ex':List Addr}{H H1 H2:Hp}{h h1 h2 h':Heap}{a x e:Addr}{o:HO}
theorem Un.any(u:Un fs ex H H1 h h1){b:Addr}{ob:Obj}(q:h.get? b=some ob)(n:H b=none)(hx:b∉ex):∃sl,h1.get? b=some {ob with slots:=sl}:=by
 by_cases hb:b∈fs
 ·exact u.slot b ob q n hb hx
 ·exact⟨ob.slots,u.keep b ob q n hb hx⟩
theorem Un.trans(a:Un fs ex H H1 h h1)(b:Un fs ex H1 H2 h1 h2):Un fs ex H H2 h h2 where
 keep:=λc ob q n hc hx=>b.keep c ob (a.keep c ob q n hc hx) (a.free c ob q n hx) hc hx
 slot:=λc ob q n hc hx=>by
  obtain⟨sl,e1⟩:=a.slot c ob q n hc hx
  obtain⟨Qj,e2⟩:=b.slot c _ e1 (a.free c ob q n hx) hc hx
  exact⟨Qj,e2⟩
 free:=λc ob q n hx=>by
  obtain⟨o',e1⟩:=a.there c ob q hx
  exact b.free c o' e1 (a.free c ob q n hx) hx
 there:=λc ob q hx=>by
  obtain⟨o',e1⟩:=a.there c ob q hx
  exact b.there c o' e1 hx
 tups:=λc xs q=>b.tups c xs (a.tups c xs q)
 pZ:=λc ob xs q=>b.pZ c ob xs (a.pZ c ob xs q)
 rC:=λc ps q=>by
  obtain⟨m1,e1⟩:=a.rC c ps q
  obtain⟨m2,e2⟩:=b.rC c _ e1
  exact⟨m1++m2,by rw[e2,Array.append_assoc]⟩
theorem Un.kept(k:∀b u,h.get? b=some u->h'.get? b=some u):Un fs ex H H h h':=
 ⟨λb ob q _ _ _=>k b ob q,λb ob q _ _ _=>⟨ob.slots,k b ob q⟩,λ_ _ _ n _=>n,λb ob q _=>⟨ob,k b ob q⟩,λ_ _ q=>q,λ_ _ _ q=>q,λ_ ps q=>⟨#[],by rw[q];simp⟩⟩
theorem Un.refl:Un fs ex H H h h:=Un.kept λ_ _ q=>q
theorem Un.laid(k:∀b u,h.get? b=some u->h'.get? b=some u)(hp:h.objs.size<=a)(hn:H a=none):Un fs ex H (upd H a o) h h' where
 keep:=λb u q _ _ _=>k b u q
 slot:=λb u q _ _ _=>⟨u.slots,k b u q⟩
 free:=λb u q n _=>by rw[aD (Nat.ne_of_lt (Nat.lt_of_lt_of_le (Heap.lt_size q) hp))];exact n
 there:=λb u q _=>⟨u,k b u q⟩
 tups:=λb xs q=>by rw[aD (eE q hn)];exact q
 pZ:=λb u xs q=>by rw[aD (eE q hn)];exact q
 rC:=λb ps q=>⟨#[],by rw[aD (eE q hn),q];simp⟩
theorem Un.write(mu:Pj (H x))(he:e=x∨H e=some (.own x))(k:∀b u,b≠e->h.get? b=some u->h'.get? b=some u)(MQ:∃u,h'.get? e=some u):Un fs ex H (upd H x o) h h':=by
 have hx:∀b,H b=none->b≠x:=λb n z=>by subst z;rw[n]at mu;exact mu
 have hb:∀b,H b=none->b≠e:=λb n z=>by
  subst z
  rcases he with r|r
  ·exact hx b n r
  ·rw[n]at r;cases r
 have hm:∀b u,H b=some u-> ¬Pj (some u) ->b≠x:=λb u q nm z=>by subst z;rw[q]at mu;exact nm mu
 refine⟨λb u q n _ _=>k b u (hb b n) q,λb u q n _ _=>⟨u.slots,k b u (hb b n) q⟩,λb u q n _=>by rw[aD (hx b n)];exact n,λb u q _=> ?_,
  λb xs q=>by rw[aD (hm b _ q λz=>z)];exact q,λb u xs q=>by rw[aD (hm b _ q λz=>z)];exact q,λb ps q=>⟨#[],by rw[aD (hm b _ q λz=>z),q];simp⟩⟩
 by_cases Le:b=e
 ·subst Le;exact MQ
 ·exact⟨u,k b u Le q⟩
theorem Un.mono(u:Un fs ex H H1 h h1)(hs:∀b∈fs,b∈fs')(hx:∀b∈ex,b∈ex'):Un fs' ex' H H1 h h1:=
 ⟨λb ob q n hb he=>u.keep b ob q n (λz=>hb (hs b z)) λz=>he (hx b z),λ_ _ q n _ he=>u.any q n λz=>he (hx _ z),λb ob q n he=>u.free b ob q n λz=>he (hx b z),λb ob q he=>u.there b ob q λz=>he (hx b z),u.tups,u.pZ,u.rC⟩
end
def Pk(h:Heap)(H:Hp):List Addr:=(List.range h.objs.size).filter λa=>(H a).isSome
def uU(h:Heap)(H:Hp):Heap:=PySem.W.hideAll h (Pk h H)
theorem Dk(h:Heap)(H:Hp):(uU h H).objs.size=h.objs.size:=PySem.W.hideAll_size _ _
theorem EW{h:Heap}{H:Hp}{b:Addr}{o:Obj}(e:h.get? b=some o)(n:H b=none):(uU h H).get? b=some o:=
 PySem.W.hideAll_get _ e λhm=>by
  have q:(H b).isSome=true:=(List.mem_filter.mp hm).2
  rw[n]at q;simp at q
theorem Il{h:Heap}{H:Hp}{b:Addr}{o:Obj}(e:(uU h H).get? b=some o):h.get? b=some o/\H b=none:=by
 have e':h.get? b=some o:=PySem.W.of_hideAll (Pk h H) e
 refine⟨e',?_⟩
 cases q:H b with
 |none=>rfl
 |some x=>
  have hm:b∈Pk h H:=List.mem_filter.mpr ⟨List.mem_range.mpr (Heap.lt_size e'),by simp[q]⟩
  have z:(uU h H).get? b=none:=PySem.W.hideAll_none (Pk h H) hm
  rw[z]at e;cases e
def Im(g h:Heap)(L:Addr):List (Addr×Obj):=(List.range h.objs.size).filterMap λa=>if a=L∨(g.get? a).isSome=true then none else(h.get? a).map λo=>(a,o)
def rest(g h:Heap)(L d:Addr):List (Addr×Obj):=(Im g h L).filter λp=>decide (p.1≠d)
structure Mod(K:PySem.W.Frag)(mg:Str->Option Value)(base:Heap):Prop where
 MR:K.In base
 glob:base.Ns mainGlobals mg
 blt:∃mb,base.Ns builtinsNs mb/\ ∀x:Str,x≠ "__name__" ->mb x=bootBuiltins x
 nolimit:base.NoLimit
structure Cx where
 prog:Program
 w:World
 K:PySem.W.Frag
 mg:Str->Option Value
 base:Heap
 A:Around
 N:List Str
 s₀:Shared
 H₀:Hp
 env:Env
 outer:List Env
 stack:List Env
 ex:List Addr
 fn:Str->Bool
 calm:Bool
 pn:List (Addr×Obj)
 xe:Value->Shared->Prop
def frs(l:List Env):List Addr:=l.filterMap (·.frame)
abbrev Cx.fs(X:Cx):List Addr:=frs X.outer
def Km(sc:Scope)(x:Str):Prop:=sc.names.lookup x=some .local∨sc.names.lookup x=some .cell∨sc.names.lookup x=some .free
def Loc(sc:Scope)(x:Str):Prop:=sc.names.lookup x=some .local∨sc.names.lookup x=some .cell
def Look(env:Env)(h:Heap)(m:Str->Option Value)(x:Str)(u:Value):Prop:=
 (env.kindOf x=some .local/\m x=some u)∨((env.kindOf x=some .cell∨env.kindOf x=some .free)/\ ∃c,env.cells.lookup x=some c/\h.IsCell c (some u))
structure Cx.Ok(X:Cx):Prop where
 mod:Mod X.K X.mg X.base
 kind:X.env.scope.kind= .function
 glob:X.env.globals=mainGlobals
 blt:X.env.builtins=builtinsNs
 above:X.s₀.heap.objs.size<=X.env.locals
 inj:∀x y c,X.env.cells.lookup x=some c->X.env.cells.lookup y=some c->x=y
 has:∀x,(X.env.kindOf x=some .cell∨X.env.kindOf x=some .free) -> ∃c,X.env.cells.lookup x=some c
 Nm:∀x c,X.fn x=true->X.env.cells.lookup x=some c->X.s₀.heap.objs.size<=c
 hd:X.calm=true->X.A.handled=none
 frames:X.A.frames=some X.stack
 stk:X.stack=X.outer∨(X.stack=X.env::X.outer/\X.env.frame=some X.env.locals)
 Ig:∀b∈X.ex,b≠X.env.locals/\ ∀x c,X.env.cells.lookup x=some c->c≠b
 bs:∀b o,X.base.get? b=some o->X.s₀.heap.get? b=some o/\X.H₀ b=none
 Io:X.base.objs.size<=X.s₀.heap.objs.size
 Dl:∀b o,X.base.get? b=some o->b∉X.ex
 yx:∀b∈X.ex,b∉X.fs
 rD:X.s₀.heap.FunFrames X.base X.outer
 MS:∀b∈X.fs,X.H₀ b=none
structure EX(a b:Array GenState):Prop where
 bare:AllBare b
 size:a.size<=b.size
 old:∀k,k<a.size->b[k]?=a[k]?
theorem EX.refl{a:Array GenState}(h:AllBare a):EX a a:=⟨h,Nat.le_refl _,λ_ _=>rfl⟩
theorem EX.trans{a b c:Array GenState}(x:EX a b)(y:EX b c):EX a c:=⟨y.bare,Nat.le_trans x.size y.size,λk h=>(y.old k (Nat.lt_of_lt_of_le h x.size)).trans (x.old k h)⟩
structure Inv(X:Cx)(pins:List (Addr×Obj))(σ:List (Option V))(H:Hp)(s:Shared):Prop where
 ok:X.Ok
 os:s.os=X.s₀.os
 bare:EX X.s₀.gens s.gens
 base:Un X.fs X.ex X.H₀ H X.s₀.heap s.heap
 loc:∃m,s.heap.Ns X.env.locals m/\ ∀(i:Nat)(x:Str)(v:V),X.N[i]?=some x->σ[i]?=some (some v) ->Km X.env.scope x-> ∃u,RelV v u/\Look X.env s.heap m x u
 cell:∀x c,X.env.cells.lookup x=some c-> ∃v,s.heap.IsCell c v
 free:H X.env.locals=none
 lT:∀x c,X.env.cells.lookup x=some c->H c=none
 pin:∀p∈X.pn++pins,s.heap.get? p.1=some p.2/\H p.1=none/\p.1≠X.env.locals/\p.1∉X.fs/\ ∀v,p.2.data≠ .cell v
 hok:rW X.prog X.w H s.heap
 len:σ.length=X.N.length
section
variable{X:Cx}{pins:List (Addr×Obj)}{σ:List (Option V)}{H H':Hp}{s:Shared}{h':Heap}
theorem Cx.Ok.Qk(ok:X.Ok){b:Addr}{o:Obj}(e:X.base.get? b=some o):b∉X.fs:=λhb=>by
 have:=(ok.rD.mem hb).1
 rw[e]at this;cases this
theorem Inv.bs(I:Inv X pins σ H s):∀b o,X.base.get? b=some o->s.heap.get? b=some o/\H b=none:=λb o e=>
 ⟨I.base.keep b o (I.ok.bs b o e).1 (I.ok.bs b o e).2 (I.ok.Qk e) (I.ok.Dl b o e),I.base.free b o (I.ok.bs b o e).1 (I.ok.bs b o e).2 (I.ok.Dl b o e)⟩
theorem Inv.bk(I:Inv X pins σ H s):∀b o,X.base.get? b=some o->s.heap.get? b=some o:=λb o e=>(I.bs b o e).1
theorem Inv.mod(I:Inv X pins σ H s):Mod X.K X.mg X.base:=I.ok.mod
theorem Inv.wU(I:Inv X pins σ H s):X.K.In s.heap:=I.ok.mod.MR.keeps I.bk
theorem Inv.nolimit(I:Inv X pins σ H s):s.heap.NoLimit:=I.ok.mod.nolimit.keeps I.bk
theorem Inv.lt(I:Inv X pins σ H s):X.env.locals<s.heap.objs.size:=let⟨_,hn,_⟩:=I.loc;hn.lt
theorem Inv.sz(I:Inv X pins σ H s):X.s₀.heap.objs.size<=s.heap.objs.size:=Nat.le_trans I.ok.above (Nat.le_of_lt I.lt)
theorem Inv.Nn(I:Inv X pins σ H s){a:Addr}(h:s.heap.objs.size<=a):a∉X.fs:=λhb=>by
 obtain⟨_,o,ho,_⟩:=I.ok.rD.mem hb
 exact absurd (Nat.lt_of_lt_of_le (Heap.lt_size ho) (Nat.le_trans I.sz h)) (Nat.lt_irrefl _)
theorem Inv.Lf(I:Inv X pins σ H s):∀x c,X.env.cells.lookup x=some c->c≠X.env.locals:=λx c e z=>by
 obtain⟨v,o,ho,hd⟩:=I.cell x c e
 obtain⟨m,⟨o',es,ep,ho',hd',_⟩,_⟩:=I.loc
 rw[z,ho']at ho;cases ho;rw[hd']at hd;cases hd
theorem Inv.rD(I:Inv X pins σ H s):s.heap.FunFrames X.base X.outer:=by
 have all:∀(l:List Env),(∀b∈frs l,b∈X.fs) ->X.s₀.heap.FunFrames X.base l->s.heap.FunFrames X.base l:=by
  intro l
  induction l with
  |nil=>intro _ _;trivial
  |cons env r ih=>
   intro hs hl
   obtain⟨hk,⟨L,o,hf,hn,ho,hd⟩,hr⟩:=hl
   have hL:L∈X.fs:=hs L (by unfold frs;rw[List.filterMap_cons,hf];exact List.mem_cons_self)
   obtain⟨sl,e⟩:=I.base.slot L o ho (I.ok.MS L hL) hL λz=>I.ok.yx L z hL
   exact⟨hk,⟨L,_,hf,hn,e,hd⟩,ih (λb hb=>hs b (by unfold frs;rw[List.filterMap_cons,hf];exact List.mem_cons_of_mem _ hb)) hr⟩
 exact all X.outer (λ_ hb=>hb) I.ok.rD
theorem Inv.stack(I:Inv X pins σ H s):s.heap.FunFrames X.base X.stack:=by
 rcases I.ok.stk with e|⟨e,hf⟩
 ·rw[e];exact I.rD
 ·rw[e]
  obtain⟨m,hn,_⟩:=I.loc
  refine .cons (by rw[I.ok.kind];decide) hf hn ?_ I.rD
  exact Heap.get?_none_of_le (Nat.le_trans I.ok.Io I.ok.above)
theorem Inv.su(I:Inv X pins σ H s):∀b∈frs X.stack,b∈X.env.locals::X.fs:=λb hb=>by
 rcases I.ok.stk with e|⟨e,hf⟩
 ·rw[e]at hb;exact List.mem_cons_of_mem _ hb
 ·rw[e]at hb
  unfold frs at hb
  rw[List.filterMap_cons,hf]at hb
  exact hb
theorem Inv.rX(I:Inv X pins σ H s):∀b∈frs X.stack,H b=none:=λb hb=>by
 rcases List.mem_cons.mp (I.su b hb)with e|hb
 ·rw[e];exact I.free
 ·obtain⟨_,o,ho,_⟩:=I.ok.rD.mem hb
  exact I.base.free b o ho (I.ok.MS b hb) λz=>I.ok.yx b z hb
theorem Inv.step{g':Array GenState}{t':Nat}{d':Drawn}{ch:List Addr}(I:Inv X pins σ H s)
  (hch:∀b∈ch,(b∈X.ex∨X.s₀.heap.objs.size<=b)/\b≠X.env.locals/\(∀x c,X.env.cells.lookup x=some c->c≠b)/\ ∀p∈X.pn++pins,p.1≠b)
  (keep:∀b o,b≠X.env.locals->b∉X.fs->b∉ch->s.heap.get? b=some o->H b=none->h'.get? b=some o)
  (slot:∀b o,b≠X.env.locals->b∈X.fs->b∉ch->s.heap.get? b=some o->H b=none-> ∃sl,h'.get? b=some {o with slots:=sl})(free:∀b o,b∉ch->s.heap.get? b=some o->H b=none->H' b=none)
  (there:∀b o,b∉ch->s.heap.get? b=some o-> ∃o',h'.get? b=some o')
  (tups:∀b xs,H b=some (.tup xs) ->H' b=some (.tup xs))(pZ:∀b o u,H b=some (.wR o u) ->H' b=some (.wR o u))(rC:∀b ps,H b=some (.Ld ps) -> ∃more,H' b=some (.Ld (ps++more)))
  (ns:∀m,s.heap.Ns X.env.locals m->h'.Ns X.env.locals m)(hok:rW X.prog X.w H' h')(hg:EX s.gens g'):
  Inv X pins σ H' {s with heap:=h',gens:=g',drawn:=d',toks:=t'}:=by
 have Se:∀b o,X.s₀.heap.get? b=some o->b≠X.env.locals:=λb o e=>Nat.ne_of_lt (Nat.lt_of_lt_of_le (Heap.lt_size e) I.ok.above)
 have MT:∀b o,X.s₀.heap.get? b=some o->b∉X.ex->b∉ch:=λb o e hx hb=>by
  rcases(hch b hb).1 with z|z
  ·exact hx z
  ·exact absurd (Nat.lt_of_lt_of_le (Heap.lt_size e) z) (Nat.lt_irrefl _)
 have cellK:∀x c,X.env.cells.lookup x=some c-> ∀v,s.heap.IsCell c v->h'.IsCell c v:=λx c e v ⟨o,ho,hd⟩=>by
  have Np:c∉ch:=λz=>(hch c z).2.2.1 x c e rfl
  by_cases hc:c∈X.fs
  ·obtain⟨sl,q⟩:=slot c o (I.Lf x c e) hc Np ho (I.lT x c e)
   exact⟨_,q,hd⟩
  ·exact⟨o,keep c o (I.Lf x c e) hc Np ho (I.lT x c e),hd⟩
 refine⟨I.ok,I.os,I.bare.trans hg,⟨λb o e n hb hx=> ?_,λb o e n hb hx=> ?_,λb o e n hx=> ?_,λb o e hx=> ?_,λb xs e=>tups b xs (I.base.tups b xs e),λb o xs e=>pZ b o xs (I.base.pZ b o xs e),λb ps e=> ?_⟩,?_,λx c e=> ?_,?_,λx c e=> ?_,λp hp=> ?_,hok,I.len⟩
 ·exact keep b o (Se b o e) hb (MT b o e hx) (I.base.keep b o e n hb hx) (I.base.free b o e n hx)
 ·obtain⟨sl,e1⟩:=I.base.slot b o e n hb hx
  obtain⟨Qj,e2⟩:=slot b _ (Se b o e) hb (MT b o e hx) e1 (I.base.free b o e n hx)
  exact⟨Qj,e2⟩
 ·obtain⟨o',e1⟩:=I.base.there b o e hx
  exact free b o' (MT b o e hx) e1 (I.base.free b o e n hx)
 ·obtain⟨o',e1⟩:=I.base.there b o e hx
  exact there b o' (MT b o e hx) e1
 ·obtain⟨m1,e1⟩:=I.base.rC b ps e
  obtain⟨m2,e2⟩:=rC b _ e1
  exact⟨m1++m2,by rw[e2,Array.append_assoc]⟩
 ·obtain⟨m,hn,hl⟩:=I.loc
  refine⟨m,ns m hn,λi x v e1 e2 e3=> ?_⟩
  obtain⟨u,r,l⟩:=hl i x v e1 e2 e3
  refine⟨u,r,?_⟩
  rcases l with l|⟨k,c,e,z⟩
  ·exact .inl l
  ·exact .inr ⟨k,c,e,cellK x c e _ z⟩
 ·obtain⟨v,z⟩:=I.cell x c e
  exact⟨v,cellK x c e v z⟩
 ·obtain⟨m,⟨o,_,_,ho,_⟩,_⟩:=I.loc
  exact free _ o (λz=>(hch _ z).2.1 rfl) ho I.free
 ·obtain⟨v,o,ho,hd⟩:=I.cell x c e
  exact free c o (λz=>(hch c z).2.2.1 x c e rfl) ho (I.lT x c e)
 ·obtain⟨e,n,ne,nf,d⟩:=I.pin p hp
  have Np:p.1∉ch:=λz=>(hch p.1 z).2.2.2 p hp rfl
  exact⟨keep p.1 p.2 ne nf Np e n,free p.1 p.2 Np e n,ne,nf,d⟩
theorem Inv.un{t':Nat}(I:Inv X pins σ H s)(u:Un X.fs [] H H' s.heap h')(hok:rW X.prog X.w H' h'):Inv X pins σ H' {s with heap:=h',toks:=t'}:=by
 obtain⟨m,⟨o,es,ep,ho,r⟩,_⟩:=id I.loc
 obtain⟨sl,hL⟩:=u.any ho I.free (by simp)
 exact I.step (g':=s.gens) (d':=s.drawn) (ch:=[]) (λ_ z=>nomatch z) (λb o _ hb _ e n=>u.keep b o e n hb (by simp)) (λb o _ hb _ e n=>u.slot b o e n hb (by simp)) (λb o _ e n=>u.free b o e n (by simp)) (λb o _ e=>u.there b o e (by simp)) u.tups u.pZ u.rC (λm' hm=>by
  obtain⟨o',es',Ql,ho',r'⟩:=hm
  rw[ho]at ho';cases ho'
  exact⟨_,es',Ql,hL,r'⟩) hok (.refl I.bare.bare)
theorem Inv.call{g':Array GenState}{t':Nat}{d':Drawn}{ch:List Addr}(I:Inv X pins σ H s)(u:Un (frs X.stack) ch H H' s.heap h')(hok:rW X.prog X.w H' h')(hg:EX s.gens g')
  (hch:∀b∈ch,(b∈X.ex∨X.s₀.heap.objs.size<=b)/\b≠X.env.locals/\(∀x c,X.env.cells.lookup x=some c->c≠b)/\ ∀p∈X.pn++pins,p.1≠b):
  Inv X pins σ H' {s with heap:=h',gens:=g',drawn:=d',toks:=t'}:=by
 obtain⟨m,⟨o,es,ep,ho,r⟩,_⟩:=id I.loc
 obtain⟨sl,hL⟩:=u.any ho I.free λz=>(hch _ z).2.1 rfl
 exact I.step (ch:=ch) hch (λb o hL hb hc e n=>u.keep b o e n (λz=>(List.mem_cons.mp (I.su b z)).elim hL hb) hc) (λb o _ _ hc e n=>u.any e n hc) (λb o hc e n=>u.free b o e n hc) (λb o hc e=>u.there b o e hc) u.tups u.pZ u.rC (λm' hm=>by
  obtain⟨o',es',Ql,ho',r'⟩:=hm
  rw[ho]at ho';cases ho'
  exact⟨_,es',Ql,hL,r'⟩) hok hg
theorem Inv.turned{t':Nat}{it:Addr}(I:Inv X pins σ H s)(k:∀b o,b≠it->s.heap.get? b=some o->h'.get? b=some o)(hn:H it=none)(hL:it≠X.env.locals)
  (h1:it∈X.ex∨X.s₀.heap.objs.size<=it)(h2:∀x c,X.env.cells.lookup x=some c->c≠it)(h3:∀p∈X.pn++pins,p.1≠it):Inv X pins σ H {s with heap:=h',toks:=t'}:=by
 have Nq:∀b u,H b=some u->b≠it:=λb u e z=>by rw[z,hn]at e;cases e
 refine I.step (g':=s.gens) (d':=s.drawn) (ch:=[it]) (λb hb=> ?_) (λb o _ _ hc e _=>k b o (λz=>hc (by simp[z])) e) (λb o _ _ hc e _=>⟨o.slots,k b o (λz=>hc (by simp[z])) e⟩) (λ_ _ _ _ n=>n)
  (λb o hc e=>⟨o,k b o (λz=>hc (by simp[z])) e⟩) (λ_ _ e=>e) (λ_ _ _ e=>e) (λb ps e=>⟨#[],by rw[e];simp⟩) (λm hm=> ?_) (λb u e=> ?_) (.refl I.bare.bare)
 ·have e:b=it:=by simpa using hb
  subst e
  exact⟨h1,hL,h2,h3⟩
 ·obtain⟨o,es,ep,ho,r⟩:=hm
  exact⟨o,es,ep,k _ o (Ne.symm hL) ho,r⟩
 ·refine(I.hok b u e).stay (λc v hc q=>k c v ?_ q) (λ_ q=>q) λ_ _ q=>q
  rcases hc with z|z
  ·rw[z];exact Nq b u e
  ·exact Nq c _ z
theorem Inv.tok(I:Inv X pins σ H s)(t:Nat):Inv X pins σ H {s with toks:=t}:=I.un (h':=s.heap) (t':=t) Un.refl I.hok
theorem Inv.kept{t':Nat}(I:Inv X pins σ H s)(k:∀b u,s.heap.get? b=some u->h'.get? b=some u):Inv X pins σ H {s with heap:=h',toks:=t'}:=I.un (Un.kept k) (I.hok.kept k)
theorem Inv.laid{a:Addr}{o:HO}{t':Nat}(I:Inv X pins σ H s)(k:∀b u,s.heap.get? b=some u->h'.get? b=some u)(hp:s.heap.objs.size<=a)(new:eO X.prog X.w (upd H a o) h' a o):
  Inv X pins σ (upd H a o) {s with heap:=h',toks:=t'}:=I.un (Un.laid k hp (I.hok.fresh hp)) (I.hok.laid k hp new)
theorem Inv.write{x e:Addr}{o:HO}{t':Nat}(I:Inv X pins σ H s)(mu:Pj (H x))(he:e=x∨H e=some (.own x))(k:∀b u,b≠e->s.heap.get? b=some u->h'.get? b=some u)(MQ:∃u,h'.get? e=some u)
  (new:eO X.prog X.w (upd H x o) h' x o):Inv X pins σ (upd H x o) {s with heap:=h',toks:=t'}:=I.un (Un.write mu he k MQ) (I.hok.write mu he k MQ new)
theorem Inv.ji{oS:List (Addr×Obj)}(I:Inv X pins σ H s)(h:∀p∈oS,s.heap.get? p.1=some p.2/\H p.1=none/\p.1≠X.env.locals/\p.1∉X.fs/\ ∀v,p.2.data≠ .cell v):Inv X oS σ H s:=
 ⟨I.ok,I.os,I.bare,I.base,I.loc,I.cell,I.free,I.lT,λp hp=>(List.mem_append.mp hp).elim (λz=>I.pin p (List.mem_append_left _ z)) (h p),I.hok,I.len⟩
theorem yy{N:List Str}(hN:N.Nodup){i j:Nat}{x:Str}(a:N[i]?=some x)(b:N[j]?=some x):i=j:=by
 obtain⟨h1,e1⟩:=List.getElem?_eq_some_iff.mp a
 obtain⟨h2,e2⟩:=List.getElem?_eq_some_iff.mp b
 exact(List.getElem_inj hN).mp (e1.trans e2.symm)
theorem vJ{M:Model}{A:Around}{E:Value->Shared->Prop}{i:Nat}{x:Str}{v:V}{u:Value}{Q:Unit->Shared->Prop}(I:Inv X pins σ H s)(hN:X.N.Nodup)(hi:X.N[i]?=some x)(hx:Loc X.env.scope x)(r:RelV v u)
  (h:∀s',Inv X pins (σ.set i (some v)) H s'->(∃a,Heap.SameBut a s.heap s'.heap/\(a=X.env.locals∨X.env.cells.lookup x=some a)) ->Q () s')(hf:X.fn x=true∨X.env.scope.names.lookup x=some .local:=by first|exact .inl rfl|exact .inr rfl|assumption):wpAny M A (storeName X.env x u) Q E s:=by
 obtain⟨m,hn,hl⟩:=id I.loc
 have hcls:(X.env.scope.kind== .class||(X.env.scope.kind== .module && X.env.locals !=X.env.globals))=false:=by rw[I.ok.kind];rfl
 have Nr:i<σ.length:=by rw[I.len];exact(List.getElem?_eq_some_iff.mp hi).1
 have Lf:=I.Lf
 have tracked:∀{a:Addr}{h':Heap},(∃o,s.heap.get? a=some o/\H a=none) ->Heap.SameBut a s.heap h'->rW X.prog X.w H h':=λ {a h'} ha hs b ob e=>by
  obtain⟨_,_,hfree⟩:=ha
  refine(I.hok b ob e).stay (λc w' hc q=>(hs.2 c ?_).trans q) (λ_ q=>q) λ_ _ q=>q
  rintro rfl
  rcases hc with rfl|hc
  ·rw[hfree]at e;cases e
  ·rw[hfree]at hc;cases hc
 rcases hx with hk|hk
 ·refine wpAny_storeName_local hk hn (λh' hn' hs=> ?_) hcls
  obtain⟨oL,_,_,Lg,_⟩:=id hn
  refine h _ ⟨I.ok,I.os,I.bare,⟨λb o e n hb hx=> ?_,λb o e n hb hx=> ?_,I.base.free,λb o e hx=> ?_,I.base.tups,I.base.pZ,I.base.rC⟩,⟨_,hn',λj y v' e1 e2 e3=> ?_⟩,λy c e=> ?_,I.free,I.lT,λp hp=> ?_,tracked ⟨oL,Lg,I.free⟩ hs,by simpa using I.len⟩ ⟨_,hs,.inl rfl⟩
  ·exact(hs.2 b (Nat.ne_of_lt (Nat.lt_of_lt_of_le (Heap.lt_size e) I.ok.above))).trans (I.base.keep b o e n hb hx)
  ·obtain⟨sl,e1⟩:=I.base.slot b o e n hb hx
   exact⟨sl,(hs.2 b (Nat.ne_of_lt (Nat.lt_of_lt_of_le (Heap.lt_size e) I.ok.above))).trans e1⟩
  ·obtain⟨o',e1⟩:=I.base.there b o e hx
   exact⟨o',(hs.2 b (Nat.ne_of_lt (Nat.lt_of_lt_of_le (Heap.lt_size e) I.ok.above))).trans e1⟩
  ·by_cases hj:j=i
   ·subst hj
    rw[hi]at e1;cases e1
    rw[List.getElem?_set_self Nr]at e2
    cases e2
    exact⟨u,r,.inl ⟨hk,by simp⟩⟩
   ·rw[List.getElem?_set_ne (Ne.symm hj)]at e2
    obtain⟨u',r',q⟩:=hl j y v' e1 e2 e3
    refine⟨u',r',?_⟩
    rcases q with⟨k,e⟩|⟨k,c,e,z⟩
    ·refine .inl ⟨k,?_⟩
     have:y≠x:=λe=>hj (yy hN e1 (e▸hi))
     simp[this,e]
    ·exact .inr ⟨k,c,e,z.sameBut hs (Lf y c e)⟩
  ·obtain⟨w',z⟩:=I.cell y c e
   exact⟨w',z.sameBut hs (Lf y c e)⟩
  ·obtain⟨e,n,ne,nf,d⟩:=I.pin p hp
   exact⟨(hs.2 p.1 ne).trans e,n,ne,nf,d⟩
 ·have hfn:X.fn x=true:=by
   rcases hf with z|z
   ·exact z
   ·rw[z]at hk;cases hk
  obtain⟨c,hc⟩:=I.ok.has x (.inl hk)
  obtain⟨w',z⟩:=I.cell x c hc
  refine wpAny_storeName_cell I.ok.kind hk hc z (λh' hc' hs=> ?_)
  obtain⟨oc,hoc,Qm⟩:=id z
  refine h {s with heap:=h'} ⟨I.ok,I.os,I.bare,⟨λb o e n hb hx=> ?_,λb o e n hb hx=> ?_,I.base.free,λb o e hx=> ?_,I.base.tups,I.base.pZ,I.base.rC⟩,⟨m,hn.sameBut hs (Ne.symm (Lf x c hc)),λj y v' e1 e2 e3=> ?_⟩,λy c' e=> ?_,I.free,I.lT,λp hp=> ?_,tracked ⟨oc,hoc,I.lT x c hc⟩ hs,by simpa using I.len⟩ ⟨c,hs,.inr hc⟩
  ·exact(hs.2 b (Nat.ne_of_lt (Nat.lt_of_lt_of_le (Heap.lt_size e) (I.ok.Nm x c hfn hc)))).trans (I.base.keep b o e n hb hx)
  ·obtain⟨sl,e1⟩:=I.base.slot b o e n hb hx
   exact⟨sl,(hs.2 b (Nat.ne_of_lt (Nat.lt_of_lt_of_le (Heap.lt_size e) (I.ok.Nm x c hfn hc)))).trans e1⟩
  ·obtain⟨o',e1⟩:=I.base.there b o e hx
   exact⟨o',(hs.2 b (Nat.ne_of_lt (Nat.lt_of_lt_of_le (Heap.lt_size e) (I.ok.Nm x c hfn hc)))).trans e1⟩
  ·by_cases hj:j=i
   ·subst hj
    rw[hi]at e1;cases e1
    rw[List.getElem?_set_self Nr]at e2
    cases e2
    exact⟨u,r,.inr ⟨.inl hk,c,hc,hc'⟩⟩
   ·rw[List.getElem?_set_ne (Ne.symm hj)]at e2
    obtain⟨u',r',q⟩:=hl j y v' e1 e2 e3
    refine⟨u',r',?_⟩
    rcases q with q|⟨k,c',e,z'⟩
    ·exact .inl q
    ·refine .inr ⟨k,c',e,z'.sameBut hs ?_⟩
     rintro rfl
     exact hj (yy hN e1 (I.ok.inj _ _ _ e hc▸hi))
  ·by_cases hcc:c'=c
   ·subst hcc;exact⟨_,hc'⟩
   ·obtain⟨w2,z2⟩:=I.cell y c' e
    exact⟨w2,z2.sameBut hs hcc⟩
  ·obtain⟨e,n,ne,nf,d⟩:=I.pin p hp
   refine⟨(hs.2 p.1 ?_).trans e,n,ne,nf,d⟩
   intro q
   rw[q,hoc]at e
   have q':oc=p.2:=Option.some.inj e
   exact d w' (by rw[<-q'];exact Qm)
theorem jv{M:Model}{A:Around}{E:Value->Shared->Prop}{i:Nat}{x:Str}{v:V}{u:Value}{Q:Unit->Shared->Prop}(I:Inv X pins σ H s)(hN:X.N.Nodup)(hi:X.N[i]?=some x)(hx:Loc X.env.scope x)(r:RelV v u)
  (h:∀s',Inv X pins (σ.set i (some v)) H s'->Q () s')(hf:X.fn x=true∨X.env.scope.names.lookup x=some .local:=by first|exact .inl rfl|exact .inr rfl|assumption):wpAny M A (storeName X.env x u) Q E s:=
 vJ I hN hi hx r (λs' I' _=>h s' I') hf
theorem Inv.EY{s':Shared}{ch:List Addr}(I:Inv X pins σ H s)(ho:s'.os=s.os)(u:Un (frs X.stack) ch H H' s.heap s'.heap)(hok:rW X.prog X.w H' s'.heap)(hg:EX s.gens s'.gens)
  (hch:∀b∈ch,(b∈X.ex∨X.s₀.heap.objs.size<=b)/\b≠X.env.locals/\(∀x c,X.env.cells.lookup x=some c->c≠b)/\ ∀p∈X.pn++pins,p.1≠b):Inv X pins σ H' s':=by
 obtain⟨h',g',d',t',o'⟩:=s'
 have e:o'=s.os:=ho
 subst e
 exact I.call (g':=g') (t':=t') (d':=d') u hok hg hch
end
abbrev XK:=Value->Option Addr->Hp->Prop
abbrev St:=List (Option V)
abbrev VK:=V->Hp->Prop
abbrev TE:=St->Hp->VK->Prop
abbrev TT:=St->Hp->(Bool->Hp->Prop) ->Prop
abbrev TA:=St->Hp->(List V->Hp->Prop) ->Prop
structure Ends where
 nx:St->Hp->Prop
 rt:VK
 bk:St->Hp->Prop:=λ_ _=>False
 ct:St->Hp->Prop:=λ_ _=>False
abbrev TS:=Ends->St->Hp->Prop
def EP(X:Cx)(pins:List (Addr×Obj))(σ:St)(Q:VK)(u:Value)(s':Shared):Prop:=∃v H',Inv X pins σ H' s'/\RelV v u/\Q v H'
def TP(X:Cx)(pins:List (Addr×Obj))(σ:St)(Q:Bool->Hp->Prop)(b:Bool)(s':Shared):Prop:=∃H',Inv X pins σ H' s'/\Q b H'
def AP(X:Cx)(pins:List (Addr×Obj))(σ:St)(Q:List V->Hp->Prop)(us:List Value)(s':Shared):Prop:=∃vs H',Inv X pins σ H' s'/\Vals vs us/\Q vs H'
def SP(X:Cx)(pins:List (Addr×Obj))(D:Ends)(f:Flow)(s':Shared):Prop:=
 match f with
 | .next=> ∃σ' H',Inv X pins σ' H' s'/\D.nx σ' H'
 | .brk=> ∃σ' H',Inv X pins σ' H' s'/\D.bk σ' H'
 | .cont=> ∃σ' H',Inv X pins σ' H' s'/\D.ct σ' H'
 | .ret u=> ∃v σ' H',Inv X pins σ' H' s'/\RelV v u/\D.rt v H'
def PE(X:Cx)(e:Expr)(t:TE):Prop:=
 ∀(pins:List (Addr×Obj))(s:Shared)(σ:St)(H:Hp)(Q:VK),Inv X pins σ H s->t σ H Q->wpAny (model X.prog X.w) X.A (eval e X.env) (EP X pins σ Q) X.xe s
def PT(X:Cx)(e:Expr)(t:TT):Prop:=
 ∀(pins:List (Addr×Obj))(s:Shared)(σ:St)(H:Hp)(Q:Bool->Hp->Prop),Inv X pins σ H s->t σ H Q->wpAny (model X.prog X.w) X.A (isTrue e X.env (eval e X.env)) (TP X pins σ Q) X.xe s
def PW(X:Cx)(e:Expr)(t:TT):Prop:=
 ∀(whole:Sem Value)(pins:List (Addr×Obj))(s:Shared)(σ:St)(H:Hp)(Q:Bool->Hp->Prop),Inv X pins σ H s->t σ H Q->wpAny (model X.prog X.w) X.A (isTrue e X.env whole) (TP X pins σ Q) X.xe s
theorem PW.pt{X:Cx}{e:Expr}{t:TT}(h:PW X e t):PT X e t:=h _
def PA(X:Cx)(es:List Expr)(t:TA):Prop:=
 ∀(pos:Pos)(pins:List (Addr×Obj))(s:Shared)(σ:St)(H:Hp)(Q:List V->Hp->Prop),Inv X pins σ H s->t σ H Q->wpAny (model X.prog X.w) X.A (spliced (backTo pos (starEach es X.env))) (AP X pins σ Q) X.xe s
def PS(X:Cx)(st:Stmt)(t:TS):Prop:=
 ∀(pins:List (Addr×Obj))(s:Shared)(σ:St)(H:Hp)(D:Ends),Inv X pins σ H s->t D σ H->wpAny (model X.prog X.w) X.A (exec st X.env) (SP X pins D) X.xe s
def wV(X:Cx)(st:List Stmt)(t:TS):Prop:=
 ∀(pins:List (Addr×Obj))(s:Shared)(σ:St)(H:Hp)(D:Ends),Inv X pins σ H s->t D σ H->wpAny (model X.prog X.w) X.A (execs st X.env) (SP X pins D) X.xe s
theorem fP{α:Type}{t:Sem α}{Q Q':α->Shared->Prop}{M:Model}{A:Around}{E:Value->Shared->Prop}{s:Shared}(h:wpAny M A t Q E s)(hQ:∀a s,Q a s->Q' a s):wpAny M A t Q' E s:=wpAny_mono h hQ λ_ _ x=>x
section
variable{X:Cx}
inductive Qn(σ:St)(i:Nat)(H:Hp)(Q:VK):Prop
 |mk(v:V)(e:σ[i]?=some (some v))(q:Q v H)
def bK(i:Nat):TE:=λσ H Q=>Qn σ i H Q
def tC(v:V):TE:=λ_ H Q=>Q v H
theorem Lh{i:Nat}{x:Str}{pos:Pos}(hN:X.N[i]?=some x)(hv:Km X.env.scope x)(hd:(x==("__debug__":Str))=false:=by decide)(hcd:(x==("__classdict__":Str))=false:=by decide):PE X (.Name x pos) (bK i):=by
 intro pins s σ H Q I h
 obtain⟨v,e,h⟩:=h
 obtain⟨m,hn,hl⟩:=I.loc
 obtain⟨u,r,l⟩:=hl i x v hN e hv
 have fin:EP X pins σ Q u s:=⟨v,H,I,r,h⟩
 rcases l with⟨hk,hm⟩|⟨hk,c,hc,hcell⟩
 ·exact wpAny_Name (wpAny_loadName_local I.ok.kind hk hn hm fin) hd
 ·rcases hk with hk|hk
  ·exact wpAny_Name (wpAny_loadName_cell I.ok.kind hk hc hcell fin) hd
  ·exact wpAny_Name (wpAny_loadName_free I.ok.kind hk hc hcell fin hcd) hd
theorem ah{i j pos}:PE X (.Constant (.int i) j pos) (tC (.int i)):=λ_ _ _ H _ I h=>wpAny_Constant_int ⟨.int i,H,I.tok _,⟨_,rfl⟩,h⟩
theorem lZ{b j pos}:PE X (.Constant (.bool b) j pos) (tC (.bl b)):=λ_ _ _ H _ I h=>Constant_bool ⟨.bl b,H,I,rfl,h⟩
theorem p5{j pos}:PE X (.Constant .none j pos) (tC .fZ):=λ_ _ _ H _ I h=>Constant_none ⟨.fZ,H,I,rfl,h⟩
def Gl(X:Cx)(x:Str):Prop:=X.env.kindOf x=some .globalImplicit
theorem Cf{E:Value->Shared->Prop}{pins:List (Addr×Obj)}{s:Shared}{σ:St}{H:Hp}{x:Str}{u:Value}{pos:Pos}{Q:Value->Shared->Prop}(I:Inv X pins σ H s)(hg:Gl X x)(hm:X.mg x=some u)(h:Q u s)
  (hd:(x==("__debug__":Str))=false:=by decide):wpAny (model X.prog X.w) X.A (eval (.Name x pos) X.env) Q E s:=
 Calls.Name_function_global I.ok.kind hg (Calls.loadGlobal_global (by rw[I.ok.glob];exact I.mod.glob.keeps I.bk) hm h) hd
theorem kX{E:Value->Shared->Prop}{pins:List (Addr×Obj)}{s:Shared}{σ:St}{H:Hp}{x:Str}{u:Value}{pos:Pos}{Q:Value->Shared->Prop}(I:Inv X pins σ H s)(hg:Gl X x)(hm:X.mg x=none)(hv:bootBuiltins x=some u)(h:Q u s)
  (hn:x≠ "__name__":=by decide)(hd:(x==("__debug__":Str))=false:=by decide):wpAny (model X.prog X.w) X.A (eval (.Name x pos) X.env) Q E s:=by
 obtain⟨mb,h1,h2⟩:=I.mod.blt
 exact Calls.Name_function_global I.ok.kind hg (Calls.loadGlobal_builtin (by rw[I.ok.glob];exact I.mod.glob.keeps I.bk) hm (by rw[I.ok.blt];exact h1.keeps I.bk) ((h2 x hn).trans hv) h) hd
theorem Ip{x:Str}{v:V}{u:Value}{pos:Pos}(hg:Gl X x)(hm:X.mg x=some u)(r:RelV v u)(hd:(x==("__debug__":Str))=false:=by decide):PE X (.Name x pos) (tC v):=
 λ_ _ _ H _ I h=>Cf I hg hm ⟨v,H,I,r,h⟩ hd
theorem jU{x:Str}{v:V}{u:Value}{pos:Pos}(hg:Gl X x)(hm:X.mg x=none)(hv:bootBuiltins x=some u)(r:RelV v u)(hn:x≠ "__name__":=by decide)(hd:(x==("__debug__":Str))=false:=by decide):PE X (.Name x pos) (tC v):=
 λ_ _ _ H _ I h=>kX I hg hm hv ⟨v,H,I,r,h⟩ hn hd
variable{a b:Expr}{ta tb:TE}{pos:Pos}
inductive Sf(x:V)(Q:Bool->Prop):Prop
 |mk(k:Bool)(e:x= .bl k)(q:Q k)
def tB(t:TE):TT:=λσ H Q=>t σ H λx H1=>Sf x λc=>Q c H1
theorem gY{e:Expr}{t:TE}(h:PE X e t)(he:∀whole,isTrue e X.env whole=(do let v<-whole;standAt e.pos;holding [v] (truthy v)):=by intro _;rfl):PT X e (tB t):=by
 intro pins s σ H Q I hw
 refine isTrue_plain (fP (h pins s σ H _ I hw) λv s1 ⟨x,H1,I1,r1,q1⟩=> ?_) (he _)
 obtain⟨d,rfl,q⟩:=q1
 cases r1
 exact wpAny_truthy_bool ⟨H1,I1,q⟩
variable{tA Pn:TT}{rest:List Expr}
def Qo(t u:TT):TT:=λσ H Q=>t σ H λc H1=>if c=true then u σ H1 Q else Q false H1
def Sh(t u:TT):TT:=λσ H Q=>t σ H λc H1=>if c=true then Q true H1 else u σ H1 Q
def Nt(t:TT):TT:=λσ H Q=>t σ H λc H1=>Q (!c) H1
theorem Cg(ha:PT X a tA):PW X (.BoolOp .And [a] pos) tA:=by
 intro wh pins s σ H Q I h
 refine isTrue_and (fP (ha pins s σ H Q I h) λc s1 e=> ?_)
 cases c with
 |true=>exact isTrue_and_nil e
 |false=>exact e
theorem nE(ha:PT X a tA):PW X (.BoolOp .Or [a] pos) tA:=by
 intro wh pins s σ H Q I h
 refine isTrue_or (fP (ha pins s σ H Q I h) λc s1 e=> ?_)
 cases c with
 |false=>exact isTrue_or_nil e
 |true=>exact e
theorem EZ(ha:PT X a tA)(hb:PW X (.BoolOp .And (b::rest) pos) Pn):PW X (.BoolOp .And (a::b::rest) pos) (Qo tA Pn):=by
 intro wh pins s σ H Q I h
 refine isTrue_and (fP (ha pins s σ H _ I h) λc s1 ⟨H1,I1,q1⟩=> ?_)
 cases c with
 |true=>exact hb wh pins s1 σ H1 Q I1 q1
 |false=>exact⟨H1,I1,q1⟩
theorem qW(ha:PT X a tA)(hb:PW X (.BoolOp .Or (b::rest) pos) Pn):PW X (.BoolOp .Or (a::b::rest) pos) (Sh tA Pn):=by
 intro wh pins s σ H Q I h
 refine isTrue_or (fP (ha pins s σ H _ I h) λc s1 ⟨H1,I1,q1⟩=> ?_)
 cases c with
 |true=>exact⟨H1,I1,q1⟩
 |false=>exact hb wh pins s1 σ H1 Q I1 q1
theorem l6(ha:PT X a tA):PT X (.UnaryOp .Not a pos) (Nt tA):=by
 intro pins s σ H Q I h
 exact isTrue_not (ha pins s σ H (λc H1=>Q (!c) H1) I h)
def Nu(ta tb:TE):TE:=λσ H Q=>ta σ H λx H1=> ∃c,x= .bl c/\if c=true then tb σ H1 Q else Q (.bl false) H1
def Nv(ta:TE):TE:=λσ H Q=>ta σ H λx H1=> ∃c,x= .bl c/\Q (.bl (!c)) H1
theorem sy{op}{t:TE}(h:PE X a t):PE X (.BoolOp op [a] pos) t:=λpins s σ H Q I hw=>BoolOp_one (h pins s σ H Q I hw)
theorem sE(ha:PE X a ta)(hb:PE X (.BoolOp .And (b::rest) pos) tb):PE X (.BoolOp .And (a::b::rest) pos) (Nu ta tb):=by
 intro pins s σ H Q I h
 refine BoolOp_and (fP (ha pins s σ H _ I h) λv s1 ⟨x,H1,I1,r1,q1⟩=> ?_)
 obtain⟨c,rfl,q1⟩:=q1
 cases r1
 refine wpAny_truthy_bool ?_
 cases c with
 |true=>exact hb pins s1 σ H1 Q I1 q1
 |false=>exact⟨.bl false,H1,I1,rfl,q1⟩
theorem Li(ha:PE X a ta):PE X (.UnaryOp .Not a pos) (Nv ta):=by
 intro pins s σ H Q I h
 refine UnaryOp_ (fP (ha pins s σ H _ I h) λv s1 ⟨x,H1,I1,r1,q1⟩=> ?_)
 obtain⟨c,rfl,q1⟩:=q1
 cases r1
 exact not_of (wpAny_truthy_bool ⟨.bl (!c),H1,I1,rfl,q1⟩)
def Uk(t:TT)(ta tb:TE):TE:=λσ H Q=>t σ H λc H1=>if c=true then ta σ H1 Q else tb σ H1 Q
theorem Fb{c:Expr}(hc:PT X c tA)(ha:PE X a ta)(hb:PE X b tb):PE X (.IfExp c a b pos) (Uk tA ta tb):=by
 intro pins s σ H Q I h
 refine wpAny_IfExp (fP (hc pins s σ H _ I h) λd s1 ⟨H1,I1,q1⟩=> ?_)
 cases d with
 |true=>exact ha pins s1 σ H1 Q I1 q1
 |false=>exact hb pins s1 σ H1 Q I1 q1
end
def aW(K:PySem.W.Frag)(H:Hp)(a:Addr)(xs:List V):Prop:=
 Rd H a (.lst xs)∨
  ∃(o:Obj)(its:Array Value)(n:Nat),K.lookup a=some o/\o.cls= .type "list"/\o.dict=none/\o.data= .seq its n/\its.size<=sizeLine/\Vals xs its.toList
def m8(K:PySem.W.Frag)(H:Hp)(a:Addr)(xs:List V):Prop:=
 Rd H a (.tup xs)∨
  ∃(o:Obj)(its:Array Value)(n:Nat),K.lookup a=some o/\o.cls= .type "tuple"/\o.data= .seq its n/\its.size<=sizeLine/\Vals xs its.toList
def Qp:Value->Option V
 | .none=>some .fZ
 | .bool b=>some (.bl b)
 | .int i _=>some (.int i)
 | .str x _=>some (.str x)
 | .bytes b _=>some (.EV b)
 | .float b _=>some (.MP b)
 | .ref a=>some (.ref a)
 | .type n=>some (.ty n)
 |_=>none
theorem RelV.abs{x:V}{u:Value}(r:RelV x u):Qp u=some x:=by
 cases x with
 |fZ=>cases r;rfl
 |bl _=>cases r;rfl
 |int _=>obtain⟨t,rfl⟩:=r;rfl
 |str _=>obtain⟨t,rfl⟩:=r;rfl
 |EV _=>obtain⟨t,rfl⟩:=r;rfl
 |MP _=>obtain⟨t,rfl⟩:=r;rfl
 |ref _=>cases r;rfl
 |ty _=>cases r;rfl
theorem RelV.inj{x y:V}{u:Value}(r:RelV x u)(q:RelV y u):x=y:=Option.some.inj (r.abs.symm.trans q.abs)
theorem Vals.inj:∀{xs ys:List V}{us:List Value},Vals xs us->Vals ys us->xs=ys
 |_,_,_,.nil,.nil=>rfl
 |_,_,_,.cons r t,.cons r' t'=>by rw[r.inj r',Vals.inj t t']
section
variable{X:Cx}{pins:List (Addr×Obj)}{σ:St}{H:Hp}{s:Shared}{a:Addr}{xs ys:List V}
theorem aW.of{K:PySem.W.Frag}(h:H a=some (.lst xs)):aW K H a xs:= .inl (.inl h)
theorem m8.of{K:PySem.W.Frag}(h:H a=some (.tup xs)):m8 K H a xs:= .inl (.inl h)
theorem Inv.list(I:Inv X pins σ H s)(h:aW X.K H a xs):∃its:List Value,Vals xs its/\PlainL s.heap a its.toArray/\xs.length<=sizeLine:=by
 rcases h with h|⟨o,its,n,hk,hc,hd,hs,hz,r⟩
 ·obtain⟨z,its,n,r,e⟩:=h.ok I.hok
  exact⟨its,r,⟨_,n,e,rfl,rfl,rfl⟩,z⟩
 ·refine⟨its.toList,r,⟨o,n,I.wU a o hk,hc,hd,by simpa using hs⟩,?_⟩
  have e:=r.length
  simp only[Array.length_toList]at e
  omega
theorem Inv.tuple(I:Inv X pins σ H s)(h:m8 X.K H a xs):∃its:List Value,Vals xs its/\IsTup s.heap a its.toArray/\xs.length<=sizeLine:=by
 rcases h with h|⟨o,its,n,hk,hc,hs,hz,r⟩
 ·obtain⟨z,its,r,p⟩:=h.ok I.hok
  exact⟨its,r,p,z⟩
 ·refine⟨its.toList,r,⟨o,I.wU a o hk,hc,n,by simpa using hs⟩,?_⟩
  have e:=r.length
  simp only[Array.length_toList]at e
  omega
theorem Inv.sI(I:Inv X pins σ H s)(h:aW X.K H a xs)(h':aW X.K H a ys):xs=ys:=by
 obtain⟨its,r,⟨o,n,e,_,_,d⟩,_⟩:=I.list h
 obtain⟨its',r',⟨o',n',e',_,_,d'⟩,_⟩:=I.list h'
 rw[e]at e';cases e'
 rw[d]at d'
 injection d' with d1 _
 have:its=its':=by simpa using congrArg Array.toList d1
 subst this
 exact r.inj r'
end
abbrev Cx.uV(X:Cx)(E:Value->Shared->Prop):Cx:={X with xe:=E}
abbrev Cx.ER(X:Cx):Cx:=X.uV λ_ _=>False
theorem Cx.Ok.uV{X:Cx}(ok:X.Ok)(E:Value->Shared->Prop):(X.uV E).Ok:=
 ⟨ok.mod,ok.kind,ok.glob,ok.blt,ok.above,ok.inj,ok.has,ok.Nm,ok.hd,ok.frames,ok.stk,ok.Ig,ok.bs,ok.Io,ok.Dl,ok.yx,ok.rD,ok.MS⟩
theorem Cx.Ok.l7{X:Cx}{E:Value->Shared->Prop}(ok:(X.uV E).Ok):X.Ok:=
 ⟨ok.mod,ok.kind,ok.glob,ok.blt,ok.above,ok.inj,ok.has,ok.Nm,ok.hd,ok.frames,ok.stk,ok.Ig,ok.bs,ok.Io,ok.Dl,ok.yx,ok.rD,ok.MS⟩
section
variable{X:Cx}{pins:List (Addr×Obj)}{σ:St}{H:Hp}{s:Shared}{E:Value->Shared->Prop}
theorem Inv.uV(I:Inv X pins σ H s)(E:Value->Shared->Prop):Inv (X.uV E) pins σ H s:=⟨I.ok.uV E,I.os,I.bare,I.base,I.loc,I.cell,I.free,I.lT,I.pin,I.hok,I.len⟩
theorem Inv.l7(I:Inv (X.uV E) pins σ H s):Inv X pins σ H s:=⟨I.ok.l7,I.os,I.bare,I.base,I.loc,I.cell,I.free,I.lT,I.pin,I.hok,I.len⟩
theorem SP.l7{D:Ends}{f:Flow}{s':Shared}(h:SP (X.uV E) pins D f s'):SP X pins D f s':=by
 cases f with
 |next=>obtain⟨σ',H',I,q⟩:=h;exact⟨σ',H',I.l7,q⟩
 |brk=>obtain⟨σ',H',I,q⟩:=h;exact⟨σ',H',I.l7,q⟩
 |cont=>obtain⟨σ',H',I,q⟩:=h;exact⟨σ',H',I.l7,q⟩
 |ret u=>obtain⟨v,σ',H',I,r,q⟩:=h;exact⟨v,σ',H',I.l7,r,q⟩
theorem wV.ER{st:List Stmt}{t:TS}(h:wV X.ER st t):wV X st t:=λpins s σ H D I hw=>
 wpAny_mono (h pins s σ H D (I.uV _) hw) (λ_ _ q=>q.l7) λ_ _ z=>False.elim z
end
section
variable{X:Cx}{st:Stmt}{rest:List Stmt}{t u:TS}{e:Expr}{te:TE}{pos:Pos}
def Kn:TS:=λD σ H=>D.nx σ H
def Ai(t u:TS):TS:=λD σ H=>t {D with nx:=u D} σ H
theorem Iq:wV X [] Kn:=λ_ _ σ H _ I h=>wpAny_execs_nil ⟨σ,H,I,h⟩
theorem Fc(h1:PS X st t)(h2:wV X rest u):wV X (st::rest) (Ai t u):=by
 intro pins s σ H D I h
 refine wpAny_execs_cons (fP (h1 pins s σ H {D with nx:=u D} I h) λf s1 q=> ?_)
 cases f with
 |next=>
  obtain⟨σ',H',I',q⟩:=q
  exact h2 pins s1 σ' H' D I' q
 |ret v=>exact q
 |brk=>exact q
 |cont=>exact q
theorem cX(h1:PS X st t):wV X [st] t:=by
 intro pins s σ H D I h
 refine wpAny_execs_cons (fP (h1 pins s σ H D I h) λf s1 q=> ?_)
 cases f with
 |next=>exact wpAny_execs_nil q
 |ret v=>exact q
 |brk=>exact q
 |cont=>exact q
def Lj:TS:=λD σ H=>D.bk σ H
theorem Fd:PS X (.Break pos) Lj:=λ_ _ σ H _ I h=>wpAny_Break ⟨σ,H,I,h⟩
theorem Inv.quiet{pins:List (Addr×Obj)}{σ:St}{H:Hp}{s:Shared}(I:Inv X pins σ H s):interactive X.env=false:=by simp[interactive,I.ok.kind]
def Nx(te:TE):TS:=λD σ H=>te σ H λ_ H1=>D.nx σ H1
theorem rY(he:PE X e te)(hs:swapsWith e none pos.line X.env=pure false:=by rfl):PS X (.Expr e pos) (Nx te):=by
 intro pins s σ H D I h
 exact wpAny_Expr_any (fP (he pins s σ H _ I h) λv s1 ⟨x,H1,I1,r1,q1⟩=>⟨σ,H1,I1,q1⟩) I.quiet hs
def Ny(te:TE):TS:=λD σ H=>te σ H D.rt
theorem aT(he:PE X e te):PS X (.Return (some e) pos) (Ny te):=by
 intro pins s σ H D I h
 exact wpAny_Return_some (fP (he pins s σ H _ I h) λv s1 ⟨x,H1,I1,r1,q1⟩=>⟨x,σ,H1,I1,r1,q1⟩)
def Nz(c:TT)(t u:TS):TS:=λD σ H=>c σ H λb H1=>if b=true then t D σ H1 else u D σ H1
theorem NC{c:Expr}{a b:List Stmt}{tc:TT}(hc:PT X c tc)(ha:wV X a t)(hb:wV X b u):PS X (.If c a b pos) (Nz tc t u):=by
 intro pins s σ H D I h
 refine wpAny_If (fP (hc pins s σ H _ I h) λd s1 ⟨H1,I1,q1⟩=> ?_)
 cases d with
 |true=>exact ha pins s1 σ H1 D I1 q1
 |false=>exact hb pins s1 σ H1 D I1 q1
def Lk:TS:=λ_ _ _=>False
theorem yz:PS X st Lk:=λ_ _ _ _ _ _ h=>h.elim
end
abbrev TG:=V->St->Hp->(St->Hp->Prop) ->Prop
abbrev Ir:=List V->St->Hp->(St->Hp->Prop) ->Prop
def PG(X:Cx)(target:Expr)(t:TG):Prop:=
 ∀(pins:List (Addr×Obj))(s:Shared)(σ:St)(H:Hp)(v:V)(u:Value)(Q:St->Hp->Prop),Inv X pins σ H s->RelV v u->t v σ H Q->
  wpAny (model X.prog X.w) X.A (assign target X.env u) (λ_ s'=> ∃σ' H',Inv X pins σ' H' s'/\Q σ' H') X.xe s
def ND(X:Cx)(ts:List Expr)(t:Ir):Prop:=
 ∀(pins:List (Addr×Obj))(s:Shared)(σ:St)(H:Hp)(vs:List V)(us:List Value)(Q:St->Hp->Prop),Inv X pins σ H s->Vals vs us->t vs σ H Q->
  wpAny (model X.prog X.w) X.A (assignInOrder ((assignEach ts X.env).map (·.2)) us) (λ_ s'=> ∃σ' H',Inv X pins σ' H' s'/\Q σ' H') X.xe s
abbrev Ll:=V->V->V->Hp->(Hp->Prop) ->Prop
def NF(X:Cx)(t:Ll):Prop:=
 ∀(pins:List (Addr×Obj))(s:Shared)(σ:St)(H:Hp)(o i v:V)(ov iv u:Value)(Q:Hp->Prop),Inv X pins σ H s->RelV o ov->RelV i iv->RelV v u->t o i v H Q->
  wpAny (model X.prog X.w) X.A (setItem ov iv u) (λ_ s'=> ∃H',Inv X pins σ H' s'/\Q H') X.xe s
section
variable{X:Cx}{pos:Pos}
def cO(i:Nat):TG:=λv σ H Q=>Q (σ.set i (some v)) H
theorem aH{i:Nat}{x:Str}(hN:X.N.Nodup)(hi:X.N[i]?=some x)(hx:Loc X.env.scope x)(hf:X.fn x=true∨X.env.scope.names.lookup x=some .local:=by first|exact .inl rfl|exact .inr rfl|assumption):PG X (.Name x pos) (cO i):=by
 intro pins s σ H v u Q I r h
 exact wpAny_assign_Name (jv I hN hi hx r (λs' I'=>⟨_,H,I',h⟩) hf)
def NG:Ir:=λvs σ H Q=>vs=[]/\Q σ H
inductive NH(vs:List V)(Q:V->List V->Prop):Prop
 |mk(v:V)(r:List V)(e:vs=v::r)(q:Q v r)
def Fe(t:TG)(u:Ir):Ir:=λvs σ H Q=>NH vs λv r=>t v σ H λσ1 H1=>u r σ1 H1 Q
theorem dO:ND X [] NG:=by
 intro pins s σ H vs us Q I r h
 obtain⟨e,h⟩:=h
 subst e
 cases r
 exact assignInOrder_nil ⟨σ,H,I,h⟩
theorem aG{e:Expr}{es:List Expr}{t:TG}{u:Ir}(h1:PG X e t)(h2:ND X es u)
  (hs:(assignEach (e::es) X.env).map (·.2)=assign e X.env::(assignEach es X.env).map (·.2):=by rfl):ND X (e::es) (Fe t u):=by
 intro pins s σ H vs us Q I r h
 obtain⟨v,vr,e1,h⟩:=h
 subst e1
 cases r with
 |cons r rr=>
  rw[hs]
  refine assignInOrder_cons (fP (h1 pins s σ H _ _ _ I r h) λ_ s1 ⟨σ1,H1,I1,q1⟩=> ?_)
  exact h2 pins s1 σ1 H1 _ _ Q I1 rr q1
inductive Qq(K:PySem.W.Frag)(n:Nat)(v:V)(H:Hp)(Q:List V->Prop):Prop
 |mk(a:Addr)(xs:List V)(e:v= .ref a)(s:m8 K H a xs)(l:xs.length=n)(q:Q xs)
def NI(K:PySem.W.Frag)(n:Nat)(t:Ir):TG:=λv σ H Q=>Qq K n v H λxs=>t xs σ H Q
theorem kY{es:List Expr}{k:Nat}{t:Ir}{n:Nat}(hc:X.calm=true)(h:ND X es t)
  (hn:(assignEach es X.env).length=n:=by rfl)(hst:(assignEach es X.env).findIdx? (·.1)=none:=by rfl):PG X (.Tuple es k pos) (NI X.K n t):=by
 intro pins s σ H v u Q I r hw
 obtain⟨a,xs,e1,hq,hl,hw⟩:=hw
 subst e1
 cases r
 obtain⟨its,rv,ht,hz⟩:=I.tuple hq
 refine assign_Tuple_tuple (I.ok.hd hc) ht (by simp[hn,<-hl,rv.length]) hst λh' hx=> ?_
 have I1:Inv X pins σ H {s with heap:=h'}:=I.kept (t':=s.toks) λb o e=>hx b o (Nat.ne_of_lt (Heap.lt_size e)) e
 exact h pins _ σ H xs _ Q I1 (by simpa using rv) hw
def Qs(to ti:TE)(t:Ll):TG:=λv σ H Q=>to σ H λo H1=>ti σ H1 λi H2=>t o i v H2 λH3=>Q σ H3
theorem p6{o i:Expr}{to ti:TE}{t:Ll}(ho:PE X o to)(hi:PE X i ti)(hs:NF X t)
  (ha:∀v,assign (.Subscript o i pos) X.env v=(do
   let ov<-holding [v] (eval o X.env)
   let iv<-holding [v,ov] (eval i X.env)
   standAt pos
   holding [v,ov,iv] (setItem ov iv v)
   release [v,ov,iv] []):=by intro _;rfl):PG X (.Subscript o i pos) (Qs to ti t):=by
 intro pins s σ H v u Q I r h
 rw[ha]
 refine wpAny_bind (wpAny_holding (fP (ho pins s σ H _ I h) λov s1 ⟨x,H1,I1,r1,q1⟩=> ?_))
 refine wpAny_bind (wpAny_holding (fP (hi pins s1 σ H1 _ I1 q1) λiv s2 ⟨y,H2,I2,r2,q2⟩=> ?_))
 refine wpAny_bind (wpAny_standAt (wpAny_bind (wpAny_holding (fP (hs pins s2 σ H2 x y v ov iv u _ I2 r1 r2 r q2) λ_ s3 ⟨H3,I3,q3⟩=> ?_))))
 exact wpAny_release ⟨σ,H3,I3,q3⟩
def yC(te:TE)(g:TG):TS:=λD σ H=>te σ H λx H1=>g x σ H1 D.nx
theorem gp{tg e:Expr}{te:TE}{g:TG}(he:PE X e te)(hg:PG X tg g)(hs:swapsWithSole [tg] e pos.line X.env=pure false:=by rfl)(hw:swappedStores [tg] e X.env=pure none:=by rfl)
  (h1:(assignEach [tg] X.env).map (·.2)=[assign tg X.env]:=by rfl):PS X (.Assign [tg] e pos) (yC te g):=by
 intro pins s σ H D I h
 refine wpAny_Assign_stores (fP (he pins s σ H _ I h) λv s1 ⟨x,H1,I1,r1,q1⟩=> ?_) hs hw
 rw[h1]
 exact fP (hg pins s1 σ H1 x v _ I1 r1 q1) λ_ s2 q=>q
theorem aU{i:Nat}{x:Str}{e:Expr}{te:TE}{pos':Pos}(hN:X.N.Nodup)(hi:X.N[i]?=some x)(hx:Loc X.env.scope x)(he:PE X e te)(hs:swapsWith e (some (.Name x pos')) pos.line X.env=pure false:=by rfl)(hf:X.fn x=true∨X.env.scope.names.lookup x=some .local:=by first|exact .inl rfl|exact .inr rfl|assumption):
  PS X (.Assign [.Name x pos'] e pos) (yC te (cO i)):=by
 intro pins s σ H D I h
 refine wpAny_Assign_Name (fP (he pins s σ H _ I h) λv s1 ⟨y,H1,I1,r1,q1⟩=> ?_) hs
 exact jv I1 hN hi hx r1 (λs2 I2=>⟨_,H1,I2,q1⟩) hf
def Qt(i j:Nat)(ta:TA):TS:=λD σ H=>ta σ H λvs H1=> ∃v w,vs=[v,w]/\D.nx ((σ.set i (some v)).set j (some w)) H1
theorem sJ{i j:Nat}{x y:Str}{a b:Expr}{ta:TA}{px py pt:Pos}{kt k2 Lm}(hc:X.calm=true)(hN:X.N.Nodup)(hi:X.N[i]?=some x)(hj:X.N[j]?=some y)(hij:i≠j)
  (hx:X.env.scope.names.lookup x=some .local)(hy:X.env.scope.names.lookup y=some .local)(ha:PA X [a,b] ta)
  (hw:swappedStores [.Tuple [.Name x px,.Name y py] kt pt] (.Tuple [a,b] k2 Lm) X.env=pure (some [x,y]))
  (hs:swapsWithSole [.Tuple [.Name x px,.Name y py] kt pt] (.Tuple [a,b] k2 Lm) pos.line X.env=pure false:=by rfl):
  PS X (.Assign [.Tuple [.Name x px,.Name y py] kt pt] (.Tuple [a,b] k2 Lm) pos) (Qt i j ta):=by
 intro pins s σ H D I h
 rw[exec_Assign_arm]
 refine wpAny_bind (wpAny_standAt ?_)
 rw[hs]
 refine wpAny_bind (wpAny_pure ?_)
 rw[if_neg (by decide)]
 refine wpAny_bind (Tuple_ (fP (ha _ pins s σ H _ I h) λus s1 ⟨vs,H1,I1,r1,q1⟩=> ?_))
 obtain⟨v,w,e1,q1⟩:=q1
 subst e1
 obtain⟨u1,u2,rfl,rv,rw'⟩:∃u1 u2,us=[u1,u2]/\RelV v u1/\RelV w u2:=by
  cases r1 with
  |cons p q=>
   cases q with
   |cons p' q'=>
    cases q'
    exact⟨_,_,rfl,p,p'⟩
 refine wpAny_newObj_type ?_ (by show 2<=sizeLine;decide)
 have I2:Inv X pins σ H1 {s1 with heap:=s1.heap.push {cls:= .type "tuple",data:= .seq [u1,u2].toArray}}:=I1.kept (t':=s1.toks) λb o e=>Heap.get?_push_of_some _ e
 rw[hw]
 refine wpAny_bind (wpAny_pure ?_)
 show wpAny (model X.prog X.w) X.A (do rule "assign.swapped-stores";let items<-unpackItems (.ref s1.heap.objs.size) 2 none;assignInOrder [λv=>bindName X.env y v,λv=>bindName X.env x v] items.reverse;pure Flow.next) _ _ _
 refine wpAny_bind (wpAny_rule (wpAny_bind (unpackItems_tuple (items:= #[u1,u2]) (I.ok.hd hc) (IsTup.new s1.heap _) λh' hx'=> ?_)))
 have I3:=I2.kept (h':=h') (t':=s1.toks) λb o e=>hx' b o (Nat.ne_of_lt (Heap.lt_size e)) e
 show wpAny _ _ (assignInOrder [λv=>bindName X.env y v,λv=>bindName X.env x v] [u2,u1]>>=λ_=>pure Flow.next) _ _ _
 refine wpAny_bind (assignInOrder_cons (wpAny_bindName (jv I3 hN hj (.inl hy) rw' (λs2 I4=> ?_) (.inr hy))))
 refine assignInOrder_cons (wpAny_bindName (jv I4 hN hi (.inl hx) rv (λs3 I5=>assignInOrder_nil (wpAny_pure ?_)) (.inr hx)))
 rw[List.set_comm _ _ (Ne.symm hij)]at I5
 exact⟨_,H1,I5,q1⟩
end
section
variable{X:Cx}{pos:Pos}
def Ff(c:TT)(tb:TS):TS:=λD σ H=> ∃W:Nat->St->Hp->Prop,(∃m,W m σ H)/\ ∀m σ H,W m σ H->
 c σ H λb H1=>if b=true then ∃N:St->Hp->Prop,(∀σ' H',N σ' H'-> ∃m',m'<m/\W m' σ' H')/\tb {D with nx:=N,ct:=N,bk:=D.nx} σ H1 else D.nx σ H1
theorem sM{c:Expr}{body:List Stmt}{tc:TT}{tb:TS}(hp:PassesOwn (model X.prog X.w) X.A X.env X.xe)(hc:PT X c tc)(hb:wV X body tb):PS X (.While c body [] pos) (Ff tc tb):=by
 intro pins s σ H D I h
 obtain⟨W,⟨m0,w0⟩,turn⟩:=h
 refine wpAny_While (codeAny_whileLoop (λn s'=> ∃σ' H',Inv X pins σ' H' s'/\W n σ' H') ?_ m0 ⟨σ,H,I,w0⟩)
 rintro n s1 ⟨σ1,H1,I1,w1⟩
 refine wpAny_passesOwn hp (fP (hc pins s1 σ1 H1 _ I1 (turn n σ1 H1 w1)) λb s2 ⟨H2,I2,q2⟩=> ?_)
 cases b with
 |true=>
  obtain⟨N,hN,q2⟩:=q2
  rw[if_pos rfl]
  refine wpAny_passesOwn hp (fP (hb pins s2 σ1 H2 _ I2 q2) λf s3 q3=> ?_)
  cases f with
  |next=>
   obtain⟨σ3,H3,I3,n3⟩:=q3
   obtain⟨m',hm,w3⟩:=hN σ3 H3 n3
   exact⟨m',hm,σ3,H3,I3,w3⟩
  |cont=>
   obtain⟨σ3,H3,I3,n3⟩:=q3
   obtain⟨m',hm,w3⟩:=hN σ3 H3 n3
   exact⟨m',hm,σ3,H3,I3,w3⟩
  |brk=>exact q3
  |ret v=>exact q3
 |false=>
  rw[if_neg Bool.false_ne_true]
  exact wpAny_execs_nil ⟨σ1,H2,I2,q2⟩
end
structure It where
 go:Nat->Hp->Prop
 yt:Nat->Hp->V->Hp->Prop
 stop:Nat->Hp->Prop
def eV(X:Cx)(pins:List (Addr×Obj))(H:Hp)(b:Addr):Prop:=
 H b=none/\b≠X.env.locals/\b∉X.fs/\(b∈X.ex∨X.s₀.heap.objs.size<=b)/\(∀x c,X.env.cells.lookup x=some c->c≠b)/\ ∀p∈X.pn++pins,p.1≠b
theorem Inv.Dm{X:Cx}{pins:List (Addr×Obj)}{σ:St}{H H':Hp}{s:Shared}{b:Addr}(I:Inv X pins σ H s)(hb:s.heap.objs.size<=b)(hn:H' b=none):eV X pins H' b:=by
 refine⟨hn,Nat.ne_of_gt (Nat.lt_of_lt_of_le I.lt hb),I.Nn hb,.inr (Nat.le_trans I.sz hb),λx c e z=> ?_,λp hp z=> ?_⟩
 ·obtain⟨v,q⟩:=I.cell x c e
  exact absurd (Nat.lt_of_lt_of_le q.lt (by rw[z];exact hb)) (Nat.lt_irrefl _)
 ·exact absurd (Nat.lt_of_lt_of_le (Heap.lt_size (I.pin p hp).1) (by rw[z];exact hb)) (Nat.lt_irrefl _)
structure Turn(P:Program)(w:World)(K:PySem.W.Frag)(tg:Expr)(J:It)(fp:List Addr)(it:Addr)(tn:Nat->Heap->Prop):Prop where
 mem:it∈fp
 obj:∀i h,tn i h-> ∀b∈fp,∃o,h.get? b=some o/\ ∀v,o.data≠ .cell v
 keep:∀i h h',tn i h->(∀b∈fp,∀o,h.get? b=some o->h'.get? b=some o) ->tn i h'
 item:∀(X:Cx),X.prog=P->X.w=w->X.K=K->X.calm=true-> ∀(i:Nat)(pins:List (Addr×Obj))(s:Shared)(σ:St)(H:Hp)(E:Value->Shared->Prop),Inv X pins σ H s->(∀b∈fp,eV X pins H b) ->tn i s.heap->J.go i H->
  wpAny (model P w) X.A (pyNext (.ref it)) (λr s1=> ∃u,r=some u/\
   wpAny (model P w) X.A (letOwnedTupleGo tg (.ref it) u) (λ_ s2=> ∃x H',Inv X pins σ H' s2/\RelV x u/\J.yt i H x H'/\tn (i+1) s2.heap/\ ∀b∈fp,H' b=none) E s1) E s
 done:∀(X:Cx),X.prog=P->X.w=w->X.K=K->X.calm=true-> ∀(i:Nat)(pins:List (Addr×Obj))(s:Shared)(σ:St)(H:Hp)(E:Value->Shared->Prop),Inv X pins σ H s->(∀b∈fp,eV X pins H b) ->tn i s.heap->J.stop i H->
  wpAny (model P w) X.A (pyNext (.ref it)) (λr s1=>r=none/\Inv X pins σ H s1) E s
 self:∀(A:Around)(i:Nat)(s:Shared)(Q:Value->Shared->Prop)(E:Value->Shared->Prop),tn i s.heap->Q (.ref it) s->wpAny (model P w) A (pyIter (.ref it)) Q E s
abbrev TI:=St->Hp->(It->Hp->Prop) ->Prop
def Sj(X:Cx)(pins:List (Addr×Obj))(σ:St)(tg:Expr)(R:It->Hp->Prop)(itv:Value)(s2:Shared):Prop:=
 ∃(it:Addr)(fp:List Addr)(tn:Nat->Heap->Prop)(J:It)(H':Hp),itv= .ref it/\Inv X pins σ H' s2/\Turn X.prog X.w X.K tg J fp it tn/\tn 0 s2.heap/\(∀b∈fp,eV X pins H' b)/\R J H'
def PI(X:Cx)(tg iter:Expr)(wi:TI):Prop:=
 ∀(pins:List (Addr×Obj))(s:Shared)(σ:St)(H:Hp)(R:It->Hp->Prop),Inv X pins σ H s->wi σ H R->
  wpAny (model X.prog X.w) X.A (eval iter X.env) (λv s1=>wpAny (model X.prog X.w) X.A (pyIter v) (Sj X pins σ tg R) X.xe s1) X.xe s
theorem Ko{M:Model}{A:Around}{E:Value->Shared->Prop}{s:Shared}{tg:Expr}{it:Addr}{u:Value}{o:Obj}{n:String}{vs:Array Value}{Q:Unit->Shared->Prop}(ho:s.heap.get? it=some o)(hc:o.cls= .type n)(hd:o.data= .fields vs)
  (hn: ["enumerate","zip","dict_itemiterator","dict_reverseitemiterator","odict_iterator","itertools.zip_longest","itertools.pairwise"].contains n=false)(hQ:Q () s):wpAny M A (letOwnedTupleGo tg (.ref it) u) Q E s:=by
 unfold letOwnedTupleGo
 cases tg<;>first
  |exact wpAny_pure hQ
  |(cases u<;>first
    |exact wpAny_pure hQ
    |(refine wpAny_bind (wpAny_load ho ?_)
      rw[hc,hd]
      show wpAny M A (if(["enumerate","zip","dict_itemiterator","dict_reverseitemiterator","odict_iterator","itertools.zip_longest","itertools.pairwise"].contains n && vs[0]?==some (rawInt _))=true then _ else _) Q E s
      rw[if_neg (by intro h;rw[hn,Bool.false_and]at h;cases h)]
      exact wpAny_pure hQ))
def Iu(K:PySem.W.Frag)(a:Addr):It:=
 ⟨λi H=> ∃xs x,aW K H a xs/\xs[i]?=some x,λi H x H'=>H'=H/\ ∀xs,aW K H a xs->xs[i]?=some x,λi H=> ∃xs,aW K H a xs/\xs.length<=i⟩
def Ih(lo:Int)(n:Nat):It:=⟨λi _=>i<n,λi H x H'=>H'=H/\x= .int (lo+i),λi _=>n<=i⟩
theorem Dn{P:Program}{w:World}{K:PySem.W.Frag}{tg:Expr}(a it:Addr):Turn P w K tg (Iu K a) [it] it (λi h=>h.IsListIter it a i) where
 mem:=by simp
 obj:=λi h st b hb=>by
  have e:b=it:=by simpa using hb
  subst e
  obtain⟨o,e,c,d⟩:=st
  exact⟨o,e,λv z=>by rw[d]at z;cases z⟩
 keep:=λi h h' st k=>st.at λo e=>k it (by simp) o e
 item:=by
  intro X hP hw hK hc i pins s σ H E I hf st hg
  subst hP hw hK
  obtain⟨xs,x,hq,hx⟩:=hg
  obtain⟨its,rv,p,hz⟩:=I.list hq
  obtain⟨u,hu,ru⟩:=rv.get hx
  obtain⟨f0,f1,f2,f3,f4,f5⟩:=hf it (by simp)
  refine wpAny_pyNext_list_item st p.isList (x:=u) (by simpa using hu) λh' st' sb=> ?_
  have I1:Inv X pins σ H {s with heap:=h'}:=I.turned (t':=s.toks) (λb o hb e=>(sb.2 b hb).trans e) f0 f1 f3 f4 f5
  obtain⟨o,e,c,d⟩:=id st'
  exact⟨u,rfl,Ko (s:={s with heap:=h'}) e c d (by decide) ⟨x,H,I1,ru,⟨rfl,λys hy=>by rw[I.sI hy hq];exact hx⟩,st',λb hb=>(hf b hb).1⟩⟩
 done:=by
  intro X hP hw hK hc i pins s σ H E I hf st hg
  subst hP hw hK
  obtain⟨xs,hq,hx⟩:=hg
  obtain⟨its,rv,p,hz⟩:=I.list hq
  obtain⟨f0,f1,f2,f3,f4,f5⟩:=hf it (by simp)
  have hl:=rv.length
  exact wpAny_pyNext_list_end (I.ok.hd hc) st p.isList (by simp;omega) λh' eb=>⟨rfl,I.turned (t':=s.toks) (λb o hb e=>eb b o hb e) f0 f1 f3 f4 f5⟩
 self:=λ_ _ _ _ _ st h=>wpAny_pyIter_listiter st h
theorem Aj{P:Program}{w:World}{K:PySem.W.Frag}{tg:Expr}(it:Addr)(lo:Int)(n:Nat):Turn P w K tg (Ih lo n) [it] it (λi h=>IsRangeIter h it (lo+(i:Nat)*1) ((n:Int) - (i:Nat)) 1) where
 mem:=by simp
 obj:=λi h st b hb=>by
  have e:b=it:=by simpa using hb
  subst e
  exact⟨_,st,λv z=>by
   have z':Data.fields _=Data.cell v:=z
   cases z'⟩
 keep:=λi h h' st k=>k it (by simp) _ st
 item:=by
  intro X hP hw hK hc i pins s σ H E I hf st hg
  subst hP hw hK
  obtain⟨f0,f1,f2,f3,f4,f5⟩:=hf it (by simp)
  have W:=Walks.range (prog:=X.prog) (w:=X.w) (I.ok.hd hc) it lo 1 n
  refine W.item i s _ _ hg st λv h' tk hv st' kk=> ?_
  obtain⟨t,rfl⟩:=hv
  have I1:Inv X pins σ H {s with heap:=h',toks:=tk}:=I.turned (λb o hb e=>kk b o (by simpa using hb) e) f0 f1 f3 f4 f5
  refine⟨_,rfl,Ko (s:={s with heap:=h',toks:=tk}) (n:= "range_iterator") st' rfl rfl (by decide) ⟨.int (lo+i),H,I1,⟨t,?_⟩,⟨rfl,rfl⟩,st',λb hb=>(hf b hb).1⟩⟩
  rw[Int.mul_one]
 done:=by
  intro X hP hw hK hc i pins s σ H E I hf st hg
  subst hP hw hK
  obtain⟨f0,f1,f2,f3,f4,f5⟩:=hf it (by simp)
  exact wpAny_pyNext_range_end (I.ok.hd hc) st (by have:n<=i:=hg;omega) λh' eb=>⟨rfl,I.turned (t':=s.toks) (λb o hb e=>eb b o hb e) f0 f1 f3 f4 f5⟩
 self:=λ_ _ _ _ _ st h=>wpAny_pyIter_rangeiter st h
section
variable{X:Cx}{tg:Expr}
def Fg(K:PySem.W.Frag)(tl:TE):TI:=λσ H R=>tl σ H λx H1=> ∃a,x= .ref a/\(∃xs,aW K H1 a xs)/\R (Iu K a) H1
theorem eW{l:Expr}{tl:TE}(hl:PE X l tl):PI X tg l (Fg X.K tl):=by
 intro pins s σ H R I h
 refine fP (hl pins s σ H _ I h) λv s1 ⟨x,H1,I1,r1,q1⟩=> ?_
 obtain⟨a,e,⟨xs,hq⟩,q⟩:=q1
 subst e
 cases r1
 obtain⟨its,rv,p,hz⟩:=I1.list hq
 refine wpAny_pyIter_list p.isList ?_
 refine⟨s1.heap.objs.size,[s1.heap.objs.size],_,_,H1,rfl,I1.kept (t':=s1.toks) λb o e=>Heap.get?_push_of_some _ e,Dn a _,⟨_,Heap.get?_push_size _ rfl,rfl,rfl⟩,λb hb=> ?_,q⟩
 have e:b=s1.heap.objs.size:=by simpa using hb
 subst e
 exact I1.Dm (Nat.le_refl _) (I1.hok.fresh (Nat.le_refl _))
theorem yD{pins:List (Addr×Obj)}{σ:St}{H:Hp}{s:Shared}{R:It->Hp->Prop}{E:Value->Shared->Prop}{lo hi:Int}{t u v:Tok}{tk:Nat}(I:Inv X pins σ H s)(h1: -(2^62)<=lo)(h2:lo<2^62)(h3: -(2^62)<=hi)(h4:hi<2^62)
  (q:R (Ih lo (hi-lo).toNat) H):wpAny (model X.prog X.w) X.A (pyIter (.ref s.heap.objs.size)) (Sj X pins σ tg R) E {s with heap:=s.heap.push {cls:= .type "range",data:= .fields #[.int lo t,.int hi u,.int 1 v]},toks:=tk}:=by
 refine wpAny_pyIter_range (IsRange.new ..) (small_one h1 h2 h3 h4) ?_
 have I1:Inv X pins σ H {s with heap:=s.heap.push {cls:= .type "range",data:= .fields #[.int lo t,.int hi u,.int 1 v]},toks:=tk}:=I.kept λb o e=>Heap.get?_push_of_some _ e
 refine⟨(s.heap.push {cls:= .type "range",data:= .fields #[.int lo t,.int hi u,.int 1 v]}).objs.size,[(s.heap.push {cls:= .type "range",data:= .fields #[.int lo t,.int hi u,.int 1 v]}).objs.size],_,_,H,rfl,
  I1.kept (t':=tk) λb o e=>Heap.get?_push_of_some _ e,Aj _ lo (hi-lo).toNat,?_,λb hb=> ?_,q⟩
 ·have e1:lo+((0:Nat):Int)*1=lo:=by simp
  have e2:(((hi-lo).toNat:Nat):Int) - ((0:Nat):Int)=Builtin.Range.rangeSize lo hi 1:=by rw[rangeSize_one];split<;>omega
  show IsRangeIter _ _ (lo+((0:Nat):Int)*1) ((((hi-lo).toNat:Nat):Int) - ((0:Nat):Int)) 1
  rw[e1,e2]
  exact Heap.get?_push_size _ rfl
 ·have e:b=(s.heap.push {cls:= .type "range",data:= .fields #[.int lo t,.int hi u,.int 1 v]}).objs.size:=by simpa using hb
  subst e
  exact I1.Dm (Nat.le_refl _) (I1.hok.fresh (Nat.le_refl _))
def vK(ta:TA):TI:=λσ H R=>ta σ H λvs H1=> ∃j:Int,vs=[.int j]/\ -(2^62)<=j/\j<2^62/\R (Ih 0 j.toNat) H1
def NJ(ta:TA):TI:=λσ H R=>ta σ H λvs H1=> ∃i j:Int,vs=[.int i,.int j]/\(-(2^62)<=i/\i<2^62/\ -(2^62)<=j/\j<2^62)/\R (Ih i (j-i).toNat) H1
theorem cY{a:Expr}{ta:TA}{p pos:Pos}(hg:Gl X "range")(hm:X.mg "range"=none)(ha:PA X [a] ta)(hs:starEach [a] X.env=[(false,eval a X.env)]:=by rfl):PI X tg (.Call (.Name "range" p) [a] [] pos) (vK ta):=by
 intro pins s σ H R I h
 refine Call_ (kX I hg hm boot_range (PyProof.Rows.callWith_type1 (fP (ha pos pins s σ H _ I h) λus s1 ⟨vs,H1,I1,r1,q1⟩=> ?_) hs rfl))
 obtain⟨j,e,q1,q2,q⟩:=q1
 subst e
 cases r1 with
 |cons r rr=>
  cases rr
  obtain⟨t,rfl⟩:=r
  exact call_range_1 (yD I1 (by omega) (by omega) q1 q2 (by simpa using q))
theorem vM{a b:Expr}{ta:TA}{p pos:Pos}(hg:Gl X "range")(hm:X.mg "range"=none)(ha:PA X [a,b] ta)(hs:starEach [a,b] X.env=[(false,eval a X.env),(false,eval b X.env)]:=by rfl)(hs2:starEach [b] X.env=[(false,eval b X.env)]:=by rfl):
  PI X tg (.Call (.Name "range" p) [a,b] [] pos) (NJ ta):=by
 intro pins s σ H R I h
 refine Call_ (kX I hg hm boot_range (PyProof.Rows.callWith_type1 (fP (ha pos pins s σ H _ I h) λus s1 ⟨vs,H1,I1,r1,q1⟩=> ?_) (by rw[hs,hs2]) (by rw[hs2];rfl)))
 obtain⟨i,j,e,⟨q1,q2,q3,q4⟩,q⟩:=q1
 subst e
 cases r1 with
 |cons r rr=>
  cases rr with
  |cons r' rr=>
   cases rr
   obtain⟨t,rfl⟩:=r
   obtain⟨t',rfl⟩:=r'
   exact call_range_2 (yD I1 q1 q2 q3 q4 q)
def Qu(wi:TI)(g:TG)(tb:TS):TS:=λD σ H=>wi σ H λJ H1=> ∃W:Nat->Nat->St->Hp->Prop,(∃m,W 0 m σ H1)/\ ∀i m σ H,W i m σ H->
 (J.stop i H/\D.nx σ H)∨(J.go i H/\ ∃N:St->Hp->Prop,(∀σ' H',N σ' H'-> ∃m',m'<m/\W (i+1) m' σ' H')/\ ∀x H',J.yt i H x H'->g x σ H' λσ2 H2=>tb {D with nx:=N,ct:=N,bk:=D.nx} σ2 H2)
def cQ(fp:List Addr)(h:Heap):List (Addr×Obj):=fp.filterMap λb=>(h.get? b).map λo=>(b,o)
theorem ck{fp:List Addr}{h:Heap}{b:Addr}{o:Obj}(hb:b∈fp)(e:h.get? b=some o):(b,o)∈cQ fp h:=List.mem_filterMap.mpr ⟨b,hb,by rw[e];rfl⟩
theorem jn{fp:List Addr}{h:Heap}{p:Addr×Obj}(hp:p∈cQ fp h):p.1∈fp/\h.get? p.1=some p.2:=by
 obtain⟨b,hb,e⟩:=List.mem_filterMap.mp hp
 cases q:h.get? b with
 |none=>rw[q]at e;cases e
 |some o=>
  rw[q]at e
  have e':(b,o)=p:=Option.some.inj e
  subst e'
  exact⟨hb,q⟩
theorem Inv.pinned{pins:List (Addr×Obj)}{σ:St}{H:Hp}{s:Shared}{fp:List Addr}(I:Inv X pins σ H s)(hf:∀b∈fp,eV X pins H b)(ho:∀b∈fp,∃o,s.heap.get? b=some o/\ ∀v,o.data≠ .cell v):Inv X (pins++cQ fp s.heap) σ H s:=
 I.ji λp hp=>(List.mem_append.mp hp).elim (λz=>I.pin p (List.mem_append_right _ z)) λz=>by
  obtain⟨hb,e⟩:=jn z
  obtain⟨f0,f1,f2,_⟩:=hf p.1 hb
  obtain⟨o,e',d⟩:=ho p.1 hb
  rw[e]at e';cases e'
  exact⟨e,f0,f1,f2,d⟩
theorem Inv.iG{pins pl:List (Addr×Obj)}{σ:St}{H:Hp}{s:Shared}(I:Inv X (pins++pl) σ H s):Inv X pins σ H s:=I.ji λp hp=>I.pin p (List.mem_append_right _ (List.mem_append_left _ hp))
theorem gZ{iter:Expr}{body:List Stmt}{wi:TI}{g:TG}{tb:TS}{pos:Pos}(hp:PassesOwn (model X.prog X.w) X.A X.env X.xe)(hc:X.calm=true)(hi:PI X tg iter wi)(hg:PG X tg g)(hb:wV X body tb)
  (hs:∀x,foldedSetIterable iter X.env x=pure x:=by intro _;rfl):PS X (.For tg iter body [] pos) (Qu wi g tb):=by
 intro pins s σ H D I h
 refine wpAny_For (fP (hi pins s σ H _ I h) λv s1 h1=>fP h1 λitv s2 h2=> ?_) hs
 obtain⟨it,fp,tn,J,H2,e,I2,T,st2,f2,W,⟨m0,w0⟩,turn⟩:=h2
 subst e
 have wW:∀{H':Hp},(∀b∈fp,H' b=none) -> ∀b∈fp,eV X pins H' b:=λhn b hb=>⟨hn b hb,(f2 b hb).2⟩
 refine codeAny_forLoop_any (λn s'=> ∃i σ' H',Inv X pins σ' H' s'/\tn i s'.heap/\(∀b∈fp,H' b=none)/\W i n σ' H') ?_ m0 ⟨0,σ,H2,I2,st2,λb hb=>(f2 b hb).1,w0⟩
 rintro n s3 ⟨i,σ3,H3,I3,st3,wX,w3⟩
 rcases turn i n σ3 H3 w3 with⟨stop,qn⟩|⟨go,N,hN,step⟩
 ·refine wpAny_passesOwn hp (fP (T.done X rfl rfl rfl hc i pins s3 σ3 H3 X.xe I3 (wW wX) st3 stop) λr s4 ⟨hr,I4⟩=> ?_)
  subst hr
  exact wpAny_execs_nil ⟨σ3,H3,I4,qn⟩
 ·refine wpAny_passesOwn hp (fP (T.item X rfl rfl rfl hc i pins s3 σ3 H3 X.xe I3 (wW wX) st3 go) λr s4 ⟨u,hr,h4⟩=> ?_)
  subst hr
  refine wpAny_passesOwn hp (fP h4 λ_ s5 ⟨x,H5,I5,r5,y5,yE,Ln⟩=> ?_)
  have Lo:=I5.pinned (wW Ln) (T.obj _ _ yE)
  refine wpAny_passesOwn hp (fP (hg _ s5 σ3 H5 x u _ Lo r5 (step x H5 y5)) λ_ s6 ⟨Ci,H6,I6,q6⟩=> ?_)
  refine wpAny_passesOwn hp (fP (hb _ s6 Ci H6 _ I6 q6) λf s7 q7=> ?_)
  have again:∀{yu:St}{H7:Hp},Inv X (pins++cQ fp s5.heap) yu H7 s7->N yu H7-> ∃m,m<n/\ ∃i σ' H',Inv X pins σ' H' s7/\tn i s7.heap/\(∀b∈fp,H' b=none)/\W i m σ' H':=λ {yu H7} I7 n7=>by
   obtain⟨m',hm,w7⟩:=hN yu H7 n7
   refine⟨m',hm,i+1,yu,H7,I7.iG,T.keep _ _ _ yE λb hb o e=>(I7.pin (b,o) (List.mem_append_right _ (List.mem_append_right _ (ck hb e)))).1,λb hb=> ?_,w7⟩
   obtain⟨o,e,d⟩:=T.obj _ _ yE b hb
   exact(I7.pin (b,o) (List.mem_append_right _ (List.mem_append_right _ (ck hb e)))).2.1
  cases f with
  |next=>obtain⟨yu,H7,I7,n7⟩:=q7;exact again I7 n7
  |cont=>obtain⟨yu,H7,I7,n7⟩:=q7;exact again I7 n7
  |brk=>obtain⟨yu,H7,I7,q7⟩:=q7;exact⟨yu,H7,I7.iG,q7⟩
  |ret v=>obtain⟨x7,yu,H7,I7,r7,q7⟩:=q7;exact⟨x7,yu,H7,I7.iG,r7,q7⟩
end
theorem l8{K:PySem.W.Frag}{a:Addr}{xs:List V}{g:TG}{tb:TS}{D:Ends}{σ:St}{H:Hp}(Pv:Nat->St->Hp->Prop)(h0:Pv 0 σ H)(hl:∀i σ H,i<=xs.length->Pv i σ H->aW K H a xs)
  (hs:∀i x σ H,xs[i]?=some x->Pv i σ H->g x σ H λσ2 H2=>tb {D with nx:=Pv (i+1),ct:=Pv (i+1),bk:=D.nx} σ2 H2)(hd:∀σ H,Pv xs.length σ H->D.nx σ H):
  ∃W:Nat->Nat->St->Hp->Prop,(∃m,W 0 m σ H)/\ ∀i m σ H,W i m σ H->
   ((Iu K a).stop i H/\D.nx σ H)∨((Iu K a).go i H/\ ∃N:St->Hp->Prop,(∀σ' H',N σ' H'-> ∃m',m'<m/\W (i+1) m' σ' H')/\ ∀x H',(Iu K a).yt i H x H'->g x σ H' λσ2 H2=>tb {D with nx:=N,ct:=N,bk:=D.nx} σ2 H2):=by
 refine⟨λi m σ H=>m=xs.length-i/\i<=xs.length/\Pv i σ H,⟨xs.length,by simp,Nat.zero_le _,h0⟩,?_⟩
 rintro i m σ H ⟨rfl,hi,p⟩
 have q:=hl i σ H hi p
 by_cases hlt:i<xs.length
 ·refine .inr ⟨⟨xs,xs[i],q,by simp[hlt]⟩,Pv (i+1),λσ' H' p'=>⟨xs.length- (i+1),by omega,rfl,hlt,p'⟩,λx H' y=> ?_⟩
  obtain⟨e,y⟩:=y
  subst e
  exact hs i x σ _ (y xs q) p
 ·have e:i=xs.length:=by omega
  subst e
  exact .inl ⟨⟨xs,q,Nat.le_refl _⟩,hd σ H p⟩
theorem gy{lo:Int}{n:Nat}{g:TG}{tb:TS}{D:Ends}{σ:St}{H:Hp}(Pv:Nat->St->Hp->Prop)(h0:Pv 0 σ H)
  (hs:∀i σ H,i<n->Pv i σ H->g (.int (lo+i)) σ H λσ2 H2=>tb {D with nx:=Pv (i+1),ct:=Pv (i+1),bk:=D.nx} σ2 H2)(hd:∀σ H,Pv n σ H->D.nx σ H):
  ∃W:Nat->Nat->St->Hp->Prop,(∃m,W 0 m σ H)/\ ∀i m σ H,W i m σ H->
   ((Ih lo n).stop i H/\D.nx σ H)∨((Ih lo n).go i H/\ ∃N:St->Hp->Prop,(∀σ' H',N σ' H'-> ∃m',m'<m/\W (i+1) m' σ' H')/\ ∀x H',(Ih lo n).yt i H x H'->g x σ H' λσ2 H2=>tb {D with nx:=N,ct:=N,bk:=D.nx} σ2 H2):=by
 refine⟨λi m σ H=>m=n-i/\i<=n/\Pv i σ H,⟨n,by simp,Nat.zero_le _,h0⟩,?_⟩
 rintro i m σ H ⟨rfl,hi,p⟩
 by_cases hlt:i<n
 ·refine .inr ⟨hlt,Pv (i+1),λσ' H' p'=>⟨n- (i+1),by omega,rfl,hlt,p'⟩,λx H' y=> ?_⟩
  obtain⟨e,y⟩:=y
  subst e y
  exact hs i σ _ hlt p
 ·have e:i=n:=by omega
  subst e
  exact .inl ⟨Nat.le_refl _,hd σ H p⟩
theorem sN{c:TT}{tb:TS}{D:Ends}{σ:St}{H:Hp}(Pv:St->Hp->Prop)(μ:St->Hp->Nat)(h0:Pv σ H)
  (hs:∀σ H,Pv σ H->c σ H λb H1=>if b=true then tb {D with nx:=λσ' H'=>Pv σ' H'/\μ σ' H'<μ σ H,ct:=λσ' H'=>Pv σ' H'/\μ σ' H'<μ σ H,bk:=D.nx} σ H1 else D.nx σ H1)
  (mono:∀σ H Q Q',(∀b H1,Q b H1->Q' b H1) ->c σ H Q->c σ H Q'):Ff c tb D σ H:=by
 refine⟨λm σ H=>m=μ σ H/\Pv σ H,⟨_,rfl,h0⟩,?_⟩
 rintro m σ H ⟨rfl,p⟩
 refine mono σ H _ _ (λb H1 q=> ?_) (hs σ H p)
 cases b with
 |true=>exact⟨_,λσ' H' ⟨p',l⟩=>⟨_,l,rfl,p'⟩,q⟩
 |false=>exact q
abbrev R2:=V->V->Hp->VK->Prop
def p7(X:Cx)(f:Value->Value->Sem Value)(r:R2):Prop:=
 ∀(pins:List (Addr×Obj))(s:Shared)(σ:St)(H:Hp)(x y:V)(v u:Value)(Q:VK),Inv X pins σ H s->RelV x v->RelV y u->r x y H Q->
  wpAny (model X.prog X.w) X.A (f v u) (EP X pins σ Q) X.xe s
def Qv(X:Cx)(f:Value->Sem Value)(r:V->Hp->VK->Prop):Prop:=
 ∀(pins:List (Addr×Obj))(s:Shared)(σ:St)(H:Hp)(x:V)(v:Value)(Q:VK),Inv X pins σ H s->RelV x v->r x H Q->
  wpAny (model X.prog X.w) X.A (f v) (EP X pins σ Q) X.xe s
def nj(X:Cx)(f:Value)(r:List V->Hp->VK->Prop):Prop:=
 ∀(pins:List (Addr×Obj))(s:Shared)(σ:St)(H:Hp)(xs:List V)(us:List Value)(Q:VK),Inv X pins σ H s->Vals xs us->r xs H Q->
  wpAny (model X.prog X.w) X.A (call f us) (EP X pins σ Q) X.xe s
def jV(r:R2)(ta tb:TE):TE:=λσ H Q=>ta σ H λx H1=>tb σ H1 λy H2=>r x y H2 Q
def Ul(r:V->Hp->VK->Prop)(ta:TE):TE:=λσ H Q=>ta σ H λx H1=>r x H1 Q
inductive ZI(C:Int->Int->Prop)(g:Int->Int->V)(x y:V)(H:Hp)(Q:VK):Prop
 |mk(i j:Int)(ex:x= .int i)(ey:y= .int j)(c:C i j)(q:Q (g i j) H)
def rI(C:Int->Int->Prop)(g:Int->Int->V):R2:=ZI C g
inductive Um(g:Int->Int->V)(x y:V)(H:Hp)(Q:VK):Prop
 |mk(i j:Int)(ex:x= .int i)(ey:y= .int j)(q:Q (g i j) H)
def Dp(g:Int->Int->V):R2:=Um g
inductive ZU(g:Int->V)(x:V)(H:Hp)(Q:VK):Prop
 |mk(i:Int)(ex:x= .int i)(q:Q (g i) H)
def rU(g:Int->V):V->Hp->VK->Prop:=ZU g
section
variable{X:Cx}{a b c:Expr}{ta tb tc:TE}{pos:Pos}
theorem Lp(ha:PE X a ta)(hb:PE X b tb){pins:List (Addr×Obj)}{s:Shared}{σ:St}{H:Hp}{R:V->V->Hp->Prop}(I:Inv X pins σ H s)
  (h:ta σ H λx H1=>tb σ H1 λy H2=>R x y H2){Q:Value->Shared->Prop}{f:Value->Value->Sem Value}
  (hf:∀v u s2 x y H2,Inv X pins σ H2 s2->RelV x v->RelV y u->R x y H2->wpAny (model X.prog X.w) X.A (f v u) Q X.xe s2):
  wpAny (model X.prog X.w) X.A (eval a X.env) (λv s₁=>wpAny (model X.prog X.w) X.A (eval b X.env) (λu s₂=>wpAny (model X.prog X.w) X.A (f v u) Q X.xe s₂) X.xe s₁) X.xe s:=by
 refine fP (ha pins s σ H _ I h) λv s1 ⟨x,H1,I1,r1,q1⟩=> ?_
 refine fP (hb pins s1 σ H1 _ I1 q1) λu s2 ⟨y,H2,I2,r2,q2⟩=> ?_
 exact hf v u s2 x y H2 I2 r1 r2 q2
theorem aq{op:Operator}{r:R2}(ho:p7 X (binaryOp op) r)(ha:PE X a ta)(hb:PE X b tb):PE X (.BinOp a op b pos) (jV r ta tb):=by
 intro pins s σ H Q I h
 exact wpAny_BinOp (Lp ha hb I h λv u s2 x y H2 I2 rx ry q=>ho pins s2 σ H2 x y v u Q I2 rx ry q)
theorem yF{op:UnaryOp}{r:V->Hp->VK->Prop}(ho:Qv X (unaryOp op) r)(ha:PE X a ta):PE X (.UnaryOp op a pos) (Ul r ta):=by
 intro pins s σ H Q I h
 exact UnaryOp_ (fP (ha pins s σ H _ I h) λv s1 ⟨x,H1,I1,r1,q1⟩=>ho pins s1 σ H1 x v Q I1 r1 q1)
theorem Lq{f:Value->Value->Sem Value}{C:Int->Int->Prop}{g:Int->Int->Int}
  (rule:∀(i j:Int)(t u:Tok)(s:Shared)(Q:Value->Shared->Prop)(E:Value->Shared->Prop),C i j->Q (.int (g i j) s.toks) {s with toks:=s.toks+1} ->wpAny (model X.prog X.w) X.A (f (.int i t) (.int j u)) Q E s):
  p7 X f (rI C λi j=> .int (g i j)):=by
 intro pins s σ H x y v u Q I rx ry h
 obtain⟨i,j,rfl,rfl,hc,q⟩:=h
 obtain⟨t,rfl⟩:=rx
 obtain⟨t',rfl⟩:=ry
 exact rule i j t t' s _ _ hc ⟨.int (g i j),H,I.tok _,⟨_,rfl⟩,q⟩
theorem NK{f:Value->Value->Sem Value}{g:Int->Int->Int}
  (rule:∀(i j:Int)(t u:Tok)(s:Shared)(Q:Value->Shared->Prop)(E:Value->Shared->Prop),Q (.int (g i j) s.toks) {s with toks:=s.toks+1} ->wpAny (model X.prog X.w) X.A (f (.int i t) (.int j u)) Q E s):
  p7 X f (Dp λi j=> .int (g i j)):=by
 intro pins s σ H x y v u Q I rx ry h
 obtain⟨i,j,rfl,rfl,q⟩:=h
 obtain⟨t,rfl⟩:=rx
 obtain⟨t',rfl⟩:=ry
 exact rule i j t t' s _ _ ⟨.int (g i j),H,I.tok _,⟨_,rfl⟩,q⟩
theorem Iv{f:Value->Value->Sem Value}{g:Int->Int->Bool}
  (rule:∀(i j:Int)(t u:Tok)(s:Shared)(Q:Value->Shared->Prop)(E:Value->Shared->Prop),Q (.bool (g i j)) s->wpAny (model X.prog X.w) X.A (f (.int i t) (.int j u)) Q E s):
  p7 X f (Dp λi j=> .bl (g i j)):=by
 intro pins s σ H x y v u Q I rx ry h
 obtain⟨i,j,rfl,rfl,q⟩:=h
 obtain⟨t,rfl⟩:=rx
 obtain⟨t',rfl⟩:=ry
 exact rule i j t t' s _ _ ⟨.bl (g i j),H,I,rfl,q⟩
def NL(i j:Int):Prop:=0<j/\j<1073741824
def NN(i j:Int):Prop:=0<=j/\j<=1000000/\i.natAbs<2^64
def Lr(i j:Int):Prop:=(-(2^64)<i/\i<2^64)∨(-(2^64)<j/\j<2^64)
theorem Lr.ok{i j:Int}(h:Lr i j):IntMulOk i j:=by
 rcases h with⟨h1,h2⟩|⟨h1,h2⟩
 ·exact .of_left (intBits_le_64 h1 h2)
 ·exact .of_right (intBits_le_64 h1 h2)
theorem bJ:p7 X (binaryOp .Add) (Dp λi j=> .int (i+j)):=NK λ_ _ _ _ _ _ _ q=>add_int q
theorem dw:p7 X (binaryOp .Sub) (Dp λi j=> .int (i-j)):=NK λ_ _ _ _ _ _ _ q=>sub_int q
theorem g6:p7 X (binaryOp .Mult) (rI Lr λi j=> .int (i*j)):=Lq λ_ _ _ _ _ _ _ hc q=>mul_int q hc.ok
theorem eH:p7 X (binaryOp .FloorDiv) (rI NL λi j=> .int (i/j)):=Lq λi j _ _ _ _ _ hc q=>by
 have h1:(0:Int)<j:=hc.1
 have h2:j<1073741824:=hc.2
 exact floordiv_int (by omega) (by rw[Int.fdiv_eq_ediv_of_nonneg i (by omega)];exact q) (.inl (PyProof.noPylong_small (by omega)))
theorem g7:p7 X (binaryOp .Mod) (rI (λ_ j=>0<j) λi j=> .int (i%j)):=Lq λi j _ _ _ _ _ hc q=>by
 have h1:(0:Int)<j:=hc
 exact mod_int' (by omega) (by rw[Int.fmod_eq_emod_of_nonneg i (by omega)];exact q)
theorem Fi:p7 X (binaryOp .Pow) (rI NN λi j=> .int (i^j.toNat)):=Lq λ_ _ _ _ _ _ _ hc q=>pow_int_small hc.1 hc.2.1 hc.2.2 q
theorem Ls:p7 X (binaryOp .LShift) (rI NN λi j=> .int (i*2^j.toNat)):=Lq λ_ _ _ _ _ _ _ hc q=>lshift_int_small hc.1 hc.2.1 hc.2.2 q
theorem Uo{f:Value->Sem Value}{g:Int->Int}
  (rule:∀(i:Int)(t:Tok)(s:Shared)(Q:Value->Shared->Prop)(E:Value->Shared->Prop),Q (.int (g i) s.toks) {s with toks:=s.toks+1} ->wpAny (model X.prog X.w) X.A (f (.int i t)) Q E s):
  Qv X f (rU λi=> .int (g i)):=by
 intro pins s σ H x v Q I rx h
 obtain⟨i,rfl,q⟩:=h
 obtain⟨t,rfl⟩:=rx
 exact rule i t s _ _ ⟨.int (g i),H,I.tok _,⟨_,rfl⟩,q⟩
theorem sO:Qv X (unaryOp .USub) (rU λi=> .int (-i)):=Uo λ_ _ _ _ _ q=>neg_int q
end
def NO:V->V->Bool
 | .fZ,.fZ=>true| .fZ,.int _=>true| .int _,.fZ=>true| .fZ,.bl _=>true| .bl _,.fZ=>true| .fZ,.str _=>true| .str _,.fZ=>true
 | .int _,.int _=>true| .bl _,.bl _=>true| .str _,.str _=>true| .EV _,.EV _=>true
 | .int _,.str _=>true| .str _,.int _=>true| .bl _,.str _=>true| .str _,.bl _=>true
 |_,_=>false
def Sk:R2:=λx y H Q=>NO x y=true/\Q (.bl (decide (x=y))) H
def Up:R2:=λx y H Q=>NO x y=true/\Q (.bl (!decide (x=y))) H
theorem Cj{i j:Int}:decide (V.int i=V.int j)=(i==j):=by
 rw[Bool.eq_iff_iff]
 simp
theorem Fj{i j:Bool}:decide (V.bl i=V.bl j)=(i==j):=by
 rw[Bool.eq_iff_iff]
 simp
theorem Ck{i j:Str}:decide (V.str i=V.str j)=(i==j):=by
 rw[Bool.eq_iff_iff]
 simp
theorem Cm{i j:Array UInt8}:decide (V.EV i=V.EV j)=(i.toList==j.toList):=by
 rw[Bool.eq_iff_iff]
 cases i
 cases j
 simp
section
variable{X:Cx}{a b c:Expr}{ta tb tc:TE}{pos:Pos}
theorem cI{pins:List (Addr×Obj)}{σ:St}{H:Hp}{s:Shared}{Q:VK}{k k':Bool}(I:Inv X pins σ H s)(q:Q (.bl k) H)(e:k=k'):EP X pins σ Q (.bool k') s:=by
 subst e
 exact⟨.bl k,H,I,rfl,q⟩
theorem vN:p7 X (compareOp .Eq) Sk:=by
 intro pins s σ H x y v u Q I rx ry h
 obtain⟨hs,q⟩:=h
 cases x with
 |fZ=>
  cases rx
  cases y with
  |fZ=>cases ry;exact PySem.EqNone.eq_none_none (cI I q (by simp))
  |bl j=>cases ry;exact PySem.EqNone.eq_none_bool (cI I q (by simp))
  |int j=>obtain⟨t',rfl⟩:=ry;exact PySem.EqNone.eq_none_int (cI I q (by simp))
  |str j=>obtain⟨t',rfl⟩:=ry;exact PySem.EqNone.eq_none_str (cI I q (by simp))
  |_=>exact absurd (show false=true from hs) Bool.false_ne_true
 |bl i=>
  cases rx
  cases y with
  |fZ=>cases ry;exact PySem.EqNone.eq_bool_none (cI I q (by simp))
  |bl j=>cases ry;exact eq_bool (cI I q Fj)
  |str j=>obtain⟨t',rfl⟩:=ry;exact PySem.EqMixed.eq_bool_str (cI I q (by simp))
  |_=>exact absurd (show false=true from hs) Bool.false_ne_true
 |int i=>
  obtain⟨t,rfl⟩:=rx
  cases y with
  |fZ=>cases ry;exact PySem.EqNone.eq_int_none (cI I q (by simp))
  |int j=>obtain⟨t',rfl⟩:=ry;exact eq_int (cI I q Cj)
  |str j=>obtain⟨t',rfl⟩:=ry;exact PySem.EqMixed.eq_int_str (cI I q (by simp))
  |_=>exact absurd (show false=true from hs) Bool.false_ne_true
 |str i=>
  obtain⟨t,rfl⟩:=rx
  cases y with
  |fZ=>cases ry;exact PySem.EqNone.eq_str_none (cI I q (by simp))
  |bl j=>cases ry;exact PySem.EqMixed.eq_str_bool (cI I q (by simp))
  |int j=>obtain⟨t',rfl⟩:=ry;exact PySem.EqMixed.eq_str_int (cI I q (by simp))
  |str j=>obtain⟨t',rfl⟩:=ry;exact eq_str (cI I q Ck)
  |_=>exact absurd (show false=true from hs) Bool.false_ne_true
 |EV i=>
  obtain⟨t,rfl⟩:=rx
  cases y with
  |EV j=>obtain⟨t',rfl⟩:=ry;exact PySem.W.eq_bytes (cI I q Cm)
  |_=>exact absurd (show false=true from hs) Bool.false_ne_true
 |_=>cases y<;>exact absurd (show false=true from hs) Bool.false_ne_true
theorem Cn:p7 X (compareOp .NotEq) Up:=by
 intro pins s σ H x y v u Q I rx ry h
 obtain⟨hs,q⟩:=h
 cases x with
 |fZ=>
  cases rx
  cases y with
  |fZ=>cases ry;exact PySem.EqNone.ne_none_none (cI I q (by simp))
  |bl j=>cases ry;exact PySem.EqNone.ne_none_bool (cI I q (by simp))
  |int j=>obtain⟨t',rfl⟩:=ry;exact PySem.EqNone.ne_none_int (cI I q (by simp))
  |str j=>obtain⟨t',rfl⟩:=ry;exact PySem.EqNone.ne_none_str (cI I q (by simp))
  |_=>exact absurd (show false=true from hs) Bool.false_ne_true
 |bl i=>
  cases rx
  cases y with
  |fZ=>cases ry;exact PySem.EqNone.ne_bool_none (cI I q (by simp))
  |bl j=>cases ry;exact ne_bool (cI I q (congrArg not Fj))
  |str j=>obtain⟨t',rfl⟩:=ry;exact PySem.EqMixed.ne_bool_str (cI I q (by simp))
  |_=>exact absurd (show false=true from hs) Bool.false_ne_true
 |int i=>
  obtain⟨t,rfl⟩:=rx
  cases y with
  |fZ=>cases ry;exact PySem.EqNone.ne_int_none (cI I q (by simp))
  |int j=>obtain⟨t',rfl⟩:=ry;exact ne_int (cI I q (congrArg not Cj))
  |str j=>obtain⟨t',rfl⟩:=ry;exact PySem.EqMixed.ne_int_str (cI I q (by simp))
  |_=>exact absurd (show false=true from hs) Bool.false_ne_true
 |str i=>
  obtain⟨t,rfl⟩:=rx
  cases y with
  |fZ=>cases ry;exact PySem.EqNone.ne_str_none (cI I q (by simp))
  |bl j=>cases ry;exact PySem.EqMixed.ne_str_bool (cI I q (by simp))
  |int j=>obtain⟨t',rfl⟩:=ry;exact PySem.EqMixed.ne_str_int (cI I q (by simp))
  |str j=>obtain⟨t',rfl⟩:=ry;exact ne_str (cI I q (congrArg not Ck))
  |_=>exact absurd (show false=true from hs) Bool.false_ne_true
 |EV i=>
  obtain⟨t,rfl⟩:=rx
  cases y with
  |EV j=>obtain⟨t',rfl⟩:=ry;exact PySem.W.ne_bytes (cI I q (congrArg not Cm))
  |_=>exact absurd (show false=true from hs) Bool.false_ne_true
 |_=>cases y<;>exact absurd (show false=true from hs) Bool.false_ne_true
theorem NP:p7 X (compareOp .Lt) (Dp λi j=> .bl (decide (i<j))):=Iv λ_ _ _ _ _ _ _ q=>lt_int q
theorem Co:p7 X (compareOp .LtE) (Dp λi j=> .bl (decide (i<=j))):=Iv λ_ _ _ _ _ _ _ q=>le_int q
theorem qX:p7 X (compareOp .Gt) (Dp λi j=> .bl (decide (j<i))):=Iv λ_ _ _ _ _ _ _ q=>gt_int q
theorem Fl:p7 X (compareOp .GtE) (Dp λi j=> .bl (decide (j<=i))):=Iv λ_ _ _ _ _ _ _ q=>ge_int q
theorem Fo:p7 X (compareOp .Is) (λx y H Q=>y= .fZ/\Q (.bl (decide (x= .fZ))) H):=by
 intro pins s σ H x y v u Q I rx ry h
 obtain⟨rfl,q⟩:=h
 cases ry
 refine is_none_gen (cI I q ?_)
 cases x<;>first
  |(cases rx;rfl)
  |(obtain⟨t,rfl⟩:=rx;rfl)
theorem Iw:p7 X (compareOp .IsNot) (λx y H Q=>y= .fZ/\Q (.bl (!decide (x= .fZ))) H):=by
 intro pins s σ H x y v u Q I rx ry h
 obtain⟨rfl,q⟩:=h
 cases ry
 refine isnot_none_gen (cI I q ?_)
 cases x<;>first
  |(cases rx;rfl)
  |(obtain⟨t,rfl⟩:=rx;rfl)
theorem cz(b:Expr){op:CmpOp}(h:op≠ .In:=by decide)(h2:op≠ .NotIn:=by decide):behindInMarks op b=false:=by
 have e1:(op==CmpOp.In)=false:=by cases op<;>first|rfl|exact absurd rfl h
 have e2:(op==CmpOp.NotIn)=false:=by cases op<;>first|rfl|exact absurd rfl h2
 cases b<;>simp[behindInMarks,e1,e2]
theorem jW{op:CmpOp}{r:R2}(ho:p7 X (compareOp op) r)(ha:PE X a ta)(hb:PE X b tb)(hm:behindInMarks op b=false):PE X (.Compare a [op] [b] pos) (jV r ta tb):=by
 intro pins s σ H Q I h
 exact wpAny_Compare1 (Lp ha hb I h λv u s2 x y H2 I2 rx ry q=>ho pins s2 σ H2 x y v u Q I2 rx ry q) hm
def NQ(t:TE):TT:=λσ H Q=>t σ H λx H1=>Sf x λc=>Q c H1
theorem cB{op:CmpOp}{r:R2}(ho:p7 X (compareOp op) r)(ha:PE X a ta)(hb:PE X b tb)(hm:behindInMarks op b=false):PT X (.Compare a [op] [b] pos) (NQ (jV r ta tb)):=by
 intro pins s σ H Q I h
 refine wpAny_isTrue_Compare1 (fP (ha pins s σ H _ I h) λv s1 ⟨x,H1,I1,r1,q1⟩=>fP (hb pins s1 σ H1 _ I1 q1) λu s2 ⟨y,H2,I2,r2,q2⟩=>
  fP (ho pins s2 σ H2 x y v u _ I2 r1 r2 q2) λc s3 ⟨z,H3,I3,r3,k,e,q3⟩=> ?_) hm
 subst e
 cases r3
 exact wpAny_truthy_bool ⟨H3,I3,q3⟩
theorem wY:(sizeLine:Nat)<2^63:=by rw[sizeLine_eq];decide
theorem vals1{x:V}{us:List Value}(r:Vals [x] us):∃u,us=[u]/\RelV x u:=by
 cases r with
 |cons r1 r2=>cases r2;exact⟨_,rfl,r1⟩
theorem vals2{x y:V}{us:List Value}(r:Vals [x,y] us):∃u w',us=[u,w']/\RelV x u/\RelV y w':=by
 cases r with
 |cons r1 r2=>
  cases r2 with
  |cons r3 r4=>cases r4;exact⟨_,_,rfl,r1,r3⟩
theorem sP:nj X (.builtin "abs") (λxs H Q=> ∃i,xs=[.int i]/\Q (.int (if i<0 then-i else i)) H):=by
 intro pins s σ H xs us Q I r h
 obtain⟨i,rfl,q⟩:=h
 obtain⟨u,rfl,t,rfl⟩:=vals1 r
 exact call_abs_int λu tk=>⟨.int (if i<0 then-i else i),H,I.tok _,⟨_,rfl⟩,q⟩
theorem Dq(hc:X.calm=true):nj X (.builtin "max") (λxs H Q=> ∃i j,xs=[.int i,.int j]/\Q (.int (if j>i then j else i)) H):=by
 intro pins s σ H xs us Q I r h
 obtain⟨i,j,rfl,q⟩:=h
 obtain⟨u,w',rfl,⟨t,rfl⟩,⟨t',rfl⟩⟩:=vals2 r
 refine max_two_ints (I.ok.hd hc) λh' tk k=>⟨_,H,I.kept k,?_,q⟩
 by_cases hj:j>i
 ·rw[if_pos hj,if_pos hj];exact⟨_,rfl⟩
 ·rw[if_neg hj,if_neg hj];exact⟨_,rfl⟩
theorem Dr(hc:X.calm=true):nj X (.builtin "min") (λxs H Q=> ∃i j,xs=[.int i,.int j]/\Q (.int (if j<i then j else i)) H):=by
 intro pins s σ H xs us Q I r h
 obtain⟨i,j,rfl,q⟩:=h
 obtain⟨u,w',rfl,⟨t,rfl⟩,⟨t',rfl⟩⟩:=vals2 r
 refine min_two_ints (I.ok.hd hc) λh' tk k=>⟨_,H,I.kept k,?_,q⟩
 by_cases hj:j<i
 ·rw[if_pos hj,if_pos hj];exact⟨_,rfl⟩
 ·rw[if_neg hj,if_neg hj];exact⟨_,rfl⟩
theorem Ds:nj X (.type "int") (λxs H Q=>(∃i,xs=[.int i]/\Q (.int i) H)∨ ∃k,xs=[.bl k]/\Q (.int (if k then 1 else 0)) H):=by
 intro pins s σ H xs us Q I r h
 rcases h with⟨i,rfl,q⟩|⟨k,rfl,q⟩
 ·obtain⟨u,rfl,t,rfl⟩:=vals1 r
  exact call_int_int ⟨.int i,H,I,⟨_,rfl⟩,q⟩
 ·obtain⟨u,rfl,r1⟩:=vals1 r
  cases r1
  exact call_int_bool ⟨.int (if k then 1 else 0),H,I.tok _,⟨_,rfl⟩,q⟩
end
structure Lu(h:Heap)(x dx C:Addr)(mA:Str->Option Value):Prop where
 obj:h.get? x=some (PySem.W.instObj C dx)
 ns:h.Ns1 dx mA
 ne:dx≠x
theorem Dt{h:Heap}{dx:Addr}{mA:Str->Option Value}(n:h.Ns1 dx mA):∃od,h.get? dx=some od/\ ∀name,PySem.W.lookIn name od=some (mA name):=by
 obtain⟨o,es,ep,ho,hd,hk,_,hm⟩:=n
 refine⟨o,ho,λname=> ?_⟩
 have e:=hm name
 unfold nsFind findBy at e
 rw[<-Array.find?_toList]at e
 unfold PySem.W.lookIn
 rw[hd]
 dsimp only
 split
 ·rename_i y q
  rw[q]at e
  exact congrArg some e
 ·rename_i q
  rw[q]at e
  have a:es.toList.any (·.refKey)=false:=by
   rw[List.any_eq_false]
   intro y hy
   obtain⟨z,t,hkey⟩:=hk y (Array.mem_toList_iff.mp hy)
   simp[DictEntry.refKey,hkey]
  have a':¬es.toList.any (·.refKey)=true:=by rw[a];exact Bool.false_ne_true
  rw[if_neg a']
  exact congrArg some e
theorem Lu.look{h:Heap}{x dx C:Addr}{mA:Str->Option Value}(I:Lu h x dx C mA):∃od,PySem.W.InstAt h x (PySem.W.instObj C dx) C (some od)/\ ∀name,PySem.W.lookIn name od=some (mA name):=
 let⟨od,ho,hl⟩:=Dt I.ns
 ⟨od,⟨I.obj,rfl,rfl,ho⟩,hl⟩
section
variable{prog:Program}{w:World}{A:Around}{E:Value->Shared->Prop}{s:Shared}{K:PySem.W.Frag}{x dx C f:Addr}{mA:Str->Option Value}{name:Str}{v:Value}
end
section
variable{P:Program}{w:World}{H H':Hp}{h h':Heap}{a C dx:Addr}{fs fs':List (Str×V)}
theorem Iz(hok:rW P w H h)(e:H a=some (.ins C dx fs)):∃mA,Lu h a dx C mA/\(∀f,Lc (fs.lookup f) (mA f))/\PySem.Within mA (fs.map (·.1))/\fs.length<=1000/\H dx=some (.own a):=by
 obtain⟨d,z,ne,ob,mA,n,r,q⟩:=(show eO P w H h a (.ins C dx fs)from hok a _ e)
 exact⟨mA,⟨ob,n,ne⟩,r,q,z,d⟩
end
structure Qw(K:PySem.W.Frag)(C:Addr):Prop where
 pg:PySem.W.plainGet K C Str.empty=true
 hd:PySem.W.hasDictIn K C=true
 po:PySem.W.plainOver K C=true
 sa:PySem.W.findIn K (.ref C) "__setattr__"=some (some (.builtin "object.__setattr__"))
theorem Qw.get{K:PySem.W.Frag}{C:Addr}(c:Qw K C)(f:Str):PySem.W.plainGet K C f=true:=c.pg
section
variable{X:Cx}{pins:List (Addr×Obj)}{σ:St}{H:Hp}{s:Shared}{a C dx:Addr}{fs:List (Str×V)}{f:Str}{v:V}{A:Around}{E:Value->Shared->Prop}
end
section
variable{X:Cx}{o e value:Expr}{f:Str}{pos pos' tpos:Pos}{ta tv:TE}
end
section
variable{X:Cx}{pins:List (Addr×Obj)}{σ:St}{H:Hp}{s:Shared}{A:Around}{E:Value->Shared->Prop}{Q:Value->Shared->Prop}{c:Value}{b:Bool}
inductive oU(K:PySem.W.Frag)(H:Hp):V->Value->Prop where
 |fZ:oU K H .fZ (.type "NoneType")
 |bl(x:Bool):oU K H (.bl x) (.type "bool")
 |int(i:Int):oU K H (.int i) (.type "int")
 |str(x:Str):oU K H (.str x) (.type "str")
 |MP(x:UInt64):oU K H (.MP x) (.type "float")
 |lst{a:Addr}{xs:List V}(e:H a=some (.lst xs)):oU K H (.ref a) (.type "list")
 |wR{a:Addr}{o:Obj}{xs:List V}(e:H a=some (.wR o (.lst xs))):oU K H (.ref a) (.type "list")
 |tup{a:Addr}{xs:List V}(e:H a=some (.tup xs)):oU K H (.ref a) (.type "tuple")
 |dK{a:Addr}{kvs:List (Key×V)}(e:H a=some (.dK kvs)):oU K H (.ref a) (.type "dict")
 |dT{a:Addr}{kvs:List (List Key×V)}(e:H a=some (.dT kvs)):oU K H (.ref a) (.type "dict")
 |ins{a C dx:Addr}{fs:List (Str×V)}(e:H a=some (.ins C dx fs))(cl:Qw K C)(ha:PySem.W.findIn K (.ref C) "__class__"=some (some (.builtin "object.__class__")))
   (hn:PySem.W.specialIn K (.builtin "object.__class__") "__get__"=some (some (.builtin "getset_descriptor.__get__"))) (htk:PySem.W.takesIn K (.builtin "object.__class__")=some true)
   (hm:PySem.W.mroIn K C (.type "object")=some true):oU K H (.ref a) (.ref C)
theorem Du{x:V}{u t:Value}(I:Inv X pins σ H s)(rx:RelV x u)(ty:oU X.K H x t)(e:PySem.W.kitOne X.K t c=some b)(h:∀tk,Q (.bool b) {s with toks:=tk}):
  wpAny (model X.prog X.w) A (call (.builtin "isinstance") [u,c]) Q E s:=by
 cases ty with
 |fZ=>cases(show u=Value.none from rx);exact PySem.W.kia_one PySem.W.kitx_none I.wU True.intro e (λz=>nomatch z) h
 |bl y=>cases(show u=Value.bool y from rx);exact PySem.W.kia_one PySem.W.kitx_bool I.wU True.intro e (λz=>nomatch z) h
 |int i=>obtain⟨t,q⟩:=(show ∃t,u=Value.int i t from rx);cases q;exact PySem.W.kia_one PySem.W.kitx_int I.wU True.intro e (λz=>nomatch z) h
 |str y=>obtain⟨t,q⟩:=(show ∃t,u=Value.str y t from rx);cases q;exact PySem.W.kia_one PySem.W.kitx_str I.wU True.intro e (λz=>nomatch z) h
 |MP y=>obtain⟨t,q⟩:=(show ∃t,u=Value.float y t from rx);cases q;exact PySem.W.kia_one PySem.W.kitx_float I.wU True.intro e (λz=>nomatch z) h
 | @lst a xs ea=>
  cases(show u=Value.ref a from rx)
  obtain⟨_,_,n,_,h1⟩:=(show eO X.prog X.w H s.heap a (.lst xs)from I.hok a _ ea)
  exact PySem.W.kia_one PySem.W.kitx_list I.wU ⟨_,h1,rfl⟩ e (λz=>nomatch z) h
 | @wR a ob xs ea=>
  cases(show u=Value.ref a from rx)
  obtain⟨_,_,_,n,_,h1⟩:=(show eO X.prog X.w H s.heap a (.wR ob (.lst xs))from I.hok a _ ea)
  exact PySem.W.kia_one PySem.W.kitx_list I.wU ⟨_,h1,rfl⟩ e (λz=>nomatch z) h
 | @tup a xs ea=>
  cases(show u=Value.ref a from rx)
  obtain⟨_,_,_,p⟩:=(show eO X.prog X.w H s.heap a (.tup xs)from I.hok a _ ea)
  obtain⟨o,h1,h2,_⟩:=p
  exact PySem.W.kia_one PySem.W.kitx_tuple I.wU ⟨o,h1,h2⟩ e (λz=>nomatch z) h
 | @dK a kvs ea=>
  cases(show u=Value.ref a from rx)
  obtain⟨_,_,vs,_,p⟩:=(show eO X.prog X.w H s.heap a (.dK kvs)from I.hok a _ ea)
  obtain⟨o,es,ep,h1,h2,_⟩:=p
  exact PySem.W.kia_one PySem.W.kitx_dict I.wU ⟨o,h1,h2.1⟩ e (λz=>nomatch z) h
 | @dT a kvs ea=>
  cases(show u=Value.ref a from rx)
  obtain⟨_,_,xs,_,o,es,ep,h1,h2,_⟩:=(show eO X.prog X.w H s.heap a (.dT kvs)from I.hok a _ ea)
  exact PySem.W.kia_one PySem.W.kitx_dict I.wU ⟨o,h1,h2.1⟩ e (λz=>nomatch z) h
 | @ins a C dx fs ea cl ha hn htk hm=>
  cases(show u=Value.ref a from rx)
  obtain⟨mA,O,_⟩:=Iz I.hok ea
  obtain⟨od,J,_⟩:=O.look
  exact PySem.W.kia_one (PySem.W.kitx_own (cl.get _) cl.hd ha hn htk hm) I.wU J e (λz=>nomatch z) h
end
structure fj(k:Nat)(A:Around):Prop where
 hd:A.handled=none
 dp:A.depth+3*k+5<recursionLimit
 un:A.units+16*k+200<cLine
theorem fj.mono{j k:Nat}{A:Around}(r:fj k A)(h:j<=k):fj j A:=⟨r.hd,by have:=r.dp;omega,by have:=r.un;omega⟩
theorem fj.deeper{k:Nat}{A:Around}(r:fj (k+1) A)(env:Env):fj k (A.deeper env):=
 ⟨r.hd,by have:=r.dp;show A.depth+1+3*k+5<_;omega,by have:=r.un;show A.units+3+16*k+200<_;omega⟩
theorem fj.in1{k:Nat}{A:Around}(r:fj (k+1) A):fj k A.in1:=
 ⟨r.hd,by have:=r.dp;show A.depth+3*k+5<_;omega,by have:=r.un;show A.units+1+16*k+200<_;omega⟩
theorem fj.depth{k:Nat}{A:Around}(r:fj k A):A.depth<recursionLimit:=by have:=r.dp;omega
theorem fj.units{k:Nat}{A:Around}(r:fj k A):A.units+64<cLine:=by have:=r.un;omega
def jj:TA:=λ_ H Q=>Q [] H
def cJ(ta:TE)(tr:TA):TA:=λσ H Q=>ta σ H λx H1=>tr σ H1 λxs H2=>Q (x::xs) H2
section
variable{X:Cx}{e:Expr}{es:List Expr}{te:TE}{t:TA}{pos:Pos}
theorem ak:PA X [] jj:=λ_ _ _ _ H Q I h=>Calls.spliced_nil ⟨[],H,I,.nil,h⟩
theorem af(ha:PE X e te)(hr:PA X es t)(hs:starEach (e::es) X.env=(false,eval e X.env)::starEach es X.env:=by rfl):PA X (e::es) (cJ te t):=by
 intro pos pins s σ H Q I h
 rw[hs]
 show wpAny _ _ (spliced ((false,eval e X.env)::backTo pos (starEach es X.env))) _ _ s
 refine Calls.spliced_cons (fP (ha pins s σ H _ I h) λu s1 ⟨x,H1,I1,r1,q1⟩=> ?_)
 exact fP (hr pos pins s1 σ H1 _ I1 q1) λus s2 ⟨xs,H2,I2,r2,q2⟩=>⟨x::xs,H2,I2,.cons r1 r2,q2⟩
def NR(t:TA):TE:=λσ H Q=>t σ H λxs H1=>xs.length<=sizeLine/\ ∀p,H1 p=none->Q (.ref p) (upd H1 p (.tup xs))
def NS(t:TA):TE:=λσ H Q=>t σ H λxs H1=>xs.length<=sizeLine/\ ∀p,H1 p=none->Q (.ref p) (upd H1 p (.lst xs))
theorem g8{x1}(h:PA X es t):PE X (.Tuple es x1 pos) (NR t):=by
 intro pins s σ H Q I hq
 refine wpAny_Tuple_spliced (fP (h pos pins s σ H _ I hq) λus s1 ⟨xs,H1,I1,r,z,q⟩=>⟨by rw[<-r.length];exact z,?_⟩)
 have hf:H1 s1.heap.objs.size=none:=I1.hok.fresh (Nat.le_refl _)
 refine⟨.ref s1.heap.objs.size,upd H1 s1.heap.objs.size (.tup xs),I1.laid (t':=s1.toks) (λb u e=>Heap.get?_push_of_some _ e) (Nat.le_refl _) ?_,rfl,q _ hf⟩
 exact⟨z,us,r,⟨_,Heap.get?_push_size _ rfl,rfl,_,rfl⟩⟩
theorem dG(h:PA X es t):PE X (.List es pos) (NS t):=by
 intro pins s σ H Q I hq
 refine wpAny_List_spliced (fP (h pos pins s σ H _ I hq) λus s1 ⟨xs,H1,I1,r,z,q⟩=>⟨by rw[<-r.length];exact z,?_⟩)
 have hf:H1 s1.heap.objs.size=none:=I1.hok.fresh (Nat.le_refl _)
 refine⟨.ref s1.heap.objs.size,upd H1 s1.heap.objs.size (.lst xs),I1.laid (t':=s1.toks) (λb u e=>Heap.get?_push_of_some _ e) (Nat.le_refl _) ?_,rfl,q _ hf⟩
 exact⟨z,us,0,r,Heap.get?_push_size _ rfl⟩
end
abbrev Sp:=List V->Hp->VK->XK->Prop
abbrev Dv:=List Env->Hp->Shared->XK->Value->Shared->Prop
structure IA(P:Program)(w:World)(K:PySem.W.Frag)(mg:Str->Option Value)(base:Heap)(A:Around)(outer:List Env)(s:Shared)(H:Hp):Prop where
 frames:A.frames=some outer
 mod:Mod K mg base
 bs:∀b o,base.get? b=some o->s.heap.get? b=some o/\H b=none
 Io:base.objs.size<=s.heap.objs.size
 rD:s.heap.FunFrames base outer
 MS:∀b∈frs outer,H b=none
 hok:rW P w H s.heap
 bare:AllBare s.gens
def CE(outer:List Env)(P:Program)(w:World)(H:Hp)(s:Shared)(Q:VK)(u:Value)(s':Shared):Prop:=
 ∃v H',s'.os=s.os/\EX s.gens s'.gens/\Un (frs outer) [] H H' s.heap s'.heap/\rW P w H' s'.heap/\RelV v u/\Q v H'
def CR(CX:Dv)(outer:List Env)(P:Program)(w:World)(H:Hp)(s:Shared)(Q:VK)(E:XK)(r:Result)(s':Shared):Prop:=
 match r with
 | .ok (.ret u)=>CE outer P w H s Q u s'
 | .ok _=>False
 | .error e=>CX outer H s E e s'
structure oV(P:Program)(w:World)(K:PySem.W.Frag)(mg:Str->Option Value)(base:Heap)(CX:Dv)(k:Nat)(f:Addr)(fd:FuncData)(ps:List Str)(sp:Sp):Prop where
 len:∀vs H Q E,sp vs H Q E->vs.length=ps.length
 run:∀(A:Around)(outer:List Env)(s:Shared)(H:Hp)(args:Args)(us:List Value)(vs:List V)(Q:VK)(E:XK),fj k A->IA P w K mg base A outer s H->BindsTo s fd args (ps.zip us) ->Vals vs us->sp vs H Q E->
  codeAny (model P w) A (.call (.ref f) args) (CR CX outer P w H s Q E) s
theorem oV.mono{P:Program}{w:World}{K:PySem.W.Frag}{mg:Str->Option Value}{base:Heap}{CX:Dv}{j k:Nat}{f:Addr}{fd:FuncData}{ps:List Str}{sp:Sp}(F:oV P w K mg base CX j f fd ps sp)(h:j<=k):
  oV P w K mg base CX k f fd ps sp:=⟨F.len,λA outer s H args us vs Q E hr=>F.run A outer s H args us vs Q E (hr.mono h)⟩
section
variable{X:Cx}{pins:List (Addr×Obj)}{σ:St}{H:Hp}{s s':Shared}
theorem Inv.Qx(I:Inv X pins σ H s):IA X.prog X.w X.K X.mg X.base X.A X.stack s H:=
 ⟨I.ok.frames,I.ok.mod,I.bs,Nat.le_trans I.ok.Io I.sz,I.stack,I.rX,I.hok,I.bare.bare⟩
theorem Inv.after{Q:VK}{u:Value}(I:Inv X pins σ H s)(h:CE X.stack X.prog X.w H s Q u s'):EP X pins σ Q u s':=by
 obtain⟨v,H',os,bare,un,hok,r,q⟩:=h
 obtain⟨hh,g,d,t,os'⟩:=s'
 obtain rfl:os'=s.os:=os
 exact⟨v,H',I.call (h':=hh) (g':=g) (d':=d) (t':=t) (ch:=[]) un hok bare (λb z=>absurd z (by simp)),r,q⟩
end
def kI(sp:Sp)(Kp:List V)(E:XK)(t:TA):TE:=λσ H Q=>t σ H λvs H1=>sp (vs++Kp) H1 Q E
def Binds(K:PySem.W.Frag)(fd:FuncData)(ps:List Str)(ds:List Value):Prop:=
 ∀(s:Shared)(us:List Value),K.In s.heap->(us++ds).length=ps.length->BindsTo s fd ⟨us,[]⟩ (ps.zip (us++ds))
theorem Binds.all{K:PySem.W.Frag}{fd:FuncData}{ps:List Str}(h:∀us:List Value,us.length=ps.length->bindArgs fd ⟨us,[]⟩=pure (ps.zip us)):Binds K fd ps []:=λs us _ hl=>by
 rw[List.append_nil]at hl ⊢
 exact .of_eq (h us hl)
def Passes(CX:Dv)(X:Cx)(E:XK):Prop:=∀(pins:List (Addr×Obj))(σ:St)(H:Hp)(s:Shared)(e:Value)(s':Shared),Inv X pins σ H s->CX X.stack H s E e s'->X.xe e s'
section
variable{X:Cx}{CX:Dv}{k:Nat}{f C:Addr}{fd:FuncData}{ps:List Str}{sp:Sp}{Kp:List V}{ds:List Value}{E:XK}{x m:Str}{p pos apos:Pos}{e o:Expr}{es:List Expr}{ta:TE}{t:TA}
theorem Lv{pins:List (Addr×Obj)}{σ:St}{H:Hp}{s:Shared}{Q:VK}{us:List Value}{vs:List V}(F:oV X.prog X.w X.K X.mg X.base CX k f fd ps sp)(hr:fj k X.A)(hb:Binds X.K fd ps ds)(hd:Vals Kp ds)(hx:Passes CX X E)
  (I:Inv X pins σ H s)(r:Vals vs us)(h:sp (vs++Kp) H Q E):wpAny (model X.prog X.w) X.A (call (.ref f) us) (EP X pins σ Q) X.xe s:=by
 have r2:Vals (vs++Kp) (us++ds):=r.append hd
 have hl:(us++ds).length=ps.length:=by rw[<-r2.length];exact F.len _ _ _ _ h
 refine wpAny_call (codeAny_mono (F.run X.A X.stack s H ⟨us,[]⟩ (us++ds) (vs++Kp) Q E hr I.Qx (hb s us I.wU hl) r2 h) λr s' hq=> ?_)
 cases r with
 |error e=>exact hx pins σ H s e s' I hq
 |ok fl=>
  cases fl with
  |ret u=>exact I.after hq
  |next=>exact False.elim hq
  |brk=>exact False.elim hq
  |cont=>exact False.elim hq
theorem ID(F:oV X.prog X.w X.K X.mg X.base CX k f fd ps sp)(hr:fj k X.A)(hg:Gl X x)(hm:X.mg x=some (.ref f))(hk:PySem.W.keepIn X.K (.ref f)=true)(hb:Binds X.K fd ps ds)(hd:Vals Kp ds)(hx:Passes CX X E)
  (ha:PA X (e::es) t)(hdb:(x==("__debug__":Str))=false:=by decide)(he:starEach (e::es) X.env=(false,eval e X.env)::starEach es X.env:=by rfl)(hpl:(backTo pos (starEach es X.env)).any (·.1)=false:=by rfl):
  PE X (.Call (.Name x p) (e::es) [] pos) (kI sp Kp E t):=by
 intro pins s σ H Q I h
 refine wpAny_Call_Name_kw (Cf I hg hm ?_ hdb)
 refine PySem.W.callWith_K (h₀:=X.base) I.ok.mod.MR hk (fP (ha pos pins s σ H _ I h) λus s1 ⟨vs,H1,I1,r,q⟩=>⟨I1.wU,?_⟩) he hpl
 exact Lv F hr hb hd hx I1 r q
end
section
variable{X:Cx}{CX:Dv}{k:Nat}{f C:Addr}{fd:FuncData}{ps ks:List Str}{sp:Sp}{E:XK}{x m:Str}{p pos apos kpos:Pos}{e o:Expr}{es:List Expr}{kws:List Keyword}{te ta:TE}{t tk:TA}{nm:Option Str}
variable{g:List Value->List Value->List Value}{gV:List V->List V->List V}
end
structure aO(N P:List Str)(sc:Scope):Prop where
 kind:sc.kind= .function
 co:sc.isCoroutine=false
 gen:sc.isGenerator=false
 nd:N.Nodup
 pre:N.take P.length=P
 par:∀x∈P,sc.names.lookup x=some .local∨sc.names.lookup x=some .cell
 Lw:∀y∈sc.names,y.2≠ .free
theorem vO{kindOf:Str->Option NameKind}{x:Str}:∀{binds:List (Str×Value)}{m:Str->Option Value},(∀v,(x,v)∉binds) ->bindL kindOf binds m x=m x
 | [],_,_=>rfl
 |(n,v)::r,m,h=>by
  unfold bindL
  rw[vO λw hw=>h w (List.mem_cons_of_mem _ hw)]
  split
  ·have:x≠n:=by rintro rfl;exact h v List.mem_cons_self
   simp[this]
  ·rfl
theorem vP{kindOf:Str->Option NameKind}{x:Str}:∀{binds:List (Str×Value)}{m:Str->Option Value},(∀v,(x,v)∉binds) ->bindC kindOf binds m x=m x
 | [],_,_=>rfl
 |(n,v)::r,m,h=>by
  unfold bindC
  rw[vP λw hw=>h w (List.mem_cons_of_mem _ hw)]
  split
  ·rfl
  ·have:x≠n:=by rintro rfl;exact h v List.mem_cons_self
   simp[this]
theorem vQ{kindOf:Str->Option NameKind}{x:Str}{v:Value}:∀{P:List Str}{vs:List Value}{i:Nat}{m:Str->Option Value},P.Nodup->P[i]?=some x->vs[i]?=some v->kindOf x=some .local->
  bindL kindOf (P.zip vs) m x=some v
 | [],_,_,_,_,h,_,_=>by simp at h
 |_::_,[],_,_,_,_,h,_=>by simp at h
 |p::P,w::vs,0,m,nd,h1,h2,hk=>by
  simp at h1 h2;subst h1;subst h2
  show bindL kindOf ((p,w)::P.zip vs) m p=_
  unfold bindL
  rw[vO λv hv=>(List.nodup_cons.mp nd).1 (List.of_mem_zip hv).1,if_pos hk]
  simp
 |p::P,w::vs,i+1,m,nd,h1,h2,hk=>by
  show bindL kindOf ((p,w)::P.zip vs) m x=_
  unfold bindL
  exact vQ (i:=i) (List.nodup_cons.mp nd).2 (by simpa using h1) (by simpa using h2) hk
theorem vR{kindOf:Str->Option NameKind}{x:Str}{v:Value}:∀{P:List Str}{vs:List Value}{i:Nat}{m:Str->Option Value},P.Nodup->P[i]?=some x->vs[i]?=some v->kindOf x≠some .local->
  bindC kindOf (P.zip vs) m x=some v
 | [],_,_,_,_,h,_,_=>by simp at h
 |_::_,[],_,_,_,_,h,_=>by simp at h
 |p::P,w::vs,0,m,nd,h1,h2,hk=>by
  simp at h1 h2;subst h1;subst h2
  show bindC kindOf ((p,w)::P.zip vs) m p=_
  unfold bindC
  rw[vP λv hv=>(List.nodup_cons.mp nd).1 (List.of_mem_zip hv).1,if_neg hk]
  simp
 |p::P,w::vs,i+1,m,nd,h1,h2,hk=>by
  show bindC kindOf ((p,w)::P.zip vs) m x=_
  unfold bindC
  exact vR (i:=i) (List.nodup_cons.mp nd).2 (by simpa using h1) (by simpa using h2) hk
def start(N:List Str)(vs:List V):St:=vs.map some++List.replicate (N.length-vs.length) none
def wZ(CX:Dv)(P:Program)(w:World)(K:PySem.W.Frag)(mg:Str->Option Value)(base:Heap)(N:List Str)(qual:Str)(scope:Scope)(f:Addr)(cd:Value)(A:Around)(outer:List Env)(s:Shared)(H:Hp)(E:XK):Cx where
 prog:=P
 w:=w
 K:=K
 mg:=mg
 base:=base
 A:=A.deeper (envOfC qual scope s.heap.objs.size f cd)
 N:=N
 s₀:=s
 H₀:=H
 env:=envOfC qual scope s.heap.objs.size f cd
 outer:=outer
 stack:=envOfC qual scope s.heap.objs.size f cd::outer
 ex:=[]
 calm:=true
 fn:=λ_=>true
 pn:=[]
 xe:=λe s'=>wpAny (model P w) (A.deeper (envOfC qual scope s.heap.objs.size f cd)) (leaving (envOfC qual scope s.heap.objs.size f cd) e) (λ_ s''=>CX outer H s E e s'') (λe' s''=>CX outer H s E e' s'') s'
theorem yG{sc:Scope}{n:Nat}{x:Str}(h:sc.names.lookup x=some .cell):∃c,(cellsFrom n sc.names []).lookup x=some c:=by
 have q:=PySem.W.cellsFrom_some sc.names n [] (.inl h)
 exact Option.isSome_iff_exists.mp q
theorem Dw{CX:Dv}{P:Program}{w:World}{K:PySem.W.Frag}{mg:Str->Option Value}{base:Heap}{N ps:List Str}{qual:Str}{scope:Scope}{f:Addr}{cd:Value}{A:Around}{outer:List Env}{s s1:Shared}{H:Hp}{E:XK}{us:List Value}{vs:List V}
  (S:aO N ps scope)(hd:A.handled=none)(e0:IA P w K mg base A outer s H)(hl:vs.length=ps.length)(r:Vals vs us)
  (x:InCallC s s.heap.objs.size (bindL (envOfC qual scope s.heap.objs.size f cd).kindOf (ps.zip us) λ_=>none) (cellsFrom (s.heap.objs.size+1) scope.names []) (bindC (envOfC qual scope s.heap.objs.size f cd).kindOf (ps.zip us) λ_=>none) s1):
  Inv (wZ CX P w K mg base N qual scope f cd A outer s H E) [] (start N vs) H s1:=by
 have hpl:ps.length<=N.length:=by have:=congrArg List.length S.pre;rw[List.length_take]at this;omega
 obtain⟨h1,tk,rfl,hk⟩:=x.done
 have Qy:∀b:Addr,b∉(wZ CX P w K mg base N qual scope f cd A outer s H E).ex:=λb z=>absurd (show b∈([]:List Addr)from z) (by simp)
 refine⟨⟨e0.mod,S.kind,rfl,rfl,Nat.le_refl _,λy z c h1 h2=> ?_,λy hy=> ?_,λy c _ h=> ?_,λ_=>hd,Around.frames_deeper e0.frames,.inr ⟨rfl,rfl⟩,λb z=>absurd z (Qy b),e0.bs,e0.Io,λb _ _=>Qy b,λb z=>absurd z (Qy b),e0.rD,e0.MS⟩,
  rfl,.refl e0.bare,Un.kept hk,⟨_,x.toInCall.ns,λi y v h1 h2 h3=> ?_⟩,λy c h=>⟨_,x.cell y c h⟩,e0.hok.fresh (Nat.le_refl _),λy c h=> ?_,λp hp=>absurd (show p∈([]:List (Addr×Obj))from hp) (by simp),e0.hok.kept hk,?_⟩
 ·exact name_of_addr x.apart (PySem.mem_of_lookup h1) (PySem.mem_of_lookup h2)
 ·have hy:scope.names.lookup y=some .cell∨scope.names.lookup y=some .free:=hy
  rcases hy with hy|hy
  ·exact yG hy
  ·exact absurd rfl (S.Lw _ (PySem.mem_of_lookup hy))
 ·exact Nat.le_of_lt (x.above y c (PySem.mem_of_lookup h))
 ·have hi:i<vs.length:=by
   unfold start at h2
   by_cases hi:i<vs.length
   ·exact hi
   ·rw[List.getElem?_append_right (by simpa using hi)]at h2
    rw[List.getElem?_replicate]at h2
    split at h2<;>cases h2
  have ha:vs[i]?=some v:=by
   unfold start at h2
   rw[List.getElem?_append_left (by simpa using hi),List.getElem?_map]at h2
   cases e:vs[i]? with
   |none=>rw[e]at h2;cases h2
   |some a=>rw[e]at h2;cases h2;rfl
  obtain⟨u,hu,rv⟩:=r.get ha
  have hp:ps[i]?=some y:=by
   rw[<-S.pre,List.getElem?_take_of_lt (by omega)];exact h1
  have Sl:ps.Nodup:=by rw[<-S.pre];exact S.nd.sublist (List.take_sublist _ _)
  refine⟨u,rv,?_⟩
  rcases S.par y (List.mem_of_getElem? hp)with k|k
  ·exact .inl ⟨k,vQ Sl hp hu k⟩
  ·obtain⟨c,e⟩:=yG (n:=s.heap.objs.size+1) k
   refine .inr ⟨.inl k,c,e,?_⟩
   have q:=x.cell y c e
   rw[vR Sl hp hu (by show scope.names.lookup y≠_;rw[k];decide)]at q
   exact q
 ·exact e0.hok.fresh (Nat.le_of_lt (x.above y c (PySem.mem_of_lookup h)))
 ·unfold start
  show _=N.length
  rw[List.length_append,List.length_map,List.length_replicate]
  omega
theorem Kq{CX:Dv}{P:Program}{w:World}{K:PySem.W.Frag}{mg:Str->Option Value}{base:Heap}{k:Nat}{f:Addr}{name qual:Str}{params:Arguments}{body:List Stmt}{scope:Scope}{dV kV doc pm cdv ct oc:Value}{an od:Option Addr}
  {osl:Array (Option Value)}{N ps:List Str}{sp:Sp}(lk:K.lookup f=some ⟨oc,od,.func (PySem.W.fnOf name qual params body scope dV kV doc pm an cdv ct),osl⟩)(hcd:PySem.W.codeIn K cdv qual=true)(S:aO N ps scope)
  (len:∀vs H Q E,sp vs H Q E->vs.length=ps.length)
  (hbody:∀(A:Around)(outer:List Env)(s:Shared)(H:Hp)(vs:List V)(Q:VK)(E:XK),fj k (A.deeper (envOfC qual scope s.heap.objs.size f cdv)) ->sp vs H Q E->
   ∃t,wV (wZ CX P w K mg base N qual scope f cdv A outer s H E) body t/\t {nx:=λ_ H'=>Q .fZ H',rt:=Q} (start N vs) H):
  oV P w K mg base CX (k+1) f (PySem.W.fnOf name qual params body scope dV kV doc pm an cdv ct) ps sp:=by
 refine⟨len,λA outer s H args us vs Q E hr e0 hb r Ii=> ?_⟩
 have hl:=len _ _ _ _ Ii
 have KX:K.In s.heap:=e0.mod.MR.keeps λb o e=>(e0.bs b o e).1
 have lim:s.heap.NoLimit:=e0.mod.nolimit.keeps λb o e=>(e0.bs b o e).1
 have hkind:∀y∈ps.zip us,scope.names.lookup y.1=some .local∨(scope.names.lookup y.1=some .cell/\((cellsFrom (s.heap.objs.size+1) scope.names []).lookup y.1).isSome=true):=λ ⟨n,v⟩ hy=>by
  rcases S.par n (List.of_mem_zip hy).1 with q|q
  ·exact .inl q
  ·exact .inr ⟨q,PySem.W.cellsFrom_some _ _ _ (.inl q)⟩
 refine codeAny_call_function hr.depth (KX _ _ lk) rfl S.co S.gen rfl (PySem.W.codeRec_of KX hcd) (hb _ _ _ _ ?_)
 refine wpAny_newFunctionEnv_cells S.kind hkind λenv he s1 x=> ?_
 subst he
 refine⟨lim.keeps x.toInCall.keep,codeAny_func ?_⟩
 obtain⟨t,ht,hq⟩:=hbody A outer s H vs Q E (hr.deeper _) Ii
 have I:Inv (wZ CX P w K mg base N qual scope f cdv A outer s H E) [] (start N vs) H s1:=Dw S hr.hd e0 hl r x
 refine wpAny_mono (ht [] s1 (start N vs) H _ I hq) (λfl s' hs=> ?_) λe s' hs=>hs
 have fin:∀{σ':St}{H':Hp}{v:V}{u:Value},Inv (wZ CX P w K mg base N qual scope f cdv A outer s H E) [] σ' H' s'->RelV v u->Q v H'->CE outer P w H s Q u s':=
  λ {σ' H' v u} J rv q=>⟨v,H',J.os,J.bare,J.base,J.hok,rv,q⟩
 cases fl with
 |ret u=>
  obtain⟨v,σ',H',J,rv,q⟩:=hs
  exact fin J rv q
 |next=>
  obtain⟨σ',H',J,q⟩:=hs
  exact fin (v:=V.fZ) (u:=Value.none) J rfl q
 |brk=>
  obtain⟨_,_,_,q⟩:=hs
  exact False.elim q
 |cont=>
  obtain⟨_,_,_,q⟩:=hs
  exact False.elim q
section
variable{X:Cx}{x:Str}{p pos:Pos}{e:Expr}{es:List Expr}{t:TA}{id T:String}{r:List V->Hp->VK->Prop}
def MU(r:List V->Hp->VK->Prop)(t:TA):TE:=λσ H Q=>t σ H λvs H1=>r vs H1 Q
theorem cF(hc:nj X (.builtin id) r)(hg:Gl X x)(hm:X.mg x=none)(hv:bootBuiltins x=some (.builtin id))(ha:PA X (e::es) t)(hn:x≠ "__name__":=by decide)(hdb:(x==("__debug__":Str))=false:=by decide)
  (he:starEach (e::es) X.env=(false,eval e X.env)::starEach es X.env:=by rfl)(hpl:(backTo pos (starEach es X.env)).any (·.1)=false:=by rfl):PE X (.Call (.Name x p) (e::es) [] pos) (MU r t):=by
 intro pins s σ H Q I h
 refine wpAny_Call_Name_kw (kX I hg hm hv ?_ hn hdb)
 exact PyProof.Rows.callWith_builtin1 (fP (ha pos pins s σ H _ I h) λus s1 ⟨vs,H1,I1,r1,q1⟩=>hc pins s1 σ H1 vs us Q I1 r1 q1) he hpl
theorem vS(hc:nj X (.type T) r)(hg:Gl X x)(hm:X.mg x=none)(hv:bootBuiltins x=some (.type T))(ha:PA X (e::es) t)(hn:x≠ "__name__":=by decide)(hdb:(x==("__debug__":Str))=false:=by decide)
  (he:starEach (e::es) X.env=(false,eval e X.env)::starEach es X.env:=by rfl)(hpl:(backTo pos (starEach es X.env)).any (·.1)=false:=by rfl):PE X (.Call (.Name x p) (e::es) [] pos) (MU r t):=by
 intro pins s σ H Q I h
 refine wpAny_Call_Name_kw (kX I hg hm hv ?_ hn hdb)
 exact PyProof.Rows.callWith_type1 (fP (ha pos pins s σ H _ I h) λus s1 ⟨vs,H1,I1,r1,q1⟩=>hc pins s1 σ H1 vs us Q I1 r1 q1) he hpl
end
end L2
namespace HT
open PySem PyProof.Rows
def lexLt:List Int->List Int->Bool
 | [],[]=>false
 | [],_::_=>true
 |_::_,[]=>false
 |x::xs,y::ys=>if x=y then lexLt xs ys else decide (x<y)
theorem Ak(x y:Int)(xs ys:List Int):lexLt (x::xs) (y::ys)=if x=y then lexLt xs ys else decide (x<y):=rfl
theorem uW:lexLt [] []=false:=rfl
theorem sQ(y:Int)(ys:List Int):lexLt [] (y::ys)=true:=rfl
theorem sU(x:Int)(xs:List Int):lexLt (x::xs) []=false:=rfl
theorem Fp(A:Around)(s:Shared)(a:Int)(t:Tok)(c:Int)(u:Tok):∃e,SeqAt.EqAt A s (.int a t) (.int c u) e/\(e=true↔a=c):=
 ⟨(a==c),SeqAt.EqAt.int_int a t c u,by simp⟩
theorem Fq(A:Around)(s:Shared)(a:Int)(t:Tok)(c:Int)(u:Tok)(prog:Program)(w:World)(E:Value->Shared->Prop)(Q:Value->Shared->Prop)(h:Q (.bool (decide (a<c))) s):
  wpAny (model prog w) A (richCompare .Lt (.int a t) (.int c u)) Q E s:=
 (PyProof.Rows.lt_int h:wpAny (model prog w) A (compareOp .Lt (.int a t) (.int c u)) Q E s)
section
open PySem.SeqAt
open PySem.AutoSeq1 (wpAny_loadPart')
open PySem.MeetsSeq PySem.MeetsSeq2 PySem.MeetsSeq3
theorem uX(l b:Addr)(items items2:Array Value)(n n2:Nat)(dd dd2:Option Addr)(sl sl2:Array (Option Value))(ns ms:List Int)(hi:IntsAre items.toList ns)(hj:IntsAre items2.toList ms):
  Meets (Builtin.«tuple.__lt__» ⟨[.ref l,.ref b],[]⟩)
   (λ_ R s=>s.heap.get? l=some {cls:= .type "tuple",dict:=dd,data:= .seq items n,slots:=sl}/\s.heap.get? b=some {cls:= .type "tuple",dict:=dd2,data:= .seq items2 n2,slots:=sl2}/\
    R (.ok (.ret (.bool (lexLt ns ms)))) s):=
 .of_wp λprog w A R s h=>by
  obtain⟨hp,g,d,tk,os⟩:=s;obtain⟨hl,hb,h⟩:=h
  have f2:=AutoSeq1.sub_tuple_tuple
  have z1:items.size=ns.length:=by rw[<-hi.length];simp
  have z2:items2.size=ms.length:=by rw[<-hj.length];simp
  wp_walk using wpAny_loadPart' hl,wpAny_loadPart' hb,wpAny_forIn_list _ (λrest b s'=>b.1=none/\s'=⟨hp,g,d,tk,os⟩/\ ∃(vs ws:List Value)(ns' ms':List Int),rest=vs.zip ws/\
   IntsAre vs ns'/\IntsAre ws ms'/\ns'.length+items2.size=ms'.length+items.size/\R (.ok (.ret (.bool (lexLt ns' ms')))) ⟨hp,g,d,tk,os⟩) _
  case turn=>
   rintro⟨y,x⟩ rest b s' ⟨hb',rfl,vs,ws,ns',ms',hz,Qz,hwi,hlen,hR⟩
   cases Qz with
   |nil=>rw[List.zip_nil_left]at hz;cases hz
   |cons a t QA=>
    cases hwi with
    |nil=>rw[List.zip_nil_right]at hz;cases hz
    |cons c u QB=>
     rw[List.zip_cons_cons]at hz
     injection hz with hyx hrest
     injection hyx with hy hx
     subst hy hx
     rw[Ak]at hR
     simp only[List.length_cons]at hlen
     obtain⟨e,he,hiff⟩:=Fp A.in1 ⟨hp,g,d,tk,os⟩ a t c u
     refine wpAny_bind (he prog w _ _ ?_)
     cases e with
     |true=>
      rw[if_pos (hiff.mp rfl)]at hR
      wp_walk
      exact⟨rfl,rfl,_,_,_,_,hrest,QA,QB,by omega,hR⟩
     |false=>
      rw[if_neg (λq=>absurd (hiff.mpr q) Bool.false_ne_true)]at hR
      have Uq:=Fq A.in1 ⟨hp,g,d,tk,os⟩ a t c u prog w
      wp_walk using Uq
      exact⟨_,rfl,by simpa using hR⟩
  case fin=>
   rintro⟨b1,b2⟩ s' ⟨hb',rfl,vs,ws,ns',ms',hz,Qz,hwi,hlen,hR⟩
   simp only at hb'
   subst hb'
   have hv:lexLt ns' ms'=decide (items.size<items2.size):=by
    cases Qz with
    |nil=>
     cases hwi with
     |nil=>
      simp only[List.length_nil]at hlen
      rw[uW]
      exact(decide_eq_false (by omega)).symm
     |cons c u hw=>
      simp only[List.length_nil,List.length_cons]at hlen
      rw[sQ]
      exact(decide_eq_true (by omega)).symm
    |cons a t hv=>
     cases hwi with
     |nil=>
      simp only[List.length_nil,List.length_cons]at hlen
      rw[sU]
      exact(decide_eq_false (by omega)).symm
     |cons c u hw=>
      rw[List.zip_cons_cons]at hz
      cases hz
   rw[hv]at hR
   wp_walk
   exact⟨_,rfl,by simpa [Builtin.Tuple.tupleCompareSizes]using hR⟩
  case h=>
   exact⟨rfl,rfl,items.toList,items2.toList,ns,ms,rfl,hi,hj,by omega,h⟩
end
section
variable{prog:Program}{w:World}{A:Around}{E:Value->Shared->Prop}{s:Shared}
theorem Al{l b:Addr}{items items2:Array Value}{ns ms:List Int}{Q:Value->Shared->Prop}(hl:IsTup s.heap l items)(hb:IsTup s.heap b items2)(hi:IntsAre items.toList ns)(hj:IntsAre items2.toList ms)
  (hu:A.units<cLine)(h:Q (.bool (lexLt ns ms)) s):wpAny (model prog w) A (compareOp .Lt (.ref l) (.ref b)) Q E s:=by
 obtain⟨⟨cls,dd,data,sl⟩,ho,hc,n,hd⟩:=id hl
 obtain⟨⟨NU,dd2,data2,sl2⟩,ho2,hc2,n2,hd2⟩:=id hb
 simp only at hc hd hc2 hd2
 subst hc hd hc2 hd2
 exact richCompare_meets_room (op:= .Lt) ⟨_,ho,rfl⟩ ⟨_,ho2,rfl⟩ PySem.F.slot_tuple_lt PySem.F.entry_tuple_lt (PySem.F.args_tuple_lt_2 _ _) (uX l b items items2 n n2 dd dd2 sl sl2 ns ms hi hj)
  ⟨ho,ho2,show Value.bool (lexLt ns ms)≠Value.notImplemented/\Q (.bool (lexLt ns ms)) s from⟨(λx=>nomatch x),h⟩⟩ hu
def yH(n d:Nat):Option Int->Nat
 |none=>d
 |some v=>if v<0 then(v+(n:Int)).toNat else min v.toNat n
end
end HT
namespace L2
open PySem PySem.Spec PyProof.Rows
abbrev TO:=St->Hp->(Option Int->Hp->Prop) ->Prop
def PO(X:Cx)(e:Option Expr)(t:TO):Prop:=
 ∀(pins:List (Addr×Obj))(s:Shared)(σ:St)(H:Hp)(Q:Option Int->Hp->Prop),Inv X pins σ H s->t σ H Q->
  wpAny (model X.prog X.w) X.A (evalPart e X.env) (λu s'=> ∃o H',Inv X pins σ H' s'/\IsPart u o/\Q o H') X.xe s
def IE:TO:=λ_ H Q=>Q none H
def NV(t:TE):TO:=λσ H Q=>t σ H λx H1=> ∃i,x= .int i/\Q (some i) H1
theorem intsAre_of{ns:List Int}:∀{us:List Value},Vals (ns.map V.int) us->IntsAre us ns:=by
 induction ns with
 |nil=>intro us r;rw[List.map_nil]at r;cases r;exact .nil
 |cons n ns ih=>
  intro us r
  rw[List.map_cons]at r
  cases r with
  |cons r1 r2=>
   obtain⟨t,e⟩:=r1
   subst e
   exact .cons n t (ih r2)
section
variable{X:Cx}{e:Expr}{te:TE}{lo hi:Option Expr}{tl th:TO}{pos p2:Pos}
theorem IF:PO X none IE:=by
 intro pins s σ H Q I h
 rw[evalPart_none]
 exact wpAny_pure ⟨none,H,I,.none,h⟩
theorem II(h:PE X e te):PO X (some e) (NV te):=by
 intro pins s σ H Q I hw
 rw[evalPart_some]
 refine fP (h pins s σ H _ I hw) λu s1 ⟨x,H1,I1,r1,q1⟩=> ?_
 obtain⟨i,rfl,q⟩:=q1
 obtain⟨t,rfl⟩:=r1
 exact⟨some i,H1,I1,.int i t,q⟩
def Sm(X:Cx)(r:V->Option Int->Option Int->Hp->VK->Prop):Prop:=
 ∀(pins:List (Addr×Obj))(s:Shared)(σ:St)(H:Hp)(x:V)(v vl vu:Value)(lo hi:Option Int)(sl:Addr)(Q:VK),Inv X pins σ H s->RelV x v->s.heap.IsSliceOf sl vl vu .none->IsPart vl lo->IsPart vu hi->r x lo hi H Q->
  ∃T id,typeLookup (.type T) "__getitem__"=pure (some (.builtin id))/\s.TypeIs v T/\wpAny (model X.prog X.w) X.A (getItem v (.ref sl)) (EP X pins σ Q) X.xe s
def Ur(r:V->Option Int->Option Int->Hp->VK->Prop)(te:TE)(tl th:TO):TE:=λσ H Q=>te σ H λx H1=>tl σ H1 λl H2=>th σ H2 λu H3=>r x l u H3 Q
theorem Ft{r:V->Option Int->Option Int->Hp->VK->Prop}(hr:Sm X r)(he:PE X e te)(hl:PO X lo tl)(hu:PO X hi th):PE X (.Subscript e (.Slice lo hi none p2) pos) (Ur r te tl th):=by
 intro pins s σ H Q I h
 refine Subscript_ (fP (he pins s σ H _ I h) λv s1 ⟨x,H1,I1,r1,q1⟩=> ?_)
 refine wpAny_Slice (fP (hl pins s1 σ H1 _ I1 q1) λvl s2 ⟨l,H2,I2,pl,q2⟩=>fP (hu pins s2 σ H2 _ I2 q2) λvu s3 ⟨u,H3,I3,pu,q3⟩=> ?_)
 rw[evalPart_none]
 refine wpAny_pure ?_
 have I4:Inv X pins σ H3 {s3 with heap:=s3.heap.push {cls:= .type "slice",data:= .fields #[vl,vu,.none]}}:=I3.kept (t':=s3.toks) λb ob q=>Heap.get?_push_of_some _ q
 obtain⟨T,id,hT,ht,hg⟩:=hr pins {s3 with heap:=s3.heap.push {cls:= .type "slice",data:= .fields #[vl,vu,.none]}} σ H3 x v vl vu l u s3.heap.objs.size Q I4 r1 (Heap.IsSliceOf.new ..) pl pu q3
 show wpAny (model X.prog X.w) X.A (subscriptTail e (.Slice lo hi none p2) v (.ref s3.heap.objs.size)) (EP X pins σ Q) X.xe {s3 with heap:=s3.heap.push {cls:= .type "slice",data:= .fields #[vl,vu,.none]}}
 exact tail_any (ops:=[.ref s3.heap.objs.size,v]) ht hT hg (by with_unfolding_all rfl)
def Am(xs:List V)(lo hi:Option Int):List V:=(xs.drop (HT.yH xs.length 0 lo)).take (HT.yH xs.length xs.length hi-HT.yH xs.length 0 lo)
theorem yI(xs:List V)(lo hi:Option Int):(Am xs lo hi).length<=xs.length:=by
 unfold Am
 rw[List.length_take,List.length_drop]
 omega
def QC(K:PySem.W.Frag):R2:=λx y H Q=> ∃a b ns ms,x= .ref a/\y= .ref b/\m8 K H a (ns.map V.int)/\m8 K H b (ms.map V.int)/\Q (.bl (HT.lexLt ns ms)) H
theorem Ly(hu:X.A.units<cLine):p7 X (compareOp .Lt) (QC X.K):=by
 intro pins s σ H x y v u Q I rx ry h
 obtain⟨a,b,ns,ms,rfl,rfl,ha,hb,q⟩:=h
 cases rx
 cases ry
 obtain⟨its,r1,p1,_⟩:=I.tuple ha
 obtain⟨its2,r2,p2,_⟩:=I.tuple hb
 have i1:IntsAre its.toArray.toList ns:=intsAre_of r1
 have i2:IntsAre its2.toArray.toList ms:=intsAre_of r2
 exact HT.Al p1 p2 i1 i2 hu ⟨.bl (HT.lexLt ns ms),H,I,rfl,q⟩
end
def Kr(n:Nat)(i:Int):Option Nat:=if 0<=i then(if i<n then some i.toNat else none)else if-(n:Int)<=i then some (i+n).toNat else none
def yv{α:Type}(xs:List α)(i:Int):Option α:=(Kr xs.length i).bind λj=>xs[j]?
theorem Cp{n:Nat}{i:Int}{j:Nat}(h:Kr n i=some j):seqIndex? i n=some j/\j<n/\ -(n:Int)<=i/\i<n:=by
 unfold Kr at h
 by_cases h0:0<=i
 ·rw[if_pos h0]at h
  by_cases h1:i<n
  ·rw[if_pos h1]at h
   have e:i.toNat=j:=Option.some.inj h
   exact⟨by rw[seqIndex_of h0 h1,e],by omega,by omega,h1⟩
  ·rw[if_neg h1]at h;cases h
 ·rw[if_neg h0]at h
  by_cases h1: -(n:Int)<=i
  ·rw[if_pos h1]at h
   have e:(i+n).toNat=j:=Option.some.inj h
   exact⟨by rw[seqIndex_neg (by omega) h1,e],by omega,h1,by omega⟩
  ·rw[if_neg h1]at h;cases h
theorem Cq{α:Type}{xs:List α}{i:Int}{v:α}(h:yv xs i=some v):∃j,seqIndex? i xs.length=some j/\xs[j]?=some v/\j<xs.length/\ -(xs.length:Int)<=i/\i<xs.length:=by
 unfold yv at h
 cases e:Kr xs.length i with
 |none=>rw[e]at h;cases h
 |some j=>
  rw[e]at h
  obtain⟨h1,h2,h3,h4⟩:=Cp e
  exact⟨j,h1,h,h2,h3,h4⟩
theorem Cr{α:Type}{xs:List α}{j:Nat}{v:α}(h:xs[j]?=some v):yv xs (j:Int)=some v:=by
 have hj:j<xs.length:=(List.getElem?_eq_some_iff.mp h).1
 have e:Kr xs.length (j:Int)=some j:=by
  unfold Kr
  rw[if_pos (by omega),if_pos (by omega)];simp
 unfold yv;rw[e];exact h
def IJ(b:Expr):Prop:=∀o i,subscripted b false o i=operate [o,i] (getItem o i)
def QD(X:Cx)(r:R2):Prop:=
 ∀(value slice:Expr)(pins:List (Addr×Obj))(s:Shared)(σ:St)(H:Hp)(x y:V)(v u:Value)(Q:VK),Inv X pins σ H s->RelV x v->RelV y u->r x y H Q->
  subscripted slice false v u=operate [v,u] (getItem v u) ->wpAny (model X.prog X.w) X.A (subscriptTail value slice v u) (EP X pins σ Q) X.xe s
def QE(X:Cx)(id:String)(r:V->List V->Hp->VK->Prop):Prop:=
 ∀(pins:List (Addr×Obj))(s:Shared)(σ:St)(H:Hp)(x:V)(xs:List V)(v:Value)(us:List Value)(Q:VK),Inv X pins σ H s->RelV x v->Vals xs us->r x xs H Q->
  wpAny (model X.prog X.w) X.A (call (.builtin id) (v::us)) (EP X pins σ Q) X.xe s
section
variable{X:Cx}{a b:Expr}{ta tb:TE}{pos:Pos}
theorem aJ{r:R2}(hr:QD X r)(ha:PE X a ta)(hb:PE X b tb)(hs:IJ b):PE X (.Subscript a b pos) (jV r ta tb):=by
 intro pins s σ H Q I h
 exact Subscript_ (Lp ha hb I h λv u s2 x y H2 I2 rx ry q=>hr a b pins s2 σ H2 x y v u Q I2 rx ry q (hs _ _))
inductive QF(K:PySem.W.Frag)(x y:V)(H:Hp)(Q:VK):Prop
 |mk(p:Addr)(xs:List V)(i:Int)(v:V)(ex:x= .ref p)(ey:y= .int i)(s:aW K H p xs)(a:yv xs i=some v)(q:Q v H)
def jk(K:PySem.W.Frag):R2:=QF K
inductive QG(K:PySem.W.Frag)(x y:V)(H:Hp)(Q:VK):Prop
 |mk(p:Addr)(xs:List V)(i:Int)(v:V)(ex:x= .ref p)(ey:y= .int i)(s:m8 K H p xs)(a:yv xs i=some v)(q:Q v H)
def QH(K:PySem.W.Frag):R2:=QG K
theorem aA:QD X (jk X.K):=by
 intro value slice pins s σ H x y v u Q I rx ry h hs
 obtain⟨p,xs,i,z,rfl,rfl,hq,he,q⟩:=h
 cases rx
 obtain⟨t,rfl⟩:=ry
 obtain⟨its,r,pl,hz⟩:=I.list hq
 obtain⟨j,h1,h2,h3,h4,h5⟩:=Cq he
 obtain⟨w,ew,rw'⟩:=r.get h2
 have hl:=r.length
 have hn:=wY
 have fin:EP X pins σ Q w s:=⟨z,H,I,rw',q⟩
 by_cases h0:0<=i
 ·have hj:i.toNat=j:=by
   rw[seqIndex_of h0 h5]at h1
   exact Option.some.inj h1
  exact item_listR pl.isList h0 (by omega) (by rw[hj];simpa using ew) fin hs
 ·have hj:(i+(its.toArray.size:Int)).toNat=j:=by
   rw[seqIndex_neg (by omega) h4]at h1
   rw[List.size_toArray,<-hl]
   exact Option.some.inj h1
  exact subscriptTail_builtinR (x:=w) pl.isList.typeIs slot_list_getitem.lookup
   (wpAny_getItem_list_neg (Q:=λr s'=>r=w/\EP X pins σ Q r s') pl.isList (by omega) (by rw[List.size_toArray]<;>omega) (by omega) (by rw[hj];simpa using ew) ⟨rfl,fin⟩) hs
theorem Lz:QD X (QH X.K):=by
 intro value slice pins s σ H x y v u Q I rx ry h hs
 obtain⟨p,xs,i,z,rfl,rfl,hq,he,q⟩:=h
 cases rx
 obtain⟨t,rfl⟩:=ry
 obtain⟨its,r,pl,hz⟩:=I.tuple hq
 obtain⟨j,h1,h2,h3,h4,h5⟩:=Cq he
 obtain⟨w,ew,rw'⟩:=r.get h2
 have hl:=r.length
 have hn:=wY
 have fin:EP X pins σ Q w s:=⟨z,H,I,rw',q⟩
 exact subscriptTail_builtinR (x:=w) pl.typeIs slot_tuple_getitem.lookup
  (getItem_tuple (j:=j) (Q:=λr s'=>r=w/\EP X pins σ Q r s') pl (by omega) (by omega) (by rw[List.size_toArray,<-hl];exact h1) (by simpa using ew) ⟨rfl,fin⟩) hs
theorem An(its:List Value)(n j:Nat)(u:Value):Obj.mapSeq (·.setIfInBounds j u) {cls:= .type "list",data:= .seq its.toArray n}={cls:= .type "list",data:= .seq (its.set j u).toArray n}:=by
 simp[Obj.mapSeq]
theorem Inv.lst{pins:List (Addr×Obj)}{σ:St}{H:Hp}{s:Shared}{p:Addr}{xs:List V}(I:Inv X pins σ H s)(h:H p=some (.lst xs)):
  ∃(its:List Value)(n:Nat),Vals xs its/\s.heap.get? p=some {cls:= .type "list",data:= .seq its.toArray n}/\xs.length<=sizeLine:=by
 obtain⟨z,its,n,r,e⟩:=I.hok p _ h
 exact⟨its,n,r,e,z⟩
theorem Inv.LA{pins:List (Addr×Obj)}{σ:St}{H:Hp}{s:Shared}{p:Addr}{xs ys:List V}{its its':List Value}{n n':Nat}{f:Obj->Obj}(I:Inv X pins σ H s)(h:H p=some (.lst xs))
  (ho:s.heap.get? p=some {cls:= .type "list",data:= .seq its.toArray n})(hf:f {cls:= .type "list",data:= .seq its.toArray n}={cls:= .type "list",data:= .seq its'.toArray n'})(r:Vals ys its')(hz:ys.length<=sizeLine)(t:Nat):
  Inv X pins σ (upd H p (.lst ys)) {s with heap:=s.heap.update p f,toks:=t}:=by
 have e:(s.heap.update p f).get? p=some {cls:= .type "list",data:= .seq its'.toArray n'}:=by
  rw[Heap.get?_update_self f ho (by rw[hf]<;>rfl),hf]
 refine I.write (x:=p) (e:=p) (by rw[h];trivial) (.inl rfl) (λb u hb q=>(Heap.get?_update_other _ _ (Ne.symm hb)).trans q) ⟨_,e⟩ ?_
 exact⟨hz,its',n',r,e⟩
def NW:V->V->V->Hp->(Hp->Prop) ->Prop:=λo i v H Q=> ∃p xs k j,o= .ref p/\i= .int k/\H p=some (.lst xs)/\Kr xs.length k=some j/\Q (upd H p (.lst (xs.set j v)))
theorem set_list:NF X NW:=by
 intro pins s σ H o i v ov iv u Q I ro ri rv h
 obtain⟨p,xs,k,j,rfl,rfl,hp,hj,q⟩:=h
 cases ro
 obtain⟨t,rfl⟩:=ri
 obtain⟨its,n,r,ho,hz⟩:=I.lst hp
 obtain⟨h1,h2,h3,h4⟩:=Cp hj
 have hl:=r.length
 have hn:=wY
 have I':Inv X pins σ (upd H p (.lst (xs.set j v))) {s with heap:=s.heap.update p (Obj.mapSeq (·.setIfInBounds j u))}:=
  I.LA hp ho (An its n j u) (r.set rv j) (by rw[List.length_set];exact hz) s.toks
 by_cases h0:0<=k
 ·have hk:k.toNat=j:=by
   rw[seqIndex_of h0 h4]at h1
   exact Option.some.inj h1
  exact PySem.W.ki_setAt ho h0 (by omega) (by rw[List.size_toArray,<-hl];exact h4) (by rw[hk];exact⟨_,I',q⟩)
 ·have hk:(k+(its.toArray.size:Int)).toNat=j:=by
   rw[seqIndex_neg (by omega) h3]at h1
   rw[List.size_toArray,<-hl]
   exact Option.some.inj h1
  exact PySem.W.ki_setBack ho (by omega) (by rw[List.size_toArray,<-hl];exact h3) (by omega) (by rw[hk];exact⟨_,I',q⟩)
theorem w5(lo hi:Option Int)(n:Nat):(sliceBounds lo hi none n).1=((HT.yH n 0 lo:Nat):Int)/\(sliceBounds lo hi none n).2.1=((HT.yH n n hi:Nat):Int)/\(sliceBounds lo hi none n).2.2=1:=by
 refine⟨?_,?_,rfl⟩
 ·cases lo with
  |none=>simp[sliceBounds,HT.yH]
  |some i=>
   simp only[sliceBounds,HT.yH,Option.getD_none,show(1:Int)>0 by decide,if_true]
   by_cases h:i<0
   ·simp only[h,if_true]<;>omega
   ·simp only[h,if_false]<;>omega
 ·cases hi with
  |none=>simp[sliceBounds,HT.yH]
  |some i=>
   simp only[sliceBounds,HT.yH,Option.getD_none,show(1:Int)>0 by decide,if_true]
   by_cases h:i<0
   ·simp only[h,if_true]<;>omega
   ·simp only[h,if_false]<;>omega
theorem uY(its:List Value)(lo hi:Option Int):slicePick its.toArray lo hi none=((its.drop (HT.yH its.length 0 lo)).take (HT.yH its.length its.length hi-HT.yH its.length 0 lo)).toArray:=by
 obtain⟨h1,h2,h3⟩:=w5 lo hi its.toArray.size
 unfold slicePick
 rw[h1,h2,h3]
 simp only[sliceRange_one,pick_run,List.size_toArray]<;>rfl
def QI(K:PySem.W.Frag):V->Option Int->Option Int->Hp->VK->Prop:=λx lo hi H Q=> ∃a xs,x= .ref a/\aW K H a xs/\ ∀p,H p=none->Q (.ref p) (upd H p (.lst (Am xs lo hi)))
theorem IK:Sm X (QI X.K):=by
 intro pins s σ H x v vl vu lo hi sl Q I rx hs pl pu h
 obtain⟨a,xs,rfl,hx,q⟩:=h
 cases rx
 obtain⟨its,r,ht,hz⟩:=I.list hx
 have hlen:=r.length
 refine⟨"list",_,slot_list_getitem.lookup,ht.isList.typeIs,?_⟩
 refine wpAny_getItem_list_slice ht.isList hs pl pu .none (by simp) ?_ (by rw[List.size_toArray]<;>omega)
 rw[uY,<-hlen]
 refine⟨.ref s.heap.objs.size,_,I.laid (t':=s.toks) (o:= .lst (Am xs lo hi)) (λb ob q=>Heap.get?_push_of_some _ q) (Nat.le_refl _) ?_,rfl,q _ (I.hok.fresh (Nat.le_refl _))⟩
 exact⟨Nat.le_trans (yI xs lo hi) hz,_,0,(r.drop (HT.yH xs.length 0 lo)).take (HT.yH xs.length xs.length hi-HT.yH xs.length 0 lo),Heap.get?_push_size _ rfl⟩
def qY:V->Bool
 | .fZ=>true
 | .bl _=>true
 | .int _=>true
 | .str _=>true
 |_=>false
def IL:V->V->Bool
 | .fZ,.fZ=>true
 | .bl a,.bl b=>a==b
 | .bl a,.int b=>(if a then 1 else 0)==b
 | .int a,.bl b=>a==(if b then 1 else 0)
 | .int a,.int b=>a==b
 | .str a,.str b=>a==b
 |_,_=>false
theorem LB{A:Around}{s:Shared}{y x:V}{u v:Value}(ry:RelV y u)(rx:RelV x v)(fy:qY y=true)(fx:qY x=true):SeqAt.EqAt A s u v (IL y x):=by
 cases y with
 |fZ=>
  cases ry
  cases x with
  |fZ=>cases rx;exact SeqAt.EqAt.same _
  |bl b=>cases rx;exact SeqAt.EqAt.none_bool b
  |int b=>obtain⟨t,rfl⟩:=rx;exact SeqAt.EqAt.none_int b t
  |str b=>obtain⟨t,rfl⟩:=rx;exact SeqAt.EqAt.none_str b t
  |_=>exact absurd (show false=true from fx) Bool.false_ne_true
 |bl a=>
  cases ry
  cases x with
  |fZ=>cases rx;exact SeqAt.EqAt.bool_none a
  |bl b=>cases rx;exact SeqAt.EqAt.bool_bool a b
  |int b=>obtain⟨t,rfl⟩:=rx;exact SeqAt.EqAt.bool_int a b t
  |str b=>obtain⟨t,rfl⟩:=rx;exact SeqAt.EqAt.bool_str a b t
  |_=>exact absurd (show false=true from fx) Bool.false_ne_true
 |int a=>
  obtain⟨t',rfl⟩:=ry
  cases x with
  |fZ=>cases rx;exact SeqAt.EqAt.int_none a t'
  |bl b=>cases rx;exact SeqAt.EqAt.int_bool a t' b
  |int b=>obtain⟨t,rfl⟩:=rx;exact SeqAt.EqAt.int_int a t' b t
  |str b=>obtain⟨t,rfl⟩:=rx;exact SeqAt.EqAt.int_str a t' b t
  |_=>exact absurd (show false=true from fx) Bool.false_ne_true
 |str a=>
  obtain⟨t',rfl⟩:=ry
  cases x with
  |fZ=>cases rx;exact SeqAt.EqAt.str_none a t'
  |bl b=>cases rx;exact SeqAt.EqAt.str_bool a t' b
  |int b=>obtain⟨t,rfl⟩:=rx;exact SeqAt.EqAt.str_int a t' b t
  |str b=>obtain⟨t,rfl⟩:=rx;exact SeqAt.EqAt.str_str a t' b t
  |_=>exact absurd (show false=true from fx) Bool.false_ne_true
 |_=>exact absurd (show false=true from fy) Bool.false_ne_true
def IM(x:V)(u:Value):Bool:=match u with
 | .none=>IL .fZ x
 | .bool b=>IL (.bl b) x
 | .int i _=>IL (.int i) x
 | .str z _=>IL (.str z) x
 |_=>false
theorem Fv{x y:V}{u:Value}(r:RelV y u)(f:qY y=true):IM x u=IL y x:=by
 cases y with
 |fZ=>cases r;rfl
 |bl b=>cases r;rfl
 |int i=>obtain⟨t,rfl⟩:=r;rfl
 |str z=>obtain⟨t,rfl⟩:=r;rfl
 |_=>exact absurd (show false=true from f) Bool.false_ne_true
theorem w9{x:V}:∀{xs:List V}{us:List Value},Vals xs us->xs.all qY=true->us.any (IM x)=xs.any λy=>IL y x
 |_,_,.nil,_=>rfl
 |y::xs,u::us,.cons r t,f=>by
  rw[List.all_cons,Bool.and_eq_true]at f
  rw[List.any_cons,List.any_cons,Fv r f.1,w9 t f.2]
theorem sV{A:Around}{s:Shared}{x:V}{v:Value}(rx:RelV x v)(fx:qY x=true):∀{xs:List V}{us:List Value},Vals xs us->xs.all qY=true-> ∀u∈us,SeqAt.EqAt A s u v (IM x u)
 |_,_,.nil,_=>λu hu=>by cases hu
 |y::xs,u::us,.cons r t,f=>λu' hu=>by
  rw[List.all_cons,Bool.and_eq_true]at f
  rcases List.mem_cons.mp hu with rfl|hu
  ·rw[Fv r f.1];exact LB r rx f.1 fx
  ·exact sV rx fx t f.2 u' hu
def Ks(x:V)(xs:List V):Bool:=xs.any λy=>IL y x
def Us(K:PySem.W.Frag)(neg:Bool):R2:=λx y H Q=> ∃p xs,y= .ref p/\(aW K H p xs∨m8 K H p xs)/\qY x=true/\xs.all qY=true/\Q (.bl (if neg then !Ks x xs else Ks x xs)) H
theorem Dy:p7 X (compareOp .In) (Us X.K false):=by
 intro pins s σ H x y v u Q I rx ry h
 obtain⟨p,xs,rfl,hq,fx,fs,q⟩:=h
 cases ry
 rcases hq with hq|hq
 ·obtain⟨its,r,pl,hz⟩:=I.list hq
  refine SeqAt.in_listAt (IM x) pl.isList (λw hw=>sV rx fx r fs w (by simpa using hw)) ⟨.bl _,H,I,rfl,?_⟩
  rw[show its.toArray.any (IM x)=its.any (IM x)by simp,w9 r fs]
  exact q
 ·obtain⟨its,r,pl,hz⟩:=I.tuple hq
  refine SeqAt.in_tupleAt (IM x) pl (λw hw=>sV rx fx r fs w (by simpa using hw)) ⟨.bl _,H,I,rfl,?_⟩
  rw[show its.toArray.any (IM x)=its.any (IM x)by simp,w9 r fs]
  exact q
theorem eX:nj X (.builtin "len") (λxs H Q=> ∃p ys,xs=[.ref p]/\(aW X.K H p ys∨m8 X.K H p ys)/\Q (.int ys.length) H):=by
 intro pins s σ H xs us Q I r h
 obtain⟨p,ys,rfl,hq,q⟩:=h
 obtain⟨u,rfl,rx⟩:=vals1 r
 cases rx
 have hn:=wY
 rcases hq with hq|hq
 ·obtain⟨its,r',pl,hz⟩:=I.list hq
  have hlen:=r'.length
  exact Calls.call_len_list pl.isList (by simp only[List.size_toArray]<;>omega) ⟨.int ys.length,H,I.tok _,⟨s.toks+1,by rw[List.size_toArray,hlen]⟩,q⟩
 ·obtain⟨its,r',pl,hz⟩:=I.tuple hq
  have hlen:=r'.length
  exact len_tuple pl (by simp only[List.size_toArray]<;>omega) ⟨.int ys.length,H,I.tok _,⟨s.toks+1,by rw[List.size_toArray,hlen]⟩,q⟩
theorem xg:nj X (.type "list") (λxs H Q=> ∃p ys,xs=[.ref p]/\(aW X.K H p ys∨m8 X.K H p ys)/\ ∀l,H l=none->Q (.ref l) (upd H l (.lst ys))):=by
 intro pins s σ H xs us Q I r h
 obtain⟨p,ys,rfl,hq,q⟩:=h
 obtain⟨u,rfl,rx⟩:=vals1 r
 cases rx
 have fin:∀(its:List Value),Vals ys its->ys.length<=sizeLine-> ∀(h':Heap)(c':Nat),(∀b o',s.heap.get? b=some o'->h'.get? b=some o') ->
   h'.get? s.heap.objs.size=some {cls:= .type "list",dict:=none,data:= .seq its.toArray c',slots:= #[]} ->EP X pins σ Q (.ref s.heap.objs.size) {s with heap:=h'}:=λits r' hz h' c' kp e=>
  ⟨.ref s.heap.objs.size,_,I.laid (t':=s.toks) kp (Nat.le_refl _) (show eO X.prog X.w _ h' _ (.lst ys)from⟨hz,its,c',r',e⟩),rfl,q _ (I.hok.fresh (Nat.le_refl _))⟩
 rcases hq with hq|hq
 ·obtain⟨its,r',pl,hz⟩:=I.list hq
  have hlen:=r'.length
  obtain⟨o,ho,hc,n,hd⟩:=pl.isList
  exact call_list_seq p (.inl rfl) ho hc hd (λh' c' kp e=>fin its r' hz h' c' kp e) (by simp only[List.size_toArray]<;>omega)
 ·obtain⟨its,r',pl,hz⟩:=I.tuple hq
  have hlen:=r'.length
  obtain⟨o,ho,hc,n,hd⟩:=pl
  exact call_list_seq p (.inr rfl) ho hc hd (λh' c' kp e=>fin its r' hz h' c' kp e) (by simp only[List.size_toArray]<;>omega)
def QJ(K:PySem.W.Frag)(T:String)(x:V)(H:Hp):Prop:=match x with
 | .str _=>T= "str"
 | .int _=>T= "int"
 | .ref p=>(T= "list"/\ ∃xs,aW K H p xs)∨(T= "tuple"/\ ∃o,K.lookup p=some o/\o.cls= .type "tuple"/\o.dict=none)∨
   (T= "dict"/\((∃kvs,H p=some (.dK kvs))∨ ∃kvs,H p=some (.dT kvs)))∨(T= "set"/\ ∃S n,H p=some (.set S n))
 |_=>False
theorem Fw{pins:List (Addr×Obj)}{σ:St}{H:Hp}{s:Shared}{T:String}{x:V}{v:Value}(I:Inv X pins σ H s)(r:RelV x v)(ty:QJ X.K T x H):
  s.TypeIs v T/\ ∀a,v= .ref a-> ∃ob,s.heap.get? a=some ob/\ob.dict=none:=by
 cases x with
 |str z=>
  obtain⟨t,rfl⟩:=r
  cases(show T= "str" from ty)
  exact⟨typeIs_str s z t,λ_ e=>nomatch e⟩
 |int i=>
  obtain⟨t,rfl⟩:=r
  cases(show T= "int" from ty)
  exact⟨typeIs_int s i t,λ_ e=>nomatch e⟩
 |ref p=>
  cases r
  rcases ty with⟨rfl,xs,hq⟩|⟨rfl,o,hk,hc,hd⟩|⟨rfl,hk⟩|⟨rfl,S,n,hk⟩
  ·obtain⟨its,_,pl,_⟩:=I.list hq
   refine⟨pl.isList.typeIs,λa e=> ?_⟩
   cases e
   obtain⟨o,n,e,c,hd,_⟩:=pl
   exact⟨o,e,hd⟩
  ·refine⟨⟨o,I.wU p o hk,hc⟩,λa e=> ?_⟩
   cases e
   exact⟨o,I.wU _ o hk,hd⟩
  ·have z:∃o,s.heap.get? p=some o/\o.ExactDict:=by
    rcases hk with⟨kvs,hk⟩|⟨kvs,hk⟩
    ·obtain⟨_,_,_,_,o,_,_,e,ex,_⟩:=I.hok p _ hk
     exact⟨o,e,ex⟩
    ·obtain⟨_,_,_,_,o,_,_,e,ex,_⟩:=I.hok p _ hk
     exact⟨o,e,ex⟩
   obtain⟨o,e,ex⟩:=z
   refine⟨⟨o,e,ex.1⟩,λa e2=> ?_⟩
   cases e2
   exact⟨o,e,ex.2.1⟩
  ·obtain⟨o,_,_,_,e,ex,_⟩:=I.hok p _ hk
   refine⟨⟨o,e,ex.1⟩,λa e2=> ?_⟩
   cases e2
   exact⟨o,e,ex.2.1⟩
 |_=>exact False.elim ty
def QK(K:PySem.W.Frag)(T:String)(r:V->List V->Hp->VK->Prop)(to:TE):TE:=λσ H Q=>to σ H λx H1=>QJ K T x H1/\r x [] H1 Q
def Ut(K:PySem.W.Frag)(T:String)(r:V->List V->Hp->VK->Prop)(to:TE)(t:TA):TE:=λσ H Q=>to σ H λx H1=>QJ K T x H1/\t σ H1 λxs H2=>r x xs H2 Q
variable{o e:Expr}{es:List Expr}{to:TE}{t:TA}{name:Str}{apos cpos:Pos}{T id:String}{r:V->List V->Hp->VK->Prop}
theorem LC(pa:PlainAttrs T)(slot:Slot T name id)(hty:typeOf (.builtin id)=pure (.type "method_descriptor"))(hm:QE X id r)(ho:PE X o to)
  (hbase:attributeBase o name X.env (eval o X.env)=eval o X.env:=by rfl)(hline:(apos.endLine==cpos.line)=true:=by rfl):PE X (.Call (.Attribute o name apos) [] [] cpos) (QK X.K T r to):=by
 intro pins s σ H Q I h
 refine wpAny_Call_method0_late hbase hline (fP (ho pins s σ H _ I h) λv s1 ⟨x,H1,I1,r1,ty,q1⟩=> ?_)
 obtain⟨h1,h2⟩:=Fw I1 r1 ty
 exact⟨T,id,pa,slot,hty,h1,h2,Calls.callWith_builtin rfl (PySem.evalArgs_none (hm pins s1 σ H1 x [] v [] Q I1 r1 .nil q1))⟩
theorem Fx(pa:PlainAttrs T)(slot:Slot T name id)(hty:typeOf (.builtin id)=pure (.type "method_descriptor"))(hm:QE X id r)(ho:PE X o to)(ha:PA X (e::es) t)
  (hbase:attributeBase o name X.env (eval o X.env)=eval o X.env:=by rfl)
  (hfew:((backTo cpos (starEach (e::es) X.env)).all (λx=> !x.1) && (backToKw cpos (keywordEach [] X.env)).all (λx=>x.1.isSome)
   && decide ((e::es).length+([]:List Keyword).length+(if([]:List Keyword).isEmpty then 0 else 1)<30))=true:=by rfl)
  (hline:(apos.endLine==cpos.line)=true:=by rfl)(hs:starEach (e::es) X.env=(false,eval e X.env)::starEach es X.env:=by rfl)(hplain:(backTo cpos (starEach es X.env)).any (·.1)=false:=by rfl):
  PE X (.Call (.Attribute o name apos) (e::es) [] cpos) (Ut X.K T r to t):=by
 intro pins s σ H Q I h
 refine wpAny_Call_method_late hbase hfew hline rfl (fP (ho pins s σ H _ I h) λv s1 ⟨x,H1,I1,r1,ty,q1⟩=> ?_)
 obtain⟨h1,h2⟩:=Fw I1 r1 ty
 refine⟨T,id,pa,slot,hty,h1,h2,?_⟩
 have hA:=ha cpos pins s1 σ H1 _ I1 q1
 rw[hs]at hA ⊢
 refine Calls.callWith_builtin (by show(false||(backTo cpos (starEach es X.env)).any (·.1))=false;rw[hplain]<;>rfl) (Calls.evalArgs_plain ?_)
 exact fP hA λus s2 ⟨vs,H2,I2,r2,q2⟩=>hm pins s2 σ H2 x vs v us Q I2 r1 r2 q2
end
def Uu(X:Cx)(id:String)(r:V->List V->Hp->VK->Prop):Prop:=
 ∀(pins:List (Addr×Obj))(s:Shared)(σ:St)(H:Hp)(x:V)(xs:List V)(v:Value)(us:List Value)(Q:VK),Inv X pins σ H s->RelV x v->Vals xs us->r x xs H Q->
  wpAny (model X.prog X.w) X.A (call (.builtin id) (v::us)) (EP X pins σ Q) X.xe s
theorem Vals.one:∀{x:V}{us:List Value},Vals [x] us-> ∃u,us=[u]/\RelV x u
 |_,_,.cons r .nil=>⟨_,rfl,r⟩
theorem Vals.two:∀{x y:V}{us:List Value},Vals [x,y] us-> ∃u v,us=[u,v]/\RelV x u/\RelV y v
 |_,_,_,.cons r (.cons q .nil)=>⟨_,_,rfl,r,q⟩
theorem Vals.zero:∀{us:List Value},Vals [] us->us=[]
 |_,.nil=>rfl
section
variable{X:Cx}{pins:List (Addr×Obj)}{σ:St}{H:Hp}{s:Shared}{l b:Addr}{xs ys zs:List V}
theorem Inv.QL{its its':List Value}{n:Nat}{f:Array Value->Array Value}{t':Nat}(I:Inv X pins σ H s)(hH:H l=some (.lst xs))
  (e:s.heap.get? l=some {cls:= .type "list",data:= .seq its.toArray n})(hf:f its.toArray=its'.toArray)(hv:Vals ys its')(hz:ys.length<=sizeLine):
  Inv X pins σ (upd H l (.lst ys)) {s with heap:=s.heap.update l (Obj.mapSeq f),toks:=t'}:=by
 have q:=PySem.IsL.update e f
 rw[hf]at q
 refine I.write (x:=l) (e:=l) (by rw[hH];exact trivial) (.inl rfl) (λb' u hb hu=>(Heap.get?_update_other s.heap (Obj.mapSeq f) (Ne.symm hb)).trans hu) ⟨_,q⟩ ?_
 exact⟨hz,its',_,hv,q⟩
theorem Inv.fresh(I:Inv X pins σ H s):H s.heap.objs.size=none:=I.hok.fresh (Nat.le_refl _)
theorem Inv.QM(I:Inv X pins σ H s)(hH:H l=some (.lst xs)):xs.length<=sizeLine/\ ∃(its:List Value)(n:Nat),Vals xs its/\xs.length=its.length/\s.heap.get? l=some {cls:= .type "list",data:= .seq its.toArray n}:=by
 obtain⟨z,its,n,r,e⟩:=I.hok l _ hH
 exact⟨z,its,n,r,r.length,e⟩
end
section
variable{X:Cx}
def IP:V->List V->Hp->VK->Prop:=λx vs H Q=> ∃l xs y,x= .ref l/\vs=[y]/\H l=some (.lst xs)/\xs.length<sizeLine/\Q .fZ (upd H l (.lst (xs++ [y])))
theorem jo:Uu X "list.append" IP:=by
 intro pins s σ H x vs v us Q I rx rv h
 obtain⟨l,xs,y,rfl,rfl,hH,hz,q⟩:=h
 cases rx
 obtain⟨u,rfl,ru⟩:=rv.one
 obtain⟨z,its,n,r,hl,e⟩:=I.QM hH
 refine call_meets F.slot_list_append ⟨_,e,rfl⟩ F.entry_list_append (F.args_list_append_2 _ _) (PySem.list_append l its.toArray n u (by rw[List.size_toArray];omega)) ⟨e,?_⟩
 refine⟨.fZ,_,I.QL (its':=its++ [u]) hH e (by simp) (r.append (.cons ru .nil)) ?_,rfl,q⟩
 rw[List.length_append,List.length_singleton]
 omega
end
section
variable{prog:Program}{w:World}{A:Around}{E:Value->Shared->Prop}{s:Shared}
end
section
variable{X:Cx}
end
end L2
namespace Sn
open PySem PySem.W PySem.Calls PyProof.Rows
theorem rE{P:Params}{h:Heap}:∀(ns:List Int)(vs:List Value),WellAll P h vs (ns.map WData.int) ->IntsAre vs ns:=by
 intro ns
 induction ns with
 |nil=>
  intro vs w
  rw[List.map_nil]at w
  cases w
  exact .nil
 |cons n ns ih=>
  intro vs w
  rw[List.map_cons]at w
  cases w with
  |cons a b=>
   cases a
   exact .cons _ _ (ih _ b)
theorem Dz{l:OpenLaw}{n:Nat}(hn:l.most=some n){P:Params}{h:Heap}{args:List WData}{vals:List Value}
  (hpre:l.row.toRowW.claim.pre args=true)(hwl:WellAll P h vals args):
  ∃a vs ns,vals=[Value.ref a]/\args=[WData.list (ns.map WData.int)]/\h.get? a=some {cls:= .type "list",data:= .seq vs.toArray}/\IntsAre vs ns/\ns.length<=n:=by
 have hsh:WShape.hasAll [] args [.list .int]=true:=(pre_splitW hpre).1
 have hc:l.pre.holds [] {args:=args}=true:=(pre_splitW hpre).2
 obtain⟨d,r,rfl,h1,h2⟩:=hasAllW_cons hsh
 obtain rfl:=hasAllW_nil h2
 obtain⟨xs,rfl,h3⟩:=hasW_list h1
 obtain⟨ns,rfl⟩:=items_int h3
 have hlen:ns.length<=n:=by
  unfold OpenLaw.pre at hc
  have h4:(WTm.not (.lt (.lit (.int (n:Int))) (.len (.arg 0)))).holds [] {args:=[.list (ns.map .int)]}=true:=by
   have h4:=(holds_andW hc).1
   rw[hn]at h4
   exact h4
  have h5:=condW_of h4 (w_not (w_lt w_lit (w_len_list (w_arg rfl))))
  rw[List.length_map]at h5
  refine Nat.le_of_not_lt λq=> ?_
  have q':(n:Int)<((ns.length:Nat):Int):=by omega
  first
   |(rw[decide_eq_true q']at h5;exact absurd h5 (by decide))
   |(simp at h5;omega)
 cases hwl with
 |cons w1 w2=>
  cases w2
  cases w1 with
  |list ho hall=>exact⟨_,_,ns,rfl,rfl,ho,rE ns _ hall,hlen⟩
theorem DC(l:OpenLaw)(args:List WData):l.row.toRowW.claim.post args (.bool true) args=true:=
 postW_of (r:=l.row.toRowW) (X:=(true==true))
  (show WShape.has [] (.bool true) .bool=true by first|rfl|decide|simp[WShape.has,WShape.arms,WShape.armsAll])
  (show(WTm.eq .res (.lit (.bool true))).value [] {args:=args,res:=some (.bool true),after:=args}=some (.bool (true==true))from w_eq_bool (w_res rfl) w_lit) rfl
theorem yJ{l:OpenLaw}{n:Nat}{q:Program}{loose:List Str}{XP:(Str->Option Value) ->Heap->Prop}{YP:World->Heap->Prop}{d:DefRec}
  (hn:l.most=some n)(hdf:d.params.defaults=[])
  (call:∀(w:World)(s₀ s₁:Shared)(mg mb:Str->Option Value)(fa:Addr)(o:Obj)(pm cd doc:Value)(a:Addr)(vs:List Value)(ns:List Int),
   Ground q loose [] XP w s₀ mg mb s₁.heap->YP w s₁.heap->
   s₁.heap.get? fa=some o->o.data= .func (docDef d.name d.params d.body d.scope pm cd doc) ->s₁.heap.CodeRec cd d.name->mg d.name=some (.ref fa) ->
   s₁.heap.get? a=some {cls:= .type "list",data:= .seq vs.toArray} ->IntsAre vs ns->ns.length<=n->s₁.gens= #[] ->
   codeAny (model l.prog w) callerA (.call (.ref fa) ⟨[.ref a],[]⟩) (λr s'=>r= .ok (.ret (.bool true))/\OldK s₁.heap s'.heap/\s'.os=s₁.os/\AllBare s'.gens) s₁):
  WalkO q loose XP YP l.row.toRowW d [] (λf vs=>PySem.call f vs):=by
 intro w s₀ s₁ mg mb G Y fa o pm cd doc dV kV ho hd hcd hD hmg hg args vals as hpre hlay hrd hwl hlo
 obtain rfl:dV= .none:=Dflts.none hD hdf
 obtain rfl:kV= .none:=Dflts.noKw hD
 obtain⟨a,vs,ns,rfl,rfl,hobj,hints,hlen⟩:=Dz hn hpre hwl
 refine enter_call (codeAny_mono (call w s₀ s₁ mg mb fa o pm cd doc a vs ns G Y ho (fd_plain hd) hcd hmg hobj hints hlen hg) λr s' hq=> ?_)
 obtain⟨rfl,h2,h3,h4⟩:=hq
 exact⟨.inl ⟨.bool true,.bool true,[],rfl,λ_=>rfl,.bool true,DC l _,λ_=>⟨List.Pairwise.nil,λ_ hm=>(nomatch hm)⟩⟩,h2,h3,h4⟩
section
variable{prog:Program}{w:World}{A:Around}{E:Value->Shared->Prop}{s:Shared}{K:Frag}
def ledger(h:Heap)(L d:Addr):List (Addr×Obj):=(List.range h.objs.size).filterMap λa=>if a=L∨a=d then none else(h.get? a).map λo=>(a,o)
end
end Sn
namespace L2
open PySem PySem.Spec PyProof.Rows
theorem vU:∀{vs:List Value}{ns:List Int},IntsAre vs ns->Vals (ns.map V.int) vs
 |_,_,.nil=> .nil
 |_,_,.cons n t h=> .cons ⟨t,rfl⟩ (vU h)
abbrev VV{K:PySem.W.Frag}{h:Heap}(_:K.In h):PySem.W.Frag:=K
def gm(s:Stmt):Arguments:=match s with
 | .FunctionDef _ a _ _ _ _ _ _ _ _=>a
 |_=>{posonlyargs:=[],args:=[],vararg:=none,kwonlyargs:=[],kw_defaults:=[],kwarg:=none,defaults:=[]}
def eK(s:Stmt):List Stmt:=match s with
 | .FunctionDef _ _ b _ _ _ _ _ _ _=>b
 |_=>[]
def aB(s:Stmt):Scope:=match s with
 | .FunctionDef _ _ _ _ _ _ sc _ _ _=>sc
 |_=>{kind:= .function,names:=[],isGenerator:=false,isCoroutine:=false}
abbrev cS:Dv:=λ_ _ _ _ _ _=>False
abbrev E0:XK:=λ_ _ _=>False
theorem aL{X:Cx}:Passes cS X E0:=λ_ _ _ _ _ _ _ h=>h.elim
structure Ku(K:PySem.W.Frag)(x qual:Str)(st:Stmt)(f:Addr)(fd:FuncData):Prop where
 ex:∃(oc:Value)(od:Option Addr)(kV doc pm:Value)(an:Option Addr)(cdv ct:Value)(osl:Array (Option Value)),
  fd=PySem.W.fnOf x qual (gm st) (eK st) (aB st) .none kV doc pm an cdv ct/\K.lookup f=some ⟨oc,od,.func fd,osl⟩/\PySem.W.codeIn K cdv qual=true
 kp:PySem.W.keepIn K (.ref f)=true
section
variable{P:Program}{w:World}{K:PySem.W.Frag}{mg:Str->Option Value}{base:Heap}
theorem Ku.ok{x qual:Str}{st:Stmt}{f:Addr}{fd:FuncData}{N ps:List Str}{k:Nat}{sp:Sp}(F:Ku K x qual st f fd)(S:aO N ps (aB st))(len:∀vs H Q E,sp vs H Q E->vs.length=ps.length)
  (hbody:∀(cdv:Value)(A:Around)(outer:List Env)(s:Shared)(H:Hp)(vs:List V)(Q:VK)(E:XK),fj k (A.deeper (envOfC qual (aB st) s.heap.objs.size f cdv)) ->sp vs H Q E->
   ∃t,wV (wZ cS P w K mg base N qual (aB st) f cdv A outer s H E).ER (eK st) t/\t {nx:=λ_ H'=>Q .fZ H',rt:=Q} (start N vs) H):oV P w K mg base cS (k+1) f fd ps sp:=by
 obtain⟨oc,od,kV,doc,pm,an,cdv,ct,osl,rfl,lk,hcd⟩:=F.ex
 refine Kq lk hcd S len λA outer s H vs Q E hr Ii=> ?_
 obtain⟨t,h,q⟩:=hbody cdv A outer s H vs Q E hr Ii
 exact⟨t,h.ER,q⟩
theorem Ku.binds{x qual:Str}{st:Stmt}{f:Addr}{fd:FuncData}{ps:List Str}(F:Ku K x qual st f fd)
  (h:∀(kV doc pm:Value)(an:Option Addr)(cdv ct:Value)(us:List Value),us.length=ps.length->bindArgs (PySem.W.fnOf x qual (gm st) (eK st) (aB st) .none kV doc pm an cdv ct) ⟨us,[]⟩=pure (ps.zip us)):Binds K fd ps []:=by
 obtain⟨oc,od,kV,doc,pm,an,cdv,ct,osl,rfl,lk,hcd⟩:=F.ex
 exact .all (h kV doc pm an cdv ct)
theorem Fy{x qual:Str}{st:Stmt}{f:Addr}{oc:Value}{od an:Option Addr}{osl:Array (Option Value)}{kV doc pm cdv ct:Value}(l:K.lookup f=some ⟨oc,od,.func (PySem.W.fnOf x qual (gm st) (eK st) (aB st) .none kV doc pm an cdv ct),osl⟩)
  (c:PySem.W.codeIn K cdv qual=true)(k:PySem.W.keepIn K (.ref f)=true):Ku K x qual st f (PySem.W.fnOf x qual (gm st) (eK st) (aB st) .none kV doc pm an cdv ct):=⟨⟨oc,od,kV,doc,pm,an,cdv,ct,osl,rfl,l,c⟩,k⟩
end
section
variable{X:Cx}
theorem pv(i:Nat){x:Str}{pos:Pos}(hN:X.N[i]?=some x:=by rfl)(hv:Km X.env.scope x:=by first|exact Or.inl rfl|exact Or.inr (Or.inl rfl)|exact Or.inr (Or.inr rfl))(hd:(x==("__debug__":Str))=false:=by decide)
  (hcd:(x==("__classdict__":Str))=false:=by decide):PE X (.Name x pos) (bK i):=Lh hN hv hd hcd
end
theorem nF{A B:Prop}(h:B):if false=true then A else B:=by
 rw[if_neg Bool.false_ne_true]
 exact h
theorem sW{A B:Prop}(h:A):if true=true then A else B:=by
 rw[if_pos rfl]
 exact h
theorem lW{c A B:Prop}[Decidable c](h1:c->A)(h2:¬c->B):if c then A else B:=by
 by_cases h:c
 ·rw[if_pos h]
  exact h1 h
 ·rw[if_neg h]
  exact h2 h
theorem sX{c A B:Prop}[Decidable c](hc:c)(h:B):if(!decide c)=true then A else B:=by
 rw[decide_eq_true hc]
 exact nF h
def av(H H':Hp):Prop:=∀b o,H b=some o->H' b=some o
theorem av.refl(H:Hp):av H H:=λ_ _ h=>h
theorem av.trans{H H1 H2:Hp}(a:av H H1)(b:av H1 H2):av H H2:=λc o h=>b c o (a c o h)
theorem av.free{H H':Hp}(e:av H H'){l:Addr}(h:H' l=Option.none):H l=Option.none:=by
 cases q:H l with
 |none=>rfl
 |some o=>
  rw[e l o q]at h
  cases h
theorem av.seq{K:PySem.W.Frag}{H H':Hp}{a:Addr}{xs:List V}(e:av H H')(h:aW K H a xs):aW K H' a xs:=by
 rcases h with(h|⟨o,h⟩)|h
 ·exact .inl (.inl (e _ _ h))
 ·exact .inl (.inr ⟨o,e _ _ h⟩)
 ·exact .inr h
def cg(env:Env):List (Str×NameKind) ->List (Str×Addr) ->List (Str×Addr)
 | [],acc=>acc
 |(n,k)::r,acc=>if k== .free then cg env r ((n,(env.cells.lookup n).getD 0)::acc)else cg env r acc
theorem nG{env:Env}(f:Str×NameKind->List (Str×Addr) ->Sem (ForInStep (List (Str×Addr))))
  (hf:∀n k cs,f (n,k) cs=if k==NameKind.free then(do let a<-cellOf env n;pure (.yield ((n,a)::cs)))else pure (.yield cs)):
  ∀(ns:List (Str×NameKind))(acc:List (Str×Addr)),(∀y∈ns,y.2= .free->(env.cells.lookup y.1).isSome=true) ->forIn ns acc f=pure (cg env ns acc)
 | [],acc,_=>by rw[List.forIn_nil];rfl
 |(n,k)::r,acc,h=>by
  rw[List.forIn_cons,hf]
  have hr:∀y∈r,y.2= .free->(env.cells.lookup y.1).isSome=true:=λy hy=>h y (List.mem_cons_of_mem _ hy)
  unfold cg
  by_cases hk:(k==NameKind.free)=true
  ·rw[if_pos hk,if_pos hk]
   obtain⟨c,hc⟩:=Option.isSome_iff_exists.mp (h (n,k) List.mem_cons_self (beq_iff_eq.mp hk))
   have hc':env.cells.lookup n=some c:=hc
   have e:cellOf env n=pure c:=by unfold cellOf;rw[hc']
   rw[e,pure_bind,pure_bind,hc']
   exact nG f hf r _ hr
  ·rw[if_neg hk,if_neg hk,pure_bind]
   exact nG f hf r _ hr
theorem uZ{env:Env}{scope:Scope}(h:∀y∈scope.names,y.2= .free->(env.cells.lookup y.1).isSome=true):closureFor scope env=pure (cg env scope.names []):=by
 simp only[closureFor]
 rw[nG (env:=env) _ (λn k cs=>by cases hk:k==NameKind.free<;>simp[hk]) _ _ h]
 rfl
theorem jx{env:Env}{y:Str}{c:Addr}:∀{ns:List (Str×NameKind)}{acc:List (Str×Addr)},(y,c)∈cg env ns acc->(y,c)∈acc∨((y,NameKind.free)∈ns/\c=(env.cells.lookup y).getD 0)
 | [],acc,h=> .inl h
 |(n,k)::r,acc,h=>by
  unfold cg at h
  split at h
  ·rename_i hk
   rcases jx h with h|⟨h,e⟩
   ·rcases List.mem_cons.mp h with e|h
    ·cases e
     exact .inr ⟨by rw[beq_iff_eq.mp hk];exact List.mem_cons_self,rfl⟩
    ·exact .inl h
   ·exact .inr ⟨List.mem_cons_of_mem _ h,e⟩
  ·rcases jx h with h|⟨h,e⟩
   ·exact .inl h
   ·exact .inr ⟨List.mem_cons_of_mem _ h,e⟩
theorem j5{env:Env}{y:Str}:∀{ns:List (Str×NameKind)}{acc:List (Str×Addr)},acc.lookup y=some ((env.cells.lookup y).getD 0)∨(y,NameKind.free)∈ns->(cg env ns acc).lookup y=some ((env.cells.lookup y).getD 0)
 | [],acc,h=>by
  rcases h with h|h
  ·exact h
  ·cases h
 |(n,k)::r,acc,h=>by
  unfold cg
  split
  ·rename_i hk
   refine j5 ?_
   by_cases hy:y=n
   ·subst hy
    exact .inl (by simp[List.lookup])
   ·have hb:(y==n)=false:=by simpa using hy
    rcases h with h|h
    ·exact .inl (by rw[List.lookup_cons,hb];exact h)
    ·rcases List.mem_cons.mp h with e|h
     ·cases e;exact absurd rfl hy
     ·exact .inr h
  ·rename_i hk
   refine j5 ?_
   rcases h with h|h
   ·exact .inl h
   ·rcases List.mem_cons.mp h with e|h
    ·cases e;exact absurd rfl hk
    ·exact .inr h
theorem fQ{y:Str}:∀{ns:List (Str×NameKind)}{n:Nat}{acc:List (Str×Addr)},(y,NameKind.cell)∉ns->(cellsFrom n ns acc).lookup y=acc.lookup y
 | [],_,_,_=>rfl
 |(z,k)::r,n,acc,h=>by
  unfold cellsFrom
  have hr:(y,NameKind.cell)∉r:=λq=>h (List.mem_cons_of_mem _ q)
  split
  ·rename_i hk
   rw[fQ hr]
   have hy:(y==z)=false:=by
    cases e:y==z with
    |false=>rfl
    |true=>exact absurd (by rw[beq_iff_eq.mp e,beq_iff_eq.mp hk];exact List.mem_cons_self) h
   rw[List.lookup_cons,hy]
  ·exact fQ hr
theorem j6{y:Str}{c:Addr}:∀{ns:List (Str×NameKind)}{n:Nat}{acc:List (Str×Addr)},(y,c)∈cellsFrom n ns acc->(y,c)∈acc∨(n<=c/\(y,NameKind.cell)∈ns)
 | [],_,_,h=> .inl h
 |(z,k)::r,n,acc,h=>by
  unfold cellsFrom at h
  split at h
  ·rename_i hk
   rcases j6 h with h|⟨h,e⟩
   ·rcases List.mem_cons.mp h with e|h
    ·cases e
     exact .inr ⟨Nat.le_refl _,by rw[beq_iff_eq.mp hk];exact List.mem_cons_self⟩
    ·exact .inl h
   ·exact .inr ⟨by omega,List.mem_cons_of_mem _ e⟩
  ·rcases j6 h with h|⟨h,e⟩
   ·exact .inl h
   ·exact .inr ⟨h,List.mem_cons_of_mem _ e⟩
theorem j7:∀{ns:List (Str×NameKind)}{n:Nat}{acc:List (Str×Addr)},(∀x y c,(x,c)∈acc->(y,c)∈acc->x=y) ->(∀y c,(y,c)∈acc->c<n) ->
  ∀x y c,(x,c)∈cellsFrom n ns acc->(y,c)∈cellsFrom n ns acc->x=y
 | [],_,_,h,_=>h
 |(z,k)::r,n,acc,h,hl=>by
  unfold cellsFrom
  split
  ·refine j7 (λx y c h1 h2=> ?_) (λy c h1=> ?_)
   ·rcases List.mem_cons.mp h1 with e1|h1<;>rcases List.mem_cons.mp h2 with e2|h2
    ·cases e1;cases e2;rfl
    ·cases e1;exact absurd (hl _ _ h2) (Nat.lt_irrefl _)
    ·cases e2;exact absurd (hl _ _ h1) (Nat.lt_irrefl _)
    ·exact h x y c h1 h2
   ·rcases List.mem_cons.mp h1 with e1|h1
    ·cases e1;exact Nat.lt_succ_self _
    ·exact Nat.lt_succ_of_lt (hl _ _ h1)
  ·exact j7 h hl
theorem iO:∀(ns:List (Str×NameKind))(h:Heap)(acc:List (Str×Addr))(y:Str)(c:Addr),(y,c)∈cellsFrom h.objs.size ns acc->(y,c)∈acc∨(pushCells h ns).IsCell c none
 | [],_,_,_,_,hm=> .inl hm
 |(z,k)::r,h,acc,y,c,hm=>by
  unfold cellsFrom at hm
  unfold pushCells
  split at hm
  ·rename_i hk
   rw[if_pos hk]
   have hm':(y,c)∈cellsFrom (h.push {cls:= .type "cell",data:= .cell none}).objs.size r ((z,h.objs.size)::acc):=by rw[Heap.size_push];exact hm
   rcases iO r _ _ y c hm' with hm|hm
   ·rcases List.mem_cons.mp hm with e|hm
    ·cases e
     exact .inr ⟨_,pushCells_keeps _ _ _ _ (Heap.get?_push_size _ rfl),rfl⟩
    ·exact .inl hm
   ·exact .inr hm
  ·rename_i hk
   rw[if_neg hk]
   exact iO r h acc y c hm
def kindB(names:List (Str×NameKind))(y:Str)(k:NameKind):Bool:=names.lookup y==some k
def sY:List Str->Bool
 | []=>true
 |x::r=> !r.contains x && sY r
theorem nH:∀{l:List Str},sY l=true->l.Nodup
 | [],_=>List.nodup_nil
 |x::r,h=>by
  unfold sY at h
  rw[Bool.and_eq_true]at h
  refine List.nodup_cons.mpr ⟨λhm=> ?_,nH h.2⟩
  have:r.contains x=true:=List.contains_iff_mem.mpr hm
  rw[this]at h
  exact absurd h.1 (by decide)
def Ao:List Str->List Str->(Str->Str->Bool) ->Bool
 | [],[],_=>true
 |x::r,y::t,p=>p x y && Ao r t p
 |_,_,_=>false
theorem yK:∀{l m:List Str}{p:Str->Str->Bool},Ao l m p=true->l.length=m.length
 | [],[],_,_=>rfl
 | [],_::_,_,h=>by cases h
 |_::_,[],_,h=>by cases h
 |x::r,y::t,p,h=>by
  unfold Ao at h
  rw[Bool.and_eq_true]at h
  simp[yK h.2]
theorem yL:∀{l m:List Str}{p:Str->Str->Bool},Ao l m p=true-> ∀(i:Nat)(x:Str),l[i]?=some x-> ∃y,m[i]?=some y/\p x y=true
 | [],[],_,_,i,x,h=>by simp at h
 | [],_::_,_,h,_,_,_=>by cases h
 |_::_,[],_,h,_,_,_=>by cases h
 |x::r,y::t,p,h,0,z,e=>by
  unfold Ao at h
  rw[Bool.and_eq_true]at h
  simp at e;subst e
  exact⟨y,rfl,h.1⟩
 |x::r,y::t,p,h,i+1,z,e=>by
  unfold Ao at h
  rw[Bool.and_eq_true]at h
  obtain⟨w,e1,e2⟩:=yL h.2 i z (by simpa using e)
  exact⟨w,by simpa using e1,e2⟩
def xh(names ks:List (Str×NameKind))(own N2 N:List Str):Bool:=
 names.all (λy=>y.2 != .free||kindB ks y.1 .cell||kindB ks y.1 .free) &&
 sY (names.map (·.1)) && sY (own++N2) &&
 names.all (λy=> !(y.2== .local||y.2== .cell)||own.contains y.1||y.1==(".0":Str)) &&
 Ao N2 N (λy z=>(y==z && y !=(".0":Str))||names.lookup y==none) &&
 own.all (λx=>kindB names x .local||kindB names x .cell)
structure nI(names ks:List (Str×NameKind))(own N2 N:List Str):Prop where
 fr:∀y,(y,NameKind.free)∈names->ks.lookup y=some .cell∨ks.lookup y=some .free
 nd:(names.map (·.1)).Nodup
 IQ:(own++N2).Nodup
 owns:∀y k,(y,k)∈names->k= .local∨k= .cell->y∈own∨y=(".0":Str)
 zip:∀(j:Nat)(y:Str),N2[j]?=some y->(N[j]?=some y/\y≠(".0":Str))∨names.lookup y=none
 len:N2.length=N.length
 own:∀x∈own,names.lookup x=some .local∨names.lookup x=some .cell
theorem g9{names ks:List (Str×NameKind)}{own N2 N:List Str}(h:xh names ks own N2 N=true):nI names ks own N2 N:=by
 unfold xh at h
 simp only[Bool.and_eq_true]at h
 obtain⟨⟨⟨⟨⟨h1,h2⟩,h3⟩,h4⟩,h5⟩,h6⟩:=h
 refine⟨λy hy=> ?_,nH h2,nH h3,λy k hy hk=> ?_,λj y e=> ?_,yK h5,λx hx=> ?_⟩
 ·have q:=List.all_eq_true.mp h1 _ hy
  simp only[Bool.or_eq_true]at q
  rcases q with(q|q)|q
  ·exact absurd q (by simp)
  ·exact .inl (by simpa [kindB]using q)
  ·exact .inr (by simpa [kindB]using q)
 ·have q:=List.all_eq_true.mp h4 _ hy
  simp only[Bool.or_eq_true]at q
  rcases q with(q|q)|q
  ·rcases hk with rfl|rfl<;>simp at q
  ·exact .inl (List.contains_iff_mem.mp q)
  ·exact .inr (by simpa using q)
 ·obtain⟨z,e1,e2⟩:=yL h5 j y e
  simp only[Bool.or_eq_true,Bool.and_eq_true]at e2
  rcases e2 with⟨e2,e3⟩|e2
  ·exact .inl ⟨by rw[e1,beq_iff_eq.mp e2],by simpa using e3⟩
  ·exact .inr (by simpa using e2)
 ·have q:=List.all_eq_true.mp h6 _ hx
  simp only[Bool.or_eq_true]at q
  rcases q with q|q
  ·exact .inl (by simpa [kindB]using q)
  ·exact .inr (by simpa [kindB]using q)
theorem bZ{α:Type}:∀{l:List (Str×α)}{y:Str}{k:α},(l.map (·.1)).Nodup->(y,k)∈l->l.lookup y=some k
 |(z,v)::r,y,k,nd,h=>by
  rw[List.map_cons,List.nodup_cons]at nd
  rw[List.lookup_cons]
  rcases List.mem_cons.mp h with e|h'
  ·cases e;simp
  ·have:(y==z)=false:=by
    cases e:y==z with
    |false=>rfl
    |true=>
     have e':y=z:=beq_iff_eq.mp e
     have q:y∈r.map (λx=>x.1):=List.mem_map.mpr ⟨(y,k),h',rfl⟩
     exact absurd (by rw[<-e'];exact q) nd.1
   rw[this]
   exact bZ nd.2 h'
theorem jl{sc:Scope}{env:Env}{y:Str}:∀{ns:List (Str×NameKind)},
  (ns.map λ (n,k)=>if(k==NameKind.free && env.scope.kind== .function && env.kindOf n==some .cell)then(n,NameKind.cell)else(n,k)).lookup y=
   (ns.lookup y).map λk=>if(k==NameKind.free && env.scope.kind== .function && env.kindOf y==some .cell)then .cell else k
 | []=>rfl
 |(n,k)::r=>by
  have ih:= @jl sc env y r
  rw[List.map_cons,List.lookup_cons]
  show List.lookup y ((if(k==NameKind.free && env.scope.kind== .function && env.kindOf n==some .cell)=true then(n,NameKind.cell)else(n,k))::_)=_
  cases hx:y==n with
  |true=>
   have e:y=n:=beq_iff_eq.mp hx
   subst e
   by_cases hc:(k==NameKind.free && env.scope.kind== .function && env.kindOf y==some .cell)=true
   ·rw[if_pos hc]
    simp only[List.lookup_cons,hx,Option.map_some,if_pos hc]
   ·rw[if_neg hc]
    simp only[List.lookup_cons,hx,Option.map_some,if_neg hc]
  |false=>
   by_cases hc:(k==NameKind.free && env.scope.kind== .function && env.kindOf n==some .cell)=true
   ·rw[if_pos hc];simp only[List.lookup_cons,hx];exact ih
   ·rw[if_neg hc];simp only[List.lookup_cons,hx];exact ih
def Cx.comp(X:Cx)(sc:Scope)(N':List Str)(s:Shared)(H:Hp)(fp:List Addr):Cx:=
 {X with
  N:=N'
  s₀:=s
  H₀:=H
  env:=compEnvC sc (cellsFrom (s.heap.objs.size+2) sc.names (cg X.env sc.names [])) (s.heap.objs.size+1) X.env
  outer:=X.stack
  ex:=fp
  fn:=λy=>sc.names.lookup y==some .cell
  pn:=[]
  xe:=λ_ _=>False}
section
variable{X:Cx}{pins:List (Addr×Obj)}{σ:St}{H:Hp}{s:Shared}{sc:Scope}{own N2:List Str}{fp:List Addr}
theorem jy(I:Inv X pins σ H s)(B:nI sc.names X.env.scope.names own N2 X.N):∀y,(y,NameKind.free)∈sc.names-> ∃c,X.env.cells.lookup y=some c:=λy hy=>by
 rcases B.fr y hy with q|q
 ·exact I.ok.has y (.inl q)
 ·exact I.ok.has y (.inr q)
theorem mW(I:Inv X pins σ H s)(B:nI sc.names X.env.scope.names own N2 X.N):closureFor sc X.env=pure (cg X.env sc.names []):=
 uZ λy hy hk=>by
  obtain⟨c,e⟩:=jy I B y.1 (by rw[<-hk];exact hy)
  rw[e];rfl
theorem iH(I:Inv X pins σ H s)(B:nI sc.names X.env.scope.names own N2 X.N){n:Nat}{y:Str}{c:Addr}(h:(y,c)∈cellsFrom n sc.names (cg X.env sc.names [])):
  (n<=c/\(y,NameKind.cell)∈sc.names)∨((y,NameKind.free)∈sc.names/\X.env.cells.lookup y=some c):=by
 rcases j6 h with h|h
 ·rcases jx h with h|⟨h,e⟩
  ·cases h
  ·obtain⟨c',e'⟩:=jy I B y h
   rw[e']at e
   exact .inr ⟨h,by rw[e',e];rfl⟩
 ·exact .inl h
theorem kZ(I:Inv X pins σ H s)(B:nI sc.names X.env.scope.names own N2 X.N){n:Nat}{y:Str}{c:Addr}(hy:(y,NameKind.free)∈sc.names)(hc:X.env.cells.lookup y=some c):
  (cellsFrom n sc.names (cg X.env sc.names [])).lookup y=some c:=by
 rw[fQ,j5 (.inr hy),hc]
 ·rfl
 ·intro q
  have e1:=bZ B.nd hy
  rw[bZ B.nd q]at e1
  cases e1
theorem DE(I:Inv X pins σ H s)(B:nI sc.names X.env.scope.names own N2 X.N){n:Nat}(hn:s.heap.objs.size<=n){x y:Str}{c:Addr}(h1:(x,c)∈cellsFrom n sc.names (cg X.env sc.names []))
  (h2:(y,c)∈cellsFrom n sc.names (cg X.env sc.names [])):x=y:=by
 have old:∀z c,(z,c)∈cg X.env sc.names [] ->X.env.cells.lookup z=some c:=λz c hm=>by
  rcases jx hm with h|⟨h,e⟩
  ·cases h
  ·obtain⟨c',e'⟩:=jy I B z h
   rw[e']at e
   rw[e',e];rfl
 refine j7 (λx y c h1 h2=>I.ok.inj x y c (old _ _ h1) (old _ _ h2)) (λz c hm=> ?_) x y c h1 h2
 obtain⟨v,q⟩:=I.cell z c (old _ _ hm)
 exact Nat.lt_of_lt_of_le q.lt hn
theorem xj(I:Inv X pins σ H s)(B:nI sc.names X.env.scope.names own N2 X.N){n:Nat}{env':Env}{h':Heap}{m:Str->Option Value}{j:Nat}{y:Str}{v:V}(hN:N2[j]?=some y)(hs:σ[j]?=some (some v))
  (hcl:env'.cells=cellsFrom n sc.names (cg X.env sc.names []))(hkd:∀y,(y,NameKind.free)∈sc.names->env'.kindOf y=some .cell∨env'.kindOf y=some .free)
  (hin:Km env'.scope y-> ∃k,sc.names.lookup y=some k)(hown:y∉own)
  (keep:∀b o,s.heap.get? b=some o->h'.get? b=some o)(hv:Km env'.scope y)(hk2:∀k,sc.names.lookup y=some k->k= .local∨k= .cell∨k= .free):∃u,RelV v u/\Look env' h' m y u:=by
 obtain⟨k,hk⟩:=hin hv
 rcases B.zip j y hN with⟨e,n0⟩|e
 ·have hm:=mem_of_lookup hk
  have kf:k= .free:=by
   rcases hk2 k hk with z|z|z
   ·rcases B.owns y k hm (.inl z)with q|q
    ·exact absurd q hown
    ·exact absurd q n0
   ·rcases B.owns y k hm (.inr z)with q|q
    ·exact absurd q hown
    ·exact absurd q n0
   ·exact z
  subst kf
  have hX:Km X.env.scope y:=by
   rcases B.fr y hm with q|q
   ·exact .inr (.inl q)
   ·exact .inr (.inr q)
  obtain⟨m0,_,hl⟩:=I.loc
  obtain⟨u,r,l⟩:=hl j y v e hs hX
  refine⟨u,r,.inr ⟨hkd y hm,?_⟩⟩
  rcases l with⟨kl,_⟩|⟨_,c,hc,z⟩
  ·rcases B.fr y hm with q|q
   ·have NX:X.env.scope.names.lookup y=some .local:=kl
    rw[q]at NX;cases NX
   ·have NX:X.env.scope.names.lookup y=some .local:=kl
    rw[q]at NX;cases NX
  ·exact⟨c,by rw[hcl];exact kZ I B hm hc,z.keeps keep⟩
 ·rw[hk]at e;cases e
end
theorem gD{M:Model}{A:Around}{E:Value->Shared->Prop}{s:Shared}{sc:Scope}{g:Addr}{cl:List (Str×Addr)}{qual:Str}{env:Env}{Q:Env->Shared->Prop}
  (h:Q {scope:=sc,locals:=s.heap.objs.size,globals:=g,cells:=cellsFrom (s.heap.objs.size+1) sc.names cl,qual:=qual,func:=none,code:=env.code,frame:=env.frame,builtins:=env.builtins}
   {s with heap:=pushCells (s.heap.push {cls:= .type "dict",data:= .dict #[]}) sc.names}):
  wpAny M A (newFunctionEnv sc g cl [] qual none .none (some env)) Q E s:=by
 simp only[newFunctionEnv,Option.isSome_some,if_true]
 refine wpAny_bind (wpAny_alloc ?_)
 refine wpAny_bind (wpAny_layCells _ (λname kind cells=>by cases hkc:kind==NameKind.cell<;>simp[hkc]) _ _ _ _ ?_)
 rw[show({s with heap:=s.heap.push {cls:= .type "dict",data:= .dict #[]}}:Shared).heap.objs.size=s.heap.objs.size+1 from Heap.size_push ..]
 simp only[List.forIn_nil]
 exact wpAny_bind (wpAny_pure (wpAny_pure h))
section
variable{X:Cx}{pins:List (Addr×Obj)}{σ:St}{H:Hp}{s:Shared}{sc:Scope}{own N2:List Str}{fp:List Addr}
theorem sZ{env:Env}{y:Str}(hv:Km (relabel sc env) y):∃k,sc.names.lookup y=some k/\(k= .local∨k= .cell∨k= .free):=by
 have q:∀k,(relabel sc env).names.lookup y=some k->(k= .local∨k= .cell∨k= .free) -> ∃k,sc.names.lookup y=some k/\(k= .local∨k= .cell∨k= .free):=λk e hk=>by
  have e':=(jl (sc:=sc) (env:=env) (y:=y) (ns:=sc.names)).symm.trans e
  cases z:sc.names.lookup y with
  |none=>rw[z]at e';cases e'
  |some k0=>
   rw[z]at e'
   simp only[Option.map_some,Option.some.injEq]at e'
   refine⟨k0,rfl,?_⟩
   split at e'
   ·rename_i hc
    simp only[Bool.and_eq_true]at hc
    exact .inr (.inr (by simpa using hc.1.1))
   ·rw[e'];exact hk
 rcases hv with e|e|e
 ·exact q _ e (.inl rfl)
 ·exact q _ e (.inr (.inl rfl))
 ·exact q _ e (.inr (.inr rfl))
theorem kind_free(B:nI sc.names X.env.scope.names own N2 X.N){env:Env}{y:Str}(hy:(y,NameKind.free)∈sc.names):(relabel sc env).names.lookup y=some .cell∨(relabel sc env).names.lookup y=some .free:=by
 have e:=jl (sc:=sc) (env:=env) (y:=y) (ns:=sc.names)
 rw[bZ B.nd hy]at e
 simp only[Option.map_some]at e
 split at e
 ·exact .inl e
 ·exact .inr e
theorem jz{env:Env}{y:Str}{k:NameKind}(hy:sc.names.lookup y=some k)(hk:k= .local∨k= .cell):(relabel sc env).names.lookup y=some k:=by
 have e:=jl (sc:=sc) (env:=env) (y:=y) (ns:=sc.names)
 rw[hy]at e
 simp only[Option.map_some]at e
 rcases hk with rfl|rfl
 ·exact e
 ·exact e
theorem IS(I:Inv X pins σ H s)(B:nI sc.names X.env.scope.names own N2 X.N)(hk:sc.kind= .function)(hf:∀b∈fp,eV X pins H b)(ho:∀b∈fp,∃o,s.heap.get? b=some o):(X.comp sc (own++N2) s H fp).Ok:=by
 have lt:∀b∈fp,b<s.heap.objs.size:=λb hb=>let⟨o,e⟩:=ho b hb;Heap.lt_size e
 have jh:∀y c,(cellsFrom (s.heap.objs.size+2) sc.names (cg X.env sc.names [])).lookup y=some c->(s.heap.objs.size+2<=c/\(y,NameKind.cell)∈sc.names)∨((y,NameKind.free)∈sc.names/\X.env.cells.lookup y=some c):=
  λy c h=>iH I B (mem_of_lookup h)
 refine⟨I.ok.mod,hk,I.ok.glob,I.ok.blt,Nat.le_succ _,λx y c h1 h2=> ?_,λy hy=> ?_,λy c hy hc=> ?_,I.ok.hd,I.ok.frames,.inl rfl,λb hb=>⟨?_,λy c hc=> ?_⟩,I.bs,Nat.le_trans I.ok.Io I.sz,λb o e hb=> ?_,λb hb hs=> ?_,I.stack,I.rX⟩
 ·exact DE I B (by omega) (mem_of_lookup h1) (mem_of_lookup h2)
 ·have hy':(relabel sc X.env).names.lookup y=some .cell∨(relabel sc X.env).names.lookup y=some .free:=hy
  obtain⟨k,e,Kv⟩:=sZ (env:=X.env) (y:=y) (sc:=sc) (by rcases hy' with q|q;exact .inr (.inl q);exact .inr (.inr q))
  rcases Kv with rfl|rfl|rfl
  ·have:=jz (env:=X.env) e (.inl rfl)
   rcases hy' with q|q
   ·rw[q]at this;cases this
   ·rw[q]at this;cases this
  ·exact Option.isSome_iff_exists.mp (PySem.W.cellsFrom_some sc.names _ _ (.inl e))
  ·obtain⟨c,hc⟩:=jy I B y (mem_of_lookup e)
   exact⟨c,kZ I B (mem_of_lookup e) hc⟩
 ·have hy':sc.names.lookup y=some .cell:=by
   have q:(sc.names.lookup y==some NameKind.cell)=true:=hy
   simpa using q
  rcases jh y c hc with⟨q,_⟩|⟨q,_⟩
  ·show s.heap.objs.size<=c
   omega
  ·rw[bZ B.nd q]at hy';cases hy'
 ·exact Nat.ne_of_lt (Nat.lt_succ_of_lt (lt b hb))
 ·have hl:=lt b hb
  rcases jh y c hc with⟨q,_⟩|⟨_,q⟩
  ·exact Nat.ne_of_gt (Nat.lt_of_lt_of_le hl (Nat.le_trans (Nat.le_add_right _ 2) q))
  ·exact(hf b hb).2.2.2.2.1 y c q
 ·rcases(hf b hb).2.2.2.1 with z|z
  ·exact I.ok.Dl b o e z
  ·exact absurd (Nat.lt_of_lt_of_le (Heap.lt_size (I.ok.bs b o e).1) z) (Nat.lt_irrefl _)
 ·rcases List.mem_cons.mp (I.su b hs)with e|e
  ·exact(hf b hb).2.1 e
  ·exact(hf b hb).2.2.1 e
theorem tD(I:Inv X pins σ H s)(B:nI sc.names X.env.scope.names own N2 X.N)(hk:sc.kind= .function)(hf:∀b∈fp,eV X pins H b)(ho:∀b∈fp,∃o,s.heap.get? b=some o):
  Inv (X.comp sc (own++N2) s H fp) [] (List.replicate own.length none++σ) (upd H s.heap.objs.size (.lst []))
   {s with heap:=pushCells ((s.heap.push {cls:= .type "list",dict:=none,data:= .seq ([]:List Value).toArray}).push {cls:= .type "dict",data:= .dict #[]}) sc.names}:=by
 have k1:∀b o,(s.heap.push {cls:= .type "list",dict:=none,data:= .seq ([]:List Value).toArray}).get? b=some o->
   (pushCells ((s.heap.push {cls:= .type "list",dict:=none,data:= .seq ([]:List Value).toArray}).push {cls:= .type "dict",data:= .dict #[]}) sc.names).get? b=some o:=
  λb o e=>pushCells_keeps _ _ b o (Heap.get?_push_of_some _ e)
 have k0:∀b o,s.heap.get? b=some o->
   (pushCells ((s.heap.push {cls:= .type "list",dict:=none,data:= .seq ([]:List Value).toArray}).push {cls:= .type "dict",data:= .dict #[]}) sc.names).get? b=some o:=
  λb o e=>k1 b o (Heap.get?_push_of_some _ e)
 have sz:((s.heap.push {cls:= .type "list",dict:=none,data:= .seq ([]:List Value).toArray}).push {cls:= .type "dict",data:= .dict #[]}).objs.size=s.heap.objs.size+2:=by rw[Heap.size_push,Heap.size_push]
 have jh:∀y c,(cellsFrom (s.heap.objs.size+2) sc.names (cg X.env sc.names [])).lookup y=some c->(s.heap.objs.size+2<=c/\(y,NameKind.cell)∈sc.names)∨((y,NameKind.free)∈sc.names/\X.env.cells.lookup y=some c):=
  λy c h=>iH I B (mem_of_lookup h)
 have Fz:∀b,s.heap.objs.size<b->upd H s.heap.objs.size (.lst []) b=none:=λb hb=>by
  rw[aD (Nat.ne_of_gt hb)]
  exact I.hok.fresh (Nat.le_of_lt hb)
 refine⟨IS I B hk hf ho,rfl,.refl I.bare.bare,Un.laid k0 (Nat.le_refl _) I.fresh,⟨λ_=>none,?_,λi y v e1 e2 e3=> ?_⟩,λy c hc=> ?_,Fz _ (Nat.lt_succ_self _),λy c hc=> ?_,λp hp=> ?_,I.hok.laid k0 (Nat.le_refl _) ?_,?_⟩
 ·have:=Heap.Ns.new (s.heap.push {cls:= .type "list",dict:=none,data:= .seq ([]:List Value).toArray}) (.type "dict")
  rw[Heap.size_push]at this
  exact this.keeps (pushCells_keeps _ _)
 ·by_cases hi:i<own.length
  ·rw[List.getElem?_append_left (by simpa using hi),List.getElem?_replicate]at e2
   split at e2<;>cases e2
  ·have yM:(own++N2)[i]?=some y:=e1
   have hi':own.length<=i:=by omega
   rw[List.getElem?_append_right (by simpa using hi'),List.length_replicate]at e2
   rw[List.getElem?_append_right hi']at yM
   have hown:y∉own:=λhm=>by
    have nd:=B.IQ
    rw[List.nodup_append]at nd
    exact nd.2.2 y hm y (List.mem_of_getElem? yM) rfl
   refine xj I B (n:=s.heap.objs.size+2) yM e2 rfl (λz hz=>kind_free B hz) (λhv=>let⟨k,e,_⟩:=sZ hv;⟨k,e⟩) hown k0 e3 (λk e=> ?_)
   obtain⟨k',e',hk'⟩:=sZ (sc:=sc) e3
   rw[e]at e';cases e'
   exact hk'
 ·rcases iO sc.names ((s.heap.push {cls:= .type "list",dict:=none,data:= .seq ([]:List Value).toArray}).push {cls:= .type "dict",data:= .dict #[]}) (cg X.env sc.names []) y c (by rw[sz];exact mem_of_lookup hc)with q|q
  ·rcases jx q with z|⟨z,e⟩
   ·cases z
   ·obtain⟨c',e'⟩:=jy I B y z
    rw[e']at e
    have e2:c=c':=e
    subst e2
    obtain⟨v,w⟩:=I.cell y c e'
    exact⟨v,w.keeps k0⟩
  ·exact⟨none,q⟩
 ·rcases jh y c hc with⟨q,_⟩|⟨_,q⟩
  ·exact Fz c (by omega)
  ·obtain⟨v,w⟩:=I.cell y c q
   rw[aD (Nat.ne_of_lt w.lt)]
   exact I.lT y c q
 ·have kW:p∈([]:List (Addr×Obj)):=hp
  cases kW
 ·exact⟨Nat.zero_le _,[],0,.nil,k1 _ _ (Heap.get?_push_size _ rfl)⟩
 ·show(List.replicate own.length none++σ).length=(own++N2).length
  rw[List.length_append,List.length_append,List.length_replicate,I.len,B.len]
theorem Inv.xm{σ':St}{H':Hp}{s':Shared}{N':List Str}(I:Inv X pins σ H s)(hf:∀b∈fp,eV X pins H b)(J:Inv (X.comp sc N' s H fp) [] σ' H' s'):Inv X pins σ H' s':=
 I.EY (ch:=fp) J.os J.base J.hok J.bare λb hb=>⟨(hf b hb).2.2.2.1,(hf b hb).2.1,(hf b hb).2.2.2.2.1,(hf b hb).2.2.2.2.2⟩
end
section
variable{prog:Program}{w:World}{A:Around}{R:Result->Shared->Prop}{s:Shared}
theorem l9{elt target iter:Expr}{scope:Scope}{pos:Pos}{it acc:Value}{env:Env}(I:Nat->Shared->Prop)
  (turn:∀n s,I n s->wpAny (model prog w) A (pyNext it) (λr s₁=>match r with
   |none=>R (.ok .next) s₁
   |some v=>wpAny (model prog w) A (letOwnedTupleGo target it v) (λ_ s₁'=>wpAny (model prog w) A (assign target env v) (λ_ s₂=>wpAny (model prog w) A (eval elt env) (λx s₃=>
     wpAny (model prog w) A (call (.builtin "list.append") [acc,x]) (λ_ s₄=> ∃m,m<n/\I m s₄) (λ_ _=>False) s₃)
     (λ_ _=>False) s₂) (λ_ _=>False) s₁') (λ_ _=>False) s₁) (λ_ _=>False) s)
  (n:Nat)(h:I n s):
  codeAny (model prog w) A (.compLoop (.ListComp elt [⟨target,iter,[],0⟩] scope pos) 0 it acc env) R s:=by
 refine codeAny_loop rfl I (λn s hI=> ?_) n h
 show wpAny _ _ ((compTurn (.ListComp elt [⟨target,iter,[],0⟩] scope pos) 0 it acc env).onRaise (λx=>do noteFrame x env;theTreesLotGoes x)) _ _ s
 refine wpAny_noted ?_
 rw[compTurn_list1]
 refine wpAny_bind (wpAny_standAt (wpAny_bind (wpAny_mono (turn n s hI) (λr s₁ h₁=> ?_) λ_ _ h'=>h'.elim)))
 cases r with
 |none=>exact wpAny_pure h₁
 |some v=>
  exact wpAny_bind (wpAny_mono h₁ (λ_ s₁' h₁'=>wpAny_bind (wpAny_mono h₁' (λ_ s₂ h₂=>wpAny_bind (wpAny_bind (wpAny_mono h₂ (λx s₃ h₃=>wpAny_bind (wpAny_mono h₃
   (λ_ s₄ h₄=>wpAny_pure (wpAny_pure ⟨rfl,h₄⟩)) λ_ _ h'=>h'.elim)) λ_ _ h'=>h'.elim))) λ_ _ h'=>h'.elim)) λ_ _ h'=>h'.elim)
end
def j8(k:Nat)(g:TG)(te:TE)(σ:St)(J:It)(H1:Hp)(D:Addr)(Q:VK):Prop:=∃W:Nat->Nat->List V->St->Hp->Prop,(∃m,W 0 m [] (List.replicate k none++σ) (upd H1 D (.lst [])))/\
 ∀i m acc σ' H',W i m acc σ' H'->(J.stop i H'/\H' D=some (.lst acc)/\Q (.ref D) H')∨
  (J.go i H'/\acc.length<sizeLine/\ ∀x H2,J.yt i H' x H2->g x σ' H2 λσ3 H3=>te σ3 H3 λv H4=>H4 D=some (.lst acc)/\ ∃m',m'<m/\W (i+1) m' (acc++ [v]) σ3 (upd H4 D (.lst (acc++ [v]))))
def nk(k:Nat)(wi:TI)(g:TG)(te:TE):TE:=λσ H Q=>wi σ H λJ H1=> ∀D,H1 D=none->j8 k g te σ J H1 D Q
section
variable{X:Cx}{sc:Scope}{own N2:List Str}
theorem tE{elt iter tg:Expr}{pos FD:Pos}{wi:TI}{g:TG}{te:TE}{use:Option (Value->Sem Unit)}{Qf:Value->Shared->Prop}(hc:X.calm=true)(hi:PI X tg iter wi)(B:nI sc.names X.env.scope.names own N2 X.N)(hk:sc.kind= .function)
  (hg:∀s H fp,PG (X.comp sc (own++N2) s H fp) tg g)(he:∀s H fp,PE (X.comp sc (own++N2) s H fp) elt te)
  (hs:∀x,foldedSetIterable iter X.env x=pure x){pins:List (Addr×Obj)}{s0:Shared}{σ:St}{H0:Hp}{Q:VK}(I0:Inv X pins σ H0 s0)(h0:nk own.length wi g te σ H0 Q)
  (FF:∀s H fp,Inv X pins σ H s->(∀b∈fp,eV X pins H b) -> ∀(σ':St)(H':Hp)(s':Shared),Inv (X.comp sc (own++N2) s H fp) [] σ' H' s'->Q (.ref s.heap.objs.size) H'->
   compPost (model X.prog X.w) X.A X.xe use Qf (.ref s.heap.objs.size) (s.heap.objs.size+1) (.ok .next) s'):
  wpAny (model X.prog X.w) X.A (comprehension (.ListComp elt [⟨tg,iter,[],0⟩] sc pos) sc X.env FD (newList []) false (eval iter X.env) use) Qf X.xe s0:=by
 refine wpAny_comprehension_free (use:=use) rfl hs (mW I0 B) hk (λy hy hl=>bZ B.nd (by rw[<-hl];exact hy)) ?_
 refine wpAny_mono (hi pins s0 σ H0 _ I0 h0) (λv s1 h1=>wpAny_mono h1 (λitv s h2=> ?_) λ_ _ e=>e) λ_ _ e=>e
 obtain⟨it,fp,tn,J,H,e,I,T,st,hf,rd⟩:=h2
 subst e
 have ho:∀b∈fp,∃o,s.heap.get? b=some o:=λb hb=>let⟨o,e,_⟩:=T.obj 0 _ st b hb;⟨o,e⟩
 obtain⟨W,⟨m0,w0⟩,turn⟩:=rd s.heap.objs.size I.fresh
 refine wpAny_newObj_type ?_
 refine gD ?_
 have IB:=tD I B hk hf ho
 have IT:∀{H':Hp},(∀b∈fp,H' b=none) -> ∀b∈fp,eV (X.comp sc (own++N2) s H fp) [] H' b:=λhn b hb=>by
  have ok:=IB.ok
  refine⟨hn b hb,(ok.Ig b hb).1,ok.yx b hb,.inl hb,λy c hc=>(ok.Ig b hb).2 y c hc,λp hp=> ?_⟩
  have kW:p∈([]:List (Addr×Obj)):=hp
  cases kW
 have lt:∀b∈fp,b≠s.heap.objs.size:=λb hb=>let⟨o,e⟩:=ho b hb;Nat.ne_of_lt (Heap.lt_size e)
 have fin:=FF s H fp I hf
 have loop:∀s3:Shared,s3={s with heap:=pushCells ((s.heap.push {cls:= .type "list",dict:=none,data:= .seq ([]:List Value).toArray}).push {cls:= .type "dict",data:= .dict #[]}) sc.names} ->
   codeAny (model X.prog X.w) X.A (.compLoop (.ListComp elt [⟨tg,iter,[],0⟩] sc pos) 0 (.ref it) (.ref s.heap.objs.size) (X.comp sc (own++N2) s H fp).env)
    (compPost (model X.prog X.w) X.A X.xe use Qf (.ref s.heap.objs.size) (s.heap.objs.size+1)) s3:=by
  rintro s3 rfl
  refine l9 (λn s'=> ∃i acc σ' H',Inv (X.comp sc (own++N2) s H fp) [] σ' H' s'/\tn i s'.heap/\(∀b∈fp,H' b=none)/\W i n acc σ' H') ?_ m0
   ⟨0,[],_,_,IB,T.keep _ _ _ st λb _ o e=>pushCells_keeps _ _ b o (Heap.get?_push_of_some _ (Heap.get?_push_of_some _ e)),λb hb=> ?_,w0⟩
  ·rintro n s3 ⟨i,acc,σ3,H3,I3,st3,wX,w3⟩
   rcases turn i n acc σ3 H3 w3 with⟨stop,hD,qn⟩|⟨go,hz,step⟩
   ·refine fP (T.done (X.comp sc (own++N2) s H fp) rfl rfl rfl hc i [] s3 σ3 H3 _ I3 (IT wX) st3 stop) λr s4 ⟨hr,I4⟩=> ?_
    subst hr
    exact fin σ3 H3 s4 I4 qn
   ·refine fP (T.item (X.comp sc (own++N2) s H fp) rfl rfl rfl hc i [] s3 σ3 H3 _ I3 (IT wX) st3 go) λr s4 ⟨u,hr,h4⟩=> ?_
    subst hr
    refine fP h4 λ_ s5 ⟨x,H5,I5,r5,y5,yE,Ln⟩=> ?_
    have Lo:=I5.pinned (IT Ln) (T.obj _ _ yE)
    refine fP (hg s H fp _ s5 σ3 H5 x u _ Lo r5 (step x H5 y5)) λ_ s6 ⟨Ci,H6,I6,q6⟩=> ?_
    refine fP (he s H fp _ s6 Ci H6 _ I6 q6) λv s7 ⟨y,H7,I7,r7,NY,m',hm',w7⟩=> ?_
    refine fP (jo _ s7 Ci H7 (.ref s.heap.objs.size) [y] (.ref s.heap.objs.size) [v] (λz H8=>z= .fZ/\H8=upd H7 s.heap.objs.size (.lst (acc++ [y]))) I7 rfl (.cons r7 .nil) ⟨s.heap.objs.size,acc,y,rfl,rfl,NY,hz,rfl,rfl⟩) λz s8 ⟨zz,H8,I8,_,_,e8⟩=> ?_
    subst e8
    refine⟨m',hm',i+1,acc++ [y],Ci,_,I8.iG,T.keep _ _ _ yE λb hb o e=>(I8.pin (b,o) (List.mem_append_right _ (List.mem_append_right _ (ck hb e)))).1,λb hb=> ?_,w7⟩
    obtain⟨o,e,d⟩:=T.obj _ _ yE b hb
    exact(I8.pin (b,o) (List.mem_append_right _ (List.mem_append_right _ (ck hb e)))).2.1
  ·rw[aD (lt b hb)]
   exact(hf b hb).1
 have e1:(s.heap.push {cls:= .type "list",dict:=none,data:= .seq ([]:List Value).toArray}).objs.size=s.heap.objs.size+1:=Heap.size_push ..
 dsimp only
 rw[e1]
 exact codeAny_compStart_list (loop _ rfl) (T.self _ 0 _ _ _ (T.keep _ _ _ st λb _ o e=>pushCells_keeps _ _ b o (Heap.get?_push_of_some _ (Heap.get?_push_of_some _ e))) (loop _ rfl))
theorem Inv.Cs{pins:List (Addr×Obj)}{σ σ1:St}{H H1:Hp}{s s1:Shared}{h':Heap}(I:Inv X pins σ H s)(I1:Inv X pins σ1 H1 s1)(hn:H1 (s.heap.objs.size+1)=none)(sb:Heap.SameBut (s.heap.objs.size+1) s1.heap h'):Inv X pins σ1 H1 {s1 with heap:=h'}:=by
 have ne:∀b o,s.heap.get? b=some o->b≠s.heap.objs.size+1:=λb o e=>Nat.ne_of_lt (Nat.lt_succ_of_lt (Heap.lt_size e))
 refine I1.turned (it:=s.heap.objs.size+1) (t':=s1.toks) (λb o hb e=>(sb.2 b hb).trans e) hn (Nat.ne_of_gt (Nat.lt_succ_of_lt I.lt)) (.inr (Nat.le_succ_of_le I.sz)) (λy c e=> ?_) (λp hp=>ne _ _ (I.pin p hp).1)
 obtain⟨v,w⟩:=I.cell y c e
 exact Nat.ne_of_lt (Nat.lt_succ_of_lt w.lt)
theorem yN{elt iter tg:Expr}{pos:Pos}{wi:TI}{g:TG}{te:TE}(hc:X.calm=true)(hi:PI X tg iter wi)(B:nI sc.names X.env.scope.names own N2 X.N)(hk:sc.kind= .function)
  (hg:∀s H fp,PG (X.comp sc (own++N2) s H fp) tg g)(he:∀s H fp,PE (X.comp sc (own++N2) s H fp) elt te)
  (hs:∀x,foldedSetIterable iter X.env x=pure x:=by intro _;rfl):PE X (.ListComp elt [⟨tg,iter,[],0⟩] sc pos) (nk own.length wi g te):=by
 intro pins s0 σ H0 Q I0 h0
 rw[eval_ListComp]
 refine tE (use:=none) hc hi B hk hg he hs I0 h0 λs H fp I hf σ' H' s' JB q=> ?_
 obtain⟨m,hn,_⟩:=JB.loc
 exact⟨m,hn,λh' sb=>⟨.ref s.heap.objs.size,H',I.Cs (I.xm hf JB) JB.free sb,rfl,q⟩⟩
theorem FG{i:Nat}{y:Str}{py spos:Pos}{elt iter tg:Expr}{pos:Pos}{wi:TI}{g:TG}{te:TE}(hN:X.N.Nodup)(hi':X.N[i]?=some y)(hy:X.env.scope.names.lookup y=some .local)(hc:X.calm=true)(hi:PI X tg iter wi)(B:nI sc.names X.env.scope.names own N2 X.N)(hk:sc.kind= .function)
  (hg:∀s H fp,PG (X.comp sc (own++N2) s H fp) tg g)(he:∀s H fp,PE (X.comp sc (own++N2) s H fp) elt te)
  (hsw:swapsWith (.ListComp elt [⟨tg,iter,[],0⟩] sc pos) (some (.Name y py)) spos.line X.env=pure true:=by rfl)(hs:∀x,foldedSetIterable iter X.env x=pure x:=by intro _;rfl):
  PS X (.Assign [.Name y py] (.ListComp elt [⟨tg,iter,[],0⟩] sc pos) spos) (yC (nk own.length wi g te) (cO i)):=by
 intro pins s0 σ H0 D I0 h0
 rw[exec_Assign_Name_used _ _ _ _ hsw]
 refine wpAny_bind (wpAny_standAt (wpAny_bind ?_))
 show wpAny _ X.A (do let _<-comprehension (.ListComp elt [⟨tg,iter,[],0⟩] sc pos) sc X.env _ (newList []) false (eval iter X.env) (some (assign (.Name y py) X.env))) _ _ s0
 refine wpAny_bind (wpAny_mono (tE (use:=some (assign (.Name y py) X.env)) (Qf:=λ_ s'=>SP X pins D .next s') hc hi B hk hg he hs I0 h0 λs H fp I hf σ' H' s' JB q=> ?_) (λ_ s' hq=>wpAny_pure (wpAny_pure hq)) λ_ _ e=>e)
 have IX:=I.xm hf JB
 refine wpAny_assign_Name (vJ IX hN hi' (.inl hy) (v:= .ref s.heap.objs.size) rfl (λs2 I2 ⟨a,Pq,ha⟩=> ?_) (.inr hy))
 obtain⟨m,hn,_⟩:=JB.loc
 have ea:a=X.env.locals∨a<s.heap.objs.size:=by
  rcases ha with z|z
  ·exact .inl z
  ·obtain⟨v,w⟩:=I.cell y a z
   exact .inr w.lt
 have MT:s.heap.objs.size+1≠a:=by
  rcases ea with z|z
  ·rw[z];exact Nat.ne_of_gt (Nat.lt_succ_of_lt I.lt)
  ·exact Nat.ne_of_gt (Nat.lt_succ_of_lt z)
 refine⟨m,hn.sameBut Pq MT,λh' sb=>⟨_,H',I.Cs I2 JB.free sb,q⟩⟩
end
def dW(P:Addr):HO:= .ext λh=> ∃ps:Array Value,h.get? P=some {cls:= .none,data:= .fields ps}/\TriplesOk ps.toList
structure gc(K:PySem.W.Frag)(cd:Value)(P:Addr):Prop where
 ex:∃(c:Addr)(o:Obj)(vs:Array Value)(file:Str)(tf:Tok)(flags:Int)(tg:Tok)(LD:Bool)(text:Int)(tt:Tok),cd= .ref c/\K.lookup c=some o/\o.cls= .type "code"/\o.data= .fields vs/\vs[11]?=some (.ref P)/\
  vs.getD 18 .none= .str file tf/\vs.getD 7 .none= .int flags tg/\vs.getD 9 .none= .bool LD/\vs.getD 10 .none= .int text tt
theorem FH{P:Program}{w:World}{H:Hp}{h:Heap}{T:Addr}{ps:Array Value}(e:h.get? T=some {cls:= .none,data:= .fields ps})(t:TriplesOk ps.toList):eO P w H h T (dW T):=
 ⟨⟨ps,e,t⟩,⟨_,e⟩,λh1 h2 ⟨qs,e1,t1⟩ k=>⟨qs,k _ e1,t1⟩⟩
theorem FI{H:Hp}{a:Addr}{o:HO}(h:H a=some o):upd H a o=H:=by
 funext b
 unfold upd
 split
 ·rename_i e;rw[e,h]
 ·rfl
section
variable{X:Cx}{pins:List (Addr×Obj)}{σ:St}{H:Hp}{s:Shared}{P:Addr}
theorem Aq{pos:Pos}{qn:Str}{sc:Scope}{Q:Value->Shared->Prop}{E:Value->Shared->Prop}{M:Model}{A:Around}(I:Inv X pins σ H s)(hcd:gc X.K X.env.code P)(hP:H P=some (dW P))
  (h:∀code h' tk,Inv X pins σ H {s with heap:=h',toks:=tk} ->Heap.ExtBut P s.heap h'->Q code {s with heap:=h',toks:=tk}):wpAny M A (genexprCode X.env pos qn sc) Q E s:=by
 obtain⟨c,o,vs,file,tf,flags,tg,LD,text,tt,ec,hc,hcl,hd,h11,NZ,h7,h9,Oa⟩:=hcd.ex
 obtain⟨⟨ps,eP,tr⟩,_,_⟩:=I.hok P _ hP
 have hcs:s.heap.get? c=some o:=I.wU c o hc
 have hcn:H c=none:=(I.bs c o (I.ok.mod.MR c o hc)).2
 have ne:c≠P:=λe=>by rw[e,hP]at hcn;cases hcn
 have LF:vs.getD 11 .none= .ref P:=by
  have:vs.getD 11 .none=(vs[11]?).getD .none:=by simp
  rw[this,h11];rfl
 have code:s.heap.IsCode c P ps:=⟨o,vs,file,tf,flags,tg,LD,text,tt,_,hcs,hd,LF,NZ,h7,h9,Oa,eP,rfl,tr,ne⟩
 have tab:s.heap.TableAt c P ps:=⟨⟨o,vs,hcs,hcl,hd,h11⟩,eP⟩
 cases q:codeAmong pos ps.toList with
 |some c'=>exact wpAny_genexprCode_hit ec code q (h c' s.heap s.toks I (λ_ _ _ e=>e))
 |none=>
  refine wpAny_genexprCodeX ec code tab q λc' h' tk hx _ _ LG _ FJ _=>h _ h' tk ?_ hx
  have I':=I.write (x:=P) (e:=P) (o:=dW P) (h':=h') (t':=tk) (by rw[hP];exact trivial) (.inl rfl) (λb u hb e=>hx b u hb e) ⟨_,FJ.2⟩
   (FH FJ.2 (by obtain⟨_,_,_,_,_,_,_,_,_,op,_,_,_,_,_,_,_,e1,e2,e3,_⟩:=LG;rw[FJ.2]at e1;cases e1;exact e3))
  rw[FI hP]at I'
  exact I'
end
def BM(mg:Str->Option Value)(base:Heap):Prop:=∃bm ob,mg "__builtins__"=some (.ref bm)/\bm≠builtinsNs/\base.get? bm=some ob/\ob.cls= .type "module"/\ob.dict=some builtinsNs/\ob.data= .plain
def IU(B:Around)(cenv:Env):Around:={handled:=B.handled,depth:=B.depth+1,frames:=B.frames.map (cenv:: ·),guards:=B.guards,units:=B.units+3}
def Cx.gen(X:Cx)(B:Around)(sc:Scope)(N':List Str)(code:Value)(s:Shared)(H:Hp)(fp:List Addr):Cx:=
 {X with
  N:=N'
  s₀:={s with gens:=s.gens.push .running}
  H₀:=H
  A:=IU B (genEnv sc (cg X.env sc.names []) s.heap.objs.size code builtinsNs X.env)
  env:=genEnv sc (cg X.env sc.names []) s.heap.objs.size code builtinsNs X.env
  outer:=X.stack
  stack:=genEnv sc (cg X.env sc.names []) s.heap.objs.size code builtinsNs X.env::X.stack
  ex:=fp
  fn:=λ_=>false
  pn:=[]
  xe:=λ_ _=>False}
section
variable{X:Cx}{pins:List (Addr×Obj)}{σ:St}{H:Hp}{s:Shared}{sc:Scope}{own N2:List Str}{fp:List Addr}{B:Around}{code:Value}
theorem mX{sc:Scope}{y:Str}(hv:Km sc y):∃k,sc.names.lookup y=some k/\(k= .local∨k= .cell∨k= .free):=by
 rcases hv with e|e|e
 ·exact⟨_,e,.inl rfl⟩
 ·exact⟨_,e,.inr (.inl rfl)⟩
 ·exact⟨_,e,.inr (.inr rfl)⟩
theorem d7{n:Nat}:∀{ns:List (Str×NameKind)}{acc:List (Str×Addr)},(∀y∈ns,y.2≠ .cell) ->cellsFrom n ns acc=acc
 | [],_,_=>rfl
 |(y,k)::r,acc,h=>by
  unfold cellsFrom
  have hk:(k==NameKind.cell)=false:=by simpa using h (y,k) List.mem_cons_self
  rw[hk]
  exact d7 λz hz=>h z (List.mem_cons_of_mem _ hz)
theorem LH(I:Inv X pins σ H s)(Bk:nI sc.names X.env.scope.names own N2 X.N)(hk:sc.kind= .function)(hnc:∀y∈sc.names,y.2≠ .cell)(hf:∀b∈fp,eV X pins H b)(ho:∀b∈fp,∃o,s.heap.get? b=some o)
  (hB:B.frames=some X.stack)(hh:B.handled=none):(X.gen B sc (own++N2) code s H fp).Ok:=by
 have lt:∀b∈fp,b<s.heap.objs.size:=λb hb=>let⟨o,e⟩:=ho b hb;Heap.lt_size e
 have jh:∀y c,(cg X.env sc.names []).lookup y=some c->(y,NameKind.free)∈sc.names/\X.env.cells.lookup y=some c:=λy c h=>by
  have h':(cellsFrom 0 sc.names (cg X.env sc.names [])).lookup y=some c:=by rw[d7 hnc];exact h
  rcases iH I Bk (mem_of_lookup h')with⟨_,q⟩|q
  ·exact absurd rfl (hnc _ q)
  ·exact q
 refine⟨I.ok.mod,hk,I.ok.glob,rfl,Nat.le_refl _,λx y c h1 h2=> ?_,λy hy=> ?_,λy c hy hc=>absurd hy (by show ¬(false=true);decide),λ_=>hh,?_,.inr ⟨rfl,rfl⟩,λb hb=>⟨?_,λy c hc=> ?_⟩,I.bs,Nat.le_trans I.ok.Io I.sz,λb o e hb=> ?_,λb hb hs=> ?_,I.stack,I.rX⟩
 ·exact I.ok.inj x y c (jh x c h1).2 (jh y c h2).2
 ·have hy':sc.names.lookup y=some .cell∨sc.names.lookup y=some .free:=hy
  rcases hy' with e|e
  ·exact absurd rfl (hnc _ (mem_of_lookup e))
  ·obtain⟨c,hc⟩:=jy I Bk y (mem_of_lookup e)
   have:=kZ (n:=0) I Bk (mem_of_lookup e) hc
   rw[d7 hnc]at this
   exact⟨c,this⟩
 ·show B.frames.map _=_
  rw[hB];rfl
 ·exact Nat.ne_of_lt (lt b hb)
 ·exact(hf b hb).2.2.2.2.1 y c (jh y c hc).2
 ·rcases(hf b hb).2.2.2.1 with z|z
  ·exact I.ok.Dl b o e z
  ·exact absurd (Nat.lt_of_lt_of_le (Heap.lt_size (I.ok.bs b o e).1) z) (Nat.lt_irrefl _)
 ·rcases List.mem_cons.mp (I.su b hs)with e|e
  ·exact(hf b hb).2.1 e
  ·exact(hf b hb).2.2.1 e
theorem IV{h':Heap}{tk:Nat}{m:Str->Option Value}(I:Inv X pins σ H s)(Bk:nI sc.names X.env.scope.names own N2 X.N)(hk:sc.kind= .function)(hnc:∀y∈sc.names,y.2≠ .cell)(hf:∀b∈fp,eV X pins H b)(ho:∀b∈fp,∃o,s.heap.get? b=some o)
  (hB:B.frames=some X.stack)(hh:B.handled=none)(hn:h'.Ns s.heap.objs.size m)(keep:∀b o,s.heap.get? b=some o->h'.get? b=some o):
  Inv (X.gen B sc (own++N2) code s H fp) [] (List.replicate own.length none++σ) H {s with heap:=h',toks:=tk,gens:=s.gens.push .running}:=by
 have jh:∀y c,(cg X.env sc.names []).lookup y=some c->(y,NameKind.free)∈sc.names/\X.env.cells.lookup y=some c:=λy c h=>by
  have h':(cellsFrom 0 sc.names (cg X.env sc.names [])).lookup y=some c:=by rw[d7 hnc];exact h
  rcases iH I Bk (mem_of_lookup h')with⟨_,q⟩|q
  ·exact absurd rfl (hnc _ q)
  ·exact q
 refine⟨LH I Bk hk hnc hf ho hB hh,rfl,.refl (I.bare.bare.push rfl),Un.kept keep,⟨m,hn,λi y v e1 e2 e3=> ?_⟩,λy c hc=> ?_,I.fresh,λy c hc=>I.lT y c (jh y c hc).2,λp hp=> ?_,I.hok.kept keep,?_⟩
 ·by_cases hi:i<own.length
  ·rw[List.getElem?_append_left (by simpa using hi),List.getElem?_replicate]at e2
   split at e2<;>cases e2
  ·have yM:(own++N2)[i]?=some y:=e1
   have hi':own.length<=i:=by omega
   rw[List.getElem?_append_right (by simpa using hi'),List.length_replicate]at e2
   rw[List.getElem?_append_right hi']at yM
   have hown:y∉own:=λhm=>by
    have nd:=Bk.IQ
    rw[List.nodup_append]at nd
    exact nd.2.2 y hm y (List.mem_of_getElem? yM) rfl
   refine xj I Bk (n:=0) yM e2 (d7 hnc).symm (λz hz=> .inr (bZ Bk.nd hz)) (λhv=>let⟨k,e,_⟩:=mX hv;⟨k,e⟩) hown keep e3 (λk e=> ?_)
   obtain⟨k',e',hk'⟩:=mX e3
   have FL:sc.names.lookup y=some k':=e'
   rw[e]at FL;cases FL
   exact hk'
 ·obtain⟨v,w⟩:=I.cell y c (jh y c hc).2
  exact⟨v,w.keeps keep⟩
 ·have kW:p∈([]:List (Addr×Obj)):=hp
  cases kW
 ·show(List.replicate own.length none++σ).length=(own++N2).length
  rw[List.length_append,List.length_append,List.length_replicate,I.len,Bk.len]
theorem Inv.Kw{σ':St}{H':Hp}{s':Shared}{N':List Str}{pl:List (Addr×Obj)}{gs:GenState}(I:Inv X pins σ H s)(hf:∀b∈fp,eV X pins H b)(hb:gs.bare=true)(J:Inv (X.gen B sc N' code s H fp) pl σ' H' s'):
  Inv X pins σ H' (s'.setGen s.gens.size gs):=by
 have sz:s.gens.size+1<=s'.gens.size:=by
  have:=J.bare.size
  simpa [Cx.gen]using this
 refine I.EY (ch:=fp) J.os J.base J.hok ⟨?_,?_,λk hk=> ?_⟩ λb hb=>⟨(hf b hb).2.2.2.1,(hf b hb).2.1,(hf b hb).2.2.2.2.1,(hf b hb).2.2.2.2.2⟩
 ·intro y hy
  simp only[Shared.setGen]at hy
  rcases Array.mem_or_eq_of_mem_setIfInBounds hy with q|q
  ·exact J.bare.bare y q
  ·rw[q];exact hb
 ·simp only[Shared.setGen,Array.size_setIfInBounds]
  omega
 ·have e:=J.bare.old k (by simp[Cx.gen];omega)
  simp only[Shared.setGen]
  rw[Array.getElem?_setIfInBounds_ne (by omega),e]
  show(s.gens.push .running)[k]?=s.gens[k]?
  rw[Array.getElem?_push_lt (by omega)]
  simp[hk]
end
theorem kJ{B:Around}{elt:Expr}{gens:List Comprehension}{sc:Scope}{pos:Pos}{it acc:Value}{cenv:Env}:
  B.over (.compLoop (.GeneratorExp elt gens sc pos) 0 it acc cenv) []=IU B cenv:=by
 unfold Around.over IU
 congr 1
section
variable(X:Cx)(B:Around)(sc:Scope)(N':List Str)(code:Value)(sC:Shared)(HC:Hp)(fp Ss:List Addr)(tn:Nat->Heap->Prop)(cnt:Nat)(R:Nat->V->Prop)(W:Nat->St->Hp->Prop)
def xo:Protocol:=λn s₀ v s Uv=> ∃pl σ' H' x,(∀p∈pl,p.1∉Ss)/\Inv (X.gen B sc N' code sC HC fp) (cQ Ss s₀.heap++pl) σ' H' s/\tn (cnt-n) s.heap/\(∀b∈fp,H' b=none)/\RelV x v/\R (cnt-n-1) x/\W (cnt-n) σ' H'/\
 ∀s'':Shared,(∀b∈Ss,∃o,s''.heap.get? b=some o) ->Inv (X.gen B sc N' code sC HC fp) (cQ Ss s''.heap++pl) σ' H' s''->tn (cnt-n) s''.heap->Uv (.send .none) s''
def IW:GenEnd:=λn s₀ r s₁=>r= .ok .next/\n=0/\ ∃σ' H',Inv (X.gen B sc N' code sC HC fp) (cQ Ss s₀.heap) σ' H' s₁/\W cnt σ' H'
end
section
variable{X:Cx}{B:Around}{sc:Scope}{N':List Str}{code:Value}{sC:Shared}{HC:Hp}{fp Ss:List Addr}{tn:Nat->Heap->Prop}{cnt:Nat}{R:Nat->V->Prop}{W:Nat->St->Hp->Prop}
variable{elt iter tg:Expr}{pos:Pos}{it:Addr}{J:It}{g:TG}{te:TE}
theorem yO{Ss:List Addr}{h:Heap}{p:Addr×Obj}(hp:p∈cQ Ss h):p.1∈Ss:=(jn hp).1
theorem Ar{pl:List (Addr×Obj)}{σ':St}{H' H2:Hp}{s:Shared}(I:Inv (X.gen B sc N' code sC HC fp) pl σ' H2 s)(hn:∀b∈fp,H' b=none)(hd:∀p∈pl,p.1∉fp):∀b∈fp,eV (X.gen B sc N' code sC HC fp) pl H' b:=λb hb=>by
 have ok:=I.ok
 refine⟨hn b hb,(ok.Ig b hb).1,ok.yx b hb,.inl hb,λy c hc=>(ok.Ig b hb).2 y c hc,λp hp e=> ?_⟩
 have kW:p∈pl:=by simpa [Cx.gen]using hp
 exact hd p kW (by rw[e];exact hb)
theorem IY(hco:sc.isCoroutine=false)(hc:X.calm=true)(T:Turn X.prog X.w X.K tg J fp it tn)(hg:PG (X.gen B sc N' code sC HC fp) tg g)(he:PE (X.gen B sc N' code sC HC fp) elt te)(FN:∀b∈fp,b∉Ss)
  (turn:∀i σ' H',i<cnt->W i σ' H'->J.go i H'/\ ∀x H2,J.yt i H' x H2->g x σ' H2 λσ3 H3=>te σ3 H3 λv H4=>R i v/\W (i+1) σ3 H4)
  (stop:∀σ' H',W cnt σ' H'->J.stop cnt H'):
  ∀(n i:Nat)(σ':St)(H':Hp)(s₀ s:Shared),n+i=cnt->W i σ' H'->Inv (X.gen B sc N' code sC HC fp) (cQ Ss s₀.heap) σ' H' s->tn i s.heap->(∀b∈fp,H' b=none) ->
   Seg (model X.prog X.w) B (IW X B sc N' code sC HC fp Ss cnt W) (xo X B sc N' code sC HC fp Ss tn cnt R W) n s₀ (.compLoop (.GeneratorExp elt [⟨tg,iter,[],0⟩] sc pos) 0 (.ref it) .none (X.gen B sc N' code sC HC fp).env)
    ((model X.prog X.w).den (.compLoop (.GeneratorExp elt [⟨tg,iter,[],0⟩] sc pos) 0 (.ref it) .none (X.gen B sc N' code sC HC fp).env)) [] s:=by
 have QN:∀{h:Heap},∀p∈cQ Ss h,p.1∉fp:=λp hp hb=>FN p.1 hb (yO hp)
 intro n
 induction n with
 |zero=>
  intro i σ' H' s₀ s hn w I st fr
  obtain rfl:i=cnt:=by omega
  show Seg _ B _ _ _ s₀ _ ((compTurn (.GeneratorExp elt [⟨tg,iter,[],0⟩] sc pos) 0 (.ref it) .none (X.gen B sc N' code sC HC fp).env).onRaise (leaving (X.gen B sc N' code sC HC fp).env)) [] s
  rw[compTurn_gen,Sem.onRaise_eq_wrap]
  refine seg_bind_wrap (wpAny_standAt ?_)
  refine seg_bind_wrap ?_
  rw[kJ]
  refine fP (T.done (X.gen B sc N' code sC HC fp) rfl rfl rfl hc i _ s σ' H' _ I (Ar I fr QN) st (stop σ' H' w)) λr s1 ⟨hr,I1⟩=> ?_
  subst hr
  exact seg_end (.ok .next) ⟨rfl,rfl,σ',H',I1,w⟩
 |succ n ih=>
  intro i σ' H' s₀ s hn w I st fr
  have hi:i<cnt:=by omega
  obtain⟨go,step⟩:=turn i σ' H' hi w
  show Seg _ B _ _ _ s₀ _ ((compTurn (.GeneratorExp elt [⟨tg,iter,[],0⟩] sc pos) 0 (.ref it) .none (X.gen B sc N' code sC HC fp).env).onRaise (leaving (X.gen B sc N' code sC HC fp).env)) [] s
  rw[compTurn_gen,Sem.onRaise_eq_wrap]
  refine seg_bind_wrap (wpAny_standAt ?_)
  refine seg_bind_wrap ?_
  rw[kJ]
  refine fP (T.item (X.gen B sc N' code sC HC fp) rfl rfl rfl hc i _ s σ' H' _ I (Ar I fr QN) st go) λr s1 ⟨u,hr,h1⟩=> ?_
  subst hr
  refine seg_bind_wrap ?_
  rw[kJ]
  refine wpAny_mono h1 (λ_ s2 ⟨x,H2,I2,r2,y2,st2,Ob⟩=> ?_) λ_ _ z=>z
  have Uw:=I2.pinned (Ar I2 Ob QN) (T.obj _ _ st2)
  refine seg_bind_wrap ?_
  rw[kJ]
  refine wpAny_mono (hg _ s2 σ' H2 x u _ Uw r2 (step x H2 y2)) (λ_ s3 ⟨σ3,H3,I3,q3⟩=> ?_) λ_ _ z=>z.elim
  simp only[List.forIn_nil,if_true]
  refine seg_bind_wrap (wpAny_pure ?_)
  have hy:∀v,yieldOut (X.gen B sc N' code sC HC fp).env v=yieldValue v:=λv=>by
   have q:(X.gen B sc N' code sC HC fp).env.scope.isCoroutine=false:=hco
   simp only[yieldOut,q,Bool.false_eq_true,if_false]
  simp only[if_true,hy]
  rw[Sem.bind_eq_wrap',Sem.bind_eq_wrap',Sem.wrap_wrap,Sem.wrap_wrap]
  refine seg_wrap ?_
  rw[kJ]
  refine wpAny_mono (he _ s3 σ3 H3 _ I3 q3) (λv s4 ⟨y,H4,I4,r4,hR,w4⟩=> ?_) λ_ _ z=>z.elim
  have Ux:tn (i+1) s4.heap:=T.keep _ _ _ st2 λb hb o e=>(I4.pin (b,o) (List.mem_append_right _ (List.mem_append_right _ (ck hb e)))).1
  have Sq:∀b∈fp,H4 b=none:=λb hb=>by
   obtain⟨o,e,d⟩:=T.obj _ _ st2 b hb
   exact(I4.pin (b,o) (List.mem_append_right _ (List.mem_append_right _ (ck hb e)))).2.1
  have ei:cnt-n=i+1:=by omega
  refine seg_at (seg_yield rfl rfl rfl ⟨[],σ3,H4,y,(λ_ h=>nomatch h),(by rw[List.append_nil];exact I4.iG),by rw[ei];exact Ux,Sq,r4,by rw[ei];exact hR,by rw[ei];exact w4,λs'' _ LJ st''=> ?_⟩)
  rw[ei]at st''
  rw[List.append_nil]at LJ
  exact seg_again rfl (ih (i+1) σ3 H4 s'' s'' (by omega) w4 LJ st'' Sq)
end
theorem FO{s:Shared}{g:Nat}{gs:GenState}(h:s.gens[g]?=some .running):(s.setGen g gs).setGen g .running=s:=by
 obtain⟨hh,gens,d,t,os⟩:=s
 have hlt:g<gens.size:=by
  rcases Nat.lt_or_ge g gens.size with q|q
  ·exact q
  ·have z:gens[g]?=none:=Array.getElem?_eq_none q
   have h':gens[g]?=some .running:=h
   rw[z]at h';cases h'
 have q:(gens.setIfInBounds g gs).setIfInBounds g .running=gens:=by
  apply Array.ext_getElem?
  intro i
  by_cases e:g=i
  ·subst e
   rw[Array.getElem?_setIfInBounds_self_of_lt (by simpa using hlt)]
   exact h.symm
  ·rw[Array.getElem?_setIfInBounds_ne e,Array.getElem?_setIfInBounds_ne e]
 show({heap:=hh,gens:=(gens.setIfInBounds g gs).setIfInBounds g .running,drawn:=d,toks:=t,os:=os}:Shared)=_
 rw[q]
theorem k8:∀{Ss:List Addr}{h h':Heap},(∀b∈Ss,∃o,h.get? b=some o/\h'.get? b=some o) ->cQ Ss h'=cQ Ss h
 | [],_,_,_=>rfl
 |b::r,h,h',k=>by
  obtain⟨o,e1,e2⟩:=k b List.mem_cons_self
  unfold cQ
  rw[List.filterMap_cons,List.filterMap_cons,e1,e2]
  show(b,o)::cQ r h'=(b,o)::cQ r h
  rw[k8 λc hc=>k c (List.mem_cons_of_mem _ hc)]
section
variable(X:Cx)(B:Around)(sc:Scope)(N':List Str)(code:Value)(sC:Shared)(HC:Hp)(fp Ss:List Addr)(tn:Nat->Heap->Prop)(cnt:Nat)(R:Nat->V->Prop)(W:Nat->St->Hp->Prop)
structure Ag(a:Addr)(i:Nat)(s:Shared):Prop where
 gen:s.heap.IsGen a sC.gens.size
 ex:∃gs pl σ' H',(∀p∈pl,p.1∉Ss)/\s.gens[sC.gens.size]?=some gs/\gs.bare=true/\Inv (X.gen B sc N' code sC HC fp) (cQ Ss s.heap++pl) σ' H' (s.setGen sC.gens.size .running)/\tn i s.heap/\(∀b∈fp,H' b=none)/\W i σ' H'/\
  ∀s'':Shared,(∀b∈Ss,∃o,s''.heap.get? b=some o) ->Inv (X.gen B sc N' code sC HC fp) (cQ Ss s''.heap++pl) σ' H' s''->tn i s''.heap->gs.Goes (model X.prog X.w) B (IW X B sc N' code sC HC fp Ss cnt W) (xo X B sc N' code sC HC fp Ss tn cnt R W) (cnt-i) (.send .none) s''
end
section
variable{X:Cx}{D:Around}{sc:Scope}{N':List Str}{code:Value}{sC:Shared}{HC:Hp}{fp Ss:List Addr}{tn:Nat->Heap->Prop}{cnt:Nat}{R:Nat->V->Prop}{W:Nat->St->Hp->Prop}{a:Addr}{i:Nat}{s:Shared}
theorem Inv.Ct{pl:List (Addr×Obj)}{σ':St}{H':Hp}{s':Shared}(I:Inv X pl σ' H' s'):s'.heap.NoLimit:=I.nolimit
theorem As{B:Around}{pl:List (Addr×Obj)}{σ':St}{H':Hp}{s':Shared}(I:Inv (X.gen B sc N' code sC HC fp) pl σ' H' s'):s'.gens[sC.gens.size]?=some .running:=by
 have e:=I.bare.old sC.gens.size (by simp[Cx.gen])
 rw[e]
 show(sC.gens.push .running)[sC.gens.size]?=_
 simp
theorem Ag.item{Q:Option Value->Shared->Prop}{E:Value->Shared->Prop}(G:Ag X D.in1 sc N' code sC HC fp Ss tn cnt R W a i s)(hh:D.handled=none)(hroom:D.depth<recursionLimit)(ha:a∈Ss)(hs:∀b∈Ss,∃o,s.heap.get? b=some o)(hi:i<cnt)
  (hQ:∀v x s',RelV x v->R i x->Ag X D.in1 sc N' code sC HC fp Ss tn cnt R W a (i+1) s'->(∀b∈Ss,∀o,s.heap.get? b=some o->s'.heap.get? b=some o) ->Q (some v) s'):
  wpAny (model X.prog X.w) D (pyNext (.ref a)) Q E s:=by
 obtain⟨gs,pl,σ',H',hpl,e1,e2,I,st,fr,w,go⟩:=G.ex
 have gg:=go (s.setGen sC.gens.size .running) hs I st
 obtain⟨m,hm⟩:∃m,cnt-i=m+1:=⟨cnt-i-1,by omega⟩
 rw[hm]at gg
 refine wpAny_pyNext_genexpQ (P:=λn s₀ s₁=>n=0/\ ∃σ' H',Inv (X.gen D.in1 sc N' code sC HC fp) (cQ Ss s₀.heap) σ' H' s₁/\W cnt σ' H') hh I.Ct hroom G.gen e1 gg (λv s1 gs' hb hy=> ?_) (λs1 hp=> ?_)
 ·obtain⟨QO,σ1,H1,x,Oc,I1,st1,MV,r1,hR,w1,Pr⟩:=hy
  have ei:cnt- (m+1-1)=i+1:=by omega
  rw[ei]at st1 w1 Pr hR
  have kp:∀b∈Ss,∀o,s.heap.get? b=some o->s1.heap.get? b=some o:=λb hb o e=>(I1.pin (b,o) (List.mem_append_right _ (List.mem_append_left _ (ck hb e)))).1
  have eq:cQ Ss s1.heap=cQ Ss s.heap:=k8 λb hb=>let⟨o,e⟩:=hs b hb;⟨o,e,kp b hb o e⟩
  have run:=As I1
  refine hQ v x _ r1 hR ⟨?_,gs',QO,σ1,H1,Oc,setGen_self run,hb,?_,st1,MV,w1,?_⟩ kp
  ·obtain⟨o,nm,qn,eo,r⟩:=G.gen
   exact⟨o,nm,qn,kp a ha o eo,r⟩
  ·rw[FO run]
   show Inv _ (cQ Ss s1.heap++QO) σ1 H1 s1
   rw[eq]
   exact I1
  ·have e3:cnt- (i+1)=m:=by omega
   rw[e3]
   exact Pr
 ·exact absurd hp.1 (by omega)
theorem Ag.done{pins:List (Addr×Obj)}{σ:St}{Q:Option Value->Shared->Prop}{E:Value->Shared->Prop}(G:Ag X D.in1 sc N' code sC HC fp Ss tn cnt R W a cnt s)(IC:Inv X pins σ HC sC)(hf:∀b∈fp,eV X pins HC b)(hh:D.handled=none)(hroom:D.depth<recursionLimit)(hs:∀b∈Ss,∃o,s.heap.get? b=some o)
  (hQ:∀s' σ' H',Inv X pins σ H' s'->W cnt σ' H'->Q none s'):
  wpAny (model X.prog X.w) D (pyNext (.ref a)) Q E s:=by
 obtain⟨gs,pl,σ',H',hpl,e1,e2,I,st,fr,w,go⟩:=G.ex
 have gg:=go (s.setGen sC.gens.size .running) hs I st
 rw[Nat.sub_self]at gg
 refine wpAny_pyNext_genexpQ (P:=λn s₀ s₁=>n=0/\ ∃σ' H',Inv (X.gen D.in1 sc N' code sC HC fp) (cQ Ss s₀.heap) σ' H' s₁/\W cnt σ' H') hh I.Ct hroom G.gen e1 gg (λv s1 gs' hb hy=> ?_) (λs1 hp h' k=> ?_)
 ·obtain⟨QO,σ1,H1,x,Oc,I1,st1,MV,r1,hR,w1,Pr⟩:=hy
  have kp:∀b∈Ss,∀o,s.heap.get? b=some o->s1.heap.get? b=some o:=λb hb o e=>(I1.pin (b,o) (List.mem_append_right _ (List.mem_append_left _ (ck hb e)))).1
  have eq:cQ Ss s1.heap=cQ Ss s.heap:=k8 λb hb=>let⟨o,e⟩:=hs b hb;⟨o,e,kp b hb o e⟩
  exact False.elim (Pr s1 (λb hb=>let⟨o,e⟩:=hs b hb;⟨o,kp b hb o e⟩) (by rw[eq];exact I1) st1)
 ·obtain⟨_,σ1,H1,I1,w1⟩:=hp
  have I2:=Inv.Kw (gs:= .finished) IC hf rfl I1
  exact hQ _ σ1 H1 (I2.kept (t':=s1.toks) k) w1
end
section
variable{X:Cx}{B:Around}{sc:Scope}{N':List Str}{code:Value}{sC:Shared}{HC:Hp}{fp Ss:List Addr}{tn:Nat->Heap->Prop}{cnt:Nat}{R:Nat->V->Prop}{W:Nat->St->Hp->Prop}
variable{elt iter tg:Expr}{pos:Pos}{it:Addr}{J:It}{g:TG}{te:TE}
theorem FP(hco:sc.isCoroutine=false)(hc:X.calm=true)(T:Turn X.prog X.w X.K tg J fp it tn)(hg:PG (X.gen B sc N' code sC HC fp) tg g)(he:PE (X.gen B sc N' code sC HC fp) elt te)(FN:∀b∈fp,b∉Ss)
  (turn:∀i σ' H',i<cnt->W i σ' H'->J.go i H'/\ ∀x H2,J.yt i H' x H2->g x σ' H2 λσ3 H3=>te σ3 H3 λv H4=>R i v/\W (i+1) σ3 H4)
  (stop:∀σ' H',W cnt σ' H'->J.stop cnt H'){σ':St}{H':Hp}{s:Shared}(w:W 0 σ' H')(I:Inv (X.gen B sc N' code sC HC fp) (cQ Ss s.heap) σ' H' s)(st:tn 0 s.heap)(fr:∀b∈fp,H' b=none):
  Seg (model X.prog X.w) B (IW X B sc N' code sC HC fp Ss cnt W) (xo X B sc N' code sC HC fp Ss tn cnt R W) cnt s (.compStart (.GeneratorExp elt [⟨tg,iter,[],0⟩] sc pos) 0 (.ref it) .none (X.gen B sc N' code sC HC fp).env)
   ((model X.prog X.w).den (.compStart (.GeneratorExp elt [⟨tg,iter,[],0⟩] sc pos) 0 (.ref it) .none (X.gen B sc N' code sC HC fp).env)) [] s:=by
 have lp:=IY (iter:=iter) (pos:=pos) hco hc T hg he FN turn stop cnt 0 σ' H' s s (Nat.add_zero _) w I st fr
 show Seg _ B _ _ _ s _ ((compStart (.GeneratorExp elt [⟨tg,iter,[],0⟩] sc pos) 0 (.ref it) .none (X.gen B sc N' code sC HC fp).env).onRaise (leaving (X.gen B sc N' code sC HC fp).env)) [] s
 unfold compStart
 rw[Sem.onRaise_eq_wrap]
 show Seg _ B _ _ _ s _ ((ask>>=_).wrap _ _ _ _) [] s
 refine seg_bind_wrap (wpAny_askSetting ?_)
 split
 ·exact seg_again rfl lp
 ·first
   |exact seg_bind_wrap (wpAny_rule (seg_bind_wrap (wpAny_standAt (seg_bind_wrap (T.self _ 0 s _ _ st (seg_again rfl lp))))))
   |(refine seg_bind_wrap (wpAny_rule ?_);(show Seg _ B _ _ _ s _ ((standAt iter.pos>>=_).wrap _ _ _ _) [] s);exact seg_bind_wrap (wpAny_standAt (seg_bind_wrap (T.self _ 0 s _ _ st (seg_again rfl lp)))))
end
def vV(k:Nat)(g:TG)(te:TE)(σ:St)(F:Nat->(Nat->V->Prop) ->(Nat->St->Hp->Prop) ->Prop)(J:It)(H:Hp):Prop:=∃(cnt:Nat)(R:Nat->V->Prop)(W:Nat->St->Hp->Prop),W 0 (List.replicate k none++σ) H/\
 (∀i σ' H',i<cnt->W i σ' H'->J.go i H'/\ ∀x H2,J.yt i H' x H2->g x σ' H2 λσ3 H3=>te σ3 H3 λv H4=>R i v/\W (i+1) σ3 H4)/\(∀σ' H',W cnt σ' H'->J.stop cnt H')/\F cnt R W
theorem nJ(elt target iter:Expr)(ifs:List Expr)(cls:List Comprehension)(scope:Scope)(pos:Pos)(env:Env)(hco:scope.isCoroutine=false):
  eval (.GeneratorExp elt (⟨target,iter,ifs,0⟩::cls) scope pos) env=(do
   let x<-eval iter env
   standAt iter.pos
   let x<-genFold iter env x
   let it<-holding [x] (pyIter x)
   enterFrame
   let cl<-closureFor scope env
   let code<-genexprCode env pos (env.qual++ "<genexpr>") scope
   let bi<-builtinsFor env.globals env.builtins
   let cenv<-newFunctionEnv scope env.globals cl [(".0",it)] (env.qual++ "<genexpr>.") none code none bi
   newGenerator (.compStart (.GeneratorExp elt (⟨target,iter,ifs,0⟩::cls) scope pos) 0 it .none cenv) "<genexpr>" (env.qual++ "<genexpr>")):=by
 rw[arm_eval_GeneratorExp]
 simp only[hco,Bool.false_eq_true,if_false]
 cases iter<;>rfl
section
variable{M:Model}{A:Around}{E:Value->Shared->Prop}{s:Shared}
theorem j9{env:Env}{elt target iter:Expr}{ifs:List Expr}{cls:List Comprehension}{scope:Scope}{cl:List (Str×Addr)}{pos:Pos}{Q:Value->Shared->Prop}
  (hco:scope.isCoroutine=false)(hclos:closureFor scope env=pure cl)(hcell:∀y∈scope.names,y.2≠ .cell)(h0:scope.names.lookup (".0":Str)=some NameKind.local)(hkind:scope.kind= .function)
  (hroom:A.depth<recursionLimit)
  (h:wpAny M A (eval iter env) (λxv s₁=>wpAny M A (pyIter xv) (λit s₂=>s₂.heap.NoLimit/\
   wpAny M A (genexprCode env pos (env.qual++ "<genexpr>") scope) (λcode s₃=>wpAny M A (builtinsFor env.globals env.builtins) (λbi s₄=>
    ∀h',h'.Ns s₄.heap.objs.size (λy=>if y= ".0" then some it else none) ->Heap.SameBut s₄.heap.objs.size (s₄.heap.push {cls:= .type "frame",data:= .dict #[]}) h'->
     Q (.ref h'.objs.size) {s₄ with
      gens:=s₄.gens.push (.fresh (.compStart (.GeneratorExp elt (⟨target,iter,ifs,0⟩::cls) scope pos) 0 it .none (genEnv scope cl s₄.heap.objs.size code bi env))),
      toks:=s₄.toks+1+1+1,
      heap:=h'.push {cls:= .type "generator",data:= .fields #[.int s₄.gens.size 0,.str "<genexpr>" (s₄.toks+1),.str (env.qual++ "<genexpr>") (s₄.toks+1+1)]}}) E s₃) E s₂) E s₁) E s)
  (hs:∀x,genFold iter env x=pure x):
  wpAny M A (eval (.GeneratorExp elt (⟨target,iter,ifs,0⟩::cls) scope pos) env) Q E s:=by
 rw[nJ _ _ _ _ _ _ _ _ hco,hclos]
 refine wpAny_bind (wpAny_mono h (λxv s₁ h₁=> ?_) λ_ _ e=>e)
 refine wpAny_bind (wpAny_standAt ?_)
 refine wpAny_bind (wpAny_of_eq (hs xv) ?_)
 refine wpAny_bind (wpAny_holding (wpAny_mono h₁ (λit s₂ h₂=> ?_) λ_ _ e=>e))
 refine wpAny_bind (wpAny_enterFrame h₂.1 hroom ?_)
 refine wpAny_bind (wpAny_pure ?_)
 refine wpAny_bind (wpAny_mono h₂.2 (λcode s₃ h₃=> ?_) λ_ _ e=>e)
 refine wpAny_bind (wpAny_mono h₃ (λbi s₄ h₄=> ?_) λ_ _ e=>e)
 have LK:∀y∈([((".0":Str),it)]:List (Str×Value)),scope.names.lookup y.1=some NameKind.local:=by
  intro y hy
  rcases List.mem_cons.mp hy with rfl|hy
  ·exact h0
  ·cases hy
 refine wpAny_bind (wpAny_newFunctionEnv hcell LK (λh' hn' hs'=> ?_) hkind)
 have e:(λy:Str=>([((".0":Str),it)]:List (Str×Value)).reverse.lookup y)=λy:Str=>if y=(".0":Str)then some it else none:=by
  funext y
  by_cases hy:y= ".0"
  ·subst hy;simp
  ·have:(y==(".0":Str))=false:=by simpa using hy
   simp[List.lookup,this,hy]
 rw[e]at hn'
 simp only[newGenerator,newFields]
 refine wpAny_bind (wpAny_newGen (wpAny_bind (wpAny_mkText (wpAny_bind (wpAny_mkText (wpAny_newObj_type ?_ (by size_fits)))))))
 exact h₄ h' hn' hs'
end
section
variable{X:Cx}{sc:Scope}{own N2:List Str}{elt iter tg:Expr}{pos:Pos}{wi:TI}{g:TG}{te:TE}{P:Addr}
theorem FQ{ifs:List Expr}{cls:List Comprehension}{Rd:It->Hp->Prop}{pins:List (Addr×Obj)}{σ:St}{H0:Hp}{s0:Shared}{F:Nat->(Nat->V->Prop) ->(Nat->St->Hp->Prop) ->Prop}(more:Nat->List Addr)(hmore:∀a,∀b∈more a,a<b)
  (hc:X.calm=true)(hroom:X.A.depth<recursionLimit)(hi:PI X tg iter wi)(Bk:nI sc.names X.env.scope.names own N2 X.N)(hk:sc.kind= .function)(hco:sc.isCoroutine=false)(hnc:∀y∈sc.names,y.2≠ .cell)(QS:sc.names.lookup (".0":Str)=some NameKind.local)
  (hcd:gc X.K X.env.code P)(bm:BM X.mg X.base)
  (hs:∀x,genFold iter X.env x=pure x)
  (QT:∀code s H fp it Kx J,Turn X.prog X.w X.K tg J fp it Kx->(∀b∈fp,H b=none) ->Rd J H-> ∃cnt R W tn,F cnt R W/\W 0 (List.replicate own.length none++σ) H/\(∀h,Kx 0 h↔tn 0 h)/\(∀i h h',tn i h->(∀b∈fp,∀o,h.get? b=some o->h'.get? b=some o) ->tn i h')/\
   ∀Ss:List Addr,(∀b∈fp,b∉Ss) -> ∀s'':Shared,(∀b∈Ss,∃o,s''.heap.get? b=some o) ->Inv (X.gen X.A.in1.in1 sc (own++N2) code s H fp) (cQ Ss s''.heap) (List.replicate own.length none++σ) H s''->Kx 0 s''.heap->
    Seg (model X.prog X.w) X.A.in1.in1 (IW X X.A.in1.in1 sc (own++N2) code s H fp Ss cnt W) (xo X X.A.in1.in1 sc (own++N2) code s H fp Ss tn cnt R W) cnt s'' (.compStart (.GeneratorExp elt (⟨tg,iter,ifs,0⟩::cls) sc pos) 0 (.ref it) .none (X.gen X.A.in1.in1 sc (own++N2) code s H fp).env)
     ((model X.prog X.w).den (.compStart (.GeneratorExp elt (⟨tg,iter,ifs,0⟩::cls) sc pos) 0 (.ref it) .none (X.gen X.A.in1.in1 sc (own++N2) code s H fp).env)) [] s'')
  (I0:Inv X pins σ H0 s0)(h:wi σ H0 λJ H=>H P=some (dW P)/\Rd J H):
  wpAny (model X.prog X.w) X.A (eval (.GeneratorExp elt (⟨tg,iter,ifs,0⟩::cls) sc pos) X.env) (λu s5=> ∃a cnt R W sC HC fp code tn,u= .ref a/\s5.heap.objs.size=a+1/\
   Ag X X.A.in1.in1 sc (own++N2) code sC HC fp (a::more a) tn cnt R W a 0 s5/\Inv X pins σ HC sC/\(∀b∈fp,eV X pins HC b)/\sC.heap.objs.size<a/\(∀b∈fp,b<sC.heap.objs.size)/\(∀i h h',tn i h->(∀b∈fp,∀o,h.get? b=some o->h'.get? b=some o) ->tn i h')/\F cnt R W) X.xe s0:=by
 refine j9 hco (mW I0 Bk) hnc QS hk hroom ?_ hs
 refine wpAny_mono (hi pins s0 σ H0 _ I0 h) (λxv s1 h1=>wpAny_mono h1 (λitv s2 h2=> ?_) λ_ _ e=>e) λ_ _ e=>e
 obtain⟨it,fp,Kx,J,H,e,I,T,st,hf,hP,Uy⟩:=h2
 subst e
 refine⟨I.Ct,Aq I hcd hP λcode h3 Su I3 ext=> ?_⟩
 obtain⟨Pu,ob,b1,b2,b3,b4,b5,b6⟩:=bm
 refine wpAny_builtinsFor (m:=X.mg) (by rw[I3.ok.glob];exact I3.mod.glob.keeps I3.bk) b1 b2 (I3.bk _ _ b3) b4 b5 b6 ?_
 intro h' hn' hs'
 have st3:Kx 0 h3:=T.keep _ _ _ st λb hb o e=>ext b o (λz=>by have:=(hf b hb).1;rw[z,hP]at this;cases this) e
 have QU:∀b∈fp,∃o,h3.get? b=some o:=λb hb=>let⟨o,e,_⟩:=T.obj 0 _ st3 b hb;⟨o,e⟩
 have Ky:∀b o,h3.get? b=some o->h'.get? b=some o:=λb o e=>hs'.extBut b o (Nat.ne_of_lt (Heap.lt_size e)) (Heap.get?_push_of_some _ e)
 have sz':h'.objs.size=h3.objs.size+1:=by rw[hs'.1,Heap.size_push]
 have IG:=λ(hx:Heap)(tk:Nat)(m:Str->Option Value)(hn:hx.Ns h3.objs.size m)(kp:∀b o,h3.get? b=some o->hx.get? b=some o)=>
  IV (B:=X.A.in1.in1) (code:=code) (fp:=fp) (h':=hx) (tk:=tk) I3 Bk hk hnc hf QU I3.ok.frames (I3.ok.hd hc) hn kp
 obtain⟨cnt,R,W,tn,hF,w0,Sv,FT,sg⟩:=QT code {s2 with heap:=h3,toks:=Su} H fp it Kx J T (λb hb=>(hf b hb).1) Uy
 refine⟨h'.objs.size,cnt,R,W,{s2 with heap:=h3,toks:=Su},H,fp,code,tn,rfl,by rw[Heap.size_push],⟨⟨_,_,_,Heap.get?_push_size _ rfl,rfl,rfl,rfl⟩,.fresh _,[],List.replicate own.length none++σ,H,(λ_ h=>nomatch h),Array.getElem?_push_size ..,rfl,?_,?_,λb hb=>(hf b hb).1,w0,?_⟩,I3,hf,by show h3.objs.size<h'.objs.size;omega,λb hb=>let⟨o,e⟩:=QU b hb;Heap.lt_size e,FT,hF⟩
 ·have eg:(s2.gens.push (GenState.fresh (.compStart (.GeneratorExp elt (⟨tg,iter,ifs,0⟩::cls) sc pos) 0 (.ref it) .none (genEnv sc (cg X.env sc.names []) h3.objs.size code builtinsNs X.env)))).setIfInBounds s2.gens.size .running=s2.gens.push .running:=by
   apply Array.ext_getElem?
   intro i
   by_cases e:s2.gens.size=i
   ·subst e
    rw[Array.getElem?_setIfInBounds_self_of_lt (by simp)]
    simp
   ·rw[Array.getElem?_setIfInBounds_ne e,Array.getElem?_push,Array.getElem?_push]
    simp[Ne.symm e]
  simp only[Shared.setGen]
  rw[eg,List.append_nil]
  refine Inv.ji (pins:=[]) (IG _ _ _ (hn'.push _) (λb o e=>Heap.get?_push_of_some _ (Ky b o e))) λp hp=> ?_
  obtain⟨q1,q2⟩:=jn hp
  have ep:p.1=h'.objs.size:=by
   rcases List.mem_cons.mp q1 with z|z
   ·exact z
   ·have l1:=hmore _ _ z
    have l2:=Heap.lt_size q2
    rw[Heap.size_push]at l2
    exact absurd (Nat.lt_of_lt_of_le l1 (Nat.le_of_lt_succ l2)) (Nat.lt_irrefl _)
  have big:h3.objs.size<=p.1:=by rw[ep,sz'];exact Nat.le_succ _
  have LL:h3.objs.size<p.1:=by rw[ep,sz'];exact Nat.lt_succ_self _
  refine⟨q2,I3.hok.fresh big,Nat.ne_of_gt LL,λz=> ?_,λv=> ?_⟩
  ·rcases List.mem_cons.mp (I3.su p.1 z)with y|y
   ·have l:X.env.locals<h3.objs.size:=I3.lt
    rw[y]at LL
    exact absurd (Nat.lt_trans l LL) (Nat.lt_irrefl _)
   ·exact I3.Nn big y
  ·rw[ep]at q2
   rw[Heap.get?_push_size _ rfl]at q2
   intro z
   rw[<-Option.some.inj q2]at z
   cases z
 ·exact(Sv _).1 (T.keep _ _ _ st3 λb hb o e=>Heap.get?_push_of_some _ (Ky b o e))
 ·intro s'' QV LJ st''
  rw[List.append_nil]at LJ
  refine⟨rfl,?_⟩
  rw[Nat.sub_zero]
  refine sg _ (λb hb z=> ?_) s'' QV LJ ((Sv _).2 st'')
  have l:b<h3.objs.size:=let⟨o,e⟩:=QU b hb;Heap.lt_size e
  rcases List.mem_cons.mp z with y|y
  ·rw[y,sz']at l
   exact absurd (Nat.lt_of_succ_lt l) (Nat.lt_irrefl _)
  ·have l2:=hmore _ _ y
   rw[sz']at l2
   exact absurd (Nat.lt_trans (Nat.lt_trans l (Nat.lt_succ_self _)) l2) (Nat.lt_irrefl _)
theorem Cu{pins:List (Addr×Obj)}{σ:St}{H0:Hp}{s0:Shared}{F:Nat->(Nat->V->Prop) ->(Nat->St->Hp->Prop) ->Prop}(more:Nat->List Addr)(hmore:∀a,∀b∈more a,a<b)
  (hc:X.calm=true)(hroom:X.A.depth<recursionLimit)(hi:PI X tg iter wi)(Bk:nI sc.names X.env.scope.names own N2 X.N)(hk:sc.kind= .function)(hco:sc.isCoroutine=false)(hnc:∀y∈sc.names,y.2≠ .cell)(QS:sc.names.lookup (".0":Str)=some NameKind.local)
  (hcd:gc X.K X.env.code P)(bm:BM X.mg X.base)
  (hg:∀code s H fp,PG (X.gen X.A.in1.in1 sc (own++N2) code s H fp) tg g)(he:∀code s H fp,PE (X.gen X.A.in1.in1 sc (own++N2) code s H fp) elt te)
  (hs:∀x,genFold iter X.env x=pure x)(I0:Inv X pins σ H0 s0)(h:wi σ H0 λJ H=>H P=some (dW P)/\vV own.length g te σ F J H):
  wpAny (model X.prog X.w) X.A (eval (.GeneratorExp elt [⟨tg,iter,[],0⟩] sc pos) X.env) (λu s5=> ∃a cnt R W sC HC fp code tn,u= .ref a/\s5.heap.objs.size=a+1/\
   Ag X X.A.in1.in1 sc (own++N2) code sC HC fp (a::more a) tn cnt R W a 0 s5/\Inv X pins σ HC sC/\(∀b∈fp,eV X pins HC b)/\sC.heap.objs.size<a/\(∀b∈fp,b<sC.heap.objs.size)/\(∀i h h',tn i h->(∀b∈fp,∀o,h.get? b=some o->h'.get? b=some o) ->tn i h')/\F cnt R W) X.xe s0:=
 FQ (cls:=[]) (Rd:=λJ H=>vV own.length g te σ F J H) more hmore hc hroom hi Bk hk hco hnc QS hcd bm hs (λcode s H fp it Kx J T hfr ⟨cnt,R,W,w0,turn,stop,hF⟩=>
  ⟨cnt,R,W,Kx,hF,w0,λ_=>Iff.rfl,T.keep,λSs hd s'' _ LJ st''=>FP hco hc T (hg code s H fp) (he code s H fp) hd turn stop w0 LJ st'' hfr⟩) I0 h
end
section
variable{X:Cx}{B:Around}{sc:Scope}{N':List Str}{code:Value}{sC:Shared}{HC:Hp}{fp:List Addr}{tn:Nat->Heap->Prop}{cnt:Nat}{R:Nat->V->Prop}{W:Nat->St->Hp->Prop}{a S:Addr}{i:Nat}{s:Shared}
theorem Ag.frame{h':Heap}{tk:Nat}{o':Obj}(G:Ag X B sc N' code sC HC fp [a,S] tn cnt R W a i s)(Kz:a≠S)(hC:sC.heap.objs.size<S)(hfp:∀b∈fp,b≠S)
  (FT:∀i h h',tn i h->(∀b∈fp,∀o,h.get? b=some o->h'.get? b=some o) ->tn i h')(hS:(∃o,s.heap.get? S=some o)∨s.heap.objs.size<=S)
  (keep:∀b o,b≠S->s.heap.get? b=some o->h'.get? b=some o)(e':h'.get? S=some o')(nc:∀v,o'.data≠ .cell v):
  Ag X B sc N' code sC HC fp [a,S] tn cnt R W a i {s with heap:=h',toks:=tk}:=by
 obtain⟨gs,pl,σ',H',hpl,e1,e2,I,st,fr,w,go⟩:=G.ex
 have I1:Inv (X.gen B sc N' code sC HC fp) (cQ [a] s.heap++pl) σ' H' (s.setGen sC.gens.size .running):=I.ji λp hp=>by
  rcases List.mem_append.mp hp with hp|hp
  ·obtain⟨q1,q2⟩:=jn hp
   exact I.pin p (List.mem_append_right _ (List.mem_append_left _ (ck (fp:=[a,S]) (by rw[List.mem_singleton.mp q1];simp) q2)))
  ·exact I.pin p (List.mem_append_right _ (List.mem_append_right _ hp))
 have Uz:S∉(X.gen B sc N' code sC HC fp).fs:=λhb=>by
  obtain⟨_,o,ho,_⟩:=I.ok.rD.mem hb
  exact absurd (Nat.lt_trans (Heap.lt_size ho) hC) (Nat.lt_irrefl _)
 have ea:∃oa,s.heap.get? a=some oa:=let⟨o,_,_,q,_⟩:=G.gen;⟨o,q⟩
 obtain⟨oa,ea⟩:=ea
 have I2:Inv (X.gen B sc N' code sC HC fp) (cQ [a] s.heap++pl) σ' H' {s.setGen sC.gens.size .running with heap:=h',toks:=tk}/\H' S=none:=by
  rcases hS with⟨o,eo⟩|hS
  ·have pS:=I.pin (S,o) (List.mem_append_right _ (List.mem_append_left _ (ck (fp:=[a,S]) (by simp) eo)))
   refine⟨I1.turned (it:=S) (h':=h') (t':=tk) keep pS.2.1 (Nat.ne_of_gt hC) (.inr (Nat.le_of_lt hC)) (λy c hc z=> ?_) (λp hp z=> ?_),pS.2.1⟩
   ·obtain⟨v,oc,q1,q2⟩:=I.cell y c hc
    rw[z]at q1
    have Sw:s.heap.get? S=some oc:=q1
    rw[eo]at Sw
    have q3:o=oc:=Option.some.inj Sw
    exact pS.2.2.2.2 v (by rw[q3];exact q2)
   ·have kW:p∈cQ [a] s.heap++pl:=hp
    rcases List.mem_append.mp kW with kW|kW
    ·exact Kz (by rw[<-z,List.mem_singleton.mp (jn kW).1])
    ·exact hpl p kW (by rw[z];simp)
  ·refine⟨I1.kept (h':=h') (t':=tk) λb o e=>keep b o (λz=> ?_) e,I.hok.fresh hS⟩
   exact absurd (Nat.lt_of_lt_of_le (Heap.lt_size e) (by rw[z];exact hS)) (Nat.lt_irrefl _)
 obtain⟨I2,UA⟩:=I2
 refine⟨(let⟨o,nm,qn,q,r⟩:=G.gen;⟨o,nm,qn,keep a o Kz q,r⟩),gs,pl,σ',H',hpl,e1,e2,I2.ji λp hp=> ?_,FT _ _ _ st λb hb o e=>keep b o (hfp b hb) e,fr,w,go⟩
 refine(List.mem_append.mp hp).elim (λhp=> ?_) (λhp=>I2.pin p (List.mem_append_right _ (List.mem_append_right _ hp)))
 obtain⟨q1,q2⟩:=jn hp
 rcases List.mem_cons.mp q1 with z|z
 ·have q:=I2.pin (a,oa) (List.mem_append_right _ (List.mem_append_left _ (ck (fp:=[a]) (by simp) ea)))
  have Od:h'.get? p.1=some p.2:=q2
  rw[z,keep a oa Kz ea]at Od
  have q3:oa=p.2:=Option.some.inj Od
  have ep:p=(a,oa):=by rw[<-z,q3]
  rw[ep]
  exact q
 ·have z':p.1=S:=List.mem_singleton.mp z
  have Od:h'.get? p.1=some p.2:=q2
  rw[z',e']at Od
  have q3:o'=p.2:=Option.some.inj Od
  refine⟨q2,by rw[z'];exact UA,by rw[z'];exact Nat.ne_of_gt hC,by rw[z'];exact Uz,by rw[<-q3];exact nc⟩
end
section
variable{X:Cx}{sc:Scope}{N':List Str}{code:Value}{sC:Shared}{HC:Hp}{fp:List Addr}{tn:Nat->Heap->Prop}{cnt:Nat}{R:Nat->V->Prop}{W:Nat->St->Hp->Prop}{a S:Addr}{pins:List (Addr×Obj)}{σ:St}{Rr:Result->Shared->Prop}
theorem DF(IC:Inv X pins σ HC sC)(hf:∀b∈fp,eV X pins HC b)(hh:X.A.handled=none)(hroom:X.A.depth<recursionLimit)(Kz:a≠S)(hC:sC.heap.objs.size<S)(hfp:∀b∈fp,b≠S)
  (FT:∀i h h',tn i h->(∀b∈fp,∀o,h.get? b=some o->h'.get? b=some o) ->tn i h')(val:Nat->Int)(hval:∀i v,i<cnt->R i v->v= .int (val i)):∀(k i:Nat)(s:Shared)(tA:Tok)(c:Nat)(st:Int),(st=0∨st=2) ->cnt-i=k->i<=cnt->
  Ag X X.A.in1.in1 sc N' code sC HC fp [a,S] tn cnt R W a i s->s.heap.get? S=some {cls:= .type "list",dict:=none,data:= .seq #[.int (preSum val i) tA] c,slots:= #[]} ->
  (∀s' t' σ' H',Inv X pins σ H' s'->W cnt σ' H'->Rr (.ok (.ret (.int (preSum val cnt) t'))) s') ->codeAny (model X.prog X.w) X.A (.builtin "sum.loop" ⟨[.ref a,.ref S,rawInt st,rawInt 0],[]⟩) Rr s:=by
 intro k
 induction k with
 |zero=>
  intro i s tA c st hst hk hi G hS hR
  obtain rfl:i=cnt:=by omega
  refine codeAny_builtin PySem.F.entry_sum_loop (by
   rw[Around.under_plainId PySem.F.plain_sum_loop _]
   show wpAny _ X.A.in1 (seqItems? (.ref S)>>=_) _ _ s
   refine wpAny_bind (wpAny_seqItems hS rfl ?_)
   show wpAny _ X.A.in1 (tryCatch (pyNext (.ref a)) _>>=_) _ _ s
   have ex:∀b∈ [a,S],∃o,s.heap.get? b=some o:=λb hb=>by
    rcases List.mem_cons.mp hb with z|z
    ·obtain⟨o,_,_,q,_⟩:=G.gen;rw[z];exact⟨o,q⟩
    ·rw[List.mem_singleton.mp z];exact⟨_,hS⟩
   exact wpAny_bind (wpAny_tryCatch (G.done (D:=X.A.in1) IC hf hh hroom ex λs' σ' H' I' w'=>wpAny_pure (hR s' tA σ' H' I' w'))))
 |succ k ih=>
  intro i s tA c st hst hk hi G hS hR
  have hlt:i<cnt:=by omega
  have ex:∀b∈ [a,S],∃o,s.heap.get? b=some o:=λb hb=>by
   rcases List.mem_cons.mp hb with z|z
   ·obtain⟨o,_,_,q,_⟩:=G.gen;rw[z];exact⟨o,q⟩
   ·rw[List.mem_singleton.mp z];exact⟨_,hS⟩
  refine codeAny_builtin PySem.F.entry_sum_loop (by
   rw[Around.under_plainId PySem.F.plain_sum_loop _]
   show wpAny _ X.A.in1 (seqItems? (.ref S)>>=_) _ _ s
   refine wpAny_bind (wpAny_seqItems hS rfl ?_)
   show wpAny _ X.A.in1 (tryCatch (pyNext (.ref a)) _>>=_) _ _ s
   refine wpAny_bind (wpAny_tryCatch (G.item (D:=X.A.in1) hh hroom (by simp) ex hlt λv x s' rx QW G' kp=> ?_))
   obtain rfl:=hval i x hlt QW
   obtain⟨t,rfl⟩:=rx
   have hS':=kp S (by simp) _ hS
   have again:∀(h':Heap)(tk:Nat)(c':Nat)(tB:Tok)(st':Int),(st'=0∨st'=2) ->(∀b o,b≠S->s'.heap.get? b=some o->h'.get? b=some o) ->h'.get? S=some {cls:= .type "list",dict:=none,data:= .seq #[.int (preSum val i+val i) tB] c',slots:= #[]} ->
     codeAny (model X.prog X.w) X.A (.builtin "sum.loop" ⟨[.ref a,.ref S,rawInt st',rawInt 0],[]⟩) Rr {s' with heap:=h',toks:=tk}:=λh' tk c' tB st' QX UB e'=>
    ih (i+1) _ tB c' st' QX (by omega) hlt (G'.frame Kz hC hfp FT (.inl ⟨_,hS'⟩) UB e' (λv z=>by cases z)) e' hR
   rcases hst with rfl|rfl
   ·show wpAny _ X.A.in1 (if(_:Bool)=true then(mkInt (preSum val i+val i)>>=_)else _) _ _ _
    split
    ·refine wpAny_bind (wpAny_mkInt ?_)
     show wpAny _ X.A.in1 (updateSeq S (λ_=> #[.int (preSum val i+val i) s'.toks])>>=_) _ _ _
     exact wpAny_bind (wpAny_updateSeq hS' rfl (wpAny_pure ⟨plainId_quiet PySem.F.plain_sum_loop _,again _ _ _ _ 0 (.inl rfl) (λb o hb e=>(Heap.get?_update_other _ _ (Ne.symm hb)).trans e) (Heap.get?_update_self _ hS' rfl)⟩))
    ·refine wpAny_bind (wpAny_rule (wpAny_bind (wpAny_attempt (wpAny_holding (wpAny_add_int ?_)))))
     show wpAny _ X.A.in1 (updateSeq S (λ_=> #[.int (preSum val i+val i) s'.toks])>>=_) _ _ _
     refine wpAny_bind (wpAny_updateSeq hS' rfl ?_)
     have Oe:=Heap.get?_update_self (Obj.mapSeq λ_=> #[Value.int (preSum val i+val i) s'.toks]) hS' rfl
     exact wpAny_bind (wpAny_letGo (wpAny_bind (wpAny_updateSeq Oe rfl (wpAny_pure ⟨plainId_quiet PySem.F.plain_sum_loop _,again _ _ _ _ 2 (.inr rfl) (λb o hb e=>(Heap.get?_update_other _ _ (Ne.symm hb)).trans ((Heap.get?_update_other _ _ (Ne.symm hb)).trans e)) (Heap.get?_update_self _ Oe rfl)⟩))))
   ·show wpAny _ X.A.in1 ((holding [Value.int (val i) t] (binaryOp .Add (.int (preSum val i) tA) (.int (val i) t))).attempt>>=_) _ _ _
    refine wpAny_bind (wpAny_attempt (wpAny_holding (wpAny_add_int ?_)))
    show wpAny _ X.A.in1 (updateSeq S (λ_=> #[.int (preSum val i+val i) s'.toks])>>=_) _ _ _
    refine wpAny_bind (wpAny_updateSeq hS' rfl ?_)
    have Oe:=Heap.get?_update_self (Obj.mapSeq λ_=> #[Value.int (preSum val i+val i) s'.toks]) hS' rfl
    exact wpAny_bind (wpAny_letGo (wpAny_bind (wpAny_updateSeq Oe rfl (wpAny_pure ⟨plainId_quiet PySem.F.plain_sum_loop _,again _ _ _ _ 2 (.inr rfl) (λb o hb e=>(Heap.get?_update_other _ _ (Ne.symm hb)).trans ((Heap.get?_update_other _ _ (Ne.symm hb)).trans e)) (Heap.get?_update_self _ Oe rfl)⟩)))))
theorem DG{Q:Value->Shared->Prop}{E:Value->Shared->Prop}{s:Shared}(IC:Inv X pins σ HC sC)(hf:∀b∈fp,eV X pins HC b)(hh:X.A.handled=none)(hroom:X.A.depth<recursionLimit)(hsz:s.heap.objs.size=a+1)(hC:sC.heap.objs.size<a)(hlt:∀b∈fp,b<sC.heap.objs.size)
  (FT:∀i h h',tn i h->(∀b∈fp,∀o,h.get? b=some o->h'.get? b=some o) ->tn i h')(val:Nat->Int)(hval:∀i v,i<cnt->R i v->v= .int (val i))(G:Ag X X.A.in1.in1 sc N' code sC HC fp [a,a+1] tn cnt R W a 0 s)
  (hQ:∀s' t' σ' H',Inv X pins σ H' s'->W cnt σ' H'->Q (.int (preSum val cnt) t') s'):wpAny (model X.prog X.w) X.A (call (.builtin "sum") [.ref a]) Q E s:=by
 refine call_function_tree PySem.F.kind_sum PySem.F.plain_sum PySem.F.entry_sum (PySem.F.args_sum1 _) ?_
 unfold Builtin.«sum»
 simp only[List.length_cons,List.length_nil]
 rw[if_neg (by decide)]
 refine wpAny_bind (wpAny_of_eq (a:=[none]) rfl ?_)
 refine wpAny_bind (wpAny_pyIter_gen G.gen ?_)
 refine wpAny_bind (wpAny_mkInt (wpAny_bind (wpAny_pure ?_)))
 simp only[List.forIn_cons,List.forIn_nil]
 refine wpAny_bind (wpAny_bind (wpAny_bind (wpAny_isInstance (T:= "int") (b:=false) (typeIs_int _ _ _) PySem.sub_int_str ?_)))
 simp only[Bool.false_eq_true,if_false]
 refine wpAny_pure (wpAny_bind (wpAny_bind (wpAny_isInstance (T:= "int") (b:=false) (typeIs_int _ _ _) PySem.sub_int_bytes ?_)))
 simp only[Bool.false_eq_true,if_false]
 refine wpAny_pure (wpAny_bind (wpAny_bind (wpAny_isInstance (T:= "int") (b:=false) (typeIs_int _ _ _) PySem.sub_int_bytearray ?_)))
 simp only[Bool.false_eq_true,if_false]
 refine wpAny_pure (wpAny_pure (wpAny_bind (wpAny_newObj_type ?_)))
 have Kz:a≠a+1:=Nat.ne_of_lt (Nat.lt_succ_self _)
 have QY:sC.heap.objs.size<a+1:=Nat.lt_succ_of_lt hC
 have Sx:∀b∈fp,b≠a+1:=λb hb=>Nat.ne_of_lt (Nat.lt_trans (hlt b hb) QY)
 refine wpAny_pure ⟨plainId_quiet PySem.F.plain_sum_loop _,?_⟩
 have e0:({s with toks:=s.toks+1}:Shared).heap.objs.size=a+1:=hsz
 dsimp only
 rw[hsz]
 have eS:(s.heap.push {cls:= .type "list",dict:=none,data:= .seq #[Value.int 0 s.toks]}).get? (a+1)=some {cls:= .type "list",dict:=none,data:= .seq #[Value.int 0 s.toks]}:=by
  rw[<-hsz];exact Heap.get?_push_size _ rfl
 refine DF IC hf hh hroom Kz QY Sx FT val hval cnt 0 _ s.toks 0 0 (.inl rfl) rfl (Nat.zero_le _) (G.frame Kz QY Sx FT (.inr (Nat.le_of_eq hsz)) (λb o _ e=>Heap.get?_push_of_some _ e) eS (λv z=>by cases z)) eS λs' t' σ' H' I' w'=> ?_
 exact hQ s' t' σ' H' I' w'
end
theorem set_same{s:Shared}{g:Nat}{x y:GenState}(h:s.gens[g]?=some x):(s.setGen g y).setGen g x=s:=by
 obtain⟨hh,gens,d,t,os⟩:=s
 have hlt:g<gens.size:=by
  rcases Nat.lt_or_ge g gens.size with q|q
  ·exact q
  ·have z:gens[g]?=none:=Array.getElem?_eq_none q
   have h':gens[g]?=some x:=h
   rw[z]at h';cases h'
 have q:(gens.setIfInBounds g y).setIfInBounds g x=gens:=by
  apply Array.ext_getElem?
  intro i
  by_cases e:g=i
  ·subst e
   rw[Array.getElem?_setIfInBounds_self_of_lt (by simpa using hlt)]
   exact h.symm
  ·rw[Array.getElem?_setIfInBounds_ne e,Array.getElem?_setIfInBounds_ne e]
 show({heap:=hh,gens:=(gens.setIfInBounds g y).setIfInBounds g x,drawn:=d,toks:=t,os:=os}:Shared)=_
 rw[q]
section
variable{X:Cx}{sc:Scope}{N':List Str}{code:Value}{sC:Shared}{HC:Hp}{fp Ss:List Addr}{tn:Nat->Heap->Prop}{cnt:Nat}{R:Nat->V->Prop}{W:Nat->St->Hp->Prop}{a:Addr}{pins:List (Addr×Obj)}{σ:St}{Rr:Result->Shared->Prop}
theorem Ag.out{B:Around}{i:Nat}{s:Shared}(G:Ag X B sc N' code sC HC fp Ss tn cnt R W a i s)(IC:Inv X pins σ HC sC)(hf:∀b∈fp,eV X pins HC b):∃σ' H',Inv X pins σ H' s/\W i σ' H':=by
 obtain⟨gs,pl,σ',H',hpl,e1,e2,I,st,fr,w,go⟩:=G.ex
 have q:=Inv.Kw (gs:=gs) IC hf e2 I
 rw[set_same e1]at q
 exact⟨σ',H',q,w⟩
theorem DH(IC:Inv X pins σ HC sC)(hf:∀b∈fp,eV X pins HC b)(hh:X.A.handled=none)(hroom:X.A.depth<recursionLimit)(bv:Nat->Bool)(hval:∀i v,i<cnt->R i v->v= .bl (bv i)):∀(k i:Nat)(s:Shared),cnt-i=k->i<=cnt->
  Ag X X.A.in1.in1 sc N' code sC HC fp [a] tn cnt R W a i s->(∀j,j<i->bv j=true) ->
  ((∀j,j<cnt->bv j=true) -> ∀s' σ' H',Inv X pins σ H' s'->W cnt σ' H'->Rr (.ok (.ret (.bool true))) s') ->
  (∀j,j<cnt->bv j=false->(∀l,l<j->bv l=true) -> ∀s' σ' H',Inv X pins σ H' s'->W (j+1) σ' H'->Rr (.ok (.ret (.bool false))) s') ->codeAny (model X.prog X.w) X.A (.builtin "all.loop" ⟨[.ref a],[]⟩) Rr s:=by
 intro k
 induction k with
 |zero=>
  intro i s hk hi G hp hT hF
  obtain rfl:i=cnt:=by omega
  have ex:∀b∈ [a],∃o,s.heap.get? b=some o:=λb hb=>by
   obtain⟨o,_,_,q,_⟩:=G.gen;rw[List.mem_singleton.mp hb];exact⟨o,q⟩
  refine codeAny_builtin PySem.F.entry_all_loop (by
   rw[Around.under_plainId PySem.F.plain_all_loop _]
   show wpAny _ X.A.in1 (pyNext (.ref a)>>=_) _ _ s
   exact wpAny_bind (G.done (D:=X.A.in1) IC hf hh hroom ex λs' σ' H' I' w'=>wpAny_bind (wpAny_rule (wpAny_pure (hT hp s' σ' H' I' w')))))
 |succ k ih=>
  intro i s hk hi G hp hT hF
  have hlt:i<cnt:=by omega
  have ex:∀b∈ [a],∃o,s.heap.get? b=some o:=λb hb=>by
   obtain⟨o,_,_,q,_⟩:=G.gen;rw[List.mem_singleton.mp hb];exact⟨o,q⟩
  refine codeAny_builtin PySem.F.entry_all_loop (by
   rw[Around.under_plainId PySem.F.plain_all_loop _]
   show wpAny _ X.A.in1 (pyNext (.ref a)>>=_) _ _ s
   refine wpAny_bind (G.item (D:=X.A.in1) hh hroom (by simp) ex hlt λv x s' rx QW G' kp=> ?_)
   obtain rfl:=hval i x hlt QW
   cases rx
   refine wpAny_bind (wpAny_holding (wpAny_truthy_bool (wpAny_bind (wpAny_letGo ?_))))
   cases hb:bv i with
   |true=>
    simp only[if_true]
    exact wpAny_pure ⟨plainId_quiet PySem.F.plain_all_loop _,ih (i+1) _ (by omega) hlt G' (λj hj=>by
     rcases Nat.lt_or_ge j i with q|q
     ·exact hp j q
     ·rw[show j=i by omega];exact hb) hT hF⟩
   |false=>
    simp only[Bool.false_eq_true,if_false]
    obtain⟨σ',H',I',w'⟩:=G'.out IC hf
    exact wpAny_bind (wpAny_rule (wpAny_pure (hF i hlt hb hp s' σ' H' I' w'))))
theorem DI{Q:Value->Shared->Prop}{E:Value->Shared->Prop}{s:Shared}(IC:Inv X pins σ HC sC)(hf:∀b∈fp,eV X pins HC b)(hh:X.A.handled=none)(hroom:X.A.depth<recursionLimit)(bv:Nat->Bool)(hval:∀i v,i<cnt->R i v->v= .bl (bv i))(G:Ag X X.A.in1.in1 sc N' code sC HC fp [a] tn cnt R W a 0 s)
  (hT:(∀j,j<cnt->bv j=true) -> ∀s' σ' H',Inv X pins σ H' s'->W cnt σ' H'->Q (.bool true) s')
  (hF:∀j,j<cnt->bv j=false->(∀l,l<j->bv l=true) -> ∀s' σ' H',Inv X pins σ H' s'->W (j+1) σ' H'->Q (.bool false) s'):wpAny (model X.prog X.w) X.A (call (.builtin "all") [.ref a]) Q E s:=by
 refine call_function_tree PySem.F.kind_all PySem.F.plain_all PySem.F.entry_all (PySem.F.args_all1 _) ?_
 unfold Builtin.«all»
 refine wpAny_bind (m:=oneArg "all" _) (wpAny_pure (wpAny_bind (wpAny_pyIter_gen G.gen ?_)))
 exact wpAny_pure ⟨plainId_quiet PySem.F.plain_all_loop _,DH IC hf hh hroom bv hval cnt 0 s rfl (Nat.zero_le _) G (λj hj=>absurd hj (Nat.not_lt_zero _)) hT hF⟩
end
def FU(k:Nat)(P:Addr)(g:TG)(te:TE)(σ:St)(J:It)(H1:Hp)(Q:VK):Prop:=H1 P=some (dW P)/\vV k g te σ (λcnt R W=> ∃val:Nat->Int,(∀i v,i<cnt->R i v->v= .int (val i))/\ ∀σ' H',W cnt σ' H'->Q (.int (preSum val cnt)) H') J H1
def yP(k:Nat)(P:Addr)(wi:TI)(g:TG)(te:TE):TE:=λσ H Q=>wi σ H λJ H1=>FU k P g te σ J H1 Q
def KA(k:Nat)(P:Addr)(g:TG)(te:TE)(σ:St)(J:It)(H1:Hp)(Q:VK):Prop:=H1 P=some (dW P)/\vV k g te σ (λcnt R W=> ∃bv:Nat->Bool,(∀i v,i<cnt->R i v->v= .bl (bv i))/\
 ((∀j,j<cnt->bv j=true) -> ∀σ' H',W cnt σ' H'->Q (.bl true) H')/\(∀j,j<cnt->bv j=false->(∀l,l<j->bv l=true) -> ∀σ' H',W (j+1) σ' H'->Q (.bl false) H')) J H1
def KC(k:Nat)(P:Addr)(wi:TI)(g:TG)(te:TE):TE:=λσ H Q=>wi σ H λJ H1=>KA k P g te σ J H1 Q
section
variable{X:Cx}{sc:Scope}{own N2:List Str}{elt iter tg:Expr}{iP p pos:Pos}{wi:TI}{g:TG}{te:TE}{P:Addr}
structure FW(X:Cx)(sc:Scope)(own N2:List Str)(P:Addr):Prop where
 calm:X.calm=true
 room:X.A.depth<recursionLimit
 Of:nI sc.names X.env.scope.names own N2 X.N
 kind:sc.kind= .function
 co:sc.isCoroutine=false
 nc:∀y∈sc.names,y.2≠ .cell
 Sy:sc.names.lookup (".0":Str)=some NameKind.local
 code:gc X.K X.env.code P
 bm:BM X.mg X.base
theorem Cv(K:FW X sc own N2 P)(FY:Gl X "sum")(hm:X.mg "sum"=none)(hi:PI X tg iter wi)
  (hg:∀code s H fp,PG (X.gen X.A.in1.in1 sc (own++N2) code s H fp) tg g)(he:∀code s H fp,PE (X.gen X.A.in1.in1 sc (own++N2) code s H fp) elt te)
  (hs:∀x,genFold iter X.env x=pure x:=by intro _;rfl)(hst:starEach [.GeneratorExp elt [⟨tg,iter,[],0⟩] sc iP] X.env=[(false,eval (.GeneratorExp elt [⟨tg,iter,[],0⟩] sc iP) X.env)]:=by rfl):
  PE X (.Call (.Name "sum" p) [.GeneratorExp elt [⟨tg,iter,[],0⟩] sc iP] [] pos) (yP own.length P wi g te):=by
 intro pins s σ H Q I h
 refine wpAny_Call_Name_kw (kX I FY hm PyProof.Rows.boot_sum ?_)
 refine PyProof.Rows.callWith_builtin1 ?_ hst rfl
 rw[hst]
 refine Calls.spliced_cons (fP (Cu (pos:=iP) (λa=>[a+1]) (λa b hb=>by rw[List.mem_singleton.mp hb];exact Nat.lt_succ_self _) K.calm K.room hi K.Of K.kind K.co K.nc K.Sy K.code K.bm hg he hs I h) λu s5 h5=> ?_)
 obtain⟨a,cnt,R,W,sC,HC,fp,code,tn,rfl,hsz,G,IC,hf,hC,hlt,FT,val,hval,hq⟩:=h5
 exact Calls.spliced_nil (DG IC hf (I.ok.hd K.calm) K.room hsz hC hlt FT val hval G λs' t' σ' H' I' w'=>⟨.int (preSum val cnt),H',I',⟨_,rfl⟩,hq σ' H' w'⟩)
theorem IZ(K:FW X sc own N2 P)(FY:Gl X "all")(hm:X.mg "all"=none)(hi:PI X tg iter wi)
  (hg:∀code s H fp,PG (X.gen X.A.in1.in1 sc (own++N2) code s H fp) tg g)(he:∀code s H fp,PE (X.gen X.A.in1.in1 sc (own++N2) code s H fp) elt te)
  (hs:∀x,genFold iter X.env x=pure x:=by intro _;rfl)(hst:starEach [.GeneratorExp elt [⟨tg,iter,[],0⟩] sc iP] X.env=[(false,eval (.GeneratorExp elt [⟨tg,iter,[],0⟩] sc iP) X.env)]:=by rfl):
  PE X (.Call (.Name "all" p) [.GeneratorExp elt [⟨tg,iter,[],0⟩] sc iP] [] pos) (KC own.length P wi g te):=by
 intro pins s σ H Q I h
 refine wpAny_Call_Name_kw (kX I FY hm PyProof.Rows.boot_all ?_)
 refine PyProof.Rows.callWith_builtin1 ?_ hst rfl
 rw[hst]
 refine Calls.spliced_cons (fP (Cu (pos:=iP) (λa=>[]) (λa b hb=>by cases hb) K.calm K.room hi K.Of K.kind K.co K.nc K.Sy K.code K.bm hg he hs I h) λu s5 h5=> ?_)
 obtain⟨a,cnt,R,W,sC,HC,fp,code,tn,rfl,hsz,G,IC,hf,hC,hlt,FT,bv,hval,hT,hF⟩:=h5
 exact Calls.spliced_nil (DI IC hf (I.ok.hd K.calm) K.room bv hval G (λhb s' σ' H' I' w'=>⟨.bl true,H',I',rfl,hT hb σ' H' w'⟩) (λj hj hb hp s' σ' H' I' w'=>⟨.bl false,H',I',rfl,hF j hj hb hp σ' H' w'⟩))
end
section
variable{X:Cx}{B:Around}{sc:Scope}{N':List Str}{code:Value}{sC:Shared}{HC:Hp}{fp Ss:List Addr}{tn:Nat->Heap->Prop}{R:Nat->V->Prop}{W:Nat->St->Hp->Prop}
variable{elt iter tg jA Og:Expr}{pos:Pos}{it:Addr}{J:It}{g g':TG}{te:TE}{FZ:TI}{c1 c2:Nat}
end
section
variable{X:Cx}{B:Around}{sc:Scope}{N':List Str}{code:Value}{sC:Shared}{HC:Hp}{fp Ss:List Addr}{tn:Nat->Heap->Prop}{R:Nat->V->Prop}{W:Nat->St->Hp->Prop}
variable{elt iter tg jA Og:Expr}{pos:Pos}{it:Addr}{J:It}{g g':TG}{te:TE}{FZ:TI}{c1 c2:Nat}
end
section
variable{X:Cx}{sc:Scope}{own N2:List Str}{elt iter tg jA Og:Expr}{iP p pos:Pos}{wi FZ:TI}{g g':TG}{te:TE}{P:Addr}
end
mutual
inductive yQ(K:PySem.W.Frag)(H:Hp):V->PyData->Prop
 |fZ:yQ K H .fZ .none
 |bl(b:Bool):yQ K H (.bl b) (.bool b)
 |int(i:Int):yQ K H (.int i) (.int i)
 |str(x:Str):yQ K H (.str x) (.str x)
 |lst{a:Addr}{xs:List V}{ds:List PyData}:aW K H a xs->Au K H xs ds->yQ K H (.ref a) (.list ds)
 |tup{a:Addr}{xs:List V}{ds:List PyData}:m8 K H a xs->Au K H xs ds->yQ K H (.ref a) (.tuple ds)
inductive Au(K:PySem.W.Frag)(H:Hp):List V->List PyData->Prop
 |nil:Au K H [] []
 |cons{x:V}{d:PyData}{xs:List V}{ds:List PyData}:yQ K H x d->Au K H xs ds->Au K H (x::xs) (d::ds)
end
section
variable{X:Cx}{pins:List (Addr×Obj)}{σ:St}{H:Hp}{s:Shared}
mutual
theorem kK(I:Inv X pins σ H s):∀{x:V}{d:PyData}{u:Value},yQ X.K H x d->RelV x u-> ∃as,Reads s.heap u d as
 |_,_,_,.fZ,r=>by cases r;exact⟨_,.none⟩
 |_,_,_,.bl b,r=>by cases r;exact⟨_,.bool b⟩
 |_,_,_,.int i,r=>by obtain⟨t,rfl⟩:=r;exact⟨_,.int i t⟩
 |_,_,_,.str x,r=>by obtain⟨t,rfl⟩:=r;exact⟨_,.str x t⟩
 |_,_,_,.lst hq hs,r=>by
  cases r
  obtain⟨its,rv,⟨o,n,e,c,_,dd⟩,_⟩:=I.list hq
  obtain⟨as,q⟩:=mh I hs rv
  exact⟨_,.list e c dd (by simpa using q)⟩
 |_,_,_,.tup hq hs,r=>by
  cases r
  obtain⟨its,rv,⟨o,e,c,n,dd⟩,_⟩:=I.tuple hq
  obtain⟨as,q⟩:=mh I hs rv
  exact⟨_,.tuple e c dd (by simpa using q)⟩
theorem mh(I:Inv X pins σ H s):∀{xs:List V}{ds:List PyData}{us:List Value},Au X.K H xs ds->Vals xs us-> ∃as,ReadsAll s.heap us ds as
 |_,_,_,.nil,r=>by cases r;exact⟨_,.nil⟩
 |_,_,_,.cons h t,r=>by
  cases r with
  |cons r1 r2=>
   obtain⟨as,q1⟩:=kK I h r1
   obtain⟨bs,q2⟩:=mh I t r2
   exact⟨_,.cons q1 q2⟩
end
end
def Ga(K:PySem.W.Frag)(neg:Bool):R2:=λx y H Q=> ∃da db,yQ K H x da/\yQ K H y db/\SeqAt.shaped da=true/\SeqAt.shaped db=true/\Q (.bl (if neg then !PyData.eqv da db else PyData.eqv da db)) H
section
variable{X:Cx}
theorem LM(hu:X.A.units+64<cLine):p7 X (compareOp .Eq) (Ga X.K false):=by
 intro pins s σ H x y v u Q I rx ry h
 obtain⟨da,db,h1,h2,s1,s2,q⟩:=h
 obtain⟨as,r1⟩:=kK I h1 rx
 obtain⟨bs,r2⟩:=kK I h2 ry
 exact eq_dataH r1 r2 s1 s2 hu ⟨.bl _,H,I,rfl,q⟩
theorem Av(hu:X.A.units+64<cLine):p7 X (compareOp .NotEq) (Ga X.K true):=by
 intro pins s σ H x y v u Q I rx ry h
 obtain⟨da,db,h1,h2,s1,s2,q⟩:=h
 obtain⟨as,r1⟩:=kK I h1 rx
 obtain⟨bs,r2⟩:=kK I h2 ry
 exact ne_dataH r1 r2 s1 s2 hu ⟨.bl _,H,I,rfl,q⟩
theorem eT:nj X (.builtin "isinstance") (λxs H Q=> ∃x n t b,xs=[x,.ty n]/\oU X.K H x t/\PySem.W.kitOne X.K t (.type n)=some b/\Q (.bl b) H):=by
 intro pins s σ H xs us Q I r h
 obtain⟨x,n,t,b,rfl,ty,e,q⟩:=h
 cases r with
 |cons r1 r2=>
  cases r2 with
  |cons r2 r3=>
   cases r3
   cases r2
   exact Du I r1 ty e λtk=>⟨.bl b,H,I.tok _,rfl,q⟩
end
abbrev gf(r:List Int):PyData:= .list (r.map .int)
abbrev Aw(m:List (List Int)):PyData:= .list (m.map gf)
theorem mj:∀m:List (List Int),PyData.canLayAll0 (m.map gf)=true
 | []=>rfl
 |r::m=>by simp[PyData.canLayAll0,PyData.canLay0,PySem.W.ke_canLayAll0,mj m]
theorem tF:∀m:List (List Int),PyData.depthAll (m.map gf)<=1
 | []=>by simp[PyData.depthAll]
 |r::m=>by
  have:=tF m
  simp only[List.map_cons,PyData.depthAll,PyData.depth,PySem.W.ke_depthAll]
  omega
theorem nK(m:List (List Int)):SeqAt.shaped (Aw m)=true:=by
 have q:=tF m
 simp only[SeqAt.shaped,PyData.canLay0,PyData.depth,mj,Bool.true_and,decide_eq_true_eq]
 exact decide_eq_true (show PyData.depthAll (m.map gf)+1<=64 by omega)
theorem nL(r:List Int):SeqAt.shaped (gf r)=true:=PySem.W.ke_shaped_ints r
theorem rZ(r t:List Int):PyData.eqv (gf r) (gf t)=decide (r=t):=by
 simp only[PyData.eqv]
 exact PySem.W.ked_eqvAll r t
theorem qZ:∀m n:List (List Int),PyData.eqvAll (m.map gf) (n.map gf)=decide (m=n)
 | [],[]=>by simp[PyData.eqvAll]
 | [],_::_=>by simp[PyData.eqvAll]
 |_::_,[]=>by simp[PyData.eqvAll]
 |a::r,b::t=>by
  have e:=rZ a b
  simp only[gf]at e
  simp only[List.map_cons,PyData.eqvAll,qZ r t,gf,e]
  by_cases h:a=b<;>by_cases h':r=t<;>simp[h,h']
theorem Ja(m n:List (List Int)):PyData.eqv (Aw m) (Aw n)=decide (m=n):=by
 simp only[PyData.eqv]
 exact qZ m n
structure LN(tz:Addr->HO):Prop where
 new:∀{P:Program}{w:World}{H:Hp}{h:Heap}{T:Addr},h.get? T=some {cls:= .none,data:= .fields #[]} ->eO P w H h T (tz T)
 get:∀{P:Program}{w:World}{H:Hp}{h:Heap}{T:Addr},eO P w H h T (tz T) -> ∃ps:Array Value,h.get? T=some {cls:= .none,data:= .fields ps}
theorem Cw:LN dW:=⟨λe=>FH e (by simp[TriplesOk]),λh=>let⟨⟨ps,e,_⟩,_⟩:=h;⟨ps,e⟩⟩
theorem LO(gq:List Addr):LN (λT=>if T∈gq then .yw else dW T):=by
 refine⟨λ {P w H h T} e=> ?_,λ {P w H h T} x=> ?_⟩
 ·by_cases c:T∈gq
  ·rw[if_pos c]
   exact⟨#[],e,trivial,λpos cv z=>nomatch z⟩
  ·rw[if_neg c]
   exact Cw.new e
 ·by_cases c:T∈gq
  ·rw[if_pos c]at x
   obtain⟨ps,e,_⟩:=x
   exact⟨ps,e⟩
  ·rw[if_neg c]at x
   exact Cw.get x
theorem DJ{P:Program}{w:World}{K:PySem.W.Frag}{mg mb:Str->Option Value}{k:Nat}{fa a:Addr}{fd:FuncData}{x:Str}{sp:Sp}{s₁:Shared}{vs:List Value}{ns:List Int}{tabs:List Addr}{tz:Addr->HO}(TZ:LN tz)
  (KX:K.In s₁.heap)(hns:s₁.heap.Ns mainGlobals mg)(hb:s₁.heap.Ns builtinsNs mb)(UC:∀x:Str,x≠ "__name__" ->mb x=bootBuiltins x)(hlim:s₁.heap.NoLimit)(hbm:BM mg s₁.heap)(hg:s₁.gens= #[])
  (htab:∀T∈tabs,isCodeTable s₁.heap T/\s₁.heap.get? T=some {cls:= .none,data:= .fields #[]})
  (ha:s₁.heap.get? a=some {cls:= .type "list",data:= .seq vs.toArray})(hi:IntsAre vs ns)(hl:ns.length<=sizeLine)(hr:fj k callerA)(hcl:PySem.W.kb_classed K=true)
  (F:∀base:Heap,K.In base->base.Ns mainGlobals mg->BM mg base->oV P w K mg base cS k fa fd [x] sp)(hbind:∀(s:Shared)(u:Value),BindsTo s fd ⟨[u],[]⟩ [(x,u)])
  (Ii:∀H:Hp,(∀T∈tabs,H T=some (tz T)) ->aW K H a (ns.map V.int) ->sp [.ref a] H (λv H'=>v= .bl true/\ ∀T∈tabs,H' T=some (tz T)) λ_ _ _=>False):
  codeAny (model P w) callerA (.call (.ref fa) ⟨[.ref a],[]⟩) (λr s'=>r= .ok (.ret (.bool true))/\OldK s₁.heap s'.heap/\s'.os=s₁.os/\AllBare s'.gens) s₁:=by
 have rv:=vU hi
 have QZ:=hi.length
 have Sz:a∉tabs:=λz=>by
  have e:=(htab a z).2
  rw[ha]at e
  cases e
 have core:∀H:Hp,(∀T∈tabs,H T=some (tz T)) ->(∀b u,H b=some u->b∈tabs∨(b=a/\ ∃o xs,u= .wR o (.lst xs))) ->aW K H a (ns.map V.int) ->rW P w H s₁.heap->(H a≠none->K.lookup a=none) ->
   codeAny (model P w) callerA (.call (.ref fa) ⟨[.ref a],[]⟩) (λr s'=>r= .ok (.ret (.bool true))/\OldK s₁.heap s'.heap/\s'.os=s₁.os/\AllBare s'.gens) s₁:=by
  intro H hT hO hS hok hK
  have free:∀{b:Addr}{o:Obj},s₁.heap.get? b=some o->o.cls≠ .none->b≠a->H b=none:=λ {b o} e hc hba=>by
   cases q:H b with
   |none=>rfl
   |some u=>
    rcases hO b u q with z|⟨z,_⟩
    ·have e':=(htab b z).2
     rw[e]at e'
     cases e'
     exact absurd rfl hc
    ·exact absurd z hba
  have xq:∀{b:Addr}{o:Obj},s₁.heap.get? b=some o->H b=none->(uU s₁.heap H).get? b=some o:=λe n=>EW e n
  have Ra:∀{b:Addr}{o:Obj}{es:Array DictEntry}{ep:Nat},s₁.heap.get? b=some o->o.data= .dict es ep->H b=none:=λ {b o es ep} e d=>by
   cases q:H b with
   |none=>rfl
   |some u=>
    rcases hO b u q with z|⟨z,_⟩
    ·have e':=(htab b z).2
     rw[e]at e'
     cases e'
     cases d
    ·rw[z,ha]at e
     cases e
     cases d
  have Pw:∀{b:Addr}{m:Str->Option Value},s₁.heap.Ns b m->(uU s₁.heap H).Ns b m:=λ {b m} ⟨o,es,ep,e,d,r⟩=>⟨o,es,ep,xq e (Ra e d),d,r⟩
  have SA:K.In (uU s₁.heap H):=λb o e=>xq (KX b o e) (by
   by_cases hba:b=a
   ·cases q:H b with
    |none=>rfl
    |some u=>
     subst hba
     rw[hK (by rw[q];simp)]at e
     cases e
   ·have q:=List.all_eq_true.mp hcl (b,o) (PySem.W.kb_mem e)
    simp only[Bool.or_eq_true,decide_eq_true_eq,beq_iff_eq]at q
    rcases q with(q|q)|q
    ·exact free (KX b o e) q hba
    ·obtain⟨mc,⟨oc,es,ep,z1,z2,_⟩,_⟩:=hlim
     rw[q];exact Ra z1 z2
    ·obtain⟨oc,es,ep,z1,z2,_⟩:=hns
     rw[q];exact Ra z1 z2)
  have hM:Mod K mg (uU s₁.heap H):=⟨SA,Pw hns,⟨mb,Pw hb,UC⟩,let⟨mc,h1,h2⟩:=hlim;⟨mc,Pw h1,h2⟩⟩
  have UD:BM mg (uU s₁.heap H):=by
   obtain⟨bm,ob,q1,q2,q3,q4,q5,q6⟩:=hbm
   refine⟨bm,ob,q1,q2,xq q3 (free q3 (by rw[q4];simp) λz=> ?_),q4,q5,q6⟩
   rw[z,ha]at q3
   rw[<-Option.some.inj q3]at q4
   exact absurd q4 (by simp)
  have e0:IA P w K mg (uU s₁.heap H) callerA [] s₁ H:=⟨rfl,hM,λb o e=>Il e,Nat.le_of_eq (Dk _ _),trivial,λb hb=>absurd (show b∈([]:List Addr)from hb) (by simp),hok,.of_eq hg⟩
  refine codeAny_mono ((F _ SA (Pw hns) UD).run callerA [] s₁ H ⟨[.ref a],[]⟩ [.ref a] [.ref a] _ _ hr e0 (hbind s₁ (.ref a)) (.cons rfl .nil) (Ii H hT hS)) λr s' h=> ?_
  cases r with
  |error e=>exact False.elim h
  |ok fl=>
   cases fl with
   |next=>exact False.elim h
   |brk=>exact False.elim h
   |cont=>exact False.elim h
   |ret u=>
    obtain⟨v,H',os,bare,un,Oh,r',q⟩:=h
    obtain⟨q',Jb⟩:=q
    have q':v= .bl true:=q'
    subst q'
    obtain rfl:u=Value.bool true:=r'
    refine⟨rfl,⟨λb o e=> ?_,λb o e=>un.there b o e (by simp)⟩,os,bare.bare⟩
    cases q:H b with
    |none=>exact .inl (un.keep b o e q (by intro z;exact absurd (show b∈([]:List Addr)from z) (by simp)) (by simp))
    |some u=>
     rcases hO b u q with z|⟨z,ob,xs,eu⟩
     ·obtain⟨ct,e'⟩:=htab b z
      obtain⟨ps,ep⟩:=TZ.get (Oh b _ (Jb b z))
      rw[e]at e'
      cases e'
      exact .inr (.inl ⟨ct,rfl, #[],ps,rfl,by simpa using ep⟩)
     ·subst eu
      have z2:=un.pZ b ob _ q
      obtain⟨e1,_⟩:=hok b _ q
      obtain⟨e2,_⟩:=Oh b _ z2
      rw[e]at e1;cases e1
      exact .inl e2
 have SE:∀(H:Hp)(T:Addr),T∈tabs->eO P w H s₁.heap T (tz T):=λH T hT=>TZ.new (htab T hT).2
 cases hk:K.lookup a with
 |some o=>
  have e:=KX a o hk
  rw[ha]at e
  cases e
  refine core (λb=>if b∈tabs then some (tz b)else none) (λT hT=>if_pos hT) (λb u z=> ?_) (.inr ⟨_,vs.toArray,_,hk,rfl,rfl,rfl,by rw[List.size_toArray,QZ];exact hl,by simpa using rv⟩) (λb u z=> ?_) (λz=>absurd (if_neg Sz) z)
  ·by_cases hb:b∈tabs
   ·exact .inl hb
   ·have z':=(if_neg hb).symm.trans z;cases z'
  ·by_cases hb:b∈tabs
   ·have z':=(if_pos hb).symm.trans z;cases z';exact SE _ b hb
   ·have z':=(if_neg hb).symm.trans z;cases z'
 |none=>
  have q1:∀{b:Addr},b∈tabs->(if b=a then some (HO.wR {cls:= .type "list",data:= .seq vs.toArray} (.lst (ns.map V.int)))else if b∈tabs then some (tz b)else none)=some (tz b):=λ {b} hb=>by
   rw[if_neg (λ(z:b=a)=>Sz (by rw[<-z];exact hb)),if_pos hb]
  refine core (λb=>if b=a then some (.wR {cls:= .type "list",data:= .seq vs.toArray} (.lst (ns.map V.int)))else if b∈tabs then some (tz b)else none) (λT hT=>q1 hT) (λb u z=> ?_) (.inl (.inr ⟨{cls:= .type "list",data:= .seq vs.toArray},if_pos rfl⟩)) (λb u z=> ?_) λ_=>hk
  ·by_cases hb:b=a
   ·have z':=(if_pos hb).symm.trans z
    cases z'
    exact .inr ⟨hb,_,_,rfl⟩
   ·by_cases hb2:b∈tabs
    ·exact .inl hb2
    ·have z':=((if_neg hb).trans (if_neg hb2)).symm.trans z;cases z'
  ·by_cases hb:b=a
   ·have z':=(if_pos hb).symm.trans z
    cases z'
    subst hb
    exact⟨ha,by rw[List.length_map];exact hl,vs,_,rv,ha⟩
   ·by_cases hb2:b∈tabs
    ·have z':=(q1 hb2).symm.trans z
     cases z'
     exact SE _ b hb2
    ·have z':=((if_neg hb).trans (if_neg hb2)).symm.trans z;cases z'
theorem Ax{p:Program}{loose:List Str}{mean:ExcName->Option Value}{mg mb:Str->Option Value}{h:Heap}(T:Top p loose mean mg mb h){d:DefRec}{x qual:Str}(hf:(recsOf p).find? (λe=>e.name==x)=some d){K:PySem.W.Frag}(KX:K.In h){f:Addr}
  (hm:mg x=some (.ref f)){oc:Value}{od:Option Addr}{sl:Array (Option Value)}{fd:FuncData}(l:K.lookup f=some ⟨oc,od,.func fd,sl⟩)(c:PySem.W.codeIn K fd.code qual=true):
  ∃P,gc K fd.code P/\isCodeTable h P/\h.get? P=some {cls:= .none,data:= .fields #[]}:=by
 have hn:d.name=x:=beq_iff_eq.mp (List.find?_some (p:=λe:DefRec=>e.name==x) hf)
 obtain⟨a',o',fd',cc,P,h1,h2,h3,h4,h5,h6⟩:=T.tab d (List.mem_of_find?_eq_some hf)
 rw[hn,hm]at h1;cases h1
 rw[KX f _ l]at h2;cases h2
 cases h3
 refine⟨P,?_,h6.isCodeTable,h6.2⟩
 obtain⟨o,vs,file,tf,flags,tg,LD,text,tt,op,ho,hd,h11,NZ,h7,h9,Oa,_⟩:=h5
 obtain⟨⟨o2,VW,g1,g2,g3,g4⟩,_⟩:=h6
 rw[ho]at g1;cases g1
 rw[hd]at g3;cases g3
 rw[h4]at c
 cases q:K.lookup cc with
 |none=>unfold PySem.W.codeIn at c;simp[q]at c
 |some o3=>
  have e3:=KX cc o3 q
  rw[ho]at e3
  have e4:o=o3:=Option.some.inj e3
  subst e4
  exact⟨cc,o,vs,file,tf,flags,tg,LD,text,tt,h4,q,g2,hd,g4,NZ,h7,h9,Oa⟩
def tabOf(K:PySem.W.Frag)(f:Addr):Option Value:=match K.lookup f with
 |some ⟨_,_,.func fd,_⟩=>match fd.code with
  | .ref c=>match K.lookup c with
   |some o=>match o.data with
    | .fields vs=>vs[11]?
    |_=>none
   |none=>none
  |_=>none
 |_=>none
def Gb(K:PySem.W.Frag)(fs gs:List Addr):Bool:=fs.all λf=>gs.all λg=>tabOf K f !=tabOf K g
theorem yR{K:PySem.W.Frag}{f P:Addr}{oc:Value}{od:Option Addr}{sl:Array (Option Value)}{fd:FuncData}(l:K.lookup f=some ⟨oc,od,.func fd,sl⟩)(c:gc K fd.code P):tabOf K f=some (.ref P):=by
 obtain⟨cc,o,vs,_,_,_,_,_,_,_,e1,e2,e3,e4,e5,_⟩:=c.ex
 unfold tabOf
 rw[l]
 simp only[e1,e2,e4,e5]
theorem mq{K:PySem.W.Frag}{fs gs:List Addr}(h:Gb K fs gs=true){f g P Q:Addr}(hf:f∈fs)(hg:g∈gs)(a:tabOf K f=some (.ref P))(b:tabOf K g=some (.ref Q)):P≠Q:=λe=>by
 have h1:=List.all_eq_true.mp (List.all_eq_true.mp h f hf) g hg
 rw[a,b,e]at h1
 simp at h1
theorem Gd{l:PySem.W.OpenLaw}{n k:Nat}{q:Program}{loose:List Str}{XP:(Str->Option Value) ->Heap->Prop}{YP:World->Heap->Prop}{d:DefRec}{K:Params->PySem.W.Frag}{x:Str}{sp:PySem.W.Frag->List Addr->List Addr->Sp}
  (hn:l.most=some n)(hn2:n<=sizeLine)(hdf:d.params.defaults=[])(hr:fj k callerA)
  (hY:∀(w:World)(h:Heap),YP w h->(K w.params).In h)
  (hcl:∀(w:World),PySem.W.kb_classed (K w.params)=true)
  (F:∀(w:World)(mg mb:Str->Option Value)(mean:ExcName->Option Value)(fa:Addr)(h:Heap),(K w.params).In h->Top q (PySem.W.looseW q loose) mean mg mb h->mg d.name=some (.ref fa) ->
   ∃(fd:FuncData)(tabs gq:List Addr),(∀(s:Shared)(u:Value),BindsTo s fd ⟨[u],[]⟩ [(x,u)])/\(∀T∈tabs++gq,isCodeTable h T/\h.get? T=some {cls:= .none,data:= .fields #[]})/\(∀T∈tabs,T∉gq)/\
    ∀base:Heap,(K w.params).In base->base.Ns mainGlobals mg->BM mg base->oV l.prog w (K w.params) mg base cS k fa fd [x] (sp (K w.params) tabs gq))
  (Ii:∀(K:PySem.W.Frag)(tabs gq:List Addr)(H:Hp)(a:Addr)(ns:List Int),ns.length<=n->(∀T∈tabs,H T=some (dW T)) ->(∀T∈gq,H T=some .yw) ->aW K H a (ns.map V.int) -> ∀Q:VK,(∀H',av H H'->Q (.bl true) H') ->sp K tabs gq [.ref a] H Q λ_ _ _=>False):
  PySem.W.WalkO q loose XP YP l.row.toRowW d [] (λf vs=>PySem.call f vs):=by
 refine Sn.yJ hn hdf λw s₀ s₁ mg mb fa o pm cd doc a vs ns G Y ho hd hcd hmg hobj hints hlen hg=> ?_
 have KX:=hY w _ Y
 obtain⟨fd,tabs,gq,hb,ht,FN,hF⟩:=F w mg mb _ fa _ KX G.T hmg
 have e1:∀T∈tabs,(if T∈gq then HO.yw else dW T)=dW T:=λT hT=>if_neg (FN T hT)
 have e2:∀T∈gq,(if T∈gq then HO.yw else dW T)= .yw:=λT hT=>if_pos hT
 refine DJ (LO gq) KX G.T.g G.T.b G.T.builtins G.T.nolimit G.T.bmain hg ht hobj hints (Nat.le_trans hlen hn2) hr (hcl w) hF hb (λH hO hS=> ?_)
 refine Ii _ tabs gq H a ns hlen (λT hT=>by rw[hO T (List.mem_append_left _ hT),e1 T hT]) (λT hT=>by rw[hO T (List.mem_append_right _ hT),e2 T hT]) hS _ λH' s=>⟨rfl,λT hT=>s _ _ (hO T hT)⟩
theorem av.up{H:Hp}{D:Addr}{o:HO}(h:H D=none):av H (upd H D o):=λb u q=>by rw[aD (eE q h)];exact q
theorem av.upd{H H':Hp}{D:Addr}{o:HO}(s:av H H')(h:H D=none):av H (upd H' D o):=λb u q=>by rw[aD (eE q h)];exact s b u q
theorem av.none{H H':Hp}(s:av H H'){D:Addr}(h:H' D=Option.none):H D=Option.none:=s.free h
theorem av.UE{K:PySem.W.Frag}{H H':Hp}{a:Addr}{xs:List V}(e:av H H')(h:m8 K H a xs):m8 K H' a xs:=by
 rcases h with(h|⟨o,h⟩)|h
 ·exact .inl (.inl (e _ _ h))
 ·exact .inl (.inr ⟨o,e _ _ h⟩)
 ·exact .inr h
theorem _root_.PySem.Paired.Ay{α β:Type}{F F':α->β->Prop}:∀{l:List α}{m:List β},Paired F l m->(∀a b,b∈m->F a b->F' a b) ->Paired F' l m
 |_,_,.nil,_=> .nil
 |_,_,.cons h t,k=> .cons (k _ _ List.mem_cons_self h) (t.Ay λa b hb q=>k a b (List.mem_cons_of_mem _ hb) q)
structure JW(J:It)(H1:Hp)(xs:List V):Prop where
 go:∀i H',av H1 H'->i<xs.length->J.go i H'
 yt:∀i H' x H2,av H1 H'->i<xs.length->J.yt i H' x H2->H2=H'/\xs[i]?=some x
 stop:∀H',av H1 H'->J.stop xs.length H'
theorem jX{K:PySem.W.Frag}{H1:Hp}{a:Addr}{xs:List V}(h:aW K H1 a xs):JW (Iu K a) H1 xs where
 go:=λi H' s hi=>⟨xs,xs[i],s.seq h,by simp[hi]⟩
 yt:=λi H' x H2 s hi ⟨e,y⟩=>⟨e,y xs (s.seq h)⟩
 stop:=λH' s=>⟨xs,s.seq h,Nat.le_refl _⟩
def mw(n:Nat):List V:=(List.range n).map λ(i:Nat)=>V.int (i:Int)
theorem gE{H1:Hp}{n:Nat}:JW (Ih 0 n) H1 (mw n) where
 go:=λi H' s hi=>by simpa [mw,Ih]using hi
 yt:=λi H' x H2 s hi ⟨e,y⟩=>⟨e,by
  have hi':i<n:=by simpa [mw]using hi
  subst y
  simp[mw,hi']⟩
 stop:=λH' s=>by simp[mw,Ih]
theorem oW{J:It}{H1:Hp}{xs:List V}{σ:St}{te:TE}{Q:VK}(jw:JW J H1 xs)(hz:xs.length<=sizeLine){D:Addr}(hD:H1 D=none)(P:List V->List V->Hp->Prop)(h0:P [] [] (upd H1 D (.lst [])))
  (hs:∀pre x post acc H' (Q':VK),xs=pre++x::post->acc.length=pre.length->av H1 H'->H' D=some (.lst acc) ->P pre acc H'->(∀v H4,av H' H4->P (pre++ [x]) (acc++ [v]) (upd H4 D (.lst (acc++ [v]))) ->Q' v H4) ->te (some x::σ) H' Q')
  (hq:∀acc H',acc.length=xs.length->av H1 H'->H' D=some (.lst acc) ->P xs acc H'->Q (.ref D) H'):
  j8 1 (cO 0) te σ J H1 D Q:=by
 refine⟨λi m acc σ' H'=>m=xs.length-i/\i<=xs.length/\acc.length=i/\(∃o,σ'=o::σ)/\av H1 H'/\H' D=some (.lst acc)/\P (xs.take i) acc H',⟨xs.length,rfl,Nat.zero_le _,rfl,⟨none,rfl⟩,av.up hD,ao,h0⟩,?_⟩
 rintro i m acc σ' H' ⟨rfl,hi,hl,⟨o,rfl⟩,sm,eD,p⟩
 by_cases hlt:i<xs.length
 ·refine .inr ⟨jw.go i H' sm hlt,by omega,λx H2 y=> ?_⟩
  obtain⟨rfl,ex⟩:=jw.yt i H' x H2 sm hlt y
  have hx:xs[i]=x:=by rw[List.getElem?_eq_getElem hlt]at ex;exact Option.some.inj ex
  have sp:xs=xs.take i++x::xs.drop (i+1):=by
   rw[<-hx,<-List.drop_eq_getElem_cons hlt,List.take_append_drop]
  have tk:xs.take (i+1)=xs.take i++ [x]:=by rw[List.take_succ,ex];rfl
  show te (some x::σ) H2 _
  refine hs (xs.take i) x (xs.drop (i+1)) acc H2 _ sp (by rw[hl,List.length_take];omega) sm eD p λv H4 s4 p4=> ?_
  refine⟨s4 _ _ eD,xs.length- (i+1),by omega,rfl,hlt,by simp[hl],⟨_,rfl⟩,(sm.trans s4).upd hD,ao,?_⟩
  rw[tk]
  exact p4
 ·have e:i=xs.length:=by omega
  subst e
  refine .inl ⟨jw.stop H' sm,eD,hq acc H' hl sm eD ?_⟩
  rw[List.take_length]at p
  exact p
section
variable{X:Cx}{sc:Scope}{N2:List Str}{x:Str}{px:Pos}{elt iter:Expr}{iP p pos:Pos}{wi:TI}{te:TE}{P:Addr}
theorem xr(B:nI sc.names X.env.scope.names [x] N2 X.N)(s:Shared)(H:Hp)(fp:List Addr):PG (X.comp sc ([x]++N2) s H fp) (.Name x px) (cO 0):=by
 rcases B.own x (by simp)with e|e
 ·exact aH (i:=0) B.IQ rfl (.inl (jz (env:=X.env) e (.inl rfl))) (.inr (jz (env:=X.env) e (.inl rfl)))
 ·refine aH (i:=0) B.IQ rfl (.inr (jz (env:=X.env) e (.inr rfl))) (.inl ?_)
  show(sc.names.lookup x==some NameKind.cell)=true
  rw[e];rfl
theorem kc(hc:X.calm=true)(hi:PI X (.Name x px) iter wi)(hB:xh sc.names X.env.scope.names [x] N2 X.N=true)(hk:sc.kind= .function)(he:∀s H fp,PE (X.comp sc ([x]++N2) s H fp) elt te)
  (hs:∀x,foldedSetIterable iter X.env x=pure x:=by intro _;rfl):PE X (.ListComp elt [⟨.Name x px,iter,[],0⟩] sc pos) (nk 1 wi (cO 0) te):=
 yN (own:=[x]) hc hi (g9 hB) hk (λs H fp=>xr (g9 hB) s H fp) he hs
theorem LP{i:Nat}{y:Str}{py spos:Pos}(hN:X.N.Nodup)(hi':X.N[i]?=some y)(hy:X.env.scope.names.lookup y=some .local)(hc:X.calm=true)(hi:PI X (.Name x px) iter wi)(hB:xh sc.names X.env.scope.names [x] N2 X.N=true)(hk:sc.kind= .function)(he:∀s H fp,PE (X.comp sc ([x]++N2) s H fp) elt te)
  (hsw:swapsWith (.ListComp elt [⟨.Name x px,iter,[],0⟩] sc pos) (some (.Name y py)) spos.line X.env=pure true:=by rfl)(hs:∀x,foldedSetIterable iter X.env x=pure x:=by intro _;rfl):
  PS X (.Assign [.Name y py] (.ListComp elt [⟨.Name x px,iter,[],0⟩] sc pos) spos) (yC (nk 1 wi (cO 0) te) (cO i)):=
 FG (own:=[x]) hN hi' hy hc hi (g9 hB) hk (λs H fp=>xr (g9 hB) s H fp) he hsw hs
theorem Ge{B:Around}(Bk:nI sc.names X.env.scope.names [x] N2 X.N)(hnc:∀y∈sc.names,y.2≠ .cell)(code:Value)(s:Shared)(H:Hp)(fp:List Addr):PG (X.gen B sc ([x]++N2) code s H fp) (.Name x px) (cO 0):=by
 rcases Bk.own x (by simp)with e|e
 ·exact aH (i:=0) Bk.IQ rfl (.inl e) (.inr e)
 ·exact absurd rfl (hnc _ (mem_of_lookup e))
def Gf(sc:Scope)(ks:List (Str×NameKind))(own N2 N:List Str):Bool:=
 xh sc.names ks own N2 N && (sc.kind== .function) && !sc.isCoroutine && sc.names.all (λy=>y.2 != .cell) && (sc.names.lookup (".0":Str)==some NameKind.local)
theorem tG{own:List Str}(hc:X.calm=true)(hr:X.A.depth<recursionLimit)(cd:gc X.K X.env.code P)(bm:BM X.mg X.base)(h:Gf sc X.env.scope.names own N2 X.N=true):FW X sc own N2 P:=by
 unfold Gf at h
 simp only[Bool.and_eq_true]at h
 obtain⟨⟨⟨⟨h1,h2⟩,h3⟩,h4⟩,h5⟩:=h
 refine⟨hc,hr,g9 h1,by simpa using h2,by simpa using h3,λy hy=> ?_,by simpa using h5,cd,bm⟩
 have q:=List.all_eq_true.mp h4 y hy
 simpa using q
theorem Jc(hc:X.calm=true)(hr:X.A.depth<recursionLimit)(cd:gc X.K X.env.code P)(bm:BM X.mg X.base)(FY:Gl X "sum")(hm:X.mg "sum"=none)(hi:PI X (.Name x px) iter wi)(hB:Gf sc X.env.scope.names [x] N2 X.N=true)
  (he:∀code s H fp,PE (X.gen X.A.in1.in1 sc ([x]++N2) code s H fp) elt te)
  (hs:∀x,genFold iter X.env x=pure x:=by intro _;rfl)(hst:starEach [.GeneratorExp elt [⟨.Name x px,iter,[],0⟩] sc iP] X.env=[(false,eval (.GeneratorExp elt [⟨.Name x px,iter,[],0⟩] sc iP) X.env)]:=by rfl):
  PE X (.Call (.Name "sum" p) [.GeneratorExp elt [⟨.Name x px,iter,[],0⟩] sc iP] [] pos) (yP 1 P wi (cO 0) te):=
 have K:=tG hc hr cd bm hB
 Cv (own:=[x]) K FY hm hi (λcode s H fp=>Ge K.Of K.nc code s H fp) he hs hst
theorem xu(hc:X.calm=true)(hr:X.A.depth<recursionLimit)(cd:gc X.K X.env.code P)(bm:BM X.mg X.base)(FY:Gl X "all")(hm:X.mg "all"=none)(hi:PI X (.Name x px) iter wi)(hB:Gf sc X.env.scope.names [x] N2 X.N=true)
  (he:∀code s H fp,PE (X.gen X.A.in1.in1 sc ([x]++N2) code s H fp) elt te)
  (hs:∀x,genFold iter X.env x=pure x:=by intro _;rfl)(hst:starEach [.GeneratorExp elt [⟨.Name x px,iter,[],0⟩] sc iP] X.env=[(false,eval (.GeneratorExp elt [⟨.Name x px,iter,[],0⟩] sc iP) X.env)]:=by rfl):
  PE X (.Call (.Name "all" p) [.GeneratorExp elt [⟨.Name x px,iter,[],0⟩] sc iP] [] pos) (KC 1 P wi (cO 0) te):=
 have K:=tG hc hr cd bm hB
 IZ (own:=[x]) K FY hm hi (λcode s H fp=>Ge K.Of K.nc code s H fp) he hs hst
theorem yS{k:Nat}{A:Around}{e:Env}(r:fj (k+1) A):fj k (IU A.in1.in1 e):=
 ⟨r.hd,by have:=r.dp;show A.depth+1+3*k+5<_;omega,by have:=r.un;show A.units+1+1+3+16*k+200<_;omega⟩
end
theorem Gg{J:It}{H1:Hp}{xs:List V}{σ:St}{te:TE}{F:Nat->(Nat->V->Prop) ->(Nat->St->Hp->Prop) ->Prop}(jw:JW J H1 xs)(R:Nat->V->Prop)
  (hs:∀i x,xs[i]?=some x-> ∀H' (Q':VK),av H1 H'->(∀v H2,R i v->av H' H2->Q' v H2) ->te (some x::σ) H' Q')
  (hF:F xs.length R (λ_ σ' H'=>(∃o,σ'=o::σ)/\av H1 H')):vV 1 (cO 0) te σ F J H1:=by
 refine⟨xs.length,R,_,⟨⟨none,rfl⟩,av.refl _⟩,λi σ' H' hi w=> ?_,λσ' H' w=>jw.stop H' w.2,hF⟩
 obtain⟨⟨o,rfl⟩,sm⟩:=w
 refine⟨jw.go i H' sm hi,λx H2 y=> ?_⟩
 obtain⟨rfl,ex⟩:=jw.yt i H' x H2 sm hi y
 show te (some x::σ) H2 _
 exact hs i x ex H2 _ sm λv H3 r s3=>⟨r,⟨_,rfl⟩,sm.trans s3⟩
theorem LQ{J:It}{H1:Hp}{xs:List V}{σ:St}{te:TE}{Q:VK}{P:Addr}(jw:JW J H1 xs)(hP:H1 P=some (dW P))(val:Nat->Int)
  (hs:∀i x,xs[i]?=some x-> ∀H' (Q':VK),av H1 H'->(∀H2,av H' H2->Q' (.int (val i)) H2) ->te (some x::σ) H' Q')
  (hq:∀H',av H1 H'->Q (.int (preSum val xs.length)) H'):
  FU 1 P (cO 0) te σ J H1 Q:=
 ⟨hP,Gg jw (λi v=>v= .int (val i)) (λi x ex H' Q' sm k=>hs i x ex H' Q' sm λH2 s2=>k _ _ rfl s2) ⟨val,λi v _ r=>r,λσ' H' w=>hq H' w.2⟩⟩
theorem Az{J:It}{H1:Hp}{xs:List V}{σ:St}{te:TE}{Q:VK}{P:Addr}(jw:JW J H1 xs)(hP:H1 P=some (dW P))(bv:Nat->Bool)
  (hs:∀i x,xs[i]?=some x-> ∀H' (Q':VK),av H1 H'->(∀H2,av H' H2->Q' (.bl (bv i)) H2) ->te (some x::σ) H' Q')
  (hq:∀b H',av H1 H'->(b=true↔ ∀j,j<xs.length->bv j=true) ->Q (.bl b) H'):
  KA 1 P (cO 0) te σ J H1 Q:=
 ⟨hP,Gg jw (λi v=>v= .bl (bv i)) (λi x ex H' Q' sm k=>hs i x ex H' Q' sm λH2 s2=>k _ _ rfl s2) ⟨bv,λi v _ r=>r,λhb σ' H' w=>hq _ H' w.2 ⟨λ_=>hb,λ_=>rfl⟩,
  λj hj hb _ σ' H' w=>hq _ H' w.2 ⟨λz=>(by cases z),λz=>by rw[z j hj]at hb;cases hb⟩⟩⟩
structure DK(K:PySem.W.Frag)(x qual:Str)(st:Stmt)(f:Addr)(fd:FuncData)(T:Addr):Prop where
 ex:∃(oc:Value)(od:Option Addr)(kV doc pm:Value)(an:Option Addr)(cdv ct:Value)(osl:Array (Option Value)),
  fd=PySem.W.fnOf x qual (gm st) (eK st) (aB st) .none kV doc pm an cdv ct/\K.lookup f=some ⟨oc,od,.func fd,osl⟩/\PySem.W.codeIn K cdv qual=true/\gc K cdv T
 kp:PySem.W.keepIn K (.ref f)=true
theorem DK.ok{P:Program}{w:World}{K:PySem.W.Frag}{mg:Str->Option Value}{base:Heap}{x qual:Str}{st:Stmt}{f T:Addr}{fd:FuncData}{N ps:List Str}{k:Nat}{sp:Sp}(F:DK K x qual st f fd T)(S:aO N ps (aB st))(len:∀vs H Q E,sp vs H Q E->vs.length=ps.length)
  (hbody:∀(cdv:Value)(A:Around)(outer:List Env)(s:Shared)(H:Hp)(vs:List V)(Q:VK)(E:XK),gc K cdv T->fj k (A.deeper (envOfC qual (aB st) s.heap.objs.size f cdv)) ->sp vs H Q E->
   ∃t,wV (wZ cS P w K mg base N qual (aB st) f cdv A outer s H E).ER (eK st) t/\t {nx:=λ_ H'=>Q .fZ H',rt:=Q} (start N vs) H):oV P w K mg base cS (k+1) f fd ps sp:=by
 obtain⟨oc,od,kV,doc,pm,an,cdv,ct,osl,rfl,lk,hcd,cd⟩:=F.ex
 refine Kq lk hcd S len λA outer s H vs Q E hr Ii=> ?_
 obtain⟨t,h,q⟩:=hbody cdv A outer s H vs Q E cd hr Ii
 exact⟨t,h.ER,q⟩
theorem DK.fn{K:PySem.W.Frag}{x qual:Str}{st:Stmt}{f T:Addr}{fd:FuncData}(F:DK K x qual st f fd T):Ku K x qual st f fd:=by
 obtain⟨oc,od,kV,doc,pm,an,cdv,ct,osl,e,lk,hcd,cd⟩:=F.ex
 exact⟨⟨oc,od,kV,doc,pm,an,cdv,ct,osl,e,lk,hcd⟩,F.kp⟩
abbrev Cy(K:PySem.W.Frag):List V->Hp->VK->Prop:=λxs H Q=> ∃p ys,xs=[.ref p]/\(aW K H p ys∨m8 K H p ys)/\ ∀l,H l=none->Q (.ref l) (upd H l (.lst ys))
abbrev Cz(K:PySem.W.Frag):List V->Hp->VK->Prop:=λxs H Q=> ∃x n t b,xs=[x,.ty n]/\oU K H x t/\PySem.W.kitOne K t (.type n)=some b/\Q (.bl b) H
theorem jT{X:Cx}{e:Expr}{t:TE}(h:PE X e t):PE X e t:=h
theorem bits_le{k:Int}{n:Nat}(h:k.natAbs<2^n):Builtin.Int.intBits k<=n:=by
 unfold Builtin.Int.intBits
 split
 ·exact Nat.zero_le _
 ·rename_i h0
  have h1:k.natAbs≠0:=λz=>h0 (by have:k=0:=Int.natAbs_eq_zero.mp z;rw[this];rfl)
  exact(Nat.log2_lt h1).mpr h
def lU(i j:Int):Prop:=i.natAbs<2^4096/\j.natAbs<2^4096
theorem lU.ok{i j:Int}(h:lU i j):IntMulOk i j:=by
 have h1:=bits_le h.1
 have h2:=bits_le h.2
 have h3:Builtin.Int.intTooBig (Builtin.Int.intBits i+Builtin.Int.intBits j)=false:=by
  unfold Builtin.Int.intTooBig
  refine decide_eq_false ?_
  have:((Builtin.Int.intBits i+Builtin.Int.intBits j:Nat):Int)<=8192:=by omega
  have e:(8192:Int)<=((bitsLine:Nat):Int):=by decide
  omega
 unfold IntMulOk
 rw[h3]
 simp
section
variable{X:Cx}
theorem aE:p7 X (binaryOp .Mult) (rI lU λi j=> .int (i*j)):=Lq λ_ _ _ _ _ _ _ hc q=>mul_int q hc.ok
def Oi(i j:Int):Prop:=0<j/\j.natAbs.log2<9000
theorem mz:p7 X (binaryOp .FloorDiv) (rI Oi λi j=> .int (i/j)):=Lq λi j _ _ _ _ _ hc q=>by
 have h1:(0:Int)<j:=hc.1
 exact floordiv_int (by omega) (by rw[Int.fdiv_eq_ediv_of_nonneg i (by omega)];exact q) (.inl (PyProof.noPylong_of_log2 hc.2))
end
def Tab(H:Hp)(t:Addr)(bs:List Addr)(m:List (List Int)):Prop:=H t=some (.lst (bs.map V.ref))/\Paired (λrow b=>H b=some (.lst (row.map V.int))) m bs
theorem Tab.same{H H':Hp}{t:Addr}{bs:List Addr}{m:List (List Int)}(s:av H H')(h:Tab H t bs m):Tab H' t bs m:=⟨s _ _ h.1,h.2.Ay λ_ _ _ q=>s _ _ q⟩
def cj(m:List (List Int)):Prop:=m.length=3/\ ∀r∈m,r.length=3
theorem LR{H:Hp}{m:List (List Int)}{bs:List Addr}(pr:Paired (λrow b=>H b=some (.lst (row.map V.int))) m bs){b:Addr}(hb:b∈bs):∃row,row∈m/\H b=some (.lst (row.map V.int)):=by
 induction pr with
 |nil=>cases hb
 | @cons r c m bs h t ih=>
  rcases List.mem_cons.mp hb with e|hb
  ·exact⟨r,List.mem_cons_self,by rw[e];exact h⟩
  ·obtain⟨row,q1,q2⟩:=ih hb
   exact⟨row,List.mem_cons_of_mem _ q1,q2⟩
theorem Tab.upd{H:Hp}{t x:Addr}{bs:List Addr}{m:List (List Int)}{o:HO}(h:Tab H t bs m)(h1:t≠x)(h2:x∉bs):Tab (upd H x o) t bs m:=
 ⟨by rw[aD h1];exact h.1,h.2.Ay λr b hb e=>by rw[aD (λz=>h2 (by rw[<-z];exact hb))];exact e⟩
theorem Gh{K:PySem.W.Frag}{H:Hp}:∀r:List Int,Au K H (r.map V.int) (r.map PyData.int)
 | []=> .nil
 |x::r=> .cons (.int x) (Gh r)
theorem CA{K:PySem.W.Frag}{H:Hp}{t:Addr}{bs:List Addr}{m:List (List Int)}(h:Tab H t bs m):yQ K H (.ref t) (Aw m):=by
 obtain⟨e,pr⟩:=h
 refine .lst (aW.of e) ?_
 clear e
 induction pr with
 |nil=>exact .nil
 | @cons r b m bs h t ih=>exact .cons (.lst (aW.of h) (Gh r)) ih
theorem kL{bs:List Addr}{x:V}(h:x∈bs.map V.ref):∃b,x= .ref b/\b∈bs:=by
 obtain⟨b,hb,e⟩:=List.mem_map.mp h
 exact⟨b,e.symm,hb⟩
def itemsOf(H:Hp)(g:V->V)(x:V):List V:=match x with
 | .ref b=>(match H b with|some (.lst xs)=>xs.map g|_=>[])
 |_=>[]
theorem q8{H:Hp}{g:V->V}{b:Addr}{xs:List V}(h:H b=some (.lst xs)):itemsOf H g (.ref b)=xs.map g:=by
 show(match H b with|some (.lst xs)=>xs.map g|_=>[])=_
 rw[h]
theorem vW{H H':Hp}{f:V->List V}{g:List Int->List Int}:∀{m:List (List Int)}{bs bs':List Addr},Paired (λrow b=>H b=some (.lst (row.map V.int))) m bs->Paired (λx b'=>H' b'=some (.lst (f x))) (bs.map V.ref) bs'->
  (∀row b,H b=some (.lst (row.map V.int)) ->f (.ref b)=(g row).map V.int) ->Paired (λrow b'=>H' b'=some (.lst (row.map V.int))) (m.map g) bs'
 |_,_,_,.nil,h2,_=>by cases h2;exact .nil
 |_,_,_,.cons h t,h2,k=>by
  cases h2 with
  |cons h' t'=>exact .cons (by rw[h',k _ _ h]) (vW t t' k)
def ent(m:List (List Int))(i j:Nat):Int:=(m.getD i []).getD j 0
def mk3(g:Nat->Nat->Int):List (List Int):=[[g 0 0,g 0 1,g 0 2],[g 1 0,g 1 1,g 1 2],[g 2 0,g 2 1,g 2 2]]
theorem cG(g:Nat->Nat->Int):cj (mk3 g):=⟨rfl,λr hr=>by
 simp only[mk3,List.mem_cons,List.not_mem_nil,or_false]at hr
 rcases hr with rfl|rfl|rfl<;>rfl⟩
theorem bH{i:Nat}(h:i<3):i=0∨i=1∨i=2:=by omega
theorem fN(g:Nat->Nat->Int){i j:Nat}(hi:i<3)(hj:j<3):ent (mk3 g) i j=g i j:=by
 rcases bH hi with rfl|rfl|rfl<;>rcases bH hj with rfl|rfl|rfl<;>rfl
theorem tH{m:List (List Int)}(h:cj m):m=mk3 (ent m):=by
 obtain⟨h1,h2⟩:=h
 match m,h1,h2 with
 | [r0,r1,r2],_,h2=>
  have l0:=h2 r0 (by simp)
  have l1:=h2 r1 (by simp)
  have l2:=h2 r2 (by simp)
  match r0,r1,r2,l0,l1,l2 with
  | [a,b,c],[d,e,f],[g,h,i],_,_,_=>rfl
theorem gz{xs:List V}{i:Nat}{v:V}(h:xs[i]?=some v):yv xs (i:Int)=some v:=Cr h
theorem CB{H:Hp}{t:Addr}{bs:List Addr}{m:List (List Int)}(h:Tab H t bs m){i:Nat}(hi:i<m.length):∃b row,yv (bs.map V.ref) (i:Int)=some (.ref b)/\H b=some (.lst (row.map V.int))/\m[i]?=some row/\b∈bs:=by
 obtain⟨_,pr⟩:=h
 have q:∀{m:List (List Int)}{bs:List Addr}{i:Nat},Paired (λrow b=>H b=some (.lst (row.map V.int))) m bs->i<m.length-> ∃b row,bs[i]?=some b/\H b=some (.lst (row.map V.int))/\m[i]?=some row:=by
  intro m bs i pr
  induction pr generalizing i with
  |nil=>intro hi;exact absurd hi (Nat.not_lt_zero _)
  | @cons r b m bs h t ih=>
   intro hi
   cases i with
   |zero=>exact⟨b,r,rfl,h,rfl⟩
   |succ i=>
    obtain⟨b',r',e1,e2,e3⟩:=ih (i:=i) (by simpa using hi)
    exact⟨b',r',by simpa using e1,e2,by simpa using e3⟩
 obtain⟨b,row,e1,e2,e3⟩:=q pr hi
 exact⟨b,row,gz (by rw[List.getElem?_map,e1];rfl),e2,e3,List.mem_of_getElem? e1⟩
theorem mY{H:Hp}{t:Addr}{bs:List Addr}{m:List (List Int)}(h:Tab H t bs m)(b8:cj m){i j:Nat}(hi:i<3)(hj:j<3):
  ∃(b:Addr)(row:List Int),yv (bs.map V.ref) (i:Int)=some (.ref b)/\H b=some (.lst (row.map V.int))/\yv (row.map V.int) (j:Int)=some (.int (ent m i j)):=by
 obtain⟨b,row,e1,e2,e3,_⟩:=CB h (i:=i) (by rw[b8.1];exact hi)
 refine⟨b,row,e1,e2,gz ?_⟩
 have rl:row.length=3:=b8.2 row (List.mem_of_getElem? e3)
 have e4:m.getD i []=row:=by rw[List.getD_eq_getElem?_getD,e3];rfl
 rw[List.getElem?_map,List.getElem?_eq_getElem (by rw[rl];exact hj)]
 unfold ent
 rw[e4,List.getD_eq_getElem?_getD,List.getElem?_eq_getElem (by rw[rl];exact hj)]
 rfl
theorem bf{H:Hp}{t:Addr}{bs:List Addr}{m:List (List Int)}(h:Tab H t bs m)(b8:cj m){i:Nat}(hi:i<3):
  ∃b,yv (bs.map V.ref) (i:Int)=some (.ref b)/\H b=some (.lst [.int (ent m i 0),.int (ent m i 1),.int (ent m i 2)])/\b∈bs:=by
 obtain⟨b,row,e1,e2,e3,e5⟩:=CB h (i:=i) (by rw[b8.1];exact hi)
 refine⟨b,e1,?_,e5⟩
 have rl:row.length=3:=b8.2 row (List.mem_of_getElem? e3)
 have e4:m.getD i []=row:=by rw[List.getD_eq_getElem?_getD,e3];rfl
 rw[e2]
 unfold ent
 rw[e4]
 match row,rl with
 | [a,b,c],_=>rfl
def Bd(n:Nat)(m:List (List Int)):Prop:=∀i j,i<3->j<3->(ent m i j).natAbs<2^n
theorem Bd.mono{a b:Nat}{m:List (List Int)}(h:Bd a m)(hab:a<=b):Bd b m:=λi j hi hj=>Nat.lt_of_lt_of_le (h i j hi hj) (Nat.pow_le_pow_right (by decide) hab)
theorem cD{x y:Int}{a b:Nat}(hx:x.natAbs<2^a)(hy:y.natAbs<2^b):(x*y).natAbs<2^(a+b):=by
 rw[Int.natAbs_mul,Nat.pow_add]
 exact Nat.mul_lt_mul_of_lt_of_lt hx hy
theorem k9{x y:Int}{a:Nat}(hx:x.natAbs<2^a)(hy:y.natAbs<2^a):(x+y).natAbs<2^(a+1):=by
 have e:2^(a+1)=2^a+2^a:=by rw[Nat.pow_succ];omega
 omega
theorem kg{x y:Int}{a:Nat}(hx:x.natAbs<2^a)(hy:y.natAbs<2^a):(x-y).natAbs<2^(a+1):=by
 have e:2^(a+1)=2^a+2^a:=by rw[Nat.pow_succ];omega
 omega
theorem aI{x:Int}{a b:Nat}(hx:x.natAbs<2^a)(h:a<=b):x.natAbs<2^b:=Nat.lt_of_lt_of_le hx (Nat.pow_le_pow_right (by decide) h)
def gF(a b:List (List Int)):List (List Int):=mk3 λi j=>ent a i 0*ent b 0 j+ent a i 1*ent b 1 j+ent a i 2*ent b 2 j
def cU(a:List (List Int)):List (List Int):=mk3 λi j=>ent a j i
theorem r6{a b:List (List Int)}{p q:Nat}(ha:Bd p a)(hb:Bd q b):Bd (p+q+2) (gF a b):=λi j hi hj=>by
 unfold gF
 rw[fN _ hi hj]
 exact k9 (k9 (cD (ha i 0 hi (by decide)) (hb 0 j (by decide) hj)) (cD (ha i 1 hi (by decide)) (hb 1 j (by decide) hj))) (aI (cD (ha i 2 hi (by decide)) (hb 2 j (by decide) hj)) (Nat.le_succ _))
theorem yT{a:List (List Int)}{p:Nat}(ha:Bd p a):Bd p (cU a):=λi j hi hj=>by
 unfold cU
 rw[fN _ hi hj]
 exact ha j i hj hi
theorem kM(K:PySem.W.Frag)(n:String):PySem.W.kitOne K (.type n) (.type n)=some true:=by
 unfold PySem.W.kitOne
 rw[if_pos (by simp)]
theorem oX(K:PySem.W.Frag):PySem.W.kitOne K (.type "int") (.type "bool")=some false:=by kernel_rfl
theorem LS{xs:List V}{k:Int}(h0:0<=k)(h:k<(xs.length:Int)):∃v,yv xs k=some v/\xs[k.toNat]?=some v:=by
 have hk:k.toNat<xs.length:=by omega
 have ek:k=((k.toNat:Nat):Int):=by omega
 have q:yv xs ((k.toNat:Nat):Int)=some xs[k.toNat]:=Cr (by rw[List.getElem?_eq_getElem hk])
 rw[<-ek]at q
 exact⟨xs[k.toNat],q,by rw[List.getElem?_eq_getElem hk]⟩
theorem Jd{ns:List Int}{k:Int}(h0:0<=k)(h:k<(ns.length:Int)):∃z:Int,yv (ns.map V.int) k=some (.int z):=by
 obtain⟨v,h1,h2⟩:=LS (xs:=ns.map V.int) h0 (by rw[List.length_map];exact h)
 rw[List.getElem?_map]at h2
 cases q:ns[k.toNat]? with
 |none=>rw[q]at h2;cases h2
 |some z=>rw[q]at h2;cases h2;exact⟨z,h1⟩
theorem at2{x y:V}{i:Int}(h0:0<=i)(h:i<2):∃v,yv [x,y] i=some v/\(v=x∨v=y):=by
 have c:i=0∨i=1:=by omega
 rcases c with rfl|rfl
 ·exact⟨x,rfl,.inl rfl⟩
 ·exact⟨y,rfl,.inr rfl⟩
section
variable{X:Cx}
end
theorem oY{J:It}{xs:List V}{H1:Hp}{σ:St}{te:TE}{Q:VK}{D:Addr}(jw:JW J H1 xs)(h3:xs.length=3)(hD:H1 D=none)(g:Nat->Int)(hs:∀j x,j<3->xs[j]?=some x-> ∀H' (Q':VK),av H1 H'->(∀H2,av H' H2->Q' (.int (g j)) H2) ->te (some x::σ) H' Q')
  (hq:∀H',av H1 H'->H' D=some (.lst [.int (g 0),.int (g 1),.int (g 2)]) ->Q (.ref D) H'):j8 1 (cO 0) te σ J H1 D Q:=by
 refine oW jw (by rw[h3];decide) hD (λpre acc H'=>acc=(List.range pre.length).map λj=>V.int (g j)) rfl (λpre x post acc H' Q' e hl sm eD p k=> ?_) (λacc H' hl sm eD p=> ?_)
 ·have hlen:pre.length<3:=by
   have:=congrArg List.length e
   rw[h3]at this
   simp at this
   omega
  refine hs pre.length x hlen (by rw[e];simp) H' Q' sm λH2 s2=>k _ H2 s2 ?_
  rw[p]
  simp[List.range_succ]
 ·refine hq H' sm ?_
  rw[eD,p,h3]
  rfl
theorem xw{J:It}{xs:List V}{H1:Hp}{σ:St}{te:TE}{Q:VK}{D:Addr}(jw:JW J H1 xs)(h3:xs.length=3)(hD:H1 D=none)(g:Nat->Nat->Int)
  (hs:∀i x,i<3->xs[i]?=some x-> ∀H' (Q':VK),av H1 H'->(∀b H2,H' b=none->av H' H2->H2 b=some (.lst [.int (g i 0),.int (g i 1),.int (g i 2)]) ->Q' (.ref b) H2) ->te (some x::σ) H' Q')
  (hq:∀bs H',av H1 H'->(∀b∈bs,H1 b=none) ->D∉bs->Tab H' D bs (mk3 g) ->Q (.ref D) H'):j8 1 (cO 0) te σ J H1 D Q:=by
 refine oW jw (by rw[h3];decide) hD (λpre acc H'=> ∃bs:List Addr,acc=bs.map V.ref/\(∀b∈bs,H1 b=none)/\D∉bs/\Paired (λi b=>H' b=some (.lst [.int (g i 0),.int (g i 1),.int (g i 2)])) (List.range pre.length) bs) ⟨[],rfl,λ_ h=>(nomatch h),by simp,.nil⟩ (λpre x post acc H' Q' e hl sm eD p k=> ?_) (λacc H' hl sm eD p=> ?_)
 ·obtain⟨bs,rfl,fr,nD,pr⟩:=p
  have hlen:pre.length<3:=by
   have:=congrArg List.length e
   rw[h3]at this
   simp at this
   omega
  refine hs pre.length x hlen (by rw[e];simp) H' _ sm λb H2 hb s2 eb=>k _ _ s2 ⟨bs++ [b],by simp,?_,?_,?_⟩
  ·intro c hc
   rcases List.mem_append.mp hc with z|z
   ·exact fr c z
   ·rw[List.mem_singleton.mp z];exact sm.none hb
  ·intro z
   rcases List.mem_append.mp z with z|z
   ·exact nD z
   ·rw[<-List.mem_singleton.mp z,eD]at hb;cases hb
  ·have nb:b≠D:=λz=>by rw[z,eD]at hb;cases hb
   have er:List.range (pre++ [x]).length=List.range pre.length++ [pre.length]:=by simp[List.range_succ]
   rw[er]
   refine Paired.snoc (pr.Ay λy c hc q=> ?_) (by rw[aD nb];exact eb)
   rw[aD (λz=>nD (by rw[<-z];exact hc))]
   exact s2 _ _ q
 ·obtain⟨bs,rfl,fr,nD,pr⟩:=p
  refine hq bs H' sm fr nD ⟨eD,?_⟩
  rw[h3]at pr
  have Rb:Paired (λi b=>H' b=some (.lst [.int (g i 0),.int (g i 1),.int (g i 2)])) [0,1,2] bs:=pr
  cases Rb with
  |cons h0 t0=>cases t0 with
   |cons h1 t1=>cases t1 with
    |cons h2 t2=>
     cases t2
     exact .cons h0 (.cons h1 (.cons h2 .nil))
theorem f6{n k:Nat}{x:V}(h:(mw n)[k]?=some x):k<n/\x= .int (k:Int):=by
 unfold mw at h
 rw[List.getElem?_map]at h
 cases q:(List.range n)[k]? with
 |none=>rw[q]at h;cases h
 |some z=>
  rw[q]at h
  have hz:=List.getElem?_eq_some_iff.mp q
  obtain⟨h1,h2⟩:=hz
  have Rc:k<n:=by simpa using h1
  rw[List.getElem_range]at h2
  subst h2
  cases h
  exact⟨Rc,rfl⟩
theorem Rf(val:Nat->Int):preSum val 3=val 0+val 1+val 2:=by simp[preSum]
theorem Gi{d:PyData}(h:SeqAt.shaped d=true):PyData.eqv d d=true:=SeqAt.eqv_refl d (SeqAt.canLay_of_shaped h)
theorem Je{K:PySem.W.Frag}{H:Hp}{x y:V}{Q:VK}(d:PyData)(hx:yQ K H x d)(hy:yQ K H y d)(hs:SeqAt.shaped d=true)(q:Q (.bl true) H):Ga K false x y H Q:=
 ⟨d,d,hx,hy,hs,hs,by rw[Gi hs];exact q⟩
theorem ic{f g:Nat->Nat->Int}(h:∀i j,i<3->j<3->f i j=g i j):mk3 f=mk3 g:=by
 simp only[mk3,h 0 0 (by decide) (by decide),h 0 1 (by decide) (by decide),h 0 2 (by decide) (by decide),h 1 0 (by decide) (by decide),h 1 1 (by decide) (by decide),h 1 2 (by decide) (by decide),h 2 0 (by decide) (by decide),h 2 1 (by decide) (by decide),h 2 2 (by decide) (by decide)]
theorem aP(a b:List (List Int)){i j:Nat}(hi:i<3)(hj:j<3):ent (gF a b) i j=ent a i 0*ent b 0 j+ent a i 1*ent b 1 j+ent a i 2*ent b 2 j:=fN _ hi hj
theorem aS(a:List (List Int)){i j:Nat}(hi:i<3)(hj:j<3):ent (cU a) i j=ent a j i:=fN _ hi hj
theorem tK(a b c:List (List Int)):gF (gF a b) c=gF a (gF b c):=by
 refine ic λi j hi hj=> ?_
 rw[aP a b hi (by decide),aP a b hi (by decide),aP a b hi (by decide),aP b c (by decide) hj,aP b c (by decide) hj,aP b c (by decide) hj]
 grind
theorem nM(a b:List (List Int)):cU (gF a b)=gF (cU b) (cU a):=by
 refine ic λi j hi hj=> ?_
 rw[aP a b hj hi,aS b hi (by decide),aS b hi (by decide),aS b hi (by decide),aS a (by decide) hj,aS a (by decide) hj,aS a (by decide) hj]
 grind
theorem yU{a:List (List Int)}(h:cj a):cU (cU a)=a:=by
 rw[tH h]
 refine ic λi j hi hj=> ?_
 rw[aS _ hj hi,fN _ hi hj]
def dS(m b:List (List Int)):List (List Int):=gF (gF b m) (cU b)
theorem DL(m b c:List (List Int)):dS (dS m b) c=dS m (gF c b):=by
 unfold dS
 simp only[nM,tK]
theorem vX{m:List (List Int)}(b:List (List Int))(hb:cj b):cU (dS m b)=dS (cU m) b:=by
 unfold dS
 rw[nM,nM,yU hb,tK]
def gX(m:List (List Int))(i j:Nat):Int:=ent m ((i+1)%3) ((j+1)%3)*ent m ((i+2)%3) ((j+2)%3) -ent m ((i+1)%3) ((j+2)%3)*ent m ((i+2)%3) ((j+1)%3)
def aC(m:List (List Int)):Int:=ent m 0 0*gX m 0 0+ent m 0 1*gX m 0 1+ent m 0 2*gX m 0 2
theorem dF(m:List (List Int)):aC m=ent m 0 0*(ent m 1 1*ent m 2 2-ent m 1 2*ent m 2 1)+ent m 0 1*(ent m 1 2*ent m 2 0-ent m 1 0*ent m 2 2)+ent m 0 2*(ent m 1 0*ent m 2 1-ent m 1 1*ent m 2 0):=rfl
theorem p8(a b:List (List Int)):aC (gF a b)=aC a*aC b:=by
 rw[dF,dF,dF]
 simp only[aP a b (show 0<3 by decide) (show 0<3 by decide),aP a b (show 0<3 by decide) (show 1<3 by decide),aP a b (show 0<3 by decide) (show 2<3 by decide),aP a b (show 1<3 by decide) (show 0<3 by decide),aP a b (show 1<3 by decide) (show 1<3 by decide),aP a b (show 1<3 by decide) (show 2<3 by decide),aP a b (show 2<3 by decide) (show 0<3 by decide),aP a b (show 2<3 by decide) (show 1<3 by decide),aP a b (show 2<3 by decide) (show 2<3 by decide)]
 grind
theorem m3(i:Nat)(k:Nat):((i:Int)+(k:Int))%3=(((i+k)%3:Nat):Int):=by omega
theorem uT(i:Nat):i%3<3:=Nat.mod_lt _ (by decide)
theorem xx(f:Nat->Int){c:Nat}(h:c<3):yv [V.int (f 0),.int (f 1),.int (f 2)] (c:Int)=some (.int (f c)):=by
 rcases bH h with rfl|rfl|rfl<;>rfl
theorem CC{m:List (List Int)}{n:Nat}(h:Bd n m)(i j:Nat):(gX m i j).natAbs<2^(n+n+1):=
 kg (cD (h _ _ (uT _) (uT _)) (h _ _ (uT _) (uT _))) (cD (h _ _ (uT _) (uT _)) (h _ _ (uT _) (uT _)))
theorem lq{H:Hp}{t b0 b1 b2:Addr}(g:Nat->Nat->Int)(e:H t=some (.lst [.ref b0,.ref b1,.ref b2]))(h0:H b0=some (.lst [.int (g 0 0),.int (g 0 1),.int (g 0 2)]))(h1:H b1=some (.lst [.int (g 1 0),.int (g 1 1),.int (g 1 2)]))
  (h2:H b2=some (.lst [.int (g 2 0),.int (g 2 1),.int (g 2 2)])):Tab H t [b0,b1,b2] (mk3 g):=⟨e,.cons h0 (.cons h1 (.cons h2 .nil))⟩
def mC(m:List (List Int)):List (List Int):=mk3 λi j=>gX m j i
def CD(d:Int):List (List Int):=mk3 λi j=>if i=j then d else 0
theorem mD(m:List (List Int)){i j:Nat}(hi:i<3)(hj:j<3):ent (mC m) i j=gX m j i:=fN _ hi hj
theorem Gj(m:List (List Int)):gF (mC m) m=CD (aC m):=by
 refine ic λi j hi hj=> ?_
 rw[mD m hi (by decide),mD m hi (by decide),mD m hi (by decide),dF]
 rcases bH hi with rfl|rfl|rfl<;>rcases bH hj with rfl|rfl|rfl<;>simp only[gX,Nat.reduceAdd,Nat.reduceMod,Nat.reduceEqDiff,if_true,if_false]<;>grind
structure ES(X:Cx)(st:List Stmt)(t:TS):Prop where
 h:wV X st t
theorem lY{X:Cx}{st:List Stmt}{t:TS}(h:ES X st t):wV X st t:=h.h
theorem az{X:Cx}{a:Stmt}{b:List Stmt}{ta tb:TS}(ha:PS X a ta)(hb:ES X b tb):ES X (a::b) (Ai ta tb):=⟨Fc ha hb.h⟩
theorem aN{X:Cx}{a:Stmt}{ta:TS}(ha:PS X a ta):ES X [a] ta:=⟨cX ha⟩
section
variable{X:Cx}{pins:List (Addr×Obj)}{σ:St}{H:Hp}{s:Shared}{h':Heap}
theorem Inv.oZ{t':Nat}{ch:List Addr}(I:Inv X pins σ H s)(k:∀b o,b∉ch->s.heap.get? b=some o->h'.get? b=some o)(hf:∀b∈ch,eV X pins H b):Inv X pins σ H {s with heap:=h',toks:=t'}:=by
 have Nq:∀b u,H b=some u->b∉ch:=λb u e z=>by have:=(hf b z).1;rw[e]at this;cases this
 refine I.step (g':=s.gens) (d':=s.drawn) (ch:=ch) (λb hb=> ?_) (λb o _ _ hc e _=>k b o hc e) (λb o _ _ hc e _=>⟨o.slots,k b o hc e⟩) (λ_ _ _ _ n=>n)
  (λb o hc e=>⟨o,k b o hc e⟩) (λ_ _ e=>e) (λ_ _ _ e=>e) (λb ps e=>⟨#[],by rw[e];simp⟩) (λm hm=> ?_) (λb u e=> ?_) (.refl I.bare.bare)
 ·obtain⟨f0,f1,f2,f3,f4,f5⟩:=hf b hb
  exact⟨f3,f1,f4,f5⟩
 ·obtain⟨o,es,ep,ho,r⟩:=hm
  exact⟨o,es,ep,k _ o (λz=>(hf _ z).2.1 rfl) ho,r⟩
 ·refine(I.hok b u e).stay (λc v hc q=>k c v ?_ q) (λ_ q=>q) λ_ _ q=>q
  rcases hc with z|z
  ·rw[z];exact Nq b u e
  ·exact Nq c _ z
theorem Inv.KD{T:Addr}{o:HO}(I:Inv X pins σ H s)(hf:eV X pins H T)(new:eO X.prog X.w (upd H T o) s.heap T o):Inv X pins σ (upd H T o) s:=by
 obtain⟨f0,f1,f2,f3,f4,f5⟩:=hf
 have ne:∀{b u},H b=some u->b≠T:=λ {b u} e z=>by rw[z,f0]at e;cases e
 refine I.step (g':=s.gens) (d':=s.drawn) (t':=s.toks) (h':=s.heap) (ch:=[T]) (λb hb=> ?_) (λb o _ _ _ e _=>e) (λb o _ _ _ e _=>⟨o.slots,e⟩) (λb o hc _ n=> ?_)
  (λb o _ e=>⟨o,e⟩) (λb xs e=>by rw[aD (ne e)];exact e) (λb _ _ e=>by rw[aD (ne e)];exact e) (λb ps e=>⟨#[],by rw[aD (ne e),e];simp⟩) (λm hm=>hm) (λb u e=> ?_) (.refl I.bare.bare)
 ·have e:b=T:=by simpa using hb
  subst e
  exact⟨f3,f1,f4,f5⟩
 ·rw[aD (λz=>hc (by simp[z]))];exact n
 ·by_cases hb:b=T
  ·subst hb;rw[ao]at e;cases e;exact new
  ·rw[aD hb]at e
   exact(I.hok b u e).stay (λc v _ q=>q) (λc q=>by rw[aD (ne q)];exact q) (λc xs q=>by rw[aD (ne q)];exact q) λc ob xs q=>by rw[aD (ne q)];exact q
end
def Oj(K:PySem.W.Frag)(a b:Addr):It:=
 ⟨λi H=> ∃xs ys x y,aW K H a xs/\aW K H b ys/\xs[i]?=some x/\ys[i]?=some y,
  λi H v H'=> ∃T x y,v= .ref T/\H T=none/\(∀xs,aW K H a xs->xs[i]?=some x)/\(∀ys,aW K H b ys->ys[i]?=some y)/\H'=upd H T (.tup [x,y]),
  λi H=> ∃xs ys,aW K H a xs/\aW K H b ys/\(xs.length<=i∨ys.length<=i)⟩
def Ol(z TI TO i1 i2 a b:Addr)(i:Nat)(h:Heap):Prop:=
 IsZip h z TI TO .none/\IsPair h TI (.ref i1) (.ref i2)/\(∃p q,IsPair h TO p q)/\h.IsListIter i1 a i/\h.IsListIter i2 b i
theorem Gk{P:Program}{w:World}{K:PySem.W.Frag}{elts:List Expr}{x1}{pos:Pos}(z TI TO i1 i2 a b:Addr)(D:ZipApart z TI TO i1 i2 a b):Turn P w K (.Tuple elts x1 pos) (Oj K a b) [z,TI,TO,i1,i2] z (Ol z TI TO i1 i2 a b) where
 mem:=by simp
 obj:=λi h st c hc=>by
  obtain⟨hz,hTI,⟨p,q,hTO⟩,⟨o1,e1,c1,d1⟩,⟨o2,e2,c2,d2⟩⟩:=st
  simp only[List.mem_cons,List.not_mem_nil,or_false]at hc
  rcases hc with rfl|rfl|rfl|rfl|rfl
  ·exact⟨_,hz,λv e=>by cases e⟩
  ·exact⟨_,hTI,λv e=>by cases e⟩
  ·exact⟨_,hTO,λv e=>by cases e⟩
  ·exact⟨_,e1,λv e=>by rw[d1]at e;cases e⟩
  ·exact⟨_,e2,λv e=>by rw[d2]at e;cases e⟩
 keep:=λi h h' st k=>by
  obtain⟨hz,hTI,⟨p,q,hTO⟩,h1,h2⟩:=st
  exact⟨k z (by simp) _ hz,k TI (by simp) _ hTI,⟨p,q,k TO (by simp) _ hTO⟩,h1.at λo e=>k i1 (by simp) o e,h2.at λo e=>k i2 (by simp) o e⟩
 item:=by
  intro X hP hw hK hc i pins s σ H E I hf st hg
  subst hP hw hK
  obtain⟨xs,ys,x,y,Px,Py,hx,hy⟩:=hg
  obtain⟨hz,hTI,⟨p,q,hTO⟩,h1,h2⟩:=st
  obtain⟨ia,ra,pa,za⟩:=I.list Px
  obtain⟨ib,rb,pb,zb⟩:=I.list Py
  obtain⟨u,hu,ru⟩:=ra.get hx
  obtain⟨v,hv,rv⟩:=rb.get hy
  refine wpAny_pyNext_zip_item D hz hTI hTO h1 h2 pa.isList pb.isList (x:=u) (y:=v) (by simpa using hu) (by simpa using hv) λh' a1 a2 a3 a4 a5 a6 hk=> ?_
  refine⟨_,rfl,?_⟩
  have Rg:=hk _ _ D.TIz D.TITO D.TIi1 D.TIi2 hTI
  have f4:∀c∈ [z,TO,i1,i2],eV X pins H c:=λc hc=>hf c (by simp only[List.mem_cons,List.not_mem_nil,or_false]at hc ⊢;rcases hc with rfl|rfl|rfl|rfl<;>simp)
  have I1:Inv X pins σ H {s with heap:=h'}:=I.oZ (t':=s.toks) (ch:=[z,TO,i1,i2]) (λc o hc e=>hk c o (λq=>hc (by simp[q])) (λq=>hc (by simp[q])) (λq=>hc (by simp[q])) (λq=>hc (by simp[q])) e) f4
  have hn:H s.heap.objs.size=none:=I.hok.fresh (Nat.le_refl _)
  have fT:=I.Dm (b:=s.heap.objs.size) (Nat.le_refl _) hn
  have I2:Inv X pins σ (upd H s.heap.objs.size (.tup [x,y])) {s with heap:=h'}:=I1.KD fT ⟨by show 2<=sizeLine;decide,[u,v],.cons ru (.cons rv .nil),⟨_,a5,rfl,_,rfl⟩⟩
  refine wpAny_letOwnedTupleGo_zip (s:={s with heap:=h'}) a1 λh2' hz' hs'=> ?_
  have lt:∀{c o},s.heap.get? c=some o->c≠s.heap.objs.size:=λe=>Nat.ne_of_lt (Heap.lt_size e)
  obtain⟨o1,e1,_⟩:=id h1
  obtain⟨o2,e2,_⟩:=id h2
  have neT:∀c∈ [z,TI,TO,i1,i2],c≠s.heap.objs.size:=λc hc=>by
   simp only[List.mem_cons,List.not_mem_nil,or_false]at hc
   rcases hc with rfl|rfl|rfl|rfl|rfl
   ·exact lt hz
   ·exact lt hTI
   ·exact lt hTO
   ·exact lt e1
   ·exact lt e2
  obtain⟨g0,g1,g2,g3,g4,g5⟩:=hf z (by simp)
  have I3:Inv X pins σ (upd H s.heap.objs.size (.tup [x,y])) {s with heap:=h2'}:=Inv.turned (s:={s with heap:=h'}) (h':=h2') I2 (it:=z) (t':=s.toks) (λc o hc e=>hs'.extBut _ _ hc e) (by rw[aD (neT z (by simp))];exact g0) g1 g3 g4 g5
  refine⟨.ref s.heap.objs.size,_,I3,rfl,⟨_,x,y,rfl,hn,λzs hzs=>by rw[I.sI hzs Px];exact hx,λzs hzs=>by rw[I.sI hzs Py];exact hy,rfl⟩,?_,λc hc=> ?_⟩
  ·exact⟨hz',hs'.extBut _ _ D.TIz Rg,⟨_,_,hs'.extBut _ _ D.TOz a2⟩,a3.extBut hs'.extBut D.i1z,a4.extBut hs'.extBut D.i2z⟩
  ·rw[aD (neT c hc)];exact(hf c hc).1
 done:=by
  intro X hP hw hK hc i pins s σ H E I hf st hg
  subst hP hw hK
  obtain⟨xs,ys,Px,Py,hend⟩:=hg
  obtain⟨hz,hTI,⟨p,q,hTO⟩,h1,h2⟩:=st
  obtain⟨ia,ra,pa,za⟩:=I.list Px
  obtain⟨ib,rb,pb,zb⟩:=I.list Py
  have la:=ra.length
  have lb:=rb.length
  have f4:∀c∈ [z,TO,i1,i2],eV X pins H c:=λc hc=>hf c (by simp only[List.mem_cons,List.not_mem_nil,or_false]at hc ⊢;rcases hc with rfl|rfl|rfl|rfl<;>simp)
  refine wpAny_pyNext_zip_end (I.ok.hd hc) D hz hTI hTO h1 h2 pa.isList pb.isList (hend.imp (λq=>by simp;omega) (λq=>by simp;omega)) λh' hk=>⟨rfl,?_⟩
  exact I.oZ (t':=s.toks) (ch:=[z,TO,i1,i2]) (λc o hc e=>hk c o (λq=>hc (by simp[q])) (λq=>hc (by simp[q])) (λq=>hc (by simp[q])) (λq=>hc (by simp[q])) e) f4
 self:=λ_ _ _ _ _ st h=>wpAny_pyIter_zip st.1 h
def Rh(K:PySem.W.Frag)(ta:TA):TI:=λσ H R=>ta σ H λvs H1=> ∃a b xs ys,vs=[.ref a,.ref b]/\aW K H1 a xs/\aW K H1 b ys/\R (Oj K a b) H1
section
variable{X:Cx}
theorem AA{elts:List Expr}{x1}{tpos:Pos}{a b:Expr}{ta:TA}{p pos:Pos}(hg:Gl X "zip")(hm:X.mg "zip"=none)(ha:PA X [a,b] ta)(hs:starEach [a,b] X.env=[(false,eval a X.env),(false,eval b X.env)]:=by rfl)(hs2:starEach [b] X.env=[(false,eval b X.env)]:=by rfl):
  PI X (.Tuple elts x1 tpos) (.Call (.Name "zip" p) [a,b] [] pos) (Rh X.K ta):=by
 intro pins s σ H R I h
 refine Call_ (kX I hg hm boot_zip (PyProof.Rows.callWith_type1 (fP (ha pos pins s σ H _ I h) λus s1 ⟨vs,H1,I1,r1,q1⟩=> ?_) (by rw[hs,hs2]) (by rw[hs2];rfl)))
 obtain⟨l1,l2,xs,ys,e,q1,q2,q⟩:=q1
 subst e
 cases r1 with
 |cons r rr=>
  cases rr with
  |cons r' rr=>
   cases rr
   cases r
   cases r'
   obtain⟨ia,ra,pa,za⟩:=I1.list q1
   obtain⟨ib,rb,pb,zb⟩:=I1.list q2
   have UG:l1<s1.heap.objs.size:=by obtain⟨o,e,_⟩:=pa.isList;exact Heap.lt_size e
   have KG:l2<s1.heap.objs.size:=by obtain⟨o,e,_⟩:=pb.isList;exact Heap.lt_size e
   refine call_zip_2 pa.isList pb.isList λh' hz hTI hTO hi1 hi2 hsz hk=> ?_
   refine wpAny_pyIter_zip hz ?_
   refine⟨_,[s1.heap.objs.size+4,s1.heap.objs.size+2,s1.heap.objs.size+3,s1.heap.objs.size,s1.heap.objs.size+1],_,_,H1,rfl,I1.kept (t':=s1.toks) hk,Gk _ _ _ _ _ l1 l2 (zipApart_new UG KG),⟨hz,hTI,⟨_,_,hTO⟩,hi1,hi2⟩,λc hc=> ?_,q⟩
   have hc':s1.heap.objs.size<=c:=by
    simp only[List.mem_cons,List.not_mem_nil,or_false]at hc
    rcases hc with rfl|rfl|rfl|rfl|rfl<;>first|exact Nat.le_refl _|exact Nat.le_add_right _ _
   exact I1.Dm hc' (I1.hok.fresh hc')
end
section
variable{X:Cx}{sc:Scope}{N2:List Str}{x y:Str}{px CF tpos:Pos}{x1:Nat}{elt iter:Expr}{iP p pos:Pos}{wi:TI}{te:TE}{P:Addr}
theorem pq{own:List Str}{i:Nat}{z:Str}(B:nI sc.names X.env.scope.names own N2 X.N)(hz:own[i]?=some z)(s:Shared)(H:Hp)(fp:List Addr):PG (X.comp sc (own++N2) s H fp) (.Name z px) (cO i):=by
 have hi:(X.comp sc (own++N2) s H fp).N[i]?=some z:=by
  show(own++N2)[i]?=some z
  rw[List.getElem?_append_left (List.getElem?_eq_some_iff.mp hz).1];exact hz
 rcases B.own z (List.mem_of_getElem? hz)with e|e
 ·exact aH (i:=i) B.IQ hi (.inl (jz (env:=X.env) e (.inl rfl))) (.inr (jz (env:=X.env) e (.inl rfl)))
 ·refine aH (i:=i) B.IQ hi (.inr (jz (env:=X.env) e (.inr rfl))) (.inl ?_)
  show(sc.names.lookup z==some NameKind.cell)=true
  rw[e];rfl
def g2(K:PySem.W.Frag):TG:=NI K 2 (Fe (cO 0) (Fe (cO 1) NG))
theorem Gm(hc:X.calm=true)(B:nI sc.names X.env.scope.names [x,y] N2 X.N)(s:Shared)(H:Hp)(fp:List Addr):PG (X.comp sc ([x,y]++N2) s H fp) (.Tuple [.Name x px,.Name y CF] x1 tpos) (g2 X.K):=
 kY (X:=X.comp sc ([x,y]++N2) s H fp) hc (aG (pq (i:=0) B rfl s H fp) (aG (pq (i:=1) B rfl s H fp) dO))
theorem AB(hc:X.calm=true)(hi:PI X (.Tuple [.Name x px,.Name y CF] x1 tpos) iter wi)(hB:xh sc.names X.env.scope.names [x,y] N2 X.N=true)(hk:sc.kind= .function)(he:∀s H fp,PE (X.comp sc ([x,y]++N2) s H fp) elt te)
  (hs:∀x,foldedSetIterable iter X.env x=pure x:=by intro _;rfl):PE X (.ListComp elt [⟨.Tuple [.Name x px,.Name y CF] x1 tpos,iter,[],0⟩] sc pos) (nk 2 wi (g2 X.K) te):=
 yN (own:=[x,y]) hc hi (g9 hB) hk (λs H fp=>Gm hc (g9 hB) s H fp) he hs
end
theorem yV{K:PySem.W.Frag}{H1:Hp}{a b:Addr}{xs ys:List V}{σ:St}{te:TE}{Q:VK}(ha:aW K H1 a xs)(hb:aW K H1 b ys)(hl:xs.length=ys.length)(hz:xs.length<=sizeLine){D:Addr}(hD:H1 D=none)(f:V->V->V)
  (hs:∀(i:Nat) x y,xs[i]?=some x->ys[i]?=some y-> ∀H' (Q':VK),av H1 H'->Q' (f x y) H'->te (some x::some y::σ) H' Q')
  (hq:∀H',av H1 H'->H' D=some (.lst (List.zipWith f xs ys)) ->Q (.ref D) H'):j8 2 (g2 K) te σ (Oj K a b) H1 D Q:=by
 refine⟨λi m acc σ' H'=>m=xs.length-i/\i<=xs.length/\acc=(List.zipWith f xs ys).take i/\(∃o o',σ'=o::o'::σ)/\av H1 H'/\H' D=some (.lst acc),⟨xs.length,rfl,Nat.zero_le _,by simp,⟨none,none,rfl⟩,av.up hD,ao⟩,?_⟩
 rintro i m acc σ' H' ⟨rfl,hi,hacc,⟨o,o',rfl⟩,sm,eD⟩
 have UH:acc.length=i:=by rw[hacc];simp;omega
 by_cases hlt:i<xs.length
 ·have hlt':i<ys.length:=by omega
  refine .inr ⟨⟨xs,ys,xs[i],ys[i],sm.seq ha,sm.seq hb,by simp[hlt],by simp[hlt']⟩,by omega,λv H2 yl=> ?_⟩
  obtain⟨T,x,y,rfl,hT,hx,hy,rfl⟩:=yl
  have ex:=hx xs (sm.seq ha)
  have ey:=hy ys (sm.seq hb)
  have s2:av H' (upd H' T (.tup [x,y])):=av.up hT
  refine⟨T,[x,y],rfl,m8.of ao,rfl,x,[y],rfl,y,[],rfl,rfl,?_⟩
  show te (some x::some y::σ) _ _
  refine hs i x y ex ey _ _ (sm.trans s2) ?_
  refine⟨s2 _ _ eD,xs.length- (i+1),by omega,rfl,hlt,?_,⟨_,_,rfl⟩,(sm.trans s2).upd hD,ao⟩
  rw[hacc,List.take_succ,List.getElem?_zipWith,ex,ey]
  rfl
 ·have e:i=xs.length:=by omega
  subst e
  refine .inl ⟨⟨xs,ys,sm.seq ha,sm.seq hb,.inl (Nat.le_refl _)⟩,eD,hq H' sm ?_⟩
  rw[eD,hacc]
  rw[List.take_of_length_le (by rw[List.length_zipWith];exact Nat.min_le_left ..)]
section
variable{X:Cx}{sc:Scope}{N2:List Str}{x y:Str}{px CF:Pos}{elt iter jA:Expr}{iP p pos:Pos}{wi FZ:TI}{te:TE}{P:Addr}
theorem CG{B:Around}{own:List Str}{i:Nat}{z:Str}(Bk:nI sc.names X.env.scope.names own N2 X.N)(hnc:∀y∈sc.names,y.2≠ .cell)(hz:own[i]?=some z)(code:Value)(s:Shared)(H:Hp)(fp:List Addr):PG (X.gen B sc (own++N2) code s H fp) (.Name z px) (cO i):=by
 have hi:(X.gen B sc (own++N2) code s H fp).N[i]?=some z:=by
  show(own++N2)[i]?=some z
  rw[List.getElem?_append_left (List.getElem?_eq_some_iff.mp hz).1];exact hz
 rcases Bk.own z (List.mem_of_getElem? hz)with e|e
 ·exact aH (i:=i) Bk.IQ hi (.inl e) (.inr e)
 ·exact absurd rfl (hnc _ (mem_of_lookup e))
end
section
variable{prog:Program}{w:World}{A:Around}{E:Value->Shared->Prop}{s:Shared}
theorem vY{it t:Addr}{items:Array Value}(hne:t≠it):∀(n i:Nat)(s:Shared)(Q:List Value->Shared->Prop),s.heap.IsListIter it t i->s.heap.IsList t items->i+n<=items.size->
  (∀h',h'.IsListIter it t (i+n) ->Heap.SameBut it s.heap h'->Q ((items.toList.drop i).take n) {s with heap:=h'}) ->wpAny (model prog w) A (draw (.ref it) n) Q E s
 |0,i,s,Q,hit,_,_,hQ=>by
  show wpAny _ _ (pure []) Q E s
  exact wpAny_pure (by simpa using hQ s.heap hit (Heap.SameBut.refl ..))
 |n+1,i,s,Q,hit,ht,hle,hQ=>by
  have hlt:i<items.size:=by omega
  show wpAny _ _ (pyNext (.ref it)>>=_) Q E s
  refine wpAny_bind (wpAny_pyNext_list_item hit ht (x:=items[i]) (by simp[hlt]) λh₁ AD hs₁=> ?_)
  refine wpAny_bind (wpAny_holding (vY hne n (i+1) _ _ AD (ht.extBut hs₁.extBut hne) (by omega) λh₂ LU hs₂=>wpAny_pure ?_))
  have hd:items.toList.drop i=items[i]::items.toList.drop (i+1):=by simp[List.drop_eq_getElem_cons,hlt]
  have:=hQ h₂ (by rw[show i+(n+1)=i+1+n by omega];exact LU) (hs₁.trans hs₂)
  rw[hd,List.take_succ_cons]at this
  exact this
theorem xy{t:Addr}{items:Array Value}{targets:List (Bool×(Value->Sem Unit))}{Q:Unit->Shared->Prop}(hh:A.handled=none)(ht:s.heap.IsList t items)
  (hn:targets.length=items.size)(hstar:targets.findIdx? (·.1)=none)
  (h:∀h',Heap.ExtBut s.heap.objs.size s.heap h'->wpAny (model prog w) A (assignInOrder (targets.map (·.2)) items.toList) Q E {s with heap:=h'}):
  wpAny (model prog w) A (unpack (.ref t) targets) Q E s:=by
 have hlt:t≠s.heap.objs.size:=by obtain⟨o,ho,_⟩:=ht;exact Nat.ne_of_lt (Heap.lt_size ho)
 unfold unpack
 rw[hn,hstar]
 refine wpAny_bind (wpAny_holding ?_)
 unfold unpackItems
 refine wpAny_bind ?_
 unfold notIterableAtAll
 refine wpAny_bind (wpAny_specialOf ht.typeIs PySem.F.slot_list_iter.lookup ?_)
 refine wpAny_pure ?_
 simp only[Bool.false_eq_true,if_false]
 refine wpAny_bind (wpAny_holding (wpAny_pyIter_list ht ?_))
 refine wpAny_bind (wpAny_holding (vY hlt items.size 0 _ _ ⟨_,Heap.get?_push_size _ rfl,rfl,rfl⟩ (Heap.IsList.push ht _) (by omega) λh₁ AD hs₁=> ?_))
 have hall:List.take items.size (List.drop 0 items.toList)=items.toList:=by
  rw[List.drop_zero];exact List.take_of_length_le (by simp)
 rw[hall]
 rw[if_neg (by simp)]
 have ht₁:h₁.IsList t items:=(Heap.IsList.push ht _).extBut hs₁.extBut hlt
 refine wpAny_bind (wpAny_holding (wpAny_pyNext_list_end hh AD ht₁ (by simp) λh₂ Om=> ?_))
 simp only[Option.isSome_none,Bool.false_eq_true,if_false]
 refine wpAny_pure (h h₂ λb o hb e=>Om b o hb (hs₁.extBut b o hb (Heap.get?_push_of_some _ e)))
end
section
variable{X:Cx}
def Oo(K:PySem.W.Frag)(n:Nat)(t:Ir):TG:=λv σ H Q=> ∃a xs,v= .ref a/\aW K H a xs/\xs.length=n/\t xs σ H Q
theorem iD{es:List Expr}{k:Nat}{t:Ir}{n:Nat}{pos:Pos}(hc:X.calm=true)(h:ND X es t)
  (hn:(assignEach es X.env).length=n:=by rfl)(hst:(assignEach es X.env).findIdx? (·.1)=none:=by rfl):PG X (.Tuple es k pos) (Oo X.K n t):=by
 intro pins s σ H v u Q I r hw
 obtain⟨a,xs,e1,hq,hl,hw⟩:=hw
 subst e1
 cases r
 obtain⟨its,rv,ht,hz⟩:=I.list hq
 rw[PyProof.Rows.assign_Tuple]
 refine wpAny_bind (wpAny_standAt (xy (I.ok.hd hc) ht.isList (by simp[hn,<-hl,rv.length]) hst λh' hx=> ?_))
 have I1:Inv X pins σ H {s with heap:=h'}:=I.kept (t':=s.toks) λb o e=>hx b o (Nat.ne_of_lt (Heap.lt_size e)) e
 exact h pins _ σ H xs _ Q I1 (by simpa using rv) hw
end
theorem Ri{X:Cx}{tg iter:Expr}{wi:TI}(h:PI X tg iter wi):PI X tg iter wi:=h
def bh(H:Hp)(a:Addr)(x:Nat->Int):Prop:=H a=some (.lst [.int (x 0),.int (x 1),.int (x 2)])
theorem bh.same{H H':Hp}{a:Addr}{x:Nat->Int}(h:bh H a x)(s:av H H'):bh H' a x:=s _ _ h
def pairF(m:List (List Int))(x y:Nat->Int)(t:Nat):Int:=x (t/3)*ent m (t/3) (t%3)*y (t%3)
def ay(m:List (List Int))(x y:Nat->Int):Int:=PySem.preSum (pairF m x y) 9
theorem bC(m:List (List Int))(x y:Nat->Int):ay m x y=
  x 0*ent m 0 0*y 0+x 0*ent m 0 1*y 1+x 0*ent m 0 2*y 2+x 1*ent m 1 0*y 0+x 1*ent m 1 1*y 1+x 1*ent m 1 2*y 2+x 2*ent m 2 0*y 0+x 2*ent m 2 1*y 1+x 2*ent m 2 2*y 2:=by
 show PySem.preSum (pairF m x y) 9=_
 simp only[PySem.preSum,pairF,Nat.reduceDiv,Nat.reduceMod]
 omega
structure cH(m:List (List Int)):Prop where
 sym:ent m 1 0=ent m 0 1/\ent m 2 0=ent m 0 2/\ent m 2 1=ent m 1 2
 UI:∃a b c,ent m 0 0=2*a/\ent m 1 1=2*b/\ent m 2 2=2*c
def cV(m:List (List Int))(x:Nat->Int):Int:=ay m x x/2
theorem fH{m:List (List Int)}(h:cH m)(x:Nat->Int):ay m x x=2*cV m x:=by
 obtain⟨⟨s1,s2,s3⟩,a,b,c,e1,e2,e3⟩:=h
 have q:ay m x x=2*(x 0*a*x 0+x 1*b*x 1+x 2*c*x 2+x 0*ent m 0 1*x 1+x 0*ent m 0 2*x 2+x 1*ent m 1 2*x 2):=by
  rw[bC,s1,s2,s3,e1,e2,e3];grind
 unfold cV
 rw[q,Int.mul_ediv_cancel_left _ (by decide)]
theorem Gn{f:Nat->Int}{n:Nat}:∀k,(∀t,t<k->(f t).natAbs<2^n) ->(PySem.preSum f k).natAbs<2^(n+k)
 |0,_=>Nat.two_pow_pos _
 |k+1,h=>k9 (Gn k λt ht=>h t (by omega)) (aI (h k (by omega)) (Nat.le_add_right n k))
theorem iI{m:List (List Int)}{x y:Nat->Int}{a b c:Nat}(hm:Bd a m)(hx:∀i,i<3->(x i).natAbs<2^b)(hy:∀i,i<3->(y i).natAbs<2^c):(ay m x y).natAbs<2^(b+a+c+9):=
 Gn 9 λt ht=>cD (cD (hx _ (by omega)) (hm _ _ (by omega) (Nat.mod_lt _ (by decide)))) (hy _ (Nat.mod_lt _ (by decide)))
section
variable{X:Cx}{pos:Pos}
def Oq(i j k:Nat)(ta:TA):TS:=λD σ H=>ta σ H λvs H1=> ∃v w u,vs=[v,w,u]/\D.nx (((σ.set i (some v)).set j (some w)).set k (some u)) H1
theorem Jf{i j k:Nat}{x y z:Str}{a b c:Expr}{ta:TA}{px py pz pt:Pos}{kt k2 Lm}(hc:X.calm=true)(hN:X.N.Nodup)(hi:X.N[i]?=some x)(hj:X.N[j]?=some y)(hk:X.N[k]?=some z)(hij:i≠j)(hik:i≠k)(hjk:j≠k)
  (hx:X.env.scope.names.lookup x=some .local)(hy:X.env.scope.names.lookup y=some .local)(hz:X.env.scope.names.lookup z=some .local)(ha:PA X [a,b,c] ta)
  (hw:swappedStores [.Tuple [.Name x px,.Name y py,.Name z pz] kt pt] (.Tuple [a,b,c] k2 Lm) X.env=pure (some [x,y,z]))
  (hs:swapsWithSole [.Tuple [.Name x px,.Name y py,.Name z pz] kt pt] (.Tuple [a,b,c] k2 Lm) pos.line X.env=pure false:=by rfl):
  PS X (.Assign [.Tuple [.Name x px,.Name y py,.Name z pz] kt pt] (.Tuple [a,b,c] k2 Lm) pos) (Oq i j k ta):=by
 intro pins s σ H D I h
 rw[exec_Assign_arm]
 refine wpAny_bind (wpAny_standAt ?_)
 rw[hs]
 refine wpAny_bind (wpAny_pure ?_)
 rw[if_neg (by decide)]
 refine wpAny_bind (Tuple_ (fP (ha _ pins s σ H _ I h) λus s1 ⟨vs,H1,I1,r1,q1⟩=> ?_))
 obtain⟨v,w,u,e1,q1⟩:=q1
 subst e1
 obtain⟨u1,u2,u3,rfl,rv,rw',ru⟩:∃u1 u2 u3,us=[u1,u2,u3]/\RelV v u1/\RelV w u2/\RelV u u3:=by
  cases r1 with
  |cons p q=>
   cases q with
   |cons p' q'=>
    cases q' with
    |cons p'' UJ=>
     cases UJ
     exact⟨_,_,_,rfl,p,p',p''⟩
 refine wpAny_newObj_type ?_ (by show 3<=sizeLine;decide)
 have I2:Inv X pins σ H1 {s1 with heap:=s1.heap.push {cls:= .type "tuple",data:= .seq [u1,u2,u3].toArray}}:=I1.kept (t':=s1.toks) λb o e=>Heap.get?_push_of_some _ e
 rw[hw]
 refine wpAny_bind (wpAny_pure ?_)
 show wpAny (model X.prog X.w) X.A (do rule "assign.swapped-stores";let items<-unpackItems (.ref s1.heap.objs.size) 3 none;assignInOrder [λv=>bindName X.env z v,λv=>bindName X.env y v,λv=>bindName X.env x v] items.reverse;pure Flow.next) _ _ _
 refine wpAny_bind (wpAny_rule (wpAny_bind (unpackItems_tuple (items:= #[u1,u2,u3]) (I.ok.hd hc) (IsTup.new s1.heap _) λh' hx'=> ?_)))
 have I3:=I2.kept (h':=h') (t':=s1.toks) λb o e=>hx' b o (Nat.ne_of_lt (Heap.lt_size e)) e
 show wpAny _ _ (assignInOrder [λv=>bindName X.env z v,λv=>bindName X.env y v,λv=>bindName X.env x v] [u3,u2,u1]>>=λ_=>pure Flow.next) _ _ _
 refine wpAny_bind (assignInOrder_cons (wpAny_bindName (jv I3 hN hk (.inl hz) ru (λs2 I4=> ?_) (.inr hz))))
 refine assignInOrder_cons (wpAny_bindName (jv I4 hN hj (.inl hy) rw' (λs3 I5=> ?_) (.inr hy)))
 refine assignInOrder_cons (wpAny_bindName (jv I5 hN hi (.inl hx) rv (λs4 I6=>assignInOrder_nil (wpAny_pure ?_)) (.inr hx)))
 have e:((σ.set k (some u)).set j (some w)).set i (some v)=((σ.set i (some v)).set j (some w)).set k (some u):=by
  rw[List.set_comm _ _ (Ne.symm hjk),List.set_comm _ _ (Ne.symm hik),List.set_comm _ _ (Ne.symm hij)]
 rw[e]at I6
 exact⟨_,H1,I6,q1⟩
end
def lu(a b c p q r:Int):List (List Int):=mk3 λi j=>match i,j with|0,0=>a|0,1=>p|0,_=>q|1,0=>p|1,1=>b|1,_=>r|_,0=>q|_,1=>r|_,_=>c
theorem Gp(a b c p q r:Int):aC (lu a b c p q r)=a*b*c+2*(p*q*r) -a*(r*r) -b*(q*q) -c*(p*p):=by
 rw[dF]
 show a*(b*c-r*r)+p*(r*q-p*c)+q*(p*r-b*q)=_
 grind
theorem CH{n:Nat}{a b c p q r:Int}(ha:a.natAbs<2^n)(hb:b.natAbs<2^n)(hc:c.natAbs<2^n)(hp:p.natAbs<2^n)(hq:q.natAbs<2^n)(hr:r.natAbs<2^n):Bd n (lu a b c p q r):=λi j hi hj=>by
 unfold lu
 rw[fN _ hi hj]
 rcases bH hi with rfl|rfl|rfl<;>rcases bH hj with rfl|rfl|rfl<;>assumption
theorem vZ(a b c p q r:Int):cH (lu (2*a) (2*b) (2*c) p q r):=⟨⟨rfl,rfl,rfl⟩,a,b,c,rfl,rfl,rfl⟩
theorem Ot{p a:Int}(h: -a<=p)(h':p<=a):p*p<=a*a:=by
 have h1:0<=a-p:=by omega
 have h2:0<=a+p:=by omega
 have:=Int.mul_nonneg h1 h2
 grind
theorem AE{H:Hp}{a b c d:Addr}{x y z:HO}(h0:H a=none)(h1:upd H a x b=none)(h2:upd (upd H a x) b y c=none)(h3:upd (upd (upd H a x) b y) c z d=none):H d=none/\(∀e∈ [a,b,c],H e=none)/\d∉ [a,b,c]:=by
 have s0:av H (upd H a x):=av.up h0
 have s1:av (upd H a x) (upd (upd H a x) b y):=av.up h1
 have s2:av (upd (upd H a x) b y) (upd (upd (upd H a x) b y) c z):=av.up h2
 refine⟨(s0.trans (s1.trans s2)).none h3,λe he=> ?_,λhd=> ?_⟩
 ·simp only[List.mem_cons,List.not_mem_nil,or_false]at he
  rcases he with rfl|rfl|rfl
  ·exact h0
  ·exact s0.none h1
  ·exact(s0.trans s1).none h2
 ·simp only[List.mem_cons,List.not_mem_nil,or_false]at hd
  rcases hd with rfl|rfl|rfl
  ·have:=(s1.trans s2) _ _ (ao (H:=H) (a:=d) (o:=x));rw[h3]at this;cases this
  ·have:=s2 _ _ (ao (H:=upd H a x) (a:=d) (o:=y));rw[h3]at this;cases this
  ·rw[ao]at h3;cases h3
def vc(m:List (List Int))(i:Nat)(g:Nat->Int):List (List Int):=mk3 λr s=>if r=i then g s else ent m r s
theorem xA{H:Hp}{D R:Addr}{bs:List Addr}{m:List (List Int)}{i:Nat}{g:Nat->Int}(hT:Tab H D bs m)(b8:cj m)(hi:i<3)(hR:H R=some (.lst [.int (g 0),.int (g 1),.int (g 2)]))(nR:R≠D)(nD:D∉bs):
  Tab (upd H D (.lst ((bs.map V.ref).set i (.ref R)))) D (bs.set i R) (vc m i g):=by
 obtain⟨b0,x1,x2,_⟩:=bf hT b8 (i:=0) (by decide)
 obtain⟨b1,y1,y2,_⟩:=bf hT b8 (i:=1) (by decide)
 obtain⟨b2,w1,w2,_⟩:=bf hT b8 (i:=2) (by decide)
 have hl3:bs.length=3:=by rw[<-hT.2.length,b8.1]
 obtain⟨a0,a1,a2,rfl⟩:∃a0 a1 a2,bs=[a0,a1,a2]:=by
  match bs,hl3 with
  | [a,b,c],_=>exact⟨a,b,c,rfl⟩
 obtain rfl:a0=b0:=V.ref.inj (Option.some.inj x1)
 obtain rfl:a1=b1:=V.ref.inj (Option.some.inj y1)
 obtain rfl:a2=b2:=V.ref.inj (Option.some.inj w1)
 have n0:a0≠D:=λz=>nD (by rw[<-z];simp)
 have n1:a1≠D:=λz=>nD (by rw[<-z];simp)
 have n2:a2≠D:=λz=>nD (by rw[<-z];simp)
 rcases bH hi with rfl|rfl|rfl
 ·exact lq _ ao (by rw[aD nR];exact hR) (by rw[aD n1];exact y2) (by rw[aD n2];exact w2)
 ·exact lq _ ao (by rw[aD n0];exact x2) (by rw[aD nR];exact hR) (by rw[aD n2];exact w2)
 ·exact lq _ ao (by rw[aD n0];exact x2) (by rw[aD n1];exact y2) (by rw[aD nR];exact hR)
theorem cK(m:List (List Int)){i r s:Nat}(g:Nat->Int)(hr:r<3)(hs:s<3):ent (vc m i g) r s=if r=i then g s else ent m r s:=fN _ hr hs
theorem Jg(m:List (List Int)){i j:Nat}(hi:i<3)(hj:j<3)(hij:i≠j)(o:Int):aC (vc m i λs=>ent m i s+o*ent m j s)=aC m:=by
 rw[dF,dF]
 simp only[cK m _ (show 0<3 by decide) (show 0<3 by decide),cK m _ (show 0<3 by decide) (show 1<3 by decide),cK m _ (show 0<3 by decide) (show 2<3 by decide),cK m _ (show 1<3 by decide) (show 0<3 by decide),cK m _ (show 1<3 by decide) (show 1<3 by decide),cK m _ (show 1<3 by decide) (show 2<3 by decide),cK m _ (show 2<3 by decide) (show 0<3 by decide),cK m _ (show 2<3 by decide) (show 1<3 by decide),cK m _ (show 2<3 by decide) (show 2<3 by decide)]
 rcases bH hi with rfl|rfl|rfl<;>rcases bH hj with rfl|rfl|rfl<;>first|(exact absurd rfl hij)|(simp only[Nat.reduceEqDiff,if_true,if_false];grind)
structure FE(X:Cx)(e:Expr)(t:TE):Prop where
 h:PE X e t
structure FA(X:Cx)(es:List Expr)(t:TA):Prop where
 h:PA X es t
variable{X:Cx}
theorem cW{i j pos}:FE X (.Constant (.int i) j pos) (tC (.int i)):=⟨ah⟩
theorem fe{e t}(h:PE X e t):FE X e t:=⟨h⟩
theorem ie:FA X [] jj:=⟨ak⟩
theorem aZ{e es te t}(ha:FE X e te)(hr:FA X es t)(hs:starEach (e::es) X.env=(false,eval e X.env)::starEach es X.env):FA X (e::es) (cJ te t):=⟨af ha.h hr.h hs⟩
theorem ig{es t pos}(h:FA X es t):FE X (.List es pos) (NS t):=⟨dG h.h⟩
theorem LV{i:Nat}{x:Str}{e:Expr}{te:TE}{pos' pos:Pos}{b:List Stmt}{tb:TS}(hN:X.N.Nodup)(hi:X.N[i]?=some x)(hx:Loc X.env.scope x)(he:FE X e te)(hs:swapsWith e (some (.Name x pos')) pos.line X.env=pure false)(hf:X.fn x=true∨X.env.scope.names.lookup x=some .local)(hb:ES X b tb):
  ES X (.Assign [.Name x pos'] e pos::b) (Ai (yC te (cO i)) tb):=az (aU hN hi hx he.h hs hf) hb
theorem Gq{e:Expr}{te:TE}{pos:Pos}(he:FE X e te):ES X [.Return (some e) pos] (Ny te):=aN (aT he.h)
theorem toF{st:List Stmt}{R:TS->Prop}(h:∃t,ES X st t/\R t):∃t,wV X st t/\R t:=by
 obtain⟨t,a,b⟩:=h
 exact⟨t,a.h,b⟩
def cu(m:List (List Int)):Bool:=decide (0<ent m 0 0) && (decide (ent m 0 1*ent m 0 1<ent m 0 0*ent m 1 1) && decide (0<aC m))
theorem iE{m:List (List Int)}(h:cU m=m){i j:Nat}(hi:i<3)(hj:j<3):ent m j i=ent m i j:=by
 rw[<-aS m hi hj,h]
theorem Ou(m:List (List Int)):ay m (λi=>if i=0 then 1 else 0) (λi=>if i=0 then 1 else 0)=ent m 0 0:=by
 rw[bC]
 simp
theorem Ov{m:List (List Int)}(h:cU m=m)(x:Nat->Int)(h0:x 0= -ent m 0 1)(h1:x 1=ent m 0 0)(h2:x 2=0):ay m x x=ent m 0 0*(ent m 0 0*ent m 1 1-ent m 0 1*ent m 0 1):=by
 rw[bC,h0,h1,h2,iE h (i:=0) (j:=1) (by decide) (by decide)]
 grind
theorem Ow(m:List (List Int)):ay m (λj=>ent (mC m) 2 j) (λj=>ent (mC m) 2 j)=aC m*ent (mC m) 2 2:=by
 have e:∀j,j<3->ent (mC m) 2 0*ent m 0 j+ent (mC m) 2 1*ent m 1 j+ent (mC m) 2 2*ent m 2 j=if 2=j then aC m else 0:=λj hj=>by
  rw[<-aP _ _ (by decide) hj,Gj,CD,fN _ (by decide) hj]
 have e0:=e 0 (by decide)
 have e1:=e 1 (by decide)
 have e2:=e 2 (by decide)
 rw[if_neg (by decide)]at e0 e1
 rw[if_pos rfl]at e2
 rw[bC,<-e2]
 grind
theorem KH(m:List (List Int)):ent (mC m) 2 2=ent m 0 0*ent m 1 1-ent m 0 1*ent m 1 0:=by
 rw[mD m (by decide) (by decide)]
 rfl
theorem Gr{H:Hp}{a b c:Addr}{x y:HO}(h0:H a=none)(h1:upd H a x b=none)(h2:upd (upd H a x) b y c=none): [a,b,c].Nodup:=by
 have n1:a≠b:=λe=>by rw[e,ao]at h1;cases h1
 have n2:b≠c:=λe=>by rw[e,ao]at h2;cases h2
 have n3:a≠c:=λe=>by rw[aD (λz=>n2 z.symm),e,ao]at h2;cases h2
 simp[n1,n2,n3]
theorem LW{a:Bool}{X A B:Prop}(hB:B)(h:a=true->B->X):if a=true then X else(if false=true then A else B):=by
 cases a with
 |false=>exact nF (nF hB)
 |true=>exact sW (h rfl hB)
section
variable{X:Cx}
end
def vd(x:Nat->Int)(b:List (List Int)):Nat->Int:=λj=>x 0*ent b 0 j+x 1*ent b 1 j+x 2*ent b 2 j
theorem DM(b m:List (List Int))(x y:Nat->Int):ay (gF b m) x y=ay m (vd x b) y:=by
 rw[bC,bC]
 unfold vd
 simp only[aP b m (show 0<3 by decide) (show 0<3 by decide),aP b m (show 0<3 by decide) (show 1<3 by decide),aP b m (show 0<3 by decide) (show 2<3 by decide),aP b m (show 1<3 by decide) (show 0<3 by decide),aP b m (show 1<3 by decide) (show 1<3 by decide),aP b m (show 1<3 by decide) (show 2<3 by decide),aP b m (show 2<3 by decide) (show 0<3 by decide),aP b m (show 2<3 by decide) (show 1<3 by decide),aP b m (show 2<3 by decide) (show 2<3 by decide)]
 grind
theorem AF(b m:List (List Int))(x y:Nat->Int):ay (gF m (cU b)) x y=ay m x (vd y b):=by
 rw[bC,bC]
 unfold vd
 simp only[aP m (cU b) (show 0<3 by decide) (show 0<3 by decide),aP m (cU b) (show 0<3 by decide) (show 1<3 by decide),aP m (cU b) (show 0<3 by decide) (show 2<3 by decide),aP m (cU b) (show 1<3 by decide) (show 0<3 by decide),aP m (cU b) (show 1<3 by decide) (show 1<3 by decide),aP m (cU b) (show 1<3 by decide) (show 2<3 by decide),aP m (cU b) (show 2<3 by decide) (show 0<3 by decide),aP m (cU b) (show 2<3 by decide) (show 1<3 by decide),aP m (cU b) (show 2<3 by decide) (show 2<3 by decide),
  aS b (show 0<3 by decide) (show 0<3 by decide),aS b (show 0<3 by decide) (show 1<3 by decide),aS b (show 0<3 by decide) (show 2<3 by decide),aS b (show 1<3 by decide) (show 0<3 by decide),aS b (show 1<3 by decide) (show 1<3 by decide),aS b (show 1<3 by decide) (show 2<3 by decide),aS b (show 2<3 by decide) (show 0<3 by decide),aS b (show 2<3 by decide) (show 1<3 by decide),aS b (show 2<3 by decide) (show 2<3 by decide)]
 grind
theorem DN(m b:List (List Int))(x y:Nat->Int):ay (dS m b) x y=ay m (vd x b) (vd y b):=by
 unfold dS
 rw[AF,DM]
theorem xB{a b:Int}(h:0<a*b)(ha:0<a):0<b:=by
 rcases Int.lt_or_le 0 b with z|z
 ·exact z
 ·have:=Int.mul_nonpos_of_nonneg_of_nonpos (show 0<=a by omega) z
  omega
def AG(m:List (List Int)):Prop:=∀x:Nat->Int,¬(x 0=0/\x 1=0/\x 2=0) ->0<ay m x x
theorem v5{m:List (List Int)}(hS:cU m=m)(h:AG m):cu m=true:=by
 have c1:0<ent m 0 0:=by
  have:=h (λi=>if i=0 then 1 else 0) (λz=>by simp at z)
  rw[Ou]at this
  exact this
 have c2:ent m 0 1*ent m 0 1<ent m 0 0*ent m 1 1:=by
  have:=h (λi=>match i with|0=> -ent m 0 1|1=>ent m 0 0|_=>0) (λz=>by have y:ent m 0 0=0:=z.2.1;omega)
  rw[Ov hS _ rfl rfl rfl]at this
  have:=xB this c1
  omega
 have SG:0<ent (mC m) 2 2:=by
  rw[KH,iE hS (i:=0) (j:=1) (by decide) (by decide)]
  omega
 have c3:0<aC m:=by
  have:=h (λj=>ent (mC m) 2 j) (λz=>by have y:ent (mC m) 2 2=0:=z.2.2;omega)
  rw[Ow]at this
  exact xB (by rw[Int.mul_comm];exact this) SG
 unfold cu
 rw[decide_eq_true c1,decide_eq_true c2,decide_eq_true c3]
 rfl
theorem ir{m:List (List Int)}(h:cu m=true):0<ent m 0 0/\ent m 0 1*ent m 0 1<ent m 0 0*ent m 1 1/\0<aC m:=by
 unfold cu at h
 simp only[Bool.and_eq_true,decide_eq_true_eq]at h
 exact⟨h.1,h.2.1,h.2.2⟩
theorem bu(a:Int):0<=a*a:=by
 rcases Int.le_total 0 a with h|h
 ·exact Int.mul_nonneg h h
 ·have:=Int.mul_nonneg (show 0<= -a by omega) (show 0<= -a by omega)
  rwa [Int.neg_mul_neg]at this
theorem xC{a:Int}(h:a*a<=0):a=0:=by
 have:=bu a
 have:a*a=0:=by omega
 rcases Int.mul_eq_zero.mp this with z|z<;>exact z
theorem Gs{m:List (List Int)}(hS:cU m=m)(x:Nat->Int):ent m 0 0*(ent m 0 0*ent m 1 1-ent m 0 1*ent m 0 1)*ay m x x=
  (ent m 0 0*ent m 1 1-ent m 0 1*ent m 0 1)*((ent m 0 0*x 0+ent m 0 1*x 1+ent m 0 2*x 2)*(ent m 0 0*x 0+ent m 0 1*x 1+ent m 0 2*x 2))
  +((ent m 0 0*ent m 1 1-ent m 0 1*ent m 0 1)*x 1+(ent m 0 0*ent m 1 2-ent m 0 1*ent m 0 2)*x 2)*((ent m 0 0*ent m 1 1-ent m 0 1*ent m 0 1)*x 1+(ent m 0 0*ent m 1 2-ent m 0 1*ent m 0 2)*x 2)
  +ent m 0 0*aC m*(x 2*x 2):=by
 rw[bC,dF,iE hS (i:=0) (j:=1) (by decide) (by decide),iE hS (i:=0) (j:=2) (by decide) (by decide),iE hS (i:=1) (j:=2) (by decide) (by decide)]
 generalize ent m 0 0=a,ent m 0 1=p,ent m 0 2=q,ent m 1 1=b,ent m 1 2=r,ent m 2 2=c
 generalize x 0=u,x 1=v,x 2=w
 grind
theorem jq{m:List (List Int)}(hS:cU m=m)(h:cu m=true):AG m:=by
 intro x n0
 obtain⟨c1,c2,c3⟩:=ir h
 have e:=Gs hS x
 have f1:0<ent m 0 0*ent m 1 1-ent m 0 1*ent m 0 1:=by omega
 generalize ent m 0 0*ent m 1 1-ent m 0 1*ent m 0 1=fl at e f1
 have q1:=bu (ent m 0 0*x 0+ent m 0 1*x 1+ent m 0 2*x 2)
 have q2:=bu (fl*x 1+(ent m 0 0*ent m 1 2-ent m 0 1*ent m 0 2)*x 2)
 have q3:=bu (x 2)
 have r1:=Int.mul_nonneg (show 0<=fl by omega) q1
 have d1:=Int.mul_pos c1 c3
 have r3:=Int.mul_nonneg (show 0<=ent m 0 0*aC m by omega) q3
 have g1:=Int.mul_pos c1 f1
 refine xB ?_ g1
 rcases Int.lt_or_le 0 (ent m 0 0*fl*ay m x x)with z|z
 ·exact z
 ·exfalso
  have s3:ent m 0 0*aC m*(x 2*x 2)<=0:=by omega
  have s2:=xC (a:=fl*x 1+(ent m 0 0*ent m 1 2-ent m 0 1*ent m 0 2)*x 2) (by omega)
  have s1:fl*((ent m 0 0*x 0+ent m 0 1*x 1+ent m 0 2*x 2)*(ent m 0 0*x 0+ent m 0 1*x 1+ent m 0 2*x 2))<=0:=by omega
  have x2:x 2=0:=by
   refine xC ?_
   rcases Int.lt_or_le 0 (x 2*x 2)with y|y
   ·have:=Int.mul_pos d1 y
    omega
   ·exact y
  rw[x2,Int.mul_zero,Int.add_zero]at s2
  have x1:x 1=0:=by
   rcases Int.mul_eq_zero.mp s2 with y|y
   ·omega
   ·exact y
  rw[x1,x2,Int.mul_zero,Int.mul_zero,Int.add_zero,Int.add_zero]at s1
  have x0:x 0=0:=by
   have:ent m 0 0*x 0=0:=by
    refine xC ?_
    rcases Int.lt_or_le 0 (ent m 0 0*x 0*(ent m 0 0*x 0))with y|y
    ·have:=Int.mul_pos f1 y
     omega
    ·exact y
   rcases Int.mul_eq_zero.mp this with y|y
   ·omega
   ·exact y
  exact n0 ⟨x0,x1,x2⟩
theorem AH(b:List (List Int)):aC (cU b)=aC b:=by
 rw[dF,dF]
 simp only[aS b (show 0<3 by decide) (show 0<3 by decide),aS b (show 0<3 by decide) (show 1<3 by decide),aS b (show 0<3 by decide) (show 2<3 by decide),aS b (show 1<3 by decide) (show 0<3 by decide),aS b (show 1<3 by decide) (show 1<3 by decide),aS b (show 1<3 by decide) (show 2<3 by decide),aS b (show 2<3 by decide) (show 0<3 by decide),aS b (show 2<3 by decide) (show 1<3 by decide),aS b (show 2<3 by decide) (show 2<3 by decide)]
 grind
def yW(d:Int):Prop:=d=1∨d= -1
theorem yX{m b:List (List Int)}(hb:yW (aC b)):aC (dS m b)=aC m:=by
 unfold dS
 rw[p8,p8,AH]
 rcases hb with h|h<;>rw[h]<;>omega
theorem Gu{b:List (List Int)}(hb:yW (aC b))(x:Nat->Int)(h:vd x b 0=0/\vd x b 1=0/\vd x b 2=0):x 0=0/\x 1=0/\x 2=0:=by
 obtain⟨h0,h1,h2⟩:=h
 unfold vd at h0 h1 h2
 have d0:aC b≠0:=by rcases hb with z|z<;>rw[z]<;>decide
 have k:∀z:Int,aC b*z=0->z=0:=λz e=>by
  rcases Int.mul_eq_zero.mp e with y|y
  ·exact absurd y d0
  ·exact y
 refine⟨k _ ?_,k _ ?_,k _ ?_⟩<;>rw[dF]<;>grind
theorem Gv{m b:List (List Int)}(h:AG m)(hb:yW (aC b)):AG (dS m b):=λx n0=>by
 rw[DN]
 exact h _ λz=>n0 (Gu hb x z)
theorem tL{m b:List (List Int)}(hS:cU m=m)(h:cu m=true)(cb:cj b)(hb:yW (aC b)):cu (dS m b)=true:=
 v5 ((vX b cb).trans (congrArg (dS · b) hS)) (Gv (jq hS h) hb)
theorem eL{m:List (List Int)}(h:cH m)(c:cj m):cU m=m:=by
 obtain⟨⟨s1,s2,s3⟩,_⟩:=h
 conv=>rhs;rw[tH c]
 refine ic λi j hi hj=> ?_
 rcases bH hi with rfl|rfl|rfl<;>rcases bH hj with rfl|rfl|rfl<;>first|rfl|assumption|(symm;assumption)
theorem tM(m b:List (List Int)){i j:Nat}(hi:i<3)(hj:j<3):ent (dS m b) i j=ay m (λk=>ent b i k) (λk=>ent b j k):=by
 unfold dS
 rw[aP _ _ hi hj,aP _ _ hi (by decide),aP _ _ hi (by decide),aP _ _ hi (by decide),aS b (by decide) hj,aS b (by decide) hj,aS b (by decide) hj,bC]
 grind
theorem v7{m b:List (List Int)}(h:cH m)(c:cj m)(cb:cj b):cH (dS m b):=by
 have hS:=(vX b cb).trans (congrArg (dS · b) (eL h c))
 refine⟨⟨iE hS (i:=0) (j:=1) (by decide) (by decide),iE hS (i:=0) (j:=2) (by decide) (by decide),iE hS (i:=1) (j:=2) (by decide) (by decide)⟩,cV m (λk=>ent b 0 k),cV m (λk=>ent b 1 k),cV m (λk=>ent b 2 k),?_,?_,?_⟩<;>rw[tM m b (by decide) (by decide),fH h]
theorem tO{a b c p q r:Int}(ha:0<a)(hab:a<=b)(hp: -a<=p)(kW:p<=a)(hd:0<aC (lu (2*a) (2*b) (2*c) p q r)):cu (lu (2*a) (2*b) (2*c) p q r)=true:=by
 have h1:=Ot hp kW
 have h2:a*a<=a*b:=Int.mul_le_mul_of_nonneg_left hab (by omega)
 have h3:0<a*b:=Int.mul_pos ha (by omega)
 have h4:p*p<2*a*(2*b):=by
  have:2*a*(2*b)=4*(a*b):=by grind
  omega
 unfold cu
 rw[decide_eq_true hd,decide_eq_true (p:=0<ent (lu (2*a) (2*b) (2*c) p q r) 0 0) (by show 0<2*a;omega),decide_eq_true (p:=ent (lu (2*a) (2*b) (2*c) p q r) 0 1*ent (lu (2*a) (2*b) (2*c) p q r) 0 1<ent (lu (2*a) (2*b) (2*c) p q r) 0 0*ent (lu (2*a) (2*b) (2*c) p q r) 1 1) h4]
 rfl
section
variable{X:Cx}{sc:Scope}{N2:List Str}{x y:Str}{px CF tpos:Pos}{x1:Nat}{elt iter:Expr}{iP p pos:Pos}{wi:TI}{te:TE}{P:Addr}
end
mutual
inductive DV(H:Hp):V->PyData->Prop
 |fZ:DV H .fZ .none
 |bl(b:Bool):DV H (.bl b) (.bool b)
 |int(i:Int):DV H (.int i) (.int i)
 |str(x:Str):DV H (.str x) (.str x)
 |lst{a:Addr}{xs:List V}{ds:List PyData}:H a=some (.lst xs) ->yY H xs ds->DV H (.ref a) (.list ds)
 |tup{a:Addr}{xs:List V}{ds:List PyData}:H a=some (.tup xs) ->yY H xs ds->DV H (.ref a) (.tuple ds)
inductive yY(H:Hp):List V->List PyData->Prop
 |nil:yY H [] []
 |cons{x:V}{d:PyData}{xs:List V}{ds:List PyData}:DV H x d->yY H xs ds->yY H (x::xs) (d::ds)
end
mutual
theorem DV.same{H H':Hp}(s:av H H'):∀{x:V}{d:PyData},DV H x d->DV H' x d
 |_,_,.fZ=> .fZ
 |_,_,.bl b=> .bl b
 |_,_,.int i=> .int i
 |_,_,.str x=> .str x
 |_,_,.lst e q=> .lst (s _ _ e) (yY.same s q)
 |_,_,.tup e q=> .tup (s _ _ e) (yY.same s q)
theorem yY.same{H H':Hp}(s:av H H'):∀{xs:List V}{ds:List PyData},yY H xs ds->yY H' xs ds
 |_,_,.nil=> .nil
 |_,_,.cons a q=> .cons (DV.same s a) (yY.same s q)
end
theorem yY.length{H:Hp}:∀{xs:List V}{ds:List PyData},yY H xs ds->xs.length=ds.length
 |_,_,.nil=>rfl
 |_,_,.cons _ q=>congrArg (· +1) (yY.length q)
theorem yY.get{H:Hp}:∀{xs:List V}{ds:List PyData}{i:Nat}{x:V},yY H xs ds->xs[i]?=some x-> ∃d,ds[i]?=some d/\DV H x d
 |_,_,0,_,.cons a q,e=>by cases e;exact⟨_,rfl,a⟩
 |_,_,i+1,_,.cons a q,e=>yY.get (i:=i) q (by simpa using e)
theorem AI{J:It}{H1:Hp}{xs:List V}{σ:St}{te:TE}{Q:VK}(jw:JW J H1 xs)(hz:xs.length<=sizeLine){D:Addr}(hD:H1 D=none)(f:V->HO)
  (hs:∀x∈xs,∀H' (Q':VK),av H1 H'->(∀b H2,H' b=none->av H' H2->H2 b=some (f x) ->Q' (.ref b) H2) ->te (some x::σ) H' Q')
  (hq:∀bs H',av H1 H'->H' D=some (.lst (bs.map V.ref)) ->(∀b∈bs,H1 b=none) ->D∉bs->bs.Nodup->Paired (λx b=>H' b=some (f x)) xs bs->Q (.ref D) H'):
  j8 1 (cO 0) te σ J H1 D Q:=by
 refine oW jw hz hD (λpre acc H'=> ∃bs:List Addr,acc=bs.map V.ref/\(∀b∈bs,H1 b=none/\H' b≠none)/\D∉bs/\bs.Nodup/\Paired (λx b=>H' b=some (f x)) pre bs) ⟨[],rfl,λ_ h=>(nomatch h),by simp,List.nodup_nil,.nil⟩ (λpre x post acc H' Q' e hl sm eD p k=> ?_) (λacc H' hl sm eD p=> ?_)
 ·obtain⟨bs,rfl,fr,nD,nn,pr⟩:=p
  refine hs x (by rw[e];simp) H' _ sm λb H2 hb s2 eb=> ?_
  have nb:b≠D:=λz=>by rw[z,eD]at hb;cases hb
  refine k _ _ s2 ⟨bs++ [b],by simp,?_,?_,?_,?_⟩
  ·intro c hc
   rcases List.mem_append.mp hc with z|z
   ·refine⟨(fr c z).1,λy=> ?_⟩
    rw[aD (λw=>nD (by rw[<-w];exact z))]at y
    exact(fr c z).2 (s2.none y)
   ·rw[List.mem_singleton.mp z]
    refine⟨sm.none hb,λy=> ?_⟩
    rw[aD nb,eb]at y
    cases y
  ·intro z
   rcases List.mem_append.mp z with z|z
   ·exact nD z
   ·exact nb (List.mem_singleton.mp z).symm
  ·rw[List.nodup_append]
   refine⟨nn,by simp,λc hc d hd z=> ?_⟩
   rw[List.mem_singleton.mp hd]at z
   exact(fr c hc).2 (by rw[z];exact hb)
  ·refine Paired.snoc (pr.Ay λy c hc q=> ?_) (by rw[aD nb];exact eb)
   rw[aD (λz=>nD (by rw[<-z];exact hc))]
   exact s2 _ _ q
 ·obtain⟨bs,rfl,fr,nD,nn,pr⟩:=p
  exact hq bs H' sm eD (λb hb=>(fr b hb).1) nD nn pr
theorem Gw{K:PySem.W.Frag}{H:Hp}{t:Addr}{bs:List Addr}{m:List (List Int)}{σ:St}{Q:VK}(h:Tab H t bs m)(hz:m.length<=sizeLine){D:Addr}(hD:H D=none)
  (hq:∀bs' H',av H H'->(∀b∈bs',H b=none) ->D∉bs'->bs'.Nodup->Tab H' D bs' m->Q (.ref D) H'):j8 1 (cO 0) (MU (Cy K) (cJ (bK 0) jj)) σ (Iu K t) H D Q:=by
 refine AI (jX (aW.of h.1)) (by rw[List.length_map,<-h.2.length];exact hz) hD (λx=> .lst (itemsOf H id x)) (λx hx H' Q' sm k=> ?_) (λbs' H' sm eD fr nD nn pr=> ?_)
 ·obtain⟨b,rfl,hb⟩:=kL hx
  obtain⟨row,UK,eb⟩:=LR h.2 hb
  refine⟨_,rfl,b,_,rfl,.inl (aW.of (sm _ _ eb)),λl hl=>k l _ hl (av.up hl) ?_⟩
  rw[ao,q8 eb,List.map_id]
 ·refine hq bs' H' sm fr nD nn ⟨eD,?_⟩
  have:=vW (g:=id) h.2 pr λrow b e=>by rw[q8 e,List.map_id];rfl
  rwa [List.map_id]at this
section
variable{X:Cx}
theorem dH:ES X [] Kn:=⟨Iq⟩
end
theorem dI{X:Cx}{c:Expr}{a b:List Stmt}{tc:TT}{t u:TS}{pos:Pos}(hc:PT X c tc)(ha:ES X a t)(hb:ES X b u):PS X (.If c a b pos) (Nz tc t u):=NC hc ha.h hb.h
theorem Gx{J:It}{xs:List V}{H1:Hp}{σ:St}{te:TE}{Q:VK}{D:Addr}(jw:JW J H1 xs)(h3:xs.length=3)(hD:H1 D=none)(g:Nat->Nat->Int)
  (hs:∀i x,i<3->xs[i]?=some x-> ∀H' (Q':VK),av H1 H'->(∀b H2,H' b=none->av H' H2->H2 b=some (.lst [.int (g i 0),.int (g i 1),.int (g i 2)]) ->Q' (.ref b) H2) ->te (some x::σ) H' Q')
  (hq:∀bs H',av H1 H'->(∀b∈bs,H1 b=none) ->D∉bs->bs.Nodup->Tab H' D bs (mk3 g) ->Q (.ref D) H'):j8 1 (cO 0) te σ J H1 D Q:=by
 refine oW jw (by rw[h3];decide) hD (λpre acc H'=> ∃bs:List Addr,acc=bs.map V.ref/\(∀b∈bs,H1 b=none/\H' b≠none)/\D∉bs/\bs.Nodup/\Paired (λi b=>H' b=some (.lst [.int (g i 0),.int (g i 1),.int (g i 2)])) (List.range pre.length) bs) ⟨[],rfl,λ_ h=>(nomatch h),by simp,List.nodup_nil,.nil⟩ (λpre x post acc H' Q' e hl sm eD p k=> ?_) (λacc H' hl sm eD p=> ?_)
 ·obtain⟨bs,rfl,fr,nD,nn,pr⟩:=p
  have hlen:pre.length<3:=by
   have:=congrArg List.length e
   rw[h3]at this
   simp at this
   omega
  refine hs pre.length x hlen (by rw[e];simp) H' _ sm λb H2 hb s2 eb=> ?_
  have nb:b≠D:=λz=>by rw[z,eD]at hb;cases hb
  refine k _ _ s2 ⟨bs++ [b],by simp,?_,?_,?_,?_⟩
  ·intro c hc
   rcases List.mem_append.mp hc with z|z
   ·refine⟨(fr c z).1,λy=> ?_⟩
    rw[aD (λw=>nD (by rw[<-w];exact z))]at y
    exact(fr c z).2 (s2.none y)
   ·rw[List.mem_singleton.mp z]
    refine⟨sm.none hb,λy=> ?_⟩
    rw[aD nb,eb]at y
    cases y
  ·intro z
   rcases List.mem_append.mp z with z|z
   ·exact nD z
   ·exact nb (List.mem_singleton.mp z).symm
  ·rw[List.nodup_append]
   refine⟨nn,by simp,λc hc d hd z=> ?_⟩
   rw[List.mem_singleton.mp hd]at z
   exact(fr c hc).2 (by rw[z];exact hb)
  ·have er:List.range (pre++ [x]).length=List.range pre.length++ [pre.length]:=by simp[List.range_succ]
   rw[er]
   refine Paired.snoc (pr.Ay λy c hc q=> ?_) (by rw[aD nb];exact eb)
   rw[aD (λz=>nD (by rw[<-z];exact hc))]
   exact s2 _ _ q
 ·obtain⟨bs,rfl,fr,nD,nn,pr⟩:=p
  refine hq bs H' sm (λb hb=>(fr b hb).1) nD nn ⟨eD,?_⟩
  rw[h3]at pr
  have Rb:Paired (λi b=>H' b=some (.lst [.int (g i 0),.int (g i 1),.int (g i 2)])) [0,1,2] bs:=pr
  cases Rb with
  |cons h0 t0=>cases t0 with
   |cons h1 t1=>cases t1 with
    |cons h2 t2=>
     cases t2
     exact .cons h0 (.cons h1 (.cons h2 .nil))
theorem Gy{c:Bool}{K:St->Hp->Prop}{A:Prop}{σ:St}{H:Hp}(P:St->Hp->Prop)(hK:∀σ' H',P σ' H'->K σ' H')(hA:c=true->(∀σ' H',P σ' H'->K σ' H') ->A)(hB:P σ H):if c=true then A else K σ H:=by
 cases c with
 |true=>exact sW (hA rfl hK)
 |false=>exact nF (hK _ _ hB)
theorem yZ(elt target iter c:Expr)(scope:Scope)(pos:Pos)(it acc:Value)(env:Env):
  compTurn (.ListComp elt [⟨target,iter,[c],0⟩] scope pos) 0 it acc env=(standAt iter.pos>>=λ_=>pyNext it>>=λr=>match r with
   |none=>pure (.done .next)
   |some v=>letOwnedTupleGo target it v>>=λ_=>assign target env v>>=λ_=>
    (forIn [c] true λc r=>if r=true then(do let ok<-isTrue c env (eval c env);pure (ForInStep.yield ok))else pure (ForInStep.yield r))>>=λok=>
     if ok=true then(eval elt env>>=λx=>call (.builtin "list.append") [acc,x]>>=λ_=>pure ())>>=λ_=>again (.compLoop (.ListComp elt [⟨target,iter,[c],0⟩] scope pos) 0 it acc env)
     else again (.compLoop (.ListComp elt [⟨target,iter,[c],0⟩] scope pos) 0 it acc env)):=by rfl
section
variable{prog:Program}{w:World}{A:Around}{R:Result->Shared->Prop}{s:Shared}
theorem m9{elt target iter c:Expr}{scope:Scope}{pos:Pos}{it acc:Value}{env:Env}(I:Nat->Shared->Prop)
  (turn:∀n s,I n s->wpAny (model prog w) A (pyNext it) (λr s₁=>match r with
   |none=>R (.ok .next) s₁
   |some v=>wpAny (model prog w) A (letOwnedTupleGo target it v) (λ_ s₁'=>wpAny (model prog w) A (assign target env v) (λ_ s₂=>wpAny (model prog w) A (isTrue c env (eval c env)) (λok s₂'=>
     if ok=true then wpAny (model prog w) A (eval elt env) (λx s₃=>wpAny (model prog w) A (call (.builtin "list.append") [acc,x]) (λ_ s₄=> ∃m,m<n/\I m s₄) (λ_ _=>False) s₃) (λ_ _=>False) s₂'
     else ∃m,m<n/\I m s₂') (λ_ _=>False) s₂) (λ_ _=>False) s₁') (λ_ _=>False) s₁) (λ_ _=>False) s)
  (n:Nat)(h:I n s):
  codeAny (model prog w) A (.compLoop (.ListComp elt [⟨target,iter,[c],0⟩] scope pos) 0 it acc env) R s:=by
 refine codeAny_loop rfl I (λn s hI=> ?_) n h
 show wpAny _ _ ((compTurn (.ListComp elt [⟨target,iter,[c],0⟩] scope pos) 0 it acc env).onRaise (λx=>do noteFrame x env;theTreesLotGoes x)) _ _ s
 refine wpAny_noted ?_
 rw[yZ]
 refine wpAny_bind (wpAny_standAt (wpAny_bind (wpAny_mono (turn n s hI) (λr s₁ h₁=> ?_) λ_ _ h'=>h'.elim)))
 cases r with
 |none=>exact wpAny_pure h₁
 |some v=>
  refine wpAny_bind (wpAny_mono h₁ (λ_ s₁' h₁'=>wpAny_bind (wpAny_mono h₁' (λ_ s₂ h₂=> ?_) λ_ _ h'=>h'.elim)) λ_ _ h'=>h'.elim)
  refine wpAny_bind ?_
  simp only[List.forIn_cons,List.forIn_nil,if_true]
  refine wpAny_bind (wpAny_bind (wpAny_mono h₂ (λok s₂' h₂'=>wpAny_pure (wpAny_pure ?_)) λ_ _ h'=>h'.elim))
  cases ok with
  |true=>
   rw[if_pos rfl]at h₂'
   show wpAny _ _ _ _ _ _
   refine wpAny_bind (wpAny_bind (wpAny_mono h₂' (λx s₃ h₃=>wpAny_bind (wpAny_mono h₃ (λ_ s₄ h₄=>wpAny_pure (wpAny_pure ⟨rfl,h₄⟩)) λ_ _ h'=>h'.elim)) λ_ _ h'=>h'.elim))
  |false=>
   rw[if_neg Bool.false_ne_true]at h₂'
   exact wpAny_pure ⟨rfl,h₂'⟩
end
def CI(k:Nat)(g:TG)(tt:TT)(te:TE)(σ:St)(J:It)(H1:Hp)(D:Addr)(Q:VK):Prop:=∃W:Nat->Nat->List V->St->Hp->Prop,(∃m,W 0 m [] (List.replicate k none++σ) (upd H1 D (.lst [])))/\
 ∀i m acc σ' H',W i m acc σ' H'->(J.stop i H'/\H' D=some (.lst acc)/\Q (.ref D) H')∨
  (J.go i H'/\acc.length<sizeLine/\ ∀x H2,J.yt i H' x H2->g x σ' H2 λσ3 H3=>tt σ3 H3 λb H4=>if b=true then te σ3 H4 λv H5=>H5 D=some (.lst acc)/\ ∃m',m'<m/\W (i+1) m' (acc++ [v]) σ3 (upd H5 D (.lst (acc++ [v])))else ∃m',m'<m/\W (i+1) m' acc σ3 H4)
def AJ(k:Nat)(wi:TI)(g:TG)(tt:TT)(te:TE):TE:=λσ H Q=>wi σ H λJ H1=> ∀D,H1 D=none->CI k g tt te σ J H1 D Q
section
variable{X:Cx}{sc:Scope}{own N2:List Str}
theorem y9{elt iter tg c:Expr}{pos FD:Pos}{wi:TI}{g:TG}{tt:TT}{te:TE}{use:Option (Value->Sem Unit)}{Qf:Value->Shared->Prop}(hc:X.calm=true)(hi:PI X tg iter wi)(B:nI sc.names X.env.scope.names own N2 X.N)(hk:sc.kind= .function)
  (hg:∀s H fp,PG (X.comp sc (own++N2) s H fp) tg g)(ht:∀s H fp,PT (X.comp sc (own++N2) s H fp) c tt)(he:∀s H fp,PE (X.comp sc (own++N2) s H fp) elt te)
  (hs:∀x,foldedSetIterable iter X.env x=pure x){pins:List (Addr×Obj)}{s0:Shared}{σ:St}{H0:Hp}{Q:VK}(I0:Inv X pins σ H0 s0)(h0:AJ own.length wi g tt te σ H0 Q)
  (FF:∀s H fp,Inv X pins σ H s->(∀b∈fp,eV X pins H b) -> ∀(σ':St)(H':Hp)(s':Shared),Inv (X.comp sc (own++N2) s H fp) [] σ' H' s'->Q (.ref s.heap.objs.size) H'->
   compPost (model X.prog X.w) X.A X.xe use Qf (.ref s.heap.objs.size) (s.heap.objs.size+1) (.ok .next) s'):
  wpAny (model X.prog X.w) X.A (comprehension (.ListComp elt [⟨tg,iter,[c],0⟩] sc pos) sc X.env FD (newList []) false (eval iter X.env) use) Qf X.xe s0:=by
 refine wpAny_comprehension_free (use:=use) rfl hs (mW I0 B) hk (λy hy hl=>bZ B.nd (by rw[<-hl];exact hy)) ?_
 refine wpAny_mono (hi pins s0 σ H0 _ I0 h0) (λv s1 h1=>wpAny_mono h1 (λitv s h2=> ?_) λ_ _ e=>e) λ_ _ e=>e
 obtain⟨it,fp,tn,J,H,e,I,T,st,hf,rd⟩:=h2
 subst e
 have ho:∀b∈fp,∃o,s.heap.get? b=some o:=λb hb=>let⟨o,e,_⟩:=T.obj 0 _ st b hb;⟨o,e⟩
 obtain⟨W,⟨m0,w0⟩,turn⟩:=rd s.heap.objs.size I.fresh
 refine wpAny_newObj_type ?_
 refine gD ?_
 have IB:=tD I B hk hf ho
 have IT:∀{H':Hp},(∀b∈fp,H' b=none) -> ∀b∈fp,eV (X.comp sc (own++N2) s H fp) [] H' b:=λhn b hb=>by
  have ok:=IB.ok
  refine⟨hn b hb,(ok.Ig b hb).1,ok.yx b hb,.inl hb,λy c hc=>(ok.Ig b hb).2 y c hc,λp hp=> ?_⟩
  have kW:p∈([]:List (Addr×Obj)):=hp
  cases kW
 have lt:∀b∈fp,b≠s.heap.objs.size:=λb hb=>let⟨o,e⟩:=ho b hb;Nat.ne_of_lt (Heap.lt_size e)
 have fin:=FF s H fp I hf
 have loop:∀s3:Shared,s3={s with heap:=pushCells ((s.heap.push {cls:= .type "list",dict:=none,data:= .seq ([]:List Value).toArray}).push {cls:= .type "dict",data:= .dict #[]}) sc.names} ->
   codeAny (model X.prog X.w) X.A (.compLoop (.ListComp elt [⟨tg,iter,[c],0⟩] sc pos) 0 (.ref it) (.ref s.heap.objs.size) (X.comp sc (own++N2) s H fp).env)
    (compPost (model X.prog X.w) X.A X.xe use Qf (.ref s.heap.objs.size) (s.heap.objs.size+1)) s3:=by
  rintro s3 rfl
  refine m9 (λn s'=> ∃i acc σ' H',Inv (X.comp sc (own++N2) s H fp) [] σ' H' s'/\tn i s'.heap/\(∀b∈fp,H' b=none)/\W i n acc σ' H') ?_ m0
   ⟨0,[],_,_,IB,T.keep _ _ _ st λb _ o e=>pushCells_keeps _ _ b o (Heap.get?_push_of_some _ (Heap.get?_push_of_some _ e)),λb hb=> ?_,w0⟩
  ·rintro n s3 ⟨i,acc,σ3,H3,I3,st3,wX,w3⟩
   rcases turn i n acc σ3 H3 w3 with⟨stop,hD,qn⟩|⟨go,hz,step⟩
   ·refine fP (T.done (X.comp sc (own++N2) s H fp) rfl rfl rfl hc i [] s3 σ3 H3 _ I3 (IT wX) st3 stop) λr s4 ⟨hr,I4⟩=> ?_
    subst hr
    exact fin σ3 H3 s4 I4 qn
   ·refine fP (T.item (X.comp sc (own++N2) s H fp) rfl rfl rfl hc i [] s3 σ3 H3 _ I3 (IT wX) st3 go) λr s4 ⟨u,hr,h4⟩=> ?_
    subst hr
    refine fP h4 λ_ s5 ⟨x,H5,I5,r5,y5,yE,Ln⟩=> ?_
    have Lo:=I5.pinned (IT Ln) (T.obj _ _ yE)
    refine fP (hg s H fp _ s5 σ3 H5 x u _ Lo r5 (step x H5 y5)) λ_ s6 ⟨Ci,H6,I6,q6⟩=> ?_
    refine fP (ht s H fp _ s6 Ci H6 _ I6 q6) λok Rj ⟨Rk,LX,Jh⟩=> ?_
    cases ok with
    |false=>
     rw[if_neg Bool.false_ne_true]at Jh ⊢
     obtain⟨m',hm',w7⟩:=Jh
     refine⟨m',hm',i+1,acc,Ci,_,LX.iG,T.keep _ _ _ yE λb hb o e=>(LX.pin (b,o) (List.mem_append_right _ (List.mem_append_right _ (ck hb e)))).1,λb hb=> ?_,w7⟩
     obtain⟨o,e,d⟩:=T.obj _ _ yE b hb
     exact(LX.pin (b,o) (List.mem_append_right _ (List.mem_append_right _ (ck hb e)))).2.1
    |true=>
    rw[if_pos rfl]at Jh ⊢
    refine fP (he s H fp _ Rj Ci Rk _ LX Jh) λv s7 ⟨y,H7,I7,r7,NY,m',hm',w7⟩=> ?_
    refine fP (jo _ s7 Ci H7 (.ref s.heap.objs.size) [y] (.ref s.heap.objs.size) [v] (λz H8=>z= .fZ/\H8=upd H7 s.heap.objs.size (.lst (acc++ [y]))) I7 rfl (.cons r7 .nil) ⟨s.heap.objs.size,acc,y,rfl,rfl,NY,hz,rfl,rfl⟩) λz s8 ⟨zz,H8,I8,_,_,e8⟩=> ?_
    subst e8
    refine⟨m',hm',i+1,acc++ [y],Ci,_,I8.iG,T.keep _ _ _ yE λb hb o e=>(I8.pin (b,o) (List.mem_append_right _ (List.mem_append_right _ (ck hb e)))).1,λb hb=> ?_,w7⟩
    obtain⟨o,e,d⟩:=T.obj _ _ yE b hb
    exact(I8.pin (b,o) (List.mem_append_right _ (List.mem_append_right _ (ck hb e)))).2.1
  ·rw[aD (lt b hb)]
   exact(hf b hb).1
 have e1:(s.heap.push {cls:= .type "list",dict:=none,data:= .seq ([]:List Value).toArray}).objs.size=s.heap.objs.size+1:=Heap.size_push ..
 dsimp only
 rw[e1]
 exact codeAny_compStart_list (loop _ rfl) (T.self _ 0 _ _ _ (T.keep _ _ _ st λb _ o e=>pushCells_keeps _ _ b o (Heap.get?_push_of_some _ (Heap.get?_push_of_some _ e))) (loop _ rfl))
theorem DO{elt iter tg c:Expr}{pos:Pos}{wi:TI}{g:TG}{tt:TT}{te:TE}(hc:X.calm=true)(hi:PI X tg iter wi)(B:nI sc.names X.env.scope.names own N2 X.N)(hk:sc.kind= .function)
  (hg:∀s H fp,PG (X.comp sc (own++N2) s H fp) tg g)(ht:∀s H fp,PT (X.comp sc (own++N2) s H fp) c tt)(he:∀s H fp,PE (X.comp sc (own++N2) s H fp) elt te)
  (hs:∀x,foldedSetIterable iter X.env x=pure x:=by intro _;rfl):PE X (.ListComp elt [⟨tg,iter,[c],0⟩] sc pos) (AJ own.length wi g tt te):=by
 intro pins s0 σ H0 Q I0 h0
 rw[eval_ListComp]
 refine y9 (use:=none) hc hi B hk hg ht he hs I0 h0 λs H fp I hf σ' H' s' JB q=> ?_
 obtain⟨m,hn,_⟩:=JB.loc
 exact⟨m,hn,λh' sb=>⟨.ref s.heap.objs.size,H',I.Cs (I.xm hf JB) JB.free sb,rfl,q⟩⟩
end
section
variable{X:Cx}{sc:Scope}{N2:List Str}{x:Str}{px:Pos}{elt iter c:Expr}{pos:Pos}{wi:TI}{tt:TT}{te:TE}
theorem Ji(hc:X.calm=true)(hi:PI X (.Name x px) iter wi)(hB:xh sc.names X.env.scope.names [x] N2 X.N=true)(hk:sc.kind= .function)(ht:∀s H fp,PT (X.comp sc ([x]++N2) s H fp) c tt)(he:∀s H fp,PE (X.comp sc ([x]++N2) s H fp) elt te)
  (hs:∀x,foldedSetIterable iter X.env x=pure x:=by intro _;rfl):PE X (.ListComp elt [⟨.Name x px,iter,[c],0⟩] sc pos) (AJ 1 wi (cO 0) tt te):=
 DO (own:=[x]) hc hi (g9 hB) hk (λs H fp=>xr (g9 hB) s H fp) ht he hs
end
theorem zc{J:It}{H1:Hp}{xs:List V}{σ:St}{tt:TT}{te:TE}{Q:VK}(jw:JW J H1 xs)(hz:xs.length<=sizeLine){D:Addr}(hD:H1 D=none)(p:V->Bool)(f:V->V)
  (ht:∀x∈xs,∀H' (R:Bool->Hp->Prop),av H1 H'->(∀H2,av H' H2->R (p x) H2) ->tt (some x::σ) H' R)
  (hs:∀x∈xs,p x=true-> ∀H' (Q':VK),av H1 H'->(∀H2,av H' H2->Q' (f x) H2) ->te (some x::σ) H' Q')
  (hq:∀H',av H1 H'->H' D=some (.lst ((xs.filter p).map f)) ->Q (.ref D) H'):CI 1 (cO 0) tt te σ J H1 D Q:=by
 refine⟨λi m acc σ' H'=>m=xs.length-i/\i<=xs.length/\acc=((xs.take i).filter p).map f/\(∃o,σ'=o::σ)/\av H1 H'/\H' D=some (.lst acc),⟨xs.length,rfl,Nat.zero_le _,by simp,⟨none,rfl⟩,av.up hD,ao⟩,?_⟩
 rintro i m acc σ' H' ⟨rfl,hi,rfl,⟨o,rfl⟩,sm,eD⟩
 by_cases hlt:i<xs.length
 ·refine .inr ⟨jw.go i H' sm hlt,?_,λx H2 y=> ?_⟩
  ·rw[List.length_map]
   have:=List.length_filter_le p (xs.take i)
   rw[List.length_take]at this
   omega
  ·obtain⟨e2,ex⟩:=jw.yt i H' x H2 sm hlt y
   subst e2
   have hx:x∈xs:=List.mem_of_getElem? ex
   have tk:xs.take (i+1)=xs.take i++ [x]:=by rw[List.take_add_one,ex];rfl
   refine ht x hx H2 _ sm λH3 s3=> ?_
   cases hp:p x with
   |false=>
    rw[if_neg Bool.false_ne_true]
    exact⟨xs.length- (i+1),by omega,rfl,by omega,by rw[tk,List.filter_append];simp[hp],⟨_,rfl⟩,sm.trans s3,s3 _ _ eD⟩
   |true=>
    rw[if_pos rfl]
    refine hs x hx hp H3 _ (sm.trans s3) λH4 s4=>⟨s4 _ _ (s3 _ _ eD),xs.length- (i+1),by omega,rfl,by omega,by rw[tk,List.filter_append];simp[hp],⟨_,rfl⟩,((sm.trans s3).trans s4).upd hD,ao⟩
 ·obtain rfl:i=xs.length:=by omega
  rw[List.take_length]at eD ⊢
  exact .inl ⟨jw.stop H' sm,eD,hq H' sm eD⟩
end L2
namespace L2
theorem Rl{X:Cx}{e:PySem.Expr}{t:TT}(h:PT X e t):PT X e t:=h
end L2
namespace L2
open PySem PySem.Spec PyProof.Rows
def kN(H:Hp)(B:Addr):Prop:=∃g s:Int,H B=some (.lst [.int g,.int s])/\0<=g/\0<=s
def SB(B:Addr)(H H':Hp):Prop:=(∀a o,a≠B->H a=some o->H' a=some o)/\kN H' B
theorem SB.refl{B:Addr}{H:Hp}(h:kN H B):SB B H H:=⟨λ_ _ _ e=>e,h⟩
theorem SB.trans{B:Addr}{H H' Ox:Hp}(h:SB B H H')(h':SB B H' Ox):SB B H Ox:=⟨λa o n e=>h'.1 a o n (h.1 a o n e),h'.2⟩
theorem kN.same{H H':Hp}{B:Addr}(h:kN H B)(s:av H H'):kN H' B:=by
 obtain⟨g,t,e,r⟩:=h
 exact⟨g,t,s _ _ e,r⟩
theorem SB.of{B:Addr}{H H':Hp}(b:kN H B)(s:av H H'):SB B H H':=⟨λa o _ e=>s _ _ e,b.same s⟩
theorem SB.gone{B:Addr}{H H':Hp}(h:SB B H H'){r:Addr}(e:H' r=none):H r=none:=by
 cases q:H r with
 |none=>rfl
 |some o=>
  by_cases z:r=B
  ·obtain⟨g,t,e2,_⟩:=h.2
   rw[<-z,e]at e2
   cases e2
  ·rw[h.1 r o z q]at e
   cases e
theorem SB.ne{B:Addr}{H H':Hp}(h:SB B H H'){r:Addr}(e:H' r=none):r≠B:=λz=>by
 obtain⟨g,t,e2,_⟩:=h.2
 rw[<-z,e]at e2
 cases e2
theorem kN.ne{H:Hp}{B r:Addr}(h:kN H B)(e:H r=none):r≠B:=(SB.refl h).ne e
theorem Tab.sb{B:Addr}{H H':Hp}{t:Addr}{bs:List Addr}{m:List (List Int)}(h:Tab H t bs m)(s:SB B H H')(nt:t≠B)(nb:B∉bs):Tab H' t bs m:=
 ⟨s.1 _ _ nt h.1,h.2.Ay λr b hb e=>s.1 _ _ (λz=>nb (by rw[<-z];exact hb)) e⟩
theorem Gz{B:Addr}{H:Hp}{g s:Int}(hg:0<=g)(hs:0<=s):SB B H (upd H B (.lst [.int g,.int s])):=
 ⟨λa o n e=>by rw[aD n];exact e,g,s,ao,hg,hs⟩
end L2
namespace L2
theorem log2_small{z:Int}(h0:0<=z)(h:z<2^60):z.natAbs.log2<9000:=by
 by_cases hz:z.natAbs=0
 ·rw[hz];decide
 ·have:z.natAbs<2^60:=by omega
  exact Nat.lt_trans ((Nat.log2_lt hz).mpr this) (by decide)
end L2
namespace L2
open PySem PySem.Spec PyProof.Rows
theorem GA(m:List (List Int)){i j:Nat}(hi:i<3)(hj:j<3)(hij:i≠j):aC (vc (vc m i λs=>ent m j s) j λs=>0-ent m i s)=aC m:=by
 rw[dF,dF]
 simp only[cK _ _ (show 0<3 by decide) (show 0<3 by decide),cK _ _ (show 0<3 by decide) (show 1<3 by decide),cK _ _ (show 0<3 by decide) (show 2<3 by decide),cK _ _ (show 1<3 by decide) (show 0<3 by decide),cK _ _ (show 1<3 by decide) (show 1<3 by decide),cK _ _ (show 1<3 by decide) (show 2<3 by decide),cK _ _ (show 2<3 by decide) (show 0<3 by decide),cK _ _ (show 2<3 by decide) (show 1<3 by decide),cK _ _ (show 2<3 by decide) (show 2<3 by decide)]
 rcases bH hi with rfl|rfl|rfl<;>rcases bH hj with rfl|rfl|rfl<;>first|(exact absurd rfl hij)|(simp only[Nat.reduceEqDiff,if_true,if_false];grind)
theorem SB.LY{B D:Addr}{H H':Hp}{o:HO}(h:SB B H H')(f:H D=none)(n:D≠B):SB B H (upd H' D o):=by
 refine⟨λa u na e=> ?_,?_⟩
 ·rw[aD (λz=>by rw[z,f]at e;cases e)]
  exact h.1 a u na e
 ·obtain⟨g,s,e,r⟩:=h.2
  exact⟨g,s,by rw[aD (Ne.symm n)];exact e,r⟩
def aR(r:List Int):Nat->Int:=λi=>r.getD i 0
section
variable{X:Cx}{sc:Scope}{N2:List Str}{x y:Str}{px CF tpos:Pos}{x1:Nat}{elt iter:Expr}{iP p pos:Pos}{wi:TI}{te:TE}{P:Addr}
theorem Jj{B:Around}(hc:X.calm=true)(Bk:nI sc.names X.env.scope.names [x,y] N2 X.N)(hnc:∀y∈sc.names,y.2≠ .cell)(code:Value)(s:Shared)(H:Hp)(fp:List Addr):PG (X.gen B sc ([x,y]++N2) code s H fp) (.Tuple [.Name x px,.Name y CF] x1 tpos) (g2 X.K):=
 kY (X:=X.gen B sc ([x,y]++N2) code s H fp) hc (aG (CG (i:=0) Bk hnc rfl code s H fp) (aG (CG (i:=1) Bk hnc rfl code s H fp) dO))
theorem Jk(hc:X.calm=true)(hr:X.A.depth<recursionLimit)(cd:gc X.K X.env.code P)(bm:BM X.mg X.base)(FY:Gl X "sum")(hm:X.mg "sum"=none)(hi:PI X (.Tuple [.Name x px,.Name y CF] x1 tpos) iter wi)(hB:Gf sc X.env.scope.names [x,y] N2 X.N=true)
  (he:∀code s H fp,PE (X.gen X.A.in1.in1 sc ([x,y]++N2) code s H fp) elt te)
  (hs:∀x,genFold iter X.env x=pure x:=by intro _;rfl)(hst:starEach [.GeneratorExp elt [⟨.Tuple [.Name x px,.Name y CF] x1 tpos,iter,[],0⟩] sc iP] X.env=[(false,eval (.GeneratorExp elt [⟨.Tuple [.Name x px,.Name y CF] x1 tpos,iter,[],0⟩] sc iP) X.env)]:=by rfl):
  PE X (.Call (.Name "sum" p) [.GeneratorExp elt [⟨.Tuple [.Name x px,.Name y CF] x1 tpos,iter,[],0⟩] sc iP] [] pos) (yP 2 P wi (g2 X.K) te):=
 have K:=tG hc hr cd bm hB
 Cv (own:=[x,y]) K FY hm hi (λcode s H fp=>Jj hc K.Of K.nc code s H fp) he hs hst
end
theorem Jl{K:PySem.W.Frag}{H1:Hp}{a b:Addr}{xs ys:List V}{σ:St}{te:TE}{F:Nat->(Nat->V->Prop) ->(Nat->St->Hp->Prop) ->Prop}(ha:aW K H1 a xs)(hb:aW K H1 b ys)(hl:xs.length=ys.length)(R:Nat->V->Prop)
  (hs:∀(i:Nat) x y,xs[i]?=some x->ys[i]?=some y-> ∀H' (Q':VK),av H1 H'->(∀v H2,R i v->av H' H2->Q' v H2) ->te (some x::some y::σ) H' Q')
  (hF:F xs.length R (λ_ σ' H'=>(∃o o',σ'=o::o'::σ)/\av H1 H')):vV 2 (g2 K) te σ F (Oj K a b) H1:=by
 refine⟨xs.length,R,_,⟨⟨none,none,rfl⟩,av.refl _⟩,λi σ' H' hi w=> ?_,λσ' H' w=>⟨xs,ys,w.2.seq ha,w.2.seq hb,.inl (Nat.le_refl _)⟩,hF⟩
 obtain⟨⟨o,o',rfl⟩,sm⟩:=w
 have hi':i<ys.length:=by omega
 refine⟨⟨xs,ys,xs[i],ys[i],sm.seq ha,sm.seq hb,by simp[hi],by simp[hi']⟩,λv H2 yl=> ?_⟩
 obtain⟨T,x,y,rfl,hT,hx,hy,rfl⟩:=yl
 have ex:=hx xs (sm.seq ha)
 have ey:=hy ys (sm.seq hb)
 have s2:av H' (upd H' T (.tup [x,y])):=av.up hT
 refine⟨T,[x,y],rfl,m8.of ao,rfl,x,[y],rfl,y,[],rfl,rfl,?_⟩
 show te (some x::some y::σ) _ _
 exact hs i x y ex ey _ _ (sm.trans s2) λv H3 r s3=>⟨r,⟨_,_,rfl⟩,(sm.trans s2).trans s3⟩
theorem Jm{K:PySem.W.Frag}{H1:Hp}{a b:Addr}{xs ys:List V}{σ:St}{te:TE}{Q:VK}{P:Addr}(ha:aW K H1 a xs)(hb:aW K H1 b ys)(hl:xs.length=ys.length)(hP:H1 P=some (dW P))(val:Nat->Int)
  (hs:∀(i:Nat) x y,xs[i]?=some x->ys[i]?=some y-> ∀H' (Q':VK),av H1 H'->(∀H2,av H' H2->Q' (.int (val i)) H2) ->te (some x::some y::σ) H' Q')
  (hq:∀H',av H1 H'->Q (.int (preSum val xs.length)) H'):FU 2 P (g2 K) te σ (Oj K a b) H1 Q:=
 ⟨hP,Jl ha hb hl (λi v=>v= .int (val i)) (λi x y ex ey H' Q' sm k=>hs i x y ex ey H' Q' sm λH2 s2=>k _ _ rfl s2) ⟨val,λi v _ r=>r,λσ' H' w=>hq H' w.2⟩⟩
section
variable{X:Cx}{sc:Scope}{N2:List Str}{x:Str}{px:Pos}{elt iter:Expr}{iP p pos:Pos}{wi:TI}{te:TE}{P:Addr}
end
theorem GB{v:V}{r:List V}:yv (v::r) 0=some v:=gz (i:=0) rfl
theorem AK{K:PySem.W.Frag}{H:Hp}{a:Addr}{xs:List Int}(h:aW K H a (xs.map V.int)):yQ K H (.ref a) (gf xs):= .lst h (Gh xs)
theorem LZ{K:PySem.W.Frag}{H:Hp}{a b:Addr}{xs ys:List Int}{Q:VK}(ha:aW K H a (xs.map V.int))(hb:aW K H b (ys.map V.int))(q:Q (.bl (!decide (xs=ys))) H):Ga K true (.ref a) (.ref b) H Q:=
 ⟨gf xs,gf ys,AK ha,AK hb,nL _,nL _,by rw[rZ];exact q⟩
def rk(sel:Nat->Bool)(k:Nat):Nat:=(List.range k).countP sel
section
variable{X:Cx}{B:Around}{sc:Scope}{N':List Str}{code:Value}{sC:Shared}{HC:Hp}{fp Ss:List Addr}{tn:Nat->Heap->Prop}{N:Nat}{sel:Nat->Bool}{R:Nat->V->Prop}{W:St->Hp->Prop}
variable{elt iter tg c:Expr}{pos:Pos}{it:Addr}{J:It}{g:TG}{tt:TT}{te:TE}
end
section
variable{X:Cx}{sc:Scope}{own N2:List Str}{elt iter tg c:Expr}{pos:Pos}{wi:TI}{g:TG}{tt:TT}{te:TE}{P:Addr}
end
def mx(val:Nat->Int):Nat->Int
 |0=>val 0
 |k+1=>if val (k+1)>mx val k then val (k+1)else mx val k
section
variable{X:Cx}{sc:Scope}{N':List Str}{code:Value}{sC:Shared}{HC:Hp}{fp:List Addr}{tn:Nat->Heap->Prop}{cnt:Nat}{R:Nat->V->Prop}{W:Nat->St->Hp->Prop}{a S:Addr}{pins:List (Addr×Obj)}{σ:St}{Rr:Result->Shared->Prop}
end
section
variable{X:Cx}{sc:Scope}{N2:List Str}{x:Str}{px:Pos}{elt iter c:Expr}{iP p pos:Pos}{wi:TI}{tt:TT}{te:TE}{P:Addr}
end
def Jo(ifs:List Expr)(env:Env):Sem Bool:=forIn ifs true λc r=>if r=true then(do let ok<-isTrue c env (eval c env);pure (ForInStep.yield ok))else pure (ForInStep.yield r)
def Oz(elt:Expr)(acc:Value)(env:Env):Sem Unit:=eval elt env>>=λx=>call (.builtin "list.append") [acc,x]>>=λ_=>pure ()
section
variable{X:Cx}
def tP(X:Cx)(e elt:Expr)(gens:List Comprehension)(d:Nat)(acc:Value)(Post:Shared->Prop)(s:Shared):Prop:=
 match gens[d+1]? with
 |none=>wpAny (model X.prog X.w) X.A (eval elt X.env) (λx s₃=>wpAny (model X.prog X.w) X.A (call (.builtin "list.append") [acc,x]) (λ_ s₄=>Post s₄) (λ_ _=>False) s₃) (λ_ _=>False) s
 |some g'=>wpAny (model X.prog X.w) X.A (eval g'.iter X.env) (λx s₃=>wpAny (model X.prog X.w) X.A (pyIter x) (λy s₄=>codeAny (model X.prog X.w) X.A (.compStart e (d+1) y acc X.env) (λr s'=>r= .ok .next/\Post s') s₄) (λ_ _=>False) s₃) (λ_ _=>False) s
def OA(e:Expr)(d:Nat)(tg iter:Expr)(ifs:List Expr)(next:Sem Unit)(it acc:Value)(env:Env):Sem Fin:=standAt iter.pos>>=λ_=>pyNext it>>=λr=>match r with
 |none=>pure (.done .next)
 |some v=>letOwnedTupleGo tg it v>>=λ_=>assign tg env v>>=λ_=>Jo ifs env>>=λok=>if ok=true then next>>=λ_=>again (.compLoop e d it acc env)else again (.compLoop e d it acc env)
def OB(e:Expr)(d:Nat)(tg iter:Expr)(ifs:List Expr)(jA:Expr)(it acc:Value)(env:Env):Sem Fin:=standAt iter.pos>>=λ_=>pyNext it>>=λr=>match r with
 |none=>pure (.done .next)
 |some v=>letOwnedTupleGo tg it v>>=λ_=>assign tg env v>>=λ_=>Jo ifs env>>=λok=>if ok=true then(eval jA env>>=λx=>standAt jA.pos>>=λ_=>foldedSetIterable jA env x>>=λx=>holding [x] (pyIter x)>>=λy=>runOwn (.compStart e (d+1) y acc env) env>>=λ_=>again (.compLoop e d it acc env))else again (.compLoop e d it acc env)
theorem ve{elt tg iter:Expr}{ifs:List Expr}{gens:List Comprehension}{sc:Scope}{pos:Pos}{d:Nat}{it acc:Value}{env:Env}(h0:gens[d]?=some ⟨tg,iter,ifs,0⟩)(h1:gens[d+1]?=none):
  compTurn (.ListComp elt gens sc pos) d it acc env=OA (.ListComp elt gens sc pos) d tg iter ifs (Oz elt acc env) it acc env:=by
 unfold compTurn
 simp only[h0,h1]
 rfl
theorem vf{elt tg iter Og jA:Expr}{ifs OC:List Expr}{gens:List Comprehension}{sc:Scope}{pos:Pos}{d:Nat}{it acc:Value}{env:Env}(h0:gens[d]?=some ⟨tg,iter,ifs,0⟩)(h1:gens[d+1]?=some ⟨Og,jA,OC,0⟩):
  compTurn (.ListComp elt gens sc pos) d it acc env=OB (.ListComp elt gens sc pos) d tg iter ifs jA it acc env:=by
 unfold compTurn
 simp only[h0,h1]
 rfl
theorem pA{elt tg iter:Expr}{ifs:List Expr}{gens:List Comprehension}{sc:Scope}{pos:Pos}{d:Nat}{it acc:Value}{R:Result->Shared->Prop}{s:Shared}(h0:gens[d]?=some ⟨tg,iter,ifs,0⟩)
  (Jp:∀g',gens[d+1]?=some g'->g'.is_async=0/\ ∀x,foldedSetIterable g'.iter X.env x=pure x)(I:Nat->Shared->Prop)
  (turn:∀n s,I n s->wpAny (model X.prog X.w) X.A (pyNext it) (λr s₁=>match r with
   |none=>R (.ok .next) s₁
   |some v=>wpAny (model X.prog X.w) X.A (letOwnedTupleGo tg it v) (λ_ s₁'=>wpAny (model X.prog X.w) X.A (assign tg X.env v) (λ_ s₂=>wpAny (model X.prog X.w) X.A (Jo ifs X.env) (λok s₂'=>
     if ok=true then tP X (.ListComp elt gens sc pos) elt gens d acc (λs₄=> ∃m,m<n/\I m s₄) s₂' else ∃m,m<n/\I m s₂') (λ_ _=>False) s₂) (λ_ _=>False) s₁') (λ_ _=>False) s₁) (λ_ _=>False) s)
  (n:Nat)(h:I n s):codeAny (model X.prog X.w) X.A (.compLoop (.ListComp elt gens sc pos) d it acc X.env) R s:=by
 refine codeAny_loop rfl I (λn s hI=> ?_) n h
 show wpAny _ _ ((compTurn (.ListComp elt gens sc pos) d it acc X.env).onRaise (λx=>do noteFrame x X.env;theTreesLotGoes x)) _ _ s
 refine wpAny_noted ?_
 cases h1:gens[d+1]? with
 |none=>
  rw[ve h0 h1]
  refine wpAny_bind (wpAny_standAt (wpAny_bind (wpAny_mono (turn n s hI) (λr s₁ h₁=> ?_) λ_ _ h'=>h'.elim)))
  cases r with
  |none=>exact wpAny_pure h₁
  |some v=>
   refine wpAny_bind (wpAny_mono h₁ (λ_ s₁' h₁'=>wpAny_bind (wpAny_mono h₁' (λ_ s₂ h₂=> ?_) λ_ _ h'=>h'.elim)) λ_ _ h'=>h'.elim)
   refine wpAny_bind (wpAny_mono h₂ (λok s₂' h₂'=> ?_) λ_ _ h'=>h'.elim)
   cases ok with
   |true=>
    rw[if_pos rfl]at h₂' ⊢
    unfold tP at h₂'
    rw[h1]at h₂'
    exact wpAny_bind (wpAny_bind (wpAny_mono h₂' (λx s₃ h₃=>wpAny_bind (wpAny_mono h₃ (λ_ s₄ h₄=>wpAny_pure (wpAny_pure ⟨rfl,h₄⟩)) λ_ _ h'=>h'.elim)) λ_ _ h'=>h'.elim))
   |false=>
    rw[if_neg Bool.false_ne_true]at h₂' ⊢
    exact wpAny_pure ⟨rfl,h₂'⟩
 |some g'=>
  obtain⟨Og,jA,OC,k⟩:=g'
  obtain⟨hk,hs⟩:=Jp _ h1
  have hk':k=0:=hk
  subst hk'
  rw[vf h0 h1]
  refine wpAny_bind (wpAny_standAt (wpAny_bind (wpAny_mono (turn n s hI) (λr s₁ h₁=> ?_) λ_ _ h'=>h'.elim)))
  cases r with
  |none=>exact wpAny_pure h₁
  |some v=>
   refine wpAny_bind (wpAny_mono h₁ (λ_ s₁' h₁'=>wpAny_bind (wpAny_mono h₁' (λ_ s₂ h₂=> ?_) λ_ _ h'=>h'.elim)) λ_ _ h'=>h'.elim)
   refine wpAny_bind (wpAny_mono h₂ (λok s₂' h₂'=> ?_) λ_ _ h'=>h'.elim)
   cases ok with
   |true=>
    rw[if_pos rfl]at h₂' ⊢
    unfold tP at h₂'
    rw[h1]at h₂'
    refine wpAny_bind (wpAny_mono h₂' (λx s₃ h₃=> ?_) λ_ _ h'=>h'.elim)
    refine wpAny_bind (wpAny_standAt (wpAny_bind (wpAny_of_eq (hs x) ?_)))
    refine wpAny_bind (wpAny_holding (wpAny_mono h₃ (λy s₄ h₄=> ?_) λ_ _ h'=>h'.elim))
    refine wpAny_bind (wpAny_runOwn (h:=none) ?_)
    rw[Around.mark_none]
    refine codeAny_mono h₄ λr s' hr=> ?_
    obtain⟨rfl,hp⟩:=hr
    exact wpAny_pure ⟨rfl,hp⟩
   |false=>
    rw[if_neg Bool.false_ne_true]at h₂' ⊢
    exact wpAny_pure ⟨rfl,h₂'⟩
theorem nN{elt tg iter:Expr}{ifs:List Expr}{gens:List Comprehension}{sc:Scope}{pos:Pos}{d:Nat}{it acc:Value}{R:Result->Shared->Prop}{s:Shared}(hg:gens[d]?=some ⟨tg,iter,ifs,0⟩)
  (h0:codeAny (model X.prog X.w) X.A (.compLoop (.ListComp elt gens sc pos) d it acc X.env) R s)
  (h:wpAny (model X.prog X.w) X.A (pyIter it) (λit' s'=>codeAny (model X.prog X.w) X.A (.compLoop (.ListComp elt gens sc pos) d it' acc X.env) R s') (λ_ _=>False) s):
  codeAny (model X.prog X.w) X.A (.compStart (.ListComp elt gens sc pos) d it acc X.env) R s:=by
 refine codeAny_of_tree ?_
 show wpAny _ _ ((compStart (.ListComp elt gens sc pos) d it acc X.env).onRaise (λx=>do noteFrame x X.env;standAt theWindowsPlace)) _ _ s
 refine wpAny_notedAt ?_
 unfold compStart
 have e1:(clausesOf (.ListComp elt gens sc pos))[d]?=some ⟨tg,iter,ifs,0⟩:=hg
 simp only[e1]
 show wpAny _ _ (ask>>=_) _ _ s
 refine wpAny_bind (wpAny_askSetting (wpAny_ite ?_))
 split
 ·first
   |exact wpAny_bind (wpAny_pure (wpAny_pure (And.intro rfl h0)))
   |exact wpAny_pure (And.intro rfl h0)
 ·first
   |exact wpAny_bind (wpAny_rule (wpAny_bind (wpAny_standAt (wpAny_bind (wpAny_mono h (λit' s' h'=>wpAny_pure (And.intro rfl h')) λ_ _ x=>x.elim)))))
   |(refine wpAny_bind (wpAny_rule ?_);show wpAny _ _ (standAt iter.pos>>=_) _ _ s;exact wpAny_bind (wpAny_standAt (wpAny_bind (wpAny_mono h (λit' s' h'=>wpAny_pure (And.intro rfl h')) λ_ _ x=>x.elim))))
def OD(X:Cx)(ifs:List Expr)(tt:TT):Prop:=∀pins s σ H Q,Inv X pins σ H s->tt σ H Q->wpAny (model X.prog X.w) X.A (Jo ifs X.env) (λb s'=> ∃H',Inv X pins σ H' s'/\Q b H') X.xe s
def GC:TT:=λ_ H Q=>Q true H
theorem CJ:OD X [] GC:=λpins s σ H Q I h=>wpAny_pure ⟨H,I,h⟩
abbrev TB:=St->Hp->(St->Hp->Prop) ->Prop
def PN(X:Cx)(e elt:Expr)(gens:List Comprehension)(d:Nat)(D:Addr)(b:TB):Prop:=∀pins s σ H K,Inv X pins σ H s->b σ H K->tP X e elt gens d (.ref D) (λs'=> ∃σ' H',Inv X pins σ' H' s'/\K σ' H') s
def GD(te:TE)(D:Addr):TB:=λσ H K=>te σ H λv H'=> ∃acc,H' D=some (.lst acc)/\acc.length<sizeLine/\K σ (upd H' D (.lst (acc++ [v])))
theorem Jq{e elt:Expr}{gens:List Comprehension}{d:Nat}{D:Addr}{te:TE}(hx:∀v s,X.xe v s->False)(h1:gens[d+1]?=none)(he:PE X elt te):PN X e elt gens d D (GD te D):=by
 intro pins s σ H K I h
 unfold tP
 rw[h1]
 refine wpAny_mono (he pins s σ H _ I h) (λv s7 ⟨y,H7,I7,r7,acc,NY,hz,k7⟩=> ?_) λ_ _ z=>(hx _ _ z).elim
 refine wpAny_mono (jo _ s7 σ H7 (.ref D) [y] (.ref D) [v] (λz H8=>z= .fZ/\H8=upd H7 D (.lst (acc++ [y]))) I7 rfl (.cons r7 .nil) ⟨D,acc,y,rfl,rfl,NY,hz,rfl,rfl⟩) (λz s8 ⟨zz,H8,I8,_,_,e8⟩=> ?_) λ_ _ z=>(hx _ _ z).elim
 subst e8
 exact⟨_,_,I8,k7⟩
def AL(J:It)(g:TG)(tt:TT)(b:TB)(σ:St)(H1:Hp)(K:St->Hp->Prop):Prop:=∃W:Nat->Nat->St->Hp->Prop,(∃m,W 0 m σ H1)/\ ∀i m σ' H',W i m σ' H'->
 (J.stop i H'/\K σ' H')∨(J.go i H'/\ ∀x H2,J.yt i H' x H2->g x σ' H2 λσ3 H3=>tt σ3 H3 λok H4=>if ok=true then b σ3 H4 (λUL H5=> ∃m',m'<m/\W (i+1) m' UL H5)else ∃m',m'<m/\W (i+1) m' σ3 H4)
def xD(wi:TI)(g:TG)(tt:TT)(b:TB):TB:=λσ H K=>wi σ H λJ H1=>AL J g tt b σ H1 K
theorem q9{elt tg iter:Expr}{ifs:List Expr}{gens:List Comprehension}{sc:Scope}{pos:Pos}{d:Nat}{D it:Addr}{fp:List Addr}{tn:Nat->Heap->Prop}{J:It}{g:TG}{tt:TT}{b:TB}{pins:List (Addr×Obj)}{σ:St}{H:Hp}{s:Shared}{R:Result->Shared->Prop}{K:St->Hp->Prop}
  (hx:∀v s,X.xe v s->False)(hc:X.calm=true)(h0:gens[d]?=some ⟨tg,iter,ifs,0⟩)(Jp:∀g',gens[d+1]?=some g'->g'.is_async=0/\ ∀x,foldedSetIterable g'.iter X.env x=pure x)
  (T:Turn X.prog X.w X.K tg J fp it tn)(hg:PG X tg g)(ht:OD X ifs tt)(hb:PN X (.ListComp elt gens sc pos) elt gens d D b)
  (wW:∀{H':Hp},(∀b∈fp,H' b=none) -> ∀b∈fp,eV X pins H' b)(I:Inv X pins σ H s)(st:tn 0 s.heap)(fr:∀b∈fp,H b=none)(lp:AL J g tt b σ H K)(hR:∀σ' H' s',Inv X pins σ' H' s'->K σ' H'->R (.ok .next) s'):
  codeAny (model X.prog X.w) X.A (.compLoop (.ListComp elt gens sc pos) d (.ref it) (.ref D) X.env) R s:=by
 obtain⟨W,⟨m0,w0⟩,turn⟩:=lp
 refine pA h0 Jp (λn s'=> ∃i σ' H',Inv X pins σ' H' s'/\tn i s'.heap/\(∀b∈fp,H' b=none)/\W i n σ' H') ?_ m0 ⟨0,σ,H,I,st,fr,w0⟩
 rintro n s3 ⟨i,σ3,H3,I3,st3,wX,w3⟩
 rcases turn i n σ3 H3 w3 with⟨stop,qn⟩|⟨go,step⟩
 ·refine wpAny_mono (T.done X rfl rfl rfl hc i pins s3 σ3 H3 X.xe I3 (wW wX) st3 stop) (λr s4 ⟨hr,I4⟩=> ?_) λ_ _ z=>(hx _ _ z).elim
  subst hr
  exact hR _ _ _ I4 qn
 ·refine wpAny_mono (T.item X rfl rfl rfl hc i pins s3 σ3 H3 X.xe I3 (wW wX) st3 go) (λr s4 ⟨u,hr,h4⟩=> ?_) λ_ _ z=>(hx _ _ z).elim
  subst hr
  refine wpAny_mono h4 (λ_ s5 ⟨x,H5,I5,r5,y5,yE,Ln⟩=> ?_) λ_ _ z=>(hx _ _ z).elim
  have Lo:=I5.pinned (wW Ln) (T.obj _ _ yE)
  refine wpAny_mono (hg _ s5 σ3 H5 x u _ Lo r5 (step x H5 y5)) (λ_ s6 ⟨Ci,H6,I6,q6⟩=> ?_) λ_ _ z=>(hx _ _ z).elim
  have back:∀{yu:St}{H7:Hp}{s7:Shared},Inv X (pins++cQ fp s5.heap) yu H7 s7->(∃m',m'<n/\W (i+1) m' yu H7) -> ∃m,m<n/\ ∃i σ' H',Inv X pins σ' H' s7/\tn i s7.heap/\(∀b∈fp,H' b=none)/\W i m σ' H':=λ {yu H7 s7} I7 ⟨m',hm,w7⟩=>by
   refine⟨m',hm,i+1,yu,H7,I7.iG,T.keep _ _ _ yE λb hb o e=>(I7.pin (b,o) (List.mem_append_right _ (List.mem_append_right _ (ck hb e)))).1,λb hb=> ?_,w7⟩
   obtain⟨o,e,dd⟩:=T.obj _ _ yE b hb
   exact(I7.pin (b,o) (List.mem_append_right _ (List.mem_append_right _ (ck hb e)))).2.1
  refine wpAny_mono (ht _ s6 Ci H6 _ I6 q6) (λok Rj ⟨Rk,LX,Jh⟩=> ?_) λ_ _ z=>(hx _ _ z).elim
  cases ok with
  |false=>
   rw[if_neg Bool.false_ne_true]at Jh ⊢
   exact back LX Jh
  |true=>
   rw[if_pos rfl]at Jh ⊢
   have nx:=hb _ Rj Ci Rk _ LX Jh
   unfold tP at nx ⊢
   cases h1:gens[d+1]? with
   |none=>
    rw[h1]at nx
    exact wpAny_mono nx (λx s₃ h₃=>wpAny_mono h₃ (λ_ s₄ ⟨yu,H7,I7,w7⟩=>back I7 w7) λ_ _ z=>z) λ_ _ z=>z
   |some g'=>
    rw[h1]at nx
    exact wpAny_mono nx (λx s₃ h₃=>wpAny_mono h₃ (λy s₄ h₄=>codeAny_mono h₄ λr s' ⟨hr,yu,H7,I7,w7⟩=>⟨hr,back I7 w7⟩) λ_ _ z=>z) λ_ _ z=>z
theorem DP{elt tg iter:Expr}{ifs:List Expr}{gens:List Comprehension}{sc:Scope}{pos:Pos}{d:Nat}{D:Addr}{wi:TI}{g:TG}{tt:TT}{b:TB}(hx:∀v s,X.xe v s->False)(hc:X.calm=true)(h1:gens[d+1]?=some ⟨tg,iter,ifs,0⟩)
  (Jp:∀g',gens[d+1+1]?=some g'->g'.is_async=0/\ ∀x,foldedSetIterable g'.iter X.env x=pure x)(hi:PI X tg iter wi)(hg:PG X tg g)(ht:OD X ifs tt)(hb:PN X (.ListComp elt gens sc pos) elt gens (d+1) D b):
  PN X (.ListComp elt gens sc pos) elt gens d D (xD wi g tt b):=by
 intro pins s σ H K I h
 unfold tP
 rw[h1]
 refine wpAny_mono (hi pins s σ H _ I h) (λv s1 Rc=>wpAny_mono Rc (λitv s2 h2=> ?_) λ_ _ z=>(hx _ _ z).elim) λ_ _ z=>(hx _ _ z).elim
 obtain⟨it,fp,tn,J,H2,e,I2,T,st2,f2,lp⟩:=h2
 subst e
 have wW:∀{H':Hp},(∀b∈fp,H' b=none) -> ∀b∈fp,eV X pins H' b:=λhn b hb=>⟨hn b hb,(f2 b hb).2⟩
 have loop:=q9 (elt:=elt) (sc:=sc) (pos:=pos) (R:=λr s'=>r= .ok .next/\ ∃σ' H',Inv X pins σ' H' s'/\K σ' H') hx hc h1 Jp T hg ht hb wW I2 st2 (λb hb=>(f2 b hb).1) lp (λσ' H' s' I' k=>⟨rfl,σ',H',I',k⟩)
 exact nN h1 loop (T.self _ 0 _ _ _ st2 loop)
end
def xE(k:Nat)(g:TG)(tt:TT)(b:Addr->TB)(σ:St)(J:It)(H1:Hp)(D:Addr)(Q:VK):Prop:=AL J g tt (b D) (List.replicate k none++σ) (upd H1 D (.lst [])) (λ_ H'=>Q (.ref D) H')
def AM(k:Nat)(wi:TI)(g:TG)(tt:TT)(b:Addr->TB):TE:=λσ H Q=>wi σ H λJ H1=> ∀D,H1 D=none->xE k g tt b σ J H1 D Q
section
variable{X:Cx}{sc:Scope}{own N2:List Str}
theorem zd{elt iter tg:Expr}{ifs:List Expr}{cls:List Comprehension}{pos FD:Pos}{wi:TI}{g:TG}{tt:TT}{b:Addr->TB}{use:Option (Value->Sem Unit)}{Qf:Value->Shared->Prop}(hc:X.calm=true)(hi:PI X tg iter wi)(B:nI sc.names X.env.scope.names own N2 X.N)(hk:sc.kind= .function)
  (hg:∀s H fp,PG (X.comp sc (own++N2) s H fp) tg g)(ht:∀s H fp,OD (X.comp sc (own++N2) s H fp) ifs tt)(hb:∀s H fp D,PN (X.comp sc (own++N2) s H fp) (.ListComp elt (⟨tg,iter,ifs,0⟩::cls) sc pos) elt (⟨tg,iter,ifs,0⟩::cls) 0 D (b D))
  (Jp:∀s H fp g',(⟨tg,iter,ifs,0⟩::cls:List Comprehension)[0+1]?=some g'->g'.is_async=0/\ ∀x,foldedSetIterable g'.iter (X.comp sc (own++N2) s H fp).env x=pure x)
  (hs:∀x,foldedSetIterable iter X.env x=pure x){pins:List (Addr×Obj)}{s0:Shared}{σ:St}{H0:Hp}{Q:VK}(I0:Inv X pins σ H0 s0)(h0:AM own.length wi g tt b σ H0 Q)
  (FF:∀s H fp,Inv X pins σ H s->(∀b∈fp,eV X pins H b) -> ∀(σ':St)(H':Hp)(s':Shared),Inv (X.comp sc (own++N2) s H fp) [] σ' H' s'->Q (.ref s.heap.objs.size) H'->
   compPost (model X.prog X.w) X.A X.xe use Qf (.ref s.heap.objs.size) (s.heap.objs.size+1) (.ok .next) s'):
  wpAny (model X.prog X.w) X.A (comprehension (.ListComp elt (⟨tg,iter,ifs,0⟩::cls) sc pos) sc X.env FD (newList []) false (eval iter X.env) use) Qf X.xe s0:=by
 refine wpAny_comprehension_free (use:=use) rfl hs (mW I0 B) hk (λy hy hl=>bZ B.nd (by rw[<-hl];exact hy)) ?_
 refine wpAny_mono (hi pins s0 σ H0 _ I0 h0) (λv s1 h1=>wpAny_mono h1 (λitv s h2=> ?_) λ_ _ e=>e) λ_ _ e=>e
 obtain⟨it,fp,tn,J,H,e,I,T,st,hf,rd⟩:=h2
 subst e
 have ho:∀b∈fp,∃o,s.heap.get? b=some o:=λb hb=>let⟨o,e,_⟩:=T.obj 0 _ st b hb;⟨o,e⟩
 have lp:=rd s.heap.objs.size I.fresh
 unfold xE at lp
 refine wpAny_newObj_type ?_
 refine gD ?_
 have IB:=tD I B hk hf ho
 have IT:∀{H':Hp},(∀b∈fp,H' b=none) -> ∀b∈fp,eV (X.comp sc (own++N2) s H fp) [] H' b:=λhn b hb=>by
  have ok:=IB.ok
  refine⟨hn b hb,(ok.Ig b hb).1,ok.yx b hb,.inl hb,λy c hc=>(ok.Ig b hb).2 y c hc,λp hp=> ?_⟩
  have kW:p∈([]:List (Addr×Obj)):=hp
  cases kW
 have lt:∀b∈fp,b≠s.heap.objs.size:=λb hb=>let⟨o,e⟩:=ho b hb;Nat.ne_of_lt (Heap.lt_size e)
 have fin:=FF s H fp I hf
 have loop:∀s3:Shared,s3={s with heap:=pushCells ((s.heap.push {cls:= .type "list",dict:=none,data:= .seq ([]:List Value).toArray}).push {cls:= .type "dict",data:= .dict #[]}) sc.names} ->
   codeAny (model X.prog X.w) X.A (.compLoop (.ListComp elt (⟨tg,iter,ifs,0⟩::cls) sc pos) 0 (.ref it) (.ref s.heap.objs.size) (X.comp sc (own++N2) s H fp).env)
    (compPost (model X.prog X.w) X.A X.xe use Qf (.ref s.heap.objs.size) (s.heap.objs.size+1)) s3:=by
  rintro s3 rfl
  refine q9 (X:=X.comp sc (own++N2) s H fp) (λ_ _ z=>z) hc rfl (Jp s H fp) T (hg s H fp) (ht s H fp) (hb s H fp s.heap.objs.size) IT IB (T.keep _ _ _ st λb _ o e=>pushCells_keeps _ _ b o (Heap.get?_push_of_some _ (Heap.get?_push_of_some _ e))) (λb hb=> ?_) lp (λσ' H' s' I' k=>fin σ' H' s' I' k)
  rw[aD (lt b hb)]
  exact(hf b hb).1
 have e1:(s.heap.push {cls:= .type "list",dict:=none,data:= .seq ([]:List Value).toArray}).objs.size=s.heap.objs.size+1:=Heap.size_push ..
 dsimp only
 rw[e1]
 exact codeAny_compStart_list (loop _ rfl) (T.self _ 0 _ _ _ (T.keep _ _ _ st λb _ o e=>pushCells_keeps _ _ b o (Heap.get?_push_of_some _ (Heap.get?_push_of_some _ e))) (loop _ rfl))
theorem DQ{elt iter tg:Expr}{ifs:List Expr}{cls:List Comprehension}{pos:Pos}{wi:TI}{g:TG}{tt:TT}{b:Addr->TB}(hc:X.calm=true)(hi:PI X tg iter wi)(B:nI sc.names X.env.scope.names own N2 X.N)(hk:sc.kind= .function)
  (hg:∀s H fp,PG (X.comp sc (own++N2) s H fp) tg g)(ht:∀s H fp,OD (X.comp sc (own++N2) s H fp) ifs tt)(hb:∀s H fp D,PN (X.comp sc (own++N2) s H fp) (.ListComp elt (⟨tg,iter,ifs,0⟩::cls) sc pos) elt (⟨tg,iter,ifs,0⟩::cls) 0 D (b D))
  (Jp:∀s H fp g',(⟨tg,iter,ifs,0⟩::cls:List Comprehension)[0+1]?=some g'->g'.is_async=0/\ ∀x,foldedSetIterable g'.iter (X.comp sc (own++N2) s H fp).env x=pure x)
  (hs:∀x,foldedSetIterable iter X.env x=pure x:=by intro _;rfl):PE X (.ListComp elt (⟨tg,iter,ifs,0⟩::cls) sc pos) (AM own.length wi g tt b):=by
 intro pins s0 σ H0 Q I0 h0
 rw[eval_ListComp]
 refine zd (use:=none) hc hi B hk hg ht hb Jp hs I0 h0 λs H fp I hf σ' H' s' JB q=> ?_
 obtain⟨m,hn,_⟩:=JB.loc
 exact⟨m,hn,λh' sb=>⟨.ref s.heap.objs.size,H',I.Cs (I.xm hf JB) JB.free sb,rfl,q⟩⟩
variable{x y:Str}{px CF:Pos}{elt iter jA:Expr}{pos:Pos}{wi FZ:TI}{te:TE}
theorem Jr(hc:X.calm=true)(hi:PI X (.Name x px) iter wi)(hB:xh sc.names X.env.scope.names [x,y] N2 X.N=true)(hk:sc.kind= .function)(hi2:∀s H fp,PI (X.comp sc ([x,y]++N2) s H fp) (.Name y CF) jA FZ)(he:∀s H fp,PE (X.comp sc ([x,y]++N2) s H fp) elt te)
  (hs2:∀s H fp z,foldedSetIterable jA (X.comp sc ([x,y]++N2) s H fp).env z=pure z:=by intro _ _ _ _;rfl)(hs:∀x,foldedSetIterable iter X.env x=pure x:=by intro _;rfl):
  PE X (.ListComp elt [⟨.Name x px,iter,[],0⟩,⟨.Name y CF,jA,[],0⟩] sc pos) (AM 2 wi (cO 0) GC λD=>xD FZ (cO 1) GC (GD te D)):=
 DQ (own:=[x,y]) hc hi (g9 hB) hk (λs H fp=>pq (i:=0) (g9 hB) rfl s H fp) (λs H fp=>CJ)
  (λs H fp D=>DP (X:=X.comp sc ([x,y]++N2) s H fp) (λ_ _ z=>z) hc rfl (λg' h=>by cases h) (hi2 s H fp) (pq (i:=1) (g9 hB) rfl s H fp) CJ (Jq (X:=X.comp sc ([x,y]++N2) s H fp) (λ_ _ z=>z) rfl (he s H fp)))
  (λs H fp g' h=>by cases h;exact⟨rfl,hs2 s H fp⟩) hs
end
section
variable{X:Cx}
end
def MX(i:Nat)(z:Int):Nat->Int:=λj=>if j=i then z else 0
theorem kO{m:List (List Int)}(h:cH m)(x y:Nat->Int):ay m x y=ay m y x:=by
 obtain⟨⟨s1,s2,s3⟩,_⟩:=h
 rw[bC,bC,s1,s2,s3]
 grind
theorem gi{m:List (List Int)}{x y x' y':Nat->Int}(h:∀i,i<3->x i=x' i)(k:∀i,i<3->y i=y' i):ay m x y=ay m x' y':=by
 rw[bC,bC,h 0 (by decide),h 1 (by decide),h 2 (by decide),k 0 (by decide),k 1 (by decide),k 2 (by decide)]
def In(M:(Nat->Int) ->Prop)(L:List (List Int)):Prop:=∀r∈L,M (aR r)
end L2
namespace xF
open PySem PyProof.Rows
def Js:Bool->Keyed->Array Keyed->Nat->Nat->Nat->StateT SortSt Sem (Option Nat):=sortPriv%PySem.Builtin.gallop
def Rm:Array Keyed->Array Keyed->StateT SortSt Sem (Array Keyed):=sortPriv%PySem.Builtin.mergeLo
def Rn:Array Keyed->Array Keyed->StateT SortSt Sem (Array Keyed):=sortPriv%PySem.Builtin.mergeHi
def OE:Nat->StateT SortSt Sem Unit:=sortPriv%PySem.Builtin.setMinGallop
def SH(lf:Bool)(ky:Keyed)(ar:Array Keyed)(b0 i:Nat):StateT SortSt Sem (Option Bool):=do
 let x<-elem' ar (b0+i)
 if lf then lt' x ky else return(<-lt' ky x).map (!·)
abbrev GS:=Option (Option Nat)×Nat×Nat
def Pz(bd:Nat->StateT SortSt Sem (Option Bool))(n h mx:Nat):StateT SortSt Sem GS:=
 forIn [:n] ((none,0,1):GS) λ_ c=>
  if c.2.2≥mx then pure (ForInStep.done (none,c.2.1,c.2.2))else do
   let r<-bd (h+c.2.2)
   match r with
   |some more=>if(!more)=true then pure (ForInStep.done (none,c.2.1,c.2.2))else pure (ForInStep.yield (none,c.2.2,2*c.2.2+1))
   |_=>pure (ForInStep.done (some none,c.2.1,c.2.2))
def PB(bd:Nat->StateT SortSt Sem (Option Bool))(n h mx:Nat):StateT SortSt Sem GS:=
 forIn [:n] ((none,0,1):GS) λ_ c=>
  if c.2.2≥mx then pure (ForInStep.done (none,c.2.1,c.2.2))else do
   let r<-bd (h-c.2.2)
   match r with
   |some f=>if f=true then pure (ForInStep.done (none,c.2.1,c.2.2))else pure (ForInStep.yield (none,c.2.2,2*c.2.2+1))
   |_=>pure (ForInStep.done (some none,c.2.1,c.2.2))
def OF(bd:Nat->StateT SortSt Sem (Option Bool))(n lo hi:Nat):StateT SortSt Sem (Option Nat):=do
 let c<-forIn [:n] ((none,lo,hi):GS) λ_ c=>
  if c.2.1≥c.2.2 then pure (ForInStep.done (none,c.2.1,c.2.2))else do
   let r<-bd (c.2.1+(c.2.2-c.2.1)/2)
   match r with
   |some more=>if more=true then pure (ForInStep.yield (none,c.2.1+(c.2.2-c.2.1)/2+1,c.2.2))else pure (ForInStep.yield (none,c.2.1,c.2.1+(c.2.2-c.2.1)/2))
   |_=>pure (ForInStep.done (some none,c.2.1,c.2.2))
 match c.1 with
 |some r=>pure r
 |none=>pure (some c.2.2)
def Jt(bd:Nat->StateT SortSt Sem (Option Bool))(n h:Nat):StateT SortSt Sem (Option Nat):=do
 let r<-bd h
 match r with
 |some right=>
  if right=true then do
   let c<-Pz bd n h (n-h)
   match c.1 with
   |some r=>pure r
   |none=>OF bd n (h+c.2.1+1) (h+min c.2.2 (n-h))
  else do
   let c<-PB bd n h (h+1)
   match c.1 with
   |some r=>pure r
   |none=>OF bd n (h+1-min c.2.2 (h+1)) (h-c.2.1)
 |_=>pure none
theorem Ma(lf:Bool)(ky:Keyed)(ar:Array Keyed)(b0 n h:Nat):Js lf ky ar b0 n h=(do
 let bd (i:Nat):StateT SortSt Sem (Option Bool):=do
  let x<-elem' ar (b0+i)
  if lf then lt' x ky else return(<-lt' ky x).map (!·)
 let mut l:=0
 let mut o:=1
 let mut u:=0
 let mut v:=0
 let some r<-bd h|return none
 if r then
  let mx:=n-h
  for _ in [0:n] do
   if o≥mx then break
   let some m<-bd (h+o)|return none
   if !m then break
   l:=o
   o:=2*o+1
  u:=h+l+1
  v:=h+min o mx
 else
  let mx:=h+1
  for _ in [0:n] do
   if o≥mx then break
   let some m<-bd (h-o)|return none
   if m then break
   l:=o
   o:=2*o+1
  u:=h+1-min o mx
  v:=h-l
 for _ in [0:n] do
  if u≥v then break
  let q:=u+(v-u)/2
  let some m<-bd q|return none
  if m then u:=q+1 else v:=q
 return some v):=rfl
theorem Mb(lf:Bool)(ky:Keyed)(ar:Array Keyed)(b0 n h:Nat):Js lf ky ar b0 n h=Jt (SH lf ky ar b0) n h:=by
 rw[Ma]
 unfold Jt Pz PB OF
 dsimp only
 congr 1
 funext r
 cases r with
 |none=>rfl
 |some r=>
  dsimp only
  split
  ·congr 1
   funext c
   obtain⟨c1,c2,c3⟩:=c
   cases c1 with
   |some c=>rfl
   |none=>
    dsimp only
    congr 1
    funext c
    obtain⟨c1,c2,c3⟩:=c
    cases c1<;>rfl
  ·congr 1
   funext c
   obtain⟨c1,c2,c3⟩:=c
   cases c1 with
   |some c=>rfl
   |none=>
    dsimp only
    congr 1
    funext c
    obtain⟨c1,c2,c3⟩:=c
    cases c1<;>rfl
section
variable{M:Model}{A:Around}{E:Value->Shared->Prop}{s:Shared}{st:SortSt}{b:Nat->Bool}{n:Nat}{bd:Nat->StateT SortSt Sem (Option Bool)}
theorem w_up{h:Nat}{Q:GS->SortSt->Prop}(hb:∀i,i<n-> ∀Q:Option Bool->SortSt->Prop,Q (some (b i)) st->wpS M A E s (bd i) Q st)(mono:∀i j,i<=j->j<n->b j=true->b i=true)
  (hh:h<n)(h0:b h=true)(hq:∀l o,l<o->h+l<n->b (h+l)=true->(n-h<=o∨(h+o<n/\b (h+o)=false)) ->Q (none,l,o) st):wpS M A E s (Pz bd n h (n-h)) Q st:=by
 unfold Pz
 refine wpS_forRange (I:=λx c st'=>st'=st/\ ∃l o,c=(none,l,o)/\l<o/\h+l<n/\b (h+l)=true/\x<o) ?_ ?_ ⟨rfl,0,1,rfl,by omega,by omega,h0,by omega⟩
 ·rintro x c st' _ hx ⟨rfl,l,o,rfl,h1,h2,h3,h4⟩
  dsimp only
  by_cases hm:o≥n-h
  ·rw[if_pos hm]
   exact wpS_pure (hq l o h1 h2 h3 (.inl hm))
  ·rw[if_neg hm]
   refine wpS_bind (hb _ (by omega) _ ?_)
   dsimp only
   cases e:b (h+o)with
   |true=>
    simp only[Bool.not_true,Bool.false_eq_true,if_false]
    exact wpS_pure ⟨rfl,o,2*o+1,rfl,by omega,by omega,e,by omega⟩
   |false=>
    simp only[Bool.not_false,if_true]
    exact wpS_pure (hq l o h1 h2 h3 (.inr ⟨by omega,e⟩))
 ·rintro c st' ⟨rfl,l,o,rfl,h1,h2,h3,h4⟩
  exact hq l o h1 h2 h3 (.inl (by omega))
theorem Ro{h:Nat}{Q:GS->SortSt->Prop}(hb:∀i,i<n-> ∀Q:Option Bool->SortSt->Prop,Q (some (b i)) st->wpS M A E s (bd i) Q st)
  (hh:h<n)(h0:b h=false)(hq:∀l o,l<o->l<=h->b (h-l)=false->(h+1<=o∨(o<=h/\b (h-o)=true)) ->Q (none,l,o) st):wpS M A E s (PB bd n h (h+1)) Q st:=by
 unfold PB
 refine wpS_forRange (I:=λx c st'=>st'=st/\ ∃l o,c=(none,l,o)/\l<o/\l<=h/\b (h-l)=false/\x<o) ?_ ?_ ⟨rfl,0,1,rfl,by omega,by omega,h0,by omega⟩
 ·rintro x c st' _ hx ⟨rfl,l,o,rfl,h1,h2,h3,h4⟩
  dsimp only
  by_cases hm:o≥h+1
  ·rw[if_pos hm]
   exact wpS_pure (hq l o h1 h2 h3 (.inl hm))
  ·rw[if_neg hm]
   refine wpS_bind (hb _ (by omega) _ ?_)
   dsimp only
   cases e:b (h-o)with
   |true=>
    simp only[if_true]
    exact wpS_pure (hq l o h1 h2 h3 (.inr ⟨by omega,e⟩))
   |false=>
    simp only[Bool.false_eq_true,if_false]
    exact wpS_pure ⟨rfl,o,2*o+1,rfl,by omega,by omega,e,by omega⟩
 ·rintro c st' ⟨rfl,l,o,rfl,h1,h2,h3,h4⟩
  exact hq l o h1 h2 h3 (.inl (by omega))
theorem OG{lo hi:Nat}{Q:Option Nat->SortSt->Prop}(hb:∀i,i<n-> ∀Q:Option Bool->SortSt->Prop,Q (some (b i)) st->wpS M A E s (bd i) Q st)(mono:∀i j,i<=j->j<n->b j=true->b i=true)
  (UM:lo<=hi)(hn:hi<=n)(h1:∀i,i<lo->b i=true)(h2:∀i,hi<=i->i<n->b i=false)(hq:∀k,k<=n->(∀i,i<k->b i=true) ->(∀i,k<=i->i<n->b i=false) ->Q (some k) st):
  wpS M A E s (OF bd n lo hi) Q st:=by
 unfold OF
 refine wpS_bind (wpS_mono (wpS_forRange (I:=λx c st'=>st'=st/\ ∃l o,c=(none,l,o)/\l<=o/\o<=n/\(∀i,i<l->b i=true)/\(∀i,o<=i->i<n->b i=false)/\(o-l)+x<=n)
  (Q:=λc st'=>st'=st/\ ∃o,c=(none,o,o)/\o<=n/\(∀i,i<o->b i=true)/\(∀i,o<=i->i<n->b i=false)) ?_ ?_ ⟨rfl,lo,hi,rfl,UM,hn,h1,h2,by omega⟩) ?_)
 ·rintro x c st' _ hx ⟨rfl,l,o,rfl,a1,a2,a3,a4,a5⟩
  dsimp only
  by_cases hm:l≥o
  ·rw[if_pos hm]
   have e:l=o:=by omega
   subst e
   exact wpS_pure ⟨rfl,l,rfl,a2,a3,a4⟩
  ·rw[if_neg hm]
   refine wpS_bind (hb _ (by omega) _ ?_)
   dsimp only
   cases e:b (l+(o-l)/2)with
   |true=>
    simp only[if_true]
    exact wpS_pure ⟨rfl,_,_,rfl,by omega,a2,λi hi=>mono i _ (by omega) (by omega) e,a4,by omega⟩
   |false=>
    simp only[Bool.false_eq_true,if_false]
    refine wpS_pure ⟨rfl,_,_,rfl,by omega,by omega,a3,λi hi hin=> ?_,by omega⟩
    cases e2:b i with
    |false=>rfl
    |true=>rw[mono _ i hi hin e2]at e;cases e
 ·rintro c st' ⟨rfl,l,o,rfl,a1,a2,a3,a4,a5⟩
  have e:l=o:=by omega
  subst e
  exact⟨rfl,l,rfl,a2,a3,a4⟩
 ·rintro c st' ⟨rfl,o,rfl,a2,a3,a4⟩
  exact wpS_pure (hq o a2 a3 a4)
theorem Mc{h:Nat}{Q:Option Nat->SortSt->Prop}(hb:∀i,i<n-> ∀Q:Option Bool->SortSt->Prop,Q (some (b i)) st->wpS M A E s (bd i) Q st)(mono:∀i j,i<=j->j<n->b j=true->b i=true)
  (hh:h<n)(hq:∀k,k<=n->(∀i,i<k->b i=true) ->(∀i,k<=i->i<n->b i=false) ->Q (some k) st):wpS M A E s (Jt bd n h) Q st:=by
 unfold Jt
 have anti:∀i j,i<=j->j<n->b i=false->b j=false:=λi j h1 h2 h3=>by
  cases e:b j with
  |false=>rfl
  |true=>rw[mono i j h1 h2 e]at h3;cases h3
 refine wpS_bind (hb h hh _ ?_)
 dsimp only
 cases e:b h with
 |true=>
  simp only[if_true]
  refine wpS_bind (w_up hb mono hh e λl o a1 a2 a3 a4=> ?_)
  dsimp only
  refine OG hb mono (by omega) (by omega) (λi hi=>mono i (h+l) (by omega) a2 a3) (λi hi hin=> ?_) hq
  rcases a4 with a4|a4
  ·omega
  ·exact anti (h+o) i (by omega) hin a4.2
 |false=>
  simp only[Bool.false_eq_true,if_false]
  refine wpS_bind (Ro hb hh e λl o a1 a2 a3 a4=> ?_)
  dsimp only
  refine OG hb mono (by omega) (by omega) (λi hi=> ?_) (λi hi hin=>anti (h-l) i (by omega) hin a3) hq
  rcases a4 with a4|a4
  ·omega
  ·exact mono i (h-o) (by omega) (by omega) a4.2
end
def pB(prog:Program)(w:World)(A:Around)(E:Value->Shared->Prop)(s:Shared)(κ:SortKind)(K:Keyed->Int)(D:Keyed->Prop):Prop:=
 ∀(st:SortSt)(x y:Keyed)(Q:Option Bool->SortSt->Prop),kindOf st=κ->D x->D y->Q (some (decide (K x<K y))) st->wpS (model prog w) A E s (lt' x y) Q st
section
variable{prog:Program}{w:World}{A:Around}{E:Value->Shared->Prop}{s:Shared}{κ:SortKind}{K:Keyed->Int}{D:Keyed->Prop}{st:SortSt}
theorem aX{ar:Array Keyed}{i:Nat}{x:Keyed}{Q:Keyed->SortSt->Prop}{M:Model}(h:ar[i]?=some x)(hq:Q x st):wpS M A E s (elem' ar i) Q st:=by
 rw[elem'_eq,h]
 exact wpS_pure hq
theorem jY(hL:pB prog w A E s κ K D){lf:Bool}{ky:Keyed}{ar:Array Keyed}{b0 n h:Nat}{Q:Option Nat->SortSt->Prop}(hk:kindOf st=κ)(xs:List Keyed)(hx:∀i,i<n->ar[b0+i]?=xs[i]?)(hn:n=xs.length)
  (hD:∀x∈xs,D x)(SI:D ky)(hs:xs.Pairwise λx y=>K x<=K y)(hh:h<n)
  (hq:∀k,k<=n->(∀x∈xs.take k,if lf then K x<K ky else K x<=K ky) ->(∀x∈xs.drop k,if lf then K ky<=K x else K ky<K x) ->Q (some k) st):wpS (model prog w) A E s (Js lf ky ar b0 n h) Q st:=by
 rw[Mb]
 have gd:∀i,i<n-> ∃x,xs[i]?=some x/\x∈xs:=λi hi=>⟨xs[i]'(by omega),List.getElem?_eq_getElem _,List.getElem_mem _⟩
 refine Mc (b:=λi=>match xs[i]? with|some x=>(if lf then decide (K x<K ky)else !decide (K ky<K x))|none=>false) (λi hi Q hQ=> ?_) (λi j hij hj hb=> ?_) hh (λk hk1 h1 h2=>hq k hk1 (λx hx=> ?_) (λx hx=> ?_))
 ·obtain⟨x,e,m⟩:=gd i hi
  rw[e]at hQ
  dsimp only at hQ
  unfold SH
  refine wpS_bind (aX ((hx i hi).trans e) ?_)
  cases lf with
  |true=>
   simp only[if_true]at hQ ⊢
   exact hL st x ky Q hk (hD x m) SI hQ
  |false=>
   simp only[Bool.false_eq_true,if_false]at hQ ⊢
   refine wpS_bind (hL st ky x _ hk SI (hD x m) ?_)
   exact wpS_pure hQ
 ·obtain⟨x,ex,mx⟩:=gd i (by omega)
  obtain⟨y,ey,my⟩:=gd j hj
  have le:K x<=K y:=by
   rcases Nat.lt_or_ge i j with q|q
   ·have a:=List.pairwise_iff_getElem.mp hs i j (by omega) (by omega) q
    rw[List.getElem?_eq_getElem (by omega)]at ex ey
    rw[<-Option.some.inj ex,<-Option.some.inj ey]
    exact a
   ·have:i=j:=by omega
    subst this
    rw[ex]at ey
    rw[Option.some.inj ey]
    exact Int.le_refl _
  rw[ey]at hb
  rw[ex]
  dsimp only at hb ⊢
  cases lf with
  |true=>
   simp only[if_true,decide_eq_true_eq]at hb ⊢
   omega
  |false=>
   simp only[Bool.false_eq_true,if_false,Bool.not_eq_true',decide_eq_false_iff_not]at hb ⊢
   omega
 ·obtain⟨i,hi,rfl⟩:=List.mem_take_iff_getElem.mp hx
  have hi':i<k:=by omega
  have b:=h1 i hi'
  rw[List.getElem?_eq_getElem (by omega)]at b
  dsimp only at b
  cases lf with
  |true=>simpa using b
  |false=>simpa using b
 ·obtain⟨i,hi,rfl⟩:=List.mem_drop_iff_getElem.mp hx
  have b:=h2 (k+i) (by omega) (by omega)
  rw[List.getElem?_eq_getElem (by omega)]at b
  dsimp only at b
  cases lf with
  |true=>simpa using b
  |false=>simpa using b
end
theorem p9(g:Nat):OE g=modify λz=>SortSt.mk' (kindOf z) (arrOf z) (pendingOf z) g (failedOf z):=rfl
structure MG(K:Keyed->Int)(tot out ra rb:List Keyed):Prop where
 perm:(out++(ra++rb)).Perm tot
 so:out.Pairwise λx y=>K x<=K y
 sa:ra.Pairwise λx y=>K x<=K y
 sb:rb.Pairwise λx y=>K x<=K y
 oa:∀x∈out,∀y∈ra,K x<=K y
 ob:∀x∈out,∀y∈rb,K x<=K y
theorem MG.v8{K:Keyed->Int}{tot out l ra rb:List Keyed}(h:MG K tot out (l++ra) rb)(hb:∀x∈l,∀y∈rb,K x<=K y):MG K tot (out++l) ra rb:=by
 have sa:=List.pairwise_append.mp h.sa
 refine⟨?_,List.pairwise_append.mpr ⟨h.so,sa.1,λx hx y hy=>h.oa x hx y (List.mem_append_left _ hy)⟩,sa.2.1,h.sb,λx hx y hy=> ?_,λx hx y hy=> ?_⟩
 ·have:=h.perm
  simpa [List.append_assoc]using this
 ·rcases List.mem_append.mp hx with q|q
  ·exact h.oa x q y (List.mem_append_right _ hy)
  ·exact sa.2.2 x q y hy
 ·rcases List.mem_append.mp hx with q|q
  ·exact h.ob x q y hy
  ·exact hb x q y hy
theorem MG.swap{K:Keyed->Int}{tot out ra rb:List Keyed}(h:MG K tot out ra rb):MG K tot out rb ra:=
 ⟨(List.Perm.append_left out List.perm_append_comm).trans h.perm,h.so,h.sb,h.sa,h.ob,h.oa⟩
theorem MG.rf{K:Keyed->Int}{tot out l ra rb:List Keyed}(h:MG K tot out ra (l++rb))(hb:∀x∈l,∀y∈ra,K x<=K y):MG K tot (out++l) ra rb:=(h.swap.v8 hb).swap
theorem MG.gG{K:Keyed->Int}{tot out ra rb:List Keyed}{x:Keyed}(h:MG K tot out (x::ra) rb)(hb:∀y∈rb,K x<=K y):MG K tot (out++ [x]) ra rb:=
 MG.v8 (l:=[x]) h λz hz y hy=>by rw[List.mem_singleton.mp hz];exact hb y hy
theorem MG.nv{K:Keyed->Int}{tot out ra rb:List Keyed}{x:Keyed}(h:MG K tot out ra (x::rb))(hb:∀y∈ra,K x<=K y):MG K tot (out++ [x]) ra rb:=(h.swap.gG hb).swap
def Good(K:Keyed->Int)(tot r:List Keyed):Prop:=r.Perm tot/\r.Pairwise λx y=>K x<=K y
theorem MG.fin{K:Keyed->Int}{tot out ra rb r:List Keyed}(h:MG K tot out ra rb)(p:r.Perm (ra++rb))(s:r.Pairwise λx y=>K x<=K y):Good K tot (out++r):=by
 refine⟨(List.Perm.append_left out p).trans h.perm,List.pairwise_append.mpr ⟨h.so,s,λx hx y hy=> ?_⟩⟩
 rcases List.mem_append.mp (p.mem_iff.mp hy)with q|q
 ·exact h.oa x hx y q
 ·exact h.ob x hx y q
theorem dU{K:Keyed->Int}{x:Keyed}{l:List Keyed}(h:(x::l).Pairwise λx y=>K x<=K y):∀y∈x::l,K x<=K y:=λy hy=>by
 rcases List.mem_cons.mp hy with e|hy
 ·rw[e];exact Int.le_refl _
 ·exact(List.pairwise_cons.mp h).1 y hy
theorem Me(a b:Array Keyed):Rm a b=(do
 rule "list.sort.merge-lo"
 let tt:=a.size+b.size
 let fin (o:Array Keyed) (i j:Nat):=o++a.extract i a.size++b.extract j b.size
 let fla (o:Array Keyed) (i j:Nat):=o++b.extract j b.size++a.extract i a.size
 let mut o:Array Keyed:= #[<-elem' b 0]
 let mut i:=0
 let mut j:=1
 if j==b.size then return fin o i j
 if i+1==a.size then return fla o i j
 let mut g:=gallopOf (<-get)
 for _ in [0:tt] do
  let mut ca:=0
  let mut cb:=0
  for _ in [0:tt] do
   let some bw<-lt' (<-elem' b j) (<-elem' a i)|return fin o i j
   if bw then
    o:=o.push (<-elem' b j);j:=j+1;cb:=cb+1;ca:=0
    if j==b.size then return fin o i j
    if cb≥g then break
   else
    o:=o.push (<-elem' a i);i:=i+1;ca:=ca+1;cb:=0
    if i+1==a.size then return fla o i j
    if ca≥g then break
  rule "list.sort.gallop"
  g:=g+1
  for _ in [0:tt] do
   if g>1 then g:=g-1
   OE g
   let some k<-Js false (<-elem' b j) a i (a.size-i) 0|return fin o i j
   ca:=k
   if k>0 then
    o:=o++a.extract i (i+k);i:=i+k
    if i+1==a.size then return fla o i j
    if i==a.size then return fin o i j
   o:=o.push (<-elem' b j);j:=j+1
   if j==b.size then return fin o i j
   let some k<-Js true (<-elem' a i) b j (b.size-j) 0|return fin o i j
   cb:=k
   if k>0 then
    o:=o++b.extract j (j+k);j:=j+k
    if j==b.size then return fin o i j
   o:=o.push (<-elem' a i);i:=i+1
   if i+1==a.size then return fla o i j
   if ca<7 && cb<7 then break
  g:=g+1
  OE g
 @unsupported _ "internal:list.sort.merge-bound"):=rfl
def Sg(st st':SortSt):Prop:=kindOf st'=kindOf st/\arrOf st'=arrOf st/\pendingOf st'=pendingOf st/\failedOf st'=failedOf st
theorem Sg.refl(st:SortSt):Sg st st:=⟨rfl,rfl,rfl,rfl⟩
theorem Sg.set{st st':SortSt}(h:Sg st st')(g:Nat):Sg st (SortSt.mk' (kindOf st') (arrOf st') (pendingOf st') g (failedOf st')):=h
section
variable{prog:Program}{w:World}{A:Around}{E:Value->Shared->Prop}{s:Shared}{κ:SortKind}{K:Keyed->Int}{D:Keyed->Prop}{st:SortSt}
def LI(K:Keyed->Int)(a b o:Array Keyed)(i j:Nat):Prop:=MG K (a.toList++b.toList) o.toList (a.toList.drop i) (b.toList.drop j)/\i+1<a.size/\j<b.size
theorem iF{a:Array Keyed}{i:Nat}(h:i<a.size):∃x,a[i]?=some x/\x∈a.toList/\a.toList.drop i=x::a.toList.drop (i+1):=
 ⟨a[i],getElem?_pos a i h,by simp,by rw[List.drop_eq_getElem_cons (by simpa using h)];simp⟩
theorem iu(a:Array Keyed)(i k:Nat):a.toList.drop i=(a.toList.drop i).take k++a.toList.drop (i+k):=by
 rw[<-List.drop_drop,List.take_append_drop]
theorem GF{o a b:Array Keyed}{i j:Nat}:(o++a.extract i a.size++b.extract j b.size).toList=o.toList++(a.toList.drop i++b.toList.drop j):=by
 have e1:List.take (a.size-i) (List.drop i a.toList)=List.drop i a.toList:=List.take_of_length_le (by simp)
 have e2:List.take (b.size-j) (List.drop j b.toList)=List.drop j b.toList:=List.take_of_length_le (by simp)
 simp[List.append_assoc,e1,e2]
theorem mZ{a:Array Keyed}{i k:Nat}:(a.extract i (i+k)).toList=(a.toList.drop i).take k:=by
 simp[List.take_drop,Nat.add_comm]
theorem LI.fin{a b o:Array Keyed}{i j:Nat}(h:MG K (a.toList++b.toList) o.toList (a.toList.drop i) (b.toList.drop j))(hj:i=a.size∨j=b.size):Good K (a.toList++b.toList) (o++a.extract i a.size++b.extract j b.size).toList:=by
 rw[GF]
 refine h.fin (.refl _) ?_
 rcases hj with rfl|rfl
 ·rw[List.drop_eq_nil_of_le (by simp),List.nil_append]
  exact h.sb
 ·rw[List.drop_eq_nil_of_le (as:=b.toList) (by simp),List.append_nil]
  exact h.sa
theorem LI.fla{a b o:Array Keyed}{i j:Nat}(h:MG K (a.toList++b.toList) o.toList (a.toList.drop i) (b.toList.drop j))(hj:i+1=a.size)(hl:∀y∈b.toList,∀x∈a.toList.drop (a.size-1),K y<=K x):Good K (a.toList++b.toList) (o++b.extract j b.size++a.extract i a.size).toList:=by
 rw[GF]
 refine h.fin List.perm_append_comm (List.pairwise_append.mpr ⟨h.sb,h.sa,λy hy x hx=>hl y (List.mem_of_mem_drop hy) x ?_⟩)
 rw[<-hj,Nat.add_sub_cancel]
 exact hx
theorem OH(hL:pB prog w A E s κ K D){a b:Array Keyed}{Q:Array Keyed->SortSt->Prop}(hk:kindOf st=κ)(ha:0<a.size)(hb:0<b.size)(Da:∀x∈a.toList,D x)(Db:∀x∈b.toList,D x)
  (sa:a.toList.Pairwise λx y=>K x<=K y)(sb:b.toList.Pairwise λx y=>K x<=K y)(h1:∀y∈b.toList.take 1,∀x∈a.toList,K y<=K x)(h2:∀y∈b.toList,∀x∈a.toList.drop (a.size-1),K y<=K x)
  (hq:∀r st',Sg st st'->Good K (a.toList++b.toList) r.toList->Q r st'):wpS (model prog w) A E s (Rm a b) Q st:=by
 rw[Me]
 refine wpS_bind (wpS_lift (wpAny_rule ⟨rfl,?_⟩))
 dsimp only
 obtain⟨b0,e0,m0,d0⟩:=iF (a:=b) (i:=0) hb
 refine wpS_bind (aX e0 ?_)
 have M0:MG K (a.toList++b.toList) (#[b0]:Array Keyed).toList (a.toList.drop 0) (b.toList.drop 1):=by
  refine⟨?_,List.pairwise_singleton _ _,sa,?_,λx hx y hy=> ?_,λx hx y hy=> ?_⟩
  ·show([b0]++(a.toList++b.toList.drop 1)).Perm _
   have e:b.toList=b0::b.toList.drop 1:=d0
   conv=>rhs;rw[e]
   exact(List.perm_middle (l₁:=a.toList) (l₂:=b.toList.drop 1) (a:=b0)).symm
  ·exact List.Pairwise.sublist (List.drop_sublist _ _) sb
  ·rw[List.mem_singleton.mp hx]
   have e:b.toList=b0::b.toList.drop 1:=d0
   exact h1 b0 (by rw[e];simp) y hy
  ·rw[List.mem_singleton.mp hx]
   have e:b.toList=b0::b.toList.drop 1:=d0
   rw[e]at sb
   exact dU sb y (List.mem_cons_of_mem _ hy)
 by_cases c1:(1==b.size)=true
 ·rw[if_pos c1]
  exact wpS_pure (hq _ _ (Sg.refl _) (LI.fin M0 (.inr (by simpa using c1))))
 rw[if_neg c1]
 by_cases c2:(0+1==a.size)=true
 ·rw[if_pos c2]
  exact wpS_pure (hq _ _ (Sg.refl _) (LI.fla M0 (by simpa using c2) h2))
 rw[if_neg c2]
 have n1:b.size≠1:=λe=>c1 (by rw[e];rfl)
 have n2:a.size≠1:=λe=>c2 (by rw[e];rfl)
 refine wpS_bind (wpS_get ?_)
 have L0:LI K a b #[b0] 0 1:=⟨M0,by omega,by omega⟩
 refine wpS_bind (wpS_mono (wpS_forRange (I:=λx c st'=>Sg st st'/\ ∃o i j g,c=(none,o,i,j,g)/\LI K a b o i j/\x<=i+j)
  (Q:=λc st'=>Sg st st'/\ ∃r z,c=(some r,z)/\Good K (a.toList++b.toList) r.toList) ?_ ?_ ⟨Sg.refl _,_,0,1,_,rfl,L0,by omega⟩) ?_)
 ·rintro x c s1 _ hx ⟨S1,o,i,j,g,rfl,I1,p1⟩
  dsimp only
  refine wpS_bind (wpS_mono (wpS_forRange (I:=λy c st'=>Sg st st'/\ ∃o i j ca cb,c=(none,o,i,j,ca,cb)/\LI K a b o i j/\y+x<=i+j)
   (Q:=λc st'=>Sg st st'/\((∃r z,c=(some r,z)/\Good K (a.toList++b.toList) r.toList)∨ ∃o i j ca cb,c=(none,o,i,j,ca,cb)/\LI K a b o i j/\x+1<=i+j)) ?_ ?_ ⟨S1,o,i,j,_,_,rfl,I1,by omega⟩) ?_)
  ·rintro y c s2 _ hy ⟨S2,o,i,j,ca,cb,rfl,⟨I2,l1,l2⟩,p2⟩
   dsimp only
   obtain⟨xb,eb,mb,db⟩:=iF (a:=b) (i:=j) l2
   obtain⟨xa,ea,ma,da⟩:=iF (a:=a) (i:=i) (by omega)
   have sa':=I2.sa
   have sb':=I2.sb
   rw[da]at sa'
   rw[db]at sb'
   refine wpS_bind (aX eb (wpS_bind (aX ea (wpS_bind (hL s2 xb xa _ (S2.1.trans hk) (Db _ mb) (Da _ ma) ?_)))))
   dsimp only
   by_cases lt:K xb<K xa
   ·rw[decide_eq_true lt,if_pos rfl]
    have I3:MG K (a.toList++b.toList) (o.push xb).toList (a.toList.drop i) (b.toList.drop (j+1)):=by
     rw[Array.toList_push]
     refine MG.nv (by rw[<-db];exact I2) λz hz=> ?_
     rw[da]at hz
     exact Int.le_trans (Int.le_of_lt lt) (dU sa' z hz)
    refine wpS_bind (aX eb ?_)
    by_cases c3:(j+1==b.size)=true
    ·rw[if_pos c3]
     exact wpS_pure ⟨S2,.inl ⟨_,_,rfl,LI.fin I3 (.inr (by simpa using c3))⟩⟩
    rw[if_neg c3]
    have n3:j+1≠b.size:=λe=>c3 (by rw[e];simp)
    split
    ·exact wpS_pure ⟨S2,.inr ⟨_,_,_,_,_,rfl,⟨I3,l1,by omega⟩,by omega⟩⟩
    ·exact wpS_pure ⟨S2,_,_,_,_,_,rfl,⟨I3,l1,by omega⟩,by omega⟩
   ·rw[decide_eq_false lt,if_neg (by simp)]
    have I3:MG K (a.toList++b.toList) (o.push xa).toList (a.toList.drop (i+1)) (b.toList.drop j):=by
     rw[Array.toList_push]
     refine MG.gG (by rw[<-da];exact I2) λz hz=> ?_
     rw[db]at hz
     exact Int.le_trans (Int.not_lt.mp lt) (dU sb' z hz)
    refine wpS_bind (aX ea ?_)
    by_cases c3:(i+1+1==a.size)=true
    ·rw[if_pos c3]
     exact wpS_pure ⟨S2,.inl ⟨_,_,rfl,LI.fla I3 (by simpa using c3) h2⟩⟩
    rw[if_neg c3]
    have n3:i+1+1≠a.size:=λe=>c3 (by rw[e];simp)
    split
    ·exact wpS_pure ⟨S2,.inr ⟨_,_,_,_,_,rfl,⟨I3,by omega,l2⟩,by omega⟩⟩
    ·exact wpS_pure ⟨S2,_,_,_,_,_,rfl,⟨I3,by omega,l2⟩,by omega⟩
  ·rintro c s2 ⟨S2,o,i,j,ca,cb,rfl,⟨I2,l1,l2⟩,p2⟩
   omega
  ·rintro c s2 ⟨S2,⟨r,z,rfl,hr⟩|⟨o,i,j,ca,cb,rfl,I2,p2⟩⟩
   ·exact wpS_pure ⟨S2,r,_,rfl,hr⟩
   dsimp only
   refine wpS_bind (wpS_lift (wpAny_rule ⟨rfl,?_⟩))
   refine wpS_bind (wpS_mono (wpS_forRange (I:=λy c st'=>Sg st st'/\ ∃o i j g ca cb,c=(none,o,i,j,g,ca,cb)/\LI K a b o i j/\y+x+1<=i+j)
    (Q:=λc st'=>Sg st st'/\((∃r z,c=(some r,z)/\Good K (a.toList++b.toList) r.toList)∨ ∃o i j g ca cb,c=(none,o,i,j,g,ca,cb)/\LI K a b o i j/\x+1<=i+j)) ?_ ?_ ⟨S2,o,i,j,_,_,_,rfl,I2,by omega⟩) ?_)
   ·rintro y c s3 _ hy ⟨S3,o,i,j,g,ca,cb,rfl,⟨I2,l1,l2⟩,p2⟩
    dsimp only
    by_cases hg:g>1
    ·rw[if_pos hg]
     rw[p9]
     refine wpS_bind (wpS_modify ?_)
     obtain⟨xb,eb,mb,db⟩:=iF (a:=b) (i:=j) l2
     have sb':=I2.sb
     rw[db]at sb'
     refine wpS_bind (aX eb (wpS_bind (jY hL ((S3.set _).1.trans hk) (a.toList.drop i) (λz hz=>by simp) (by simp) (λx hx=>Da x (List.mem_of_mem_drop hx)) (Db _ mb) I2.sa (by omega) λk hk1 t1 t2=> ?_)))
     simp only[Bool.false_eq_true,if_false]at t1 t2
     rw[List.drop_drop]at t2
     dsimp only
     have J:MG K (a.toList++b.toList) (o++a.extract i (i+k)).toList (a.toList.drop (i+k)) (b.toList.drop j):=by
      rw[Array.toList_append,mZ]
      refine MG.v8 (by rw[<-iu];exact I2) λx hx y hy=> ?_
      rw[db]at hy
      exact Int.le_trans (t1 x hx) (dU sb' y hy)
     have tJ:=t2
     by_cases hk0:k>0
     ·rw[if_pos hk0]
      by_cases c3:(i+k+1==a.size)=true
      ·rw[if_pos c3]
       exact wpS_pure ⟨S3.set _,.inl ⟨_,_,rfl,LI.fla J (by simpa using c3) h2⟩⟩
      rw[if_neg c3]
      have n3:i+k+1≠a.size:=λe=>c3 (by rw[e];simp)
      by_cases c4:(i+k==a.size)=true
      ·rw[if_pos c4]
       exact wpS_pure ⟨S3.set _,.inl ⟨_,_,rfl,LI.fin J (.inl (by simpa using c4))⟩⟩
      rw[if_neg c4]
      have n4:i+k≠a.size:=λe=>c4 (by rw[e];simp)
      obtain⟨xa,ea,ma,da⟩:=iF (a:=a) (i:=i+k) (by omega)
      have sa':=J.sa
      rw[da]at sa'
      have I4:MG K (a.toList++b.toList) ((o++a.extract i (i+k)).push xb).toList (a.toList.drop (i+k)) (b.toList.drop (j+1)):=by
       rw[Array.toList_push]
       exact MG.nv (by rw[<-db];exact J) λz hz=>Int.le_of_lt (tJ z hz)
      refine wpS_bind (aX eb ?_)
      by_cases c5:(j+1==b.size)=true
      ·rw[if_pos c5]
       exact wpS_pure ⟨S3.set _,.inl ⟨_,_,rfl,LI.fin I4 (.inr (by simpa using c5))⟩⟩
      rw[if_neg c5]
      have n5:j+1≠b.size:=λe=>c5 (by rw[e];simp)
      refine wpS_bind (aX ea (wpS_bind (jY hL ((S3.set _).1.trans hk) (b.toList.drop (j+1)) (λz hz=>by simp) (by simp) (λx hx=>Db x (List.mem_of_mem_drop hx)) (Da _ ma) I4.sb (by omega) λk2 hk2 u1 u2=> ?_)))
      simp only[if_true]at u1 u2
      rw[List.drop_drop]at u2
      dsimp only
      have I5:MG K (a.toList++b.toList) ((o++a.extract i (i+k)).push xb++b.extract (j+1) (j+1+k2)).toList (a.toList.drop (i+k)) (b.toList.drop (j+1+k2)):=by
       rw[Array.toList_append,mZ]
       refine MG.rf (by rw[<-iu];exact I4) λx hx y hy=> ?_
       rw[da]at hy
       exact Int.le_trans (Int.le_of_lt (u1 x hx)) (dU sa' y hy)
      by_cases hk2:k2>0
      ·rw[if_pos hk2]
       by_cases c6:(j+1+k2==b.size)=true
       ·rw[if_pos c6]
        exact wpS_pure ⟨S3.set _,.inl ⟨_,_,rfl,LI.fin I5 (.inr (by simpa using c6))⟩⟩
       rw[if_neg c6]
       have n6:j+1+k2≠b.size:=λe=>c6 (by rw[e];simp)
       have I6:MG K (a.toList++b.toList) (((o++a.extract i (i+k)).push xb++b.extract (j+1) (j+1+k2)).push xa).toList (a.toList.drop (i+k+1)) (b.toList.drop (j+1+k2)):=by
        rw[Array.toList_push]
        exact MG.gG (by rw[<-da];exact I5) u2
       refine wpS_bind (aX ea ?_)
       by_cases c7:(i+k+1+1==a.size)=true
       ·rw[if_pos c7]
        exact wpS_pure ⟨S3.set _,.inl ⟨_,_,rfl,LI.fla I6 (by simpa using c7) h2⟩⟩
       rw[if_neg c7]
       have n7:i+k+1+1≠a.size:=λe=>c7 (by rw[e];simp)
       split
       ·exact wpS_pure ⟨S3.set _,.inr ⟨_,_,_,_,_,_,rfl,⟨I6,by omega,by omega⟩,by omega⟩⟩
       ·exact wpS_pure ⟨S3.set _,_,_,_,_,_,_,rfl,⟨I6,by omega,by omega⟩,by omega⟩
      ·rw[if_neg hk2]
       have z2:k2=0:=by omega
       subst z2
       have I6:MG K (a.toList++b.toList) (((o++a.extract i (i+k)).push xb).push xa).toList (a.toList.drop (i+k+1)) (b.toList.drop (j+1)):=by
        rw[Array.toList_push]
        exact MG.gG (by rw[<-da];exact I4) u2
       refine wpS_bind (aX ea ?_)
       by_cases c7:(i+k+1+1==a.size)=true
       ·rw[if_pos c7]
        exact wpS_pure ⟨S3.set _,.inl ⟨_,_,rfl,LI.fla I6 (by simpa using c7) h2⟩⟩
       rw[if_neg c7]
       have n7:i+k+1+1≠a.size:=λe=>c7 (by rw[e];simp)
       split
       ·exact wpS_pure ⟨S3.set _,.inr ⟨_,_,_,_,_,_,rfl,⟨I6,by omega,by omega⟩,by omega⟩⟩
       ·exact wpS_pure ⟨S3.set _,_,_,_,_,_,_,rfl,⟨I6,by omega,by omega⟩,by omega⟩
     ·rw[if_neg hk0]
      have z0:k=0:=by omega
      subst z0
      replace J:=I2
      obtain⟨xa,ea,ma,da⟩:=iF (a:=a) (i:=i) (by omega)
      have sa':=J.sa
      rw[da]at sa'
      have I4:MG K (a.toList++b.toList) (o.push xb).toList (a.toList.drop (i)) (b.toList.drop (j+1)):=by
       rw[Array.toList_push]
       exact MG.nv (by rw[<-db];exact J) λz hz=>Int.le_of_lt (tJ z hz)
      refine wpS_bind (aX eb ?_)
      by_cases c5:(j+1==b.size)=true
      ·rw[if_pos c5]
       exact wpS_pure ⟨S3.set _,.inl ⟨_,_,rfl,LI.fin I4 (.inr (by simpa using c5))⟩⟩
      rw[if_neg c5]
      have n5:j+1≠b.size:=λe=>c5 (by rw[e];simp)
      refine wpS_bind (aX ea (wpS_bind (jY hL ((S3.set _).1.trans hk) (b.toList.drop (j+1)) (λz hz=>by simp) (by simp) (λx hx=>Db x (List.mem_of_mem_drop hx)) (Da _ ma) I4.sb (by omega) λk2 hk2 u1 u2=> ?_)))
      simp only[if_true]at u1 u2
      rw[List.drop_drop]at u2
      dsimp only
      have I5:MG K (a.toList++b.toList) (o.push xb++b.extract (j+1) (j+1+k2)).toList (a.toList.drop (i)) (b.toList.drop (j+1+k2)):=by
       rw[Array.toList_append,mZ]
       refine MG.rf (by rw[<-iu];exact I4) λx hx y hy=> ?_
       rw[da]at hy
       exact Int.le_trans (Int.le_of_lt (u1 x hx)) (dU sa' y hy)
      by_cases hk2:k2>0
      ·rw[if_pos hk2]
       by_cases c6:(j+1+k2==b.size)=true
       ·rw[if_pos c6]
        exact wpS_pure ⟨S3.set _,.inl ⟨_,_,rfl,LI.fin I5 (.inr (by simpa using c6))⟩⟩
       rw[if_neg c6]
       have n6:j+1+k2≠b.size:=λe=>c6 (by rw[e];simp)
       have I6:MG K (a.toList++b.toList) ((o.push xb++b.extract (j+1) (j+1+k2)).push xa).toList (a.toList.drop (i+1)) (b.toList.drop (j+1+k2)):=by
        rw[Array.toList_push]
        exact MG.gG (by rw[<-da];exact I5) u2
       refine wpS_bind (aX ea ?_)
       by_cases c7:(i+1+1==a.size)=true
       ·rw[if_pos c7]
        exact wpS_pure ⟨S3.set _,.inl ⟨_,_,rfl,LI.fla I6 (by simpa using c7) h2⟩⟩
       rw[if_neg c7]
       have n7:i+1+1≠a.size:=λe=>c7 (by rw[e];simp)
       split
       ·exact wpS_pure ⟨S3.set _,.inr ⟨_,_,_,_,_,_,rfl,⟨I6,by omega,by omega⟩,by omega⟩⟩
       ·exact wpS_pure ⟨S3.set _,_,_,_,_,_,_,rfl,⟨I6,by omega,by omega⟩,by omega⟩
      ·rw[if_neg hk2]
       have z2:k2=0:=by omega
       subst z2
       have I6:MG K (a.toList++b.toList) ((o.push xb).push xa).toList (a.toList.drop (i+1)) (b.toList.drop (j+1)):=by
        rw[Array.toList_push]
        exact MG.gG (by rw[<-da];exact I4) u2
       refine wpS_bind (aX ea ?_)
       by_cases c7:(i+1+1==a.size)=true
       ·rw[if_pos c7]
        exact wpS_pure ⟨S3.set _,.inl ⟨_,_,rfl,LI.fla I6 (by simpa using c7) h2⟩⟩
       rw[if_neg c7]
       have n7:i+1+1≠a.size:=λe=>c7 (by rw[e];simp)
       split
       ·exact wpS_pure ⟨S3.set _,.inr ⟨_,_,_,_,_,_,rfl,⟨I6,by omega,by omega⟩,by omega⟩⟩
       ·exact wpS_pure ⟨S3.set _,_,_,_,_,_,_,rfl,⟨I6,by omega,by omega⟩,by omega⟩
    ·rw[if_neg hg]
     rw[p9]
     refine wpS_bind (wpS_modify ?_)
     obtain⟨xb,eb,mb,db⟩:=iF (a:=b) (i:=j) l2
     have sb':=I2.sb
     rw[db]at sb'
     refine wpS_bind (aX eb (wpS_bind (jY hL ((S3.set _).1.trans hk) (a.toList.drop i) (λz hz=>by simp) (by simp) (λx hx=>Da x (List.mem_of_mem_drop hx)) (Db _ mb) I2.sa (by omega) λk hk1 t1 t2=> ?_)))
     simp only[Bool.false_eq_true,if_false]at t1 t2
     rw[List.drop_drop]at t2
     dsimp only
     have J:MG K (a.toList++b.toList) (o++a.extract i (i+k)).toList (a.toList.drop (i+k)) (b.toList.drop j):=by
      rw[Array.toList_append,mZ]
      refine MG.v8 (by rw[<-iu];exact I2) λx hx y hy=> ?_
      rw[db]at hy
      exact Int.le_trans (t1 x hx) (dU sb' y hy)
     have tJ:=t2
     by_cases hk0:k>0
     ·rw[if_pos hk0]
      by_cases c3:(i+k+1==a.size)=true
      ·rw[if_pos c3]
       exact wpS_pure ⟨S3.set _,.inl ⟨_,_,rfl,LI.fla J (by simpa using c3) h2⟩⟩
      rw[if_neg c3]
      have n3:i+k+1≠a.size:=λe=>c3 (by rw[e];simp)
      by_cases c4:(i+k==a.size)=true
      ·rw[if_pos c4]
       exact wpS_pure ⟨S3.set _,.inl ⟨_,_,rfl,LI.fin J (.inl (by simpa using c4))⟩⟩
      rw[if_neg c4]
      have n4:i+k≠a.size:=λe=>c4 (by rw[e];simp)
      obtain⟨xa,ea,ma,da⟩:=iF (a:=a) (i:=i+k) (by omega)
      have sa':=J.sa
      rw[da]at sa'
      have I4:MG K (a.toList++b.toList) ((o++a.extract i (i+k)).push xb).toList (a.toList.drop (i+k)) (b.toList.drop (j+1)):=by
       rw[Array.toList_push]
       exact MG.nv (by rw[<-db];exact J) λz hz=>Int.le_of_lt (tJ z hz)
      refine wpS_bind (aX eb ?_)
      by_cases c5:(j+1==b.size)=true
      ·rw[if_pos c5]
       exact wpS_pure ⟨S3.set _,.inl ⟨_,_,rfl,LI.fin I4 (.inr (by simpa using c5))⟩⟩
      rw[if_neg c5]
      have n5:j+1≠b.size:=λe=>c5 (by rw[e];simp)
      refine wpS_bind (aX ea (wpS_bind (jY hL ((S3.set _).1.trans hk) (b.toList.drop (j+1)) (λz hz=>by simp) (by simp) (λx hx=>Db x (List.mem_of_mem_drop hx)) (Da _ ma) I4.sb (by omega) λk2 hk2 u1 u2=> ?_)))
      simp only[if_true]at u1 u2
      rw[List.drop_drop]at u2
      dsimp only
      have I5:MG K (a.toList++b.toList) ((o++a.extract i (i+k)).push xb++b.extract (j+1) (j+1+k2)).toList (a.toList.drop (i+k)) (b.toList.drop (j+1+k2)):=by
       rw[Array.toList_append,mZ]
       refine MG.rf (by rw[<-iu];exact I4) λx hx y hy=> ?_
       rw[da]at hy
       exact Int.le_trans (Int.le_of_lt (u1 x hx)) (dU sa' y hy)
      by_cases hk2:k2>0
      ·rw[if_pos hk2]
       by_cases c6:(j+1+k2==b.size)=true
       ·rw[if_pos c6]
        exact wpS_pure ⟨S3.set _,.inl ⟨_,_,rfl,LI.fin I5 (.inr (by simpa using c6))⟩⟩
       rw[if_neg c6]
       have n6:j+1+k2≠b.size:=λe=>c6 (by rw[e];simp)
       have I6:MG K (a.toList++b.toList) (((o++a.extract i (i+k)).push xb++b.extract (j+1) (j+1+k2)).push xa).toList (a.toList.drop (i+k+1)) (b.toList.drop (j+1+k2)):=by
        rw[Array.toList_push]
        exact MG.gG (by rw[<-da];exact I5) u2
       refine wpS_bind (aX ea ?_)
       by_cases c7:(i+k+1+1==a.size)=true
       ·rw[if_pos c7]
        exact wpS_pure ⟨S3.set _,.inl ⟨_,_,rfl,LI.fla I6 (by simpa using c7) h2⟩⟩
       rw[if_neg c7]
       have n7:i+k+1+1≠a.size:=λe=>c7 (by rw[e];simp)
       split
       ·exact wpS_pure ⟨S3.set _,.inr ⟨_,_,_,_,_,_,rfl,⟨I6,by omega,by omega⟩,by omega⟩⟩
       ·exact wpS_pure ⟨S3.set _,_,_,_,_,_,_,rfl,⟨I6,by omega,by omega⟩,by omega⟩
      ·rw[if_neg hk2]
       have z2:k2=0:=by omega
       subst z2
       have I6:MG K (a.toList++b.toList) (((o++a.extract i (i+k)).push xb).push xa).toList (a.toList.drop (i+k+1)) (b.toList.drop (j+1)):=by
        rw[Array.toList_push]
        exact MG.gG (by rw[<-da];exact I4) u2
       refine wpS_bind (aX ea ?_)
       by_cases c7:(i+k+1+1==a.size)=true
       ·rw[if_pos c7]
        exact wpS_pure ⟨S3.set _,.inl ⟨_,_,rfl,LI.fla I6 (by simpa using c7) h2⟩⟩
       rw[if_neg c7]
       have n7:i+k+1+1≠a.size:=λe=>c7 (by rw[e];simp)
       split
       ·exact wpS_pure ⟨S3.set _,.inr ⟨_,_,_,_,_,_,rfl,⟨I6,by omega,by omega⟩,by omega⟩⟩
       ·exact wpS_pure ⟨S3.set _,_,_,_,_,_,_,rfl,⟨I6,by omega,by omega⟩,by omega⟩
     ·rw[if_neg hk0]
      have z0:k=0:=by omega
      subst z0
      replace J:=I2
      obtain⟨xa,ea,ma,da⟩:=iF (a:=a) (i:=i) (by omega)
      have sa':=J.sa
      rw[da]at sa'
      have I4:MG K (a.toList++b.toList) (o.push xb).toList (a.toList.drop (i)) (b.toList.drop (j+1)):=by
       rw[Array.toList_push]
       exact MG.nv (by rw[<-db];exact J) λz hz=>Int.le_of_lt (tJ z hz)
      refine wpS_bind (aX eb ?_)
      by_cases c5:(j+1==b.size)=true
      ·rw[if_pos c5]
       exact wpS_pure ⟨S3.set _,.inl ⟨_,_,rfl,LI.fin I4 (.inr (by simpa using c5))⟩⟩
      rw[if_neg c5]
      have n5:j+1≠b.size:=λe=>c5 (by rw[e];simp)
      refine wpS_bind (aX ea (wpS_bind (jY hL ((S3.set _).1.trans hk) (b.toList.drop (j+1)) (λz hz=>by simp) (by simp) (λx hx=>Db x (List.mem_of_mem_drop hx)) (Da _ ma) I4.sb (by omega) λk2 hk2 u1 u2=> ?_)))
      simp only[if_true]at u1 u2
      rw[List.drop_drop]at u2
      dsimp only
      have I5:MG K (a.toList++b.toList) (o.push xb++b.extract (j+1) (j+1+k2)).toList (a.toList.drop (i)) (b.toList.drop (j+1+k2)):=by
       rw[Array.toList_append,mZ]
       refine MG.rf (by rw[<-iu];exact I4) λx hx y hy=> ?_
       rw[da]at hy
       exact Int.le_trans (Int.le_of_lt (u1 x hx)) (dU sa' y hy)
      by_cases hk2:k2>0
      ·rw[if_pos hk2]
       by_cases c6:(j+1+k2==b.size)=true
       ·rw[if_pos c6]
        exact wpS_pure ⟨S3.set _,.inl ⟨_,_,rfl,LI.fin I5 (.inr (by simpa using c6))⟩⟩
       rw[if_neg c6]
       have n6:j+1+k2≠b.size:=λe=>c6 (by rw[e];simp)
       have I6:MG K (a.toList++b.toList) ((o.push xb++b.extract (j+1) (j+1+k2)).push xa).toList (a.toList.drop (i+1)) (b.toList.drop (j+1+k2)):=by
        rw[Array.toList_push]
        exact MG.gG (by rw[<-da];exact I5) u2
       refine wpS_bind (aX ea ?_)
       by_cases c7:(i+1+1==a.size)=true
       ·rw[if_pos c7]
        exact wpS_pure ⟨S3.set _,.inl ⟨_,_,rfl,LI.fla I6 (by simpa using c7) h2⟩⟩
       rw[if_neg c7]
       have n7:i+1+1≠a.size:=λe=>c7 (by rw[e];simp)
       split
       ·exact wpS_pure ⟨S3.set _,.inr ⟨_,_,_,_,_,_,rfl,⟨I6,by omega,by omega⟩,by omega⟩⟩
       ·exact wpS_pure ⟨S3.set _,_,_,_,_,_,_,rfl,⟨I6,by omega,by omega⟩,by omega⟩
      ·rw[if_neg hk2]
       have z2:k2=0:=by omega
       subst z2
       have I6:MG K (a.toList++b.toList) ((o.push xb).push xa).toList (a.toList.drop (i+1)) (b.toList.drop (j+1)):=by
        rw[Array.toList_push]
        exact MG.gG (by rw[<-da];exact I4) u2
       refine wpS_bind (aX ea ?_)
       by_cases c7:(i+1+1==a.size)=true
       ·rw[if_pos c7]
        exact wpS_pure ⟨S3.set _,.inl ⟨_,_,rfl,LI.fla I6 (by simpa using c7) h2⟩⟩
       rw[if_neg c7]
       have n7:i+1+1≠a.size:=λe=>c7 (by rw[e];simp)
       split
       ·exact wpS_pure ⟨S3.set _,.inr ⟨_,_,_,_,_,_,rfl,⟨I6,by omega,by omega⟩,by omega⟩⟩
       ·exact wpS_pure ⟨S3.set _,_,_,_,_,_,_,rfl,⟨I6,by omega,by omega⟩,by omega⟩
   ·rintro c s3 ⟨S3,o,i,j,g,ca,cb,rfl,⟨I2,l1,l2⟩,p2⟩
    omega
   ·rintro c s3 ⟨S3,⟨r,z,rfl,hr⟩|⟨o,i,j,g,ca,cb,rfl,I2,p2⟩⟩
    ·exact wpS_pure ⟨S3,r,_,rfl,hr⟩
    dsimp only
    rw[p9]
    exact wpS_bind (wpS_modify (wpS_pure ⟨S3.set _,_,_,_,_,rfl,I2,by omega⟩))
 ·rintro c s1 ⟨S1,o,i,j,g,rfl,⟨I1,l1,l2⟩,p1⟩
  omega
 ·rintro c s1 ⟨S1,r,z,rfl,hr⟩
  exact wpS_pure (hq r s1 S1 hr)
end
theorem Mf(a b:Array Keyed):Rn a b=(do
 rule "list.sort.merge-hi"
 let tt:=a.size+b.size
 let fin (o:Array Keyed) (i j:Nat):=a.extract 0 i++b.extract 0 j++o.reverse
 let AN (o:Array Keyed) (i j:Nat):=b.extract 0 j++a.extract 0 i++o.reverse
 let mut i:=a.size-1
 let mut j:=b.size
 let mut o:Array Keyed:= #[<-elem' a i]
 if i==0 then return fin o i j
 if j==1 then return AN o i j
 let mut g:=gallopOf (<-get)
 for _ in [0:tt] do
  let mut ca:=0
  let mut cb:=0
  for _ in [0:tt] do
   let some aw<-lt' (<-elem' b (j-1)) (<-elem' a (i-1))|return fin o i j
   if aw then
    i:=i-1;o:=o.push (<-elem' a i);ca:=ca+1;cb:=0
    if i==0 then return fin o i j
    if ca≥g then break
   else
    j:=j-1;o:=o.push (<-elem' b j);cb:=cb+1;ca:=0
    if j==1 then return AN o i j
    if cb≥g then break
  rule "list.sort.gallop"
  g:=g+1
  for _ in [0:tt] do
   if g>1 then g:=g-1
   OE g
   let some at_<-Js false (<-elem' b (j-1)) a 0 i (i-1)|return fin o i j
   let k:=i-at_
   ca:=k
   if k>0 then
    o:=o++(a.extract at_ i).reverse;i:=at_
    if i==0 then return fin o i j
   j:=j-1;o:=o.push (<-elem' b j)
   if j==1 then return AN o i j
   let some at_<-Js true (<-elem' a (i-1)) b 0 j (j-1)|return fin o i j
   let k:=j-at_
   cb:=k
   if k>0 then
    o:=o++(b.extract at_ j).reverse;j:=at_
    if j==1 then return AN o i j
    if j==0 then return fin o i j
   i:=i-1;o:=o.push (<-elem' a i)
   if i==0 then return fin o i j
   if ca<7 && cb<7 then break
  g:=g+1
  OE g
 @unsupported _ "internal:list.sort.merge-bound"):=rfl
section
variable{prog:Program}{w:World}{A:Around}{E:Value->Shared->Prop}{s:Shared}{κ:SortKind}{K:Keyed->Int}{D:Keyed->Prop}{st:SortSt}
abbrev rv(a:Array Keyed)(i:Nat):List Keyed:=(a.toList.take i).reverse
abbrev MH(K:Keyed->Int)(a b o:Array Keyed)(i j:Nat):Prop:=MG (λx=> -(K x)) (a.toList++b.toList) o.toList (rv a i) (rv b j)
theorem pC{a:Array Keyed}{i:Nat}(h0:0<i)(h:i<=a.size):∃x,a[i-1]?=some x/\x∈a.toList/\rv a i=x::rv a (i-1):=by
 have h1:i-1<a.toList.length:=by simp;omega
 refine⟨a[i-1]'(by omega),getElem?_pos a (i-1) (by omega),by simp,?_⟩
 have e:a.toList.take i=a.toList.take (i-1)++ [a[i-1]'(by omega)]:=by
  have:=List.take_add_one (l:=a.toList) (i:=i-1)
  rw[show i-1+1=i by omega]at this
  rw[this,List.getElem?_eq_getElem h1]
  simp
 show(a.toList.take i).reverse=_
 rw[e,List.reverse_append]
 rfl
theorem kP(a:Array Keyed){i k:Nat}(h:k<=i):rv a i=((a.toList.take i).drop k).reverse++rv a k:=by
 show(a.toList.take i).reverse=_++(a.toList.take k).reverse
 rw[<-List.reverse_append]
 congr 1
 conv=>lhs;rw[<-List.take_append_drop k (a.toList.take i)]
 rw[List.take_take,Nat.min_eq_left h]
theorem qa{a:Array Keyed}{i k:Nat}:(a.extract k i).reverse.toList=((a.toList.take i).drop k).reverse:=by
 simp[List.drop_take]
theorem ze{K:Keyed->Int}{l:List Keyed}(h:l.Pairwise λx y=>K x<=K y):l.reverse.Pairwise λx y=> -(K x)<= -(K y):=
 List.pairwise_reverse.mpr (h.imp λq=>Int.neg_le_neg q)
theorem GG{K:Keyed->Int}{l:List Keyed}(h:l.Pairwise λx y=> -(K x)<= -(K y)):l.reverse.Pairwise λx y=>K x<=K y:=
 List.pairwise_reverse.mpr (h.imp λq=>by omega)
theorem Good.rev{K:Keyed->Int}{tot l:List Keyed}(h:Good (λx=> -(K x)) tot l):Good K tot l.reverse:=⟨(List.reverse_perm _).trans h.1,GG h.2⟩
theorem OI{K:Keyed->Int}{a:Array Keyed}{i:Nat}(h:a.toList.Pairwise λx y=>K x<=K y):(rv a i).Pairwise λx y=> -(K x)<= -(K y):=ze (List.Pairwise.sublist (List.take_sublist _ _) h)
theorem MH.fin{a b o:Array Keyed}{i j:Nat}(h:MH K a b o i j)(hj:i=0∨j=0):Good K (a.toList++b.toList) (a.extract 0 i++b.extract 0 j++o.reverse).toList:=by
 have e:(a.extract 0 i++b.extract 0 j++o.reverse).toList=(o.toList++(rv b j++rv a i)).reverse:=by
  simp[rv,List.reverse_append,List.append_assoc]
 rw[e]
 refine(MG.fin h List.perm_append_comm ?_).rev
 rcases hj with rfl|rfl
 ·rw[show rv a 0=[]from rfl,List.append_nil]
  exact h.sb
 ·rw[show rv b 0=[]from rfl,List.nil_append]
  exact h.sa
theorem MH.AN{a b o:Array Keyed}{i j:Nat}(h:MH K a b o i j)(hj:j=1)(hl:∀y∈b.toList.take 1,∀x∈a.toList,K y<=K x):Good K (a.toList++b.toList) (b.extract 0 j++a.extract 0 i++o.reverse).toList:=by
 have e:(b.extract 0 j++a.extract 0 i++o.reverse).toList=(o.toList++(rv a i++rv b j)).reverse:=by
  simp[rv,List.reverse_append,List.append_assoc]
 rw[e]
 refine(MG.fin h (.refl _) (List.pairwise_append.mpr ⟨h.sa,h.sb,λx hx y hy=> ?_⟩)).rev
 subst hj
 have:=hl y (List.mem_reverse.mp hy) x (List.mem_of_mem_take (List.mem_reverse.mp hx))
 show-(K x)<= -(K y)
 omega
theorem OJ(hL:pB prog w A E s κ K D){a b:Array Keyed}{Q:Array Keyed->SortSt->Prop}(hk:kindOf st=κ)(ha:0<a.size)(hb:0<b.size)(Da:∀x∈a.toList,D x)(Db:∀x∈b.toList,D x)
  (sa:a.toList.Pairwise λx y=>K x<=K y)(sb:b.toList.Pairwise λx y=>K x<=K y)(h1:∀y∈b.toList.take 1,∀x∈a.toList,K y<=K x)(h2:∀y∈b.toList,∀x∈a.toList.drop (a.size-1),K y<=K x)
  (hq:∀r st',Sg st st'->Good K (a.toList++b.toList) r.toList->Q r st'):wpS (model prog w) A E s (Rn a b) Q st:=by
 rw[Mf]
 refine wpS_bind (wpS_lift (wpAny_rule ⟨rfl,?_⟩))
 dsimp only
 obtain⟨a0,e0,m0,d0⟩:=pC (a:=a) (i:=a.size) ha (Nat.le_refl _)
 refine wpS_bind (aX e0 ?_)
 have M0:MH K a b #[a0] (a.size-1) b.size:=by
  have ea:a.toList.reverse=a0::rv a (a.size-1):=by
   rw[<-d0]
   show _=(a.toList.take a.size).reverse
   rw[List.take_of_length_le (by simp)]
  have eb:rv b b.size=b.toList.reverse:=by
   show(b.toList.take b.size).reverse=_
   rw[List.take_of_length_le (by simp)]
  have sa':=ze sa
  rw[ea]at sa'
  refine⟨?_,List.pairwise_singleton _ _,(List.pairwise_cons.mp sa').2,OI sb,λx hx y hy=> ?_,λx hx y hy=> ?_⟩
  ·show([a0]++(rv a (a.size-1)++rv b b.size)).Perm _
   rw[List.singleton_append,<-List.cons_append,<-ea,eb]
   exact List.Perm.append (List.reverse_perm _) (List.reverse_perm _)
  ·rw[List.mem_singleton.mp hx]
   exact(List.pairwise_cons.mp sa').1 y hy
  ·rw[List.mem_singleton.mp hx]
   have:K y<=K a0:=by
    refine h2 y (by rw[eb]at hy;exact List.mem_reverse.mp hy) a0 ?_
    obtain⟨x,e1,e2,e3⟩:=iF (a:=a) (i:=a.size-1) (by omega)
    rw[e0]at e1
    rw[e3,<-Option.some.inj e1]
    exact List.mem_cons_self
   show-(K a0)<= -(K y)
   omega
 by_cases c1:(a.size-1==0)=true
 ·rw[if_pos c1]
  exact wpS_pure (hq _ _ (Sg.refl _) (M0.fin (.inl (by simpa using c1))))
 rw[if_neg c1]
 by_cases c2:(b.size==1)=true
 ·rw[if_pos c2]
  exact wpS_pure (hq _ _ (Sg.refl _) (M0.AN (by simpa using c2) h1))
 rw[if_neg c2]
 have n1:a.size-1≠0:=λe=>c1 (by rw[e];rfl)
 have n2:b.size≠1:=λe=>c2 (by rw[e];rfl)
 refine wpS_bind (wpS_get ?_)
 refine wpS_bind (wpS_mono (wpS_forRange (I:=λx c st'=>Sg st st'/\ ∃i j o g,c=(none,i,j,o,g)/\(MH K a b o i j/\0<i/\i<=a.size/\1<j/\j<=b.size)/\x+i+j<=a.size+b.size)
  (Q:=λc st'=>Sg st st'/\ ∃r z,c=(some r,z)/\Good K (a.toList++b.toList) r.toList) ?_ ?_ ⟨Sg.refl _,_,_,_,_,rfl,⟨M0,by omega,by omega,by omega,by omega⟩,by omega⟩) ?_)
 ·rintro x c s1 _ hx ⟨S1,i,j,o,g,rfl,I1,p1⟩
  dsimp only
  refine wpS_bind (wpS_mono (wpS_forRange (I:=λy c st'=>Sg st st'/\ ∃i j o ca cb,c=(none,i,j,o,ca,cb)/\(MH K a b o i j/\0<i/\i<=a.size/\1<j/\j<=b.size)/\y+x+i+j<=a.size+b.size)
   (Q:=λc st'=>Sg st st'/\((∃r z,c=(some r,z)/\Good K (a.toList++b.toList) r.toList)∨ ∃i j o ca cb,c=(none,i,j,o,ca,cb)/\(MH K a b o i j/\0<i/\i<=a.size/\1<j/\j<=b.size)/\x+1+i+j<=a.size+b.size)) ?_ ?_ ⟨S1,i,j,o,_,_,rfl,I1,by omega⟩) ?_)
  ·rintro y c s2 _ hy ⟨S2,i,j,o,ca,cb,rfl,⟨I2,l1,l2,l3,l4⟩,p2⟩
   dsimp only
   obtain⟨xb,eb,mb,db⟩:=pC (a:=b) (i:=j) (by omega) l4
   obtain⟨xa,ea,ma,da⟩:=pC (a:=a) (i:=i) l1 l2
   have sa':=I2.sa
   have sb':=I2.sb
   rw[da]at sa'
   rw[db]at sb'
   refine wpS_bind (aX eb (wpS_bind (aX ea (wpS_bind (hL s2 xb xa _ (S2.1.trans hk) (Db _ mb) (Da _ ma) ?_)))))
   dsimp only
   by_cases lt:K xb<K xa
   ·rw[decide_eq_true lt,if_pos rfl]
    have I3:MH K a b (o.push xa) (i-1) j:=by
     show MG _ _ (o.push xa).toList _ _
     rw[Array.toList_push]
     refine MG.gG (by rw[<-da];exact I2) λz hz=> ?_
     rw[db]at hz
     exact Int.le_trans (by show-(K xa)<= -(K xb);omega) (dU sb' z hz)
    refine wpS_bind (aX ea ?_)
    by_cases c3:(i-1==0)=true
    ·rw[if_pos c3]
     exact wpS_pure ⟨S2,.inl ⟨_,_,rfl,I3.fin (.inl (by simpa using c3))⟩⟩
    rw[if_neg c3]
    have n3:i-1≠0:=λe=>c3 (by rw[e];rfl)
    split
    ·exact wpS_pure ⟨S2,.inr ⟨_,_,_,_,_,rfl,⟨I3,by omega,by omega,by omega,by omega⟩,by omega⟩⟩
    ·exact wpS_pure ⟨S2,_,_,_,_,_,rfl,⟨I3,by omega,by omega,by omega,by omega⟩,by omega⟩
   ·rw[decide_eq_false lt,if_neg (by simp)]
    have I3:MH K a b (o.push xb) i (j-1):=by
     show MG _ _ (o.push xb).toList _ _
     rw[Array.toList_push]
     refine MG.nv (by rw[<-db];exact I2) λz hz=> ?_
     rw[da]at hz
     exact Int.le_trans (by show-(K xb)<= -(K xa);omega) (dU sa' z hz)
    refine wpS_bind (aX eb ?_)
    by_cases c3:(j-1==1)=true
    ·rw[if_pos c3]
     exact wpS_pure ⟨S2,.inl ⟨_,_,rfl,I3.AN (by simpa using c3) h1⟩⟩
    rw[if_neg c3]
    have n3:j-1≠1:=λe=>c3 (by rw[e];rfl)
    split
    ·exact wpS_pure ⟨S2,.inr ⟨_,_,_,_,_,rfl,⟨I3,by omega,by omega,by omega,by omega⟩,by omega⟩⟩
    ·exact wpS_pure ⟨S2,_,_,_,_,_,rfl,⟨I3,by omega,by omega,by omega,by omega⟩,by omega⟩
  ·rintro c s2 ⟨S2,i,j,o,ca,cb,rfl,⟨I2,l1,l2,l3,l4⟩,p2⟩
   omega
  ·rintro c s2 ⟨S2,⟨r,z,rfl,hr⟩|⟨i,j,o,ca,cb,rfl,I2,p2⟩⟩
   ·exact wpS_pure ⟨S2,r,_,rfl,hr⟩
   dsimp only
   refine wpS_bind (wpS_lift (wpAny_rule ⟨rfl,?_⟩))
   refine wpS_bind (wpS_mono (wpS_forRange (I:=λy c st'=>Sg st st'/\ ∃i j o g ca cb,c=(none,i,j,o,g,ca,cb)/\(MH K a b o i j/\0<i/\i<=a.size/\1<j/\j<=b.size)/\y+x+1+i+j<=a.size+b.size)
    (Q:=λc st'=>Sg st st'/\((∃r z,c=(some r,z)/\Good K (a.toList++b.toList) r.toList)∨ ∃i j o g ca cb,c=(none,i,j,o,g,ca,cb)/\(MH K a b o i j/\0<i/\i<=a.size/\1<j/\j<=b.size)/\x+1+i+j<=a.size+b.size)) ?_ ?_ ⟨S2,_,_,_,_,_,_,rfl,I2,by omega⟩) ?_)
   ·rintro y c s3 _ hy ⟨S3,i,j,o,g,ca,cb,rfl,⟨I2,l1,l2,l3,l4⟩,p2⟩
    dsimp only
    by_cases hg:g>1
    ·rw[if_pos hg]
     rw[p9]
     refine wpS_bind (wpS_modify ?_)
     obtain⟨xb,eb,mb,db⟩:=pC (a:=b) (i:=j) (by omega) l4
     have sb':=I2.sb
     rw[db]at sb'
     refine wpS_bind (aX eb (wpS_bind (jY hL ((S3.set _).1.trans hk) (a.toList.take i) (λz hz=>by rw[Nat.zero_add,List.getElem?_take_of_lt hz];simp) (by simp;omega) (λx hx=>Da x (List.mem_of_mem_take hx)) (Db _ mb) (List.Pairwise.sublist (List.take_sublist _ _) sa) (by omega) λk hk1 t1 t2=> ?_)))
     simp only[Bool.false_eq_true,if_false]at t1 t2
     rw[List.take_take,Nat.min_eq_left hk1]at t1
     dsimp only
     have J:MH K a b (o++(a.extract k i).reverse) k j:=by
      show MG _ _ (o++(a.extract k i).reverse).toList _ _
      rw[Array.toList_append,qa]
      refine MG.v8 (by rw[<-kP a hk1];exact I2) λx hx y hy=> ?_
      rw[db]at hy
      have:=t2 x (List.mem_reverse.mp hx)
      exact Int.le_trans (by show-(K x)<= -(K xb);omega) (dU sb' y hy)
     have tJ:=t1
     by_cases hk0:i-k>0
     ·rw[if_pos hk0]
      by_cases c4:(k==0)=true
      ·rw[if_pos c4]
       exact wpS_pure ⟨S3.set _,.inl ⟨_,_,rfl,J.fin (.inl (by simpa using c4))⟩⟩
      rw[if_neg c4]
      have n4:k≠0:=λe=>c4 (by rw[e];rfl)
      obtain⟨xa,ea,ma,da⟩:=pC (a:=a) (i:=k) (by omega) (by omega)
      have sa':=J.sa
      rw[da]at sa'
      have I4:MH K a b ((o++(a.extract k i).reverse).push xb) (k) (j-1):=by
       show MG _ _ ((o++(a.extract k i).reverse).push xb).toList _ _
       rw[Array.toList_push]
       refine MG.nv (by rw[<-db];exact J) λz hz=> ?_
       have:=tJ z (List.mem_reverse.mp hz)
       show-(K xb)<= -(K z)
       omega
      refine wpS_bind (aX eb ?_)
      by_cases c5:(j-1==1)=true
      ·rw[if_pos c5]
       exact wpS_pure ⟨S3.set _,.inl ⟨_,_,rfl,I4.AN (by simpa using c5) h1⟩⟩
      rw[if_neg c5]
      have n5:j-1≠1:=λe=>c5 (by rw[e];rfl)
      refine wpS_bind (aX ea (wpS_bind (jY hL ((S3.set _).1.trans hk) (b.toList.take (j-1)) (λz hz=>by rw[Nat.zero_add,List.getElem?_take_of_lt hz];simp) (by simp;omega) (λx hx=>Db x (List.mem_of_mem_take hx)) (Da _ ma) (List.Pairwise.sublist (List.take_sublist _ _) sb) (by omega) λk2 hk2 u1 u2=> ?_)))
      simp only[if_true]at u1 u2
      rw[List.take_take,Nat.min_eq_left hk2]at u1
      dsimp only
      have I5:MH K a b ((o++(a.extract k i).reverse).push xb++(b.extract k2 (j-1)).reverse) (k) k2:=by
       show MG _ _ ((o++(a.extract k i).reverse).push xb++(b.extract k2 (j-1)).reverse).toList _ _
       rw[Array.toList_append,qa]
       refine MG.rf (by rw[<-kP b hk2];exact I4) λx hx y hy=> ?_
       rw[da]at hy
       have:=u2 x (List.mem_reverse.mp hx)
       exact Int.le_trans (by show-(K x)<= -(K xa);omega) (dU sa' y hy)
      have mE:∀y∈rv b k2,-(K xa)<= -(K y):=λy hy=>by
       have:=u1 y (List.mem_reverse.mp hy)
       omega
      by_cases tQ:j-1-k2>0
      ·rw[if_pos tQ]
       by_cases c6:(k2==1)=true
       ·rw[if_pos c6]
        exact wpS_pure ⟨S3.set _,.inl ⟨_,_,rfl,I5.AN (by simpa using c6) h1⟩⟩
       rw[if_neg c6]
       have n6:k2≠1:=λe=>c6 (by rw[e];rfl)
       by_cases c8:(k2==0)=true
       ·rw[if_pos c8]
        exact wpS_pure ⟨S3.set _,.inl ⟨_,_,rfl,I5.fin (.inr (by simpa using c8))⟩⟩
       rw[if_neg c8]
       have n8:k2≠0:=λe=>c8 (by rw[e];rfl)
       have I6:MH K a b (((o++(a.extract k i).reverse).push xb++(b.extract k2 (j-1)).reverse).push xa) (k-1) k2:=by
        show MG _ _ (((o++(a.extract k i).reverse).push xb++(b.extract k2 (j-1)).reverse).push xa).toList _ _
        rw[Array.toList_push]
        exact MG.gG (by rw[<-da];exact I5) mE
       refine wpS_bind (aX ea ?_)
       by_cases c7:(k-1==0)=true
       ·rw[if_pos c7]
        exact wpS_pure ⟨S3.set _,.inl ⟨_,_,rfl,I6.fin (.inl (by simpa using c7))⟩⟩
       rw[if_neg c7]
       have n7:k-1≠0:=λe=>c7 (by rw[e];rfl)
       split
       ·exact wpS_pure ⟨S3.set _,.inr ⟨_,_,_,_,_,_,rfl,⟨I6,by omega,by omega,by omega,by omega⟩,by omega⟩⟩
       ·exact wpS_pure ⟨S3.set _,_,_,_,_,_,_,rfl,⟨I6,by omega,by omega,by omega,by omega⟩,by omega⟩
      ·rw[if_neg tQ]
       have z2:k2=j-1:=by omega
       subst z2
       have I6:MH K a b (((o++(a.extract k i).reverse).push xb).push xa) (k-1) (j-1):=by
        show MG _ _ (((o++(a.extract k i).reverse).push xb).push xa).toList _ _
        rw[Array.toList_push]
        exact MG.gG (by rw[<-da];exact I4) mE
       refine wpS_bind (aX ea ?_)
       by_cases c7:(k-1==0)=true
       ·rw[if_pos c7]
        exact wpS_pure ⟨S3.set _,.inl ⟨_,_,rfl,I6.fin (.inl (by simpa using c7))⟩⟩
       rw[if_neg c7]
       have n7:k-1≠0:=λe=>c7 (by rw[e];rfl)
       split
       ·exact wpS_pure ⟨S3.set _,.inr ⟨_,_,_,_,_,_,rfl,⟨I6,by omega,by omega,by omega,by omega⟩,by omega⟩⟩
       ·exact wpS_pure ⟨S3.set _,_,_,_,_,_,_,rfl,⟨I6,by omega,by omega,by omega,by omega⟩,by omega⟩
     ·rw[if_neg hk0]
      have z0:k=i:=by omega
      subst z0
      replace J:=I2
      obtain⟨xa,ea,ma,da⟩:=pC (a:=a) (i:=k) (by omega) (by omega)
      have sa':=J.sa
      rw[da]at sa'
      have I4:MH K a b (o.push xb) (k) (j-1):=by
       show MG _ _ (o.push xb).toList _ _
       rw[Array.toList_push]
       refine MG.nv (by rw[<-db];exact J) λz hz=> ?_
       have:=tJ z (List.mem_reverse.mp hz)
       show-(K xb)<= -(K z)
       omega
      refine wpS_bind (aX eb ?_)
      by_cases c5:(j-1==1)=true
      ·rw[if_pos c5]
       exact wpS_pure ⟨S3.set _,.inl ⟨_,_,rfl,I4.AN (by simpa using c5) h1⟩⟩
      rw[if_neg c5]
      have n5:j-1≠1:=λe=>c5 (by rw[e];rfl)
      refine wpS_bind (aX ea (wpS_bind (jY hL ((S3.set _).1.trans hk) (b.toList.take (j-1)) (λz hz=>by rw[Nat.zero_add,List.getElem?_take_of_lt hz];simp) (by simp;omega) (λx hx=>Db x (List.mem_of_mem_take hx)) (Da _ ma) (List.Pairwise.sublist (List.take_sublist _ _) sb) (by omega) λk2 hk2 u1 u2=> ?_)))
      simp only[if_true]at u1 u2
      rw[List.take_take,Nat.min_eq_left hk2]at u1
      dsimp only
      have I5:MH K a b (o.push xb++(b.extract k2 (j-1)).reverse) (k) k2:=by
       show MG _ _ (o.push xb++(b.extract k2 (j-1)).reverse).toList _ _
       rw[Array.toList_append,qa]
       refine MG.rf (by rw[<-kP b hk2];exact I4) λx hx y hy=> ?_
       rw[da]at hy
       have:=u2 x (List.mem_reverse.mp hx)
       exact Int.le_trans (by show-(K x)<= -(K xa);omega) (dU sa' y hy)
      have mE:∀y∈rv b k2,-(K xa)<= -(K y):=λy hy=>by
       have:=u1 y (List.mem_reverse.mp hy)
       omega
      by_cases tQ:j-1-k2>0
      ·rw[if_pos tQ]
       by_cases c6:(k2==1)=true
       ·rw[if_pos c6]
        exact wpS_pure ⟨S3.set _,.inl ⟨_,_,rfl,I5.AN (by simpa using c6) h1⟩⟩
       rw[if_neg c6]
       have n6:k2≠1:=λe=>c6 (by rw[e];rfl)
       by_cases c8:(k2==0)=true
       ·rw[if_pos c8]
        exact wpS_pure ⟨S3.set _,.inl ⟨_,_,rfl,I5.fin (.inr (by simpa using c8))⟩⟩
       rw[if_neg c8]
       have n8:k2≠0:=λe=>c8 (by rw[e];rfl)
       have I6:MH K a b ((o.push xb++(b.extract k2 (j-1)).reverse).push xa) (k-1) k2:=by
        show MG _ _ ((o.push xb++(b.extract k2 (j-1)).reverse).push xa).toList _ _
        rw[Array.toList_push]
        exact MG.gG (by rw[<-da];exact I5) mE
       refine wpS_bind (aX ea ?_)
       by_cases c7:(k-1==0)=true
       ·rw[if_pos c7]
        exact wpS_pure ⟨S3.set _,.inl ⟨_,_,rfl,I6.fin (.inl (by simpa using c7))⟩⟩
       rw[if_neg c7]
       have n7:k-1≠0:=λe=>c7 (by rw[e];rfl)
       split
       ·exact wpS_pure ⟨S3.set _,.inr ⟨_,_,_,_,_,_,rfl,⟨I6,by omega,by omega,by omega,by omega⟩,by omega⟩⟩
       ·exact wpS_pure ⟨S3.set _,_,_,_,_,_,_,rfl,⟨I6,by omega,by omega,by omega,by omega⟩,by omega⟩
      ·rw[if_neg tQ]
       have z2:k2=j-1:=by omega
       subst z2
       have I6:MH K a b ((o.push xb).push xa) (k-1) (j-1):=by
        show MG _ _ ((o.push xb).push xa).toList _ _
        rw[Array.toList_push]
        exact MG.gG (by rw[<-da];exact I4) mE
       refine wpS_bind (aX ea ?_)
       by_cases c7:(k-1==0)=true
       ·rw[if_pos c7]
        exact wpS_pure ⟨S3.set _,.inl ⟨_,_,rfl,I6.fin (.inl (by simpa using c7))⟩⟩
       rw[if_neg c7]
       have n7:k-1≠0:=λe=>c7 (by rw[e];rfl)
       split
       ·exact wpS_pure ⟨S3.set _,.inr ⟨_,_,_,_,_,_,rfl,⟨I6,by omega,by omega,by omega,by omega⟩,by omega⟩⟩
       ·exact wpS_pure ⟨S3.set _,_,_,_,_,_,_,rfl,⟨I6,by omega,by omega,by omega,by omega⟩,by omega⟩
    ·rw[if_neg hg]
     rw[p9]
     refine wpS_bind (wpS_modify ?_)
     obtain⟨xb,eb,mb,db⟩:=pC (a:=b) (i:=j) (by omega) l4
     have sb':=I2.sb
     rw[db]at sb'
     refine wpS_bind (aX eb (wpS_bind (jY hL ((S3.set _).1.trans hk) (a.toList.take i) (λz hz=>by rw[Nat.zero_add,List.getElem?_take_of_lt hz];simp) (by simp;omega) (λx hx=>Da x (List.mem_of_mem_take hx)) (Db _ mb) (List.Pairwise.sublist (List.take_sublist _ _) sa) (by omega) λk hk1 t1 t2=> ?_)))
     simp only[Bool.false_eq_true,if_false]at t1 t2
     rw[List.take_take,Nat.min_eq_left hk1]at t1
     dsimp only
     have J:MH K a b (o++(a.extract k i).reverse) k j:=by
      show MG _ _ (o++(a.extract k i).reverse).toList _ _
      rw[Array.toList_append,qa]
      refine MG.v8 (by rw[<-kP a hk1];exact I2) λx hx y hy=> ?_
      rw[db]at hy
      have:=t2 x (List.mem_reverse.mp hx)
      exact Int.le_trans (by show-(K x)<= -(K xb);omega) (dU sb' y hy)
     have tJ:=t1
     by_cases hk0:i-k>0
     ·rw[if_pos hk0]
      by_cases c4:(k==0)=true
      ·rw[if_pos c4]
       exact wpS_pure ⟨S3.set _,.inl ⟨_,_,rfl,J.fin (.inl (by simpa using c4))⟩⟩
      rw[if_neg c4]
      have n4:k≠0:=λe=>c4 (by rw[e];rfl)
      obtain⟨xa,ea,ma,da⟩:=pC (a:=a) (i:=k) (by omega) (by omega)
      have sa':=J.sa
      rw[da]at sa'
      have I4:MH K a b ((o++(a.extract k i).reverse).push xb) (k) (j-1):=by
       show MG _ _ ((o++(a.extract k i).reverse).push xb).toList _ _
       rw[Array.toList_push]
       refine MG.nv (by rw[<-db];exact J) λz hz=> ?_
       have:=tJ z (List.mem_reverse.mp hz)
       show-(K xb)<= -(K z)
       omega
      refine wpS_bind (aX eb ?_)
      by_cases c5:(j-1==1)=true
      ·rw[if_pos c5]
       exact wpS_pure ⟨S3.set _,.inl ⟨_,_,rfl,I4.AN (by simpa using c5) h1⟩⟩
      rw[if_neg c5]
      have n5:j-1≠1:=λe=>c5 (by rw[e];rfl)
      refine wpS_bind (aX ea (wpS_bind (jY hL ((S3.set _).1.trans hk) (b.toList.take (j-1)) (λz hz=>by rw[Nat.zero_add,List.getElem?_take_of_lt hz];simp) (by simp;omega) (λx hx=>Db x (List.mem_of_mem_take hx)) (Da _ ma) (List.Pairwise.sublist (List.take_sublist _ _) sb) (by omega) λk2 hk2 u1 u2=> ?_)))
      simp only[if_true]at u1 u2
      rw[List.take_take,Nat.min_eq_left hk2]at u1
      dsimp only
      have I5:MH K a b ((o++(a.extract k i).reverse).push xb++(b.extract k2 (j-1)).reverse) (k) k2:=by
       show MG _ _ ((o++(a.extract k i).reverse).push xb++(b.extract k2 (j-1)).reverse).toList _ _
       rw[Array.toList_append,qa]
       refine MG.rf (by rw[<-kP b hk2];exact I4) λx hx y hy=> ?_
       rw[da]at hy
       have:=u2 x (List.mem_reverse.mp hx)
       exact Int.le_trans (by show-(K x)<= -(K xa);omega) (dU sa' y hy)
      have mE:∀y∈rv b k2,-(K xa)<= -(K y):=λy hy=>by
       have:=u1 y (List.mem_reverse.mp hy)
       omega
      by_cases tQ:j-1-k2>0
      ·rw[if_pos tQ]
       by_cases c6:(k2==1)=true
       ·rw[if_pos c6]
        exact wpS_pure ⟨S3.set _,.inl ⟨_,_,rfl,I5.AN (by simpa using c6) h1⟩⟩
       rw[if_neg c6]
       have n6:k2≠1:=λe=>c6 (by rw[e];rfl)
       by_cases c8:(k2==0)=true
       ·rw[if_pos c8]
        exact wpS_pure ⟨S3.set _,.inl ⟨_,_,rfl,I5.fin (.inr (by simpa using c8))⟩⟩
       rw[if_neg c8]
       have n8:k2≠0:=λe=>c8 (by rw[e];rfl)
       have I6:MH K a b (((o++(a.extract k i).reverse).push xb++(b.extract k2 (j-1)).reverse).push xa) (k-1) k2:=by
        show MG _ _ (((o++(a.extract k i).reverse).push xb++(b.extract k2 (j-1)).reverse).push xa).toList _ _
        rw[Array.toList_push]
        exact MG.gG (by rw[<-da];exact I5) mE
       refine wpS_bind (aX ea ?_)
       by_cases c7:(k-1==0)=true
       ·rw[if_pos c7]
        exact wpS_pure ⟨S3.set _,.inl ⟨_,_,rfl,I6.fin (.inl (by simpa using c7))⟩⟩
       rw[if_neg c7]
       have n7:k-1≠0:=λe=>c7 (by rw[e];rfl)
       split
       ·exact wpS_pure ⟨S3.set _,.inr ⟨_,_,_,_,_,_,rfl,⟨I6,by omega,by omega,by omega,by omega⟩,by omega⟩⟩
       ·exact wpS_pure ⟨S3.set _,_,_,_,_,_,_,rfl,⟨I6,by omega,by omega,by omega,by omega⟩,by omega⟩
      ·rw[if_neg tQ]
       have z2:k2=j-1:=by omega
       subst z2
       have I6:MH K a b (((o++(a.extract k i).reverse).push xb).push xa) (k-1) (j-1):=by
        show MG _ _ (((o++(a.extract k i).reverse).push xb).push xa).toList _ _
        rw[Array.toList_push]
        exact MG.gG (by rw[<-da];exact I4) mE
       refine wpS_bind (aX ea ?_)
       by_cases c7:(k-1==0)=true
       ·rw[if_pos c7]
        exact wpS_pure ⟨S3.set _,.inl ⟨_,_,rfl,I6.fin (.inl (by simpa using c7))⟩⟩
       rw[if_neg c7]
       have n7:k-1≠0:=λe=>c7 (by rw[e];rfl)
       split
       ·exact wpS_pure ⟨S3.set _,.inr ⟨_,_,_,_,_,_,rfl,⟨I6,by omega,by omega,by omega,by omega⟩,by omega⟩⟩
       ·exact wpS_pure ⟨S3.set _,_,_,_,_,_,_,rfl,⟨I6,by omega,by omega,by omega,by omega⟩,by omega⟩
     ·rw[if_neg hk0]
      have z0:k=i:=by omega
      subst z0
      replace J:=I2
      obtain⟨xa,ea,ma,da⟩:=pC (a:=a) (i:=k) (by omega) (by omega)
      have sa':=J.sa
      rw[da]at sa'
      have I4:MH K a b (o.push xb) (k) (j-1):=by
       show MG _ _ (o.push xb).toList _ _
       rw[Array.toList_push]
       refine MG.nv (by rw[<-db];exact J) λz hz=> ?_
       have:=tJ z (List.mem_reverse.mp hz)
       show-(K xb)<= -(K z)
       omega
      refine wpS_bind (aX eb ?_)
      by_cases c5:(j-1==1)=true
      ·rw[if_pos c5]
       exact wpS_pure ⟨S3.set _,.inl ⟨_,_,rfl,I4.AN (by simpa using c5) h1⟩⟩
      rw[if_neg c5]
      have n5:j-1≠1:=λe=>c5 (by rw[e];rfl)
      refine wpS_bind (aX ea (wpS_bind (jY hL ((S3.set _).1.trans hk) (b.toList.take (j-1)) (λz hz=>by rw[Nat.zero_add,List.getElem?_take_of_lt hz];simp) (by simp;omega) (λx hx=>Db x (List.mem_of_mem_take hx)) (Da _ ma) (List.Pairwise.sublist (List.take_sublist _ _) sb) (by omega) λk2 hk2 u1 u2=> ?_)))
      simp only[if_true]at u1 u2
      rw[List.take_take,Nat.min_eq_left hk2]at u1
      dsimp only
      have I5:MH K a b (o.push xb++(b.extract k2 (j-1)).reverse) (k) k2:=by
       show MG _ _ (o.push xb++(b.extract k2 (j-1)).reverse).toList _ _
       rw[Array.toList_append,qa]
       refine MG.rf (by rw[<-kP b hk2];exact I4) λx hx y hy=> ?_
       rw[da]at hy
       have:=u2 x (List.mem_reverse.mp hx)
       exact Int.le_trans (by show-(K x)<= -(K xa);omega) (dU sa' y hy)
      have mE:∀y∈rv b k2,-(K xa)<= -(K y):=λy hy=>by
       have:=u1 y (List.mem_reverse.mp hy)
       omega
      by_cases tQ:j-1-k2>0
      ·rw[if_pos tQ]
       by_cases c6:(k2==1)=true
       ·rw[if_pos c6]
        exact wpS_pure ⟨S3.set _,.inl ⟨_,_,rfl,I5.AN (by simpa using c6) h1⟩⟩
       rw[if_neg c6]
       have n6:k2≠1:=λe=>c6 (by rw[e];rfl)
       by_cases c8:(k2==0)=true
       ·rw[if_pos c8]
        exact wpS_pure ⟨S3.set _,.inl ⟨_,_,rfl,I5.fin (.inr (by simpa using c8))⟩⟩
       rw[if_neg c8]
       have n8:k2≠0:=λe=>c8 (by rw[e];rfl)
       have I6:MH K a b ((o.push xb++(b.extract k2 (j-1)).reverse).push xa) (k-1) k2:=by
        show MG _ _ ((o.push xb++(b.extract k2 (j-1)).reverse).push xa).toList _ _
        rw[Array.toList_push]
        exact MG.gG (by rw[<-da];exact I5) mE
       refine wpS_bind (aX ea ?_)
       by_cases c7:(k-1==0)=true
       ·rw[if_pos c7]
        exact wpS_pure ⟨S3.set _,.inl ⟨_,_,rfl,I6.fin (.inl (by simpa using c7))⟩⟩
       rw[if_neg c7]
       have n7:k-1≠0:=λe=>c7 (by rw[e];rfl)
       split
       ·exact wpS_pure ⟨S3.set _,.inr ⟨_,_,_,_,_,_,rfl,⟨I6,by omega,by omega,by omega,by omega⟩,by omega⟩⟩
       ·exact wpS_pure ⟨S3.set _,_,_,_,_,_,_,rfl,⟨I6,by omega,by omega,by omega,by omega⟩,by omega⟩
      ·rw[if_neg tQ]
       have z2:k2=j-1:=by omega
       subst z2
       have I6:MH K a b ((o.push xb).push xa) (k-1) (j-1):=by
        show MG _ _ ((o.push xb).push xa).toList _ _
        rw[Array.toList_push]
        exact MG.gG (by rw[<-da];exact I4) mE
       refine wpS_bind (aX ea ?_)
       by_cases c7:(k-1==0)=true
       ·rw[if_pos c7]
        exact wpS_pure ⟨S3.set _,.inl ⟨_,_,rfl,I6.fin (.inl (by simpa using c7))⟩⟩
       rw[if_neg c7]
       have n7:k-1≠0:=λe=>c7 (by rw[e];rfl)
       split
       ·exact wpS_pure ⟨S3.set _,.inr ⟨_,_,_,_,_,_,rfl,⟨I6,by omega,by omega,by omega,by omega⟩,by omega⟩⟩
       ·exact wpS_pure ⟨S3.set _,_,_,_,_,_,_,rfl,⟨I6,by omega,by omega,by omega,by omega⟩,by omega⟩
   ·rintro c s3 ⟨S3,i,j,o,g,ca,cb,rfl,⟨I2,l1,l2,l3,l4⟩,p2⟩
    omega
   ·rintro c s3 ⟨S3,⟨r,z,rfl,hr⟩|⟨i,j,o,g,ca,cb,rfl,I2,p2⟩⟩
    ·exact wpS_pure ⟨S3,r,_,rfl,hr⟩
    dsimp only
    rw[p9]
    exact wpS_bind (wpS_modify (wpS_pure ⟨S3.set _,_,_,_,_,rfl,I2,by omega⟩))
 ·rintro c s1 ⟨S1,i,j,o,g,rfl,⟨I1,l1,l2,l3,l4⟩,p1⟩
  omega
 ·rintro c s1 ⟨S1,r,z,rfl,hr⟩
  exact wpS_pure (hq r s1 S1 hr)
end
def kA(K:Keyed->Int)(xs:Array Keyed)(i:Nat):Int:=match xs[i]? with
 |some p=>K p
 |none=>0
theorem jB{K:Keyed->Int}{xs ys:Array Keyed}{i j:Nat}(h:xs[i]?=ys[j]?):kA K xs i=kA K ys j:=by unfold kA;rw[h]
def So(K:Keyed->Int)(xs:Array Keyed)(lo n:Nat):Prop:=∀i j,i<=j->j<n->kA K xs (lo+i)<=kA K xs (lo+j)
def Si(K:Keyed->Int)(xs:Array Keyed)(lo n:Nat):Prop:=∀i j,i<=j->j<n->kA K xs (lo+j)<=kA K xs (lo+i)
theorem qb{K:Keyed->Int}{xs:Array Keyed}{i j:Nat}(hj:j<=xs.size)(k:Nat):
  kA K (mirror xs i j ((j-i)/2)) k=if i<=k/\k<j then kA K xs (i+j-1-k)else kA K xs k:=by
 have e:=getElem?_mirror_all (i:=i) hj k
 by_cases h1:i<=k/\k<j
 ·rw[if_pos h1]at e ⊢;exact jB e
 ·rw[if_neg h1]at e ⊢;exact jB e
theorem xG{K:Keyed->Int}{xs:Array Keyed}{i j:Nat}(hj:j<=xs.size)(heq:∀k,i<=k->k<j->kA K xs k=kA K xs (j-1))(k:Nat):kA K (mirror xs i j ((j-i)/2)) k=kA K xs k:=by
 rw[qb hj]
 split
 ·rw[heq _ (by omega) (by omega),heq k (by omega) (by omega)]
 ·rfl
theorem DR{K:Keyed->Int}{xs:Array Keyed}{src d:Nat}(hs:src<xs.size)(hd:d<=src)(k:Nat):
  kA K (bubble xs src d) k=if k=src-d then kA K xs src else if src-d<k/\k<=src then kA K xs (k-1)else kA K xs k:=by
 have e:=getElem?_bubble hs d hd k
 by_cases h1:k=src-d
 ·rw[if_pos h1]at e ⊢;exact jB e
 ·rw[if_neg h1]at e ⊢
  by_cases h2:src-d<k/\k<=src
  ·rw[if_pos h2]at e ⊢;exact jB e
  ·rw[if_neg h2]at e ⊢;exact jB e
structure SC(lo:Nat)(s0 st:SortSt):Prop where
 perm:(arrOf st).Perm (arrOf s0)
 kind:kindOf st=kindOf s0
 failed:failedOf st=failedOf s0
 pend:pendingOf st=pendingOf s0
 low:∀i,i<lo->(arrOf st)[i]?=(arrOf s0)[i]?
theorem SC.refl(lo:Nat)(st:SortSt):SC lo st st:=⟨Array.Perm.refl _,rfl,rfl,rfl,λ_ _=>rfl⟩
theorem SC.trans{lo:Nat}{a b c:SortSt}(x:SC lo a b)(y:SC lo b c):SC lo a c:=⟨y.perm.trans x.perm,y.kind.trans x.kind,y.failed.trans x.failed,y.pend.trans x.pend,λi h=>(y.low i h).trans (x.low i h)⟩
theorem SC.size{lo:Nat}{a b:SortSt}(x:SC lo a b):(arrOf b).size=(arrOf a).size:=x.perm.size_eq
theorem SC.mirror{lo:Nat}{s0 st:SortSt}(x:SC lo s0 st){i j:Nat}(hi:lo<=i)(hj:j<=(arrOf st).size):SC lo s0 (setArr st (mirror (arrOf st) i j ((j-i)/2))):=
 x.trans ⟨mirror_perm _ _ _ _,rfl,rfl,rfl,λk hk=>by
  show(PyProof.Rows.mirror (arrOf st) i j ((j-i)/2))[k]?=_
  rw[getElem?_mirror_all hj,if_neg (by omega)]⟩
theorem SC.bubble{lo:Nat}{s0 st:SortSt}(x:SC lo s0 st){src d:Nat}(hs:src<(arrOf st).size)(hd:lo+d<=src):SC lo s0 (setArr st (bubble (arrOf st) src d)):=
 x.trans ⟨bubble_perm _ _ _,rfl,rfl,rfl,λk hk=>by
  show(PyProof.Rows.bubble (arrOf st) src d)[k]?=_
  rw[getElem?_bubble hs d (by omega),if_neg (by omega),if_neg (by omega)]⟩
structure SB(κ:SortKind)(D:Keyed->Prop)(st:SortSt):Prop where
 kind:kindOf st=κ
 failed:failedOf st=none
 all:∀x∈(arrOf st).toList,D x
theorem SB.sc{κ:SortKind}{D:Keyed->Prop}{lo:Nat}{s0 st:SortSt}(b:SB κ D s0)(x:SC lo s0 st):SB κ D st:=
 ⟨x.kind.trans b.kind,x.failed.trans b.failed,λy hy=>b.all y ((Array.perm_iff_toList_perm.mp x.perm).mem_iff.mp hy)⟩
section
variable{prog:Program}{w:World}{A:Around}{E:Value->Shared->Prop}{s:Shared}{κ:SortKind}{K:Keyed->Int}{D:Keyed->Prop}{st:SortSt}
theorem qc(hL:pB prog w A E s κ K D){i j:Nat}{Q:Option Bool->SortSt->Prop}(hB:SB κ D st)(hi:i<(arrOf st).size)(hj:j<(arrOf st).size)
  (h:Q (some (decide (kA K (arrOf st) i<kA K (arrOf st) j))) st):wpS (model prog w) A E s (ltAt' i j) Q st:=by
 rw[ltAt'_eq]
 refine wpS_bind (wpS_get ?_)
 show wpS _ _ _ _ (do let x<-elem' (arrOf st) i;let y<-elem' (arrOf st) j;lt' x y) Q st
 have e1:(arrOf st)[i]?=some (arrOf st)[i]:=getElem?_pos _ i hi
 have e2:(arrOf st)[j]?=some (arrOf st)[j]:=getElem?_pos _ j hj
 refine wpS_bind (aX e1 (wpS_bind (aX e2 ?_)))
 refine hL st _ _ _ hB.kind (hB.all _ (by simp)) (hB.all _ (by simp)) ?_
 unfold kA at h
 rw[e1,e2]at h
 exact h
theorem w_rev{M:Model}{i j:Nat}{Q:Unit->SortSt->Prop}(h:Q ⟨⟩ (setArr st (mirror (arrOf st) i j ((j-i)/2)))):wpS M A E s (reverseSlice' i j) Q st:=by
 rw[reverseSlice'_eq]
 exact wpS_modify h
theorem w_count(hL:pB prog w A E s κ K D){lo nrem:Nat}{Q:Option Nat->SortSt->Prop}(hB:SB κ D st)(h1:1<=nrem)(hz:lo+nrem<=(arrOf st).size)
  (hq:∀n st',SC lo st st'->1<=n->n<=nrem->So K (arrOf st') lo n->Q (some n) st'):wpS (model prog w) A E s (countRun' lo nrem) Q st:=by
 rw[countRun'_eq]
 refine wpS_bind (wpS_mono (wpS_forRange (I:=λx c st'=>st'=st/\c=(none,x)/\So K (arrOf st) lo x)
  (Q:=λc st'=>st'=st/\ ∃n,c=(none,n)/\1<=n/\n<=nrem/\So K (arrOf st) lo n/\(n=nrem∨kA K (arrOf st) (lo+n)<kA K (arrOf st) (lo+n-1))) ?_ ?_ ⟨rfl,rfl,λi j hij hj=> ?_⟩) ?_)
 ·rintro x c st' ha hx ⟨rfl,rfl,hs⟩
  dsimp only
  refine wpS_bind (qc hL hB (by omega) (by omega) ?_)
  dsimp only
  by_cases lt:kA K (arrOf st') (lo+x)<kA K (arrOf st') (lo+x-1)
  ·rw[decide_eq_true lt,if_pos rfl]
   exact wpS_pure ⟨rfl,x,rfl,ha,by omega,hs,.inr lt⟩
  ·rw[decide_eq_false lt,if_neg (by simp)]
   refine wpS_pure ⟨rfl,rfl,λi j hij hj=> ?_⟩
   by_cases c:j=x
   ·subst c
    by_cases c2:i=j
    ·subst c2;exact Int.le_refl _
    ·have:=hs i (j-1) (by omega) (by omega)
     rw[show lo+(j-1)=lo+j-1 by omega]at this
     omega
   ·exact hs i j hij (by omega)
 ·rintro c st' ⟨rfl,rfl,hs⟩
  rw[Nat.max_eq_right h1]at hs ⊢
  exact⟨rfl,nrem,rfl,h1,Nat.le_refl _,hs,.inl rfl⟩
 ·have:i=j:=by omega
  subst this
  exact Int.le_refl _
 rintro c st' ⟨rfl,n,rfl,n1,n2,hs,hend⟩
 dsimp only
 by_cases c1:(n==nrem)=true
 ·rw[if_pos c1]
  exact wpS_pure (hq n st' (.refl _ _) n1 n2 hs)
 rw[if_neg c1]
 have nn:n<nrem:=by
  have:n≠nrem:=λe=>c1 (by rw[e];simp)
  omega
 have hlt:kA K (arrOf st') (lo+n)<kA K (arrOf st') (lo+n-1):=hend.resolve_left (by omega)
 have part:∀s1:SortSt,SC lo st' s1->(∀k,kA K (arrOf s1) k=kA K (arrOf st') k) ->Si K (arrOf st') lo (n+1) -> ∀F:StateT SortSt Sem (Option Nat),F=(do
   rule "list.sort.descending-run"
   let mut n:=n
   n:=n+1
   let mut q:=0
   for _ in [n:nrem] do
    let some m<-ltAt' (lo+n) (lo+n-1)|return none
    if m then
     if q>0 then reverseSlice' (lo+n- (q+1)) (lo+n)
     q:=0
    else
     let some g<-ltAt' (lo+n-1) (lo+n)|return none
     if g then break
     q:=q+1
    n:=n+1
   if q>0 then reverseSlice' (lo+n- (q+1)) (lo+n)
   reverseSlice' lo (lo+n)
   for _ in [n:nrem] do
    let some m<-ltAt' (lo+n) (lo+n-1)|return none
    if m then break
    n:=n+1
   return some n) ->wpS (model prog w) A E s F Q s1:=by
  intro s1 S1 hk1 hd F hF
  subst hF
  refine wpS_bind (wpS_lift (wpAny_rule ⟨rfl,?_⟩))
  dsimp only
  have rest:∀(s2:SortSt)(m:Nat),SC lo st' s2->n+1<=m->m<=nrem->Si K (arrOf s2) lo m-> ∀F:StateT SortSt Sem (Option Nat),F=(do
    reverseSlice' lo (lo+m)
    let mut n:=m
    for _ in [n:nrem] do
     let some m<-ltAt' (lo+n) (lo+n-1)|return none
     if m then break
     n:=n+1
    return some n) ->wpS (model prog w) A E s F Q s2:=by
   intro s2 m S2 m1 m2 hd2 F hF
   subst hF
   have z2:=S2.size
   refine wpS_bind (w_rev ?_)
   have S3:=S2.mirror (i:=lo) (j:=lo+m) (Nat.le_refl _) (by omega)
   have SJ:So K (arrOf (setArr s2 (mirror (arrOf s2) lo (lo+m) ((lo+m-lo)/2)))) lo m:=by
    intro i j hij hj
    show kA K (mirror (arrOf s2) lo (lo+m) ((lo+m-lo)/2)) (lo+i)<=kA K (mirror (arrOf s2) lo (lo+m) ((lo+m-lo)/2)) (lo+j)
    rw[qb (by omega),qb (by omega),if_pos (by omega),if_pos (by omega)]
    have:=hd2 (m-1-j) (m-1-i) (by omega) (by omega)
    rw[show lo+(m-1-i)=lo+(lo+m) -1- (lo+i)by omega,show lo+(m-1-j)=lo+(lo+m) -1- (lo+j)by omega]at this
    exact this
   generalize setArr s2 (mirror (arrOf s2) lo (lo+m) ((lo+m-lo)/2))=s3 at S3 SJ ⊢
   have z3:=S3.size
   have UN:=hB.sc S3
   refine wpS_bind (wpS_mono (wpS_forRange (I:=λx c st''=>st''=s3/\c=(none,x)/\So K (arrOf s3) lo x)
    (Q:=λc st''=>st''=s3/\ ∃n,c=(none,n)/\1<=n/\n<=nrem/\So K (arrOf s3) lo n) ?_ ?_ ⟨rfl,rfl,SJ⟩) ?_)
   ·rintro x c st'' ha hx ⟨rfl,rfl,hs⟩
    dsimp only
    refine wpS_bind (qc hL UN (by omega) (by omega) ?_)
    dsimp only
    by_cases lt:kA K (arrOf st'') (lo+x)<kA K (arrOf st'') (lo+x-1)
    ·rw[decide_eq_true lt,if_pos rfl]
     exact wpS_pure ⟨rfl,x,rfl,by omega,by omega,hs⟩
    ·rw[decide_eq_false lt,if_neg (by simp)]
     refine wpS_pure ⟨rfl,rfl,λi j hij hj=> ?_⟩
     by_cases c:j=x
     ·subst c
      by_cases c2:i=j
      ·subst c2;exact Int.le_refl _
      ·have:=hs i (j-1) (by omega) (by omega)
       rw[show lo+(j-1)=lo+j-1 by omega]at this
       omega
     ·exact hs i j hij (by omega)
   ·rintro c st'' ⟨rfl,rfl,hs⟩
    rw[Nat.max_eq_right m2]at hs ⊢
    exact⟨rfl,nrem,rfl,by omega,Nat.le_refl _,hs⟩
   ·rintro c st'' ⟨rfl,n',rfl,a1,a2,a3⟩
    exact wpS_pure (hq n' st'' S3 a1 a2 a3)
  refine wpS_bind (wpS_mono (wpS_forRange (I:=λx c s2=> ∃q,c=(none,x,q)/\SC lo st' s2/\Si K (arrOf s2) lo x/\q+1<=x/\ ∀i,x- (q+1)<=i->i<x->kA K (arrOf s2) (lo+i)=kA K (arrOf s2) (lo+x-1))
   (Q:=λc s2=> ∃x q,c=(none,x,q)/\n+1<=x/\x<=nrem/\SC lo st' s2/\Si K (arrOf s2) lo x/\q+1<=x/\ ∀i,x- (q+1)<=i->i<x->kA K (arrOf s2) (lo+i)=kA K (arrOf s2) (lo+x-1)) ?_ ?_ ⟨0,rfl,S1,λi j hij hj=> ?_,by omega,λi h1 h2=> ?_⟩) ?_)
  ·rintro x c s2 ha hx ⟨q,rfl,S2,hd2,hq1,heq⟩
   dsimp only
   have z2:=S2.size
   have hB2:=hB.sc S2
   refine wpS_bind (qc hL hB2 (by omega) (by omega) ?_)
   dsimp only
   by_cases lt:kA K (arrOf s2) (lo+x)<kA K (arrOf s2) (lo+x-1)
   ·rw[decide_eq_true lt,if_pos rfl]
    have SK:∀s3:SortSt,SC lo st' s3->(∀k,kA K (arrOf s3) k=kA K (arrOf s2) k) -> ∃q,((none,x+1,0):Option (Option Nat)×Nat×Nat)=(none,x+1,q)/\SC lo st' s3/\Si K (arrOf s3) lo (x+1)/\q+1<=x+1/\ ∀i,x+1- (q+1)<=i->i<x+1->kA K (arrOf s3) (lo+i)=kA K (arrOf s3) (lo+(x+1) -1):=by
     intro s3 S3 Kv
     refine⟨0,rfl,S3,λi j hij hj=> ?_,by omega,λi h1 h2=> ?_⟩
     ·rw[Kv,Kv]
      by_cases c:j=x
      ·subst c
       by_cases c2:i=j
       ·subst c2;exact Int.le_refl _
       ·have:=hd2 i (j-1) (by omega) (by omega)
        rw[show lo+(j-1)=lo+j-1 by omega]at this
        omega
      ·exact hd2 i j hij (by omega)
     ·have:i=x:=by omega
      subst this
      rfl
    by_cases OL:q>0
    ·rw[if_pos OL]
     refine wpS_bind (w_rev (wpS_pure (SK _ (S2.mirror (by omega) (by omega)) λk=> ?_)))
     refine xG (by omega) (λk k1 k2=> ?_) k
     have:=heq (k-lo) (by omega) (by omega)
     rw[show lo+(k-lo)=k by omega]at this
     exact this
    ·rw[if_neg OL]
     exact wpS_pure (SK s2 S2 λ_=>rfl)
   ·rw[decide_eq_false lt,if_neg (by simp)]
    refine wpS_bind (qc hL hB2 (by omega) (by omega) ?_)
    dsimp only
    by_cases KG:kA K (arrOf s2) (lo+x-1)<kA K (arrOf s2) (lo+x)
    ·rw[decide_eq_true KG,if_pos rfl]
     exact wpS_pure ⟨x,q,rfl,ha,by omega,S2,hd2,hq1,heq⟩
    ·rw[decide_eq_false KG,if_neg (by simp)]
     have e:kA K (arrOf s2) (lo+x)=kA K (arrOf s2) (lo+x-1):=by omega
     refine wpS_pure ⟨q+1,rfl,S2,λi j hij hj=> ?_,by omega,λi h1 h2=> ?_⟩
     ·by_cases c:j=x
      ·subst c
       by_cases c2:i=j
       ·subst c2;exact Int.le_refl _
       ·have:=hd2 i (j-1) (by omega) (by omega)
        rw[show lo+(j-1)=lo+j-1 by omega]at this
        omega
      ·exact hd2 i j hij (by omega)
     ·rw[show lo+(x+1) -1=lo+x by omega,e]
      by_cases c:i=x
      ·subst c;exact e
      ·exact heq i (by omega) (by omega)
  ·rintro c s2 ⟨q,rfl,S2,hd2,hq1,heq⟩
   rw[Nat.max_eq_right (show n+1<=nrem by omega)]at hd2 hq1 heq ⊢
   exact⟨nrem,q,rfl,by omega,Nat.le_refl _,S2,hd2,hq1,heq⟩
  ·rw[hk1,hk1]
   exact hd i j hij hj
  ·have:i=n:=by omega
   subst this
   rfl
  ·rintro c s2 ⟨x,q,rfl,x1,x2,S2,hd2,hq1,heq⟩
   dsimp only
   have z2:=S2.size
   by_cases OL:q>0
   ·rw[if_pos OL]
    refine wpS_bind (w_rev ?_)
    have hk:∀k,kA K (arrOf (setArr s2 (mirror (arrOf s2) (lo+x- (q+1)) (lo+x) ((lo+x- (lo+x- (q+1)))/2)))) k=kA K (arrOf s2) k:=λk=>by
     refine xG (by omega) (λk k1 k2=> ?_) k
     have:=heq (k-lo) (by omega) (by omega)
     rw[show lo+(k-lo)=k by omega]at this
     exact this
    exact rest _ x (S2.mirror (by omega) (by omega)) x1 x2 (λi j hij hj=>by rw[hk,hk];exact hd2 i j hij hj) _ rfl
   ·rw[if_neg OL]
    exact rest s2 x S2 x1 x2 hd2 _ rfl
 by_cases gt:n>1
 ·rw[if_pos gt]
  refine wpS_bind (qc hL hB (by omega) (by omega) ?_)
  dsimp only
  by_cases OM:kA K (arrOf st') lo<kA K (arrOf st') (lo+n-1)
  ·rw[decide_eq_true OM,if_pos rfl]
   exact wpS_pure (hq n st' (.refl _ _) n1 n2 hs)
  ·rw[decide_eq_false OM,if_neg (by simp)]
   have hall:∀k,lo<=k->k<lo+n->kA K (arrOf st') k=kA K (arrOf st') (lo+n-1):=λk k1 k2=>by
    have a1:=hs 0 (k-lo) (by omega) (by omega)
    have a2:=hs (k-lo) (n-1) (by omega) (by omega)
    rw[show lo+(k-lo)=k by omega]at a1 a2
    rw[show lo+(n-1)=lo+n-1 by omega]at a2
    rw[Nat.add_zero]at a1
    omega
   refine wpS_bind (w_rev (part _ ((SC.refl lo st').mirror (Nat.le_refl _) (by omega)) (λk=>xG (by omega) hall k) (λi j hij hj=> ?_) _ rfl))
   by_cases c:j=n
   ·subst c
    by_cases c2:i=j
    ·subst c2;exact Int.le_refl _
    ·rw[hall (lo+i) (by omega) (by omega)]
     omega
   ·rw[hall (lo+i) (by omega) (by omega),hall (lo+j) (by omega) (by omega)]
    exact Int.le_refl _
 ·rw[if_neg gt]
  have e1:n=1:=by omega
  subst e1
  refine part st' (.refl _ _) (λ_=>rfl) (λi j hij hj=> ?_) _ rfl
  by_cases c2:i=j
  ·subst c2;exact Int.le_refl _
  ·have:i=0:=by omega
   have:j=1:=by omega
   subst_vars
   rw[show lo+1-1=lo+0 by omega]at hlt
   omega
theorem KI(hL:pB prog w A E s κ K D){lo n ok:Nat}{Q:Bool->SortSt->Prop}(hB:SB κ D st)(hok:ok<=n)(hz:lo+n<=(arrOf st).size)(hs:So K (arrOf st) lo ok)
  (h:∀st',SC lo st st'->So K (arrOf st') lo n->Q true st'):wpS (model prog w) A E s (binarySort' lo n ok) Q st:=by
 rw[binarySort'_eq]
 refine wpS_bind (wpS_mono (wpS_forRange (I:=λk c st'=>c=(none,())/\SC lo st st'/\So K (arrOf st') lo (min k n))
  (Q:=λc st'=>c=(none,())/\SC lo st st'/\So K (arrOf st') lo n) ?_ ?_ ⟨rfl,.refl _ _,λi j hij hj=> ?_⟩) ?_)
 ·rintro k c st' VX hkn ⟨rfl,S,hs'⟩
  rw[show min k n=k by omega]at hs'
  have z:=S.size
  have hk:lo+k<(arrOf st').size:=by omega
  have UO:=hB.sc S
  refine wpS_bind (wpS_mono (wpS_forRange (I:=λx c s2=>s2=st'/\ ∃l r,c=(none,l,r)/\l<=r/\r<=k/\r-l<=k-x/\
    (∀i,i<l->kA K (arrOf st') (lo+i)<=kA K (arrOf st') (lo+k))/\(∀i,r<=i->i<k->kA K (arrOf st') (lo+k)<kA K (arrOf st') (lo+i)))
   (Q:=λc s2=>s2=st'/\ ∃l r,c=(none,l,r)/\l<=k/\
    (∀i,i<l->kA K (arrOf st') (lo+i)<=kA K (arrOf st') (lo+k))/\(∀i,l<=i->i<k->kA K (arrOf st') (lo+k)<kA K (arrOf st') (lo+i))) ?_ ?_ ⟨rfl,0,k,rfl,by omega,by omega,by omega,λi hi=>by omega,λi h1 h2=>by omega⟩) ?_)
  ·rintro x c s2 _ hxk ⟨rfl,l,r,rfl,hlr,hrk,hm,hlo,hhi⟩
   dsimp only
   by_cases hge:l≥r
   ·rw[if_pos hge]
    have:l=r:=by omega
    subst this
    exact wpS_pure ⟨rfl,l,l,rfl,hrk,hlo,hhi⟩
   ·rw[if_neg hge]
    refine wpS_bind (qc hL UO hk (by omega) ?_)
    by_cases less:kA K (arrOf s2) (lo+k)<kA K (arrOf s2) (lo+(l+r)/2)
    ·simp only[less,decide_true,if_true]
     refine wpS_pure ⟨rfl,l,(l+r)/2,rfl,by omega,by omega,by omega,hlo,λi h1 h2=> ?_⟩
     exact Int.lt_of_lt_of_le less (hs' _ _ h1 h2)
    ·simp only[less,decide_false,Bool.false_eq_true,if_false]
     refine wpS_pure ⟨rfl,(l+r)/2+1,r,rfl,by omega,by omega,by omega,λi h1=> ?_,hhi⟩
     exact Int.le_trans (hs' i ((l+r)/2) (by omega) (by omega)) (Int.not_lt.mp less)
  ·rintro c s2 ⟨rfl,l,r,rfl,hlr,hrk,hm,hlo,hhi⟩
   have:l=r:=by omega
   subst this
   exact⟨rfl,l,l,rfl,hrk,hlo,hhi⟩
  ·rintro c s2 ⟨rfl,l,r,rfl,hlk,hlo,hhi⟩
   dsimp only
   rw[moveDown'_eq,show lo+k- (lo+l)=k-l by omega]
   refine wpS_bind (wpS_modify (wpS_pure ⟨rfl,S.bubble hk (by omega),?_⟩))
   rw[show min (k+1) n=k+1 by omega]
   intro i j hij hj
   show kA K (bubble (arrOf s2) (lo+k) (k-l)) (lo+i)<=kA K (bubble (arrOf s2) (lo+k) (k-l)) (lo+j)
   have e:∀t,t<k+1->kA K (bubble (arrOf s2) (lo+k) (k-l)) (lo+t)=if t=l then kA K (arrOf s2) (lo+k)else if l<t then kA K (arrOf s2) (lo+(t-1))else kA K (arrOf s2) (lo+t):=by
    intro t ht
    rw[DR hk (by omega)]
    by_cases c1:t=l
    ·rw[if_pos (by omega),if_pos c1]
    ·rw[if_neg (by omega),if_neg c1]
     by_cases c2:l<t
     ·rw[if_pos (by omega),if_pos c2,show lo+t-1=lo+(t-1)by omega]
     ·rw[if_neg (by omega),if_neg c2]
   rw[e i (by omega),e j hj]
   repeat' split
   all_goals first
    |(exfalso;omega)
    |exact Int.le_refl _
    |exact hlo _ (by omega)
    |exact Int.le_of_lt (hhi _ (by omega) (by omega))
    |exact hs' _ _ (by omega) (by omega)
 ·rintro c st' ⟨hc,S,hs'⟩
  refine⟨hc,S,?_⟩
  rwa [show min (max (max ok 1) n) n=n by omega]at hs'
 ·by_cases h1:ok=0
  ·have:i=j:=by omega
   subst this;exact Int.le_refl _
  ·exact hs i j hij (by omega)
 ·rintro c st' ⟨rfl,S,hs'⟩
  exact wpS_pure (h st' S hs')
abbrev sl(a:Array Keyed)(lo n:Nat):List Keyed:=(a.toList.drop lo).take n
theorem qd{a:Array Keyed}{lo n:Nat}(h:lo+n<=a.size):So K a lo n↔(sl a lo n).Pairwise λx y=>K x<=K y:=by
 have len:(sl a lo n).length=n:=by simp[sl];omega
 have at':∀i (hi:i<n),∃x,(sl a lo n)[i]'(by omega)=x/\kA K a (lo+i)=K x:=λi hi=>by
  refine⟨_,rfl,?_⟩
  have e:a[lo+i]?=some ((sl a lo n)[i]'(by omega)):=by
   rw[<-List.getElem?_eq_getElem]
   simp[sl,List.getElem?_take_of_lt hi]
  unfold kA
  rw[e]
 constructor
 ·intro hs
  rw[List.pairwise_iff_getElem]
  intro i j hi hj hij
  obtain⟨x,ex,kx⟩:=at' i (by omega)
  obtain⟨y,ey,ky⟩:=at' j (by omega)
  have:=hs i j (by omega) (by omega)
  rw[ex,ey,<-kx,<-ky]
  exact this
 ·intro hs i j hij hj
  by_cases c:i=j
  ·subst c;exact Int.le_refl _
  obtain⟨x,ex,kx⟩:=at' i (by omega)
  obtain⟨y,ey,ky⟩:=at' j hj
  have:=List.pairwise_iff_getElem.mp hs i j (by omega) (by omega) (by omega)
  rw[ex,ey,<-kx,<-ky]at this
  exact this
def wr(sa:Nat)(a:Array Keyed)(l:List (Keyed×Nat)):Array Keyed:=l.foldl (λa (p,j)=>a.setIfInBounds (sa+j) p) a
theorem AO(sa:Nat):∀(l:List Keyed)(k:Nat)(a:Array Keyed)(t:Nat),sa+k+l.length<=a.size->(wr sa a (l.zipIdx k))[t]?=if sa+k<=t/\t<sa+k+l.length then l[t- (sa+k)]? else a[t]?
 | [],k,a,t,h=>by
  rw[if_neg (by simp)]
  rfl
 |x::l,k,a,t,h=>by
  have h':sa+k+(l.length+1)<=a.size:=h
  show(wr sa (a.setIfInBounds (sa+k) x) (l.zipIdx (k+1)))[t]?=_
  rw[AO sa l (k+1) _ t (by rw[Array.size_setIfInBounds];omega)]
  rw[List.length_cons]
  by_cases c1:sa+(k+1)<=t/\t<sa+(k+1)+l.length
  ·rw[if_pos c1,if_pos (by omega),show t- (sa+k)=t- (sa+(k+1))+1 by omega,List.getElem?_cons_succ]
  ·rw[if_neg c1,Array.getElem?_setIfInBounds]
   by_cases c2:sa+k=t
   ·subst c2
    rw[if_pos rfl,if_pos (by omega),if_pos (by omega),Nat.sub_self]
    rfl
   ·rw[if_neg c2,if_neg (by omega)]
theorem Ju{sa:Nat}{l:List Keyed}{a:Array Keyed}(h:sa+l.length<=a.size):(wr sa a l.zipIdx).toList=a.toList.take sa++(l++a.toList.drop (sa+l.length)):=by
 refine List.ext_getElem? λt=> ?_
 rw[Array.getElem?_toList,AO sa l 0 a t (by omega),Nat.add_zero]
 have ls:(a.toList.take sa).length=sa:=by simp;omega
 by_cases c1:t<sa
 ·rw[if_neg (by omega),List.getElem?_append_left (by omega),List.getElem?_take_of_lt c1]
  simp
 ·rw[List.getElem?_append_right (by omega),ls]
  by_cases c2:t<sa+l.length
  ·rw[if_pos (by omega),List.getElem?_append_left (by omega)]
  ·rw[if_neg (by omega),List.getElem?_append_right (by omega),List.getElem?_drop,show sa+l.length+(t-sa-l.length)=t by omega]
   simp
theorem GH(l:List Keyed)(u n:Nat):l=l.take u++((l.drop u).take n++l.drop (u+n)):=by
 rw[<-List.drop_drop,List.take_append_drop,List.take_append_drop]
theorem GI{M:Model}{st':SortSt}{Q:PUnit->SortSt->Prop}(h:Q ⟨⟩ st'):wpS M A E s (set st':StateT SortSt Sem PUnit) Q st:=by
 unfold wpS
 rw[StateT.run_set]
 exact wpAny_pure ⟨rfl,h⟩
theorem jZ{M:Model}{α:Type}{c:Prop}[Decidable c]{x y:StateT SortSt Sem α}{Q:α->SortSt->Prop}(h1:c->wpS M A E s x Q st)(h2:¬c->wpS M A E s y Q st):wpS M A E s (if c then x else y) Q st:=by
 split
 ·exact h1 ‹_›
 ·exact h2 ‹_›
theorem Mh(i:Nat):mergeAt' i=(do
 let z<-get
 let(some (sa,na,pw),some (sb,nb,_)):=((pendingOf z)[i]?,(pendingOf z)[i+1]?)|(@unsupported _ "internal:list.sort.pending")
 set (SortSt.mk' (kindOf z) (arrOf z) (((pendingOf z).setIfInBounds i (sa,na+nb,pw)).eraseIdxIfInBounds (i+1)) (gallopOf z) (failedOf z))
 let some k<-Js false (<-elem' (arrOf z) sb) (arrOf z) sa na 0|return false
 let(ua,ma):=(sa+k,na-k)
 if ma==0 then return true
 let some mb<-Js true (<-elem' (arrOf z) (ua+ma-1)) (arrOf z) sb nb (nb-1)|return false
 if mb==0 then return true
 let x:=(arrOf z).extract ua sb
 let y:=(arrOf z).extract sb (sb+mb)
 let r<-if ma<=mb then Rm x y else Rn x y
 modify λz=>setArr z (wr ua (arrOf z) r.toList.zipIdx)
 return(failedOf (<-get)).isNone):=rfl
structure Mg(K:Keyed->Int)(sa n:Nat)(p:Array (Nat×Nat×Nat))(s0 st:SortSt):Prop where
 perm:(arrOf st).Perm (arrOf s0)
 kind:kindOf st=kindOf s0
 failed:failedOf st=failedOf s0
 pend:pendingOf st=p
 out:∀t,t<sa∨sa+n<=t->(arrOf st)[t]?=(arrOf s0)[t]?
 so:So K (arrOf st) sa n
theorem zf{l:List Keyed}(h:l.Pairwise λx y=>K x<=K y){x:Keyed}(hx:x∈l){z:Keyed}(hz:l[l.length-1]?=some z):K x<=K z:=by
 obtain⟨i,hi,rfl⟩:=List.mem_iff_getElem.mp hx
 rw[List.getElem?_eq_getElem (by omega)]at hz
 rw[<-Option.some.inj hz]
 by_cases c:i=l.length-1
 ·subst c;exact Int.le_refl _
 ·exact List.pairwise_iff_getElem.mp h i (l.length-1) hi (by omega) (by omega)
theorem ON(hL:pB prog w A E s κ K D){i sa na nb pw:Nat}{q:Nat×Nat}{Q:Bool->SortSt->Prop}(hB:SB κ D st)(e1:(pendingOf st)[i]?=some (sa,na,pw))(e2:(pendingOf st)[i+1]?=some (sa+na,nb,q.1))
  (ha:0<na)(hb:0<nb)(hz:sa+na+nb<=(arrOf st).size)(s1:So K (arrOf st) sa na)(s2:So K (arrOf st) (sa+na) nb)
  (hq:∀st',Mg K sa (na+nb) (((pendingOf st).setIfInBounds i (sa,na+nb,pw)).eraseIdxIfInBounds (i+1)) st st'->Q true st'):wpS (model prog w) A E s (mergeAt' i) Q st:=by
 rw[Mh]
 refine wpS_bind (wpS_get ?_)
 rw[e1,e2]
 dsimp only
 refine wpS_bind (GI ?_)
 have P1:=(qd (K:=K) (a:=arrOf st) (lo:=sa) (n:=na) (by omega)).mp s1
 have P2:=(qd (K:=K) (a:=arrOf st) (lo:=sa+na) (n:=nb) (by omega)).mp s2
 have lA:(sl (arrOf st) sa na).length=na:=by simp[sl];omega
 have lB:(sl (arrOf st) (sa+na) nb).length=nb:=by simp[sl];omega
 have gA:∀t,t<na->(arrOf st)[sa+t]?=(sl (arrOf st) sa na)[t]?:=λt ht=>by simp[sl,List.getElem?_take_of_lt ht]
 have gB:∀t,t<nb->(arrOf st)[sa+na+t]?=(sl (arrOf st) (sa+na) nb)[t]?:=λt ht=>by simp[sl,List.getElem?_take_of_lt ht]
 have DA:∀x∈sl (arrOf st) sa na,D x:=λx hx=>hB.all x (List.mem_of_mem_drop (List.mem_of_mem_take hx))
 have DB:∀x∈sl (arrOf st) (sa+na) nb,D x:=λx hx=>hB.all x (List.mem_of_mem_drop (List.mem_of_mem_take hx))
 have whole:sl (arrOf st) sa (na+nb)=sl (arrOf st) sa na++sl (arrOf st) (sa+na) nb:=by
  show((arrOf st).toList.drop sa).take (na+nb)=_
  rw[List.take_add,List.drop_drop]
 have parts:(arrOf st).toList=(arrOf st).toList.take sa++((sl (arrOf st) sa na++sl (arrOf st) (sa+na) nb)++(arrOf st).toList.drop (sa+(na+nb))):=by
  rw[<-whole]
  exact GH _ _ _
 have wA:∃A0,sl (arrOf st) sa na=A0:=⟨_,rfl⟩
 have wB:∃B0,sl (arrOf st) (sa+na) nb=B0:=⟨_,rfl⟩
 obtain⟨A0,eA⟩:=wA
 obtain⟨B0,eB⟩:=wB
 rw[eA]at P1 lA gA DA whole parts
 rw[eB]at P2 lB gB DB whole parts
 have KJ:∀g,(A0++B0).Pairwise (λx y=>K x<=K y) ->Q true (SortSt.mk' (kindOf st) (arrOf st) (((pendingOf st).setIfInBounds i (sa,na+nb,pw)).eraseIdxIfInBounds (i+1)) g (failedOf st)):=λg hs=>
  hq _ ⟨Array.Perm.refl _,rfl,rfl,rfl,λ_ _=>rfl,(qd (by show sa+(na+nb)<=(arrOf st).size;omega)).mpr (by show(sl (arrOf st) sa (na+nb)).Pairwise _;rw[whole];exact hs)⟩
 obtain⟨b0,hb0⟩:∃b0,B0[0]?=some b0:=⟨_,List.getElem?_eq_getElem (by omega)⟩
 have UP:b0∈B0:=List.mem_of_getElem? hb0
 have Rp:∀y∈B0,K b0<=K y:=by
  cases B0 with
  |nil=>cases hb0
  |cons z B0=>
   have:z=b0:=Option.some.inj hb0
   subst this
   exact dU P2
 refine wpS_bind (aX (by rw[<-hb0,<-gB 0 hb];rfl) (wpS_bind (jY hL hB.kind A0 gA lA.symm DA (DB _ UP) P1 ha λk hk1 t1 t2=> ?_)))
 simp only[Bool.false_eq_true,if_false]at t1 t2
 dsimp only
 by_cases c1:(na-k==0)=true
 ·rw[if_pos c1]
  refine wpS_pure (KJ _ (List.pairwise_append.mpr ⟨P1,P2,λx hx y hy=>Int.le_trans (t1 x ?_) (Rp y hy)⟩))
  have:na-k=0:=by simpa using c1
  rw[List.take_of_length_le (by omega)]
  exact hx
 rw[if_neg c1]
 have n1:na-k≠0:=λe=>c1 (by rw[e];rfl)
 obtain⟨al,hal⟩:∃al,A0[na-1]?=some al:=⟨_,List.getElem?_eq_getElem (by omega)⟩
 have UQ:al∈A0:=List.mem_of_getElem? hal
 have KL:∀x∈A0,K x<=K al:=λx hx=>zf P1 hx (by rw[lA];exact hal)
 refine wpS_bind (aX (by rw[show sa+k+(na-k) -1=sa+(na-1)by omega,gA (na-1) (by omega)];exact hal) (wpS_bind (jY hL hB.kind B0 gB lB.symm DB (DA _ UQ) P2 (by omega) λm hm1 u1 u2=> ?_)))
 simp only[if_true]at u1 u2
 dsimp only
 by_cases c2:(m==0)=true
 ·rw[if_pos c2]
  refine wpS_pure (KJ _ (List.pairwise_append.mpr ⟨P1,P2,λx hx y hy=>Int.le_trans (KL x hx) (u2 y ?_)⟩))
  have:m=0:=by simpa using c2
  subst this
  exact hy
 rw[if_neg c2]
 have n2:m≠0:=λe=>c2 (by rw[e];rfl)
 have ex:((arrOf st).extract (sa+k) (sa+na)).toList=A0.drop k:=by
  rw[<-eA]
  simp[sl,List.drop_take,Nat.add_sub_add_left]
 have ey:((arrOf st).extract (sa+na) (sa+na+m)).toList=B0.take m:=by
  rw[<-eB]
  simp[sl,List.take_take,Nat.min_eq_left hm1]
 have SM:((arrOf st).extract (sa+k) (sa+na)).size=na-k:=by simp;omega
 have VY:((arrOf st).extract (sa+na) (sa+na+m)).size=m:=by simp;omega
 have Xs:=List.Pairwise.sublist (List.drop_sublist k A0) P1
 have Ys:=List.Pairwise.sublist (List.take_sublist m B0) P2
 have dX:∀x∈A0.drop k,D x:=λx hx=>DA x (List.mem_of_mem_drop hx)
 have dY:∀x∈B0.take m,D x:=λx hx=>DB x (List.mem_of_mem_take hx)
 have Mi:∀y∈(B0.take m).take 1,∀x∈A0.drop k,K y<=K x:=λy hy x hx=>by
  have e:(B0.take m).take 1=[b0]:=by
   cases B0 with
   |nil=>cases hb0
   |cons z B0=>
    have:z=b0:=Option.some.inj hb0
    subst this
    obtain⟨m,rfl⟩:∃m',m=m'+1:=⟨m-1,by omega⟩
    rfl
  rw[e,List.mem_singleton]at hy
  subst hy
  exact Int.le_of_lt (t2 x hx)
 have SN:∀y∈B0.take m,∀x∈(A0.drop k).drop (na-k-1),K y<=K x:=λy hy x hx=>by
  have e:(A0.drop k).drop (na-k-1)=[al]:=by
   rw[List.drop_drop,show k+(na-k-1)=na-1 by omega]
   have e3:=List.drop_eq_getElem_cons (l:=A0) (i:=na-1) (by omega)
   rw[List.getElem?_eq_getElem (by omega)]at hal
   rw[e3,Option.some.inj hal,List.drop_eq_nil_of_le (by omega)]
  rw[e,List.mem_singleton]at hx
  subst hx
  exact Int.le_of_lt (u1 y hy)
 have goal:∀(r:Array Keyed)(s3:SortSt),Sg (SortSt.mk' (kindOf st) (arrOf st) (((pendingOf st).setIfInBounds i (sa,na+nb,pw)).eraseIdxIfInBounds (i+1)) (gallopOf st) (failedOf st)) s3->
   Good K (A0.drop k++B0.take m) r.toList->wpS (model prog w) A E s (do
    modify λz=>setArr z (wr (sa+k) (arrOf z) r.toList.zipIdx)
    return(failedOf (<-get)).isNone) Q s3:=by
  intro r s3 S3 G
  refine wpS_bind (wpS_modify (wpS_bind (wpS_get ?_)))
  have fl:failedOf s3=none:=S3.2.2.2.trans hB.failed
  show wpS _ _ _ _ (pure (failedOf s3).isNone) _ _
  rw[fl]
  refine wpS_pure (hq _ ?_)
  have ar:arrOf s3=arrOf st:=S3.2.1
  have lr:r.toList.length=na-k+m:=by rw[G.1.length_eq,List.length_append,List.length_drop,List.length_take];omega
  have lst:(wr (sa+k) (arrOf st) r.toList.zipIdx).toList=(arrOf st).toList.take sa++((A0.take k++(r.toList++B0.drop m))++(arrOf st).toList.drop (sa+(na+nb))):=by
   rw[Ju (by omega),lr]
   have ts:((arrOf st).toList.take sa).length=sa:=by simp;omega
   have q1:(arrOf st).toList.take (sa+k)=(arrOf st).toList.take sa++A0.take k:=by
    rw[List.take_add,<-eA]
    show _=_++(((arrOf st).toList.drop sa).take na).take k
    rw[List.take_take,Nat.min_eq_left hk1]
   have q2:(arrOf st).toList.drop (sa+k+(na-k+m))=B0.drop m++(arrOf st).toList.drop (sa+(na+nb)):=by
    rw[<-eB]
    show _=(((arrOf st).toList.drop (sa+na)).take nb).drop m++_
    rw[List.drop_take,List.drop_drop,show sa+k+(na-k+m)=sa+na+m by omega]
    conv=>lhs;rw[<-List.take_append_drop (nb-m) ((arrOf st).toList.drop (sa+na+m))]
    rw[List.drop_drop,show sa+na+m+(nb-m)=sa+(na+nb)by omega]
   rw[q1,q2]
   simp[List.append_assoc]
  have UR:(A0.take k++(r.toList++B0.drop m)).Pairwise λx y=>K x<=K y:=by
   have sA:=List.pairwise_append.mp (by rw[List.take_append_drop];exact P1:(A0.take k++A0.drop k).Pairwise λx y=>K x<=K y)
   have sB:=List.pairwise_append.mp (by rw[List.take_append_drop];exact P2:(B0.take m++B0.drop m).Pairwise λx y=>K x<=K y)
   refine List.pairwise_append.mpr ⟨sA.1,List.pairwise_append.mpr ⟨G.2,sB.2.1,λx hx y hy=> ?_⟩,λx hx y hy=> ?_⟩
   ·rcases List.mem_append.mp (G.1.mem_iff.mp hx)with z|z
    ·exact Int.le_trans (KL x (List.mem_of_mem_drop z)) (u2 y hy)
    ·exact sB.2.2 x z y hy
   ·rcases List.mem_append.mp hy with z|z
    ·rcases List.mem_append.mp (G.1.mem_iff.mp z)with z|z
     ·exact sA.2.2 x hx y z
     ·exact Int.le_trans (t1 x hx) (Rp y (List.mem_of_mem_take z))
    ·exact Int.le_trans (t1 x hx) (Rp y (List.mem_of_mem_drop z))
  have US:(wr (sa+k) (arrOf st) r.toList.zipIdx).size=(arrOf st).size:=by
   rw[<-Array.length_toList,lst,<-Array.length_toList]
   conv=>rhs;rw[parts]
   simp only[List.length_append,lr,List.length_take,List.length_drop,lA,lB]
   omega
  have pm:(wr (sa+k) (arrOf st) r.toList.zipIdx).Perm (arrOf st):=by
   refine Array.perm_iff_toList_perm.mpr ?_
   rw[lst]
   conv=>rhs;rw[parts]
   refine List.Perm.append_left _ (List.Perm.append_right _ ?_)
   have h1:(A0.take k++(r.toList++B0.drop m)).Perm (A0.take k++((A0.drop k++B0.take m)++B0.drop m)):=List.Perm.append_left _ (List.Perm.append_right _ G.1)
   refine h1.trans (List.Perm.of_eq ?_)
   rw[List.append_assoc,List.take_append_drop,<-List.append_assoc,List.take_append_drop]
  refine⟨?_,S3.1,by show failedOf s3=failedOf st;rw[fl,hB.failed],S3.2.2.1,λt ht=> ?_,?_⟩
  ·show(wr (sa+k) (arrOf s3) r.toList.zipIdx).Perm _
   rw[ar]
   exact pm
  ·show(wr (sa+k) (arrOf s3) r.toList.zipIdx)[t]?=_
   rw[ar,AO (sa+k) r.toList 0 (arrOf st) t (by omega),if_neg (by omega)]
  ·show So K (wr (sa+k) (arrOf s3) r.toList.zipIdx) sa (na+nb)
   rw[ar,qd (by rw[US];omega)]
   show(((wr (sa+k) (arrOf st) r.toList.zipIdx).toList.drop sa).take (na+nb)).Pairwise _
   have ts:((arrOf st).toList.take sa).length=sa:=by simp;omega
   rw[lst,List.drop_append_of_le_length (by omega),List.drop_eq_nil_of_le (by omega),List.nil_append,List.take_append_of_le_length (by simp only[List.length_append,List.length_take,List.length_drop,lr,lA,lB];omega),
    List.take_of_length_le (by simp only[List.length_append,List.length_take,List.length_drop,lr,lA,lB];omega)]
   exact UR
 refine jZ (λc=> ?_) (λc=> ?_)
 ·refine wpS_bind (OH hL hB.kind (by omega) (by omega) (by rw[ex];exact dX) (by rw[ey];exact dY) (by rw[ex];exact Xs) (by rw[ey];exact Ys) (by rw[ex,ey];exact Mi) (by rw[ex,ey,SM];exact SN) λr s3 S3 G=> ?_)
  rw[ex,ey]at G
  exact goal r s3 S3 G
 ·refine wpS_bind (OJ hL hB.kind (by omega) (by omega) (by rw[ex];exact dX) (by rw[ey];exact dY) (by rw[ex];exact Xs) (by rw[ey];exact Ys) (by rw[ex,ey];exact Mi) (by rw[ex,ey,SM];exact SN) λr s3 S3 G=> ?_)
  rw[ex,ey]at G
  exact goal r s3 S3 G
end
def pD(K:Keyed->Int)(ar:Array Keyed):Nat->List (Nat×Nat×Nat) ->Nat->Prop
 |a,[],e=>a=e
 |a,(u,n,_)::r,e=>u=a/\0<n/\So K ar a n/\pD K ar (a+n) r e
theorem pD.le{K:Keyed->Int}{ar:Array Keyed}:∀{l:List (Nat×Nat×Nat)}{a e:Nat},pD K ar a l e->a+l.length<=e
 | [],a,e,h=>Nat.le_of_eq h
 |(u,n,z)::r,a,e,h=>by
  have:=pD.le h.2.2.2
  have:=h.2.1
  rw[List.length_cons]
  omega
theorem So.congr{K:Keyed->Int}{x y:Array Keyed}{lo n:Nat}(h:So K x lo n)(e:∀t,lo<=t->t<lo+n->y[t]?=x[t]?):So K y lo n:=λi j hij hj=>by
 rw[jB (e (lo+i) (by omega) (by omega)),jB (e (lo+j) (by omega) (by omega))]
 exact h i j hij hj
theorem pD.congr{K:Keyed->Int}{x y:Array Keyed}:∀{l:List (Nat×Nat×Nat)}{a e:Nat},pD K x a l e->(∀t,a<=t->t<e->y[t]?=x[t]?) ->pD K y a l e
 | [],a,e,h,_=>h
 |(u,n,z)::r,a,e,h,q=>⟨h.1,h.2.1,h.2.2.1.congr λt h1 h2=>q t h1 (by have:=h.2.2.2.le;omega),h.2.2.2.congr λt h1 h2=>q t (by omega) h2⟩
theorem pD.append{K:Keyed->Int}{ar:Array Keyed}{r:List (Nat×Nat×Nat)}{e:Nat}:∀{l:List (Nat×Nat×Nat)}{a:Nat},pD K ar a (l++r) e↔ ∃m,pD K ar a l m/\pD K ar m r e
 | [],a=>⟨λh=>⟨a,rfl,h⟩,λ ⟨m,h,q⟩=>by cases h;exact q⟩
 |(u,n,z)::l,a=>by
  constructor
  ·rintro⟨h1,h2,h3,h4⟩
   obtain⟨m,p,q⟩:=pD.append.mp h4
   exact⟨m,⟨h1,h2,h3,p⟩,q⟩
  ·rintro⟨m,⟨h1,h2,h3,p⟩,q⟩
   exact⟨h1,h2,h3,pD.append.mpr ⟨m,p,q⟩⟩
theorem pD.push{K:Keyed->Int}{ar:Array Keyed}{l:List (Nat×Nat×Nat)}{a e n z:Nat}(h:pD K ar a l e)(hn:0<n)(hs:So K ar e n):pD K ar a (l++ [(e,n,z)]) (e+n):=pD.append.mpr ⟨e,h,rfl,hn,hs,rfl⟩
theorem pD.pow{K:Keyed->Int}{ar:Array Keyed}{l:List (Nat×Nat×Nat)}{a e u n z z':Nat}(h:pD K ar a (l++ [(u,n,z)]) e):pD K ar a (l++ [(u,n,z')]) e:=by
 obtain⟨m,p,q1,q2,q3,q4⟩:=pD.append.mp h
 exact pD.append.mpr ⟨m,p,q1,q2,q3,q4⟩
theorem GJ:sortRuns'=(do
 let zz:=(arrOf (<-get)).size
 let mr:=minRun' zz zz 0
 let mut lo:=0
 for _ in [0:zz] do
  if lo≥zz then break
  let some f<-countRun' lo (zz-lo)|return
  let mut n:=f
  if n<mr then
   rule "list.sort.binary-insertion"
   let fo:=min (zz-lo) mr
   if !(<-binarySort' lo fo n)then return
   n:=fo
  if let some (a1,b1,_):=(pendingOf (<-get)).back? then
   let pw:=power' zz (2*a1+b1) (2*a1+b1+b1+n) zz
   for _ in [0:zz] do
    let p:=pendingOf (<-get)
    let some (_,_,od):=(if p.size>1 then p[p.size-2]? else none)|break
    if od<=pw then break
    if !(<-mergeAt' (p.size-2))then return
   modify λy=>setPending y ((pendingOf y).modify ((pendingOf y).size-1) λ (c,d,_)=>(c,d,pw))
  modify λy=>setPending y ((pendingOf y).push (lo,n,0))
  lo:=lo+n
 for _ in [0:zz] do
  let p:=pendingOf (<-get)
  if p.size<=1 then break
  let i:=p.size-2
  let be:=if i>0 then p[i-1]?.map (·.2.1)else none
  let i:=if be.any (· <(p[i+1]?.elim 0 (·.2.1)))then i-1 else i
  if !(<-mergeAt' i)then return):=rfl
section
variable{prog:Program}{w:World}{A:Around}{E:Value->Shared->Prop}{s:Shared}{κ:SortKind}{K:Keyed->Int}{D:Keyed->Prop}{st:SortSt}{a₀:Array Keyed}
structure RI(κ:SortKind)(K:Keyed->Int)(D:Keyed->Prop)(a₀:Array Keyed)(lo:Nat)(st:SortSt):Prop where
 sb:SB κ D st
 perm:(arrOf st).Perm a₀
 Mj:pD K (arrOf st) 0 (pendingOf st).toList lo
 le:lo<=a₀.size
theorem RI.size{lo:Nat}(R:RI κ K D a₀ lo st):(arrOf st).size=a₀.size:=R.perm.size_eq
theorem RI.cnt{lo:Nat}(R:RI κ K D a₀ lo st):(pendingOf st).size<=lo:=by have:=R.Mj.le;rw[Nat.zero_add,Array.length_toList]at this;exact this
theorem RI.sc{lo:Nat}{s1:SortSt}(R:RI κ K D a₀ lo st)(S:SC lo st s1):RI κ K D a₀ lo s1:=
 ⟨R.sb.sc S,S.perm.trans R.perm,by rw[S.pend];exact R.Mj.congr λt _ h=>S.low t h,R.le⟩
theorem tR(hL:pB prog w A E s κ K D){lo i:Nat}{Q:Bool->SortSt->Prop}(R:RI κ K D a₀ lo st)(hi:i+1<(pendingOf st).size)
  (hq:∀st',RI κ K D a₀ lo st'->(pendingOf st').size+1=(pendingOf st).size->(∀t,lo<=t->(arrOf st')[t]?=(arrOf st)[t]?) ->Q true st'):wpS (model prog w) A E s (mergeAt' i) Q st:=by
 have hl:i+1<(pendingOf st).toList.length:=by simpa using hi
 obtain⟨⟨u,na,z1⟩,eu⟩:∃x,(pendingOf st).toList[i]?=some x:=⟨_,List.getElem?_eq_getElem (by omega)⟩
 obtain⟨⟨v,nb,z2⟩,ev⟩:∃x,(pendingOf st).toList[i+1]?=some x:=⟨_,List.getElem?_eq_getElem hl⟩
 obtain⟨pre,post,split,lt⟩:∃pre post,(pendingOf st).toList=pre++((u,na,z1)::(v,nb,z2)::post)/\pre.length=i:=by
  refine⟨(pendingOf st).toList.take i,(pendingOf st).toList.drop (i+2),?_,by rw[List.length_take];omega⟩
  conv=>lhs;rw[<-List.take_append_drop i (pendingOf st).toList]
  congr 1
  rw[List.drop_eq_getElem_cons (by omega),List.drop_eq_getElem_cons hl]
  rw[List.getElem?_eq_getElem (by omega)]at eu
  rw[List.getElem?_eq_getElem hl]at ev
  rw[Option.some.inj eu,Option.some.inj ev]
 have C:=R.Mj
 rw[split]at C
 obtain⟨m,c1,rfl,hna,sa,c2⟩:=pD.append.mp C
 obtain⟨rfl,hnb,sb,c3⟩:=c2
 have PC:=c3.le
 have sz:=R.size
 have rl:=R.le
 refine ON hL (q:=(z2,0)) (nb:=nb) (na:=na) (sa:=u) (pw:=z1) R.sb (by rw[<-Array.getElem?_toList];exact eu) (by rw[<-Array.getElem?_toList];exact ev) hna hnb (by omega) sa sb λst' M=> ?_
 have pl:(pendingOf st').toList=pre++((u,na+nb,z1)::post):=by
  rw[M.pend]
  simp only[Array.toList_eraseIdxIfInBounds,Array.toList_setIfInBounds]
  rw[split,List.set_append_right _ _ (by omega),lt,Nat.sub_self,List.set_cons_zero,List.eraseIdx_append_of_length_le (by omega),lt,show i+1-i=1 by omega,List.eraseIdx_cons_succ,List.eraseIdx_cons_zero]
 have ov:=c3.le
 refine hq st' ⟨⟨M.kind.trans R.sb.kind,M.failed.trans R.sb.failed,λx hx=>R.sb.all x ((Array.perm_iff_toList_perm.mp M.perm).mem_iff.mp hx)⟩,M.perm.trans R.perm,?_,R.le⟩ ?_ λt h=>M.out t (.inr (by omega))
 ·rw[pl]
  exact pD.append.mpr ⟨u,c1.congr λt _ h=>M.out t (.inl h),rfl,by omega,M.so,by rw[<-Nat.add_assoc];exact c3.congr λt h _=>M.out t (.inr (by omega))⟩
 ·have e1:(pendingOf st').toList.length=(pendingOf st').size:=Array.length_toList
  have e2:(pendingOf st).toList.length=(pendingOf st).size:=Array.length_toList
  rw[pl]at e1
  rw[split]at e2
  simp only[List.length_append,List.length_cons]at e1 e2
  omega
theorem Jv(hL:pB prog w A E s κ K D){lo i:Nat}{Q:Bool->SortSt->Prop}(R:RI κ K D a₀ lo st)(hi:i+1<(pendingOf st).size)
  (hq:∀st',RI κ K D a₀ lo st'->(pendingOf st').size+1=(pendingOf st).size->Q true st'):wpS (model prog w) A E s (mergeAt' i) Q st:=tR hL R hi λst' r e _=>hq st' r e
theorem zg{α:Type}(f:α->α)(y:α):∀l:List α,(l++ [y]).modify l.length f=l++ [f y]
 | []=>rfl
 |x::l=>by
  show x::((l++ [y]).modify l.length f)=_
  rw[zg f y l]
  rfl
theorem Jw{ar:Array Keyed}{p:Array (Nat×Nat×Nat)}{lo pw:Nat}(C:pD K ar 0 p.toList lo)(h:0<p.size):pD K ar 0 (p.modify (p.size-1) λx=>(x.1,x.2.1,pw)).toList lo:=by
 rw[Array.toList_modify]
 obtain⟨⟨q1,q2,q3⟩,l',el⟩:∃y l',p.toList=l'++ [y]:=by
  have ne:p.toList≠ []:=λe=>by
   rw[<-Array.length_toList,e]at h
   cases h
  exact⟨_,_,(List.dropLast_concat_getLast ne).symm⟩
 have sz:p.size-1=l'.length:=by
  rw[<-Array.length_toList,el]
  simp
 rw[el]at C ⊢
 rw[sz,zg]
 exact C.pow
theorem RI.pow{lo:Nat}(R:RI κ K D a₀ lo st)(h:0<(pendingOf st).size)(pw:Nat):RI κ K D a₀ lo (setPending st ((pendingOf st).modify ((pendingOf st).size-1) λx=>(x.1,x.2.1,pw))):=
 ⟨⟨R.sb.kind,R.sb.failed,R.sb.all⟩,R.perm,Jw R.Mj h,R.le⟩
theorem Jx(c:Prop)[Decidable c](k:Nat):(if c then k-1 else k)<=k:=by split<;>omega
theorem Mk(hL:pB prog w A E s κ K D){Q:Unit->SortSt->Prop}(R:RI κ K D a₀ 0 st)(hq:∀st',(arrOf st').Perm a₀->failedOf st'=none->So K (arrOf st') 0 a₀.size->Q () st'):wpS (model prog w) A E s sortRuns' Q st:=by
 rw[GJ]
 refine wpS_bind (wpS_get ?_)
 dsimp only
 rw[R.size]
 generalize minRun' a₀.size a₀.size 0=mr
 refine wpS_bind (wpS_mono (wpS_forRange (I:=λx c s1=> ∃lo,c=(none,lo)/\x<=lo/\RI κ K D a₀ lo s1) (Q:=λc s1=> ∃lo,c=(none,lo)/\a₀.size<=lo/\RI κ K D a₀ lo s1) ?_ ?_ ⟨0,rfl,Nat.le_refl _,R⟩) ?_)
 ·rintro x c s1 _ hx ⟨lo,rfl,hlo,R1⟩
  dsimp only
  refine jZ (λc=>wpS_pure ⟨lo,rfl,c,R1⟩) (λc=> ?_)
  have VZ:=R1.size
  refine wpS_bind (w_count hL R1.sb (by omega) (by omega) λn s2 S2 n1 n2 KN=> ?_)
  dsimp only
  have R2:=R1.sc S2
  have UT:=R2.size
  by_cases hm:n<mr
  ·rw[if_pos hm]
   refine wpS_bind (wpS_lift (wpAny_rule ⟨rfl,?_⟩))
   refine wpS_bind (KI hL R2.sb (by omega) (by omega) KN λs3 S3 ET=> ?_)
   simp only[Bool.not_true,Bool.false_eq_true,if_false]
   have R3:=R2.sc S3
   have n1:1<=min (a₀.size-lo) mr:=by omega
   have n2:min (a₀.size-lo) mr<=a₀.size-lo:=by omega
   have note:∀s4:SortSt,RI κ K D a₀ lo s4->So K (arrOf s4) lo (min (a₀.size-lo) mr) -> ∀Q:ForInStep (Option Unit×Nat) ->SortSt->Prop,(∀s5,RI κ K D a₀ (lo+min (a₀.size-lo) mr) s5->Q (.yield (none,lo+min (a₀.size-lo) mr)) s5) ->wpS (model prog w) A E s (do
     modify λy=>setPending y ((pendingOf y).push (lo,min (a₀.size-lo) mr,0))
     pure (ForInStep.yield ((none,lo+min (a₀.size-lo) mr):Option Unit×Nat))) Q s4:=λs4 R4 AQ Q hQ=>
    wpS_bind (wpS_modify (wpS_pure (hQ _ ⟨⟨R4.sb.kind,R4.sb.failed,R4.sb.all⟩,R4.perm,by
     show pD K (arrOf s4) 0 ((pendingOf s4).push (lo,min (a₀.size-lo) mr,0)).toList (lo+min (a₀.size-lo) mr)
     rw[Array.toList_push]
     exact R4.Mj.push n1 AQ,by omega⟩)))
   refine wpS_bind (wpS_get ?_)
   cases eb:(pendingOf s3).back? with
   |none=>exact note s3 R3 ET _ λs5 R5=>⟨lo+min (a₀.size-lo) mr,rfl,by omega,R5⟩
   |some y=>
    obtain⟨a1,b1,z1⟩:=y
    dsimp only
    refine wpS_bind (wpS_mono (wpS_forRange (I:=λ_ c s4=>c=(none,())/\RI κ K D a₀ lo s4/\So K (arrOf s4) lo (min (a₀.size-lo) mr)/\0<(pendingOf s4).size) (Q:=λc s4=>c=(none,())/\RI κ K D a₀ lo s4/\So K (arrOf s4) lo (min (a₀.size-lo) mr)/\0<(pendingOf s4).size) ?_ (λ_ _ h=>h) ⟨rfl,R3,ET,?_⟩) ?_)
    ·rintro _ c s4 _ _ ⟨rfl,R4,AQ,p4⟩
     refine wpS_bind (wpS_get ?_)
     by_cases c1:(pendingOf s4).size>1
     ·rw[if_pos c1]
      obtain⟨⟨p1,p2,p3⟩,ep⟩:∃y,(pendingOf s4)[(pendingOf s4).size-2]?=some y:=⟨_,Array.getElem?_eq_getElem (by omega)⟩
      rw[ep]
      refine jZ (λ_=>wpS_pure ⟨rfl,R4,AQ,p4⟩) (λ_=> ?_)
      exact wpS_bind (tR hL R4 (by omega) λs5 R5 e5 o5=>wpS_pure ⟨rfl,R5,AQ.congr λt h _=>o5 t h,by omega⟩)
     ·rw[if_neg c1]
      exact wpS_pure ⟨rfl,R4,AQ,p4⟩
    ·cases h:(pendingOf s3).size with
     |zero=>
      have:pendingOf s3= #[]:=Array.eq_empty_of_size_eq_zero h
      rw[this]at eb
      cases eb
     |succ k=>omega
    ·rintro c s4 ⟨rfl,R4,AQ,p4⟩
     dsimp only
     refine wpS_bind (wpS_modify ?_)
     exact note _ (R4.pow p4 _) AQ _ λs5 R5=>⟨lo+min (a₀.size-lo) mr,rfl,by omega,R5⟩
  ·rw[if_neg hm]
   have R3:=R2
   have ET:=KN
   revert R3 ET
   generalize s2=s3
   intro R3 ET
   have note:∀s4:SortSt,RI κ K D a₀ lo s4->So K (arrOf s4) lo (n) -> ∀Q:ForInStep (Option Unit×Nat) ->SortSt->Prop,(∀s5,RI κ K D a₀ (lo+n) s5->Q (.yield (none,lo+n)) s5) ->wpS (model prog w) A E s (do
     modify λy=>setPending y ((pendingOf y).push (lo,n,0))
     pure (ForInStep.yield ((none,lo+n):Option Unit×Nat))) Q s4:=λs4 R4 AQ Q hQ=>
    wpS_bind (wpS_modify (wpS_pure (hQ _ ⟨⟨R4.sb.kind,R4.sb.failed,R4.sb.all⟩,R4.perm,by
     show pD K (arrOf s4) 0 ((pendingOf s4).push (lo,n,0)).toList (lo+n)
     rw[Array.toList_push]
     exact R4.Mj.push n1 AQ,by omega⟩)))
   refine wpS_bind (wpS_get ?_)
   cases eb:(pendingOf s3).back? with
   |none=>exact note s3 R3 ET _ λs5 R5=>⟨lo+n,rfl,by omega,R5⟩
   |some y=>
    obtain⟨a1,b1,z1⟩:=y
    dsimp only
    refine wpS_bind (wpS_mono (wpS_forRange (I:=λ_ c s4=>c=(none,())/\RI κ K D a₀ lo s4/\So K (arrOf s4) lo (n)/\0<(pendingOf s4).size) (Q:=λc s4=>c=(none,())/\RI κ K D a₀ lo s4/\So K (arrOf s4) lo (n)/\0<(pendingOf s4).size) ?_ (λ_ _ h=>h) ⟨rfl,R3,ET,?_⟩) ?_)
    ·rintro _ c s4 _ _ ⟨rfl,R4,AQ,p4⟩
     refine wpS_bind (wpS_get ?_)
     by_cases c1:(pendingOf s4).size>1
     ·rw[if_pos c1]
      obtain⟨⟨p1,p2,p3⟩,ep⟩:∃y,(pendingOf s4)[(pendingOf s4).size-2]?=some y:=⟨_,Array.getElem?_eq_getElem (by omega)⟩
      rw[ep]
      refine jZ (λ_=>wpS_pure ⟨rfl,R4,AQ,p4⟩) (λ_=> ?_)
      exact wpS_bind (tR hL R4 (by omega) λs5 R5 e5 o5=>wpS_pure ⟨rfl,R5,AQ.congr λt h _=>o5 t h,by omega⟩)
     ·rw[if_neg c1]
      exact wpS_pure ⟨rfl,R4,AQ,p4⟩
    ·cases h:(pendingOf s3).size with
     |zero=>
      have:pendingOf s3= #[]:=Array.eq_empty_of_size_eq_zero h
      rw[this]at eb
      cases eb
     |succ k=>omega
    ·rintro c s4 ⟨rfl,R4,AQ,p4⟩
     dsimp only
     refine wpS_bind (wpS_modify ?_)
     exact note _ (R4.pow p4 _) AQ _ λs5 R5=>⟨lo+n,rfl,by omega,R5⟩
 ·rintro c s1 ⟨lo,rfl,hlo,R1⟩
  exact⟨lo,rfl,by omega,R1⟩
 ·rintro c s1 ⟨lo,rfl,hlo,R1⟩
  have hl:lo=a₀.size:=by have:=R1.le;omega
  subst hl
  dsimp only
  refine wpS_bind (wpS_mono (wpS_forRange (I:=λx c s2=>c=(none,())/\RI κ K D a₀ a₀.size s2/\((pendingOf s2).size<=1∨(pendingOf s2).size+x<=a₀.size)) (Q:=λc s2=>c=(none,())/\RI κ K D a₀ a₀.size s2/\(pendingOf s2).size<=1) ?_ ?_ ⟨rfl,R1,.inr R1.cnt⟩) ?_)
  ·rintro x c s2 _ hx ⟨rfl,R2,p2⟩
   refine wpS_bind (wpS_get ?_)
   refine jZ (λc=>wpS_pure ⟨rfl,R2,c⟩) (λc=> ?_)
   have mg:∀i,i+1<(pendingOf s2).size-> ∀Q:ForInStep (Option Unit×Unit) ->SortSt->Prop,(∀s3,RI κ K D a₀ a₀.size s3->(pendingOf s3).size+1=(pendingOf s2).size->Q (.yield (none,())) s3) ->wpS (model prog w) A E s (do
     let b<-mergeAt' i
     if(!b)=true then pure (ForInStep.done ((some (),()):Option Unit×Unit))else pure (ForInStep.yield (none,()))) Q s2:=λi hi Q hQ=>
    wpS_bind (Jv hL R2 hi λs3 R3 e3=>wpS_pure (hQ s3 R3 e3))
   refine mg _ ?_ _ λs3 R3 e3=>⟨rfl,R3,.inr (by omega)⟩
   exact Nat.lt_of_le_of_lt (Nat.succ_le_succ (Jx _ _)) (by omega)
  ·rintro c s2 ⟨hc,R2,p2⟩
   exact⟨hc,R2,by omega⟩
  ·rintro c s2 ⟨rfl,R2,p2⟩
   refine wpS_pure (hq s2 R2.perm R2.sb.failed ?_)
   have C:=R2.Mj
   have le:=p2
   rw[<-Array.length_toList]at le
   cases e:(pendingOf s2).toList with
   |nil=>
    rw[e]at C
    have z:0=a₀.size:=C
    intro i j h1 h2
    omega
   |cons y r=>
    rw[e]at C le
    have:r=[]:=by
     cases r with
     |nil=>rfl
     |cons _ _=>simp at le
    subst this
    obtain⟨c1,c2,c3,c4⟩:=C
    have:0+y.2.1=a₀.size:=c4
    rw[<-this,Nat.zero_add]
    exact c3
end
end xF
namespace L2
open PySem PySem.Spec PyProof.Rows PySem.SeqAt
open AutoSeq1 (wpAny_loadPart')
open MeetsSeq MeetsSeq2 MeetsSeq3 SeqRoads2
mutual
def GK:PyData->PyData->Bool
 | .int a,.int b=>decide (a<b)
 | .list xs,.list ys=>nO xs ys
 | .tuple xs,.tuple ys=>nO xs ys
 |_,_=>false
def nO:List PyData->List PyData->Bool
 |x::xs,y::ys=>if PyData.eqv x y then nO xs ys else GK x y
 |_,_=>false
end
mutual
inductive zh:PyData->PyData->Prop
 |int(a b:Int):zh (.int a) (.int b)
 |lst{xs ys:List PyData}:nA xs ys->zh (.list xs) (.list ys)
inductive nA:List PyData->List PyData->Prop
 |nil:nA [] []
 |cons{x y:PyData}{xs ys:List PyData}:zh x y->nA xs ys->nA (x::xs) (y::ys)
end
def rF(A:Around)(s:Shared)(y x:Value)(b:Bool):Prop:=
 ∀(prog:Program)(w:World)(E:Value->Shared->Prop)(Q:Value->Shared->Prop),Q (.bool b) s->wpAny (model prog w) A (richCompare .Lt y x) Q E s
def rG(e l:Nat->Bool):Nat->Nat->Bool
 |0,_=>false
 |k+1,i=>if e i then rG e l k (i+1)else l i
theorem DS(l b:Addr)(its mF:Array Value)(n n2:Nat)(dd dd2:Option Addr)(sl sl2:Array (Option Value))(hsz:its.size=mF.size)(e f:Nat->Bool)(k:Nat):
  ∀i:Nat,its.size-i=k->Meets (Builtin.«list.__eq__.loop» ⟨[.ref l,.ref b,rawInt i,rawInt 0],[]⟩)
   (λA R s=>s.heap.get? l=some {cls:= .type "list",dict:=dd,data:= .seq its n,slots:=sl}/\s.heap.get? b=some {cls:= .type "list",dict:=dd2,data:= .seq mF n2,slots:=sl2}/\
    (∀j (h1:j<its.size) (h2:j<mF.size),EqAt A.in1 s its[j] mF[j] (e j))/\
    (∀j (h1:j<its.size) (h2:j<mF.size),e j=false->rF A.in1 s its[j] mF[j] (f j))/\
    R (.ok (.ret (.bool (rG e f k i)))) s):=by
 induction k with
 |zero=>
  intro i hk prog w A R s h
  obtain⟨hp,g,d,tk,os⟩:=s;obtain⟨hl,hb,he,hf,h⟩:=h
  wp_walk using wpAny_loadPart' hl,wpAny_loadPart' hb
  have hi1:its[((i:Nat):Int).toNat]?=none:=by simp;omega
  have hi2:mF[((i:Nat):Int).toNat]?=none:=by simp;omega
  rw[hi1,hi2]
  wp_walk using wpAny_loadPart' hl,wpAny_loadPart' hb
  show R (.ok (.ret (.bool (decide (its.size<mF.size))))) _
  rw[hsz,decide_eq_false (Nat.lt_irrefl _)]
  exact h
 |succ k ih=>
  intro i hk prog w A R s h
  obtain⟨hp,g,d,tk,os⟩:=s;obtain⟨hl,hb,he,hf,h⟩:=h
  wp_walk using wpAny_loadPart' hl,wpAny_loadPart' hb
  have hlt:i<its.size:=by omega
  have Ml:i<mF.size:=by omega
  have hi1:its[((i:Nat):Int).toNat]?=some its[i]:=by simp[hlt]
  have hi2:mF[((i:Nat):Int).toNat]?=some mF[i]:=by simp[Ml]
  have hc:((i:Int)+1)=((i+1:Nat):Int):=by push_cast;rfl
  rw[hi1,hi2]
  refine wpAny_bind (he i hlt Ml prog w _ _ ?_)
  unfold rG at h
  cases hb':e i with
  |true=>
   rw[hb',if_pos rfl]at h
   wp_walk
   rw[hc]
   exact⟨plainId_quiet plain_eq_loop _,codeAny_builtin entry_eq_loop (by
    rw[Around.under_plainId plain_eq_loop _]
    exact ih (i+1) (by omega) prog w A R _ ⟨hl,hb,he,hf,h⟩)⟩
  |false=>
   rw[hb',if_neg (by simp)]at h
   wp_walk using wpAny_loadPart' hl,wpAny_loadPart' hb
   rw[hi1,hi2]
   refine wpAny_bind (hf i hlt Ml hb' prog w _ _ ?_)
   wp_walk
   exact h
theorem v9(l b:Addr)(its mF:Array Value)(n n2:Nat)(dd dd2:Option Addr)(sl sl2:Array (Option Value))(hsz:its.size=mF.size)(e f:Nat->Bool):
  Meets (Builtin.«list.__lt__» ⟨[.ref l,.ref b],[]⟩)
   (λA R s=>s.heap.get? l=some {cls:= .type "list",dict:=dd,data:= .seq its n,slots:=sl}/\s.heap.get? b=some {cls:= .type "list",dict:=dd2,data:= .seq mF n2,slots:=sl2}/\
    (∀j (h1:j<its.size) (h2:j<mF.size),EqAt A.in1 s its[j] mF[j] (e j))/\
    (∀j (h1:j<its.size) (h2:j<mF.size),e j=false->rF A.in1 s its[j] mF[j] (f j))/\
    R (.ok (.ret (.bool (rG e f its.size 0)))) s):=by
 intro prog w A R s h
 obtain⟨hp,g,d,tk,os⟩:=s;obtain⟨hl,hb,he,hf,h⟩:=h
 have f3:=AutoSeq1.sub_list_list
 wp_walk using wpAny_loadPart' hl,wpAny_loadPart' hb
 exact⟨plainId_quiet plain_eq_loop _,codeAny_builtin entry_eq_loop (by
  rw[Around.under_plainId plain_eq_loop _]
  exact DS l b its mF n n2 dd dd2 sl sl2 hsz e f _ 0 rfl prog w A R _ ⟨hl,hb,he,hf,h⟩)⟩
section
variable{A:Around}{s:Shared}
theorem rF.lists{l b:Addr}{its mF:Array Value}{e f:Nat->Bool}(hl:s.heap.IsList l its)(hb:s.heap.IsList b mF)(hsz:its.size=mF.size)(hu:A.units<cLine)
  (he:∀j (h1:j<its.size) (h2:j<mF.size),EqAt A.in1 s its[j] mF[j] (e j))(hf:∀j (h1:j<its.size) (h2:j<mF.size),e j=false->rF A.in1 s its[j] mF[j] (f j)):
  rF A s (.ref l) (.ref b) (rG e f its.size 0):=λprog w E Q h=>by
 obtain⟨⟨cls,dd,data,sl⟩,ho,hc,n,hd⟩:=id hl
 obtain⟨⟨NU,dd2,data2,sl2⟩,ho2,hc2,n2,hd2⟩:=id hb
 simp only at hc hd hc2 hd2
 subst hc hd hc2 hd2
 exact richCompare_meets_room (op:= .Lt) ⟨_,ho,rfl⟩ ⟨_,ho2,rfl⟩ F.slot_list_lt F.entry_list_lt (F.args_list_lt_2 _ _) (v9 l b its mF n n2 dd dd2 sl sl2 hsz e f)
  ⟨ho,ho2,he,hf,show Value.bool (rG e f its.size 0)≠Value.notImplemented/\Q (.bool (rG e f its.size 0)) s from⟨(λx=>nomatch x),h⟩⟩ hu
theorem rF.int_int(a:Int)(t:Tok)(b:Int)(u:Tok):rF A s (.int a t) (.int b u) (decide (a<b)):=λprog w E Q h=>
 richCompare_gives (typeIs_int s a t) (typeIs_int s b u) F.slot_int_lt F.entry_int_lt (F.args_int_lt_2 _ _) (AutoIntG1.int___lt___int_int_0 a t b u) (λx=>nomatch x) h
end
abbrev Ij(xs ys:List PyData)(j:Nat):Bool:=GK (xs.getD j .none) (ys.getD j .none)
theorem tS(x y:PyData)(xs ys:List PyData):∀k i,rG (pairEq (x::xs) (y::ys)) (Ij (x::xs) (y::ys)) k (i+1)=rG (pairEq xs ys) (Ij xs ys) k i
 |0,_=>rfl
 |k+1,i=>by
  show(if pairEq (x::xs) (y::ys) (i+1)then _ else Ij (x::xs) (y::ys) (i+1))=if pairEq xs ys i then _ else Ij xs ys i
  rw[tS x y xs ys k (i+1)]
  rfl
theorem qe:∀{xs ys:List PyData},nA xs ys->rG (pairEq xs ys) (Ij xs ys) xs.length 0=nO xs ys
 |_,_,.nil=>rfl
 |_,_,.cons (x:=x) (y:=y) (xs:=xs) (ys:=ys) c cs=>by
  show(if pairEq (x::xs) (y::ys) 0 then rG (pairEq (x::xs) (y::ys)) (Ij (x::xs) (y::ys)) xs.length (0+1)else Ij (x::xs) (y::ys) 0)=if PyData.eqv x y then nO xs ys else GK x y
  rw[tS,qe cs]
  rfl
theorem nA.length:∀{xs ys:List PyData},nA xs ys->xs.length=ys.length
 |_,_,.nil=>rfl
 |_,_,.cons _ cs=>congrArg (· +1) cs.length
mutual
theorem tT:∀{da db:PyData},zh da db-> ∀{A:Around}{s:Shared}{a b:Value}{as bs:List Addr},Reads s.heap a da as->Reads s.heap b db bs->da.canLay0=true->db.canLay0=true->
  A.units+min da.depth db.depth<cLine->rF A s a b (GK da db)
 |_,_,.int x y,A,s,_,_,_,_,ra,rb,_,_,_=>by
  cases ra
  cases rb
  exact rF.int_int x _ y _
 |_,_,.lst (xs:=xs) (ys:=ys) cs,A,s,_,_,_,_,ra,rb,ha,hb,hu=>by
  cases ra with
  | @list l o vs n _ as₁ h1 h2 h3 h4=>
   cases rb with
   | @list l' o' vs' n' _ bs₁ k1 k2 k3 k4=>
    have n1:vs.size=xs.length:=by simpa using ReadsAll.length _ _ _ h4
    have n2:vs'.size=ys.length:=by simpa using ReadsAll.length _ _ _ k4
    have hl:s.heap.IsList l vs:=⟨_,h1,h2,_,h3⟩
    have hl':s.heap.IsList l' vs':=⟨_,k1,k2,_,k3⟩
    have:=rF.lists (e:=pairEq xs ys) (f:=Ij xs ys) hl hl' (by rw[n1,n2,cs.length]) (room_here hu) (λj j1 j2=>by
     have:=eqAt_readsAll xs ys A.in1 s vs.toList vs'.toList _ _ h4 k4 ha hb (room_in hu) j (by simpa using j1) (by simpa using j2)
     simpa using this) (λj j1 j2 _=>by
     have:=kh (A:=A.in1) cs h4 k4 ha hb (room_in hu) j (by simpa using j1) (by simpa using j2)
     simpa using this)
    rw[n1,qe cs]at this
    exact this
theorem kh:∀{xs ys:List PyData},nA xs ys-> ∀{A:Around}{s:Shared}{vs ws:List Value}{as bs:List Addr},ReadsAll s.heap vs xs as->ReadsAll s.heap ws ys bs->PyData.canLayAll0 xs=true->PyData.canLayAll0 ys=true->
  A.units+min (PyData.depthAll xs) (PyData.depthAll ys)<cLine-> ∀j (h1:j<vs.length) (h2:j<ws.length),rF A s vs[j] ws[j] (Ij xs ys j)
 |_,_,.nil,_,_,_,_,_,_,ra,_,_,_,_,j,h1,_=>by cases ra;exact absurd h1 (Nat.not_lt_zero _)
 |_,_,.cons (x:=x) (y:=y) (xs:=xs) (ys:=ys) c cs,A,s,_,_,_,_,ra,rb,ha,hb,hu,j,h1,h2=>by
  have ha':x.canLay0=true/\PyData.canLayAll0 xs=true:=by simpa [PyData.canLayAll0]using ha
  have hb':y.canLay0=true/\PyData.canLayAll0 ys=true:=by simpa [PyData.canLayAll0]using hb
  cases ra with
  |cons r rs=>
   cases rb with
   |cons r' rs'=>
    cases j with
    |zero=>exact tT c r r' ha'.1 hb'.1 (room_head hu)
    |succ j=>exact kh cs rs rs' ha'.2 hb'.2 (room_tail hu) j (Nat.lt_of_succ_lt_succ h1) (Nat.lt_of_succ_lt_succ h2)
end
section
variable{prog:Program}{w:World}{A:Around}{E:Value->Shared->Prop}{s:Shared}
theorem xH{l b:Addr}{its mF:Array Value}{e f:Nat->Bool}{Q:Value->Shared->Prop}(hl:s.heap.IsList l its)(hb:s.heap.IsList b mF)(hsz:its.size=mF.size)
  (he:∀j (h1:j<its.size) (h2:j<mF.size),EqAt A.in1 s its[j] mF[j] (e j))(hf:∀j (h1:j<its.size) (h2:j<mF.size),e j=false->rF A.in1 s its[j] mF[j] (f j))
  (h:Q (.bool (rG e f its.size 0)) s):wpAny (model prog w) A (call (.builtin "list.__lt__") [.ref l,.ref b]) Q E s:=by
 obtain⟨⟨cls,dd,data,sl⟩,ho,hc,n,hd⟩:=id hl
 obtain⟨⟨NU,dd2,data2,sl2⟩,ho2,hc2,n2,hd2⟩:=id hb
 simp only at hc hd hc2 hd2
 subst hc hd hc2 hd2
 exact call_meets F.slot_list_lt ⟨_,ho,rfl⟩ F.entry_list_lt (F.args_list_lt_2 _ _) (v9 l b its mF n n2 dd dd2 sl sl2 hsz e f) ⟨ho,ho2,he,hf,h⟩
theorem rg{da db:PyData}(c:zh da db){a b:Value}{as bs:List Addr}(ra:Reads s.heap a da as)(rb:Reads s.heap b db bs)(ha:da.canLay0=true)(hb:db.canLay0=true)
  (hu:A.units+min da.depth db.depth<cLine){Q:Bool->Shared->Prop}(h:Q (GK da db) s):wpAny (model prog w) A (oneLt' true a b) Q E s:=by
 cases c with
 |int x y=>
  cases ra
  cases rb
  exact oneLt_int h
 | @lst xs ys cs=>
  cases ra with
  | @list l o vs n _ as₁ h1 h2 h3 h4=>
   cases rb with
   | @list l' o' vs' n' _ bs₁ k1 k2 k3 k4=>
    have n1:vs.size=xs.length:=by simpa using ReadsAll.length _ _ _ h4
    have n2:vs'.size=ys.length:=by simpa using ReadsAll.length _ _ _ k4
    have hl:s.heap.IsList l vs:=⟨_,h1,h2,_,h3⟩
    have hl':s.heap.IsList l' vs':=⟨_,k1,k2,_,k3⟩
    rw[oneLt'_eq]
    simp only[if_true]
    refine wpAny_bind (wpAny_cRoomFor_or (.inr (room_here hu)) ?_)
    refine wpAny_bind (wpAny_callSpecialIfBound?_slot (T:= "list") (id:= "list.__lt__") ⟨o,h1,h2⟩ F.slot_list_lt (xH (e:=pairEq xs ys) (f:=Ij xs ys) hl hl' (by rw[n1,n2,cs.length]) (λj j1 j2=>by
     have:=eqAt_readsAll xs ys A.in1 s vs.toList vs'.toList _ _ h4 k4 ha hb (room_in hu) j (by simpa using j1) (by simpa using j2)
     simpa using this) (λj j1 j2 _=>by
     have:=kh (A:=A.in1) cs h4 k4 ha hb (room_in hu) j (by simpa using j1) (by simpa using j2)
     simpa using this) ?_))
    rw[n1,qe cs]
    exact wpAny_truthy_bool h
theorem AR{da db:PyData}(c:zh da db){a b:Value}{as bs:List Addr}(ra:Reads s.heap a da as)(rb:Reads s.heap b db bs)(ha:da.canLay0=true)(hb:db.canLay0=true)
  (hu:A.units+min da.depth db.depth<cLine)(k:Bool){Q:Bool->Shared->Prop}(h:Q (GK da db) s):wpAny (model prog w) A (oneLt' k a b) Q E s:=by
 cases k with
 |true=>exact rg c ra rb ha hb hu h
 |false=>
  refine PySem.W.kat_one a b (tT c ra rb ha hb hu prog w E _ ?_)
  exact h
theorem wc{b:Bool}{Q:Bool->Shared->Prop}:∀{xs ys:List PyData},nA xs ys-> ∀{vs ws:List Value}{as bs:List Addr},ReadsAll s.heap vs xs as->ReadsAll s.heap ws ys bs->PyData.canLayAll0 xs=true->PyData.canLayAll0 ys=true->
  A.units+min (PyData.depthAll xs) (PyData.depthAll ys)<cLine-> ∀i,Q (nO xs ys) s->PySem.W.KatLex prog w A b false Q (vs.zip ws) i s
 |_,_,.nil,_,_,_,_,ra,rb,_,_,_,i,h=>by
  cases ra
  cases rb
  exact PySem.W.kat_nil h
 |_,_,.cons (x:=x) (y:=y) (xs:=xs) (ys:=ys) c cs,_,_,_,_,ra,rb,ha,hb,hu,i,h=>by
  have ha':x.canLay0=true/\PyData.canLayAll0 xs=true:=by simpa [PyData.canLayAll0]using ha
  have hb':y.canLay0=true/\PyData.canLayAll0 ys=true:=by simpa [PyData.canLayAll0]using hb
  cases ra with
  |cons r rs=>
   cases rb with
   |cons r' rs'=>
    refine PySem.W.kat_cons (eqAt_reads x y A s _ _ _ _ r r' ha'.1 hb'.1 (room_head hu) prog w _ _ ?_)
    have h':Q (if PyData.eqv x y then nO xs ys else GK x y) s:=h
    cases e:PyData.eqv x y with
    |true=>
     rw[e,if_pos rfl]at h'
     exact PySem.W.kat_yes (wc cs rs rs' ha'.2 hb'.2 (room_tail hu) (i+1) h')
    |false=>
     rw[e,if_neg (by simp)]at h'
     exact PySem.W.kat_no (AR c r r' ha'.1 hb'.1 (room_head hu) _ h')
end
end L2
namespace L2
open PySem PySem.Spec PyProof.Rows PySem.SeqAt xF
section
variable{prog:Program}{w:World}{A:Around}{E:Value->Shared->Prop}{s:Shared}
structure xJ(prog:Program)(w:World)(A:Around)(E:Value->Shared->Prop)(a:Addr)(vs:List Value)(κ:SortKind)(K:Keyed->Int)(s:Shared):Prop where
 kind:2<=vs.length-> ∀s':Shared,(∀b o,b≠a->s.heap.get? b=some o->s'.heap.get? b=some o) -> ∀Q:SortKind->Shared->Prop,Q κ s'->wpAny (model prog w) A (keyKind' vs.toArray) Q E s'
 lt:∀s':Shared,(∀b o,b≠a->s.heap.get? b=some o->s'.heap.get? b=some o) ->pB prog w A E s' κ K (λp=>p.1=p.2/\p.1∈vs)
theorem zj{vs:List Value}{K:Keyed->Int}{xs:Array Keyed}(hp:xs.Perm (pairsOf vs))(hs:So K xs 0 vs.length):
  ((xs.map (·.2)).toList).Perm vs/\((xs.map (·.2)).toList).Pairwise λx y=>K (x,x)<=K (y,y):=by
 have hl:xs.toList.Perm (vs.zip vs):=by rw[<-pairsOf_toList];exact Array.perm_iff_toList_perm.mp hp
 have hm:∀p,p∈xs.toList->p.1=p.2/\p.1∈vs:=λp q=>mem_zip_self (hl.mem_iff.mp q)
 have len:xs.toList.length=vs.length:=by rw[hl.length_eq];simp
 constructor
 ·have:=hl.map Prod.snd
  rw[List.map_snd_zip (Nat.le_refl _)]at this
  simpa using this
 ·have h2:=(qd (K:=K) (a:=xs) (lo:=0) (n:=vs.length) (by rw[Nat.zero_add,<-len];exact Nat.le_of_eq (Array.length_toList ..))).mp hs
  have e:sl xs 0 vs.length=xs.toList:=by
   show(xs.toList.drop 0).take vs.length=_
   rw[List.drop_zero,List.take_of_length_le (by omega)]
  rw[e]at h2
  rw[Array.toList_map,List.pairwise_map]
  refine h2.imp_of_mem λ {p q} p1 q1 h=> ?_
  have ep:(p.2,p.2)=p:=Prod.ext (hm p p1).1.symm rfl
  have eq:(q.2,q.2)=q:=Prod.ext (hm q q1).1.symm rfl
  rw[ep,eq]
  exact h
theorem Jy{a:Addr}{vs:List Value}{n:Nat}{P:PySem.Fin->Shared->Prop}{κ:SortKind}{K:Keyed->Int}(ho:s.heap.get? a=some (seqObj "list" vs.toArray n))(hz:vs.length<=sizeLine)
  (ask:xJ prog w A E a vs κ K s)(h:∀out:List Value,out.Perm vs->out.Pairwise (λx y=>K (x,x)<=K (y,y)) ->P (.done (.ret .none)) {s with heap:=sortedHeap s.heap a vs out.toArray}):
  wpAny (model prog w) A (Builtin.«list.sort» ⟨[.ref a],[]⟩) P E s:=by
 rw[list_sort_plain]
 have la:a<s.heap.objs.size:=Heap.lt_size ho
 have fin:∀st':SortSt,(arrOf st').Perm (pairsOf vs) ->So K (arrOf st') 0 vs.length->P (.done (.ret .none)) {s with heap:=sortedHeap s.heap a vs ((arrOf st').map (·.2))}:=λst' hp hs=>by
  obtain⟨q1,q2⟩:=zj hp hs
  have:=h _ q1 q2
  rwa [Array.toArray_toList]at this
 refine wpAny_bind (listItems_at ho rfl ?_)
 refine wpAny_bind (listUpdate_at ho rfl ?_ (by simpa using hz) (Nat.zero_le _))
 obtain⟨e1,SO⟩:∃e1,(s.heap.update a (Obj.mapSeq λ_=> #[])).get? a=some (seqObj "list" #[] e1):=⟨_,get?_update_seq ho (λ_=> #[])⟩
 refine wpAny_bind (seqEpoch_at SO rfl ?_)
 refine wpAny_bind (wpAny_newTuple ?_ (by simpa using hz))
 refine wpAny_bind (wpAny_newList ?_ (Nat.zero_le _))
 refine wpAny_holding ?_
 generalize hg:(((s.heap.update a (Obj.mapSeq λ_=> #[])).push (seqObj "tuple" vs.toArray 0)).push (seqObj "list" #[] 0))=kW
 have keep:∀b o,b≠a->s.heap.get? b=some o->kW.get? b=some o:=λb o hb e=>by
  rw[<-hg]
  refine Heap.get?_push_of_some _ (Heap.get?_push_of_some _ ?_)
  rw[Heap.get?_update_ne _ _ _ _ hb]
  exact e
 have ho6:kW.get? a=some (seqObj "list" #[] e1):=by
  rw[<-hg]
  exact Heap.get?_push_of_some _ (Heap.get?_push_of_some _ SO)
 have sh:∀out,sortedHeap s.heap a vs out=kW.update a (Obj.mapSeq λ_=>out):=λout=>by rw[<-hg];rfl
 have Wa:vs.toArray.size=vs.length:=by simp
 have bound:∀st':SortSt,(arrOf st').Perm (pairsOf vs) ->((arrOf st').map (·.2)).size<=sizeLine+1:=λst' hp=>by
  rw[Array.size_map,hp.size_eq,pairsOf_size]
  omega
 show wpAny (model prog w) A _ P E {s with heap:=kW}
 dsimp only
 by_cases h2:vs.toArray.size<2
 ·rw[if_pos h2,if_pos h2]
  refine wpAny_bind (wpAny_pure ?_)
  rw[StateT.run_pure]
  refine wpAny_bind (wpAny_pure ?_)
  dsimp only
  refine wpAny_bind (seqEpoch_at ho6 rfl ?_)
  refine wpAny_bind (listUpdate_at ho6 rfl ?_ (Nat.zero_le _) (bound (SortSt.mk' general' (pairsOf vs) #[] 7 none) (Array.Perm.refl _)))
  simp only[bne_self_eq_false,Bool.false_eq_true,if_false]
  have:=fin (SortSt.mk' general' (pairsOf vs) #[] 7 none) (Array.Perm.refl _) (λi j hij hj=>by
   have:i=j:=by omega
   subst this;exact Int.le_refl _)
  rw[sh]at this
  exact wpAny_pure this
 ·rw[if_neg h2,if_neg h2]
  refine wpAny_bind (ask.kind (by omega) {s with heap:=kW} keep _ ?_)
  have R:RI κ K (λp=>p.1=p.2/\p.1∈vs) (pairsOf vs) 0 (SortSt.mk' κ (pairsOf vs) #[] 7 none):=by
   refine⟨⟨rfl,rfl,λp hp=> ?_⟩,Array.Perm.refl _,rfl,Nat.zero_le _⟩
   have kW:p∈(pairsOf vs).toList:=hp
   rw[pairsOf_toList]at kW
   exact mem_zip_self kW
  refine wpAny_bind (wpAny_mono (Mk (ask.lt {s with heap:=kW} keep) (Q:=λ_ st'=>(arrOf st').Perm (pairsOf vs)/\failedOf st'=none/\So K (arrOf st') 0 (pairsOf vs).size) R λst' a1 a2 a3=>⟨a1,a2,a3⟩) ?_ λ_ _ e=>e)
  rintro⟨⟨⟩,st'⟩ s' ⟨rfl,hp,hf,hs⟩
  dsimp only
  rw[pairsOf_size]at hs
  refine wpAny_bind (seqEpoch_at ho6 rfl ?_)
  refine wpAny_bind (listUpdate_at ho6 rfl ?_ (Nat.zero_le _) (bound st' hp))
  rw[hf]
  simp only[bne_self_eq_false,Bool.false_eq_true,if_false]
  have:=fin st' hp hs
  rw[sh]at this
  exact wpAny_pure this
theorem GL{l:Addr}{vs:List Value}{Q:Value->Shared->Prop}{κ:SortKind}{K:Keyed->Int}(hl:s.heap.IsList l vs.toArray)(hz:vs.length<=sizeLine)
  (ask:∀(a:Addr)(s':Shared),s.heap.objs.size<=a->(∀b o,s.heap.get? b=some o->s'.heap.get? b=some o) ->xJ prog w A.in1.in1 E a vs κ K s')
  (h:∀out:List Value,out.Perm vs->out.Pairwise (λx y=>K (x,x)<=K (y,y)) ->Q (.ref (s.heap.objs.size+1)) {s with heap:=sortedAll s.heap vs out.toArray}):
  wpAny (model prog w) A (call (.builtin "sorted") [.ref l]) Q E s:=by
 refine Calls.call_function_entry kind_sorted plain_sorted entry_sorted (args_sorted1 _) ?_
 unfold Builtin.«sorted»
 refine wpAny_bind (m:=checkCount "sorted" 1 1 _) (wpAny_pure ?_)
 refine wpAny_bind (collect_list hl ?_ hz)
 refine wpAny_bind (wpAny_newList ?_ (by simpa using hz))
 have z1:((s.heap.push (seqObj "list" #[] 0)).update s.heap.objs.size (Obj.mapSeq (· ++vs.toArray))).objs.size=s.heap.objs.size+1:=by
  rw[Heap.size_update,size_push']
 generalize hg:((s.heap.push (seqObj "list" #[] 0)).update s.heap.objs.size (Obj.mapSeq (· ++vs.toArray)))=h1 at z1
 have keep:∀b o,s.heap.get? b=some o->(h1.push (seqObj "list" vs.toArray 0)).get? b=some o:=λb o e=>by
  have lb:=Heap.lt_size e
  refine Heap.get?_push_of_some _ ?_
  rw[<-hg,Heap.get?_update_ne _ _ _ _ (Nat.ne_of_lt lb)]
  exact Heap.get?_push_of_some _ e
 have Lg:(h1.push (seqObj "list" vs.toArray 0)).get? (s.heap.objs.size+1)=some (seqObj "list" vs.toArray 0):=by
  rw[<-z1];exact Heap.get?_push_size _ rfl
 show wpAny _ _ _ _ _ {s with heap:=h1.push (seqObj "list" vs.toArray 0)}
 rw[z1]
 refine wpAny_bind (wpAny_holding (wpAny_call_entry slot_list_sort ⟨_,Lg,rfl⟩ entry_list_sort (Jy Lg hz (ask _ _ (Nat.le_succ _) keep) λout a1 a2=>⟨_,rfl,?_⟩) (args_list_sort _)))
 refine wpAny_pure ⟨_,rfl,?_⟩
 have:=h out a1 a2
 unfold sortedAll at this
 rw[hg]at this
 exact this
end
def SQ(rk:Addr->Int):Value->Int
 | .ref a=>rk a
 |_=>0
def xK(K:PySem.W.Frag):List V->Hp->VK->Prop:=λxs H Q=> ∃(p:Addr)(as:List Addr)(rk:Addr->Int)(dt:Addr->PyData),xs=[.ref p]/\aW K H p (as.map V.ref)/\
 (∀a∈as,yQ K H (.ref a) (dt a)/\shaped (dt a)=true)/\
 ((∀a∈as,∀b∈as,zh (dt a) (dt b)/\GK (dt a) (dt b)=decide (rk a<rk b))∨
  (∀a∈as,∀b∈as,∃i ds j es,dt a= .tuple (.int i::ds)/\dt b= .tuple (.int j::es)/\nA (.int i::ds) (.int j::es)/\nO (.int i::ds) (.int j::es)=decide (rk a<rk b)))/\
 ∀bs:List Addr,bs.Perm as->bs.Pairwise (λa b=>rk a<=rk b) -> ∀l,H l=none->Q (.ref l) (upd H l (.lst (bs.map V.ref)))
section
variable{prog:Program}{w:World}{A:Around}{E:Value->Shared->Prop}{s:Shared}
theorem xM{κ:SortKind}{K:Keyed->Int}{D:Keyed->Prop}(h:∀x y:Keyed,D x->D y-> ∀(E:Value->Shared->Prop) (Q:Bool->Shared->Prop),Q (decide (K x<K y)) s->wpAny (model prog w) A (keyLt' κ x.1 y.1) Q E s):pB prog w A E s κ K D:=by
 intro st x y Q hk hx hy hq
 rw[lt'_eq]
 refine wpS_bind (wpS_get ?_)
 rw[hk]
 refine wpS_bind (wpS_lift (wpAny_attempt (h x y hx hy _ _ ⟨rfl,?_⟩)))
 exact wpS_pure hq
theorem CK:∀{as:List Addr}{us:List Value},Vals (as.map V.ref) us->us=as.map Value.ref
 | [],_,h=>by cases h;rfl
 |a::as,_,h=>by
  cases h with
  |cons r rs=>
   cases r
   rw[CK rs]
   rfl
theorem CL:∀as:List Addr,Vals (as.map V.ref) (as.map Value.ref)
 | []=> .nil
 |a::as=> .cons rfl (CL as)
end
theorem ReadsAll.keeps'{h h':Heap}(hk:∀b o,h.get? b=some o->h'.get? b=some o){vs:List Value}{ds:List PyData}{as:List Addr}(r:ReadsAll h vs ds as):ReadsAll h' vs ds as:=by
 induction vs generalizing ds as with
 |nil=>cases r;exact .nil
 |cons v vs ih=>
  cases r with
  |cons r1 r2=>exact .cons (Reads.keeps hk r1) (ih r2)
section
variable{X:Cx}
theorem rj(hu:X.A.units+70<cLine):nj X (.builtin "sorted") (xK X.K):=by
 intro pins s σ H xs us Q I r h
 obtain⟨p,as,rk,dt,rfl,hq,hd,hc,q⟩:=h
 obtain⟨u,rfl,rx⟩:=vals1 r
 cases rx
 obtain⟨its,rv,pl,hz⟩:=I.list hq
 obtain rfl:=CK rv
 have len:(as.map Value.ref).length=as.length:=List.length_map _
 rw[List.length_map]at hz
 have rd:∀a∈as,∃xs,Reads s.heap (.ref a) (dt a) xs:=λa ha=>kK I (hd a ha).1 rfl
 have old:∀{a:Addr}{s1 s2:Shared},s.heap.objs.size<=a->(∀b o,s.heap.get? b=some o->s1.heap.get? b=some o) ->(∀b o,b≠a->s1.heap.get? b=some o->s2.heap.get? b=some o) -> ∀b o,s.heap.get? b=some o->s2.heap.get? b=some o:=λh1 h2 h3 b o e=>
  h3 b o (Nat.ne_of_lt (Nat.lt_of_lt_of_le (Heap.lt_size e) h1)) (h2 b o e)
 have mem:∀{v:Value},v∈as.map Value.ref-> ∃a,a∈as/\v= .ref a:=λhv=>by
  obtain⟨a,ha,rfl⟩:=List.mem_map.mp hv
  exact⟨a,ha,rfl⟩
 have fin:∀κ:SortKind,(∀(a:Addr)(s':Shared),s.heap.objs.size<=a->(∀b o,s.heap.get? b=some o->s'.heap.get? b=some o) ->xJ X.prog X.w X.A.in1.in1 X.xe a (as.map Value.ref) κ (λp=>SQ rk p.1) s') ->
   wpAny (model X.prog X.w) X.A (call (.builtin "sorted") [.ref p]) (EP X pins σ Q) X.xe s:=by
  intro κ ask
  refine GL (κ:=κ) (K:=λp=>SQ rk p.1) pl.isList (by rw[len];exact hz) ask λout hp hs=> ?_
  obtain⟨bs,rfl,pb⟩:∃bs:List Addr,out=bs.map Value.ref/\bs.Perm as:=by
   have g:∀v∈out,∃a,v=Value.ref a:=λv hv=>by
    obtain⟨a,_,e⟩:=mem (hp.mem_iff.mp hv)
    exact⟨a,e⟩
   have e:∀l:List Value,(∀v∈l,∃a,v=Value.ref a) ->l=(l.map λv=>match v with| .ref a=>a|_=>0).map Value.ref:=λl=>by
    induction l with
    |nil=>intro _;rfl
    |cons v l ih=>
     intro hl
     obtain⟨a,rfl⟩:=hl v List.mem_cons_self
     rw[List.map_cons,List.map_cons,<-ih λv hv=>hl v (List.mem_cons_of_mem _ hv)]
   refine⟨_,e out g,?_⟩
   have:=hp.map λv:Value=>match v with| .ref a=>a|_=>0
   rw[List.map_map]at this
   have e2:(as.map ((λv:Value=>match v with| .ref a=>a|_=>0) ∘ Value.ref))=as:=by
    conv=>rhs;rw[<-List.map_id as]
    rfl
   rwa [e2]at this
  have so:bs.Pairwise λa b=>rk a<=rk b:=by
   rw[List.pairwise_map]at hs
   exact hs
  have zb:bs.length<=sizeLine:=by rw[pb.length_eq];exact hz
  obtain⟨c,hc⟩:=sortedAll_at s.heap (as.map Value.ref) (bs.map Value.ref).toArray
  exact⟨.ref (s.heap.objs.size+1),_,I.laid (t':=s.toks) (λb o e=>sortedAll_old e) (Nat.le_succ _) (show eO X.prog X.w _ _ _ (.lst (bs.map V.ref))from⟨by rw[List.length_map];exact zb,_,c,CL bs,hc⟩),rfl,q bs pb so _ (I.hok.fresh (Nat.le_succ _))⟩
 rcases hc with hc|hc
 ·--lists
  refine fin oneType' λa s1 h1 h2=>⟨λ_ s2 h3 Q' hQ=> ?_,λs2 h3=>xM λx y hx hy E' Q' hQ=> ?_⟩
  ·refine PySem.W.kas_kind (T:= .type "list") (by rw[len]at *;omega) (λv hv=> ?_) (by decide+kernel) (by decide+kernel) hQ
   obtain⟨b,hb,rfl⟩:=mem hv
   obtain⟨cs,rb⟩:=rd b hb
   have cm:=(hc b hb b hb).1
   cases e:dt b with
   |list ds=>
    rw[e]at rb
    cases rb with
    | @list l o vs n _ as₁ k1 k2 k3 k4=>
     have:PySem.W.Looks (model X.prog X.w) s2.heap (typeOf (.ref b)) o.cls:=(PySem.W.Looks.ld (old h1 h2 h3 _ _ k1)).andThen PySem.W.Looks.now
     rw[k2]at this
     exact this
   |_=>rw[e]at cm;cases cm<;>(rw[e]at rb;cases rb)
  ·obtain⟨e1,m1⟩:=hx
   obtain⟨e2,m2⟩:=hy
   obtain⟨b,hb,eb⟩:=mem m1
   obtain⟨c,hc',ec⟩:=mem m2
   obtain⟨cs,rb⟩:=rd b hb
   obtain⟨ds,rc⟩:=rd c hc'
   rw[eb,ec,keyLt'_oneType]
   obtain⟨cm,lt⟩:=hc b hb c hc'
   refine rg cm (Reads.keeps (old h1 h2 h3) rb) (Reads.keeps (old h1 h2 h3) rc) (canLay_of_shaped (hd b hb).2) (canLay_of_shaped (hd c hc').2) (room_of_shaped (hd b hb).2 (show X.A.units+1+1+64<cLine by omega)) ?_
   rw[lt]
   rw[eb,ec]at hQ
   exact hQ
 ·--tuples
  refine fin (PyProof.Rows.tuples' true) λa s1 h1 h2=>⟨λl2 s2 h3 Q' hQ=> ?_,λs2 h3=>xM λx y hx hy E' Q' hQ=> ?_⟩
  ·have tp:∀v∈as.map Value.ref,∃b∈as,v= .ref b:=λv hv=>mem hv
   obtain⟨f,hf⟩:∃f:Addr->Value,∀b∈as,∃o ys n i t,s2.heap.get? b=some o/\o.cls= .type "tuple"/\o.data= .seq ys n/\ys[0]?=some (f b)/\f b= .int i t:=by
    refine⟨λb=>match s2.heap.get? b with|some ⟨_,_,.seq ys _,_⟩=>(ys[0]?).getD .none|_=> .none,λb hb=> ?_⟩
    obtain⟨i,ds,_,_,e,_⟩:=hc b hb b hb
    obtain⟨cs,rb⟩:=rd b hb
    rw[e]at rb
    cases rb with
    | @tuple l o vs n _ as₁ k1 k2 k3 k4=>
     have g:=old h1 h2 h3 _ _ k1
     obtain⟨cls,dd,data,sl⟩:=o
     simp only at k2 k3
     subst k2 k3
     obtain⟨vl⟩:=vs
     cases k4 with
     |cons r1 r2=>
      cases r1 with
      |int i t=>
       refine⟨_,_,n,i,t,g,rfl,rfl,?_,?_⟩
       ·dsimp only
        rw[g];rfl
       ·dsimp only
        rw[g];rfl
   refine PySem.W.kat_kind (fs:=as.map f) (T:= .type "int") (?_:PySem.W.KatTups s2.heap (as.map Value.ref) (as.map f)) (by rw[List.length_map];rw[len]at l2;omega) (λv hv=> ?_) (by decide+kernel) hQ
   ·clear hQ l2 mem tp fin rd hd hc rv pl hz len hq q
    induction as with
    |nil=>exact PySem.W.KatTups.nil
    |cons b as ih=>
     obtain⟨o,ys,n,i,t,k1,k2,k3,k4,k5⟩:=hf b List.mem_cons_self
     exact PySem.W.KatTups.cons k1 k2 k3 k4 (ih λc hc=>hf c (List.mem_cons_of_mem _ hc))
   ·obtain⟨b,hb,rfl⟩:=List.mem_map.mp hv
    obtain⟨o,ys,n,i,t,k1,k2,k3,k4,k5⟩:=hf b hb
    rw[k5]
    exact PySem.W.Looks.now
  ·obtain⟨e1,m1⟩:=hx
   obtain⟨e2,m2⟩:=hy
   obtain⟨b,hb,eb⟩:=mem m1
   obtain⟨c,hc',ec⟩:=mem m2
   obtain⟨cs,rb⟩:=rd b hb
   obtain⟨ds,rc⟩:=rd c hc'
   obtain⟨i,di,j,dj,t1,t2,cm,lt⟩:=hc b hb c hc'
   have sb:=hd b hb
   have sc:=hd c hc'
   rw[eb,ec]
   rw[eb,ec]at hQ
   rw[t1]at rb sb
   rw[t2]at rc sc
   cases rb with
   | @tuple l o vs n _ as₁ k1 k2 k3 k4=>
    cases rc with
    | @tuple l' o' vs' n' _ bs₁ g1 g2 g3 g4=>
     have n1:vs.size=(PyData.int i::di).length:=by simpa using ReadsAll.length _ _ _ k4
     have n2:vs'.size=(PyData.int j::dj).length:=by simpa using ReadsAll.length _ _ _ g4
     have ee:decide (vs.size<vs'.size)=false:=by
      rw[n1,n2,cm.length]
      exact decide_eq_false (Nat.lt_irrefl _)
     refine PySem.W.kat_lt (old h1 h2 h3 _ _ k1) k3 (old h1 h2 h3 _ _ g1) g3 ?_
     rw[ee]
     have ca:=canLay_of_shaped sb.2
     have cb:=canLay_of_shaped sc.2
     refine wc cm (ReadsAll.keeps' (old h1 h2 h3) k4) (ReadsAll.keeps' (old h1 h2 h3) g4) ca cb (room_in (room_of_shaped (A:=X.A.in1) (db:= .tuple (.int j::dj)) sb.2 (show X.A.units+1+64<cLine by omega))) 0 ?_
     rw[lt]
     exact hQ
end
end L2
namespace L2
open PySem PySem.Spec PyProof.Rows PySem.W PySem.Calls
abbrev kn(o:Obj):HO:= .wR o (.ext λ_=>True)
theorem GN{P:Program}{w:World}{H:Hp}{h:Heap}{a:Addr}{o:Obj}(e:h.get? a=some o):eO P w H h a (kn o):=⟨e,trivial,⟨o,e⟩,λ_ _ _ _=>trivial⟩
theorem tU{pos pos2:Pos}{c:Value}:∀{l:List Value},TriplesOk l-> ∀{cv:Value},codeAmong pos (l++ [rawInt pos2.line,rawInt pos2.col,c])=some cv->codeAmong pos l=some cv∨cv=c
 | [],_,cv,h=>by
  simp only[List.nil_append,rawInt,codeAmong]at h
  split at h
  ·exact .inr (Option.some.inj h).symm
  ·cases h
 | .int x t:: .int y u::d::r,ht,cv,h=>by
  simp only[List.cons_append,codeAmong]at h ⊢
  split at h
  ·rename_i q
   rw[if_pos q]
   exact .inl h
  ·rename_i q
   rw[if_neg q]
   exact tU (l:=r) ht h
theorem pF{pos:Pos}{c:Value}:∀{l:List Value},TriplesOk l->TriplesOk (l++ [rawInt pos.line,rawInt pos.col,c])
 | [],_=>trivial
 | .int _ _:: .int _ _::_::r,h=>pF (l:=r) h
structure zk(X:Cx)(args:Arguments)(body:Expr)(sc:Scope)(H:Hp)(f:Addr):Prop where
 ex:∃(qual:Str)(pm ctv:Value)(c:Addr)(oc:Obj)(vs:Array Value)(q:Str)(t:Tok),
  H f=some (kn {cls:= .type "function",data:= .func (kla_fn "<lambda>" qual args body sc (cg X.env sc.names []) pm (.ref c) ctv)})/\H c=some (kn oc)/\oc.data= .fields vs/\vs[1]?=some (.str q t)
theorem zk.same{X:Cx}{args:Arguments}{body:Expr}{sc:Scope}{H H':Hp}{f:Addr}(L:zk X args body sc H f)(s:av H H'):zk X args body sc H' f:=by
 obtain⟨qual,pm,ctv,c,oc,vs,q,t,e1,e2,e3,e4⟩:=L.ex
 exact⟨qual,pm,ctv,c,oc,vs,q,t,s _ _ e1,s _ _ e2,e3,e4⟩
section
variable{X:Cx}{pins:List (Addr×Obj)}{σ:St}{H:Hp}{s:Shared}{P:Addr}{args:Arguments}{body:Expr}{sc:Scope}{pos:Pos}{own N2:List Str}
theorem DT(I:Inv X pins σ H s)(hcd:gc X.K X.env.code P)(hP:(H P).isSome=true):∃c,X.env.code= .ref c/\CodeHd s.heap c P:=by
 obtain⟨c,o,vs,file,tf,flags,tg,LD,text,tt,ec,hc,hcl,hd,h11,NZ,h7,h9,Oa⟩:=hcd.ex
 have hcs:s.heap.get? c=some o:=I.wU c o hc
 have hcn:H c=none:=(I.bs c o (I.ok.mod.MR c o hc)).2
 have ne:c≠P:=λe=>by rw[<-e,hcn]at hP;cases hP
 have LF:vs.getD 11 .none= .ref P:=by
  have:vs.getD 11 .none=(vs[11]?).getD .none:=by simp
  rw[this,h11];rfl
 exact⟨c,ec,o,vs,file,tf,flags,tg,LD,text,tt,hcs,hcl,hd,h11,LF,NZ,h7,h9,Oa,ne⟩
theorem DU{Q:Value->Shared->Prop}{E:Value->Shared->Prop}{M:Model}{A:Around}(I:Inv X pins σ H s)(hcd:gc X.K X.env.code P)(hP:H P=some .yw)(bm:BM X.mg X.base)
  (Bk:nI sc.names X.env.scope.names own N2 X.N)(hdef:defaultsOf args X.env=([],[]))
  (h:∀f H' s',Inv X pins σ H' s'->av H H'->H f=none->zk X args body sc H' f->Q (.ref f) s'):wpAny M A (eval (.Lambda args body sc pos) X.env) Q E s:=by
 obtain⟨c,ec,C⟩:=DT I hcd (by rw[hP];rfl)
 obtain⟨ps,eP,tr,cs⟩:=I.hok P _ hP
 obtain⟨Pu,ob,b1,b2,b3,b4,b5,b6⟩:=bm
 have hg:s.heap.Ns mainGlobals X.mg:=by have:=I.mod.glob.keeps I.bk;exact this
 have hgP:mainGlobals≠P:=λq=>by
  obtain⟨o,es,ep,e,hd,_⟩:=hg
  rw[q,eP]at e;cases e;cases hd
 have UU:Pu≠mainGlobals:=λq=>by
  obtain⟨o,es,ep,e,hd,_⟩:=I.mod.glob
  rw[q,e]at b3;cases b3;rw[hd]at b6;cases b6
 have UW:Pu≠P:=λq=>by
  have:=(I.bs _ _ b3).2
  rw[q,hP]at this;cases this
 have ba:s.heap.BuiltinsAt X.mg P:=⟨Pu,ob,b1,b2,UU,UW,I.bk _ _ b3,b4,b5,b6⟩
 refine kla_eval hdef ?_
 cases q:codeAmong pos ps.toList with
 |some cv=>
  obtain⟨c',oc,vs,q',t',rfl,e2,e3,e4⟩:=cs pos cv q
  refine kla_makeFunctionHit (mg:=X.mg) (mW I Bk) I.ok.glob hg ec C eP tr q ba λctv h' tk hk hsz=> ?_
  have I1:Inv X pins σ H {s with heap:=h',toks:=tk}:=I.kept hk
  have I2:=I1.laid (a:=h'.objs.size) (o:=kn {cls:= .type "function",data:= .func (kla_fn "<lambda>" (X.env.qual++ "<lambda>") args body sc (cg X.env sc.names []) ((X.mg "__name__").getD .none) (.ref c') ctv)}) (h':=h'.push _) (t':=tk) (λb o e=>Heap.get?_push_of_some _ e) (Nat.le_refl _) (GN (Heap.get?_push_size _ rfl))
  have fr:H h'.objs.size=none:=I1.hok.fresh (Nat.le_refl _)
  exact h _ _ _ I2 (av.up fr) fr ⟨_,_,_,c',oc,vs,q',t',ao,(av.up fr) _ _ e2,e3,e4⟩
 |none=>
  refine kla_makeFunction (mg:=X.mg) (mW I Bk) I.ok.glob hg ec C eP tr q hgP ba λc' ctv h' tk hx hge hlt hrec htb=> ?_
  obtain⟨c2,oc,vs,t,e2,hoc,hd,hv⟩:=hrec
  cases e2
  have MV:H c'=none:=I.hok.fresh hge
  have nP:P≠c':=λz=>by rw[z,MV]at hP;cases hP
  have I1:Inv X pins σ (upd H c' (kn oc)) {s with heap:=h',toks:=tk}:=by
   have ne:∀{b u},H b=some u->b≠c':=λ {b u} e z=>by rw[z,MV]at e;cases e
   have SR:∀{b},H b=none->b≠P:=λ {b} e z=>by rw[z,hP]at e;cases e
   refine I.un (t':=tk) ⟨λb o e n _ _=>hx b o (SR n) e,λb o e n _ _=>⟨o.slots,hx b o (SR n) e⟩,λb o e n _=>by rw[aD (Nat.ne_of_lt (Nat.lt_of_lt_of_le (Heap.lt_size e) hge))];exact n,λb o e _=> ?_,
    λb xs e=>by rw[aD (ne e)];exact e,λb o u e=>by rw[aD (ne e)];exact e,λb ps e=>⟨#[],by rw[aD (ne e),e];simp⟩⟩ (λb u e=> ?_)
   ·by_cases hb:b=P
    ·subst hb;exact⟨_,htb⟩
    ·exact⟨o,hx b o hb e⟩
   ·by_cases hb:b=c'
    ·subst hb
     rw[ao]at e
     cases e
     exact GN hoc
    ·rw[aD hb]at e
     by_cases hb2:b=P
     ·subst hb2
      rw[hP]at e
      cases e
      refine⟨_,htb,by simpa using pF tr,λpos2 cv e2=> ?_⟩
      have e3:codeAmong pos2 (ps.toList++ [rawInt pos.line,rawInt pos.col,.ref c'])=some cv:=by simpa using e2
      rcases tU tr e3 with z|z
      ·obtain⟨c3,UX,UY,q3,t3,f1,f2,f3,f4⟩:=cs pos2 cv z
       exact⟨c3,UX,UY,q3,t3,f1,by rw[aD (ne f2)];exact f2,f3,f4⟩
      ·exact⟨c',oc,vs,_,t,z,ao,hd,hv⟩
     ·refine(I.hok b u e).stay (λd v hc2 q2=>hx d v (λz=> ?_) q2) (λd q2=>by rw[aD (ne q2)];exact q2) (λd xs q2=>by rw[aD (ne q2)];exact q2) (λd ob xs q2=>by rw[aD (ne q2)];exact q2)
      subst z
      rcases hc2 with z|z
      ·exact hb2 z.symm
      ·rw[hP]at z;cases z
  have I2:=I1.laid (a:=h'.objs.size) (o:=kn (kla_obj "<lambda>" (X.env.qual++ "<lambda>") args body sc (cg X.env sc.names []) ((X.mg "__name__").getD .none) c' ctv)) (h':=h'.push _) (t':=tk) (λb o e=>Heap.get?_push_of_some _ e) (Nat.le_refl _) (GN (Heap.get?_push_size _ rfl))
  have Ob:upd H c' (kn oc) h'.objs.size=none:=I1.hok.fresh (Nat.le_refl _)
  have wX:H h'.objs.size=none:=by
   have:=Ob
   rwa [aD (Nat.ne_of_gt hlt)]at this
  exact h _ _ _ I2 ((av.up MV).trans (av.up Ob)) wX ⟨_,_,_,c',oc,vs,_,t,ao,(av.up Ob) _ _ ao,hd,hv⟩
end
section
variable{prog:Program}{w:World}{A:Around}{R:Result->Shared->Prop}{s:Shared}
theorem AS{a:Addr}{ar:Args}{o:Obj}{fd:FuncData}{bd:Expr}{q:Str}(room:A.depth<recursionLimit)(ho:s.heap.get? a=some o)(hfd:o.data= .func fd)
  (co:fd.scope.isCoroutine=false)(gen:fd.scope.isGenerator=false)(hbd:fd.body= .expr bd)(cd:s.heap.CodeRec fd.code q)
  (h:wpAny (model prog w) A.in1 (bindArgs fd ar) (λbs s1=>
   wpAny (model prog w) A.in1 (newFunctionEnv fd.scope fd.globals fd.closure bs (q++ ".<locals>.") (some a) fd.code none fd.builtins)
    (λev s2=>s2.heap.NoLimit/\codeAny (model prog w) A (.expr bd ev) R s2) (λe s'=>R (.error e) s') s1) (λe s'=>R (.error e) s') s):
  codeAny (model prog w) A (.call (.ref a) ar) R s:=by
 refine codeAny_of_tree ?_
 show wpAny _ A.in1 (callAny (.ref a) ar) _ _ s
 simp only[callAny]
 refine wpAny_bind (wpAny_load ho ?_)
 obtain⟨c,oc,vs,tq,hc,hoc,hdc,hq⟩:=cd
 simp only[hfd,callFunction,co,gen,hbd,hc]
 rw[hc]at h
 refine wpAny_bind (m:=field (.ref c) 1) (wpAny_field hoc hdc hq (wpAny_bind (wpAny_pure ?_)))
 refine wpAny_bind (wpAny_mono h (λbs s1 h1=>wpAny_bind (wpAny_mono h1 (λev s2 h2=> ?_) λ_ _ e=>e)) λ_ _ e=>e)
 exact wpAny_bind (wpAny_enterFrame h2.1 room (wpAny_pure (And.intro rfl h2.2)))
end
def Cx.lam(X:Cx)(B:Around)(sc:Scope)(N':List Str)(q:Str)(f:Addr)(cd:Value)(s:Shared)(H:Hp):Cx:=
 {X with
  N:=N'
  s₀:=s
  H₀:=H
  A:=B.deeper (envX q sc s.heap.objs.size f cd (cg X.env sc.names []))
  env:=envX q sc s.heap.objs.size f cd (cg X.env sc.names [])
  outer:=X.stack
  stack:=envX q sc s.heap.objs.size f cd (cg X.env sc.names [])::X.stack
  ex:=[]
  fn:=λ_=>false
  calm:=true
  pn:=[]
  xe:=λ_ _=>False}
section
variable{X:Cx}{pins:List (Addr×Obj)}{σ:St}{H:Hp}{s:Shared}{sc:Scope}{x:Str}{N2:List Str}{B:Around}{q:Str}{f:Addr}{cd:Value}
theorem Jz{h':Heap}{tk:Nat}{v:V}{u:Value}(I:Inv X pins σ H s)(Bk:nI sc.names X.env.scope.names [x] N2 X.N)(hk:sc.kind= .function)(hnc:∀y∈sc.names,y.2≠ .cell)(hx:sc.names.lookup x=some .local)
  (hB:B.frames=some X.stack)(hh:B.handled=none)(hn:h'.Ns s.heap.objs.size (λy=>([(x,u)]:List (Str×Value)).reverse.lookup y))(keep:∀b o,s.heap.get? b=some o->h'.get? b=some o)(rv:RelV v u):
  Inv (X.lam B sc ([x]++N2) q f cd s H) [] (some v::σ) H {s with heap:=h',toks:=tk}:=by
 have jh:∀y c,(cg X.env sc.names []).lookup y=some c->(y,NameKind.free)∈sc.names/\X.env.cells.lookup y=some c:=λy c h=>by
  have h2:(cellsFrom 0 sc.names (cg X.env sc.names [])).lookup y=some c:=by rw[d7 hnc];exact h
  rcases iH I Bk (mem_of_lookup h2)with⟨_,z⟩|z
  ·exact absurd rfl (hnc _ z)
  ·exact z
 have ER:∀b:Addr,b∉(X.lam B sc ([x]++N2) q f cd s H).ex:=λb z=>absurd (show b∈([]:List Addr)from z) (by simp)
 have ok:(X.lam B sc ([x]++N2) q f cd s H).Ok:=by
  refine⟨I.ok.mod,hk,rfl,rfl,Nat.le_refl _,λy z c h1 h2=>I.ok.inj y z c (jh y c h1).2 (jh z c h2).2,λy hy=> ?_,λy c hy _=>absurd hy (by show ¬(false=true);decide),λ_=>hh,Around.frames_deeper hB,.inr ⟨rfl,rfl⟩,λb hb=>absurd hb (ER b),I.bs,Nat.le_trans I.ok.Io I.sz,λb _ _=>ER b,λb hb=>absurd hb (ER b),I.stack,I.rX⟩
  have hy':sc.names.lookup y=some .cell∨sc.names.lookup y=some .free:=hy
  rcases hy' with e|e
  ·exact absurd rfl (hnc _ (mem_of_lookup e))
  ·obtain⟨c,hc⟩:=jy I Bk y (mem_of_lookup e)
   have:=kZ (n:=0) I Bk (mem_of_lookup e) hc
   rw[d7 hnc]at this
   exact⟨c,this⟩
 refine⟨ok,rfl,.refl I.bare.bare,Un.kept keep,⟨_,hn,λi y w e1 e2 e3=> ?_⟩,λy c hc=> ?_,I.fresh,λy c hc=>I.lT y c (jh y c hc).2,λp hp=>absurd (show p∈([]:List (Addr×Obj))from hp) (by simp),I.hok.kept keep,?_⟩
 ·cases i with
  |zero=>
   have ey:x=y:=Option.some.inj e1
   have ew:v=w:=by
    have:some (some v)=some (some w):=e2
    cases this;rfl
   subst ey ew
   refine⟨u,rv,.inl ⟨hx,?_⟩⟩
   simp[List.lookup]
  |succ i=>
   have yM:N2[i]?=some y:=e1
   have FL:σ[i]?=some (some w):=e2
   have hown:y∉([x]:List Str):=λhm=>by
    have nd:=Bk.IQ
    rw[List.nodup_append]at nd
    exact nd.2.2 y hm y (List.mem_of_getElem? yM) rfl
   refine xj I Bk (n:=0) yM FL (d7 hnc).symm (λz hz=> .inr (bZ Bk.nd hz)) (λhv=>let⟨k,e,_⟩:=mX hv;⟨k,e⟩) hown keep e3 (λk e=> ?_)
   obtain⟨k',e',hk'⟩:=mX e3
   have e4:sc.names.lookup y=some k':=e'
   rw[e]at e4;cases e4
   exact hk'
 ·obtain⟨w,z⟩:=I.cell y c (jh y c hc).2
  exact⟨w,z.keeps keep⟩
 ·show(some v::σ).length=([x]++N2).length
  rw[List.length_cons,I.len,<-Bk.len]
  rfl
theorem JA{args:Arguments}{body:Expr}{tb:TE}{v:V}{u:Value}{Q:VK}{E:Value->Shared->Prop}(I:Inv X pins σ H s)(L:zk X args body sc H f)(Bk:nI sc.names X.env.scope.names [x] N2 X.N)
  (hk:sc.kind= .function)(hco:sc.isCoroutine=false)(hgen:sc.isGenerator=false)(hnc:∀y∈sc.names,y.2≠ .cell)(hx:sc.names.lookup x=some .local)
  (hbind:∀qual cl pm c ctv u,bindArgs (kla_fn "<lambda>" qual args body sc cl pm c ctv) ⟨[u],[]⟩=pure [(x,u)])(hB:B.frames=some X.stack)(hh:B.handled=none)(hroom:B.depth<recursionLimit)
  (hbody:∀q cd,PE (X.lam B sc ([x]++N2) q f cd s H) body tb)(rv:RelV v u)(h:tb (some v::σ) H Q):wpAny (model X.prog X.w) B (call (.ref f) [u]) (EP X pins σ Q) E s:=by
 obtain⟨qual,pm,ctv,c,oc,vs,q,t,e1,e2,e3,e4⟩:=L.ex
 obtain⟨g1,_⟩:s.heap.get? f=some _/\_:=I.hok f _ e1
 obtain⟨g2,_⟩:s.heap.get? c=some oc/\_:=I.hok c _ e2
 refine wpAny_call (AS (q:=q) hroom g1 rfl hco hgen rfl ⟨c,oc,vs,t,rfl,g2,e3,e4⟩ ?_)
 rw[hbind]
 refine wpAny_pure (wpAny_newFunctionEnv hnc (λy hy=> ?_) (λh1 hns SS=>⟨(I.Ct).fresh _ SS,?_⟩) hk)
 ·rw[List.mem_singleton.mp hy]
  exact hx
 have keep:∀b o,s.heap.get? b=some o->h1.get? b=some o:=λb o e=>SS.extBut b o (Nat.ne_of_lt (Heap.lt_size e)) (Heap.get?_push_of_some _ e)
 have J:=Jz (q:=q) (f:=f) (cd:= .ref c) (tk:=s.toks+1) I Bk hk hnc hx hB hh hns keep rv
 refine kla_codeExpr (wpAny_mono (hbody q (.ref c) [] _ _ H Q J h) (λu' s' hs=> ?_) λ_ _ z=>False.elim z)
 obtain⟨v',H',J',r',q'⟩:=hs
 have I':Inv X pins σ H' s':=I.EY (ch:=[]) J'.os J'.base J'.hok J'.bare λb z=>nomatch z
 exact⟨v',H',I',r',q'⟩
end
end L2
namespace L2
open PySem PySem.Spec PyProof.Rows PySem.Calls xF
theorem we{α β:Type}{f:α->β}:∀{m n:List β},m.Perm n-> ∀l:List α,n=l.map f-> ∃l':List α,l'.Perm l/\m=l'.map f:=by
 intro m n p
 induction p with
 |nil=>
  intro l e
  exact⟨l,.refl _,e⟩
 |cons x _ ih=>
  intro l e
  cases l with
  |nil=>cases e
  |cons a l=>
   injection e with e1 e2
   obtain⟨l',p',e'⟩:=ih l e2
   exact⟨a::l',p'.cons a,by rw[List.map_cons,e1,e']⟩
 |swap x y r=>
  intro l e
  match l,e with
  |a::b::l,e=>
   injection e with e1 e2
   injection e2 with e2 e3
   exact⟨b::a::l,List.Perm.swap _ _ _,by simp[e1,e2,e3]⟩
 |trans _ _ ih1 ih2=>
  intro l e
  obtain⟨l2,p2,e2⟩:=ih2 l e
  obtain⟨l1,p1,e1⟩:=ih1 l2 e2
  exact⟨l1,p1.trans p2,e1⟩
inductive pG(kf:V->Int):List V->List Value->List Value->Prop
 |nil:pG kf [] [] []
 |cons{y:V}{u:Value}{ys:List V}{us ks:List Value}(t:Tok)(r:RelV y u):pG kf ys us ks->pG kf (y::ys) (u::us) (.int (kf y) t::ks)
theorem pG.out{kf:V->Int}{ys:List V}{us ks:List Value}(h:pG kf ys us ks):∃tr:List (Keyed×V),ks.zip us=tr.map Prod.fst/\ys=tr.map Prod.snd/\ ∀t∈tr,RelV t.2 t.1.2/\ ∃k,t.1.1= .int (kf t.2) k:=by
 induction h with
 |nil=>exact⟨[],rfl,rfl,λt h=>nomatch h⟩
 | @cons y u ys us ks t r _ ih=>
  obtain⟨tr,e1,e2,h⟩:=ih
  refine⟨((.int (kf y) t,u),y)::tr,by rw[List.zip_cons_cons,e1];rfl,by rw[e2];rfl,λz hz=> ?_⟩
  rcases List.mem_cons.mp hz with rfl|hz
  ·exact⟨r,t,rfl⟩
  ·exact h z hz
theorem pG.ints{kf:V->Int}{ys:List V}{us ks:List Value}(h:pG kf ys us ks):IntsAre ks (ys.map kf):=by
 induction h with
 |nil=>exact .nil
 |cons t r _ ih=>exact .cons _ t ih
theorem pG.snoc{kf:V->Int}{ys:List V}{us ks:List Value}{y:V}{u:Value}(h:pG kf ys us ks)(t:Tok)(r:RelV y u):pG kf (ys++ [y]) (us++ [u]) (ks++ [.int (kf y) t]):=by
 induction h with
 |nil=>exact .cons t r .nil
 |cons t' r' _ ih=>exact .cons t' r' ih
section
variable{prog:Program}{w:World}{A:Around}{E:Value->Shared->Prop}{s:Shared}
theorem DW:pB prog w A E s oneType' (λp=>numOf p.1) (λp=> ∃n t,p.1= .int n t):=
 xM λx y hx hy E' Q hq=>by
  obtain⟨n,t,e1⟩:=hx
  obtain⟨m,u,e2⟩:=hy
  rw[keyLt'_oneType,e1,e2]
  rw[e1,e2]at hq
  exact oneLt_int hq
end
section
variable{X:Cx}{pins:List (Addr×Obj)}{σ:St}{H:Hp}{s:Shared}{B:Around}{a:Addr}{f:Value}{kf:V->Int}{ys:List V}{us:List Value}
theorem Vals.at{ys:List V}{us:List Value}(r:Vals ys us){j:Nat}{x:Value}(h:us[j]?=some x):∃v,ys[j]?=some v/\RelV v x:=by
 induction r generalizing j with
 |nil=>cases h
 |cons a _ ih=>
  cases j with
  |zero=>cases h;exact⟨_,rfl,a⟩
  |succ j=>exact ih h
abbrev CM(pins:List (Addr×Obj))(a:Addr)(e1:Nat)(kS:Addr)(ks:Array Value)(e:Nat):List (Addr×Obj):=pins++ [(a,seqObj "list" #[] e1),(kS,seqObj "list" ks e)]
theorem xN{a:Addr}{o:Obj}(fa:eV X pins H a)(h:s.heap.get? a=some o)(hd:∀v,o.data≠ .cell v):s.heap.get? a=some o/\H a=none/\a≠X.env.locals/\a∉X.fs/\ ∀v,o.data≠ .cell v:=⟨h,fa.1,fa.2.1,fa.2.2.1,hd⟩
theorem wg{H':Hp}(fa:eV X pins H a)(h:H' a=none):eV X pins H' a:=⟨h,fa.2⟩
end
theorem GO{K:PySem.W.Frag}{H H':Hp}{a:Addr}{xs:List V}(h:aW K H a xs)(s:av H H'):aW K H' a xs:=by
 rcases h with h|h
 ·rcases h with h|⟨o,h⟩
  ·exact .inl (.inl (s _ _ h))
  ·exact .inl (.inr ⟨o,s _ _ h⟩)
 ·exact .inr h
def OO(sc:Scope)(ks:List (Str×NameKind))(own N2 N:List Str):Bool:=
 xh sc.names ks own N2 N && (sc.kind== .function) && !sc.isCoroutine && !sc.isGenerator && sc.names.all (λy=>y.2 != .cell) && own.all (λx=>sc.names.lookup x==some NameKind.local)
section
variable{X:Cx}{P:Addr}{te tb:TE}{e body:Expr}{args:Arguments}{sc:Scope}{x:Str}{N2:List Str}{p pos GP kpos:Pos}
theorem fj.CN{k:Nat}{A:Around}(r:fj k A):A.units+70<cLine:=by have:=r.un;omega
theorem GQ{k:Nat}{A:Around}{e:Env}(r:fj (k+3) A):fj k (A.in1.in1.deeper e):=r.in1.in1.deeper e
end
end L2
namespace L2
open PySem PySem.Spec PyProof.Rows
section
variable{X:Cx}
end
def dJ(H:Hp)(b:Addr):List Int:=match H b with
 |some (.lst xs)=>xs.map λv=>match v with| .int i=>i|_=>0
 |_=>[]
def xO(H:Hp)(b:Addr):Prop:=H b=some (.lst [.int (aR (dJ H b) 0),.int (aR (dJ H b) 1),.int (aR (dJ H b) 2)])/\(dJ H b).length=3
theorem OP{H:Hp}{b:Addr}{x y z:Int}(e:H b=some (.lst [.int x,.int y,.int z])):xO H b/\dJ H b=[x,y,z]:=by
 have h:dJ H b=[x,y,z]:=by
  unfold dJ
  rw[e]
  rfl
 refine⟨⟨?_,by rw[h];rfl⟩,h⟩
 rw[h,e]
 rfl
theorem xO.keep{H H':Hp}{b:Addr}(h:xO H b)(s:∀o,H b=some o->H' b=some o):xO H' b/\dJ H' b=dJ H b:=by
 have e:dJ H' b=dJ H b:=by
  have e1:=s _ h.1
  have e2:=h.1
  unfold dJ at *
  rw[e1]
  conv=>rhs;rw[e2]
 exact⟨⟨by rw[e];exact s _ h.1,by rw[e];exact h.2⟩,e⟩
theorem CO{r:List Int}(h:r.length=3):r=[aR r 0,aR r 1,aR r 2]:=by
 match r,h with
 | [a,b,c],_=>rfl
def fS(H:Hp)(as:List Addr):Prop:=∀b∈as,xO H b
def rws(H:Hp)(as:List Addr):List (List Int):=as.map (dJ H)
theorem fS.keep{H H':Hp}{as:List Addr}(h:fS H as)(s:∀b∈as,∀o,H b=some o->H' b=some o):fS H' as/\rws H' as=rws H as:=
 ⟨λb hb=>((h b hb).keep (s b hb)).1,List.map_congr_left λb hb=>((h b hb).keep (s b hb)).2⟩
theorem fS.same{H H':Hp}{as:List Addr}(h:fS H as)(s:av H H'):fS H' as/\rws H' as=rws H as:=h.keep λb _ o e=>s b o e
theorem JC{H:Hp}{t:Addr}{as:List Addr}(ht:H t=some (.lst (as.map V.ref)))(h:fS H as):Tab H t as (rws H as):=by
 refine⟨ht,?_⟩
 clear ht
 induction as with
 |nil=>exact .nil
 |cons b as ih=>
  refine .cons ?_ (ih λc hc=>h c (List.mem_cons_of_mem _ hc))
  have:=h b List.mem_cons_self
  rw[this.1]
  conv=>rhs;rw[CO this.2]
  rfl
theorem AU(H:Hp)(as bs:List Addr):rws H (as++bs)=rws H as++rws H bs:=List.map_append
theorem DX{zs:List V}{as:List Addr}(p:zs.Perm (as.map V.ref)):∃bs:List Addr,zs=bs.map V.ref/\bs.Perm as:=by
 obtain⟨l,p',e⟩:=we p as rfl
 exact⟨l,e,p'⟩
theorem zo{H:Hp}{b l:Addr}{as:List Addr}(h:xO H b)(e:H l=some (.lst (as.map V.ref))):b≠l:=by
 rintro rfl
 have e1:=h.1
 rw[e]at e1
 cases as with
 |nil=>cases e1
 |cons a as=>cases e1
def fB(H:Hp)(bo:List Int->Bool):V->V
 | .ref d=> .bl (bo (dJ H d))
 |_=> .fZ
theorem JD{A B:List (List Int)}(ca:cj A)(cb:cj B)(h:∀i j,i<3->j<3->ent A i j=ent B i j):A=B:=by
 rw[tH ca,tH cb]
 exact ic h
theorem GR{J:It}{H1:Hp}{xs:List V}{σ:St}{te:TE}{Q:VK}(jw:JW J H1 xs)(hz:xs.length<=sizeLine){D:Addr}(hD:H1 D=none)(R:Nat->V->Hp->Prop)
  (mono:∀j v H H',R j v H->(∀b o,b≠D->H b=some o->H' b=some o) ->R j v H')
  (hs:∀j x,xs[j]?=some x-> ∀H' (Q':VK),av H1 H'->(∃o,H' D=some o) ->(∀v H2,av H' H2->R j v H2->Q' v H2) ->te (some x::σ) H' Q')
  (hq:∀vs H',av H1 H'->vs.length=xs.length->(∀j v,vs[j]?=some v->R j v H') ->H' D=some (.lst vs) ->Q (.ref D) H'):j8 1 (cO 0) te σ J H1 D Q:=by
 refine oW jw hz hD (λpre acc H'=> ∀j v,acc[j]?=some v->R j v H') (λj v e=>by simp at e) (λpre x post acc H' Q' e hl sm eD p k=> ?_) (λacc H' hl sm eD p=>hq acc H' sm hl p eD)
 refine hs pre.length x (by rw[e];simp) H' Q' sm ⟨_,eD⟩ λv H2 s2 r=>k v H2 s2 λj u eu=> ?_
 have off:∀b o,b≠D->H2 b=some o->upd H2 D (.lst (acc++ [v])) b=some o:=λb o n h=>by rw[aD n];exact h
 by_cases c:j<acc.length
 ·rw[List.getElem?_append_left c]at eu
  exact mono j u H' _ (p j u eu) λb o n h=>off b o n (s2 b o h)
 ·have:j=acc.length:=by
   have:=(List.getElem?_eq_some_iff.mp eu).1
   rw[List.length_append]at this
   simp at this
   omega
  subst this
  rw[List.getElem?_append_right (Nat.le_refl _)]at eu
  simp at eu
  subst eu
  rw[hl]
  exact mono _ v H2 _ r off
theorem DY{K:PySem.W.Frag}{J:It}{H1:Hp}{xs:List V}{σ:St}{te:TE}{Q:VK}(jw:JW J H1 xs)(hz:xs.length<=sizeLine){D:Addr}(hD:H1 D=none)(us vs:Nat->V)(items:∀j x,xs[j]?=some x-> ∃p,x= .ref p/\m8 K H1 p [us j,vs j])(R:Nat->V->Hp->Prop)
  (mono:∀j v H H',R j v H->(∀b o,b≠D->H b=some o->H' b=some o) ->R j v H')
  (hs:∀j,j<xs.length-> ∀H' (Q':VK),av H1 H'->(∃o,H' D=some o) ->(∀v H2,av H' H2->R j v H2->Q' v H2) ->te (some (us j)::some (vs j)::σ) H' Q')
  (hq:∀ws H',av H1 H'->ws.length=xs.length->(∀j v,ws[j]?=some v->R j v H') ->H' D=some (.lst ws) ->Q (.ref D) H'):j8 2 (g2 K) te σ J H1 D Q:=by
 refine⟨λi m acc σ' H'=>m=xs.length-i/\i<=xs.length/\acc.length=i/\(∃o o',σ'=o::o'::σ)/\av H1 H'/\H' D=some (.lst acc)/\ ∀j v,acc[j]?=some v->R j v H',⟨xs.length,rfl,Nat.zero_le _,rfl,⟨none,none,rfl⟩,av.up hD,ao,λj v e=>by simp at e⟩,?_⟩
 rintro i m acc σ' H' ⟨rfl,hi,hl,⟨o,o',rfl⟩,sm,eD,p⟩
 by_cases hlt:i<xs.length
 ·refine .inr ⟨jw.go i H' sm hlt,by omega,λx H2 y=> ?_⟩
  obtain⟨rfl,ex⟩:=jw.yt i H' x H2 sm hlt y
  obtain⟨T,rfl,hT⟩:=items i x ex
  refine⟨T,[us i,vs i],rfl,sm.UE hT,rfl,us i,[vs i],rfl,vs i,[],rfl,rfl,?_⟩
  show te (some (us i)::some (vs i)::σ) _ _
  refine hs i hlt H2 _ sm ⟨_,eD⟩ λv H4 s4 r=> ?_
  refine⟨s4 _ _ eD,xs.length- (i+1),by omega,rfl,hlt,by simp[hl],⟨_,_,rfl⟩,(sm.trans s4).upd hD,ao,λj u eu=> ?_⟩
  have off:∀b o,b≠D->H4 b=some o->upd H4 D (.lst (acc++ [v])) b=some o:=λb o n h=>by rw[aD n];exact h
  by_cases c:j<acc.length
  ·rw[List.getElem?_append_left c]at eu
   exact mono j u H2 _ (p j u eu) λb o n h=>off b o n (s4 b o h)
  ·have:j=acc.length:=by
    have:=(List.getElem?_eq_some_iff.mp eu).1
    rw[List.length_append]at this
    simp at this
    omega
   subst this
   rw[List.getElem?_append_right (Nat.le_refl _)]at eu
   simp at eu
   subst eu
   rw[hl]
   exact mono _ v H4 _ r off
 ·have e:i=xs.length:=by omega
  subst e
  exact .inl ⟨jw.stop H' sm,eD,hq acc H' sm hl p eD⟩
def GU(m:List (List Int))(i:Nat)(σ:St)(H:Hp):Nat:=match σ[i]? with
 |some (some (.ref a))=>match H a with
  |some (.lst [.int x0,.int x1,.int x2])=>(ay m (aR [x0,x1,x2]) (aR [x0,x1,x2])).toNat
  |_=>0
 |_=>0
theorem qf{m:List (List Int)}{i:Nat}{σ:St}{H:Hp}{a:Addr}{x:Nat->Int}(hs:σ[i]?=some (some (.ref a)))(h:bh H a x):GU m i σ H=(ay m x x).toNat:=by
 unfold GU
 have h:H a=some (.lst [.int (x 0),.int (x 1),.int (x 2)]):=h
 rw[hs]
 simp only[h]
 rw[gi (m:=m) (x:=aR [x 0,x 1,x 2]) (y:=aR [x 0,x 1,x 2]) (x':=x) (y':=x) (λi hi=>by rcases bH hi with rfl|rfl|rfl<;>rfl) (λi hi=>by rcases bH hi with rfl|rfl|rfl<;>rfl)]
theorem jC(a:Int){b:Int}(h:0<b):(a/b).natAbs<=a.natAbs:=by
 have e:=Int.emod_add_mul_ediv a b
 have l:=Int.emod_nonneg a (show b≠0 by omega)
 have u:=Int.emod_lt_of_pos a h
 generalize a%b=r at e l u
 generalize a/b=q at e ⊢
 rcases Int.lt_or_le q 0 with z|z
 ·have:b*q<=1*q:=by
   have:=Int.mul_le_mul_of_nonpos_right (show(1:Int)<=b by omega) (Int.le_of_lt z)
   omega
  by_cases c:q= -1
  ·subst c
   omega
  ·have:b*(q+1)<=1*(q+1):=Int.mul_le_mul_of_nonpos_right (show(1:Int)<=b by omega) (by omega)
   have e2:b*(q+1)=b*q+b:=by grind
   omega
 ·have:1*q<=b*q:=Int.mul_le_mul_of_nonneg_right (show(1:Int)<=b by omega) z
  omega
abbrev aQ(m:List (List Int))(x:Nat->Int):Int:=ay m x x
theorem JE{m:List (List Int)}(P:AG m){x:Nat->Int}(h:¬(x 0=0/\x 1=0/\x 2=0)):0<aQ m x:=P x h
theorem dM{m:List (List Int)}(P:AG m)(x:Nat->Int):0<=aQ m x:=by
 by_cases h:x 0=0/\x 1=0/\x 2=0
 ·have:aQ m x=0:=by
   show ay m x x=0
   rw[bC,h.1,h.2.1,h.2.2]
   grind
  omega
 ·exact Int.le_of_lt (P x h)
def iJ(y:Nat->Int)(q:Int)(x:Nat->Int):Nat->Int:=λi=>y i-q*x i
theorem wj{m:List (List Int)}(y:Nat->Int)(q:Int)(x z:Nat->Int):ay m (iJ y q x) z=ay m y z-q*ay m x z:=by
 unfold iJ
 rw[bC,bC,bC]
 grind
theorem gr{m:List (List Int)}(ev:cH m)(y:Nat->Int)(q:Int)(x z:Nat->Int):ay m z (iJ y q x)=ay m z y-q*ay m z x:=by
 rw[kO ev,wj,kO ev y,kO ev x]
theorem zp{m:List (List Int)}(ev:cH m)(y:Nat->Int)(q:Int)(x:Nat->Int):aQ m (iJ y q x)=aQ m y-2*q*ay m x y+q*q*aQ m x:=by
 show ay m _ _=_
 rw[wj,gr ev,gr ev,kO ev y x]
 grind
theorem qg{P A:Int}(h:0<A): -A<=2*(P- (2*P+A)/(2*A)*A)/\2*(P- (2*P+A)/(2*A)*A)<=A:=by
 have e:=Int.emod_add_mul_ediv (2*P+A) (2*A)
 have l:=Int.emod_nonneg (2*P+A) (show 2*A≠0 by omega)
 have u:=Int.emod_lt_of_pos (2*P+A) (show 0<2*A by omega)
 generalize(2*P+A)/(2*A)=q at e ⊢
 generalize(2*P+A)%(2*A)=r at e l u
 have e2:2*A*q=2*(q*A):=by grind
 rw[e2]at e
 omega
theorem CP{A P q N:Int}(hA:0<=A)(h1: -A<=2*(P-q*A))(h2:2*(P-q*A)<=A):N-2*q*P+q*q*A<=N:=by
 obtain⟨e,he⟩:∃e,P-q*A=e:=⟨_,rfl⟩
 rw[he]at h1 h2
 have hP:P=q*A+e:=by omega
 rw[hP]
 have key:N-2*q*(q*A+e)+q*q*A=N- (q*q*A+q*(2*e)):=by grind
 rw[key]
 suffices 0<=q*q*A+q*(2*e)by omega
 rcases Int.lt_or_le 0 q with hq|hq
 ·have a1:q*(-A)<=q*(2*e):=Int.mul_le_mul_of_nonneg_left (by omega) (by omega)
  have a2:q*A<=q*(q*A):=Int.mul_le_mul_of_nonneg_left (by
   have:1*A<=q*A:=Int.mul_le_mul_of_nonneg_right (by omega) hA
   omega) (by omega)
  have e1:q*(-A)= -(q*A):=by grind
  have e2:q*(q*A)=q*q*A:=by grind
  omega
 ·have a1:(-q)*(2*e)<=(-q)*A:=Int.mul_le_mul_of_nonneg_left (by omega) (by omega)
  have e3:(-q)*(2*e)= -(q*(2*e)):=by grind
  rcases Int.lt_or_le q 0 with h|h
  ·have a2:(-q)*A<=(-q)*((-q)*A):=Int.mul_le_mul_of_nonneg_left (by
    have:1*A<=(-q)*A:=Int.mul_le_mul_of_nonneg_right (by omega) hA
    omega) (by omega)
   have e2:(-q)*((-q)*A)=q*q*A:=by grind
   omega
  ·have:q=0:=by omega
   subst this
   simp
def mG(s:Nat->Nat)(m:List (List Int)):List (List Int):=mk3 λi j=>ent m (s i) (s j)
theorem nQ{m:List (List Int)}(hS:cU m=m)(ab:cu m=true)(x:Nat->Int):aC m*(x 2*x 2)<=gX m 2 2*aQ m x:=by
 obtain⟨c1,c2,c3⟩:=ir ab
 have e:=Gs hS x
 have hm:gX m 2 2=ent m 0 0*ent m 1 1-ent m 0 1*ent m 0 1:=by
  show ent m 0 0*ent m 1 1-ent m 0 1*ent m 1 0=_
  rw[iE hS (i:=0) (j:=1) (by decide) (by decide)]
 rw[<-hm]at e
 have q1:=Int.mul_nonneg (show 0<=gX m 2 2 by omega) (bu (ent m 0 0*x 0+ent m 0 1*x 1+ent m 0 2*x 2))
 have q2:=bu (gX m 2 2*x 1+(ent m 0 0*ent m 1 2-ent m 0 1*ent m 0 2)*x 2)
 have e2:ent m 0 0*(aC m*(x 2*x 2))<=ent m 0 0*(gX m 2 2*aQ m x):=by
  have a1:ent m 0 0*(aC m*(x 2*x 2))=ent m 0 0*aC m*(x 2*x 2):=(Int.mul_assoc ..).symm
  have a2:ent m 0 0*(gX m 2 2*aQ m x)=ent m 0 0*gX m 2 2*ay m x x:=(Int.mul_assoc ..).symm
  omega
 exact Int.le_of_mul_le_mul_left e2 c1
theorem wk{m:List (List Int)}(ev:cH m)(c:cj m)(ab:cu m=true)(s:Nat->Nat)(hs:(s 0=2/\s 1=1/\s 2=0)∨(s 0=0/\s 1=2/\s 2=1))(x:Nat->Int):
  cU (mG s m)=mG s m/\cu (mG s m)=true/\aC (mG s m)=aC m/\aQ (mG s m) (λi=>x (s i))=aQ m x/\gX (mG s m) 2 2=gX m (s 2) (s 2):=by
 have hS:=eL ev c
 have P:=jq hS ab
 have JF:ent m 1 0=ent m 0 1:=ev.sym.1
 have JG:ent m 2 0=ent m 0 2:=ev.sym.2.1
 have JH:ent m 2 1=ent m 1 2:=ev.sym.2.2
 have en:∀i j,i<3->j<3->ent (mG s m) i j=ent m (s i) (s j):=λi j hi hj=>fN _ hi hj
 have hN:∀y:Nat->Int,ay (mG s m) (λi=>y (s i)) (λi=>y (s i))=ay m y y:=λy=>by
  rw[bC,bC,en 0 0 (by decide) (by decide),en 0 1 (by decide) (by decide),en 0 2 (by decide) (by decide),en 1 0 (by decide) (by decide),en 1 1 (by decide) (by decide),en 1 2 (by decide) (by decide),en 2 0 (by decide) (by decide),en 2 1 (by decide) (by decide),en 2 2 (by decide) (by decide)]
  rcases hs with⟨h0,h1,h2⟩|⟨h0,h1,h2⟩<;>rw[h0,h1,h2]<;>grind
 have ov:cU (mG s m)=mG s m:=JD (cG _) (cG _) λi j hi hj=>by
  rw[aS _ hi hj,en j i hj hi,en i j hi hj]
  rcases hs with⟨h0,h1,h2⟩|⟨h0,h1,h2⟩<;>rcases bH hi with rfl|rfl|rfl<;>rcases bH hj with rfl|rfl|rfl<;>simp only[h0,h1,h2,JF,JG,JH]
 have Pp:AG (mG s m):=λy n0=>by
  have e:=hN (λi=>y (s i))
  have back:∀i,i<3->s (s i)=i:=λi hi=>by
   rcases hs with⟨h0,h1,h2⟩|⟨h0,h1,h2⟩<;>rcases bH hi with rfl|rfl|rfl<;>simp only[h0,h1,h2]
  have e2:ay (mG s m) y y=ay (mG s m) (λi=>(λi=>y (s i)) (s i)) (λi=>(λi=>y (s i)) (s i)):=gi (λi hi=>by show y i=y (s (s i));rw[back i hi]) (λi hi=>by show y i=y (s (s i));rw[back i hi])
  rw[e2,e]
  refine P _ λz=>n0 ?_
  rcases hs with⟨h0,h1,h2⟩|⟨h0,h1,h2⟩<;>rw[h0,h1,h2]at z<;>exact⟨by omega,by omega,by omega⟩
 refine⟨ov,v5 ov Pp,?_,hN x,?_⟩
 ·rw[dF,dF,en 0 0 (by decide) (by decide),en 0 1 (by decide) (by decide),en 0 2 (by decide) (by decide),en 1 0 (by decide) (by decide),en 1 1 (by decide) (by decide),en 1 2 (by decide) (by decide),en 2 0 (by decide) (by decide),en 2 1 (by decide) (by decide),en 2 2 (by decide) (by decide)]
  rcases hs with⟨h0,h1,h2⟩|⟨h0,h1,h2⟩<;>rw[h0,h1,h2]<;>grind
 ·show ent (mG s m) 0 0*ent (mG s m) 1 1-ent (mG s m) 0 1*ent (mG s m) 1 0=_
  rw[en 0 0 (by decide) (by decide),en 0 1 (by decide) (by decide),en 1 0 (by decide) (by decide),en 1 1 (by decide) (by decide)]
  unfold gX
  rcases hs with⟨h0,h1,h2⟩|⟨h0,h1,h2⟩<;>rw[h0,h1,h2]<;>simp only[Nat.reduceAdd,Nat.reduceMod]<;>grind
theorem wm{m:List (List Int)}(ev:cH m)(c:cj m)(ab:cu m=true)(x:Nat->Int){i:Nat}(hi:i<3):aC m*(x i*x i)<=gX m i i*aQ m x:=by
 rcases bH hi with rfl|rfl|rfl
 ·obtain⟨h1,h2,h3,h4,h5⟩:=wk ev c ab (λi=>2-i) (.inl ⟨rfl,rfl,rfl⟩) x
  have:=nQ h1 h2 (λi=>x (2-i))
  rw[h3,h4,h5]at this
  exact this
 ·obtain⟨h1,h2,h3,h4,h5⟩:=wk ev c ab (λi=>if i=0 then 0 else 3-i) (.inr ⟨rfl,rfl,rfl⟩) x
  have:=nQ h1 h2 (λi=>x (if i=0 then 0 else 3-i))
  rw[h3,h4,h5]at this
  exact this
 ·exact nQ (eL ev c) ab x
theorem mH{m:List (List Int)}(ev:cH m)(c:cj m)(ab:cu m=true)(hB:Bd 440 m){x:Nat->Int}(hx:(aQ m x).natAbs<2^450){i:Nat}(hi:i<3):(x i).natAbs<2^666:=by
 have e:=wm ev c ab x hi
 have d1:=(ir ab).2.2
 have b1:=CC hB i i
 have e2:x i*x i<=gX m i i*aQ m x:=by
  refine Int.le_trans ?_ e
  have:=Int.mul_le_mul_of_nonneg_right (show(1:Int)<=aC m by omega) (bu (x i))
  omega
 have b2:(gX m i i*aQ m x).natAbs<2^(881+450):=cD b1 hx
 have b3:(x i*x i).natAbs<2^1332:=by
  have:=bu (x i)
  refine Nat.lt_of_le_of_lt ?_ (aI b2 (show 881+450<=1332 by decide))
  omega
 rw[Int.natAbs_mul]at b3
 refine Nat.lt_of_not_le λz=> ?_
 have:=Nat.mul_le_mul z z
 rw[<-Nat.pow_add]at this
 omega
def eG(x y t:Nat->Int):List (List Int):=mk3 λi j=>if i=0 then x j else if i=1 then y j else t j
def bQ(x y t:Nat->Int):Int:=x 0*(y 1*t 2-y 2*t 1)+x 1*(y 2*t 0-y 0*t 2)+x 2*(y 0*t 1-y 1*t 0)
theorem DZ(x y t:Nat->Int):aC (eG x y t)=bQ x y t:=by
 rw[dF]
 show x 0*(y 1*t 2-y 2*t 1)+x 1*(y 2*t 0-y 0*t 2)+x 2*(y 0*t 1-y 1*t 0)=_
 rfl
theorem Ea(x y t:Nat->Int):bQ y x t= -bQ x y t:=by unfold bQ;grind
theorem AV(x y t:Nat->Int)(q:Int):bQ x (iJ y q x) t=bQ x y t:=by unfold bQ iJ;grind
theorem nS(x y t:Nat->Int)(i j:Int):bQ x y (iJ (iJ t i x) j y)=bQ x y t:=by unfold bQ iJ;grind
theorem AW{x:Nat->Int}(h:x 0=0/\x 1=0/\x 2=0)(y t:Nat->Int):bQ x y t=0:=by unfold bQ;rw[h.1,h.2.1,h.2.2];grind
structure gu(m:List (List Int))(x y x' y':Nat->Int):Prop where
 det:∃e:Int,(e=1∨e= -1)/\ ∀t,bQ x' y' t=e*bQ x y t
 sum:aQ m x'+aQ m y'<=aQ m x+aQ m y
theorem gu.refl(m:List (List Int))(x y:Nat->Int):gu m x y x y:=⟨⟨1,.inl rfl,λt=>by rw[Int.one_mul]⟩,Int.le_refl _⟩
theorem gu.trans{m:List (List Int)}{x y x1 y1 x2 y2:Nat->Int}(a:gu m x y x1 y1)(b:gu m x1 y1 x2 y2):gu m x y x2 y2:=by
 obtain⟨e,he,h⟩:=a.det
 obtain⟨f,hf,k⟩:=b.det
 refine⟨⟨f*e,?_,λt=>by rw[k,h,Int.mul_assoc]⟩,Int.le_trans b.sum a.sum⟩
 rcases he with rfl|rfl<;>rcases hf with rfl|rfl<;>simp
theorem gu.swap{m:List (List Int)}{x y x' y':Nat->Int}(a:gu m x y x' y'):gu m x y y' x':=by
 obtain⟨e,he,h⟩:=a.det
 refine⟨⟨-e,by omega,λt=>by rw[Ea,h];grind⟩,by have:=a.sum;omega⟩
theorem gu.less{m:List (List Int)}(ev:cH m){x y:Nat->Int}(h:0<aQ m x):gu m x y x (iJ y ((2*ay m x y+aQ m x)/(2*aQ m x)) x):=by
 obtain⟨h1,h2⟩:=qg (P:=ay m x y) h
 refine⟨⟨1,.inl rfl,λt=>by rw[AV,Int.one_mul]⟩,?_⟩
 rw[zp ev]
 have:=CP (N:=aQ m y) (Int.le_of_lt h) h1 h2
 omega
theorem GV{m:List (List Int)}(ev:cH m){x y:Nat->Int}(h:0<aQ m x):aQ m (iJ y ((2*ay m x y+aQ m x)/(2*aQ m x)) x)<=aQ m y:=by
 obtain⟨h1,h2⟩:=qg (P:=ay m x y) h
 rw[zp ev]
 exact CP (N:=aQ m y) (Int.le_of_lt h) h1 h2
theorem Eb{m:List (List Int)}(ev:cH m){x y:Nat->Int}(h:0<aQ m x): -(aQ m x)<=2*ay m x (iJ y ((2*ay m x y+aQ m x)/(2*aQ m x)) x)/\2*ay m x (iJ y ((2*ay m x y+aQ m x)/(2*aQ m x)) x)<=aQ m x:=by
 rw[gr ev]
 exact qg h
structure mJ(m:List (List Int))(x y:Nat->Int):Prop where
 pos:0<aQ m x
 le:aQ m x<=aQ m y
 lo: -(aQ m x)<=2*ay m x y
 hi:2*ay m x y<=aQ m x
theorem mK{a b:Int}(h1: -b<=a)(h2:a<=b):a*a<=b*b:=by
 have hb:0<=b:=by omega
 rcases Int.le_total 0 a with h|h
 ·exact Int.mul_le_mul h2 h2 h hb
 ·have:(-a)*(-a)<=b*b:=Int.mul_le_mul (by omega) (by omega) (by omega) hb
  have e:(-a)*(-a)=a*a:=by grind
  omega
theorem mJ.GW{m:List (List Int)}{x y:Nat->Int}(h:mJ m x y):3*(aQ m x*aQ m y)<=4*(aQ m x*aQ m y-ay m x y*ay m x y)/\0<aQ m x*aQ m y-ay m x y*ay m x y:=by
 have s:=mK h.lo h.hi
 have l:aQ m x*aQ m x<=aQ m x*aQ m y:=Int.mul_le_mul_of_nonneg_left h.le (Int.le_of_lt h.pos)
 have p:=Int.mul_pos h.pos h.pos
 have e:2*ay m x y*(2*ay m x y)=4*(ay m x y*ay m x y):=by grind
 omega
theorem Rq{m:List (List Int)}(ev:cH m)(x y t:Nat->Int):
  (aQ m x*aQ m y-ay m x y*ay m x y)*aQ m t=aC m*(bQ x y t*bQ x y t)+(aQ m x*(ay m y t*ay m y t) -2*(ay m x y*(ay m x t*ay m y t))+aQ m y*(ay m x t*ay m x t)):=by
 have JF:ent m 1 0=ent m 0 1:=ev.sym.1
 have JG:ent m 2 0=ent m 0 2:=ev.sym.2.1
 have JH:ent m 2 1=ent m 1 2:=ev.sym.2.2
 show(ay m x x*ay m y y-_)*ay m t t=_*_+(ay m x x*_-_+ay m y y*_)
 rw[dF]
 unfold bQ
 simp only[bC,JF,JG,JH]
 generalize ent m 0 0=a,ent m 0 1=p,ent m 0 2=q,ent m 1 1=b,ent m 1 2=r,ent m 2 2=c
 generalize x 0=x0,x 1=x1,x 2=x2,y 0=y0,y 1=y1,y 2=y2,t 0=t0,t 1=t1,t 2=t2
 grind
def bT(m:List (List Int))(x y t:Nat->Int):Int:=aQ m y*ay m x t-ay m x y*ay m y t
def bU(m:List (List Int))(x y t:Nat->Int):Int:=aQ m x*ay m y t-ay m x y*ay m x t
abbrev au(m:List (List Int))(x y:Nat->Int):Int:=aQ m x*aQ m y-ay m x y*ay m x y
abbrev dz(t:Nat->Int)(i:Int)(x:Nat->Int)(j:Int)(y:Nat->Int):Nat->Int:=iJ (iJ t i x) j y
theorem wo{m:List (List Int)}(ev:cH m)(x y t:Nat->Int)(i j:Int):bT m x y (dz t i x j y)=bT m x y t-i*au m x y/\bU m x y (dz t i x j y)=bU m x y t-j*au m x y:=by
 unfold bT bU dz au
 rw[gr ev,gr ev,gr ev,gr ev,kO ev y x]
 constructor<;>grind
theorem wu{m:List (List Int)}(ev:cH m)(x y t:Nat->Int):au m x y*(au m x y*aQ m t)=au m x y*(aC m*(bQ x y t*bQ x y t))+(aQ m x*(bT m x y t*bT m x y t)+2*(ay m x y*(bT m x y t*bU m x y t))+aQ m y*(bU m x y t*bU m x y t)):=by
 have g:=Rq ev x y t
 show au m x y*((aQ m x*aQ m y-ay m x y*ay m x y)*aQ m t)=_
 rw[g]
 unfold bT bU au
 generalize aQ m x=A,aQ m y=B,ay m x y=P,ay m x t=u,ay m y t=v
 generalize aC m*(bQ x y t*bQ x y t)=D
 grind
theorem Ec(m:List (List Int))(x y t:Nat->Int):au m x y*ay m x t=aQ m x*bT m x y t+ay m x y*bU m x y t/\au m x y*ay m y t=ay m x y*bT m x y t+aQ m y*bU m x y t:=by
 unfold bT bU au
 constructor<;>grind
structure Drawn(m:List (List Int))(x y t t':Nat->Int):Prop where
 det:bQ x y t'=bQ x y t
 le:aQ m t'<=aQ m t∨True
 s: -(au m x y)<=bT m x y t'/\bT m x y t'<=au m x y
 r: -(au m x y)<=bU m x y t'/\bU m x y t'<=au m x y
 few:4*(au m x y*aQ m t')<=4*(aC m*(bQ x y t*bQ x y t))+3*(au m x y*aQ m y)
theorem CQ{A B P s r d:Int}(hA:0<=A)(hB:0<=B)(h1: -A<=2*P)(h2:2*P<=A)(s1: -d<=2*s)(s2:2*s<=d)(r1: -d<=2*r)(r2:2*r<=d):4*(A*(s*s)+2*(P*(s*r))+B*(r*r))<=(2*A+B)*(d*d):=by
 have hd:0<=d:=by omega
 have ss:=mK s1 s2
 have rr:=mK r1 r2
 have e1:2*s*(2*s)=4*(s*s):=by grind
 have e2:2*r*(2*r)=4*(r*r):=by grind
 rw[e1]at ss
 rw[e2]at rr
 have sr:2*P*(2*s*(2*r))<=A*(d*d):=by
  have ab:∀a b c e:Int,-c<=a->a<=c-> -e<=b->b<=e->a*b<=c*e:=λa b c e h1 h2 h3 h4=>by
   have k1:=Int.mul_nonneg (show 0<=c-a by omega) (show 0<=e+b by omega)
   have k2:=Int.mul_nonneg (show 0<=c+a by omega) (show 0<=e-b by omega)
   have e3:(c-a)*(e+b)+(c+a)*(e-b)=2*(c*e) -2*(a*b):=by grind
   omega
  have MY:∀a b c e:Int,-c<=a->a<=c-> -e<=b->b<=e-> -(c*e)<=a*b:=λa b c e h1 h2 h3 h4=>by
   have:=ab (-a) b c e (by omega) (by omega) h3 h4
   have e3: -a*b= -(a*b):=by grind
   omega
  exact ab _ _ _ _ h1 h2 (MY _ _ _ _ s1 s2 r1 r2) (ab _ _ _ _ s1 s2 r1 r2)
 have f1:=Int.mul_le_mul_of_nonneg_left ss hA
 have f2:=Int.mul_le_mul_of_nonneg_left rr hB
 have e3:4*(A*(s*s)+2*(P*(s*r))+B*(r*r))=A*(4*(s*s))+2*P*(2*s*(2*r))+B*(4*(r*r)):=by grind
 have e4:(2*A+B)*(d*d)=A*(d*d)+A*(d*d)+B*(d*d):=by grind
 omega
theorem GX{m:List (List Int)}(ev:cH m){x y t:Nat->Int}(h:mJ m x y){i j:Int}(i0:i=bT m x y t/au m x y∨i=bT m x y t/au m x y+1)(j0:j=bU m x y t/au m x y∨j=bU m x y t/au m x y+1)
  (least:∀i' j',(i'=bT m x y t/au m x y∨i'=bT m x y t/au m x y+1) ->(j'=bU m x y t/au m x y∨j'=bU m x y t/au m x y+1) ->aQ m (dz t i x j y)<=aQ m (dz t i' x j' y)):Drawn m x y t (dz t i x j y):=by
 obtain⟨_,ap⟩:=h.GW
 have fl:=wo ev x y t
 have em:=λz:Int=>Int.emod_add_mul_ediv z (au m x y)
 have lo:=λz:Int=>Int.emod_nonneg z (show au m x y≠0 by show aQ m x*aQ m y-ay m x y*ay m x y≠0;omega)
 have up:=λz:Int=>Int.emod_lt_of_pos z (show 0<au m x y from ap)
 have Ed:0<au m x y:=ap
 have near:∀{z k:Int},(k=z/au m x y∨k=z/au m x y+1) -> -(au m x y)<=z-k*au m x y/\z-k*au m x y<=au m x y:=λ {z k} hk=>by
  have e:=em z
  have l:=lo z
  have u:=up z
  rcases hk with rfl|rfl
  ·generalize au m x y=d at e l u ⊢
   have e2:z/d*d=d*(z/d):=Int.mul_comm ..
   omega
  ·generalize au m x y=d at e l u ⊢
   have e2:(z/d+1)*d=d*(z/d)+d:=by rw[Int.add_mul,Int.one_mul,Int.mul_comm]
   omega
 have half:∀z:Int,∃k,(k=z/au m x y∨k=z/au m x y+1)/\ -(au m x y)<=2*(z-k*au m x y)/\2*(z-k*au m x y)<=au m x y:=λz=>by
  have e:=em z
  have l:=lo z
  have u:=up z
  by_cases c:2*(z%au m x y)<=au m x y
  ·refine⟨_,.inl rfl,?_⟩
   generalize au m x y=d at e l u c ⊢
   have e2:z/d*d=d*(z/d):=Int.mul_comm ..
   omega
  ·refine⟨_,.inr rfl,?_⟩
   generalize au m x y=d at e l u c ⊢
   have e2:(z/d+1)*d=d*(z/d)+d:=by rw[Int.add_mul,Int.one_mul,Int.mul_comm]
   omega
 have hn:=near i0
 have hr:=near j0
 refine⟨nS _ _ _ _ _,.inr trivial,by rw[(fl i j).1];exact hn,by rw[(fl i j).2];exact hr,?_⟩
 obtain⟨i1,hi1,s1,s2⟩:=half (bT m x y t)
 obtain⟨j1,hj1,r1,r2⟩:=half (bU m x y t)
 have best:=least i1 j1 hi1 hj1
 rw[<- (fl i1 j1).1]at s1 s2
 rw[<- (fl i1 j1).2]at r1 r2
 have g:=wu ev x y (dz t i1 x j1 y)
 have dt:bQ x y (dz t i1 x j1 y)=bQ x y t:=nS _ _ _ _ _
 rw[dt]at g
 have q:=CQ (Int.le_of_lt h.pos) (Int.le_trans (Int.le_of_lt h.pos) h.le) h.lo h.hi s1 s2 r1 r2
 have PC:2*aQ m x+aQ m y<=3*aQ m y:=by have:=h.le;omega
 have q2:=Int.mul_le_mul_of_nonneg_right PC (bu (au m x y))
 have SV:=Int.mul_le_mul_of_nonneg_left best (Int.le_of_lt Ed)
 generalize aQ m x*(bT m x y (dz t i1 x j1 y)*bT m x y (dz t i1 x j1 y))+2*(ay m x y*(bT m x y (dz t i1 x j1 y)*bU m x y (dz t i1 x j1 y)))+aQ m y*(bU m x y (dz t i1 x j1 y)*bU m x y (dz t i1 x j1 y))=qq at g q
 have fin:au m x y*(4*(au m x y*aQ m (dz t i1 x j1 y)))<=au m x y*(4*(aC m*(bQ x y t*bQ x y t))+3*(au m x y*aQ m y)):=by
  have e1:au m x y*(4*(au m x y*aQ m (dz t i1 x j1 y)))=4*(au m x y*(au m x y*aQ m (dz t i1 x j1 y))):=by grind
  have e2:au m x y*(4*(aC m*(bQ x y t*bQ x y t))+3*(au m x y*aQ m y))=4*(au m x y*(aC m*(bQ x y t*bQ x y t)))+3*aQ m y*(au m x y*au m x y):=by grind
  rw[e1,e2,g]
  omega
 have:=Int.le_of_mul_le_mul_left fin Ed
 omega
theorem Ef{m:List (List Int)}(ev:cH m){x y t:Nat->Int}(h:mJ m x y){i j:Int}(i0:i=bT m x y t/au m x y∨i=bT m x y t/au m x y+1)(j0:j=bU m x y t/au m x y∨j=bU m x y t/au m x y+1)(D0:0<=aC m):
  aQ m (dz t i x j y)<=aC m*(bQ x y t*bQ x y t)+3*aQ m y:=by
 obtain⟨_,ap⟩:=h.GW
 have fl:=wo ev x y t
 have Ed:0<au m x y:=ap
 have near:∀{z k:Int},(k=z/au m x y∨k=z/au m x y+1) -> -(2*au m x y)<=2*(z-k*au m x y)/\2*(z-k*au m x y)<=2*au m x y:=λ {z k} hk=>by
  have e:=Int.emod_add_mul_ediv z (au m x y)
  have l:=Int.emod_nonneg z (show au m x y≠0 by omega)
  have u:=Int.emod_lt_of_pos z Ed
  rcases hk with rfl|rfl
  ·generalize au m x y=d at e l u ⊢
   have e2:z/d*d=d*(z/d):=Int.mul_comm ..
   omega
  ·generalize au m x y=d at e l u ⊢
   have e2:(z/d+1)*d=d*(z/d)+d:=by rw[Int.add_mul,Int.one_mul,Int.mul_comm]
   omega
 have s:=near i0
 have r:=near j0
 rw[<- (fl i j).1]at s
 rw[<- (fl i j).2]at r
 have g:=wu ev x y (dz t i x j y)
 have dt:bQ x y (dz t i x j y)=bQ x y t:=nS _ _ _ _ _
 rw[dt]at g
 have q:=CQ (Int.le_of_lt h.pos) (Int.le_trans (Int.le_of_lt h.pos) h.le) h.lo h.hi s.1 s.2 r.1 r.2
 generalize aQ m x*(bT m x y (dz t i x j y)*bT m x y (dz t i x j y))+2*(ay m x y*(bT m x y (dz t i x j y)*bU m x y (dz t i x j y)))+aQ m y*(bU m x y (dz t i x j y)*bU m x y (dz t i x j y))=qq at g q
 have PC:2*aQ m x+aQ m y<=3*aQ m y:=by have:=h.le;omega
 have q2:=Int.mul_le_mul_of_nonneg_right PC (bu (au m x y))
 have DD:=Int.mul_nonneg D0 (bu (bQ x y t))
 generalize aC m*(bQ x y t*bQ x y t)=dd at g DD ⊢
 have e3:(2*aQ m x+aQ m y)*(2*au m x y*(2*au m x y))=4*((2*aQ m x+aQ m y)*(au m x y*au m x y)):=by grind
 rw[e3]at q
 have fin:au m x y*(au m x y*aQ m (dz t i x j y))<=au m x y*(au m x y*(dd+3*aQ m y)):=by
  rw[g]
  have e1:au m x y*(au m x y*(dd+3*aQ m y))=au m x y*(au m x y*dd)+3*aQ m y*(au m x y*au m x y):=by grind
  have m1:au m x y*dd<=au m x y*(au m x y*dd):=Int.mul_le_mul_of_nonneg_left (by
   have:=Int.mul_le_mul_of_nonneg_right (show(1:Int)<=au m x y by omega) DD
   omega) (Int.le_of_lt Ed)
  omega
 exact Int.le_of_mul_le_mul_left (Int.le_of_mul_le_mul_left fin Ed) Ed
theorem GY{α:Type}{a b:α}{l:List α}(h:l.Perm [a,b]):l=[a,b]∨l=[b,a]:=by
 match l,h.length_eq with
 | [p,q],_=>
  have hp:p∈ [a,b]:=h.mem_iff.mp (by simp)
  simp only[List.mem_cons,List.not_mem_nil,or_false]at hp
  rcases hp with rfl|rfl
  ·left
   have:=(List.perm_cons p).mp h
   rw[List.perm_singleton.mp this]
  ·right
   have h2: [p,q].Perm [p,a]:=h.trans (List.Perm.swap p a [])
   have:=(List.perm_cons p).mp h2
   rw[List.perm_singleton.mp this]
theorem KO{α:Type}{a b c:α}{l:List α}(h:l.Perm [a,b,c]):l=[a,b,c]∨l=[a,c,b]∨l=[b,a,c]∨l=[b,c,a]∨l=[c,a,b]∨l=[c,b,a]:=by
 match l,h.length_eq with
 |p::r,_=>
  have hp:p∈ [a,b,c]:=h.mem_iff.mp (by simp)
  simp only[List.mem_cons,List.not_mem_nil,or_false]at hp
  rcases hp with rfl|rfl|rfl
  ·rcases GY ((List.perm_cons p).mp h)with z|z<;>rw[z]<;>simp
  ·have h2:(p::r).Perm [p,a,c]:=h.trans (List.Perm.swap p a [c])
   rcases GY ((List.perm_cons p).mp h2)with z|z<;>rw[z]<;>simp
  ·have h2:(p::r).Perm [p,a,b]:=h.trans (((List.Perm.swap p b []).cons a).trans (List.Perm.swap p a [b]))
   rcases GY ((List.perm_cons p).mp h2)with z|z<;>rw[z]<;>simp
theorem Eg{α:Type}{a b c p q r:α}(X:α->Nat->Int)(h: [p,q,r].Perm [a,b,c]):bQ (X p) (X q) (X r)=bQ (X a) (X b) (X c)∨bQ (X p) (X q) (X r)= -bQ (X a) (X b) (X c):=by
 rcases KO h with z|z|z|z|z|z<;>injection z with e1 z<;>injection z with e2 z<;>injection z with e3 z<;>subst e1 e2 e3<;>unfold bQ
 ·left;rfl
 ·right;grind
 ·right;grind
 ·left;grind
 ·left;grind
 ·right;grind
theorem gH{H:Hp}{b:Addr}{x:Nat->Int}(h:bh H b x):∀i,i<3->aR (dJ H b) i=x i:=λi hi=>by
 have h:H b=some (.lst [.int (x 0),.int (x 1),.int (x 2)]):=h
 unfold dJ
 rw[h]
 rcases bH hi with rfl|rfl|rfl<;>rfl
theorem xP{H:Hp}{b:Addr}{x:Nat->Int}(h:bh H b x):bh H b (aR (dJ H b)):=by
 show H b=some (.lst [.int (aR (dJ H b) 0),.int (aR (dJ H b) 1),.int (aR (dJ H b) 2)])
 rw[gH h 0 (by decide),gH h 1 (by decide),gH h 2 (by decide)]
 exact h
structure CS(m:List (List Int))(x y t:Nat->Int):Prop where
 pair:mJ m x y
 le:aQ m y<=aQ m t
 unit:bQ x y t=1∨bQ x y t= -1
 few:3*(aQ m x*aQ m y*aQ m t)<=16*aC m
 u: -(2*aQ m x)<=ay m x t/\ay m x t<=2*aQ m x
 v: -(2*aQ m y)<=ay m y t/\ay m y t<=2*aQ m y
theorem JI{m:List (List Int)}{x y t t':Nat->Int}(h:mJ m x y)(d:Drawn m x y t t')(un:bQ x y t=1∨bQ x y t= -1)(le:aQ m y<=aQ m t'):CS m x y t':=by
 obtain⟨ar,ap⟩:=h.GW
 have Ed:0<au m x y:=ap
 have one:bQ x y t*bQ x y t=1:=by rcases un with z|z<;>rw[z]<;>decide
 have f:=d.few
 rw[one,Int.mul_one]at f
 have g:=Int.mul_le_mul_of_nonneg_left le (Int.le_of_lt Ed)
 have ht:0<=aQ m t':=by have:=h.pos;have:=h.le;omega
 have k:=Int.mul_le_mul_of_nonneg_right ar ht
 obtain⟨p1,p2⟩:=Ec m x y t'
 have cancel:∀{a b c:Int},au m x y*a<=au m x y*b->a<=b:=λh=>Int.le_of_mul_le_mul_left h Ed
 have ab:∀a b c e:Int,-c<=a->a<=c-> -e<=b->b<=e->a*b<=c*e:=λa b c e h1 h2 h3 h4=>by
  have k1:=Int.mul_nonneg (show 0<=c-a by omega) (show 0<=e+b by omega)
  have k2:=Int.mul_nonneg (show 0<=c+a by omega) (show 0<=e-b by omega)
  have e3:(c-a)*(e+b)+(c+a)*(e-b)=2*(c*e) -2*(a*b):=by grind
  omega
 have MY:∀a b c e:Int,-c<=a->a<=c-> -e<=b->b<=e-> -(c*e)<=a*b:=λa b c e h1 h2 h3 h4=>by
  have:=ab (-a) b c e (by omega) (by omega) h3 h4
  have e3: -a*b= -(a*b):=by grind
  omega
 have Ap:=h.pos
 have Bp:0<aQ m y:=Int.lt_of_lt_of_le h.pos h.le
 have pl: -(aQ m x)<=ay m x y/\ay m x y<=aQ m x:=by have:=h.lo;have:=h.hi;omega
 have PD: -(aQ m y)<=ay m x y/\ay m x y<=aQ m y:=by have:=h.le;omega
 have s1:=ab (aQ m x) (bT m x y t') (aQ m x) (au m x y) (by omega) (Int.le_refl _) d.s.1 d.s.2
 have s2:=MY (aQ m x) (bT m x y t') (aQ m x) (au m x y) (by omega) (Int.le_refl _) d.s.1 d.s.2
 have s3:=ab (ay m x y) (bU m x y t') (aQ m x) (au m x y) pl.1 pl.2 d.r.1 d.r.2
 have s4:=MY (ay m x y) (bU m x y t') (aQ m x) (au m x y) pl.1 pl.2 d.r.1 d.r.2
 have r1:=ab (ay m x y) (bT m x y t') (aQ m y) (au m x y) PD.1 PD.2 d.s.1 d.s.2
 have r2:=MY (ay m x y) (bT m x y t') (aQ m y) (au m x y) PD.1 PD.2 d.s.1 d.s.2
 have r3:=ab (aQ m y) (bU m x y t') (aQ m y) (au m x y) (by omega) (Int.le_refl _) d.r.1 d.r.2
 have r4:=MY (aQ m y) (bU m x y t') (aQ m y) (au m x y) (by omega) (Int.le_refl _) d.r.1 d.r.2
 refine⟨h,le,by rw[d.det];exact un,?_,⟨?_,?_⟩,?_,?_⟩
 ·have e1:3*(aQ m x*aQ m y)*aQ m t'=3*(aQ m x*aQ m y*aQ m t'):=by grind
  have e2:4*(aQ m x*aQ m y-ay m x y*ay m x y)*aQ m t'=4*(au m x y*aQ m t'):=by show _=4*((aQ m x*aQ m y-ay m x y*ay m x y)*aQ m t');grind
  omega
 ·refine cancel (c:=0) ?_
  rw[p1]
  have e:au m x y* -(2*aQ m x)= -(2*(aQ m x*au m x y)):=by grind
  omega
 ·refine cancel (c:=0) ?_
  rw[p1]
  have e:au m x y*(2*aQ m x)=2*(aQ m x*au m x y):=by grind
  omega
 ·refine cancel (c:=0) ?_
  rw[p2]
  have e:au m x y* -(2*aQ m y)= -(2*(aQ m y*au m x y)):=by grind
  omega
 ·refine cancel (c:=0) ?_
  rw[p2]
  have e:au m x y*(2*aQ m y)=2*(aQ m y*au m x y):=by grind
  omega
theorem GZ{x y z x' y' z':Nat->Int}(hx:∀i,i<3->x i=x' i)(hy:∀i,i<3->y i=y' i)(hz:∀i,i<3->z i=z' i):bQ x y z=bQ x' y' z':=by
 unfold bQ
 rw[hx 0 (by decide),hx 1 (by decide),hx 2 (by decide),hy 0 (by decide),hy 1 (by decide),hy 2 (by decide),hz 0 (by decide),hz 1 (by decide),hz 2 (by decide)]
theorem Mm(m:List (List Int)){i:Nat}(hi:i<3):aQ m (MX i 1)=ent m i i:=by
 show ay m _ _=_
 rw[bC]
 unfold MX
 rcases bH hi with rfl|rfl|rfl<;>simp
theorem Mn{m:List (List Int)}(ev:cH m){a b c:Addr}{X:Addr->Nat->Int}{zs:List Addr}(h:zs.Perm [a,b,c])(so:zs.Pairwise λa b=>cV m (X a)<=cV m (X b)):
  ∃p q r,zs=[p,q,r]/\p∈ [a,b,c]/\q∈ [a,b,c]/\r∈ [a,b,c]/\(bQ (X p) (X q) (X r)=bQ (X a) (X b) (X c)∨bQ (X p) (X q) (X r)= -bQ (X a) (X b) (X c))/\aQ m (X p)+aQ m (X q)<=aQ m (X a)+aQ m (X c):=by
 match zs,h.length_eq with
 | [p,q,r],_=>
  refine⟨p,q,r,rfl,h.mem_iff.mp (by simp),h.mem_iff.mp (by simp),h.mem_iff.mp (by simp),Eg X h,?_⟩
  have e:=λd=>fH ev (X d)
  have ea:=e a
  have eb:=e b
  have ec:=e c
  simp only[List.pairwise_cons,List.mem_cons,List.not_mem_nil,or_false,forall_eq_or_imp,forall_eq]at so
  show ay m _ _+ay m _ _<=ay m _ _+ay m _ _
  rcases KO h with z|z|z|z|z|z<;>injection z with e1 z<;>injection z with e2 z<;>injection z with e3 z<;>subst e1 e2 e3<;>omega
structure j3(N:List (List Int)):Prop where
 wC:cj N
 ev:cH N
 ab:cu N=true
 pos:0<ent N 0 0
 Mp:ent N 0 0<=ent N 1 1
 Mq:ent N 1 1<=ent N 2 2
 p: -(ent N 0 0)<=2*ent N 0 1/\2*ent N 0 1<=ent N 0 0
 u: -(2*ent N 0 0)<=ent N 0 2/\ent N 0 2<=2*ent N 0 0
 v: -(2*ent N 1 1)<=ent N 1 2/\ent N 1 2<=2*ent N 1 1
 few:3*(ent N 0 0*ent N 1 1*ent N 2 2)<=16*aC N
theorem m5(x y z:Nat->Int){j:Nat}(hj:j<3):ent (eG x y z) 0 j=x j/\ent (eG x y z) 1 j=y j/\ent (eG x y z) 2 j=z j:=⟨fN _ (by decide) hj,fN _ (by decide) hj,fN _ (by decide) hj⟩
theorem AX{m:List (List Int)}(ev:cH m)(c:cj m)(ab:cu m=true){x y z:Nat->Int}(h:CS m x y z):j3 (dS m (eG x y z))/\(aC (eG x y z)=1∨aC (eG x y z)= -1)/\aC (dS m (eG x y z))=aC m:=by
 have hS:=eL ev c
 have un:yW (aC (eG x y z)):=by rw[DZ];exact h.unit
 have c3:cj (eG x y z):=cG _
 have e:∀i j,i<3->j<3->ent (dS m (eG x y z)) i j=ay m (λk=>ent (eG x y z) i k) (λk=>ent (eG x y z) j k):=λi j hi hj=>tM m _ hi hj
 have r0:∀k,k<3->ent (eG x y z) 0 k=x k:=λk hk=>(m5 x y z hk).1
 have r1:∀k,k<3->ent (eG x y z) 1 k=y k:=λk hk=>(m5 x y z hk).2.1
 have r2:∀k,k<3->ent (eG x y z) 2 k=z k:=λk hk=>(m5 x y z hk).2.2
 have OQ:ent (dS m (eG x y z)) 0 0=aQ m x:=(e 0 0 (by decide) (by decide)).trans (gi r0 r0)
 have PF:ent (dS m (eG x y z)) 1 1=aQ m y:=(e 1 1 (by decide) (by decide)).trans (gi r1 r1)
 have SW:ent (dS m (eG x y z)) 2 2=aQ m z:=(e 2 2 (by decide) (by decide)).trans (gi r2 r2)
 have JF:ent (dS m (eG x y z)) 0 1=ay m x y:=(e 0 1 (by decide) (by decide)).trans (gi r0 r1)
 have JG:ent (dS m (eG x y z)) 0 2=ay m x z:=(e 0 2 (by decide) (by decide)).trans (gi r0 r2)
 have JH:ent (dS m (eG x y z)) 1 2=ay m y z:=(e 1 2 (by decide) (by decide)).trans (gi r1 r2)
 have dt:=yX (m:=m) un
 refine⟨⟨(show cj (gF (gF (eG x y z) m) (cU (eG x y z)))from cG _),v7 ev c c3,tL hS ab c3 un,?_,?_,?_,?_,?_,?_,?_⟩,un,dt⟩
 ·rw[OQ];exact h.pair.pos
 ·rw[OQ,PF];exact h.pair.le
 ·rw[PF,SW];exact h.le
 ·rw[OQ,JF];exact⟨h.pair.lo,h.pair.hi⟩
 ·rw[OQ,JG];exact h.u
 ·rw[PF,JH];exact h.v
 ·rw[OQ,PF,SW,dt];exact h.few
theorem Hf{m:List (List Int)}{x y z:Nat->Int}(h:CS m x y z):3*aQ m x<=16*aC m/\3*aQ m y<=16*aC m/\3*aQ m z<=16*aC m:=by
 have p:=h.pair.pos
 have q:=h.pair.le
 have r:=h.le
 have f:=h.few
 have k1:aQ m y<=aQ m x*aQ m y:=by
  have:=Int.mul_le_mul_of_nonneg_right (show 1<=aQ m x by omega) (show 0<=aQ m y by omega)
  omega
 have k2:1*aQ m z<=aQ m x*aQ m y*aQ m z:=Int.mul_le_mul_of_nonneg_right (by omega) (by omega)
 omega
end L2
namespace xF
open PySem PyProof.Rows
section
variable{prog:Program}{w:World}{A:Around}{E:Value->Shared->Prop}{s:Shared}{κ:SortKind}{K:Keyed->Int}{D:Keyed->Prop}{st:SortSt}
theorem JJ(hL:pB prog w A E s κ K D){Q:Unit->SortSt->Prop}(B:SB κ D st)(hp:pendingOf st= #[])(h64:(arrOf st).size<64)
  (hq:∀st',(arrOf st').Perm (arrOf st) ->failedOf st'=none->So K (arrOf st') 0 (arrOf st).size->Q () st'):wpS (model prog w) A E s sortRuns' Q st:=by
 rw[GJ]
 refine wpS_bind (wpS_get ?_)
 dsimp only
 have mr:minRun' (arrOf st).size (arrOf st).size 0=(arrOf st).size:=by
  cases h:(arrOf st).size with
  |zero=>rfl
  |succ k=>
   rw[minRun'_succ,if_pos (by omega)]
 rw[mr]
 refine wpS_bind (wpS_mono (wpS_forRange (I:=λx c s1=>(x=0/\c=(none,0)/\s1=st)∨(c=(none,(arrOf st).size)/\(arrOf s1).Perm (arrOf st)/\failedOf s1=none/\So K (arrOf s1) 0 (arrOf st).size/\(pendingOf s1).size=1))
  (Q:=λc s1=>c=(none,(arrOf st).size)/\(arrOf s1).Perm (arrOf st)/\failedOf s1=none/\So K (arrOf s1) 0 (arrOf st).size/\(pendingOf s1).size<=1) ?_ ?_ (.inl ⟨rfl,rfl,rfl⟩)) ?_)
 ·rintro x c s1 _ hx (⟨rfl,rfl,rfl⟩|⟨rfl,h⟩)
  ·dsimp only
   refine jZ (λc=>by omega) (λ_=> ?_)
   refine wpS_bind (w_count hL B (by omega) (by omega) λn s2 S2 n1 n2 KN=> ?_)
   dsimp only
   have UT:=S2.size
   have note:∀s3:SortSt,SC 0 s1 s3->So K (arrOf s3) 0 (arrOf s1).size-> ∀m,m=(arrOf s1).size-> ∀Q:ForInStep (Option Unit×Nat) ->SortSt->Prop,(∀s5,(arrOf s5).Perm (arrOf s1) ->failedOf s5=none->So K (arrOf s5) 0 (arrOf s1).size->(pendingOf s5).size=1->Q (.yield (none,(arrOf s1).size)) s5) ->wpS (model prog w) A E s (do
     modify λy=>setPending y ((pendingOf y).push (0,m,0))
     pure (ForInStep.yield ((none,0+m):Option Unit×Nat))) Q s3:=λs3 S3 ET m em Q hQ=>by
    subst em
    rw[Nat.zero_add]
    refine wpS_bind (wpS_modify (wpS_pure (hQ _ S3.perm (S3.failed.trans B.failed) ET ?_)))
    show((pendingOf s3).push _).size=1
    rw[S3.pend,hp]
    rfl
   by_cases hm:n<(arrOf s1).size
   ·rw[if_pos hm]
    refine wpS_bind (wpS_lift (wpAny_rule ⟨rfl,?_⟩))
    refine wpS_bind (KI hL (B.sc S2) (by omega) (by omega) KN λs3 S3 ET=> ?_)
    simp only[Bool.not_true,Bool.false_eq_true,if_false]
    refine wpS_bind (wpS_get ?_)
    rw[(S2.trans S3).pend,hp]
    have em:min ((arrOf s1).size-0) (arrOf s1).size=(arrOf s1).size:=by omega
    rw[em]at ET
    exact note s3 (S2.trans S3) ET _ em _ λs5 p f o q=> .inr ⟨rfl,p,f,o,q⟩
   ·rw[if_neg hm]
    have en:n=(arrOf s1).size:=by omega
    rw[en]at KN
    refine wpS_bind (wpS_get ?_)
    rw[S2.pend,hp]
    exact note s2 S2 KN _ en _ λs5 p f o q=> .inr ⟨rfl,p,f,o,q⟩
  ·dsimp only
   exact jZ (λ_=>wpS_pure ⟨rfl,h.1,h.2.1,h.2.2.1,Nat.le_of_eq h.2.2.2⟩) (λc=>absurd (Nat.le_refl _) c)
 ·rintro c s1 (⟨h0,rfl,rfl⟩|⟨rfl,h⟩)
  ·have z:(arrOf s1).size=0:=by omega
   rw[z]
   exact⟨rfl,Array.Perm.refl _,B.failed,λi j _ h=>absurd h (Nat.not_lt_zero _),by rw[hp];decide⟩
  ·exact⟨rfl,h.1,h.2.1,h.2.2.1,Nat.le_of_eq h.2.2.2⟩
 ·rintro c s1 ⟨rfl,h1,h2,h3,h4⟩
  dsimp only
  refine wpS_bind (wpS_mono (wpS_forRange (I:=λ_ c s2=>c=(none,())/\s2=s1) (Q:=λc s2=>c=(none,())/\s2=s1) ?_ (λ_ _ h=>h) ⟨rfl,rfl⟩) ?_)
  ·rintro x c s2 _ hx ⟨rfl,rfl⟩
   refine wpS_bind (wpS_get ?_)
   exact jZ (λc=>wpS_pure ⟨rfl,rfl⟩) (λc=>absurd h4 c)
  ·rintro c s2 ⟨rfl,rfl⟩
   exact wpS_pure (hq _ h1 h2 h3)
end
end xF
namespace L2
open PySem PySem.Spec PyProof.Rows PySem.Calls xF
section
variable{prog:Program}{w:World}{A:Around}{E:Value->Shared->Prop}{s:Shared}
theorem JK{a kS:Addr}{P:PySem.Fin->Shared->Prop}{kf:V->Int}{ys:List V}{us:List Value}{keys:Array Value}{e1 e:Nat}(hk:pG kf ys us keys.toList)(hn:kS≠a)(hz:us.length<=sizeLine)(h64:us.length<64)
  (ha:s.heap.get? a=some (seqObj "list" #[] e1))(hS:s.heap.get? kS=some (seqObj "list" keys e))
  (h:∀(zs:List V)(out:List Value) h' tk,zs.Perm ys->zs.Pairwise (λx y=>kf x<=kf y) ->Vals zs out->out.length=us.length->(∀b o,b≠a->b≠kS->s.heap.get? b=some o->h'.get? b=some o) ->(∃c,h'.get? a=some (seqObj "list" out.toArray c)) ->(∃o,h'.get? kS=some o) ->
   P (.done (.ret .none)) {s with heap:=h',toks:=tk}):wpAny (model prog w) A (ksk_end a false us.toArray e1 (.ref kS) keys) P E s:=by
 have kl:keys.toList.length=us.length:=by
  have:∀{ys:List V}{us ks:List Value},pG kf ys us ks->ks.length=us.length:=λh=>by
   induction h with
   |nil=>rfl
   |cons t r _ ih=>simp[ih]
  exact this hk
 have kz:keys.size=us.length:=by rw[<-kl];exact(Array.length_toList ..).symm
 have SX:(keys.zip us.toArray).size=us.length:=by rw[Array.size_zip,kz,List.size_toArray,Nat.min_self]
 have zl:(keys.zip us.toArray).toList=keys.toList.zip us:=ksk_zip keys us
 have tail:∀st:SortSt,(arrOf st).Perm (keys.zip us.toArray) ->failedOf st=none->So (λp=>numOf p.1) (arrOf st) 0 us.length->wpAny (model prog w) A (ksk_tail a false e1 (.ref kS) st) P E s:=by
  intro st hp hf hs
  have pl:(arrOf st).toList.Perm (keys.toList.zip us):=by rw[<-zl];exact Array.perm_iff_toList_perm.mp hp
  obtain⟨tr,t1,t2,t3⟩:=hk.out
  obtain⟨PJ,p',e'⟩:=we pl tr t1
  have len:(arrOf st).toList.length=us.length:=by rw[pl.length_eq,List.length_zip,kl,Nat.min_self]
  have oz:((arrOf st).map (·.2)).size=us.length:=by rw[Array.size_map,<-len,Array.length_toList]
  have oe:((arrOf st).map (·.2)).toList=PJ.map λt=>t.1.2:=by
   rw[Array.toList_map,e',List.map_map]
   rfl
  unfold ksk_tail
  try dsimp only
  generalize(arrOf st).map (·.2)=ov at oz oe ⊢
  refine wpAny_bind (listUpdate_at hS rfl ?_ (by omega) (Nat.zero_le _))
  refine wpAny_bind (wpAny_letGo ?_)
  have SY:=Heap.SameBut.update s.heap kS (Obj.mapSeq λ_=>(#[]:Array Value))
  have ha1:(s.heap.update kS (Obj.mapSeq λ_=>(#[]:Array Value))).get? a=some (seqObj "list" #[] e1):=(SY.2 a hn.symm).trans ha
  have Pq:=Heap.SameBut.update (s.heap.update kS (Obj.mapSeq λ_=>(#[]:Array Value))) a (Obj.mapSeq λ_=>ov)
  refine wpAny_bind (seqEpoch_at ha1 rfl ?_)
  refine wpAny_bind (listUpdate_at ha1 rfl ?_ (Nat.zero_le _) (Nat.le_trans (Nat.le_of_eq oz) (Nat.le_succ_of_le hz)))
  rw[hf]
  simp only[bne_self_eq_false,Bool.false_eq_true,if_false]
  refine wpAny_pure (h (PJ.map Prod.snd) (PJ.map λt=>t.1.2) _ _ (by rw[t2];exact p'.map _) ?_ ?_ ?_ (λb o h1 h2 q=> ?_) ?_ ?_)
  ·have h2:=(qd (K:=λp=>numOf p.1) (a:=arrOf st) (lo:=0) (n:=us.length) (by rw[Nat.zero_add,<-len,Array.length_toList];exact Nat.le_refl _)).mp hs
   have e2:sl (arrOf st) 0 us.length=(arrOf st).toList:=by
    show((arrOf st).toList.drop 0).take us.length=_
    rw[List.drop_zero,List.take_of_length_le (by omega)]
   rw[e2,e',List.pairwise_map]at h2
   rw[List.pairwise_map]
   refine h2.imp_of_mem λ {x y} mx my q=> ?_
   obtain⟨_,k1,q1⟩:=t3 x (p'.mem_iff.mp mx)
   obtain⟨_,k2,q2⟩:=t3 y (p'.mem_iff.mp my)
   rw[q1,q2]at q
   exact q
  ·have:∀l:List (Keyed×V),(∀t∈l,RelV t.2 t.1.2) ->Vals (l.map Prod.snd) (l.map λt=>t.1.2):=λl=>by
    induction l with
    |nil=>intro _;exact .nil
    |cons t l ih=>intro hl;exact .cons (hl t List.mem_cons_self) (ih λz hz=>hl z (List.mem_cons_of_mem _ hz))
   exact this PJ λt ht=>(t3 t (p'.mem_iff.mp ht)).1
  ·rw[<-oe,<-oz,Array.length_toList]
  ·exact(Pq.2 b h1).trans ((SY.2 b h2).trans q)
  ·rw[<-oe,Array.toArray_toList]
   exact⟨_,get?_update_seq ha1 λ_=>ov⟩
  ·exact⟨_,(Pq.2 kS hn).trans (get?_update_seq hS λ_=> #[])⟩
 unfold ksk_end
 try dsimp only
 simp only[Bool.false_eq_true,if_false]
 by_cases h2:us.toArray.size<2
 ·rw[if_pos h2,if_pos h2]
  refine wpAny_bind (wpAny_pure ?_)
  rw[StateT.run_pure]
  refine wpAny_bind (wpAny_pure ?_)
  try dsimp only
  refine tail (SortSt.mk' general' (keys.zip us.toArray) #[] 7 none) (Array.Perm.refl _) rfl (λi j hij hj=> ?_)
  rw[List.size_toArray]at h2
  have:i=j:=by omega
  subst this
  exact Int.le_refl _
 ·rw[if_neg h2,if_neg h2]
  rw[List.size_toArray]at h2
  rw[ksk_kind hk.ints (by omega)]
  refine wpAny_bind (wpAny_pure ?_)
  have R:xF.SB oneType' (λp=> ∃n t,p.1= .int n t) (SortSt.mk' oneType' (keys.zip us.toArray) #[] 7 none):=by
   refine⟨rfl,rfl,λp hp=> ?_⟩
   have kW:p∈(keys.zip us.toArray).toList:=hp
   rw[zl]at kW
   exact hk.ints.all p.1 (List.of_mem_zip (a:=p.1) (b:=p.2) kW).1
  refine wpAny_bind (wpAny_mono (JJ DW (Q:=λ_ st'=>(arrOf st').Perm (keys.zip us.toArray)/\failedOf st'=none/\So (λp=>numOf p.1) (arrOf st') 0 (keys.zip us.toArray).size) R rfl (show(keys.zip us.toArray).size<64 by rw[SX];exact h64) λst' a1 a2 a3=>⟨a1,a2,a3⟩) ?_ λ_ _ e=>e)
  rintro⟨⟨⟩,st'⟩ s' ⟨rfl,hp,hf,hs⟩
  rw[SX]at hs
  try dsimp only
  exact tail st' hp hf hs
end
section
variable{X:Cx}{pins:List (Addr×Obj)}{σ:St}{H:Hp}{s:Shared}{B:Around}{a:Addr}{f:Value}{kf:V->Int}{ys:List V}{us:List Value}
theorem Eh(I:Inv X pins σ H s)(fa:eV X pins H a){n:Nat}(ha:s.heap.get? a=some (seqObj "list" us.toArray n))(r:Vals ys us)(hz:us.length<=sizeLine)(h64:us.length<64){E:Value->Shared->Prop}{P:PySem.Fin->Shared->Prop}
  (turn:∀(oS:List (Addr×Obj))(v:V)(Hi:Hp)(u:Value)(si:Shared),v∈ys->av H Hi->RelV v u->Inv X oS σ Hi si->wpAny (model X.prog X.w) B (call f [u]) (EP X oS σ (λv' H'=>v'= .int (kf v)/\av Hi H')) (λ_ _=>False) si)
  (done:∀(Hn:Hp)(s':Shared)(zs:List V),Inv X pins σ (upd Hn a (.lst zs)) s'->av H Hn->Hn a=none->zs.Perm ys->zs.Pairwise (λx y=>kf x<=kf y) ->P (.done (.ret .none)) s'):
  wpAny (model X.prog X.w) B (ksk_tree a f false) P E s:=by
 have rl:=r.length
 unfold ksk_tree
 refine wpAny_bind (listItems_at ha rfl ?_)
 refine wpAny_bind (listUpdate_at ha rfl ?_ (by simpa using hz) (Nat.zero_le _))
 obtain⟨e1,ha1⟩:∃e1,(s.heap.update a (Obj.mapSeq λ_=> #[])).get? a=some (seqObj "list" #[] e1):=⟨_,get?_update_seq ha (λ_=> #[])⟩
 refine wpAny_bind (seqEpoch_at ha1 rfl ?_)
 refine wpAny_bind (wpAny_newTuple ?_ (by simpa using hz))
 refine wpAny_bind (wpAny_newList ?_ (Nat.zero_le _))
 refine wpAny_holding ?_
 have I1:Inv X pins σ H {s with heap:=s.heap.update a (Obj.mapSeq λ_=> #[])}:=I.oZ (ch:=[a]) (t':=s.toks) (λb o hb e=>(Heap.get?_update_ne _ _ _ _ (by simpa using hb)).trans e) (λb hb=>by rw[List.mem_singleton.mp hb];exact fa)
 have I2:Inv X pins σ H {s with heap:=((s.heap.update a (Obj.mapSeq λ_=> #[])).push (seqObj "tuple" us.toArray 0))}:=I1.kept (t':=s.toks) λb o e=>Heap.get?_push_of_some _ e
 have I3:Inv X pins σ H {s with heap:=((s.heap.update a (Obj.mapSeq λ_=> #[])).push (seqObj "tuple" us.toArray 0)).push (seqObj "list" #[] 0)}:=I2.kept (t':=s.toks) λb o e=>Heap.get?_push_of_some _ e
 have fk:eV X pins H ((s.heap.update a (Obj.mapSeq λ_=> #[])).push (seqObj "tuple" us.toArray 0)).objs.size:=I2.Dm (Nat.le_refl _) I2.fresh
 have Tc:(((s.heap.update a (Obj.mapSeq λ_=> #[])).push (seqObj "tuple" us.toArray 0)).push (seqObj "list" #[] 0)).get? a=some (seqObj "list" #[] e1):=Heap.get?_push_of_some _ (Heap.get?_push_of_some _ ha1)
 have Kv:(((s.heap.update a (Obj.mapSeq λ_=> #[])).push (seqObj "tuple" us.toArray 0)).push (seqObj "list" #[] 0)).get? ((s.heap.update a (Obj.mapSeq λ_=> #[])).push (seqObj "tuple" us.toArray 0)).objs.size=some (seqObj "list" #[] 0):=Heap.get?_push_size _ rfl
 have Rt:((s.heap.update a (Obj.mapSeq λ_=> #[])).push (seqObj "tuple" us.toArray 0)).objs.size≠a:=by
  have:=Heap.lt_size ha
  rw[size_push',Heap.size_update]
  exact Nat.ne_of_gt (Nat.lt_succ_of_lt this)
 generalize((s.heap.update a (Obj.mapSeq λ_=> #[])).push (seqObj "tuple" us.toArray 0)).objs.size=kS at fk Kv Rt ⊢
 generalize((s.heap.update a (Obj.mapSeq λ_=> #[])).push (seqObj "tuple" us.toArray 0)).push (seqObj "list" #[] 0)=h3 at I3 Tc Kv ⊢
 show wpAny _ B (ksk_rest a f false us.toArray e1 (.ref kS)) P E {s with heap:=h3}
 have nc:∀(xs:Array Value)(m:Nat)(v:Option Value),(seqObj "list" xs m).data≠ .cell v:=λxs m v z=>nomatch z
 have I4:Inv X (CM pins a e1 kS #[] 0) σ H {s with heap:=h3}:=I3.ji λp hp=>by
  rcases List.mem_append.mp hp with hp|hp
  ·exact I3.pin p (List.mem_append_right _ hp)
  ·rcases List.mem_cons.mp hp with rfl|hp
   ·exact xN fa Tc (nc _ _)
   ·rw[List.mem_singleton.mp hp]
    exact xN fk Kv (nc _ _)
 unfold ksk_rest
 refine wpAny_bind (wpAny_rule ?_)
 first
  |rw[List.forIn_toArray]
  |(rw[<-Array.forIn_toList];simp only[List.toList_toArray])
 refine wpAny_bind (ksk_fold (λi s'=> ∃Hi ks e,Inv X (CM pins a e1 kS ks e) σ Hi s'/\av H Hi/\pG kf (ys.take i) (us.take i) ks.toList) us 0 {s with heap:=h3} ⟨H, #[],0,I4,av.refl _,by simpa using pG.nil⟩ ?_ ?_)
 ·rintro j x s' hx ⟨Hi,ks,e,J,sm,hk⟩
  simp only[Nat.zero_add]at hk ⊢
  obtain⟨v,hv,rv⟩:=Vals.at r hx
  have hj:j<us.length:=(List.getElem?_eq_some_iff.mp hx).1
  refine wpAny_bind (wpAny_attempt (wpAny_mono (turn _ v Hi x s' (List.mem_of_getElem? hv) sm rv J) (λu s2 he=> ?_) λ_ _ hF=>hF.elim))
  obtain⟨v',H',J',ru,rfl,UZ⟩:=he
  obtain⟨t,rfl⟩:∃t,u= .int (kf v) t:=ru
  have pa:=J'.pin (a,seqObj "list" #[] e1) (by simp)
  have pk:=J'.pin (kS,seqObj "list" ks e) (by simp)
  have kl:ks.size=j:=by
   have h1:=hk.ints.length
   rw[Array.length_toList,List.length_map,List.length_take,rl]at h1
   omega
  try dsimp only
  refine wpAny_bind (listUpdate_at pk.1 rfl ?_ (by omega) (Nat.le_trans (Nat.le_of_eq (Array.size_push ..)) (by omega)))
  obtain⟨c2,hc2⟩:∃c2,(s2.heap.update kS (Obj.mapSeq (·.push (.int (kf v) t)))).get? kS=some (seqObj "list" (ks.push (.int (kf v) t)) c2):=⟨_,get?_update_seq pk.1 (·.push (.int (kf v) t))⟩
  have ya:ys.take (j+1)=ys.take j++ [v]:=by rw[List.take_add_one,hv];simp
  have ua:us.take (j+1)=us.take j++ [x]:=by rw[List.take_add_one,hx];simp
  have ea:(ks.push (Value.int (kf v) t)).toList=ks.toList++ [Value.int (kf v) t]:=by simp
  have J1:Inv X pins σ H' s2:=J'.ji λp hp=>J'.pin p (List.mem_append_right _ (List.mem_append_left _ hp))
  have J2:Inv X pins σ H' {s2 with heap:=s2.heap.update kS (Obj.mapSeq (·.push (.int (kf v) t)))}:=J1.oZ (ch:=[kS]) (t':=s2.toks) (λb o hb e=>(Heap.get?_update_ne _ _ _ _ (by simpa using hb)).trans e) (λb hb=>by rw[List.mem_singleton.mp hb];exact wg fk pk.2.1)
  refine wpAny_pure ⟨rfl,H',ks.push (.int (kf v) t),c2,J2.ji λp hp=> ?_,sm.trans UZ,by rw[ya,ua,ea];exact hk.snoc t rv⟩
  rcases List.mem_append.mp hp with hp|hp
  ·exact J2.pin p (List.mem_append_right _ hp)
  ·rcases List.mem_cons.mp hp with rfl|hp
   ·exact xN (wg fa pa.2.1) ((Heap.get?_update_ne _ _ _ _ Rt.symm).trans pa.1) (nc _ _)
   ·rw[List.mem_singleton.mp hp]
    exact xN (wg fk pk.2.1) hc2 (nc _ _)
 ·rintro s' ⟨Hi,ks,e,J,sm,hk⟩
  rw[Nat.zero_add,List.take_of_length_le (Nat.le_of_eq rl),List.take_of_length_le (Nat.le_refl _)]at hk
  have pa:=J.pin (a,seqObj "list" #[] e1) (by simp)
  have pk:=J.pin (kS,seqObj "list" ks e) (by simp)
  have J1:Inv X pins σ Hi s':=J.ji λp hp=>J.pin p (List.mem_append_right _ (List.mem_append_left _ hp))
  try dsimp only
  refine wpAny_bind (listItems_at pk.1 rfl ?_)
  refine JK hk Rt hz h64 pa.1 pk.1 λzs out h' tk pz so vo ol keep hA hS=> ?_
  have J2:Inv X pins σ Hi {s' with heap:=h',toks:=tk}:=J1.oZ (ch:=[a,kS]) (t':=tk) (λb o hb e=>keep b o (λz=>hb (by simp[z])) (λz=>hb (by simp[z])) e) (λb hb=>by
   rcases List.mem_cons.mp hb with rfl|hb
   ·exact wg fa pa.2.1
   ·rw[List.mem_singleton.mp hb];exact wg fk pk.2.1)
  obtain⟨c,hc⟩:=hA
  exact done Hi _ zs (J2.KD (wg fa pa.2.1) ⟨by rw[vo.length,ol];exact hz,out,c,vo,hc⟩) sm pa.2.1 pz so
theorem zq{l:Addr}{fa:Addr}(I:Inv X pins σ H s)(hq:aW X.K H l ys)(h64:ys.length<64){Q:VK}
  (turn:∀(oS:List (Addr×Obj))(v:V)(Hi:Hp)(u:Value)(si:Shared),v∈ys->av H Hi->RelV v u->Inv X oS σ Hi si->wpAny (model X.prog X.w) X.A.in1.in1 (call (.ref fa) [u]) (EP X oS σ (λv' H'=>v'= .int (kf v)/\av Hi H')) (λ_ _=>False) si)
  (done:∀(Hn:Hp)(zs:List V),av H Hn->zs.Perm ys->zs.Pairwise (λx y=>kf x<=kf y) -> ∀p,Hn p=none->Q (.ref p) (upd Hn p (.lst zs))):
  wpAny (model X.prog X.w) X.A (call (.builtin "sorted") [.ref l] [(Str.ofString "key",.ref fa)]) (EP X pins σ Q) X.xe s:=by
 obtain⟨us,r,pl,hz⟩:=I.list hq
 have hz':us.length<=sizeLine:=by rw[<-r.length];exact hz
 refine call_function_entry_kw kind_sorted plain_sorted entry_sorted (ksk_s1 _ _) ?_
 unfold Builtin.«sorted»
 refine wpAny_bind (m:=checkCount "sorted" 1 1 _) (wpAny_pure ?_)
 refine wpAny_bind (collect_list pl.isList ?_ hz')
 refine wpAny_bind (wpAny_newList ?_ (by simpa using hz'))
 have z1:((s.heap.push (seqObj "list" #[] 0)).update s.heap.objs.size (Obj.mapSeq (· ++us.toArray))).objs.size=s.heap.objs.size+1:=by
  rw[Heap.size_update,size_push']
 generalize hg:((s.heap.push (seqObj "list" #[] 0)).update s.heap.objs.size (Obj.mapSeq (· ++us.toArray)))=h1 at z1
 have keep:∀b o,s.heap.get? b=some o->(h1.push (seqObj "list" us.toArray 0)).get? b=some o:=λb o e=>by
  have lb:=Heap.lt_size e
  refine Heap.get?_push_of_some _ ?_
  rw[<-hg,Heap.get?_update_ne _ _ _ _ (Nat.ne_of_lt lb)]
  exact Heap.get?_push_of_some _ e
 have Lg:(h1.push (seqObj "list" us.toArray 0)).get? (s.heap.objs.size+1)=some (seqObj "list" us.toArray 0):=by
  rw[<-z1];exact Heap.get?_push_size _ rfl
 have I1:Inv X pins σ H {s with heap:=h1.push (seqObj "list" us.toArray 0)}:=I.kept (t':=s.toks) keep
 have Va:eV X pins H (s.heap.objs.size+1):=I.Dm (Nat.le_succ _) (I.hok.fresh (Nat.le_succ _))
 show wpAny _ _ _ _ _ {s with heap:=h1.push (seqObj "list" us.toArray 0)}
 rw[z1]
 refine wpAny_bind (wpAny_holding (wpAny_call_entry_kw slot_list_sort ⟨_,Lg,rfl⟩ entry_list_sort ?_ (ksk_l1 _ _)))
 show wpAny (model X.prog X.w) X.A.in1.in1 (Builtin.«list.sort» ⟨[.ref (s.heap.objs.size+1)],[(Str.ofString "key",.ref fa)]⟩) _ _ _
 rw[ksk_t1]
 refine Eh I1 Va Lg r hz' (by rw[<-r.length];exact h64) turn λHn s' zs J sm hn pz so=>⟨_,rfl,?_⟩
 exact wpAny_pure ⟨_,rfl,.ref (s.heap.objs.size+1),_,J,rfl,done Hn zs sm pz so _ hn⟩
end
def CU(tb:TE)(K:PySem.W.Frag)(P:Addr)(σ:St)(x:V)(H1:Hp)(Q:VK):Prop:=∃(l:Addr)(ys:List V)(kf:V->Int),x= .ref l/\aW K H1 l ys/\ys.length<64/\H1 P=some .yw/\
 (∀v∈ys,∀Hi,av H1 Hi->tb (some v::σ) Hi λv' H'=>v'= .int (kf v)/\av Hi H')/\
 ∀(Hn:Hp)(zs:List V),av H1 Hn->zs.Perm ys->zs.Pairwise (λx y=>kf x<=kf y) -> ∀p,Hn p=none->Q (.ref p) (upd Hn p (.lst zs))
def JL(tb:TE)(K:PySem.W.Frag)(P:Addr)(te:TE):TE:=λσ H Q=>te σ H λx H1=>CU tb K P σ x H1 Q
section
variable{X:Cx}{P:Addr}{te tb:TE}{e body:Expr}{args:Arguments}{sc:Scope}{x:Str}{N2:List Str}{p pos GP kpos:Pos}
theorem Ei(hc:X.calm=true){k:Nat}(hr:fj (k+3) X.A)(cd:gc X.K X.env.code P)(bm:BM X.mg X.base)(FY:Gl X "sorted")(hm:X.mg "sorted"=none)(he:PE X e te)(hB:OO sc X.env.scope.names [x] N2 X.N=true)
  (hbind:∀qual cl pm c ctv u,bindArgs (PySem.W.kla_fn "<lambda>" qual args body sc cl pm c ctv) ⟨[u],[]⟩=pure [(x,u)])
  (hbody:∀q f cd s H,PE (X.lam X.A.in1.in1 sc ([x]++N2) q f cd s H) body tb)
  (hdef:defaultsOf args X.env=([],[]):=by rfl)
  (hkw:keywordEach [⟨some "key",.Lambda args body sc GP,kpos⟩] X.env=[(some (Str.ofString "key"),eval (.Lambda args body sc GP) X.env)]:=by rfl)
  (hse:starEach [e] X.env=(false,eval e X.env)::starEach [] X.env:=by rfl)(hst:backTo pos (starEach [e] X.env)=(false,eval e X.env)::backTo pos (starEach [] X.env):=by rfl)
  (hpl:(backTo pos (starEach [e] X.env)).any (·.1)=false:=by rfl):PE X (.Call (.Name "sorted" p) [e] [⟨some "key",.Lambda args body sc GP,kpos⟩] pos) (JL tb X.K P te):=by
 intro pins s σ H Q I h
 unfold OO at hB
 simp only[Bool.and_eq_true]at hB
 obtain⟨⟨⟨⟨⟨h1,h2⟩,h3⟩,h4⟩,h5⟩,h6⟩:=hB
 have Bk:=g9 h1
 have nc:∀y∈sc.names,y.2≠ .cell:=λy hy=>by
  have q:=List.all_eq_true.mp h5 y hy
  simpa using q
 have hx:sc.names.lookup x=some .local:=by
  have q:=List.all_eq_true.mp h6 x (by simp)
  simpa using q
 refine wpAny_Call_Name_kw (kX I FY hm PyProof.Rows.boot_sorted ?_)
 refine PyProof.Rows.callWith_kw (fP ((af he ak hse) pos pins s σ H (λvs H1=>match vs with| [v]=>CU tb X.K P σ v H1 Q|_=>False) I h) λus s1 ⟨vs,H1,I1,r,q⟩=> ?_) hst hpl
 match vs,r,q with
 | [v],r,q=>
  obtain⟨l,ys,kf,rfl,hq,h64,hP,step,fin⟩:=q
  obtain⟨u,rfl,ru⟩:=vals1 r
  cases ru
  show wpAny _ _ (evalAll [do let v<-eval (.Lambda args body sc GP) X.env;standAt pos;pure v]) _ _ s1
  refine wpAny_evalAll_cons (wpAny_bind (DU I1 cd hP bm Bk hdef λf H2 s2 I2 sm fr L=>wpAny_bind (wpAny_standAt (wpAny_pure (wpAny_evalAll_nil ?_)))))
  refine zq (kf:=kf) I2 (GO hq sm) h64 (λoS v Hi u si hv Td rv J=> ?_) λHn zs Vb pz so=>fin Hn zs (sm.trans Vb) pz so
  exact JA J (L.same Td) Bk (by simpa using h2) (by simpa using h3) (by simpa using h4) nc hx hbind J.ok.frames (J.ok.hd hc) hr.depth (λq cd=>hbody q f cd si Hi) rv (step v hv Hi (sm.trans Td))
end
end L2
namespace L2
open PySem PySem.Spec PyProof.Rows
section
variable{M:Model}{A:Around}{E:Value->Shared->Prop}{s:Shared}{base:Heap}{env:Env}{outer:List Env}{L e:Addr}{cls a0:Value}
end
section
variable{P:Program}{w:World}{K:PySem.W.Frag}{mg:Str->Option Value}{base:Heap}{N:List Str}{qual:Str}{scope:Scope}{f:Addr}{cd:Value}{A:Around}{outer:List Env}{s:Shared}{H:Hp}{E:XK}
end
section
variable{X:Cx}{pins:List (Addr×Obj)}{σ:St}{H:Hp}{s:Shared}
def Ends.behind(D:Ends)(i:Nat):Ends:={nx:=λσ H=>D.nx (σ.set i none) H,rt:=D.rt,bk:=λσ H=>D.bk (σ.set i none) H,ct:=λσ H=>D.ct (σ.set i none) H}
end
end L2
namespace L2
open PySem PySem.Spec PyProof.Rows PySem.W Builtin Builtin.ObjectAttr Builtin.Getset_descriptor
section
variable{K:Frag}{x D:Addr}
end
end L2
namespace L2
open PySem PySem.Spec PyProof.Rows
section
variable{P:Program}{w:World}{K:PySem.W.Frag}{mg:Str->Option Value}{base:Heap}
end
section
variable{X:Cx}{pins:List (Addr×Obj)}{σ:St}{H:Hp}{s:Shared}
end
section
variable{X:Cx}
end
structure dh(P:Program)(w:World)(K:PySem.W.Frag)(mg:Str->Option Value)(base:Heap)(C:Dv)(k:Nat)(x:Str)(ps:List Str)(sp:Sp):Prop where
 ex:∃f fd,oV P w K mg base C k f fd ps sp/\Binds K fd ps []/\PySem.W.keepIn K (.ref f)=true/\mg x=some (.ref f)
structure fm(K:PySem.W.Frag)(mg:Str->Option Value)(x:Str)(st:Stmt)(ps:List Str):Prop where
 ex:∃f fd,Ku K x x st f fd/\Binds K fd ps []/\mg x=some (.ref f)
structure pH(K:PySem.W.Frag)(mg:Str->Option Value)(x:Str)(st:Stmt)(ps:List Str)(T:Addr):Prop where
 ex:∃f fd,DK K x x st f fd T/\Binds K fd ps []/\mg x=some (.ref f)
section
variable{P:Program}{w:World}{K:PySem.W.Frag}{mg:Str->Option Value}{base:Heap}{C:Dv}{x:Str}{st:Stmt}{N ps:List Str}{j k:Nat}{sp:Sp}{T:Addr}
theorem dh.mono(F:dh P w K mg base C j x ps sp)(h:j<=k:=by decide):dh P w K mg base C k x ps sp:=by
 obtain⟨f,fd,a,b⟩:=F.ex
 exact⟨f,fd,a.mono h,b⟩
theorem fm.ok(F:fm K mg x st ps)(S:aO N ps (aB st))(len:∀vs H Q E,sp vs H Q E->vs.length=ps.length)
  (hbody:∀f (cdv:Value) (A:Around) (outer:List Env) (s:Shared) (H:Hp) (vs:List V) (Q:VK) (E:XK),fj k (A.deeper (envOfC x (aB st) s.heap.objs.size f cdv)) ->sp vs H Q E->
   ∃t,wV (wZ cS P w K mg base N x (aB st) f cdv A outer s H E).ER (eK st) t/\t {nx:=λ_ H'=>Q .fZ H',rt:=Q} (start N vs) H):dh P w K mg base cS (k+1) x ps sp:=by
 obtain⟨f,fd,a,b,m⟩:=F.ex
 exact⟨f,fd,a.ok S len (hbody f),b,a.kp,m⟩
theorem pH.ok(F:pH K mg x st ps T)(S:aO N ps (aB st))(len:∀vs H Q E,sp vs H Q E->vs.length=ps.length)
  (hbody:∀f (cdv:Value) (A:Around) (outer:List Env) (s:Shared) (H:Hp) (vs:List V) (Q:VK) (E:XK),gc K cdv T->fj k (A.deeper (envOfC x (aB st) s.heap.objs.size f cdv)) ->sp vs H Q E->
   ∃t,wV (wZ cS P w K mg base N x (aB st) f cdv A outer s H E).ER (eK st) t/\t {nx:=λ_ H'=>Q .fZ H',rt:=Q} (start N vs) H):dh P w K mg base cS (k+1) x ps sp:=by
 obtain⟨f,fd,a,b,m⟩:=F.ex
 exact⟨f,fd,a.ok S len (hbody f),b,a.kp,m⟩
end
theorem aM{X:Cx}{CX:Dv}{k:Nat}{ps:List Str}{sp:Sp}{E:XK}{x:Str}{p pos:Pos}{e:Expr}{es:List Expr}{t:TA}(F:dh X.prog X.w X.K X.mg X.base CX k x ps sp)(hr:fj k X.A)(hg:Gl X x)(hx:Passes CX X E)(ha:PA X (e::es) t)
  (hdb:(x==("__debug__":Str))=false:=by decide)(he:starEach (e::es) X.env=(false,eval e X.env)::starEach es X.env:=by rfl)(hpl:(backTo pos (starEach es X.env)).any (·.1)=false:=by rfl):
  PE X (.Call (.Name x p) (e::es) [] pos) (kI sp [] E t):=by
 obtain⟨f,fd,a,b,kp,m⟩:=F.ex
 exact ID a hr hg m kp b .nil hx ha hdb he hpl
def FnAt(K:PySem.W.Frag)(x:Str)(st:Stmt)(f:Addr):Prop:=∃(oc:Value)(od an:Option Addr)(sl:Array (Option Value))(kV dc pm cd ct:Value),PySem.W.nsIn K mainGlobals x=some (some (.ref f))/\
 K.lookup f=some ⟨oc,od,.func (PySem.W.fnOf x x (gm st) (eK st) (aB st) .none kV dc pm an cd ct),sl⟩/\PySem.W.codeIn K cd x=true/\PySem.W.keepIn K (.ref f)=true
theorem fnAt{K:PySem.W.Frag}{x:Str}{st:Stmt}{f:Addr}{oc:Value}{od an:Option Addr}{sl:Array (Option Value)}{kV dc pm cd ct:Value}(a:PySem.W.nsIn K mainGlobals x=some (some (.ref f)):=by k_is)
  (l:K.lookup f=some ⟨oc,od,.func (PySem.W.fnOf x x (gm st) (eK st) (aB st) .none kV dc pm an cd ct),sl⟩:=by k_is)(c:PySem.W.codeIn K cd x=true:=by k_is)(k:PySem.W.keepIn K (.ref f)=true:=by k_is):FnAt K x st f:=
 ⟨oc,od,an,sl,kV,dc,pm,cd,ct,a,l,c,k⟩
section
variable{q:Program}{loose:List Str}{mean:ExcName->Option Value}{mg mb:Str->Option Value}{h:Heap}{K:PySem.W.Frag}{x:Str}{st:Stmt}{f:Addr}{ps:List Str}
theorem FnAt.fun(Tp:Top q loose mean mg mb h)(X:K.In h)(A:FnAt K x st f)
  (hb:∀(kV doc pm:Value)(an:Option Addr)(cdv ct:Value)(us:List Value),us.length=ps.length->bindArgs (PySem.W.fnOf x x (gm st) (eK st) (aB st) .none kV doc pm an cdv ct) ⟨us,[]⟩=pure (ps.zip us):=by exact λ_ _ _ _ _ _ us hl=>by first|(match us,hl with| [_],_=>rfl)|(match us,hl with| [_,_],_=>rfl)|(match us,hl with| [_,_,_],_=>rfl)|(match us,hl with| [_,_,_,_],_=>rfl)|(match us,hl with| [_,_,_,_,_],_=>rfl)|(match us,hl with| [_,_,_,_,_,_],_=>rfl)):fm K mg x st ps:=by
 obtain⟨oc,od,an,sl,kV,dc,pm,cd,ct,a,l,c,k⟩:=A
 have F:=Fy (st:=st) l c k
 exact⟨f,_,F,F.binds hb,PySem.W.mg_of X Tp.g a⟩
theorem FnAt.Ej(Tp:Top q loose mean mg mb h)(X:K.In h)(A:FnAt K x st f){d:DefRec}(r:(recsOf q).find? (λe=>e.name==x)=some d)
  (hb:∀(kV doc pm:Value)(an:Option Addr)(cdv ct:Value)(us:List Value),us.length=ps.length->bindArgs (PySem.W.fnOf x x (gm st) (eK st) (aB st) .none kV doc pm an cdv ct) ⟨us,[]⟩=pure (ps.zip us):=by exact λ_ _ _ _ _ _ us hl=>by first|(match us,hl with| [_],_=>rfl)|(match us,hl with| [_,_],_=>rfl)|(match us,hl with| [_,_,_],_=>rfl)|(match us,hl with| [_,_,_,_],_=>rfl)|(match us,hl with| [_,_,_,_,_],_=>rfl)|(match us,hl with| [_,_,_,_,_,_],_=>rfl)):
  ∃T,pH K mg x st ps T/\isCodeTable h T/\h.get? T=some {cls:= .none,data:= .fields #[]}/\tabOf K f=some (.ref T):=by
 obtain⟨oc,od,an,sl,kV,dc,pm,cd,ct,a,l,c,k⟩:=A
 have m:=PySem.W.mg_of X Tp.g a
 obtain⟨T,cA,cT,cE⟩:=Ax Tp r X m l (show PySem.W.codeIn K (PySem.W.fnOf x x (gm st) (eK st) (aB st) .none kV dc pm an cd ct).code x=true from c)
 have F:DK K x x st f _ T:=⟨⟨oc,od,kV,dc,pm,an,cd,ct,sl,rfl,l,c,cA⟩,k⟩
 exact⟨T,⟨f,_,F,F.fn.binds hb,m⟩,cT,cE,yR l cA⟩
end
end L2
set_option maxHeartbeats 1000000
namespace CT
open PySem L2
def top(i:Nat):Stmt:=PySem.Challenge.pw_conekin_k27_the_basis_leads_there.main.body.getD i (.Pass ⟨0,0,0,0⟩)
abbrev nT:Stmt:=top 5
abbrev jD:List Str:=["thing"]
theorem zu:aO ["thing"] jD (aB nT):=⟨rfl,rfl,rfl,by decide+kernel,rfl,by decide+kernel,by decide+kernel⟩
abbrev tV:Stmt:=top 6
abbrev mL:List Str:=["thing"]
theorem Ek:aO ["thing"] mL (aB tV):=⟨rfl,rfl,rfl,by decide+kernel,rfl,by decide+kernel,by decide+kernel⟩
abbrev nU:Stmt:=top 7
abbrev jE:List Str:=["thing"]
theorem zv:aO ["thing"] jE (aB nU):=⟨rfl,rfl,rfl,by decide+kernel,rfl,by decide+kernel,by decide+kernel⟩
abbrev qh:Stmt:=top 8
abbrev jr:List Str:=["one","other"]
theorem AY:aO ["one","other"] jr (aB qh):=⟨rfl,rfl,rfl,by decide+kernel,rfl,by decide+kernel,by decide+kernel⟩
abbrev ki:Stmt:=top 9
abbrev fJ:List Str:=["table"]
theorem tW:aO ["table"] fJ (aB ki):=⟨rfl,rfl,rfl,by decide+kernel,rfl,by decide+kernel,by decide+kernel⟩
abbrev jF:Stmt:=top 10
abbrev fU:List Str:=["table","i","j"]
theorem iQ:aO ["table","i","j","row","next_row","column","next_column"] fU (aB jF):=⟨rfl,rfl,rfl,by decide+kernel,rfl,by decide+kernel,by decide+kernel⟩
abbrev kj:Stmt:=top 11
abbrev dR:List Str:=["table"]
theorem cL:aO ["table","a","b","c","d","e","f","g","h","i"] dR (aB kj):=⟨rfl,rfl,rfl,by decide+kernel,rfl,by decide+kernel,by decide+kernel⟩
abbrev xQ:Stmt:=top 12
abbrev pI:List Str:=["table"]
theorem Hg:aO ["table"] pI (aB xQ):=⟨rfl,rfl,rfl,by decide+kernel,rfl,by decide+kernel,by decide+kernel⟩
abbrev nV:Stmt:=top 13
abbrev jG:List Str:=["table"]
theorem zw:aO ["table"] jG (aB nV):=⟨rfl,rfl,rfl,by decide+kernel,rfl,by decide+kernel,by decide+kernel⟩
abbrev qi:Stmt:=top 14
abbrev jt:List Str:=["table","by"]
theorem AZ:aO ["table","by"] jt (aB qi):=⟨rfl,rfl,rfl,by decide+kernel,rfl,by decide+kernel,by decide+kernel⟩
abbrev iR:Stmt:=top 17
abbrev fz:List Str:=["thing"]
theorem qj:aO ["thing"] fz (aB iR):=⟨rfl,rfl,rfl,by decide+kernel,rfl,by decide+kernel,by decide+kernel⟩
abbrev qk:Stmt:=top 18
abbrev kQ:List Str:=["thing"]
theorem Ba:aO ["thing"] kQ (aB qk):=⟨rfl,rfl,rfl,by decide+kernel,rfl,by decide+kernel,by decide+kernel⟩
abbrev ql:Stmt:=top 19
abbrev f7:List Str:=["table","one","other"]
theorem lz:aO ["table","one","other","x","y","z"] f7 (aB ql):=⟨rfl,rfl,rfl,by decide+kernel,rfl,by decide+kernel,by decide+kernel⟩
abbrev xR:Stmt:=top 20
abbrev lC:List Str:=["table","row"]
theorem Hh:aO ["table","row"] lC (aB xR):=⟨rfl,rfl,rfl,by decide+kernel,rfl,by decide+kernel,by decide+kernel⟩
abbrev qm:Stmt:=top 21
abbrev kR:List Str:=["table"]
theorem nW:aO ["table","first","mixed"] kR (aB qm):=⟨rfl,rfl,rfl,by decide+kernel,rfl,by decide+kernel,by decide+kernel⟩
abbrev Bb:Stmt:=top 22
abbrev tX:List Str:=["form"]
theorem CV:aO ["form","told"] tX (aB Bb):=⟨rfl,rfl,rfl,by decide+kernel,rfl,by decide+kernel,by decide+kernel⟩
abbrev nX:Stmt:=top 24
abbrev iw:List Str:=["form","rows"]
theorem zx:aO ["form","rows"] iw (aB nX):=⟨rfl,rfl,rfl,by decide+kernel,rfl,by decide+kernel,by decide+kernel⟩
abbrev lD:Stmt:=top 25
abbrev f9:List Str:=["row","times","other"]
theorem vg:aO ["row","times","other"] f9 (aB lD):=⟨rfl,rfl,rfl,by decide+kernel,rfl,by decide+kernel,by decide+kernel⟩
abbrev qo:Stmt:=top 26
abbrev kT:List Str:=["top","bottom"]
theorem Bc:aO ["top","bottom"] kT (aB qo):=⟨rfl,rfl,rfl,by decide+kernel,rfl,by decide+kernel,by decide+kernel⟩
abbrev lE:Stmt:=top 27
abbrev gI:List Str:=["form","one","other"]
theorem ko:aO ["form","one","other"] gI (aB lE):=⟨rfl,rfl,rfl,by decide+kernel,rfl,by decide+kernel,by decide+kernel⟩
abbrev nY:Stmt:=top 28
abbrev jH:List Str:=["form","one","other","third"]
theorem fV:aO ["form","one","other","third","across","along","aside","by_one","by_other","area","first","second","corners"] jH (aB nY):=⟨rfl,rfl,rfl,by decide+kernel,rfl,by decide+kernel,by decide+kernel⟩
abbrev lF:Stmt:=top 29
abbrev gJ:List Str:=["form"]
theorem cR:aO ["form","one","other","third"] gJ (aB lF):=⟨rfl,rfl,rfl,by decide+kernel,rfl,by decide+kernel,by decide+kernel⟩
abbrev Be:Stmt:=top 30
abbrev tY:List Str:=["form"]
theorem CW:aO ["form","basis"] tY (aB Be):=⟨rfl,rfl,rfl,by decide+kernel,rfl,by decide+kernel,by decide+kernel⟩
abbrev Bf:Stmt:=top 32
abbrev qp:List Str:=["number"]
theorem xS:aO ["number","told"] qp (aB Bf):=⟨rfl,rfl,rfl,by decide+kernel,rfl,by decide+kernel,by decide+kernel⟩
abbrev tZ:Stmt:=top 33
abbrev mO:List Str:=["table","n"]
theorem cP:aO ["table","n","first","mixed","far","second","third","flat","bent","high","whole","most","told","reach","z","span","y","left"] mO (aB tZ):=⟨rfl,rfl,rfl,by decide+kernel,rfl,by decide+kernel,by decide+kernel⟩
abbrev mP:Stmt:=top 34
abbrev iK:List Str:=["table","n"]
theorem cZ:aO ["table","n","first","told","y","z","shift","left","side","sides","number"] iK (aB mP):=⟨rfl,rfl,rfl,by decide+kernel,rfl,by decide+kernel,by decide+kernel⟩
abbrev kq:Stmt:=top 36
abbrev gj:List Str:=["table"]
theorem t6:aO ["table"] gj (aB kq):=⟨rfl,rfl,rfl,by decide+kernel,rfl,by decide+kernel,by decide+kernel⟩
abbrev iy:Stmt:=top 37
abbrev eN:List Str:=["table","firsts","seconds"]
theorem j4:aO ["table","firsts","seconds","halved"] eN (aB iy):=⟨rfl,rfl,rfl,by decide+kernel,rfl,by decide+kernel,by decide+kernel⟩
abbrev kr:Stmt:=top 38
abbrev gk:List Str:=["table"]
theorem bV:aO ["table","firsts","seconds","thirds","best","told","mixed","one","other","third","found"] gk (aB kr):=⟨rfl,rfl,rfl,by decide+kernel,rfl,by decide+kernel,by decide+kernel⟩
abbrev xT:Stmt:=top 39
abbrev pJ:List Str:=["form"]
theorem pK:aO ["form","table","basis","last"] pJ (aB xT):=⟨rfl,rfl,rfl,by decide+kernel,rfl,by decide+kernel,by decide+kernel⟩
abbrev nZ:Stmt:=top 41
abbrev jI:List Str:=["_law_script","_law_at"]
theorem iL:aO ["_law_script","_law_at","_law_cell","_law_great"] jI (aB nZ):=⟨rfl,rfl,rfl,by decide+kernel,rfl,by decide+kernel,by decide+kernel⟩
abbrev mQ:Stmt:=top 42
abbrev eU:List Str:=["_law_bag_here","_law_many"]
theorem pL:aO ["_law_bag_here","_law_many","_law_digit"] eU (aB mQ):=⟨rfl,rfl,rfl,by decide+kernel,rfl,by decide+kernel,by decide+kernel⟩
abbrev gv:Stmt:=top 43
abbrev cM:List Str:=["_law_t"]
theorem gh:aO ["_law_t","_law_first","_law_second"] cM (aB gv):=⟨rfl,rfl,rfl,by decide+kernel,rfl,by decide+kernel,by decide+kernel⟩
abbrev jJ:Stmt:=top 44
abbrev fW:List Str:=["_law_form","_law_one","_law_other"]
theorem fC:aO ["_law_form","_law_one","_law_other","_law_total","_law_i","_law_j"] fW (aB jJ):=⟨rfl,rfl,rfl,by decide+kernel,rfl,by decide+kernel,by decide+kernel⟩
abbrev jK:Stmt:=top 46
abbrev fX:List Str:=["_law_form","_law_by"]
theorem rH:aO ["_law_form","_law_by"] fX (aB jK):=⟨rfl,rfl,rfl,by decide+kernel,rfl,by decide+kernel,by decide+kernel⟩
abbrev gK:Stmt:=top 47
abbrev d9:List Str:=["_law_bag_here"]
theorem cN:aO ["_law_bag_here","_law_a","_law_b","_law_c","_law_one","_law_other","_law_third"] d9 (aB gK):=⟨rfl,rfl,rfl,by decide+kernel,rfl,by decide+kernel,by decide+kernel⟩
abbrev iS:Stmt:=top 48
abbrev fE:List Str:=["_law_form"]
theorem qt:aO ["_law_form"] fE (aB iS):=⟨rfl,rfl,rfl,by decide+kernel,rfl,by decide+kernel,by decide+kernel⟩
abbrev jL:Stmt:=top 49
abbrev fY:List Str:=["_law_bag_here","_law_most"]
theorem gn:aO ["_law_bag_here","_law_most","_law_turn","_law_form","_law_last"] fY (aB jL):=⟨rfl,rfl,rfl,by decide+kernel,rfl,by decide+kernel,by decide+kernel⟩
abbrev lG:Stmt:=top 50
abbrev gM:List Str:=["_law_bag_here","_law_far"]
theorem fK:aO ["_law_bag_here","_law_far","_law_made","_law_turn","_law_i","_law_j","_law_times"] gM (aB lG):=⟨rfl,rfl,rfl,by decide+kernel,rfl,by decide+kernel,by decide+kernel⟩
abbrev iT:Stmt:=top 51
abbrev fF:List Str:=["_law_found"]
theorem kU:aO ["_law_found","_law_row"] fF (aB iT):=⟨rfl,rfl,rfl,by decide+kernel,rfl,by decide+kernel,by decide+kernel⟩
abbrev iU:Stmt:=top 52
abbrev fG:List Str:=["_law_found"]
theorem qu:aO ["_law_found"] fG (aB iU):=⟨rfl,rfl,rfl,by decide+kernel,rfl,by decide+kernel,by decide+kernel⟩
abbrev pM:Stmt:=top 53
abbrev OR:List Str:=["_law_script"]
theorem ku:aO ["_law_script","_law_k","_law_bag_here","_law_form","_law_handed","_law_turn","_law_first","_law_basis_here"] OR (aB pM):=⟨rfl,rfl,rfl,by decide+kernel,rfl,by decide+kernel,by decide+kernel⟩
section
variable{P:Program}{w:World}{K:PySem.W.Frag}{mg:Str->Option Value}{base:Heap}
inductive Bg(T0:Addr)(vs:List V)(H:Hp)(Q:VK)(E:XK):Prop
 |mk(t1:Addr)(b1:List Addr)(m1:List (List Int))(t2:Addr)(b2:List Addr)(m2:List (List Int))(_:vs=[.ref t1,.ref t2])(_:Tab H t1 b1 m1)(_:Tab H t2 b2 m2)(_:cj m1)(_:cj m2)(_:Bd 4096 m1)(_:Bd 4096 m2)(_:H T0=some (dW T0))(_:∀r bs H',av H H'->H r=none->(∀b∈bs,H b=none) ->r∉bs->Tab H' r bs (gF m1 m2) ->Q (.ref r) H')
theorem Bh{bI:Addr}(F:pH K mg "product" qh jr bI)(bm:BM mg base)(wD:mg "sum"=none)(aY:mg "range"=none):dh P w K mg base cS 1 "product" jr (Bg bI):=by
 refine F.ok AY (λvs H Q E h=> ?_) (λf cdv A outer s H vs Q E cd hr h=> ?_)
 ·obtain⟨t1,b1,m1,t2,b2,m2,rfl,h1,h2,c1,c2,d1,d2,hP,q⟩:=h
  rfl
 obtain⟨t1,b1,m1,t2,b2,m2,rfl,h1,h2,c1,c2,d1,d2,hP,q⟩:=h
 have hu:=hr.units
 refine⟨_,(cX (aT (kc (N2:=["one","other"]) (te:=(nk 1 (vK (cJ (tC (.int 3)) jj)) (cO 0) (yP 1 bI (vK (cJ (tC (.int 3)) jj)) (cO 0) (jV (rI lU λi j=> .int (i*j)) (jV (jk K) (jV (jk K) (bK 3) (bK 2)) (bK 0)) (jV (jk K) (jV (jk K) (bK 4) (bK 0)) (bK 1)))))) rfl (cY rfl aY (af ah ak)) (by kernel_rfl) rfl (λ_ _ _=>by exact jT (kc (N2:=["i","one","other"]) (te:=(yP 1 bI (vK (cJ (tC (.int 3)) jj)) (cO 0) (jV (rI lU λi j=> .int (i*j)) (jV (jk K) (jV (jk K) (bK 3) (bK 2)) (bK 0)) (jV (jk K) (jV (jk K) (bK 4) (bK 0)) (bK 1))))) rfl (cY rfl aY (af ah ak)) (by kernel_rfl) rfl (λ_ _ _=>by exact jT (Jc (N2:=["j","i","one","other"]) (te:=(jV (rI lU λi j=> .int (i*j)) (jV (jk K) (jV (jk K) (bK 3) (bK 2)) (bK 0)) (jV (jk K) (jV (jk K) (bK 4) (bK 0)) (bK 1)))) rfl (fj.depth hr) cd bm rfl wD (cY rfl aY (af ah ak)) (by kernel_rfl) (λ_ _ _ _=>by exact jT (aq aE (aJ aA (aJ aA (pv 3) (pv 2) (λ_ _=>rfl)) (pv 0) (λ_ _=>rfl)) (aJ aA (aJ aA (pv 4) (pv 0) (λ_ _=>rfl)) (pv 1) (λ_ _=>rfl))))))))))),?_⟩
 refine⟨3,rfl,by decide,by decide,λD hD=>xw (gE (n:=3)) rfl hD _ (λi x hi ex H1 Q1 s1 k1=> ?_) (λbs H1 s1 fr nD hT=>q D bs H1 s1 hD fr nD hT)⟩
 obtain⟨_,rfl⟩:=f6 ex
 refine⟨3,rfl,by decide,by decide,λD2 Hj=>oY (gE (n:=3)) rfl Hj (λj=>ent m1 i 0*ent m2 0 j+ent m1 i 1*ent m2 1 j+ent m1 i 2*ent m2 2 j) (λj x hj Mr H2 Q2 s2 k2=> ?_) (λH2 s2 e2=>k1 D2 H2 Hj s2 e2)⟩
 obtain⟨_,rfl⟩:=f6 Mr
 refine⟨3,rfl,by decide,by decide,LQ (gE (n:=3)) (s2 _ _ (s1 _ _ hP)) (λk=>ent m1 i k*ent m2 k j) (λk x Vc H3 Q3 s3 k3=> ?_) (λH3 s3=> ?_)⟩
 ·obtain⟨hk,rfl⟩:=f6 Vc
  have sm:=s1.trans (s2.trans s3)
  obtain⟨b,row,e1,e2,e3⟩:=mY (h1.same sm) c1 hi hk
  obtain⟨b',Vd,yM,FL,Ru⟩:=mY (h2.same sm) c2 hk hj
  exact⟨_,rfl,_,rfl,t1,_,_,_,rfl,rfl,aW.of (h1.same sm).1,e1,_,rfl,b,_,_,_,rfl,rfl,aW.of e2,e3,_,rfl,_,rfl,t2,_,_,_,rfl,rfl,aW.of (h2.same sm).1,yM,_,rfl,b',_,_,_,rfl,rfl,aW.of FL,Ru,_,_,rfl,rfl,⟨d1 i k hi hk,d2 k j hk hj⟩,k3 H3 (av.refl _)⟩
 ·have:=k2 H3 s3
  rw[show preSum (λk=>ent m1 i k*ent m2 k j) (mw 3).length=_ from Rf _]
  exact this
inductive Bj(vs:List V)(H:Hp)(Q:VK)(E:XK):Prop
 |mk(t1:Addr)(b1:List Addr)(m1:List (List Int))(_:vs=[.ref t1])(_:Tab H t1 b1 m1)(_:cj m1)(_:∀r bs H',av H H'->H r=none->(∀b∈bs,H b=none) ->r∉bs->Tab H' r bs (cU m1) ->Q (.ref r) H')
theorem t7(F:fm K mg "turned_over" ki fJ)(aY:mg "range"=none):dh P w K mg base cS 1 "turned_over" fJ Bj:=by
 refine F.ok tW (λvs H Q E h=> ?_) (λf cdv A outer s H vs Q E hr h=> ?_)
 ·obtain⟨t1,b1,m1,rfl,h1,c1,q⟩:=h
  rfl
 obtain⟨t1,b1,m1,rfl,h1,c1,q⟩:=h
 have hu:=hr.units
 refine⟨_,(cX (aT (kc (N2:=["table"]) (te:=(nk 1 (vK (cJ (tC (.int 3)) jj)) (cO 0) (jV (jk K) (jV (jk K) (bK 2) (bK 0)) (bK 1)))) rfl (cY rfl aY (af ah ak)) (by kernel_rfl) rfl (λ_ _ _=>by exact jT (kc (N2:=["i","table"]) (te:=(jV (jk K) (jV (jk K) (bK 2) (bK 0)) (bK 1))) rfl (cY rfl aY (af ah ak)) (by kernel_rfl) rfl (λ_ _ _=>by exact jT (aJ aA (aJ aA (pv 2) (pv 0) (λ_ _=>rfl)) (pv 1) (λ_ _=>rfl)))))))),?_⟩
 refine⟨3,rfl,by decide,by decide,λD hD=>xw (gE (n:=3)) rfl hD _ (λi x hi ex H1 Q1 s1 k1=> ?_) (λbs H1 s1 fr nD hT=>q D bs H1 s1 hD fr nD hT)⟩
 obtain⟨_,rfl⟩:=f6 ex
 refine⟨3,rfl,by decide,by decide,λD2 Hj=>oY (gE (n:=3)) rfl Hj (λj=>ent m1 j i) (λj x hj Mr H2 Q2 s2 k2=> ?_) (λH2 s2 e2=>k1 D2 H2 Hj s2 e2)⟩
 obtain⟨_,rfl⟩:=f6 Mr
 have sm:=s1.trans s2
 obtain⟨b,row,e1,e2,e3⟩:=mY (h1.same sm) c1 hj hi
 exact⟨_,rfl,_,rfl,t1,_,_,_,rfl,rfl,aW.of (h1.same sm).1,e1,_,rfl,b,_,_,_,rfl,rfl,aW.of e2,e3,k2 H2 (av.refl _)⟩
inductive r8(K:PySem.W.Frag)(vs:List V)(H:Hp)(Q:VK)(E:XK):Prop
 |mk(t:Addr)(bs:List Addr)(m:List (List Int))(i j:Nat)(_:vs=[.ref t,.int (i:Int),.int (j:Int)])(_:Tab H t bs m)(_:cj m)(_:i<3)(_:j<3)(_:Bd 4096 m)(_:Q (.int (gX m i j)) H)
theorem rJ(F:fm K mg "signed_minor" jF fU):dh P w K mg base cS 1 "signed_minor" fU (r8 K):=by
 refine F.ok iQ (λvs H Q E h=> ?_) (λf cdv A outer s H vs Q E hr h=> ?_)
 ·obtain⟨t,bs,m,i,j,rfl,hT,b8,hi,hj,hB,q⟩:=h
  rfl
 obtain⟨t,bs,m,i,j,rfl,hT,b8,hi,hj,hB,q⟩:=h
 have hu:=hr.units
 refine⟨_,(lY (@az _ _ _ _ _ (sJ (i:=3) (j:=4) rfl iQ.nd rfl rfl (by decide) rfl rfl (af (aJ aA (pv 0) (aq g7 (aq bJ (pv 1) ah) ah) (λ_ _=>rfl)) (af (aJ aA (pv 0) (aq g7 (aq bJ (pv 1) ah) ah) (λ_ _=>rfl)) ak)) rfl)
  (@az _ _ _ _ _ (sJ (i:=5) (j:=6) rfl iQ.nd rfl rfl (by decide) rfl rfl (af (aq g7 (aq bJ (pv 2) ah) ah) (af (aq g7 (aq bJ (pv 2) ah) ah) ak)) rfl)
  (@aN _ _ _ (aT (aq dw (aq aE (aJ aA (pv 3) (pv 5) (λ_ _=>rfl)) (aJ aA (pv 4) (pv 6) (λ_ _=>rfl))) (aq aE (aJ aA (pv 3) (pv 6) (λ_ _=>rfl)) (aJ aA (pv 4) (pv 5) (λ_ _=>rfl))))))))),?_⟩
 obtain⟨b,e1,e2,_⟩:=bf hT b8 (i:=(i+1)%3) (uT _)
 obtain⟨b',yM,FL,_⟩:=bf hT b8 (i:=(i+2)%3) (uT _)
 rw[<-m3 i 1]at e1
 rw[<-m3 i 2]at yM
 refine⟨_,rfl,_,rfl,_,_,rfl,rfl,_,_,rfl,rfl,(by show(0:Int)<3;decide),t,_,_,_,rfl,rfl,aW.of hT.1,e1,?_⟩
 refine⟨_,rfl,_,rfl,_,_,rfl,rfl,_,_,rfl,rfl,(by show(0:Int)<3;decide),t,_,_,_,rfl,rfl,aW.of hT.1,yM,_,_,rfl,?_⟩
 refine⟨_,rfl,_,_,rfl,rfl,_,_,rfl,rfl,(by show(0:Int)<3;decide),_,rfl,_,_,rfl,rfl,_,_,rfl,rfl,(by show(0:Int)<3;decide),_,_,rfl,?_⟩
 have a1:=xx (λc=>ent m ((i+1)%3) c) (c:=(j+1)%3) (uT _)
 have a2:=xx (λc=>ent m ((i+2)%3) c) (c:=(j+2)%3) (uT _)
 have a3:=xx (λc=>ent m ((i+1)%3) c) (c:=(j+2)%3) (uT _)
 have a4:=xx (λc=>ent m ((i+2)%3) c) (c:=(j+1)%3) (uT _)
 rw[<-m3 j 1]at a1 a4
 rw[<-m3 j 2]at a2 a3
 refine⟨_,rfl,_,rfl,b,_,_,_,rfl,rfl,aW.of e2,a1,_,rfl,_,rfl,b',_,_,_,rfl,rfl,aW.of FL,a2,_,_,rfl,rfl,⟨hB _ _ (uT _) (uT _),hB _ _ (uT _) (uT _)⟩,?_⟩
 exact⟨_,rfl,_,rfl,b,_,_,_,rfl,rfl,aW.of e2,a3,_,rfl,_,rfl,b',_,_,_,rfl,rfl,aW.of FL,a4,_,_,rfl,rfl,⟨hB _ _ (uT _) (uT _),hB _ _ (uT _) (uT _)⟩,_,_,rfl,rfl,q⟩
theorem t8{H:Hp}{t:Addr}{bs:List Addr}{m:List (List Int)}(hT:Tab H t bs m)(b8:cj m):∃c0 c1 c2,bs=[c0,c1,c2]/\bh H c0 (λc=>ent m 0 c)/\bh H c1 (λc=>ent m 1 c)/\bh H c2 (λc=>ent m 2 c):=by
 have l3:bs.length=3:=by rw[<-hT.2.length,b8.1]
 match bs,l3,hT with
 | [c0,c1,c2],_,hT=>
  obtain⟨b0,x1,x2,_⟩:=bf hT b8 (i:=0) (by decide)
  obtain⟨b1,y1,y2,_⟩:=bf hT b8 (i:=1) (by decide)
  obtain⟨b2,w1,w2,_⟩:=bf hT b8 (i:=2) (by decide)
  cases x1;cases y1;cases w1
  exact⟨c0,c1,c2,rfl,x2,y2,w2⟩
inductive zy(vs:List V)(H:Hp)(Q:VK)(E:XK):Prop
 |mk(t:Addr)(bs:List Addr)(m:List (List Int))(_:vs=[.ref t])(_:Tab H t bs m)(_:cj m)(_:Bd 1000 m)(_:True)(_:∀H',av H H'->Q (.int (aC m)) H')
theorem t9(F:fm K mg "determinant" kj dR):dh P w K mg base cS 3 "determinant" dR zy:=by
 refine F.ok cL (λvs H Q E h=> ?_) (λf cdv A outer s H vs Q E hr h=> ?_)
 ·obtain⟨t,bs,m,rfl,hT,b8,hB,hP,q⟩:=h
  rfl
 obtain⟨t,bs,m,rfl,hT,b8,hB,hP,q⟩:=h
 have hu:=hr.units
 refine⟨_,(lY (@az _ _ _ _ _ (gp (pv 0) (iD rfl (aG (iD rfl (aG (aH (i:=1) cL.nd rfl (Or.inl rfl)) (aG (aH (i:=2) cL.nd rfl (Or.inl rfl)) (aG (aH (i:=3) cL.nd rfl (Or.inl rfl)) dO)))) (aG (iD rfl (aG (aH (i:=4) cL.nd rfl (Or.inl rfl)) (aG (aH (i:=5) cL.nd rfl (Or.inl rfl)) (aG (aH (i:=6) cL.nd rfl (Or.inl rfl)) dO)))) (aG (iD rfl (aG (aH (i:=7) cL.nd rfl (Or.inl rfl)) (aG (aH (i:=8) cL.nd rfl (Or.inl rfl)) (aG (aH (i:=9) cL.nd rfl (Or.inl rfl)) dO)))) dO)))))
  (@aN _ _ _ (aT (aq bJ (aq bJ (aq aE (pv 1) (aq dw (aq aE (pv 5) (pv 9)) (aq aE (pv 6) (pv 8)))) (aq aE (pv 2) (aq dw (aq aE (pv 6) (pv 7)) (aq aE (pv 4) (pv 9))))) (aq aE (pv 3) (aq dw (aq aE (pv 4) (pv 8)) (aq aE (pv 5) (pv 7))))))))),?_⟩
 obtain⟨c0,c1,c2,rfl,x2,y2,w2⟩:=t8 hT b8
 refine⟨_,rfl,t,_,rfl,aW.of hT.1,rfl,_,_,rfl,c0,_,rfl,aW.of x2,rfl,_,_,rfl,_,_,rfl,_,_,rfl,rfl,_,_,rfl,c1,_,rfl,aW.of y2,rfl,_,_,rfl,_,_,rfl,_,_,rfl,rfl,_,_,rfl,c2,_,rfl,aW.of w2,rfl,_,_,rfl,_,_,rfl,_,_,rfl,rfl,rfl,?_⟩
 refine⟨_,rfl,_,rfl,_,rfl,_,_,rfl,rfl,⟨aI (hB 1 1 (by decide) (by decide)) (by decide),aI (hB 2 2 (by decide) (by decide)) (by decide)⟩,_,rfl,_,rfl,_,_,rfl,rfl,⟨aI (hB 1 2 (by decide) (by decide)) (by decide),aI (hB 2 1 (by decide) (by decide)) (by decide)⟩,_,_,rfl,rfl,_,_,rfl,rfl,⟨aI (hB 0 0 (by decide) (by decide)) (by decide),aI (kg (cD (hB 1 1 (by decide) (by decide)) (hB 2 2 (by decide) (by decide))) (cD (hB 1 2 (by decide) (by decide)) (hB 2 1 (by decide) (by decide)))) (by decide)⟩,_,rfl,_,rfl,_,rfl,_,_,rfl,rfl,⟨aI (hB 1 2 (by decide) (by decide)) (by decide),aI (hB 2 0 (by decide) (by decide)) (by decide)⟩,_,rfl,_,rfl,_,_,rfl,rfl,⟨aI (hB 1 0 (by decide) (by decide)) (by decide),aI (hB 2 2 (by decide) (by decide)) (by decide)⟩,_,_,rfl,rfl,_,_,rfl,rfl,⟨aI (hB 0 1 (by decide) (by decide)) (by decide),aI (kg (cD (hB 1 2 (by decide) (by decide)) (hB 2 0 (by decide) (by decide))) (cD (hB 1 0 (by decide) (by decide)) (hB 2 2 (by decide) (by decide)))) (by decide)⟩,_,_,rfl,rfl,_,rfl,_,rfl,_,rfl,_,_,rfl,rfl,⟨aI (hB 1 0 (by decide) (by decide)) (by decide),aI (hB 2 1 (by decide) (by decide)) (by decide)⟩,_,rfl,_,rfl,_,_,rfl,rfl,⟨aI (hB 1 1 (by decide) (by decide)) (by decide),aI (hB 2 0 (by decide) (by decide)) (by decide)⟩,_,_,rfl,rfl,_,_,rfl,rfl,⟨aI (hB 0 2 (by decide) (by decide)) (by decide),aI (kg (cD (hB 1 0 (by decide) (by decide)) (hB 2 1 (by decide) (by decide))) (cD (hB 1 1 (by decide) (by decide)) (hB 2 0 (by decide) (by decide)))) (by decide)⟩,_,_,rfl,rfl,?_⟩
 have e:ent m 0 0*(ent m 1 1*ent m 2 2-ent m 1 2*ent m 2 1)+ent m 0 1*(ent m 1 2*ent m 2 0-ent m 1 0*ent m 2 2)+ent m 0 2*(ent m 1 0*ent m 2 1-ent m 1 1*ent m 2 0)=aC m:=by
  rw[dF]
 have q:=q H (av.refl _)
 rw[<-e]at q
 exact q
inductive CY(vs:List V)(H:Hp)(Q:VK)(E:XK):Prop
 |mk(t1:Addr)(b1:List Addr)(m1:List (List Int))(_:vs=[.ref t1])(_:Tab H t1 b1 m1)(_:cj m1)(_:Bd 4096 m1)(_:∀r bs H',av H H'->H r=none->(∀b∈bs,H b=none) ->r∉bs->Tab H' r bs (mC m1) ->Q (.ref r) H')
theorem Hl(F:fm K mg "cover" xQ pI)(aY:mg "range"=none)(jM:dh P w K mg base cS 1 "signed_minor" fU (r8 K)):dh P w K mg base cS 2 "cover" pI CY:=by
 refine F.ok Hg (λvs H Q E h=> ?_) (λf cdv A outer s H vs Q E hr h=> ?_)
 ·obtain⟨t1,b1,m1,rfl,h1,c1,d1,q⟩:=h
  rfl
 obtain⟨t1,b1,m1,rfl,h1,c1,d1,q⟩:=h
 have hu:=hr.units
 refine⟨_,(cX (aT (kc (N2:=["table"]) (te:=(nk 1 (vK (cJ (tC (.int 3)) jj)) (cO 0) (kI (r8 K) [] E0 (cJ (bK 2) (cJ (bK 0) (cJ (bK 1) jj)))))) rfl (cY rfl aY (af ah ak)) (by kernel_rfl) rfl (λ_ _ _=>by exact jT (kc (N2:=["i","table"]) (te:=(kI (r8 K) [] E0 (cJ (bK 2) (cJ (bK 0) (cJ (bK 1) jj))))) rfl (cY rfl aY (af ah ak)) (by kernel_rfl) rfl (λ_ _ _=>by exact jT (aM jM hr rfl aL (af (pv 2) (af (pv 0) (af (pv 1) ak)))))))))),?_⟩
 refine⟨3,rfl,by decide,by decide,λD hD=>xw (gE (n:=3)) rfl hD (λi j=>gX m1 j i) (λi x hi ex H1 Q1 s1 k1=> ?_) (λbs H1 s1 fr nD hT=>q D bs H1 s1 hD fr nD hT)⟩
 obtain⟨_,rfl⟩:=f6 ex
 refine⟨3,rfl,by decide,by decide,λD2 Hj=>oY (gE (n:=3)) rfl Hj (λj=>gX m1 j i) (λj x hj Mr H2 Q2 s2 k2=> ?_) (λH2 s2 e2=>k1 D2 H2 Hj s2 e2)⟩
 obtain⟨_,rfl⟩:=f6 Mr
 exact⟨_,rfl,_,rfl,_,rfl,t1,b1,m1,j,i,rfl,h1.same (s1.trans s2),c1,hj,hi,d1,k2 H2 (av.refl _)⟩
inductive qv(T0:Addr)(vs:List V)(H:Hp)(Q:VK)(E:XK):Prop
 |mk(t1:Addr)(b1:List Addr)(m1:List (List Int))(t2:Addr)(b2:List Addr)(m2:List (List Int))(_:vs=[.ref t1,.ref t2])(_:Tab H t1 b1 m1)(_:Tab H t2 b2 m2)(_:cj m1)(_:cj m2)(_:Bd 1000 m1)(_:Bd 1000 m2)(_:H T0=some (dW T0))(_:∀r bs H',av H H'->H r=none->(∀b∈bs,H b=none) ->r∉bs->Tab H' r bs (gF (gF m2 m1) (cU m2)) ->Q (.ref r) H')
theorem Bl{bI:Addr}(F:fm K mg "carried" qi jt)(iz:dh P w K mg base cS 1 "product" jr (Bg bI))(fL:dh P w K mg base cS 1 "turned_over" fJ Bj):dh P w K mg base cS 2 "carried" jt (qv bI):=by
 refine F.ok AZ (λvs H Q E h=> ?_) (λf cdv A outer s H vs Q E hr h=> ?_)
 ·obtain⟨t1,b1,m1,t2,b2,m2,rfl,h1,h2,c1,c2,d1,d2,hP,q⟩:=h
  rfl
 obtain⟨t1,b1,m1,t2,b2,m2,rfl,h1,h2,c1,c2,d1,d2,hP,q⟩:=h
 have hu:=hr.units
 refine⟨_,(cX (aT (aM iz hr rfl aL (af (aM iz hr rfl aL (af (pv 1) (af (pv 0) ak))) (af (aM fL hr rfl aL (af (pv 1) ak)) ak))))),?_⟩
 refine⟨_,rfl,_,rfl,t2,b2,m2,t1,b1,m1,rfl,h2,h1,c2,c1,d2.mono (by decide),d1.mono (by decide),hP,λr rs H1 s1 fr frs nr hr=> ?_⟩
 refine⟨_,rfl,t2,b2,m2,rfl,h2.same s1,c2,λo os H2 s2 fo Wb no ho=> ?_⟩
 refine⟨r,rs,_,o,os,_,rfl,hr.same s2,ho,cG _,cG _,(r6 d2 d1).mono (by decide),(yT d2).mono (by decide),s2 _ _ (s1 _ _ hP),λu us H3 s3 fu Rv nu MZ=> ?_⟩
 have sm:=s1.trans s2
 exact q u us H3 (sm.trans s3) (sm.none fu) (λb hb=>sm.none (Rv b hb)) nu MZ
inductive KP(vs:List V)(H:Hp)(Q:VK)(E:XK):Prop
 |mk(t:Addr)(bs:List Addr)(m:List (List Int))(_:vs=[.ref t])(_:Tab H t bs m)(_:cj m)(_:Bd 440 m)(_:cU m=m)(_:True)(_:cu m=true-> ∀H',av H H'->Q .fZ H')(_:cu m=false-> ∀(x:Nat->Int) a H',av H H'->H a=none->bh H' a x-> ¬(x 0=0/\x 1=0/\x 2=0) ->ay m x x<=0->(∀i,i<3->(x i).natAbs<2^1000) ->Q (.ref a) H')
theorem Bm(F:fm K mg "low_row" qm kR)(cy:dh P w K mg base cS 3 "determinant" dR zy)(xU:dh P w K mg base cS 3 "cover" pI CY):dh P w K mg base cS 4 "low_row" kR KP:=by
 refine F.ok nW (λvs H Q E h=> ?_) (λf cdv A outer s H vs Q E hr h=> ?_)
 ·obtain⟨t,bs,m,rfl,hT,b8,hB,hS,hP,q1,q2⟩:=h
  rfl
 obtain⟨t,bs,m,rfl,hT,b8,hB,hS,hP,q1,q2⟩:=h
 have hu:=hr.units
 refine⟨_,(lY (@az _ _ _ _ _ (aU (i:=1) nW.nd rfl (Or.inl rfl) (aJ aA (aJ aA (pv 0) ah (λ_ _=>rfl)) ah (λ_ _=>rfl)))
  (@az _ _ _ _ _ (dI (cB Co (pv 1) ah (cz _)) (Gq (ig (aZ cW (aZ cW (aZ cW ie (by kernel_rfl)) (by kernel_rfl)) (by kernel_rfl)))) dH)
  (@az _ _ _ _ _ (aU (i:=2) nW.nd rfl (Or.inl rfl) (aJ aA (aJ aA (pv 0) ah (λ_ _=>rfl)) ah (λ_ _=>rfl)))
  (@az _ _ _ _ _ (dI (cB Co (aq dw (aq aE (pv 1) (aJ aA (aJ aA (pv 0) ah (λ_ _=>rfl)) ah (λ_ _=>rfl))) (aq aE (pv 2) (pv 2))) ah (cz _)) (@aN _ _ _ (aT (dG (af (yF sO (pv 2)) (af (pv 1) (af ah ak)))))) dH)
  (@az _ _ _ _ _ (dI (cB Co (aM cy hr rfl aL (af (pv 0) ak)) ah (cz _)) (@aN _ _ _ (aT (aJ aA (aM xU hr rfl aL (af (pv 0) ak)) ah (λ_ _=>rfl)))) dH)
  (@aN _ _ _ (aT p5)))))))),?_⟩
 obtain⟨c0,x1,x2,_⟩:=bf hT b8 (i:=0) (by decide)
 obtain⟨c1,y1,y2,_⟩:=bf hT b8 (i:=1) (by decide)
 obtain⟨c2,w1,w2,_⟩:=bf hT b8 (i:=2) (by decide)
 have b0:=hB 0 0 (by decide) (by decide)
 have b1:=hB 0 1 (by decide) (by decide)
 refine⟨_,rfl,t,_,_,_,rfl,rfl,aW.of hT.1,x1,c0,_,_,_,rfl,rfl,aW.of x2,rfl,?_⟩
 refine⟨_,rfl,_,_,rfl,rfl,_,rfl,lW (λc=> ?_) (λc=> ?_)⟩
 ·have c:ent m 0 0<=0:=of_decide_eq_true c
  have ab:cu m=false:=by
   unfold cu
   rw[decide_eq_false (by omega),Bool.false_and]
  refine⟨(by show 3<=sizeLine;decide),λr hr=> ?_⟩
  refine q2 ab (λi=>if i=0 then 1 else 0) r _ (av.up hr) hr ao (λz=>by simp at z) (by rw[Ou];exact c) (λi _=> ?_)
  show(if i=0 then(1:Int)else 0).natAbs<_
  exact aI (a:=1) (by split<;>decide) (by decide)
 have c:0<ent m 0 0:=by
  have:¬ent m 0 0<=0:=λz=>c (decide_eq_true z)
  omega
 refine⟨_,rfl,t,_,_,_,rfl,rfl,aW.of hT.1,x1,c0,_,_,_,rfl,rfl,aW.of x2,rfl,?_⟩
 refine⟨_,rfl,_,rfl,t,_,_,_,rfl,rfl,aW.of hT.1,y1,c1,_,_,_,rfl,rfl,aW.of y2,rfl,_,_,rfl,rfl,⟨aI (hB 0 0 (by decide) (by decide)) (by decide),aI (hB 1 1 (by decide) (by decide)) (by decide)⟩,_,rfl,_,rfl,_,_,rfl,rfl,⟨aI (hB 0 1 (by decide) (by decide)) (by decide),aI (hB 0 1 (by decide) (by decide)) (by decide)⟩,_,_,rfl,rfl,_,_,rfl,rfl,_,rfl,lW (λd=> ?_) (λd=> ?_)⟩
 ·have d:ent m 0 0*ent m 1 1-ent m 0 1*ent m 0 1<=0:=of_decide_eq_true d
  have ab:cu m=false:=by
   unfold cu
   rw[decide_eq_false (p:=ent m 0 1*ent m 0 1<ent m 0 0*ent m 1 1) (by omega),Bool.false_and,Bool.and_false]
  refine⟨_,rfl,_,rfl,_,rfl,(by show 3<=sizeLine;decide),λr hr=> ?_⟩
  refine q2 ab (λi=>match i with|0=> -ent m 0 1|1=>ent m 0 0|_=>0) r _ (av.up hr) hr ao (λz=>by have y:ent m 0 0=0:=z.2.1;omega) ?_ (λi hi=> ?_)
  ·rw[Ov hS _ rfl rfl rfl]
   exact Int.mul_nonpos_of_nonneg_of_nonpos (by omega) d
  ·rcases bH hi with rfl|rfl|rfl
   ·show(-ent m 0 1).natAbs<_
    exact aI (a:=440) (by omega) (by decide)
   ·exact aI b0 (by decide)
   ·show(0:Int).natAbs<_
    exact Nat.two_pow_pos _
 have d:0<ent m 0 0*ent m 1 1-ent m 0 1*ent m 0 1:=by
  have:¬ent m 0 0*ent m 1 1-ent m 0 1*ent m 0 1<=0:=λz=>d (decide_eq_true z)
  omega
 refine⟨_,rfl,t,bs,m,rfl,hT,b8,hB.mono (by decide),hP,λH1 s1=>⟨_,_,rfl,rfl,_,rfl,lW (λe=> ?_) (λe=> ?_)⟩⟩
 ·have e:aC m<=0:=of_decide_eq_true e
  have ab:cu m=false:=by
   unfold cu
   rw[decide_eq_false (p:=0<aC m) (by omega),Bool.and_false,Bool.and_false]
  refine⟨_,rfl,t,bs,m,rfl,hT.same s1,b8,hB.mono (by decide),λr rs H2 s2 fr frs nr T2=> ?_⟩
  obtain⟨k,k1,k2,k3⟩:=bf T2 (cG _) (i:=2) (by decide)
  refine⟨r,_,_,_,rfl,rfl,aW.of T2.1,k1,?_⟩
  have SG:0<ent (mC m) 2 2:=by
   rw[KH,iE hS (i:=0) (j:=1) (by decide) (by decide)]
   exact d
  refine q2 ab (λj=>ent (mC m) 2 j) k H2 (s1.trans s2) (s1.none (frs k k3)) k2 (λz=>by have y:ent (mC m) 2 2=0:=z.2.2;omega) ?_ (λj hj=> ?_)
  ·rw[Ow]
   exact Int.mul_nonpos_of_nonpos_of_nonneg e (by omega)
  ·show(ent (mC m) 2 j).natAbs<_
   rw[mD m (by decide) hj]
   exact aI (CC hB j 2) (by decide)
 ·have e:0<aC m:=by
   have:¬aC m<=0:=λz=>e (decide_eq_true z)
   omega
  refine q1 ?_ H1 s1
  unfold cu
  rw[decide_eq_true c,decide_eq_true e,decide_eq_true (p:=ent m 0 1*ent m 0 1<ent m 0 0*ent m 1 1) (by omega)]
  rfl
inductive qw(vs:List V)(H:Hp)(Q:VK)(E:XK):Prop
 |mk(z:Int)(_:vs=[.int z])(_:Q (.bl true) H)
theorem zA(F:fm K mg "is_whole" nT jD)(bE:mg "isinstance"=none)(pN:mg "int"=none)(qx:mg "bool"=none):dh P w K mg base cS 1 "is_whole" jD qw:=by
 refine F.ok zu (λvs H Q E h=> ?_) (λf cdv A outer s H vs Q E hr h=> ?_)
 ·obtain⟨z,rfl,q⟩:=h
  rfl
 obtain⟨z,rfl,q⟩:=h
 have hu:=hr.units
 refine⟨_,(cX (aT (sE (cF eT rfl bE PyProof.Rows.boot_isinstance (af (pv 0) (af (jU (v:= .ty "int") rfl pN PyProof.Rows.boot_int rfl) ak))) (sy (Li (cF eT rfl bE PyProof.Rows.boot_isinstance (af (pv 0) (af (jU (v:= .ty "bool") rfl qx PyProof.Rows.boot_bool rfl) ak)))))))),?_⟩
 exact⟨_,rfl,_,_,_,_,rfl,.int _,kM K "int",_,rfl,sW ⟨_,rfl,_,_,_,_,rfl,.int _,oX K,_,rfl,q⟩⟩
inductive xV(T0:Addr)(vs:List V)(H:Hp)(Q:VK)(E:XK):Prop
 |mk(b:Addr)(x:Nat->Int)(_:vs=[.ref b])(_:bh H b x)(_:H T0=some (dW T0))(_:∀H',av H H'->Q (.bl true) H')
theorem El{bL:Addr}(F:pH K mg "is_row" tV mL bL)(bm:BM mg base)(bE:mg "isinstance"=none)(iA:mg "list"=none)(gO:mg "len"=none)(pO:mg "all"=none)(n9:dh P w K mg base cS 1 "is_whole" jD qw):dh P w K mg base cS 3 "is_row" mL (xV bL):=by
 refine F.ok Ek (λvs H Q E h=> ?_) (λf cdv A outer s H vs Q E cd hr h=> ?_)
 ·obtain⟨b,x,rfl,hx,hP,q⟩:=h
  rfl
 obtain⟨b,x,rfl,hx,hP,q⟩:=h
 have hu:=hr.units
 refine⟨_,(lY (@az _ _ _ _ _ (dI (PW.pt (qW (l6 (gY (cF eT rfl bE PyProof.Rows.boot_isinstance (af (pv 0) (af (jU (v:= .ty "list") rfl iA PyProof.Rows.boot_list rfl) ak))))) (nE (cB Cn (cF eX rfl gO PySem.boot_len (af (pv 0) ak)) ah (cz _))))) (@aN _ _ _ (aT lZ)) dH)
  (@aN _ _ _ (aT (xu (N2:=["thing"]) (te:=(kI qw [] E0 (cJ (bK 0) jj))) rfl (fj.depth hr) cd bm rfl pO (eW (pv 0)) (by kernel_rfl) (λ_ _ _ _=>by exact jT (aM n9 (yS hr) rfl aL (af (pv 0) ak)))))))),?_⟩
 refine⟨_,rfl,_,_,_,_,rfl,.lst hx,kM K "list",_,rfl,nF ⟨_,rfl,b,_,rfl,.inl (aW.of hx),rfl,_,rfl,sX rfl ?_⟩⟩
 refine⟨_,rfl,b,rfl,⟨_,aW.of hx⟩,Az (jX (aW.of hx)) hP (λ_=>true) (λj y ey H1 Q1 s1 k1=> ?_) (λc H1 s1 hc=> ?_)⟩
 ·obtain⟨z,rfl⟩:∃z,y= .int z:=by
   have hy:=List.mem_of_getElem? ey
   simp only[List.mem_cons,List.not_mem_nil,or_false]at hy
   rcases hy with rfl|rfl|rfl<;>exact⟨_,rfl⟩
  exact⟨_,rfl,z,rfl,k1 H1 (av.refl _)⟩
 ·have e:c=true:=hc.mpr λ_ _=>rfl
  subst e
  exact q H1 s1
inductive wF(T1 T0:Addr)(vs:List V)(H:Hp)(Q:VK)(E:XK):Prop
 |mk(t:Addr)(bs:List Addr)(m:List (List Int))(_:vs=[.ref t])(_:Tab H t bs m)(_:cj m)(_:H T1=some (dW T1))(_:H T0=some (dW T0))(_:∀H',av H H'->Q (.bl true) H')
theorem zB{bL br:Addr}(F:pH K mg "is_table" nU jE br)(bm:BM mg base)(bE:mg "isinstance"=none)(iA:mg "list"=none)(gO:mg "len"=none)(pO:mg "all"=none)(uc:dh P w K mg base cS 3 "is_row" mL (xV bL)):dh P w K mg base cS 5 "is_table" jE (wF bL br):=by
 refine F.ok zv (λvs H Q E h=> ?_) (λf cdv A outer s H vs Q E cd hr h=> ?_)
 ·obtain⟨t,bs,m,rfl,hT,b8,hR,hP,q⟩:=h
  rfl
 obtain⟨t,bs,m,rfl,hT,b8,hR,hP,q⟩:=h
 have hu:=hr.units
 refine⟨_,(lY (@az _ _ _ _ _ (dI (PW.pt (qW (l6 (gY (cF eT rfl bE PyProof.Rows.boot_isinstance (af (pv 0) (af (jU (v:= .ty "list") rfl iA PyProof.Rows.boot_list rfl) ak))))) (nE (cB Cn (cF eX rfl gO PySem.boot_len (af (pv 0) ak)) ah (cz _))))) (@aN _ _ _ (aT lZ)) dH)
  (@aN _ _ _ (aT (xu (N2:=["thing"]) (te:=(kI (xV bL) [] E0 (cJ (bK 0) jj))) rfl (fj.depth hr) cd bm rfl pO (eW (pv 0)) (by kernel_rfl) (λ_ _ _ _=>by exact jT (aM uc (yS hr) rfl aL (af (pv 0) ak)))))))),?_⟩
 have l3:(bs.map V.ref).length=3:=by rw[List.length_map,<-hT.2.length,b8.1]
 refine⟨_,rfl,_,_,_,_,rfl,.lst hT.1,kM K "list",_,rfl,nF ⟨_,rfl,t,_,rfl,.inl (aW.of hT.1),rfl,_,rfl,sX (by rw[l3];rfl) ?_⟩⟩
 refine⟨_,rfl,t,rfl,⟨_,aW.of hT.1⟩,Az (jX (aW.of hT.1)) hP (λ_=>true) (λj y ey H1 Q1 s1 k1=> ?_) (λc H1 s1 hc=> ?_)⟩
 ·have hj:j<3:=by
   have:=(List.getElem?_eq_some_iff.mp ey).1
   rw[l3]at this
   exact this
  obtain⟨b,e1,e2,_⟩:=bf (hT.same s1) b8 hj
  have ex':y= .ref b:=by
   have q1:=gz ey
   rw[e1]at q1
   exact(Option.some.inj q1).symm
  subst ex'
  exact⟨_,rfl,b,λc=>ent m j c,rfl,e2,s1 _ _ hR,k1⟩
 ·have e:c=true:=hc.mpr λ_ _=>rfl
  subst e
  exact q H1 s1
inductive zC(T1 T2 T0:Addr)(vs:List V)(H:Hp)(Q:VK)(E:XK):Prop
 |mk(t:Addr)(bs:List Addr)(m:List (List Int))(_:vs=[.ref t])(_:Tab H t bs m)(_:cj m)(_:cH m)(_:H T1=some (dW T1))(_:H T2=some (dW T2))(_:H T0=some (dW T0))(_:∀H',av H H'->Q (.bl true) H')
theorem qy{bL br aK:Addr}(F:pH K mg "is_even_table" iR fz aK)(bm:BM mg base)(pO:mg "all"=none)(aY:mg "range"=none)(oh:dh P w K mg base cS 6 "is_table" jE (wF bL br))(fL:dh P w K mg base cS 6 "turned_over" fJ Bj):dh P w K mg base cS 7 "is_even_table" fz (zC bL br aK):=by
 refine F.ok qj (λvs H Q E h=> ?_) (λf cdv A outer s H vs Q E cd hr h=> ?_)
 ·obtain⟨t,bs,m,rfl,hT,b8,ev,hR,hU,hP,q⟩:=h
  rfl
 obtain⟨t,bs,m,rfl,hT,b8,ev,hR,hU,hP,q⟩:=h
 have hu:=hr.units
 refine⟨_,(lY (@az _ _ _ _ _ (dI (l6 (gY (aM oh hr rfl aL (af (pv 0) ak)))) (@aN _ _ _ (aT lZ)) dH)
  (@aN _ _ _ (aT (sE (jW (LM hu) (pv 0) (aM fL hr rfl aL (af (pv 0) ak)) (cz _)) (sy (xu (N2:=["thing"]) (te:=(jV Sk (jV (rI (λ_ j=>0<j) λi j=> .int (i%j)) (jV (jk K) (jV (jk K) (bK 1) (bK 0)) (bK 0)) (tC (.int 2))) (tC (.int 0)))) rfl (fj.depth hr) cd bm rfl pO (cY rfl aY (af ah ak)) (by kernel_rfl) (λ_ _ _ _=>by exact jT (jW vN (aq g7 (aJ aA (aJ aA (pv 1) (pv 0) (λ_ _=>rfl)) (pv 0) (λ_ _=>rfl)) ah) ah (cz _)))))))))),?_⟩
 refine⟨_,rfl,t,bs,m,rfl,hT,b8,hR,hU,λH1 s1=>⟨_,rfl,nF ?_⟩⟩
 refine⟨_,rfl,_,rfl,t,bs,m,rfl,hT.same s1,b8,λr rs H2 s2 fr frs nr Tr=> ?_⟩
 rw[eL ev b8]at Tr
 refine Je (Aw m) (CA ((hT.same s1).same s2)) (CA Tr) (nK m) ⟨_,rfl,sW ?_⟩
 have s12:=s1.trans s2
 refine⟨3,rfl,by decide,by decide,Az (gE (n:=3)) (s12 _ _ hP) (λ_=>true) (λj y ey H3 Q3 s3 k3=> ?_) (λc H3 s3 hc=> ?_)⟩
 ·obtain⟨hj,rfl⟩:=f6 ey
  obtain⟨b,row,e1,e2,e3⟩:=mY (hT.same (s12.trans s3)) b8 hj hj
  refine⟨_,rfl,_,rfl,t,_,_,_,rfl,rfl,aW.of (hT.same (s12.trans s3)).1,e1,_,rfl,b,_,_,_,rfl,rfl,aW.of e2,e3,_,_,rfl,rfl,(by show(0:Int)<2;decide),rfl,?_⟩
  have e:ent m j j%2=0:=by
   obtain⟨_,a,b,c,p1,p2,p3⟩:=ev
   rcases bH hj with rfl|rfl|rfl<;>omega
  rw[decide_eq_true (congrArg V.int e)]
  exact k3 H3 (av.refl _)
 ·have e:c=true:=hc.mpr λ_ _=>rfl
  subst e
  exact q H3 (s12.trans s3)
inductive zD(T1 T2 T3:Addr)(vs:List V)(H:Hp)(Q:VK)(E:XK):Prop
 |mk(t:Addr)(bs:List Addr)(m:List (List Int))(_:vs=[.ref t])(_:Tab H t bs m)(_:cj m)(_:Bd 440 m)(_:cH m)(_:cu m=true)(_:H T1=some (dW T1))(_:H T2=some (dW T2))(_:H T3=some (dW T3))(_:True)(_:∀H',av H H'->Q (.bl true) H')
theorem Bo{bL br aK:Addr}(F:fm K mg "is_form" qk kQ)(iV:dh P w K mg base cS 7 "is_even_table" fz (zC bL br aK))(qz:dh P w K mg base cS 7 "low_row" kR KP):dh P w K mg base cS 8 "is_form" kQ (zD bL br aK):=by
 refine F.ok Ba (λvs H Q E h=> ?_) (λf cdv A outer s H vs Q E hr h=> ?_)
 ·obtain⟨t,bs,m,rfl,hT,b8,hB,ev,ab,h1,h2,h3,h4,q⟩:=h
  rfl
 obtain⟨t,bs,m,rfl,hT,b8,hB,ev,ab,h1,h2,h3,h4,q⟩:=h
 have hu:=hr.units
 refine⟨_,(cX (aT (sE (aM iV hr rfl aL (af (pv 0) ak)) (sy (jW Fo (aM qz hr rfl aL (af (pv 0) ak)) p5 (cz _)))))),?_⟩
 refine⟨_,rfl,t,bs,m,rfl,hT,b8,ev,h1,h2,h3,λH1 s1=>⟨_,rfl,sW ?_⟩⟩
 exact⟨_,rfl,t,bs,m,rfl,hT.same s1,b8,hB,eL ev b8,trivial,λ_ H2 s2=>⟨rfl,q H2 (s1.trans s2)⟩,λVe=>absurd Ve (by rw[ab];decide)⟩
inductive Ho(T1 T2 T3:Addr)(vs:List V)(H:Hp)(Q:VK)(E:XK):Prop
 |mk(t:Addr)(bs:List Addr)(m:List (List Int))(_:vs=[.ref t])(_:Tab H t bs m)(_:cj m)(_:Bd 440 m)(_:cH m)(_:cu m=true)(_:aC m/2<=200)(_:H T1=some (dW T1))(_:H T2=some (dW T2))(_:H T3=some (dW T3))(_:True)(_:∀H',av H H'->Q (.int (aC m/2)) H')
theorem JM{bL br aK:Addr}(F:fm K mg "half" Bb tX){iW:_}(iX:mg "GREATEST_HALF"=some (Value.int 200 iW))(qA:dh P w K mg base cS 8 "is_form" kQ (zD bL br aK))(cy:dh P w K mg base cS 8 "determinant" dR zy):dh P w K mg base cS 9 "half" tX (Ho bL br aK):=by
 refine F.ok CV (λvs H Q E h=> ?_) (λf cdv A outer s H vs Q E hr h=> ?_)
 ·obtain⟨t,bs,m,rfl,hT,b8,hB,ev,ab,le,h1,h2,h3,h4,q⟩:=h
  rfl
 obtain⟨t,bs,m,rfl,hT,b8,hB,ev,ab,le,h1,h2,h3,h4,q⟩:=h
 have hu:=hr.units
 refine⟨_,(lY (@az _ _ _ _ _ (dI (l6 (gY (aM qA hr rfl aL (af (pv 0) ak)))) (@aN _ _ _ yz) dH)
  (@az _ _ _ _ _ (aU (i:=1) CV.nd rfl (Or.inl rfl) (aq eH (aM cy hr rfl aL (af (pv 0) ak)) ah))
  (@az _ _ _ _ _ (dI (cB qX (pv 1) (Ip (v:= .int 200) rfl iX ⟨_,rfl⟩) (cz _)) (@aN _ _ _ yz) dH)
  (@aN _ _ _ (aT (pv 1))))))),?_⟩
 refine⟨_,rfl,t,bs,m,rfl,hT,b8,hB,ev,ab,h1,h2,h3,h4,λH1 s1=>⟨_,rfl,nF ?_⟩⟩
 refine⟨_,rfl,t,bs,m,rfl,hT.same s1,b8,hB.mono (by decide),trivial,λH2 s2=>⟨_,_,rfl,rfl,⟨by decide,by decide⟩,?_⟩⟩
 refine⟨_,rfl,_,_,rfl,rfl,_,rfl,lW (λc=> ?_) (λ_=>⟨_,rfl,q H2 (s1.trans s2)⟩)⟩
 have c:(200:Int)<aC m/2:=of_decide_eq_true c
 omega
theorem Em{H:Hp}{t:Addr}{bs:List Addr}{m:List (List Int)}(hT:Tab H t bs m)(b8:cj m):∃c0 c1 c2,bs=[c0,c1,c2]/\bh H c0 (λc=>ent m 0 c)/\bh H c1 (λc=>ent m 1 c)/\bh H c2 (λc=>ent m 2 c):=by
 have l3:bs.length=3:=by rw[<-hT.2.length,b8.1]
 match bs,l3,hT with
 | [c0,c1,c2],_,hT=>
  obtain⟨b0,x1,x2,_⟩:=bf hT b8 (i:=0) (by decide)
  obtain⟨b1,y1,y2,_⟩:=bf hT b8 (i:=1) (by decide)
  obtain⟨b2,w1,w2,_⟩:=bf hT b8 (i:=2) (by decide)
  cases x1;cases y1;cases w1
  exact⟨c0,c1,c2,rfl,x2,y2,w2⟩
inductive om(T0:Addr)(vs:List V)(H:Hp)(Q:VK)(E:XK):Prop
 |mk(t:Addr)(bs:List Addr)(m:List (List Int))(a b:Addr)(x y:Nat->Int)(_:vs=[.ref t,.ref a,.ref b])(_:Tab H t bs m)(_:cj m)(_:Bd 1000 m)(_:bh H a x)(_:bh H b y)(_:∀i,i<3->(x i).natAbs<2^1000)(_:∀i,i<3->(y i).natAbs<2^1000)(_:H T0=some (dW T0))(_:∀H',av H H'->Q (.int (ay m x y)) H')
theorem Bq{aF:Addr}(F:pH K mg "pairing" ql f7 aF)(bm:BM mg base)(wD:mg "sum"=none)(pP:mg "zip"=none):dh P w K mg base cS 1 "pairing" f7 (om aF):=by
 refine F.ok lz (λvs H Q E h=> ?_) (λf cdv A outer s H vs Q E cd hr h=> ?_)
 ·obtain⟨t,bs,m,a,b,x,y,rfl,hT,b8,hB,hx,hy,bx,bY,hP,q⟩:=h
  rfl
 obtain⟨t,bs,m,a,b,x,y,rfl,hT,b8,hB,hx,hy,bx,bY,hP,q⟩:=h
 have hu:=hr.units
 refine⟨_,(lY (@az _ _ _ _ _ (gp (pv 2) (iD rfl (aG (aH (i:=3) lz.nd rfl (Or.inr rfl)) (aG (aH (i:=4) lz.nd rfl (Or.inr rfl)) (aG (aH (i:=5) lz.nd rfl (Or.inr rfl)) dO)))))
  (@aN _ _ _ (aT (Jk (N2:=["table","one","other","x","y","z"]) (te:=(jV (rI lU λi j=> .int (i*j)) (bK 0) (jV (Dp λi j=> .int (i+j)) (jV (Dp λi j=> .int (i+j)) (jV (rI lU λi j=> .int (i*j)) (jV (jk K) (bK 1) (tC (.int 0))) (bK 5)) (jV (rI lU λi j=> .int (i*j)) (jV (jk K) (bK 1) (tC (.int 1))) (bK 6))) (jV (rI lU λi j=> .int (i*j)) (jV (jk K) (bK 1) (tC (.int 2))) (bK 7))))) rfl (fj.depth hr) cd bm rfl wD (AA rfl pP (af (pv 1) (af (pv 0) ak))) (by kernel_rfl) (λ_ _ _ _=>by exact jT (aq aE (pv 0) (aq bJ (aq bJ (aq aE (aJ aA (pv 1) ah (λ_ _=>rfl)) (pv 5)) (aq aE (aJ aA (pv 1) ah (λ_ _=>rfl)) (pv 6))) (aq aE (aJ aA (pv 1) ah (λ_ _=>rfl)) (pv 7)))))))))),?_⟩
 obtain⟨c0,c1,c2,rfl,x2,y2,w2⟩:=Em hT b8
 refine⟨_,rfl,b,_,rfl,aW.of hy,rfl,_,_,rfl,_,_,rfl,_,_,rfl,rfl,?_⟩
 refine⟨_,rfl,_,rfl,a,t,_,_,rfl,aW.of hx,aW.of hT.1,Jm (aW.of hx) (aW.of hT.1) rfl hP (λi=>x i*(ent m i 0*y 0+ent m i 1*y 1+ent m i 2*y 2)) (λi u v eu ev H' Q' sm k=> ?_) (λH' sm=> ?_)⟩
 ·have hi:i<3:=(List.getElem?_eq_some_iff.mp eu).1
  obtain⟨c,e1,e2,_⟩:=bf (hT.same sm) b8 hi
  have Rw:u= .int (x i):=by
   rcases bH hi with rfl|rfl|rfl<;>exact(Option.some.inj eu).symm
  have ev':v= .ref c:=by
   have q1:=gz ev
   rw[e1]at q1
   exact(Option.some.inj q1).symm
  subst Rw ev'
  have b0:=cD (hB i 0 hi (by decide)) (bY 0 (by decide))
  have b1:=cD (hB i 1 hi (by decide)) (bY 1 (by decide))
  have b2:=cD (hB i 2 hi (by decide)) (bY 2 (by decide))
  have bs:=k9 (k9 b0 b1) (aI b2 (by decide))
  exact⟨_,rfl,_,rfl,c,_,_,_,rfl,rfl,aW.of e2,rfl,_,rfl,_,_,rfl,rfl,⟨aI (hB i 0 hi (by decide)) (by decide),aI (bY 0 (by decide)) (by decide)⟩,_,rfl,c,_,_,_,rfl,rfl,aW.of e2,rfl,_,rfl,_,_,rfl,rfl,⟨aI (hB i 1 hi (by decide)) (by decide),aI (bY 1 (by decide)) (by decide)⟩,_,_,rfl,rfl,_,rfl,c,_,_,_,rfl,rfl,aW.of e2,rfl,_,rfl,_,_,rfl,rfl,⟨aI (hB i 2 hi (by decide)) (by decide),aI (bY 2 (by decide)) (by decide)⟩,_,_,rfl,rfl,_,_,rfl,rfl,⟨aI (bx i hi) (by decide),aI bs (by decide)⟩,k H' (av.refl _)⟩
 ·have e:PySem.preSum (λi=>x i*(ent m i 0*y 0+ent m i 1*y 1+ent m i 2*y 2)) 3=ay m x y:=by
   rw[bC]
   show 0+x 0*(ent m 0 0*y 0+ent m 0 1*y 1+ent m 0 2*y 2)+x 1*(ent m 1 0*y 0+ent m 1 1*y 1+ent m 1 2*y 2)+x 2*(ent m 2 0*y 0+ent m 2 1*y 1+ent m 2 2*y 2)=_
   grind
  have q:=q H' sm
  rw[<-e]at q
  exact q
inductive pQ(T0:Addr)(vs:List V)(H:Hp)(Q:VK)(E:XK):Prop
 |mk(t:Addr)(bs:List Addr)(m:List (List Int))(a:Addr)(x:Nat->Int)(_:vs=[.ref t,.ref a])(_:Tab H t bs m)(_:cj m)(_:Bd 1000 m)(_:bh H a x)(_:∀i,i<3->(x i).natAbs<2^1000)(_:H T0=some (dW T0))(_:∀H',av H H'->Q (.int (cV m x)) H')
theorem Hq{aF:Addr}(F:fm K mg "worth" xR lC)(b7:dh P w K mg base cS 1 "pairing" f7 (om aF)):dh P w K mg base cS 2 "worth" lC (pQ aF):=by
 refine F.ok Hh (λvs H Q E h=> ?_) (λf cdv A outer s H vs Q E hr h=> ?_)
 ·obtain⟨t,bs,m,a,x,rfl,hT,b8,hB,hx,bx,hP,q⟩:=h
  rfl
 obtain⟨t,bs,m,a,x,rfl,hT,b8,hB,hx,bx,hP,q⟩:=h
 have hu:=hr.units
 refine⟨_,(cX (aT (aq eH (aM b7 hr rfl aL (af (pv 0) (af (pv 1) (af (pv 1) ak)))) ah))),?_⟩
 exact⟨_,rfl,_,rfl,_,rfl,t,bs,m,a,a,x,x,rfl,hT,b8,hB,hx,hx,bx,bx,hP,λH' sm=>⟨_,_,rfl,rfl,⟨by decide,by decide⟩,q H' sm⟩⟩
inductive ud(vs:List V)(H:Hp)(Q:VK)(E:XK):Prop
 |mk(a:Addr)(y:Nat->Int)(q:Int)(b:Addr)(x:Nat->Int)(_:vs=[.ref a,.int q,.ref b])(_:bh H a y)(_:bh H b x)(_:q.natAbs<2^4096)(_:∀i,i<3->(x i).natAbs<2^4096)(_:∀r H',av H H'->H r=none->bh H' r (iJ y q x) ->Q (.ref r) H')
theorem vh(F:fm K mg "less_times" lD f9)(pP:mg "zip"=none):dh P w K mg base cS 1 "less_times" f9 ud:=by
 refine F.ok vg (λvs H Q E h=> ?_) (λf cdv A outer s H vs Q E hr h=> ?_)
 ·obtain⟨a,y,q,b,x,rfl,hy,hx,bq,bx,k⟩:=h
  rfl
 obtain⟨a,y,q,b,x,rfl,hy,hx,bq,bx,k⟩:=h
 have hu:=hr.units
 refine⟨_,(cX (aT (AB (N2:=["row","times","other"]) (te:=(jV (Dp λi j=> .int (i-j)) (bK 0) (jV (rI lU λi j=> .int (i*j)) (bK 3) (bK 1)))) rfl (AA rfl pP (af (pv 0) (af (pv 2) ak))) (by kernel_rfl) rfl (λ_ _ _=>by exact jT (aq dw (pv 0) (aq aE (pv 3) (pv 1))))))),?_⟩
 refine⟨_,rfl,_,rfl,a,b,_,_,rfl,aW.of hy,aW.of hx,λD hD=>yV (aW.of hy) (aW.of hx) rfl (by show 3<=sizeLine;decide) hD (λu v=>match u,v with| .int i,.int j=> .int (i-q*j)|_,_=> .fZ) (λn u v eu ev G Q' sm kk=> ?_) (λH5 s5 e5=>k D H5 s5 hD e5)⟩
 have hn:n<3:=(List.getElem?_eq_some_iff.mp eu).1
 have Rw:u= .int (y n):=by rcases bH hn with rfl|rfl|rfl<;>exact(Option.some.inj eu).symm
 have ev':v= .int (x n):=by rcases bH hn with rfl|rfl|rfl<;>exact(Option.some.inj ev).symm
 subst Rw ev'
 exact⟨_,rfl,_,rfl,_,rfl,_,_,rfl,rfl,⟨bq,bx n hn⟩,_,_,rfl,rfl,kk⟩
inductive KQ(vs:List V)(H:Hp)(Q:VK)(E:XK):Prop
 |mk(P A:Int)(_:vs=[.int P,.int A])(_:0<A)(_:(2*A).natAbs.log2<9000)(_:Q (.int ((2*P+A)/(2*A))) H)
theorem Br(F:fm K mg "nearest" qo kT):dh P w K mg base cS 1 "nearest" kT KQ:=by
 refine F.ok Bc (λvs H Q E h=> ?_) (λf cdv A outer s H vs Q E hr h=> ?_)
 ·obtain⟨P,A,rfl,hA,bA,q⟩:=h
  rfl
 obtain⟨P,A,rfl,hA,bA,q⟩:=h
 have hu:=hr.units
 refine⟨_,(cX (aT (aq mz (aq bJ (aq g6 ah (pv 0)) (pv 1)) (aq g6 ah (pv 1))))),?_⟩
 exact⟨_,rfl,_,_,rfl,rfl,.inl ⟨by decide,by decide⟩,_,rfl,_,_,rfl,rfl,_,rfl,_,_,rfl,rfl,.inl ⟨by decide,by decide⟩,_,_,rfl,rfl,⟨by show(0:Int)<2*A;omega,bA⟩,q⟩
inductive zE(T0:Addr)(vs:List V)(H:Hp)(Q:VK)(E:XK):Prop
 |mk(t:Addr)(bs:List Addr)(m:List (List Int))(a b:Addr)(x y:Nat->Int)(w:Int)(_:vs=[.ref t,.ref a,.ref b])(_:Tab H t bs m)(_:cj m)(_:Bd 440 m)(_:cH m)(_:cu m=true)(_:bh H a x)(_:bh H b y)(_:∃t,bQ x y t≠0)(_:aQ m x<=w)(_:aQ m y<=w)(_:w.natAbs<2^446)(_:H T0=some (dW T0))(_:∀a' b' x' y' P H',mJ m x' y'->gu m x y x' y'->aQ m x'<=w->aQ m y'<=w->av H H'->bh H' a' x'->bh H' b' y'->H' P=some (.tup [.ref a',.ref b']) ->Q (.ref P) H')
theorem vj{aF:Addr}(F:fm K mg "least_pair" lE gI)(eY:dh P w K mg base cS 3 "less_times" f9 ud)(qB:dh P w K mg base cS 3 "nearest" kT KQ)(b7:dh P w K mg base cS 3 "pairing" f7 (om aF))(gP:dh P w K mg base cS 3 "worth" lC (pQ aF)):dh P w K mg base cS 4 "least_pair" gI (zE aF):=by
 refine F.ok ko (λvs H Q E h=> ?_) (λf cdv A outer s H vs Q E hr h=> ?_)
 ·obtain⟨t,bs,m,a,b,x,y,w,rfl,hT,b8,hB,ev,ab,hx,hy,⟨t0,ind⟩,wx,wy,bw,hP,q⟩:=h
  rfl
 obtain⟨t,bs,m,a,b,x,y,w,rfl,hT,b8,hB,ev,ab,hx,hy,⟨t0,ind⟩,wx,wy,bw,hP,q⟩:=h
 have hu:=hr.units
 refine⟨_,(cX (sM PassesOwn.never (gY lZ) (lY (@az _ _ _ _ _ (aU (i:=2) ko.nd rfl (Or.inl rfl) (aM eY hr rfl aL (af (pv 2) (af (aM qB hr rfl aL (af (aM b7 hr rfl aL (af (pv 0) (af (pv 1) (af (pv 2) ak)))) (af (aM b7 hr rfl aL (af (pv 0) (af (pv 1) (af (pv 1) ak)))) ak))) (af (pv 1) ak)))))
  (@az _ _ _ _ _ (dI (cB Fl (aM gP hr rfl aL (af (pv 0) (af (pv 2) ak))) (aM gP hr rfl aL (af (pv 0) (af (pv 1) ak))) (cz _)) (@aN _ _ _ (aT (g8 (af (pv 1) (af (pv 2) ak))))) dH)
  (@aN _ _ _ (sJ (i:=1) (j:=2) rfl ko.nd rfl rfl (by decide) rfl rfl (af (pv 2) (af (pv 1) ak)) rfl))))))),?_⟩
 have Po:=jq (eL ev b8) ab
 have bits:∀z:Nat->Int,aQ m z<=w-> ∀i,i<3->(z i).natAbs<2^666:=λz hz i hi=>mH ev b8 ab hB (by have:=dM Po z;omega) hi
 refine sN (λσ H'=> ∃(a' b':Addr)(x' y':Nat->Int),σ=[some (.ref t),some (.ref a'),some (.ref b')]/\av H H'/\bh H' a' x'/\bh H' b' y'/\gu m x y x' y'/\aQ m x'<=w/\aQ m y'<=w) (GU m 1) ⟨a,b,x,y,rfl,av.refl _,hx,hy,gu.refl _ _ _,wx,wy⟩ (λσ H' hh=> ?_) ?_
 rotate_left
 ·rintro σ H' Q Q' h ⟨c,e,k⟩
  exact⟨c,e,h _ _ k⟩
 obtain⟨a',b',x',y',rfl,s1,hx',hy',pr,Na,Nb⟩:=hh
 have Rx:bQ x' y' t0≠0:=by
  obtain⟨e,he,hd⟩:=pr.det
  rw[hd]
  rcases he with rfl|rfl
  ·rw[Int.one_mul];exact ind
  ·intro z;apply ind;omega
 have nx:0<aQ m x':=JE Po λz=>Rx (AW z _ _)
 have bx:=bits x' Na
 have bY:=bits y' Nb
 refine⟨true,rfl,sW ?_⟩
 have b1:∀z:Nat->Int,(∀i,i<3->(z i).natAbs<2^666) -> ∀i,i<3->(z i).natAbs<2^1000:=λz h i hi=>aI (h i hi) (by decide)
 refine⟨_,rfl,_,rfl,_,rfl,_,rfl,t,bs,m,a',b',x',y',rfl,hT.same s1,b8,hB.mono (by decide),hx',hy',b1 _ bx,b1 _ bY,s1 _ _ hP,λH2 s2=> ?_⟩
 have s12:=s1.trans s2
 refine⟨_,rfl,_,rfl,_,rfl,t,bs,m,a',a',x',x',rfl,hT.same s12,b8,hB.mono (by decide),s2 _ _ hx',s2 _ _ hx',b1 _ bx,b1 _ bx,s12 _ _ hP,λH3 s3=> ?_⟩
 have En:=s12.trans s3
 have Ry:=s2.trans s3
 have bP:=iI (hB) bx bY
 have bA:=iI (hB) bx bx
 have lg:(2*aQ m x').natAbs.log2<9000:=by
  refine(Nat.log2_lt (by omega)).mpr ?_
  have c0:(2*aQ m x').natAbs<2^(2+1781):=cD (by decide) bA
  exact Nat.lt_of_lt_of_le c0 (Nat.pow_le_pow_right (by decide) (by decide))
 have bq:((2*ay m x' y'+aQ m x')/(2*aQ m x')).natAbs<2^4096:=by
  refine Nat.lt_of_le_of_lt (jC _ (by omega)) ?_
  have c1:(2*ay m x' y').natAbs<2^(2+1781):=cD (by decide) bP
  exact aI (k9 c1 (aI bA (show 666+440+666+9<=2+1781 by decide))) (by decide)
 refine⟨_,_,rfl,nx,lg,_,rfl,b',y',_,a',x',rfl,Ry _ _ hy',Ry _ _ hx',bq,(λi hi=>aI (bx i hi) (by decide)),λr H4 s4 fr er=> ?_⟩
 have Bs:=En.trans s4
 have Nc:=Ry.trans s4
 have wl:=Int.le_trans (GV ev (y:=y') nx) Nb
 have bl:=bits _ wl
 have pl:=pr.trans (gu.less ev (y:=y') nx)
 have lp:=Eb ev (y:=y') nx
 have ax:bh H4 a' x':=Nc _ _ hx'
 have Vf:=qf (m:=m) (i:=1) (σ:=[some (.ref t),some (.ref a'),some (.ref b')]) (by rfl) hx'
 generalize iJ y' ((2*ay m x' y'+aQ m x')/(2*aQ m x')) x'=z at er wl bl pl lp
 refine⟨_,rfl,_,rfl,t,bs,m,r,z,rfl,hT.same Bs,b8,hB.mono (by decide),er,b1 _ bl,Bs _ _ hP,λH5 s5=> ?_⟩
 refine⟨_,rfl,_,rfl,t,bs,m,a',x',rfl,hT.same (Bs.trans s5),b8,hB.mono (by decide),s5 _ _ ax,b1 _ bx,(Bs.trans s5) _ _ hP,λH6 s6=> ?_⟩
 have Nd:=s5.trans s6
 have Ah:=Bs.trans Nd
 have ez:=fH ev z
 have ex:=fH ev x'
 refine⟨_,_,rfl,rfl,_,rfl,lW (λc=> ?_) (λc=> ?_)⟩
 ·have c:cV m x'<=cV m z:=of_decide_eq_true c
  refine⟨_,rfl,_,rfl,(by show 2<=sizeLine;decide),λP Rz=> ?_⟩
  have uP:=av.up (o:= .tup [.ref a',.ref r]) Rz
  exact q a' r x' z P _ ⟨nx,by show ay m x' x'<=ay m z z;omega,lp.1,lp.2⟩ pl Na wl (Ah.trans uP) ((Nd.trans uP) _ _ ax) ((Nd.trans uP) _ _ er) ao
 ·have c:¬cV m x'<=cV m z:=λy=>c (decide_eq_true y)
  refine⟨_,rfl,_,rfl,_,_,rfl,?_⟩
  refine⟨⟨r,a',z,x',rfl,Ah,Nd _ _ er,Nd _ _ ax,pl.swap,wl,Na⟩,?_⟩
  have at2:=qf (m:=m) (i:=1) (σ:=[some (.ref t),some (.ref r),some (.ref a')]) (by rfl) (Nd _ _ er)
  show GU m 1 [some (.ref t),some (.ref r),some (.ref a')] H6<GU m 1 [some (.ref t),some (.ref a'),some (.ref b')] H'
  rw[Vf,at2]
  have:=dM Po z
  have e1:aQ m z=ay m z z:=rfl
  have e2:aQ m x'=ay m x' x':=rfl
  omega
inductive xW(T1 T0:Addr)(vs:List V)(H:Hp)(Q:VK)(E:XK):Prop
 |mk(t:Addr)(bs:List Addr)(m:List (List Int))(p:Addr)(as:List Addr)(X:Addr->Nat->Int)(_:vs=[.ref t,.ref p])(_:Tab H t bs m)(_:cj m)(_:Bd 440 m)(_:H p=some (.lst (as.map V.ref)))(_:as.length<64)(_:∀b∈as,bh H b (X b))(_:∀b∈as,(∀i,i<3->(X b i).natAbs<2^1000))(_:H T1=some (dW T1))(_:H T0=some .yw)(_:∀(Hn:Hp) (zs:List Addr),av H Hn->zs.Perm as->zs.Pairwise (λa b=>cV m (X a)<=cV m (X b)) -> ∀r,Hn r=none->Q (.ref r) (upd Hn r (.lst (zs.map V.ref))))
theorem zF{aF bg:Addr}(F:pH K mg "in_order" nX iw bg)(bm:BM mg base)(gQ:mg "sorted"=none)(gP:dh P w K mg base cS 3 "worth" lC (pQ aF)):dh P w K mg base cS 7 "in_order" iw (xW aF bg):=by
 refine F.ok zx (λvs H Q E h=> ?_) (λf cdv A outer s H vs Q E cd hr h=> ?_)
 ·obtain⟨t,bs,m,p,as,X,rfl,hT,b8,hB,hp,Te,hX,bX,hP,hC,q⟩:=h
  rfl
 obtain⟨t,bs,m,p,as,X,rfl,hT,b8,hB,hp,Te,hX,bX,hP,hC,q⟩:=h
 have hu:=hr.units
 refine⟨_,(cX (aT (Ei (N2:=["form","rows"]) (tb:=(kI (pQ aF) [] E0 (cJ (bK 1) (cJ (bK 0) jj)))) rfl hr cd bm rfl gQ (pv 1) (by kernel_rfl) (λ_ _ _ _ _ _=>rfl) (λ_ _ _ _ _=>by exact jT (aM gP (GQ hr) rfl aL (af (pv 1) (af (pv 0) ak))))))),?_⟩
 refine⟨_,rfl,p,as.map V.ref,(λv=>match v with| .ref b=>cV m (X b)|_=>0),rfl,aW.of hp,(by rw[List.length_map];exact Te),hC,(λv hv Hi si=> ?_),λHn zs sn pz so r hr=> ?_⟩
 ·obtain⟨b,rfl,hb⟩:=kL hv
  exact⟨_,rfl,_,rfl,t,bs,m,b,X b,rfl,hT.same si,b8,hB.mono (by decide),si _ _ (hX b hb),bX b hb,si _ _ hP,λH' s=>⟨rfl,s⟩⟩
 ·obtain⟨zs,rfl,Vg⟩:=DX pz
  rw[List.pairwise_map]at so
  exact q Hn zs sn Vg so r hr
inductive Hr(T1 T0:Addr)(vs:List V)(H:Hp)(Q:VK)(E:XK):Prop
 |mk(t:Addr)(bs:List Addr)(m:List (List Int))(a b c:Addr)(x y z:Nat->Int)(_:vs=[.ref t,.ref a,.ref b,.ref c])(_:Tab H t bs m)(_:cj m)(_:Bd 440 m)(_:cH m)(_:cu m=true)(_:bh H a x)(_:bh H b y)(_:bh H c z)(_:mJ m x y)(_:∀i,i<3->(x i).natAbs<2^666)(_:∀i,i<3->(y i).natAbs<2^666)(_:∀i,i<3->(z i).natAbs<2^666)(_:(aC m*(bQ x y z*bQ x y z)).natAbs<2^448)(_:(aQ m y).natAbs<2^446)(_:H T1=some (dW T1))(_:H T0=some .yw)(_:∀r z' H',Drawn m x y z z'->av H H'->bh H' r z'->Q (.ref r) H')
theorem zG{aF bg:Addr}(F:fm K mg "drawn_in" nY jH)(b7:dh P w K mg base cS 7 "pairing" f7 (om aF))(eY:dh P w K mg base cS 7 "less_times" f9 ud)(gw:dh P w K mg base cS 7 "in_order" iw (xW aF bg)):dh P w K mg base cS 8 "drawn_in" jH (Hr aF bg):=by
 refine F.ok fV (λvs H Q E h=> ?_) (λf cdv A outer s H vs Q E hr h=> ?_)
 ·obtain⟨t,bs,m,a,b,c,x,y,z,rfl,hT,b8,hB,ev,ab,ha,hb,hc,lp,bx,bY,bz,bd,bw,hP,hC,q⟩:=h
  rfl
 obtain⟨t,bs,m,a,b,c,x,y,z,rfl,hT,b8,hB,ev,ab,ha,hb,hc,lp,bx,bY,bz,bd,bw,hP,hC,q⟩:=h
 have hu:=hr.units
 refine⟨_,(lY (@az _ _ _ _ _ (Jf (i:=4) (j:=5) (k:=6) rfl fV.nd rfl rfl rfl (by decide) (by decide) (by decide) rfl rfl rfl (af (aM b7 hr rfl aL (af (pv 0) (af (pv 1) (af (pv 1) ak)))) (af (aM b7 hr rfl aL (af (pv 0) (af (pv 1) (af (pv 2) ak)))) (af (aM b7 hr rfl aL (af (pv 0) (af (pv 2) (af (pv 2) ak)))) ak))) rfl)
  (@az _ _ _ _ _ (sJ (i:=7) (j:=8) rfl fV.nd rfl rfl (by decide) rfl rfl (af (aM b7 hr rfl aL (af (pv 0) (af (pv 1) (af (pv 3) ak)))) (af (aM b7 hr rfl aL (af (pv 0) (af (pv 2) (af (pv 3) ak)))) ak)) rfl)
  (@az _ _ _ _ _ (aU (i:=9) fV.nd rfl (Or.inl rfl) (aq dw (aq aE (pv 4) (pv 6)) (aq aE (pv 5) (pv 5))))
  (@az _ _ _ _ _ (aU (i:=10) fV.nd rfl (Or.inl rfl) (aq mz (aq dw (aq aE (pv 6) (pv 7)) (aq aE (pv 5) (pv 8))) (pv 9)))
  (@az _ _ _ _ _ (aU (i:=11) fV.nd rfl (Or.inl rfl) (aq mz (aq dw (aq aE (pv 4) (pv 8)) (aq aE (pv 5) (pv 7))) (pv 9)))
  (@az _ _ _ _ _ (aU (i:=12) fV.nd rfl (Or.inl rfl) (dG (af (g8 (af (pv 10) (af (pv 11) ak))) (af (g8 (af (pv 10) (af (aq bJ (pv 11) ah) ak))) (af (g8 (af (aq bJ (pv 10) ah) (af (pv 11) ak))) (af (g8 (af (aq bJ (pv 10) ah) (af (aq bJ (pv 11) ah) ak))) ak))))))
  (@aN _ _ _ (aT (aJ aA (aM gw hr rfl aL (af (pv 0) (af (AB (N2:=["form","one","other","third","across","along","aside","by_one","by_other","area","first","second","corners"]) (te:=(kI ud [] E0 (cJ (kI ud [] E0 (cJ (bK 5) (cJ (bK 0) (cJ (bK 3) jj)))) (cJ (bK 1) (cJ (bK 4) jj))))) rfl (eW (pv 12)) (by kernel_rfl) rfl (λ_ _ _=>by exact jT (aM eY hr rfl aL (af (aM eY hr rfl aL (af (pv 5) (af (pv 0) (af (pv 3) ak)))) (af (pv 1) (af (pv 4) ak)))))) ak))) ah (λ_ _=>rfl))))))))))),?_⟩
 have b1:∀v:Nat->Int,(∀i,i<3->(v i).natAbs<2^666) -> ∀i,i<3->(v i).natAbs<2^1000:=λv h i hi=>aI (h i hi) (by decide)
 have Po:=jq (eL ev b8) ab
 obtain⟨_,ap⟩:=lp.GW
 have s0:=av.refl H
 refine⟨_,rfl,_,rfl,_,rfl,t,bs,m,a,a,x,x,rfl,hT.same s0,b8,hB.mono (by decide),s0 _ _ ha,s0 _ _ ha,b1 _ bx,b1 _ bx,s0 _ _ hP,λH1 s1=> ?_⟩
 refine⟨_,rfl,_,rfl,_,rfl,t,bs,m,a,b,x,y,rfl,hT.same s1,b8,hB.mono (by decide),s1 _ _ ha,s1 _ _ hb,b1 _ bx,b1 _ bY,s1 _ _ hP,λH2 s2=> ?_⟩
 have s12:=s1.trans s2
 refine⟨_,rfl,_,rfl,_,rfl,t,bs,m,b,b,y,y,rfl,hT.same s12,b8,hB.mono (by decide),s12 _ _ hb,s12 _ _ hb,b1 _ bY,b1 _ bY,s12 _ _ hP,λH3 s3=> ?_⟩
 have En:=s12.trans s3
 refine⟨_,_,_,rfl,?_⟩
 refine⟨_,rfl,_,rfl,_,rfl,t,bs,m,a,c,x,z,rfl,hT.same En,b8,hB.mono (by decide),En _ _ ha,En _ _ hc,b1 _ bx,b1 _ bz,En _ _ hP,λH4 s4=> ?_⟩
 have Bs:=En.trans s4
 refine⟨_,rfl,_,rfl,_,rfl,t,bs,m,b,c,y,z,rfl,hT.same Bs,b8,hB.mono (by decide),Bs _ _ hb,Bs _ _ hc,b1 _ bY,b1 _ bz,Bs _ _ hP,λH5 s5=> ?_⟩
 have JN:=Bs.trans s5
 refine⟨_,_,rfl,?_⟩
 have c1:=iI hB bx bx
 have c2:=iI hB bx bY
 have c3:=iI hB bY bY
 have c4:=iI hB bx bz
 have c5:=iI hB bY bz
 have up:∀{v:Int},v.natAbs<2^(666+440+666+9) ->v.natAbs<2^4096:=λh=>aI h (by decide)
 refine⟨_,rfl,_,rfl,_,_,rfl,rfl,⟨up c1,up c3⟩,_,rfl,_,rfl,_,_,rfl,rfl,⟨up c2,up c2⟩,_,_,rfl,rfl,?_⟩
 have bA:(au m x y).natAbs<2^3600:=aI (kg (cD c1 c3) (cD c2 c2)) (by decide)
 have bS:(bT m x y z).natAbs<2^3600:=aI (kg (cD c3 c4) (cD c2 c5)) (by decide)
 have bR:(bU m x y z).natAbs<2^3600:=aI (kg (cD c1 c5) (cD c2 c4)) (by decide)
 have lg:(au m x y).natAbs.log2<9000:=(Nat.log2_lt (by show(au m x y).natAbs≠0;have:0<au m x y:=ap;omega)).mpr (Nat.lt_of_lt_of_le bA (Nat.pow_le_pow_right (by decide) (by decide)))
 refine⟨_,rfl,_,rfl,_,_,rfl,rfl,⟨up c3,up c4⟩,_,rfl,_,rfl,_,_,rfl,rfl,⟨up c2,up c5⟩,_,_,rfl,rfl,_,rfl,_,_,rfl,rfl,⟨ap,lg⟩,?_⟩
 refine⟨_,rfl,_,rfl,_,_,rfl,rfl,⟨up c1,up c5⟩,_,rfl,_,rfl,_,_,rfl,rfl,⟨up c2,up c4⟩,_,_,rfl,rfl,_,rfl,_,_,rfl,rfl,⟨ap,lg⟩,?_⟩
 have bF:(bT m x y z/au m x y).natAbs<2^3600:=Nat.lt_of_le_of_lt (jC _ ap) bS
 have bG:(bU m x y z/au m x y).natAbs<2^3600:=Nat.lt_of_le_of_lt (jC _ ap) bR
 refine⟨_,rfl,_,rfl,(by show 2<=sizeLine;decide),λp0 g0=>⟨_,rfl,_,rfl,_,_,rfl,rfl,(by show 2<=sizeLine;decide),λp1 g1=>⟨_,rfl,_,_,rfl,rfl,_,rfl,(by show 2<=sizeLine;decide),λp2 g2=>⟨_,rfl,_,_,rfl,rfl,_,rfl,_,_,rfl,rfl,(by show 2<=sizeLine;decide),λp3 g3=>⟨(by show 4<=sizeLine;decide),λL gL=> ?_⟩⟩⟩⟩⟩
 have v0:=av.up (o:= .tup [.int (bT m x y z/au m x y),.int (bU m x y z/au m x y)]) g0
 have v1:=av.up (o:= .tup [.int (bT m x y z/au m x y),.int ((bU m x y z/au m x y)+1)]) g1
 have v2:=av.up (o:= .tup [.int ((bT m x y z/au m x y)+1),.int (bU m x y z/au m x y)]) g2
 have v3:=av.up (o:= .tup [.int ((bT m x y z/au m x y)+1),.int ((bU m x y z/au m x y)+1)]) g3
 have vL:=av.up (o:= .lst [.ref p0,.ref p1,.ref p2,.ref p3]) gL
 have Tf:=v3.trans vL
 have Tg:=v2.trans Tf
 have Ti:=v1.trans Tg
 have vv:=v0.trans Ti
 have t0:=Ti _ _ (ao (H:=H5) (a:=p0) (o:= .tup [.int (bT m x y z/au m x y),.int (bU m x y z/au m x y)]))
 have t1:=Tg _ _ (ao (a:=p1) (o:= .tup [.int (bT m x y z/au m x y),.int ((bU m x y z/au m x y)+1)]))
 have t2:=Tf _ _ (ao (a:=p2) (o:= .tup [.int ((bT m x y z/au m x y)+1),.int (bU m x y z/au m x y)]))
 have t3:=vL _ _ (ao (a:=p3) (o:= .tup [.int ((bT m x y z/au m x y)+1),.int ((bU m x y z/au m x y)+1)]))
 have Ms:=JN.trans vv
 refine⟨_,rfl,_,rfl,L,rfl,⟨_,aW.of ao⟩,λD hD=>DY (jX (aW.of ao)) (by show 4<=sizeLine;decide) hD (λj=> .int (if j<2 then(bT m x y z/au m x y)else(bT m x y z/au m x y)+1)) (λj=> .int (if j%2=0 then(bU m x y z/au m x y)else(bU m x y z/au m x y)+1)) (λj v ev'=> ?_) (λj v H=> ∃r,v= .ref r/\r≠D/\bh H r (dz z (if j<2 then(bT m x y z/au m x y)else(bT m x y z/au m x y)+1) x (if j%2=0 then(bU m x y z/au m x y)else(bU m x y z/au m x y)+1) y)) (λj v H H' h off=> ?_) (λj hj H6 Q6 s6 eD k6=> ?_) (λws H6 s6 lw rel eD=> ?_)⟩
 ·have hj:j<4:=(List.getElem?_eq_some_iff.mp ev').1
  obtain rfl|rfl|rfl|rfl:j=0∨j=1∨j=2∨j=3:=by omega
  ·exact⟨p0,(Option.some.inj ev').symm,m8.of t0⟩
  ·exact⟨p1,(Option.some.inj ev').symm,m8.of t1⟩
  ·exact⟨p2,(Option.some.inj ev').symm,m8.of t2⟩
  ·exact⟨p3,(Option.some.inj ev').symm,m8.of t3⟩
 ·obtain⟨r,e,nr,hr⟩:=h
  exact⟨r,e,nr,off _ _ nr hr⟩
 ·have sa:=Ms.trans s6
  have b4:∀{v:Int},v.natAbs<2^3600->(v+1).natAbs<2^4096:=λh=>aI (k9 h (show(1:Int).natAbs<2^3600 from aI (a:=1) (by decide) (by decide))) (by decide)
  have bi:(if j<2 then(bT m x y z/au m x y)else(bT m x y z/au m x y)+1).natAbs<2^4096:=by split;exact aI bF (by decide);exact b4 bF
  have bj:(if j%2=0 then(bU m x y z/au m x y)else(bU m x y z/au m x y)+1).natAbs<2^4096:=by split;exact aI bG (by decide);exact b4 bG
  obtain⟨oD,eD⟩:=eD
  refine⟨_,rfl,_,rfl,_,rfl,c,z,_,a,x,rfl,sa _ _ hc,sa _ _ ha,bi,(λi hi=>aI (bx i hi) (by decide)),λr1 H7 s7 f1 e1=> ?_⟩
  refine⟨_,rfl,_,rfl,r1,_,_,b,y,rfl,e1,(sa.trans s7) _ _ hb,bj,(λi hi=>aI (bY i hi) (by decide)),λr2 H8 s8 f2 e2=> ?_⟩
  exact k6 (.ref r2) H8 (s7.trans s8) ⟨r2,rfl,(λw=>by rw[w,s7 _ _ eD]at f2;cases f2),e2⟩
 have Vh:ws.length=4:=lw
 obtain⟨w0,w1,w2,w3,rfl⟩:∃a b c d,ws=[a,b,c,d]:=by
  match ws,Vh with
  | [a,b,c,d],_=>exact⟨a,b,c,d,rfl⟩
 obtain⟨r0,rfl,_,x0⟩:=rel 0 _ rfl
 obtain⟨r1,rfl,_,x1⟩:=rel 1 _ rfl
 obtain⟨r2,rfl,_,x2⟩:=rel 2 _ rfl
 obtain⟨r3,rfl,_,x3⟩:=rel 3 _ rfl
 have x0:bh H6 r0 (dz z (bT m x y z/au m x y) x (bU m x y z/au m x y) y):=x0
 have x1:bh H6 r1 (dz z (bT m x y z/au m x y) x ((bU m x y z/au m x y)+1) y):=x1
 have x2:bh H6 r2 (dz z ((bT m x y z/au m x y)+1) x (bU m x y z/au m x y) y):=x2
 have x3:bh H6 r3 (dz z ((bT m x y z/au m x y)+1) x ((bU m x y z/au m x y)+1) y):=x3
 have Ah:=Ms.trans s6
 have D0:0<=aC m:=Int.le_of_lt (ir ab).2.2
 have each:∀r∈ [r0,r1,r2,r3],∃i j,(i=(bT m x y z/au m x y)∨i=(bT m x y z/au m x y)+1)/\(j=(bU m x y z/au m x y)∨j=(bU m x y z/au m x y)+1)/\bh H6 r (dz z i x j y):=λr hr=>by
  simp only[List.mem_cons,List.not_mem_nil,or_false]at hr
  rcases hr with rfl|rfl|rfl|rfl
  ·exact⟨_,_,.inl rfl,.inl rfl,x0⟩
  ·exact⟨_,_,.inl rfl,.inr rfl,x1⟩
  ·exact⟨_,_,.inr rfl,.inl rfl,x2⟩
  ·exact⟨_,_,.inr rfl,.inr rfl,x3⟩
 have same:∀{r:Addr}{v:Nat->Int},bh H6 r v->aQ m (aR (dJ H6 r))=aQ m v:=λh=>gi (gH h) (gH h)
 refine⟨t,bs,m,D,[r0,r1,r2,r3],(λr=>aR (dJ H6 r)),rfl,hT.same Ah,b8,hB,eD,(by show 4<64;decide),(λr hr=> ?_),(λr hr i hi=> ?_),Ah _ _ hP,Ah _ _ hC,λHn zs sn pz so p hp=> ?_⟩
 ·obtain⟨i,j,_,_,h⟩:=each r hr
  exact xP h
 ·obtain⟨i',j',hi',hj',h⟩:=each r hr
  show(aR (dJ H6 r) i).natAbs<2^1000
  rw[gH h i hi]
  have cl:=Ef ev lp hi' hj' D0
  have n0:=dM Po (dz z i' x j' y)
  refine aI (mH ev b8 ab hB ?_ hi) (by decide)
  have k1:=Int.mul_nonneg D0 (bu (bQ x y z))
  have k2:0<=aQ m y:=dM Po y
  have k3:(aC m*(bQ x y z*bQ x y z)+3*aQ m y).natAbs<2^(448+1):=k9 bd (aI (cD (show(3:Int).natAbs<2^2 by decide) bw) (by decide))
  refine Nat.lt_of_le_of_lt ?_ (aI k3 (show 448+1<=450 by decide))
  omega
 have Vi:∃Vj rest,zs=Vj::rest:=by
  cases zs with
  |nil=>have:=pz.length_eq;simp at this
  |cons r rest=>exact⟨r,rest,rfl⟩
 obtain⟨rz,rest,rfl⟩:=Vi
 obtain⟨i,j,hi,hj,hz⟩:=each rz (pz.mem_iff.mp List.mem_cons_self)
 have least:∀r∈ [r0,r1,r2,r3],aQ m (dz z i x j y)<=aQ m (aR (dJ H6 r)):=λr hr=>by
  rw[<-same hz]
  rcases List.mem_cons.mp (pz.mem_iff.mpr hr)with e|hr'
  ·rw[e]
   exact Int.le_refl _
  ·have:cV m (aR (dJ H6 rz))<=cV m (aR (dJ H6 r)):=(List.pairwise_cons.mp so).1 r hr'
   have p1:=fH ev (aR (dJ H6 rz))
   have p2:=fH ev (aR (dJ H6 r))
   show ay m _ _<=ay m _ _
   omega
 have sF:=Ah.trans (sn.trans (av.up (o:= .lst ((rz::rest).map V.ref)) hp))
 refine⟨p,_,_,_,rfl,rfl,aW.of ao,GB,q rz _ _ (GX ev lp hi hj λi' j' hi' hj'=> ?_) sF ((sn.trans (av.up hp)) _ _ hz)⟩
 rcases hi' with rfl|rfl<;>rcases hj' with rfl|rfl
 ·rw[<-same x0];exact least r0 (by simp)
 ·rw[<-same x1];exact least r1 (by simp)
 ·rw[<-same x2];exact least r2 (by simp)
 ·rw[<-same x3];exact least r3 (by simp)
inductive CZ(T1 T0:Addr)(vs:List V)(H:Hp)(Q:VK)(E:XK):Prop
 |mk(t:Addr)(bs:List Addr)(m:List (List Int))(_:vs=[.ref t])(_:Tab H t bs m)(_:cj m)(_:Bd 440 m)(_:cH m)(_:cu m=true)(_:(aC m).natAbs<2^440)(_:H T1=some (dW T1))(_:H T0=some .yw)(_:∀(r a b c:Addr) (x y z:Nat->Int) H',CS m x y z->av H H'->H r=none->H' r=some (.lst [.ref a,.ref b,.ref c]) ->bh H' a x->bh H' b y->bh H' c z->Q (.ref r) H')
theorem vm{aF bg:Addr}(F:fm K mg "near_basis" lF gJ)(gw:dh P w K mg base cS 8 "in_order" iw (xW aF bg))(lH:dh P w K mg base cS 8 "least_pair" gI (zE aF))(oq:dh P w K mg base cS 8 "drawn_in" jH (Hr aF bg))(gP:dh P w K mg base cS 8 "worth" lC (pQ aF)):dh P w K mg base cS 9 "near_basis" gJ (CZ aF bg):=by
 refine F.ok cR (λvs H Q E h=> ?_) (λf cdv A outer s H vs Q E hr h=> ?_)
 ·obtain⟨t,bs,m,rfl,hT,b8,hB,ev,ab,bD,hP,hC,q⟩:=h
  rfl
 obtain⟨t,bs,m,rfl,hT,b8,hB,ev,ab,bD,hP,hC,q⟩:=h
 have hu:=hr.units
 refine⟨_,(lY (@az _ _ _ _ _ (gp (aM gw hr rfl aL (af (pv 0) (af (dG (af (dG (af ah (af ah (af ah ak)))) (af (dG (af ah (af ah (af ah ak)))) (af (dG (af ah (af ah (af ah ak)))) ak)))) ak))) (iD rfl (aG (aH (i:=1) cR.nd rfl (Or.inl rfl)) (aG (aH (i:=2) cR.nd rfl (Or.inl rfl)) (aG (aH (i:=3) cR.nd rfl (Or.inl rfl)) dO)))))
  (@aN _ _ _ (sM PassesOwn.never (gY lZ) (lY (@az _ _ _ _ _ (gp (aM lH hr rfl aL (af (pv 0) (af (pv 1) (af (pv 2) ak)))) (kY rfl (aG (aH (i:=1) cR.nd rfl (Or.inl rfl)) (aG (aH (i:=2) cR.nd rfl (Or.inl rfl)) dO))))
  (@az _ _ _ _ _ (aU (i:=3) cR.nd rfl (Or.inl rfl) (aM oq hr rfl aL (af (pv 0) (af (pv 1) (af (pv 2) (af (pv 3) ak))))))
  (@az _ _ _ _ _ (dI (cB Fl (aM gP hr rfl aL (af (pv 0) (af (pv 3) ak))) (aM gP hr rfl aL (af (pv 0) (af (pv 2) ak))) (cz _)) (@aN _ _ _ (aT (dG (af (pv 1) (af (pv 2) (af (pv 3) ak)))))) dH)
  (@aN _ _ _ (gp (aM gw hr rfl aL (af (pv 0) (af (dG (af (pv 1) (af (pv 2) (af (pv 3) ak)))) ak))) (iD rfl (aG (aH (i:=1) cR.nd rfl (Or.inl rfl)) (aG (aH (i:=2) cR.nd rfl (Or.inl rfl)) (aG (aH (i:=3) cR.nd rfl (Or.inl rfl)) dO)))))))))))))),?_⟩
 have Po:=jq (eL ev b8) ab
 have bits:∀z:Nat->Int,aQ m z<=(2^440:Int) -> ∀i,i<3->(z i).natAbs<2^666:=λz hz i hi=>mH ev b8 ab hB (by have:=dM Po z;omega) hi
 have b1:∀v:Nat->Int,(∀i,i<3->(v i).natAbs<2^666) -> ∀i,i<3->(v i).natAbs<2^1000:=λv h i hi=>aI (h i hi) (by decide)
 have ord:∀{H1:Hp}{a b c:Addr}{x y z:Nat->Int},bh H1 a x->bh H1 b y->bh H1 c z->(bQ x y z=1∨bQ x y z= -1) ->aQ m x<=(2^440:Int) ->aQ m y<=(2^440:Int) ->aQ m z<=(2^440:Int) ->
   (∀r∈ [a,b,c],bh H1 r (aR (dJ H1 r)))/\(∀r∈ [a,b,c],∀i,i<3->(aR (dJ H1 r) i).natAbs<2^1000)/\ ∀zs:List Addr,zs.Perm [a,b,c] ->zs.Pairwise (λa b=>cV m (aR (dJ H1 a))<=cV m (aR (dJ H1 b))) ->
   ∃(p q r:Addr)(x1 y1 z1:Nat->Int),zs=[p,q,r]/\bh H1 p x1/\bh H1 q y1/\bh H1 r z1/\(bQ x1 y1 z1=1∨bQ x1 y1 z1= -1)/\aQ m x1<=(2^440:Int)/\aQ m y1<=(2^440:Int)/\aQ m z1<=(2^440:Int)/\aQ m x1+aQ m y1<=aQ m x+aQ m z:=λ {H1 a b c x y z} ha hb hc un wx wy wz=>by
  have same:∀{r:Addr}{v:Nat->Int},bh H1 r v->aQ m (aR (dJ H1 r))=aQ m v:=λh=>gi (gH h) (gH h)
  have each:∀r∈ [a,b,c],bh H1 r (aR (dJ H1 r))/\aQ m (aR (dJ H1 r))<=(2^440:Int):=λr hr=>by
   simp only[List.mem_cons,List.not_mem_nil,or_false]at hr
   rcases hr with rfl|rfl|rfl
   ·exact⟨xP ha,by rw[same ha];exact wx⟩
   ·exact⟨xP hb,by rw[same hb];exact wy⟩
   ·exact⟨xP hc,by rw[same hc];exact wz⟩
  refine⟨λr hr=>(each r hr).1,λr hr=>b1 _ (bits _ (each r hr).2),λzs pz so=> ?_⟩
  obtain⟨p,q,r,rfl,hp,hq,hr,dt,sum⟩:=Mn (X:=λr=>aR (dJ H1 r)) ev pz so
  refine⟨p,q,r,_,_,_,rfl,(each p hp).1,(each q hq).1,(each r hr).1,?_,(each p hp).2,(each q hq).2,(each r hr).2,by rw[<-same ha,<-same hc];exact sum⟩
  have e:=GZ (gH ha) (gH hb) (gH hc)
  rcases un with u|u<;>rcases dt with d|d<;>rw[e,u]at d<;>rw[d]<;>simp
 refine⟨_,rfl,(by show 3<=sizeLine;decide),λa0 h0=>⟨(by show 3<=sizeLine;decide),λa1 h1=>⟨(by show 3<=sizeLine;decide),λa2 h2=>⟨(by show 3<=sizeLine;decide),λA hA=> ?_⟩⟩⟩⟩
 have v0:=av.up (o:= .lst [.int 1,.int 0,.int 0]) h0
 have v1:=av.up (o:= .lst [.int 0,.int 1,.int 0]) h1
 have v2:=av.up (o:= .lst [.int 0,.int 0,.int 1]) h2
 have vA:=av.up (o:= .lst [.ref a0,.ref a1,.ref a2]) hA
 have sA:=v0.trans (v1.trans (v2.trans vA))
 have r0:bh _ a0 (MX 0 1):=vA _ _ (v2 _ _ (v1 _ _ (ao (H:=H) (a:=a0) (o:= .lst [.int 1,.int 0,.int 0]))))
 have r1:bh _ a1 (MX 1 1):=vA _ _ (v2 _ _ (ao (a:=a1) (o:= .lst [.int 0,.int 1,.int 0])))
 have r2:bh _ a2 (MX 2 1):=vA _ _ (ao (a:=a2) (o:= .lst [.int 0,.int 0,.int 1]))
 have wE:∀i,i<3->aQ m (MX i 1)<=(2^440:Int):=λi hi=>by
  rw[Mm m hi]
  have:=hB i i hi hi
  omega
 obtain⟨o1,o2,o3⟩:=ord r0 r1 r2 (.inl (by decide)) (wE 0 (by decide)) (wE 1 (by decide)) (wE 2 (by decide))
 refine⟨t,bs,m,A,[a0,a1,a2],_,rfl,hT.same sA,b8,hB,ao,(by show 3<64;decide),o1,o2,sA _ _ hP,sA _ _ hC,λHn zs sn pz so R hR=> ?_⟩
 obtain⟨a,b,c,x,y,z,rfl,hx,hy,hz,un,wx,wy,wz,_⟩:=o3 zs pz so
 have uR:=av.up (o:= .lst ([a,b,c].map V.ref)) hR
 have s1:=sn.trans uR
 have hx:=s1 _ _ hx
 have hy:=s1 _ _ hy
 have hz:=s1 _ _ hz
 have eR:upd Hn R (.lst ([a,b,c].map V.ref)) R=some (.lst [.ref a,.ref b,.ref c]):=ao
 have sH:=sA.trans s1
 refine⟨R,[.ref a,.ref b,.ref c],rfl,aW.of eR,rfl,_,_,rfl,_,_,rfl,_,_,rfl,rfl,?_⟩
 refine sN (λσ H'=> ∃(a b c:Addr)(x y z:Nat->Int),σ=[some (.ref t),some (.ref a),some (.ref b),some (.ref c)]/\av H H'/\bh H' a x/\bh H' b y/\bh H' c z/\(bQ x y z=1∨bQ x y z= -1)/\aQ m x<=(2^440:Int)/\aQ m y<=(2^440:Int)/\aQ m z<=(2^440:Int)) (λσ H=>GU m 1 σ H+GU m 2 σ H) ⟨a,b,c,x,y,z,rfl,sH,hx,hy,hz,un,wx,wy,wz⟩ (λσ H' hh=> ?_) ?_
 rotate_left
 ·rintro σ H' Q Q' h ⟨c,e,k⟩
  exact⟨c,e,h _ _ k⟩
 obtain⟨a,b,c,x,y,z,rfl,s1,hx,hy,hz,un,wx,wy,wz⟩:=hh
 refine⟨true,rfl,sW ?_⟩
 have ne:bQ x y z≠0:=by omega
 refine⟨_,rfl,_,rfl,_,rfl,t,bs,m,a,b,x,y,(2^440:Int),rfl,hT.same s1,b8,hB,ev,ab,hx,hy,⟨z,ne⟩,wx,wy,(by decide),s1 _ _ hP,λa' b' x' y' P H2 lp pr Na Nb s2 hx' hy' eP=> ?_⟩
 refine⟨P,[.ref a',.ref b'],rfl,m8.of eP,rfl,_,_,rfl,_,_,rfl,rfl,?_⟩
 have s12:=s1.trans s2
 have un':bQ x' y' z=1∨bQ x' y' z= -1:=by
  obtain⟨e,he,hd⟩:=pr.det
  rw[hd]
  rcases he with rfl|rfl<;>rcases un with u|u<;>rw[u]<;>simp
 have one:bQ x' y' z*bQ x' y' z=1:=by rcases un' with u|u<;>rw[u]<;>decide
 have ny:=dM Po y'
 refine⟨_,rfl,_,rfl,_,rfl,_,rfl,t,bs,m,a',b',c,x',y',z,rfl,hT.same s12,b8,hB,ev,ab,hx',hy',s2 _ _ hz,lp,bits _ Na,bits _ Nb,bits _ wz,(by rw[one,Int.mul_one];exact aI bD (by decide)),(by omega),s12 _ _ hP,s12 _ _ hC,λr z' H3 dr s3 hz'=> ?_⟩
 have En:=s12.trans s3
 have nz:=dM Po z'
 have Tj:bh H3 a' x':=s3 _ _ hx'
 have RA:bh H3 b' y':=s3 _ _ hy'
 have Vk:bQ x' y' z'=1∨bQ x' y' z'= -1:=by rw[dr.det];exact un'
 have bz:∀i,i<3->(z' i).natAbs<2^666:=λi hi=>by
  obtain⟨ar,ap⟩:=lp.GW
  have few:=dr.few
  rw[one,Int.mul_one]at few
  have D0:=(ir ab).2.2
  refine mH ev b8 ab hB ?_ hi
  have Ed:1<=au m x' y':=ap
  have k1:aQ m z'<=au m x' y'*aQ m z':=by
   have:=Int.mul_le_mul_of_nonneg_right Ed nz
   omega
  have k2:4*(au m x' y'*aQ m z')<=4*(au m x' y'*(aC m+aQ m y')):=by
   have e1:au m x' y'*(aC m+aQ m y')=au m x' y'*aC m+au m x' y'*aQ m y':=Int.mul_add ..
   have e2:1*aC m<=au m x' y'*aC m:=Int.mul_le_mul_of_nonneg_right Ed (Int.le_of_lt D0)
   have e3:0<=au m x' y'*aQ m y':=Int.mul_nonneg (by omega) ny
   omega
  have k3:aQ m z'<=aC m+aQ m y':=Int.le_of_mul_le_mul_left (a:=au m x' y') (by omega) ap
  omega
 refine⟨_,rfl,_,rfl,t,bs,m,r,z',rfl,hT.same En,b8,hB.mono (by decide),hz',b1 _ bz,En _ _ hP,λH4 s4=> ?_⟩
 refine⟨_,rfl,_,rfl,t,bs,m,b',y',rfl,hT.same (En.trans s4),b8,hB.mono (by decide),s4 _ _ RA,b1 _ (bits _ Nb),(En.trans s4) _ _ hP,λH5 s5=> ?_⟩
 have RB:=s4.trans s5
 have JN:=En.trans RB
 have ez:=fH ev z'
 have ey:=fH ev y'
 refine⟨_,_,rfl,rfl,_,rfl,lW (λcd=> ?_) (λcd=> ?_)⟩
 ·have cd:cV m y'<=cV m z':=of_decide_eq_true cd
  refine⟨_,rfl,_,rfl,_,rfl,(by show 3<=sizeLine;decide),λR hR=> ?_⟩
  have uR:=av.up (o:= .lst [.ref a',.ref b',.ref r]) hR
  have RC:=RB.trans uR
  exact q R a' b' r x' y' z' _ (JI lp dr un' (by show ay m y' y'<=ay m z' z';omega)) (JN.trans uR) (JN.none hR) ao (RC _ _ Tj) (RC _ _ RA) (RC _ _ hz')
 ·have cd:¬cV m y'<=cV m z':=λw=>cd (decide_eq_true w)
  have lt:aQ m z'<aQ m y':=by show ay m z' z'<ay m y' y';omega
  refine⟨_,rfl,_,rfl,_,rfl,_,rfl,(by show 3<=sizeLine;decide),λL hL=> ?_⟩
  have uL:=av.up (o:= .lst [.ref a',.ref b',.ref r]) hL
  have RD:=RB.trans uL
  obtain⟨o1,o2,o3⟩:=ord (RD _ _ Tj) (RD _ _ RA) (RD _ _ hz') Vk Na Nb (by omega)
  have Ms:=JN.trans uL
  refine⟨t,bs,m,L,[a',b',r],_,rfl,hT.same Ms,b8,hB,ao,(by show 3<64;decide),o1,o2,Ms _ _ hP,Ms _ _ hC,λHn zs sn pz so R hR=> ?_⟩
  obtain⟨p1,q1,r1,x1,y1,z1,rfl,Mi,hy1,hz1,Vl,Vm,Vn,Vo,sum⟩:=o3 zs pz so
  have uR:=av.up (o:= .lst ([p1,q1,r1].map V.ref)) hR
  have s6:=sn.trans uR
  have Mi:=s6 _ _ Mi
  have hy1:=s6 _ _ hy1
  have hz1:=s6 _ _ hz1
  have eR:upd Hn R (.lst ([p1,q1,r1].map V.ref)) R=some (.lst [.ref p1,.ref q1,.ref r1]):=ao
  refine⟨R,[.ref p1,.ref q1,.ref r1],rfl,aW.of eR,rfl,_,_,rfl,_,_,rfl,_,_,rfl,rfl,?_⟩
  refine⟨⟨p1,q1,r1,x1,y1,z1,rfl,Ms.trans s6,Mi,hy1,hz1,Vl,Vm,Vn,Vo⟩,?_⟩
  have m1:=qf (m:=m) (i:=1) (σ:=[some (.ref t),some (.ref p1),some (.ref q1),some (.ref r1)]) (by rfl) Mi
  have m2:=qf (m:=m) (i:=2) (σ:=[some (.ref t),some (.ref p1),some (.ref q1),some (.ref r1)]) (by rfl) hy1
  have m3:=qf (m:=m) (i:=1) (σ:=[some (.ref t),some (.ref a),some (.ref b),some (.ref c)]) (by rfl) hx
  have m4:=qf (m:=m) (i:=2) (σ:=[some (.ref t),some (.ref a),some (.ref b),some (.ref c)]) (by rfl) hy
  show GU m 1 [some (.ref t),some (.ref p1),some (.ref q1),some (.ref r1)] (upd Hn R (.lst ([p1,q1,r1].map V.ref)))+GU m 2 [some (.ref t),some (.ref p1),some (.ref q1),some (.ref r1)] (upd Hn R (.lst ([p1,q1,r1].map V.ref)))<GU m 1 [some (.ref t),some (.ref a),some (.ref b),some (.ref c)] H'+GU m 2 [some (.ref t),some (.ref a),some (.ref b),some (.ref c)] H'
  rw[m1,m2,m3,m4]
  have n1:0<=ay m x1 x1:=dM Po x1
  have n2:0<=ay m y1 y1:=dM Po y1
  have n3:0<=ay m x x:=dM Po x
  have n4:0<=ay m y y:=dM Po y
  have ps:ay m x' x'+ay m y' y'<=ay m x x+ay m y y:=pr.sum
  have sm:ay m x1 x1+ay m y1 y1<=ay m x' x'+ay m z' z':=sum
  have lt:ay m z' z'<ay m y' y':=lt
  omega
inductive Hs(T2 T1 T0:Addr)(vs:List V)(H:Hp)(Q:VK)(E:XK):Prop
 |mk(t:Addr)(bs:List Addr)(m:List (List Int))(_:vs=[.ref t])(_:Tab H t bs m)(_:cj m)(_:Bd 440 m)(_:cH m)(_:cu m=true)(_:(aC m).natAbs<2^440)(_:H T2=some (dW T2))(_:H T1=some (dW T1))(_:H T0=some .yw)(_:∀u us r rs B P H',j3 (dS m B) ->(aC B=1∨aC B= -1) ->aC (dS m B)=aC m->cj B->Bd 700 B->av H H'->H' P=some (.tup [.ref u,.ref r]) ->Tab H' u us (dS m B) ->Tab H' r rs B->Q (.ref P) H')
theorem JO{aF bg bI:Addr}(F:fm K mg "near" Be tY)(lI:dh P w K mg base cS 9 "near_basis" gJ (CZ aF bg))(ju:dh P w K mg base cS 9 "carried" jt (qv bI)):dh P w K mg base cS 10 "near" tY (Hs bI aF bg):=by
 refine F.ok CW (λvs H Q E h=> ?_) (λf cdv A outer s H vs Q E hr h=> ?_)
 ·obtain⟨t,bs,m,rfl,hT,b8,hB,ev,ab,bD,hM,hP,hC,q⟩:=h
  rfl
 obtain⟨t,bs,m,rfl,hT,b8,hB,ev,ab,bD,hM,hP,hC,q⟩:=h
 have hu:=hr.units
 refine⟨_,(lY (@az _ _ _ _ _ (aU (i:=1) CW.nd rfl (Or.inl rfl) (aM lI hr rfl aL (af (pv 0) ak)))
  (@aN _ _ _ (aT (g8 (af (aM ju hr rfl aL (af (pv 0) (af (pv 1) ak))) (af (pv 1) ak))))))),?_⟩
 have Po:=jq (eL ev b8) ab
 refine⟨_,rfl,t,bs,m,rfl,hT,b8,hB,ev,ab,bD,hP,hC,λr a b c x y z H1 nr s1 fr er hx hy hz=> ?_⟩
 obtain⟨f1,f2,f3⟩:=Hf nr
 have bits:∀v:Nat->Int,3*aQ m v<=16*aC m-> ∀i,i<3->(v i).natAbs<2^666:=λv hv i hi=>mH ev b8 ab hB (by have:=dM Po v;omega) hi
 obtain⟨nt,un,dt⟩:=AX ev b8 ab nr
 have TB:Tab H1 r [a,b,c] (eG x y z):=lq (λi j=>if i=0 then x j else if i=1 then y j else z j) er hx hy hz
 have bB:Bd 666 (eG x y z):=λi j hi hj=>by
  obtain⟨g0,g1,g2⟩:=m5 x y z hj
  rcases bH hi with rfl|rfl|rfl
  ·rw[g0];exact bits x f1 j hj
  ·rw[g1];exact bits y f2 j hj
  ·rw[g2];exact bits z f3 j hj
 refine⟨_,rfl,_,rfl,t,bs,m,r,[a,b,c],eG x y z,rfl,hT.same s1,TB,b8,cG _,hB.mono (by decide),bB.mono (by decide),s1 _ _ hM,λu us H2 s2 fu Rv nu Tu=> ?_⟩
 refine⟨_,rfl,(by show 2<=sizeLine;decide),λP Rz=> ?_⟩
 have uP:=av.up (o:= .tup [.ref u,.ref r]) Rz
 exact q u us r [a,b,c] (eG x y z) P _ nt un dt (cG _) (bB.mono (by decide)) (s1.trans (s2.trans uP)) ao (Tu.same uP) ((TB.same s2).same uP)
end
end CT
namespace L2
open PySem PySem.Spec PyProof.Rows
section
variable{X:Cx}
def OS:V->List V->Hp->VK->Prop:=λx vs H Q=> ∃i:Int,x= .int i/\vs=[]/\Q (.int ((Builtin.Int.intBits i:Nat):Int)) H
theorem JP:QE X "int.bit_length" OS:=by
 intro pins s σ H x vs v us Q I rx rv h
 obtain⟨i,rfl,rfl,q⟩:=h
 obtain⟨t,rfl⟩:=rx
 have Vp:=rv.zero
 subst Vp
 exact PyProof.Rows.call_int_bit_length ⟨.int _,H,I.tok _,⟨_,rfl⟩,q⟩
end
theorem zH{N:Int}(h:0<=N):N<2^(Builtin.Int.intBits N):=by
 unfold Builtin.Int.intBits
 by_cases c:(N==0)=true
 ·rw[if_pos c]
  have:N=0:=by simpa using c
  subst this
  decide
 ·rw[if_neg c]
  have n0:N.natAbs≠0:=by
   have:¬N=0:=by simpa using c
   omega
  have:=Nat.lt_log2_self (n:=N.natAbs)
  have e:((2^(N.natAbs.log2+1):Nat):Int)=2^(N.natAbs.log2+1):=by push_cast;rfl
  omega
theorem Bt{N:Int}(h:0<=N){r:Int}(r0:0<=r)(hr:r*r<=N):r<=1*2^((((Builtin.Int.intBits N:Nat):Int)+1)/2).toNat:=by
 have b:=zH h
 generalize Builtin.Int.intBits N=k at b ⊢
 have e:(((k:Int)+1)/2).toNat=(k+1)/2:=by omega
 rw[e,Int.one_mul]
 refine Int.le_of_lt_add_one (Int.lt_of_not_ge λz=> ?_)
 have p0:(0:Int)<=2^((k+1)/2):=Int.le_of_lt (Int.pow_pos (by decide))
 have s:((2:Int)^((k+1)/2)+1)*(2^((k+1)/2)+1)<=r*r:=Int.mul_le_mul z z (by omega) r0
 have q:(2:Int)^k<=2^((k+1)/2)*2^((k+1)/2):=by
  rw[<-Int.pow_add]
  exact_mod_cast Nat.pow_le_pow_right (n:=2) (by decide) (show k<=(k+1)/2+(k+1)/2 by omega)
 have e2:((2:Int)^((k+1)/2)+1)*(2^((k+1)/2)+1)=2^((k+1)/2)*2^((k+1)/2)+2*2^((k+1)/2)+1:=by grind
 omega
theorem Eo{N t:Int}(t0:0<t)(h:N<t*t)(N0:0<=N):(∀r,0<=r->r*r<=N->r<=(t+N/t)/2)/\(t+N/t)/2<t/\0<=(t+N/t)/2:=by
 have q0:0<=N/t:=Int.ediv_nonneg N0 (Int.le_of_lt t0)
 refine⟨λr r0 hr=> ?_,?_,by omega⟩
 ·have k:(2*r-t)*t<=N:=by
   have s:=bu (t-r)
   have e:(t-r)*(t-r)=t*t-2*(r*t)+r*r:=by grind
   have e2:(2*r-t)*t=2*(r*t) -t*t:=by grind
   omega
  have:2*r-t<=N/t:=(Int.le_ediv_iff_mul_le t0).mpr k
  omega
 ·have:N/t<t:=(Int.ediv_lt_iff_lt_mul t0).mpr h
  omega
theorem Ep{N t:Int}(t0:0<=t)(h:¬N<t*t)(up:∀r,0<=r->r*r<=N->r<=t):t*t<=N/\N<(t+1)*(t+1):=by
 refine⟨by omega,Int.lt_of_not_ge λz=> ?_⟩
 have:=up (t+1) (by omega) z
 omega
theorem wG{N a b:Int}(a0:0<=a)(b0:0<=b)(h1:a*a<=N)(h2:N<(b+1)*(b+1)):a<=b:=by
 refine Int.le_of_lt_add_one (Int.lt_of_not_ge λz=> ?_)
 have:=Int.mul_le_mul z z (show 0<=b+1 by omega) a0
 omega
end L2
set_option maxHeartbeats 1000000
namespace CT
open PySem L2
section
variable{P:Program}{w:World}{K:PySem.W.Frag}{mg:Str->Option Value}{base:Heap}
inductive Bu(vs:List V)(H:Hp)(Q:VK)(E:XK):Prop
 |mk(N:Int)(_:vs=[.int N])(_:0<=N)(_:N.natAbs<2^200)(_:∀r:Int,0<=r->r*r<=N->N<(r+1)*(r+1) ->Q (.int r) H)
theorem JQ(F:fm K mg "root" Bf qp):dh P w K mg base cS 1 "root" qp Bu:=by
 refine F.ok xS (λvs H Q E h=> ?_) (λf cdv A outer s H vs Q E hr h=> ?_)
 ·obtain⟨N,rfl,N0,bN,q⟩:=h
  rfl
 obtain⟨N,rfl,N0,bN,q⟩:=h
 have hu:=hr.units
 refine⟨_,(lY (@az _ _ _ _ _ (aU (i:=1) xS.nd rfl (Or.inl rfl) (aq Ls ah (aq eH (aq bJ (LC PySem.F.plainAttrs_int PyProof.Rows.slot_int_bit_length PyProof.Rows.type_int_bit_length JP (pv 0)) ah) ah)))
  (@az _ _ _ _ _ (sM PassesOwn.never (cB qX (aq aE (pv 1) (pv 1)) (pv 0) (cz _)) (cX (aU (i:=1) xS.nd rfl (Or.inl rfl) (aq eH (aq bJ (pv 1) (aq mz (pv 0) (pv 1))) ah))))
  (@aN _ _ _ (aT (pv 1)))))),?_⟩
 have b0:=zH N0
 have bits:Builtin.Int.intBits N<=200:=by
  unfold Builtin.Int.intBits
  split
  ·omega
  ·rename_i c
   have n0:N.natAbs≠0:=by
    have:¬N=0:=by simpa using c
    omega
   have:=(Nat.log2_lt n0).mpr bN
   omega
 have start:=λr r0 hr=>Bt N0 (r:=r) r0 hr
 have t0:(0:Int)<1*2^((((Builtin.Int.intBits N:Nat):Int)+1)/2).toNat:=by
  rw[Int.one_mul]
  exact Int.pow_pos (by decide)
 have t1:(1*2^((((Builtin.Int.intBits N:Nat):Int)+1)/2).toNat:Int).natAbs<2^110:=by
  have e:(((Builtin.Int.intBits N:Int))+1)/2<=100:=by omega
  rw[Int.one_mul,Int.natAbs_pow]
  exact Nat.pow_lt_pow_right (by decide) (by omega)
 refine⟨_,rfl,rfl,⟨N,rfl,rfl,_,_,rfl,rfl,_,_,rfl,rfl,⟨by decide,by decide⟩,_,_,rfl,rfl,⟨by omega,by omega,by decide⟩,?_⟩⟩
 have t0:=Int.le_of_lt t0
 refine sN (λσ H'=>H'=H/\ ∃t:Int,σ=[some (.int N),some (.int t)]/\0<=t/\t.natAbs<2^110/\ ∀r,0<=r->r*r<=N->r<=t) (λσ _=>match σ with| [_,some (.int t)]=>t.toNat|_=>0) ⟨rfl,_,rfl,t0,t1,start⟩ (λσ H' hh=> ?_) ?_
 rotate_left
 ·rintro σ H' Q Q' h ⟨v,e,v2,e',i,j,e1,e2,c,v3,e3,a,b,e4,e5,k,ek,kk⟩
  exact⟨v,e,v2,e',i,j,e1,e2,c,v3,e3,a,b,e4,e5,k,ek,h _ _ kk⟩
 obtain⟨rfl,t,rfl,t0,t1,up⟩:=hh
 refine⟨_,rfl,_,rfl,_,_,rfl,rfl,⟨aI t1 (by decide),aI t1 (by decide)⟩,_,rfl,_,_,rfl,rfl,_,rfl,lW (λc=> ?_) (λc=> ?_)⟩
 ·have c:N<t*t:=of_decide_eq_true c
  have tp:0<t:=by
   rcases Int.lt_or_le 0 t with z|z
   ·exact z
   ·exfalso
    have:t=0:=by omega
    rw[this]at c
    omega
  obtain⟨s1,s2,s3⟩:=Eo tp c N0
  have lg:t.natAbs.log2<9000:=(Nat.log2_lt (by omega)).mpr (Nat.lt_of_lt_of_le t1 (Nat.pow_le_pow_right (by decide) (by decide)))
  refine⟨_,rfl,_,rfl,_,rfl,_,_,rfl,rfl,⟨tp,lg⟩,_,_,rfl,rfl,_,_,rfl,rfl,⟨by decide,by decide⟩,⟨rfl,_,rfl,s3,by omega,s1⟩,?_⟩
  show((t+N/t)/2).toNat<t.toNat
  omega
 ·have c:¬N<t*t:=λz=>c (decide_eq_true z)
  obtain⟨d1,d2⟩:=Ep t0 c up
  exact⟨_,rfl,q t t0 d1 d2⟩
end
end CT
namespace L2
open PySem PySem.Spec PyProof.Rows
def dg(N:List (List Int)):Int:=ent N 0 0*ent N 1 1-ent N 0 1*ent N 0 1
def iM(N:List (List Int)):Int:=ent N 0 0*ent N 1 2-ent N 0 1*ent N 0 2
def hiT(N:List (List Int)):Int:=ent N 0 0*ent N 2 2-ent N 0 2*ent N 0 2
def kB(N:List (List Int))(n y z:Int):Int:=2*n*ent N 0 0- (dg N*y*y+2*iM N*y*z+hiT N*z*z)
def pY(N:List (List Int))(y z:Int):Int:=ent N 0 1*y+ent N 0 2*z
theorem m6{N:List (List Int)}(ev:cH N):dg N*hiT N-iM N*iM N=ent N 0 0*aC N:=by
 have JF:ent N 1 0=ent N 0 1:=ev.sym.1
 have JG:ent N 2 0=ent N 0 2:=ev.sym.2.1
 have JH:ent N 2 1=ent N 1 2:=ev.sym.2.2
 rw[dF,JF,JG,JH]
 unfold dg hiT iM
 grind
theorem qC{N:List (List Int)}(ev:cH N)(pos:0<ent N 0 0)(n:Int)(v:Nat->Int):cV N v=n↔(ent N 0 0*v 0+pY N (v 1) (v 2))*(ent N 0 0*v 0+pY N (v 1) (v 2))=kB N n (v 1) (v 2):=by
 have JF:ent N 1 0=ent N 0 1:=ev.sym.1
 have JG:ent N 2 0=ent N 0 2:=ev.sym.2.1
 have JH:ent N 2 1=ent N 1 2:=ev.sym.2.2
 have h:=fH ev v
 have id:ent N 0 0*ay N v v=(ent N 0 0*v 0+pY N (v 1) (v 2))*(ent N 0 0*v 0+pY N (v 1) (v 2))+(dg N*v 1*v 1+2*iM N*v 1*v 2+hiT N*v 2*v 2):=by
  rw[bC,JF,JG,JH]
  unfold pY dg iM hiT
  grind
 unfold kB
 generalize(ent N 0 0*v 0+pY N (v 1) (v 2))*(ent N 0 0*v 0+pY N (v 1) (v 2))=s at id ⊢
 generalize dg N*v 1*v 1+2*iM N*v 1*v 2+hiT N*v 2*v 2=t at id ⊢
 rw[h]at id
 have e:2*n*ent N 0 0=ent N 0 0*(2*n):=Int.mul_comm ..
 constructor
 ·intro z
  rw[z]at id
  omega
 ·intro z
  have:ent N 0 0*(2*cV N v)=ent N 0 0*(2*n):=by omega
  have:=Int.eq_of_mul_eq_mul_left (show ent N 0 0≠0 by omega) this
  omega
theorem uf{N:List (List Int)}(ev:cH N)(pos:0<ent N 0 0)(fl:0<dg N)(n y z:Int):0<=kB N n y z↔(dg N*y+iM N*z)*(dg N*y+iM N*z)<=dg N*(2*n*ent N 0 0) -ent N 0 0*aC N*z*z:=by
 have fh:=m6 ev
 have id:dg N*kB N n y z=dg N*(2*n*ent N 0 0) -ent N 0 0*aC N*z*z- (dg N*y+iM N*z)*(dg N*y+iM N*z):=by
  unfold kB
  rw[<-fh]
  generalize dg N=f,iM N=b,hiT N=h,2*n*ent N 0 0=w
  grind
 constructor
 ·intro h
  have:=Int.mul_nonneg (Int.le_of_lt fl) h
  omega
 ·intro h
  have h2:0<=dg N*kB N n y z:=by omega
  rcases Int.lt_or_le (kB N n y z) 0 with c|c
  ·exfalso
   have:=Int.mul_lt_mul_of_pos_left c fl
   omega
  ·exact c
theorem xX{N x s:Int}(s0:0<=s)(h1:s*s<=N)(h2:N<(s+1)*(s+1)):x*x<=N↔ -s<=x/\x<=s:=by
 constructor
 ·intro h
  rcases Int.le_total 0 x with c|c
  ·have:=wG c s0 h h2
   omega
  ·have:(-x)*(-x)<=N:=by
    have e:(-x)*(-x)=x*x:=by grind
    omega
   have:=wG (a:= -x) (by omega) s0 this h2
   omega
 ·rintro⟨a,b⟩
  have:=mK a b
  omega
theorem m7{f b z s y:Int}(hf:0<f):(-s<=f*y+b*z/\f*y+b*z<=s)↔(-((s+b*z)/f)<=y/\y<(s-b*z)/f+1):=by
 have e1:y<=(s-b*z)/f↔y*f<=s-b*z:=Int.le_ediv_iff_mul_le hf
 have e2: -y<=(s+b*z)/f↔ -y*f<=s+b*z:=Int.le_ediv_iff_mul_le hf
 have c1:y*f=f*y:=Int.mul_comm ..
 have c2: -y*f= -(f*y):=by rw[Int.neg_mul,c1]
 rw[c1]at e1
 rw[c2]at e2
 constructor
 ·rintro⟨h1,h2⟩
  have:=e1.mpr (by omega)
  have:=e2.mpr (by omega)
  omega
 ·rintro⟨h1,h2⟩
  have:=e1.mp (by omega)
  have:=e2.mp (by omega)
  omega
theorem aY{N:List (List Int)}(D:0<aC N)(fl:0<dg N){n R z:Int}(R0:0<=R)(h1:R*R<=2*n*dg N/aC N)(h2:2*n*dg N/aC N<(R+1)*(R+1)):(-R<=z/\z<=R)↔aC N*z*z<=2*n*dg N:=by
 rw[<-xX R0 h1 h2,Int.le_ediv_iff_mul_le D]
 have e:z*z*aC N=aC N*z*z:=by grind
 rw[e]
theorem eF{N:List (List Int)}(h:j3 N)(dD:aC N<=401):0<dg N/\0<aC N/\2<=ent N 0 0/\ent N 0 0<=2200/\ent N 1 1<=2200/\ent N 2 2<=2200/\3*dg N<=8*aC N/\3*ent N 0 0<=2*dg N:=by
 obtain⟨c1,c2,c3⟩:=ir h.ab
 have p:=h.pos
 have l1:=h.Mp
 have l2:=h.Mq
 obtain⟨_,a,b,c,ea,eb,ec⟩:=h.ev
 have f:=h.few
 have a2:2<=ent N 0 0:=by omega
 have b2:2<=ent N 1 1:=by omega
 have Vq:2<=ent N 2 2:=by omega
 have k1:2*2<=ent N 0 0*ent N 1 1:=Int.mul_le_mul a2 b2 (by omega) (by omega)
 have k2:4*ent N 2 2<=ent N 0 0*ent N 1 1*ent N 2 2:=Int.mul_le_mul_of_nonneg_right (by omega) (by omega)
 have sq:=mK h.p.1 h.p.2
 have e4:2*ent N 0 1*(2*ent N 0 1)=4*(ent N 0 1*ent N 0 1):=by grind
 have aa:ent N 0 0*ent N 0 0<=ent N 0 0*ent N 1 1:=Int.mul_le_mul_of_nonneg_left l1 (by omega)
 have s0:=bu (ent N 0 1)
 have k3:ent N 0 0*ent N 1 1*2<=ent N 0 0*ent N 1 1*ent N 2 2:=Int.mul_le_mul_of_nonneg_left Vq (by omega)
 have k4:ent N 0 0*2<=ent N 0 0*ent N 1 1:=Int.mul_le_mul_of_nonneg_left b2 (by omega)
 unfold dg
 refine⟨by omega,c3,a2,by omega,by omega,by omega,by omega,by omega⟩
theorem Ht{N:List (List Int)}(h:j3 N)(dD:aC N<=401){n R:Int}(n0:0<=n)(n6:n<=1100)(R0:0<=R)(h1:R*R<=2*n*dg N/aC N):R<=76:=by
 obtain⟨f0,d0,_,_,_,_,k,_⟩:=eF h dD
 have:2*n*dg N/aC N<=5867:=by
  refine Int.le_of_lt_add_one ((Int.ediv_lt_iff_lt_mul d0).mpr ?_)
  have e:2*n*dg N<=2200*dg N:=Int.mul_le_mul_of_nonneg_right (by omega) (Int.le_of_lt f0)
  omega
 refine Int.le_of_lt_add_one (Int.lt_of_not_ge λz=> ?_)
 have:=Int.mul_le_mul z z (by decide) R0
 omega
theorem JR{N:List (List Int)}(h:j3 N)(dD:aC N<=401){n z s:Int}(n0:0<=n)(n6:n<=1100)(s0:0<=s)(h1:s*s<=dg N*(2*n*ent N 0 0) -ent N 0 0*aC N*z*z):s<=39*dg N:=by
 obtain⟨f0,d0,a2,_,_,_,_,k⟩:=eF h dD
 have zz:0<=ent N 0 0*aC N*z*z:=by
  have:=Int.mul_nonneg (Int.mul_nonneg (show 0<=ent N 0 0 by omega) (Int.le_of_lt d0)) (bu z)
  rw[<-Int.mul_assoc]at this
  exact this
 have w:2*n*ent N 0 0<=2200*ent N 0 0:=Int.mul_le_mul_of_nonneg_right (by omega) (by omega)
 have w2:2*n*ent N 0 0<=1467*dg N:=by omega
 have w3:dg N*(2*n*ent N 0 0)<=dg N*(1467*dg N):=Int.mul_le_mul_of_nonneg_left w2 (Int.le_of_lt f0)
 refine Int.le_of_lt_add_one (Int.lt_of_not_ge λy=> ?_)
 have:=Int.mul_le_mul y y (by omega) s0
 have e1:(39*dg N+1)*(39*dg N+1)=1521*(dg N*dg N)+78*dg N+1:=by grind
 have e2:dg N*(1467*dg N)=1467*(dg N*dg N):=by grind
 have ff:=bu (dg N)
 omega
def gR(z y0:Int)(k:Nat):List (Int×Int):=(List.range k).map λj:Nat=>(y0+(j:Int),z)
def fO(lo:Int->Int)(ln:Int->Nat)(R:Int)(m:Nat):List (Int×Int):=(List.range m).flatMap λi:Nat=>gR ((i:Int) -R) (lo ((i:Int) -R)) (ln ((i:Int) -R))
theorem ug{z y0:Int}{k:Nat}{p:Int×Int}:p∈gR z y0 k↔p.2=z/\y0<=p.1/\p.1<y0+k:=by
 obtain⟨y,z'⟩:=p
 simp only[gR,List.mem_map,List.mem_range,Prod.mk.injEq]
 constructor
 ·rintro⟨j,hj,rfl,rfl⟩
  exact⟨rfl,by omega,by omega⟩
 ·rintro⟨rfl,h1,h2⟩
  exact⟨(y-y0).toNat,by omega,by omega,rfl⟩
theorem xY{z y0:Int}{k:Nat}:(gR z y0 k).Nodup:=by
 unfold gR List.Nodup
 rw[List.pairwise_map]
 refine List.Pairwise.imp ?_ (List.nodup_range (n:=k))
 intro a b h e
 have:=(Prod.mk.inj e).1
 omega
theorem zI{z y0:Int}{k:Nat}:gR z y0 (k+1)=gR z y0 k++ [(y0+(k:Int),z)]:=by
 simp[gR,List.range_succ]
theorem lJ{lo:Int->Int}{ln:Int->Nat}{R:Int}{m:Nat}:fO lo ln R (m+1)=fO lo ln R m++gR ((m:Int) -R) (lo ((m:Int) -R)) (ln ((m:Int) -R)):=by
 simp[fO,List.range_succ]
theorem rm{lo:Int->Int}{ln:Int->Nat}{R:Int}{m:Nat}{p:Int×Int}:p∈fO lo ln R m↔(-R<=p.2/\p.2<m-R)/\lo p.2<=p.1/\p.1<lo p.2+ln p.2:=by
 simp only[fO,List.mem_flatMap,List.mem_range,ug]
 constructor
 ·rintro⟨i,hi,e,h1,h2⟩
  rw[e]
  exact⟨⟨by omega,by omega⟩,h1,h2⟩
 ·rintro⟨⟨a,b⟩,h1,h2⟩
  have e:p.2=((p.2+R).toNat:Int) -R:=by omega
  exact⟨(p.2+R).toNat,by omega,e,e▸h1,e▸h2⟩
theorem vn{lo:Int->Int}{ln:Int->Nat}{R:Int}{m:Nat}:(fO lo ln R m).Nodup:=by
 induction m with
 |zero=>simp[fO]
 |succ m ih=>
  rw[lJ,List.nodup_append]
  refine⟨ih,xY,?_⟩
  intro a ha b hb e
  have h1:=(rm.mp ha).1.2
  have h2:=(ug.mp hb).1
  rw[e,h2]at h1
  omega
theorem uh{lo:Int->Int}{ln:Int->Nat}{R:Int}{m L:Nat}(h:∀i:Nat,i<m->ln ((i:Int) -R)<=L):(fO lo ln R m).length<=m*L:=by
 induction m with
 |zero=>simp[fO]
 |succ m ih=>
  rw[lJ,List.length_append,Nat.succ_mul]
  have h1:=ih λi hi=>h i (by omega)
  have h2:=h m (by omega)
  simp only[gR,List.length_map,List.length_range]
  omega
theorem zJ{N:List (List Int)}(ev:cH N)(pos:0<ent N 0 0)(fl:0<dg N)(D:0<aC N){n R:Int}(R0:0<=R)(h1:R*R<=2*n*dg N/aC N)(h2:2*n*dg N/aC N<(R+1)*(R+1)){sp:Int->Int}(s0:∀z,-R<=z->z<=R->0<=sp z/\sp z*sp z<=dg N*(2*n*ent N 0 0) -ent N 0 0*aC N*z*z/\dg N*(2*n*ent N 0 0) -ent N 0 0*aC N*z*z<(sp z+1)*(sp z+1))(y z:Int):
  (y,z)∈fO (λz=> -((sp z+iM N*z)/dg N)) (λz=>((sp z-iM N*z)/dg N+1- -((sp z+iM N*z)/dg N)).toNat) R (2*R+1).toNat↔0<=kB N n y z:=by
 rw[rm]
 simp only
 have zr:=aY D fl (n:=n) (z:=z) R0 h1 h2
 constructor
 ·rintro⟨⟨a,b⟩,c,d⟩
  have zb:z<=R:=by omega
  obtain⟨t0,t1,t2⟩:=s0 z a zb
  rw[uf ev pos fl,xX t0 t1 t2]
  refine(m7 fl).mpr ⟨c,?_⟩
  omega
 ·intro h
  rw[uf ev pos fl]at h
  have zz:aC N*z*z<=2*n*dg N:=by
   have q:=bu (dg N*y+iM N*z)
   have e:ent N 0 0*(aC N*z*z)<=ent N 0 0*(2*n*dg N):=by
    have:ent N 0 0*aC N*z*z=ent N 0 0*(aC N*z*z):=by grind
    have:dg N*(2*n*ent N 0 0)=ent N 0 0*(2*n*dg N):=by grind
    omega
   exact Int.le_of_mul_le_mul_left e pos
  obtain⟨a,b⟩:=zr.mpr zz
  obtain⟨t0,t1,t2⟩:=s0 z a b
  rw[xX t0 t1 t2]at h
  obtain⟨c,d⟩:=(m7 fl).mp h
  refine⟨⟨a,by omega⟩,c,by omega⟩
theorem Mt{X r r':Int}(h0:0<=r)(h1:r*r<=X)(h2:X<(r+1)*(r+1))(g0:0<=r')(g1:r'*r'<=X)(g2:X<(r'+1)*(r'+1)):r=r':=by
 rcases Int.lt_trichotomy r r' with c|c|c
 ·have:(r+1)*(r+1)<=r'*r':=Int.mul_le_mul (by omega) (by omega) (by omega) (by omega)
  omega
 ·exact c
 ·have:(r'+1)*(r'+1)<=r*r:=Int.mul_le_mul (by omega) (by omega) (by omega) (by omega)
  omega
open Classical in
noncomputable def lX(X:Int):Int:=if h:∃r:Int,0<=r/\r*r<=X/\X<(r+1)*(r+1)then Classical.choose h else 0
theorem r9{X r:Int}(h0:0<=r)(h1:r*r<=X)(h2:X<(r+1)*(r+1)):lX X=r:=by
 have h:∃r:Int,0<=r/\r*r<=X/\X<(r+1)*(r+1):=⟨r,h0,h1,h2⟩
 unfold lX
 rw[dif_pos h]
 obtain⟨g0,g1,g2⟩:=Classical.choose_spec h
 exact Mt g0 g1 g2 h0 h1 h2
theorem Er(n:Nat):∃r:Int,0<=r/\r*r<=(n:Int)/\(n:Int)<(r+1)*(r+1):=by
 induction n with
 |zero=>exact⟨0,by decide,by decide,by decide⟩
 |succ n ih=>
  obtain⟨r,h0,h1,h2⟩:=ih
  by_cases c:((n+1:Nat):Int)<(r+1)*(r+1)
  ·exact⟨r,h0,by omega,c⟩
  ·refine⟨r+1,by omega,by omega,?_⟩
   have e:(r+1+1)*(r+1+1)=(r+1)*(r+1)+2*r+3:=by grind
   omega
theorem qD{X:Int}(h:0<=X):0<=lX X/\lX X*lX X<=X/\X<(lX X+1)*(lX X+1):=by
 obtain⟨r,h0,h1,h2⟩:=Er X.toNat
 have e:(X.toNat:Int)=X:=Int.toNat_of_nonneg h
 rw[e]at h1 h2
 rw[r9 h0 h1 h2]
 exact⟨h0,h1,h2⟩
def SD(D:Addr)(H H':Hp):Prop:=∀a o,a≠D->H a=some o->H' a=some o
theorem SD.refl{D:Addr}{H:Hp}:SD D H H:=λ_ _ _ e=>e
theorem SD.trans{D:Addr}{H H' Ox:Hp}(h:SD D H H')(h':SD D H' Ox):SD D H Ox:=λa o n e=>h' a o n (h a o n e)
theorem SD.of{D:Addr}{H H':Hp}(s:av H H'):SD D H H':=λa o _ e=>s _ _ e
theorem SD.upd{D:Addr}{H H':Hp}{o:HO}(h:SD D H H'):SD D H (upd H' D o):=λa o n e=>by rw[aD n];exact h a o n e
theorem SD.same{D:Addr}{H H':Hp}(h:SD D H H')(f:H D=none):av H H':=λa o e=>h a o (λz=>by rw[z,f]at e;cases e) e
def OT(N:List (List Int))(n:Int)(p:Int×Int):List V:=[.int p.1,.int p.2,.int (pY N p.1 p.2),.int (kB N n p.1 p.2)]
inductive dP(H:Hp)(N:List (List Int))(n:Int):List V->List (Int×Int) ->Prop
 |nil:dP H N n [] []
 |cons{a:Addr}{us:List V}{p:Int×Int}{ps:List (Int×Int)}:H a=some (.tup (OT N n p)) ->dP H N n us ps->dP H N n (.ref a::us) (p::ps)
theorem dP.same{H H':Hp}{N:List (List Int)}{n:Int}{us:List V}{ps:List (Int×Int)}(s:av H H')(h:dP H N n us ps):dP H' N n us ps:=by
 induction h with
 |nil=>exact .nil
 |cons e _ ih=>exact .cons (s _ _ e) ih
theorem dP.upd{H:Hp}{N:List (List Int)}{n:Int}{us:List V}{ps:List (Int×Int)}{D:Addr}{xs:List V}{o:HO}(hD:H D=some (.lst xs))(h:dP H N n us ps):dP (upd H D o) N n us ps:=by
 induction h with
 |nil=>exact .nil
 |cons e _ ih=>exact .cons (by rw[aD (λz=>by rw[z,hD]at e;cases e)];exact e) ih
theorem dP.append{H:Hp}{N:List (List Int)}{n:Int}{us us':List V}{ps ps':List (Int×Int)}(h:dP H N n us ps)(h':dP H N n us' ps'):dP H N n (us++us') (ps++ps'):=by
 induction h with
 |nil=>exact h'
 |cons e _ ih=>exact .cons e ih
theorem dP.length{H:Hp}{N:List (List Int)}{n:Int}{us:List V}{ps:List (Int×Int)}(h:dP H N n us ps):us.length=ps.length:=by
 induction h with
 |nil=>rfl
 |cons _ _ ih=>simp[ih]
theorem ng{a b:Int}{A B:Nat}(ha:a.natAbs<=A)(hb:b.natAbs<=B):(a*b).natAbs<=A*B:=by
 rw[Int.natAbs_mul]
 exact Nat.mul_le_mul ha hb
theorem OU{x f:Int}(hf:0<f)(h:x.natAbs<=10000000000):(x/f).natAbs<=10000000000:=by
 have h1: -10000000000<=x/f:=(Int.le_ediv_iff_mul_le hf).mpr (by omega)
 have h2:x/f<10000000000+1:=(Int.ediv_lt_iff_lt_mul hf).mpr (by omega)
 omega
theorem Tn{x:Int}(h:x.natAbs<=10^30):x.natAbs<2^4096:=Nat.lt_of_le_of_lt h (Nat.lt_of_lt_of_le (m:=2^100) (by decide) (Nat.pow_le_pow_right (by decide) (by decide)))
theorem se{te:TE}{i:Nat}{b:TS}{D:Ends}{σ:St}{H H':Hp}{v:V}(h:∀R:VK,R v H'->te σ H R)(k:b D (σ.set i (some v)) H'):Ai (yC te (cO i)) b D σ H:=h _ k
end L2
set_option maxHeartbeats 1000000
namespace CT
open PySem L2
section
variable{P:Program}{w:World}{K:PySem.W.Frag}{mg:Str->Option Value}{base:Heap}
inductive zK(vs:List V)(H:Hp)(Q:VK)(E:XK):Prop
 |mk(t:Addr)(bs:List Addr)(N:List (List Int))(n:Int)(_:vs=[.ref t,.int n])(_:Tab H t bs N)(_:cj N)(_:cH N)(_:Bd 700 N)(_:j3 N)(_:aC N<=401)(_:0<=n)(_:n<=1100)(_:∀(u:Addr) (us:List V) (L:List (Int×Int)) (H':Hp),av H H'->H' u=some (.lst us) ->dP H' N n us L->L.Nodup->(∀y z,(y,z)∈L↔0<=kB N n y z) ->L.length<=12100->Q (.ref u) H')
theorem Es(F:fm K mg "slices" tZ mO)(aY:mg "range"=none)(cy:dh P w K mg base cS 3 "determinant" dR zy)(ou:dh P w K mg base cS 3 "root" qp Bu):dh P w K mg base cS 4 "slices" mO zK:=by
 refine F.ok cP (λvs H Q E h=> ?_) (λf cdv A outer s H vs Q E hr h=> ?_)
 ·obtain⟨t,bs,N,n,rfl,hT,b8,ev,bN,NT,dD,n0,n6,q⟩:=h
  rfl
 obtain⟨t,bs,N,n,rfl,hT,b8,ev,bN,NT,dD,n0,n6,q⟩:=h
 have hu:=hr.units
 refine⟨_,(lY (@az _ _ _ _ _ (gp (pv 0) (iD rfl (aG (iD rfl (aG (aH (i:=2) cP.nd rfl (Or.inl rfl)) (aG (aH (i:=3) cP.nd rfl (Or.inl rfl)) (aG (aH (i:=4) cP.nd rfl (Or.inl rfl)) dO)))) (aG (aH (i:=5) cP.nd rfl (Or.inl rfl)) (aG (aH (i:=6) cP.nd rfl (Or.inl rfl)) dO)))))
  (@az _ _ _ _ _ (aU (i:=7) cP.nd rfl (Or.inl rfl) (aq dw (aq aE (pv 2) (aJ aA (pv 5) ah (λ_ _=>rfl))) (aq aE (pv 3) (pv 3))))
  (@az _ _ _ _ _ (aU (i:=8) cP.nd rfl (Or.inl rfl) (aq dw (aq aE (pv 2) (aJ aA (pv 5) ah (λ_ _=>rfl))) (aq aE (pv 3) (pv 4))))
  (@az _ _ _ _ _ (aU (i:=9) cP.nd rfl (Or.inl rfl) (aq dw (aq aE (pv 2) (aJ aA (pv 6) ah (λ_ _=>rfl))) (aq aE (pv 4) (pv 4))))
  (@az _ _ _ _ _ (aU (i:=10) cP.nd rfl (Or.inl rfl) (aM cy hr rfl aL (af (pv 0) ak)))
  (@az _ _ _ _ _ (aU (i:=11) cP.nd rfl (Or.inl rfl) (aq aE (aq aE ah (pv 1)) (pv 2)))
  (@az _ _ _ _ _ (aU (i:=12) cP.nd rfl (Or.inl rfl) (dG ak))
  (@az _ _ _ _ _ (aU (i:=13) cP.nd rfl (Or.inl rfl) (aM ou hr rfl aL (af (aq eH (aq aE (aq aE ah (pv 1)) (pv 7)) (pv 10)) ak)))
  (@az _ _ _ _ _ (gZ PassesOwn.never rfl (vM rfl aY (af (yF sO (pv 13)) (af (aq bJ (pv 13) ah) ak))) (aH (i:=14) cP.nd rfl (Or.inl rfl)) (lY (@az _ _ _ _ _ (aU (i:=15) cP.nd rfl (Or.inl rfl) (aM ou hr rfl aL (af (aq dw (aq aE (pv 7) (pv 11)) (aq aE (aq aE (aq aE (pv 2) (pv 10)) (pv 14)) (pv 14))) ak)))
  (@aN _ _ _ (gZ PassesOwn.never rfl (vM rfl aY (af (yF sO (aq eH (aq bJ (pv 15) (aq aE (pv 8) (pv 14))) (pv 7))) (af (aq bJ (aq eH (aq dw (pv 15) (aq aE (pv 8) (pv 14))) (pv 7)) ah) ak))) (aH (i:=16) cP.nd rfl (Or.inl rfl)) (lY (@az _ _ _ _ _ (aU (i:=17) cP.nd rfl (Or.inl rfl) (aq dw (pv 11) (aq bJ (aq bJ (aq aE (aq aE (pv 7) (pv 16)) (pv 16)) (aq aE (aq aE (aq aE ah (pv 8)) (pv 16)) (pv 14))) (aq aE (aq aE (pv 9) (pv 14)) (pv 14)))))
  (@aN _ _ _ (rY (Fx PySem.F.plainAttrs_list PySem.F.slot_list_append PySem.F.type_list_append jo (pv 12) (af (g8 (af (pv 16) (af (pv 14) (af (aq bJ (aq aE (pv 3) (pv 16)) (aq aE (pv 4) (pv 14))) (af (pv 17) ak))))) ak)))))))))))
  (@aN _ _ _ (aT (pv 12))))))))))))),?_⟩
 obtain⟨c0,c1,c2,rfl,x0,x1,x2⟩:=t8 hT b8
 obtain⟨fl,D0,a2,Ik,Mu,JS,f8,fa⟩:=eF NT dD
 have k1:=xx (λc=>ent N 1 c) (c:=1) (by decide)
 have k2:=xx (λc=>ent N 1 c) (c:=2) (by decide)
 have k3:=xx (λc=>ent N 2 c) (c:=2) (by decide)
 have b:∀i j,i<3->j<3->(ent N i j).natAbs<2^4096:=λi j hi hj=>aI (bN i j hi hj) (by decide)
 refine⟨_,rfl,t,_,rfl,aW.of hT.1,rfl,_,_,rfl,c0,_,rfl,aW.of x0,rfl,_,_,rfl,_,_,rfl,_,_,rfl,rfl,_,_,rfl,_,_,rfl,rfl,?_⟩
 have l1:=NT.Mp
 have l2:=NT.Mq
 have tx:∀x:Int,0<=x->x<=1000000000000->x.natAbs<2^40:=λx h0 h1=>by omega
 have tw:∀x:Int,0<=x->x<=1000000000000->x.natAbs<2^4096:=λx h0 h1=>Nat.lt_of_lt_of_le (tx x h0 h1) (Nat.pow_le_pow_right (by decide) (by decide))
 with_reducible apply se
 ·exact λR hR=>⟨_,rfl,_,rfl,c1,_,_,_,rfl,rfl,aW.of x1,k1,_,_,rfl,rfl,⟨b 0 0 (by decide) (by decide),b 1 1 (by decide) (by decide)⟩,_,rfl,_,rfl,_,_,rfl,rfl,⟨b 0 1 (by decide) (by decide),b 0 1 (by decide) (by decide)⟩,_,_,rfl,rfl,hR⟩
 with_reducible apply se
 ·exact λR hR=>⟨_,rfl,_,rfl,c1,_,_,_,rfl,rfl,aW.of x1,k2,_,_,rfl,rfl,⟨b 0 0 (by decide) (by decide),b 1 2 (by decide) (by decide)⟩,_,rfl,_,rfl,_,_,rfl,rfl,⟨b 0 1 (by decide) (by decide),b 0 2 (by decide) (by decide)⟩,_,_,rfl,rfl,hR⟩
 with_reducible apply se
 ·exact λR hR=>⟨_,rfl,_,rfl,c2,_,_,_,rfl,rfl,aW.of x2,k3,_,_,rfl,rfl,⟨b 0 0 (by decide) (by decide),b 2 2 (by decide) (by decide)⟩,_,rfl,_,rfl,_,_,rfl,rfl,⟨b 0 2 (by decide) (by decide),b 0 2 (by decide) (by decide)⟩,_,_,rfl,rfl,hR⟩
 refine⟨_,rfl,t,_,N,rfl,hT,b8,bN.mono (by decide),trivial,λH1 s1=> ?_⟩
 refine⟨_,rfl,_,_,rfl,rfl,⟨by show(2:Int).natAbs<2^4096;exact tw 2 (by decide) (by decide),tw n n0 (by omega)⟩,_,rfl,_,_,rfl,rfl,⟨tw _ (by omega) (by omega),b 0 0 (by decide) (by decide)⟩,?_⟩
 refine⟨by decide,λD hD=> ?_⟩
 refine⟨_,rfl,_,_,rfl,rfl,⟨tw 2 (by decide) (by decide),tw n n0 (by omega)⟩,_,rfl,_,_,rfl,rfl,⟨tw _ (by omega) (by omega),tw (dg N) (by omega) (by omega)⟩,?_⟩
 have nf:n*dg N<=1100*1069:=Int.mul_le_mul n6 (by omega) (by omega) (by decide)
 have Wc:0<=n*dg N:=Int.mul_nonneg n0 (by omega)
 have en:2*n*dg N=2*(n*dg N):=Int.mul_assoc _ _ _
 have X0:0<=2*n*dg N/aC N:=Int.ediv_nonneg (by omega) (by omega)
 have X1:2*n*dg N/aC N<=2*n*dg N:=Int.ediv_le_self _ (by omega)
 have bb:iM N*iM N<=1069*4840000:=by
  have h:=m6 ev
  have h1:0<=ent N 0 0*aC N:=Int.mul_nonneg (by omega) (by omega)
  have h2:hiT N<=4840000:=by
   have h3:ent N 0 0*ent N 2 2<=2200*2200:=Int.mul_le_mul Ik JS (by omega) (by omega)
   have h4:=bu (ent N 0 2)
   unfold hiT
   omega
  have h5:dg N*hiT N<=dg N*4840000:=Int.mul_le_mul_of_nonneg_left h2 (by omega)
  omega
 have bn: -100000<=iM N/\iM N<=100000:=by
  constructor
  ·refine Classical.byContradiction λz=> ?_
   have:100000*100000<= -iM N* -iM N:=Int.mul_le_mul (by omega) (by omega) (by omega) (by omega)
   rw[Int.neg_mul_neg]at this
   omega
  ·refine Classical.byContradiction λz=> ?_
   have:100000*100000<=iM N*iM N:=Int.mul_le_mul (by omega) (by omega) (by omega) (by omega)
   omega
 refine⟨_,rfl,_,_,rfl,rfl,⟨D0,Int.lt_of_le_of_lt dD (by decide)⟩,2*n*dg N/aC N,rfl,X0,(by have:=tx _ X0 (Int.le_trans X1 (by omega));exact Nat.lt_of_lt_of_le this (by decide)),λR R0 r1 r2=> ?_⟩
 have Wd:=Ht NT dD n0 n6 R0 r1
 obtain⟨sp,Tq⟩:∃sp:Int->Int,sp=λz=>lX (dg N*(2*n*ent N 0 0) -ent N 0 0*aC N*z*z):=⟨_,rfl⟩
 have Tt:∀z,-R<=z->z<=R->0<=dg N*(2*n*ent N 0 0) -ent N 0 0*aC N*z*z:=λz z0 z1=>by
  have h:=(L2.aY D0 fl R0 r1 r2).mp ⟨z0,z1⟩
  have h1:=Int.mul_le_mul_of_nonneg_left h (show 0<=ent N 0 0 by omega)
  have h2:ent N 0 0*aC N*z*z=ent N 0 0*(aC N*z*z):=by grind
  have h3:dg N*(2*n*ent N 0 0)=ent N 0 0*(2*n*dg N):=by grind
  omega
 have s0:∀z,-R<=z->z<=R->0<=sp z/\sp z*sp z<=dg N*(2*n*ent N 0 0) -ent N 0 0*aC N*z*z/\dg N*(2*n*ent N 0 0) -ent N 0 0*aC N*z*z<(sp z+1)*(sp z+1):=λz z0 z1=>by
  rw[Tq]
  exact qD (Tt z z0 z1)
 have sS:∀z,-R<=z->z<=R->sp z<=39*dg N:=λz z0 z1=>JR NT dD n0 n6 (s0 z z0 z1).1 (s0 z z0 z1).2.1
 obtain⟨lo,Tv⟩:∃lo:Int->Int,lo=λz=> -((sp z+iM N*z)/dg N):=⟨_,rfl⟩
 obtain⟨ln,RE⟩:∃ln:Int->Nat,ln=λz=>((sp z-iM N*z)/dg N+1- -((sp z+iM N*z)/dg N)).toNat:=⟨_,rfl⟩
 have OV:∀y z,(y,z)∈fO lo ln R (2*R+1).toNat↔0<=kB N n y z:=λy z=>by
  rw[Tv,RE]
  exact zJ ev (by omega) fl D0 R0 r1 r2 s0 y z
 have OW:∀z,-R<=z->z<=R->ln z<=79:=λz z0 z1=>by
  have h:=sS z z0 z1
  have h1:(sp z-iM N*z)/dg N*dg N<=sp z-iM N*z:=Int.ediv_mul_le _ (by omega)
  have h2:(sp z+iM N*z)/dg N*dg N<=sp z+iM N*z:=Int.ediv_mul_le _ (by omega)
  have h3:((sp z-iM N*z)/dg N+(sp z+iM N*z)/dg N)*dg N<=78*dg N:=by
   rw[Int.add_mul]
   omega
  have h4:=Int.le_of_mul_le_mul_right h3 fl
  rw[RE]
  show((sp z-iM N*z)/dg N+1- -((sp z+iM N*z)/dg N)).toNat<=79
  omega
 have OX:∀m:Nat,(m:Int)<=2*R+1->(fO lo ln R m).length<=m*79:=λm hm=>uh λi hi=>OW _ (by omega) (by omega)
 refine⟨_,rfl,_,rfl,_,rfl,_,_,rfl,rfl,_,_,rfl,⟨by omega,by omega,by omega,by omega⟩,?_⟩
 refine gy (λi σ H'=> ∃o1 o2 o3 o4 us,σ=[some (.ref t),some (.int n),some (.int (ent N 0 0)),some (.int (ent N 0 1)),some (.int (ent N 0 2)),some (.ref c1),some (.ref c2),some (.int (dg N)),some (.int (iM N)),some (.int (hiT N)),some (.int (aC N)),some (.int (2*n*ent N 0 0)),some (.ref D),some (.int R),o1,o2,o3,o4]/\SD D H1 H'/\H' D=some (.lst us)/\dP H' N n us (fO lo ln R i)) ⟨_,_,_,_,_,rfl,SD.refl.upd,ao,.nil⟩ (λi σ H' hi hh=> ?_) (λσ H' hh=> ?_)
 ·obtain⟨o1,o2,o3,o4,us,rfl,sD,eD,tu⟩:=hh
  obtain⟨z,ez⟩:∃z:Int,z=(i:Int) -R:=⟨_,rfl⟩
  have Vr: -R+(i:Int)=z:=by omega
  rw[Vr]
  have z0: -R<=z:=by omega
  have z1:z<=R:=by omega
  have nz:z.natAbs<=76:=by omega
  have PK:(dg N).natAbs<=1069:=by omega
  have Nf:(iM N).natAbs<=100000:=by omega
  have na:(ent N 0 0).natAbs<=2200:=by omega
  have nD:(aC N).natAbs<=401:=by omega
  have nm:(2*n*ent N 0 0).natAbs<=2200*2200:=ng (by omega) na
  have Tz:=ng na nD
  have OY:=ng Tz nz
  have We:=ng Nf nz
  have Vs:(dg N*(2*n*ent N 0 0) -ent N 0 0*aC N*z*z).natAbs<2^200:=by
   have h1:=ng PK nm
   have h2:=ng OY nz
   exact Nat.lt_of_le_of_lt (m:=10^20) (by omega) (by decide)
  have nhi:(hiT N).natAbs<=30000000:=by
   have h1:=ng na (show(ent N 2 2).natAbs<=2200 by omega)
   have hu:=NT.u
   have h2:=ng (show(ent N 0 2).natAbs<=4400 by omega) (show(ent N 0 2).natAbs<=4400 by omega)
   unfold hiT
   omega
  have C:∀{x:Int}{A:Nat},x.natAbs<=A->A<=10^30->x.natAbs<2^4096:=λh g=>Tn (Nat.le_trans h g)
  refine⟨_,rfl,_,rfl,_,_,rfl,rfl,⟨C PK (by decide),C nm (by decide)⟩,_,rfl,_,rfl,_,_,rfl,rfl,⟨C na (by decide),C nD (by decide)⟩,_,rfl,_,_,rfl,rfl,⟨C Tz (by decide),C nz (by decide)⟩,_,rfl,_,_,rfl,rfl,⟨C OY (by decide),C nz (by decide)⟩,_,_,rfl,rfl,_,rfl,Tt z z0 z1,Vs,λw h0 h1 h2=> ?_⟩
  have es:w=sp z:=by rw[Tq];exact(r9 h0 h1 h2).symm
  have wS:=sS z z0 z1
  rw[<-es]at wS
  have q1:=OU (x:=w+iM N*z) fl (by omega)
  have q2:=OU (x:=w-iM N*z) fl (by omega)
  refine⟨_,rfl,_,rfl,_,rfl,_,_,rfl,rfl,⟨C Nf (by decide),C nz (by decide)⟩,_,_,rfl,rfl,_,rfl,_,_,rfl,rfl,⟨fl,by omega⟩,_,rfl,?_⟩
  refine⟨_,rfl,_,rfl,_,rfl,_,_,rfl,rfl,⟨C Nf (by decide),C nz (by decide)⟩,_,_,rfl,rfl,_,rfl,_,_,rfl,rfl,⟨fl,by omega⟩,_,_,rfl,rfl,_,_,rfl,⟨by omega,by omega,by omega,by omega⟩,?_⟩
  have Wf:lo z= -((w+iM N*z)/dg N):=by rw[Tv,es]
  have Vt:ln z=((w-iM N*z)/dg N+1- -((w+iM N*z)/dg N)).toNat:=by rw[RE,es]
  have Wg:=OW z z0 z1
  have li:=OX i (by omega)
  refine gy (λj σ H2=> ∃o3 o4 us',σ=[some (.ref t),some (.int n),some (.int (ent N 0 0)),some (.int (ent N 0 1)),some (.int (ent N 0 2)),some (.ref c1),some (.ref c2),some (.int (dg N)),some (.int (iM N)),some (.int (hiT N)),some (.int (aC N)),some (.int (2*n*ent N 0 0)),some (.ref D),some (.int R),some (.int z),some (.int w),o3,o4]/\SD D H1 H2/\H2 D=some (.lst us')/\dP H2 N n us' (fO lo ln R i++gR z (lo z) j)) ⟨_,_,_,rfl,sD,eD,by simpa [gR]using tu⟩ (λj σ H2 hj hh=> ?_) (λσ H2 hh=> ?_)
  ·obtain⟨o3,o4,us',rfl,RG,Et,PL⟩:=hh
   obtain⟨y,ey⟩:∃y:Int,y=lo z+(j:Int):=⟨_,rfl⟩
   have Vu: -((w+iM N*z)/dg N)+(j:Int)=y:=by omega
   rw[Vu]
   have ny:y.natAbs<=20000000000:=by omega
   have Vv:=ng PK ny
   have Vw:=ng (ng (show(2:Int).natAbs<=2 by decide) Nf) ny
   have Vx:=ng nhi nz
   have hp:=NT.p
   have hu:=NT.u
   have np:(ent N 0 1).natAbs<=2200:=by omega
   have nq:(ent N 0 2).natAbs<=4400:=by omega
   show Ai _ _ _ _ _
   with_reducible apply se
   ·exact λR hR=>⟨_,rfl,_,rfl,_,rfl,_,_,rfl,rfl,⟨C PK (by decide),C ny (by decide)⟩,_,rfl,_,_,rfl,rfl,⟨C Vv (by decide),C ny (by decide)⟩,_,rfl,_,_,rfl,rfl,⟨C (A:=2) (by decide) (by decide),C Nf (by decide)⟩,_,rfl,_,_,rfl,rfl,⟨C (ng (show(2:Int).natAbs<=2 by decide) Nf) (by decide),C ny (by decide)⟩,_,rfl,_,_,rfl,rfl,⟨C Vw (by decide),C nz (by decide)⟩,_,_,rfl,rfl,_,rfl,_,rfl,_,_,rfl,rfl,⟨C nhi (by decide),C nz (by decide)⟩,_,rfl,_,_,rfl,rfl,⟨C Vx (by decide),C nz (by decide)⟩,_,_,rfl,rfl,_,_,rfl,rfl,hR⟩
   refine⟨_,rfl,.inl ⟨rfl,_,aW.of Et⟩,_,rfl,_,rfl,_,rfl,_,rfl,_,_,rfl,rfl,⟨C np (by decide),C ny (by decide)⟩,_,rfl,_,rfl,_,_,rfl,rfl,⟨C nq (by decide),C nz (by decide)⟩,_,_,rfl,rfl,_,rfl,(by show 4<=sizeLine;decide),λb hb=> ?_⟩
   have ul:us'.length<sizeLine:=by
    have:=PL.length
    rw[List.length_append]at this
    have h2:(gR z (lo z) j).length=j:=by simp[gR]
    show us'.length<16777216
    omega
   have TF:b≠D:=λz=>by rw[z,Et]at hb;cases hb
   refine⟨D,us',.ref b,rfl,rfl,by rw[aD (λz=>TF z.symm)];exact Et,ul,?_⟩
   refine⟨_,_,_,rfl,(SD.trans RG (SD.of (av.up hb))).upd,ao,?_⟩
   rw[zI,<-List.append_assoc]
   refine dP.upd (by rw[aD (λz=>TF z.symm)];exact Et) ((PL.same (av.up hb)).append (.cons ?_ .nil))
   rw[ao,<-ey]
   rfl
  ·obtain⟨o3,o4,us',rfl,RG,Et,PL⟩:=hh
   refine⟨_,_,_,_,_,rfl,RG,Et,?_⟩
   rw[lJ,<-ez,Vt]
   exact PL
 ·obtain⟨o1,o2,o3,o4,us,rfl,sD,eD,tu⟩:=hh
  refine⟨_,rfl,?_⟩
  have nd:=OX (2*R+1).toNat (by omega)
  refine q D us _ H' ?_ eD ?_ vn OV (by omega)
  ·exact λa o e=>(sD.same hD) a o (s1 _ _ e)
  ·have e:(R+1- -R).toNat=(2*R+1).toNat:=by omega
   rw[<-e]
   exact tu
end
end CT
namespace L2
open PySem PySem.Spec PyProof.Rows PySem.SeqAt
noncomputable def gS:Int:=2^1001
theorem Dc:gS=2*((2^1000:Nat):Int):=by
 unfold gS
 rw[show(1001:Nat)=1000+1 from rfl,Int.pow_succ,Int.mul_comm]
 congr 1
noncomputable def vp(r:List Int):Int:=aR r 0*(gS*gS)+aR r 1*gS+aR r 2
def mR(r:List Int):Prop:=∀i,i<3->(aR r i).natAbs<2^1000
theorem zL{B u v w:Int}(hB:0<B)(hu:1<=u)(hv: -(B-1)<=v)(hw: -(B-1)<=w):0<u*(B*B)+v*B+w:=by
 have h1:0<=B*B:=Int.mul_nonneg (by omega) (by omega)
 have h2:1*(B*B)<=u*(B*B):=Int.mul_le_mul_of_nonneg_right hu h1
 have h3: -(B-1)*B<=v*B:=Int.mul_le_mul_of_nonneg_right hv (by omega)
 have h4: -(B-1)*B=B-B*B:=by rw[Int.neg_mul,Int.sub_mul];omega
 omega
theorem wH{B v w:Int}(hB:0<B)(hv:1<=v)(hw: -(B-1)<=w):0<v*B+w:=by
 have h2:1*B<=v*B:=Int.mul_le_mul_of_nonneg_right hv (by omega)
 omega
theorem JT{B x y z x' y' z':Int}(hB:0<B)(a1:y'-y<=B-1/\y-y'<=B-1)(a2:z'-z<=B-1/\z-z'<=B-1):
  (x*(B*B)+y*B+z<x'*(B*B)+y'*B+z')↔(x<x'∨(x=x'/\(y<y'∨(y=y'/\z<z')))):=by
 have d:x'*(B*B)+y'*B+z'- (x*(B*B)+y*B+z)=(x'-x)*(B*B)+(y'-y)*B+(z'-z):=by grind
 have d':x*(B*B)+y*B+z- (x'*(B*B)+y'*B+z')=(x-x')*(B*B)+(y-y')*B+(z-z'):=by grind
 rcases Int.lt_trichotomy x x' with h|h|h
 ·have:=zL (u:=x'-x) (v:=y'-y) (w:=z'-z) hB (by omega) (by omega) (by omega)
  exact⟨λ_=> .inl h,λ_=>by omega⟩
 ·subst h
  rw[Int.sub_self,Int.zero_mul,Int.zero_add]at d d'
  rcases Int.lt_trichotomy y y' with h|h|h
  ·have:=wH (v:=y'-y) (w:=z'-z) hB (by omega) (by omega)
   exact⟨λ_=> .inr ⟨rfl,.inl h⟩,λ_=>by omega⟩
  ·subst h
   constructor
   ·intro _;exact .inr ⟨rfl,.inr ⟨rfl,by omega⟩⟩
   ·rintro(z|⟨_,z|⟨_,z⟩⟩)<;>omega
  ·have:=wH (v:=y-y') (w:=z-z') hB (by omega) (by omega)
   constructor
   ·intro _;omega
   ·rintro(z|⟨_,z|⟨z,_⟩⟩)<;>omega
 ·have:=zL (u:=x-x') (v:=y-y') (w:=z-z') hB (by omega) (by omega) (by omega)
  constructor
  ·intro _;omega
  ·rintro(z|⟨z,_⟩)<;>omega
theorem pR:0<gS:=by
 rw[Dc]
 have:0<2^1000:=Nat.pow_pos (by decide)
 omega
theorem gb{a b:Int}(ha:a.natAbs<2^1000)(hb:b.natAbs<2^1000):a-b<=gS-1/\b-a<=gS-1:=by
 rw[Dc]
 omega
theorem JU{x y z x' y' z':Int}(a1:y.natAbs<2^1000)(a2:z.natAbs<2^1000)(b1:y'.natAbs<2^1000)(b2:z'.natAbs<2^1000):
  GK (.list [.int x,.int y,.int z]) (.list [.int x',.int y',.int z'])=decide (x*(gS*gS)+y*gS+z<x'*(gS*gS)+y'*gS+z'):=by
 have e1:∀a b:Int,PyData.eqv (.int a) (.int b)=decide (a=b):=λa b=>rfl
 have e:=JT (x:=x) (x':=x') pR (gb b1 a1) (gb b2 a2)
 rw[Bool.eq_iff_iff,decide_eq_true_iff,e]
 simp only[GK,nO,e1]
 by_cases h1:x=x'
 ·by_cases h2:y=y'
  ·by_cases h3:z=z'
   ·simp[h1,h2,h3]
   ·simp[h1,h2,h3]
  ·simp[h1,h2]
 ·simp[h1]
theorem zM{K:PySem.W.Frag}{H:Hp}{p:Addr}{as:List Addr}{Q:VK}(hp:aW K H p (as.map V.ref))(ok:fS H as)(sm:∀b∈as,mR (dJ H b))
  (q:∀bs:List Addr,bs.Perm as->(rws H bs).Pairwise (λr s=>vp r<=vp s) -> ∀l,H l=none->Q (.ref l) (upd H l (.lst (bs.map V.ref)))):xK K [.ref p] H Q:=by
 refine⟨p,as,λa=>vp (dJ H a),λa=> .list [.int (aR (dJ H a) 0),.int (aR (dJ H a) 1),.int (aR (dJ H a) 2)],rfl,hp,λa ha=>⟨?_,nL [aR (dJ H a) 0,aR (dJ H a) 1,aR (dJ H a) 2]⟩,.inl λa ha b hb=>⟨.lst (.cons (.int _ _) (.cons (.int _ _) (.cons (.int _ _) .nil))),?_⟩,λbs pb so l hl=> ?_⟩
 ·exact .lst (aW.of (ok a ha).1) (.cons (.int _) (.cons (.int _) (.cons (.int _) .nil)))
 ·exact JU (sm a ha 1 (by decide)) (sm a ha 2 (by decide)) (sm b hb 1 (by decide)) (sm b hb 2 (by decide))
 ·exact q bs pb (by unfold rws;rw[List.pairwise_map];exact so) l hl
end L2
namespace L2
open PySem
noncomputable section
def dQ(s:Int):List Int:=if 0<s then [s,-s]else [0]
def bW(N:List (List Int))(p:Int×Int)(ks:List Int):List (List Int):=ks.flatMap λk=>if(k-pY N p.1 p.2)%ent N 0 0=0 then [[(k-pY N p.1 p.2)/ent N 0 0,p.1,p.2]]else []
def eZ(N:List (List Int))(n:Int)(p:Int×Int):List (List Int):=if lX (kB N n p.1 p.2)*lX (kB N n p.1 p.2)=kB N n p.1 p.2 then bW N p (dQ (lX (kB N n p.1 p.2)))else []
theorem rq{s k:Int}(h:0<=s):k∈dQ s↔k*k=s*s:=by
 unfold dQ
 have key:k*k=s*s↔k=s∨k= -s:=by
  constructor
  ·intro e
   have:(k-s)*(k+s)=0:=by grind
   rcases Int.mul_eq_zero.mp this with z|z<;>omega
  ·rintro(rfl|rfl)<;>grind
 rw[key]
 split
 ·simp
 ·have:s=0:=by omega
  simp[this]
theorem jm{N:List (List Int)}(pos:0<ent N 0 0){p:Int×Int}{ks:List Int}{r:List Int}:r∈bW N p ks↔ ∃x,r=[x,p.1,p.2]/\ent N 0 0*x+pY N p.1 p.2∈ks:=by
 unfold bW
 rw[List.mem_flatMap]
 constructor
 ·rintro⟨k,hk,h⟩
  split at h
  ·rename_i e
   rw[List.mem_singleton]at h
   refine⟨_,h,?_⟩
   have:=Int.mul_ediv_cancel' (Int.dvd_of_emod_eq_zero e)
   rw[this]
   rwa [Int.sub_add_cancel]
  ·cases h
 ·rintro⟨x,rfl,h⟩
  refine⟨_,h,?_⟩
  rw[Int.add_sub_cancel,if_pos (Int.mul_emod_right _ _),Int.mul_ediv_cancel_left _ (by omega)]
  simp
theorem lK{N:List (List Int)}(pos:0<ent N 0 0){n:Int}{p:Int×Int}(h0:0<=kB N n p.1 p.2){r:List Int}:r∈eZ N n p↔ ∃x,r=[x,p.1,p.2]/\(ent N 0 0*x+pY N p.1 p.2)*(ent N 0 0*x+pY N p.1 p.2)=kB N n p.1 p.2:=by
 obtain⟨s0,s1,s2⟩:=qD h0
 unfold eZ
 split
 ·rename_i e
  rw[jm pos]
  constructor
  ·rintro⟨x,e1,h⟩
   exact⟨x,e1,((rq s0).mp h).trans e⟩
  ·rintro⟨x,e1,h⟩
   exact⟨x,e1,(rq s0).mpr (h.trans e.symm)⟩
 ·rename_i e
  constructor
  ·intro h;cases h
  ·rintro⟨x,_,h⟩
   exfalso
   apply e
   have key:∀u:Int,0<=u->u*u=kB N n p.1 p.2->lX (kB N n p.1 p.2)=u:=λu u0 ue=>r9 u0 (by omega) (by rw[<-ue];exact(by grind:(u+1)*(u+1)=u*u+2*u+1)▸(by omega))
   rcases Int.le_total 0 (ent N 0 0*x+pY N p.1 p.2)with u0|u0
   ·rw[key _ u0 h];exact h
   ·have h':(-(ent N 0 0*x+pY N p.1 p.2))*(-(ent N 0 0*x+pY N p.1 p.2))=kB N n p.1 p.2:=by rw[Int.neg_mul_neg];exact h
    rw[key _ (by omega) h'];exact h'
theorem mS{N:List (List Int)}(pos:0<ent N 0 0){p:Int×Int}:∀{ks:List Int},ks.Nodup->(bW N p ks).Nodup
 | [],_=>List.nodup_nil
 |k::ks,h=>by
  obtain⟨h1,h2⟩:=List.nodup_cons.mp h
  have e:bW N p (k::ks)=bW N p [k]++bW N p ks:=by simp[bW]
  rw[e]
  refine List.nodup_append.mpr ⟨?_,mS pos h2,λa ha b hb e=> ?_⟩
  ·unfold bW
   simp only[List.flatMap_cons,List.flatMap_nil,List.append_nil]
   split<;>simp
  ·subst e
   obtain⟨x,rfl,m1⟩:=(jm pos).mp ha
   obtain⟨x',e',m2⟩:=(jm pos).mp hb
   cases e'
   rw[List.mem_singleton]at m1
   rw[m1]at m2
   exact h1 m2
theorem xZ{N:List (List Int)}(pos:0<ent N 0 0){n:Int}{p:Int×Int}:(eZ N n p).Nodup:=by
 unfold eZ
 split
 ·refine mS pos ?_
  unfold dQ
  split
  ·simp;omega
  ·simp
 ·exact List.nodup_nil
theorem vq{N:List (List Int)}{n:Int}{p:Int×Int}:(eZ N n p).length<=2:=by
 unfold eZ
 have one:∀k,(if(k-pY N p.1 p.2)%ent N 0 0=0 then [[(k-pY N p.1 p.2)/ent N 0 0,p.1,p.2]]else([]:List (List Int))).length<=1:=λk=>by split<;>simp
 split
 ·unfold bW dQ
  split
  ·simp only[List.flatMap_cons,List.flatMap_nil,List.append_nil,List.length_append]
   have:=one (lX (kB N n p.1 p.2))
   have:=one (-lX (kB N n p.1 p.2))
   omega
  ·simp only[List.flatMap_cons,List.flatMap_nil,List.append_nil]
   have:=one 0
   omega
 ·simp
def fM(N:List (List Int))(n:Int)(L:List (List Int)):Prop:=L.Nodup/\(∀r∈L,∃v:Nat->Int,r=[v 0,v 1,v 2])/\ ∀v:Nat->Int,[v 0,v 1,v 2]∈L↔cV N v=n
theorem fM.perm{N:List (List Int)}{n:Int}{L L':List (List Int)}(h:fM N n L)(p:L'.Perm L):fM N n L':=
 ⟨p.nodup_iff.mpr h.1,λr hr=>h.2.1 r (p.mem_iff.mp hr),λv=>p.mem_iff.trans (h.2.2 v)⟩
theorem vt{N:List (List Int)}(ev:cH N)(pos:0<ent N 0 0){n:Int}{ps:List (Int×Int)}(nd:ps.Nodup)(h:∀y z,(y,z)∈ps↔0<=kB N n y z):fM N n (ps.flatMap (eZ N n)):=by
 have sq:∀u:Int,0<=u*u:=λu=>by
  rcases Int.le_total 0 u with z|z
  ·exact Int.mul_nonneg z z
  ·rw[<-Int.neg_mul_neg];exact Int.mul_nonneg (by omega) (by omega)
 refine⟨?_,λr hr=> ?_,λv=> ?_⟩
 ·clear h
  induction ps with
  |nil=>exact List.nodup_nil
  |cons p ps ih=>
   obtain⟨h1,h2⟩:=List.nodup_cons.mp nd
   rw[List.flatMap_cons]
   refine List.nodup_append.mpr ⟨xZ pos,ih h2,λa ha b hb e=> ?_⟩
   subst e
   obtain⟨p',kW,hb⟩:=List.mem_flatMap.mp hb
   have at_:∀{p:Int×Int},a∈eZ N n p-> ∃x,a=[x,p.1,p.2]:=λ {p} ha=>by
    unfold eZ at ha
    split at ha
    ·obtain⟨x,e,_⟩:=(jm pos).mp ha
     exact⟨x,e⟩
    ·cases ha
   obtain⟨x,e1⟩:=at_ ha
   obtain⟨x',e2⟩:=at_ hb
   rw[e1]at e2
   injection e2 with _ e3
   injection e3 with e4 e5
   injection e5 with e6 _
   have:p=p':=Prod.ext e4 e6
   rw[this]at h1
   exact h1 kW
 ·obtain⟨p,hp,hr⟩:=List.mem_flatMap.mp hr
  obtain⟨x,e,_⟩:=(lK pos ((h p.1 p.2).mp hp)).mp hr
  exact⟨λi=>match i with|0=>x|1=>p.1|_=>p.2,e⟩
 ·rw[qC ev pos,List.mem_flatMap]
  constructor
  ·rintro⟨p,hp,hr⟩
   obtain⟨x,e,k⟩:=(lK pos ((h p.1 p.2).mp hp)).mp hr
   injection e with e1 e
   injection e with e2 e
   injection e with e3 _
   rw[e1,e2,e3]
   exact k
  ·intro k
   have l0:0<=kB N n (v 1) (v 2):=by rw[<-k];exact sq _
   exact⟨(v 1,v 2),(h _ _).mpr l0,(lK (p:=(v 1,v 2)) pos l0).mpr ⟨v 0,rfl,k⟩⟩
theorem dP.sd{H H':Hp}{N:List (List Int)}{n:Int}{us:List V}{ps:List (Int×Int)}{D:Addr}{xs:List V}(hD:H D=some (.lst xs))(s:SD D H H')(h:dP H N n us ps):dP H' N n us ps:=by
 induction h with
 |nil=>exact .nil
 |cons e _ ih=>exact .cons (s _ _ (λz=>by rw[z,hD]at e;cases e) e) ih
theorem dP.get{H:Hp}{N:List (List Int)}{n:Int}{us:List V}{ps:List (Int×Int)}(h:dP H N n us ps):∀{i:Nat}{x:V},us[i]?=some x-> ∃a p,x= .ref a/\ps[i]?=some p/\H a=some (.tup (OT N n p)):=by
 induction h with
 |nil=>intro i x h;simp at h
 | @cons a us p ps e _ ih=>
  intro i x h
  match i,h with
  |0,h=>cases h;exact⟨a,p,rfl,rfl,e⟩
  |i+1,h=>obtain⟨a,p,e1,e2,e3⟩:=ih (i:=i) (by simpa using h);exact⟨a,p,e1,by simpa using e2,e3⟩
theorem Hu{te:TE}{i:Nat}{b:TS}{D:Ends}{σ:St}{H:Hp}(P:V->Hp->Prop)(h:∀R:VK,(∀v H',P v H'->R v H') ->te σ H R)(k:∀v H',P v H'->b D (σ.set i (some v)) H'):Ai (yC te (cO i)) b D σ H:=h _ k
theorem Hv{t:TS}{b:TS}{D:Ends}{σ:St}{H:Hp}(P:St->Hp->Prop)(h:∀R:St->Hp->Prop,(∀σ' H',P σ' H'->R σ' H') ->t {D with nx:=R} σ H)(k:∀σ' H',P σ' H'->b D σ' H'):Ai t b D σ H:=h _ k
theorem um{N:List (List Int)}(ev:cH N)(h:j3 N)(dD:aC N<=401){n y z:Int}(n0:0<=n)(n6:n<=1100)(l:0<=kB N n y z):y.natAbs<=10^10/\z.natAbs<=10^5/\kB N n y z<=4840000:=by
 obtain⟨fl,D0,a2,Ik,Mu,JS,f8,fa⟩:=eF h dD
 have l1:=h.Mp
 have l2:=h.Mq
 have g:=(uf ev (by omega) fl n y z).mp l
 have sq:∀u:Int,0<=u*u:=λu=>by
  rcases Int.le_total 0 u with z|z
  ·exact Int.mul_nonneg z z
  ·rw[<-Int.neg_mul_neg];exact Int.mul_nonneg (by omega) (by omega)
 have n1:n*ent N 0 0<=1100*2200:=Int.mul_le_mul n6 Ik (by omega) (by decide)
 have n2:0<=n*ent N 0 0:=Int.mul_nonneg n0 (by omega)
 have n3:dg N*(2*n*ent N 0 0)<=1069*4840000:=Int.mul_le_mul (by omega) (by rw[Int.mul_assoc];omega) (by rw[Int.mul_assoc];omega) (by decide)
 have e1:ent N 0 0*aC N*z*z=(ent N 0 0*aC N)*(z*z):=by grind
 have p1:1<=ent N 0 0*aC N:=Int.mul_pos (by omega) D0
 have p2:z*z<=(ent N 0 0*aC N)*(z*z):=by
  have:=Int.mul_le_mul_of_nonneg_right p1 (sq z)
  rwa [Int.one_mul]at this
 have root:∀(u X B:Int),u*u<=X->0<=B->X<B*B->u.natAbs<=B.natAbs:=λu X B h1 b0 h2=>by
  refine Classical.byContradiction λc=> ?_
  have:B.natAbs*B.natAbs<=u.natAbs*u.natAbs:=Nat.mul_le_mul (by omega) (by omega)
  have e:=Int.natAbs_mul_self (a:=u)
  have e':=Int.natAbs_mul_self (a:=B)
  omega
 have s1:=sq (dg N*y+iM N*z)
 have z1:z.natAbs<=80000:=root z (1069*4840000) 80000 (by omega) (by decide) (by decide)
 have w1:(dg N*y+iM N*z).natAbs<=80000:=root _ (1069*4840000) 80000 (by have:=sq z;omega) (by decide) (by decide)
 have q0:∀z w:Int,z*w=w*z:=Int.mul_comm
 have bb:iM N*iM N<=1069*4840000:=by
  have h:=m6 ev
  have h1:0<=ent N 0 0*aC N:=by omega
  have h2:hiT N<=4840000:=by
   have h3:ent N 0 0*ent N 2 2<=2200*2200:=Int.mul_le_mul Ik JS (by omega) (by omega)
   have h4:=sq (ent N 0 2)
   unfold hiT
   omega
  have h5:dg N*hiT N<=dg N*4840000:=Int.mul_le_mul_of_nonneg_left h2 (by omega)
  omega
 have bn:=root (iM N) (1069*4840000) 100000 bb (by decide) (by decide)
 have m1:=ng (show(iM N).natAbs<=100000 from bn) (show z.natAbs<=80000 from z1)
 have m2:y.natAbs<=(dg N*y).natAbs:=by
  rw[Int.natAbs_mul]
  exact Nat.le_mul_of_pos_left _ (by omega)
 have Wh:(dg N*y+iM N*z).natAbs<=80000:=w1
 have m3:(dg N*y).natAbs<=8100000000:=by omega
 refine⟨by omega,by omega,?_⟩
 have Wi:dg N*(2*n*ent N 0 0-kB N n y z)=(dg N*y+iM N*z)*(dg N*y+iM N*z)+(ent N 0 0*aC N)*(z*z):=by
  have h:=m6 ev
  rw[<-h]
  unfold kB
  grind
 have s2:=sq z
 have pos:0<=dg N*(2*n*ent N 0 0-kB N n y z):=by omega
 have:0<=2*n*ent N 0 0-kB N n y z:=by
  refine Classical.byContradiction λc=> ?_
  have h1:dg N*(2*n*ent N 0 0-kB N n y z)<0:=Int.mul_neg_of_pos_of_neg fl (by omega)
  omega
 have e4:2*n*ent N 0 0=2*(n*ent N 0 0):=Int.mul_assoc _ _ _
 omega
theorem zN{N:List (List Int)}(h:j3 N)(dD:aC N<=401){n:Int}(n0:0<=n)(n6:n<=1100){v:Nat->Int}(e:cV N v=n):∀i,i<3->(v i).natAbs<2^60:=by
 obtain⟨fl,D0,a2,Ik,Mu,JS,f8,fa⟩:=eF h dD
 have k:=(qC h.ev h.pos n v).mp e
 have l0:0<=kB N n (v 1) (v 2):=by
  rw[<-k]
  rcases Int.le_total 0 (ent N 0 0*v 0+pY N (v 1) (v 2))with z|z
  ·exact Int.mul_nonneg z z
  ·rw[<-Int.neg_mul_neg];exact Int.mul_nonneg (by omega) (by omega)
 obtain⟨y1,z1,s1⟩:=um h.ev h dD n0 n6 l0
 have hp:=h.p
 have hu:=h.u
 have m1:=ng (show(ent N 0 1).natAbs<=2200 by omega) y1
 have m2:=ng (show(ent N 0 2).natAbs<=4400 by omega) z1
 have w1:(ent N 0 0*v 0+pY N (v 1) (v 2)).natAbs<=10000:=by
  refine Classical.byContradiction λc=> ?_
  have:10000*10000<=(ent N 0 0*v 0+pY N (v 1) (v 2)).natAbs*(ent N 0 0*v 0+pY N (v 1) (v 2)).natAbs:=Nat.mul_le_mul (by omega) (by omega)
  have e:=Int.natAbs_mul_self (a:=ent N 0 0*v 0+pY N (v 1) (v 2))
  omega
 have m3:(ent N 0 0*v 0).natAbs<=10^15:=by
  unfold pY at w1
  omega
 have m4:(v 0).natAbs<=(ent N 0 0*v 0).natAbs:=by
  rw[Int.natAbs_mul]
  exact Nat.le_mul_of_pos_left _ (by omega)
 intro i hi
 rcases bH hi with rfl|rfl|rfl
 ·exact Nat.lt_of_le_of_lt (Nat.le_trans m4 m3) (by decide)
 ·exact Nat.lt_of_le_of_lt y1 (by decide)
 ·exact Nat.lt_of_le_of_lt z1 (by decide)
theorem pT{N:List (List Int)}{p:Int×Int}:∀ks:List Int,(bW N p ks).length<=ks.length
 | []=>Nat.le_refl _
 |k::ks=>by
  have ih:=pT (N:=N) (p:=p) ks
  have e:bW N p (k::ks)=bW N p [k]++bW N p ks:=by simp[bW]
  have h1:(bW N p [k]).length<=1:=by
   unfold bW
   simp only[List.flatMap_cons,List.flatMap_nil,List.append_nil]
   split<;>simp
  rw[e,List.length_append,List.length_cons]
  omega
theorem pU{N:List (List Int)}{n:Int}:∀ps:List (Int×Int),(ps.flatMap (eZ N n)).length<=2*ps.length
 | []=>Nat.le_refl _
 |p::ps=>by
  have ih:=pU (N:=N) (n:=n) ps
  have h1:=vq (N:=N) (n:=n) (p:=p)
  rw[List.flatMap_cons,List.length_append,List.length_cons]
  omega
theorem Eu(w:Int):(dQ w).length<=2:=by
 unfold dQ
 split<;>simp
theorem fS.push{H:Hp}{D b:Addr}{as:List Addr}{x y z:Int}{o:HO}(ok:fS H as)(eD:H D=some (.lst (as.map V.ref)))(hb:H b=none)(bD:b≠D):
  fS (upd (upd H b (.lst [.int x,.int y,.int z])) D o) (as++ [b])/\rws (upd (upd H b (.lst [.int x,.int y,.int z])) D o) (as++ [b])=rws H as++ [[x,y,z]]:=by
 obtain⟨r1,r2⟩:=OP (H:=upd (upd H b (.lst [.int x,.int y,.int z])) D o) (b:=b) (x:=x) (y:=y) (z:=z) (by rw[aD bD];exact ao)
 obtain⟨k1,k2⟩:=ok.keep (H':=upd (upd H b (.lst [.int x,.int y,.int z])) D o) λc hc o' e=>by
  rw[aD (zo (ok c hc) eD),aD (λz=>by rw[z,hb]at e;cases e)]
  exact e
 refine⟨λc hc=> ?_,?_⟩
 ·rcases List.mem_append.mp hc with h|h
  ·exact k1 c h
  ·rw[List.mem_singleton.mp h];exact r1
 ·rw[AU,k2]
  show _++ [dJ _ b]=_
  rw[r2]
theorem fM.small{N:List (List Int)}(h:j3 N)(dD:aC N<=401){n:Int}(n0:0<=n)(n6:n<=1100){L:List (List Int)}(R:fM N n L):∀r∈L,r.length=3/\ ∀i,i<3->(aR r i).natAbs<2^60:=λr hr=>by
 obtain⟨v,rfl⟩:=R.2.1 r hr
 have e:=(R.2.2 v).mp hr
 have k:=zN h dD n0 n6 e
 refine⟨rfl,λi hi=> ?_⟩
 rcases bH hi with rfl|rfl|rfl<;>exact k _ (by decide)
theorem Hw{H:Hp}{as bs:List Addr}(p:bs.Perm as):(rws H bs).Perm (rws H as):=p.map _
theorem sf{H:Hp}{as:List Addr}{b:Addr}(h:b∈as):dJ H b∈rws H as:=List.mem_map.mpr ⟨b,h,rfl⟩
end
noncomputable section
theorem nodup_map_on{α β:Type}{f:α->β}:∀{L:List α},L.Nodup->(∀a∈L,∀b∈L,f a=f b->a=b) ->(L.map f).Nodup
 | [],_,_=>List.nodup_nil
 |a::L,h,k=>by
  obtain⟨h1,h2⟩:=List.nodup_cons.mp h
  rw[List.map_cons,List.nodup_cons]
  refine⟨λm=> ?_,nodup_map_on h2 λx hx y hy=>k x (List.mem_cons_of_mem _ hx) y (List.mem_cons_of_mem _ hy)⟩
  obtain⟨b,hb,e⟩:=List.mem_map.mp m
  have:=k b (List.mem_cons_of_mem _ hb) a List.mem_cons_self e
  rw[this]at hb
  exact h1 hb
theorem JV{N:List (List Int)}(h:j3 N)(dD:aC N<=401):Bd 700 N:=by
 obtain⟨fl,D0,a2,Ik,Mu,JS,f8,fa⟩:=eF h dD
 have l1:=h.Mp
 have l2:=h.Mq
 have hp:=h.p
 have hu:=h.u
 have hv:=h.v
 obtain⟨s1,s2,s3⟩:=h.ev.1
 intro i j hi hj
 refine Nat.lt_of_lt_of_le (m:=2^20) ?_ (Nat.pow_le_pow_right (by decide) (by decide))
 rcases bH hi with rfl|rfl|rfl<;>rcases bH hj with rfl|rfl|rfl<;>omega
end
noncomputable section
def nC(R:Int):List Int:=(List.range (2*R+1).toNat).map λi:Nat=>(i:Int) -R
theorem wI{R x:Int}(h:0<=R):x∈nC R↔ -R<=x/\x<=R:=by
 unfold nC
 rw[List.mem_map]
 constructor
 ·rintro⟨i,hi,rfl⟩
  rw[List.mem_range]at hi
  omega
 ·rintro⟨h1,h2⟩
  exact⟨(x+R).toNat,by rw[List.mem_range];omega,by omega⟩
theorem Ew{R:Int}:(nC R).length=(2*R+1).toNat:=by simp[nC]
theorem length_le_of_subset{α:Type}[DecidableEq α]:∀{L M:List α},L.Nodup->(∀x∈L,x∈M) ->L.length<=M.length
 | [],_,_,_=>Nat.zero_le _
 |a::L,M,h,k=>by
  obtain⟨h1,h2⟩:=List.nodup_cons.mp h
  have ha:=k a List.mem_cons_self
  have:=length_le_of_subset (L:=L) (M:=M.erase a) h2 λx hx=>(List.mem_erase_of_ne (show x≠a from λe=>h1 (by rw[<-e];exact hx))).mpr (k x (List.mem_cons_of_mem _ hx))
  rw[List.length_erase_of_mem ha]at this
  have:=List.length_pos_of_mem ha
  rw[List.length_cons]
  omega
theorem Hx{m:List (List Int)}(ev:cH m)(pos:0<ent m 0 0){n:Int}{R1 R2:Int}(r1:0<=R1)(r2:0<=R2)(b1:∀v,cV m v=n-> -R1<=v 1/\v 1<=R1)(b2:∀v,cV m v=n-> -R2<=v 2/\v 2<=R2){L:List (List Int)}(h:fM m n L):
  L.length<=2*((2*R1+1).toNat*(2*R2+1).toNat):=by
 have sub:∀r∈L,r∈((nC R1).flatMap λy=>(nC R2).map λz=>(y,z)).flatMap (eZ m n):=λr hr=>by
  obtain⟨v,rfl⟩:=h.2.1 r hr
  have e:=(h.2.2 v).mp hr
  have k:=(qC ev pos n v).mp e
  have l0:0<=kB m n (v 1) (v 2):=by rw[<-k];exact bu _
  refine List.mem_flatMap.mpr ⟨(v 1,v 2),List.mem_flatMap.mpr ⟨v 1,(wI r1).mpr (b1 v e),List.mem_map.mpr ⟨v 2,(wI r2).mpr (b2 v e),rfl⟩⟩,(lK (p:=(v 1,v 2)) pos l0).mpr ⟨v 0,rfl,k⟩⟩
 have le:=length_le_of_subset h.1 sub
 have l2:=pU (N:=m) (n:=n) ((nC R1).flatMap λy=>(nC R2).map λz=>(y,z))
 have l3:((nC R1).flatMap λy=>(nC R2).map λz=>(y,z)).length=(2*R1+1).toNat*(2*R2+1).toNat:=by
  rw[List.length_flatMap]
  simp only[List.length_map,Ew,List.map_const']
  rw[List.sum_replicate_nat]
 omega
end
noncomputable section
theorem wJ{m:List (List Int)}(ev:cH m)(b8:cj m)(ab:cu m=true){n:Int}{v:Nat->Int}(e:cV m v=n){i:Nat}(hi:i<3):aC m*(v i*v i)<=2*n*gX m i i:=by
 have k:=wm ev b8 ab v hi
 have pe:=fH ev v
 have:aQ m v=2*n:=by show ay m v v=_;rw[pe,e]
 rw[this]at k
 rw[Int.mul_comm (2*n)]
 exact k
theorem Dd{K:PySem.W.Frag}{H:Hp}{t t':Addr}{bs bs':List Addr}{m m':List (List Int)}{Q:VK}(h:Tab H t bs m)(h':Tab H t' bs' m')(q:Q (.bl (!decide (m=m'))) H):Ga K true (.ref t) (.ref t') H Q:=
 ⟨Aw m,Aw m',CA h,CA h',nK _,nK _,by rw[Ja];exact q⟩
theorem zO{H H':Hp}{a:Addr}{o:HO}(s:av H H')(f:H a=none):av H (upd H' a o):=λb o' e=>by rw[aD (λz=>by rw[z,f]at e;cases e)];exact s b o' e
theorem gN{i:Nat}{v:V}{σ:St}{H:Hp}{f bk ct:St->Hp->Prop}{rt:VK}(h:f (σ.set i (some v)) H):cO i v σ H (Ends.mk f rt bk ct).nx:=h
end
end L2
set_option maxHeartbeats 1000000
namespace CT
open PySem L2
section
variable{P:Program}{w:World}{K:PySem.W.Frag}{mg:Str->Option Value}{base:Heap}
inductive ow(vs:List V)(H:Hp)(Q:VK)(E:XK):Prop
 |mk(t:Addr)(bs:List Addr)(N:List (List Int))(n:Int)(_:vs=[.ref t,.int n])(_:Tab H t bs N)(_:cj N)(_:cH N)(_:Bd 700 N)(_:j3 N)(_:aC N<=401)(_:0<=n)(_:n<=1100)(_:∀(r:Addr) (as:List Addr) (H':Hp),av H H'->H r=none->(∀b∈as,H b=none) ->H' r=some (.lst (as.map V.ref)) ->fS H' as->fM N n (rws H' as) ->(rws H' as).Pairwise (λr s=>vp r<=vp s) ->as.length<=24200->Q (.ref r) H')
theorem x6(F:fm K mg "near_rows" mP iK)(gQ:mg "sorted"=none)(uo:dh P w K mg base cS 4 "slices" mO zK)(ou:dh P w K mg base cS 4 "root" qp Bu):dh P w K mg base cS 5 "near_rows" iK ow:=by
 refine F.ok cZ (λvs H Q E h=> ?_) (λf cdv A outer s H vs Q E hr h=> ?_)
 ·obtain⟨t,bs,N,n,rfl,hT,b8,ev,bN,NT,dD,n0,n6,q⟩:=h
  rfl
 obtain⟨t,bs,N,n,rfl,hT,b8,ev,bN,NT,dD,n0,n6,q⟩:=h
 have hu:=hr.units
 refine⟨_,(lY (@az _ _ _ _ _ (aU (i:=2) cZ.nd rfl (Or.inl rfl) (aJ aA (aJ aA (pv 0) ah (λ_ _=>rfl)) ah (λ_ _=>rfl)))
  (@az _ _ _ _ _ (aU (i:=3) cZ.nd rfl (Or.inl rfl) (dG ak))
  (@az _ _ _ _ _ (gZ PassesOwn.never rfl (eW (aM uo hr rfl aL (af (pv 0) (af (pv 1) ak)))) (kY rfl (aG (aH (i:=4) cZ.nd rfl (Or.inl rfl)) (aG (aH (i:=5) cZ.nd rfl (Or.inl rfl)) (aG (aH (i:=6) cZ.nd rfl (Or.inl rfl)) (aG (aH (i:=7) cZ.nd rfl (Or.inl rfl)) dO))))) (lY (@az _ _ _ _ _ (aU (i:=8) cZ.nd rfl (Or.inl rfl) (aM ou hr rfl aL (af (pv 7) ak)))
  (@aN _ _ _ (dI (cB vN (aq aE (pv 8) (pv 8)) (pv 7) (cz _)) (@az _ _ _ _ _ (aU (i:=9) cZ.nd rfl (Or.inl rfl) (Fb (cB qX (pv 8) ah (cz _)) (dG (af (pv 8) (af (yF sO (pv 8)) ak))) (dG (af ah ak))))
  (@aN _ _ _ (gZ PassesOwn.never rfl (eW (pv 9)) (aH (i:=10) cZ.nd rfl (Or.inl rfl)) (cX (dI (cB vN (aq g7 (aq dw (pv 10) (pv 6)) (pv 2)) ah (cz _)) (@aN _ _ _ (rY (Fx PySem.F.plainAttrs_list PySem.F.slot_list_append PySem.F.type_list_append jo (pv 3) (af (dG (af (aq eH (aq dw (pv 10) (pv 6)) (pv 2)) (af (pv 4) (af (pv 5) ak)))) ak)))) dH))))) dH)))))
  (@aN _ _ _ (aT (cF (rj (fj.CN hr)) rfl gQ PyProof.Rows.boot_sorted (af (pv 3) ak)))))))),?_⟩
 obtain⟨c0,c1,c2,rfl,x0,x1,x2⟩:=t8 hT b8
 obtain⟨fl,D0,a2,Ik,Mu,JS,f8,fa⟩:=eF NT dD
 refine⟨_,rfl,t,_,_,_,rfl,rfl,aW.of hT.1,rfl,c0,_,_,_,rfl,rfl,aW.of x0,rfl,?_⟩
 refine⟨by decide,λD hD=> ?_⟩
 have s0:av H (upd H D (.lst [])):=av.up hD
 refine⟨_,rfl,_,rfl,t,_,N,n,rfl,hT.same s0,b8,ev,bN,NT,dD,n0,n6,λu us L H1 s1 eu tu nd OV Wj=> ?_⟩
 have eD:H1 D=some (.lst []):=s1 _ _ ao
 have l0:0<us.length:=by
  have h:((0:Int),(0:Int))∈L:=(OV 0 0).mpr (by unfold kB;have:=Int.mul_nonneg n0 (show 0<=ent N 0 0 by omega);simp;rw[Int.mul_assoc];omega)
  rw[tu.length]
  exact List.length_pos_of_mem h
 have uD:u≠D:=λz=>by
  rw[z,eD]at eu
  cases eu
  exact Nat.lt_irrefl _ l0
 refine⟨u,rfl,⟨us,aW.of eu⟩,?_⟩
 refine l8 (xs:=us) (λi σ H'=> ∃o4 o5 o6 o7 o8 o9 wK as,σ=[some (.ref t),some (.int n),some (.int (ent N 0 0)),some (.ref D),o4,o5,o6,o7,o8,o9,wK]/\SD D H1 H'/\H' D=some (.lst (as.map V.ref))/\fS H' as/\(∀b∈as,H b=none)/\rws H' as=(L.take i).flatMap (eZ N n)) ⟨_,_,_,_,_,_,_,[],rfl,SD.refl,eD,λ_ h=>(nomatch h),λ_ h=>(nomatch h),rfl⟩ (λi σ H' hi hh=> ?_) (λi x σ H' hx hh=> ?_) (λσ H' hh=> ?_)
 ·obtain⟨o4,o5,o6,o7,o8,o9,wK,as,rfl,sD,Et,ok,fr,er⟩:=hh
  exact aW.of (sD _ _ uD eu)
 ·obtain⟨o4,o5,o6,o7,o8,o9,wK,as,rfl,sD,Et,ok,fr,er⟩:=hh
  obtain⟨a,p,rfl,hp,ea⟩:=(tu.sd eD sD).get hx
  have lp:0<=kB N n p.1 p.2:=(OV _ _).mp (List.mem_of_getElem? hp)
  obtain⟨yb,zb,lb⟩:=um ev NT dD n0 n6 lp
  refine⟨a,_,rfl,m8.of ea,rfl,_,_,rfl,_,_,rfl,_,_,rfl,_,_,rfl,rfl,?_⟩
  obtain⟨w0,w1,w2⟩:=qD lp
  have wb:lX (kB N n p.1 p.2)<=1000000000:=by
   refine Classical.byContradiction λc=> ?_
   have:1000000000*1000000000<=lX (kB N n p.1 p.2)*lX (kB N n p.1 p.2):=Int.mul_le_mul (by omega) (by omega) (by decide) (by omega)
   omega
  refine⟨_,rfl,_,rfl,lp,Nat.lt_of_le_of_lt (show(kB N n p.1 p.2).natAbs<=4840000 by omega) (by decide),λw h0 h1 h2=> ?_⟩
  obtain rfl:=r9 h0 h1 h2
  generalize ew:lX (kB N n p.1 p.2)=w at w0 w1 w2 wb h0 h1 h2 ⊢
  have wq:w.natAbs<2^4096:=Tn (show w.natAbs<=10^30 by omega)
  refine⟨_,rfl,_,rfl,_,_,rfl,rfl,⟨wq,wq⟩,_,rfl,rfl,_,rfl,?_⟩
  have tk:(L.take (i+1)).flatMap (eZ N n)=(L.take i).flatMap (eZ N n)++eZ N n p:=by
   rw[List.take_add_one,hp]
   simp
  refine lW (λc=> ?_) (λc=> ?_)
  ·have c':w*w=kB N n p.1 p.2:=V.int.inj (of_decide_eq_true c)
   with_reducible apply Hu (λv H2=> ∃S,v= .ref S/\H' S=none/\H2=upd H' S (.lst ((dQ w).map V.int)))
   ·intro R hR
    refine⟨_,rfl,_,_,rfl,rfl,_,rfl,?_⟩
    refine lW (λc=> ?_) (λc=> ?_)
    ·have c2:0<w:=of_decide_eq_true c
     refine⟨_,rfl,_,rfl,_,rfl,(by show 2<=sizeLine;decide),λS hS=>hR _ _ ⟨S,rfl,hS,?_⟩⟩
     unfold dQ
     rw[if_pos c2]
     rfl
    ·have c2:¬0<w:=λz=>c (decide_eq_true z)
     refine⟨by decide,λS hS=>hR _ _ ⟨S,rfl,hS,?_⟩⟩
     unfold dQ
     rw[if_neg c2]
     rfl
   ·rintro _ _ ⟨S,rfl,hS,rfl⟩
    have Vy:S≠D:=λz=>by rw[z,Et]at hS;cases hS
    have sS:av H' (upd H' S (.lst ((dQ w).map V.int))):=av.up hS
    obtain⟨OZ,Vz⟩:=ok.same sS
    refine⟨_,rfl,S,rfl,⟨_,aW.of ao⟩,?_⟩
    refine l8 (xs:=(dQ w).map V.int) (λj σ H2=> ∃wK as',σ=[some (.ref t),some (.int n),some (.int (ent N 0 0)),some (.ref D),some (.int p.1),some (.int p.2),some (.int (pY N p.1 p.2)),some (.int (kB N n p.1 p.2)),some (.int w),some (.ref S),wK]/\SD D (upd H' S (.lst ((dQ w).map V.int))) H2/\H2 D=some (.lst (as'.map V.ref))/\fS H2 as'/\(∀b∈as',H b=none)/\rws H2 as'=(L.take i).flatMap (eZ N n)++bW N p ((dQ w).take j)) ⟨_,as,rfl,SD.refl,sS _ _ Et,OZ,fr,by rw[Vz,er];simp[bW]⟩ (λj σ H2 hj hh=> ?_) (λj x σ H2 hx hh=> ?_) (λσ H2 hh=> ?_)
    ·obtain⟨wK,as',rfl,Mv,KR,Pa,wX,Ng⟩:=hh
     exact aW.of (Mv _ _ Vy ao)
    ·obtain⟨wK,as',rfl,Mv,KR,Pa,wX,Ng⟩:=hh
     obtain⟨k,rfl,hk⟩:∃k,x= .int k/\(dQ w)[j]?=some k:=by
      rw[List.getElem?_map]at hx
      cases e:(dQ w)[j]? with
      |none=>rw[e]at hx;cases hx
      |some k=>rw[e]at hx;cases hx;exact⟨k,rfl,rfl⟩
     have TH:bW N p ((dQ w).take (j+1))=bW N p ((dQ w).take j)++bW N p [k]:=by
      rw[List.take_add_one,hk]
      simp[bW]
     refine⟨_,rfl,_,rfl,_,_,rfl,rfl,_,rfl,_,_,rfl,rfl,(by show 0<ent N 0 0;omega),rfl,_,rfl,?_⟩
     refine lW (λc3=> ?_) (λc3=> ?_)
     ·have c4:(k-pY N p.1 p.2)%ent N 0 0=0:=V.int.inj (of_decide_eq_true c3)
      refine⟨_,rfl,.inl ⟨rfl,_,aW.of KR⟩,?_⟩
      refine⟨_,rfl,_,rfl,_,_,rfl,rfl,_,rfl,_,_,rfl,rfl,⟨by omega,by omega⟩,_,rfl,_,rfl,(by show 3<=sizeLine;decide),λb hb=> ?_⟩
      have ll:as'.length<sizeLine:=by
       have e:as'.length=(rws H2 as').length:=(List.length_map _).symm
       have h1:=pU (N:=N) (n:=n) (L.take i)
       have h2:=pT (N:=N) (p:=p) ((dQ w).take j)
       have h3:=Eu w
       rw[e,Ng,List.length_append]
       rw[List.length_take]at h1 h2
       show _<16777216
       omega
      have bD:b≠D:=λz=>by rw[z,KR]at hb;cases hb
      obtain⟨VA,VB⟩:=fS.push (o:= .lst (as'.map V.ref++ [V.ref b])) (x:=(k-pY N p.1 p.2)/ent N 0 0) (y:=p.1) (z:=p.2) Pa KR hb bD
      refine⟨D,as'.map V.ref,.ref b,rfl,rfl,by rw[aD (λz=>bD z.symm)];exact KR,(by rw[List.length_map];exact ll),?_⟩
      refine⟨_,as'++ [b],rfl,(Mv.trans (SD.of (av.up hb))).upd,?_,VA,λc hc=> ?_,?_⟩
      ·rw[List.map_append]
       exact ao
      ·rcases List.mem_append.mp hc with h|h
       ·exact wX c h
       ·rw[List.mem_singleton.mp h]
        have VC:av H H2:=λa o e=>((sD.trans (SD.of sS)).trans Mv) a o (λz=>by rw[z,hD]at e;cases e) (s1 _ _ (s0 _ _ e))
        exact VC.none hb
      ·rw[VB,Ng,TH,List.append_assoc]
       simp[bW,c4]
     ·have c4:¬(k-pY N p.1 p.2)%ent N 0 0=0:=λz=>c3 (by rw[z];exact decide_eq_true rfl)
      refine⟨_,as',rfl,Mv,KR,Pa,wX,?_⟩
      rw[TH,Ng]
      simp[bW,c4]
    ·obtain⟨wK,as',rfl,Mv,KR,Pa,wX,Ng⟩:=hh
     refine⟨_,_,_,_,_,_,_,as',rfl,(sD.trans (SD.of sS)).trans Mv,KR,Pa,wX,?_⟩
     rw[Ng,tk,List.length_map,List.take_length]
     congr 1
     unfold eZ
     rw[ew,if_pos c']
  ·have c':¬w*w=kB N n p.1 p.2:=λz=>c (by rw[z];exact decide_eq_true rfl)
   refine⟨_,_,_,_,_,_,_,as,rfl,sD,Et,ok,fr,?_⟩
   rw[tk,er]
   have:eZ N n p=[]:=by
    unfold eZ
    rw[ew,if_neg c']
   rw[this,List.append_nil]
 ·obtain⟨o4,o5,o6,o7,o8,o9,wK,as,rfl,sD,Et,ok,fr,er⟩:=hh
  have el:L.take us.length=L:=by rw[tu.length,List.take_length]
  rw[el]at er
  have R0:=vt ev NT.pos nd OV
  rw[<-er]at R0
  have sm:=R0.small NT dD n0 n6
  have al:as.length<=24200:=by
   have e:as.length=(rws H' as).length:=(List.length_map _).symm
   have h1:=pU (N:=N) (n:=n) L
   rw[e,er]
   omega
  refine⟨_,rfl,zM (aW.of Et) ok (λb hb i hi=>Nat.lt_of_lt_of_le ((sm _ (sf hb)).2 i hi) (by decide)) λbs pb so l hl=> ?_⟩
  have VD:fS H' bs:=λb hb=>ok b (pb.mem_iff.mp hb)
  obtain⟨VE,TJ⟩:=VD.same (av.up (o:= .lst (bs.map V.ref)) hl)
  refine q l bs _ ((λa o e=>(sD.trans (SD.of (av.up hl))) a o (λz=>by rw[z,hD]at e;cases e) (s1 _ _ (s0 _ _ e)))) ((show av H H' from λa o e=>sD a o (λz=>by rw[z,hD]at e;cases e) (s1 _ _ (s0 _ _ e))).none hl) (λb hb=>fr b (pb.mem_iff.mp hb)) ao VE ?_ (by rw[TJ];exact so) (by rw[pb.length_eq];exact al)
  rw[TJ]
  exact R0.perm (Hw pb)
end
end CT
namespace L2
open PySem PySem.Spec PyProof.Rows
structure lM(H1:Hp)(D:Addr)(R:V->V->V->Hp->Prop)(xs ys:List V)(t:Nat)(vs:List V)(H':Hp):Prop where
 same:av H1 H'
 at':H' D=some (.lst vs)
 len:vs.length=t
 items:∀s v,vs[s]?=some v-> ∃x y,xs[s/ys.length]?=some x/\ys[s%ys.length]?=some y/\R x y v H'
theorem Ex{K:PySem.W.Frag}{p q:Addr}{xs ys:List V}{H1:Hp}{D:Addr}{te:TE}{σ:St}{FZ:TI}{Q:VK}(hp:aW K H1 p xs)(hq:aW K H1 q ys)(hD:H1 D=none)(hz:xs.length*ys.length<sizeLine)(R:V->V->V->Hp->Prop)
  (mono:∀x y v H H',R x y v H->(∀b o,b≠D->H b=some o->H' b=some o) ->R x y v H')
  (hw:∀(x:V)(o:Option V) H' (R':It->Hp->Prop),x∈xs->av H1 H'->R' (Iu K q) H'->FZ (some x::o::σ) H' R')
  (hs:∀x y,x∈xs->y∈ys-> ∀H' (Q':VK),av H1 H'->(∃o,H' D=some o) ->(∀v H2,av H' H2->R x y v H2->Q' v H2) ->te (some x::some y::σ) H' Q')
  (hq':∀vs H',lM H1 D R xs ys (xs.length*ys.length) vs H'->Q (.ref D) H'):
  xE 2 (cO 0) GC (λD=>xD FZ (cO 1) GC (GD te D)) σ (Iu K p) H1 D Q:=by
 refine⟨λi m σ' H'=>m=xs.length-i/\i<=xs.length/\(∃o o',σ'=o::o'::σ)/\ ∃vs,lM H1 D R xs ys (i*ys.length) vs H',⟨xs.length,by simp,Nat.zero_le _,⟨none,none,rfl⟩,[],⟨av.up hD,ao,by simp,λs v h=>by simp at h⟩⟩,?_⟩
 rintro i m σ' H' ⟨rfl,hi,⟨o,o',rfl⟩,vs,G⟩
 have kW:=G.same.seq hp
 by_cases hlt:i<xs.length
 ·refine .inr ⟨⟨xs,xs[i],kW,by simp[hlt]⟩,λx H2 yl=> ?_⟩
  obtain⟨e,ex⟩:=yl
  subst e
  have ex:=ex xs kW
  have mx:x∈xs:=List.mem_of_getElem? ex
  show FZ (some x::o'::σ) H2 _
  refine hw x o' H2 _ mx G.same ?_
  refine⟨λj m' σ' H'=>m'=ys.length-j/\j<=ys.length/\(∃o',σ'=some x::o'::σ)/\ ∃vs,lM H1 D R xs ys (i*ys.length+j) vs H',⟨ys.length,by simp,Nat.zero_le _,⟨o',rfl⟩,vs,G⟩,?_⟩
  rintro j m' σ' H' ⟨rfl,hj,⟨o2,rfl⟩,ws,G2⟩
  have hq2:=G2.same.seq hq
  by_cases PM:j<ys.length
  ·refine .inr ⟨⟨ys,ys[j],hq2,by simp[PM]⟩,λy H3 yl=> ?_⟩
   obtain⟨e,ey⟩:=yl
   subst e
   have ey:=ey ys hq2
   have my:y∈ys:=List.mem_of_getElem? ey
   show te (some x::some y::σ) H3 _
   refine hs x y mx my H3 _ G2.same ⟨_,G2.at'⟩ λv H4 s4 r=> ?_
   have KG:i*ys.length+j<xs.length*ys.length:=by
    have:(i+1)*ys.length<=xs.length*ys.length:=Nat.mul_le_mul_right _ hlt
    rw[Nat.succ_mul]at this
    omega
   have e1:(i*ys.length+j)/ys.length=i:=by rw[Nat.add_comm,Nat.add_mul_div_right _ _ (by omega),Nat.div_eq_of_lt PM,Nat.zero_add]
   have e2:(i*ys.length+j)%ys.length=j:=by rw[Nat.add_comm,Nat.add_mul_mod_self_right,Nat.mod_eq_of_lt PM]
   have off:∀b o,b≠D->H3 b=some o->upd H4 D (.lst (ws++ [v])) b=some o:=λb o n h=>by rw[aD n];exact s4 _ _ h
   have RH:∀b o,b≠D->H4 b=some o->upd H4 D (.lst (ws++ [v])) b=some o:=λb o n h=>by rw[aD n];exact h
   refine⟨ws,s4 _ _ G2.at',by rw[G2.len];omega,ys.length- (j+1),by omega,rfl,PM,⟨_,rfl⟩,ws++ [v],⟨(G2.same.trans s4).upd hD,ao,by rw[List.length_append,G2.len];rfl,λs u hu=> ?_⟩⟩
   by_cases c:s<ws.length
   ·rw[List.getElem?_append_left c]at hu
    obtain⟨x',y',k1,k2,k3⟩:=G2.items s u hu
    exact⟨x',y',k1,k2,mono _ _ _ _ _ k3 off⟩
   ·have es:s=ws.length:=by
     have:=(List.getElem?_eq_some_iff.mp hu).1
     rw[List.length_append]at this
     simp at this
     omega
    subst es
    rw[List.getElem?_append_right (Nat.le_refl _)]at hu
    simp at hu
    subst hu
    rw[G2.len,e1,e2]
    exact⟨x,y,ex,ey,mono _ _ _ _ _ r RH⟩
  ·have ej:j=ys.length:=by omega
   subst ej
   refine .inl ⟨⟨ys,hq2,Nat.le_refl _⟩,xs.length- (i+1),by omega,rfl,hlt,⟨_,_,rfl⟩,ws,?_⟩
   rw[Nat.succ_mul]
   exact G2
 ·have e:i=xs.length:=by omega
  subst e
  exact .inl ⟨⟨xs,kW,Nat.le_refl _⟩,hq' vs H' G⟩
theorem lM.all{H1:Hp}{D:Addr}{R:V->V->V->Hp->Prop}{xs ys vs:List V}{H':Hp}(G:lM H1 D R xs ys (xs.length*ys.length) vs H'){x y:V}(hx:x∈xs)(hy:y∈ys):∃v∈vs,R x y v H':=by
 obtain⟨i,hi,rfl⟩:=List.mem_iff_getElem.mp hx
 obtain⟨j,hj,rfl⟩:=List.mem_iff_getElem.mp hy
 have KG:i*ys.length+j<vs.length:=by
  have:(i+1)*ys.length<=xs.length*ys.length:=Nat.mul_le_mul_right _ hi
  rw[Nat.succ_mul]at this
  rw[G.len]
  omega
 have e1:(i*ys.length+j)/ys.length=i:=by rw[Nat.add_comm,Nat.add_mul_div_right _ _ (by omega),Nat.div_eq_of_lt hj,Nat.zero_add]
 have e2:(i*ys.length+j)%ys.length=j:=by rw[Nat.add_comm,Nat.add_mul_mod_self_right,Nat.mod_eq_of_lt hj]
 obtain⟨x,y,k1,k2,k3⟩:=G.items (i*ys.length+j) vs[i*ys.length+j] (List.getElem?_eq_getElem KG)
 rw[e1,List.getElem?_eq_getElem hi]at k1
 rw[e2,List.getElem?_eq_getElem hj]at k2
 cases k1
 cases k2
 exact⟨_,List.getElem_mem KG,k3⟩
theorem lM.mem{H1:Hp}{D:Addr}{R:V->V->V->Hp->Prop}{xs ys vs:List V}{t:Nat}{H':Hp}(G:lM H1 D R xs ys t vs H'){v:V}(hv:v∈vs):∃x∈xs,∃y∈ys,R x y v H':=by
 obtain⟨i,hi,rfl⟩:=List.mem_iff_getElem.mp hv
 obtain⟨x,y,k1,k2,k3⟩:=G.items i vs[i] (List.getElem?_eq_getElem hi)
 exact⟨x,List.mem_of_getElem? k1,y,List.mem_of_getElem? k2,k3⟩
end L2
namespace L2
open PySem PySem.Spec PyProof.Rows PySem.SeqAt
def Bv:List Int->List Int->Bool
 |x::xs,y::ys=>if x=y then Bv xs ys else decide (x<y)
 |_,_=>false
noncomputable def gC(B:Int):List Int->Int
 | []=>0
 |x::xs=>x*B^xs.length+gC B xs
inductive rA(B:Int):List Int->List Int->Prop
 |nil:rA B [] []
 |cons{x y:Int}{xs ys:List Int}:x-y<=B-1/\y-x<=B-1->rA B xs ys->rA B (x::xs) (y::ys)
theorem rA.len{B:Int}{xs ys:List Int}(h:rA B xs ys):xs.length=ys.length:=by
 induction h with
 |nil=>rfl
 |cons _ _ ih=>simp[ih]
theorem zP{B:Int}(hB:0<B){xs ys:List Int}(h:rA B xs ys):gC B xs-gC B ys<=B^xs.length-1/\gC B ys-gC B xs<=B^xs.length-1:=by
 induction h with
 |nil=>simp[gC]
 | @cons x y xs ys d t ih=>
  have e:=t.len
  have p:0<B^xs.length:=Int.pow_pos hB
  have e1:B^(x::xs).length=B*B^xs.length:=by rw[List.length_cons,Int.pow_succ,Int.mul_comm]
  have d1:(x-y)*B^xs.length<=(B-1)*B^xs.length:=Int.mul_le_mul_of_nonneg_right d.1 (Int.le_of_lt p)
  have d2:(y-x)*B^xs.length<=(B-1)*B^xs.length:=Int.mul_le_mul_of_nonneg_right d.2 (Int.le_of_lt p)
  have e2:(B-1)*B^xs.length=B*B^xs.length-B^xs.length:=by rw[Int.sub_mul,Int.one_mul]
  have e3:(x-y)*B^xs.length=x*B^xs.length-y*B^xs.length:=Int.sub_mul ..
  have e4:(y-x)*B^xs.length=y*B^xs.length-x*B^xs.length:=Int.sub_mul ..
  rw[e1]
  show(x*B^xs.length+gC B xs) - (y*B^ys.length+gC B ys)<=_/\(y*B^ys.length+gC B ys) - (x*B^xs.length+gC B xs)<=_
  rw[<-e]
  omega
theorem Hy{B:Int}(hB:0<B){xs ys:List Int}(h:rA B xs ys):Bv xs ys=decide (gC B xs<gC B ys):=by
 induction h with
 |nil=>simp[Bv,gC]
 | @cons x y xs ys d t ih=>
  have e:=t.len
  have b:=zP hB t
  have p:0<B^xs.length:=Int.pow_pos hB
  show(if x=y then Bv xs ys else decide (x<y))=decide (x*B^xs.length+gC B xs<y*B^ys.length+gC B ys)
  rw[<-e]
  by_cases c:x=y
  ·rw[if_pos c,ih,c]
   exact decide_eq_decide.mpr (by omega)
  ·rw[if_neg c]
   refine decide_eq_decide.mpr ?_
   have e3:(x-y)*B^xs.length=x*B^xs.length-y*B^xs.length:=Int.sub_mul ..
   have e4:(y-x)*B^xs.length=y*B^xs.length-x*B^xs.length:=Int.sub_mul ..
   rcases Int.lt_or_gt_of_ne c with l|l
   ·have:=Int.mul_le_mul_of_nonneg_right (show(1:Int)<=y-x by omega) (Int.le_of_lt p)
    omega
   ·have:=Int.mul_le_mul_of_nonneg_right (show(1:Int)<=x-y by omega) (Int.le_of_lt p)
    omega
def Mw(H:Hp)(u:Addr):List Int:=match H u with
 |some (.tup [.int m,.ref a,.ref b])=>[m,aR (dJ H a) 0,aR (dJ H a) 1,aR (dJ H a) 2,aR (dJ H b) 0,aR (dJ H b) 1,aR (dJ H b) 2]
 |_=>[]
def RJ(H:Hp)(u:Addr):Prop:=∃m a b,H u=some (.tup [.int m,.ref a,.ref b])/\xO H a/\xO H b/\m.natAbs<2^1000/\mR (dJ H a)/\mR (dJ H b)
theorem RK{m m':Int}{a b a' b':List Int}(ha:a.length=3)(hb:b.length=3)(ha':a'.length=3)(hb':b'.length=3):
  nO [.int m,gf a,gf b] [.int m',gf a',gf b']=Bv [m,aR a 0,aR a 1,aR a 2,aR b 0,aR b 1,aR b 2] [m',aR a' 0,aR a' 1,aR a' 2,aR b' 0,aR b' 1,aR b' 2]:=by
 match a,ha,b,hb,a',ha',b',hb' with
 | [x,y,z],_,[p,q,r],_,[x',y',z'],_,[p',q',r'],_=>
  have e1:∀a b:Int,PyData.eqv (.int a) (.int b)=decide (a=b):=λa b=>rfl
  have VF:∀r:List Int,gf r= .list (r.map PyData.int):=λ_=>rfl
  show nO [.int m,gf [x,y,z],gf [p,q,r]] [.int m',gf [x',y',z'],gf [p',q',r']]=Bv [m,x,y,z,p,q,r] [m',x',y',z',p',q',r']
  unfold nO
  rw[e1]
  unfold nO
  rw[rZ]
  unfold nO
  rw[rZ]
  simp only[VF,List.map_cons,List.map_nil,GK,nO,e1,Bv,List.cons.injEq,and_true]
  by_cases h0:m=m'<;>by_cases h1:x=x'<;>by_cases h2:y=y'<;>by_cases h3:z=z'<;>by_cases h4:p=p'<;>by_cases h5:q=q'<;>by_cases h6:r=r'<;>simp[h0,h1,h2,h3,h4,h5,h6]
theorem Pb{m m':Int}{a b a' b':List Int}(hm:m.natAbs<2^1000)(hm':m'.natAbs<2^1000)(ha:mR a)(hb:mR b)(ha':mR a')(hb':mR b'):
  rA gS [m,aR a 0,aR a 1,aR a 2,aR b 0,aR b 1,aR b 2] [m',aR a' 0,aR a' 1,aR a' 2,aR b' 0,aR b' 1,aR b' 2]:=by
 refine .cons (gb hm hm') (.cons (gb (ha 0 (by decide)) (ha' 0 (by decide))) (.cons (gb (ha 1 (by decide)) (ha' 1 (by decide))) (.cons (gb (ha 2 (by decide)) (ha' 2 (by decide))) (.cons (gb (hb 0 (by decide)) (hb' 0 (by decide))) (.cons (gb (hb 1 (by decide)) (hb' 1 (by decide))) (.cons (gb (hb 2 (by decide)) (hb' 2 (by decide))) .nil))))))
theorem Hz{H:Hp}{u a b:Addr}{m:Int}(e:H u=some (.tup [.int m,.ref a,.ref b])):Mw H u=[m,aR (dJ H a) 0,aR (dJ H a) 1,aR (dJ H a) 2,aR (dJ H b) 0,aR (dJ H b) 1,aR (dJ H b) 2]:=by
 unfold Mw
 rw[e]
noncomputable def RL(H:Hp)(u:Addr):PyData:=match H u with
 |some (.tup [.int m,.ref a,.ref b])=> .tuple [.int m,gf (dJ H a),gf (dJ H b)]
 |_=> .none
theorem Bw{H:Hp}{u a b:Addr}{m:Int}(e:H u=some (.tup [.int m,.ref a,.ref b])):RL H u= .tuple [.int m,gf (dJ H a),gf (dJ H b)]:=by
 unfold RL
 rw[e]
theorem zQ{K:PySem.W.Frag}{H:Hp}{a:Addr}(h:xO H a):yQ K H (.ref a) (gf (dJ H a)):=by
 have e:=CO h.2
 have k:yQ K H (.ref a) (gf [aR (dJ H a) 0,aR (dJ H a) 1,aR (dJ H a) 2]):=AK (xs:=[aR (dJ H a) 0,aR (dJ H a) 1,aR (dJ H a) 2]) (aW.of h.1)
 rw[<-e]at k
 exact k
theorem JX(m:Int)(a b:List Int):shaped (.tuple [.int m,gf a,gf b])=true:=by
 have h2:∀r:List Int,PyData.depthAll (r.map PyData.int)<=0:=λr=>by
  induction r with
  |nil=>exact Nat.le_refl _
  |cons a r ih=>simp only[List.map_cons,PyData.depthAll,PyData.depth];omega
 have ha:=h2 a
 have hb:=h2 b
 simp only[SeqAt.shaped,PyData.canLay0,PyData.canLayAll0,PyData.depth,PyData.depthAll,mj,PySem.W.ke_canLayAll0,Bool.true_and,decide_eq_true_eq]
 exact decide_eq_true (show _<=64 by omega)
theorem Bx{K:PySem.W.Frag}{H:Hp}{p:Addr}{us:List Addr}{Q:VK}(hp:aW K H p (us.map V.ref))(ok:∀u∈us,RJ H u)
  (q:∀vs:List Addr,vs.Perm us->vs.Pairwise (λu v=>gC gS (Mw H u)<=gC gS (Mw H v)) -> ∀l,H l=none->Q (.ref l) (upd H l (.lst (vs.map V.ref)))):xK K [.ref p] H Q:=by
 refine⟨p,us,λu=>gC gS (Mw H u),RL H,rfl,hp,λu hu=> ?_,.inr λu hu v hv=> ?_,λbs pb so l hl=>q bs pb so l hl⟩
 ·obtain⟨m,a,b,e,ra,rb,hm,sa,sb⟩:=ok u hu
  rw[Bw e]
  exact⟨.tup (m8.of e) (.cons (.int m) (.cons (zQ ra) (.cons (zQ rb) .nil))),JX _ _ _⟩
 ·obtain⟨m,a,b,e,ra,rb,hm,sa,sb⟩:=ok u hu
  obtain⟨m',a',b',e',ra',rb',hm',sa',sb'⟩:=ok v hv
  have cr:∀{x y:List Int},x.length=3->y.length=3->zh (gf x) (gf y):=λ {x y} hx hy=>by
   rw[CO hx,CO hy]
   exact .lst (.cons (.int _ _) (.cons (.int _ _) (.cons (.int _ _) .nil)))
  refine⟨m,_,m',_,Bw e,Bw e',.cons (.int _ _) (.cons (cr ra.2 ra'.2) (.cons (cr rb.2 rb'.2) .nil)),?_⟩
  show _=decide (gC gS (Mw H u)<gC gS (Mw H v))
  rw[Hz e,Hz e',RK ra.2 rb.2 ra'.2 rb'.2,Hy pR (Pb hm hm' sa sb sa' sb')]
end L2
namespace L2
open PySem
noncomputable section
theorem zR{B:Nat}{D p q x:Int}(D0:0<D)(h:D*(x*x)<=q)(hq:3*q<=16*D*p)(hp:16*p<3*(((B:Int)+1)*((B:Int)+1))): -(B:Int)<=x/\x<=B:=by
 have key:x.natAbs<=B:=by
  refine Classical.byContradiction λc=> ?_
  have h1:(B+1)*(B+1)<=x.natAbs*x.natAbs:=Nat.mul_le_mul (by omega) (by omega)
  have e:=Int.natAbs_mul_self (a:=x)
  have h2:((B:Int)+1)*((B:Int)+1)<=x*x:=by
   rw[<-e]
   exact_mod_cast h1
  have h3:D*(((B:Int)+1)*((B:Int)+1))<=D*(x*x):=Int.mul_le_mul_of_nonneg_left h2 (Int.le_of_lt D0)
  have h4:D*(16*p)<D*(3*(((B:Int)+1)*((B:Int)+1))):=Int.mul_lt_mul_of_pos_left hp D0
  have e1:D*(16*p)=16*D*p:=by grind
  have e2:D*(3*(((B:Int)+1)*((B:Int)+1)))=3*(D*(((B:Int)+1)*((B:Int)+1))):=by grind
  omega
 omega
theorem uq{N:List (List Int)}(h:j3 N)(dD:aC N<=401){n:Int}(n0:0<=n)(hn:2*n<=ent N 1 1){L:List (List Int)}(R:fM N n L):L.length<=50:=by
 obtain⟨fl,D0,a2,Ik,Mu,JS,f8,fa⟩:=eF h dD
 have l1:=h.Mp
 have l2:=h.Mq
 have few:=h.few
 obtain⟨VG,VH,Wk⟩:=h.ev.sym
 have m1:gX N 1 1<=ent N 0 0*ent N 2 2:=by
  show ent N 2 2*ent N 0 0-ent N 2 0*ent N 0 2<=_
  rw[VH,Int.mul_comm (ent N 2 2)];have:=bu (ent N 0 2);omega
 have m2:gX N 2 2<=ent N 0 0*ent N 1 1:=by
  show ent N 0 0*ent N 1 1-ent N 0 1*ent N 1 0<=_
  rw[VG];have:=bu (ent N 0 1);omega
 have b1:∀v:Nat->Int,cV N v=n-> -2<=v 1/\v 1<=2:=λv e=>by
  have w:=wJ h.ev h.wC h.ab e (i:=1) (by decide)
  refine zR (B:=2) (p:=1) D0 w ?_ (by decide)
  have k1:2*n*gX N 1 1<=2*n*(ent N 0 0*ent N 2 2):=Int.mul_le_mul_of_nonneg_left m1 (by omega)
  have k2:2*n*(ent N 0 0*ent N 2 2)<=ent N 1 1*(ent N 0 0*ent N 2 2):=Int.mul_le_mul_of_nonneg_right hn (Int.mul_nonneg (by omega) (by omega))
  have k3:ent N 1 1*(ent N 0 0*ent N 2 2)=ent N 0 0*ent N 1 1*ent N 2 2:=by grind
  omega
 have b2:∀v:Nat->Int,cV N v=n-> -2<=v 2/\v 2<=2:=λv e=>by
  have w:=wJ h.ev h.wC h.ab e (i:=2) (by decide)
  refine zR (B:=2) (p:=1) D0 w ?_ (by decide)
  have k1:2*n*gX N 2 2<=2*n*(ent N 0 0*ent N 1 1):=Int.mul_le_mul_of_nonneg_left m2 (by omega)
  have k2:2*n*(ent N 0 0*ent N 1 1)<=ent N 2 2*(ent N 0 0*ent N 1 1):=Int.mul_le_mul_of_nonneg_right (by omega) (Int.mul_nonneg (by omega) (by omega))
  have k3:ent N 2 2*(ent N 0 0*ent N 1 1)=ent N 0 0*ent N 1 1*ent N 2 2:=by grind
  omega
 have:=Hx h.ev h.pos (show(0:Int)<=2 by decide) (show(0:Int)<=2 by decide) b1 b2 R
 exact Nat.le_trans this (by decide)
theorem rB:∀{vs:List V},(∀v∈vs,∃u,v=V.ref u) -> ∃us:List Addr,vs=us.map V.ref
 | [],_=>⟨[],rfl⟩
 |v::vs,h=>by
  obtain⟨u,rfl⟩:=h v List.mem_cons_self
  obtain⟨us,rfl⟩:=rB (vs:=vs) λw hw=>h w (List.mem_cons_of_mem _ hw)
  exact⟨u::us,rfl⟩
theorem Ey{xs:List V}{k:Nat}(h:k<=xs.length):Am xs none (some (k:Int))=xs.take k:=by
 have e1:HT.yH xs.length 0 none=0:=rfl
 have e2:HT.yH xs.length xs.length (some (k:Int))=k:=by
  show(if(k:Int)<0 then((k:Int)+(xs.length:Int)).toNat else min (k:Int).toNat xs.length)=k
  rw[if_neg (by omega),Int.toNat_natCast]
  omega
 unfold Am
 rw[e1,e2,List.drop_zero,Nat.sub_zero]
theorem tN{σ:St}{H:Hp}{Q:List V->Hp->Prop}(h:Q [] H):jj σ H Q:=h
end
end L2
set_option maxHeartbeats 1000000
namespace CT
open PySem L2
section
variable{P:Program}{w:World}{K:PySem.W.Frag}{mg:Str->Option Value}{base:Heap}
inductive zS(vs:List V)(H:Hp)(Q:VK)(E:XK):Prop
 |mk(t:Addr)(bs:List Addr)(N:List (List Int))(_:vs=[.ref t])(_:Tab H t bs N)(_:cj N)(_:cH N)(_:Bd 700 N)(_:j3 N)(_:aC N<=401)(_:∀(r:Addr) (rs:Nat->Addr) (as:Nat->List Addr) (H':Hp),av H H'->H' r=some (.lst [.ref (rs 0),.ref (rs 1),.ref (rs 2)]) ->(H' (rs 0)=some (.lst ((as 0).map V.ref))/\fS H' (as 0)/\fM N (ent N 0 0/2) (rws H' (as 0))/\(rws H' (as 0)).Pairwise (λr s=>vp r<=vp s)) ->(H' (rs 1)=some (.lst ((as 1).map V.ref))/\fS H' (as 1)/\fM N (ent N 1 1/2) (rws H' (as 1))/\(rws H' (as 1)).Pairwise (λr s=>vp r<=vp s)) ->(H' (rs 2)=some (.lst ((as 2).map V.ref))/\fS H' (as 2)/\fM N (ent N 2 2/2) (rws H' (as 2))/\(rws H' (as 2)).Pairwise (λr s=>vp r<=vp s)) ->Q (.ref r) H')
theorem ur(F:fm K mg "corner_rows" kq gj)(aY:mg "range"=none)(mT:dh P w K mg base cS 5 "near_rows" iK ow):dh P w K mg base cS 6 "corner_rows" gj zS:=by
 refine F.ok t6 (λvs H Q E h=> ?_) (λf cdv A outer s H vs Q E hr h=> ?_)
 ·obtain⟨t,bs,N,rfl,hT,b8,ev,bN,NT,dD,q⟩:=h
  rfl
 obtain⟨t,bs,N,rfl,hT,b8,ev,bN,NT,dD,q⟩:=h
 have hu:=hr.units
 refine⟨_,(cX (aT (kc (N2:=["table"]) (te:=(kI ow [] E0 (cJ (bK 1) (cJ (jV (rI NL λi j=> .int (i/j)) (jV (jk K) (jV (jk K) (bK 1) (bK 0)) (bK 0)) (tC (.int 2))) jj)))) rfl (cY rfl aY (af ah ak)) (by kernel_rfl) rfl (λ_ _ _=>by exact jT (aM mT hr rfl aL (af (pv 1) (af (aq eH (aJ aA (aJ aA (pv 1) (pv 0) (λ_ _=>rfl)) (pv 0) (λ_ _=>rfl)) ah) ak))))))),?_⟩
 obtain⟨fl,D0,a2,Ik,Mu,JS,f8,fa⟩:=eF NT dD
 have l1:=NT.Mp
 have l2:=NT.Mq
 refine⟨3,rfl,by decide,by decide,λD hD=>GR (gE (n:=3)) (by decide) hD (λj v H'=> ∃r as,v= .ref r/\r≠D/\(∀b∈as,b≠D)/\H' r=some (.lst (as.map V.ref))/\fS H' as/\fM N (ent N j j/2) (rws H' as)/\(rws H' as).Pairwise (λr s=>vp r<=vp s)) ?_ ?_ ?_⟩
 ·rintro j v G G' ⟨r,as,rfl,nr,na,er,ok,R,so⟩ k
  obtain⟨ok',TL⟩:=ok.keep λb hb o e=>k b o (na b hb) e
  exact⟨r,as,rfl,nr,na,k _ _ nr er,ok',by rw[TL];exact R,by rw[TL];exact so⟩
 ·intro j x ex H' Q' sG eo k
  obtain⟨hj,rfl⟩:=f6 ex
  have RM:=hT.same sG
  obtain⟨b,row,yM,FL,Ru⟩:=mY RM b8 hj hj
  have n2:0<=ent N j j/2/\ent N j j/2<=1100:=by
   have:0<=ent N j j/\ent N j j<=2200:=by rcases bH hj with rfl|rfl|rfl<;>constructor<;>omega
   omega
  refine⟨_,rfl,_,rfl,_,rfl,t,_,_,_,rfl,rfl,aW.of RM.1,yM,_,rfl,b,_,_,_,rfl,rfl,aW.of FL,Ru,_,_,rfl,rfl,⟨by decide,by decide⟩,?_⟩
  refine⟨t,bs,N,_,rfl,RM,b8,ev,bN,NT,dD,n2.1,n2.2,λr as H3 s3 fr VI er ok R so al=> ?_⟩
  exact k _ H3 s3 ⟨r,as,rfl,(λz=>by obtain⟨o,eo⟩:=eo;rw[z,eo]at fr;cases fr),(λc hc z=>by obtain⟨o,eo⟩:=eo;have:=VI c hc;rw[z,eo]at this;cases this),er,ok,R,so⟩
 ·intro vs H' sG hl items eD
  obtain⟨x,y,z,rfl⟩:∃x y z,vs=[x,y,z]:=by
   match vs,hl with
   | [x,y,z],_=>exact⟨x,y,z,rfl⟩
  obtain⟨r0,a0,rfl,_,_,k0⟩:=items 0 x rfl
  obtain⟨r1,a1,rfl,_,_,k1⟩:=items 1 y rfl
  obtain⟨r2,a2,rfl,_,_,k2⟩:=items 2 z rfl
  exact q D (λi=>match i with|0=>r0|1=>r1|_=>r2) (λi=>match i with|0=>a0|1=>a1|_=>a2) H' sG eD k0 k1 k2
inductive De(T0:Addr)(vs:List V)(H:Hp)(Q:VK)(E:XK):Prop
 |mk(t:Addr)(bs:List Addr)(N:List (List Int))(f:Addr)(fs:List Addr)(s':Addr)(ss:List Addr)(_:vs=[.ref t,.ref f,.ref s'])(_:Tab H t bs N)(_:cj N)(_:Bd 700 N)(_:H f=some (.lst (fs.map V.ref)))(_:fS H fs)(_:∀b∈fs,∀i,i<3->(aR (dJ H b) i).natAbs<2^60)(_:H s'=some (.lst (ss.map V.ref)))(_:fS H ss)(_:∀b∈ss,∀i,i<3->(aR (dJ H b) i).natAbs<2^60)(_:fs.length<=50)(_:ss.length<=50)(_:H T0=some (dW T0))(_:∀(r:Addr) (us:List Addr) (H':Hp),av H H'->H r=none->H' r=some (.lst (us.map V.ref)) ->(∀u∈us,∃a b,a∈fs.take (fs.length/2)/\b∈ss/\H u=none/\H' u=some (.tup [.int (ay N (aR (dJ H a)) (aR (dJ H b))),.ref a,.ref b])) ->(∀a∈fs.take (fs.length/2),∀b∈ss,∃u∈us,H' u=some (.tup [.int (ay N (aR (dJ H a)) (aR (dJ H b))),.ref a,.ref b])) ->Q (.ref r) H')
theorem pV{aF:Addr}(F:fm K mg "pairs_in_order" iy eN)(gO:mg "len"=none)(gQ:mg "sorted"=none)(b7:dh P w K mg base cS 2 "pairing" f7 (om aF)):dh P w K mg base cS 3 "pairs_in_order" eN (De aF):=by
 refine F.ok j4 (λvs H Q E h=> ?_) (λf cdv A outer s H vs Q E hr h=> ?_)
 ·obtain⟨t,bs,N,f,fs,sc,ss,rfl,hT,b8,bN,ef,PR,PU,es,PV,PX,lf,ls,hP,q⟩:=h
  rfl
 obtain⟨t,bs,N,f,fs,sc,ss,rfl,hT,b8,bN,ef,PR,PU,es,PV,PX,lf,ls,hP,q⟩:=h
 have hu:=hr.units
 refine⟨_,(lY (@az _ _ _ _ _ (aU (i:=3) j4.nd rfl (Or.inl rfl) (Ft IK (pv 1) IF (II (aq eH (cF eX rfl gO PySem.boot_len (af (pv 1) ak)) ah))))
  (@aN _ _ _ (aT (cF (rj (fj.CN hr)) rfl gQ PyProof.Rows.boot_sorted (af (Jr (N2:=["table","firsts","seconds","halved"]) (FZ:=(Fg K (bK 4))) (te:=(NR (cJ (kI (om aF) [] E0 (cJ (bK 2) (cJ (bK 0) (cJ (bK 1) jj)))) (cJ (bK 0) (cJ (bK 1) jj))))) rfl (eW (pv 3)) (by kernel_rfl) rfl (λ_ _ _=>by exact Ri (eW (pv 4))) (λ_ _ _=>by exact jT (g8 (af (aM b7 hr rfl aL (af (pv 2) (af (pv 0) (af (pv 1) ak)))) (af (pv 0) (af (pv 1) ak)))))) ak)))))),?_⟩
 have TM:(fs.map V.ref).length=fs.length:=List.length_map _
 refine⟨_,rfl,_,rfl,f,_,rfl,.inl (aW.of ef),_,_,rfl,rfl,⟨by decide,by decide⟩,_,rfl,f,_,rfl,aW.of ef,λh hh=> ?_⟩
 have ec:Am (fs.map V.ref) none (some ((((fs.map V.ref).length:Nat):Int)/2))=(fs.take (fs.length/2)).map V.ref:=by
  rw[TM,show((fs.length:Int)/2)=((fs.length/2:Nat):Int)by omega,Ey (by rw[TM];omega),List.map_take]
 rw[ec]
 obtain⟨hs,Pc⟩:∃hs,hs=fs.take (fs.length/2):=⟨_,rfl⟩
 rw[<-Pc]
 have sh:=av.up (o:= .lst (hs.map V.ref)) hh
 obtain⟨H1,TN⟩:∃J,J=upd H h (.lst (hs.map V.ref)):=⟨_,rfl⟩
 have TQ:H1 h=some (.lst (hs.map V.ref)):=by rw[TN];exact ao
 rw[<-TN]at sh ⊢
 have hsub:∀a∈hs,a∈fs:=λa ha=>List.mem_of_mem_take (Pc▸ha)
 have lhs:hs.length<=50:=by rw[Pc,List.length_take];omega
 refine⟨_,rfl,h,rfl,⟨_,aW.of TQ⟩,λD hD=>Ex (aW.of TQ) (aW.of (sh _ _ es)) hD (by rw[List.length_map,List.length_map];exact Nat.lt_of_le_of_lt (Nat.mul_le_mul lhs ls) (by decide)) (λx y v H'=> ∃u a b,v= .ref u/\x= .ref a/\y= .ref b/\u≠D/\H1 u=none/\H' u=some (.tup [.int (ay N (aR (dJ H a)) (aR (dJ H b))),.ref a,.ref b])) ?_ ?_ ?_ ?_⟩
 ·rintro x y v G G' ⟨u,a,b,rfl,rfl,rfl,nu,fu,e⟩ k
  exact⟨u,a,b,rfl,rfl,rfl,nu,fu,k _ _ nu e⟩
 ·intro x o H' R' hx sG k
  exact⟨_,rfl,sc,rfl,⟨_,aW.of (sG _ _ (sh _ _ es))⟩,k⟩
 ·intro x y hx hy H' Q' sG eo k
  obtain⟨a,rfl,ha⟩:=kL hx
  obtain⟨b,rfl,hb⟩:=kL hy
  have s1:=sh.trans sG
  refine⟨_,rfl,_,rfl,_,rfl,t,bs,N,a,b,_,_,rfl,hT.same s1,b8,bN.mono (by decide),s1 _ _ (PR a (hsub a ha)).1,s1 _ _ (PV b hb).1,(λi hi=>Nat.lt_of_lt_of_le (PU a (hsub a ha) i hi) (Nat.pow_le_pow_right (by decide) (by decide))),(λi hi=>Nat.lt_of_lt_of_le (PX b hb i hi) (Nat.pow_le_pow_right (by decide) (by decide))),s1 _ _ hP,λH2 s2=>⟨_,rfl,_,rfl,(by show 3<=sizeLine;decide),λu hu=> ?_⟩⟩
  exact k _ _ (s2.trans (av.up hu)) ⟨u,a,b,rfl,rfl,rfl,(λz=>by obtain⟨o,eo⟩:=eo;have:=s2 _ _ eo;rw[<-z,hu]at this;cases this),(sG.trans s2).none hu,ao⟩
 ·intro vs H' G
  obtain⟨us,rfl⟩:∃us:List Addr,vs=us.map V.ref:=rB λv hv=>by
   obtain⟨_,_,_,_,u,a,b,e,_⟩:=G.mem hv
   exact⟨u,e⟩
  have s1:=sh.trans G.same
  have it:∀u∈us,∃a b,a∈hs/\b∈ss/\H1 u=none/\H' u=some (.tup [.int (ay N (aR (dJ H a)) (aR (dJ H b))),.ref a,.ref b]):=λu hu=>by
   obtain⟨x,hx,y,hy,u',a,b,e,rfl,rfl,_,fu,k⟩:=G.mem (List.mem_map.mpr ⟨u,hu,rfl⟩)
   cases e
   obtain⟨a',e1,ha⟩:=kL hx
   obtain⟨b',e2,hb⟩:=kL hy
   cases e1
   cases e2
   exact⟨a,b,ha,hb,fu,k⟩
  obtain⟨RN,Wl⟩:=PR.same s1
  obtain⟨RO,es'⟩:=PV.same s1
  have kf:∀a∈fs,dJ H' a=dJ H a:=λa ha=>((PR a ha).keep λo e=>s1 _ _ e).2
  have ks:∀a∈ss,dJ H' a=dJ H a:=λa ha=>((PV a ha).keep λo e=>s1 _ _ e).2
  have pb:∀a∈hs,∀b∈ss,(ay N (aR (dJ H a)) (aR (dJ H b))).natAbs<2^1000:=λa ha b hb=>
   Nat.lt_of_lt_of_le (iI bN (PU a (hsub a ha)) (PX b hb)) (Nat.pow_le_pow_right (by decide) (by decide))
  have up:∀{r:List Int},(∀i,i<3->(aR r i).natAbs<2^60) ->mR r:=λh i hi=>Nat.lt_of_lt_of_le (h i hi) (Nat.pow_le_pow_right (by decide) (by decide))
  refine tN ?_
  refine Bx (aW.of G.at') (λu hu=> ?_) λvs pv so l hl=> ?_
  ·obtain⟨a,b,ha,hb,fu,e⟩:=it u hu
   exact⟨_,a,b,e,RN a (hsub a ha),RO b hb,pb a ha b hb,by rw[kf a (hsub a ha)];exact up (PU a (hsub a ha)),by rw[ks b hb];exact up (PX b hb)⟩
  ·have sl:=av.up (o:= .lst (vs.map V.ref)) hl
   refine q l vs _ (s1.trans sl) (s1.none hl) ao (λu hu=> ?_) (λa ha b hb=> ?_)
   ·obtain⟨a,b,ha,hb,fu,e⟩:=it u (pv.mem_iff.mp hu)
    exact⟨a,b,Pc▸ha,hb,sh.none fu,sl _ _ e⟩
   ·obtain⟨v,hv,u,a',b',rfl,e1,e2,_,_,e⟩:=G.all (List.mem_map.mpr ⟨a,(Pc▸ha),rfl⟩) (List.mem_map.mpr ⟨b,hb,rfl⟩)
    cases e1
    cases e2
    obtain⟨u',MZ,e3⟩:=List.mem_map.mp hv
    cases e3
    exact⟨u,pv.mem_iff.mpr MZ,sl _ _ e⟩
end
end CT
namespace L2
open PySem
noncomputable section
def zT(r:List Int):List Int:=r.map λx=> -x
theorem Mx{r:List Int}(h:r.length=3):vp (zT r)= -vp r:=by
 match r,h with
 | [x,y,z],_=>
  show-x*(gS*gS)+ -y*gS+ -z= -(x*(gS*gS)+y*gS+z)
  rw[Int.neg_mul,Int.neg_mul]
  omega
theorem JY{m:List (List Int)}{n:Int}{L:List (List Int)}(h:fM m n L){r:List Int}(hr:r∈L):zT r∈L:=by
 obtain⟨v,rfl⟩:=h.2.1 r hr
 have e:=(h.2.2 v).mp hr
 have neg:cV m (λi=> -v i)=cV m v:=by
  unfold cV
  rw[bC,bC]
  congr 1
  grind
 exact(h.2.2 λi=> -v i).mpr (neg.trans e)
theorem By{m:List (List Int)}{n:Int}{L:List (List Int)}(h:fM m n L)(so:L.Pairwise λr s=>vp r<=vp s){r:List Int}(hr:r∈L)(neg:vp r<0):r∈L.take (L.length/2):=by
 obtain⟨i,hi,rfl⟩:=List.mem_iff_getElem.mp hr
 have l3:∀r∈L,r.length=3:=λr hr=>by obtain⟨v,rfl⟩:=h.2.1 r hr;rfl
 refine Classical.byContradiction λc=> ?_
 have ci:L.length/2<=i:=by
  refine Nat.le_of_not_lt λz=>c ?_
  have:L[i]=(L.take (L.length/2))[i]'(by rw[List.length_take];omega):=by simp
  rw[this]
  exact List.getElem_mem _
 have low:∀s∈L.take (i+1),vp s<0:=λs hs=>by
  obtain⟨j,hj,rfl⟩:=List.mem_iff_getElem.mp hs
  rw[List.length_take]at hj
  rw[List.getElem_take]
  rcases Nat.lt_or_ge j i with z|z
  ·have:=List.pairwise_iff_getElem.mp so j i (by omega) hi z
   omega
  ·have:j=i:=by omega
   subst this
   exact neg
 have sub:∀s∈L.take (i+1)++(L.take (i+1)).map zT,s∈L:=λs hs=>by
  rcases List.mem_append.mp hs with z|z
  ·exact List.mem_of_mem_take z
  ·obtain⟨t,ht,rfl⟩:=List.mem_map.mp z
   exact JY h (List.mem_of_mem_take ht)
 have nd:(L.take (i+1)++(L.take (i+1)).map zT).Nodup:=by
  have n1:(L.take (i+1)).Nodup:=h.1.sublist (List.take_sublist _ _)
  refine List.nodup_append.mpr ⟨n1,nodup_map_on n1 λa ha b hb e=> ?_,λa ha b hb e=> ?_⟩
  ·have nn:∀r:List Int,zT (zT r)=r:=λr=>by simp[zT,Function.comp_def]
   have:=congrArg zT e
   rwa [nn,nn]at this
  ·obtain⟨t,ht,rfl⟩:=List.mem_map.mp hb
   have k1:=low a ha
   have k2:=low t ht
   rw[e,Mx (l3 t (List.mem_of_mem_take ht))]at k1
   omega
 have le:=length_le_of_subset nd sub
 rw[List.length_append,List.length_map,List.length_take]at le
 omega
theorem x8{m:List (List Int)}(i:Nat)(hi:i<3):cV m (λj=>if j=i then 1 else 0)=ent m i i/2/\cV m (λj=>if j=i then-1 else 0)=ent m i i/2:=by
 unfold cV
 rw[bC,bC]
 rcases bH hi with rfl|rfl|rfl<;>simp
theorem HA{m:List (List Int)}{L0 L1 L2:List (List Int)}(h0:fM m (ent m 0 0/2) L0)(so:L0.Pairwise λr s=>vp r<=vp s)(h1:fM m (ent m 1 1/2) L1)(h2:fM m (ent m 2 2/2) L2): [-1,0,0]∈L0.take (L0.length/2)/\ [0,1,0]∈L1/\ [0,0,1]∈L2:=by
 refine⟨By h0 so ((h0.2.2 λj=>if j=0 then-1 else 0).mpr (x8 0 (by decide)).2) ?_,(h1.2.2 λj=>if j=1 then 1 else 0).mpr (x8 1 (by decide)).1,(h2.2.2 λj=>if j=2 then 1 else 0).mpr (x8 2 (by decide)).1⟩
 show(-1:Int)*(gS*gS)+0*gS+0<0
 have:=Int.mul_pos pR pR
 omega
def qE(H:Hp)(bv tv:V):Prop:=(bv= .fZ/\tv= .fZ)∨ ∃ob m x y,bv= .ref ob/\H ob=some (.tup [.int m,.int x,.int y])/\ ∃ot rs S,tv= .ref ot/\Tab H ot rs S/\cj S/\(aC S=1∨aC S= -1)/\Bd 60 S
theorem qE.same{H H':Hp}{bv tv:V}(h:qE H bv tv)(s:av H H'):qE H' bv tv:=by
 rcases h with h|⟨ob,m,x,y,e,eb,ot,rs,S,e2,T,k⟩
 ·exact .inl h
 ·exact .inr ⟨ob,m,x,y,e,s _ _ eb,ot,rs,S,e2,T.same s,k⟩
theorem JZ{z:Int}(h:Ks (.int z) [V.int 1,.int (-1)]=true):z=1∨z= -1:=by
 simp[Ks,IL]at h
 exact h.imp Eq.symm Eq.symm
end
end L2
set_option maxHeartbeats 1000000
namespace CT
open PySem L2
section
variable{P:Program}{w:World}{K:PySem.W.Frag}{mg:Str->Option Value}{base:Heap}
inductive wL(vs:List V)(H:Hp)(Q:VK)(E:XK):Prop
 |mk(t:Addr)(bs:List Addr)(m:List (List Int))(_:vs=[.ref t])(_:Tab H t bs m)(_:cj m)(_:Bd 1000 m)(_:True)(_:∀H',av H H'->Q (.bl (Ks (.int (aC m)) [.int 1,.int (-1)])) H')
theorem zU(F:fm K mg "is_basis" nV jG)(cy:dh P w K mg base cS 3 "determinant" dR zy):dh P w K mg base cS 4 "is_basis" jG wL:=by
 refine F.ok zw (λvs H Q E h=> ?_) (λf cdv A outer s H vs Q E hr h=> ?_)
 ·obtain⟨t,bs,m,rfl,hT,b8,hB,hP,q⟩:=h
  rfl
 obtain⟨t,bs,m,rfl,hT,b8,hB,hP,q⟩:=h
 have hu:=hr.units
 refine⟨_,(cX (aT (jW Dy (aM cy hr rfl aL (af (pv 0) ak)) (g8 (af ah (af (yF sO ah) ak))) (by rfl)))),?_⟩
 refine⟨_,rfl,t,bs,m,rfl,hT,b8,hB,hP,λH1 s1=> ?_⟩
 refine⟨_,rfl,(by show 2<=sizeLine;decide),λp hp=> ?_⟩
 exact⟨p,_,rfl,.inr (m8.of ao),rfl,rfl,q _ (s1.trans (av.up hp))⟩
inductive zV(T0:Addr)(vs:List V)(H:Hp)(Q:VK)(E:XK):Prop
 |mk(t:Addr)(bs:List Addr)(N:List (List Int))(_:vs=[.ref t])(_:Tab H t bs N)(_:cj N)(_:cH N)(_:Bd 700 N)(_:j3 N)(_:aC N<=401)(_:H T0=some (dW T0))(_:∀(r:Addr) (rs:List Addr) (S:List (List Int)) (H':Hp),av H H'->Tab H' r rs S->cj S->(aC S=1∨aC S= -1) ->Bd 60 S->Q (.ref r) H')
theorem uu{aF:Addr}(F:fm K mg "least_basis" kr gk)(kC:dh P w K mg base cS 6 "corner_rows" gj zS)(iB:dh P w K mg base cS 6 "pairs_in_order" eN (De aF))(b7:dh P w K mg base cS 6 "pairing" f7 (om aF))(oA:dh P w K mg base cS 6 "is_basis" jG wL):dh P w K mg base cS 7 "least_basis" gk (zV aF):=by
 refine F.ok bV (λvs H Q E h=> ?_) (λf cdv A outer s H vs Q E hr h=> ?_)
 ·obtain⟨t,bs,N,rfl,hT,b8,ev,bN,NT,dD,hP,q⟩:=h
  rfl
 obtain⟨t,bs,N,rfl,hT,b8,ev,bN,NT,dD,hP,q⟩:=h
 have hu:=hr.units
 refine⟨_,(lY (@az _ _ _ _ _ (gp (aM kC hr rfl aL (af (pv 0) ak)) (iD rfl (aG (aH (i:=1) bV.nd rfl (Or.inl rfl)) (aG (aH (i:=2) bV.nd rfl (Or.inl rfl)) (aG (aH (i:=3) bV.nd rfl (Or.inl rfl)) dO)))))
  (@az _ _ _ _ _ (gp (g8 (af p5 (af p5 ak))) (kY rfl (aG (aH (i:=4) bV.nd rfl (Or.inl rfl)) (aG (aH (i:=5) bV.nd rfl (Or.inl rfl)) dO))))
  (@az _ _ _ _ _ (gZ PassesOwn.never rfl (eW (aM iB hr rfl aL (af (pv 0) (af (pv 1) (af (pv 2) ak))))) (kY rfl (aG (aH (i:=6) bV.nd rfl (Or.inl rfl)) (aG (aH (i:=7) bV.nd rfl (Or.inl rfl)) (aG (aH (i:=8) bV.nd rfl (Or.inl rfl)) dO)))) (lY (@az _ _ _ _ _ (dI (PW.pt (EZ (cB Iw (pv 4) p5 (cz _)) (Cg (cB qX (pv 6) (aJ Lz (pv 4) ah (λ_ _=>rfl)) (cz _))))) (@aN _ _ _ Fd) dH)
  (@aN _ _ _ (gZ PassesOwn.never rfl (eW (pv 3)) (aH (i:=9) bV.nd rfl (Or.inl rfl)) (cX (dI (gY (aM oA hr rfl aL (af (dG (af (pv 7) (af (pv 8) (af (pv 9) ak)))) ak))) (@az _ _ _ _ _ (aU (i:=10) bV.nd rfl (Or.inl rfl) (g8 (af (pv 6) (af (aM b7 hr rfl aL (af (pv 0) (af (pv 7) (af (pv 9) ak)))) (af (aM b7 hr rfl aL (af (pv 0) (af (pv 8) (af (pv 9) ak)))) ak)))))
  (@aN _ _ _ (dI (PW.pt (qW (cB Fo (pv 4) p5 (cz _)) (nE (cB (Ly (Nat.lt_of_le_of_lt (Nat.le_add_right _ _) hu)) (pv 10) (pv 4) (cz _))))) (@aN _ _ _ (sJ (i:=4) (j:=5) rfl bV.nd rfl rfl (by decide) rfl rfl (af (pv 10) (af (dG (af (pv 7) (af (pv 8) (af (pv 9) ak)))) ak)) rfl)) dH))) dH)))))))
  (@aN _ _ _ (aT (pv 5))))))),?_⟩
 refine⟨_,rfl,t,bs,N,rfl,hT,b8,ev,bN,NT,dD,λr rs as H1 s1 er k0 k1 k2=> ?_⟩
 obtain⟨e0,PY,R0,TR⟩:=k0
 obtain⟨e1,PZ,R1,VJ⟩:=k1
 obtain⟨e2,OZ,R2,KN⟩:=k2
 refine⟨r,_,rfl,aW.of er,rfl,_,_,rfl,_,_,rfl,_,_,rfl,rfl,?_⟩
 refine⟨(by show 2<=sizeLine;decide),λp0 hp0=>⟨p0,_,rfl,m8.of ao,rfl,_,_,rfl,_,_,rfl,rfl,?_⟩⟩
 have s12:=av.up (o:= .tup [V.fZ,.fZ]) hp0
 obtain⟨H2,TU⟩:∃J,J=upd H1 p0 (.tup [V.fZ,.fZ]):=⟨_,rfl⟩
 rw[<-TU]at s12 ⊢
 clear TU hp0
 have EU:=s1.trans s12
 obtain⟨PY,w0⟩:=PY.same s12
 obtain⟨PZ,w1⟩:=PZ.same s12
 obtain⟨OZ,w2⟩:=OZ.same s12
 rw[<-w0]at R0 TR
 rw[<-w1]at R1
 rw[<-w2]at R2
 have e0:=s12 _ _ e0
 have e1:=s12 _ _ e1
 have e2:=s12 _ _ e2
 clear w0 w1 w2 VJ KN er
 obtain⟨fl,D0,a2,Ik,Mu,JS,f8,fa⟩:=eF NT dD
 have l1:=NT.Mp
 have l2:=NT.Mq
 have RP:∀b∈as 0,∀i,i<3->(aR (dJ H2 b) i).natAbs<2^60:=λb hb=>(R0.small NT dD (by omega) (by omega) _ (sf hb)).2
 have RQ:∀b∈as 1,∀i,i<3->(aR (dJ H2 b) i).natAbs<2^60:=λb hb=>(R1.small NT dD (by omega) (by omega) _ (sf hb)).2
 have RS:∀b∈as 2,∀i,i<3->(aR (dJ H2 b) i).natAbs<2^60:=λb hb=>(R2.small NT dD (by omega) (by omega) _ (sf hb)).2
 have f0:(as 0).length<=50:=by
  have:=uq NT dD (by omega) (by omega) R0
  rwa [show(rws H2 (as 0)).length=(as 0).length from List.length_map _]at this
 have f1:(as 1).length<=50:=by
  have:=uq NT dD (by omega) (by omega) R1
  rwa [show(rws H2 (as 1)).length=(as 1).length from List.length_map _]at this
 refine⟨_,rfl,_,rfl,_,rfl,t,bs,N,rs 0,as 0,rs 1,as 1,rfl,hT.same EU,b8,bN,e0,PY,RP,e1,PZ,RQ,f0,f1,EU _ _ hP,λq0 us H3 s3 fq eq items cover=> ?_⟩
 have Nh:=EU.trans s3
 have My:∀{a},a∈(as 0).take ((as 0).length/2) ->a∈as 0:=λh=>List.mem_of_mem_take h
 have fin:∀{H':Hp}{tv:V},av H3 H'->(∃ot rs' S,tv= .ref ot/\Tab H' ot rs' S/\cj S/\(aC S=1∨aC S= -1)/\Bd 60 S) ->Q tv H':=λs h=>by
  obtain⟨ot,rs',S,rfl,T,c,d,b⟩:=h
  exact q ot rs' S _ (Nh.trans s) T c d b
 refine⟨q0,rfl,⟨_,aW.of eq⟩,?_⟩
 refine l8 (xs:=us.map V.ref) (λi σ H'=> ∃bv tv o6 o7 o8 o9 wK,σ=[some (.ref t),some (.ref (rs 0)),some (.ref (rs 1)),some (.ref (rs 2)),some bv,some tv,o6,o7,o8,o9,wK]/\av H3 H'/\qE H' bv tv/\(bv= .fZ->(∀u∈us.take i,∀(m:V)(a b:Addr),H3 u=some (.tup [m,.ref a,.ref b]) -> ∀c∈as 2,Ks (.int (aC (rws H2 [a,b,c]))) [V.int 1,.int (-1)]=false))) ⟨_,_,_,_,_,_,_,rfl,av.refl _,.inl ⟨rfl,rfl⟩,λ_ u hu=>by simp at hu⟩ (λi σ H4 hi hh=> ?_) (λi x σ H4 hx hh=> ?_) (λσ H4 hh=> ?_)
 ·obtain⟨bv,tv,o6,o7,o8,o9,wK,rfl,s4,B,bar⟩:=hh
  exact aW.of (s4 _ _ eq)
 ·obtain⟨bv,tv,o6,o7,o8,o9,wK,rfl,s4,B,bar⟩:=hh
  rw[List.getElem?_map]at hx
  obtain⟨u,eu,rfl⟩:=Option.map_eq_some_iff.mp hx
  obtain⟨a,b,ha,hb,fu,e⟩:=items u (List.mem_of_getElem? eu)
  refine⟨u,_,rfl,m8.of (s4 _ _ e),rfl,_,_,rfl,_,_,rfl,_,_,rfl,rfl,?_⟩
  refine Hv (λσ' H'=>σ'=[some (.ref t),some (.ref (rs 0)),some (.ref (rs 1)),some (.ref (rs 2)),some bv,some tv,some (.int (ay N (aR (dJ H2 a)) (aR (dJ H2 b)))),some (.ref a),some (.ref b),o9,wK]/\H'=H4) (λR hR=> ?_) ?_
  ·rcases B with⟨rfl,rfl⟩|⟨ob,m,x,y,rfl,eb,T⟩
   ·exact⟨_,rfl,rfl,_,rfl,nF (nF (hR _ _ ⟨rfl,rfl⟩))⟩
   ·refine⟨_,rfl,rfl,_,rfl,sW ⟨_,rfl,_,rfl,ob,_,_,_,rfl,rfl,m8.of eb,rfl,_,_,rfl,rfl,_,rfl,lW (λc=> ?_) (λc=> ?_)⟩⟩
    ·exact⟨_,rfl,fin s4 T⟩
    ·exact hR _ _ ⟨rfl,rfl⟩
  rintro _ _ ⟨rfl,rfl⟩
  have Nc:=s3.trans s4
  refine⟨_,rfl,rs 2,rfl,⟨_,aW.of (Nc _ _ e2)⟩,?_⟩
  refine l8 (xs:=(as 2).map V.ref) (λj σ H'=> ∃bv tv o9 wK,σ=[some (.ref t),some (.ref (rs 0)),some (.ref (rs 1)),some (.ref (rs 2)),some bv,some tv,some (.int (ay N (aR (dJ H2 a)) (aR (dJ H2 b)))),some (.ref a),some (.ref b),o9,wK]/\av H3 H'/\qE H' bv tv/\(bv= .fZ->(∀u∈us.take i,∀(m:V)(a b:Addr),H3 u=some (.tup [m,.ref a,.ref b]) -> ∀c∈as 2,Ks (.int (aC (rws H2 [a,b,c]))) [V.int 1,.int (-1)]=false)/\ ∀c∈(as 2).take j,Ks (.int (aC (rws H2 [a,b,c]))) [V.int 1,.int (-1)]=false)) ⟨_,_,_,_,rfl,s4,B,λz=>⟨bar z,λc hc=>by simp at hc⟩⟩ (λj σ H5 hj hh=> ?_) (λj x σ H5 hx hh=> ?_) (λσ H5 hh=> ?_)
  ·obtain⟨bv,tv,o9,wK,rfl,s5,B,bar⟩:=hh
   exact aW.of (s5 _ _ (s3 _ _ e2))
  ·clear B bar
   obtain⟨bv,tv,o9,wK,rfl,s5,B,bar⟩:=hh
   rw[List.getElem?_map]at hx
   obtain⟨c,ec,rfl⟩:=Option.map_eq_some_iff.mp hx
   have hc:=List.mem_of_getElem? ec
   have KS:=s3.trans s5
   have Wm:=EU.trans KS
   have RT:fS H2 [a,b,c]:=λd hd=>by
    simp only[List.mem_cons,List.not_mem_nil,or_false]at hd
    rcases hd with rfl|rfl|rfl
    ·exact PY _ (My ha)
    ·exact PZ _ hb
    ·exact OZ _ hc
   obtain⟨S,eS⟩:∃S,S=rws H2 [a,b,c]:=⟨_,rfl⟩
   have S3:cj S:=by
    rw[eS]
    refine⟨rfl,λr hr=> ?_⟩
    obtain⟨d,hd,rfl⟩:=List.mem_map.mp hr
    exact(RT d hd).2
   have SB:Bd 60 S:=λk l hk hl=>by
    rw[eS]
    rcases bH hk with rfl|rfl|rfl
    ·exact RP a (My ha) l hl
    ·exact RQ b hb l hl
    ·exact RS c hc l hl
   have tabS:∀{H':Hp}{L:Addr},av H2 H'->H' L=some (.lst [.ref a,.ref b,.ref c]) ->Tab H' L [a,b,c] S:=λs e=>by
    obtain⟨o,w⟩:=RT.same s
    have:=JC (as:=[a,b,c]) e o
    rwa [w,<-eS]at this
   have tk:∀d∈(as 2).take (j+1),d∈(as 2).take j∨d=c:=λd hd=>by
    rw[List.take_add_one,ec]at hd
    rcases List.mem_append.mp hd with z|z
    ·exact .inl z
    ·exact .inr (by simpa using z)
   refine⟨_,rfl,_,rfl,_,rfl,(by show 3<=sizeLine;decide),λL hL=> ?_⟩
   have sL:=av.up (o:= .lst [V.ref a,.ref b,.ref c]) hL
   refine⟨L,[a,b,c],S,rfl,tabS (KS.trans sL) ao,S3,SB.mono (by decide),trivial,λH6 s6=>⟨_,rfl,?_⟩⟩
   have KU:=sL.trans s6
   refine lW (λc1=> ?_) (λc1=> ?_)
   ·have un:aC S=1∨aC S= -1:=by
     exact JZ c1
    have Qa:=KS.trans KU
    have Qc:=EU.trans Qa
    have at_:∀{d:Addr},d∈ [a,b,c] ->H6 d=some (.lst [.int (aR (dJ H2 d) 0),.int (aR (dJ H2 d) 1),.int (aR (dJ H2 d) 2)]):=λhd=>Qa _ _ (RT _ hd).1
    have bt:∀{d:Addr},(∀i,i<3->(aR (dJ H2 d) i).natAbs<2^60) -> ∀i,i<3->(aR (dJ H2 d) i).natAbs<2^1000:=λh i hi=>Nat.lt_of_lt_of_le (h i hi) (Nat.pow_le_pow_right (by decide) (by decide))
    refine⟨_,rfl,_,rfl,_,rfl,_,rfl,t,bs,N,a,c,_,_,rfl,hT.same Qc,b8,bN.mono (by decide),at_ (by simp),at_ (by simp),bt (RP a (My ha)),bt (RS c hc),Qc _ _ hP,λH7 s7=> ?_⟩
    refine⟨_,rfl,_,rfl,_,rfl,t,bs,N,b,c,_,_,rfl,hT.same (Qc.trans s7),b8,bN.mono (by decide),s7 _ _ (at_ (by simp)),s7 _ _ (at_ (by simp)),bt (RQ b hb),bt (RS c hc),s7 _ _ (Qc _ _ hP),λH8 s8=>⟨(by show 3<=sizeLine;decide),λF hF=> ?_⟩⟩
    refine⟨_,rfl,rfl,_,rfl,?_⟩
    rcases B with⟨rfl,rfl⟩|⟨ob,m,x,y,rfl,eb,T0⟩
    ·exact sW (sW ⟨_,rfl,_,rfl,_,rfl,_,rfl,(by show 3<=sizeLine;decide),λT Jb=>⟨_,_,rfl,⟨_,_,_,_,rfl,((s5.trans KU).trans (s7.trans (s8.trans (av.up hF)))).trans (av.up Jb),.inr ⟨F,_,_,_,rfl,(av.up Jb) _ _ ao,T,[a,b,c],S,rfl,tabS (((Qa.trans (s7.trans s8)).trans (av.up hF)).trans (av.up Jb)) ao,S3,un,SB⟩,λz=>nomatch z⟩⟩⟩)
    ·refine nF ⟨_,rfl,_,rfl,F,ob,[_,_,_],[m,x,y],rfl,rfl,m8.of ao,m8.of (av.up hF _ _ (s8 _ _ (s7 _ _ (KU _ _ eb)))),_,rfl,lW (λc9=> ?_) (λc9=> ?_)⟩
     ·exact⟨_,rfl,_,rfl,_,rfl,_,rfl,(by show 3<=sizeLine;decide),λT Jb=>⟨_,_,rfl,⟨_,_,_,_,rfl,((s5.trans KU).trans (s7.trans (s8.trans (av.up hF)))).trans (av.up Jb),.inr ⟨F,_,_,_,rfl,(av.up Jb) _ _ ao,T,[a,b,c],S,rfl,tabS (((Qa.trans (s7.trans s8)).trans (av.up hF)).trans (av.up Jb)) ao,S3,un,SB⟩,λz=>nomatch z⟩⟩⟩
     ·exact⟨_,_,_,_,rfl,(s5.trans KU).trans (s7.trans (s8.trans (av.up hF))),(qE.same (.inr ⟨ob,m,x,y,rfl,eb,T0⟩) (KU.trans (s7.trans (s8.trans (av.up hF))))),λz=>nomatch z⟩
   ·refine⟨_,_,_,_,rfl,s5.trans KU,B.same KU,λz=>⟨(bar z).1,λd hd=> ?_⟩⟩
    rcases tk d hd with z'|rfl
    ·exact(bar z).2 d z'
    ·rw[<-eS]
     exact Bool.eq_false_iff.mpr c1
  ·obtain⟨bv,tv,o9,wK,rfl,s5,B,bar⟩:=hh
   refine⟨_,_,_,_,_,_,_,rfl,s5,B,λz u' MZ m a' b' e' c hc=> ?_⟩
   obtain⟨k1,k2⟩:=bar z
   rw[List.take_add_one,eu]at MZ
   rcases List.mem_append.mp MZ with h|h
   ·exact k1 u' h m a' b' e' c hc
   ·have:u'=u:=by simpa using h
    subst this
    rw[e]at e'
    cases e'
    exact k2 c (by rw[List.length_map,List.take_length];exact hc)
 ·obtain⟨bv,tv,o6,o7,o8,o9,wK,rfl,s4,B,bar⟩:=hh
  rcases B with⟨rfl,rfl⟩|⟨ob,m,x,y,rfl,eb,T⟩
  ·exfalso
   obtain⟨m0,m1,m2⟩:=HA R0 TR R1 R2
   rw[show(rws H2 (as 0)).length=(as 0).length from List.length_map _,show rws H2 (as 0)=(as 0).map (dJ H2)from rfl,<-List.map_take]at m0
   obtain⟨a0,ha0,r0⟩:=List.mem_map.mp m0
   obtain⟨b0,hb0,r1⟩:=List.mem_map.mp m1
   obtain⟨c0,hc0,r2⟩:=List.mem_map.mp m2
   obtain⟨u,hu,e⟩:=cover a0 ha0 b0 hb0
   have k:=bar rfl u (by rw[List.length_map,List.take_length];exact hu) _ a0 b0 e c0 hc0
   rw[show rws H2 [a0,b0,c0]=[dJ H2 a0,dJ H2 b0,dJ H2 c0]from rfl,r0,r1,r2]at k
   exact absurd k (by decide)
  ·exact⟨_,rfl,fin s4 T⟩
inductive Df(T1 T2 T3 T4 T5 T6:Addr)(vs:List V)(H:Hp)(Q:VK)(E:XK):Prop
 |mk(t:Addr)(bs:List Addr)(m:List (List Int))(_:vs=[.ref t])(_:Tab H t bs m)(_:cj m)(_:Bd 440 m)(_:cH m)(_:cu m=true)(_:aC m/2<=200)(_:H T1=some (dW T1))(_:H T2=some (dW T2))(_:H T3=some (dW T3))(_:H T4=some (dW T4))(_:H T5=some (dW T5))(_:H T6=some .yw)(_:∀(P x:Addr) (xs:List Addr) (y:Addr) (ys:List Addr) (B:List (List Int)) (H':Hp),av H H'->H' P=some (.tup [.ref x,.ref y]) ->Tab H' x xs (dS m B) ->Tab H' y ys B->cj B->(aC B=1∨aC B= -1) ->Bd 900 B->H x=none->(∀b∈xs,H b=none) ->H y=none->(∀b∈ys,H b=none) ->y∉ys->Q (.ref P) H')
theorem HB{bL br aK bI aF bg:Addr}(F:fm K mg "least" xT pJ)(BA:dh P w K mg base cS 11 "half" tX (Ho bL br aK))(BC:dh P w K mg base cS 11 "near" tY (Hs bI aF bg))(kD:dh P w K mg base cS 11 "least_basis" gk (zV aF))(ju:dh P w K mg base cS 11 "carried" jt (qv bI))(iz:dh P w K mg base cS 11 "product" jr (Bg bI)):dh P w K mg base cS 12 "least" pJ (Df bL br aK bI aF bg):=by
 refine F.ok pK (λvs H Q E h=> ?_) (λf cdv A outer s H vs Q E hr h=> ?_)
 ·obtain⟨t,bs,m,rfl,hT,b8,hB,ev,ab,hd,h1,h2,h3,h4,h5,h6,q⟩:=h
  rfl
 obtain⟨t,bs,m,rfl,hT,b8,hB,ev,ab,hd,h1,h2,h3,h4,h5,h6,q⟩:=h
 have hu:=hr.units
 refine⟨_,(lY (@az _ _ _ _ _ (rY (aM BA hr rfl aL (af (pv 0) ak)))
  (@az _ _ _ _ _ (gp (aM BC hr rfl aL (af (pv 0) ak)) (kY rfl (aG (aH (i:=1) pK.nd rfl (Or.inl rfl)) (aG (aH (i:=2) pK.nd rfl (Or.inl rfl)) dO))))
  (@az _ _ _ _ _ (aU (i:=3) pK.nd rfl (Or.inl rfl) (aM kD hr rfl aL (af (pv 1) ak)))
  (@aN _ _ _ (aT (g8 (af (aM ju hr rfl aL (af (pv 1) (af (pv 3) ak))) (af (aM iz hr rfl aL (af (pv 3) (af (pv 2) ak))) ak))))))))),?_⟩
 refine⟨_,rfl,t,bs,m,rfl,hT,b8,hB,ev,ab,hd,h1,h2,h3,trivial,λH1 s1=> ?_⟩
 have D4:aC m<=401:=by omega
 have D0:=(ir ab).2.2
 refine⟨_,rfl,t,bs,m,rfl,hT.same s1,b8,hB,ev,ab,Nat.lt_of_le_of_lt (show(aC m).natAbs<=401 by omega) (by decide),s1 _ _ h4,s1 _ _ h5,s1 _ _ h6,λu us r rs B P H2 NT un dt wC bB s2 eP Tu Tr=> ?_⟩
 refine⟨P,_,rfl,m8.of eP,rfl,_,_,rfl,_,_,rfl,rfl,?_⟩
 have dN:aC (dS m B)<=401:=by rw[dt];exact D4
 have NB:=JV NT dN
 have EU:=s1.trans s2
 refine⟨_,rfl,u,us,dS m B,rfl,Tu,NT.wC,NT.ev,NB,NT,dN,EU _ _ h5,λo os S H3 s3 To S3 uS SB=> ?_⟩
 have Nh:=EU.trans s3
 refine⟨_,rfl,_,rfl,u,us,dS m B,o,os,S,rfl,Tu.same s3,To,NT.wC,S3,NB.mono (by decide),SB.mono (by decide),Nh _ _ h4,λx xs H4 s4 fx TV nx Tx=> ?_⟩
 have Qd:=Nh.trans s4
 refine⟨_,rfl,_,rfl,o,os,S,r,rs,B,rfl,To.same s4,Tr.same (s3.trans s4),S3,wC,SB.mono (by decide),bB.mono (by decide),Qd _ _ h4,λy ys H5 s5 fy RU ny Ty=> ?_⟩
 refine⟨(by show 2<=sizeLine;decide),λR hR=> ?_⟩
 have sR:=av.up (o:= .tup [V.ref x,.ref y]) hR
 have Tx:Tab H4 x xs (dS (dS m B) S):=Tx
 have eC:dS (dS m B) S=dS m (gF S B):=DL m B S
 rw[eC]at Tx
 have uy:aC (gF S B)=1∨aC (gF S B)= -1:=by
  rw[p8]
  rcases uS with a|a<;>rcases un with b|b<;>rw[a,b]
  ·exact .inl rfl
  ·exact .inr rfl
  ·exact .inr rfl
  ·exact .inl rfl
 exact q R x xs y ys (gF S B) _ (Qd.trans (s5.trans sR)) ao ((Tx.same s5).same sR) (Ty.same sR) (cG _) uy ((r6 SB bB).mono (by decide)) (Nh.none fx) (λb hb=>Nh.none (TV b hb)) (Qd.none fy) (λb hb=>Qd.none (RU b hb)) ny
end
end CT
namespace L2
open PySem PySem.Spec PyProof.Rows
theorem Ka{X:Cx}{i:Nat}{x:Str}{e:Expr}{te:TE}{pos' pos:Pos}(hN:X.N.Nodup)(hi:X.N[i]?=some x)(hx:Loc X.env.scope x)(he:FE X e te)(hs:swapsWith e (some (.Name x pos')) pos.line X.env=pure false)(hf:X.fn x=true∨X.env.scope.names.lookup x=some .local):
  ES X [.Assign [.Name x pos'] e pos] (yC te (cO i)):=aN (aU hN hi hx he.h hs hf)
section
variable{prog:Program}{w:World}{A:Around}{E:Value->Shared->Prop}{s:Shared}
end
section
variable{X:Cx}
end
section
variable{X:Cx}{pins:List (Addr×Obj)}{σ:St}{H:Hp}{s:Shared}
open Classical in
end
end L2
set_option maxHeartbeats 1000000
namespace CT
open PySem L2
section
variable{P:Program}{w:World}{K:PySem.W.Frag}{mg:Str->Option Value}{base:Heap}
inductive KW(K:PySem.W.Frag)(vs:List V)(H:Hp)(Q:VK)(E:XK):Prop
 |mk(a:Addr)(ns:List Int)(k:Int)(_:vs=[.ref a,.int k])(_:aW K H a (ns.map V.int))(_:ns.length<=63)(_:0<=k)(_:k<1000)(_:∀B H',av H H'->H B=none->kN H' B->Q (.ref B) H')
theorem zW(F:fm K mg "_law_bag" nZ jI)(gO:mg "len"=none)(uv:mg "abs"=none):dh P w K mg base cS 1 "_law_bag" jI (KW K):=by
 refine F.ok iL (λvs H Q E h=> ?_) (λf cdv A outer s H vs Q E hr h=> ?_)
 ·obtain⟨a,ns,k,rfl,hS,h63,h0,hk,q⟩:=h
  rfl
 obtain⟨a,ns,k,rfl,hS,h63,h0,hk,q⟩:=h
 have hu:=hr.units
 refine⟨_,(lY (@az _ _ _ _ _ (aU (i:=2) iL.nd rfl (Or.inl rfl) ah)
  (@az _ _ _ _ _ (dI (cB NP (pv 1) (cF eX rfl gO PySem.boot_len (af (pv 0) ak)) (cz _)) (@aN _ _ _ (aU (i:=2) iL.nd rfl (Or.inl rfl) (aJ aA (pv 0) (pv 1) (λ_ _=>rfl)))) dH)
  (@az _ _ _ _ _ (aU (i:=3) iL.nd rfl (Or.inl rfl) ah)
  (@az _ _ _ _ _ (dI (cB Fl (cF sP rfl uv PyProof.Rows.boot_abs (af (pv 2) ak)) (aq Fi ah ah) (cz _)) (@aN _ _ _ (aU (i:=3) iL.nd rfl (Or.inl rfl) (cF sP rfl uv PyProof.Rows.boot_abs (af (pv 2) ak)))) dH)
  (@aN _ _ _ (aT (dG (af (pv 3) (af (aq bJ (aq g7 (aq g6 (aq bJ (aq bJ (aq g7 (pv 2) ah) (aq g6 ah (pv 1))) ah) ah) ah) ah) ak)))))))))),?_⟩
 have hl:(ns.map V.int).length=ns.length:=List.length_map _
 refine⟨_,rfl,_,rfl,a,_,rfl,.inl hS,_,_,rfl,rfl,_,rfl,Gy (λσ' H'=> ∃c:Int,H'=H/\σ'=[some (.ref a),some (.int k),some (.int c),none]) ?_ (λc hK=> ?_) ⟨0,rfl,rfl⟩⟩
 rotate_left
 ·have c':k<(((ns.map V.int).length:Nat):Int):=of_decide_eq_true c
  rw[hl]at c'
  obtain⟨z,hz⟩:=Jd h0 c'
  exact⟨_,rfl,_,rfl,a,_,_,_,rfl,rfl,hS,hz,hK _ _ ⟨z,rfl,rfl⟩⟩
 rintro σ' H' ⟨c,rfl,rfl⟩
 refine⟨_,rfl,c,rfl,_,_,rfl,rfl,⟨by decide,by decide,by decide⟩,_,_,rfl,rfl,_,rfl,Gy (λσ' H2=> ∃g:Int,0<=g/\H2=H'/\σ'=[some (.ref a),some (.int k),some (.int c),some (.int g)]) ?_ (λ_ hK=> ?_) ⟨0,Int.le_refl 0,rfl,rfl⟩⟩
 rotate_left
 ·exact⟨_,rfl,c,rfl,hK _ _ ⟨_,by split<;>omega,rfl,rfl⟩⟩
 rintro σ' H2 ⟨g,hg,rfl,rfl⟩
 refine⟨_,rfl,_,rfl,_,_,rfl,rfl,(by show(0:Int)<2147483629;decide),_,rfl,_,_,rfl,rfl,.inl ⟨by decide,by decide⟩,_,_,rfl,rfl,_,_,rfl,rfl,_,_,rfl,rfl,.inr ⟨by decide,by decide⟩,_,_,rfl,rfl,(by show(0:Int)<2147483629;decide),_,_,rfl,rfl,(by show 2<=sizeLine;decide),λB hB=> ?_⟩
 exact q B _ (av.up hB) hB ⟨g,_,ao,hg,by have:=Int.emod_nonneg ((c%2147483629+7919*k+13)*69621) (show(2147483629:Int)≠0 by decide);omega⟩
inductive uw(vs:List V)(H:Hp)(Q:VK)(E:XK):Prop
 |mk(B:Addr)(many:Int)(_:vs=[.ref B,.int many])(_:kN H B)(_:0<many)(_:many.natAbs.log2<9000)(_:∀(d:Int) H',0<=d->d<many->SB B H H'->Q (.int d) H')
theorem x9(F:fm K mg "_law_take" mQ eU):dh P w K mg base cS 1 "_law_take" eU uw:=by
 refine F.ok pL (λvs H Q E h=> ?_) (λf cdv A outer s H vs Q E hr h=> ?_)
 ·obtain⟨B,many,rfl,⟨g,s,eB,hg,hs⟩,hm,hm2,q⟩:=h
  rfl
 obtain⟨B,many,rfl,⟨g,s,eB,hg,hs⟩,hm,hm2,q⟩:=h
 have hu:=hr.units
 refine⟨_,(lY (@az _ _ _ _ _ (dI (cB qX (aJ aA (pv 0) ah (λ_ _=>rfl)) ah (cz _)) (@az _ _ _ _ _ (aU (i:=2) pL.nd rfl (Or.inl rfl) (aq g7 (aJ aA (pv 0) ah (λ_ _=>rfl)) (pv 1)))
  (@az _ _ _ _ _ (gp (aq mz (aJ aA (pv 0) ah (λ_ _=>rfl)) (pv 1)) (p6 (pv 0) ah set_list))
  (@aN _ _ _ (aT (pv 2))))) dH)
  (@az _ _ _ _ _ (gp (aq g7 (aq bJ (aq g6 (aJ aA (pv 0) ah (λ_ _=>rfl)) ah) ah) ah) (p6 (pv 0) ah set_list))
  (@aN _ _ _ (aT (aq g7 (aq eH (aq g7 (aq g6 (aq eH (aJ aA (pv 0) ah (λ_ _=>rfl)) ah) ah) ah) ah) (pv 1))))))),?_⟩
 refine⟨_,rfl,B,_,_,_,rfl,rfl,aW.of eB,rfl,_,_,rfl,rfl,_,rfl,lW (λc=> ?_) (λc=> ?_)⟩
 ·refine⟨_,rfl,B,_,_,_,rfl,rfl,aW.of eB,rfl,_,rfl,_,_,rfl,rfl,hm,?_⟩
  refine⟨_,rfl,B,_,_,_,rfl,rfl,aW.of eB,rfl,_,rfl,_,_,rfl,rfl,⟨hm,hm2⟩,_,rfl,B,_,_,0,rfl,rfl,eB,rfl,?_⟩
  exact⟨_,rfl,q (g%many) _ (Int.emod_nonneg _ (by omega)) (Int.emod_lt_of_pos _ hm) (Gz (Int.ediv_nonneg hg (by omega)) hs)⟩
 ·refine⟨_,rfl,B,_,_,_,rfl,rfl,aW.of eB,rfl,_,_,rfl,rfl,.inr ⟨by decide,by decide⟩,_,_,rfl,rfl,_,_,rfl,rfl,(by show(0:Int)<2147483647;decide),_,rfl,B,_,_,1,rfl,rfl,eB,rfl,?_⟩
  have VL:upd H B (.lst ([V.int g,.int s].set 1 (.int ((s*48271+11)%2147483647)))) B=some (.lst [.int g,.int ((s*48271+11)%2147483647)]):=ao
  refine⟨_,rfl,B,_,_,_,rfl,rfl,aW.of VL,rfl,_,_,rfl,rfl,⟨by decide,by decide⟩,_,_,rfl,rfl,.inr ⟨by decide,by decide⟩,_,_,rfl,rfl,(by show(0:Int)<2147483629;decide),_,_,rfl,rfl,⟨by decide,by decide⟩,_,rfl,_,_,rfl,rfl,hm,?_⟩
  exact q _ _ (Int.emod_nonneg _ (by omega)) (Int.emod_lt_of_pos _ hm) (Gz hg (Int.emod_nonneg _ (by decide)))
inductive yd(vs:List V)(H:Hp)(Q:VK)(E:XK):Prop
 |mk(t:Addr)(bs:List Addr)(m:List (List Int))(_:vs=[.ref t])(_:Tab H t bs m)(_:cj m)(_:Bd 1000 m)(_:Q (.int (aC m)) H)
theorem ni(F:fm K mg "_law_determinant" gv cM):dh P w K mg base cS 1 "_law_determinant" cM yd:=by
 refine F.ok gh (λvs H Q E h=> ?_) (λf cdv A outer s H vs Q E hr h=> ?_)
 ·obtain⟨t,bs,m,rfl,hT,b8,hB,q⟩:=h
  rfl
 obtain⟨t,bs,m,rfl,hT,b8,hB,q⟩:=h
 have hu:=hr.units
 refine⟨_,(lY (@az _ _ _ _ _ (aU (i:=1) gh.nd rfl (Or.inl rfl) (aq aE (aJ aA (aJ aA (pv 0) ah (λ_ _=>rfl)) ah (λ_ _=>rfl)) (aq dw (aq aE (aJ aA (aJ aA (pv 0) ah (λ_ _=>rfl)) ah (λ_ _=>rfl)) (aJ aA (aJ aA (pv 0) ah (λ_ _=>rfl)) ah (λ_ _=>rfl))) (aq aE (aJ aA (aJ aA (pv 0) ah (λ_ _=>rfl)) ah (λ_ _=>rfl)) (aJ aA (aJ aA (pv 0) ah (λ_ _=>rfl)) ah (λ_ _=>rfl))))))
  (@az _ _ _ _ _ (aU (i:=2) gh.nd rfl (Or.inl rfl) (aq aE (aJ aA (aJ aA (pv 0) ah (λ_ _=>rfl)) ah (λ_ _=>rfl)) (aq dw (aq aE (aJ aA (aJ aA (pv 0) ah (λ_ _=>rfl)) ah (λ_ _=>rfl)) (aJ aA (aJ aA (pv 0) ah (λ_ _=>rfl)) ah (λ_ _=>rfl))) (aq aE (aJ aA (aJ aA (pv 0) ah (λ_ _=>rfl)) ah (λ_ _=>rfl)) (aJ aA (aJ aA (pv 0) ah (λ_ _=>rfl)) ah (λ_ _=>rfl))))))
  (@aN _ _ _ (aT (aq bJ (aq dw (pv 1) (pv 2)) (aq aE (aJ aA (aJ aA (pv 0) ah (λ_ _=>rfl)) ah (λ_ _=>rfl)) (aq dw (aq aE (aJ aA (aJ aA (pv 0) ah (λ_ _=>rfl)) ah (λ_ _=>rfl)) (aJ aA (aJ aA (pv 0) ah (λ_ _=>rfl)) ah (λ_ _=>rfl))) (aq aE (aJ aA (aJ aA (pv 0) ah (λ_ _=>rfl)) ah (λ_ _=>rfl)) (aJ aA (aJ aA (pv 0) ah (λ_ _=>rfl)) ah (λ_ _=>rfl))))))))))),?_⟩
 obtain⟨c0,x1,x2,_⟩:=bf hT b8 (i:=0) (by decide)
 obtain⟨c1,y1,y2,_⟩:=bf hT b8 (i:=1) (by decide)
 obtain⟨c2,w1,w2,_⟩:=bf hT b8 (i:=2) (by decide)
 refine⟨_,rfl,t,_,_,_,rfl,rfl,aW.of hT.1,x1,c0,_,_,_,rfl,rfl,aW.of x2,rfl,_,rfl,t,_,_,_,rfl,rfl,aW.of hT.1,y1,c1,_,_,_,rfl,rfl,aW.of y2,rfl,_,rfl,t,_,_,_,rfl,rfl,aW.of hT.1,w1,c2,_,_,_,rfl,rfl,aW.of w2,rfl,_,_,rfl,rfl,⟨aI (hB 1 1 (by decide) (by decide)) (by decide),aI (hB 2 2 (by decide) (by decide)) (by decide)⟩,_,rfl,t,_,_,_,rfl,rfl,aW.of hT.1,y1,c1,_,_,_,rfl,rfl,aW.of y2,rfl,_,rfl,t,_,_,_,rfl,rfl,aW.of hT.1,w1,c2,_,_,_,rfl,rfl,aW.of w2,rfl,_,_,rfl,rfl,⟨aI (hB 1 2 (by decide) (by decide)) (by decide),aI (hB 2 1 (by decide) (by decide)) (by decide)⟩,_,_,rfl,rfl,_,_,rfl,rfl,⟨aI (hB 0 0 (by decide) (by decide)) (by decide),aI (kg (cD (hB 1 1 (by decide) (by decide)) (hB 2 2 (by decide) (by decide))) (cD (hB 1 2 (by decide) (by decide)) (hB 2 1 (by decide) (by decide)))) (by decide)⟩,?_⟩
 refine⟨_,rfl,t,_,_,_,rfl,rfl,aW.of hT.1,x1,c0,_,_,_,rfl,rfl,aW.of x2,rfl,_,rfl,t,_,_,_,rfl,rfl,aW.of hT.1,y1,c1,_,_,_,rfl,rfl,aW.of y2,rfl,_,rfl,t,_,_,_,rfl,rfl,aW.of hT.1,w1,c2,_,_,_,rfl,rfl,aW.of w2,rfl,_,_,rfl,rfl,⟨aI (hB 1 0 (by decide) (by decide)) (by decide),aI (hB 2 2 (by decide) (by decide)) (by decide)⟩,_,rfl,t,_,_,_,rfl,rfl,aW.of hT.1,y1,c1,_,_,_,rfl,rfl,aW.of y2,rfl,_,rfl,t,_,_,_,rfl,rfl,aW.of hT.1,w1,c2,_,_,_,rfl,rfl,aW.of w2,rfl,_,_,rfl,rfl,⟨aI (hB 1 2 (by decide) (by decide)) (by decide),aI (hB 2 0 (by decide) (by decide)) (by decide)⟩,_,_,rfl,rfl,_,_,rfl,rfl,⟨aI (hB 0 1 (by decide) (by decide)) (by decide),aI (kg (cD (hB 1 0 (by decide) (by decide)) (hB 2 2 (by decide) (by decide))) (cD (hB 1 2 (by decide) (by decide)) (hB 2 0 (by decide) (by decide)))) (by decide)⟩,?_⟩
 refine⟨_,rfl,_,rfl,_,_,rfl,rfl,_,rfl,t,_,_,_,rfl,rfl,aW.of hT.1,x1,c0,_,_,_,rfl,rfl,aW.of x2,rfl,_,rfl,t,_,_,_,rfl,rfl,aW.of hT.1,y1,c1,_,_,_,rfl,rfl,aW.of y2,rfl,_,rfl,t,_,_,_,rfl,rfl,aW.of hT.1,w1,c2,_,_,_,rfl,rfl,aW.of w2,rfl,_,_,rfl,rfl,⟨aI (hB 1 0 (by decide) (by decide)) (by decide),aI (hB 2 1 (by decide) (by decide)) (by decide)⟩,_,rfl,t,_,_,_,rfl,rfl,aW.of hT.1,y1,c1,_,_,_,rfl,rfl,aW.of y2,rfl,_,rfl,t,_,_,_,rfl,rfl,aW.of hT.1,w1,c2,_,_,_,rfl,rfl,aW.of w2,rfl,_,_,rfl,rfl,⟨aI (hB 1 1 (by decide) (by decide)) (by decide),aI (hB 2 0 (by decide) (by decide)) (by decide)⟩,_,_,rfl,rfl,_,_,rfl,rfl,⟨aI (hB 0 2 (by decide) (by decide)) (by decide),aI (kg (cD (hB 1 0 (by decide) (by decide)) (hB 2 1 (by decide) (by decide))) (cD (hB 1 1 (by decide) (by decide)) (hB 2 0 (by decide) (by decide)))) (by decide)⟩,_,_,rfl,rfl,?_⟩
 have e:ent m 0 0*(ent m 1 1*ent m 2 2-ent m 1 2*ent m 2 1) -ent m 0 1*(ent m 1 0*ent m 2 2-ent m 1 2*ent m 2 0)+ent m 0 2*(ent m 1 0*ent m 2 1-ent m 1 1*ent m 2 0)=aC m:=by
  rw[dF]
  grind
 rw[<-e]at q
 exact q
inductive sj(vs:List V)(H:Hp)(Q:VK)(E:XK):Prop
 |mk(t:Addr)(bs:List Addr)(m:List (List Int))(a b:Addr)(x y:Nat->Int)(_:vs=[.ref t,.ref a,.ref b])(_:Tab H t bs m)(_:cj m)(_:Bd 1000 m)(_:bh H a x)(_:bh H b y)(_:∀i,i<3->(x i).natAbs<2^1000)(_:∀i,i<3->(y i).natAbs<2^1000)(_:Q (.int (ay m x y)) H)
theorem rK(F:fm K mg "_law_pairing" jJ fW)(aY:mg "range"=none):dh P w K mg base cS 1 "_law_pairing" fW sj:=by
 refine F.ok fC (λvs H Q E h=> ?_) (λf cdv A outer s H vs Q E hr h=> ?_)
 ·obtain⟨t,bs,m,a,b,x,y,rfl,hT,b8,hB,hx,hy,bx,bY,q⟩:=h
  rfl
 obtain⟨t,bs,m,a,b,x,y,rfl,hT,b8,hB,hx,hy,bx,bY,q⟩:=h
 have hu:=hr.units
 refine⟨_,(lY (@az _ _ _ _ _ (aU (i:=3) fC.nd rfl (Or.inl rfl) ah)
  (@az _ _ _ _ _ (gZ PassesOwn.never rfl (cY rfl aY (af ah ak)) (aH (i:=4) fC.nd rfl (Or.inl rfl)) (cX (gZ PassesOwn.never rfl (cY rfl aY (af ah ak)) (aH (i:=5) fC.nd rfl (Or.inl rfl)) (cX (aU (i:=3) fC.nd rfl (Or.inl rfl) (aq bJ (pv 3) (aq aE (aq aE (aJ aA (pv 1) (pv 4) (λ_ _=>rfl)) (aJ aA (aJ aA (pv 0) (pv 4) (λ_ _=>rfl)) (pv 5) (λ_ _=>rfl))) (aJ aA (pv 2) (pv 5) (λ_ _=>rfl)))))))))
  (@aN _ _ _ (aT (pv 3)))))),?_⟩
 refine⟨3,rfl,by decide,by decide,gy (n:=3) (λi σ H'=> ∃(oi oj:Option V),H=H'/\σ=[some (.ref t),some (.ref a),some (.ref b),some (.int (preSum (pairF m x y) (i*3))),oi,oj]) ⟨_,_,rfl,rfl⟩ (λi σ H' hi h=> ?_) (λσ H' h=> ?_)⟩
 ·obtain⟨oi,oj,rfl,rfl⟩:=h
  refine⟨3,rfl,by decide,by decide,gy (n:=3) (λj σ H'=> ∃(oj:Option V),H=H'/\σ=[some (.ref t),some (.ref a),some (.ref b),some (.int (preSum (pairF m x y) (i*3+j))),some (.int (0+i)),oj]) ⟨_,rfl,rfl⟩ (λj σ H' hj h=> ?_) (λσ H' h=> ?_)⟩
  ·obtain⟨oj,rfl,rfl⟩:=h
   have e1:(i*3+j)/3=i:=by omega
   have e2:(i*3+j)%3=j:=by omega
   obtain⟨c,row,f1,f2,f3⟩:=mY hT b8 hi hj
   simp only[Int.zero_add]
   refine⟨_,rfl,_,rfl,_,rfl,a,_,_,_,rfl,rfl,aW.of hx,xx x hi,_,rfl,_,rfl,t,_,_,_,rfl,rfl,aW.of hT.1,f1,_,rfl,c,_,_,_,rfl,rfl,aW.of f2,f3,_,_,rfl,rfl,⟨aI (bx i hi) (by decide),aI (hB i j hi hj) (by decide)⟩,_,rfl,_,rfl,b,_,_,_,rfl,rfl,aW.of hy,xx y hj,_,_,rfl,rfl,⟨aI (cD (bx i hi) (hB i j hi hj)) (by decide),aI (bY j hj) (by decide)⟩,_,_,rfl,rfl,?_⟩
   refine⟨some (.int j),rfl,?_⟩
   have e:preSum (pairF m x y) (i*3+(j+1))=preSum (pairF m x y) (i*3+j)+x i*ent m i j*y j:=by
    show preSum (pairF m x y) (i*3+j)+pairF m x y (i*3+j)=_
    unfold pairF
    rw[e1,e2]
   rw[e]
   rfl
  ·obtain⟨oj,rfl,rfl⟩:=h
   exact⟨some (.int (0+i)),oj,rfl,by rw[Nat.succ_mul]⟩
 ·obtain⟨oi,oj,rfl,rfl⟩:=h
  exact⟨_,rfl,q⟩
inductive HD(vs:List V)(H:Hp)(Q:VK)(E:XK):Prop
 |mk(t1:Addr)(b1:List Addr)(m1:List (List Int))(t2:Addr)(b2:List Addr)(m2:List (List Int))(_:vs=[.ref t1,.ref t2])(_:Tab H t1 b1 m1)(_:Tab H t2 b2 m2)(_:cj m1)(_:cj m2)(_:Bd 1000 m1)(_:Bd 1000 m2)(_:∀r bs H',av H H'->H r=none->(∀b∈bs,H b=none) ->r∉bs->bs.Nodup->Tab H' r bs (dS m1 m2) ->Q (.ref r) H')
theorem rL(F:fm K mg "_law_carried" jK fX)(jN:dh P w K mg base cS 1 "_law_pairing" fW sj):dh P w K mg base cS 2 "_law_carried" fX HD:=by
 refine F.ok rH (λvs H Q E h=> ?_) (λf cdv A outer s H vs Q E hr h=> ?_)
 ·obtain⟨t1,b1,m1,t2,b2,m2,rfl,h1,h2,c1,c2,d1,d2,q⟩:=h
  rfl
 obtain⟨t1,b1,m1,t2,b2,m2,rfl,h1,h2,c1,c2,d1,d2,q⟩:=h
 have hu:=hr.units
 refine⟨_,(cX (aT (kc (N2:=["_law_form","_law_by"]) (te:=(nk 1 (Fg K (bK 2)) (cO 0) (kI sj [] E0 (cJ (bK 2) (cJ (bK 1) (cJ (bK 0) jj)))))) rfl (eW (pv 1)) (by kernel_rfl) rfl (λ_ _ _=>by exact jT (kc (N2:=["_law_one","_law_form","_law_by"]) (te:=(kI sj [] E0 (cJ (bK 2) (cJ (bK 1) (cJ (bK 0) jj))))) rfl (eW (pv 2)) (by kernel_rfl) rfl (λ_ _ _=>by exact jT (aM jN hr rfl aL (af (pv 2) (af (pv 1) (af (pv 0) ak)))))))))),?_⟩
 have l2:(b2.map V.ref).length=3:=by rw[List.length_map,<-h2.2.length,c2.1]
 have e:mk3 (λi j=>ay m1 (ent m2 i) (ent m2 j))=dS m1 m2:=by
  rw[tH (show cj (dS m1 m2)from(show cj (gF (gF m2 m1) (cU m2))from cG _))]
  exact ic λi j hi hj=>(tM m1 m2 hi hj).symm
 refine⟨_,rfl,t2,rfl,⟨_,aW.of h2.1⟩,λD hD=>Gx (jX (aW.of h2.1)) l2 hD (λi j=>ay m1 (ent m2 i) (ent m2 j)) (λi x hi ex H1 Q1 s1 k1=> ?_) (λbs' H1 s1 fr nD nn hT=>q D bs' H1 s1 hD fr nD nn (by rw[<-e];exact hT))⟩
 obtain⟨b,e1,e2,_⟩:=bf (h2.same s1) c2 hi
 have ex':x= .ref b:=by
  have q1:=gz ex
  rw[e1]at q1
  exact(Option.some.inj q1).symm
 subst ex'
 refine⟨_,rfl,t2,rfl,⟨_,aW.of (h2.same s1).1⟩,λD2 Hj=>oY (jX (aW.of (h2.same s1).1)) l2 Hj (λj=>ay m1 (ent m2 i) (ent m2 j)) (λj x hj Mr H2 Q2 s2 k2=> ?_) (λH2 s2 e2=>k1 D2 H2 Hj s2 e2)⟩
 obtain⟨b',f1,f2,_⟩:=bf ((h2.same s1).same s2) c2 hj
 have ex':x= .ref b':=by
  have q1:=gz Mr
  rw[f1]at q1
  exact(Option.some.inj q1).symm
 subst ex'
 exact⟨_,rfl,_,rfl,_,rfl,t1,b1,m1,b,b',ent m2 i,ent m2 j,rfl,(h1.same s1).same s2,c1,d1,s2 _ _ e2,f2,λk hk=>d2 i k hi hk,λk hk=>d2 j k hj hk,k2 H2 (av.refl _)⟩
def Mz(a b c p q r:Int):Prop:=0<a/\a<=b/\b<=c/\c<1000000/\ -a<=p/\p<=a/\ -a<=q/\q<=a/\ -b<=r/\r<=b
inductive zX(vs:List V)(H:Hp)(Q:VK)(E:XK):Prop
 |mk(B:Addr)(_:vs=[.ref B])(_:kN H B)(_:∀a b c p q r t bs H',Mz a b c p q r->SB B H H'->H t=none->(∀b∈bs,H b=none) ->t∉bs->bs.Nodup->Tab H' t bs (lu (2*a) (2*b) (2*c) p q r) ->Q (.ref t) H')
theorem oB(F:fm K mg "_law_drawn_form" gK d9)(aV:dh P w K mg base cS 1 "_law_take" eU uw):dh P w K mg base cS 2 "_law_drawn_form" d9 zX:=by
 refine F.ok cN (λvs H Q E h=> ?_) (λf cdv A outer s H vs Q E hr h=> ?_)
 ·obtain⟨B,rfl,hb,q⟩:=h
  rfl
 obtain⟨B,rfl,hb,q⟩:=h
 have hu:=hr.units
 refine⟨_,(lY (@az _ _ _ _ _ (aU (i:=1) cN.nd rfl (Or.inl rfl) (aq bJ ah (aq g6 ah (aM aV hr rfl aL (af (pv 0) (af ah ak))))))
  (@az _ _ _ _ _ (aU (i:=2) cN.nd rfl (Or.inl rfl) (aq bJ (pv 1) (aq g6 ah (aM aV hr rfl aL (af (pv 0) (af ah ak))))))
  (@az _ _ _ _ _ (aU (i:=3) cN.nd rfl (Or.inl rfl) (aq bJ (pv 2) (aq g6 ah (aM aV hr rfl aL (af (pv 0) (af ah ak))))))
  (@az _ _ _ _ _ (aU (i:=4) cN.nd rfl (Or.inl rfl) (aq dw (aM aV hr rfl aL (af (pv 0) (af (aq bJ (pv 1) ah) ak))) (aq eH (pv 1) ah)))
  (@az _ _ _ _ _ (aU (i:=5) cN.nd rfl (Or.inl rfl) (aq dw (aM aV hr rfl aL (af (pv 0) (af (aq bJ (pv 1) ah) ak))) (aq eH (pv 1) ah)))
  (@az _ _ _ _ _ (aU (i:=6) cN.nd rfl (Or.inl rfl) (aq dw (aM aV hr rfl aL (af (pv 0) (af (aq bJ (pv 2) ah) ak))) (aq eH (pv 2) ah)))
  (@aN _ _ _ (aT (dG (af (dG (af (pv 1) (af (pv 4) (af (pv 5) ak)))) (af (dG (af (pv 4) (af (pv 2) (af (pv 6) ak)))) (af (dG (af (pv 5) (af (pv 6) (af (pv 3) ak)))) ak))))))))))))),?_⟩
 refine⟨_,rfl,B,_,rfl,hb,by decide,by decide,λd0 H1 l0 u0 s1=>⟨_,_,rfl,rfl,.inl ⟨by decide,by decide⟩,_,_,rfl,rfl,?_⟩⟩
 obtain⟨a,ea,a1,a4⟩:∃a,2+2*d0=2*a/\0<a/\a<=4:=⟨1+d0,by omega,by omega,by omega⟩
 simp only[ea]
 refine⟨_,rfl,_,rfl,B,_,rfl,s1.2,by decide,by decide,λd1 H2 l1 u1 s2=>⟨_,_,rfl,rfl,.inl ⟨by decide,by decide⟩,_,_,rfl,rfl,?_⟩⟩
 obtain⟨b,eb,ab,b9⟩:∃b,2*a+2*d1=2*b/\a<=b/\b<=9:=⟨a+d1,by omega,by omega,by omega⟩
 simp only[eb]
 refine⟨_,rfl,_,rfl,B,_,rfl,s2.2,by decide,by decide,λd2 H3 l2 u2 s3=>⟨_,_,rfl,rfl,.inl ⟨by decide,by decide⟩,_,_,rfl,rfl,?_⟩⟩
 obtain⟨c,ec,bc,c9⟩:∃c,2*b+2*d2=2*c/\b<=c/\c<1000000:=⟨b+d2,by omega,by omega,by omega⟩
 simp only[ec]
 refine⟨_,rfl,_,rfl,_,_,rfl,rfl,B,_,rfl,s3.2,by omega,log2_small (by omega) (by omega),λd3 H4 l3 u3 s4=>⟨_,rfl,_,_,rfl,rfl,⟨by decide,by decide⟩,_,_,rfl,rfl,?_⟩⟩
 refine⟨_,rfl,_,rfl,_,_,rfl,rfl,B,_,rfl,s4.2,by omega,log2_small (by omega) (by omega),λd4 H5 l4 u4 s5=>⟨_,rfl,_,_,rfl,rfl,⟨by decide,by decide⟩,_,_,rfl,rfl,?_⟩⟩
 refine⟨_,rfl,_,rfl,_,_,rfl,rfl,B,_,rfl,s5.2,by omega,log2_small (by omega) (by omega),λd5 H6 l5 u5 s6=>⟨_,rfl,_,_,rfl,rfl,⟨by decide,by decide⟩,_,_,rfl,rfl,?_⟩⟩
 obtain⟨p,ep,hp,kW⟩:∃p,d3-2*a/2=p/\ -a<=p/\p<=a:=⟨_,rfl,by omega,by omega⟩
 obtain⟨qq,eq,hq,hq'⟩:∃p,d4-2*a/2=p/\ -a<=p/\p<=a:=⟨_,rfl,by omega,by omega⟩
 obtain⟨r,er,hr',RV⟩:∃p,d5-2*b/2=p/\ -b<=p/\p<=b:=⟨_,rfl,by omega,by omega⟩
 simp only[ep,eq,er]
 have Ah:=s1.trans (s2.trans (s3.trans (s4.trans (s5.trans s6))))
 refine⟨_,rfl,_,rfl,_,rfl,(by show 3<=sizeLine;decide),λp0 h0=>⟨_,rfl,_,rfl,_,rfl,(by show 3<=sizeLine;decide),λp1 h1=>⟨_,rfl,_,rfl,_,rfl,(by show 3<=sizeLine;decide),λp2 h2=>⟨(by show 3<=sizeLine;decide),λt ht=> ?_⟩⟩⟩⟩
 have v0:=av.up (o:= .lst [.int (2*a),.int p,.int qq]) h0
 have v1:=av.up (o:= .lst [.int p,.int (2*b),.int r]) h1
 have v2:=av.up (o:= .lst [.int qq,.int r,.int (2*c)]) h2
 have v3:=av.up (o:= .lst [.ref p0,.ref p1,.ref p2]) ht
 have T:Tab _ t [p0,p1,p2] (lu (2*a) (2*b) (2*c) p qq r):=lq _ ao (v3 _ _ (v2 _ _ (v1 _ _ ao))) (v3 _ _ (v2 _ _ ao)) (v3 _ _ ao)
 obtain⟨f1,f2,f3⟩:=AE h0 h1 h2 ht
 exact q a b c p qq r t _ _ ⟨a1,ab,bc,c9,hp,kW,hq,hq',hr',RV⟩ (Ah.trans (SB.of Ah.2 (v0.trans (v1.trans (v2.trans v3))))) (Ah.gone f1) (λx hx=>Ah.gone (f2 x hx)) f3 (Gr h0 h1 h2) T
inductive zY(vs:List V)(H:Hp)(Q:VK)(E:XK):Prop
 |mk(t:Addr)(bs:List Addr)(m:List (List Int))(_:vs=[.ref t])(_:Tab H t bs m)(_:cj m)(_:Bd 1000 m)(_:Q (.bl (decide (ent m 0 1*ent m 0 1<ent m 0 0*ent m 1 1) && decide (0<aC m))) H)
theorem qF(F:fm K mg "_law_is_above" iS fE)(bO:dh P w K mg base cS 1 "_law_determinant" cM yd):dh P w K mg base cS 2 "_law_is_above" fE zY:=by
 refine F.ok qt (λvs H Q E h=> ?_) (λf cdv A outer s H vs Q E hr h=> ?_)
 ·obtain⟨t,bs,m,rfl,hT,b8,hB,q⟩:=h
  rfl
 obtain⟨t,bs,m,rfl,hT,b8,hB,q⟩:=h
 have hu:=hr.units
 refine⟨_,(cX (aT (sE (jW qX (aq aE (aJ aA (aJ aA (pv 0) ah (λ_ _=>rfl)) ah (λ_ _=>rfl)) (aJ aA (aJ aA (pv 0) ah (λ_ _=>rfl)) ah (λ_ _=>rfl))) (aq aE (aJ aA (aJ aA (pv 0) ah (λ_ _=>rfl)) ah (λ_ _=>rfl)) (aJ aA (aJ aA (pv 0) ah (λ_ _=>rfl)) ah (λ_ _=>rfl))) (cz _)) (sy (jW qX (aM bO hr rfl aL (af (pv 0) ak)) ah (cz _)))))),?_⟩
 obtain⟨c0,x1,x2,_⟩:=bf hT b8 (i:=0) (by decide)
 obtain⟨c1,y1,y2,_⟩:=bf hT b8 (i:=1) (by decide)
 obtain⟨c2,w1,w2,_⟩:=bf hT b8 (i:=2) (by decide)
 refine⟨_,rfl,t,_,_,_,rfl,rfl,aW.of hT.1,x1,c0,_,_,_,rfl,rfl,aW.of x2,rfl,_,rfl,t,_,_,_,rfl,rfl,aW.of hT.1,y1,c1,_,_,_,rfl,rfl,aW.of y2,rfl,_,_,rfl,rfl,⟨aI (hB 0 0 (by decide) (by decide)) (by decide),aI (hB 1 1 (by decide) (by decide)) (by decide)⟩,_,rfl,t,_,_,_,rfl,rfl,aW.of hT.1,x1,c0,_,_,_,rfl,rfl,aW.of x2,rfl,_,rfl,t,_,_,_,rfl,rfl,aW.of hT.1,x1,c0,_,_,_,rfl,rfl,aW.of x2,rfl,_,_,rfl,rfl,⟨aI (hB 0 1 (by decide) (by decide)) (by decide),aI (hB 0 1 (by decide) (by decide)) (by decide)⟩,_,_,rfl,rfl,_,rfl,lW (λd=> ?_) (λd=> ?_)⟩
 ·have d:ent m 0 1*ent m 0 1<ent m 0 0*ent m 1 1:=of_decide_eq_true d
  rw[decide_eq_true d,Bool.true_and]at q
  exact⟨_,rfl,t,bs,m,rfl,hT,b8,hB,_,_,rfl,rfl,q⟩
 ·have d:¬ent m 0 1*ent m 0 1<ent m 0 0*ent m 1 1:=λz=>d (decide_eq_true z)
  rw[decide_eq_false d,Bool.false_and]at q
  exact q
inductive wM(vs:List V)(H:Hp)(Q:VK)(E:XK):Prop
 |mk(B:Addr)(most:Int)(_:vs=[.ref B,.int most])(_:kN H B)(_:4<=most)(_:most<=1000)(_:∀m t bs H',cj m->Bd 30 m->cH m->cu m=true->aC m/2<=most->SB B H H'->H t=none->(∀b∈bs,H b=none) ->t∉bs->bs.Nodup->Tab H' t bs m->Q (.ref t) H')
theorem rM(F:fm K mg "_law_reduced" jL fY)(aY:mg "range"=none)(gT:dh P w K mg base cS 2 "_law_drawn_form" d9 zX)(iY:dh P w K mg base cS 2 "_law_is_above" fE zY)(bO:dh P w K mg base cS 2 "_law_determinant" cM yd)(aV:dh P w K mg base cS 2 "_law_take" eU uw):dh P w K mg base cS 3 "_law_reduced" fY wM:=by
 refine F.ok gn (λvs H Q E h=> ?_) (λf cdv A outer s H vs Q E hr h=> ?_)
 ·obtain⟨B,most,rfl,hb,m0,m1,q⟩:=h
  rfl
 obtain⟨B,most,rfl,hb,m0,m1,q⟩:=h
 have hu:=hr.units
 refine⟨_,(lY (@az _ _ _ _ _ (gZ PassesOwn.never rfl (cY rfl aY (af ah ak)) (aH (i:=2) gn.nd rfl (Or.inl rfl)) (lY (@az _ _ _ _ _ (aU (i:=3) gn.nd rfl (Or.inl rfl) (aM gT hr rfl aL (af (pv 0) ak)))
  (@aN _ _ _ (dI (PW.pt (EZ (gY (aM iY hr rfl aL (af (pv 3) ak))) (Cg (cB Co (aM bO hr rfl aL (af (pv 3) ak)) (aq g6 ah (pv 1)) (cz _))))) (@aN _ _ _ (aT (pv 3))) dH)))))
  (@az _ _ _ _ _ (aU (i:=4) gn.nd rfl (Or.inl rfl) (aq bJ ah (aq g6 ah (aM aV hr rfl aL (af (pv 0) (af (aq eH (pv 1) ah) ak))))))
  (Gq (ig (aZ (ig (aZ cW (aZ cW (aZ cW ie (by kernel_rfl)) (by kernel_rfl)) (by kernel_rfl))) (aZ (ig (aZ cW (aZ cW (aZ cW ie (by kernel_rfl)) (by kernel_rfl)) (by kernel_rfl))) (aZ (ig (aZ cW (aZ cW (aZ (fe (pv 4)) ie (by kernel_rfl)) (by kernel_rfl)) (by kernel_rfl))) ie (by kernel_rfl)) (by kernel_rfl)) (by kernel_rfl))))))),?_⟩
 refine⟨12,rfl,by decide,by decide,gy (n:=12) (λi σ H'=> ∃(o2 o3:Option V),SB B H H'/\σ=[some (.ref B),some (.int most),o2,o3,none]) ⟨_,_,SB.refl hb,rfl⟩ (λi σ H1 hi h=> ?_) (λσ H1 h=> ?_)⟩
 ·obtain⟨o2,o3,s1,rfl⟩:=h
  refine⟨_,rfl,B,rfl,s1.2,λa b c p qq r t bs H2 hD s2 ft fb nt nn T=> ?_⟩
  obtain⟨i1,i2,i3,i4,i5,i6,i7,i8,i9,Wn⟩:=hD
  have bM:Bd 30 (lu (2*a) (2*b) (2*c) p qq r):=CH (by omega) (by omega) (by omega) (by omega) (by omega) (by omega)
  have s12:=s1.trans s2
  refine⟨_,rfl,t,bs,_,rfl,T,cG _,bM.mono (by decide),_,rfl,?_⟩
  refine LW ⟨_,_,s12,rfl⟩ (λca hE=>⟨_,rfl,t,bs,_,rfl,T,cG _,bM.mono (by decide),_,rfl,_,_,rfl,rfl,.inl ⟨by decide,by decide⟩,_,_,rfl,rfl,_,rfl,lW (λcd=> ?_) (λ_=>hE)⟩)
  rw[Bool.and_eq_true]at ca
  have hd:=of_decide_eq_true ca.2
  have cd:aC (lu (2*a) (2*b) (2*c) p qq r)<=2*most:=of_decide_eq_true cd
  exact⟨_,rfl,q (lu (2*a) (2*b) (2*c) p qq r) t bs H2 (cG _) bM (vZ _ _ _ _ _ _) (tO i1 i2 i5 i6 hd) (by omega) s12 (s1.gone ft) (λx hx=>s1.gone (fb x hx)) nt nn T⟩
 ·obtain⟨o2,o3,s1,rfl⟩:=h
  refine⟨_,rfl,_,rfl,_,_,rfl,rfl,⟨by decide,by decide⟩,B,_,rfl,s1.2,by omega,log2_small (by omega) (by omega),λd H2 l0 u0 s2=>⟨_,_,rfl,rfl,.inl ⟨by decide,by decide⟩,_,_,rfl,rfl,?_⟩⟩
  obtain⟨c,ec,c1,c2⟩:∃c,2+2*d=2*c/\0<c/\4*c<=most:=⟨1+d,by omega,by omega,by omega⟩
  simp only[ec]
  have s12:=s1.trans s2
  refine⟨(by show 3<=sizeLine;decide),λp0 h0=>⟨(by show 3<=sizeLine;decide),λp1 h1=>⟨_,rfl,(by show 3<=sizeLine;decide),λp2 h2=>⟨(by show 3<=sizeLine;decide),λt ht=> ?_⟩⟩⟩⟩
  have v0:=av.up (o:= .lst [.int (2*1),.int 0,.int 0]) h0
  have v1:=av.up (o:= .lst [.int 0,.int (2*1),.int 0]) h1
  have v2:=av.up (o:= .lst [.int 0,.int 0,.int (2*c)]) h2
  have v3:=av.up (o:= .lst [.ref p0,.ref p1,.ref p2]) ht
  have T:Tab _ t [p0,p1,p2] (lu (2*1) (2*1) (2*c) 0 0 0):=lq _ ao (v3 _ _ (v2 _ _ (v1 _ _ ao))) (v3 _ _ (v2 _ _ ao)) (v3 _ _ ao)
  obtain⟨f1,f2,f3⟩:=AE h0 h1 h2 ht
  have ed:aC (lu (2*1) (2*1) (2*c) 0 0 0)=8*c:=by
   rw[Gp]
   omega
  exact q (lu (2*1) (2*1) (2*c) 0 0 0) t _ _ (cG _) (CH (by omega) (by omega) (by omega) (by omega) (by omega) (by omega)) (vZ 1 1 c 0 0 0) (tO (by decide) (by decide) (by decide) (by decide) (by rw[ed];omega)) (by rw[ed];omega) (s12.trans (SB.of s12.2 (v0.trans (v1.trans (v2.trans v3))))) (s12.gone f1) (λx hx=>s12.gone (f2 x hx)) f3 (Gr h0 h1 h2) T
inductive zZ(vs:List V)(H:Hp)(Q:VK)(E:XK):Prop
 |mk(B:Addr)(Dg:Int)(_:vs=[.ref B,.int Dg])(_:kN H B)(_:0<=Dg)(_:Dg<=10000)(_:∀m t bs H',cj m->Bd 100 m->aC m=1->SB B H H'->H t=none->(∀b∈bs,H b=none) ->t∉bs->Tab H' t bs m->Q (.ref t) H')
theorem vz(F:fm K mg "_law_basis" lG gM)(aY:mg "range"=none)(pP:mg "zip"=none)(pN:mg "int"=none)(aV:dh P w K mg base cS 1 "_law_take" eU uw):dh P w K mg base cS 2 "_law_basis" gM zZ:=by
 refine F.ok fK (λvs H Q E h=> ?_) (λf cdv A outer s H vs Q E hr h=> ?_)
 ·obtain⟨B,Dg,rfl,hb,f0,f1,K0⟩:=h
  rfl
 obtain⟨B,Dg,rfl,hb,f0,f1,K0⟩:=h
 have hu:=hr.units
 refine toF ?_
 refine⟨_,(LV (i:=2) fK.nd rfl (Or.inl rfl) (ig (aZ (ig (aZ cW (aZ cW (aZ cW ie (by kernel_rfl)) (by kernel_rfl)) (by kernel_rfl))) (aZ (ig (aZ cW (aZ cW (aZ cW ie (by kernel_rfl)) (by kernel_rfl)) (by kernel_rfl))) (aZ (ig (aZ cW (aZ cW (aZ cW ie (by kernel_rfl)) (by kernel_rfl)) (by kernel_rfl))) ie (by kernel_rfl)) (by kernel_rfl)) (by kernel_rfl))) (by kernel_rfl) (by first|exact .inl rfl|exact .inr rfl)
  (@az _ _ _ _ _ (gZ PassesOwn.never rfl (cY rfl aY (af (aM aV hr rfl aL (af (pv 0) (af (aJ aA (dG (af ah (af ah ak))) (vS Ds rfl pN PyProof.Rows.boot_int (af (jW qX (pv 1) ah (cz _)) ak)) (λ_ _=>rfl)) ak))) ak)) (aH (i:=3) fK.nd rfl (Or.inl rfl)) (lY (@az _ _ _ _ _ (aU (i:=4) fK.nd rfl (Or.inl rfl) (aM aV hr rfl aL (af (pv 0) (af ah ak))))
  (@az _ _ _ _ _ (aU (i:=5) fK.nd rfl (Or.inl rfl) (aq g7 (aq bJ (aq bJ (pv 4) ah) (aM aV hr rfl aL (af (pv 0) (af ah ak)))) ah))
  (@az _ _ _ _ _ (aU (i:=6) fK.nd rfl (Or.inr rfl) (aq dw (aM aV hr rfl aL (af (pv 0) (af (aq bJ (aq g6 ah (pv 1)) ah) ak))) (pv 1)))
  (@az _ _ _ _ _ (gp (AB (N2:=["_law_bag_here","_law_far","_law_made","_law_turn","_law_i","_law_j","_law_times"]) (te:=(jV (Dp λi j=> .int (i+j)) (bK 0) (jV (rI lU λi j=> .int (i*j)) (bK 8) (bK 1)))) rfl (AA rfl pP (af (aJ aA (pv 2) (pv 4) (λ_ _=>rfl)) (af (aJ aA (pv 2) (pv 5) (λ_ _=>rfl)) ak))) (by kernel_rfl) rfl (λ_ _ _=>by exact jT (aq bJ (pv 0) (aq aE (pv 8) (pv 1))))) (p6 (pv 2) (pv 4) set_list))
  (@aN _ _ _ (dI (cB vN (aM aV hr rfl aL (af (pv 0) (af ah ak))) ah (cz _)) (@aN _ _ _ (gp (g8 (af (aJ aA (pv 2) (pv 5) (λ_ _=>rfl)) (af (kc (N2:=["_law_bag_here","_law_far","_law_made","_law_turn","_law_i","_law_j","_law_times"]) (te:=(jV (Dp λi j=> .int (i-j)) (tC (.int 0)) (bK 0))) rfl (eW (aJ aA (pv 2) (pv 4) (λ_ _=>rfl))) (by kernel_rfl) rfl (λ_ _ _=>by exact jT (aq dw ah (pv 0)))) ak))) (kY rfl (aG (p6 (pv 2) (pv 4) set_list) (aG (p6 (pv 2) (pv 5) set_list) dO))))) dH))))))))
  (@aN _ _ _ (aT (pv 2))))),?_⟩
 refine⟨(by show 3<=sizeLine;decide),λp0 g0=>⟨(by show 3<=sizeLine;decide),λp1 g1=>⟨(by show 3<=sizeLine;decide),λp2 g2=>⟨(by show 3<=sizeLine;decide),λD hD=> ?_⟩⟩⟩⟩
 have u0:=av.up (o:= .lst [.int 1,.int 0,.int 0]) g0
 have u1:=av.up (o:= .lst [.int 0,.int 1,.int 0]) g1
 have u2:=av.up (o:= .lst [.int 0,.int 0,.int 1]) g2
 have u3:=av.up (o:= .lst [.ref p0,.ref p1,.ref p2]) hD
 have T:Tab _ D [p0,p1,p2] (CD 1):=lq _ ao (u3 _ _ (u2 _ _ (u1 _ _ ao))) (u3 _ _ (u2 _ _ ao)) (u3 _ _ ao)
 have us:=u0.trans (u1.trans (u2.trans u3))
 obtain⟨fD,fb,nD⟩:=AE g0 g1 g2 hD
 have MA:D≠B:=hb.ne fD
 have nB:∀bs:List Addr,(∀b∈bs,H b=none) ->B∉bs:=λbs f z=>hb.ne (f B z) rfl
 refine⟨_,rfl,(by show 2<=sizeLine;decide),λLx hL=> ?_⟩
 have u4:=av.up (o:= .lst [.int 6,.int 4]) hL
 refine⟨_,rfl,_,_,rfl,rfl,.inr ⟨_,rfl,?_⟩⟩
 obtain⟨v,hv,hv2⟩:=at2 (x:= .int 6) (y:= .int 4) (i:=if decide ((3:Int)<Dg)=true then 1 else 0) (by split<;>decide) (by split<;>decide)
 obtain⟨w,rfl,w0,w6⟩:∃w:Int,v= .int w/\0<w/\w<=6:=by
  rcases hv2 with rfl|rfl
  ·exact⟨_,rfl,by decide,by decide⟩
  ·exact⟨_,rfl,by decide,by decide⟩
 have TX:=SB.of hb (us.trans u4)
 refine⟨Lx,_,_,_,rfl,rfl,aW.of ao,hv,B,w,rfl,TX.2,w0,log2_small (by omega) (by omega),λd H2 l0 d6 s2=> ?_⟩
 have T2:=(T.same u4).sb s2 MA (nB _ fb)
 have EU:=TX.trans s2
 refine⟨_,rfl,by omega,by omega,gy (n:=d.toNat) (λk σ H'=> ∃(o3 o4 o5 o6:Option V)(bs:List Addr)(m:List (List Int)),σ=[some (.ref B),some (.int Dg),some (.ref D),o3,o4,o5,o6]/\SB B H H'/\Tab H' D bs m/\cj m/\Bd (15*k+1) m/\aC m=1/\(∀b∈bs,H b=none)/\D∉bs) ⟨_,_,_,_,_,_,rfl,EU,T2,cG _,λi j hi hj=> ?_,rfl,fb,nD⟩ (λk σ H1 hk h=> ?_) (λσ H1 h=> ?_)⟩
 ·rw[CD,fN _ hi hj]
  split<;>decide
 ·obtain⟨o3,o4,o5,o6,bs,m,rfl,s1,T1,wC,dm,MB,fb,nD⟩:=h
  have VM:=nB bs fb
  refine⟨_,rfl,B,_,rfl,s1.2,by decide,by decide,λd1 H2 l1 u1 s2=> ?_⟩
  refine⟨_,rfl,_,_,rfl,rfl,_,rfl,B,_,rfl,s2.2,by decide,by decide,λd2 H3 l2 u2 s3=>⟨_,_,rfl,rfl,_,_,rfl,rfl,(by show(0:Int)<3;decide),?_⟩⟩
  refine⟨_,rfl,_,rfl,_,_,rfl,rfl,.inl ⟨by decide,by decide⟩,_,_,rfl,rfl,B,_,rfl,s3.2,by omega,log2_small (by omega) (by omega),λd3 H4 l3 u3 s4=>⟨_,rfl,_,_,rfl,rfl,?_⟩⟩
  obtain⟨i,ei,hi⟩:∃i:Nat,d1=(i:Int)/\i<3:=⟨d1.toNat,by omega,by omega⟩
  obtain⟨j,ej,hj⟩:∃j:Nat,((i:Int)+1+d2)%3=(j:Int)/\j<3:=⟨(((i:Int)+1+d2)%3).toNat,by omega,by omega⟩
  have hij:i≠j:=by omega
  obtain⟨o,eo,ho⟩:∃o:Int,o=d3-Dg/\o.natAbs<2^14:=⟨_,rfl,by omega⟩
  simp only[ei,ej,<-eo]
  have Nc:=s2.trans (s3.trans s4)
  have T4:=T1.sb Nc MA VM
  have Bs:=s1.trans Nc
  obtain⟨bi,x1,x2,x3⟩:=bf T4 wC hi
  obtain⟨bj,y1,y2,y3⟩:=bf T4 wC hj
  refine⟨_,rfl,_,rfl,D,_,_,_,rfl,rfl,aW.of T4.1,x1,_,rfl,_,rfl,D,_,_,_,rfl,rfl,aW.of T4.1,y1,bi,bj,_,_,rfl,aW.of x2,aW.of y2,λR hR=> ?_⟩
  have bk:∀s,s<3->(ent m i s+o*ent m j s).natAbs<2^(15*(k+1)+1):=λs hs=>aI (k9 (aI (dm i s hi hs) (show 15*k+1<=14+(15*k+1)by omega)) (cD ho (dm j s hj hs))) (by omega)
  have k6:k<6:=by omega
  refine yV (aW.of x2) (aW.of y2) rfl (by show 3<=sizeLine;decide) hR (λu v=>match u,v with| .int i,.int j=> .int (i+o*j)|_,_=> .fZ) (λn u v eu ev G Q' sm kk=> ?_) (λH5 s5 e5=> ?_)
  ·have hn:n<3:=(List.getElem?_eq_some_iff.mp eu).1
   rcases bH hn with rfl|rfl|rfl<;>cases eu<;>cases ev<;>exact⟨_,rfl,_,rfl,_,rfl,_,_,rfl,rfl,⟨aI ho (by decide),aI (dm j _ hj (by decide)) (by omega)⟩,_,_,rfl,rfl,kk⟩
  have nR:R≠D:=Ne.symm (eE T4.1 hR)
  have l3:bs.length=3:=by rw[<-T4.2.length,wC.1]
  have fR:H R=none:=Bs.gone hR
  refine⟨_,rfl,_,rfl,D,_,_,i,rfl,rfl,s5 _ _ T4.1,(by rw[List.length_map,l3];rcases bH hi with rfl|rfl|rfl<;>rfl),?_⟩
  have T5:=xA (g:=λs=>ent m i s+o*ent m j s) (T4.same s5) wC hi e5 nR nD
  have JN:SB B H _:=(Bs.trans (SB.of Bs.2 s5)).LY (o:= .lst ((bs.map V.ref).set i (.ref R))) fD MA
  have Ni:∀b∈bs.set i R,H b=none:=λb hb=>by
   rcases List.mem_or_eq_of_mem_set hb with z|z
   ·exact fb b z
   ·rw[z];exact fR
  have Pd:D∉bs.set i R:=λhb=>by
   rcases List.mem_or_eq_of_mem_set hb with z|z
   ·exact nD z
   ·exact nR z.symm
  have Pe:Bd (15*(k+1)+1) (vc m i λs=>ent m i s+o*ent m j s):=λr s hr hs=>by
   rw[cK m _ hr hs]
   split
   ·exact bk s hs
   ·exact aI (dm r s hr hs) (by omega)
  have MC:=(Jg m hi hj hij o).trans MB
  have c5:cj (vc m i λs=>ent m i s+o*ent m j s):=cG _
  generalize vc m i (λs=>ent m i s+o*ent m j s)=M at T5 Pe MC c5
  generalize bs.set i R=bS at T5 Ni Pd
  refine⟨_,rfl,B,_,rfl,JN.2,by decide,by decide,λd4 H6 l4 u4 s6=>⟨rfl,_,rfl,lW (λ_=> ?_) (λ_=> ?_)⟩⟩
  ·have T6:=T5.sb s6 MA (nB _ Ni)
   have Ah:=JN.trans s6
   obtain⟨ai,q1,q2,q3⟩:=bf T6 c5 hi
   obtain⟨aj,r1,r2,r3⟩:=bf T6 c5 hj
   refine⟨_,rfl,_,rfl,D,_,_,_,rfl,rfl,aW.of T6.1,r1,_,rfl,_,rfl,D,_,_,_,rfl,rfl,aW.of T6.1,q1,ai,rfl,⟨_,aW.of q2⟩,λR2 RW=> ?_⟩
   refine oY (jX (aW.of q2)) rfl RW (λs=>0-ent M i s) (λn y hn ey G Q' sm kk=> ?_) (λH7 s7 e7=> ?_)
   ·rcases bH hn with rfl|rfl|rfl<;>cases ey<;>exact⟨_,rfl,_,_,rfl,rfl,kk G (av.refl _)⟩
   refine⟨(by show 2<=sizeLine;decide),λPt hP=> ?_⟩
   have u8:=av.up (o:= .tup [.ref aj,.ref R2]) hP
   have RX:=s7.trans u8
   have T8:=T6.same RX
   have l5:bS.length=3:=by rw[<-T6.2.length,c5.1]
   have TY:aj≠D:=λz=>Pd (by rw[<-z];exact r3)
   have T9:=xA (g:=λs=>ent M j s) T8 c5 hi (RX _ _ r2) TY Pd
   have Ua:D∉bS.set i aj:=λhb=>by
    rcases List.mem_or_eq_of_mem_set hb with z|z
    ·exact Pd z
    ·exact TY z.symm
   have RY:R2≠D:=Ne.symm (eE T6.1 RW)
   have e9:upd (upd H7 Pt (.tup [.ref aj,.ref R2])) D (.lst ((bS.map V.ref).set i (.ref aj))) R2=some (.lst [.int (0-ent M i 0),.int (0-ent M i 1),.int (0-ent M i 2)]):=by rw[aD RY];exact u8 _ _ e7
   have Ta:=xA (g:=λs=>0-ent M i s) T9 (cG _) hj e9 RY Ua
   have ix:∀(r:Nat)(l:List V),r<3->l.length=3->Kr l.length (r:Int)=some r:=λr l hr hl=>by rw[hl];rcases bH hr with rfl|rfl|rfl<;>rfl
   refine⟨Pt,_,rfl,m8.of ao,rfl,_,_,rfl,_,rfl,_,rfl,D,_,_,i,rfl,rfl,T8.1,ix i _ hi (by rw[List.length_map,l5]),_,_,rfl,_,rfl,_,rfl,D,_,_,j,rfl,rfl,ao,ix j _ hj (by rw[List.length_set,List.length_map,l5]),rfl,?_⟩
   have sa:SB B H _:=((Ah.trans (SB.of Ah.2 RX)).LY (o:= .lst ((bS.map V.ref).set i (.ref aj))) fD MA).LY (o:= .lst (((bS.map V.ref).set i (.ref aj)).set j (.ref R2))) fD MA
   have ea:((bS.set i aj).map V.ref).set j (.ref R2)=((bS.map V.ref).set i (.ref aj)).set j (.ref R2):=by rw[List.map_set]
   refine⟨_,_,_,_,(bS.set i aj).set j R2,vc (vc M i λs=>ent M j s) j λs=>0-ent M i s,rfl,sa,(by rw[<-ea];exact Ta),cG _,λr s hr hs=> ?_,(GA M hi hj hij).trans MC,λb hb=> ?_,λhb=> ?_⟩
   ·rw[cK _ _ hr hs]
    split
    ·have:=Pe i s hi hs
     show(0-ent M i s).natAbs<_
     rw[Int.zero_sub,Int.natAbs_neg]
     exact this
    ·rw[cK M _ hr hs]
     split
     ·exact Pe j s hj hs
     ·exact Pe r s hr hs
   ·rcases List.mem_or_eq_of_mem_set hb with z|z
    ·rcases List.mem_or_eq_of_mem_set z with y|y
     ·exact Ni b y
     ·rw[y];exact Ni aj r3
    ·rw[z];exact Ah.gone RW
   ·rcases List.mem_or_eq_of_mem_set hb with z|z
    ·exact Ua z
    ·exact RY z.symm
  ·exact⟨_,_,_,_,_,M,rfl,JN.trans s6,T5.sb s6 MA (nB _ Ni),c5,Pe,MC,Ni,Pd⟩
 ·obtain⟨o3,o4,o5,o6,bs,m,rfl,s1,T1,wC,dm,MB,fb,nD⟩:=h
  exact⟨_,rfl,K0 m D bs H1 wC (dm.mono (by omega)) MB s1 fD fb nD T1⟩
inductive wN(vs:List V)(H:Hp)(Q:VK)(E:XK):Prop
 |mk(t:Addr)(bs:List Addr)(m:List (List Int))(_:vs=[.ref t])(_:Tab H t bs m)(_:cj m)(_:∀H',av H H'->Q (.bl true) H')
theorem qG(F:fm K mg "_law_is_table" iT fF)(bE:mg "isinstance"=none)(iA:mg "list"=none)(gO:mg "len"=none)(pN:mg "int"=none)(qx:mg "bool"=none):dh P w K mg base cS 1 "_law_is_table" fF wN:=by
 refine F.ok kU (λvs H Q E h=> ?_) (λf cdv A outer s H vs Q E hr h=> ?_)
 ·obtain⟨t,bs,m,rfl,hT,b8,q⟩:=h
  rfl
 obtain⟨t,bs,m,rfl,hT,b8,q⟩:=h
 have hu:=hr.units
 refine⟨_,(lY (@az _ _ _ _ _ (dI (PW.pt (qW (l6 (gY (cF eT rfl bE PyProof.Rows.boot_isinstance (af (pv 0) (af (jU (v:= .ty "list") rfl iA PyProof.Rows.boot_list rfl) ak))))) (nE (cB Cn (cF eX rfl gO PySem.boot_len (af (pv 0) ak)) ah (cz _))))) (@aN _ _ _ (aT lZ)) dH)
  (@az _ _ _ _ _ (gZ PassesOwn.never rfl (eW (pv 0)) (aH (i:=1) kU.nd rfl (Or.inl rfl)) (lY (@az _ _ _ _ _ (dI (PW.pt (qW (l6 (gY (cF eT rfl bE PyProof.Rows.boot_isinstance (af (pv 1) (af (jU (v:= .ty "list") rfl iA PyProof.Rows.boot_list rfl) ak))))) (nE (cB Cn (cF eX rfl gO PySem.boot_len (af (pv 1) ak)) ah (cz _))))) (@aN _ _ _ (aT lZ)) dH)
  (@aN _ _ _ (dI (cB (Av hu) (Ji (N2:=["_law_found","_law_row"]) (tt:=(Sh (Nt (tB (MU (Cz K) (cJ (bK 0) (cJ (tC (.ty "int")) jj))))) (tB (MU (Cz K) (cJ (bK 0) (cJ (tC (.ty "bool")) jj)))))) (te:=(bK 0)) rfl (eW (pv 1)) (by kernel_rfl) rfl (λ_ _ _=>by exact Rl (PW.pt (qW (l6 (gY (cF eT rfl bE PyProof.Rows.boot_isinstance (af (pv 0) (af (jU (v:= .ty "int") rfl pN PyProof.Rows.boot_int rfl) ak))))) (nE (gY (cF eT rfl bE PyProof.Rows.boot_isinstance (af (pv 0) (af (jU (v:= .ty "bool") rfl qx PyProof.Rows.boot_bool rfl) ak)))))))) (λ_ _ _=>by exact jT (pv 0))) (dG ak) (cz _)) (@aN _ _ _ (aT lZ)) dH)))))
  (@aN _ _ _ (aT lZ))))),?_⟩
 have l3:(bs.map V.ref).length=3:=by rw[List.length_map,<-hT.2.length,b8.1]
 refine⟨_,rfl,_,_,_,_,rfl,.lst hT.1,kM K "list",_,rfl,nF ⟨_,rfl,t,_,rfl,.inl (aW.of hT.1),rfl,_,rfl,sX (by rw[l3];rfl) ?_⟩⟩
 refine⟨_,rfl,t,rfl,⟨_,aW.of hT.1⟩,l8 (xs:=bs.map V.ref) (λj σ H'=>(∃o,σ=[some (.ref t),o])/\av H H') ⟨⟨_,rfl⟩,av.refl _⟩ (λj σ H' _ hh=>aW.of (hT.same hh.2).1) (λj v σ H1 ev hh=> ?_) (λσ H1 hh=> ?_)⟩
 ·obtain⟨⟨o,rfl⟩,s1⟩:=hh
  have hj:j<3:=by have:=(List.getElem?_eq_some_iff.mp ev).1;rw[l3]at this;exact this
  obtain⟨b,x1,x2,_⟩:=bf (hT.same s1) b8 hj
  have ev':v= .ref b:=by
   have q1:=gz ev
   rw[x1]at q1
   exact(Option.some.inj q1).symm
  subst ev'
  refine⟨_,rfl,_,_,_,_,rfl,.lst x2,kM K "list",_,rfl,nF ⟨_,rfl,b,_,rfl,.inl (aW.of x2),rfl,_,rfl,sX rfl ?_⟩⟩
  refine⟨_,rfl,b,rfl,⟨_,aW.of x2⟩,λD hD=>zc (jX (aW.of x2)) (by show 3<=sizeLine;decide) hD (λ_=>false) id (λy hy Ha R sa kk=> ?_) (λy hy px=>absurd px (by decide)) (λHa sa ea=> ?_)⟩
  ·obtain⟨z,rfl⟩:∃z,y= .int z:=by
    simp only[List.mem_cons,List.not_mem_nil,or_false]at hy
    rcases hy with rfl|rfl|rfl<;>exact⟨_,rfl⟩
   exact⟨_,rfl,_,_,_,_,rfl,.int _,kM K "int",_,rfl,nF ⟨_,rfl,_,_,_,_,rfl,.int _,oX K,_,rfl,kk Ha (av.refl _)⟩⟩
  refine⟨(by show 0<=sizeLine;decide),λE hE=> ?_⟩
  have uE:=av.up (o:= .lst []) hE
  refine LZ (xs:=[]) (ys:=[]) (aW.of (uE _ _ ea)) (aW.of ao) ⟨_,rfl,sX rfl ?_⟩
  exact⟨⟨_,rfl⟩,s1.trans (sa.trans uE)⟩
 ·obtain⟨⟨o,rfl⟩,s1⟩:=hh
  exact q H1 s1
inductive Dh(vs:List V)(H:Hp)(Q:VK)(E:XK):Prop
 |mk(t:Addr)(bs:List Addr)(m:List (List Int))(_:vs=[.ref t])(_:Tab H t bs m)(_:cj m)(_:Bd 1000 m)(_:aC m=1∨aC m= -1)(_:∀H',av H H'->Q (.bl true) H')
theorem qH(F:fm K mg "_law_is_basis" iU fG)(uv:mg "abs"=none)(iZ:dh P w K mg base cS 1 "_law_is_table" fF wN)(bO:dh P w K mg base cS 1 "_law_determinant" cM yd):dh P w K mg base cS 2 "_law_is_basis" fG Dh:=by
 refine F.ok qu (λvs H Q E h=> ?_) (λf cdv A outer s H vs Q E hr h=> ?_)
 ·obtain⟨t,bs,m,rfl,hT,b8,hB,u,q⟩:=h
  rfl
 obtain⟨t,bs,m,rfl,hT,b8,hB,u,q⟩:=h
 have hu:=hr.units
 refine⟨_,(cX (aT (sE (aM iZ hr rfl aL (af (pv 0) ak)) (sy (jW vN (cF sP rfl uv PyProof.Rows.boot_abs (af (aM bO hr rfl aL (af (pv 0) ak)) ak)) ah (cz _)))))),?_⟩
 refine⟨_,rfl,t,bs,m,rfl,hT,b8,λH1 s1=>⟨_,rfl,sW ?_⟩⟩
 refine⟨_,rfl,t,bs,m,rfl,hT.same s1,b8,hB,?_⟩
 have e:aC m=1∨aC m= -1:=u
 rcases e with e|e<;>rw[e]<;>exact⟨_,rfl,rfl,q H1 s1⟩
def Di(K:PySem.W.Frag)(tabs gq:List Addr):Sp:=λvs H Q _=> ∃(a:Addr)(ns:List Int),vs=[.ref a]/\aW K H a (ns.map V.int)/\ns.length<=63/\(∀T∈tabs,H T=some (dW T))/\(∀T∈gq,H T=some .yw)/\ ∀H',av H H'->Q (.bl true) H'
theorem MD{f:Addr}{fd:FuncData}{bL br aK bI aF bg:Addr}{tabs gq:List Addr}(Ez:bL∈tabs)(z4:br∈tabs)(qI:aK∈tabs)(BD:bI∈tabs)(BE:aF∈tabs)(z5:bg∈gq)(F:Ku K "law" "law" pM f fd)(aY:mg "range"=none)(gO:mg "len"=none)(HE:mg "min"=none)(HF:mg "max"=none)(iA:mg "list"=none)(oE:dh P w K mg base cS 13 "_law_bag" jI (KW K))(aV:dh P w K mg base cS 13 "_law_take" eU uw)(jO:dh P w K mg base cS 13 "_law_reduced" fY wM)(lN:dh P w K mg base cS 13 "_law_basis" gM zZ)(gU:dh P w K mg base cS 13 "_law_carried" fX HD)(ye:dh P w K mg base cS 13 "least" pJ (Df bL br aK bI aF bg))(ja:dh P w K mg base cS 13 "_law_is_basis" fG Dh):oV P w K mg base cS 14 f fd ["_law_script"] (Di K tabs gq):=by
 refine F.ok ku (λvs H Q E h=> ?_) (λcdv A outer s H vs Q E hr h=> ?_)
 ·obtain⟨a,ns,rfl,hS,h63,hT,hC,q⟩:=h
  rfl
 obtain⟨a,ns,rfl,hS,h63,hT,hC,q⟩:=h
 have hu:=hr.units
 refine⟨_,(lY (@az _ _ _ _ _ (gZ PassesOwn.never rfl (cY rfl aY (af (cF (Dq rfl) rfl HF PyProof.Rows.boot_max (af ah (af (cF (Dr rfl) rfl HE PyProof.Rows.boot_min (af ah (af (cF eX rfl gO PySem.boot_len (af (pv 0) ak)) ak))) ak))) ak)) (aH (i:=1) ku.nd rfl (Or.inl rfl)) (lY (@az _ _ _ _ _ (aU (i:=2) ku.nd rfl (Or.inl rfl) (aM oE hr rfl aL (af (pv 0) (af (pv 1) ak))))
  (@az _ _ _ _ _ (aU (i:=3) ku.nd rfl (Or.inl rfl) (aM jO hr rfl aL (af (pv 2) (af ah ak))))
  (@az _ _ _ _ _ (dI (cB vN (aM aV hr rfl aL (af (pv 2) (af ah ak))) ah (cz _)) (Ka (i:=3) ku.nd rfl (Or.inl rfl) (ig (aZ (ig (aZ (fe (aq bJ ah (aq g6 ah (aM aV hr rfl aL (af (pv 2) (af ah ak)))))) (aZ cW (aZ cW ie (by kernel_rfl)) (by kernel_rfl)) (by kernel_rfl))) (aZ (ig (aZ cW (aZ cW (aZ cW ie (by kernel_rfl)) (by kernel_rfl)) (by kernel_rfl))) (aZ (ig (aZ cW (aZ cW (aZ cW ie (by kernel_rfl)) (by kernel_rfl)) (by kernel_rfl))) ie (by kernel_rfl)) (by kernel_rfl)) (by kernel_rfl))) (by kernel_rfl) (by first|exact .inl rfl|exact .inr rfl)) dH)
  (@az _ _ _ _ _ (aU (i:=3) ku.nd rfl (Or.inl rfl) (aM gU hr rfl aL (af (pv 3) (af (aM lN hr rfl aL (af (pv 2) (af (aJ aA (dG (af ah (af ah (af ah (af (aq Fi ah ah) ak))))) (aM aV hr rfl aL (af (pv 2) (af ah ak))) (λ_ _=>rfl)) ak))) ak))))
  (@az _ _ _ _ _ (LP (i:=4) ku.nd rfl rfl (N2:=["_law_script","_law_k","_law_bag_here","_law_form","_law_handed","_law_turn","_law_first","_law_basis_here"]) (te:=(MU (Cy K) (cJ (bK 0) jj))) rfl (eW (pv 3)) (by kernel_rfl) rfl (λ_ _ _=>by exact jT (vS xg rfl iA PyProof.Rows.boot_list (af (pv 0) ak))))
  (@aN _ _ _ (gZ PassesOwn.never rfl (cY rfl aY (af ah ak)) (aH (i:=5) ku.nd rfl (Or.inl rfl)) (lY (@az _ _ _ _ _ (gp (aM ye hr rfl aL (af (pv 4) ak)) (kY rfl (aG (aH (i:=6) ku.nd rfl (Or.inl rfl)) (aG (aH (i:=7) ku.nd rfl (Or.inl rfl)) dO))))
  (@az _ _ _ _ _ (dI (PW.pt (qW (l6 (gY (aM ja hr rfl aL (af (pv 7) ak)))) (qW (cB (Av hu) (aM gU hr rfl aL (af (pv 3) (af (pv 7) ak))) (pv 6) (cz _)) (nE (cB (Av hu) (pv 4) (pv 3) (cz _)))))) (@aN _ _ _ (aT lZ)) dH)
  (@az _ _ _ _ _ (gp (aq bJ (aJ aA (aJ aA (pv 7) ah (λ_ _=>rfl)) ah (λ_ _=>rfl)) ah) (p6 (aJ aA (pv 7) ah (λ_ _=>rfl)) ah set_list))
  (@aN _ _ _ (rY (Fx PySem.F.plainAttrs_list PySem.F.slot_list_append PySem.F.type_list_append jo (pv 7) (af (dG (af ah (af ah (af ah ak)))) ak)))))))))))))))))
  (@aN _ _ _ (aT lZ)))),?_⟩
 have hl:(ns.map V.int).length=ns.length:=List.length_map _
 refine⟨_,rfl,a,_,rfl,.inl hS,_,_,rfl,_,_,rfl,_,rfl,?_⟩
 obtain⟨mx,VN,Wo,Wq⟩:∃mx:Int,(if(if((ns.map V.int).length:Int)<3 then((ns.map V.int).length:Int)else 3)>1 then(if((ns.map V.int).length:Int)<3 then((ns.map V.int).length:Int)else 3)else 1)=mx/\0<=mx/\mx<=3:=⟨_,rfl,by split<;>split<;>omega,by split<;>split<;>omega⟩
 rw[VN]
 refine⟨by omega,by omega,?_⟩
 refine gy (λi σ H'=> ∃o1 o2 o3 o4 o5 o6 o7,σ=[some (.ref a),o1,o2,o3,o4,o5,o6,o7]/\av H H') ⟨_,_,_,_,_,_,_,rfl,av.refl _⟩ (λi σ H1 hi hh=> ?_) (λσ H1 hh=> ?_)
 ·obtain⟨o1,o2,o3,o4,o5,o6,o7,rfl,s1⟩:=hh
  refine⟨_,rfl,_,rfl,a,ns,_,rfl,s1.seq hS,h63,by omega,by omega,λB H2 s2 fB hb=> ?_⟩
  refine⟨_,rfl,B,_,rfl,hb,by decide,by decide,λm t bs H3 wC dm ev ab le s3 ft fb nt nn T=> ?_⟩
  have EU:=s1.trans s2
  have VO:H B=none:=s1.none fB
  have out:∀{H':Hp},SB B H2 H'->av H H':=λs b o e=>s.1 b o (λz=>by rw[z,VO]at e;cases e) (EU _ _ e)
  have Pf:t≠B:=hb.ne ft
  have Pg:B∉bs:=λz=>hb.ne (fb B z) rfl
  refine gN ?_
  refine Hv (λσ' H'=> ∃t bs m,σ'=[some (.ref a),some (.int (0+(i:Int))),some (.ref B),some (.ref t),o4,o5,o6,o7]/\SB B H2 H'/\Tab H' t bs m/\cj m/\Bd 30 m/\cH m/\cu m=true/\aC m/2<=200/\t≠B/\B∉bs) (λR hR=> ?_) ?_
  ·refine⟨_,rfl,B,_,rfl,s3.2,by decide,by decide,λd H4 d0 d8 s4=>⟨rfl,_,rfl,lW (λc=> ?_) (λc=> ?_)⟩⟩
   ·refine⟨_,rfl,B,_,rfl,s4.2,by decide,by decide,λe H5 e0 e2 s5=> ?_⟩
    refine⟨_,_,rfl,rfl,.inl ⟨by decide,by decide⟩,_,_,rfl,rfl,(by show 3<=sizeLine;decide),λp0 h0=>⟨(by show 3<=sizeLine;decide),λp1 h1=>⟨(by show 3<=sizeLine;decide),λp2 h2=>⟨(by show 3<=sizeLine;decide),λt' ht'=> ?_⟩⟩⟩⟩
    have v0:=av.up (o:= .lst [V.int (2+98*e),.int 0,.int 0]) h0
    have v1:=av.up (o:= .lst [V.int 0,.int 2,.int 0]) h1
    have v2:=av.up (o:= .lst [V.int 0,.int 0,.int 2]) h2
    have v3:=av.up (o:= .lst [V.ref p0,.ref p1,.ref p2]) ht'
    have KS:=(s3.trans s4).trans s5
    have f1:H5 p1=none:=v0.none h1
    have f2:H5 p2=none:=v0.none (v1.none h2)
    have f3:H5 t'=none:=v0.none (v1.none (v2.none ht'))
    have T':Tab (upd (upd (upd (upd H5 p0 (.lst [V.int (2+98*e),.int 0,.int 0])) p1 (.lst [V.int 0,.int 2,.int 0])) p2 (.lst [V.int 0,.int 0,.int 2])) t' (.lst [V.ref p0,.ref p1,.ref p2])) t' [p0,p1,p2] [[2+98*e,0,0],[0,2,0],[0,0,2]]:=
     ⟨ao,.cons (v3 _ _ (v2 _ _ (v1 _ _ ao))) (.cons (v3 _ _ (v2 _ _ ao)) (.cons (v3 _ _ ao) .nil))⟩
    have ee:e=0∨e=1:=by omega
    refine hR _ _ ⟨t',[p0,p1,p2],[[2+98*e,0,0],[0,2,0],[0,0,2]],rfl,KS.trans (SB.of KS.2 (v0.trans (v1.trans (v2.trans v3)))),T',?_,?_,?_,?_,?_,s5.ne f3,λz=> ?_⟩
    ·rcases ee with rfl|rfl
     ·exact cG (λi j=>if i=j then 2 else 0)
     ·exact cG (λi j=>if i=j then(if i=0 then 100 else 2)else 0)
    ·intro i j hi hj
     rcases ee with rfl|rfl<;>rcases bH hi with rfl|rfl|rfl<;>rcases bH hj with rfl|rfl|rfl<;>decide
    ·rcases ee with rfl|rfl
     ·exact⟨⟨rfl,rfl,rfl⟩,1,1,1,rfl,rfl,rfl⟩
     ·exact⟨⟨rfl,rfl,rfl⟩,50,1,1,rfl,rfl,rfl⟩
    ·rcases ee with rfl|rfl<;>decide
    ·rcases ee with rfl|rfl<;>decide
    ·simp only[List.mem_cons,List.not_mem_nil,or_false]at z
     rcases z with z|z|z
     ·exact s5.ne h0 z.symm
     ·exact s5.ne f1 z.symm
     ·exact s5.ne f2 z.symm
   ·exact hR _ _ ⟨t,bs,m,rfl,s3.trans s4,T.sb s4 Pf Pg,wC,dm,ev,ab,le,Pf,Pg⟩
  clear T wC dm ev ab le Pf Pg ft fb nt nn s3
  rintro _ H3 ⟨t,bs,m,rfl,s3,T,wC,dm,ev,ab,le,Pf,Pg⟩
  refine⟨_,rfl,_,rfl,_,_,rfl,rfl,⟨by decide,by decide,by decide⟩,(by show 4<=sizeLine;decide),λp hp=> ?_⟩
  have sp:=av.up (o:= .lst [V.int 3,.int 3,.int 3,.int (10^(4:Int).toNat)]) hp
  have VP:p≠B:=s3.ne hp
  have RZ:=s3.trans (SB.of s3.2 sp)
  refine⟨_,rfl,B,_,rfl,RZ.2,by decide,by decide,λd H5 d0 d4 s5=> ?_⟩
  obtain⟨Dg,hv,f0,f1⟩:∃Dg:Int,yv [V.int 3,.int 3,.int 3,.int (10^(4:Int).toNat)] d=some (.int Dg)/\0<=Dg/\Dg<=10000:=by
   have:d=0∨d=1∨d=2∨d=3:=by omega
   rcases this with rfl|rfl|rfl|rfl<;>exact⟨_,rfl,by decide,by decide⟩
  have KS:=RZ.trans s5
  refine⟨p,_,_,_,rfl,rfl,aW.of (s5.1 p _ VP ao),hv,B,Dg,rfl,s5.2,f0,f1,λmb tb VQ H6 cb dB Sa s6 Wr Ws Wt Tb=> ?_⟩
  have Sb:=(SB.of s3.2 sp).trans (s5.trans s6)
  have T6:=T.sb Sb Pf Pg
  refine⟨t,bs,m,tb,VQ,mb,rfl,T6,Tb,wC,cb,dm.mono (by decide),dB.mono (by decide),λu us H7 s7 fu Rv nu Wu Tu=> ?_⟩
  have uB:aC mb=1∨aC mb= -1:= .inl Sa
  have Tu:Tab H7 u us (dS m mb):=Tu
  have cC:cj (dS m mb):=(show cj (gF (gF mb m) (cU mb))from cG _)
  have dC:Bd 440 (dS m mb):=(r6 (r6 dB dm) (yT dB)).mono (by decide)
  have Ub:=v7 ev wC cb
  have Uc:=tL (eL ev wC) ab cb uB
  have Ud:aC (dS m mb)/2<=200:=by rw[yX uB];exact le
  generalize dS m mb=C at Tu cC dC Ub Uc Ud
  have VR:=(s3.trans Sb).trans (SB.of s6.2 s7)
  refine⟨_,rfl,u,rfl,⟨_,aW.of Tu.1⟩,λD hD=>Gw Tu (by rw[cC.1];decide) hD λVS H8 s8 Wv nh Ww Th=> ?_⟩
  have Ue:=(out VR).trans s8
  have Ug:=Tu.same s8
  clear T T6 Tb Sb KS RZ s5 s6 sp hp
  refine gN ?_
  refine⟨2,rfl,by decide,by decide,gy (n:=2) (λj σ H'=> ∃o5 o6 o7,σ=[some (.ref a),some (.int (0+(i:Int))),some (.ref B),some (.ref u),some (.ref D),o5,o6,o7]/\av H8 H') ⟨_,_,_,rfl,av.refl _⟩ (λj σ H9 hj hh=> ?_) (λσ H9 hh=> ?_)⟩
  ·obtain⟨o5,o6,o7,rfl,s9⟩:=hh
   have Nj:=Ue.trans s9
   refine⟨_,rfl,D,VS,C,rfl,Th.same s9,cC,dC,Ub,Uc,Ud,(Nj) _ _ (hT _ Ez),(Nj) _ _ (hT _ z4),(Nj) _ _ (hT _ qI),(Nj) _ _ (hT _ BD),(Nj) _ _ (hT _ BE),(Nj) _ _ (hC _ z5),λP x xs y ys BB Ha sa eP Tx Ty B3 VT bB fx TV fy RU ny=> ?_⟩
   refine⟨P,_,rfl,m8.of eP,rfl,_,_,rfl,_,_,rfl,rfl,?_⟩
   refine⟨_,rfl,y,ys,BB,rfl,Ty,B3,bB.mono (by decide),VT,λHb sb=>⟨_,rfl,nF ?_⟩⟩
   have Uh:=s9.trans (sa.trans sb)
   refine⟨_,rfl,_,rfl,u,us,C,y,ys,BB,rfl,Ug.same Uh,Ty.same sb,cC,B3,dC.mono (by decide),bB.mono (by decide),λw ws Hc sc fw Wx nw Wy Tw=> ?_⟩
   have Tw:Tab Hc w ws (dS C BB):=Tw
   have Ui:=Uh.trans sc
   have Sd:=sb.trans sc
   refine⟨_,rfl,Dd Tw (Tx.same Sd) ⟨_,rfl,sX rfl ?_⟩⟩
   refine⟨_,rfl,_,rfl,Dd (Th.same Ui) (Ug.same Ui) ⟨_,rfl,sX rfl ?_⟩⟩
   have Qe:=Ty.same Sd
   obtain⟨c2,z1,z2,zm⟩:=bf Qe B3 (i:=2) (by decide)
   refine⟨_,rfl,y,_,_,_,rfl,rfl,aW.of Qe.1,z1,c2,_,_,_,rfl,rfl,aW.of z2,rfl,_,_,rfl,rfl,_,rfl,y,_,_,_,rfl,rfl,aW.of Qe.1,z1,c2,_,_,2,rfl,rfl,z2,rfl,?_⟩
   have yc:y≠c2:=λz=>ny (z▸zm)
   have ey:upd Hc c2 (.lst ([V.int (ent BB 2 0),.int (ent BB 2 1),.int (ent BB 2 2)].set 2 (.int (ent BB 2 2+1)))) y=some (.lst (ys.map V.ref)):=by rw[aD yc];exact Qe.1
   have ly:(ys.map V.ref).length=3:=by rw[List.length_map,<-Ty.2.length,B3.1]
   refine⟨_,rfl,.inl ⟨rfl,_,aW.of ey⟩,(by show 3<=sizeLine;decide),λe he=> ?_⟩
   refine⟨y,_,.ref e,rfl,rfl,av.up he _ _ ey,(by rw[ly];decide),?_⟩
   exact⟨_,_,_,rfl,s9.trans (zO ((zO (sa.trans Sd) (RU c2 zm)).trans (av.up he)) fy)⟩
  ·obtain⟨o5,o6,o7,rfl,s9⟩:=hh
   exact⟨_,_,_,_,_,_,_,rfl,Ue.trans s9⟩
 ·obtain⟨o1,o2,o3,o4,o5,o6,o7,rfl,s1⟩:=hh
  exact q _ s1
end
theorem all_mk{l:PySem.W.OpenLaw}{q:Program}{loose:List Str}{mean:ExcName->Option Value}{w:World}{K:PySem.W.Frag}{h:Heap}{mg mb:Str->Option Value}{fa wO vB ux vC Kc EA EB BF z6 uz lV EC ME wQ Kd yf ED yg uA BG yh MF MI HG z7 vD qJ BH vE Ke BI z8 oF uC uF pW rN uG yi rO rP HH:Addr}(X:K.In h)(Tp:PyProof.Rows.Top q loose mean mg mb h)(VU:mg "law"=some (.ref fa))
  (qK:FnAt K "product" qh wO)
  (kE:FnAt K "turned_over" ki vB)
  (jP:FnAt K "signed_minor" jF ux)
  (kF:FnAt K "determinant" kj vC)
  (yj:FnAt K "cover" xQ Kc)
  (qL:FnAt K "carried" qi EA)
  (qM:FnAt K "low_row" qm EB)
  (oG:FnAt K "is_whole" nT BF)
  (uH:FnAt K "is_row" tV z6)
  (oH:FnAt K "is_table" nU uz)
  (jb:FnAt K "is_even_table" iR lV)
  (qN:FnAt K "is_form" qk EC)
  (BJ:FnAt K "half" Bb ME)
  (qO:FnAt K "pairing" ql wQ)
  (yk:FnAt K "worth" xR Kd)
  (lO:FnAt K "less_times" lD yf)
  (qP:FnAt K "nearest" qo ED)
  (lP:FnAt K "least_pair" lE yg)
  (oJ:FnAt K "in_order" nX uA)
  (oK:FnAt K "drawn_in" nY BG)
  (lQ:FnAt K "near_basis" lF yh)
  (BK:FnAt K "near" Be MF)
  (BL:FnAt K "root" Bf MI)
  (uI:FnAt K "slices" tZ HG)
  (mU:FnAt K "near_rows" mP z7)
  (kG:FnAt K "corner_rows" kq vD)
  (iC:FnAt K "pairs_in_order" iy qJ)
  (oM:FnAt K "is_basis" nV BH)
  (kH:FnAt K "least_basis" kr vE)
  (ym:FnAt K "least" xT Ke)
  (oN:FnAt K "_law_bag" nZ BI)
  (mV:FnAt K "_law_take" mQ z8)
  (gx:FnAt K "_law_determinant" gv oF)
  (jQ:FnAt K "_law_pairing" jJ uC)
  (jR:FnAt K "_law_carried" jK uF)
  (gW:FnAt K "_law_drawn_form" gK pW)
  (jc:FnAt K "_law_is_above" iS rN)
  (jS:FnAt K "_law_reduced" jL uG)
  (lR:FnAt K "_law_basis" lG yi)
  (jd:FnAt K "_law_is_table" iT rO)
  (je:FnAt K "_law_is_basis" iU rP)
  {MJ HJ:Option Addr}{MK:Array (Option Value)}{ML HK HL HM BN HN:Value}(Dj:PySem.W.nsIn K mainGlobals "law"=some (some (.ref HH)))(HP:K.lookup HH=some ⟨ML,MJ,.func (PySem.W.fnOf "law" "law" (gm pM) (eK pM) (aB pM) .none HK HL HM HJ BN HN),MK⟩)(HQ:PySem.W.codeIn K BN "law"=true)(HR:PySem.W.keepIn K (.ref HH)=true)
  {EE:DefRec}(qQ:(PyProof.Rows.recsOf q).find? (λe=>e.name==("product":Str))=some EE)
  {HS:DefRec}(uJ:(PyProof.Rows.recsOf q).find? (λe=>e.name==("is_row":Str))=some HS)
  {BO:DefRec}(oO:(PyProof.Rows.recsOf q).find? (λe=>e.name==("is_table":Str))=some BO)
  {rQ:DefRec}(jf:(PyProof.Rows.recsOf q).find? (λe=>e.name==("is_even_table":Str))=some rQ)
  {EF:DefRec}(qR:(PyProof.Rows.recsOf q).find? (λe=>e.name==("pairing":Str))=some EF)
  {BP:DefRec}(oQ:(PyProof.Rows.recsOf q).find? (λe=>e.name==("in_order":Str))=some BP)
  (HU:PySem.W.nsIn K mainGlobals "sum"=some none)
  (m7:PySem.W.nsIn K mainGlobals "range"=some none)
  (lS:PySem.W.nsIn K mainGlobals "isinstance"=some none)
  (HV:PySem.W.nsIn K mainGlobals "int"=some none)
  (y_bool:PySem.W.nsIn K mainGlobals "bool"=some none)
  (BQ:PySem.W.nsIn K mainGlobals "list"=some none)
  (HW:PySem.W.nsIn K mainGlobals "len"=some none)
  (HX:PySem.W.nsIn K mainGlobals "all"=some none)
  {iW:_}(jg:PySem.W.nsIn K mainGlobals "GREATEST_HALF"=some (some (Value.int 200 iW)))
  (HY:PySem.W.nsIn K mainGlobals "zip"=some none)
  (uK:PySem.W.nsIn K mainGlobals "sorted"=some none)
  (HZ:PySem.W.nsIn K mainGlobals "abs"=some none)
  (Ia:PySem.W.nsIn K mainGlobals "min"=some none)
  (Ib:PySem.W.nsIn K mainGlobals "max"=some none)
  (ap:Gb K [wO,z6,uz,lV,wQ] [uA]=true)
  :∃(fd:FuncData)(tabs gq:List Addr),(∀(s:Shared)(v:Value),BindsTo s fd ⟨[v],[]⟩ [("_law_script",v)])/\(∀T∈tabs++gq,isCodeTable h T/\h.get? T=some {cls:= .none,data:= .fields #[]})/\(∀T∈tabs,T∉gq)/\ ∀base:Heap,K.In base->base.Ns mainGlobals mg->BM mg base->oV l.prog w K mg base cS 40 fa fd ["_law_script"] (Di K tabs gq):=by
 have G:=Tp.g
 have e:=VU.symm.trans (PySem.W.mg_of X G Dj)
 cases e
 have Uj:=PySem.W.mg_of X G Dj
 obtain⟨bI,EG,BR,BS,BU⟩:=qK.Ej (ps:=jr) Tp X qQ
 have vF:=kE.fun (ps:=fJ) Tp X
 have uM:=jP.fun (ps:=fU) Tp X
 have vG:=kF.fun (ps:=dR) Tp X
 have Kf:=yj.fun (ps:=pI) Tp X
 have EH:=qL.fun (ps:=jt) Tp X
 have EI:=qM.fun (ps:=kR) Tp X
 have BV:=oG.fun (ps:=jD) Tp X
 obtain⟨bL,Ic,EJ,EK,EL⟩:=uH.Ej (ps:=mL) Tp X uJ
 obtain⟨br,BW,z9,Aa,Ab⟩:=oH.Ej (ps:=jE) Tp X oO
 obtain⟨aK,rR,qS,qT,qU⟩:=jb.Ej (ps:=fz) Tp X jf
 have EM:=qN.fun (ps:=kQ) Tp X
 have MM:=BJ.fun (ps:=tX) Tp X
 obtain⟨aF,EN,BX,BY,BZ⟩:=qO.Ej (ps:=f7) Tp X qR
 have Kg:=yk.fun (ps:=lC) Tp X
 have yo:=lO.fun (ps:=f9) Tp X
 have EO:=qP.fun (ps:=kT) Tp X
 have yp:=lP.fun (ps:=gI) Tp X
 obtain⟨bg,Ca,Ac,Ad,iN⟩:=oJ.Ej (ps:=iw) Tp X oQ
 have Cb:=oK.fun (ps:=jH) Tp X
 have yq:=lQ.fun (ps:=gJ) Tp X
 have MN:=BK.fun (ps:=tY) Tp X
 have MO:=BL.fun (ps:=qp) Tp X
 have Ie:=uI.fun (ps:=mO) Tp X
 have Ae:=mU.fun (ps:=iK) Tp X
 have vH:=kG.fun (ps:=gj) Tp X
 have qV:=iC.fun (ps:=eN) Tp X
 have Cc:=oM.fun (ps:=jG) Tp X
 have vI:=kH.fun (ps:=gk) Tp X
 have Kh:=ym.fun (ps:=pJ) Tp X
 have Cd:=oN.fun (ps:=jI) Tp X
 have Af:=mV.fun (ps:=eU) Tp X
 have oR:=gx.fun (ps:=cM) Tp X
 have uN:=jQ.fun (ps:=fW) Tp X
 have uO:=jR.fun (ps:=fX) Tp X
 have pX:=gW.fun (ps:=d9) Tp X
 have rS:=jc.fun (ps:=fE) Tp X
 have uQ:=jS.fun (ps:=fY) Tp X
 have yr:=lR.fun (ps:=gM) Tp X
 have rT:=jd.fun (ps:=fF) Tp X
 have rV:=je.fun (ps:=fG) Tp X
 have Ph:=Fy (st:=pM) HP HQ HR
 have wD:=PySem.W.mg_none_of X G HU
 have aY:=PySem.W.mg_none_of X G m7
 have bE:=PySem.W.mg_none_of X G lS
 have pN:=PySem.W.mg_none_of X G HV
 have qx:=PySem.W.mg_none_of X G y_bool
 have iA:=PySem.W.mg_none_of X G BQ
 have gO:=PySem.W.mg_none_of X G HW
 have pO:=PySem.W.mg_none_of X G HX
 have iX:=PySem.W.mg_of X G jg
 have pP:=PySem.W.mg_none_of X G HY
 have gQ:=PySem.W.mg_none_of X G uK
 have uv:=PySem.W.mg_none_of X G HZ
 have HE:=PySem.W.mg_none_of X G Ia
 have HF:=PySem.W.mg_none_of X G Ib
 refine⟨PySem.W.fnOf "law" "law" (gm pM) (eK pM) (aB pM) .none HK HL HM HJ BN HN,[bI,bL,br,aK,aF],[bg],λs v=> .of_eq rfl,λT hT=> ?_,λT hT hC=> ?_,λbase MR _ bm=> ?_⟩
 ·simp only[List.mem_append,List.mem_cons,List.not_mem_nil,or_false,or_assoc]at hT
  rcases hT with rfl|rfl|rfl|rfl|rfl|rfl
  ·exact⟨BR,BS⟩
  ·exact⟨EJ,EK⟩
  ·exact⟨z9,Aa⟩
  ·exact⟨qS,qT⟩
  ·exact⟨BX,BY⟩
  ·exact⟨Ac,Ad⟩
 ·simp only[List.mem_cons,List.not_mem_nil,or_false]at hT hC
  rcases hT with e|e|e|e|e
  ·exact mq ap (by simp) (by simp) BU iN (e.symm.trans hC)
  ·exact mq ap (by simp) (by simp) EL iN (e.symm.trans hC)
  ·exact mq ap (by simp) (by simp) Ab iN (e.symm.trans hC)
  ·exact mq ap (by simp) (by simp) qU iN (e.symm.trans hC)
  ·exact mq ap (by simp) (by simp) BZ iN (e.symm.trans hC)
 have iz:=Bh (P:=l.prog) (w:=w) (mg:=mg) (base:=base) EG bm wD aY
 have fL:=t7 (P:=l.prog) (w:=w) (mg:=mg) (base:=base) vF aY
 have jM:=rJ (P:=l.prog) (w:=w) (mg:=mg) (base:=base) uM
 have cy:=t9 (P:=l.prog) (w:=w) (mg:=mg) (base:=base) vG
 have xU:=Hl (P:=l.prog) (w:=w) (mg:=mg) (base:=base) Kf aY jM.mono
 have ju:=Bl (P:=l.prog) (w:=w) (mg:=mg) (base:=base) EH iz.mono fL.mono
 have qz:=Bm (P:=l.prog) (w:=w) (mg:=mg) (base:=base) EI cy.mono xU.mono
 have n9:=zA (P:=l.prog) (w:=w) (mg:=mg) (base:=base) BV bE pN qx
 have uc:=El (P:=l.prog) (w:=w) (mg:=mg) (base:=base) Ic bm bE iA gO pO n9.mono
 have oh:=zB (P:=l.prog) (w:=w) (mg:=mg) (base:=base) BW bm bE iA gO pO uc.mono
 have iV:=qy (P:=l.prog) (w:=w) (mg:=mg) (base:=base) rR bm pO aY oh.mono fL.mono
 have qA:=Bo (P:=l.prog) (w:=w) (mg:=mg) (base:=base) EM iV.mono qz.mono
 have BA:=JM (P:=l.prog) (w:=w) (mg:=mg) (base:=base) MM iX qA.mono cy.mono
 have b7:=Bq (P:=l.prog) (w:=w) (mg:=mg) (base:=base) EN bm wD pP
 have gP:=Hq (P:=l.prog) (w:=w) (mg:=mg) (base:=base) Kg b7.mono
 have eY:=vh (P:=l.prog) (w:=w) (mg:=mg) (base:=base) yo pP
 have qB:=Br (P:=l.prog) (w:=w) (mg:=mg) (base:=base) EO
 have lH:=vj (P:=l.prog) (w:=w) (mg:=mg) (base:=base) yp eY.mono qB.mono b7.mono gP.mono
 have gw:=zF (P:=l.prog) (w:=w) (mg:=mg) (base:=base) Ca bm gQ gP.mono
 have oq:=zG (P:=l.prog) (w:=w) (mg:=mg) (base:=base) Cb b7.mono eY.mono gw.mono
 have lI:=vm (P:=l.prog) (w:=w) (mg:=mg) (base:=base) yq gw.mono lH.mono oq.mono gP.mono
 have BC:=JO (P:=l.prog) (w:=w) (mg:=mg) (base:=base) MN lI.mono ju.mono
 have ou:=JQ (P:=l.prog) (w:=w) (mg:=mg) (base:=base) MO
 have uo:=Es (P:=l.prog) (w:=w) (mg:=mg) (base:=base) Ie aY cy.mono ou.mono
 have mT:=x6 (P:=l.prog) (w:=w) (mg:=mg) (base:=base) Ae gQ uo.mono ou.mono
 have kC:=ur (P:=l.prog) (w:=w) (mg:=mg) (base:=base) vH aY mT.mono
 have iB:=pV (P:=l.prog) (w:=w) (mg:=mg) (base:=base) qV gO gQ b7.mono
 have oA:=zU (P:=l.prog) (w:=w) (mg:=mg) (base:=base) Cc cy.mono
 have kD:=uu (P:=l.prog) (w:=w) (mg:=mg) (base:=base) vI kC.mono iB.mono b7.mono oA.mono
 have ye:=HB (P:=l.prog) (w:=w) (mg:=mg) (base:=base) Kh BA.mono BC.mono kD.mono ju.mono iz.mono
 have oE:=zW (P:=l.prog) (w:=w) (mg:=mg) (base:=base) Cd gO uv
 have aV:=x9 (P:=l.prog) (w:=w) (mg:=mg) (base:=base) Af
 have bO:=ni (P:=l.prog) (w:=w) (mg:=mg) (base:=base) oR
 have jN:=rK (P:=l.prog) (w:=w) (mg:=mg) (base:=base) uN aY
 have gU:=rL (P:=l.prog) (w:=w) (mg:=mg) (base:=base) uO jN.mono
 have gT:=oB (P:=l.prog) (w:=w) (mg:=mg) (base:=base) pX aV.mono
 have iY:=qF (P:=l.prog) (w:=w) (mg:=mg) (base:=base) rS bO.mono
 have jO:=rM (P:=l.prog) (w:=w) (mg:=mg) (base:=base) uQ aY gT.mono iY.mono bO.mono aV.mono
 have lN:=vz (P:=l.prog) (w:=w) (mg:=mg) (base:=base) yr aY pP pN aV.mono
 have iZ:=qG (P:=l.prog) (w:=w) (mg:=mg) (base:=base) rT bE iA gO pN qx
 have ja:=qH (P:=l.prog) (w:=w) (mg:=mg) (base:=base) rV uv iZ.mono bO.mono
 exact(MD (P:=l.prog) (w:=w) (mg:=mg) (base:=base) (tabs:=[bI,bL,br,aK,aF]) (gq:=[bg]) (bL:=bL) (by simp) (br:=br) (by simp) (aK:=aK) (by simp) (bI:=bI) (by simp) (aF:=aF) (by simp) (bg:=bg) (by simp) Ph aY gO HE HF iA oE.mono aV.mono jO.mono lN.mono gU.mono ye.mono ja.mono).mono (by decide)
theorem walk{l:PySem.W.OpenLaw}{q:Program}{loose:List Str}{XP:(Str->Option Value) ->Heap->Prop}{YP:World->Heap->Prop}{d:DefRec}{K:Params->PySem.W.Frag}(hn:l.most=some 63)(hdf:d.params.defaults=[])
  (hY:∀(w:World)(h:Heap),YP w h->(K w.params).In h)(hcl:∀(w:World),PySem.W.kb_classed (K w.params)=true)
  (F:∀(w:World)(mg mb:Str->Option Value)(mean:ExcName->Option Value)(fa:Addr)(h:Heap),(K w.params).In h->PyProof.Rows.Top q (PySem.W.looseW q loose) mean mg mb h->mg d.name=some (.ref fa) ->
   ∃(fd:FuncData)(tabs gq:List Addr),(∀(s:Shared)(u:Value),BindsTo s fd ⟨[u],[]⟩ [("_law_script",u)])/\(∀T∈tabs++gq,isCodeTable h T/\h.get? T=some {cls:= .none,data:= .fields #[]})/\(∀T∈tabs,T∉gq)/\
    ∀base:Heap,(K w.params).In base->base.Ns mainGlobals mg->BM mg base->oV l.prog w (K w.params) mg base cS 40 fa fd ["_law_script"] (Di (K w.params) tabs gq)):
  PySem.W.WalkO q loose XP YP l.row.toRowW d [] (λf vs=>PySem.call f vs):=
 L2.Gd (n:=63) (k:=40) (x:= "_law_script") (sp:=Di) hn (by decide) hdf ⟨rfl,by decide,by decide⟩ hY hcl F (λ_ tabs gq H a ns hl hT hC hS Q hQ=>⟨a,ns,rfl,hS,hl,hT,hC,hQ⟩)
theorem ws:PySem.W.OpenLaw.wellSaid PySem.Challenge.rw_conekin_k27_the_basis_leads_there=true:=by kernel_rfl
end CT
namespace PySem.W.Fast
theorem tw6742831000397316533:True:=⟨⟩
theorem tw16519570894563120143:True:=⟨⟩
theorem tw4438109279520719335:True:=⟨⟩
theorem tw5233377504191507939:True:=⟨⟩
theorem tw2208410771125290359:True:=⟨⟩
theorem tw7413567582447229120:True:=⟨⟩
theorem tw4060231276104467019:True:=⟨⟩
theorem tw8451391474026084067:True:=⟨⟩
theorem tw18404847043040081311:True:=⟨⟩
theorem tw15470103783060564850:True:=⟨⟩
theorem tw2208177878484154878:True:=⟨⟩
theorem tw9895352931969819393:True:=⟨⟩
theorem tw12608101861287664952:True:=⟨⟩
theorem tw6450553012472953836:True:=⟨⟩
theorem tw14517254293576646677:True:=⟨⟩
theorem tw5854381132865526342:True:=⟨⟩
theorem tw788330856958119079:True:=⟨⟩
theorem tw12241198410360920102:True:=⟨⟩
theorem tw10359807483308100539:True:=⟨⟩
theorem tw4100891354560937839:True:=⟨⟩
theorem tw5017718787762147706:True:=⟨⟩
theorem tw14375788978720462840:True:=⟨⟩
theorem tw7953526368946952610:True:=⟨⟩
theorem tw9217786212617330830:True:=⟨⟩
theorem tw7349691187465152696:True:=⟨⟩
theorem tw17199433743653157940:True:=⟨⟩
theorem tw12625029223691261886:True:=⟨⟩
theorem tw15937578177789194336:True:=⟨⟩
theorem tw8783987379562941436:True:=⟨⟩
theorem tw18317586994248373371:True:=⟨⟩
theorem tw12870147350310182259:True:=⟨⟩
theorem tw9447492146260270005:True:=⟨⟩
theorem tw568909360219645864:True:=⟨⟩
theorem tw6063052965403071243:True:=⟨⟩
theorem tw14210400062192651213:True:=⟨⟩
theorem tw2218597339469528673:True:=⟨⟩
theorem tw10519888737705285260:True:=⟨⟩
theorem tw1370817134144414303:True:=⟨⟩
theorem tw8736324961533393101:True:=⟨⟩
theorem tw4151114571502521768:True:=⟨⟩
theorem tw4584840284370870608:True:=⟨⟩
theorem tw6038563606405566037:True:=⟨⟩
theorem tw655160875169895597:True:=⟨⟩
theorem tw13326200979671148542:True:=⟨⟩
theorem tw10413345899218046683:True:=⟨⟩
theorem tw9388800829957059446:True:=⟨⟩
theorem tw141404805110077914:True:=⟨⟩
theorem tw8660165844763088695:True:=⟨⟩
theorem tw15189679471228167266:True:=⟨⟩
theorem tw17787677806253915912:True:=⟨⟩
theorem tw4147365607527653163:True:=⟨⟩
theorem tw2512027341021386544:True:=⟨⟩
theorem tw3834460739271863681:True:=⟨⟩
theorem tw9691658427975914382:True:=⟨⟩
theorem tw13009803879473688514:True:=⟨⟩
theorem tw4356184744910567076:True:=⟨⟩
theorem tw209188768374052540:True:=⟨⟩
theorem tw10713581202722298104:True:=⟨⟩
theorem tw321110927382008560:True:=⟨⟩
theorem tw10621105359241970384:True:=⟨⟩
theorem tw8491656269987367404:True:=⟨⟩
theorem tw9878031286850207457:True:=⟨⟩
theorem tw15126323020540508953:True:=⟨⟩
theorem tw5256840026307374503:True:=⟨⟩
theorem tw12278471782522987681:True:=⟨⟩
theorem tw13753397881546341273:True:=⟨⟩
theorem tw116783071480467821:True:=⟨⟩
theorem tw7811260136906654746:True:=⟨⟩
theorem tw7805367442703147975:True:=⟨⟩
theorem tw6544463446124721444:True:=⟨⟩
theorem tw12787774222186361798:True:=⟨⟩
theorem tw4090759746303894100:True:=⟨⟩
theorem tw10267900510293903259:True:=⟨⟩
theorem tw10889620354792174423:True:=⟨⟩
theorem tw11109258654573129116:True:=⟨⟩
theorem tw16934945189765528241:True:=⟨⟩
theorem tw11831711504387029401:True:=⟨⟩
theorem tw17825772375450233134:True:=⟨⟩
theorem tw6028978225720881247:True:=⟨⟩
theorem tw5656342942653066597:True:=⟨⟩
theorem tw592661392734424451:True:=⟨⟩
theorem tw6941630438097707056:True:=⟨⟩
theorem tw10314383941471171165:True:=⟨⟩
theorem tw4204956759957555610:True:=⟨⟩
theorem tw3637952091225070331:True:=⟨⟩
theorem tw6883062922371487230:True:=⟨⟩
theorem tw17036427179748882006:True:=⟨⟩
theorem tw17450432352128621747:True:=⟨⟩
theorem tw6408327624882764562:True:=⟨⟩
theorem tw13872239837669644187:True:=⟨⟩
theorem tw18133809357844388340:True:=⟨⟩
theorem tw2186538948650049385:True:=⟨⟩
theorem tw10084951035472578935:True:=⟨⟩
theorem tw1833230491851207004:True:=⟨⟩
theorem tw3716287596615425068:True:=⟨⟩
theorem tw13248412022932605512:True:=⟨⟩
theorem tw17801419132532727407:True:=⟨⟩
theorem tw5428377034348662320:True:=⟨⟩
theorem tw14459368879553956611:True:=⟨⟩
theorem tw14811975486600800217:True:=⟨⟩
theorem tw874827754374108965:True:=⟨⟩
theorem tw10301399919508371475:True:=⟨⟩
theorem tw16056556341916459748:True:=⟨⟩
theorem tw9390891561876716525:True:=⟨⟩
theorem tw4720414198448789536:True:=⟨⟩
theorem tw10861739680547584004:True:=⟨⟩
theorem tw6822971439830431010:True:=⟨⟩
theorem tw12085012671808244505:True:=⟨⟩
theorem tw8930351149406134808:True:=⟨⟩
theorem tw17143540298963572195:True:=⟨⟩
theorem tw10371648618169618878:True:=⟨⟩
theorem tw15416050915230195645:True:=⟨⟩
theorem tw5061897220046241308:True:=⟨⟩
theorem tw18098411328034768158:True:=⟨⟩
theorem tw17487751025721875952:True:=⟨⟩
theorem tw13857597932113248036:True:=⟨⟩
theorem tw5996344747419964708:True:=⟨⟩
theorem tw5717123138288978971:True:=⟨⟩
theorem tw7996581871268977993:True:=⟨⟩
theorem tw6575298139845463617:True:=⟨⟩
theorem tw616461173236284450:True:=⟨⟩
theorem tw2679844226915562202:True:=⟨⟩
theorem tw2101985533868614816:True:=⟨⟩
theorem tw3274363175777210382:True:=⟨⟩
theorem tw7290466134502413347:True:=⟨⟩
theorem tw18194683287922922342:True:=⟨⟩
theorem tw3756431935815270049:True:=⟨⟩
theorem tw15602819551873467136:True:=⟨⟩
theorem tw14985100554952168429:True:=⟨⟩
theorem tw14561836374162215111:True:=⟨⟩
theorem tw9245138767603357447:True:=⟨⟩
theorem tw17539995803584283696:True:=⟨⟩
theorem tw15095914665246579847:True:=⟨⟩
theorem tw12224114603010799777:True:=⟨⟩
theorem tw10016153290148385583:True:=⟨⟩
theorem tw14396915582181617688:True:=⟨⟩
theorem tw13085386497506964848:True:=⟨⟩
theorem tw5936774290592208589:True:=⟨⟩
theorem tw11218175623844449936:True:=⟨⟩
theorem tw9650797409392239322:True:=⟨⟩
theorem tw18390571537281388090:True:=⟨⟩
theorem tw16696653343145823108:True:=⟨⟩
theorem tw11527475827787952649:True:=⟨⟩
theorem tw11141401095559964599:True:=⟨⟩
theorem tw7293215907416169088:True:=⟨⟩
theorem tw13952943168858705631:True:=⟨⟩
theorem tw5437437569044608092:True:=⟨⟩
theorem tw1614521128830309344:True:=⟨⟩
theorem tw10485230480390182184:True:=⟨⟩
theorem tw14604219852064063537:True:=⟨⟩
theorem tw4170771346346546762:True:=⟨⟩
theorem tw7749787468714380271:True:=⟨⟩
theorem tw6705895242442945449:True:=⟨⟩
theorem tw6282865363615820725:True:=⟨⟩
theorem tw17401952487152073962:True:=⟨⟩
theorem tw15998163206201300759:True:=⟨⟩
theorem tw12982638934003571319:True:=⟨⟩
theorem tw17555246417439380684:True:=⟨⟩
theorem tw8582174622452257721:True:=⟨⟩
theorem tw366026730641695642:True:=⟨⟩
theorem tw2738071375060334382:True:=⟨⟩
theorem tw254221106563752313:True:=⟨⟩
theorem tw11586233525339751134:True:=⟨⟩
theorem tw671139377134555230:True:=⟨⟩
theorem tw15120680704168187574:True:=⟨⟩
theorem tw14965510304824272010:True:=⟨⟩
theorem tw16926697556946468551:True:=⟨⟩
theorem tw5607962901871556408:True:=⟨⟩
theorem tw4454510412211696761:True:=⟨⟩
theorem tw5603212144567873424:True:=⟨⟩
theorem tw6020986379166454100:True:=⟨⟩
theorem tw5578950806052707169:True:=⟨⟩
theorem tw3598063618859473488:True:=⟨⟩
theorem tw10623860563469628935:True:=⟨⟩
theorem tw4633569648037849630:True:=⟨⟩
theorem tw11074431405657497935:True:=⟨⟩
theorem tw10946029555070177584:True:=⟨⟩
theorem tw15760546370806785984:True:=⟨⟩
theorem tw11347022596254892:True:=⟨⟩
theorem tw16729464329637079370:True:=⟨⟩
theorem tw11127419771369340639:True:=⟨⟩
theorem tw17432128249474661649:True:=⟨⟩
theorem tw7641029493712838786:True:=⟨⟩
theorem tw2612584607570301782:True:=⟨⟩
theorem tw7410871585617819433:True:=⟨⟩
theorem tw284229682850097970:True:=⟨⟩
theorem tw2555881883124971336:True:=⟨⟩
theorem tw10170377443868226266:True:=⟨⟩
theorem tw17628212545941877045:True:=⟨⟩
theorem tw13458705828170251719:True:=⟨⟩
theorem tw2886792037019361043:True:=⟨⟩
theorem tw6803729802112911885:True:=⟨⟩
theorem tw362517994814122722:True:=⟨⟩
theorem tw5364159244380170110:True:=⟨⟩
theorem tw4911865470675378086:True:=⟨⟩
theorem tw2573084607648953811:True:=⟨⟩
theorem tw17691150168623462514:True:=⟨⟩
theorem tw1377765981538554451:True:=⟨⟩
theorem tw12033944399675684493:True:=⟨⟩
theorem tw13328709351198151017:True:=⟨⟩
theorem tw6041486160567132538:True:=⟨⟩
theorem tw6584439504958200499:True:=⟨⟩
theorem tw8427034452642665011:True:=⟨⟩
theorem tw6925586632263224439:True:=⟨⟩
theorem tw62777803185266889:True:=⟨⟩
theorem tw5604328806348687113:True:=⟨⟩
theorem tw13556068224048126721:True:=⟨⟩
theorem tw12245301862735316295:True:=⟨⟩
theorem tw10935114576254586913:True:=⟨⟩
theorem tw4150353195889859281:True:=⟨⟩
theorem tw4443514276673286390:True:=⟨⟩
theorem tw9927500027190732740:True:=⟨⟩
theorem tw17802472029285450096:True:=⟨⟩
theorem tw12727349916059031268:True:=⟨⟩
theorem tw10160393699714166988:True:=⟨⟩
theorem tw8942731040685188798:True:=⟨⟩
theorem tw5422278101183810989:True:=⟨⟩
theorem tw4766401054515065671:True:=⟨⟩
theorem tw8755835398774021576:True:=⟨⟩
theorem tw3300635821030290321:True:=⟨⟩
theorem tw15070794394825388696:True:=⟨⟩
theorem tw14797482356625957465:True:=⟨⟩
theorem tw135308709056371064:True:=⟨⟩
theorem tw11868555078294995775:True:=⟨⟩
end PySem.W.Fast
end
open PySem PySem.W PyProof.Rows
set_option maxRecDepth 100000 in
set_option maxHeartbeats 0 in
theorem PySem.Challenge.cw_conekin_k27_the_basis_leads_there_holds : PySem.Challenge.rw_conekin_k27_the_basis_leads_there.Holds := by
 w_on;refine PySem.W.holds_law CT.ws λsaid=> ?_;k_head;(case hw=>w_witness2)
 k_fill
 refine CT.walk (l:=PySem.Challenge.rw_conekin_k27_the_basis_leads_there) rfl rfl (λw h Y=>by first|exact PySem.W.kIn_of Y|exact PySem.W.km_in_of Y) ?cl ?F
 case cl=>
  intro w
  first|kernel_rfl|(trace_state;k_is)
 case F=>
  intro w mg mb mean fa h KX Tp hmg
  refine' CT.all_mk KX Tp hmg ?qK ?kE ?jP ?kF ?yj ?qL ?qM ?oG ?uH ?oH ?jb ?qN ?BJ ?qO ?yk ?lO ?qP ?lP ?oJ ?oK ?lQ ?BK ?BL ?uI ?mU ?kG ?iC ?oM ?kH ?ym ?oN ?mV ?gx ?jQ ?jR ?gW ?jc ?jS ?lR ?jd ?je ?Dj ?HP ?HQ ?HR ?qQ ?uJ ?oO ?jf ?qR ?oQ ?HU ?m7 ?lS ?HV ?y_bool ?BQ ?HW ?HX ?jg ?HY ?uK ?HZ ?Ia ?Ib ?ap
  (case qK=>exact L2.fnAt)
  (case kE=>exact L2.fnAt)
  (case jP=>exact L2.fnAt)
  (case kF=>exact L2.fnAt)
  (case yj=>exact L2.fnAt)
  (case qL=>exact L2.fnAt)
  (case qM=>exact L2.fnAt)
  (case oG=>exact L2.fnAt)
  (case uH=>exact L2.fnAt)
  (case oH=>exact L2.fnAt)
  (case jb=>exact L2.fnAt)
  (case qN=>exact L2.fnAt)
  (case BJ=>exact L2.fnAt)
  (case qO=>exact L2.fnAt)
  (case yk=>exact L2.fnAt)
  (case lO=>exact L2.fnAt)
  (case qP=>exact L2.fnAt)
  (case lP=>exact L2.fnAt)
  (case oJ=>exact L2.fnAt)
  (case oK=>exact L2.fnAt)
  (case lQ=>exact L2.fnAt)
  (case BK=>exact L2.fnAt)
  (case BL=>exact L2.fnAt)
  (case uI=>exact L2.fnAt)
  (case mU=>exact L2.fnAt)
  (case kG=>exact L2.fnAt)
  (case iC=>exact L2.fnAt)
  (case oM=>exact L2.fnAt)
  (case kH=>exact L2.fnAt)
  (case ym=>exact L2.fnAt)
  (case oN=>exact L2.fnAt)
  (case mV=>exact L2.fnAt)
  (case gx=>exact L2.fnAt)
  (case jQ=>exact L2.fnAt)
  (case jR=>exact L2.fnAt)
  (case gW=>exact L2.fnAt)
  (case jc=>exact L2.fnAt)
  (case jS=>exact L2.fnAt)
  (case lR=>exact L2.fnAt)
  (case jd=>exact L2.fnAt)
  (case je=>exact L2.fnAt)
  (case Dj=>k_is);(case HP=>k_is);(case HQ=>k_is);(case HR=>k_is)
  (case qQ=>rfl)
  (case uJ=>rfl)
  (case oO=>rfl)
  (case jf=>rfl)
  (case qR=>rfl)
  (case oQ=>rfl)
  (case HU=>k_is)
  (case m7=>k_is)
  (case lS=>k_is)
  (case HV=>k_is)
  (case y_bool=>k_is)
  (case BQ=>k_is)
  (case HW=>k_is)
  (case HX=>k_is)
  (case jg=>k_is)
  (case HY=>k_is)
  (case uK=>k_is)
  (case HZ=>k_is)
  (case Ia=>k_is)
  (case Ib=>k_is)
  (case ap=>kernel_rfl)
