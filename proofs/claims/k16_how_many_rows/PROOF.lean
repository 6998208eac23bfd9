import PyProof.Rows.All
import Wide.All
import Wide.FinOn
import PyProof.EqAt
import PyProof.EqKinds
import PyProof.TupleCall
import KE.KIsAll
import KE.KTryMore
import KE.KEqDeep
import KE.KEqSeq
import KE.KRegrown
import KE.KSortKey
import KE.KItem
import KE.KNestM
import OpenK.KOwn
import OpenK.KRaise
import OpenK.KWalk
import OpenK.KFacts
import OpenK.KMake
import OpenK.KExp
import OpenK.KDescr
import KE.KLam
import KE.KSortTup
import PyProof.Rows.SortRuns
import PyProof.Rows.RuleM_int
import PyProof.FactsAll.int_0
import PySem.Challenge.RW_conekin_k16_how_many_rows
set_option Elab.async false
set_option linter.all false
set_option maxRecDepth 100000
set_option genSizeOf false
noncomputable section
namespace L2
open PySem PySem.Spec PyProof.Rows
abbrev Key:=Sum Int Str
def Jb:Key->Value->Bool
 | .inl k,v=>Value.isInt k v
 | .inr x,v=>Value.isStrOf x v
def OA(w:World):Key->Int
 | .inl k=>hashInt k
 | .inr x=>hashStr w x
theorem eE:∀{k:Key} {v:Value},Jb k v=true->(∃i t,k=Sum.inl i/\v=Value.int i t)∨(∃x t,k=Sum.inr x/\v=Value.str x t)
 | .inl i,v,h=>by
  obtain⟨t,e⟩:=Value.isInt_shape (k:=i) (v:=v) h
  exact .inl ⟨i,t,rfl,e⟩
 | .inr x,v,h=>by
  obtain⟨t,e⟩:=Value.isStrOf_shape (x:=x) (v:=v) h
  exact .inr ⟨x,t,rfl,e⟩
theorem JJ(a b:Int):decide ((Sum.inl a:Key)=Sum.inl b)=(a==b):=by
 by_cases e:a=b
 ·subst e;simp
 ·have h:¬(Sum.inl a:Key)=Sum.inl b:=λq=>e (Sum.inl.inj q)
  rw[decide_eq_false h]
  exact(beq_eq_false_iff_ne.mpr e).symm
theorem JK(a b:Str):decide ((Sum.inr a:Key)=Sum.inr b)=decide (a=b):=by
 by_cases e:a=b
 ·subst e;simp
 ·have h:¬(Sum.inr a:Key)=Sum.inr b:=λq=>e (Sum.inr.inj q)
  rw[decide_eq_false h,decide_eq_false e]
theorem JL(a:Int)(b:Str):decide ((Sum.inl a:Key)=Sum.inr b)=false:=decide_eq_false (λq=>nomatch q)
theorem JM(a:Str)(b:Int):decide ((Sum.inr a:Key)=Sum.inl b)=false:=decide_eq_false (λq=>nomatch q)
def Bv(prog:Program)(w:World):PySem.KeyKind prog w Key where
 is:=Jb
 hash:=OA w
 inj:=λv a b ha hb=>by
  rcases eE ha with⟨i,t,rfl,rfl⟩|⟨x,t,rfl,rfl⟩
  ·rcases eE hb with⟨j,u,rfl,e⟩|⟨y,u,rfl,e⟩
   ·injection e with e1 _;rw[e1]
   ·exact nomatch e
  ·rcases eE hb with⟨j,u,rfl,e⟩|⟨y,u,rfl,e⟩
   ·exact nomatch e
   ·injection e with e1 _;rw[e1]
 byValue:=λk v h=>by
  rcases eE h with⟨i,t,rfl,rfl⟩|⟨x,t,rfl,rfl⟩<;>rfl
 pyHash:=λhv h=>by
  rcases eE hv with⟨i,t,rfl,rfl⟩|⟨x,t,rfl,rfl⟩
  ·exact wpAny_pyHash_int h
  ·exact wpAny_pyHash_str h
 eqBool:=λhu hv h=>by
  rcases eE hu with⟨i,t,rfl,rfl⟩|⟨x,t,rfl,rfl⟩
  ·rcases eE hv with⟨j,u,rfl,rfl⟩|⟨y,u,rfl,rfl⟩
   ·rw[JJ]at h;exact wpAny_eqBool_int h
   ·rw[JL]at h;exact SeqAt.EqAt.int_str i t y u _ _ _ _ h
  ·rcases eE hv with⟨j,u,rfl,rfl⟩|⟨y,u,rfl,rfl⟩
   ·rw[JM]at h;exact SeqAt.EqAt.str_int x t j u _ _ _ _ h
   ·rw[JK]at h;exact wpAny_eqBool_str h
 «strs» :=λk x t v h=>by
  rcases eE h with⟨i,u,rfl,e⟩|⟨y,u,rfl,e⟩
  ·exact nomatch e
  ·injection e with e1 _
   subst e1
   cases v<;>rfl
inductive V where
 |iR|bl (b:Bool)|int (i:Int)|str (x:Str)|El (b:Array UInt8)|LN (b:UInt64)|ref (a:Addr)|ty (n:String)
 deriving DecidableEq
def RelV:V->Value->Prop
 | .iR,u=>u=Value.none
 | .bl b,u=>u=Value.bool b
 | .int i,u=> ∃t,u=Value.int i t
 | .str x,u=> ∃t,u=Value.str x t
 | .El b,u=> ∃t,u=Value.bytes b t
 | .LN b,u=> ∃t,u=Value.float b t
 | .ref a,u=>u=Value.ref a
 | .ty n,u=>u=Value.type n
abbrev Vals:List V->List Value->Prop:=Paired RelV
theorem Vals.length{xs:List V}{us:List Value}(r:Vals xs us):xs.length=us.length:=Paired.length r
theorem Vals.get:∀{xs:List V} {us:List Value} {i:Nat} {x:V},Vals xs us->xs[i]?=some x-> ∃u,us[i]?=some u/\RelV x u
 |_,_,_,_,.nil,e=>by simp at e
 |_,_,0,_,.cons r _,e=>by simp at e;subst e;exact⟨_,rfl,r⟩
 |_,_,i+1,x,.cons _ t,e=>by
  obtain⟨u,h1,h2⟩:=Vals.get (i:=i) (x:=x) t (by simpa using e)
  exact⟨u,by simpa using h1,h2⟩
theorem Vals.set{x:V}{u:Value}(r:RelV x u):∀{xs:List V} {us:List Value} (i:Nat),Vals xs us->Vals (xs.set i x) (us.set i u)
 |_,_,_,.nil=> .nil
 |_,_,0,.cons _ t=> .cons r t
 |_,_,i+1,.cons q t=> .cons q (Vals.set r i t)
theorem Vals.append:∀{xs ys:List V} {us ws:List Value},Vals xs us->Vals ys ws->Vals (xs++ys) (us++ws)
 |_,_,_,_,.nil,s=>s
 |_,_,_,_,.cons r t,s=> .cons r (Vals.append t s)
theorem Vals.take:∀{xs:List V} {us:List Value} (n:Nat),Vals xs us->Vals (xs.take n) (us.take n)
 |_,_,0,_=> .nil
 |_,_,_+1,.nil=> .nil
 |_,_,n+1,.cons r t=> .cons r (Vals.take n t)
theorem Vals.drop:∀{xs:List V} {us:List Value} (n:Nat),Vals xs us->Vals (xs.drop n) (us.drop n)
 |_,_,0,r=>r
 |_,_,_+1,.nil=> .nil
 |_,_,n+1,.cons _ t=>Vals.drop n t
def JN:Option V->Option Value->Prop
 |some v,some u=>RelV v u
 |none,none=>True
 |_,_=>False
def KV{κ:Type}:List (κ×V) ->List (κ×Value) ->Prop:=Paired λ (p:κ×V) (q:κ×Value)=>p.1=q.1/\RelV p.2 q.2
def kV:Key->V
 | .inl i=> .int i
 | .inr x=> .str x
inductive HO where
 |lst (xs:List V)
 |tup (xs:List V)
 |dK (kvs:List (Key×V))|dT (kvs:List (List Key×V))
 |set (S:Int->Bool) (n:Nat)
 |ins (C dx:Addr) (fs:List (Str×V))
 |own (x:Addr)
 |xd (fs:List (Str×V))
 |met (f x:Addr)
 |OB (lo hi:Int)
 |vZ (o:Obj) (u:HO)
 |JO (ps:Array Value)
 |ext (φ:Heap->Prop)
 |xY
abbrev Hp:=Addr->Option HO
def upd(H:Hp)(a:Addr)(o:HO):Hp:=λb=>if b=a then some o else H b
theorem au{H:Hp}{a:Addr}{o:HO}:upd H a o a=some o:=by unfold upd;rw[if_pos rfl]
theorem aG{H:Hp}{a b:Addr}{o:HO}(h:b≠a):upd H a o b=H b:=by unfold upd;rw[if_neg h]
theorem cS{H:Hp}{a b:Addr}{o:HO}(h:H a=some o)(h':H b=none):a≠b:=by
 intro e;subst e;rw[h]at h';cases h'
section
variable(P:Program)(w:World)
def eU(H:Hp)(h:Heap)(a:Addr):HO->Prop
 | .lst xs=>xs.length<=sizeLine/\ ∃(its:List Value) (n:Nat),Vals xs its/\h.get? a=some {cls:= .type "list",data:= .seq its.toArray n}
 | .tup xs=>xs.length<=sizeLine/\ ∃its:List Value,Vals xs its/\IsTup h a its.toArray
 | .dK kvs=>kvs.length<=sizeLine/\(a==sysModules)=false/\ ∃vs,KV kvs vs/\h.DictOf (Bv P w) a vs
 | .dT kvs=>kvs.length<=sizeLine/\(a==sysModules)=false/\ ∃xs:List (List Key×Addr×Value),
   Paired (λ (p:List Key×V) (q:List Key×Addr×Value)=>p.1=q.1/\H q.2.1=some (.tup (p.1.map kV))/\RelV p.2 q.2.2) kvs xs/\
   ∃o es ep,h.get? a=some o/\o.ExactDict/\o.data= .dict es ep/\es.toList=xs.map (entryOfKey (tupleKind (Bv P w)))/\(xs.map (·.1)).Nodup
 | .set S n=>h.SetOf (intKind P w) a S n
 | .ins C dx fs=>H dx=some (.own a)/\fs.length<=1000/\dx≠a/\h.get? a=some (PySem.W.instObj C dx)/\
   ∃mA,h.Ns1 dx mA/\(∀f,JN (fs.lookup f) (mA f))/\PySem.Within mA (fs.map (·.1))
 | .own _=> ∃o,h.get? a=some o
 | .xd fs=> ∃mA,h.Ns1 a mA/\ ∀f,JN (fs.lookup f) (mA f)
 | .OB lo hi=> ∃t u v,h.get? a=some {cls:= .type "range",data:= .fields #[.int lo t,.int hi u,.int 1 v]}
 | .vZ o u=>h.get? a=some o/\eU H h a u
 | .JO ps=>h.get? a=some {cls:= .none,data:= .fields ps}
 | .met f x=>h.get? a=some (PySem.W.methodObj (.ref f) (.ref x))
 | .ext φ=>φ h/\(∃o,h.get? a=some o)/\ ∀h1 h2:Heap,φ h1->(∀o,h1.get? a=some o->h2.get? a=some o) ->φ h2
 | .xY=> ∃ps:Array Value,h.get? a=some {cls:= .none,data:= .fields ps}/\TriplesOk ps.toList/\ ∀(pos:Pos) (cv:Value),codeAmong pos ps.toList=some cv->
   ∃(c:Addr) (oc:Obj) (vs:Array Value) (q:Str) (t:Tok),cv= .ref c/\H c=some (.vZ oc (.ext λ_=>True))/\oc.data= .fields vs/\vs[1]?=some (.str q t)
def rO(H:Hp)(h:Heap):Prop:=∀a o,H a=some o->eU P w H h a o
end
section
variable{P:Program}{w:World}{H H':Hp}{h h':Heap}{a:Addr}{o:HO}
theorem eU.lt(x:eU P w H h a o):a<h.objs.size:=by
 cases o with
 |lst xs=>obtain⟨_,_,_,_,e⟩:=x;exact Heap.lt_size e
 |tup xs=>obtain⟨_,_,_,p⟩:=x;exact p.lt
 |dK kvs=>obtain⟨_,_,_,_,o,_,_,e,_⟩:=x;exact Heap.lt_size e
 |dT kvs=>obtain⟨_,_,_,_,o,_,_,e,_⟩:=x;exact Heap.lt_size e
 |set S n=>obtain⟨o,_,_,_,e,_⟩:=x;exact Heap.lt_size e
 |ins C dx fs=>obtain⟨_,_,_,e,_⟩:=x;exact Heap.lt_size e
 |own y=>obtain⟨_,e⟩:=x;exact Heap.lt_size e
 |xd fs=>obtain⟨_,⟨_,_,_,e,_⟩,_⟩:=x;exact Heap.lt_size e
 |OB lo hi=>obtain⟨_,_,_,e⟩:=x;exact Heap.lt_size e
 |vZ ob u=>obtain⟨e,_⟩:=x;exact Heap.lt_size e
 |JO ps=>exact Heap.lt_size (show h.get? a=some _ from x)
 |met f y=>exact Heap.lt_size (show h.get? a=some _ from x)
 |ext φ=>obtain⟨_,⟨_,e⟩,_⟩:=x;exact Heap.lt_size e
 |xY=>obtain⟨_,e,_⟩:=x;exact Heap.lt_size e
theorem Paired.Mn{α β:Type}{F G:α->β->Prop}:∀{l₁:List α} {l₂:List β},Paired F l₁ l₂->(∀a b,F a b->G a b) ->Paired G l₁ l₂
 |_,_,.nil,_=> .nil
 |_,_,.cons r t,f=> .cons (f _ _ r) (Paired.Mn t f)
theorem eU.stay(x:eU P w H h a o)(k:∀b u,(b=a∨H b=some (.own a)) ->h.get? b=some u->h'.get? b=some u)
  (ho:∀b,H b=some (.own a) ->H' b=some (.own a))(ht:∀b xs,H b=some (.tup xs) ->H' b=some (.tup xs))(hz:∀b ob u,H b=some (.vZ ob u) ->H' b=some (.vZ ob u):=by first|exact λ_ _ _ q=>q|assumption):eU P w H' h' a o:=by
 induction o with
 |lst xs=>obtain⟨z,its,n,r,e⟩:=x;exact⟨z,its,n,r,k _ _ (.inl rfl) e⟩
 |tup xs=>obtain⟨z,its,r,ob,e,c⟩:=x;exact⟨z,its,r,ob,k _ _ (.inl rfl) e,c⟩
 |dK kvs=>obtain⟨z,y,vs,r,ob,es,ep,e,c⟩:=x;exact⟨z,y,vs,r,ob,es,ep,k _ _ (.inl rfl) e,c⟩
 |dT kvs=>
  obtain⟨z,y,xs,r,ob,es,ep,e,c⟩:=x
  exact⟨z,y,xs,Paired.Mn r λp q z=>⟨z.1,ht _ _ z.2.1,z.2.2⟩,ob,es,ep,k _ _ (.inl rfl) e,c⟩
 |set S n=>obtain⟨ob,es,ep,t,e,c⟩:=x;exact⟨ob,es,ep,t,k _ _ (.inl rfl) e,c⟩
 |ins C dx fs=>
  obtain⟨d,z,ne,e,mA,⟨od,es,ep,e2,c⟩,r⟩:=x
  exact⟨ho _ d,z,ne,k _ _ (.inl rfl) e,mA,⟨od,es,ep,k _ _ (.inr d) e2,c⟩,r⟩
 |own y=>obtain⟨ob,e⟩:=x;exact⟨ob,k _ _ (.inl rfl) e⟩
 |xd fs=>obtain⟨mA,⟨od,es,ep,e,c⟩,r⟩:=x;exact⟨mA,⟨od,es,ep,k _ _ (.inl rfl) e,c⟩,r⟩
 |OB lo hi=>obtain⟨t,u,v,e⟩:=x;exact⟨t,u,v,k _ _ (.inl rfl) e⟩
 |vZ ob u ih=>obtain⟨e,q⟩:=x;exact⟨k _ _ (.inl rfl) e,ih q⟩
 |JO ps=>
  have e:h.get? a=some {cls:= .none,data:= .fields ps}:=x
  show h'.get? a=some {cls:= .none,data:= .fields ps}
  exact k a _ (.inl rfl) e
 |met f y=>
  have e:h.get? a=some (PySem.W.methodObj (.ref f) (.ref y)):=x
  show h'.get? a=some (PySem.W.methodObj (.ref f) (.ref y))
  exact k a _ (.inl rfl) e
 |ext φ=>obtain⟨p,⟨o,e⟩,st⟩:=x;exact⟨st _ _ p λo q=>k _ _ (.inl rfl) q,⟨o,k _ _ (.inl rfl) e⟩,st⟩
 |xY=>obtain⟨ps,e,t,r⟩:=x;exact⟨ps,k _ _ (.inl rfl) e,t,λpos cv q=>let⟨c,oc,vs,q2,t2,e1,e2,e3⟩:=r pos cv q;⟨c,oc,vs,q2,t2,e1,hz _ _ _ e2,e3⟩⟩
theorem rO.lt(x:rO P w H h)(e:H a=some o):a<h.objs.size:=(x a o e).lt
theorem rO.fresh(x:rO P w H h)(e:h.objs.size<=a):H a=none:=by
 cases q:H a with
 |none=>rfl
 |some u=>exact absurd (Nat.lt_of_lt_of_le (x.lt q) e) (Nat.lt_irrefl _)
theorem rO.kept(x:rO P w H h)(k:∀b u,h.get? b=some u->h'.get? b=some u):rO P w H h':=λa o e=>
 (x a o e).stay (λb u _ q=>k b u q) (λ_ q=>q) λ_ _ q=>q
theorem rO.laid(x:rO P w H h)(k:∀b u,h.get? b=some u->h'.get? b=some u)(hp:h.objs.size<=a)(new:eU P w (upd H a o) h' a o):rO P w (upd H a o) h':=λb u e=>by
 have hn:=x.fresh hp
 by_cases hb:b=a
 ·subst hb;rw[au]at e;cases e;exact new
 ·rw[aG hb]at e
  exact(x b u e).stay (λc v _ q=>k c v q) (λc q=>by rw[aG (cS q hn)];exact q) (λc xs q=>by rw[aG (cS q hn)];exact q) λc ob xs q=>by rw[aG (cS q hn)];exact q
end
def Rd(H:Hp)(a:Addr)(u:HO):Prop:=H a=some u∨ ∃o,H a=some (.vZ o u)
theorem Rd.of{H:Hp}{a:Addr}{u:HO}(h:H a=some u):Rd H a u:= .inl h
theorem Rd.ok{P:Program}{w:World}{H:Hp}{h:Heap}{a:Addr}{u:HO}(r:Rd H a u)(x:rO P w H h):eU P w H h a u:=by
 rcases r with r|⟨o,r⟩
 ·exact x a u r
 ·obtain⟨_,q⟩:=x a _ r
  exact q
def NV:Option HO->Prop
 |some (.lst _)=>True
 |some (.dK _)=>True
 |some (.dT _)=>True
 |some (.set _ _)=>True
 |some (.ins _ _ _)=>True
 |some (.ext _)=>True
 |some .xY=>True
 |_=>False
section
variable{P:Program}{w:World}{H:Hp}{h h':Heap}{x e:Addr}{o':HO}
theorem rO.write(ok:rO P w H h)(mu:NV (H x))(he:e=x∨H e=some (.own x))(k:∀b u,b≠e->h.get? b=some u->h'.get? b=some u)(LO:∃u,h'.get? e=some u)
  (new:eU P w (upd H x o') h' x o'):rO P w (upd H x o') h':=λb u q=>by
 have Mp:∀c y,H c=some (.own y) ->c≠x:=λc y r z=>by subst z;rw[r]at mu;exact mu
 have OC:∀c xs,H c=some (.tup xs) ->c≠x:=λc xs r z=>by subst z;rw[r]at mu;exact mu
 by_cases hb:b=x
 ·subst hb;rw[au]at q;cases q;exact new
 ·rw[aG hb]at q
  by_cases JP:b=e
  ·have q':H b=some (.own x):=by
    rcases he with z|z
    ·exact absurd (JP.trans z) hb
    ·rw[JP];exact z
   rw[q]at q';cases q'
   obtain⟨v,hv⟩:=LO
   exact⟨v,by rw[JP];exact hv⟩
  ·refine(ok b u q).stay (λc v hc r=>k c v ?_ r) (λc r=>by rw[aG (Mp c b r)];exact r) (λc xs r=>by rw[aG (OC c xs r)];exact r) λc ob xs r=>by rw[aG (λz=>by subst z;rw[r]at mu;exact mu)];exact r
   rcases hc with rfl|hc
   ·exact JP
   ·rintro rfl
    rcases he with z|z
    ·exact Mp c b hc z
    ·rw[hc]at z;cases z;exact hb rfl
end
structure Un(fs ex:List Addr)(H H':Hp)(h h':Heap):Prop where
 keep:∀b o,h.get? b=some o->H b=none->b∉fs->b∉ex->h'.get? b=some o
 slot:∀b o,h.get? b=some o->H b=none->b∈fs->b∉ex-> ∃sl,h'.get? b=some {o with slots:=sl}
 free:∀b o,h.get? b=some o->H b=none->b∉ex->H' b=none
 there:∀b o,h.get? b=some o->b∉ex-> ∃o',h'.get? b=some o'
 tups:∀b xs,H b=some (.tup xs) ->H' b=some (.tup xs)
 pU:∀b o u,H b=some (.vZ o u) ->H' b=some (.vZ o u)
 rq:∀b ps,H b=some (.JO ps) -> ∃more,H' b=some (.JO (ps++more))
section
variable{fs fs' ex ex':List Addr}{H H1 H2:Hp}{h h1 h2 h':Heap}{a x e:Addr}{o:HO}
theorem Un.any(u:Un fs ex H H1 h h1){b:Addr}{ob:Obj}(q:h.get? b=some ob)(n:H b=none)(hx:b∉ex):∃sl,h1.get? b=some {ob with slots:=sl}:=by
 by_cases hb:b∈fs
 ·exact u.slot b ob q n hb hx
 ·exact⟨ob.slots,u.keep b ob q n hb hx⟩
theorem Un.trans(a:Un fs ex H H1 h h1)(b:Un fs ex H1 H2 h1 h2):Un fs ex H H2 h h2 where
 keep:=λc ob q n hc hx=>b.keep c ob (a.keep c ob q n hc hx) (a.free c ob q n hx) hc hx
 slot:=λc ob q n hc hx=>by
  obtain⟨sl,e1⟩:=a.slot c ob q n hc hx
  obtain⟨OD,e2⟩:=b.slot c _ e1 (a.free c ob q n hx) hc hx
  exact⟨OD,e2⟩
 free:=λc ob q n hx=>by
  obtain⟨o',e1⟩:=a.there c ob q hx
  exact b.free c o' e1 (a.free c ob q n hx) hx
 there:=λc ob q hx=>by
  obtain⟨o',e1⟩:=a.there c ob q hx
  exact b.there c o' e1 hx
 tups:=λc xs q=>b.tups c xs (a.tups c xs q)
 pU:=λc ob xs q=>b.pU c ob xs (a.pU c ob xs q)
 rq:=λc ps q=>by
  obtain⟨m1,e1⟩:=a.rq c ps q
  obtain⟨m2,e2⟩:=b.rq c _ e1
  exact⟨m1++m2,by rw[e2,Array.append_assoc]⟩
theorem Un.kept(k:∀b u,h.get? b=some u->h'.get? b=some u):Un fs ex H H h h':=
 ⟨λb ob q _ _ _=>k b ob q,λb ob q _ _ _=>⟨ob.slots,k b ob q⟩,λ_ _ _ n _=>n,λb ob q _=>⟨ob,k b ob q⟩,λ_ _ q=>q,λ_ _ _ q=>q,λ_ ps q=>⟨#[],by rw[q];simp⟩⟩
theorem Un.refl:Un fs ex H H h h:=Un.kept λ_ _ q=>q
theorem Un.laid(k:∀b u,h.get? b=some u->h'.get? b=some u)(hp:h.objs.size<=a)(hn:H a=none):Un fs ex H (upd H a o) h h' where
 keep:=λb u q _ _ _=>k b u q
 slot:=λb u q _ _ _=>⟨u.slots,k b u q⟩
 free:=λb u q n _=>by rw[aG (Nat.ne_of_lt (Nat.lt_of_lt_of_le (Heap.lt_size q) hp))];exact n
 there:=λb u q _=>⟨u,k b u q⟩
 tups:=λb xs q=>by rw[aG (cS q hn)];exact q
 pU:=λb u xs q=>by rw[aG (cS q hn)];exact q
 rq:=λb ps q=>⟨#[],by rw[aG (cS q hn),q];simp⟩
theorem Un.write(mu:NV (H x))(he:e=x∨H e=some (.own x))(k:∀b u,b≠e->h.get? b=some u->h'.get? b=some u)(LO:∃u,h'.get? e=some u):Un fs ex H (upd H x o) h h':=by
 have hx:∀b,H b=none->b≠x:=λb n z=>by subst z;rw[n]at mu;exact mu
 have hb:∀b,H b=none->b≠e:=λb n z=>by
  subst z
  rcases he with r|r
  ·exact hx b n r
  ·rw[n]at r;cases r
 have hm:∀b u,H b=some u-> ¬NV (some u) ->b≠x:=λb u q nm z=>by subst z;rw[q]at mu;exact nm mu
 refine⟨λb u q n _ _=>k b u (hb b n) q,λb u q n _ _=>⟨u.slots,k b u (hb b n) q⟩,λb u q n _=>by rw[aG (hx b n)];exact n,λb u q _=> ?_,
  λb xs q=>by rw[aG (hm b _ q λz=>z)];exact q,λb u xs q=>by rw[aG (hm b _ q λz=>z)];exact q,λb ps q=>⟨#[],by rw[aG (hm b _ q λz=>z),q];simp⟩⟩
 by_cases JP:b=e
 ·subst JP;exact LO
 ·exact⟨u,k b u JP q⟩
theorem Un.mono(u:Un fs ex H H1 h h1)(hs:∀b∈fs,b∈fs')(hx:∀b∈ex,b∈ex'):Un fs' ex' H H1 h h1:=
 ⟨λb ob q n hb he=>u.keep b ob q n (λz=>hb (hs b z)) λz=>he (hx b z),λ_ _ q n _ he=>u.any q n λz=>he (hx _ z),λb ob q n he=>u.free b ob q n λz=>he (hx b z),λb ob q he=>u.there b ob q λz=>he (hx b z),u.tups,u.pU,u.rq⟩
end
def NW(h:Heap)(H:Hp):List Addr:=(List.range h.objs.size).filter λa=>(H a).isSome
def uu(h:Heap)(H:Hp):Heap:=PySem.W.hideAll h (NW h H)
theorem CA(h:Heap)(H:Hp):(uu h H).objs.size=h.objs.size:=PySem.W.hideAll_size _ _
theorem Em{h:Heap}{H:Hp}{b:Addr}{o:Obj}(e:h.get? b=some o)(n:H b=none):(uu h H).get? b=some o:=
 PySem.W.hideAll_get _ e λhm=>by
  have q:(H b).isSome=true:=(List.mem_filter.mp hm).2
  rw[n]at q;simp at q
theorem Ho{h:Heap}{H:Hp}{b:Addr}{o:Obj}(e:(uu h H).get? b=some o):h.get? b=some o/\H b=none:=by
 have e':h.get? b=some o:=PySem.W.of_hideAll (NW h H) e
 refine⟨e',?_⟩
 cases q:H b with
 |none=>rfl
 |some x=>
  have hm:b∈NW h H:=List.mem_filter.mpr ⟨List.mem_range.mpr (Heap.lt_size e'),by simp[q]⟩
  have z:(uu h H).get? b=none:=PySem.W.hideAll_none (NW h H) hm
  rw[z]at e;cases e
def Hq(g h:Heap)(L:Addr):List (Addr×Obj):=(List.range h.objs.size).filterMap λa=>if a=L∨(g.get? a).isSome=true then none else(h.get? a).map λo=>(a,o)
def rest(g h:Heap)(L d:Addr):List (Addr×Obj):=(Hq g h L).filter λp=>decide (p.1≠d)
structure Mod(K:PySem.W.Frag)(mg:Str->Option Value)(base:Heap):Prop where
 LP:K.In base
 glob:base.Ns mainGlobals mg
 blt:∃mb,base.Ns builtinsNs mb/\ ∀x:Str,x≠ "__name__" ->mb x=bootBuiltins x
 nolimit:base.NoLimit
structure Cx where
 prog:Program
 w:World
 K:PySem.W.Frag
 mg:Str->Option Value
 base:Heap
 A:Around
 N:List Str
 s₀:Shared
 H₀:Hp
 env:Env
 outer:List Env
 stack:List Env
 ex:List Addr
 fn:Str->Bool
 calm:Bool
 pn:List (Addr×Obj)
 xe:Value->Shared->Prop
def frs(l:List Env):List Addr:=l.filterMap (·.frame)
abbrev Cx.fs (X:Cx):List Addr:=frs X.outer
def Jc(sc:Scope)(x:Str):Prop:=sc.names.lookup x=some .local∨sc.names.lookup x=some .cell∨sc.names.lookup x=some .free
def Loc(sc:Scope)(x:Str):Prop:=sc.names.lookup x=some .local∨sc.names.lookup x=some .cell
def Look(env:Env)(h:Heap)(m:Str->Option Value)(x:Str)(u:Value):Prop:=
 (env.kindOf x=some .local/\m x=some u)∨((env.kindOf x=some .cell∨env.kindOf x=some .free)/\ ∃c,env.cells.lookup x=some c/\h.IsCell c (some u))
structure Cx.Ok(X:Cx):Prop where
 mod:Mod X.K X.mg X.base
 kind:X.env.scope.kind= .function
 glob:X.env.globals=mainGlobals
 blt:X.env.builtins=builtinsNs
 above:X.s₀.heap.objs.size<=X.env.locals
 inj:∀x y c,X.env.cells.lookup x=some c->X.env.cells.lookup y=some c->x=y
 has:∀x,(X.env.kindOf x=some .cell∨X.env.kindOf x=some .free) -> ∃c,X.env.cells.lookup x=some c
 Mq:∀x c,X.fn x=true->X.env.cells.lookup x=some c->X.s₀.heap.objs.size<=c
 hd:X.calm=true->X.A.handled=none
 frames:X.A.frames=some X.stack
 stk:X.stack=X.outer∨(X.stack=X.env::X.outer/\X.env.frame=some X.env.locals)
 LQ:∀b∈X.ex,b≠X.env.locals/\ ∀x c,X.env.cells.lookup x=some c->c≠b
 bs:∀b o,X.base.get? b=some o->X.s₀.heap.get? b=some o/\X.H₀ b=none
 Hr:X.base.objs.size<=X.s₀.heap.objs.size
 CB:∀b o,X.base.get? b=some o->b∉X.ex
 CC:∀b∈X.ex,b∉X.fs
 rA:X.s₀.heap.FunFrames X.base X.outer
 LR:∀b∈X.fs,X.H₀ b=none
structure En(a b:Array GenState):Prop where
 bare:AllBare b
 size:a.size<=b.size
 old:∀k,k<a.size->b[k]?=a[k]?
theorem En.refl{a:Array GenState}(h:AllBare a):En a a:=⟨h,Nat.le_refl _,λ_ _=>rfl⟩
theorem En.trans{a b c:Array GenState}(x:En a b)(y:En b c):En a c:=⟨y.bare,Nat.le_trans x.size y.size,λk h=>(y.old k (Nat.lt_of_lt_of_le h x.size)).trans (x.old k h)⟩
structure Inv(X:Cx)(pins:List (Addr×Obj))(σ:List (Option V))(H:Hp)(s:Shared):Prop where
 ok:X.Ok
 os:s.os=X.s₀.os
 bare:En X.s₀.gens s.gens
 base:Un X.fs X.ex X.H₀ H X.s₀.heap s.heap
 loc:∃m,s.heap.Ns X.env.locals m/\ ∀(i:Nat) (x:Str) (v:V),X.N[i]?=some x->σ[i]?=some (some v) ->Jc X.env.scope x-> ∃u,RelV v u/\Look X.env s.heap m x u
 cell:∀x c,X.env.cells.lookup x=some c-> ∃v,s.heap.IsCell c v
 free:H X.env.locals=none
 lI:∀x c,X.env.cells.lookup x=some c->H c=none
 pin:∀p∈X.pn++pins,s.heap.get? p.1=some p.2/\H p.1=none/\p.1≠X.env.locals/\p.1∉X.fs/\ ∀v,p.2.data≠ .cell v
 hok:rO X.prog X.w H s.heap
 len:σ.length=X.N.length
section
variable{X:Cx}{pins:List (Addr×Obj)}{σ:List (Option V)}{H H':Hp}{s:Shared}{h':Heap}
theorem Cx.Ok.OE(ok:X.Ok){b:Addr}{o:Obj}(e:X.base.get? b=some o):b∉X.fs:=λhb=>by
 have:=(ok.rA.mem hb).1
 rw[e]at this;cases this
theorem Inv.bs(I:Inv X pins σ H s):∀b o,X.base.get? b=some o->s.heap.get? b=some o/\H b=none:=λb o e=>
 ⟨I.base.keep b o (I.ok.bs b o e).1 (I.ok.bs b o e).2 (I.ok.OE e) (I.ok.CB b o e),I.base.free b o (I.ok.bs b o e).1 (I.ok.bs b o e).2 (I.ok.CB b o e)⟩
theorem Inv.bk(I:Inv X pins σ H s):∀b o,X.base.get? b=some o->s.heap.get? b=some o:=λb o e=>(I.bs b o e).1
theorem Inv.mod(I:Inv X pins σ H s):Mod X.K X.mg X.base:=I.ok.mod
theorem Inv.v5(I:Inv X pins σ H s):X.K.In s.heap:=I.ok.mod.LP.keeps I.bk
theorem Inv.nolimit(I:Inv X pins σ H s):s.heap.NoLimit:=I.ok.mod.nolimit.keeps I.bk
theorem Inv.lt(I:Inv X pins σ H s):X.env.locals<s.heap.objs.size:=let⟨_,hn,_⟩:=I.loc;hn.lt
theorem Inv.sz(I:Inv X pins σ H s):X.s₀.heap.objs.size<=s.heap.objs.size:=Nat.le_trans I.ok.above (Nat.le_of_lt I.lt)
theorem Inv.Mr(I:Inv X pins σ H s){a:Addr}(h:s.heap.objs.size<=a):a∉X.fs:=λhb=>by
 obtain⟨_,o,ho,_⟩:=I.ok.rA.mem hb
 exact absurd (Nat.lt_of_lt_of_le (Heap.lt_size ho) (Nat.le_trans I.sz h)) (Nat.lt_irrefl _)
theorem Inv.JQ(I:Inv X pins σ H s):∀x c,X.env.cells.lookup x=some c->c≠X.env.locals:=λx c e z=>by
 obtain⟨v,o,ho,hd⟩:=I.cell x c e
 obtain⟨m,⟨o',es,ep,ho',hd',_⟩,_⟩:=I.loc
 rw[z,ho']at ho;cases ho;rw[hd']at hd;cases hd
theorem Inv.rA(I:Inv X pins σ H s):s.heap.FunFrames X.base X.outer:=by
 have all:∀(l:List Env),(∀b∈frs l,b∈X.fs) ->X.s₀.heap.FunFrames X.base l->s.heap.FunFrames X.base l:=by
  intro l
  induction l with
  |nil=>intro _ _;trivial
  |cons env r ih=>
   intro hs hl
   obtain⟨hk,⟨L,o,hf,hn,ho,hd⟩,hr⟩:=hl
   have hL:L∈X.fs:=hs L (by unfold frs;rw[List.filterMap_cons,hf];exact List.mem_cons_self)
   obtain⟨sl,e⟩:=I.base.slot L o ho (I.ok.LR L hL) hL λz=>I.ok.CC L z hL
   exact⟨hk,⟨L,_,hf,hn,e,hd⟩,ih (λb hb=>hs b (by unfold frs;rw[List.filterMap_cons,hf];exact List.mem_cons_of_mem _ hb)) hr⟩
 exact all X.outer (λ_ hb=>hb) I.ok.rA
theorem Inv.stack(I:Inv X pins σ H s):s.heap.FunFrames X.base X.stack:=by
 rcases I.ok.stk with e|⟨e,hf⟩
 ·rw[e];exact I.rA
 ·rw[e]
  obtain⟨m,hn,_⟩:=I.loc
  refine .cons (by rw[I.ok.kind];decide) hf hn ?_ I.rA
  exact Heap.get?_none_of_le (Nat.le_trans I.ok.Hr I.ok.above)
theorem Inv.rZ(I:Inv X pins σ H s):∀b∈frs X.stack,b∈X.env.locals::X.fs:=λb hb=>by
 rcases I.ok.stk with e|⟨e,hf⟩
 ·rw[e]at hb;exact List.mem_cons_of_mem _ hb
 ·rw[e]at hb
  unfold frs at hb
  rw[List.filterMap_cons,hf]at hb
  exact hb
theorem Inv.rP(I:Inv X pins σ H s):∀b∈frs X.stack,H b=none:=λb hb=>by
 rcases List.mem_cons.mp (I.rZ b hb)with e|hb
 ·rw[e];exact I.free
 ·obtain⟨_,o,ho,_⟩:=I.ok.rA.mem hb
  exact I.base.free b o ho (I.ok.LR b hb) λz=>I.ok.CC b z hb
theorem Inv.step{g':Array GenState}{t':Nat}{d':Drawn}{ch:List Addr}(I:Inv X pins σ H s)
  (hch:∀b∈ch,(b∈X.ex∨X.s₀.heap.objs.size<=b)/\b≠X.env.locals/\(∀x c,X.env.cells.lookup x=some c->c≠b)/\ ∀p∈X.pn++pins,p.1≠b)
  (keep:∀b o,b≠X.env.locals->b∉X.fs->b∉ch->s.heap.get? b=some o->H b=none->h'.get? b=some o)
  (slot:∀b o,b≠X.env.locals->b∈X.fs->b∉ch->s.heap.get? b=some o->H b=none-> ∃sl,h'.get? b=some {o with slots:=sl})(free:∀b o,b∉ch->s.heap.get? b=some o->H b=none->H' b=none)
  (there:∀b o,b∉ch->s.heap.get? b=some o-> ∃o',h'.get? b=some o')
  (tups:∀b xs,H b=some (.tup xs) ->H' b=some (.tup xs))(pU:∀b o u,H b=some (.vZ o u) ->H' b=some (.vZ o u))(rq:∀b ps,H b=some (.JO ps) -> ∃more,H' b=some (.JO (ps++more)))
  (ns:∀m,s.heap.Ns X.env.locals m->h'.Ns X.env.locals m)(hok:rO X.prog X.w H' h')(hg:En s.gens g'):
  Inv X pins σ H' {s with heap:=h',gens:=g',drawn:=d',toks:=t'}:=by
 have QG:∀b o,X.s₀.heap.get? b=some o->b≠X.env.locals:=λb o e=>Nat.ne_of_lt (Nat.lt_of_lt_of_le (Heap.lt_size e) I.ok.above)
 have LS:∀b o,X.s₀.heap.get? b=some o->b∉X.ex->b∉ch:=λb o e hx hb=>by
  rcases(hch b hb).1 with z|z
  ·exact hx z
  ·exact absurd (Nat.lt_of_lt_of_le (Heap.lt_size e) z) (Nat.lt_irrefl _)
 have cellK:∀x c,X.env.cells.lookup x=some c-> ∀v,s.heap.IsCell c v->h'.IsCell c v:=λx c e v ⟨o,ho,hd⟩=>by
  have Ms:c∉ch:=λz=>(hch c z).2.2.1 x c e rfl
  by_cases hc:c∈X.fs
  ·obtain⟨sl,q⟩:=slot c o (I.JQ x c e) hc Ms ho (I.lI x c e)
   exact⟨_,q,hd⟩
  ·exact⟨o,keep c o (I.JQ x c e) hc Ms ho (I.lI x c e),hd⟩
 refine⟨I.ok,I.os,I.bare.trans hg,⟨λb o e n hb hx=> ?_,λb o e n hb hx=> ?_,λb o e n hx=> ?_,λb o e hx=> ?_,λb xs e=>tups b xs (I.base.tups b xs e),λb o xs e=>pU b o xs (I.base.pU b o xs e),λb ps e=> ?_⟩,?_,λx c e=> ?_,?_,λx c e=> ?_,λp hp=> ?_,hok,I.len⟩
 ·exact keep b o (QG b o e) hb (LS b o e hx) (I.base.keep b o e n hb hx) (I.base.free b o e n hx)
 ·obtain⟨sl,e1⟩:=I.base.slot b o e n hb hx
  obtain⟨OD,e2⟩:=slot b _ (QG b o e) hb (LS b o e hx) e1 (I.base.free b o e n hx)
  exact⟨OD,e2⟩
 ·obtain⟨o',e1⟩:=I.base.there b o e hx
  exact free b o' (LS b o e hx) e1 (I.base.free b o e n hx)
 ·obtain⟨o',e1⟩:=I.base.there b o e hx
  exact there b o' (LS b o e hx) e1
 ·obtain⟨m1,e1⟩:=I.base.rq b ps e
  obtain⟨m2,e2⟩:=rq b _ e1
  exact⟨m1++m2,by rw[e2,Array.append_assoc]⟩
 ·obtain⟨m,hn,hl⟩:=I.loc
  refine⟨m,ns m hn,λi x v e1 e2 e3=> ?_⟩
  obtain⟨u,r,l⟩:=hl i x v e1 e2 e3
  refine⟨u,r,?_⟩
  rcases l with l|⟨k,c,e,z⟩
  ·exact .inl l
  ·exact .inr ⟨k,c,e,cellK x c e _ z⟩
 ·obtain⟨v,z⟩:=I.cell x c e
  exact⟨v,cellK x c e v z⟩
 ·obtain⟨m,⟨o,_,_,ho,_⟩,_⟩:=I.loc
  exact free _ o (λz=>(hch _ z).2.1 rfl) ho I.free
 ·obtain⟨v,o,ho,hd⟩:=I.cell x c e
  exact free c o (λz=>(hch c z).2.2.1 x c e rfl) ho (I.lI x c e)
 ·obtain⟨e,n,ne,nf,d⟩:=I.pin p hp
  have Ms:p.1∉ch:=λz=>(hch p.1 z).2.2.2 p hp rfl
  exact⟨keep p.1 p.2 ne nf Ms e n,free p.1 p.2 Ms e n,ne,nf,d⟩
theorem Inv.un{t':Nat}(I:Inv X pins σ H s)(u:Un X.fs [] H H' s.heap h')(hok:rO X.prog X.w H' h'):Inv X pins σ H' {s with heap:=h',toks:=t'}:=by
 obtain⟨m,⟨o,es,ep,ho,r⟩,_⟩:=id I.loc
 obtain⟨sl,hL⟩:=u.any ho I.free (by simp)
 exact I.step (g':=s.gens) (d':=s.drawn) (ch:=[]) (λ_ z=>nomatch z) (λb o _ hb _ e n=>u.keep b o e n hb (by simp)) (λb o _ hb _ e n=>u.slot b o e n hb (by simp)) (λb o _ e n=>u.free b o e n (by simp)) (λb o _ e=>u.there b o e (by simp)) u.tups u.pU u.rq (λm' hm=>by
  obtain⟨o',es',OF,ho',r'⟩:=hm
  rw[ho]at ho';cases ho'
  exact⟨_,es',OF,hL,r'⟩) hok (.refl I.bare.bare)
theorem Inv.call{g':Array GenState}{t':Nat}{d':Drawn}{ch:List Addr}(I:Inv X pins σ H s)(u:Un (frs X.stack) ch H H' s.heap h')(hok:rO X.prog X.w H' h')(hg:En s.gens g')
  (hch:∀b∈ch,(b∈X.ex∨X.s₀.heap.objs.size<=b)/\b≠X.env.locals/\(∀x c,X.env.cells.lookup x=some c->c≠b)/\ ∀p∈X.pn++pins,p.1≠b):
  Inv X pins σ H' {s with heap:=h',gens:=g',drawn:=d',toks:=t'}:=by
 obtain⟨m,⟨o,es,ep,ho,r⟩,_⟩:=id I.loc
 obtain⟨sl,hL⟩:=u.any ho I.free λz=>(hch _ z).2.1 rfl
 exact I.step (ch:=ch) hch (λb o hL hb hc e n=>u.keep b o e n (λz=>(List.mem_cons.mp (I.rZ b z)).elim hL hb) hc) (λb o _ _ hc e n=>u.any e n hc) (λb o hc e n=>u.free b o e n hc) (λb o hc e=>u.there b o e hc) u.tups u.pU u.rq (λm' hm=>by
  obtain⟨o',es',OF,ho',r'⟩:=hm
  rw[ho]at ho';cases ho'
  exact⟨_,es',OF,hL,r'⟩) hok hg
theorem Inv.turned{t':Nat}{it:Addr}(I:Inv X pins σ H s)(k:∀b o,b≠it->s.heap.get? b=some o->h'.get? b=some o)(hn:H it=none)(hL:it≠X.env.locals)
  (h1:it∈X.ex∨X.s₀.heap.objs.size<=it)(h2:∀x c,X.env.cells.lookup x=some c->c≠it)(h3:∀p∈X.pn++pins,p.1≠it):Inv X pins σ H {s with heap:=h',toks:=t'}:=by
 have Mt:∀b u,H b=some u->b≠it:=λb u e z=>by rw[z,hn]at e;cases e
 refine I.step (g':=s.gens) (d':=s.drawn) (ch:=[it]) (λb hb=> ?_) (λb o _ _ hc e _=>k b o (λz=>hc (by simp[z])) e) (λb o _ _ hc e _=>⟨o.slots,k b o (λz=>hc (by simp[z])) e⟩) (λ_ _ _ _ n=>n)
  (λb o hc e=>⟨o,k b o (λz=>hc (by simp[z])) e⟩) (λ_ _ e=>e) (λ_ _ _ e=>e) (λb ps e=>⟨#[],by rw[e];simp⟩) (λm hm=> ?_) (λb u e=> ?_) (.refl I.bare.bare)
 ·have e:b=it:=by simpa using hb
  subst e
  exact⟨h1,hL,h2,h3⟩
 ·obtain⟨o,es,ep,ho,r⟩:=hm
  exact⟨o,es,ep,k _ o (Ne.symm hL) ho,r⟩
 ·refine(I.hok b u e).stay (λc v hc q=>k c v ?_ q) (λ_ q=>q) λ_ _ q=>q
  rcases hc with z|z
  ·rw[z];exact Mt b u e
  ·exact Mt c _ z
theorem Inv.tok(I:Inv X pins σ H s)(t:Nat):Inv X pins σ H {s with toks:=t}:=I.un (h':=s.heap) (t':=t) Un.refl I.hok
theorem Inv.kept{t':Nat}(I:Inv X pins σ H s)(k:∀b u,s.heap.get? b=some u->h'.get? b=some u):Inv X pins σ H {s with heap:=h',toks:=t'}:=I.un (Un.kept k) (I.hok.kept k)
theorem Inv.laid{a:Addr}{o:HO}{t':Nat}(I:Inv X pins σ H s)(k:∀b u,s.heap.get? b=some u->h'.get? b=some u)(hp:s.heap.objs.size<=a)(new:eU X.prog X.w (upd H a o) h' a o):
  Inv X pins σ (upd H a o) {s with heap:=h',toks:=t'}:=I.un (Un.laid k hp (I.hok.fresh hp)) (I.hok.laid k hp new)
theorem Inv.write{x e:Addr}{o:HO}{t':Nat}(I:Inv X pins σ H s)(mu:NV (H x))(he:e=x∨H e=some (.own x))(k:∀b u,b≠e->s.heap.get? b=some u->h'.get? b=some u)(LO:∃u,h'.get? e=some u)
  (new:eU X.prog X.w (upd H x o) h' x o):Inv X pins σ (upd H x o) {s with heap:=h',toks:=t'}:=I.un (Un.write mu he k LO) (I.hok.write mu he k LO new)
theorem Inv.iT{oO:List (Addr×Obj)}(I:Inv X pins σ H s)(h:∀p∈oO,s.heap.get? p.1=some p.2/\H p.1=none/\p.1≠X.env.locals/\p.1∉X.fs/\ ∀v,p.2.data≠ .cell v):Inv X oO σ H s:=
 ⟨I.ok,I.os,I.bare,I.base,I.loc,I.cell,I.free,I.lI,λp hp=>(List.mem_append.mp hp).elim (λz=>I.pin p (List.mem_append_left _ z)) (h p),I.hok,I.len⟩
theorem x8{N:List Str}(hN:N.Nodup){i j:Nat}{x:Str}(a:N[i]?=some x)(b:N[j]?=some x):i=j:=by
 obtain⟨h1,e1⟩:=List.getElem?_eq_some_iff.mp a
 obtain⟨h2,e2⟩:=List.getElem?_eq_some_iff.mp b
 exact(List.getElem_inj hN).mp (e1.trans e2.symm)
theorem uX{M:Model}{A:Around}{E:Value->Shared->Prop}{i:Nat}{x:Str}{v:V}{u:Value}{Q:Unit->Shared->Prop}(I:Inv X pins σ H s)(hN:X.N.Nodup)(hi:X.N[i]?=some x)(hx:Loc X.env.scope x)(r:RelV v u)
  (h:∀s',Inv X pins (σ.set i (some v)) H s'->(∃a,Heap.SameBut a s.heap s'.heap/\(a=X.env.locals∨X.env.cells.lookup x=some a)) ->Q () s')(hf:X.fn x=true∨X.env.scope.names.lookup x=some .local:=by first|exact .inl rfl|exact .inr rfl|assumption):wpAny M A (storeName X.env x u) Q E s:=by
 obtain⟨m,hn,hl⟩:=id I.loc
 have hcls:(X.env.scope.kind== .class||(X.env.scope.kind== .module && X.env.locals !=X.env.globals))=false:=by rw[I.ok.kind];rfl
 have Mu:i<σ.length:=by rw[I.len];exact(List.getElem?_eq_some_iff.mp hi).1
 have JQ:=I.JQ
 have tracked:∀{a:Addr} {h':Heap},(∃o,s.heap.get? a=some o/\H a=none) ->Heap.SameBut a s.heap h'->rO X.prog X.w H h':=λ {a h'} ha hs b ob e=>by
  obtain⟨_,_,hfree⟩:=ha
  refine(I.hok b ob e).stay (λc w' hc q=>(hs.2 c ?_).trans q) (λ_ q=>q) λ_ _ q=>q
  rintro rfl
  rcases hc with rfl|hc
  ·rw[hfree]at e;cases e
  ·rw[hfree]at hc;cases hc
 rcases hx with hk|hk
 ·refine wpAny_storeName_local hk hn (λh' hn' hs=> ?_) hcls
  obtain⟨oL,_,_,JR,_⟩:=id hn
  refine h _ ⟨I.ok,I.os,I.bare,⟨λb o e n hb hx=> ?_,λb o e n hb hx=> ?_,I.base.free,λb o e hx=> ?_,I.base.tups,I.base.pU,I.base.rq⟩,⟨_,hn',λj y v' e1 e2 e3=> ?_⟩,λy c e=> ?_,I.free,I.lI,λp hp=> ?_,tracked ⟨oL,JR,I.free⟩ hs,by simpa using I.len⟩ ⟨_,hs,.inl rfl⟩
  ·exact(hs.2 b (Nat.ne_of_lt (Nat.lt_of_lt_of_le (Heap.lt_size e) I.ok.above))).trans (I.base.keep b o e n hb hx)
  ·obtain⟨sl,e1⟩:=I.base.slot b o e n hb hx
   exact⟨sl,(hs.2 b (Nat.ne_of_lt (Nat.lt_of_lt_of_le (Heap.lt_size e) I.ok.above))).trans e1⟩
  ·obtain⟨o',e1⟩:=I.base.there b o e hx
   exact⟨o',(hs.2 b (Nat.ne_of_lt (Nat.lt_of_lt_of_le (Heap.lt_size e) I.ok.above))).trans e1⟩
  ·by_cases hj:j=i
   ·subst hj
    rw[hi]at e1;cases e1
    rw[List.getElem?_set_self Mu]at e2
    cases e2
    exact⟨u,r,.inl ⟨hk,by simp⟩⟩
   ·rw[List.getElem?_set_ne (Ne.symm hj)]at e2
    obtain⟨u',r',q⟩:=hl j y v' e1 e2 e3
    refine⟨u',r',?_⟩
    rcases q with⟨k,e⟩|⟨k,c,e,z⟩
    ·refine .inl ⟨k,?_⟩
     have:y≠x:=λe=>hj (x8 hN e1 (e▸hi))
     simp[this,e]
    ·exact .inr ⟨k,c,e,z.sameBut hs (JQ y c e)⟩
  ·obtain⟨w',z⟩:=I.cell y c e
   exact⟨w',z.sameBut hs (JQ y c e)⟩
  ·obtain⟨e,n,ne,nf,d⟩:=I.pin p hp
   exact⟨(hs.2 p.1 ne).trans e,n,ne,nf,d⟩
 ·have hfn:X.fn x=true:=by
   rcases hf with z|z
   ·exact z
   ·rw[z]at hk;cases hk
  obtain⟨c,hc⟩:=I.ok.has x (.inl hk)
  obtain⟨w',z⟩:=I.cell x c hc
  refine wpAny_storeName_cell I.ok.kind hk hc z (λh' hc' hs=> ?_)
  obtain⟨oc,hoc,OG⟩:=id z
  refine h {s with heap:=h'} ⟨I.ok,I.os,I.bare,⟨λb o e n hb hx=> ?_,λb o e n hb hx=> ?_,I.base.free,λb o e hx=> ?_,I.base.tups,I.base.pU,I.base.rq⟩,⟨m,hn.sameBut hs (Ne.symm (JQ x c hc)),λj y v' e1 e2 e3=> ?_⟩,λy c' e=> ?_,I.free,I.lI,λp hp=> ?_,tracked ⟨oc,hoc,I.lI x c hc⟩ hs,by simpa using I.len⟩ ⟨c,hs,.inr hc⟩
  ·exact(hs.2 b (Nat.ne_of_lt (Nat.lt_of_lt_of_le (Heap.lt_size e) (I.ok.Mq x c hfn hc)))).trans (I.base.keep b o e n hb hx)
  ·obtain⟨sl,e1⟩:=I.base.slot b o e n hb hx
   exact⟨sl,(hs.2 b (Nat.ne_of_lt (Nat.lt_of_lt_of_le (Heap.lt_size e) (I.ok.Mq x c hfn hc)))).trans e1⟩
  ·obtain⟨o',e1⟩:=I.base.there b o e hx
   exact⟨o',(hs.2 b (Nat.ne_of_lt (Nat.lt_of_lt_of_le (Heap.lt_size e) (I.ok.Mq x c hfn hc)))).trans e1⟩
  ·by_cases hj:j=i
   ·subst hj
    rw[hi]at e1;cases e1
    rw[List.getElem?_set_self Mu]at e2
    cases e2
    exact⟨u,r,.inr ⟨.inl hk,c,hc,hc'⟩⟩
   ·rw[List.getElem?_set_ne (Ne.symm hj)]at e2
    obtain⟨u',r',q⟩:=hl j y v' e1 e2 e3
    refine⟨u',r',?_⟩
    rcases q with q|⟨k,c',e,z'⟩
    ·exact .inl q
    ·refine .inr ⟨k,c',e,z'.sameBut hs ?_⟩
     rintro rfl
     exact hj (x8 hN e1 (I.ok.inj _ _ _ e hc▸hi))
  ·by_cases hcc:c'=c
   ·subst hcc;exact⟨_,hc'⟩
   ·obtain⟨w2,z2⟩:=I.cell y c' e
    exact⟨w2,z2.sameBut hs hcc⟩
  ·obtain⟨e,n,ne,nf,d⟩:=I.pin p hp
   refine⟨(hs.2 p.1 ?_).trans e,n,ne,nf,d⟩
   intro q
   rw[q,hoc]at e
   have q':oc=p.2:=Option.some.inj e
   exact d w' (by rw[<-q'];exact OG)
theorem jc{M:Model}{A:Around}{E:Value->Shared->Prop}{i:Nat}{x:Str}{v:V}{u:Value}{Q:Unit->Shared->Prop}(I:Inv X pins σ H s)(hN:X.N.Nodup)(hi:X.N[i]?=some x)(hx:Loc X.env.scope x)(r:RelV v u)
  (h:∀s',Inv X pins (σ.set i (some v)) H s'->Q () s')(hf:X.fn x=true∨X.env.scope.names.lookup x=some .local:=by first|exact .inl rfl|exact .inr rfl|assumption):wpAny M A (storeName X.env x u) Q E s:=
 uX I hN hi hx r (λs' I' _=>h s' I') hf
theorem Inv.Eo{s':Shared}{ch:List Addr}(I:Inv X pins σ H s)(ho:s'.os=s.os)(u:Un (frs X.stack) ch H H' s.heap s'.heap)(hok:rO X.prog X.w H' s'.heap)(hg:En s.gens s'.gens)
  (hch:∀b∈ch,(b∈X.ex∨X.s₀.heap.objs.size<=b)/\b≠X.env.locals/\(∀x c,X.env.cells.lookup x=some c->c≠b)/\ ∀p∈X.pn++pins,p.1≠b):Inv X pins σ H' s':=by
 obtain⟨h',g',d',t',o'⟩:=s'
 have e:o'=s.os:=ho
 subst e
 exact I.call (g':=g') (t':=t') (d':=d') u hok hg hch
end
abbrev XK:=Value->Option Addr->Hp->Prop
abbrev St:=List (Option V)
abbrev VK:=V->Hp->Prop
abbrev TE:=St->Hp->VK->Prop
abbrev TT:=St->Hp->(Bool->Hp->Prop) ->Prop
abbrev TA:=St->Hp->(List V->Hp->Prop) ->Prop
structure Ends where
 nx:St->Hp->Prop
 rt:VK
 bk:St->Hp->Prop:=λ_ _=>False
 ct:St->Hp->Prop:=λ_ _=>False
abbrev TS:=Ends->St->Hp->Prop
def EP(X:Cx)(pins:List (Addr×Obj))(σ:St)(Q:VK)(u:Value)(s':Shared):Prop:=∃v H',Inv X pins σ H' s'/\RelV v u/\Q v H'
def TP(X:Cx)(pins:List (Addr×Obj))(σ:St)(Q:Bool->Hp->Prop)(b:Bool)(s':Shared):Prop:=∃H',Inv X pins σ H' s'/\Q b H'
def AP(X:Cx)(pins:List (Addr×Obj))(σ:St)(Q:List V->Hp->Prop)(us:List Value)(s':Shared):Prop:=∃vs H',Inv X pins σ H' s'/\Vals vs us/\Q vs H'
def SP(X:Cx)(pins:List (Addr×Obj))(D:Ends)(f:Flow)(s':Shared):Prop:=
 match f with
 | .next=> ∃σ' H',Inv X pins σ' H' s'/\D.nx σ' H'
 | .brk=> ∃σ' H',Inv X pins σ' H' s'/\D.bk σ' H'
 | .cont=> ∃σ' H',Inv X pins σ' H' s'/\D.ct σ' H'
 | .ret u=> ∃v σ' H',Inv X pins σ' H' s'/\RelV v u/\D.rt v H'
def PE(X:Cx)(e:Expr)(t:TE):Prop:=
 ∀(pins:List (Addr×Obj)) (s:Shared) (σ:St) (H:Hp) (Q:VK),Inv X pins σ H s->t σ H Q->wpAny (model X.prog X.w) X.A (eval e X.env) (EP X pins σ Q) X.xe s
def PT(X:Cx)(e:Expr)(t:TT):Prop:=
 ∀(pins:List (Addr×Obj)) (s:Shared) (σ:St) (H:Hp) (Q:Bool->Hp->Prop),Inv X pins σ H s->t σ H Q->wpAny (model X.prog X.w) X.A (isTrue e X.env (eval e X.env)) (TP X pins σ Q) X.xe s
def PW(X:Cx)(e:Expr)(t:TT):Prop:=
 ∀(whole:Sem Value) (pins:List (Addr×Obj)) (s:Shared) (σ:St) (H:Hp) (Q:Bool->Hp->Prop),Inv X pins σ H s->t σ H Q->wpAny (model X.prog X.w) X.A (isTrue e X.env whole) (TP X pins σ Q) X.xe s
theorem PW.pt{X:Cx}{e:Expr}{t:TT}(h:PW X e t):PT X e t:=h _
def PA(X:Cx)(es:List Expr)(t:TA):Prop:=
 ∀(pos:Pos) (pins:List (Addr×Obj)) (s:Shared) (σ:St) (H:Hp) (Q:List V->Hp->Prop),Inv X pins σ H s->t σ H Q->wpAny (model X.prog X.w) X.A (spliced (backTo pos (starEach es X.env))) (AP X pins σ Q) X.xe s
def PS(X:Cx)(st:Stmt)(t:TS):Prop:=
 ∀(pins:List (Addr×Obj)) (s:Shared) (σ:St) (H:Hp) (D:Ends),Inv X pins σ H s->t D σ H->wpAny (model X.prog X.w) X.A (exec st X.env) (SP X pins D) X.xe s
def v7(X:Cx)(st:List Stmt)(t:TS):Prop:=
 ∀(pins:List (Addr×Obj)) (s:Shared) (σ:St) (H:Hp) (D:Ends),Inv X pins σ H s->t D σ H->wpAny (model X.prog X.w) X.A (execs st X.env) (SP X pins D) X.xe s
theorem fS{α:Type}{t:Sem α}{Q Q':α->Shared->Prop}{M:Model}{A:Around}{E:Value->Shared->Prop}{s:Shared}(h:wpAny M A t Q E s)(hQ:∀a s,Q a s->Q' a s):wpAny M A t Q' E s:=wpAny_mono h hQ λ_ _ x=>x
section
variable{X:Cx}
inductive OH (σ:St) (i:Nat) (H:Hp) (Q:VK):Prop
 |mk (v:V) (e:σ[i]?=some (some v)) (q:Q v H)
def bH(i:Nat):TE:=λσ H Q=>OH σ i H Q
def tC(v:V):TE:=λ_ H Q=>Q v H
theorem JS{i:Nat}{x:Str}{pos:Pos}(hN:X.N[i]?=some x)(hv:Jc X.env.scope x)(hd:(x==("__debug__":Str))=false:=by decide)(hcd:(x==("__classdict__":Str))=false:=by decide):PE X (.Name x pos) (bH i):=by
 intro pins s σ H Q I h
 obtain⟨v,e,h⟩:=h
 obtain⟨m,hn,hl⟩:=I.loc
 obtain⟨u,r,l⟩:=hl i x v hN e hv
 have fin:EP X pins σ Q u s:=⟨v,H,I,r,h⟩
 rcases l with⟨hk,hm⟩|⟨hk,c,hc,hcell⟩
 ·exact wpAny_Name (wpAny_loadName_local I.ok.kind hk hn hm fin) hd
 ·rcases hk with hk|hk
  ·exact wpAny_Name (wpAny_loadName_cell I.ok.kind hk hc hcell fin) hd
  ·exact wpAny_Name (wpAny_loadName_free I.ok.kind hk hc hcell fin hcd) hd
theorem ah{i j pos}:PE X (.Constant (.int i) j pos) (tC (.int i)):=λ_ _ _ H _ I h=>wpAny_Constant_int ⟨.int i,H,I.tok _,⟨_,rfl⟩,h⟩
theorem r6{b j pos}:PE X (.Constant (.bool b) j pos) (tC (.bl b)):=λ_ _ _ H _ I h=>Constant_bool ⟨.bl b,H,I,rfl,h⟩
theorem Ep{j pos}:PE X (.Constant .none j pos) (tC .iR):=λ_ _ _ H _ I h=>Constant_none ⟨.iR,H,I,rfl,h⟩
def Gl(X:Cx)(x:Str):Prop:=X.env.kindOf x=some .globalImplicit
theorem Bw{E:Value->Shared->Prop}{pins:List (Addr×Obj)}{s:Shared}{σ:St}{H:Hp}{x:Str}{u:Value}{pos:Pos}{Q:Value->Shared->Prop}(I:Inv X pins σ H s)(hg:Gl X x)(hm:X.mg x=some u)(h:Q u s)
  (hd:(x==("__debug__":Str))=false:=by decide):wpAny (model X.prog X.w) X.A (eval (.Name x pos) X.env) Q E s:=
 Calls.Name_function_global I.ok.kind hg (Calls.loadGlobal_global (by rw[I.ok.glob];exact I.mod.glob.keeps I.bk) hm h) hd
theorem ku{E:Value->Shared->Prop}{pins:List (Addr×Obj)}{s:Shared}{σ:St}{H:Hp}{x:Str}{u:Value}{pos:Pos}{Q:Value->Shared->Prop}(I:Inv X pins σ H s)(hg:Gl X x)(hm:X.mg x=none)(hv:bootBuiltins x=some u)(h:Q u s)
  (hn:x≠ "__name__":=by decide)(hd:(x==("__debug__":Str))=false:=by decide):wpAny (model X.prog X.w) X.A (eval (.Name x pos) X.env) Q E s:=by
 obtain⟨mb,h1,h2⟩:=I.mod.blt
 exact Calls.Name_function_global I.ok.kind hg (Calls.loadGlobal_builtin (by rw[I.ok.glob];exact I.mod.glob.keeps I.bk) hm (by rw[I.ok.blt];exact h1.keeps I.bk) ((h2 x hn).trans hv) h) hd
theorem v8{x:Str}{v:V}{u:Value}{pos:Pos}(hg:Gl X x)(hm:X.mg x=some u)(r:RelV v u)(hd:(x==("__debug__":Str))=false:=by decide):PE X (.Name x pos) (tC v):=
 λ_ _ _ H _ I h=>Bw I hg hm ⟨v,H,I,r,h⟩ hd
theorem mW{x:Str}{v:V}{u:Value}{pos:Pos}(hg:Gl X x)(hm:X.mg x=none)(hv:bootBuiltins x=some u)(r:RelV v u)(hn:x≠ "__name__":=by decide)(hd:(x==("__debug__":Str))=false:=by decide):PE X (.Name x pos) (tC v):=
 λ_ _ _ H _ I h=>ku I hg hm hv ⟨v,H,I,r,h⟩ hn hd
variable{a b:Expr}{ta tb:TE}{pos:Pos}
inductive QH (x:V) (Q:Bool->Prop):Prop
 |mk (k:Bool) (e:x= .bl k) (q:Q k)
def tB(t:TE):TT:=λσ H Q=>t σ H λx H1=>QH x λc=>Q c H1
theorem kB{e:Expr}{t:TE}(h:PE X e t)(he:∀whole,isTrue e X.env whole=(do let v<-whole;standAt e.pos;holding [v] (truthy v)):=by intro _;rfl):PT X e (tB t):=by
 intro pins s σ H Q I hw
 refine isTrue_plain (fS (h pins s σ H _ I hw) λv s1 ⟨x,H1,I1,r1,q1⟩=> ?_) (he _)
 obtain⟨d,rfl,q⟩:=q1
 cases r1
 exact wpAny_truthy_bool ⟨H1,I1,q⟩
variable{tA NX:TT}{rest:List Expr}
def OI(t u:TT):TT:=λσ H Q=>t σ H λc H1=>if c=true then u σ H1 Q else Q false H1
def Sk(t u:TT):TT:=λσ H Q=>t σ H λc H1=>if c=true then Q true H1 else u σ H1 Q
def OJ(t:TT):TT:=λσ H Q=>t σ H λc H1=>Q (!c) H1
theorem Hs(ha:PT X a tA):PW X (.BoolOp .And [a] pos) tA:=by
 intro wh pins s σ H Q I h
 refine isTrue_and (fS (ha pins s σ H Q I h) λc s1 e=> ?_)
 cases c with
 |true=>exact isTrue_and_nil e
 |false=>exact e
theorem r8(ha:PT X a tA):PW X (.BoolOp .Or [a] pos) tA:=by
 intro wh pins s σ H Q I h
 refine isTrue_or (fS (ha pins s σ H Q I h) λc s1 e=> ?_)
 cases c with
 |false=>exact isTrue_or_nil e
 |true=>exact e
theorem JT(ha:PT X a tA)(hb:PW X (.BoolOp .And (b::rest) pos) NX):PW X (.BoolOp .And (a::b::rest) pos) (OI tA NX):=by
 intro wh pins s σ H Q I h
 refine isTrue_and (fS (ha pins s σ H _ I h) λc s1 ⟨H1,I1,q1⟩=> ?_)
 cases c with
 |true=>exact hb wh pins s1 σ H1 Q I1 q1
 |false=>exact⟨H1,I1,q1⟩
theorem oQ(ha:PT X a tA)(hb:PW X (.BoolOp .Or (b::rest) pos) NX):PW X (.BoolOp .Or (a::b::rest) pos) (Sk tA NX):=by
 intro wh pins s σ H Q I h
 refine isTrue_or (fS (ha pins s σ H _ I h) λc s1 ⟨H1,I1,q1⟩=> ?_)
 cases c with
 |true=>exact⟨H1,I1,q1⟩
 |false=>exact hb wh pins s1 σ H1 Q I1 q1
theorem pV(ha:PT X a tA):PT X (.UnaryOp .Not a pos) (OJ tA):=by
 intro pins s σ H Q I h
 exact isTrue_not (ha pins s σ H (λc H1=>Q (!c) H1) I h)
def Mv(ta tb:TE):TE:=λσ H Q=>ta σ H λx H1=> ∃c,x= .bl c/\if c=true then tb σ H1 Q else Q (.bl false) H1
def Mw(ta:TE):TE:=λσ H Q=>ta σ H λx H1=> ∃c,x= .bl c/\Q (.bl (!c)) H1
theorem v9{op}{t:TE}(h:PE X a t):PE X (.BoolOp op [a] pos) t:=λpins s σ H Q I hw=>BoolOp_one (h pins s σ H Q I hw)
theorem wc(ha:PE X a ta)(hb:PE X (.BoolOp .And (b::rest) pos) tb):PE X (.BoolOp .And (a::b::rest) pos) (Mv ta tb):=by
 intro pins s σ H Q I h
 refine BoolOp_and (fS (ha pins s σ H _ I h) λv s1 ⟨x,H1,I1,r1,q1⟩=> ?_)
 obtain⟨c,rfl,q1⟩:=q1
 cases r1
 refine wpAny_truthy_bool ?_
 cases c with
 |true=>exact hb pins s1 σ H1 Q I1 q1
 |false=>exact⟨.bl false,H1,I1,rfl,q1⟩
theorem JU(ha:PE X a ta):PE X (.UnaryOp .Not a pos) (Mw ta):=by
 intro pins s σ H Q I h
 refine UnaryOp_ (fS (ha pins s σ H _ I h) λv s1 ⟨x,H1,I1,r1,q1⟩=> ?_)
 obtain⟨c,rfl,q1⟩:=q1
 cases r1
 exact not_of (wpAny_truthy_bool ⟨.bl (!c),H1,I1,rfl,q1⟩)
def Sl(t:TT)(ta tb:TE):TE:=λσ H Q=>t σ H λc H1=>if c=true then ta σ H1 Q else tb σ H1 Q
theorem Er{c:Expr}(hc:PT X c tA)(ha:PE X a ta)(hb:PE X b tb):PE X (.IfExp c a b pos) (Sl tA ta tb):=by
 intro pins s σ H Q I h
 refine wpAny_IfExp (fS (hc pins s σ H _ I h) λd s1 ⟨H1,I1,q1⟩=> ?_)
 cases d with
 |true=>exact ha pins s1 σ H1 Q I1 q1
 |false=>exact hb pins s1 σ H1 Q I1 q1
end
def aT(K:PySem.W.Frag)(H:Hp)(a:Addr)(xs:List V):Prop:=
 Rd H a (.lst xs)∨
  ∃(o:Obj) (its:Array Value) (n:Nat),K.lookup a=some o/\o.cls= .type "list"/\o.dict=none/\o.data= .seq its n/\its.size<=sizeLine/\Vals xs its.toList
def uq(K:PySem.W.Frag)(H:Hp)(a:Addr)(xs:List V):Prop:=
 Rd H a (.tup xs)∨
  ∃(o:Obj) (its:Array Value) (n:Nat),K.lookup a=some o/\o.cls= .type "tuple"/\o.data= .seq its n/\its.size<=sizeLine/\Vals xs its.toList
def OL:Value->Option V
 | .none=>some .iR
 | .bool b=>some (.bl b)
 | .int i _=>some (.int i)
 | .str x _=>some (.str x)
 | .bytes b _=>some (.El b)
 | .float b _=>some (.LN b)
 | .ref a=>some (.ref a)
 | .type n=>some (.ty n)
 |_=>none
theorem RelV.abs{x:V}{u:Value}(r:RelV x u):OL u=some x:=by
 cases x with
 |iR=>cases r;rfl
 |bl _=>cases r;rfl
 |int _=>obtain⟨t,rfl⟩:=r;rfl
 |str _=>obtain⟨t,rfl⟩:=r;rfl
 |El _=>obtain⟨t,rfl⟩:=r;rfl
 |LN _=>obtain⟨t,rfl⟩:=r;rfl
 |ref _=>cases r;rfl
 |ty _=>cases r;rfl
theorem RelV.inj{x y:V}{u:Value}(r:RelV x u)(q:RelV y u):x=y:=Option.some.inj (r.abs.symm.trans q.abs)
theorem Vals.inj:∀{xs ys:List V} {us:List Value},Vals xs us->Vals ys us->xs=ys
 |_,_,_,.nil,.nil=>rfl
 |_,_,_,.cons r t,.cons r' t'=>by rw[r.inj r',Vals.inj t t']
section
variable{X:Cx}{pins:List (Addr×Obj)}{σ:St}{H:Hp}{s:Shared}{a:Addr}{xs ys:List V}
theorem aT.of{K:PySem.W.Frag}(h:H a=some (.lst xs)):aT K H a xs:= .inl (.inl h)
theorem uq.of{K:PySem.W.Frag}(h:H a=some (.tup xs)):uq K H a xs:= .inl (.inl h)
theorem Inv.list(I:Inv X pins σ H s)(h:aT X.K H a xs):∃its:List Value,Vals xs its/\PlainL s.heap a its.toArray/\xs.length<=sizeLine:=by
 rcases h with h|⟨o,its,n,hk,hc,hd,hs,hz,r⟩
 ·obtain⟨z,its,n,r,e⟩:=h.ok I.hok
  exact⟨its,r,⟨_,n,e,rfl,rfl,rfl⟩,z⟩
 ·refine⟨its.toList,r,⟨o,n,I.v5 a o hk,hc,hd,by simpa using hs⟩,?_⟩
  have e:=r.length
  simp only[Array.length_toList]at e
  omega
theorem Inv.tuple(I:Inv X pins σ H s)(h:uq X.K H a xs):∃its:List Value,Vals xs its/\IsTup s.heap a its.toArray/\xs.length<=sizeLine:=by
 rcases h with h|⟨o,its,n,hk,hc,hs,hz,r⟩
 ·obtain⟨z,its,r,p⟩:=h.ok I.hok
  exact⟨its,r,p,z⟩
 ·refine⟨its.toList,r,⟨o,I.v5 a o hk,hc,n,by simpa using hs⟩,?_⟩
  have e:=r.length
  simp only[Array.length_toList]at e
  omega
theorem Inv.r9(I:Inv X pins σ H s)(h:aT X.K H a xs)(h':aT X.K H a ys):xs=ys:=by
 obtain⟨its,r,⟨o,n,e,_,_,d⟩,_⟩:=I.list h
 obtain⟨its',r',⟨o',n',e',_,_,d'⟩,_⟩:=I.list h'
 rw[e]at e';cases e'
 rw[d]at d'
 injection d' with d1 _
 have:its=its':=by simpa using congrArg Array.toList d1
 subst this
 exact r.inj r'
end
abbrev Cx.uv (X:Cx) (E:Value->Shared->Prop):Cx:={X with xe:=E}
abbrev Cx.Eg (X:Cx):Cx:=X.uv λ_ _=>False
theorem Cx.Ok.uv{X:Cx}(ok:X.Ok)(E:Value->Shared->Prop):(X.uv E).Ok:=
 ⟨ok.mod,ok.kind,ok.glob,ok.blt,ok.above,ok.inj,ok.has,ok.Mq,ok.hd,ok.frames,ok.stk,ok.LQ,ok.bs,ok.Hr,ok.CB,ok.CC,ok.rA,ok.LR⟩
theorem Cx.Ok.lP{X:Cx}{E:Value->Shared->Prop}(ok:(X.uv E).Ok):X.Ok:=
 ⟨ok.mod,ok.kind,ok.glob,ok.blt,ok.above,ok.inj,ok.has,ok.Mq,ok.hd,ok.frames,ok.stk,ok.LQ,ok.bs,ok.Hr,ok.CB,ok.CC,ok.rA,ok.LR⟩
section
variable{X:Cx}{pins:List (Addr×Obj)}{σ:St}{H:Hp}{s:Shared}{E:Value->Shared->Prop}
theorem Inv.uv(I:Inv X pins σ H s)(E:Value->Shared->Prop):Inv (X.uv E) pins σ H s:=⟨I.ok.uv E,I.os,I.bare,I.base,I.loc,I.cell,I.free,I.lI,I.pin,I.hok,I.len⟩
theorem Inv.lP(I:Inv (X.uv E) pins σ H s):Inv X pins σ H s:=⟨I.ok.lP,I.os,I.bare,I.base,I.loc,I.cell,I.free,I.lI,I.pin,I.hok,I.len⟩
theorem SP.lP{D:Ends}{f:Flow}{s':Shared}(h:SP (X.uv E) pins D f s'):SP X pins D f s':=by
 cases f with
 |next=>obtain⟨σ',H',I,q⟩:=h;exact⟨σ',H',I.lP,q⟩
 |brk=>obtain⟨σ',H',I,q⟩:=h;exact⟨σ',H',I.lP,q⟩
 |cont=>obtain⟨σ',H',I,q⟩:=h;exact⟨σ',H',I.lP,q⟩
 |ret u=>obtain⟨v,σ',H',I,r,q⟩:=h;exact⟨v,σ',H',I.lP,r,q⟩
theorem v7.Eg{st:List Stmt}{t:TS}(h:v7 X.Eg st t):v7 X st t:=λpins s σ H D I hw=>
 wpAny_mono (h pins s σ H D (I.uv _) hw) (λ_ _ q=>q.lP) λ_ _ z=>False.elim z
end
section
variable{X:Cx}{st:Stmt}{rest:List Stmt}{t u:TS}{e:Expr}{te:TE}{pos:Pos}
def Jd:TS:=λD σ H=>D.nx σ H
def uw(t u:TS):TS:=λD σ H=>t {D with nx:=u D} σ H
theorem Ht:v7 X [] Jd:=λ_ _ σ H _ I h=>wpAny_execs_nil ⟨σ,H,I,h⟩
theorem Es(h1:PS X st t)(h2:v7 X rest u):v7 X (st::rest) (uw t u):=by
 intro pins s σ H D I h
 refine wpAny_execs_cons (fS (h1 pins s σ H {D with nx:=u D} I h) λf s1 q=> ?_)
 cases f with
 |next=>
  obtain⟨σ',H',I',q⟩:=q
  exact h2 pins s1 σ' H' D I' q
 |ret v=>exact q
 |brk=>exact q
 |cont=>exact q
theorem cU(h1:PS X st t):v7 X [st] t:=by
 intro pins s σ H D I h
 refine wpAny_execs_cons (fS (h1 pins s σ H D I h) λf s1 q=> ?_)
 cases f with
 |next=>exact wpAny_execs_nil q
 |ret v=>exact q
 |brk=>exact q
 |cont=>exact q
theorem Inv.quiet{pins:List (Addr×Obj)}{σ:St}{H:Hp}{s:Shared}(I:Inv X pins σ H s):interactive X.env=false:=by simp[interactive,I.ok.kind]
def Mx(te:TE):TS:=λD σ H=>te σ H λ_ H1=>D.nx σ H1
theorem kC(he:PE X e te)(hs:swapsWith e none pos.line X.env=pure false:=by rfl):PS X (.Expr e pos) (Mx te):=by
 intro pins s σ H D I h
 exact wpAny_Expr_any (fS (he pins s σ H _ I h) λv s1 ⟨x,H1,I1,r1,q1⟩=>⟨σ,H1,I1,q1⟩) I.quiet hs
def My(te:TE):TS:=λD σ H=>te σ H D.rt
theorem aY(he:PE X e te):PS X (.Return (some e) pos) (My te):=by
 intro pins s σ H D I h
 exact wpAny_Return_some (fS (he pins s σ H _ I h) λv s1 ⟨x,H1,I1,r1,q1⟩=>⟨x,σ,H1,I1,r1,q1⟩)
def Mz(c:TT)(t u:TS):TS:=λD σ H=>c σ H λb H1=>if b=true then t D σ H1 else u D σ H1
theorem MA{c:Expr}{a b:List Stmt}{tc:TT}(hc:PT X c tc)(ha:v7 X a t)(hb:v7 X b u):PS X (.If c a b pos) (Mz tc t u):=by
 intro pins s σ H D I h
 refine wpAny_If (fS (hc pins s σ H _ I h) λd s1 ⟨H1,I1,q1⟩=> ?_)
 cases d with
 |true=>exact ha pins s1 σ H1 D I1 q1
 |false=>exact hb pins s1 σ H1 D I1 q1
def JV:TS:=λ_ _ _=>False
theorem se:PS X st JV:=λ_ _ _ _ _ _ h=>h.elim
end
abbrev TG:=V->St->Hp->(St->Hp->Prop) ->Prop
abbrev Hu:=List V->St->Hp->(St->Hp->Prop) ->Prop
def PG(X:Cx)(target:Expr)(t:TG):Prop:=
 ∀(pins:List (Addr×Obj)) (s:Shared) (σ:St) (H:Hp) (v:V) (u:Value) (Q:St->Hp->Prop),Inv X pins σ H s->RelV v u->t v σ H Q->
  wpAny (model X.prog X.w) X.A (assign target X.env u) (λ_ s'=> ∃σ' H',Inv X pins σ' H' s'/\Q σ' H') X.xe s
def MB(X:Cx)(ts:List Expr)(t:Hu):Prop:=
 ∀(pins:List (Addr×Obj)) (s:Shared) (σ:St) (H:Hp) (vs:List V) (us:List Value) (Q:St->Hp->Prop),Inv X pins σ H s->Vals vs us->t vs σ H Q->
  wpAny (model X.prog X.w) X.A (assignInOrder ((assignEach ts X.env).map (·.2)) us) (λ_ s'=> ∃σ' H',Inv X pins σ' H' s'/\Q σ' H') X.xe s
abbrev JX:=V->V->V->Hp->(Hp->Prop) ->Prop
def MC(X:Cx)(t:JX):Prop:=
 ∀(pins:List (Addr×Obj)) (s:Shared) (σ:St) (H:Hp) (o i v:V) (ov iv u:Value) (Q:Hp->Prop),Inv X pins σ H s->RelV o ov->RelV i iv->RelV v u->t o i v H Q->
  wpAny (model X.prog X.w) X.A (setItem ov iv u) (λ_ s'=> ∃H',Inv X pins σ H' s'/\Q H') X.xe s
section
variable{X:Cx}{pos:Pos}
def cY(i:Nat):TG:=λv σ H Q=>Q (σ.set i (some v)) H
theorem aP{i:Nat}{x:Str}(hN:X.N.Nodup)(hi:X.N[i]?=some x)(hx:Loc X.env.scope x)(hf:X.fn x=true∨X.env.scope.names.lookup x=some .local:=by first|exact .inl rfl|exact .inr rfl|assumption):PG X (.Name x pos) (cY i):=by
 intro pins s σ H v u Q I r h
 exact wpAny_assign_Name (jc I hN hi hx r (λs' I'=>⟨_,H,I',h⟩) hf)
def MD:Hu:=λvs σ H Q=>vs=[]/\Q σ H
inductive ME (vs:List V) (Q:V->List V->Prop):Prop
 |mk (v:V) (r:List V) (e:vs=v::r) (q:Q v r)
def Et(t:TG)(u:Hu):Hu:=λvs σ H Q=>ME vs λv r=>t v σ H λσ1 H1=>u r σ1 H1 Q
theorem fF:MB X [] MD:=by
 intro pins s σ H vs us Q I r h
 obtain⟨e,h⟩:=h
 subst e
 cases r
 exact assignInOrder_nil ⟨σ,H,I,h⟩
theorem aN{e:Expr}{es:List Expr}{t:TG}{u:Hu}(h1:PG X e t)(h2:MB X es u)
  (hs:(assignEach (e::es) X.env).map (·.2)=assign e X.env::(assignEach es X.env).map (·.2):=by rfl):MB X (e::es) (Et t u):=by
 intro pins s σ H vs us Q I r h
 obtain⟨v,vr,e1,h⟩:=h
 subst e1
 cases r with
 |cons r rr=>
  rw[hs]
  refine assignInOrder_cons (fS (h1 pins s σ H _ _ _ I r h) λ_ s1 ⟨σ1,H1,I1,q1⟩=> ?_)
  exact h2 pins s1 σ1 H1 _ _ Q I1 rr q1
inductive OM (K:PySem.W.Frag) (n:Nat) (v:V) (H:Hp) (Q:List V->Prop):Prop
 |mk (a:Addr) (xs:List V) (e:v= .ref a) (s:uq K H a xs) (l:xs.length=n) (q:Q xs)
def MF(K:PySem.W.Frag)(n:Nat)(t:Hu):TG:=λv σ H Q=>OM K n v H λxs=>t xs σ H Q
theorem sf{es:List Expr}{k:Nat}{t:Hu}{n:Nat}(hc:X.calm=true)(h:MB X es t)
  (hn:(assignEach es X.env).length=n:=by rfl)(hst:(assignEach es X.env).findIdx? (·.1)=none:=by rfl):PG X (.Tuple es k pos) (MF X.K n t):=by
 intro pins s σ H v u Q I r hw
 obtain⟨a,xs,e1,hq,hl,hw⟩:=hw
 subst e1
 cases r
 obtain⟨its,rv,ht,hz⟩:=I.tuple hq
 refine assign_Tuple_tuple (I.ok.hd hc) ht (by simp[hn,<-hl,rv.length]) hst λh' hx=> ?_
 have I1:Inv X pins σ H {s with heap:=h'}:=I.kept (t':=s.toks) λb o e=>hx b o (Nat.ne_of_lt (Heap.lt_size e)) e
 exact h pins _ σ H xs _ Q I1 (by simpa using rv) hw
def ON(to ti:TE)(t:JX):TG:=λv σ H Q=>to σ H λo H1=>ti σ H1 λi H2=>t o i v H2 λH3=>Q σ H3
theorem Eu{o i:Expr}{to ti:TE}{t:JX}(ho:PE X o to)(hi:PE X i ti)(hs:MC X t)
  (ha:∀v,assign (.Subscript o i pos) X.env v=(do
   let ov<-holding [v] (eval o X.env)
   let iv<-holding [v,ov] (eval i X.env)
   standAt pos
   holding [v,ov,iv] (setItem ov iv v)
   release [v,ov,iv] []):=by intro _;rfl):PG X (.Subscript o i pos) (ON to ti t):=by
 intro pins s σ H v u Q I r h
 rw[ha]
 refine wpAny_bind (wpAny_holding (fS (ho pins s σ H _ I h) λov s1 ⟨x,H1,I1,r1,q1⟩=> ?_))
 refine wpAny_bind (wpAny_holding (fS (hi pins s1 σ H1 _ I1 q1) λiv s2 ⟨y,H2,I2,r2,q2⟩=> ?_))
 refine wpAny_bind (wpAny_standAt (wpAny_bind (wpAny_holding (fS (hs pins s2 σ H2 x y v ov iv u _ I2 r1 r2 r q2) λ_ s3 ⟨H3,I3,q3⟩=> ?_))))
 exact wpAny_release ⟨σ,H3,I3,q3⟩
def zN(te:TE)(g:TG):TS:=λD σ H=>te σ H λx H1=>g x σ H1 D.nx
theorem kD{tg e:Expr}{te:TE}{g:TG}(he:PE X e te)(hg:PG X tg g)(hs:swapsWithSole [tg] e pos.line X.env=pure false:=by rfl)(hw:swappedStores [tg] e X.env=pure none:=by rfl)
  (h1:(assignEach [tg] X.env).map (·.2)=[assign tg X.env]:=by rfl):PS X (.Assign [tg] e pos) (zN te g):=by
 intro pins s σ H D I h
 refine wpAny_Assign_stores (fS (he pins s σ H _ I h) λv s1 ⟨x,H1,I1,r1,q1⟩=> ?_) hs hw
 rw[h1]
 exact fS (hg pins s1 σ H1 x v _ I1 r1 q1) λ_ s2 q=>q
theorem aC{i:Nat}{x:Str}{e:Expr}{te:TE}{pos':Pos}(hN:X.N.Nodup)(hi:X.N[i]?=some x)(hx:Loc X.env.scope x)(he:PE X e te)(hs:swapsWith e (some (.Name x pos')) pos.line X.env=pure false:=by rfl)(hf:X.fn x=true∨X.env.scope.names.lookup x=some .local:=by first|exact .inl rfl|exact .inr rfl|assumption):
  PS X (.Assign [.Name x pos'] e pos) (zN te (cY i)):=by
 intro pins s σ H D I h
 refine wpAny_Assign_Name (fS (he pins s σ H _ I h) λv s1 ⟨y,H1,I1,r1,q1⟩=> ?_) hs
 exact jc I1 hN hi hx r1 (λs2 I2=>⟨_,H1,I2,q1⟩) hf
def OO(i j:Nat)(ta:TA):TS:=λD σ H=>ta σ H λvs H1=> ∃v w,vs=[v,w]/\D.nx ((σ.set i (some v)).set j (some w)) H1
theorem pW{i j:Nat}{x y:Str}{a b:Expr}{ta:TA}{px py pt:Pos}{kt k2 JY}(hc:X.calm=true)(hN:X.N.Nodup)(hi:X.N[i]?=some x)(hj:X.N[j]?=some y)(hij:i≠j)
  (hx:X.env.scope.names.lookup x=some .local)(hy:X.env.scope.names.lookup y=some .local)(ha:PA X [a,b] ta)
  (hw:swappedStores [.Tuple [.Name x px,.Name y py] kt pt] (.Tuple [a,b] k2 JY) X.env=pure (some [x,y]))
  (hs:swapsWithSole [.Tuple [.Name x px,.Name y py] kt pt] (.Tuple [a,b] k2 JY) pos.line X.env=pure false:=by rfl):
  PS X (.Assign [.Tuple [.Name x px,.Name y py] kt pt] (.Tuple [a,b] k2 JY) pos) (OO i j ta):=by
 intro pins s σ H D I h
 rw[exec_Assign_arm]
 refine wpAny_bind (wpAny_standAt ?_)
 rw[hs]
 refine wpAny_bind (wpAny_pure ?_)
 rw[if_neg (by decide)]
 refine wpAny_bind (Tuple_ (fS (ha _ pins s σ H _ I h) λus s1 ⟨vs,H1,I1,r1,q1⟩=> ?_))
 obtain⟨v,w,e1,q1⟩:=q1
 subst e1
 obtain⟨u1,u2,rfl,rv,rw'⟩:∃u1 u2,us=[u1,u2]/\RelV v u1/\RelV w u2:=by
  cases r1 with
  |cons p q=>
   cases q with
   |cons p' q'=>
    cases q'
    exact⟨_,_,rfl,p,p'⟩
 refine wpAny_newObj_type ?_ (by show 2<=sizeLine;decide)
 have I2:Inv X pins σ H1 {s1 with heap:=s1.heap.push {cls:= .type "tuple",data:= .seq [u1,u2].toArray}}:=I1.kept (t':=s1.toks) λb o e=>Heap.get?_push_of_some _ e
 rw[hw]
 refine wpAny_bind (wpAny_pure ?_)
 show wpAny (model X.prog X.w) X.A (do rule "assign.swapped-stores";let items<-unpackItems (.ref s1.heap.objs.size) 2 none;assignInOrder [λv=>bindName X.env y v,λv=>bindName X.env x v] items.reverse;pure Flow.next) _ _ _
 refine wpAny_bind (wpAny_rule (wpAny_bind (unpackItems_tuple (items:= #[u1,u2]) (I.ok.hd hc) (IsTup.new s1.heap _) λh' hx'=> ?_)))
 have I3:=I2.kept (h':=h') (t':=s1.toks) λb o e=>hx' b o (Nat.ne_of_lt (Heap.lt_size e)) e
 show wpAny _ _ (assignInOrder [λv=>bindName X.env y v,λv=>bindName X.env x v] [u2,u1]>>=λ_=>pure Flow.next) _ _ _
 refine wpAny_bind (assignInOrder_cons (wpAny_bindName (jc I3 hN hj (.inl hy) rw' (λs2 I4=> ?_) (.inr hy))))
 refine assignInOrder_cons (wpAny_bindName (jc I4 hN hi (.inl hx) rv (λs3 I5=>assignInOrder_nil (wpAny_pure ?_)) (.inr hx)))
 rw[List.set_comm _ _ (Ne.symm hij)]at I5
 exact⟨_,H1,I5,q1⟩
end
section
variable{X:Cx}{pos:Pos}
def Ew(c:TT)(tb:TS):TS:=λD σ H=> ∃W:Nat->St->Hp->Prop,(∃m,W m σ H)/\ ∀m σ H,W m σ H->
 c σ H λb H1=>if b=true then ∃N:St->Hp->Prop,(∀σ' H',N σ' H'-> ∃m',m'<m/\W m' σ' H')/\tb {D with nx:=N,ct:=N,bk:=D.nx} σ H1 else D.nx σ H1
theorem j3{c:Expr}{body:List Stmt}{tc:TT}{tb:TS}(hp:PassesOwn (model X.prog X.w) X.A X.env X.xe)(hc:PT X c tc)(hb:v7 X body tb):PS X (.While c body [] pos) (Ew tc tb):=by
 intro pins s σ H D I h
 obtain⟨W,⟨m0,w0⟩,turn⟩:=h
 refine wpAny_While (codeAny_whileLoop (λn s'=> ∃σ' H',Inv X pins σ' H' s'/\W n σ' H') ?_ m0 ⟨σ,H,I,w0⟩)
 rintro n s1 ⟨σ1,H1,I1,w1⟩
 refine wpAny_passesOwn hp (fS (hc pins s1 σ1 H1 _ I1 (turn n σ1 H1 w1)) λb s2 ⟨H2,I2,q2⟩=> ?_)
 cases b with
 |true=>
  obtain⟨N,hN,q2⟩:=q2
  rw[if_pos rfl]
  refine wpAny_passesOwn hp (fS (hb pins s2 σ1 H2 _ I2 q2) λf s3 q3=> ?_)
  cases f with
  |next=>
   obtain⟨σ3,H3,I3,n3⟩:=q3
   obtain⟨m',hm,w3⟩:=hN σ3 H3 n3
   exact⟨m',hm,σ3,H3,I3,w3⟩
  |cont=>
   obtain⟨σ3,H3,I3,n3⟩:=q3
   obtain⟨m',hm,w3⟩:=hN σ3 H3 n3
   exact⟨m',hm,σ3,H3,I3,w3⟩
  |brk=>exact q3
  |ret v=>exact q3
 |false=>
  rw[if_neg Bool.false_ne_true]
  exact wpAny_execs_nil ⟨σ1,H2,I2,q2⟩
end
structure It where
 go:Nat->Hp->Prop
 zO:Nat->Hp->V->Hp->Prop
 stop:Nat->Hp->Prop
def fQ(X:Cx)(pins:List (Addr×Obj))(H:Hp)(b:Addr):Prop:=
 H b=none/\b≠X.env.locals/\b∉X.fs/\(b∈X.ex∨X.s₀.heap.objs.size<=b)/\(∀x c,X.env.cells.lookup x=some c->c≠b)/\ ∀p∈X.pn++pins,p.1≠b
theorem Inv.CD{X:Cx}{pins:List (Addr×Obj)}{σ:St}{H H':Hp}{s:Shared}{b:Addr}(I:Inv X pins σ H s)(hb:s.heap.objs.size<=b)(hn:H' b=none):fQ X pins H' b:=by
 refine⟨hn,Nat.ne_of_gt (Nat.lt_of_lt_of_le I.lt hb),I.Mr hb,.inr (Nat.le_trans I.sz hb),λx c e z=> ?_,λp hp z=> ?_⟩
 ·obtain⟨v,q⟩:=I.cell x c e
  exact absurd (Nat.lt_of_lt_of_le q.lt (by rw[z];exact hb)) (Nat.lt_irrefl _)
 ·exact absurd (Nat.lt_of_lt_of_le (Heap.lt_size (I.pin p hp).1) (by rw[z];exact hb)) (Nat.lt_irrefl _)
structure Turn(P:Program)(w:World)(K:PySem.W.Frag)(tg:Expr)(J:It)(fp:List Addr)(it:Addr)(tn:Nat->Heap->Prop):Prop where
 mem:it∈fp
 obj:∀i h,tn i h-> ∀b∈fp,∃o,h.get? b=some o/\ ∀v,o.data≠ .cell v
 keep:∀i h h',tn i h->(∀b∈fp,∀o,h.get? b=some o->h'.get? b=some o) ->tn i h'
 item:∀(X:Cx),X.prog=P->X.w=w->X.K=K->X.calm=true-> ∀(i:Nat) (pins:List (Addr×Obj)) (s:Shared) (σ:St) (H:Hp) (E:Value->Shared->Prop),Inv X pins σ H s->(∀b∈fp,fQ X pins H b) ->tn i s.heap->J.go i H->
  wpAny (model P w) X.A (pyNext (.ref it)) (λr s1=> ∃u,r=some u/\
   wpAny (model P w) X.A (letOwnedTupleGo tg (.ref it) u) (λ_ s2=> ∃x H',Inv X pins σ H' s2/\RelV x u/\J.zO i H x H'/\tn (i+1) s2.heap/\ ∀b∈fp,H' b=none) E s1) E s
 done:∀(X:Cx),X.prog=P->X.w=w->X.K=K->X.calm=true-> ∀(i:Nat) (pins:List (Addr×Obj)) (s:Shared) (σ:St) (H:Hp) (E:Value->Shared->Prop),Inv X pins σ H s->(∀b∈fp,fQ X pins H b) ->tn i s.heap->J.stop i H->
  wpAny (model P w) X.A (pyNext (.ref it)) (λr s1=>r=none/\Inv X pins σ H s1) E s
 self:∀(A:Around) (i:Nat) (s:Shared) (Q:Value->Shared->Prop) (E:Value->Shared->Prop),tn i s.heap->Q (.ref it) s->wpAny (model P w) A (pyIter (.ref it)) Q E s
abbrev TI:=St->Hp->(It->Hp->Prop) ->Prop
def QI(X:Cx)(pins:List (Addr×Obj))(σ:St)(tg:Expr)(R:It->Hp->Prop)(itv:Value)(s2:Shared):Prop:=
 ∃(it:Addr) (fp:List Addr) (tn:Nat->Heap->Prop) (J:It) (H':Hp),itv= .ref it/\Inv X pins σ H' s2/\Turn X.prog X.w X.K tg J fp it tn/\tn 0 s2.heap/\(∀b∈fp,fQ X pins H' b)/\R J H'
def PI(X:Cx)(tg iter:Expr)(wi:TI):Prop:=
 ∀(pins:List (Addr×Obj)) (s:Shared) (σ:St) (H:Hp) (R:It->Hp->Prop),Inv X pins σ H s->wi σ H R->
  wpAny (model X.prog X.w) X.A (eval iter X.env) (λv s1=>wpAny (model X.prog X.w) X.A (pyIter v) (QI X pins σ tg R) X.xe s1) X.xe s
theorem Je{M:Model}{A:Around}{E:Value->Shared->Prop}{s:Shared}{tg:Expr}{it:Addr}{u:Value}{o:Obj}{n:String}{vs:Array Value}{Q:Unit->Shared->Prop}(ho:s.heap.get? it=some o)(hc:o.cls= .type n)(hd:o.data= .fields vs)
  (hn: ["enumerate","zip","dict_itemiterator","dict_reverseitemiterator","odict_iterator","itertools.zip_longest","itertools.pairwise"].contains n=false)(hQ:Q () s):wpAny M A (letOwnedTupleGo tg (.ref it) u) Q E s:=by
 unfold letOwnedTupleGo
 cases tg<;>first
  |exact wpAny_pure hQ
  |(cases u<;>first
    |exact wpAny_pure hQ
    |(refine wpAny_bind (wpAny_load ho ?_)
      rw[hc,hd]
      show wpAny M A (if(["enumerate","zip","dict_itemiterator","dict_reverseitemiterator","odict_iterator","itertools.zip_longest","itertools.pairwise"].contains n && vs[0]?==some (rawInt _))=true then _ else _) Q E s
      rw[if_neg (by intro h;rw[hn,Bool.false_and]at h;cases h)]
      exact wpAny_pure hQ))
def JZ(K:PySem.W.Frag)(a:Addr):It:=
 ⟨λi H=> ∃xs x,aT K H a xs/\xs[i]?=some x,λi H x H'=>H'=H/\ ∀xs,aT K H a xs->xs[i]?=some x,λi H=> ∃xs,aT K H a xs/\xs.length<=i⟩
def GZ(lo:Int)(n:Nat):It:=⟨λi _=>i<n,λi H x H'=>H'=H/\x= .int (lo+i),λi _=>n<=i⟩
theorem CF{P:Program}{w:World}{K:PySem.W.Frag}{tg:Expr}(a it:Addr):Turn P w K tg (JZ K a) [it] it (λi h=>h.IsListIter it a i) where
 mem:=by simp
 obj:=λi h st b hb=>by
  have e:b=it:=by simpa using hb
  subst e
  obtain⟨o,e,c,d⟩:=st
  exact⟨o,e,λv z=>by rw[d]at z;cases z⟩
 keep:=λi h h' st k=>st.at λo e=>k it (by simp) o e
 item:=by
  intro X hP hw hK hc i pins s σ H E I hf st hg
  subst hP hw hK
  obtain⟨xs,x,hq,hx⟩:=hg
  obtain⟨its,rv,p,hz⟩:=I.list hq
  obtain⟨u,hu,ru⟩:=rv.get hx
  obtain⟨f0,f1,f2,f3,f4,f5⟩:=hf it (by simp)
  refine wpAny_pyNext_list_item st p.isList (x:=u) (by simpa using hu) λh' st' sb=> ?_
  have I1:Inv X pins σ H {s with heap:=h'}:=I.turned (t':=s.toks) (λb o hb e=>(sb.2 b hb).trans e) f0 f1 f3 f4 f5
  obtain⟨o,e,c,d⟩:=id st'
  exact⟨u,rfl,Je (s:={s with heap:=h'}) e c d (by decide) ⟨x,H,I1,ru,⟨rfl,λys hy=>by rw[I.r9 hy hq];exact hx⟩,st',λb hb=>(hf b hb).1⟩⟩
 done:=by
  intro X hP hw hK hc i pins s σ H E I hf st hg
  subst hP hw hK
  obtain⟨xs,hq,hx⟩:=hg
  obtain⟨its,rv,p,hz⟩:=I.list hq
  obtain⟨f0,f1,f2,f3,f4,f5⟩:=hf it (by simp)
  have hl:=rv.length
  exact wpAny_pyNext_list_end (I.ok.hd hc) st p.isList (by simp;omega) λh' eb=>⟨rfl,I.turned (t':=s.toks) (λb o hb e=>eb b o hb e) f0 f1 f3 f4 f5⟩
 self:=λ_ _ _ _ _ st h=>wpAny_pyIter_listiter st h
theorem zP{P:Program}{w:World}{K:PySem.W.Frag}{tg:Expr}(it:Addr)(lo:Int)(n:Nat):Turn P w K tg (GZ lo n) [it] it (λi h=>IsRangeIter h it (lo+(i:Nat)*1) ((n:Int) - (i:Nat)) 1) where
 mem:=by simp
 obj:=λi h st b hb=>by
  have e:b=it:=by simpa using hb
  subst e
  exact⟨_,st,λv z=>by
   have z':Data.fields _=Data.cell v:=z
   cases z'⟩
 keep:=λi h h' st k=>k it (by simp) _ st
 item:=by
  intro X hP hw hK hc i pins s σ H E I hf st hg
  subst hP hw hK
  obtain⟨f0,f1,f2,f3,f4,f5⟩:=hf it (by simp)
  have W:=Walks.range (prog:=X.prog) (w:=X.w) (I.ok.hd hc) it lo 1 n
  refine W.item i s _ _ hg st λv h' tk hv st' kk=> ?_
  obtain⟨t,rfl⟩:=hv
  have I1:Inv X pins σ H {s with heap:=h',toks:=tk}:=I.turned (λb o hb e=>kk b o (by simpa using hb) e) f0 f1 f3 f4 f5
  refine⟨_,rfl,Je (s:={s with heap:=h',toks:=tk}) (n:= "range_iterator") st' rfl rfl (by decide) ⟨.int (lo+i),H,I1,⟨t,?_⟩,⟨rfl,rfl⟩,st',λb hb=>(hf b hb).1⟩⟩
  rw[Int.mul_one]
 done:=by
  intro X hP hw hK hc i pins s σ H E I hf st hg
  subst hP hw hK
  obtain⟨f0,f1,f2,f3,f4,f5⟩:=hf it (by simp)
  exact wpAny_pyNext_range_end (I.ok.hd hc) st (by have:n<=i:=hg;omega) λh' eb=>⟨rfl,I.turned (t':=s.toks) (λb o hb e=>eb b o hb e) f0 f1 f3 f4 f5⟩
 self:=λ_ _ _ _ _ st h=>wpAny_pyIter_rangeiter st h
section
variable{X:Cx}{tg:Expr}
def Jf(K:PySem.W.Frag)(tl:TE):TI:=λσ H R=>tl σ H λx H1=> ∃a,x= .ref a/\(∃xs,aT K H1 a xs)/\R (JZ K a) H1
theorem gz{l:Expr}{tl:TE}(hl:PE X l tl):PI X tg l (Jf X.K tl):=by
 intro pins s σ H R I h
 refine fS (hl pins s σ H _ I h) λv s1 ⟨x,H1,I1,r1,q1⟩=> ?_
 obtain⟨a,e,⟨xs,hq⟩,q⟩:=q1
 subst e
 cases r1
 obtain⟨its,rv,p,hz⟩:=I1.list hq
 refine wpAny_pyIter_list p.isList ?_
 refine⟨s1.heap.objs.size,[s1.heap.objs.size],_,_,H1,rfl,I1.kept (t':=s1.toks) λb o e=>Heap.get?_push_of_some _ e,CF a _,⟨_,Heap.get?_push_size _ rfl,rfl,rfl⟩,λb hb=> ?_,q⟩
 have e:b=s1.heap.objs.size:=by simpa using hb
 subst e
 exact I1.CD (Nat.le_refl _) (I1.hok.fresh (Nat.le_refl _))
theorem x9{pins:List (Addr×Obj)}{σ:St}{H:Hp}{s:Shared}{R:It->Hp->Prop}{E:Value->Shared->Prop}{lo hi:Int}{t u v:Tok}{tk:Nat}(I:Inv X pins σ H s)(h1: -(2^62)<=lo)(h2:lo<2^62)(h3: -(2^62)<=hi)(h4:hi<2^62)
  (q:R (GZ lo (hi-lo).toNat) H):wpAny (model X.prog X.w) X.A (pyIter (.ref s.heap.objs.size)) (QI X pins σ tg R) E {s with heap:=s.heap.push {cls:= .type "range",data:= .fields #[.int lo t,.int hi u,.int 1 v]},toks:=tk}:=by
 refine wpAny_pyIter_range (IsRange.new ..) (small_one h1 h2 h3 h4) ?_
 have I1:Inv X pins σ H {s with heap:=s.heap.push {cls:= .type "range",data:= .fields #[.int lo t,.int hi u,.int 1 v]},toks:=tk}:=I.kept λb o e=>Heap.get?_push_of_some _ e
 refine⟨(s.heap.push {cls:= .type "range",data:= .fields #[.int lo t,.int hi u,.int 1 v]}).objs.size,[(s.heap.push {cls:= .type "range",data:= .fields #[.int lo t,.int hi u,.int 1 v]}).objs.size],_,_,H,rfl,
  I1.kept (t':=tk) λb o e=>Heap.get?_push_of_some _ e,zP _ lo (hi-lo).toNat,?_,λb hb=> ?_,q⟩
 ·have e1:lo+((0:Nat):Int)*1=lo:=by simp
  have e2:(((hi-lo).toNat:Nat):Int) - ((0:Nat):Int)=Builtin.Range.rangeSize lo hi 1:=by rw[rangeSize_one];split<;>omega
  show IsRangeIter _ _ (lo+((0:Nat):Int)*1) ((((hi-lo).toNat:Nat):Int) - ((0:Nat):Int)) 1
  rw[e1,e2]
  exact Heap.get?_push_size _ rfl
 ·have e:b=(s.heap.push {cls:= .type "range",data:= .fields #[.int lo t,.int hi u,.int 1 v]}).objs.size:=by simpa using hb
  subst e
  exact I1.CD (Nat.le_refl _) (I1.hok.fresh (Nat.le_refl _))
def qU(ta:TA):TI:=λσ H R=>ta σ H λvs H1=> ∃j:Int,vs=[.int j]/\ -(2^62)<=j/\j<2^62/\R (GZ 0 j.toNat) H1
def MI(ta:TA):TI:=λσ H R=>ta σ H λvs H1=> ∃i j:Int,vs=[.int i,.int j]/\(-(2^62)<=i/\i<2^62/\ -(2^62)<=j/\j<2^62)/\R (GZ i (j-i).toNat) H1
theorem dz{a:Expr}{ta:TA}{p pos:Pos}(hg:Gl X "range")(hm:X.mg "range"=none)(ha:PA X [a] ta)(hs:starEach [a] X.env=[(false,eval a X.env)]:=by rfl):PI X tg (.Call (.Name "range" p) [a] [] pos) (qU ta):=by
 intro pins s σ H R I h
 refine Call_ (ku I hg hm boot_range (PyProof.Rows.callWith_type1 (fS (ha pos pins s σ H _ I h) λus s1 ⟨vs,H1,I1,r1,q1⟩=> ?_) hs rfl))
 obtain⟨j,e,q1,q2,q⟩:=q1
 subst e
 cases r1 with
 |cons r rr=>
  cases rr
  obtain⟨t,rfl⟩:=r
  exact call_range_1 (x9 I1 (by omega) (by omega) q1 q2 (by simpa using q))
theorem j4{a b:Expr}{ta:TA}{p pos:Pos}(hg:Gl X "range")(hm:X.mg "range"=none)(ha:PA X [a,b] ta)(hs:starEach [a,b] X.env=[(false,eval a X.env),(false,eval b X.env)]:=by rfl)(hs2:starEach [b] X.env=[(false,eval b X.env)]:=by rfl):
  PI X tg (.Call (.Name "range" p) [a,b] [] pos) (MI ta):=by
 intro pins s σ H R I h
 refine Call_ (ku I hg hm boot_range (PyProof.Rows.callWith_type1 (fS (ha pos pins s σ H _ I h) λus s1 ⟨vs,H1,I1,r1,q1⟩=> ?_) (by rw[hs,hs2]) (by rw[hs2];rfl)))
 obtain⟨i,j,e,⟨q1,q2,q3,q4⟩,q⟩:=q1
 subst e
 cases r1 with
 |cons r rr=>
  cases rr with
  |cons r' rr=>
   cases rr
   obtain⟨t,rfl⟩:=r
   obtain⟨t',rfl⟩:=r'
   exact call_range_2 (x9 I1 q1 q2 q3 q4 q)
def OP(wi:TI)(g:TG)(tb:TS):TS:=λD σ H=>wi σ H λJ H1=> ∃W:Nat->Nat->St->Hp->Prop,(∃m,W 0 m σ H1)/\ ∀i m σ H,W i m σ H->
 (J.stop i H/\D.nx σ H)∨(J.go i H/\ ∃N:St->Hp->Prop,(∀σ' H',N σ' H'-> ∃m',m'<m/\W (i+1) m' σ' H')/\ ∀x H',J.zO i H x H'->g x σ H' λσ2 H2=>tb {D with nx:=N,ct:=N,bk:=D.nx} σ2 H2)
def cK(fp:List Addr)(h:Heap):List (Addr×Obj):=fp.filterMap λb=>(h.get? b).map λo=>(b,o)
theorem dS{fp:List Addr}{h:Heap}{b:Addr}{o:Obj}(hb:b∈fp)(e:h.get? b=some o):(b,o)∈cK fp h:=List.mem_filterMap.mpr ⟨b,hb,by rw[e];rfl⟩
theorem jb{fp:List Addr}{h:Heap}{p:Addr×Obj}(hp:p∈cK fp h):p.1∈fp/\h.get? p.1=some p.2:=by
 obtain⟨b,hb,e⟩:=List.mem_filterMap.mp hp
 cases q:h.get? b with
 |none=>rw[q]at e;cases e
 |some o=>
  rw[q]at e
  have e':(b,o)=p:=Option.some.inj e
  subst e'
  exact⟨hb,q⟩
theorem Inv.pinned{pins:List (Addr×Obj)}{σ:St}{H:Hp}{s:Shared}{fp:List Addr}(I:Inv X pins σ H s)(hf:∀b∈fp,fQ X pins H b)(ho:∀b∈fp,∃o,s.heap.get? b=some o/\ ∀v,o.data≠ .cell v):Inv X (pins++cK fp s.heap) σ H s:=
 I.iT λp hp=>(List.mem_append.mp hp).elim (λz=>I.pin p (List.mem_append_right _ z)) λz=>by
  obtain⟨hb,e⟩:=jb z
  obtain⟨f0,f1,f2,_⟩:=hf p.1 hb
  obtain⟨o,e',d⟩:=ho p.1 hb
  rw[e]at e';cases e'
  exact⟨e,f0,f1,f2,d⟩
theorem Inv.lQ{pins pl:List (Addr×Obj)}{σ:St}{H:Hp}{s:Shared}(I:Inv X (pins++pl) σ H s):Inv X pins σ H s:=I.iT λp hp=>I.pin p (List.mem_append_right _ (List.mem_append_left _ hp))
theorem jH{iter:Expr}{body:List Stmt}{wi:TI}{g:TG}{tb:TS}{pos:Pos}(hp:PassesOwn (model X.prog X.w) X.A X.env X.xe)(hc:X.calm=true)(hi:PI X tg iter wi)(hg:PG X tg g)(hb:v7 X body tb)
  (hs:∀x,foldedSetIterable iter X.env x=pure x:=by intro _;rfl):PS X (.For tg iter body [] pos) (OP wi g tb):=by
 intro pins s σ H D I h
 refine wpAny_For (fS (hi pins s σ H _ I h) λv s1 h1=>fS h1 λitv s2 h2=> ?_) hs
 obtain⟨it,fp,tn,J,H2,e,I2,T,st2,f2,W,⟨m0,w0⟩,turn⟩:=h2
 subst e
 have Ka:∀{H':Hp},(∀b∈fp,H' b=none) -> ∀b∈fp,fQ X pins H' b:=λhn b hb=>⟨hn b hb,(f2 b hb).2⟩
 refine codeAny_forLoop_any (λn s'=> ∃i σ' H',Inv X pins σ' H' s'/\tn i s'.heap/\(∀b∈fp,H' b=none)/\W i n σ' H') ?_ m0 ⟨0,σ,H2,I2,st2,λb hb=>(f2 b hb).1,w0⟩
 rintro n s3 ⟨i,σ3,H3,I3,st3,Kc,w3⟩
 rcases turn i n σ3 H3 w3 with⟨stop,qn⟩|⟨go,N,hN,step⟩
 ·refine wpAny_passesOwn hp (fS (T.done X rfl rfl rfl hc i pins s3 σ3 H3 X.xe I3 (Ka Kc) st3 stop) λr s4 ⟨hr,I4⟩=> ?_)
  subst hr
  exact wpAny_execs_nil ⟨σ3,H3,I4,qn⟩
 ·refine wpAny_passesOwn hp (fS (T.item X rfl rfl rfl hc i pins s3 σ3 H3 X.xe I3 (Ka Kc) st3 go) λr s4 ⟨u,hr,h4⟩=> ?_)
  subst hr
  refine wpAny_passesOwn hp (fS h4 λ_ s5 ⟨x,H5,I5,r5,y5,Kd,Hv⟩=> ?_)
  have OQ:=I5.pinned (Ka Hv) (T.obj _ _ Kd)
  refine wpAny_passesOwn hp (fS (hg _ s5 σ3 H5 x u _ OQ r5 (step x H5 y5)) λ_ s6 ⟨MJ,H6,I6,q6⟩=> ?_)
  refine wpAny_passesOwn hp (fS (hb _ s6 MJ H6 _ I6 q6) λf s7 q7=> ?_)
  have again:∀{Ex:St} {H7:Hp},Inv X (pins++cK fp s5.heap) Ex H7 s7->N Ex H7-> ∃m,m<n/\ ∃i σ' H',Inv X pins σ' H' s7/\tn i s7.heap/\(∀b∈fp,H' b=none)/\W i m σ' H':=λ {Ex H7} I7 n7=>by
   obtain⟨m',hm,w7⟩:=hN Ex H7 n7
   refine⟨m',hm,i+1,Ex,H7,I7.lQ,T.keep _ _ _ Kd λb hb o e=>(I7.pin (b,o) (List.mem_append_right _ (List.mem_append_right _ (dS hb e)))).1,λb hb=> ?_,w7⟩
   obtain⟨o,e,d⟩:=T.obj _ _ Kd b hb
   exact(I7.pin (b,o) (List.mem_append_right _ (List.mem_append_right _ (dS hb e)))).2.1
  cases f with
  |next=>obtain⟨Ex,H7,I7,n7⟩:=q7;exact again I7 n7
  |cont=>obtain⟨Ex,H7,I7,n7⟩:=q7;exact again I7 n7
  |brk=>obtain⟨Ex,H7,I7,q7⟩:=q7;exact⟨Ex,H7,I7.lQ,q7⟩
  |ret v=>obtain⟨x7,Ex,H7,I7,r7,q7⟩:=q7;exact⟨x7,Ex,H7,I7.lQ,r7,q7⟩
end
theorem sj{K:PySem.W.Frag}{a:Addr}{xs:List V}{g:TG}{tb:TS}{D:Ends}{σ:St}{H:Hp}(Pv:Nat->St->Hp->Prop)(h0:Pv 0 σ H)(hl:∀i σ H,i<=xs.length->Pv i σ H->aT K H a xs)
  (hs:∀i x σ H,xs[i]?=some x->Pv i σ H->g x σ H λσ2 H2=>tb {D with nx:=Pv (i+1),ct:=Pv (i+1),bk:=D.nx} σ2 H2)(hd:∀σ H,Pv xs.length σ H->D.nx σ H):
  ∃W:Nat->Nat->St->Hp->Prop,(∃m,W 0 m σ H)/\ ∀i m σ H,W i m σ H->
   ((JZ K a).stop i H/\D.nx σ H)∨((JZ K a).go i H/\ ∃N:St->Hp->Prop,(∀σ' H',N σ' H'-> ∃m',m'<m/\W (i+1) m' σ' H')/\ ∀x H',(JZ K a).zO i H x H'->g x σ H' λσ2 H2=>tb {D with nx:=N,ct:=N,bk:=D.nx} σ2 H2):=by
 refine⟨λi m σ H=>m=xs.length-i/\i<=xs.length/\Pv i σ H,⟨xs.length,by simp,Nat.zero_le _,h0⟩,?_⟩
 rintro i m σ H ⟨rfl,hi,p⟩
 have q:=hl i σ H hi p
 by_cases hlt:i<xs.length
 ·refine .inr ⟨⟨xs,xs[i],q,by simp[hlt]⟩,Pv (i+1),λσ' H' p'=>⟨xs.length- (i+1),by omega,rfl,hlt,p'⟩,λx H' y=> ?_⟩
  obtain⟨e,y⟩:=y
  subst e
  exact hs i x σ _ (y xs q) p
 ·have e:i=xs.length:=by omega
  subst e
  exact .inl ⟨⟨xs,q,Nat.le_refl _⟩,hd σ H p⟩
theorem gR{lo:Int}{n:Nat}{g:TG}{tb:TS}{D:Ends}{σ:St}{H:Hp}(Pv:Nat->St->Hp->Prop)(h0:Pv 0 σ H)
  (hs:∀i σ H,i<n->Pv i σ H->g (.int (lo+i)) σ H λσ2 H2=>tb {D with nx:=Pv (i+1),ct:=Pv (i+1),bk:=D.nx} σ2 H2)(hd:∀σ H,Pv n σ H->D.nx σ H):
  ∃W:Nat->Nat->St->Hp->Prop,(∃m,W 0 m σ H)/\ ∀i m σ H,W i m σ H->
   ((GZ lo n).stop i H/\D.nx σ H)∨((GZ lo n).go i H/\ ∃N:St->Hp->Prop,(∀σ' H',N σ' H'-> ∃m',m'<m/\W (i+1) m' σ' H')/\ ∀x H',(GZ lo n).zO i H x H'->g x σ H' λσ2 H2=>tb {D with nx:=N,ct:=N,bk:=D.nx} σ2 H2):=by
 refine⟨λi m σ H=>m=n-i/\i<=n/\Pv i σ H,⟨n,by simp,Nat.zero_le _,h0⟩,?_⟩
 rintro i m σ H ⟨rfl,hi,p⟩
 by_cases hlt:i<n
 ·refine .inr ⟨hlt,Pv (i+1),λσ' H' p'=>⟨n- (i+1),by omega,rfl,hlt,p'⟩,λx H' y=> ?_⟩
  obtain⟨e,y⟩:=y
  subst e y
  exact hs i σ _ hlt p
 ·have e:i=n:=by omega
  subst e
  exact .inl ⟨Nat.le_refl _,hd σ H p⟩
theorem lR{c:TT}{tb:TS}{D:Ends}{σ:St}{H:Hp}(Pv:St->Hp->Prop)(μ:St->Hp->Nat)(h0:Pv σ H)
  (hs:∀σ H,Pv σ H->c σ H λb H1=>if b=true then tb {D with nx:=λσ' H'=>Pv σ' H'/\μ σ' H'<μ σ H,ct:=λσ' H'=>Pv σ' H'/\μ σ' H'<μ σ H,bk:=D.nx} σ H1 else D.nx σ H1)
  (mono:∀σ H Q Q',(∀b H1,Q b H1->Q' b H1) ->c σ H Q->c σ H Q'):Ew c tb D σ H:=by
 refine⟨λm σ H=>m=μ σ H/\Pv σ H,⟨_,rfl,h0⟩,?_⟩
 rintro m σ H ⟨rfl,p⟩
 refine mono σ H _ _ (λb H1 q=> ?_) (hs σ H p)
 cases b with
 |true=>exact⟨_,λσ' H' ⟨p',l⟩=>⟨_,l,rfl,p'⟩,q⟩
 |false=>exact q
abbrev R2:=V->V->Hp->VK->Prop
def rB(X:Cx)(f:Value->Value->Sem Value)(r:R2):Prop:=
 ∀(pins:List (Addr×Obj)) (s:Shared) (σ:St) (H:Hp) (x y:V) (v u:Value) (Q:VK),Inv X pins σ H s->RelV x v->RelV y u->r x y H Q->
  wpAny (model X.prog X.w) X.A (f v u) (EP X pins σ Q) X.xe s
def OR(X:Cx)(f:Value->Sem Value)(r:V->Hp->VK->Prop):Prop:=
 ∀(pins:List (Addr×Obj)) (s:Shared) (σ:St) (H:Hp) (x:V) (v:Value) (Q:VK),Inv X pins σ H s->RelV x v->r x H Q->
  wpAny (model X.prog X.w) X.A (f v) (EP X pins σ Q) X.xe s
def oR(X:Cx)(f:Value)(r:List V->Hp->VK->Prop):Prop:=
 ∀(pins:List (Addr×Obj)) (s:Shared) (σ:St) (H:Hp) (xs:List V) (us:List Value) (Q:VK),Inv X pins σ H s->Vals xs us->r xs H Q->
  wpAny (model X.prog X.w) X.A (call f us) (EP X pins σ Q) X.xe s
def gQ(r:R2)(ta tb:TE):TE:=λσ H Q=>ta σ H λx H1=>tb σ H1 λy H2=>r x y H2 Q
def Sm(r:V->Hp->VK->Prop)(ta:TE):TE:=λσ H Q=>ta σ H λx H1=>r x H1 Q
inductive ZI (C:Int->Int->Prop) (g:Int->Int->V) (x y:V) (H:Hp) (Q:VK):Prop
 |mk (i j:Int) (ex:x= .int i) (ey:y= .int j) (c:C i j) (q:Q (g i j) H)
def rI(C:Int->Int->Prop)(g:Int->Int->V):R2:=ZI C g
inductive Sn (g:Int->Int->V) (x y:V) (H:Hp) (Q:VK):Prop
 |mk (i j:Int) (ex:x= .int i) (ey:y= .int j) (q:Q (g i j) H)
def CG(g:Int->Int->V):R2:=Sn g
inductive ZU (g:Int->V) (x:V) (H:Hp) (Q:VK):Prop
 |mk (i:Int) (ex:x= .int i) (q:Q (g i) H)
def rU(g:Int->V):V->Hp->VK->Prop:=ZU g
section
variable{X:Cx}{a b c:Expr}{ta tb tc:TE}{pos:Pos}
theorem Ke(ha:PE X a ta)(hb:PE X b tb){pins:List (Addr×Obj)}{s:Shared}{σ:St}{H:Hp}{R:V->V->Hp->Prop}(I:Inv X pins σ H s)
  (h:ta σ H λx H1=>tb σ H1 λy H2=>R x y H2){Q:Value->Shared->Prop}{f:Value->Value->Sem Value}
  (hf:∀v u s2 x y H2,Inv X pins σ H2 s2->RelV x v->RelV y u->R x y H2->wpAny (model X.prog X.w) X.A (f v u) Q X.xe s2):
  wpAny (model X.prog X.w) X.A (eval a X.env) (λv s₁=>wpAny (model X.prog X.w) X.A (eval b X.env) (λu s₂=>wpAny (model X.prog X.w) X.A (f v u) Q X.xe s₂) X.xe s₁) X.xe s:=by
 refine fS (ha pins s σ H _ I h) λv s1 ⟨x,H1,I1,r1,q1⟩=> ?_
 refine fS (hb pins s1 σ H1 _ I1 q1) λu s2 ⟨y,H2,I2,r2,q2⟩=> ?_
 exact hf v u s2 x y H2 I2 r1 r2 q2
theorem ai{op:Operator}{r:R2}(ho:rB X (binaryOp op) r)(ha:PE X a ta)(hb:PE X b tb):PE X (.BinOp a op b pos) (gQ r ta tb):=by
 intro pins s σ H Q I h
 exact wpAny_BinOp (Ke ha hb I h λv u s2 x y H2 I2 rx ry q=>ho pins s2 σ H2 x y v u Q I2 rx ry q)
theorem Bx{op:UnaryOp}{r:V->Hp->VK->Prop}(ho:OR X (unaryOp op) r)(ha:PE X a ta):PE X (.UnaryOp op a pos) (Sm r ta):=by
 intro pins s σ H Q I h
 exact UnaryOp_ (fS (ha pins s σ H _ I h) λv s1 ⟨x,H1,I1,r1,q1⟩=>ho pins s1 σ H1 x v Q I1 r1 q1)
theorem Kf{f:Value->Value->Sem Value}{C:Int->Int->Prop}{g:Int->Int->Int}
  (rule:∀(i j:Int) (t u:Tok) (s:Shared) (Q:Value->Shared->Prop) (E:Value->Shared->Prop),C i j->Q (.int (g i j) s.toks) {s with toks:=s.toks+1} ->wpAny (model X.prog X.w) X.A (f (.int i t) (.int j u)) Q E s):
  rB X f (rI C λi j=> .int (g i j)):=by
 intro pins s σ H x y v u Q I rx ry h
 obtain⟨i,j,rfl,rfl,hc,q⟩:=h
 obtain⟨t,rfl⟩:=rx
 obtain⟨t',rfl⟩:=ry
 exact rule i j t t' s _ _ hc ⟨.int (g i j),H,I.tok _,⟨_,rfl⟩,q⟩
theorem MK{f:Value->Value->Sem Value}{g:Int->Int->Int}
  (rule:∀(i j:Int) (t u:Tok) (s:Shared) (Q:Value->Shared->Prop) (E:Value->Shared->Prop),Q (.int (g i j) s.toks) {s with toks:=s.toks+1} ->wpAny (model X.prog X.w) X.A (f (.int i t) (.int j u)) Q E s):
  rB X f (CG λi j=> .int (g i j)):=by
 intro pins s σ H x y v u Q I rx ry h
 obtain⟨i,j,rfl,rfl,q⟩:=h
 obtain⟨t,rfl⟩:=rx
 obtain⟨t',rfl⟩:=ry
 exact rule i j t t' s _ _ ⟨.int (g i j),H,I.tok _,⟨_,rfl⟩,q⟩
theorem Hw{f:Value->Value->Sem Value}{g:Int->Int->Bool}
  (rule:∀(i j:Int) (t u:Tok) (s:Shared) (Q:Value->Shared->Prop) (E:Value->Shared->Prop),Q (.bool (g i j)) s->wpAny (model X.prog X.w) X.A (f (.int i t) (.int j u)) Q E s):
  rB X f (CG λi j=> .bl (g i j)):=by
 intro pins s σ H x y v u Q I rx ry h
 obtain⟨i,j,rfl,rfl,q⟩:=h
 obtain⟨t,rfl⟩:=rx
 obtain⟨t',rfl⟩:=ry
 exact rule i j t t' s _ _ ⟨.bl (g i j),H,I,rfl,q⟩
def ML(i j:Int):Prop:=0<j/\j<1073741824
def MM(i j:Int):Prop:=0<=j/\j<=1000000/\i.natAbs<2^64
def Hx(i j:Int):Prop:=(-(2^64)<i/\i<2^64)∨(-(2^64)<j/\j<2^64)
theorem Hx.ok{i j:Int}(h:Hx i j):IntMulOk i j:=by
 rcases h with⟨h1,h2⟩|⟨h1,h2⟩
 ·exact .of_left (intBits_le_64 h1 h2)
 ·exact .of_right (intBits_le_64 h1 h2)
theorem aO:rB X (binaryOp .Add) (CG λi j=> .int (i+j)):=MK λ_ _ _ _ _ _ _ q=>add_int q
theorem bQ:rB X (binaryOp .Sub) (CG λi j=> .int (i-j)):=MK λ_ _ _ _ _ _ _ q=>sub_int q
theorem bu:rB X (binaryOp .Mult) (rI Hx λi j=> .int (i*j)):=Kf λ_ _ _ _ _ _ _ hc q=>mul_int q hc.ok
theorem bI:rB X (binaryOp .FloorDiv) (rI ML λi j=> .int (i/j)):=Kf λi j _ _ _ _ _ hc q=>by
 have h1:(0:Int)<j:=hc.1
 have h2:j<1073741824:=hc.2
 exact floordiv_int (by omega) (by rw[Int.fdiv_eq_ediv_of_nonneg i (by omega)];exact q) (.inl (PyProof.noPylong_small (by omega)))
theorem cu:rB X (binaryOp .Mod) (rI (λ_ j=>0<j) λi j=> .int (i%j)):=Kf λi j _ _ _ _ _ hc q=>by
 have h1:(0:Int)<j:=hc
 exact mod_int' (by omega) (by rw[Int.fmod_eq_emod_of_nonneg i (by omega)];exact q)
theorem Kg:rB X (binaryOp .Pow) (rI MM λi j=> .int (i^j.toNat)):=Kf λ_ _ _ _ _ _ _ hc q=>pow_int_small hc.1 hc.2.1 hc.2.2 q
theorem Kh:rB X (binaryOp .LShift) (rI MM λi j=> .int (i*2^j.toNat)):=Kf λ_ _ _ _ _ _ _ hc q=>lshift_int_small hc.1 hc.2.1 hc.2.2 q
theorem Sq{f:Value->Sem Value}{g:Int->Int}
  (rule:∀(i:Int) (t:Tok) (s:Shared) (Q:Value->Shared->Prop) (E:Value->Shared->Prop),Q (.int (g i) s.toks) {s with toks:=s.toks+1} ->wpAny (model X.prog X.w) X.A (f (.int i t)) Q E s):
  OR X f (rU λi=> .int (g i)):=by
 intro pins s σ H x v Q I rx h
 obtain⟨i,rfl,q⟩:=h
 obtain⟨t,rfl⟩:=rx
 exact rule i t s _ _ ⟨.int (g i),H,I.tok _,⟨_,rfl⟩,q⟩
theorem we:OR X (unaryOp .USub) (rU λi=> .int (-i)):=Sq λ_ _ _ _ _ q=>neg_int q
end
def MN:V->V->Bool
 | .iR,.iR=>true| .iR,.int _=>true| .int _,.iR=>true| .iR,.bl _=>true| .bl _,.iR=>true| .iR,.str _=>true| .str _,.iR=>true
 | .int _,.int _=>true| .bl _,.bl _=>true| .str _,.str _=>true| .El _,.El _=>true
 | .int _,.str _=>true| .str _,.int _=>true| .bl _,.str _=>true| .str _,.bl _=>true
 |_,_=>false
def QJ:R2:=λx y H Q=>MN x y=true/\Q (.bl (decide (x=y))) H
def Su:R2:=λx y H Q=>MN x y=true/\Q (.bl (!decide (x=y))) H
theorem By{i j:Int}:decide (V.int i=V.int j)=(i==j):=by
 rw[Bool.eq_iff_iff]
 simp
theorem Ey{i j:Bool}:decide (V.bl i=V.bl j)=(i==j):=by
 rw[Bool.eq_iff_iff]
 simp
theorem BA{i j:Str}:decide (V.str i=V.str j)=(i==j):=by
 rw[Bool.eq_iff_iff]
 simp
theorem BB{i j:Array UInt8}:decide (V.El i=V.El j)=(i.toList==j.toList):=by
 rw[Bool.eq_iff_iff]
 cases i
 cases j
 simp
section
variable{X:Cx}{a b c:Expr}{ta tb tc:TE}{pos:Pos}
theorem cy{pins:List (Addr×Obj)}{σ:St}{H:Hp}{s:Shared}{Q:VK}{k k':Bool}(I:Inv X pins σ H s)(q:Q (.bl k) H)(e:k=k'):EP X pins σ Q (.bool k') s:=by
 subst e
 exact⟨.bl k,H,I,rfl,q⟩
theorem oS:rB X (compareOp .Eq) QJ:=by
 intro pins s σ H x y v u Q I rx ry h
 obtain⟨hs,q⟩:=h
 cases x with
 |iR=>
  cases rx
  cases y with
  |iR=>cases ry;exact PySem.EqNone.eq_none_none (cy I q (by simp))
  |bl j=>cases ry;exact PySem.EqNone.eq_none_bool (cy I q (by simp))
  |int j=>obtain⟨t',rfl⟩:=ry;exact PySem.EqNone.eq_none_int (cy I q (by simp))
  |str j=>obtain⟨t',rfl⟩:=ry;exact PySem.EqNone.eq_none_str (cy I q (by simp))
  |_=>exact absurd (show false=true from hs) Bool.false_ne_true
 |bl i=>
  cases rx
  cases y with
  |iR=>cases ry;exact PySem.EqNone.eq_bool_none (cy I q (by simp))
  |bl j=>cases ry;exact eq_bool (cy I q Ey)
  |str j=>obtain⟨t',rfl⟩:=ry;exact PySem.EqMixed.eq_bool_str (cy I q (by simp))
  |_=>exact absurd (show false=true from hs) Bool.false_ne_true
 |int i=>
  obtain⟨t,rfl⟩:=rx
  cases y with
  |iR=>cases ry;exact PySem.EqNone.eq_int_none (cy I q (by simp))
  |int j=>obtain⟨t',rfl⟩:=ry;exact eq_int (cy I q By)
  |str j=>obtain⟨t',rfl⟩:=ry;exact PySem.EqMixed.eq_int_str (cy I q (by simp))
  |_=>exact absurd (show false=true from hs) Bool.false_ne_true
 |str i=>
  obtain⟨t,rfl⟩:=rx
  cases y with
  |iR=>cases ry;exact PySem.EqNone.eq_str_none (cy I q (by simp))
  |bl j=>cases ry;exact PySem.EqMixed.eq_str_bool (cy I q (by simp))
  |int j=>obtain⟨t',rfl⟩:=ry;exact PySem.EqMixed.eq_str_int (cy I q (by simp))
  |str j=>obtain⟨t',rfl⟩:=ry;exact eq_str (cy I q BA)
  |_=>exact absurd (show false=true from hs) Bool.false_ne_true
 |El i=>
  obtain⟨t,rfl⟩:=rx
  cases y with
  |El j=>obtain⟨t',rfl⟩:=ry;exact PySem.W.eq_bytes (cy I q BB)
  |_=>exact absurd (show false=true from hs) Bool.false_ne_true
 |_=>cases y<;>exact absurd (show false=true from hs) Bool.false_ne_true
theorem yc:rB X (compareOp .NotEq) Su:=by
 intro pins s σ H x y v u Q I rx ry h
 obtain⟨hs,q⟩:=h
 cases x with
 |iR=>
  cases rx
  cases y with
  |iR=>cases ry;exact PySem.EqNone.ne_none_none (cy I q (by simp))
  |bl j=>cases ry;exact PySem.EqNone.ne_none_bool (cy I q (by simp))
  |int j=>obtain⟨t',rfl⟩:=ry;exact PySem.EqNone.ne_none_int (cy I q (by simp))
  |str j=>obtain⟨t',rfl⟩:=ry;exact PySem.EqNone.ne_none_str (cy I q (by simp))
  |_=>exact absurd (show false=true from hs) Bool.false_ne_true
 |bl i=>
  cases rx
  cases y with
  |iR=>cases ry;exact PySem.EqNone.ne_bool_none (cy I q (by simp))
  |bl j=>cases ry;exact ne_bool (cy I q (congrArg not Ey))
  |str j=>obtain⟨t',rfl⟩:=ry;exact PySem.EqMixed.ne_bool_str (cy I q (by simp))
  |_=>exact absurd (show false=true from hs) Bool.false_ne_true
 |int i=>
  obtain⟨t,rfl⟩:=rx
  cases y with
  |iR=>cases ry;exact PySem.EqNone.ne_int_none (cy I q (by simp))
  |int j=>obtain⟨t',rfl⟩:=ry;exact ne_int (cy I q (congrArg not By))
  |str j=>obtain⟨t',rfl⟩:=ry;exact PySem.EqMixed.ne_int_str (cy I q (by simp))
  |_=>exact absurd (show false=true from hs) Bool.false_ne_true
 |str i=>
  obtain⟨t,rfl⟩:=rx
  cases y with
  |iR=>cases ry;exact PySem.EqNone.ne_str_none (cy I q (by simp))
  |bl j=>cases ry;exact PySem.EqMixed.ne_str_bool (cy I q (by simp))
  |int j=>obtain⟨t',rfl⟩:=ry;exact PySem.EqMixed.ne_str_int (cy I q (by simp))
  |str j=>obtain⟨t',rfl⟩:=ry;exact ne_str (cy I q (congrArg not BA))
  |_=>exact absurd (show false=true from hs) Bool.false_ne_true
 |El i=>
  obtain⟨t,rfl⟩:=rx
  cases y with
  |El j=>obtain⟨t',rfl⟩:=ry;exact PySem.W.ne_bytes (cy I q (congrArg not BB))
  |_=>exact absurd (show false=true from hs) Bool.false_ne_true
 |_=>cases y<;>exact absurd (show false=true from hs) Bool.false_ne_true
theorem Jg:rB X (compareOp .Lt) (CG λi j=> .bl (decide (i<j))):=Hw λ_ _ _ _ _ _ _ q=>lt_int q
theorem uY:rB X (compareOp .LtE) (CG λi j=> .bl (decide (i<=j))):=Hw λ_ _ _ _ _ _ _ q=>le_int q
theorem nC:rB X (compareOp .Gt) (CG λi j=> .bl (decide (j<i))):=Hw λ_ _ _ _ _ _ _ q=>gt_int q
theorem BC:rB X (compareOp .GtE) (CG λi j=> .bl (decide (j<=i))):=Hw λ_ _ _ _ _ _ _ q=>ge_int q
theorem Kl:rB X (compareOp .Is) (λx y H Q=>y= .iR/\Q (.bl (decide (x= .iR))) H):=by
 intro pins s σ H x y v u Q I rx ry h
 obtain⟨rfl,q⟩:=h
 cases ry
 refine is_none_gen (cy I q ?_)
 cases x<;>first
  |(cases rx;rfl)
  |(obtain⟨t,rfl⟩:=rx;rfl)
theorem bL(b:Expr){op:CmpOp}(h:op≠ .In:=by decide)(h2:op≠ .NotIn:=by decide):behindInMarks op b=false:=by
 have e1:(op==CmpOp.In)=false:=by cases op<;>first|rfl|exact absurd rfl h
 have e2:(op==CmpOp.NotIn)=false:=by cases op<;>first|rfl|exact absurd rfl h2
 cases b<;>simp[behindInMarks,e1,e2]
theorem kE{op:CmpOp}{r:R2}(ho:rB X (compareOp op) r)(ha:PE X a ta)(hb:PE X b tb)(hm:behindInMarks op b=false):PE X (.Compare a [op] [b] pos) (gQ r ta tb):=by
 intro pins s σ H Q I h
 exact wpAny_Compare1 (Ke ha hb I h λv u s2 x y H2 I2 rx ry q=>ho pins s2 σ H2 x y v u Q I2 rx ry q) hm
def MO(t:TE):TT:=λσ H Q=>t σ H λx H1=>QH x λc=>Q c H1
theorem bJ{op:CmpOp}{r:R2}(ho:rB X (compareOp op) r)(ha:PE X a ta)(hb:PE X b tb)(hm:behindInMarks op b=false):PT X (.Compare a [op] [b] pos) (MO (gQ r ta tb)):=by
 intro pins s σ H Q I h
 refine wpAny_isTrue_Compare1 (fS (ha pins s σ H _ I h) λv s1 ⟨x,H1,I1,r1,q1⟩=>fS (hb pins s1 σ H1 _ I1 q1) λu s2 ⟨y,H2,I2,r2,q2⟩=>
  fS (ho pins s2 σ H2 x y v u _ I2 r1 r2 q2) λc s3 ⟨z,H3,I3,r3,k,e,q3⟩=> ?_) hm
 subst e
 cases r3
 exact wpAny_truthy_bool ⟨H3,I3,q3⟩
theorem wg:(sizeLine:Nat)<2^63:=by rw[sizeLine_eq];decide
theorem vals1{x:V}{us:List Value}(r:Vals [x] us):∃u,us=[u]/\RelV x u:=by
 cases r with
 |cons r1 r2=>cases r2;exact⟨_,rfl,r1⟩
theorem vals2{x y:V}{us:List Value}(r:Vals [x,y] us):∃u w',us=[u,w']/\RelV x u/\RelV y w':=by
 cases r with
 |cons r1 r2=>
  cases r2 with
  |cons r3 r4=>cases r4;exact⟨_,_,rfl,r1,r3⟩
theorem Ez:oR X (.builtin "abs") (λxs H Q=> ∃i,xs=[.int i]/\Q (.int (if i<0 then-i else i)) H):=by
 intro pins s σ H xs us Q I r h
 obtain⟨i,rfl,q⟩:=h
 obtain⟨u,rfl,t,rfl⟩:=vals1 r
 exact call_abs_int λu tk=>⟨.int (if i<0 then-i else i),H,I.tok _,⟨_,rfl⟩,q⟩
theorem CH(hc:X.calm=true):oR X (.builtin "min") (λxs H Q=> ∃i j,xs=[.int i,.int j]/\Q (.int (if j<i then j else i)) H):=by
 intro pins s σ H xs us Q I r h
 obtain⟨i,j,rfl,q⟩:=h
 obtain⟨u,w',rfl,⟨t,rfl⟩,⟨t',rfl⟩⟩:=vals2 r
 refine min_two_ints (I.ok.hd hc) λh' tk k=>⟨_,H,I.kept k,?_,q⟩
 by_cases hj:j<i
 ·rw[if_pos hj,if_pos hj];exact⟨_,rfl⟩
 ·rw[if_neg hj,if_neg hj];exact⟨_,rfl⟩
theorem uZ:oR X (.type "int") (λxs H Q=>(∃i,xs=[.int i]/\Q (.int i) H)∨ ∃k,xs=[.bl k]/\Q (.int (if k then 1 else 0)) H):=by
 intro pins s σ H xs us Q I r h
 rcases h with⟨i,rfl,q⟩|⟨k,rfl,q⟩
 ·obtain⟨u,rfl,t,rfl⟩:=vals1 r
  exact call_int_int ⟨.int i,H,I,⟨_,rfl⟩,q⟩
 ·obtain⟨u,rfl,r1⟩:=vals1 r
  cases r1
  exact call_int_bool ⟨.int (if k then 1 else 0),H,I.tok _,⟨_,rfl⟩,q⟩
end
structure Km(h:Heap)(x dx C:Addr)(mA:Str->Option Value):Prop where
 obj:h.get? x=some (PySem.W.instObj C dx)
 ns:h.Ns1 dx mA
 ne:dx≠x
theorem CI{h:Heap}{dx:Addr}{mA:Str->Option Value}(n:h.Ns1 dx mA):∃od,h.get? dx=some od/\ ∀name,PySem.W.lookIn name od=some (mA name):=by
 obtain⟨o,es,ep,ho,hd,hk,_,hm⟩:=n
 refine⟨o,ho,λname=> ?_⟩
 have e:=hm name
 unfold nsFind findBy at e
 rw[<-Array.find?_toList]at e
 unfold PySem.W.lookIn
 rw[hd]
 dsimp only
 split
 ·rename_i y q
  rw[q]at e
  exact congrArg some e
 ·rename_i q
  rw[q]at e
  have a:es.toList.any (·.refKey)=false:=by
   rw[List.any_eq_false]
   intro y hy
   obtain⟨z,t,hkey⟩:=hk y (Array.mem_toList_iff.mp hy)
   simp[DictEntry.refKey,hkey]
  have a':¬es.toList.any (·.refKey)=true:=by rw[a];exact Bool.false_ne_true
  rw[if_neg a']
  exact congrArg some e
theorem Km.look{h:Heap}{x dx C:Addr}{mA:Str->Option Value}(I:Km h x dx C mA):∃od,PySem.W.InstAt h x (PySem.W.instObj C dx) C (some od)/\ ∀name,PySem.W.lookIn name od=some (mA name):=
 let⟨od,ho,hl⟩:=CI I.ns
 ⟨od,⟨I.obj,rfl,rfl,ho⟩,hl⟩
section
variable{prog:Program}{w:World}{A:Around}{E:Value->Shared->Prop}{s:Shared}{K:PySem.W.Frag}{x dx C f:Addr}{mA:Str->Option Value}{name:Str}{v:Value}
end
section
variable{P:Program}{w:World}{H H':Hp}{h h':Heap}{a C dx:Addr}{fs fs':List (Str×V)}
theorem Hy(hok:rO P w H h)(e:H a=some (.ins C dx fs)):∃mA,Km h a dx C mA/\(∀f,JN (fs.lookup f) (mA f))/\PySem.Within mA (fs.map (·.1))/\fs.length<=1000/\H dx=some (.own a):=by
 obtain⟨d,z,ne,ob,mA,n,r,q⟩:=(show eU P w H h a (.ins C dx fs)from hok a _ e)
 exact⟨mA,⟨ob,n,ne⟩,r,q,z,d⟩
end
structure OS(K:PySem.W.Frag)(C:Addr):Prop where
 pg:PySem.W.plainGet K C Str.empty=true
 hd:PySem.W.hasDictIn K C=true
 po:PySem.W.plainOver K C=true
 sa:PySem.W.findIn K (.ref C) "__setattr__"=some (some (.builtin "object.__setattr__"))
theorem OS.get{K:PySem.W.Frag}{C:Addr}(c:OS K C)(f:Str):PySem.W.plainGet K C f=true:=c.pg
section
variable{X:Cx}{pins:List (Addr×Obj)}{σ:St}{H:Hp}{s:Shared}{a C dx:Addr}{fs:List (Str×V)}{f:Str}{v:V}{A:Around}{E:Value->Shared->Prop}
end
section
variable{X:Cx}{o e value:Expr}{f:Str}{pos pos' tpos:Pos}{ta tv:TE}
end
section
variable{X:Cx}{pins:List (Addr×Obj)}{σ:St}{H:Hp}{s:Shared}{A:Around}{E:Value->Shared->Prop}{Q:Value->Shared->Prop}{c:Value}{b:Bool}
inductive oU (K:PySem.W.Frag) (H:Hp):V->Value->Prop where
 |iR:oU K H .iR (.type "NoneType")
 |bl (x:Bool):oU K H (.bl x) (.type "bool")
 |int (i:Int):oU K H (.int i) (.type "int")
 |str (x:Str):oU K H (.str x) (.type "str")
 |LN (x:UInt64):oU K H (.LN x) (.type "float")
 |lst {a:Addr} {xs:List V} (e:H a=some (.lst xs)):oU K H (.ref a) (.type "list")
 |vZ {a:Addr} {o:Obj} {xs:List V} (e:H a=some (.vZ o (.lst xs))):oU K H (.ref a) (.type "list")
 |tup {a:Addr} {xs:List V} (e:H a=some (.tup xs)):oU K H (.ref a) (.type "tuple")
 |dK {a:Addr} {kvs:List (Key×V)} (e:H a=some (.dK kvs)):oU K H (.ref a) (.type "dict")
 |dT {a:Addr} {kvs:List (List Key×V)} (e:H a=some (.dT kvs)):oU K H (.ref a) (.type "dict")
 |ins {a C dx:Addr} {fs:List (Str×V)} (e:H a=some (.ins C dx fs)) (cl:OS K C) (ha:PySem.W.findIn K (.ref C) "__class__"=some (some (.builtin "object.__class__")))
   (hn:PySem.W.specialIn K (.builtin "object.__class__") "__get__"=some (some (.builtin "getset_descriptor.__get__"))) (htk:PySem.W.takesIn K (.builtin "object.__class__")=some true)
   (hm:PySem.W.mroIn K C (.type "object")=some true):oU K H (.ref a) (.ref C)
theorem CK{x:V}{u t:Value}(I:Inv X pins σ H s)(rx:RelV x u)(ty:oU X.K H x t)(e:PySem.W.kitOne X.K t c=some b)(h:∀tk,Q (.bool b) {s with toks:=tk}):
  wpAny (model X.prog X.w) A (call (.builtin "isinstance") [u,c]) Q E s:=by
 cases ty with
 |iR=>cases(show u=Value.none from rx);exact PySem.W.kia_one PySem.W.kitx_none I.v5 True.intro e (λz=>nomatch z) h
 |bl y=>cases(show u=Value.bool y from rx);exact PySem.W.kia_one PySem.W.kitx_bool I.v5 True.intro e (λz=>nomatch z) h
 |int i=>obtain⟨t,q⟩:=(show ∃t,u=Value.int i t from rx);cases q;exact PySem.W.kia_one PySem.W.kitx_int I.v5 True.intro e (λz=>nomatch z) h
 |str y=>obtain⟨t,q⟩:=(show ∃t,u=Value.str y t from rx);cases q;exact PySem.W.kia_one PySem.W.kitx_str I.v5 True.intro e (λz=>nomatch z) h
 |LN y=>obtain⟨t,q⟩:=(show ∃t,u=Value.float y t from rx);cases q;exact PySem.W.kia_one PySem.W.kitx_float I.v5 True.intro e (λz=>nomatch z) h
 | @lst a xs ea=>
  cases(show u=Value.ref a from rx)
  obtain⟨_,_,n,_,h1⟩:=(show eU X.prog X.w H s.heap a (.lst xs)from I.hok a _ ea)
  exact PySem.W.kia_one PySem.W.kitx_list I.v5 ⟨_,h1,rfl⟩ e (λz=>nomatch z) h
 | @vZ a ob xs ea=>
  cases(show u=Value.ref a from rx)
  obtain⟨_,_,_,n,_,h1⟩:=(show eU X.prog X.w H s.heap a (.vZ ob (.lst xs))from I.hok a _ ea)
  exact PySem.W.kia_one PySem.W.kitx_list I.v5 ⟨_,h1,rfl⟩ e (λz=>nomatch z) h
 | @tup a xs ea=>
  cases(show u=Value.ref a from rx)
  obtain⟨_,_,_,p⟩:=(show eU X.prog X.w H s.heap a (.tup xs)from I.hok a _ ea)
  obtain⟨o,h1,h2,_⟩:=p
  exact PySem.W.kia_one PySem.W.kitx_tuple I.v5 ⟨o,h1,h2⟩ e (λz=>nomatch z) h
 | @dK a kvs ea=>
  cases(show u=Value.ref a from rx)
  obtain⟨_,_,vs,_,p⟩:=(show eU X.prog X.w H s.heap a (.dK kvs)from I.hok a _ ea)
  obtain⟨o,es,ep,h1,h2,_⟩:=p
  exact PySem.W.kia_one PySem.W.kitx_dict I.v5 ⟨o,h1,h2.1⟩ e (λz=>nomatch z) h
 | @dT a kvs ea=>
  cases(show u=Value.ref a from rx)
  obtain⟨_,_,xs,_,o,es,ep,h1,h2,_⟩:=(show eU X.prog X.w H s.heap a (.dT kvs)from I.hok a _ ea)
  exact PySem.W.kia_one PySem.W.kitx_dict I.v5 ⟨o,h1,h2.1⟩ e (λz=>nomatch z) h
 | @ins a C dx fs ea cl ha hn htk hm=>
  cases(show u=Value.ref a from rx)
  obtain⟨mA,O,_⟩:=Hy I.hok ea
  obtain⟨od,J,_⟩:=O.look
  exact PySem.W.kia_one (PySem.W.kitx_own (cl.get _) cl.hd ha hn htk hm) I.v5 J e (λz=>nomatch z) h
end
structure eT(k:Nat)(A:Around):Prop where
 hd:A.handled=none
 dp:A.depth+3*k+5<recursionLimit
 un:A.units+16*k+200<cLine
theorem eT.mono{j k:Nat}{A:Around}(r:eT k A)(h:j<=k):eT j A:=⟨r.hd,by have:=r.dp;omega,by have:=r.un;omega⟩
theorem eT.deeper{k:Nat}{A:Around}(r:eT (k+1) A)(env:Env):eT k (A.deeper env):=
 ⟨r.hd,by have:=r.dp;show A.depth+1+3*k+5<_;omega,by have:=r.un;show A.units+3+16*k+200<_;omega⟩
theorem eT.in1{k:Nat}{A:Around}(r:eT (k+1) A):eT k A.in1:=
 ⟨r.hd,by have:=r.dp;show A.depth+3*k+5<_;omega,by have:=r.un;show A.units+1+16*k+200<_;omega⟩
theorem eT.depth{k:Nat}{A:Around}(r:eT k A):A.depth<recursionLimit:=by have:=r.dp;omega
theorem eT.units{k:Nat}{A:Around}(r:eT k A):A.units+64<cLine:=by have:=r.un;omega
def jI:TA:=λ_ H Q=>Q [] H
def dI(ta:TE)(tr:TA):TA:=λσ H Q=>ta σ H λx H1=>tr σ H1 λxs H2=>Q (x::xs) H2
section
variable{X:Cx}{e:Expr}{es:List Expr}{te:TE}{t:TA}{pos:Pos}
theorem aj:PA X [] jI:=λ_ _ _ _ H Q I h=>Calls.spliced_nil ⟨[],H,I,.nil,h⟩
theorem af(ha:PE X e te)(hr:PA X es t)(hs:starEach (e::es) X.env=(false,eval e X.env)::starEach es X.env:=by rfl):PA X (e::es) (dI te t):=by
 intro pos pins s σ H Q I h
 rw[hs]
 show wpAny _ _ (spliced ((false,eval e X.env)::backTo pos (starEach es X.env))) _ _ s
 refine Calls.spliced_cons (fS (ha pins s σ H _ I h) λu s1 ⟨x,H1,I1,r1,q1⟩=> ?_)
 exact fS (hr pos pins s1 σ H1 _ I1 q1) λus s2 ⟨xs,H2,I2,r2,q2⟩=>⟨x::xs,H2,I2,.cons r1 r2,q2⟩
def OT(t:TA):TE:=λσ H Q=>t σ H λxs H1=>xs.length<=sizeLine/\ ∀p,H1 p=none->Q (.ref p) (upd H1 p (.tup xs))
def MP(t:TA):TE:=λσ H Q=>t σ H λxs H1=>xs.length<=sizeLine/\ ∀p,H1 p=none->Q (.ref p) (upd H1 p (.lst xs))
theorem nJ{x1}(h:PA X es t):PE X (.Tuple es x1 pos) (OT t):=by
 intro pins s σ H Q I hq
 refine wpAny_Tuple_spliced (fS (h pos pins s σ H _ I hq) λus s1 ⟨xs,H1,I1,r,z,q⟩=>⟨by rw[<-r.length];exact z,?_⟩)
 have hf:H1 s1.heap.objs.size=none:=I1.hok.fresh (Nat.le_refl _)
 refine⟨.ref s1.heap.objs.size,upd H1 s1.heap.objs.size (.tup xs),I1.laid (t':=s1.toks) (λb u e=>Heap.get?_push_of_some _ e) (Nat.le_refl _) ?_,rfl,q _ hf⟩
 exact⟨z,us,r,⟨_,Heap.get?_push_size _ rfl,rfl,_,rfl⟩⟩
theorem cZ(h:PA X es t):PE X (.List es pos) (MP t):=by
 intro pins s σ H Q I hq
 refine wpAny_List_spliced (fS (h pos pins s σ H _ I hq) λus s1 ⟨xs,H1,I1,r,z,q⟩=>⟨by rw[<-r.length];exact z,?_⟩)
 have hf:H1 s1.heap.objs.size=none:=I1.hok.fresh (Nat.le_refl _)
 refine⟨.ref s1.heap.objs.size,upd H1 s1.heap.objs.size (.lst xs),I1.laid (t':=s1.toks) (λb u e=>Heap.get?_push_of_some _ e) (Nat.le_refl _) ?_,rfl,q _ hf⟩
 exact⟨z,us,0,r,Heap.get?_push_size _ rfl⟩
end
abbrev Sp:=List V->Hp->VK->XK->Prop
abbrev CL:=List Env->Hp->Shared->XK->Value->Shared->Prop
structure Hz(P:Program)(w:World)(K:PySem.W.Frag)(mg:Str->Option Value)(base:Heap)(A:Around)(outer:List Env)(s:Shared)(H:Hp):Prop where
 frames:A.frames=some outer
 mod:Mod K mg base
 bs:∀b o,base.get? b=some o->s.heap.get? b=some o/\H b=none
 Hr:base.objs.size<=s.heap.objs.size
 rA:s.heap.FunFrames base outer
 LR:∀b∈frs outer,H b=none
 hok:rO P w H s.heap
 bare:AllBare s.gens
def CE(outer:List Env)(P:Program)(w:World)(H:Hp)(s:Shared)(Q:VK)(u:Value)(s':Shared):Prop:=
 ∃v H',s'.os=s.os/\En s.gens s'.gens/\Un (frs outer) [] H H' s.heap s'.heap/\rO P w H' s'.heap/\RelV v u/\Q v H'
def CR(CX:CL)(outer:List Env)(P:Program)(w:World)(H:Hp)(s:Shared)(Q:VK)(E:XK)(r:Result)(s':Shared):Prop:=
 match r with
 | .ok (.ret u)=>CE outer P w H s Q u s'
 | .ok _=>False
 | .error e=>CX outer H s E e s'
structure oV(P:Program)(w:World)(K:PySem.W.Frag)(mg:Str->Option Value)(base:Heap)(CX:CL)(k:Nat)(f:Addr)(fd:FuncData)(ps:List Str)(sp:Sp):Prop where
 len:∀vs H Q E,sp vs H Q E->vs.length=ps.length
 run:∀(A:Around) (outer:List Env) (s:Shared) (H:Hp) (args:Args) (us:List Value) (vs:List V) (Q:VK) (E:XK),eT k A->Hz P w K mg base A outer s H->BindsTo s fd args (ps.zip us) ->Vals vs us->sp vs H Q E->
  codeAny (model P w) A (.call (.ref f) args) (CR CX outer P w H s Q E) s
theorem oV.mono{P:Program}{w:World}{K:PySem.W.Frag}{mg:Str->Option Value}{base:Heap}{CX:CL}{j k:Nat}{f:Addr}{fd:FuncData}{ps:List Str}{sp:Sp}(F:oV P w K mg base CX j f fd ps sp)(h:j<=k):
  oV P w K mg base CX k f fd ps sp:=⟨F.len,λA outer s H args us vs Q E hr=>F.run A outer s H args us vs Q E (hr.mono h)⟩
section
variable{X:Cx}{pins:List (Addr×Obj)}{σ:St}{H:Hp}{s s':Shared}
theorem Inv.OU(I:Inv X pins σ H s):Hz X.prog X.w X.K X.mg X.base X.A X.stack s H:=
 ⟨I.ok.frames,I.ok.mod,I.bs,Nat.le_trans I.ok.Hr I.sz,I.stack,I.rP,I.hok,I.bare.bare⟩
theorem Inv.after{Q:VK}{u:Value}(I:Inv X pins σ H s)(h:CE X.stack X.prog X.w H s Q u s'):EP X pins σ Q u s':=by
 obtain⟨v,H',os,bare,un,hok,r,q⟩:=h
 obtain⟨hh,g,d,t,os'⟩:=s'
 obtain rfl:os'=s.os:=os
 exact⟨v,H',I.call (h':=hh) (g':=g) (d':=d) (t':=t) (ch:=[]) un hok bare (λb z=>absurd z (by simp)),r,q⟩
end
def lJ(sp:Sp)(Jh:List V)(E:XK)(t:TA):TE:=λσ H Q=>t σ H λvs H1=>sp (vs++Jh) H1 Q E
def Binds(K:PySem.W.Frag)(fd:FuncData)(ps:List Str)(ds:List Value):Prop:=
 ∀(s:Shared) (us:List Value),K.In s.heap->(us++ds).length=ps.length->BindsTo s fd ⟨us,[]⟩ (ps.zip (us++ds))
theorem Binds.all{K:PySem.W.Frag}{fd:FuncData}{ps:List Str}(h:∀us:List Value,us.length=ps.length->bindArgs fd ⟨us,[]⟩=pure (ps.zip us)):Binds K fd ps []:=λs us _ hl=>by
 rw[List.append_nil]at hl ⊢
 exact .of_eq (h us hl)
def Passes(CX:CL)(X:Cx)(E:XK):Prop:=∀(pins:List (Addr×Obj)) (σ:St) (H:Hp) (s:Shared) (e:Value) (s':Shared),Inv X pins σ H s->CX X.stack H s E e s'->X.xe e s'
section
variable{X:Cx}{CX:CL}{k:Nat}{f C:Addr}{fd:FuncData}{ps:List Str}{sp:Sp}{Jh:List V}{ds:List Value}{E:XK}{x m:Str}{p pos apos:Pos}{e o:Expr}{es:List Expr}{ta:TE}{t:TA}
theorem Kn{pins:List (Addr×Obj)}{σ:St}{H:Hp}{s:Shared}{Q:VK}{us:List Value}{vs:List V}(F:oV X.prog X.w X.K X.mg X.base CX k f fd ps sp)(hr:eT k X.A)(hb:Binds X.K fd ps ds)(hd:Vals Jh ds)(hx:Passes CX X E)
  (I:Inv X pins σ H s)(r:Vals vs us)(h:sp (vs++Jh) H Q E):wpAny (model X.prog X.w) X.A (call (.ref f) us) (EP X pins σ Q) X.xe s:=by
 have r2:Vals (vs++Jh) (us++ds):=r.append hd
 have hl:(us++ds).length=ps.length:=by rw[<-r2.length];exact F.len _ _ _ _ h
 refine wpAny_call (codeAny_mono (F.run X.A X.stack s H ⟨us,[]⟩ (us++ds) (vs++Jh) Q E hr I.OU (hb s us I.v5 hl) r2 h) λr s' hq=> ?_)
 cases r with
 |error e=>exact hx pins σ H s e s' I hq
 |ok fl=>
  cases fl with
  |ret u=>exact I.after hq
  |next=>exact False.elim hq
  |brk=>exact False.elim hq
  |cont=>exact False.elim hq
theorem HA(F:oV X.prog X.w X.K X.mg X.base CX k f fd ps sp)(hr:eT k X.A)(hg:Gl X x)(hm:X.mg x=some (.ref f))(hk:PySem.W.keepIn X.K (.ref f)=true)(hb:Binds X.K fd ps ds)(hd:Vals Jh ds)(hx:Passes CX X E)
  (ha:PA X (e::es) t)(hdb:(x==("__debug__":Str))=false:=by decide)(he:starEach (e::es) X.env=(false,eval e X.env)::starEach es X.env:=by rfl)(hpl:(backTo pos (starEach es X.env)).any (·.1)=false:=by rfl):
  PE X (.Call (.Name x p) (e::es) [] pos) (lJ sp Jh E t):=by
 intro pins s σ H Q I h
 refine wpAny_Call_Name_kw (Bw I hg hm ?_ hdb)
 refine PySem.W.callWith_K (h₀:=X.base) I.ok.mod.LP hk (fS (ha pos pins s σ H _ I h) λus s1 ⟨vs,H1,I1,r,q⟩=>⟨I1.v5,?_⟩) he hpl
 exact Kn F hr hb hd hx I1 r q
end
section
variable{X:Cx}{CX:CL}{k:Nat}{f C:Addr}{fd:FuncData}{ps ks:List Str}{sp:Sp}{E:XK}{x m:Str}{p pos apos kpos:Pos}{e o:Expr}{es:List Expr}{kws:List Keyword}{te ta:TE}{t tk:TA}{nm:Option Str}
variable{g:List Value->List Value->List Value}{gV:List V->List V->List V}
end
structure aM(N P:List Str)(sc:Scope):Prop where
 kind:sc.kind= .function
 co:sc.isCoroutine=false
 gen:sc.isGenerator=false
 nd:N.Nodup
 pre:N.take P.length=P
 par:∀x∈P,sc.names.lookup x=some .local∨sc.names.lookup x=some .cell
 Ko:∀y∈sc.names,y.2≠ .free
theorem vc{kindOf:Str->Option NameKind}{x:Str}:∀{binds:List (Str×Value)} {m:Str->Option Value},(∀v,(x,v)∉binds) ->bindL kindOf binds m x=m x
 | [],_,_=>rfl
 |(n,v)::r,m,h=>by
  unfold bindL
  rw[vc λw hw=>h w (List.mem_cons_of_mem _ hw)]
  split
  ·have:x≠n:=by rintro rfl;exact h v List.mem_cons_self
   simp[this]
  ·rfl
theorem vd{kindOf:Str->Option NameKind}{x:Str}:∀{binds:List (Str×Value)} {m:Str->Option Value},(∀v,(x,v)∉binds) ->bindC kindOf binds m x=m x
 | [],_,_=>rfl
 |(n,v)::r,m,h=>by
  unfold bindC
  rw[vd λw hw=>h w (List.mem_cons_of_mem _ hw)]
  split
  ·rfl
  ·have:x≠n:=by rintro rfl;exact h v List.mem_cons_self
   simp[this]
theorem ve{kindOf:Str->Option NameKind}{x:Str}{v:Value}:∀{P:List Str} {vs:List Value} {i:Nat} {m:Str->Option Value},P.Nodup->P[i]?=some x->vs[i]?=some v->kindOf x=some .local->
  bindL kindOf (P.zip vs) m x=some v
 | [],_,_,_,_,h,_,_=>by simp at h
 |_::_,[],_,_,_,_,h,_=>by simp at h
 |p::P,w::vs,0,m,nd,h1,h2,hk=>by
  simp at h1 h2;subst h1;subst h2
  show bindL kindOf ((p,w)::P.zip vs) m p=_
  unfold bindL
  rw[vc λv hv=>(List.nodup_cons.mp nd).1 (List.of_mem_zip hv).1,if_pos hk]
  simp
 |p::P,w::vs,i+1,m,nd,h1,h2,hk=>by
  show bindL kindOf ((p,w)::P.zip vs) m x=_
  unfold bindL
  exact ve (i:=i) (List.nodup_cons.mp nd).2 (by simpa using h1) (by simpa using h2) hk
theorem vf{kindOf:Str->Option NameKind}{x:Str}{v:Value}:∀{P:List Str} {vs:List Value} {i:Nat} {m:Str->Option Value},P.Nodup->P[i]?=some x->vs[i]?=some v->kindOf x≠some .local->
  bindC kindOf (P.zip vs) m x=some v
 | [],_,_,_,_,h,_,_=>by simp at h
 |_::_,[],_,_,_,_,h,_=>by simp at h
 |p::P,w::vs,0,m,nd,h1,h2,hk=>by
  simp at h1 h2;subst h1;subst h2
  show bindC kindOf ((p,w)::P.zip vs) m p=_
  unfold bindC
  rw[vd λv hv=>(List.nodup_cons.mp nd).1 (List.of_mem_zip hv).1,if_neg hk]
  simp
 |p::P,w::vs,i+1,m,nd,h1,h2,hk=>by
  show bindC kindOf ((p,w)::P.zip vs) m x=_
  unfold bindC
  exact vf (i:=i) (List.nodup_cons.mp nd).2 (by simpa using h1) (by simpa using h2) hk
def start(N:List Str)(vs:List V):St:=vs.map some++List.replicate (N.length-vs.length) none
def wj(CX:CL)(P:Program)(w:World)(K:PySem.W.Frag)(mg:Str->Option Value)(base:Heap)(N:List Str)(qual:Str)(scope:Scope)(f:Addr)(cd:Value)(A:Around)(outer:List Env)(s:Shared)(H:Hp)(E:XK):Cx where
 prog:=P
 w:=w
 K:=K
 mg:=mg
 base:=base
 A:=A.deeper (envOfC qual scope s.heap.objs.size f cd)
 N:=N
 s₀:=s
 H₀:=H
 env:=envOfC qual scope s.heap.objs.size f cd
 outer:=outer
 stack:=envOfC qual scope s.heap.objs.size f cd::outer
 ex:=[]
 calm:=true
 fn:=λ_=>true
 pn:=[]
 xe:=λe s'=>wpAny (model P w) (A.deeper (envOfC qual scope s.heap.objs.size f cd)) (leaving (envOfC qual scope s.heap.objs.size f cd) e) (λ_ s''=>CX outer H s E e s'') (λe' s''=>CX outer H s E e' s'') s'
theorem yd{sc:Scope}{n:Nat}{x:Str}(h:sc.names.lookup x=some .cell):∃c,(cellsFrom n sc.names []).lookup x=some c:=by
 have q:=PySem.W.cellsFrom_some sc.names n [] (.inl h)
 exact Option.isSome_iff_exists.mp q
theorem CM{CX:CL}{P:Program}{w:World}{K:PySem.W.Frag}{mg:Str->Option Value}{base:Heap}{N ps:List Str}{qual:Str}{scope:Scope}{f:Addr}{cd:Value}{A:Around}{outer:List Env}{s s1:Shared}{H:Hp}{E:XK}{us:List Value}{vs:List V}
  (S:aM N ps scope)(hd:A.handled=none)(e0:Hz P w K mg base A outer s H)(hl:vs.length=ps.length)(r:Vals vs us)
  (x:InCallC s s.heap.objs.size (bindL (envOfC qual scope s.heap.objs.size f cd).kindOf (ps.zip us) λ_=>none) (cellsFrom (s.heap.objs.size+1) scope.names []) (bindC (envOfC qual scope s.heap.objs.size f cd).kindOf (ps.zip us) λ_=>none) s1):
  Inv (wj CX P w K mg base N qual scope f cd A outer s H E) [] (start N vs) H s1:=by
 have hpl:ps.length<=N.length:=by have:=congrArg List.length S.pre;rw[List.length_take]at this;omega
 obtain⟨h1,tk,rfl,hk⟩:=x.done
 have OV:∀b:Addr,b∉(wj CX P w K mg base N qual scope f cd A outer s H E).ex:=λb z=>absurd (show b∈([]:List Addr)from z) (by simp)
 refine⟨⟨e0.mod,S.kind,rfl,rfl,Nat.le_refl _,λy z c h1 h2=> ?_,λy hy=> ?_,λy c _ h=> ?_,λ_=>hd,Around.frames_deeper e0.frames,.inr ⟨rfl,rfl⟩,λb z=>absurd z (OV b),e0.bs,e0.Hr,λb _ _=>OV b,λb z=>absurd z (OV b),e0.rA,e0.LR⟩,
  rfl,.refl e0.bare,Un.kept hk,⟨_,x.toInCall.ns,λi y v h1 h2 h3=> ?_⟩,λy c h=>⟨_,x.cell y c h⟩,e0.hok.fresh (Nat.le_refl _),λy c h=> ?_,λp hp=>absurd (show p∈([]:List (Addr×Obj))from hp) (by simp),e0.hok.kept hk,?_⟩
 ·exact name_of_addr x.apart (PySem.mem_of_lookup h1) (PySem.mem_of_lookup h2)
 ·have hy:scope.names.lookup y=some .cell∨scope.names.lookup y=some .free:=hy
  rcases hy with hy|hy
  ·exact yd hy
  ·exact absurd rfl (S.Ko _ (PySem.mem_of_lookup hy))
 ·exact Nat.le_of_lt (x.above y c (PySem.mem_of_lookup h))
 ·have hi:i<vs.length:=by
   unfold start at h2
   by_cases hi:i<vs.length
   ·exact hi
   ·rw[List.getElem?_append_right (by simpa using hi)]at h2
    rw[List.getElem?_replicate]at h2
    split at h2<;>cases h2
  have ha:vs[i]?=some v:=by
   unfold start at h2
   rw[List.getElem?_append_left (by simpa using hi),List.getElem?_map]at h2
   cases e:vs[i]? with
   |none=>rw[e]at h2;cases h2
   |some a=>rw[e]at h2;cases h2;rfl
  obtain⟨u,hu,rv⟩:=r.get ha
  have hp:ps[i]?=some y:=by
   rw[<-S.pre,List.getElem?_take_of_lt (by omega)];exact h1
  have QK:ps.Nodup:=by rw[<-S.pre];exact S.nd.sublist (List.take_sublist _ _)
  refine⟨u,rv,?_⟩
  rcases S.par y (List.mem_of_getElem? hp)with k|k
  ·exact .inl ⟨k,ve QK hp hu k⟩
  ·obtain⟨c,e⟩:=yd (n:=s.heap.objs.size+1) k
   refine .inr ⟨.inl k,c,e,?_⟩
   have q:=x.cell y c e
   rw[vf QK hp hu (by show scope.names.lookup y≠_;rw[k];decide)]at q
   exact q
 ·exact e0.hok.fresh (Nat.le_of_lt (x.above y c (PySem.mem_of_lookup h)))
 ·unfold start
  show _=N.length
  rw[List.length_append,List.length_map,List.length_replicate]
  omega
theorem Ji{CX:CL}{P:Program}{w:World}{K:PySem.W.Frag}{mg:Str->Option Value}{base:Heap}{k:Nat}{f:Addr}{name qual:Str}{params:Arguments}{body:List Stmt}{scope:Scope}{dV kV doc pm cdv ct oc:Value}{an od:Option Addr}
  {osl:Array (Option Value)}{N ps:List Str}{sp:Sp}(lk:K.lookup f=some ⟨oc,od,.func (PySem.W.fnOf name qual params body scope dV kV doc pm an cdv ct),osl⟩)(hcd:PySem.W.codeIn K cdv qual=true)(S:aM N ps scope)
  (len:∀vs H Q E,sp vs H Q E->vs.length=ps.length)
  (hbody:∀(A:Around) (outer:List Env) (s:Shared) (H:Hp) (vs:List V) (Q:VK) (E:XK),eT k (A.deeper (envOfC qual scope s.heap.objs.size f cdv)) ->sp vs H Q E->
   ∃t,v7 (wj CX P w K mg base N qual scope f cdv A outer s H E) body t/\t {nx:=λ_ H'=>Q .iR H',rt:=Q} (start N vs) H):
  oV P w K mg base CX (k+1) f (PySem.W.fnOf name qual params body scope dV kV doc pm an cdv ct) ps sp:=by
 refine⟨len,λA outer s H args us vs Q E hr e0 hb r Hf=> ?_⟩
 have hl:=len _ _ _ _ Hf
 have KX:K.In s.heap:=e0.mod.LP.keeps λb o e=>(e0.bs b o e).1
 have lim:s.heap.NoLimit:=e0.mod.nolimit.keeps λb o e=>(e0.bs b o e).1
 have hkind:∀y∈ps.zip us,scope.names.lookup y.1=some .local∨(scope.names.lookup y.1=some .cell/\((cellsFrom (s.heap.objs.size+1) scope.names []).lookup y.1).isSome=true):=λ ⟨n,v⟩ hy=>by
  rcases S.par n (List.of_mem_zip hy).1 with q|q
  ·exact .inl q
  ·exact .inr ⟨q,PySem.W.cellsFrom_some _ _ _ (.inl q)⟩
 refine codeAny_call_function hr.depth (KX _ _ lk) rfl S.co S.gen rfl (PySem.W.codeRec_of KX hcd) (hb _ _ _ _ ?_)
 refine wpAny_newFunctionEnv_cells S.kind hkind λenv he s1 x=> ?_
 subst he
 refine⟨lim.keeps x.toInCall.keep,codeAny_func ?_⟩
 obtain⟨t,ht,hq⟩:=hbody A outer s H vs Q E (hr.deeper _) Hf
 have I:Inv (wj CX P w K mg base N qual scope f cdv A outer s H E) [] (start N vs) H s1:=CM S hr.hd e0 hl r x
 refine wpAny_mono (ht [] s1 (start N vs) H _ I hq) (λfl s' hs=> ?_) λe s' hs=>hs
 have fin:∀{σ':St} {H':Hp} {v:V} {u:Value},Inv (wj CX P w K mg base N qual scope f cdv A outer s H E) [] σ' H' s'->RelV v u->Q v H'->CE outer P w H s Q u s':=
  λ {σ' H' v u} J rv q=>⟨v,H',J.os,J.bare,J.base,J.hok,rv,q⟩
 cases fl with
 |ret u=>
  obtain⟨v,σ',H',J,rv,q⟩:=hs
  exact fin J rv q
 |next=>
  obtain⟨σ',H',J,q⟩:=hs
  exact fin (v:=V.iR) (u:=Value.none) J rfl q
 |brk=>
  obtain⟨_,_,_,q⟩:=hs
  exact False.elim q
 |cont=>
  obtain⟨_,_,_,q⟩:=hs
  exact False.elim q
section
variable{X:Cx}{x:Str}{p pos:Pos}{e:Expr}{es:List Expr}{t:TA}{id T:String}{r:List V->Hp->VK->Prop}
def NY(r:List V->Hp->VK->Prop)(t:TA):TE:=λσ H Q=>t σ H λvs H1=>r vs H1 Q
theorem cR(hc:oR X (.builtin id) r)(hg:Gl X x)(hm:X.mg x=none)(hv:bootBuiltins x=some (.builtin id))(ha:PA X (e::es) t)(hn:x≠ "__name__":=by decide)(hdb:(x==("__debug__":Str))=false:=by decide)
  (he:starEach (e::es) X.env=(false,eval e X.env)::starEach es X.env:=by rfl)(hpl:(backTo pos (starEach es X.env)).any (·.1)=false:=by rfl):PE X (.Call (.Name x p) (e::es) [] pos) (NY r t):=by
 intro pins s σ H Q I h
 refine wpAny_Call_Name_kw (ku I hg hm hv ?_ hn hdb)
 exact PyProof.Rows.callWith_builtin1 (fS (ha pos pins s σ H _ I h) λus s1 ⟨vs,H1,I1,r1,q1⟩=>hc pins s1 σ H1 vs us Q I1 r1 q1) he hpl
theorem pX(hc:oR X (.type T) r)(hg:Gl X x)(hm:X.mg x=none)(hv:bootBuiltins x=some (.type T))(ha:PA X (e::es) t)(hn:x≠ "__name__":=by decide)(hdb:(x==("__debug__":Str))=false:=by decide)
  (he:starEach (e::es) X.env=(false,eval e X.env)::starEach es X.env:=by rfl)(hpl:(backTo pos (starEach es X.env)).any (·.1)=false:=by rfl):PE X (.Call (.Name x p) (e::es) [] pos) (NY r t):=by
 intro pins s σ H Q I h
 refine wpAny_Call_Name_kw (ku I hg hm hv ?_ hn hdb)
 exact PyProof.Rows.callWith_type1 (fS (ha pos pins s σ H _ I h) λus s1 ⟨vs,H1,I1,r1,q1⟩=>hc pins s1 σ H1 vs us Q I1 r1 q1) he hpl
end
end L2
namespace HT
open PySem PyProof.Rows
section
open PySem.SeqAt
open PySem.AutoSeq1 (wpAny_loadPart')
open PySem.MeetsSeq PySem.MeetsSeq2 PySem.MeetsSeq3
end
section
variable{prog:Program}{w:World}{A:Around}{E:Value->Shared->Prop}{s:Shared}
def zQ(n d:Nat):Option Int->Nat
 |none=>d
 |some v=>if v<0 then(v+(n:Int)).toNat else min v.toNat n
end
end HT
namespace L2
open PySem PySem.Spec PyProof.Rows
abbrev TO:=St->Hp->(Option Int->Hp->Prop) ->Prop
def PO(X:Cx)(e:Option Expr)(t:TO):Prop:=
 ∀(pins:List (Addr×Obj)) (s:Shared) (σ:St) (H:Hp) (Q:Option Int->Hp->Prop),Inv X pins σ H s->t σ H Q->
  wpAny (model X.prog X.w) X.A (evalPart e X.env) (λu s'=> ∃o H',Inv X pins σ H' s'/\IsPart u o/\Q o H') X.xe s
def HB:TO:=λ_ H Q=>Q none H
def MQ(t:TE):TO:=λσ H Q=>t σ H λx H1=> ∃i,x= .int i/\Q (some i) H1
section
variable{X:Cx}{e:Expr}{te:TE}{lo hi:Option Expr}{tl th:TO}{pos p2:Pos}
theorem wk:PO X none HB:=by
 intro pins s σ H Q I h
 rw[evalPart_none]
 exact wpAny_pure ⟨none,H,I,.none,h⟩
theorem wm(h:PE X e te):PO X (some e) (MQ te):=by
 intro pins s σ H Q I hw
 rw[evalPart_some]
 refine fS (h pins s σ H _ I hw) λu s1 ⟨x,H1,I1,r1,q1⟩=> ?_
 obtain⟨i,rfl,q⟩:=q1
 obtain⟨t,rfl⟩:=r1
 exact⟨some i,H1,I1,.int i t,q⟩
def QL(X:Cx)(r:V->Option Int->Option Int->Hp->VK->Prop):Prop:=
 ∀(pins:List (Addr×Obj)) (s:Shared) (σ:St) (H:Hp) (x:V) (v vl vu:Value) (lo hi:Option Int) (sl:Addr) (Q:VK),Inv X pins σ H s->RelV x v->s.heap.IsSliceOf sl vl vu .none->IsPart vl lo->IsPart vu hi->r x lo hi H Q->
  ∃T id,typeLookup (.type T) "__getitem__"=pure (some (.builtin id))/\s.TypeIs v T/\wpAny (model X.prog X.w) X.A (getItem v (.ref sl)) (EP X pins σ Q) X.xe s
def Sv(r:V->Option Int->Option Int->Hp->VK->Prop)(te:TE)(tl th:TO):TE:=λσ H Q=>te σ H λx H1=>tl σ H1 λl H2=>th σ H2 λu H3=>r x l u H3 Q
theorem su{r:V->Option Int->Option Int->Hp->VK->Prop}(hr:QL X r)(he:PE X e te)(hl:PO X lo tl)(hu:PO X hi th):PE X (.Subscript e (.Slice lo hi none p2) pos) (Sv r te tl th):=by
 intro pins s σ H Q I h
 refine Subscript_ (fS (he pins s σ H _ I h) λv s1 ⟨x,H1,I1,r1,q1⟩=> ?_)
 refine wpAny_Slice (fS (hl pins s1 σ H1 _ I1 q1) λvl s2 ⟨l,H2,I2,pl,q2⟩=>fS (hu pins s2 σ H2 _ I2 q2) λvu s3 ⟨u,H3,I3,pu,q3⟩=> ?_)
 rw[evalPart_none]
 refine wpAny_pure ?_
 have I4:Inv X pins σ H3 {s3 with heap:=s3.heap.push {cls:= .type "slice",data:= .fields #[vl,vu,.none]}}:=I3.kept (t':=s3.toks) λb ob q=>Heap.get?_push_of_some _ q
 obtain⟨T,id,hT,ht,hg⟩:=hr pins {s3 with heap:=s3.heap.push {cls:= .type "slice",data:= .fields #[vl,vu,.none]}} σ H3 x v vl vu l u s3.heap.objs.size Q I4 r1 (Heap.IsSliceOf.new ..) pl pu q3
 show wpAny (model X.prog X.w) X.A (subscriptTail e (.Slice lo hi none p2) v (.ref s3.heap.objs.size)) (EP X pins σ Q) X.xe {s3 with heap:=s3.heap.push {cls:= .type "slice",data:= .fields #[vl,vu,.none]}}
 exact tail_any (ops:=[.ref s3.heap.objs.size,v]) ht hT hg (by with_unfolding_all rfl)
def pY(xs:List V)(lo hi:Option Int):List V:=(xs.drop (HT.zQ xs.length 0 lo)).take (HT.zQ xs.length xs.length hi-HT.zQ xs.length 0 lo)
theorem lS(xs:List V)(lo hi:Option Int):(pY xs lo hi).length<=xs.length:=by
 unfold pY
 rw[List.length_take,List.length_drop]
 omega
end
def Kp(n:Nat)(i:Int):Option Nat:=if 0<=i then(if i<n then some i.toNat else none)else if-(n:Int)<=i then some (i+n).toNat else none
def xZ{α:Type}(xs:List α)(i:Int):Option α:=(Kp xs.length i).bind λj=>xs[j]?
theorem BD{n:Nat}{i:Int}{j:Nat}(h:Kp n i=some j):seqIndex? i n=some j/\j<n/\ -(n:Int)<=i/\i<n:=by
 unfold Kp at h
 by_cases h0:0<=i
 ·rw[if_pos h0]at h
  by_cases h1:i<n
  ·rw[if_pos h1]at h
   have e:i.toNat=j:=Option.some.inj h
   exact⟨by rw[seqIndex_of h0 h1,e],by omega,by omega,h1⟩
  ·rw[if_neg h1]at h;cases h
 ·rw[if_neg h0]at h
  by_cases h1: -(n:Int)<=i
  ·rw[if_pos h1]at h
   have e:(i+n).toNat=j:=Option.some.inj h
   exact⟨by rw[seqIndex_neg (by omega) h1,e],by omega,h1,by omega⟩
  ·rw[if_neg h1]at h;cases h
theorem BE{α:Type}{xs:List α}{i:Int}{v:α}(h:xZ xs i=some v):∃j,seqIndex? i xs.length=some j/\xs[j]?=some v/\j<xs.length/\ -(xs.length:Int)<=i/\i<xs.length:=by
 unfold xZ at h
 cases e:Kp xs.length i with
 |none=>rw[e]at h;cases h
 |some j=>
  rw[e]at h
  obtain⟨h1,h2,h3,h4⟩:=BD e
  exact⟨j,h1,h,h2,h3,h4⟩
theorem BF{α:Type}{xs:List α}{j:Nat}{v:α}(h:xs[j]?=some v):xZ xs (j:Int)=some v:=by
 have hj:j<xs.length:=(List.getElem?_eq_some_iff.mp h).1
 have e:Kp xs.length (j:Int)=some j:=by
  unfold Kp
  rw[if_pos (by omega),if_pos (by omega)];simp
 unfold xZ;rw[e];exact h
def HD(b:Expr):Prop:=∀o i,subscripted b false o i=operate [o,i] (getItem o i)
def OW(X:Cx)(r:R2):Prop:=
 ∀(value slice:Expr) (pins:List (Addr×Obj)) (s:Shared) (σ:St) (H:Hp) (x y:V) (v u:Value) (Q:VK),Inv X pins σ H s->RelV x v->RelV y u->r x y H Q->
  subscripted slice false v u=operate [v,u] (getItem v u) ->wpAny (model X.prog X.w) X.A (subscriptTail value slice v u) (EP X pins σ Q) X.xe s
def OX(X:Cx)(id:String)(r:V->List V->Hp->VK->Prop):Prop:=
 ∀(pins:List (Addr×Obj)) (s:Shared) (σ:St) (H:Hp) (x:V) (xs:List V) (v:Value) (us:List Value) (Q:VK),Inv X pins σ H s->RelV x v->Vals xs us->r x xs H Q->
  wpAny (model X.prog X.w) X.A (call (.builtin id) (v::us)) (EP X pins σ Q) X.xe s
section
variable{X:Cx}{a b:Expr}{ta tb:TE}{pos:Pos}
theorem aE{r:R2}(hr:OW X r)(ha:PE X a ta)(hb:PE X b tb)(hs:HD b):PE X (.Subscript a b pos) (gQ r ta tb):=by
 intro pins s σ H Q I h
 exact Subscript_ (Ke ha hb I h λv u s2 x y H2 I2 rx ry q=>hr a b pins s2 σ H2 x y v u Q I2 rx ry q (hs _ _))
inductive OY (K:PySem.W.Frag) (x y:V) (H:Hp) (Q:VK):Prop
 |mk (p:Addr) (xs:List V) (i:Int) (v:V) (ex:x= .ref p) (ey:y= .int i) (s:aT K H p xs) (a:xZ xs i=some v) (q:Q v H)
def fU(K:PySem.W.Frag):R2:=OY K
inductive OZ (K:PySem.W.Frag) (x y:V) (H:Hp) (Q:VK):Prop
 |mk (p:Addr) (xs:List V) (i:Int) (v:V) (ex:x= .ref p) (ey:y= .int i) (s:uq K H p xs) (a:xZ xs i=some v) (q:Q v H)
def Pa(K:PySem.W.Frag):R2:=OZ K
theorem aq:OW X (fU X.K):=by
 intro value slice pins s σ H x y v u Q I rx ry h hs
 obtain⟨p,xs,i,z,rfl,rfl,hq,he,q⟩:=h
 cases rx
 obtain⟨t,rfl⟩:=ry
 obtain⟨its,r,pl,hz⟩:=I.list hq
 obtain⟨j,h1,h2,h3,h4,h5⟩:=BE he
 obtain⟨w,ew,rw'⟩:=r.get h2
 have hl:=r.length
 have hn:=wg
 have fin:EP X pins σ Q w s:=⟨z,H,I,rw',q⟩
 by_cases h0:0<=i
 ·have hj:i.toNat=j:=by
   rw[seqIndex_of h0 h5]at h1
   exact Option.some.inj h1
  exact item_listR pl.isList h0 (by omega) (by rw[hj];simpa using ew) fin hs
 ·have hj:(i+(its.toArray.size:Int)).toNat=j:=by
   rw[seqIndex_neg (by omega) h4]at h1
   rw[List.size_toArray,<-hl]
   exact Option.some.inj h1
  exact subscriptTail_builtinR (x:=w) pl.isList.typeIs slot_list_getitem.lookup
   (wpAny_getItem_list_neg (Q:=λr s'=>r=w/\EP X pins σ Q r s') pl.isList (by omega) (by rw[List.size_toArray]<;>omega) (by omega) (by rw[hj];simpa using ew) ⟨rfl,fin⟩) hs
theorem Kq:OW X (Pa X.K):=by
 intro value slice pins s σ H x y v u Q I rx ry h hs
 obtain⟨p,xs,i,z,rfl,rfl,hq,he,q⟩:=h
 cases rx
 obtain⟨t,rfl⟩:=ry
 obtain⟨its,r,pl,hz⟩:=I.tuple hq
 obtain⟨j,h1,h2,h3,h4,h5⟩:=BE he
 obtain⟨w,ew,rw'⟩:=r.get h2
 have hl:=r.length
 have hn:=wg
 have fin:EP X pins σ Q w s:=⟨z,H,I,rw',q⟩
 exact subscriptTail_builtinR (x:=w) pl.typeIs slot_tuple_getitem.lookup
  (getItem_tuple (j:=j) (Q:=λr s'=>r=w/\EP X pins σ Q r s') pl (by omega) (by omega) (by rw[List.size_toArray,<-hl];exact h1) (by simpa using ew) ⟨rfl,fin⟩) hs
theorem zR(its:List Value)(n j:Nat)(u:Value):Obj.mapSeq (·.setIfInBounds j u) {cls:= .type "list",data:= .seq its.toArray n}={cls:= .type "list",data:= .seq (its.set j u).toArray n}:=by
 simp[Obj.mapSeq]
theorem Inv.lst{pins:List (Addr×Obj)}{σ:St}{H:Hp}{s:Shared}{p:Addr}{xs:List V}(I:Inv X pins σ H s)(h:H p=some (.lst xs)):
  ∃(its:List Value) (n:Nat),Vals xs its/\s.heap.get? p=some {cls:= .type "list",data:= .seq its.toArray n}/\xs.length<=sizeLine:=by
 obtain⟨z,its,n,r,e⟩:=I.hok p _ h
 exact⟨its,n,r,e,z⟩
theorem Inv.Kr{pins:List (Addr×Obj)}{σ:St}{H:Hp}{s:Shared}{p:Addr}{xs ys:List V}{its its':List Value}{n n':Nat}{f:Obj->Obj}(I:Inv X pins σ H s)(h:H p=some (.lst xs))
  (ho:s.heap.get? p=some {cls:= .type "list",data:= .seq its.toArray n})(hf:f {cls:= .type "list",data:= .seq its.toArray n}={cls:= .type "list",data:= .seq its'.toArray n'})(r:Vals ys its')(hz:ys.length<=sizeLine)(t:Nat):
  Inv X pins σ (upd H p (.lst ys)) {s with heap:=s.heap.update p f,toks:=t}:=by
 have e:(s.heap.update p f).get? p=some {cls:= .type "list",data:= .seq its'.toArray n'}:=by
  rw[Heap.get?_update_self f ho (by rw[hf]<;>rfl),hf]
 refine I.write (x:=p) (e:=p) (by rw[h];trivial) (.inl rfl) (λb u hb q=>(Heap.get?_update_other _ _ (Ne.symm hb)).trans q) ⟨_,e⟩ ?_
 exact⟨hz,its',n',r,e⟩
def MR:V->V->V->Hp->(Hp->Prop) ->Prop:=λo i v H Q=> ∃p xs k j,o= .ref p/\i= .int k/\H p=some (.lst xs)/\Kp xs.length k=some j/\Q (upd H p (.lst (xs.set j v)))
theorem set_list:MC X MR:=by
 intro pins s σ H o i v ov iv u Q I ro ri rv h
 obtain⟨p,xs,k,j,rfl,rfl,hp,hj,q⟩:=h
 cases ro
 obtain⟨t,rfl⟩:=ri
 obtain⟨its,n,r,ho,hz⟩:=I.lst hp
 obtain⟨h1,h2,h3,h4⟩:=BD hj
 have hl:=r.length
 have hn:=wg
 have I':Inv X pins σ (upd H p (.lst (xs.set j v))) {s with heap:=s.heap.update p (Obj.mapSeq (·.setIfInBounds j u))}:=
  I.Kr hp ho (zR its n j u) (r.set rv j) (by rw[List.length_set];exact hz) s.toks
 by_cases h0:0<=k
 ·have hk:k.toNat=j:=by
   rw[seqIndex_of h0 h4]at h1
   exact Option.some.inj h1
  exact PySem.W.ki_setAt ho h0 (by omega) (by rw[List.size_toArray,<-hl];exact h4) (by rw[hk];exact⟨_,I',q⟩)
 ·have hk:(k+(its.toArray.size:Int)).toNat=j:=by
   rw[seqIndex_neg (by omega) h3]at h1
   rw[List.size_toArray,<-hl]
   exact Option.some.inj h1
  exact PySem.W.ki_setBack ho (by omega) (by rw[List.size_toArray,<-hl];exact h3) (by omega) (by rw[hk];exact⟨_,I',q⟩)
theorem wo(lo hi:Option Int)(n:Nat):(sliceBounds lo hi none n).1=((HT.zQ n 0 lo:Nat):Int)/\(sliceBounds lo hi none n).2.1=((HT.zQ n n hi:Nat):Int)/\(sliceBounds lo hi none n).2.2=1:=by
 refine⟨?_,?_,rfl⟩
 ·cases lo with
  |none=>simp[sliceBounds,HT.zQ]
  |some i=>
   simp only[sliceBounds,HT.zQ,Option.getD_none,show(1:Int)>0 by decide,if_true]
   by_cases h:i<0
   ·simp only[h,if_true]<;>omega
   ·simp only[h,if_false]<;>omega
 ·cases hi with
  |none=>simp[sliceBounds,HT.zQ]
  |some i=>
   simp only[sliceBounds,HT.zQ,Option.getD_none,show(1:Int)>0 by decide,if_true]
   by_cases h:i<0
   ·simp only[h,if_true]<;>omega
   ·simp only[h,if_false]<;>omega
theorem ux(its:List Value)(lo hi:Option Int):slicePick its.toArray lo hi none=((its.drop (HT.zQ its.length 0 lo)).take (HT.zQ its.length its.length hi-HT.zQ its.length 0 lo)).toArray:=by
 obtain⟨h1,h2,h3⟩:=wo lo hi its.toArray.size
 unfold slicePick
 rw[h1,h2,h3]
 simp only[sliceRange_one,pick_run,List.size_toArray]<;>rfl
def Pb(K:PySem.W.Frag):V->Option Int->Option Int->Hp->VK->Prop:=λx lo hi H Q=> ∃a xs,x= .ref a/\aT K H a xs/\ ∀p,H p=none->Q (.ref p) (upd H p (.lst (pY xs lo hi)))
theorem wu:QL X (Pb X.K):=by
 intro pins s σ H x v vl vu lo hi sl Q I rx hs pl pu h
 obtain⟨a,xs,rfl,hx,q⟩:=h
 cases rx
 obtain⟨its,r,ht,hz⟩:=I.list hx
 have hlen:=r.length
 refine⟨"list",_,slot_list_getitem.lookup,ht.isList.typeIs,?_⟩
 refine wpAny_getItem_list_slice ht.isList hs pl pu .none (by simp) ?_ (by rw[List.size_toArray]<;>omega)
 rw[ux,<-hlen]
 refine⟨.ref s.heap.objs.size,_,I.laid (t':=s.toks) (o:= .lst (pY xs lo hi)) (λb ob q=>Heap.get?_push_of_some _ q) (Nat.le_refl _) ?_,rfl,q _ (I.hok.fresh (Nat.le_refl _))⟩
 exact⟨Nat.le_trans (lS xs lo hi) hz,_,0,(r.drop (HT.zQ xs.length 0 lo)).take (HT.zQ xs.length xs.length hi-HT.zQ xs.length 0 lo),Heap.get?_push_size _ rfl⟩
theorem eV:oR X (.builtin "len") (λxs H Q=> ∃p ys,xs=[.ref p]/\(aT X.K H p ys∨uq X.K H p ys)/\Q (.int ys.length) H):=by
 intro pins s σ H xs us Q I r h
 obtain⟨p,ys,rfl,hq,q⟩:=h
 obtain⟨u,rfl,rx⟩:=vals1 r
 cases rx
 have hn:=wg
 rcases hq with hq|hq
 ·obtain⟨its,r',pl,hz⟩:=I.list hq
  have hlen:=r'.length
  exact Calls.call_len_list pl.isList (by simp only[List.size_toArray]<;>omega) ⟨.int ys.length,H,I.tok _,⟨s.toks+1,by rw[List.size_toArray,hlen]⟩,q⟩
 ·obtain⟨its,r',pl,hz⟩:=I.tuple hq
  have hlen:=r'.length
  exact len_tuple pl (by simp only[List.size_toArray]<;>omega) ⟨.int ys.length,H,I.tok _,⟨s.toks+1,by rw[List.size_toArray,hlen]⟩,q⟩
theorem wC:oR X (.type "list") (λxs H Q=> ∃p ys,xs=[.ref p]/\(aT X.K H p ys∨uq X.K H p ys)/\ ∀l,H l=none->Q (.ref l) (upd H l (.lst ys))):=by
 intro pins s σ H xs us Q I r h
 obtain⟨p,ys,rfl,hq,q⟩:=h
 obtain⟨u,rfl,rx⟩:=vals1 r
 cases rx
 have fin:∀(its:List Value),Vals ys its->ys.length<=sizeLine-> ∀(h':Heap) (c':Nat),(∀b o',s.heap.get? b=some o'->h'.get? b=some o') ->
   h'.get? s.heap.objs.size=some {cls:= .type "list",dict:=none,data:= .seq its.toArray c',slots:= #[]} ->EP X pins σ Q (.ref s.heap.objs.size) {s with heap:=h'}:=λits r' hz h' c' kp e=>
  ⟨.ref s.heap.objs.size,_,I.laid (t':=s.toks) kp (Nat.le_refl _) (show eU X.prog X.w _ h' _ (.lst ys)from⟨hz,its,c',r',e⟩),rfl,q _ (I.hok.fresh (Nat.le_refl _))⟩
 rcases hq with hq|hq
 ·obtain⟨its,r',pl,hz⟩:=I.list hq
  have hlen:=r'.length
  obtain⟨o,ho,hc,n,hd⟩:=pl.isList
  exact call_list_seq p (.inl rfl) ho hc hd (λh' c' kp e=>fin its r' hz h' c' kp e) (by simp only[List.size_toArray]<;>omega)
 ·obtain⟨its,r',pl,hz⟩:=I.tuple hq
  have hlen:=r'.length
  obtain⟨o,ho,hc,n,hd⟩:=pl
  exact call_list_seq p (.inr rfl) ho hc hd (λh' c' kp e=>fin its r' hz h' c' kp e) (by simp only[List.size_toArray]<;>omega)
def Pc(K:PySem.W.Frag)(T:String)(x:V)(H:Hp):Prop:=match x with
 | .str _=>T= "str"
 | .int _=>T= "int"
 | .ref p=>(T= "list"/\ ∃xs,aT K H p xs)∨(T= "tuple"/\ ∃o,K.lookup p=some o/\o.cls= .type "tuple"/\o.dict=none)∨
   (T= "dict"/\((∃kvs,H p=some (.dK kvs))∨ ∃kvs,H p=some (.dT kvs)))∨(T= "set"/\ ∃S n,H p=some (.set S n))
 |_=>False
theorem EA{pins:List (Addr×Obj)}{σ:St}{H:Hp}{s:Shared}{T:String}{x:V}{v:Value}(I:Inv X pins σ H s)(r:RelV x v)(ty:Pc X.K T x H):
  s.TypeIs v T/\ ∀a,v= .ref a-> ∃ob,s.heap.get? a=some ob/\ob.dict=none:=by
 cases x with
 |str z=>
  obtain⟨t,rfl⟩:=r
  cases(show T= "str" from ty)
  exact⟨typeIs_str s z t,λ_ e=>nomatch e⟩
 |int i=>
  obtain⟨t,rfl⟩:=r
  cases(show T= "int" from ty)
  exact⟨typeIs_int s i t,λ_ e=>nomatch e⟩
 |ref p=>
  cases r
  rcases ty with⟨rfl,xs,hq⟩|⟨rfl,o,hk,hc,hd⟩|⟨rfl,hk⟩|⟨rfl,S,n,hk⟩
  ·obtain⟨its,_,pl,_⟩:=I.list hq
   refine⟨pl.isList.typeIs,λa e=> ?_⟩
   cases e
   obtain⟨o,n,e,c,hd,_⟩:=pl
   exact⟨o,e,hd⟩
  ·refine⟨⟨o,I.v5 p o hk,hc⟩,λa e=> ?_⟩
   cases e
   exact⟨o,I.v5 _ o hk,hd⟩
  ·have z:∃o,s.heap.get? p=some o/\o.ExactDict:=by
    rcases hk with⟨kvs,hk⟩|⟨kvs,hk⟩
    ·obtain⟨_,_,_,_,o,_,_,e,ex,_⟩:=I.hok p _ hk
     exact⟨o,e,ex⟩
    ·obtain⟨_,_,_,_,o,_,_,e,ex,_⟩:=I.hok p _ hk
     exact⟨o,e,ex⟩
   obtain⟨o,e,ex⟩:=z
   refine⟨⟨o,e,ex.1⟩,λa e2=> ?_⟩
   cases e2
   exact⟨o,e,ex.2.1⟩
  ·obtain⟨o,_,_,_,e,ex,_⟩:=I.hok p _ hk
   refine⟨⟨o,e,ex.1⟩,λa e2=> ?_⟩
   cases e2
   exact⟨o,e,ex.2.1⟩
 |_=>exact False.elim ty
def Pd(K:PySem.W.Frag)(T:String)(r:V->List V->Hp->VK->Prop)(to:TE):TE:=λσ H Q=>to σ H λx H1=>Pc K T x H1/\r x [] H1 Q
def Sw(K:PySem.W.Frag)(T:String)(r:V->List V->Hp->VK->Prop)(to:TE)(t:TA):TE:=λσ H Q=>to σ H λx H1=>Pc K T x H1/\t σ H1 λxs H2=>r x xs H2 Q
variable{o e:Expr}{es:List Expr}{to:TE}{t:TA}{name:Str}{apos cpos:Pos}{T id:String}{r:V->List V->Hp->VK->Prop}
theorem Ks(pa:PlainAttrs T)(slot:Slot T name id)(hty:typeOf (.builtin id)=pure (.type "method_descriptor"))(hm:OX X id r)(ho:PE X o to)
  (hbase:attributeBase o name X.env (eval o X.env)=eval o X.env:=by rfl)(hline:(apos.endLine==cpos.line)=true:=by rfl):PE X (.Call (.Attribute o name apos) [] [] cpos) (Pd X.K T r to):=by
 intro pins s σ H Q I h
 refine wpAny_Call_method0_late hbase hline (fS (ho pins s σ H _ I h) λv s1 ⟨x,H1,I1,r1,ty,q1⟩=> ?_)
 obtain⟨h1,h2⟩:=EA I1 r1 ty
 exact⟨T,id,pa,slot,hty,h1,h2,Calls.callWith_builtin rfl (PySem.evalArgs_none (hm pins s1 σ H1 x [] v [] Q I1 r1 .nil q1))⟩
theorem EB(pa:PlainAttrs T)(slot:Slot T name id)(hty:typeOf (.builtin id)=pure (.type "method_descriptor"))(hm:OX X id r)(ho:PE X o to)(ha:PA X (e::es) t)
  (hbase:attributeBase o name X.env (eval o X.env)=eval o X.env:=by rfl)
  (hfew:((backTo cpos (starEach (e::es) X.env)).all (λx=> !x.1) && (backToKw cpos (keywordEach [] X.env)).all (λx=>x.1.isSome)
   && decide ((e::es).length+([]:List Keyword).length+(if([]:List Keyword).isEmpty then 0 else 1)<30))=true:=by rfl)
  (hline:(apos.endLine==cpos.line)=true:=by rfl)(hs:starEach (e::es) X.env=(false,eval e X.env)::starEach es X.env:=by rfl)(hplain:(backTo cpos (starEach es X.env)).any (·.1)=false:=by rfl):
  PE X (.Call (.Attribute o name apos) (e::es) [] cpos) (Sw X.K T r to t):=by
 intro pins s σ H Q I h
 refine wpAny_Call_method_late hbase hfew hline rfl (fS (ho pins s σ H _ I h) λv s1 ⟨x,H1,I1,r1,ty,q1⟩=> ?_)
 obtain⟨h1,h2⟩:=EA I1 r1 ty
 refine⟨T,id,pa,slot,hty,h1,h2,?_⟩
 have hA:=ha cpos pins s1 σ H1 _ I1 q1
 rw[hs]at hA ⊢
 refine Calls.callWith_builtin (by show(false||(backTo cpos (starEach es X.env)).any (·.1))=false;rw[hplain]<;>rfl) (Calls.evalArgs_plain ?_)
 exact fS hA λus s2 ⟨vs,H2,I2,r2,q2⟩=>hm pins s2 σ H2 x vs v us Q I2 r1 r2 q2
end
def Sx(X:Cx)(id:String)(r:V->List V->Hp->VK->Prop):Prop:=
 ∀(pins:List (Addr×Obj)) (s:Shared) (σ:St) (H:Hp) (x:V) (xs:List V) (v:Value) (us:List Value) (Q:VK),Inv X pins σ H s->RelV x v->Vals xs us->r x xs H Q->
  wpAny (model X.prog X.w) X.A (call (.builtin id) (v::us)) (EP X pins σ Q) X.xe s
theorem Vals.one:∀{x:V} {us:List Value},Vals [x] us-> ∃u,us=[u]/\RelV x u
 |_,_,.cons r .nil=>⟨_,rfl,r⟩
theorem Vals.two:∀{x y:V} {us:List Value},Vals [x,y] us-> ∃u v,us=[u,v]/\RelV x u/\RelV y v
 |_,_,_,.cons r (.cons q .nil)=>⟨_,_,rfl,r,q⟩
theorem Vals.zero:∀{us:List Value},Vals [] us->us=[]
 |_,.nil=>rfl
section
variable{X:Cx}{pins:List (Addr×Obj)}{σ:St}{H:Hp}{s:Shared}{l b:Addr}{xs ys zs:List V}
theorem Inv.Pe{its its':List Value}{n:Nat}{f:Array Value->Array Value}{t':Nat}(I:Inv X pins σ H s)(hH:H l=some (.lst xs))
  (e:s.heap.get? l=some {cls:= .type "list",data:= .seq its.toArray n})(hf:f its.toArray=its'.toArray)(hv:Vals ys its')(hz:ys.length<=sizeLine):
  Inv X pins σ (upd H l (.lst ys)) {s with heap:=s.heap.update l (Obj.mapSeq f),toks:=t'}:=by
 have q:=PySem.IsL.update e f
 rw[hf]at q
 refine I.write (x:=l) (e:=l) (by rw[hH];exact trivial) (.inl rfl) (λb' u hb hu=>(Heap.get?_update_other s.heap (Obj.mapSeq f) (Ne.symm hb)).trans hu) ⟨_,q⟩ ?_
 exact⟨hz,its',_,hv,q⟩
theorem Inv.Pf{its:List Value}{t':Nat}(I:Inv X pins σ H s)(hv:Vals ys its)(hz:ys.length<=sizeLine):
  Inv X pins σ (upd H s.heap.objs.size (.lst ys)) {s with heap:=s.heap.push {cls:= .type "list",data:= .seq its.toArray},toks:=t'}:=
 I.laid (λ_ _ q=>Heap.get?_push_of_some _ q) (Nat.le_refl _) ⟨hz,its,0,hv,Heap.get?_push_size _ rfl⟩
theorem Inv.fresh(I:Inv X pins σ H s):H s.heap.objs.size=none:=I.hok.fresh (Nat.le_refl _)
theorem Inv.Ku(I:Inv X pins σ H s)(hH:H l=some (.lst xs)):xs.length<=sizeLine/\ ∃(its:List Value) (n:Nat),Vals xs its/\xs.length=its.length/\s.heap.get? l=some {cls:= .type "list",data:= .seq its.toArray n}:=by
 obtain⟨z,its,n,r,e⟩:=I.hok l _ hH
 exact⟨z,its,n,r,r.length,e⟩
end
section
variable{X:Cx}
def HE:V->List V->Hp->VK->Prop:=λx vs H Q=> ∃l xs y,x= .ref l/\vs=[y]/\H l=some (.lst xs)/\xs.length<sizeLine/\Q .iR (upd H l (.lst (xs++ [y])))
theorem mX:Sx X "list.append" HE:=by
 intro pins s σ H x vs v us Q I rx rv h
 obtain⟨l,xs,y,rfl,rfl,hH,hz,q⟩:=h
 cases rx
 obtain⟨u,rfl,ru⟩:=rv.one
 obtain⟨z,its,n,r,hl,e⟩:=I.Ku hH
 refine call_meets F.slot_list_append ⟨_,e,rfl⟩ F.entry_list_append (F.args_list_append_2 _ _) (PySem.list_append l its.toArray n u (by rw[List.size_toArray];omega)) ⟨e,?_⟩
 refine⟨.iR,_,I.Pe (its':=its++ [u]) hH e (by simp) (r.append (.cons ru .nil)) ?_,rfl,q⟩
 rw[List.length_append,List.length_singleton]
 omega
def Pg:R2:=λx y H Q=> ∃l b xs zs,x= .ref l/\y= .ref b/\H l=some (.lst xs)/\H b=some (.lst zs)/\xs.length+zs.length<=sizeLine/\ ∀p,H p=none->Q (.ref p) (upd H p (.lst (xs++zs)))
theorem Kv:rB X (binaryOp .Add) Pg:=by
 intro pins s σ H x y v u Q I rx ry h
 obtain⟨l,b,xs,zs,rfl,rfl,hH,hB,hz,q⟩:=h
 cases rx
 cases ry
 obtain⟨z,its,n,r,hl,e⟩:=I.Ku hH
 obtain⟨z2,its2,n2,r2,hl2,e2⟩:=I.Ku hB
 refine PySem.P.add_list e e2 ?_ (by rw[List.size_toArray,List.size_toArray];omega)
 have ea:its.toArray++its2.toArray=(its++its2).toArray:=by simp
 rw[ea]
 exact⟨.ref _,_,I.Pf (t':=s.toks) (r.append r2) (by rw[List.length_append];omega),rfl,q _ I.fresh⟩
end
section
variable{prog:Program}{w:World}{A:Around}{E:Value->Shared->Prop}{s:Shared}
end
section
variable{X:Cx}
end
end L2
namespace QM
open PySem PySem.W PySem.Calls PyProof.Rows
theorem rC{P:Params}{h:Heap}:∀(ns:List Int) (vs:List Value),WellAll P h vs (ns.map WData.int) ->IntsAre vs ns:=by
 intro ns
 induction ns with
 |nil=>
  intro vs w
  rw[List.map_nil]at w
  cases w
  exact .nil
 |cons n ns ih=>
  intro vs w
  rw[List.map_cons]at w
  cases w with
  |cons a b=>
   cases a
   exact .cons _ _ (ih _ b)
theorem CN{l:OpenLaw}{n:Nat}(hn:l.most=some n){P:Params}{h:Heap}{args:List WData}{vals:List Value}
  (hpre:l.row.toRowW.claim.pre args=true)(hwl:WellAll P h vals args):
  ∃a vs ns,vals=[Value.ref a]/\args=[WData.list (ns.map WData.int)]/\h.get? a=some {cls:= .type "list",data:= .seq vs.toArray}/\IntsAre vs ns/\ns.length<=n:=by
 have hsh:WShape.hasAll [] args [.list .int]=true:=(pre_splitW hpre).1
 have hc:l.pre.holds [] {args:=args}=true:=(pre_splitW hpre).2
 obtain⟨d,r,rfl,h1,h2⟩:=hasAllW_cons hsh
 obtain rfl:=hasAllW_nil h2
 obtain⟨xs,rfl,h3⟩:=hasW_list h1
 obtain⟨ns,rfl⟩:=items_int h3
 have hlen:ns.length<=n:=by
  unfold OpenLaw.pre at hc
  have h4:(WTm.not (.lt (.lit (.int (n:Int))) (.len (.arg 0)))).holds [] {args:=[.list (ns.map .int)]}=true:=by
   have h4:=(holds_andW hc).1
   rw[hn]at h4
   exact h4
  have h5:=condW_of h4 (w_not (w_lt w_lit (w_len_list (w_arg rfl))))
  rw[List.length_map]at h5
  refine Nat.le_of_not_lt λq=> ?_
  have q':(n:Int)<((ns.length:Nat):Int):=by omega
  first
   |(rw[decide_eq_true q']at h5;exact absurd h5 (by decide))
   |(simp at h5;omega)
 cases hwl with
 |cons w1 w2=>
  cases w2
  cases w1 with
  |list ho hall=>exact⟨_,_,ns,rfl,rfl,ho,rC ns _ hall,hlen⟩
theorem CO(l:OpenLaw)(args:List WData):l.row.toRowW.claim.post args (.bool true) args=true:=
 postW_of (r:=l.row.toRowW) (X:=(true==true))
  (show WShape.has [] (.bool true) .bool=true by first|rfl|decide|simp[WShape.has,WShape.arms,WShape.armsAll])
  (show(WTm.eq .res (.lit (.bool true))).value [] {args:=args,res:=some (.bool true),after:=args}=some (.bool (true==true))from w_eq_bool (w_res rfl) w_lit) rfl
theorem ye{l:OpenLaw}{n:Nat}{q:Program}{loose:List Str}{XP:(Str->Option Value) ->Heap->Prop}{YP:World->Heap->Prop}{d:DefRec}
  (hn:l.most=some n)(hdf:d.params.defaults=[])
  (call:∀(w:World) (s₀ s₁:Shared) (mg mb:Str->Option Value) (fa:Addr) (o:Obj) (pm cd doc:Value) (a:Addr) (vs:List Value) (ns:List Int),
   Ground q loose [] XP w s₀ mg mb s₁.heap->YP w s₁.heap->
   s₁.heap.get? fa=some o->o.data= .func (docDef d.name d.params d.body d.scope pm cd doc) ->s₁.heap.CodeRec cd d.name->mg d.name=some (.ref fa) ->
   s₁.heap.get? a=some {cls:= .type "list",data:= .seq vs.toArray} ->IntsAre vs ns->ns.length<=n->s₁.gens= #[] ->
   codeAny (model l.prog w) callerA (.call (.ref fa) ⟨[.ref a],[]⟩) (λr s'=>r= .ok (.ret (.bool true))/\OldK s₁.heap s'.heap/\s'.os=s₁.os/\AllBare s'.gens) s₁):
  WalkO q loose XP YP l.row.toRowW d [] (λf vs=>PySem.call f vs):=by
 intro w s₀ s₁ mg mb G Y fa o pm cd doc dV kV ho hd hcd hD hmg hg args vals as hpre hlay hrd hwl hlo
 obtain rfl:dV= .none:=Dflts.none hD hdf
 obtain rfl:kV= .none:=Dflts.noKw hD
 obtain⟨a,vs,ns,rfl,rfl,hobj,hints,hlen⟩:=CN hn hpre hwl
 refine enter_call (codeAny_mono (call w s₀ s₁ mg mb fa o pm cd doc a vs ns G Y ho (fd_plain hd) hcd hmg hobj hints hlen hg) λr s' hq=> ?_)
 obtain⟨rfl,h2,h3,h4⟩:=hq
 exact⟨.inl ⟨.bool true,.bool true,[],rfl,λ_=>rfl,.bool true,CO l _,λ_=>⟨List.Pairwise.nil,λ_ hm=>(nomatch hm)⟩⟩,h2,h3,h4⟩
section
variable{prog:Program}{w:World}{A:Around}{E:Value->Shared->Prop}{s:Shared}{K:Frag}
def ledger(h:Heap)(L d:Addr):List (Addr×Obj):=(List.range h.objs.size).filterMap λa=>if a=L∨a=d then none else(h.get? a).map λo=>(a,o)
end
end QM
namespace L2
open PySem PySem.Spec PyProof.Rows
theorem vg:∀{vs:List Value} {ns:List Int},IntsAre vs ns->Vals (ns.map V.int) vs
 |_,_,.nil=> .nil
 |_,_,.cons n t h=> .cons ⟨t,rfl⟩ (vg h)
abbrev UK {K:PySem.W.Frag} {h:Heap} (_:K.In h):PySem.W.Frag:=K
def f7(s:Stmt):Arguments:=match s with
 | .FunctionDef _ a _ _ _ _ _ _ _ _=>a
 |_=>{posonlyargs:=[],args:=[],vararg:=none,kwonlyargs:=[],kw_defaults:=[],kwarg:=none,defaults:=[]}
def eL(s:Stmt):List Stmt:=match s with
 | .FunctionDef _ _ b _ _ _ _ _ _ _=>b
 |_=>[]
def az(s:Stmt):Scope:=match s with
 | .FunctionDef _ _ _ _ _ _ sc _ _ _=>sc
 |_=>{kind:= .function,names:=[],isGenerator:=false,isCoroutine:=false}
abbrev cO:CL:=λ_ _ _ _ _ _=>False
abbrev E0:XK:=λ_ _ _=>False
theorem aK{X:Cx}:Passes cO X E0:=λ_ _ _ _ _ _ _ h=>h.elim
structure Jj(K:PySem.W.Frag)(x qual:Str)(st:Stmt)(f:Addr)(fd:FuncData):Prop where
 ex:∃(oc:Value) (od:Option Addr) (kV doc pm:Value) (an:Option Addr) (cdv ct:Value) (osl:Array (Option Value)),
  fd=PySem.W.fnOf x qual (f7 st) (eL st) (az st) .none kV doc pm an cdv ct/\K.lookup f=some ⟨oc,od,.func fd,osl⟩/\PySem.W.codeIn K cdv qual=true
 kp:PySem.W.keepIn K (.ref f)=true
section
variable{P:Program}{w:World}{K:PySem.W.Frag}{mg:Str->Option Value}{base:Heap}
theorem Jj.ok{x qual:Str}{st:Stmt}{f:Addr}{fd:FuncData}{N ps:List Str}{k:Nat}{sp:Sp}(F:Jj K x qual st f fd)(S:aM N ps (az st))(len:∀vs H Q E,sp vs H Q E->vs.length=ps.length)
  (hbody:∀(cdv:Value) (A:Around) (outer:List Env) (s:Shared) (H:Hp) (vs:List V) (Q:VK) (E:XK),eT k (A.deeper (envOfC qual (az st) s.heap.objs.size f cdv)) ->sp vs H Q E->
   ∃t,v7 (wj cO P w K mg base N qual (az st) f cdv A outer s H E).Eg (eL st) t/\t {nx:=λ_ H'=>Q .iR H',rt:=Q} (start N vs) H):oV P w K mg base cO (k+1) f fd ps sp:=by
 obtain⟨oc,od,kV,doc,pm,an,cdv,ct,osl,rfl,lk,hcd⟩:=F.ex
 refine Ji lk hcd S len λA outer s H vs Q E hr Hf=> ?_
 obtain⟨t,h,q⟩:=hbody cdv A outer s H vs Q E hr Hf
 exact⟨t,h.Eg,q⟩
theorem Jj.binds{x qual:Str}{st:Stmt}{f:Addr}{fd:FuncData}{ps:List Str}(F:Jj K x qual st f fd)
  (h:∀(kV doc pm:Value) (an:Option Addr) (cdv ct:Value) (us:List Value),us.length=ps.length->bindArgs (PySem.W.fnOf x qual (f7 st) (eL st) (az st) .none kV doc pm an cdv ct) ⟨us,[]⟩=pure (ps.zip us)):Binds K fd ps []:=by
 obtain⟨oc,od,kV,doc,pm,an,cdv,ct,osl,rfl,lk,hcd⟩:=F.ex
 exact .all (h kV doc pm an cdv ct)
theorem EC{x qual:Str}{st:Stmt}{f:Addr}{oc:Value}{od an:Option Addr}{osl:Array (Option Value)}{kV doc pm cdv ct:Value}(l:K.lookup f=some ⟨oc,od,.func (PySem.W.fnOf x qual (f7 st) (eL st) (az st) .none kV doc pm an cdv ct),osl⟩)
  (c:PySem.W.codeIn K cdv qual=true)(k:PySem.W.keepIn K (.ref f)=true):Jj K x qual st f (PySem.W.fnOf x qual (f7 st) (eL st) (az st) .none kV doc pm an cdv ct):=⟨⟨oc,od,kV,doc,pm,an,cdv,ct,osl,rfl,l,c⟩,k⟩
end
section
variable{X:Cx}
theorem pv(i:Nat){x:Str}{pos:Pos}(hN:X.N[i]?=some x:=by rfl)(hv:Jc X.env.scope x:=by first|exact Or.inl rfl|exact Or.inr (Or.inl rfl)|exact Or.inr (Or.inr rfl))(hd:(x==("__debug__":Str))=false:=by decide)
  (hcd:(x==("__classdict__":Str))=false:=by decide):PE X (.Name x pos) (bH i):=JS hN hv hd hcd
end
theorem wD{A B:Prop}(h:B):if false=true then A else B:=by
 rw[if_neg Bool.false_ne_true]
 exact h
theorem ED{A B:Prop}(h:A):if true=true then A else B:=by
 rw[if_pos rfl]
 exact h
theorem gS{c A B:Prop} [Decidable c](h1:c->A)(h2:¬c->B):if c then A else B:=by
 by_cases h:c
 ·rw[if_pos h]
  exact h1 h
 ·rw[if_neg h]
  exact h2 h
theorem vh{c A B:Prop} [Decidable c](hc:c)(h:B):if(!decide c)=true then A else B:=by
 rw[decide_eq_true hc]
 exact wD h
def ay(H H':Hp):Prop:=∀b o,H b=some o->H' b=some o
theorem ay.refl(H:Hp):ay H H:=λ_ _ h=>h
theorem ay.trans{H H1 H2:Hp}(a:ay H H1)(b:ay H1 H2):ay H H2:=λc o h=>b c o (a c o h)
theorem ay.free{H H':Hp}(e:ay H H'){l:Addr}(h:H' l=Option.none):H l=Option.none:=by
 cases q:H l with
 |none=>rfl
 |some o=>
  rw[e l o q]at h
  cases h
theorem ay.seq{K:PySem.W.Frag}{H H':Hp}{a:Addr}{xs:List V}(e:ay H H')(h:aT K H a xs):aT K H' a xs:=by
 rcases h with(h|⟨o,h⟩)|h
 ·exact .inl (.inl (e _ _ h))
 ·exact .inl (.inr ⟨o,e _ _ h⟩)
 ·exact .inr h
def b9(env:Env):List (Str×NameKind) ->List (Str×Addr) ->List (Str×Addr)
 | [],acc=>acc
 |(n,k)::r,acc=>if k== .free then b9 env r ((n,(env.cells.lookup n).getD 0)::acc)else b9 env r acc
theorem nK{env:Env}(f:Str×NameKind->List (Str×Addr) ->Sem (ForInStep (List (Str×Addr))))
  (hf:∀n k cs,f (n,k) cs=if k==NameKind.free then(do let a<-cellOf env n;pure (.yield ((n,a)::cs)))else pure (.yield cs)):
  ∀(ns:List (Str×NameKind)) (acc:List (Str×Addr)),(∀y∈ns,y.2= .free->(env.cells.lookup y.1).isSome=true) ->forIn ns acc f=pure (b9 env ns acc)
 | [],acc,_=>by rw[List.forIn_nil];rfl
 |(n,k)::r,acc,h=>by
  rw[List.forIn_cons,hf]
  have hr:∀y∈r,y.2= .free->(env.cells.lookup y.1).isSome=true:=λy hy=>h y (List.mem_cons_of_mem _ hy)
  unfold b9
  by_cases hk:(k==NameKind.free)=true
  ·rw[if_pos hk,if_pos hk]
   obtain⟨c,hc⟩:=Option.isSome_iff_exists.mp (h (n,k) List.mem_cons_self (beq_iff_eq.mp hk))
   have hc':env.cells.lookup n=some c:=hc
   have e:cellOf env n=pure c:=by unfold cellOf;rw[hc']
   rw[e,pure_bind,pure_bind,hc']
   exact nK f hf r _ hr
  ·rw[if_neg hk,if_neg hk,pure_bind]
   exact nK f hf r _ hr
theorem uy{env:Env}{scope:Scope}(h:∀y∈scope.names,y.2= .free->(env.cells.lookup y.1).isSome=true):closureFor scope env=pure (b9 env scope.names []):=by
 simp only[closureFor]
 rw[nK (env:=env) _ (λn k cs=>by cases hk:k==NameKind.free<;>simp[hk]) _ _ h]
 rfl
theorem jd{env:Env}{y:Str}{c:Addr}:∀{ns:List (Str×NameKind)} {acc:List (Str×Addr)},(y,c)∈b9 env ns acc->(y,c)∈acc∨((y,NameKind.free)∈ns/\c=(env.cells.lookup y).getD 0)
 | [],acc,h=> .inl h
 |(n,k)::r,acc,h=>by
  unfold b9 at h
  split at h
  ·rename_i hk
   rcases jd h with h|⟨h,e⟩
   ·rcases List.mem_cons.mp h with e|h
    ·cases e
     exact .inr ⟨by rw[beq_iff_eq.mp hk];exact List.mem_cons_self,rfl⟩
    ·exact .inl h
   ·exact .inr ⟨List.mem_cons_of_mem _ h,e⟩
  ·rcases jd h with h|⟨h,e⟩
   ·exact .inl h
   ·exact .inr ⟨List.mem_cons_of_mem _ h,e⟩
theorem jJ{env:Env}{y:Str}:∀{ns:List (Str×NameKind)} {acc:List (Str×Addr)},acc.lookup y=some ((env.cells.lookup y).getD 0)∨(y,NameKind.free)∈ns->(b9 env ns acc).lookup y=some ((env.cells.lookup y).getD 0)
 | [],acc,h=>by
  rcases h with h|h
  ·exact h
  ·cases h
 |(n,k)::r,acc,h=>by
  unfold b9
  split
  ·rename_i hk
   refine jJ ?_
   by_cases hy:y=n
   ·subst hy
    exact .inl (by simp[List.lookup])
   ·have hb:(y==n)=false:=by simpa using hy
    rcases h with h|h
    ·exact .inl (by rw[List.lookup_cons,hb];exact h)
    ·rcases List.mem_cons.mp h with e|h
     ·cases e;exact absurd rfl hy
     ·exact .inr h
  ·rename_i hk
   refine jJ ?_
   rcases h with h|h
   ·exact .inl h
   ·rcases List.mem_cons.mp h with e|h
    ·cases e;exact absurd rfl hk
    ·exact .inr h
theorem fJ{y:Str}:∀{ns:List (Str×NameKind)} {n:Nat} {acc:List (Str×Addr)},(y,NameKind.cell)∉ns->(cellsFrom n ns acc).lookup y=acc.lookup y
 | [],_,_,_=>rfl
 |(z,k)::r,n,acc,h=>by
  unfold cellsFrom
  have hr:(y,NameKind.cell)∉r:=λq=>h (List.mem_cons_of_mem _ q)
  split
  ·rename_i hk
   rw[fJ hr]
   have hy:(y==z)=false:=by
    cases e:y==z with
    |false=>rfl
    |true=>exact absurd (by rw[beq_iff_eq.mp e,beq_iff_eq.mp hk];exact List.mem_cons_self) h
   rw[List.lookup_cons,hy]
  ·exact fJ hr
theorem jK{y:Str}{c:Addr}:∀{ns:List (Str×NameKind)} {n:Nat} {acc:List (Str×Addr)},(y,c)∈cellsFrom n ns acc->(y,c)∈acc∨(n<=c/\(y,NameKind.cell)∈ns)
 | [],_,_,h=> .inl h
 |(z,k)::r,n,acc,h=>by
  unfold cellsFrom at h
  split at h
  ·rename_i hk
   rcases jK h with h|⟨h,e⟩
   ·rcases List.mem_cons.mp h with e|h
    ·cases e
     exact .inr ⟨Nat.le_refl _,by rw[beq_iff_eq.mp hk];exact List.mem_cons_self⟩
    ·exact .inl h
   ·exact .inr ⟨by omega,List.mem_cons_of_mem _ e⟩
  ·rcases jK h with h|⟨h,e⟩
   ·exact .inl h
   ·exact .inr ⟨h,List.mem_cons_of_mem _ e⟩
theorem jL:∀{ns:List (Str×NameKind)} {n:Nat} {acc:List (Str×Addr)},(∀x y c,(x,c)∈acc->(y,c)∈acc->x=y) ->(∀y c,(y,c)∈acc->c<n) ->
  ∀x y c,(x,c)∈cellsFrom n ns acc->(y,c)∈cellsFrom n ns acc->x=y
 | [],_,_,h,_=>h
 |(z,k)::r,n,acc,h,hl=>by
  unfold cellsFrom
  split
  ·refine jL (λx y c h1 h2=> ?_) (λy c h1=> ?_)
   ·rcases List.mem_cons.mp h1 with e1|h1<;>rcases List.mem_cons.mp h2 with e2|h2
    ·cases e1;cases e2;rfl
    ·cases e1;exact absurd (hl _ _ h2) (Nat.lt_irrefl _)
    ·cases e2;exact absurd (hl _ _ h1) (Nat.lt_irrefl _)
    ·exact h x y c h1 h2
   ·rcases List.mem_cons.mp h1 with e1|h1
    ·cases e1;exact Nat.lt_succ_self _
    ·exact Nat.lt_succ_of_lt (hl _ _ h1)
  ·exact jL h hl
theorem iC:∀(ns:List (Str×NameKind)) (h:Heap) (acc:List (Str×Addr)) (y:Str) (c:Addr),(y,c)∈cellsFrom h.objs.size ns acc->(y,c)∈acc∨(pushCells h ns).IsCell c none
 | [],_,_,_,_,hm=> .inl hm
 |(z,k)::r,h,acc,y,c,hm=>by
  unfold cellsFrom at hm
  unfold pushCells
  split at hm
  ·rename_i hk
   rw[if_pos hk]
   have hm':(y,c)∈cellsFrom (h.push {cls:= .type "cell",data:= .cell none}).objs.size r ((z,h.objs.size)::acc):=by rw[Heap.size_push];exact hm
   rcases iC r _ _ y c hm' with hm|hm
   ·rcases List.mem_cons.mp hm with e|hm
    ·cases e
     exact .inr ⟨_,pushCells_keeps _ _ _ _ (Heap.get?_push_size _ rfl),rfl⟩
    ·exact .inl hm
   ·exact .inr hm
  ·rename_i hk
   rw[if_neg hk]
   exact iC r h acc y c hm
def kindB(names:List (Str×NameKind))(y:Str)(k:NameKind):Bool:=names.lookup y==some k
def sy:List Str->Bool
 | []=>true
 |x::r=> !r.contains x && sy r
theorem nL:∀{l:List Str},sy l=true->l.Nodup
 | [],_=>List.nodup_nil
 |x::r,h=>by
  unfold sy at h
  rw[Bool.and_eq_true]at h
  refine List.nodup_cons.mpr ⟨λhm=> ?_,nL h.2⟩
  have:r.contains x=true:=List.contains_iff_mem.mpr hm
  rw[this]at h
  exact absurd h.1 (by decide)
def zS:List Str->List Str->(Str->Str->Bool) ->Bool
 | [],[],_=>true
 |x::r,y::t,p=>p x y && zS r t p
 |_,_,_=>false
theorem yf:∀{l m:List Str} {p:Str->Str->Bool},zS l m p=true->l.length=m.length
 | [],[],_,_=>rfl
 | [],_::_,_,h=>by cases h
 |_::_,[],_,h=>by cases h
 |x::r,y::t,p,h=>by
  unfold zS at h
  rw[Bool.and_eq_true]at h
  simp[yf h.2]
theorem yg:∀{l m:List Str} {p:Str->Str->Bool},zS l m p=true-> ∀(i:Nat) (x:Str),l[i]?=some x-> ∃y,m[i]?=some y/\p x y=true
 | [],[],_,_,i,x,h=>by simp at h
 | [],_::_,_,h,_,_,_=>by cases h
 |_::_,[],_,h,_,_,_=>by cases h
 |x::r,y::t,p,h,0,z,e=>by
  unfold zS at h
  rw[Bool.and_eq_true]at h
  simp at e;subst e
  exact⟨y,rfl,h.1⟩
 |x::r,y::t,p,h,i+1,z,e=>by
  unfold zS at h
  rw[Bool.and_eq_true]at h
  obtain⟨w,e1,e2⟩:=yg h.2 i z (by simpa using e)
  exact⟨w,by simpa using e1,e2⟩
def zT(names ks:List (Str×NameKind))(own N2 N:List Str):Bool:=
 names.all (λy=>y.2 != .free||kindB ks y.1 .cell||kindB ks y.1 .free) &&
 sy (names.map (·.1)) && sy (own++N2) &&
 names.all (λy=> !(y.2== .local||y.2== .cell)||own.contains y.1||y.1==(".0":Str)) &&
 zS N2 N (λy z=>(y==z && y !=(".0":Str))||names.lookup y==none) &&
 own.all (λx=>kindB names x .local||kindB names x .cell)
structure pZ(names ks:List (Str×NameKind))(own N2 N:List Str):Prop where
 fr:∀y,(y,NameKind.free)∈names->ks.lookup y=some .cell∨ks.lookup y=some .free
 nd:(names.map (·.1)).Nodup
 HF:(own++N2).Nodup
 owns:∀y k,(y,k)∈names->k= .local∨k= .cell->y∈own∨y=(".0":Str)
 zip:∀(j:Nat) (y:Str),N2[j]?=some y->(N[j]?=some y/\y≠(".0":Str))∨names.lookup y=none
 len:N2.length=N.length
 own:∀x∈own,names.lookup x=some .local∨names.lookup x=some .cell
theorem lT{names ks:List (Str×NameKind)}{own N2 N:List Str}(h:zT names ks own N2 N=true):pZ names ks own N2 N:=by
 unfold zT at h
 simp only[Bool.and_eq_true]at h
 obtain⟨⟨⟨⟨⟨h1,h2⟩,h3⟩,h4⟩,h5⟩,h6⟩:=h
 refine⟨λy hy=> ?_,nL h2,nL h3,λy k hy hk=> ?_,λj y e=> ?_,yf h5,λx hx=> ?_⟩
 ·have q:=List.all_eq_true.mp h1 _ hy
  simp only[Bool.or_eq_true]at q
  rcases q with(q|q)|q
  ·exact absurd q (by simp)
  ·exact .inl (by simpa [kindB]using q)
  ·exact .inr (by simpa [kindB]using q)
 ·have q:=List.all_eq_true.mp h4 _ hy
  simp only[Bool.or_eq_true]at q
  rcases q with(q|q)|q
  ·rcases hk with rfl|rfl<;>simp at q
  ·exact .inl (List.contains_iff_mem.mp q)
  ·exact .inr (by simpa using q)
 ·obtain⟨z,e1,e2⟩:=yg h5 j y e
  simp only[Bool.or_eq_true,Bool.and_eq_true]at e2
  rcases e2 with⟨e2,e3⟩|e2
  ·exact .inl ⟨by rw[e1,beq_iff_eq.mp e2],by simpa using e3⟩
  ·exact .inr (by simpa using e2)
 ·have q:=List.all_eq_true.mp h6 _ hx
  simp only[Bool.or_eq_true]at q
  rcases q with q|q
  ·exact .inl (by simpa [kindB]using q)
  ·exact .inr (by simpa [kindB]using q)
theorem cD{α:Type}:∀{l:List (Str×α)} {y:Str} {k:α},(l.map (·.1)).Nodup->(y,k)∈l->l.lookup y=some k
 |(z,v)::r,y,k,nd,h=>by
  rw[List.map_cons,List.nodup_cons]at nd
  rw[List.lookup_cons]
  rcases List.mem_cons.mp h with e|h'
  ·cases e;simp
  ·have:(y==z)=false:=by
    cases e:y==z with
    |false=>rfl
    |true=>
     have e':y=z:=beq_iff_eq.mp e
     have q:y∈r.map (λx=>x.1):=List.mem_map.mpr ⟨(y,k),h',rfl⟩
     exact absurd (by rw[<-e'];exact q) nd.1
   rw[this]
   exact cD nd.2 h'
theorem iU{sc:Scope}{env:Env}{y:Str}:∀{ns:List (Str×NameKind)},
  (ns.map λ (n,k)=>if(k==NameKind.free && env.scope.kind== .function && env.kindOf n==some .cell)then(n,NameKind.cell)else(n,k)).lookup y=
   (ns.lookup y).map λk=>if(k==NameKind.free && env.scope.kind== .function && env.kindOf y==some .cell)then .cell else k
 | []=>rfl
 |(n,k)::r=>by
  have ih:= @iU sc env y r
  rw[List.map_cons,List.lookup_cons]
  show List.lookup y ((if(k==NameKind.free && env.scope.kind== .function && env.kindOf n==some .cell)=true then(n,NameKind.cell)else(n,k))::_)=_
  cases hx:y==n with
  |true=>
   have e:y=n:=beq_iff_eq.mp hx
   subst e
   by_cases hc:(k==NameKind.free && env.scope.kind== .function && env.kindOf y==some .cell)=true
   ·rw[if_pos hc]
    simp only[List.lookup_cons,hx,Option.map_some,if_pos hc]
   ·rw[if_neg hc]
    simp only[List.lookup_cons,hx,Option.map_some,if_neg hc]
  |false=>
   by_cases hc:(k==NameKind.free && env.scope.kind== .function && env.kindOf n==some .cell)=true
   ·rw[if_pos hc];simp only[List.lookup_cons,hx];exact ih
   ·rw[if_neg hc];simp only[List.lookup_cons,hx];exact ih
def Cx.comp(X:Cx)(sc:Scope)(N':List Str)(s:Shared)(H:Hp)(fp:List Addr):Cx:=
 {X with
  N:=N'
  s₀:=s
  H₀:=H
  env:=compEnvC sc (cellsFrom (s.heap.objs.size+2) sc.names (b9 X.env sc.names [])) (s.heap.objs.size+1) X.env
  outer:=X.stack
  ex:=fp
  fn:=λy=>sc.names.lookup y==some .cell
  pn:=[]
  xe:=λ_ _=>False}
section
variable{X:Cx}{pins:List (Addr×Obj)}{σ:St}{H:Hp}{s:Shared}{sc:Scope}{own N2:List Str}{fp:List Addr}
theorem je(I:Inv X pins σ H s)(B:pZ sc.names X.env.scope.names own N2 X.N):∀y,(y,NameKind.free)∈sc.names-> ∃c,X.env.cells.lookup y=some c:=λy hy=>by
 rcases B.fr y hy with q|q
 ·exact I.ok.has y (.inl q)
 ·exact I.ok.has y (.inr q)
theorem rQ(I:Inv X pins σ H s)(B:pZ sc.names X.env.scope.names own N2 X.N):closureFor sc X.env=pure (b9 X.env sc.names []):=
 uy λy hy hk=>by
  obtain⟨c,e⟩:=je I B y.1 (by rw[<-hk];exact hy)
  rw[e];rfl
theorem ig(I:Inv X pins σ H s)(B:pZ sc.names X.env.scope.names own N2 X.N){n:Nat}{y:Str}{c:Addr}(h:(y,c)∈cellsFrom n sc.names (b9 X.env sc.names [])):
  (n<=c/\(y,NameKind.cell)∈sc.names)∨((y,NameKind.free)∈sc.names/\X.env.cells.lookup y=some c):=by
 rcases jK h with h|h
 ·rcases jd h with h|⟨h,e⟩
  ·cases h
  ·obtain⟨c',e'⟩:=je I B y h
   rw[e']at e
   exact .inr ⟨h,by rw[e',e];rfl⟩
 ·exact .inl h
theorem kF(I:Inv X pins σ H s)(B:pZ sc.names X.env.scope.names own N2 X.N){n:Nat}{y:Str}{c:Addr}(hy:(y,NameKind.free)∈sc.names)(hc:X.env.cells.lookup y=some c):
  (cellsFrom n sc.names (b9 X.env sc.names [])).lookup y=some c:=by
 rw[fJ,jJ (.inr hy),hc]
 ·rfl
 ·intro q
  have e1:=cD B.nd hy
  rw[cD B.nd q]at e1
  cases e1
theorem CP(I:Inv X pins σ H s)(B:pZ sc.names X.env.scope.names own N2 X.N){n:Nat}(hn:s.heap.objs.size<=n){x y:Str}{c:Addr}(h1:(x,c)∈cellsFrom n sc.names (b9 X.env sc.names []))
  (h2:(y,c)∈cellsFrom n sc.names (b9 X.env sc.names [])):x=y:=by
 have old:∀z c,(z,c)∈b9 X.env sc.names [] ->X.env.cells.lookup z=some c:=λz c hm=>by
  rcases jd hm with h|⟨h,e⟩
  ·cases h
  ·obtain⟨c',e'⟩:=je I B z h
   rw[e']at e
   rw[e',e];rfl
 refine jL (λx y c h1 h2=>I.ok.inj x y c (old _ _ h1) (old _ _ h2)) (λz c hm=> ?_) x y c h1 h2
 obtain⟨v,q⟩:=I.cell z c (old _ _ hm)
 exact Nat.lt_of_lt_of_le q.lt hn
theorem wF(I:Inv X pins σ H s)(B:pZ sc.names X.env.scope.names own N2 X.N){n:Nat}{env':Env}{h':Heap}{m:Str->Option Value}{j:Nat}{y:Str}{v:V}(hN:N2[j]?=some y)(hs:σ[j]?=some (some v))
  (hcl:env'.cells=cellsFrom n sc.names (b9 X.env sc.names []))(hkd:∀y,(y,NameKind.free)∈sc.names->env'.kindOf y=some .cell∨env'.kindOf y=some .free)
  (hin:Jc env'.scope y-> ∃k,sc.names.lookup y=some k)(hown:y∉own)
  (keep:∀b o,s.heap.get? b=some o->h'.get? b=some o)(hv:Jc env'.scope y)(hk2:∀k,sc.names.lookup y=some k->k= .local∨k= .cell∨k= .free):∃u,RelV v u/\Look env' h' m y u:=by
 obtain⟨k,hk⟩:=hin hv
 rcases B.zip j y hN with⟨e,n0⟩|e
 ·have hm:=mem_of_lookup hk
  have kf:k= .free:=by
   rcases hk2 k hk with z|z|z
   ·rcases B.owns y k hm (.inl z)with q|q
    ·exact absurd q hown
    ·exact absurd q n0
   ·rcases B.owns y k hm (.inr z)with q|q
    ·exact absurd q hown
    ·exact absurd q n0
   ·exact z
  subst kf
  have hX:Jc X.env.scope y:=by
   rcases B.fr y hm with q|q
   ·exact .inr (.inl q)
   ·exact .inr (.inr q)
  obtain⟨m0,_,hl⟩:=I.loc
  obtain⟨u,r,l⟩:=hl j y v e hs hX
  refine⟨u,r,.inr ⟨hkd y hm,?_⟩⟩
  rcases l with⟨kl,_⟩|⟨_,c,hc,z⟩
  ·rcases B.fr y hm with q|q
   ·have MS:X.env.scope.names.lookup y=some .local:=kl
    rw[q]at MS;cases MS
   ·have MS:X.env.scope.names.lookup y=some .local:=kl
    rw[q]at MS;cases MS
  ·exact⟨c,by rw[hcl];exact kF I B hm hc,z.keeps keep⟩
 ·rw[hk]at e;cases e
end
theorem oW{M:Model}{A:Around}{E:Value->Shared->Prop}{s:Shared}{sc:Scope}{g:Addr}{cl:List (Str×Addr)}{qual:Str}{env:Env}{Q:Env->Shared->Prop}
  (h:Q {scope:=sc,locals:=s.heap.objs.size,globals:=g,cells:=cellsFrom (s.heap.objs.size+1) sc.names cl,qual:=qual,func:=none,code:=env.code,frame:=env.frame,builtins:=env.builtins}
   {s with heap:=pushCells (s.heap.push {cls:= .type "dict",data:= .dict #[]}) sc.names}):
  wpAny M A (newFunctionEnv sc g cl [] qual none .none (some env)) Q E s:=by
 simp only[newFunctionEnv,Option.isSome_some,if_true]
 refine wpAny_bind (wpAny_alloc ?_)
 refine wpAny_bind (wpAny_layCells _ (λname kind cells=>by cases hkc:kind==NameKind.cell<;>simp[hkc]) _ _ _ _ ?_)
 rw[show({s with heap:=s.heap.push {cls:= .type "dict",data:= .dict #[]}}:Shared).heap.objs.size=s.heap.objs.size+1 from Heap.size_push ..]
 simp only[List.forIn_nil]
 exact wpAny_bind (wpAny_pure (wpAny_pure h))
section
variable{X:Cx}{pins:List (Addr×Obj)}{σ:St}{H:Hp}{s:Shared}{sc:Scope}{own N2:List Str}{fp:List Addr}
theorem sE{env:Env}{y:Str}(hv:Jc (relabel sc env) y):∃k,sc.names.lookup y=some k/\(k= .local∨k= .cell∨k= .free):=by
 have q:∀k,(relabel sc env).names.lookup y=some k->(k= .local∨k= .cell∨k= .free) -> ∃k,sc.names.lookup y=some k/\(k= .local∨k= .cell∨k= .free):=λk e hk=>by
  have e':=(iU (sc:=sc) (env:=env) (y:=y) (ns:=sc.names)).symm.trans e
  cases z:sc.names.lookup y with
  |none=>rw[z]at e';cases e'
  |some k0=>
   rw[z]at e'
   simp only[Option.map_some,Option.some.injEq]at e'
   refine⟨k0,rfl,?_⟩
   split at e'
   ·rename_i hc
    simp only[Bool.and_eq_true]at hc
    exact .inr (.inr (by simpa using hc.1.1))
   ·rw[e'];exact hk
 rcases hv with e|e|e
 ·exact q _ e (.inl rfl)
 ·exact q _ e (.inr (.inl rfl))
 ·exact q _ e (.inr (.inr rfl))
theorem kind_free(B:pZ sc.names X.env.scope.names own N2 X.N){env:Env}{y:Str}(hy:(y,NameKind.free)∈sc.names):(relabel sc env).names.lookup y=some .cell∨(relabel sc env).names.lookup y=some .free:=by
 have e:=iU (sc:=sc) (env:=env) (y:=y) (ns:=sc.names)
 rw[cD B.nd hy]at e
 simp only[Option.map_some]at e
 split at e
 ·exact .inl e
 ·exact .inr e
theorem jf{env:Env}{y:Str}{k:NameKind}(hy:sc.names.lookup y=some k)(hk:k= .local∨k= .cell):(relabel sc env).names.lookup y=some k:=by
 have e:=iU (sc:=sc) (env:=env) (y:=y) (ns:=sc.names)
 rw[hy]at e
 simp only[Option.map_some]at e
 rcases hk with rfl|rfl
 ·exact e
 ·exact e
theorem HG(I:Inv X pins σ H s)(B:pZ sc.names X.env.scope.names own N2 X.N)(hk:sc.kind= .function)(hf:∀b∈fp,fQ X pins H b)(ho:∀b∈fp,∃o,s.heap.get? b=some o):(X.comp sc (own++N2) s H fp).Ok:=by
 have lt:∀b∈fp,b<s.heap.objs.size:=λb hb=>let⟨o,e⟩:=ho b hb;Heap.lt_size e
 have iS:∀y c,(cellsFrom (s.heap.objs.size+2) sc.names (b9 X.env sc.names [])).lookup y=some c->(s.heap.objs.size+2<=c/\(y,NameKind.cell)∈sc.names)∨((y,NameKind.free)∈sc.names/\X.env.cells.lookup y=some c):=
  λy c h=>ig I B (mem_of_lookup h)
 refine⟨I.ok.mod,hk,I.ok.glob,I.ok.blt,Nat.le_succ _,λx y c h1 h2=> ?_,λy hy=> ?_,λy c hy hc=> ?_,I.ok.hd,I.ok.frames,.inl rfl,λb hb=>⟨?_,λy c hc=> ?_⟩,I.bs,Nat.le_trans I.ok.Hr I.sz,λb o e hb=> ?_,λb hb hs=> ?_,I.stack,I.rP⟩
 ·exact CP I B (by omega) (mem_of_lookup h1) (mem_of_lookup h2)
 ·have hy':(relabel sc X.env).names.lookup y=some .cell∨(relabel sc X.env).names.lookup y=some .free:=hy
  obtain⟨k,e,Jk⟩:=sE (env:=X.env) (y:=y) (sc:=sc) (by rcases hy' with q|q;exact .inr (.inl q);exact .inr (.inr q))
  rcases Jk with rfl|rfl|rfl
  ·have:=jf (env:=X.env) e (.inl rfl)
   rcases hy' with q|q
   ·rw[q]at this;cases this
   ·rw[q]at this;cases this
  ·exact Option.isSome_iff_exists.mp (PySem.W.cellsFrom_some sc.names _ _ (.inl e))
  ·obtain⟨c,hc⟩:=je I B y (mem_of_lookup e)
   exact⟨c,kF I B (mem_of_lookup e) hc⟩
 ·have hy':sc.names.lookup y=some .cell:=by
   have q:(sc.names.lookup y==some NameKind.cell)=true:=hy
   simpa using q
  rcases iS y c hc with⟨q,_⟩|⟨q,_⟩
  ·show s.heap.objs.size<=c
   omega
  ·rw[cD B.nd q]at hy';cases hy'
 ·exact Nat.ne_of_lt (Nat.lt_succ_of_lt (lt b hb))
 ·have hl:=lt b hb
  rcases iS y c hc with⟨q,_⟩|⟨_,q⟩
  ·exact Nat.ne_of_gt (Nat.lt_of_lt_of_le hl (Nat.le_trans (Nat.le_add_right _ 2) q))
  ·exact(hf b hb).2.2.2.2.1 y c q
 ·rcases(hf b hb).2.2.2.1 with z|z
  ·exact I.ok.CB b o e z
  ·exact absurd (Nat.lt_of_lt_of_le (Heap.lt_size (I.ok.bs b o e).1) z) (Nat.lt_irrefl _)
 ·rcases List.mem_cons.mp (I.rZ b hs)with e|e
  ·exact(hf b hb).2.1 e
  ·exact(hf b hb).2.2.1 e
theorem EE(I:Inv X pins σ H s)(B:pZ sc.names X.env.scope.names own N2 X.N)(hk:sc.kind= .function)(hf:∀b∈fp,fQ X pins H b)(ho:∀b∈fp,∃o,s.heap.get? b=some o):
  Inv (X.comp sc (own++N2) s H fp) [] (List.replicate own.length none++σ) (upd H s.heap.objs.size (.lst []))
   {s with heap:=pushCells ((s.heap.push {cls:= .type "list",dict:=none,data:= .seq ([]:List Value).toArray}).push {cls:= .type "dict",data:= .dict #[]}) sc.names}:=by
 have k1:∀b o,(s.heap.push {cls:= .type "list",dict:=none,data:= .seq ([]:List Value).toArray}).get? b=some o->
   (pushCells ((s.heap.push {cls:= .type "list",dict:=none,data:= .seq ([]:List Value).toArray}).push {cls:= .type "dict",data:= .dict #[]}) sc.names).get? b=some o:=
  λb o e=>pushCells_keeps _ _ b o (Heap.get?_push_of_some _ e)
 have k0:∀b o,s.heap.get? b=some o->
   (pushCells ((s.heap.push {cls:= .type "list",dict:=none,data:= .seq ([]:List Value).toArray}).push {cls:= .type "dict",data:= .dict #[]}) sc.names).get? b=some o:=
  λb o e=>k1 b o (Heap.get?_push_of_some _ e)
 have sz:((s.heap.push {cls:= .type "list",dict:=none,data:= .seq ([]:List Value).toArray}).push {cls:= .type "dict",data:= .dict #[]}).objs.size=s.heap.objs.size+2:=by rw[Heap.size_push,Heap.size_push]
 have iS:∀y c,(cellsFrom (s.heap.objs.size+2) sc.names (b9 X.env sc.names [])).lookup y=some c->(s.heap.objs.size+2<=c/\(y,NameKind.cell)∈sc.names)∨((y,NameKind.free)∈sc.names/\X.env.cells.lookup y=some c):=
  λy c h=>ig I B (mem_of_lookup h)
 have EF:∀b,s.heap.objs.size<b->upd H s.heap.objs.size (.lst []) b=none:=λb hb=>by
  rw[aG (Nat.ne_of_gt hb)]
  exact I.hok.fresh (Nat.le_of_lt hb)
 refine⟨HG I B hk hf ho,rfl,.refl I.bare.bare,Un.laid k0 (Nat.le_refl _) I.fresh,⟨λ_=>none,?_,λi y v e1 e2 e3=> ?_⟩,λy c hc=> ?_,EF _ (Nat.lt_succ_self _),λy c hc=> ?_,λp hp=> ?_,I.hok.laid k0 (Nat.le_refl _) ?_,?_⟩
 ·have:=Heap.Ns.new (s.heap.push {cls:= .type "list",dict:=none,data:= .seq ([]:List Value).toArray}) (.type "dict")
  rw[Heap.size_push]at this
  exact this.keeps (pushCells_keeps _ _)
 ·by_cases hi:i<own.length
  ·rw[List.getElem?_append_left (by simpa using hi),List.getElem?_replicate]at e2
   split at e2<;>cases e2
  ·have yh:(own++N2)[i]?=some y:=e1
   have hi':own.length<=i:=by omega
   rw[List.getElem?_append_right (by simpa using hi'),List.length_replicate]at e2
   rw[List.getElem?_append_right hi']at yh
   have hown:y∉own:=λhm=>by
    have nd:=B.HF
    rw[List.nodup_append]at nd
    exact nd.2.2 y hm y (List.mem_of_getElem? yh) rfl
   refine wF I B (n:=s.heap.objs.size+2) yh e2 rfl (λz hz=>kind_free B hz) (λhv=>let⟨k,e,_⟩:=sE hv;⟨k,e⟩) hown k0 e3 (λk e=> ?_)
   obtain⟨k',e',hk'⟩:=sE (sc:=sc) e3
   rw[e]at e';cases e'
   exact hk'
 ·rcases iC sc.names ((s.heap.push {cls:= .type "list",dict:=none,data:= .seq ([]:List Value).toArray}).push {cls:= .type "dict",data:= .dict #[]}) (b9 X.env sc.names []) y c (by rw[sz];exact mem_of_lookup hc)with q|q
  ·rcases jd q with z|⟨z,e⟩
   ·cases z
   ·obtain⟨c',e'⟩:=je I B y z
    rw[e']at e
    have e2:c=c':=e
    subst e2
    obtain⟨v,w⟩:=I.cell y c e'
    exact⟨v,w.keeps k0⟩
  ·exact⟨none,q⟩
 ·rcases iS y c hc with⟨q,_⟩|⟨_,q⟩
  ·exact EF c (by omega)
  ·obtain⟨v,w⟩:=I.cell y c q
   rw[aG (Nat.ne_of_lt w.lt)]
   exact I.lI y c q
 ·have iD:p∈([]:List (Addr×Obj)):=hp
  cases iD
 ·exact⟨Nat.zero_le _,[],0,.nil,k1 _ _ (Heap.get?_push_size _ rfl)⟩
 ·show(List.replicate own.length none++σ).length=(own++N2).length
  rw[List.length_append,List.length_append,List.length_replicate,I.len,B.len]
theorem Inv.EG{σ':St}{H':Hp}{s':Shared}{N':List Str}(I:Inv X pins σ H s)(hf:∀b∈fp,fQ X pins H b)(J:Inv (X.comp sc N' s H fp) [] σ' H' s'):Inv X pins σ H' s':=
 I.Eo (ch:=fp) J.os J.base J.hok J.bare λb hb=>⟨(hf b hb).2.2.2.1,(hf b hb).2.1,(hf b hb).2.2.2.2.1,(hf b hb).2.2.2.2.2⟩
end
section
variable{prog:Program}{w:World}{A:Around}{R:Result->Shared->Prop}{s:Shared}
theorem lU{elt target iter:Expr}{scope:Scope}{pos:Pos}{it acc:Value}{env:Env}(I:Nat->Shared->Prop)
  (turn:∀n s,I n s->wpAny (model prog w) A (pyNext it) (λr s₁=>match r with
   |none=>R (.ok .next) s₁
   |some v=>wpAny (model prog w) A (letOwnedTupleGo target it v) (λ_ s₁'=>wpAny (model prog w) A (assign target env v) (λ_ s₂=>wpAny (model prog w) A (eval elt env) (λx s₃=>
     wpAny (model prog w) A (call (.builtin "list.append") [acc,x]) (λ_ s₄=> ∃m,m<n/\I m s₄) (λ_ _=>False) s₃)
     (λ_ _=>False) s₂) (λ_ _=>False) s₁') (λ_ _=>False) s₁) (λ_ _=>False) s)
  (n:Nat)(h:I n s):
  codeAny (model prog w) A (.compLoop (.ListComp elt [⟨target,iter,[],0⟩] scope pos) 0 it acc env) R s:=by
 refine codeAny_loop rfl I (λn s hI=> ?_) n h
 show wpAny _ _ ((compTurn (.ListComp elt [⟨target,iter,[],0⟩] scope pos) 0 it acc env).onRaise (λx=>do noteFrame x env;theTreesLotGoes x)) _ _ s
 refine wpAny_noted ?_
 rw[compTurn_list1]
 refine wpAny_bind (wpAny_standAt (wpAny_bind (wpAny_mono (turn n s hI) (λr s₁ h₁=> ?_) λ_ _ h'=>h'.elim)))
 cases r with
 |none=>exact wpAny_pure h₁
 |some v=>
  exact wpAny_bind (wpAny_mono h₁ (λ_ s₁' h₁'=>wpAny_bind (wpAny_mono h₁' (λ_ s₂ h₂=>wpAny_bind (wpAny_bind (wpAny_mono h₂ (λx s₃ h₃=>wpAny_bind (wpAny_mono h₃
   (λ_ s₄ h₄=>wpAny_pure (wpAny_pure ⟨rfl,h₄⟩)) λ_ _ h'=>h'.elim)) λ_ _ h'=>h'.elim))) λ_ _ h'=>h'.elim)) λ_ _ h'=>h'.elim)
end
def kG(k:Nat)(g:TG)(te:TE)(σ:St)(J:It)(H1:Hp)(D:Addr)(Q:VK):Prop:=∃W:Nat->Nat->List V->St->Hp->Prop,(∃m,W 0 m [] (List.replicate k none++σ) (upd H1 D (.lst [])))/\
 ∀i m acc σ' H',W i m acc σ' H'->(J.stop i H'/\H' D=some (.lst acc)/\Q (.ref D) H')∨
  (J.go i H'/\acc.length<sizeLine/\ ∀x H2,J.zO i H' x H2->g x σ' H2 λσ3 H3=>te σ3 H3 λv H4=>H4 D=some (.lst acc)/\ ∃m',m'<m/\W (i+1) m' (acc++ [v]) σ3 (upd H4 D (.lst (acc++ [v]))))
def lV(k:Nat)(wi:TI)(g:TG)(te:TE):TE:=λσ H Q=>wi σ H λJ H1=> ∀D,H1 D=none->kG k g te σ J H1 D Q
section
variable{X:Cx}{sc:Scope}{own N2:List Str}
theorem sI{elt iter tg:Expr}{pos Ph:Pos}{wi:TI}{g:TG}{te:TE}{use:Option (Value->Sem Unit)}{Qf:Value->Shared->Prop}(hc:X.calm=true)(hi:PI X tg iter wi)(B:pZ sc.names X.env.scope.names own N2 X.N)(hk:sc.kind= .function)
  (hg:∀s H fp,PG (X.comp sc (own++N2) s H fp) tg g)(he:∀s H fp,PE (X.comp sc (own++N2) s H fp) elt te)
  (hs:∀x,foldedSetIterable iter X.env x=pure x){pins:List (Addr×Obj)}{s0:Shared}{σ:St}{H0:Hp}{Q:VK}(I0:Inv X pins σ H0 s0)(h0:lV own.length wi g te σ H0 Q)
  (Pj:∀s H fp,Inv X pins σ H s->(∀b∈fp,fQ X pins H b) -> ∀(σ':St) (H':Hp) (s':Shared),Inv (X.comp sc (own++N2) s H fp) [] σ' H' s'->Q (.ref s.heap.objs.size) H'->
   compPost (model X.prog X.w) X.A X.xe use Qf (.ref s.heap.objs.size) (s.heap.objs.size+1) (.ok .next) s'):
  wpAny (model X.prog X.w) X.A (comprehension (.ListComp elt [⟨tg,iter,[],0⟩] sc pos) sc X.env Ph (newList []) false (eval iter X.env) use) Qf X.xe s0:=by
 refine wpAny_comprehension_free (use:=use) rfl hs (rQ I0 B) hk (λy hy hl=>cD B.nd (by rw[<-hl];exact hy)) ?_
 refine wpAny_mono (hi pins s0 σ H0 _ I0 h0) (λv s1 h1=>wpAny_mono h1 (λitv s h2=> ?_) λ_ _ e=>e) λ_ _ e=>e
 obtain⟨it,fp,tn,J,H,e,I,T,st,hf,rd⟩:=h2
 subst e
 have ho:∀b∈fp,∃o,s.heap.get? b=some o:=λb hb=>let⟨o,e,_⟩:=T.obj 0 _ st b hb;⟨o,e⟩
 obtain⟨W,⟨m0,w0⟩,turn⟩:=rd s.heap.objs.size I.fresh
 refine wpAny_newObj_type ?_
 refine oW ?_
 have IB:=EE I B hk hf ho
 have Pk:∀{H':Hp},(∀b∈fp,H' b=none) -> ∀b∈fp,fQ (X.comp sc (own++N2) s H fp) [] H' b:=λhn b hb=>by
  have ok:=IB.ok
  refine⟨hn b hb,(ok.LQ b hb).1,ok.CC b hb,.inl hb,λy c hc=>(ok.LQ b hb).2 y c hc,λp hp=> ?_⟩
  have iD:p∈([]:List (Addr×Obj)):=hp
  cases iD
 have lt:∀b∈fp,b≠s.heap.objs.size:=λb hb=>let⟨o,e⟩:=ho b hb;Nat.ne_of_lt (Heap.lt_size e)
 have fin:=Pj s H fp I hf
 have loop:∀s3:Shared,s3={s with heap:=pushCells ((s.heap.push {cls:= .type "list",dict:=none,data:= .seq ([]:List Value).toArray}).push {cls:= .type "dict",data:= .dict #[]}) sc.names} ->
   codeAny (model X.prog X.w) X.A (.compLoop (.ListComp elt [⟨tg,iter,[],0⟩] sc pos) 0 (.ref it) (.ref s.heap.objs.size) (X.comp sc (own++N2) s H fp).env)
    (compPost (model X.prog X.w) X.A X.xe use Qf (.ref s.heap.objs.size) (s.heap.objs.size+1)) s3:=by
  rintro s3 rfl
  refine lU (λn s'=> ∃i acc σ' H',Inv (X.comp sc (own++N2) s H fp) [] σ' H' s'/\tn i s'.heap/\(∀b∈fp,H' b=none)/\W i n acc σ' H') ?_ m0
   ⟨0,[],_,_,IB,T.keep _ _ _ st λb _ o e=>pushCells_keeps _ _ b o (Heap.get?_push_of_some _ (Heap.get?_push_of_some _ e)),λb hb=> ?_,w0⟩
  ·rintro n s3 ⟨i,acc,σ3,H3,I3,st3,Kc,w3⟩
   rcases turn i n acc σ3 H3 w3 with⟨stop,hD,qn⟩|⟨go,hz,step⟩
   ·refine fS (T.done (X.comp sc (own++N2) s H fp) rfl rfl rfl hc i [] s3 σ3 H3 _ I3 (Pk Kc) st3 stop) λr s4 ⟨hr,I4⟩=> ?_
    subst hr
    exact fin σ3 H3 s4 I4 qn
   ·refine fS (T.item (X.comp sc (own++N2) s H fp) rfl rfl rfl hc i [] s3 σ3 H3 _ I3 (Pk Kc) st3 go) λr s4 ⟨u,hr,h4⟩=> ?_
    subst hr
    refine fS h4 λ_ s5 ⟨x,H5,I5,r5,y5,Kd,Hv⟩=> ?_
    have OQ:=I5.pinned (Pk Hv) (T.obj _ _ Kd)
    refine fS (hg s H fp _ s5 σ3 H5 x u _ OQ r5 (step x H5 y5)) λ_ s6 ⟨MJ,H6,I6,q6⟩=> ?_
    refine fS (he s H fp _ s6 MJ H6 _ I6 q6) λv s7 ⟨y,H7,I7,r7,Sy,m',hm',w7⟩=> ?_
    refine fS (mX _ s7 MJ H7 (.ref s.heap.objs.size) [y] (.ref s.heap.objs.size) [v] (λz H8=>z= .iR/\H8=upd H7 s.heap.objs.size (.lst (acc++ [y]))) I7 rfl (.cons r7 .nil) ⟨s.heap.objs.size,acc,y,rfl,rfl,Sy,hz,rfl,rfl⟩) λz s8 ⟨zz,H8,I8,_,_,e8⟩=> ?_
    subst e8
    refine⟨m',hm',i+1,acc++ [y],MJ,_,I8.lQ,T.keep _ _ _ Kd λb hb o e=>(I8.pin (b,o) (List.mem_append_right _ (List.mem_append_right _ (dS hb e)))).1,λb hb=> ?_,w7⟩
    obtain⟨o,e,d⟩:=T.obj _ _ Kd b hb
    exact(I8.pin (b,o) (List.mem_append_right _ (List.mem_append_right _ (dS hb e)))).2.1
  ·rw[aG (lt b hb)]
   exact(hf b hb).1
 have e1:(s.heap.push {cls:= .type "list",dict:=none,data:= .seq ([]:List Value).toArray}).objs.size=s.heap.objs.size+1:=Heap.size_push ..
 dsimp only
 rw[e1]
 exact codeAny_compStart_list (loop _ rfl) (T.self _ 0 _ _ _ (T.keep _ _ _ st λb _ o e=>pushCells_keeps _ _ b o (Heap.get?_push_of_some _ (Heap.get?_push_of_some _ e))) (loop _ rfl))
theorem Inv.Jl{pins:List (Addr×Obj)}{σ σ1:St}{H H1:Hp}{s s1:Shared}{h':Heap}(I:Inv X pins σ H s)(I1:Inv X pins σ1 H1 s1)(hn:H1 (s.heap.objs.size+1)=none)(sb:Heap.SameBut (s.heap.objs.size+1) s1.heap h'):Inv X pins σ1 H1 {s1 with heap:=h'}:=by
 have ne:∀b o,s.heap.get? b=some o->b≠s.heap.objs.size+1:=λb o e=>Nat.ne_of_lt (Nat.lt_succ_of_lt (Heap.lt_size e))
 refine I1.turned (it:=s.heap.objs.size+1) (t':=s1.toks) (λb o hb e=>(sb.2 b hb).trans e) hn (Nat.ne_of_gt (Nat.lt_succ_of_lt I.lt)) (.inr (Nat.le_succ_of_le I.sz)) (λy c e=> ?_) (λp hp=>ne _ _ (I.pin p hp).1)
 obtain⟨v,w⟩:=I.cell y c e
 exact Nat.ne_of_lt (Nat.lt_succ_of_lt w.lt)
theorem yi{elt iter tg:Expr}{pos:Pos}{wi:TI}{g:TG}{te:TE}(hc:X.calm=true)(hi:PI X tg iter wi)(B:pZ sc.names X.env.scope.names own N2 X.N)(hk:sc.kind= .function)
  (hg:∀s H fp,PG (X.comp sc (own++N2) s H fp) tg g)(he:∀s H fp,PE (X.comp sc (own++N2) s H fp) elt te)
  (hs:∀x,foldedSetIterable iter X.env x=pure x:=by intro _;rfl):PE X (.ListComp elt [⟨tg,iter,[],0⟩] sc pos) (lV own.length wi g te):=by
 intro pins s0 σ H0 Q I0 h0
 rw[eval_ListComp]
 refine sI (use:=none) hc hi B hk hg he hs I0 h0 λs H fp I hf σ' H' s' JB q=> ?_
 obtain⟨m,hn,_⟩:=JB.loc
 exact⟨m,hn,λh' sb=>⟨.ref s.heap.objs.size,H',I.Jl (I.EG hf JB) JB.free sb,rfl,q⟩⟩
theorem EH{i:Nat}{y:Str}{py spos:Pos}{elt iter tg:Expr}{pos:Pos}{wi:TI}{g:TG}{te:TE}(hN:X.N.Nodup)(hi':X.N[i]?=some y)(hy:X.env.scope.names.lookup y=some .local)(hc:X.calm=true)(hi:PI X tg iter wi)(B:pZ sc.names X.env.scope.names own N2 X.N)(hk:sc.kind= .function)
  (hg:∀s H fp,PG (X.comp sc (own++N2) s H fp) tg g)(he:∀s H fp,PE (X.comp sc (own++N2) s H fp) elt te)
  (hsw:swapsWith (.ListComp elt [⟨tg,iter,[],0⟩] sc pos) (some (.Name y py)) spos.line X.env=pure true:=by rfl)(hs:∀x,foldedSetIterable iter X.env x=pure x:=by intro _;rfl):
  PS X (.Assign [.Name y py] (.ListComp elt [⟨tg,iter,[],0⟩] sc pos) spos) (zN (lV own.length wi g te) (cY i)):=by
 intro pins s0 σ H0 D I0 h0
 rw[exec_Assign_Name_used _ _ _ _ hsw]
 refine wpAny_bind (wpAny_standAt (wpAny_bind ?_))
 show wpAny _ X.A (do let _<-comprehension (.ListComp elt [⟨tg,iter,[],0⟩] sc pos) sc X.env _ (newList []) false (eval iter X.env) (some (assign (.Name y py) X.env))) _ _ s0
 refine wpAny_bind (wpAny_mono (sI (use:=some (assign (.Name y py) X.env)) (Qf:=λ_ s'=>SP X pins D .next s') hc hi B hk hg he hs I0 h0 λs H fp I hf σ' H' s' JB q=> ?_) (λ_ s' hq=>wpAny_pure (wpAny_pure hq)) λ_ _ e=>e)
 have IX:=I.EG hf JB
 refine wpAny_assign_Name (uX IX hN hi' (.inl hy) (v:= .ref s.heap.objs.size) rfl (λs2 I2 ⟨a,NZ,ha⟩=> ?_) (.inr hy))
 obtain⟨m,hn,_⟩:=JB.loc
 have ea:a=X.env.locals∨a<s.heap.objs.size:=by
  rcases ha with z|z
  ·exact .inl z
  ·obtain⟨v,w⟩:=I.cell y a z
   exact .inr w.lt
 have LS:s.heap.objs.size+1≠a:=by
  rcases ea with z|z
  ·rw[z];exact Nat.ne_of_gt (Nat.lt_succ_of_lt I.lt)
  ·exact Nat.ne_of_gt (Nat.lt_succ_of_lt z)
 refine⟨m,hn.sameBut NZ LS,λh' sb=>⟨_,H',I.Jl I2 JB.free sb,q⟩⟩
end
def dG(P:Addr):HO:= .ext λh=> ∃ps:Array Value,h.get? P=some {cls:= .none,data:= .fields ps}/\TriplesOk ps.toList
structure fR(K:PySem.W.Frag)(cd:Value)(P:Addr):Prop where
 ex:∃(c:Addr) (o:Obj) (vs:Array Value) (file:Str) (tf:Tok) (flags:Int) (tg:Tok) (Kw:Bool) (text:Int) (tt:Tok),cd= .ref c/\K.lookup c=some o/\o.cls= .type "code"/\o.data= .fields vs/\vs[11]?=some (.ref P)/\
  vs.getD 18 .none= .str file tf/\vs.getD 7 .none= .int flags tg/\vs.getD 9 .none= .bool Kw/\vs.getD 10 .none= .int text tt
theorem EI{P:Program}{w:World}{H:Hp}{h:Heap}{T:Addr}{ps:Array Value}(e:h.get? T=some {cls:= .none,data:= .fields ps})(t:TriplesOk ps.toList):eU P w H h T (dG T):=
 ⟨⟨ps,e,t⟩,⟨_,e⟩,λh1 h2 ⟨qs,e1,t1⟩ k=>⟨qs,k _ e1,t1⟩⟩
theorem EJ{H:Hp}{a:Addr}{o:HO}(h:H a=some o):upd H a o=H:=by
 funext b
 unfold upd
 split
 ·rename_i e;rw[e,h]
 ·rfl
section
variable{X:Cx}{pins:List (Addr×Obj)}{σ:St}{H:Hp}{s:Shared}{P:Addr}
theorem zU{pos:Pos}{qn:Str}{sc:Scope}{Q:Value->Shared->Prop}{E:Value->Shared->Prop}{M:Model}{A:Around}(I:Inv X pins σ H s)(hcd:fR X.K X.env.code P)(hP:H P=some (dG P))
  (h:∀code h' tk,Inv X pins σ H {s with heap:=h',toks:=tk} ->Heap.ExtBut P s.heap h'->Q code {s with heap:=h',toks:=tk}):wpAny M A (genexprCode X.env pos qn sc) Q E s:=by
 obtain⟨c,o,vs,file,tf,flags,tg,Kw,text,tt,ec,hc,hcl,hd,h11,MT,h7,h9,Kx⟩:=hcd.ex
 obtain⟨⟨ps,eP,tr⟩,_,_⟩:=I.hok P _ hP
 have hcs:s.heap.get? c=some o:=I.v5 c o hc
 have hcn:H c=none:=(I.bs c o (I.ok.mod.LP c o hc)).2
 have ne:c≠P:=λe=>by rw[e,hP]at hcn;cases hcn
 have Ky:vs.getD 11 .none= .ref P:=by
  have:vs.getD 11 .none=(vs[11]?).getD .none:=by simp
  rw[this,h11];rfl
 have code:s.heap.IsCode c P ps:=⟨o,vs,file,tf,flags,tg,Kw,text,tt,_,hcs,hd,Ky,MT,h7,h9,Kx,eP,rfl,tr,ne⟩
 have tab:s.heap.TableAt c P ps:=⟨⟨o,vs,hcs,hcl,hd,h11⟩,eP⟩
 cases q:codeAmong pos ps.toList with
 |some c'=>exact wpAny_genexprCode_hit ec code q (h c' s.heap s.toks I (λ_ _ _ e=>e))
 |none=>
  refine wpAny_genexprCodeX ec code tab q λc' h' tk hx _ _ Kz _ EK _=>h _ h' tk ?_ hx
  have I':=I.write (x:=P) (e:=P) (o:=dG P) (h':=h') (t':=tk) (by rw[hP];exact trivial) (.inl rfl) (λb u hb e=>hx b u hb e) ⟨_,EK.2⟩
   (EI EK.2 (by obtain⟨_,_,_,_,_,_,_,_,_,op,_,_,_,_,_,_,_,e1,e2,e3,_⟩:=Kz;rw[EK.2]at e1;cases e1;exact e3))
  rw[EJ hP]at I'
  exact I'
end
def BM(mg:Str->Option Value)(base:Heap):Prop:=∃bm ob,mg "__builtins__"=some (.ref bm)/\bm≠builtinsNs/\base.get? bm=some ob/\ob.cls= .type "module"/\ob.dict=some builtinsNs/\ob.data= .plain
def HH(B:Around)(cenv:Env):Around:={handled:=B.handled,depth:=B.depth+1,frames:=B.frames.map (cenv:: ·),guards:=B.guards,units:=B.units+3}
def Cx.gen(X:Cx)(B:Around)(sc:Scope)(N':List Str)(code:Value)(s:Shared)(H:Hp)(fp:List Addr):Cx:=
 {X with
  N:=N'
  s₀:={s with gens:=s.gens.push .running}
  H₀:=H
  A:=HH B (genEnv sc (b9 X.env sc.names []) s.heap.objs.size code builtinsNs X.env)
  env:=genEnv sc (b9 X.env sc.names []) s.heap.objs.size code builtinsNs X.env
  outer:=X.stack
  stack:=genEnv sc (b9 X.env sc.names []) s.heap.objs.size code builtinsNs X.env::X.stack
  ex:=fp
  fn:=λ_=>false
  pn:=[]
  xe:=λ_ _=>False}
section
variable{X:Cx}{pins:List (Addr×Obj)}{σ:St}{H:Hp}{s:Shared}{sc:Scope}{own N2:List Str}{fp:List Addr}{B:Around}{code:Value}
theorem mY{sc:Scope}{y:Str}(hv:Jc sc y):∃k,sc.names.lookup y=some k/\(k= .local∨k= .cell∨k= .free):=by
 rcases hv with e|e|e
 ·exact⟨_,e,.inl rfl⟩
 ·exact⟨_,e,.inr (.inl rfl)⟩
 ·exact⟨_,e,.inr (.inr rfl)⟩
theorem eF{n:Nat}:∀{ns:List (Str×NameKind)} {acc:List (Str×Addr)},(∀y∈ns,y.2≠ .cell) ->cellsFrom n ns acc=acc
 | [],_,_=>rfl
 |(y,k)::r,acc,h=>by
  unfold cellsFrom
  have hk:(k==NameKind.cell)=false:=by simpa using h (y,k) List.mem_cons_self
  rw[hk]
  exact eF λz hz=>h z (List.mem_cons_of_mem _ hz)
theorem KA(I:Inv X pins σ H s)(Bk:pZ sc.names X.env.scope.names own N2 X.N)(hk:sc.kind= .function)(hnc:∀y∈sc.names,y.2≠ .cell)(hf:∀b∈fp,fQ X pins H b)(ho:∀b∈fp,∃o,s.heap.get? b=some o)
  (hB:B.frames=some X.stack)(hh:B.handled=none):(X.gen B sc (own++N2) code s H fp).Ok:=by
 have lt:∀b∈fp,b<s.heap.objs.size:=λb hb=>let⟨o,e⟩:=ho b hb;Heap.lt_size e
 have iS:∀y c,(b9 X.env sc.names []).lookup y=some c->(y,NameKind.free)∈sc.names/\X.env.cells.lookup y=some c:=λy c h=>by
  have h':(cellsFrom 0 sc.names (b9 X.env sc.names [])).lookup y=some c:=by rw[eF hnc];exact h
  rcases ig I Bk (mem_of_lookup h')with⟨_,q⟩|q
  ·exact absurd rfl (hnc _ q)
  ·exact q
 refine⟨I.ok.mod,hk,I.ok.glob,rfl,Nat.le_refl _,λx y c h1 h2=> ?_,λy hy=> ?_,λy c hy hc=>absurd hy (by show ¬(false=true);decide),λ_=>hh,?_,.inr ⟨rfl,rfl⟩,λb hb=>⟨?_,λy c hc=> ?_⟩,I.bs,Nat.le_trans I.ok.Hr I.sz,λb o e hb=> ?_,λb hb hs=> ?_,I.stack,I.rP⟩
 ·exact I.ok.inj x y c (iS x c h1).2 (iS y c h2).2
 ·have hy':sc.names.lookup y=some .cell∨sc.names.lookup y=some .free:=hy
  rcases hy' with e|e
  ·exact absurd rfl (hnc _ (mem_of_lookup e))
  ·obtain⟨c,hc⟩:=je I Bk y (mem_of_lookup e)
   have:=kF (n:=0) I Bk (mem_of_lookup e) hc
   rw[eF hnc]at this
   exact⟨c,this⟩
 ·show B.frames.map _=_
  rw[hB];rfl
 ·exact Nat.ne_of_lt (lt b hb)
 ·exact(hf b hb).2.2.2.2.1 y c (iS y c hc).2
 ·rcases(hf b hb).2.2.2.1 with z|z
  ·exact I.ok.CB b o e z
  ·exact absurd (Nat.lt_of_lt_of_le (Heap.lt_size (I.ok.bs b o e).1) z) (Nat.lt_irrefl _)
 ·rcases List.mem_cons.mp (I.rZ b hs)with e|e
  ·exact(hf b hb).2.1 e
  ·exact(hf b hb).2.2.1 e
theorem HJ{h':Heap}{tk:Nat}{m:Str->Option Value}(I:Inv X pins σ H s)(Bk:pZ sc.names X.env.scope.names own N2 X.N)(hk:sc.kind= .function)(hnc:∀y∈sc.names,y.2≠ .cell)(hf:∀b∈fp,fQ X pins H b)(ho:∀b∈fp,∃o,s.heap.get? b=some o)
  (hB:B.frames=some X.stack)(hh:B.handled=none)(hn:h'.Ns s.heap.objs.size m)(keep:∀b o,s.heap.get? b=some o->h'.get? b=some o):
  Inv (X.gen B sc (own++N2) code s H fp) [] (List.replicate own.length none++σ) H {s with heap:=h',toks:=tk,gens:=s.gens.push .running}:=by
 have iS:∀y c,(b9 X.env sc.names []).lookup y=some c->(y,NameKind.free)∈sc.names/\X.env.cells.lookup y=some c:=λy c h=>by
  have h':(cellsFrom 0 sc.names (b9 X.env sc.names [])).lookup y=some c:=by rw[eF hnc];exact h
  rcases ig I Bk (mem_of_lookup h')with⟨_,q⟩|q
  ·exact absurd rfl (hnc _ q)
  ·exact q
 refine⟨KA I Bk hk hnc hf ho hB hh,rfl,.refl (I.bare.bare.push rfl),Un.kept keep,⟨m,hn,λi y v e1 e2 e3=> ?_⟩,λy c hc=> ?_,I.fresh,λy c hc=>I.lI y c (iS y c hc).2,λp hp=> ?_,I.hok.kept keep,?_⟩
 ·by_cases hi:i<own.length
  ·rw[List.getElem?_append_left (by simpa using hi),List.getElem?_replicate]at e2
   split at e2<;>cases e2
  ·have yh:(own++N2)[i]?=some y:=e1
   have hi':own.length<=i:=by omega
   rw[List.getElem?_append_right (by simpa using hi'),List.length_replicate]at e2
   rw[List.getElem?_append_right hi']at yh
   have hown:y∉own:=λhm=>by
    have nd:=Bk.HF
    rw[List.nodup_append]at nd
    exact nd.2.2 y hm y (List.mem_of_getElem? yh) rfl
   refine wF I Bk (n:=0) yh e2 (eF hnc).symm (λz hz=> .inr (cD Bk.nd hz)) (λhv=>let⟨k,e,_⟩:=mY hv;⟨k,e⟩) hown keep e3 (λk e=> ?_)
   obtain⟨k',e',hk'⟩:=mY e3
   have EL:sc.names.lookup y=some k':=e'
   rw[e]at EL;cases EL
   exact hk'
 ·obtain⟨v,w⟩:=I.cell y c (iS y c hc).2
  exact⟨v,w.keeps keep⟩
 ·have iD:p∈([]:List (Addr×Obj)):=hp
  cases iD
 ·show(List.replicate own.length none++σ).length=(own++N2).length
  rw[List.length_append,List.length_append,List.length_replicate,I.len,Bk.len]
theorem Inv.Jm{σ':St}{H':Hp}{s':Shared}{N':List Str}{pl:List (Addr×Obj)}{gs:GenState}(I:Inv X pins σ H s)(hf:∀b∈fp,fQ X pins H b)(hb:gs.bare=true)(J:Inv (X.gen B sc N' code s H fp) pl σ' H' s'):
  Inv X pins σ H' (s'.setGen s.gens.size gs):=by
 have sz:s.gens.size+1<=s'.gens.size:=by
  have:=J.bare.size
  simpa [Cx.gen]using this
 refine I.Eo (ch:=fp) J.os J.base J.hok ⟨?_,?_,λk hk=> ?_⟩ λb hb=>⟨(hf b hb).2.2.2.1,(hf b hb).2.1,(hf b hb).2.2.2.2.1,(hf b hb).2.2.2.2.2⟩
 ·intro y hy
  simp only[Shared.setGen]at hy
  rcases Array.mem_or_eq_of_mem_setIfInBounds hy with q|q
  ·exact J.bare.bare y q
  ·rw[q];exact hb
 ·simp only[Shared.setGen,Array.size_setIfInBounds]
  omega
 ·have e:=J.bare.old k (by simp[Cx.gen];omega)
  simp only[Shared.setGen]
  rw[Array.getElem?_setIfInBounds_ne (by omega),e]
  show(s.gens.push .running)[k]?=s.gens[k]?
  rw[Array.getElem?_push_lt (by omega)]
  simp[hk]
end
theorem j5{B:Around}{elt:Expr}{gens:List Comprehension}{sc:Scope}{pos:Pos}{it acc:Value}{cenv:Env}:
  B.over (.compLoop (.GeneratorExp elt gens sc pos) 0 it acc cenv) []=HH B cenv:=by
 unfold Around.over HH
 congr 1
section
variable(X:Cx)(B:Around)(sc:Scope)(N':List Str)(code:Value)(sC:Shared)(HC:Hp)(fp Ss:List Addr)(tn:Nat->Heap->Prop)(cnt:Nat)(R:Nat->V->Prop)(W:Nat->St->Hp->Prop)
def wG:Protocol:=λn s₀ v s Sz=> ∃pl σ' H' x,(∀p∈pl,p.1∉Ss)/\Inv (X.gen B sc N' code sC HC fp) (cK Ss s₀.heap++pl) σ' H' s/\tn (cnt-n) s.heap/\(∀b∈fp,H' b=none)/\RelV x v/\R (cnt-n-1) x/\W (cnt-n) σ' H'/\
 ∀s'':Shared,(∀b∈Ss,∃o,s''.heap.get? b=some o) ->Inv (X.gen B sc N' code sC HC fp) (cK Ss s''.heap++pl) σ' H' s''->tn (cnt-n) s''.heap->Sz (.send .none) s''
def HK:GenEnd:=λn s₀ r s₁=>r= .ok .next/\n=0/\ ∃σ' H',Inv (X.gen B sc N' code sC HC fp) (cK Ss s₀.heap) σ' H' s₁/\W cnt σ' H'
end
section
variable{X:Cx}{B:Around}{sc:Scope}{N':List Str}{code:Value}{sC:Shared}{HC:Hp}{fp Ss:List Addr}{tn:Nat->Heap->Prop}{cnt:Nat}{R:Nat->V->Prop}{W:Nat->St->Hp->Prop}
variable{elt iter tg:Expr}{pos:Pos}{it:Addr}{J:It}{g:TG}{te:TE}
theorem yj{Ss:List Addr}{h:Heap}{p:Addr×Obj}(hp:p∈cK Ss h):p.1∈Ss:=(jb hp).1
theorem zV{pl:List (Addr×Obj)}{σ':St}{H' H2:Hp}{s:Shared}(I:Inv (X.gen B sc N' code sC HC fp) pl σ' H2 s)(hn:∀b∈fp,H' b=none)(hd:∀p∈pl,p.1∉fp):∀b∈fp,fQ (X.gen B sc N' code sC HC fp) pl H' b:=λb hb=>by
 have ok:=I.ok
 refine⟨hn b hb,(ok.LQ b hb).1,ok.CC b hb,.inl hb,λy c hc=>(ok.LQ b hb).2 y c hc,λp hp e=> ?_⟩
 have iD:p∈pl:=by simpa [Cx.gen]using hp
 exact hd p iD (by rw[e];exact hb)
theorem HL(hco:sc.isCoroutine=false)(hc:X.calm=true)(T:Turn X.prog X.w X.K tg J fp it tn)(hg:PG (X.gen B sc N' code sC HC fp) tg g)(he:PE (X.gen B sc N' code sC HC fp) elt te)(EM:∀b∈fp,b∉Ss)
  (turn:∀i σ' H',i<cnt->W i σ' H'->J.go i H'/\ ∀x H2,J.zO i H' x H2->g x σ' H2 λσ3 H3=>te σ3 H3 λv H4=>R i v/\W (i+1) σ3 H4)
  (stop:∀σ' H',W cnt σ' H'->J.stop cnt H'):
  ∀(n i:Nat) (σ':St) (H':Hp) (s₀ s:Shared),n+i=cnt->W i σ' H'->Inv (X.gen B sc N' code sC HC fp) (cK Ss s₀.heap) σ' H' s->tn i s.heap->(∀b∈fp,H' b=none) ->
   Seg (model X.prog X.w) B (HK X B sc N' code sC HC fp Ss cnt W) (wG X B sc N' code sC HC fp Ss tn cnt R W) n s₀ (.compLoop (.GeneratorExp elt [⟨tg,iter,[],0⟩] sc pos) 0 (.ref it) .none (X.gen B sc N' code sC HC fp).env)
    ((model X.prog X.w).den (.compLoop (.GeneratorExp elt [⟨tg,iter,[],0⟩] sc pos) 0 (.ref it) .none (X.gen B sc N' code sC HC fp).env)) [] s:=by
 have Pn:∀{h:Heap},∀p∈cK Ss h,p.1∉fp:=λp hp hb=>EM p.1 hb (yj hp)
 intro n
 induction n with
 |zero=>
  intro i σ' H' s₀ s hn w I st fr
  obtain rfl:i=cnt:=by omega
  show Seg _ B _ _ _ s₀ _ ((compTurn (.GeneratorExp elt [⟨tg,iter,[],0⟩] sc pos) 0 (.ref it) .none (X.gen B sc N' code sC HC fp).env).onRaise (leaving (X.gen B sc N' code sC HC fp).env)) [] s
  rw[compTurn_gen,Sem.onRaise_eq_wrap]
  refine seg_bind_wrap (wpAny_standAt ?_)
  refine seg_bind_wrap ?_
  rw[j5]
  refine fS (T.done (X.gen B sc N' code sC HC fp) rfl rfl rfl hc i _ s σ' H' _ I (zV I fr Pn) st (stop σ' H' w)) λr s1 ⟨hr,I1⟩=> ?_
  subst hr
  exact seg_end (.ok .next) ⟨rfl,rfl,σ',H',I1,w⟩
 |succ n ih=>
  intro i σ' H' s₀ s hn w I st fr
  have hi:i<cnt:=by omega
  obtain⟨go,step⟩:=turn i σ' H' hi w
  show Seg _ B _ _ _ s₀ _ ((compTurn (.GeneratorExp elt [⟨tg,iter,[],0⟩] sc pos) 0 (.ref it) .none (X.gen B sc N' code sC HC fp).env).onRaise (leaving (X.gen B sc N' code sC HC fp).env)) [] s
  rw[compTurn_gen,Sem.onRaise_eq_wrap]
  refine seg_bind_wrap (wpAny_standAt ?_)
  refine seg_bind_wrap ?_
  rw[j5]
  refine fS (T.item (X.gen B sc N' code sC HC fp) rfl rfl rfl hc i _ s σ' H' _ I (zV I fr Pn) st go) λr s1 ⟨u,hr,h1⟩=> ?_
  subst hr
  refine seg_bind_wrap ?_
  rw[j5]
  refine wpAny_mono h1 (λ_ s2 ⟨x,H2,I2,r2,y2,st2,MU⟩=> ?_) λ_ _ z=>z
  have SA:=I2.pinned (zV I2 MU Pn) (T.obj _ _ st2)
  refine seg_bind_wrap ?_
  rw[j5]
  refine wpAny_mono (hg _ s2 σ' H2 x u _ SA r2 (step x H2 y2)) (λ_ s3 ⟨σ3,H3,I3,q3⟩=> ?_) λ_ _ z=>z.elim
  simp only[List.forIn_nil,if_true]
  refine seg_bind_wrap (wpAny_pure ?_)
  have hy:∀v,yieldOut (X.gen B sc N' code sC HC fp).env v=yieldValue v:=λv=>by
   have q:(X.gen B sc N' code sC HC fp).env.scope.isCoroutine=false:=hco
   simp only[yieldOut,q,Bool.false_eq_true,if_false]
  simp only[if_true,hy]
  rw[Sem.bind_eq_wrap',Sem.bind_eq_wrap',Sem.wrap_wrap,Sem.wrap_wrap]
  refine seg_wrap ?_
  rw[j5]
  refine wpAny_mono (he _ s3 σ3 H3 _ I3 q3) (λv s4 ⟨y,H4,I4,r4,hR,w4⟩=> ?_) λ_ _ z=>z.elim
  have SE:tn (i+1) s4.heap:=T.keep _ _ _ st2 λb hb o e=>(I4.pin (b,o) (List.mem_append_right _ (List.mem_append_right _ (dS hb e)))).1
  have QN:∀b∈fp,H4 b=none:=λb hb=>by
   obtain⟨o,e,d⟩:=T.obj _ _ st2 b hb
   exact(I4.pin (b,o) (List.mem_append_right _ (List.mem_append_right _ (dS hb e)))).2.1
  have ei:cnt-n=i+1:=by omega
  refine seg_at (seg_yield rfl rfl rfl ⟨[],σ3,H4,y,(λ_ h=>nomatch h),(by rw[List.append_nil];exact I4.lQ),by rw[ei];exact SE,QN,r4,by rw[ei];exact hR,by rw[ei];exact w4,λs'' _ KC st''=> ?_⟩)
  rw[ei]at st''
  rw[List.append_nil]at KC
  exact seg_again rfl (ih (i+1) σ3 H4 s'' s'' (by omega) w4 KC st'' QN)
end
theorem EN{s:Shared}{g:Nat}{gs:GenState}(h:s.gens[g]?=some .running):(s.setGen g gs).setGen g .running=s:=by
 obtain⟨hh,gens,d,t,os⟩:=s
 have hlt:g<gens.size:=by
  rcases Nat.lt_or_ge g gens.size with q|q
  ·exact q
  ·have z:gens[g]?=none:=Array.getElem?_eq_none q
   have h':gens[g]?=some .running:=h
   rw[z]at h';cases h'
 have q:(gens.setIfInBounds g gs).setIfInBounds g .running=gens:=by
  apply Array.ext_getElem?
  intro i
  by_cases e:g=i
  ·subst e
   rw[Array.getElem?_setIfInBounds_self_of_lt (by simpa using hlt)]
   exact h.symm
  ·rw[Array.getElem?_setIfInBounds_ne e,Array.getElem?_setIfInBounds_ne e]
 show({heap:=hh,gens:=(gens.setIfInBounds g gs).setIfInBounds g .running,drawn:=d,toks:=t,os:=os}:Shared)=_
 rw[q]
theorem kH:∀{Ss:List Addr} {h h':Heap},(∀b∈Ss,∃o,h.get? b=some o/\h'.get? b=some o) ->cK Ss h'=cK Ss h
 | [],_,_,_=>rfl
 |b::r,h,h',k=>by
  obtain⟨o,e1,e2⟩:=k b List.mem_cons_self
  unfold cK
  rw[List.filterMap_cons,List.filterMap_cons,e1,e2]
  show(b,o)::cK r h'=(b,o)::cK r h
  rw[kH λc hc=>k c (List.mem_cons_of_mem _ hc)]
section
variable(X:Cx)(B:Around)(sc:Scope)(N':List Str)(code:Value)(sC:Shared)(HC:Hp)(fp Ss:List Addr)(tn:Nat->Heap->Prop)(cnt:Nat)(R:Nat->V->Prop)(W:Nat->St->Hp->Prop)
structure zM(a:Addr)(i:Nat)(s:Shared):Prop where
 gen:s.heap.IsGen a sC.gens.size
 ex:∃gs pl σ' H',(∀p∈pl,p.1∉Ss)/\s.gens[sC.gens.size]?=some gs/\gs.bare=true/\Inv (X.gen B sc N' code sC HC fp) (cK Ss s.heap++pl) σ' H' (s.setGen sC.gens.size .running)/\tn i s.heap/\(∀b∈fp,H' b=none)/\W i σ' H'/\
  ∀s'':Shared,(∀b∈Ss,∃o,s''.heap.get? b=some o) ->Inv (X.gen B sc N' code sC HC fp) (cK Ss s''.heap++pl) σ' H' s''->tn i s''.heap->gs.Goes (model X.prog X.w) B (HK X B sc N' code sC HC fp Ss cnt W) (wG X B sc N' code sC HC fp Ss tn cnt R W) (cnt-i) (.send .none) s''
end
section
variable{X:Cx}{D:Around}{sc:Scope}{N':List Str}{code:Value}{sC:Shared}{HC:Hp}{fp Ss:List Addr}{tn:Nat->Heap->Prop}{cnt:Nat}{R:Nat->V->Prop}{W:Nat->St->Hp->Prop}{a:Addr}{i:Nat}{s:Shared}
theorem Inv.BG{pl:List (Addr×Obj)}{σ':St}{H':Hp}{s':Shared}(I:Inv X pl σ' H' s'):s'.heap.NoLimit:=I.nolimit
theorem zW{B:Around}{pl:List (Addr×Obj)}{σ':St}{H':Hp}{s':Shared}(I:Inv (X.gen B sc N' code sC HC fp) pl σ' H' s'):s'.gens[sC.gens.size]?=some .running:=by
 have e:=I.bare.old sC.gens.size (by simp[Cx.gen])
 rw[e]
 show(sC.gens.push .running)[sC.gens.size]?=_
 simp
theorem zM.item{Q:Option Value->Shared->Prop}{E:Value->Shared->Prop}(G:zM X D.in1 sc N' code sC HC fp Ss tn cnt R W a i s)(hh:D.handled=none)(hroom:D.depth<recursionLimit)(ha:a∈Ss)(hs:∀b∈Ss,∃o,s.heap.get? b=some o)(hi:i<cnt)
  (hQ:∀v x s',RelV x v->R i x->zM X D.in1 sc N' code sC HC fp Ss tn cnt R W a (i+1) s'->(∀b∈Ss,∀o,s.heap.get? b=some o->s'.heap.get? b=some o) ->Q (some v) s'):
  wpAny (model X.prog X.w) D (pyNext (.ref a)) Q E s:=by
 obtain⟨gs,pl,σ',H',hpl,e1,e2,I,st,fr,w,go⟩:=G.ex
 have gg:=go (s.setGen sC.gens.size .running) hs I st
 obtain⟨m,hm⟩:∃m,cnt-i=m+1:=⟨cnt-i-1,by omega⟩
 rw[hm]at gg
 refine wpAny_pyNext_genexpQ (P:=λn s₀ s₁=>n=0/\ ∃σ' H',Inv (X.gen D.in1 sc N' code sC HC fp) (cK Ss s₀.heap) σ' H' s₁/\W cnt σ' H') hh I.BG hroom G.gen e1 gg (λv s1 gs' hb hy=> ?_) (λs1 hp=> ?_)
 ·obtain⟨Pq,σ1,H1,x,MV,I1,st1,LU,r1,hR,w1,Oa⟩:=hy
  have ei:cnt- (m+1-1)=i+1:=by omega
  rw[ei]at st1 w1 Oa hR
  have kp:∀b∈Ss,∀o,s.heap.get? b=some o->s1.heap.get? b=some o:=λb hb o e=>(I1.pin (b,o) (List.mem_append_right _ (List.mem_append_left _ (dS hb e)))).1
  have eq:cK Ss s1.heap=cK Ss s.heap:=kH λb hb=>let⟨o,e⟩:=hs b hb;⟨o,e,kp b hb o e⟩
  have run:=zW I1
  refine hQ v x _ r1 hR ⟨?_,gs',Pq,σ1,H1,MV,setGen_self run,hb,?_,st1,LU,w1,?_⟩ kp
  ·obtain⟨o,nm,qn,eo,r⟩:=G.gen
   exact⟨o,nm,qn,kp a ha o eo,r⟩
  ·rw[EN run]
   show Inv _ (cK Ss s1.heap++Pq) σ1 H1 s1
   rw[eq]
   exact I1
  ·have e3:cnt- (i+1)=m:=by omega
   rw[e3]
   exact Oa
 ·exact absurd hp.1 (by omega)
theorem zM.done{pins:List (Addr×Obj)}{σ:St}{Q:Option Value->Shared->Prop}{E:Value->Shared->Prop}(G:zM X D.in1 sc N' code sC HC fp Ss tn cnt R W a cnt s)(IC:Inv X pins σ HC sC)(hf:∀b∈fp,fQ X pins HC b)(hh:D.handled=none)(hroom:D.depth<recursionLimit)(hs:∀b∈Ss,∃o,s.heap.get? b=some o)
  (hQ:∀s' σ' H',Inv X pins σ H' s'->W cnt σ' H'->Q none s'):
  wpAny (model X.prog X.w) D (pyNext (.ref a)) Q E s:=by
 obtain⟨gs,pl,σ',H',hpl,e1,e2,I,st,fr,w,go⟩:=G.ex
 have gg:=go (s.setGen sC.gens.size .running) hs I st
 rw[Nat.sub_self]at gg
 refine wpAny_pyNext_genexpQ (P:=λn s₀ s₁=>n=0/\ ∃σ' H',Inv (X.gen D.in1 sc N' code sC HC fp) (cK Ss s₀.heap) σ' H' s₁/\W cnt σ' H') hh I.BG hroom G.gen e1 gg (λv s1 gs' hb hy=> ?_) (λs1 hp h' k=> ?_)
 ·obtain⟨Pq,σ1,H1,x,MV,I1,st1,LU,r1,hR,w1,Oa⟩:=hy
  have kp:∀b∈Ss,∀o,s.heap.get? b=some o->s1.heap.get? b=some o:=λb hb o e=>(I1.pin (b,o) (List.mem_append_right _ (List.mem_append_left _ (dS hb e)))).1
  have eq:cK Ss s1.heap=cK Ss s.heap:=kH λb hb=>let⟨o,e⟩:=hs b hb;⟨o,e,kp b hb o e⟩
  exact False.elim (Oa s1 (λb hb=>let⟨o,e⟩:=hs b hb;⟨o,kp b hb o e⟩) (by rw[eq];exact I1) st1)
 ·obtain⟨_,σ1,H1,I1,w1⟩:=hp
  have I2:=Inv.Jm (gs:= .finished) IC hf rfl I1
  exact hQ _ σ1 H1 (I2.kept (t':=s1.toks) k) w1
end
section
variable{X:Cx}{B:Around}{sc:Scope}{N':List Str}{code:Value}{sC:Shared}{HC:Hp}{fp Ss:List Addr}{tn:Nat->Heap->Prop}{cnt:Nat}{R:Nat->V->Prop}{W:Nat->St->Hp->Prop}
variable{elt iter tg:Expr}{pos:Pos}{it:Addr}{J:It}{g:TG}{te:TE}
theorem EO(hco:sc.isCoroutine=false)(hc:X.calm=true)(T:Turn X.prog X.w X.K tg J fp it tn)(hg:PG (X.gen B sc N' code sC HC fp) tg g)(he:PE (X.gen B sc N' code sC HC fp) elt te)(EM:∀b∈fp,b∉Ss)
  (turn:∀i σ' H',i<cnt->W i σ' H'->J.go i H'/\ ∀x H2,J.zO i H' x H2->g x σ' H2 λσ3 H3=>te σ3 H3 λv H4=>R i v/\W (i+1) σ3 H4)
  (stop:∀σ' H',W cnt σ' H'->J.stop cnt H'){σ':St}{H':Hp}{s:Shared}(w:W 0 σ' H')(I:Inv (X.gen B sc N' code sC HC fp) (cK Ss s.heap) σ' H' s)(st:tn 0 s.heap)(fr:∀b∈fp,H' b=none):
  Seg (model X.prog X.w) B (HK X B sc N' code sC HC fp Ss cnt W) (wG X B sc N' code sC HC fp Ss tn cnt R W) cnt s (.compStart (.GeneratorExp elt [⟨tg,iter,[],0⟩] sc pos) 0 (.ref it) .none (X.gen B sc N' code sC HC fp).env)
   ((model X.prog X.w).den (.compStart (.GeneratorExp elt [⟨tg,iter,[],0⟩] sc pos) 0 (.ref it) .none (X.gen B sc N' code sC HC fp).env)) [] s:=by
 have lp:=HL (iter:=iter) (pos:=pos) hco hc T hg he EM turn stop cnt 0 σ' H' s s (Nat.add_zero _) w I st fr
 show Seg _ B _ _ _ s _ ((compStart (.GeneratorExp elt [⟨tg,iter,[],0⟩] sc pos) 0 (.ref it) .none (X.gen B sc N' code sC HC fp).env).onRaise (leaving (X.gen B sc N' code sC HC fp).env)) [] s
 unfold compStart
 rw[Sem.onRaise_eq_wrap]
 show Seg _ B _ _ _ s _ ((ask>>=_).wrap _ _ _ _) [] s
 refine seg_bind_wrap (wpAny_askSetting ?_)
 split
 ·exact seg_again rfl lp
 ·first
   |exact seg_bind_wrap (wpAny_rule (seg_bind_wrap (wpAny_standAt (seg_bind_wrap (T.self _ 0 s _ _ st (seg_again rfl lp))))))
   |(refine seg_bind_wrap (wpAny_rule ?_);(show Seg _ B _ _ _ s _ ((standAt iter.pos>>=_).wrap _ _ _ _) [] s);exact seg_bind_wrap (wpAny_standAt (seg_bind_wrap (T.self _ 0 s _ _ st (seg_again rfl lp)))))
end
def vj(k:Nat)(g:TG)(te:TE)(σ:St)(F:Nat->(Nat->V->Prop) ->(Nat->St->Hp->Prop) ->Prop)(J:It)(H:Hp):Prop:=∃(cnt:Nat) (R:Nat->V->Prop) (W:Nat->St->Hp->Prop),W 0 (List.replicate k none++σ) H/\
 (∀i σ' H',i<cnt->W i σ' H'->J.go i H'/\ ∀x H2,J.zO i H' x H2->g x σ' H2 λσ3 H3=>te σ3 H3 λv H4=>R i v/\W (i+1) σ3 H4)/\(∀σ' H',W cnt σ' H'->J.stop cnt H')/\F cnt R W
theorem nM(elt target iter:Expr)(ifs:List Expr)(cls:List Comprehension)(scope:Scope)(pos:Pos)(env:Env)(hco:scope.isCoroutine=false):
  eval (.GeneratorExp elt (⟨target,iter,ifs,0⟩::cls) scope pos) env=(do
   let x<-eval iter env
   standAt iter.pos
   let x<-genFold iter env x
   let it<-holding [x] (pyIter x)
   enterFrame
   let cl<-closureFor scope env
   let code<-genexprCode env pos (env.qual++ "<genexpr>") scope
   let bi<-builtinsFor env.globals env.builtins
   let cenv<-newFunctionEnv scope env.globals cl [(".0",it)] (env.qual++ "<genexpr>.") none code none bi
   newGenerator (.compStart (.GeneratorExp elt (⟨target,iter,ifs,0⟩::cls) scope pos) 0 it .none cenv) "<genexpr>" (env.qual++ "<genexpr>")):=by
 rw[arm_eval_GeneratorExp]
 simp only[hco,Bool.false_eq_true,if_false]
 cases iter<;>rfl
section
variable{M:Model}{A:Around}{E:Value->Shared->Prop}{s:Shared}
theorem jM{env:Env}{elt target iter:Expr}{ifs:List Expr}{cls:List Comprehension}{scope:Scope}{cl:List (Str×Addr)}{pos:Pos}{Q:Value->Shared->Prop}
  (hco:scope.isCoroutine=false)(hclos:closureFor scope env=pure cl)(hcell:∀y∈scope.names,y.2≠ .cell)(h0:scope.names.lookup (".0":Str)=some NameKind.local)(hkind:scope.kind= .function)
  (hroom:A.depth<recursionLimit)
  (h:wpAny M A (eval iter env) (λxv s₁=>wpAny M A (pyIter xv) (λit s₂=>s₂.heap.NoLimit/\
   wpAny M A (genexprCode env pos (env.qual++ "<genexpr>") scope) (λcode s₃=>wpAny M A (builtinsFor env.globals env.builtins) (λbi s₄=>
    ∀h',h'.Ns s₄.heap.objs.size (λy=>if y= ".0" then some it else none) ->Heap.SameBut s₄.heap.objs.size (s₄.heap.push {cls:= .type "frame",data:= .dict #[]}) h'->
     Q (.ref h'.objs.size) {s₄ with
      gens:=s₄.gens.push (.fresh (.compStart (.GeneratorExp elt (⟨target,iter,ifs,0⟩::cls) scope pos) 0 it .none (genEnv scope cl s₄.heap.objs.size code bi env))),
      toks:=s₄.toks+1+1+1,
      heap:=h'.push {cls:= .type "generator",data:= .fields #[.int s₄.gens.size 0,.str "<genexpr>" (s₄.toks+1),.str (env.qual++ "<genexpr>") (s₄.toks+1+1)]}}) E s₃) E s₂) E s₁) E s)
  (hs:∀x,genFold iter env x=pure x):
  wpAny M A (eval (.GeneratorExp elt (⟨target,iter,ifs,0⟩::cls) scope pos) env) Q E s:=by
 rw[nM _ _ _ _ _ _ _ _ hco,hclos]
 refine wpAny_bind (wpAny_mono h (λxv s₁ h₁=> ?_) λ_ _ e=>e)
 refine wpAny_bind (wpAny_standAt ?_)
 refine wpAny_bind (wpAny_of_eq (hs xv) ?_)
 refine wpAny_bind (wpAny_holding (wpAny_mono h₁ (λit s₂ h₂=> ?_) λ_ _ e=>e))
 refine wpAny_bind (wpAny_enterFrame h₂.1 hroom ?_)
 refine wpAny_bind (wpAny_pure ?_)
 refine wpAny_bind (wpAny_mono h₂.2 (λcode s₃ h₃=> ?_) λ_ _ e=>e)
 refine wpAny_bind (wpAny_mono h₃ (λbi s₄ h₄=> ?_) λ_ _ e=>e)
 have KD:∀y∈([((".0":Str),it)]:List (Str×Value)),scope.names.lookup y.1=some NameKind.local:=by
  intro y hy
  rcases List.mem_cons.mp hy with rfl|hy
  ·exact h0
  ·cases hy
 refine wpAny_bind (wpAny_newFunctionEnv hcell KD (λh' hn' hs'=> ?_) hkind)
 have e:(λy:Str=>([((".0":Str),it)]:List (Str×Value)).reverse.lookup y)=λy:Str=>if y=(".0":Str)then some it else none:=by
  funext y
  by_cases hy:y= ".0"
  ·subst hy;simp
  ·have:(y==(".0":Str))=false:=by simpa using hy
   simp[List.lookup,this,hy]
 rw[e]at hn'
 simp only[newGenerator,newFields]
 refine wpAny_bind (wpAny_newGen (wpAny_bind (wpAny_mkText (wpAny_bind (wpAny_mkText (wpAny_newObj_type ?_ (by size_fits)))))))
 exact h₄ h' hn' hs'
end
section
variable{X:Cx}{sc:Scope}{own N2:List Str}{elt iter tg:Expr}{pos:Pos}{wi:TI}{g:TG}{te:TE}{P:Addr}
theorem ER{ifs:List Expr}{cls:List Comprehension}{Rd:It->Hp->Prop}{pins:List (Addr×Obj)}{σ:St}{H0:Hp}{s0:Shared}{F:Nat->(Nat->V->Prop) ->(Nat->St->Hp->Prop) ->Prop}(more:Nat->List Addr)(hmore:∀a,∀b∈more a,a<b)
  (hc:X.calm=true)(hroom:X.A.depth<recursionLimit)(hi:PI X tg iter wi)(Bk:pZ sc.names X.env.scope.names own N2 X.N)(hk:sc.kind= .function)(hco:sc.isCoroutine=false)(hnc:∀y∈sc.names,y.2≠ .cell)(Pr:sc.names.lookup (".0":Str)=some NameKind.local)
  (hcd:fR X.K X.env.code P)(bm:BM X.mg X.base)
  (hs:∀x,genFold iter X.env x=pure x)
  (Pu:∀code s H fp it Jo J,Turn X.prog X.w X.K tg J fp it Jo->(∀b∈fp,H b=none) ->Rd J H-> ∃cnt R W tn,F cnt R W/\W 0 (List.replicate own.length none++σ) H/\(∀h,Jo 0 h↔tn 0 h)/\(∀i h h',tn i h->(∀b∈fp,∀o,h.get? b=some o->h'.get? b=some o) ->tn i h')/\
   ∀Ss:List Addr,(∀b∈fp,b∉Ss) -> ∀s'':Shared,(∀b∈Ss,∃o,s''.heap.get? b=some o) ->Inv (X.gen X.A.in1.in1 sc (own++N2) code s H fp) (cK Ss s''.heap) (List.replicate own.length none++σ) H s''->Jo 0 s''.heap->
    Seg (model X.prog X.w) X.A.in1.in1 (HK X X.A.in1.in1 sc (own++N2) code s H fp Ss cnt W) (wG X X.A.in1.in1 sc (own++N2) code s H fp Ss tn cnt R W) cnt s'' (.compStart (.GeneratorExp elt (⟨tg,iter,ifs,0⟩::cls) sc pos) 0 (.ref it) .none (X.gen X.A.in1.in1 sc (own++N2) code s H fp).env)
     ((model X.prog X.w).den (.compStart (.GeneratorExp elt (⟨tg,iter,ifs,0⟩::cls) sc pos) 0 (.ref it) .none (X.gen X.A.in1.in1 sc (own++N2) code s H fp).env)) [] s'')
  (I0:Inv X pins σ H0 s0)(h:wi σ H0 λJ H=>H P=some (dG P)/\Rd J H):
  wpAny (model X.prog X.w) X.A (eval (.GeneratorExp elt (⟨tg,iter,ifs,0⟩::cls) sc pos) X.env) (λu s5=> ∃a cnt R W sC HC fp code tn,u= .ref a/\s5.heap.objs.size=a+1/\
   zM X X.A.in1.in1 sc (own++N2) code sC HC fp (a::more a) tn cnt R W a 0 s5/\Inv X pins σ HC sC/\(∀b∈fp,fQ X pins HC b)/\sC.heap.objs.size<a/\(∀b∈fp,b<sC.heap.objs.size)/\(∀i h h',tn i h->(∀b∈fp,∀o,h.get? b=some o->h'.get? b=some o) ->tn i h')/\F cnt R W) X.xe s0:=by
 refine jM hco (rQ I0 Bk) hnc Pr hk hroom ?_ hs
 refine wpAny_mono (hi pins s0 σ H0 _ I0 h) (λxv s1 h1=>wpAny_mono h1 (λitv s2 h2=> ?_) λ_ _ e=>e) λ_ _ e=>e
 obtain⟨it,fp,Jo,J,H,e,I,T,st,hf,hP,SG⟩:=h2
 subst e
 refine⟨I.BG,zU I hcd hP λcode h3 QO I3 ext=> ?_⟩
 obtain⟨Ob,ob,b1,b2,b3,b4,b5,b6⟩:=bm
 refine wpAny_builtinsFor (m:=X.mg) (by rw[I3.ok.glob];exact I3.mod.glob.keeps I3.bk) b1 b2 (I3.bk _ _ b3) b4 b5 b6 ?_
 intro h' hn' hs'
 have st3:Jo 0 h3:=T.keep _ _ _ st λb hb o e=>ext b o (λz=>by have:=(hf b hb).1;rw[z,hP]at this;cases this) e
 have Pw:∀b∈fp,∃o,h3.get? b=some o:=λb hb=>let⟨o,e,_⟩:=T.obj 0 _ st3 b hb;⟨o,e⟩
 have Jp:∀b o,h3.get? b=some o->h'.get? b=some o:=λb o e=>hs'.extBut b o (Nat.ne_of_lt (Heap.lt_size e)) (Heap.get?_push_of_some _ e)
 have sz':h'.objs.size=h3.objs.size+1:=by rw[hs'.1,Heap.size_push]
 have IG:=λ (hx:Heap) (tk:Nat) (m:Str->Option Value) (hn:hx.Ns h3.objs.size m) (kp:∀b o,h3.get? b=some o->hx.get? b=some o)=>
  HJ (B:=X.A.in1.in1) (code:=code) (fp:=fp) (h':=hx) (tk:=tk) I3 Bk hk hnc hf Pw I3.ok.frames (I3.ok.hd hc) hn kp
 obtain⟨cnt,R,W,tn,hF,w0,QS,ES,sg⟩:=Pu code {s2 with heap:=h3,toks:=QO} H fp it Jo J T (λb hb=>(hf b hb).1) SG
 refine⟨h'.objs.size,cnt,R,W,{s2 with heap:=h3,toks:=QO},H,fp,code,tn,rfl,by rw[Heap.size_push],⟨⟨_,_,_,Heap.get?_push_size _ rfl,rfl,rfl,rfl⟩,.fresh _,[],List.replicate own.length none++σ,H,(λ_ h=>nomatch h),Array.getElem?_push_size ..,rfl,?_,?_,λb hb=>(hf b hb).1,w0,?_⟩,I3,hf,by show h3.objs.size<h'.objs.size;omega,λb hb=>let⟨o,e⟩:=Pw b hb;Heap.lt_size e,ES,hF⟩
 ·have eg:(s2.gens.push (GenState.fresh (.compStart (.GeneratorExp elt (⟨tg,iter,ifs,0⟩::cls) sc pos) 0 (.ref it) .none (genEnv sc (b9 X.env sc.names []) h3.objs.size code builtinsNs X.env)))).setIfInBounds s2.gens.size .running=s2.gens.push .running:=by
   apply Array.ext_getElem?
   intro i
   by_cases e:s2.gens.size=i
   ·subst e
    rw[Array.getElem?_setIfInBounds_self_of_lt (by simp)]
    simp
   ·rw[Array.getElem?_setIfInBounds_ne e,Array.getElem?_push,Array.getElem?_push]
    simp[Ne.symm e]
  simp only[Shared.setGen]
  rw[eg,List.append_nil]
  refine Inv.iT (pins:=[]) (IG _ _ _ (hn'.push _) (λb o e=>Heap.get?_push_of_some _ (Jp b o e))) λp hp=> ?_
  obtain⟨q1,q2⟩:=jb hp
  have ep:p.1=h'.objs.size:=by
   rcases List.mem_cons.mp q1 with z|z
   ·exact z
   ·have l1:=hmore _ _ z
    have l2:=Heap.lt_size q2
    rw[Heap.size_push]at l2
    exact absurd (Nat.lt_of_lt_of_le l1 (Nat.le_of_lt_succ l2)) (Nat.lt_irrefl _)
  have big:h3.objs.size<=p.1:=by rw[ep,sz'];exact Nat.le_succ _
  have KG:h3.objs.size<p.1:=by rw[ep,sz'];exact Nat.lt_succ_self _
  refine⟨q2,I3.hok.fresh big,Nat.ne_of_gt KG,λz=> ?_,λv=> ?_⟩
  ·rcases List.mem_cons.mp (I3.rZ p.1 z)with y|y
   ·have l:X.env.locals<h3.objs.size:=I3.lt
    rw[y]at KG
    exact absurd (Nat.lt_trans l KG) (Nat.lt_irrefl _)
   ·exact I3.Mr big y
  ·rw[ep]at q2
   rw[Heap.get?_push_size _ rfl]at q2
   intro z
   rw[<-Option.some.inj q2]at z
   cases z
 ·exact(QS _).1 (T.keep _ _ _ st3 λb hb o e=>Heap.get?_push_of_some _ (Jp b o e))
 ·intro s'' Px KC st''
  rw[List.append_nil]at KC
  refine⟨rfl,?_⟩
  rw[Nat.sub_zero]
  refine sg _ (λb hb z=> ?_) s'' Px KC ((QS _).2 st'')
  have l:b<h3.objs.size:=let⟨o,e⟩:=Pw b hb;Heap.lt_size e
  rcases List.mem_cons.mp z with y|y
  ·rw[y,sz']at l
   exact absurd (Nat.lt_of_succ_lt l) (Nat.lt_irrefl _)
  ·have l2:=hmore _ _ y
   rw[sz']at l2
   exact absurd (Nat.lt_trans (Nat.lt_trans l (Nat.lt_succ_self _)) l2) (Nat.lt_irrefl _)
theorem BH{pins:List (Addr×Obj)}{σ:St}{H0:Hp}{s0:Shared}{F:Nat->(Nat->V->Prop) ->(Nat->St->Hp->Prop) ->Prop}(more:Nat->List Addr)(hmore:∀a,∀b∈more a,a<b)
  (hc:X.calm=true)(hroom:X.A.depth<recursionLimit)(hi:PI X tg iter wi)(Bk:pZ sc.names X.env.scope.names own N2 X.N)(hk:sc.kind= .function)(hco:sc.isCoroutine=false)(hnc:∀y∈sc.names,y.2≠ .cell)(Pr:sc.names.lookup (".0":Str)=some NameKind.local)
  (hcd:fR X.K X.env.code P)(bm:BM X.mg X.base)
  (hg:∀code s H fp,PG (X.gen X.A.in1.in1 sc (own++N2) code s H fp) tg g)(he:∀code s H fp,PE (X.gen X.A.in1.in1 sc (own++N2) code s H fp) elt te)
  (hs:∀x,genFold iter X.env x=pure x)(I0:Inv X pins σ H0 s0)(h:wi σ H0 λJ H=>H P=some (dG P)/\vj own.length g te σ F J H):
  wpAny (model X.prog X.w) X.A (eval (.GeneratorExp elt [⟨tg,iter,[],0⟩] sc pos) X.env) (λu s5=> ∃a cnt R W sC HC fp code tn,u= .ref a/\s5.heap.objs.size=a+1/\
   zM X X.A.in1.in1 sc (own++N2) code sC HC fp (a::more a) tn cnt R W a 0 s5/\Inv X pins σ HC sC/\(∀b∈fp,fQ X pins HC b)/\sC.heap.objs.size<a/\(∀b∈fp,b<sC.heap.objs.size)/\(∀i h h',tn i h->(∀b∈fp,∀o,h.get? b=some o->h'.get? b=some o) ->tn i h')/\F cnt R W) X.xe s0:=
 ER (cls:=[]) (Rd:=λJ H=>vj own.length g te σ F J H) more hmore hc hroom hi Bk hk hco hnc Pr hcd bm hs (λcode s H fp it Jo J T hfr ⟨cnt,R,W,w0,turn,stop,hF⟩=>
  ⟨cnt,R,W,Jo,hF,w0,λ_=>Iff.rfl,T.keep,λSs hd s'' _ KC st''=>EO hco hc T (hg code s H fp) (he code s H fp) hd turn stop w0 KC st'' hfr⟩) I0 h
end
section
variable{X:Cx}{B:Around}{sc:Scope}{N':List Str}{code:Value}{sC:Shared}{HC:Hp}{fp:List Addr}{tn:Nat->Heap->Prop}{cnt:Nat}{R:Nat->V->Prop}{W:Nat->St->Hp->Prop}{a S:Addr}{i:Nat}{s:Shared}
theorem zM.frame{h':Heap}{tk:Nat}{o':Obj}(G:zM X B sc N' code sC HC fp [a,S] tn cnt R W a i s)(Jq:a≠S)(hC:sC.heap.objs.size<S)(hfp:∀b∈fp,b≠S)
  (ES:∀i h h',tn i h->(∀b∈fp,∀o,h.get? b=some o->h'.get? b=some o) ->tn i h')(hS:(∃o,s.heap.get? S=some o)∨s.heap.objs.size<=S)
  (keep:∀b o,b≠S->s.heap.get? b=some o->h'.get? b=some o)(e':h'.get? S=some o')(nc:∀v,o'.data≠ .cell v):
  zM X B sc N' code sC HC fp [a,S] tn cnt R W a i {s with heap:=h',toks:=tk}:=by
 obtain⟨gs,pl,σ',H',hpl,e1,e2,I,st,fr,w,go⟩:=G.ex
 have I1:Inv (X.gen B sc N' code sC HC fp) (cK [a] s.heap++pl) σ' H' (s.setGen sC.gens.size .running):=I.iT λp hp=>by
  rcases List.mem_append.mp hp with hp|hp
  ·obtain⟨q1,q2⟩:=jb hp
   exact I.pin p (List.mem_append_right _ (List.mem_append_left _ (dS (fp:=[a,S]) (by rw[List.mem_singleton.mp q1];simp) q2)))
  ·exact I.pin p (List.mem_append_right _ (List.mem_append_right _ hp))
 have SH:S∉(X.gen B sc N' code sC HC fp).fs:=λhb=>by
  obtain⟨_,o,ho,_⟩:=I.ok.rA.mem hb
  exact absurd (Nat.lt_trans (Heap.lt_size ho) hC) (Nat.lt_irrefl _)
 have ea:∃oa,s.heap.get? a=some oa:=let⟨o,_,_,q,_⟩:=G.gen;⟨o,q⟩
 obtain⟨oa,ea⟩:=ea
 have I2:Inv (X.gen B sc N' code sC HC fp) (cK [a] s.heap++pl) σ' H' {s.setGen sC.gens.size .running with heap:=h',toks:=tk}/\H' S=none:=by
  rcases hS with⟨o,eo⟩|hS
  ·have pS:=I.pin (S,o) (List.mem_append_right _ (List.mem_append_left _ (dS (fp:=[a,S]) (by simp) eo)))
   refine⟨I1.turned (it:=S) (h':=h') (t':=tk) keep pS.2.1 (Nat.ne_of_gt hC) (.inr (Nat.le_of_lt hC)) (λy c hc z=> ?_) (λp hp z=> ?_),pS.2.1⟩
   ·obtain⟨v,oc,q1,q2⟩:=I.cell y c hc
    rw[z]at q1
    have QT:s.heap.get? S=some oc:=q1
    rw[eo]at QT
    have q3:o=oc:=Option.some.inj QT
    exact pS.2.2.2.2 v (by rw[q3];exact q2)
   ·have iD:p∈cK [a] s.heap++pl:=hp
    rcases List.mem_append.mp iD with iD|iD
    ·exact Jq (by rw[<-z,List.mem_singleton.mp (jb iD).1])
    ·exact hpl p iD (by rw[z];simp)
  ·refine⟨I1.kept (h':=h') (t':=tk) λb o e=>keep b o (λz=> ?_) e,I.hok.fresh hS⟩
   exact absurd (Nat.lt_of_lt_of_le (Heap.lt_size e) (by rw[z];exact hS)) (Nat.lt_irrefl _)
 obtain⟨I2,SI⟩:=I2
 refine⟨(let⟨o,nm,qn,q,r⟩:=G.gen;⟨o,nm,qn,keep a o Jq q,r⟩),gs,pl,σ',H',hpl,e1,e2,I2.iT λp hp=> ?_,ES _ _ _ st λb hb o e=>keep b o (hfp b hb) e,fr,w,go⟩
 refine(List.mem_append.mp hp).elim (λhp=> ?_) (λhp=>I2.pin p (List.mem_append_right _ (List.mem_append_right _ hp)))
 obtain⟨q1,q2⟩:=jb hp
 rcases List.mem_cons.mp q1 with z|z
 ·have q:=I2.pin (a,oa) (List.mem_append_right _ (List.mem_append_left _ (dS (fp:=[a]) (by simp) ea)))
  have MW:h'.get? p.1=some p.2:=q2
  rw[z,keep a oa Jq ea]at MW
  have q3:oa=p.2:=Option.some.inj MW
  have ep:p=(a,oa):=by rw[<-z,q3]
  rw[ep]
  exact q
 ·have z':p.1=S:=List.mem_singleton.mp z
  have MW:h'.get? p.1=some p.2:=q2
  rw[z',e']at MW
  have q3:o'=p.2:=Option.some.inj MW
  refine⟨q2,by rw[z'];exact SI,by rw[z'];exact Nat.ne_of_gt hC,by rw[z'];exact SH,by rw[<-q3];exact nc⟩
end
section
variable{X:Cx}{sc:Scope}{N':List Str}{code:Value}{sC:Shared}{HC:Hp}{fp:List Addr}{tn:Nat->Heap->Prop}{cnt:Nat}{R:Nat->V->Prop}{W:Nat->St->Hp->Prop}{a S:Addr}{pins:List (Addr×Obj)}{σ:St}{Rr:Result->Shared->Prop}
theorem CQ(IC:Inv X pins σ HC sC)(hf:∀b∈fp,fQ X pins HC b)(hh:X.A.handled=none)(hroom:X.A.depth<recursionLimit)(Jq:a≠S)(hC:sC.heap.objs.size<S)(hfp:∀b∈fp,b≠S)
  (ES:∀i h h',tn i h->(∀b∈fp,∀o,h.get? b=some o->h'.get? b=some o) ->tn i h')(val:Nat->Int)(hval:∀i v,i<cnt->R i v->v= .int (val i)):∀(k i:Nat) (s:Shared) (tA:Tok) (c:Nat) (st:Int),(st=0∨st=2) ->cnt-i=k->i<=cnt->
  zM X X.A.in1.in1 sc N' code sC HC fp [a,S] tn cnt R W a i s->s.heap.get? S=some {cls:= .type "list",dict:=none,data:= .seq #[.int (preSum val i) tA] c,slots:= #[]} ->
  (∀s' t' σ' H',Inv X pins σ H' s'->W cnt σ' H'->Rr (.ok (.ret (.int (preSum val cnt) t'))) s') ->codeAny (model X.prog X.w) X.A (.builtin "sum.loop" ⟨[.ref a,.ref S,rawInt st,rawInt 0],[]⟩) Rr s:=by
 intro k
 induction k with
 |zero=>
  intro i s tA c st hst hk hi G hS hR
  obtain rfl:i=cnt:=by omega
  refine codeAny_builtin PySem.F.entry_sum_loop (by
   rw[Around.under_plainId PySem.F.plain_sum_loop _]
   show wpAny _ X.A.in1 (seqItems? (.ref S)>>=_) _ _ s
   refine wpAny_bind (wpAny_seqItems hS rfl ?_)
   show wpAny _ X.A.in1 (tryCatch (pyNext (.ref a)) _>>=_) _ _ s
   have ex:∀b∈ [a,S],∃o,s.heap.get? b=some o:=λb hb=>by
    rcases List.mem_cons.mp hb with z|z
    ·obtain⟨o,_,_,q,_⟩:=G.gen;rw[z];exact⟨o,q⟩
    ·rw[List.mem_singleton.mp z];exact⟨_,hS⟩
   exact wpAny_bind (wpAny_tryCatch (G.done (D:=X.A.in1) IC hf hh hroom ex λs' σ' H' I' w'=>wpAny_pure (hR s' tA σ' H' I' w'))))
 |succ k ih=>
  intro i s tA c st hst hk hi G hS hR
  have hlt:i<cnt:=by omega
  have ex:∀b∈ [a,S],∃o,s.heap.get? b=some o:=λb hb=>by
   rcases List.mem_cons.mp hb with z|z
   ·obtain⟨o,_,_,q,_⟩:=G.gen;rw[z];exact⟨o,q⟩
   ·rw[List.mem_singleton.mp z];exact⟨_,hS⟩
  refine codeAny_builtin PySem.F.entry_sum_loop (by
   rw[Around.under_plainId PySem.F.plain_sum_loop _]
   show wpAny _ X.A.in1 (seqItems? (.ref S)>>=_) _ _ s
   refine wpAny_bind (wpAny_seqItems hS rfl ?_)
   show wpAny _ X.A.in1 (tryCatch (pyNext (.ref a)) _>>=_) _ _ s
   refine wpAny_bind (wpAny_tryCatch (G.item (D:=X.A.in1) hh hroom (by simp) ex hlt λv x s' rx KH G' kp=> ?_))
   obtain rfl:=hval i x hlt KH
   obtain⟨t,rfl⟩:=rx
   have hS':=kp S (by simp) _ hS
   have again:∀(h':Heap) (tk:Nat) (c':Nat) (tB:Tok) (st':Int),(st'=0∨st'=2) ->(∀b o,b≠S->s'.heap.get? b=some o->h'.get? b=some o) ->h'.get? S=some {cls:= .type "list",dict:=none,data:= .seq #[.int (preSum val i+val i) tB] c',slots:= #[]} ->
     codeAny (model X.prog X.w) X.A (.builtin "sum.loop" ⟨[.ref a,.ref S,rawInt st',rawInt 0],[]⟩) Rr {s' with heap:=h',toks:=tk}:=λh' tk c' tB st' Py SJ e'=>
    ih (i+1) _ tB c' st' Py (by omega) hlt (G'.frame Jq hC hfp ES (.inl ⟨_,hS'⟩) SJ e' (λv z=>by cases z)) e' hR
   rcases hst with rfl|rfl
   ·show wpAny _ X.A.in1 (if(_:Bool)=true then(mkInt (preSum val i+val i)>>=_)else _) _ _ _
    split
    ·refine wpAny_bind (wpAny_mkInt ?_)
     show wpAny _ X.A.in1 (updateSeq S (λ_=> #[.int (preSum val i+val i) s'.toks])>>=_) _ _ _
     exact wpAny_bind (wpAny_updateSeq hS' rfl (wpAny_pure ⟨plainId_quiet PySem.F.plain_sum_loop _,again _ _ _ _ 0 (.inl rfl) (λb o hb e=>(Heap.get?_update_other _ _ (Ne.symm hb)).trans e) (Heap.get?_update_self _ hS' rfl)⟩))
    ·refine wpAny_bind (wpAny_rule (wpAny_bind (wpAny_attempt (wpAny_holding (wpAny_add_int ?_)))))
     show wpAny _ X.A.in1 (updateSeq S (λ_=> #[.int (preSum val i+val i) s'.toks])>>=_) _ _ _
     refine wpAny_bind (wpAny_updateSeq hS' rfl ?_)
     have MY:=Heap.get?_update_self (Obj.mapSeq λ_=> #[Value.int (preSum val i+val i) s'.toks]) hS' rfl
     exact wpAny_bind (wpAny_letGo (wpAny_bind (wpAny_updateSeq MY rfl (wpAny_pure ⟨plainId_quiet PySem.F.plain_sum_loop _,again _ _ _ _ 2 (.inr rfl) (λb o hb e=>(Heap.get?_update_other _ _ (Ne.symm hb)).trans ((Heap.get?_update_other _ _ (Ne.symm hb)).trans e)) (Heap.get?_update_self _ MY rfl)⟩))))
   ·show wpAny _ X.A.in1 ((holding [Value.int (val i) t] (binaryOp .Add (.int (preSum val i) tA) (.int (val i) t))).attempt>>=_) _ _ _
    refine wpAny_bind (wpAny_attempt (wpAny_holding (wpAny_add_int ?_)))
    show wpAny _ X.A.in1 (updateSeq S (λ_=> #[.int (preSum val i+val i) s'.toks])>>=_) _ _ _
    refine wpAny_bind (wpAny_updateSeq hS' rfl ?_)
    have MY:=Heap.get?_update_self (Obj.mapSeq λ_=> #[Value.int (preSum val i+val i) s'.toks]) hS' rfl
    exact wpAny_bind (wpAny_letGo (wpAny_bind (wpAny_updateSeq MY rfl (wpAny_pure ⟨plainId_quiet PySem.F.plain_sum_loop _,again _ _ _ _ 2 (.inr rfl) (λb o hb e=>(Heap.get?_update_other _ _ (Ne.symm hb)).trans ((Heap.get?_update_other _ _ (Ne.symm hb)).trans e)) (Heap.get?_update_self _ MY rfl)⟩)))))
theorem CS{Q:Value->Shared->Prop}{E:Value->Shared->Prop}{s:Shared}(IC:Inv X pins σ HC sC)(hf:∀b∈fp,fQ X pins HC b)(hh:X.A.handled=none)(hroom:X.A.depth<recursionLimit)(hsz:s.heap.objs.size=a+1)(hC:sC.heap.objs.size<a)(hlt:∀b∈fp,b<sC.heap.objs.size)
  (ES:∀i h h',tn i h->(∀b∈fp,∀o,h.get? b=some o->h'.get? b=some o) ->tn i h')(val:Nat->Int)(hval:∀i v,i<cnt->R i v->v= .int (val i))(G:zM X X.A.in1.in1 sc N' code sC HC fp [a,a+1] tn cnt R W a 0 s)
  (hQ:∀s' t' σ' H',Inv X pins σ H' s'->W cnt σ' H'->Q (.int (preSum val cnt) t') s'):wpAny (model X.prog X.w) X.A (call (.builtin "sum") [.ref a]) Q E s:=by
 refine call_function_tree PySem.F.kind_sum PySem.F.plain_sum PySem.F.entry_sum (PySem.F.args_sum1 _) ?_
 unfold Builtin.«sum»
 simp only[List.length_cons,List.length_nil]
 rw[if_neg (by decide)]
 refine wpAny_bind (wpAny_of_eq (a:=[none]) rfl ?_)
 refine wpAny_bind (wpAny_pyIter_gen G.gen ?_)
 refine wpAny_bind (wpAny_mkInt (wpAny_bind (wpAny_pure ?_)))
 simp only[List.forIn_cons,List.forIn_nil]
 refine wpAny_bind (wpAny_bind (wpAny_bind (wpAny_isInstance (T:= "int") (b:=false) (typeIs_int _ _ _) PySem.sub_int_str ?_)))
 simp only[Bool.false_eq_true,if_false]
 refine wpAny_pure (wpAny_bind (wpAny_bind (wpAny_isInstance (T:= "int") (b:=false) (typeIs_int _ _ _) PySem.sub_int_bytes ?_)))
 simp only[Bool.false_eq_true,if_false]
 refine wpAny_pure (wpAny_bind (wpAny_bind (wpAny_isInstance (T:= "int") (b:=false) (typeIs_int _ _ _) PySem.sub_int_bytearray ?_)))
 simp only[Bool.false_eq_true,if_false]
 refine wpAny_pure (wpAny_pure (wpAny_bind (wpAny_newObj_type ?_)))
 have Jq:a≠a+1:=Nat.ne_of_lt (Nat.lt_succ_self _)
 have Pz:sC.heap.objs.size<a+1:=Nat.lt_succ_of_lt hC
 have QU:∀b∈fp,b≠a+1:=λb hb=>Nat.ne_of_lt (Nat.lt_trans (hlt b hb) Pz)
 refine wpAny_pure ⟨plainId_quiet PySem.F.plain_sum_loop _,?_⟩
 have e0:({s with toks:=s.toks+1}:Shared).heap.objs.size=a+1:=hsz
 dsimp only
 rw[hsz]
 have eS:(s.heap.push {cls:= .type "list",dict:=none,data:= .seq #[Value.int 0 s.toks]}).get? (a+1)=some {cls:= .type "list",dict:=none,data:= .seq #[Value.int 0 s.toks]}:=by
  rw[<-hsz];exact Heap.get?_push_size _ rfl
 refine CQ IC hf hh hroom Jq Pz QU ES val hval cnt 0 _ s.toks 0 0 (.inl rfl) rfl (Nat.zero_le _) (G.frame Jq Pz QU ES (.inr (Nat.le_of_eq hsz)) (λb o _ e=>Heap.get?_push_of_some _ e) eS (λv z=>by cases z)) eS λs' t' σ' H' I' w'=> ?_
 exact hQ s' t' σ' H' I' w'
end
theorem set_same{s:Shared}{g:Nat}{x y:GenState}(h:s.gens[g]?=some x):(s.setGen g y).setGen g x=s:=by
 obtain⟨hh,gens,d,t,os⟩:=s
 have hlt:g<gens.size:=by
  rcases Nat.lt_or_ge g gens.size with q|q
  ·exact q
  ·have z:gens[g]?=none:=Array.getElem?_eq_none q
   have h':gens[g]?=some x:=h
   rw[z]at h';cases h'
 have q:(gens.setIfInBounds g y).setIfInBounds g x=gens:=by
  apply Array.ext_getElem?
  intro i
  by_cases e:g=i
  ·subst e
   rw[Array.getElem?_setIfInBounds_self_of_lt (by simpa using hlt)]
   exact h.symm
  ·rw[Array.getElem?_setIfInBounds_ne e,Array.getElem?_setIfInBounds_ne e]
 show({heap:=hh,gens:=(gens.setIfInBounds g y).setIfInBounds g x,drawn:=d,toks:=t,os:=os}:Shared)=_
 rw[q]
section
variable{X:Cx}{sc:Scope}{N':List Str}{code:Value}{sC:Shared}{HC:Hp}{fp Ss:List Addr}{tn:Nat->Heap->Prop}{cnt:Nat}{R:Nat->V->Prop}{W:Nat->St->Hp->Prop}{a:Addr}{pins:List (Addr×Obj)}{σ:St}{Rr:Result->Shared->Prop}
theorem zM.out{B:Around}{i:Nat}{s:Shared}(G:zM X B sc N' code sC HC fp Ss tn cnt R W a i s)(IC:Inv X pins σ HC sC)(hf:∀b∈fp,fQ X pins HC b):∃σ' H',Inv X pins σ H' s/\W i σ' H':=by
 obtain⟨gs,pl,σ',H',hpl,e1,e2,I,st,fr,w,go⟩:=G.ex
 have q:=Inv.Jm (gs:=gs) IC hf e2 I
 rw[set_same e1]at q
 exact⟨σ',H',q,w⟩
theorem CT(IC:Inv X pins σ HC sC)(hf:∀b∈fp,fQ X pins HC b)(hh:X.A.handled=none)(hroom:X.A.depth<recursionLimit)(bv:Nat->Bool)(hval:∀i v,i<cnt->R i v->v= .bl (bv i)):∀(k i:Nat) (s:Shared),cnt-i=k->i<=cnt->
  zM X X.A.in1.in1 sc N' code sC HC fp [a] tn cnt R W a i s->(∀j,j<i->bv j=true) ->
  ((∀j,j<cnt->bv j=true) -> ∀s' σ' H',Inv X pins σ H' s'->W cnt σ' H'->Rr (.ok (.ret (.bool true))) s') ->
  (∀j,j<cnt->bv j=false->(∀l,l<j->bv l=true) -> ∀s' σ' H',Inv X pins σ H' s'->W (j+1) σ' H'->Rr (.ok (.ret (.bool false))) s') ->codeAny (model X.prog X.w) X.A (.builtin "all.loop" ⟨[.ref a],[]⟩) Rr s:=by
 intro k
 induction k with
 |zero=>
  intro i s hk hi G hp hT hF
  obtain rfl:i=cnt:=by omega
  have ex:∀b∈ [a],∃o,s.heap.get? b=some o:=λb hb=>by
   obtain⟨o,_,_,q,_⟩:=G.gen;rw[List.mem_singleton.mp hb];exact⟨o,q⟩
  refine codeAny_builtin PySem.F.entry_all_loop (by
   rw[Around.under_plainId PySem.F.plain_all_loop _]
   show wpAny _ X.A.in1 (pyNext (.ref a)>>=_) _ _ s
   exact wpAny_bind (G.done (D:=X.A.in1) IC hf hh hroom ex λs' σ' H' I' w'=>wpAny_bind (wpAny_rule (wpAny_pure (hT hp s' σ' H' I' w')))))
 |succ k ih=>
  intro i s hk hi G hp hT hF
  have hlt:i<cnt:=by omega
  have ex:∀b∈ [a],∃o,s.heap.get? b=some o:=λb hb=>by
   obtain⟨o,_,_,q,_⟩:=G.gen;rw[List.mem_singleton.mp hb];exact⟨o,q⟩
  refine codeAny_builtin PySem.F.entry_all_loop (by
   rw[Around.under_plainId PySem.F.plain_all_loop _]
   show wpAny _ X.A.in1 (pyNext (.ref a)>>=_) _ _ s
   refine wpAny_bind (G.item (D:=X.A.in1) hh hroom (by simp) ex hlt λv x s' rx KH G' kp=> ?_)
   obtain rfl:=hval i x hlt KH
   cases rx
   refine wpAny_bind (wpAny_holding (wpAny_truthy_bool (wpAny_bind (wpAny_letGo ?_))))
   cases hb:bv i with
   |true=>
    simp only[if_true]
    exact wpAny_pure ⟨plainId_quiet PySem.F.plain_all_loop _,ih (i+1) _ (by omega) hlt G' (λj hj=>by
     rcases Nat.lt_or_ge j i with q|q
     ·exact hp j q
     ·rw[show j=i by omega];exact hb) hT hF⟩
   |false=>
    simp only[Bool.false_eq_true,if_false]
    obtain⟨σ',H',I',w'⟩:=G'.out IC hf
    exact wpAny_bind (wpAny_rule (wpAny_pure (hF i hlt hb hp s' σ' H' I' w'))))
theorem CU{Q:Value->Shared->Prop}{E:Value->Shared->Prop}{s:Shared}(IC:Inv X pins σ HC sC)(hf:∀b∈fp,fQ X pins HC b)(hh:X.A.handled=none)(hroom:X.A.depth<recursionLimit)(bv:Nat->Bool)(hval:∀i v,i<cnt->R i v->v= .bl (bv i))(G:zM X X.A.in1.in1 sc N' code sC HC fp [a] tn cnt R W a 0 s)
  (hT:(∀j,j<cnt->bv j=true) -> ∀s' σ' H',Inv X pins σ H' s'->W cnt σ' H'->Q (.bool true) s')
  (hF:∀j,j<cnt->bv j=false->(∀l,l<j->bv l=true) -> ∀s' σ' H',Inv X pins σ H' s'->W (j+1) σ' H'->Q (.bool false) s'):wpAny (model X.prog X.w) X.A (call (.builtin "all") [.ref a]) Q E s:=by
 refine call_function_tree PySem.F.kind_all PySem.F.plain_all PySem.F.entry_all (PySem.F.args_all1 _) ?_
 unfold Builtin.«all»
 refine wpAny_bind (m:=oneArg "all" _) (wpAny_pure (wpAny_bind (wpAny_pyIter_gen G.gen ?_)))
 exact wpAny_pure ⟨plainId_quiet PySem.F.plain_all_loop _,CT IC hf hh hroom bv hval cnt 0 s rfl (Nat.zero_le _) G (λj hj=>absurd hj (Nat.not_lt_zero _)) hT hF⟩
end
def ET(k:Nat)(P:Addr)(g:TG)(te:TE)(σ:St)(J:It)(H1:Hp)(Q:VK):Prop:=H1 P=some (dG P)/\vj k g te σ (λcnt R W=> ∃val:Nat->Int,(∀i v,i<cnt->R i v->v= .int (val i))/\ ∀σ' H',W cnt σ' H'->Q (.int (preSum val cnt)) H') J H1
def vm(k:Nat)(P:Addr)(wi:TI)(g:TG)(te:TE):TE:=λσ H Q=>wi σ H λJ H1=>ET k P g te σ J H1 Q
def Jr(k:Nat)(P:Addr)(g:TG)(te:TE)(σ:St)(J:It)(H1:Hp)(Q:VK):Prop:=H1 P=some (dG P)/\vj k g te σ (λcnt R W=> ∃bv:Nat->Bool,(∀i v,i<cnt->R i v->v= .bl (bv i))/\
 ((∀j,j<cnt->bv j=true) -> ∀σ' H',W cnt σ' H'->Q (.bl true) H')/\(∀j,j<cnt->bv j=false->(∀l,l<j->bv l=true) -> ∀σ' H',W (j+1) σ' H'->Q (.bl false) H')) J H1
def Js(k:Nat)(P:Addr)(wi:TI)(g:TG)(te:TE):TE:=λσ H Q=>wi σ H λJ H1=>Jr k P g te σ J H1 Q
section
variable{X:Cx}{sc:Scope}{own N2:List Str}{elt iter tg:Expr}{iE p pos:Pos}{wi:TI}{g:TG}{te:TE}{P:Addr}
structure EU(X:Cx)(sc:Scope)(own N2:List Str)(P:Addr):Prop where
 calm:X.calm=true
 room:X.A.depth<recursionLimit
 MZ:pZ sc.names X.env.scope.names own N2 X.N
 kind:sc.kind= .function
 co:sc.isCoroutine=false
 nc:∀y∈sc.names,y.2≠ .cell
 QV:sc.names.lookup (".0":Str)=some NameKind.local
 code:fR X.K X.env.code P
 bm:BM X.mg X.base
theorem BI(K:EU X sc own N2 P)(EV:Gl X "sum")(hm:X.mg "sum"=none)(hi:PI X tg iter wi)
  (hg:∀code s H fp,PG (X.gen X.A.in1.in1 sc (own++N2) code s H fp) tg g)(he:∀code s H fp,PE (X.gen X.A.in1.in1 sc (own++N2) code s H fp) elt te)
  (hs:∀x,genFold iter X.env x=pure x:=by intro _;rfl)(hst:starEach [.GeneratorExp elt [⟨tg,iter,[],0⟩] sc iE] X.env=[(false,eval (.GeneratorExp elt [⟨tg,iter,[],0⟩] sc iE) X.env)]:=by rfl):
  PE X (.Call (.Name "sum" p) [.GeneratorExp elt [⟨tg,iter,[],0⟩] sc iE] [] pos) (vm own.length P wi g te):=by
 intro pins s σ H Q I h
 refine wpAny_Call_Name_kw (ku I EV hm PyProof.Rows.boot_sum ?_)
 refine PyProof.Rows.callWith_builtin1 ?_ hst rfl
 rw[hst]
 refine Calls.spliced_cons (fS (BH (pos:=iE) (λa=>[a+1]) (λa b hb=>by rw[List.mem_singleton.mp hb];exact Nat.lt_succ_self _) K.calm K.room hi K.MZ K.kind K.co K.nc K.QV K.code K.bm hg he hs I h) λu s5 h5=> ?_)
 obtain⟨a,cnt,R,W,sC,HC,fp,code,tn,rfl,hsz,G,IC,hf,hC,hlt,ES,val,hval,hq⟩:=h5
 exact Calls.spliced_nil (CS IC hf (I.ok.hd K.calm) K.room hsz hC hlt ES val hval G λs' t' σ' H' I' w'=>⟨.int (preSum val cnt),H',I',⟨_,rfl⟩,hq σ' H' w'⟩)
theorem HM(K:EU X sc own N2 P)(EV:Gl X "all")(hm:X.mg "all"=none)(hi:PI X tg iter wi)
  (hg:∀code s H fp,PG (X.gen X.A.in1.in1 sc (own++N2) code s H fp) tg g)(he:∀code s H fp,PE (X.gen X.A.in1.in1 sc (own++N2) code s H fp) elt te)
  (hs:∀x,genFold iter X.env x=pure x:=by intro _;rfl)(hst:starEach [.GeneratorExp elt [⟨tg,iter,[],0⟩] sc iE] X.env=[(false,eval (.GeneratorExp elt [⟨tg,iter,[],0⟩] sc iE) X.env)]:=by rfl):
  PE X (.Call (.Name "all" p) [.GeneratorExp elt [⟨tg,iter,[],0⟩] sc iE] [] pos) (Js own.length P wi g te):=by
 intro pins s σ H Q I h
 refine wpAny_Call_Name_kw (ku I EV hm PyProof.Rows.boot_all ?_)
 refine PyProof.Rows.callWith_builtin1 ?_ hst rfl
 rw[hst]
 refine Calls.spliced_cons (fS (BH (pos:=iE) (λa=>[]) (λa b hb=>by cases hb) K.calm K.room hi K.MZ K.kind K.co K.nc K.QV K.code K.bm hg he hs I h) λu s5 h5=> ?_)
 obtain⟨a,cnt,R,W,sC,HC,fp,code,tn,rfl,hsz,G,IC,hf,hC,hlt,ES,bv,hval,hT,hF⟩:=h5
 exact Calls.spliced_nil (CU IC hf (I.ok.hd K.calm) K.room bv hval G (λhb s' σ' H' I' w'=>⟨.bl true,H',I',rfl,hT hb σ' H' w'⟩) (λj hj hb hp s' σ' H' I' w'=>⟨.bl false,H',I',rfl,hF j hj hb hp σ' H' w'⟩))
end
section
variable{X:Cx}{B:Around}{sc:Scope}{N':List Str}{code:Value}{sC:Shared}{HC:Hp}{fp Ss:List Addr}{tn:Nat->Heap->Prop}{R:Nat->V->Prop}{W:Nat->St->Hp->Prop}
variable{elt iter tg BJ QW:Expr}{pos:Pos}{it:Addr}{J:It}{g g':TG}{te:TE}{Oc:TI}{c1 c2:Nat}
end
section
variable{X:Cx}{B:Around}{sc:Scope}{N':List Str}{code:Value}{sC:Shared}{HC:Hp}{fp Ss:List Addr}{tn:Nat->Heap->Prop}{R:Nat->V->Prop}{W:Nat->St->Hp->Prop}
variable{elt iter tg BJ QW:Expr}{pos:Pos}{it:Addr}{J:It}{g g':TG}{te:TE}{Oc:TI}{c1 c2:Nat}
end
section
variable{X:Cx}{sc:Scope}{own N2:List Str}{elt iter tg BJ QW:Expr}{iE p pos:Pos}{wi Oc:TI}{g g':TG}{te:TE}{P:Addr}
end
mutual
inductive BK (K:PySem.W.Frag) (H:Hp):V->PyData->Prop
 |iR:BK K H .iR .none
 |bl (b:Bool):BK K H (.bl b) (.bool b)
 |int (i:Int):BK K H (.int i) (.int i)
 |str (x:Str):BK K H (.str x) (.str x)
 |lst {a:Addr} {xs:List V} {ds:List PyData}:aT K H a xs->zX K H xs ds->BK K H (.ref a) (.list ds)
 |tup {a:Addr} {xs:List V} {ds:List PyData}:uq K H a xs->zX K H xs ds->BK K H (.ref a) (.tuple ds)
inductive zX (K:PySem.W.Frag) (H:Hp):List V->List PyData->Prop
 |nil:zX K H [] []
 |cons {x:V} {d:PyData} {xs:List V} {ds:List PyData}:BK K H x d->zX K H xs ds->zX K H (x::xs) (d::ds)
end
section
variable{X:Cx}{pins:List (Addr×Obj)}{σ:St}{H:Hp}{s:Shared}
mutual
theorem j6(I:Inv X pins σ H s):∀{x:V} {d:PyData} {u:Value},BK X.K H x d->RelV x u-> ∃as,Reads s.heap u d as
 |_,_,_,.iR,r=>by cases r;exact⟨_,.none⟩
 |_,_,_,.bl b,r=>by cases r;exact⟨_,.bool b⟩
 |_,_,_,.int i,r=>by obtain⟨t,rfl⟩:=r;exact⟨_,.int i t⟩
 |_,_,_,.str x,r=>by obtain⟨t,rfl⟩:=r;exact⟨_,.str x t⟩
 |_,_,_,.lst hq hs,r=>by
  cases r
  obtain⟨its,rv,⟨o,n,e,c,_,dd⟩,_⟩:=I.list hq
  obtain⟨as,q⟩:=lW I hs rv
  exact⟨_,.list e c dd (by simpa using q)⟩
 |_,_,_,.tup hq hs,r=>by
  cases r
  obtain⟨its,rv,⟨o,e,c,n,dd⟩,_⟩:=I.tuple hq
  obtain⟨as,q⟩:=lW I hs rv
  exact⟨_,.tuple e c dd (by simpa using q)⟩
theorem lW(I:Inv X pins σ H s):∀{xs:List V} {ds:List PyData} {us:List Value},zX X.K H xs ds->Vals xs us-> ∃as,ReadsAll s.heap us ds as
 |_,_,_,.nil,r=>by cases r;exact⟨_,.nil⟩
 |_,_,_,.cons h t,r=>by
  cases r with
  |cons r1 r2=>
   obtain⟨as,q1⟩:=j6 I h r1
   obtain⟨bs,q2⟩:=lW I t r2
   exact⟨_,.cons q1 q2⟩
end
end
def HN(K:PySem.W.Frag)(neg:Bool):R2:=λx y H Q=> ∃da db,BK K H x da/\BK K H y db/\SeqAt.shaped da=true/\SeqAt.shaped db=true/\Q (.bl (if neg then !PyData.eqv da db else PyData.eqv da db)) H
section
variable{X:Cx}
theorem KI(hu:X.A.units+64<cLine):rB X (compareOp .Eq) (HN X.K false):=by
 intro pins s σ H x y v u Q I rx ry h
 obtain⟨da,db,h1,h2,s1,s2,q⟩:=h
 obtain⟨as,r1⟩:=j6 I h1 rx
 obtain⟨bs,r2⟩:=j6 I h2 ry
 exact eq_dataH r1 r2 s1 s2 hu ⟨.bl _,H,I,rfl,q⟩
theorem KJ(hu:X.A.units+64<cLine):rB X (compareOp .NotEq) (HN X.K true):=by
 intro pins s σ H x y v u Q I rx ry h
 obtain⟨da,db,h1,h2,s1,s2,q⟩:=h
 obtain⟨as,r1⟩:=j6 I h1 rx
 obtain⟨bs,r2⟩:=j6 I h2 ry
 exact ne_dataH r1 r2 s1 s2 hu ⟨.bl _,H,I,rfl,q⟩
theorem gj:oR X (.builtin "isinstance") (λxs H Q=> ∃x n t b,xs=[x,.ty n]/\oU X.K H x t/\PySem.W.kitOne X.K t (.type n)=some b/\Q (.bl b) H):=by
 intro pins s σ H xs us Q I r h
 obtain⟨x,n,t,b,rfl,ty,e,q⟩:=h
 cases r with
 |cons r1 r2=>
  cases r2 with
  |cons r2 r3=>
   cases r3
   cases r2
   exact CK I r1 ty e λtk=>⟨.bl b,H,I.tok _,rfl,q⟩
end
abbrev sJ (r:List Int):PyData:= .list (r.map .int)
abbrev zY (m:List (List Int)):PyData:= .list (m.map sJ)
theorem qV:∀m:List (List Int),PyData.canLayAll0 (m.map sJ)=true
 | []=>rfl
 |r::m=>by simp[PyData.canLayAll0,PyData.canLay0,PySem.W.ke_canLayAll0,qV m]
theorem sL:∀m:List (List Int),PyData.depthAll (m.map sJ)<=1
 | []=>by simp[PyData.depthAll]
 |r::m=>by
  have:=sL m
  simp only[List.map_cons,PyData.depthAll,PyData.depth,PySem.W.ke_depthAll]
  omega
theorem nN(m:List (List Int)):SeqAt.shaped (zY m)=true:=by
 have q:=sL m
 simp only[SeqAt.shaped,PyData.canLay0,PyData.depth,qV,Bool.true_and,decide_eq_true_eq]
 exact decide_eq_true (show PyData.depthAll (m.map sJ)+1<=64 by omega)
theorem zZ(r:List Int):SeqAt.shaped (sJ r)=true:=PySem.W.ke_shaped_ints r
theorem HP(r t:List Int):PyData.eqv (sJ r) (sJ t)=decide (r=t):=by
 simp only[PyData.eqv]
 exact PySem.W.ked_eqvAll r t
theorem qW:∀m n:List (List Int),PyData.eqvAll (m.map sJ) (n.map sJ)=decide (m=n)
 | [],[]=>by simp[PyData.eqvAll]
 | [],_::_=>by simp[PyData.eqvAll]
 |_::_,[]=>by simp[PyData.eqvAll]
 |a::r,b::t=>by
  have e:=HP a b
  simp only[sJ]at e
  simp only[List.map_cons,PyData.eqvAll,qW r t,sJ,e]
  by_cases h:a=b<;>by_cases h':r=t<;>simp[h,h']
theorem HQ(m n:List (List Int)):PyData.eqv (zY m) (zY n)=decide (m=n):=by
 simp only[PyData.eqv]
 exact qW m n
structure KL(tz:Addr->HO):Prop where
 new:∀{P:Program} {w:World} {H:Hp} {h:Heap} {T:Addr},h.get? T=some {cls:= .none,data:= .fields #[]} ->eU P w H h T (tz T)
 get:∀{P:Program} {w:World} {H:Hp} {h:Heap} {T:Addr},eU P w H h T (tz T) -> ∃ps:Array Value,h.get? T=some {cls:= .none,data:= .fields ps}
theorem BL:KL dG:=⟨λe=>EI e (by simp[TriplesOk]),λh=>let⟨⟨ps,e,_⟩,_⟩:=h;⟨ps,e⟩⟩
theorem KN(f9:List Addr):KL (λT=>if T∈f9 then .xY else dG T):=by
 refine⟨λ {P w H h T} e=> ?_,λ {P w H h T} x=> ?_⟩
 ·by_cases c:T∈f9
  ·rw[if_pos c]
   exact⟨#[],e,trivial,λpos cv z=>nomatch z⟩
  ·rw[if_neg c]
   exact BL.new e
 ·by_cases c:T∈f9
  ·rw[if_pos c]at x
   obtain⟨ps,e,_⟩:=x
   exact⟨ps,e⟩
  ·rw[if_neg c]at x
   exact BL.get x
theorem CV{P:Program}{w:World}{K:PySem.W.Frag}{mg mb:Str->Option Value}{k:Nat}{fa a:Addr}{fd:FuncData}{x:Str}{sp:Sp}{s₁:Shared}{vs:List Value}{ns:List Int}{tabs:List Addr}{tz:Addr->HO}(TZ:KL tz)
  (KX:K.In s₁.heap)(hns:s₁.heap.Ns mainGlobals mg)(hb:s₁.heap.Ns builtinsNs mb)(SK:∀x:Str,x≠ "__name__" ->mb x=bootBuiltins x)(hlim:s₁.heap.NoLimit)(hbm:BM mg s₁.heap)(hg:s₁.gens= #[])
  (htab:∀T∈tabs,isCodeTable s₁.heap T/\s₁.heap.get? T=some {cls:= .none,data:= .fields #[]})
  (ha:s₁.heap.get? a=some {cls:= .type "list",data:= .seq vs.toArray})(hi:IntsAre vs ns)(hl:ns.length<=sizeLine)(hr:eT k callerA)(hcl:PySem.W.kb_classed K=true)
  (F:∀base:Heap,K.In base->base.Ns mainGlobals mg->BM mg base->oV P w K mg base cO k fa fd [x] sp)(hbind:∀(s:Shared) (u:Value),BindsTo s fd ⟨[u],[]⟩ [(x,u)])
  (Hf:∀H:Hp,(∀T∈tabs,H T=some (tz T)) ->aT K H a (ns.map V.int) ->sp [.ref a] H (λv H'=>v= .bl true/\ ∀T∈tabs,H' T=some (tz T)) λ_ _ _=>False):
  codeAny (model P w) callerA (.call (.ref fa) ⟨[.ref a],[]⟩) (λr s'=>r= .ok (.ret (.bool true))/\OldK s₁.heap s'.heap/\s'.os=s₁.os/\AllBare s'.gens) s₁:=by
 have rv:=vg hi
 have PB:=hi.length
 have QX:a∉tabs:=λz=>by
  have e:=(htab a z).2
  rw[ha]at e
  cases e
 have core:∀H:Hp,(∀T∈tabs,H T=some (tz T)) ->(∀b u,H b=some u->b∈tabs∨(b=a/\ ∃o xs,u= .vZ o (.lst xs))) ->aT K H a (ns.map V.int) ->rO P w H s₁.heap->(H a≠none->K.lookup a=none) ->
   codeAny (model P w) callerA (.call (.ref fa) ⟨[.ref a],[]⟩) (λr s'=>r= .ok (.ret (.bool true))/\OldK s₁.heap s'.heap/\s'.os=s₁.os/\AllBare s'.gens) s₁:=by
  intro H hT hO hS hok hK
  have free:∀{b:Addr} {o:Obj},s₁.heap.get? b=some o->o.cls≠ .none->b≠a->H b=none:=λ {b o} e hc hba=>by
   cases q:H b with
   |none=>rfl
   |some u=>
    rcases hO b u q with z|⟨z,_⟩
    ·have e':=(htab b z).2
     rw[e]at e'
     cases e'
     exact absurd rfl hc
    ·exact absurd z hba
  have wH:∀{b:Addr} {o:Obj},s₁.heap.get? b=some o->H b=none->(uu s₁.heap H).get? b=some o:=λe n=>Em e n
  have PC:∀{b:Addr} {o:Obj} {es:Array DictEntry} {ep:Nat},s₁.heap.get? b=some o->o.data= .dict es ep->H b=none:=λ {b o es ep} e d=>by
   cases q:H b with
   |none=>rfl
   |some u=>
    rcases hO b u q with z|⟨z,_⟩
    ·have e':=(htab b z).2
     rw[e]at e'
     cases e'
     cases d
    ·rw[z,ha]at e
     cases e
     cases d
  have Od:∀{b:Addr} {m:Str->Option Value},s₁.heap.Ns b m->(uu s₁.heap H).Ns b m:=λ {b m} ⟨o,es,ep,e,d,r⟩=>⟨o,es,ep,wH e (PC e d),d,r⟩
  have QY:K.In (uu s₁.heap H):=λb o e=>wH (KX b o e) (by
   by_cases hba:b=a
   ·cases q:H b with
    |none=>rfl
    |some u=>
     subst hba
     rw[hK (by rw[q];simp)]at e
     cases e
   ·have q:=List.all_eq_true.mp hcl (b,o) (PySem.W.kb_mem e)
    simp only[Bool.or_eq_true,decide_eq_true_eq,beq_iff_eq]at q
    rcases q with(q|q)|q
    ·exact free (KX b o e) q hba
    ·obtain⟨mc,⟨oc,es,ep,z1,z2,_⟩,_⟩:=hlim
     rw[q];exact PC z1 z2
    ·obtain⟨oc,es,ep,z1,z2,_⟩:=hns
     rw[q];exact PC z1 z2)
  have hM:Mod K mg (uu s₁.heap H):=⟨QY,Od hns,⟨mb,Od hb,SK⟩,let⟨mc,h1,h2⟩:=hlim;⟨mc,Od h1,h2⟩⟩
  have SM:BM mg (uu s₁.heap H):=by
   obtain⟨bm,ob,q1,q2,q3,q4,q5,q6⟩:=hbm
   refine⟨bm,ob,q1,q2,wH q3 (free q3 (by rw[q4];simp) λz=> ?_),q4,q5,q6⟩
   rw[z,ha]at q3
   rw[<-Option.some.inj q3]at q4
   exact absurd q4 (by simp)
  have e0:Hz P w K mg (uu s₁.heap H) callerA [] s₁ H:=⟨rfl,hM,λb o e=>Ho e,Nat.le_of_eq (CA _ _),trivial,λb hb=>absurd (show b∈([]:List Addr)from hb) (by simp),hok,.of_eq hg⟩
  refine codeAny_mono ((F _ QY (Od hns) SM).run callerA [] s₁ H ⟨[.ref a],[]⟩ [.ref a] [.ref a] _ _ hr e0 (hbind s₁ (.ref a)) (.cons rfl .nil) (Hf H hT hS)) λr s' h=> ?_
  cases r with
  |error e=>exact False.elim h
  |ok fl=>
   cases fl with
   |next=>exact False.elim h
   |brk=>exact False.elim h
   |cont=>exact False.elim h
   |ret u=>
    obtain⟨v,H',os,bare,un,Na,r',q⟩:=h
    obtain⟨q',SN⟩:=q
    have q':v= .bl true:=q'
    subst q'
    obtain rfl:u=Value.bool true:=r'
    refine⟨rfl,⟨λb o e=> ?_,λb o e=>un.there b o e (by simp)⟩,os,bare.bare⟩
    cases q:H b with
    |none=>exact .inl (un.keep b o e q (by intro z;exact absurd (show b∈([]:List Addr)from z) (by simp)) (by simp))
    |some u=>
     rcases hO b u q with z|⟨z,ob,xs,eu⟩
     ·obtain⟨ct,e'⟩:=htab b z
      obtain⟨ps,ep⟩:=TZ.get (Na b _ (SN b z))
      rw[e]at e'
      cases e'
      exact .inr (.inl ⟨ct,rfl, #[],ps,rfl,by simpa using ep⟩)
     ·subst eu
      have z2:=un.pU b ob _ q
      obtain⟨e1,_⟩:=hok b _ q
      obtain⟨e2,_⟩:=Na b _ z2
      rw[e]at e1;cases e1
      exact .inl e2
 have QZ:∀(H:Hp) (T:Addr),T∈tabs->eU P w H s₁.heap T (tz T):=λH T hT=>TZ.new (htab T hT).2
 cases hk:K.lookup a with
 |some o=>
  have e:=KX a o hk
  rw[ha]at e
  cases e
  refine core (λb=>if b∈tabs then some (tz b)else none) (λT hT=>if_pos hT) (λb u z=> ?_) (.inr ⟨_,vs.toArray,_,hk,rfl,rfl,rfl,by rw[List.size_toArray,PB];exact hl,by simpa using rv⟩) (λb u z=> ?_) (λz=>absurd (if_neg QX) z)
  ·by_cases hb:b∈tabs
   ·exact .inl hb
   ·have z':=(if_neg hb).symm.trans z;cases z'
  ·by_cases hb:b∈tabs
   ·have z':=(if_pos hb).symm.trans z;cases z';exact QZ _ b hb
   ·have z':=(if_neg hb).symm.trans z;cases z'
 |none=>
  have q1:∀{b:Addr},b∈tabs->(if b=a then some (HO.vZ {cls:= .type "list",data:= .seq vs.toArray} (.lst (ns.map V.int)))else if b∈tabs then some (tz b)else none)=some (tz b):=λ {b} hb=>by
   rw[if_neg (λ (z:b=a)=>QX (by rw[<-z];exact hb)),if_pos hb]
  refine core (λb=>if b=a then some (.vZ {cls:= .type "list",data:= .seq vs.toArray} (.lst (ns.map V.int)))else if b∈tabs then some (tz b)else none) (λT hT=>q1 hT) (λb u z=> ?_) (.inl (.inr ⟨{cls:= .type "list",data:= .seq vs.toArray},if_pos rfl⟩)) (λb u z=> ?_) λ_=>hk
  ·by_cases hb:b=a
   ·have z':=(if_pos hb).symm.trans z
    cases z'
    exact .inr ⟨hb,_,_,rfl⟩
   ·by_cases hb2:b∈tabs
    ·exact .inl hb2
    ·have z':=((if_neg hb).trans (if_neg hb2)).symm.trans z;cases z'
  ·by_cases hb:b=a
   ·have z':=(if_pos hb).symm.trans z
    cases z'
    subst hb
    exact⟨ha,by rw[List.length_map];exact hl,vs,_,rv,ha⟩
   ·by_cases hb2:b∈tabs
    ·have z':=(q1 hb2).symm.trans z
     cases z'
     exact QZ _ b hb2
    ·have z':=((if_neg hb).trans (if_neg hb2)).symm.trans z;cases z'
theorem z4{p:Program}{loose:List Str}{mean:ExcName->Option Value}{mg mb:Str->Option Value}{h:Heap}(T:Top p loose mean mg mb h){d:DefRec}{x qual:Str}(hf:(recsOf p).find? (λe=>e.name==x)=some d){K:PySem.W.Frag}(KX:K.In h){f:Addr}
  (hm:mg x=some (.ref f)){oc:Value}{od:Option Addr}{sl:Array (Option Value)}{fd:FuncData}(l:K.lookup f=some ⟨oc,od,.func fd,sl⟩)(c:PySem.W.codeIn K fd.code qual=true):
  ∃P,fR K fd.code P/\isCodeTable h P/\h.get? P=some {cls:= .none,data:= .fields #[]}:=by
 have hn:d.name=x:=beq_iff_eq.mp (List.find?_some (p:=λe:DefRec=>e.name==x) hf)
 obtain⟨a',o',fd',cc,P,h1,h2,h3,h4,h5,h6⟩:=T.tab d (List.mem_of_find?_eq_some hf)
 rw[hn,hm]at h1;cases h1
 rw[KX f _ l]at h2;cases h2
 cases h3
 refine⟨P,?_,h6.isCodeTable,h6.2⟩
 obtain⟨o,vs,file,tf,flags,tg,Kw,text,tt,op,ho,hd,h11,MT,h7,h9,Kx,_⟩:=h5
 obtain⟨⟨o2,UL,g1,g2,g3,g4⟩,_⟩:=h6
 rw[ho]at g1;cases g1
 rw[hd]at g3;cases g3
 rw[h4]at c
 cases q:K.lookup cc with
 |none=>unfold PySem.W.codeIn at c;simp[q]at c
 |some o3=>
  have e3:=KX cc o3 q
  rw[ho]at e3
  have e4:o=o3:=Option.some.inj e3
  subst e4
  exact⟨cc,o,vs,file,tf,flags,tg,Kw,text,tt,h4,q,g2,hd,g4,MT,h7,h9,Kx⟩
def tabOf(K:PySem.W.Frag)(f:Addr):Option Value:=match K.lookup f with
 |some ⟨_,_,.func fd,_⟩=>match fd.code with
  | .ref c=>match K.lookup c with
   |some o=>match o.data with
    | .fields vs=>vs[11]?
    |_=>none
   |none=>none
  |_=>none
 |_=>none
def EW(K:PySem.W.Frag)(fs gs:List Addr):Bool:=fs.all λf=>gs.all λg=>tabOf K f !=tabOf K g
theorem yk{K:PySem.W.Frag}{f P:Addr}{oc:Value}{od:Option Addr}{sl:Array (Option Value)}{fd:FuncData}(l:K.lookup f=some ⟨oc,od,.func fd,sl⟩)(c:fR K fd.code P):tabOf K f=some (.ref P):=by
 obtain⟨cc,o,vs,_,_,_,_,_,_,_,e1,e2,e3,e4,e5,_⟩:=c.ex
 unfold tabOf
 rw[l]
 simp only[e1,e2,e4,e5]
theorem j7{K:PySem.W.Frag}{fs gs:List Addr}(h:EW K fs gs=true){f g P Q:Addr}(hf:f∈fs)(hg:g∈gs)(a:tabOf K f=some (.ref P))(b:tabOf K g=some (.ref Q)):P≠Q:=λe=>by
 have h1:=List.all_eq_true.mp (List.all_eq_true.mp h f hf) g hg
 rw[a,b,e]at h1
 simp at h1
theorem EX{l:PySem.W.OpenLaw}{n k:Nat}{q:Program}{loose:List Str}{XP:(Str->Option Value) ->Heap->Prop}{YP:World->Heap->Prop}{d:DefRec}{K:Params->PySem.W.Frag}{x:Str}{sp:PySem.W.Frag->List Addr->List Addr->Sp}
  (hn:l.most=some n)(hn2:n<=sizeLine)(hdf:d.params.defaults=[])(hr:eT k callerA)
  (hY:∀(w:World) (h:Heap),YP w h->(K w.params).In h)
  (hcl:∀(w:World),PySem.W.kb_classed (K w.params)=true)
  (F:∀(w:World) (mg mb:Str->Option Value) (mean:ExcName->Option Value) (fa:Addr) (h:Heap),(K w.params).In h->Top q (PySem.W.looseW q loose) mean mg mb h->mg d.name=some (.ref fa) ->
   ∃(fd:FuncData) (tabs f9:List Addr),(∀(s:Shared) (u:Value),BindsTo s fd ⟨[u],[]⟩ [(x,u)])/\(∀T∈tabs++f9,isCodeTable h T/\h.get? T=some {cls:= .none,data:= .fields #[]})/\(∀T∈tabs,T∉f9)/\
    ∀base:Heap,(K w.params).In base->base.Ns mainGlobals mg->BM mg base->oV l.prog w (K w.params) mg base cO k fa fd [x] (sp (K w.params) tabs f9))
  (Hf:∀(K:PySem.W.Frag) (tabs f9:List Addr) (H:Hp) (a:Addr) (ns:List Int),ns.length<=n->(∀T∈tabs,H T=some (dG T)) ->(∀T∈f9,H T=some .xY) ->aT K H a (ns.map V.int) -> ∀Q:VK,(∀H',ay H H'->Q (.bl true) H') ->sp K tabs f9 [.ref a] H Q λ_ _ _=>False):
  PySem.W.WalkO q loose XP YP l.row.toRowW d [] (λf vs=>PySem.call f vs):=by
 refine QM.ye hn hdf λw s₀ s₁ mg mb fa o pm cd doc a vs ns G Y ho hd hcd hmg hobj hints hlen hg=> ?_
 have KX:=hY w _ Y
 obtain⟨fd,tabs,f9,hb,ht,EM,hF⟩:=F w mg mb _ fa _ KX G.T hmg
 have e1:∀T∈tabs,(if T∈f9 then HO.xY else dG T)=dG T:=λT hT=>if_neg (EM T hT)
 have e2:∀T∈f9,(if T∈f9 then HO.xY else dG T)= .xY:=λT hT=>if_pos hT
 refine CV (KN f9) KX G.T.g G.T.b G.T.builtins G.T.nolimit G.T.bmain hg ht hobj hints (Nat.le_trans hlen hn2) hr (hcl w) hF hb (λH hO hS=> ?_)
 refine Hf _ tabs f9 H a ns hlen (λT hT=>by rw[hO T (List.mem_append_left _ hT),e1 T hT]) (λT hT=>by rw[hO T (List.mem_append_right _ hT),e2 T hT]) hS _ λH' s=>⟨rfl,λT hT=>s _ _ (hO T hT)⟩
theorem ay.up{H:Hp}{D:Addr}{o:HO}(h:H D=none):ay H (upd H D o):=λb u q=>by rw[aG (cS q h)];exact q
theorem ay.upd{H H':Hp}{D:Addr}{o:HO}(s:ay H H')(h:H D=none):ay H (upd H' D o):=λb u q=>by rw[aG (cS q h)];exact s b u q
theorem ay.none{H H':Hp}(s:ay H H'){D:Addr}(h:H' D=Option.none):H D=Option.none:=s.free h
theorem ay.SO{K:PySem.W.Frag}{H H':Hp}{a:Addr}{xs:List V}(e:ay H H')(h:uq K H a xs):uq K H' a xs:=by
 rcases h with(h|⟨o,h⟩)|h
 ·exact .inl (.inl (e _ _ h))
 ·exact .inl (.inr ⟨o,e _ _ h⟩)
 ·exact .inr h
theorem _root_.PySem.Paired.EY{α β:Type}{F F':α->β->Prop}:∀{l:List α} {m:List β},Paired F l m->(∀a b,b∈m->F a b->F' a b) ->Paired F' l m
 |_,_,.nil,_=> .nil
 |_,_,.cons h t,k=> .cons (k _ _ List.mem_cons_self h) (t.EY λa b hb q=>k a b (List.mem_cons_of_mem _ hb) q)
structure JW(J:It)(H1:Hp)(xs:List V):Prop where
 go:∀i H',ay H1 H'->i<xs.length->J.go i H'
 zO:∀i H' x H2,ay H1 H'->i<xs.length->J.zO i H' x H2->H2=H'/\xs[i]?=some x
 stop:∀H',ay H1 H'->J.stop xs.length H'
theorem jA{K:PySem.W.Frag}{H1:Hp}{a:Addr}{xs:List V}(h:aT K H1 a xs):JW (JZ K a) H1 xs where
 go:=λi H' s hi=>⟨xs,xs[i],s.seq h,by simp[hi]⟩
 zO:=λi H' x H2 s hi ⟨e,y⟩=>⟨e,y xs (s.seq h)⟩
 stop:=λH' s=>⟨xs,s.seq h,Nat.le_refl _⟩
def kI(n:Nat):List V:=(List.range n).map λ (i:Nat)=>V.int (i:Int)
theorem e9{H1:Hp}{n:Nat}:JW (GZ 0 n) H1 (kI n) where
 go:=λi H' s hi=>by simpa [kI,GZ]using hi
 zO:=λi H' x H2 s hi ⟨e,y⟩=>⟨e,by
  have hi':i<n:=by simpa [kI]using hi
  subst y
  simp[kI,hi']⟩
 stop:=λH' s=>by simp[kI,GZ]
theorem rR{J:It}{H1:Hp}{xs:List V}{σ:St}{te:TE}{Q:VK}(jw:JW J H1 xs)(hz:xs.length<=sizeLine){D:Addr}(hD:H1 D=none)(P:List V->List V->Hp->Prop)(h0:P [] [] (upd H1 D (.lst [])))
  (hs:∀pre x post acc H' (Q':VK),xs=pre++x::post->acc.length=pre.length->ay H1 H'->H' D=some (.lst acc) ->P pre acc H'->(∀v H4,ay H' H4->P (pre++ [x]) (acc++ [v]) (upd H4 D (.lst (acc++ [v]))) ->Q' v H4) ->te (some x::σ) H' Q')
  (hq:∀acc H',acc.length=xs.length->ay H1 H'->H' D=some (.lst acc) ->P xs acc H'->Q (.ref D) H'):
  kG 1 (cY 0) te σ J H1 D Q:=by
 refine⟨λi m acc σ' H'=>m=xs.length-i/\i<=xs.length/\acc.length=i/\(∃o,σ'=o::σ)/\ay H1 H'/\H' D=some (.lst acc)/\P (xs.take i) acc H',⟨xs.length,rfl,Nat.zero_le _,rfl,⟨none,rfl⟩,ay.up hD,au,h0⟩,?_⟩
 rintro i m acc σ' H' ⟨rfl,hi,hl,⟨o,rfl⟩,sm,eD,p⟩
 by_cases hlt:i<xs.length
 ·refine .inr ⟨jw.go i H' sm hlt,by omega,λx H2 y=> ?_⟩
  obtain⟨rfl,ex⟩:=jw.zO i H' x H2 sm hlt y
  have hx:xs[i]=x:=by rw[List.getElem?_eq_getElem hlt]at ex;exact Option.some.inj ex
  have sp:xs=xs.take i++x::xs.drop (i+1):=by
   rw[<-hx,<-List.drop_eq_getElem_cons hlt,List.take_append_drop]
  have tk:xs.take (i+1)=xs.take i++ [x]:=by rw[List.take_succ,ex];rfl
  show te (some x::σ) H2 _
  refine hs (xs.take i) x (xs.drop (i+1)) acc H2 _ sp (by rw[hl,List.length_take];omega) sm eD p λv H4 s4 p4=> ?_
  refine⟨s4 _ _ eD,xs.length- (i+1),by omega,rfl,hlt,by simp[hl],⟨_,rfl⟩,(sm.trans s4).upd hD,au,?_⟩
  rw[tk]
  exact p4
 ·have e:i=xs.length:=by omega
  subst e
  refine .inl ⟨jw.stop H' sm,eD,hq acc H' hl sm eD ?_⟩
  rw[List.take_length]at p
  exact p
section
variable{X:Cx}{sc:Scope}{N2:List Str}{x:Str}{px:Pos}{elt iter:Expr}{iE p pos:Pos}{wi:TI}{te:TE}{P:Addr}
theorem BN(B:pZ sc.names X.env.scope.names [x] N2 X.N)(s:Shared)(H:Hp)(fp:List Addr):PG (X.comp sc ([x]++N2) s H fp) (.Name x px) (cY 0):=by
 rcases B.own x (by simp)with e|e
 ·exact aP (i:=0) B.HF rfl (.inl (jf (env:=X.env) e (.inl rfl))) (.inr (jf (env:=X.env) e (.inl rfl)))
 ·refine aP (i:=0) B.HF rfl (.inr (jf (env:=X.env) e (.inr rfl))) (.inl ?_)
  show(sc.names.lookup x==some NameKind.cell)=true
  rw[e];rfl
theorem gT(hc:X.calm=true)(hi:PI X (.Name x px) iter wi)(hB:zT sc.names X.env.scope.names [x] N2 X.N=true)(hk:sc.kind= .function)(he:∀s H fp,PE (X.comp sc ([x]++N2) s H fp) elt te)
  (hs:∀x,foldedSetIterable iter X.env x=pure x:=by intro _;rfl):PE X (.ListComp elt [⟨.Name x px,iter,[],0⟩] sc pos) (lV 1 wi (cY 0) te):=
 yi (own:=[x]) hc hi (lT hB) hk (λs H fp=>BN (lT hB) s H fp) he hs
theorem KO{i:Nat}{y:Str}{py spos:Pos}(hN:X.N.Nodup)(hi':X.N[i]?=some y)(hy:X.env.scope.names.lookup y=some .local)(hc:X.calm=true)(hi:PI X (.Name x px) iter wi)(hB:zT sc.names X.env.scope.names [x] N2 X.N=true)(hk:sc.kind= .function)(he:∀s H fp,PE (X.comp sc ([x]++N2) s H fp) elt te)
  (hsw:swapsWith (.ListComp elt [⟨.Name x px,iter,[],0⟩] sc pos) (some (.Name y py)) spos.line X.env=pure true:=by rfl)(hs:∀x,foldedSetIterable iter X.env x=pure x:=by intro _;rfl):
  PS X (.Assign [.Name y py] (.ListComp elt [⟨.Name x px,iter,[],0⟩] sc pos) spos) (zN (lV 1 wi (cY 0) te) (cY i)):=
 EH (own:=[x]) hN hi' hy hc hi (lT hB) hk (λs H fp=>BN (lT hB) s H fp) he hsw hs
theorem EZ{B:Around}(Bk:pZ sc.names X.env.scope.names [x] N2 X.N)(hnc:∀y∈sc.names,y.2≠ .cell)(code:Value)(s:Shared)(H:Hp)(fp:List Addr):PG (X.gen B sc ([x]++N2) code s H fp) (.Name x px) (cY 0):=by
 rcases Bk.own x (by simp)with e|e
 ·exact aP (i:=0) Bk.HF rfl (.inl e) (.inr e)
 ·exact absurd rfl (hnc _ (mem_of_lookup e))
def Fb(sc:Scope)(ks:List (Str×NameKind))(own N2 N:List Str):Bool:=
 zT sc.names ks own N2 N && (sc.kind== .function) && !sc.isCoroutine && sc.names.all (λy=>y.2 != .cell) && (sc.names.lookup (".0":Str)==some NameKind.local)
theorem sM{own:List Str}(hc:X.calm=true)(hr:X.A.depth<recursionLimit)(cd:fR X.K X.env.code P)(bm:BM X.mg X.base)(h:Fb sc X.env.scope.names own N2 X.N=true):EU X sc own N2 P:=by
 unfold Fb at h
 simp only[Bool.and_eq_true]at h
 obtain⟨⟨⟨⟨h1,h2⟩,h3⟩,h4⟩,h5⟩:=h
 refine⟨hc,hr,lT h1,by simpa using h2,by simpa using h3,λy hy=> ?_,by simpa using h5,cd,bm⟩
 have q:=List.all_eq_true.mp h4 y hy
 simpa using q
theorem BO(hc:X.calm=true)(hr:X.A.depth<recursionLimit)(cd:fR X.K X.env.code P)(bm:BM X.mg X.base)(EV:Gl X "sum")(hm:X.mg "sum"=none)(hi:PI X (.Name x px) iter wi)(hB:Fb sc X.env.scope.names [x] N2 X.N=true)
  (he:∀code s H fp,PE (X.gen X.A.in1.in1 sc ([x]++N2) code s H fp) elt te)
  (hs:∀x,genFold iter X.env x=pure x:=by intro _;rfl)(hst:starEach [.GeneratorExp elt [⟨.Name x px,iter,[],0⟩] sc iE] X.env=[(false,eval (.GeneratorExp elt [⟨.Name x px,iter,[],0⟩] sc iE) X.env)]:=by rfl):
  PE X (.Call (.Name "sum" p) [.GeneratorExp elt [⟨.Name x px,iter,[],0⟩] sc iE] [] pos) (vm 1 P wi (cY 0) te):=
 have K:=sM hc hr cd bm hB
 BI (own:=[x]) K EV hm hi (λcode s H fp=>EZ K.MZ K.nc code s H fp) he hs hst
theorem wI(hc:X.calm=true)(hr:X.A.depth<recursionLimit)(cd:fR X.K X.env.code P)(bm:BM X.mg X.base)(EV:Gl X "all")(hm:X.mg "all"=none)(hi:PI X (.Name x px) iter wi)(hB:Fb sc X.env.scope.names [x] N2 X.N=true)
  (he:∀code s H fp,PE (X.gen X.A.in1.in1 sc ([x]++N2) code s H fp) elt te)
  (hs:∀x,genFold iter X.env x=pure x:=by intro _;rfl)(hst:starEach [.GeneratorExp elt [⟨.Name x px,iter,[],0⟩] sc iE] X.env=[(false,eval (.GeneratorExp elt [⟨.Name x px,iter,[],0⟩] sc iE) X.env)]:=by rfl):
  PE X (.Call (.Name "all" p) [.GeneratorExp elt [⟨.Name x px,iter,[],0⟩] sc iE] [] pos) (Js 1 P wi (cY 0) te):=
 have K:=sM hc hr cd bm hB
 HM (own:=[x]) K EV hm hi (λcode s H fp=>EZ K.MZ K.nc code s H fp) he hs hst
theorem ym{k:Nat}{A:Around}{e:Env}(r:eT (k+1) A):eT k (HH A.in1.in1 e):=
 ⟨r.hd,by have:=r.dp;show A.depth+1+3*k+5<_;omega,by have:=r.un;show A.units+1+1+3+16*k+200<_;omega⟩
end
theorem Fc{J:It}{H1:Hp}{xs:List V}{σ:St}{te:TE}{F:Nat->(Nat->V->Prop) ->(Nat->St->Hp->Prop) ->Prop}(jw:JW J H1 xs)(R:Nat->V->Prop)
  (hs:∀i x,xs[i]?=some x-> ∀H' (Q':VK),ay H1 H'->(∀v H2,R i v->ay H' H2->Q' v H2) ->te (some x::σ) H' Q')
  (hF:F xs.length R (λ_ σ' H'=>(∃o,σ'=o::σ)/\ay H1 H')):vj 1 (cY 0) te σ F J H1:=by
 refine⟨xs.length,R,_,⟨⟨none,rfl⟩,ay.refl _⟩,λi σ' H' hi w=> ?_,λσ' H' w=>jw.stop H' w.2,hF⟩
 obtain⟨⟨o,rfl⟩,sm⟩:=w
 refine⟨jw.go i H' sm hi,λx H2 y=> ?_⟩
 obtain⟨rfl,ex⟩:=jw.zO i H' x H2 sm hi y
 show te (some x::σ) H2 _
 exact hs i x ex H2 _ sm λv H3 r s3=>⟨r,⟨_,rfl⟩,sm.trans s3⟩
theorem Fd{J:It}{H1:Hp}{xs:List V}{σ:St}{te:TE}{Q:VK}{P:Addr}(jw:JW J H1 xs)(hP:H1 P=some (dG P))(val:Nat->Int)
  (hs:∀i x,xs[i]?=some x-> ∀H' (Q':VK),ay H1 H'->(∀H2,ay H' H2->Q' (.int (val i)) H2) ->te (some x::σ) H' Q')
  (hq:∀H',ay H1 H'->Q (.int (preSum val xs.length)) H'):
  ET 1 P (cY 0) te σ J H1 Q:=
 ⟨hP,Fc jw (λi v=>v= .int (val i)) (λi x ex H' Q' sm k=>hs i x ex H' Q' sm λH2 s2=>k _ _ rfl s2) ⟨val,λi v _ r=>r,λσ' H' w=>hq H' w.2⟩⟩
theorem z5{J:It}{H1:Hp}{xs:List V}{σ:St}{te:TE}{Q:VK}{P:Addr}(jw:JW J H1 xs)(hP:H1 P=some (dG P))(bv:Nat->Bool)
  (hs:∀i x,xs[i]?=some x-> ∀H' (Q':VK),ay H1 H'->(∀H2,ay H' H2->Q' (.bl (bv i)) H2) ->te (some x::σ) H' Q')
  (hq:∀b H',ay H1 H'->(b=true↔ ∀j,j<xs.length->bv j=true) ->Q (.bl b) H'):
  Jr 1 P (cY 0) te σ J H1 Q:=
 ⟨hP,Fc jw (λi v=>v= .bl (bv i)) (λi x ex H' Q' sm k=>hs i x ex H' Q' sm λH2 s2=>k _ _ rfl s2) ⟨bv,λi v _ r=>r,λhb σ' H' w=>hq _ H' w.2 ⟨λ_=>hb,λ_=>rfl⟩,
  λj hj hb _ σ' H' w=>hq _ H' w.2 ⟨λz=>(by cases z),λz=>by rw[z j hj]at hb;cases hb⟩⟩⟩
structure CW(K:PySem.W.Frag)(x qual:Str)(st:Stmt)(f:Addr)(fd:FuncData)(T:Addr):Prop where
 ex:∃(oc:Value) (od:Option Addr) (kV doc pm:Value) (an:Option Addr) (cdv ct:Value) (osl:Array (Option Value)),
  fd=PySem.W.fnOf x qual (f7 st) (eL st) (az st) .none kV doc pm an cdv ct/\K.lookup f=some ⟨oc,od,.func fd,osl⟩/\PySem.W.codeIn K cdv qual=true/\fR K cdv T
 kp:PySem.W.keepIn K (.ref f)=true
theorem CW.ok{P:Program}{w:World}{K:PySem.W.Frag}{mg:Str->Option Value}{base:Heap}{x qual:Str}{st:Stmt}{f T:Addr}{fd:FuncData}{N ps:List Str}{k:Nat}{sp:Sp}(F:CW K x qual st f fd T)(S:aM N ps (az st))(len:∀vs H Q E,sp vs H Q E->vs.length=ps.length)
  (hbody:∀(cdv:Value) (A:Around) (outer:List Env) (s:Shared) (H:Hp) (vs:List V) (Q:VK) (E:XK),fR K cdv T->eT k (A.deeper (envOfC qual (az st) s.heap.objs.size f cdv)) ->sp vs H Q E->
   ∃t,v7 (wj cO P w K mg base N qual (az st) f cdv A outer s H E).Eg (eL st) t/\t {nx:=λ_ H'=>Q .iR H',rt:=Q} (start N vs) H):oV P w K mg base cO (k+1) f fd ps sp:=by
 obtain⟨oc,od,kV,doc,pm,an,cdv,ct,osl,rfl,lk,hcd,cd⟩:=F.ex
 refine Ji lk hcd S len λA outer s H vs Q E hr Hf=> ?_
 obtain⟨t,h,q⟩:=hbody cdv A outer s H vs Q E cd hr Hf
 exact⟨t,h.Eg,q⟩
theorem CW.fn{K:PySem.W.Frag}{x qual:Str}{st:Stmt}{f T:Addr}{fd:FuncData}(F:CW K x qual st f fd T):Jj K x qual st f fd:=by
 obtain⟨oc,od,kV,doc,pm,an,cdv,ct,osl,e,lk,hcd,cd⟩:=F.ex
 exact⟨⟨oc,od,kV,doc,pm,an,cdv,ct,osl,e,lk,hcd⟩,F.kp⟩
abbrev BP (K:PySem.W.Frag):List V->Hp->VK->Prop:=λxs H Q=> ∃p ys,xs=[.ref p]/\(aT K H p ys∨uq K H p ys)/\ ∀l,H l=none->Q (.ref l) (upd H l (.lst ys))
theorem iV{X:Cx}{e:Expr}{t:TE}(h:PE X e t):PE X e t:=h
theorem bits_le{k:Int}{n:Nat}(h:k.natAbs<2^n):Builtin.Int.intBits k<=n:=by
 unfold Builtin.Int.intBits
 split
 ·exact Nat.zero_le _
 ·rename_i h0
  have h1:k.natAbs≠0:=λz=>h0 (by have:k=0:=Int.natAbs_eq_zero.mp z;rw[this];rfl)
  exact(Nat.log2_lt h1).mpr h
def jg(i j:Int):Prop:=i.natAbs<2^4096/\j.natAbs<2^4096
theorem jg.ok{i j:Int}(h:jg i j):IntMulOk i j:=by
 have h1:=bits_le h.1
 have h2:=bits_le h.2
 have h3:Builtin.Int.intTooBig (Builtin.Int.intBits i+Builtin.Int.intBits j)=false:=by
  unfold Builtin.Int.intTooBig
  refine decide_eq_false ?_
  have:((Builtin.Int.intBits i+Builtin.Int.intBits j:Nat):Int)<=8192:=by omega
  have e:(8192:Int)<=((bitsLine:Nat):Int):=by decide
  omega
 unfold IntMulOk
 rw[h3]
 simp
section
variable{X:Cx}
theorem aB:rB X (binaryOp .Mult) (rI jg λi j=> .int (i*j)):=Kf λ_ _ _ _ _ _ _ hc q=>mul_int q hc.ok
def Nb(i j:Int):Prop:=0<j/\j.natAbs.log2<9000
theorem oX:rB X (binaryOp .FloorDiv) (rI Nb λi j=> .int (i/j)):=Kf λi j _ _ _ _ _ hc q=>by
 have h1:(0:Int)<j:=hc.1
 exact floordiv_int (by omega) (by rw[Int.fdiv_eq_ediv_of_nonneg i (by omega)];exact q) (.inl (PyProof.noPylong_of_log2 hc.2))
end
def Tab(H:Hp)(t:Addr)(bs:List Addr)(m:List (List Int)):Prop:=H t=some (.lst (bs.map V.ref))/\Paired (λrow b=>H b=some (.lst (row.map V.int))) m bs
theorem Tab.same{H H':Hp}{t:Addr}{bs:List Addr}{m:List (List Int)}(s:ay H H')(h:Tab H t bs m):Tab H' t bs m:=⟨s _ _ h.1,h.2.EY λ_ _ _ q=>s _ _ q⟩
def cz(m:List (List Int)):Prop:=m.length=3/\ ∀r∈m,r.length=3
theorem KP{H:Hp}{m:List (List Int)}{bs:List Addr}(pr:Paired (λrow b=>H b=some (.lst (row.map V.int))) m bs){b:Addr}(hb:b∈bs):∃row,row∈m/\H b=some (.lst (row.map V.int)):=by
 induction pr with
 |nil=>cases hb
 | @cons r c m bs h t ih=>
  rcases List.mem_cons.mp hb with e|hb
  ·exact⟨r,List.mem_cons_self,by rw[e];exact h⟩
  ·obtain⟨row,q1,q2⟩:=ih hb
   exact⟨row,List.mem_cons_of_mem _ q1,q2⟩
theorem Tab.upd{H:Hp}{t x:Addr}{bs:List Addr}{m:List (List Int)}{o:HO}(h:Tab H t bs m)(h1:t≠x)(h2:x∉bs):Tab (upd H x o) t bs m:=
 ⟨by rw[aG h1];exact h.1,h.2.EY λr b hb e=>by rw[aG (λz=>h2 (by rw[<-z];exact hb))];exact e⟩
theorem Jt{K:PySem.W.Frag}{H:Hp}:∀r:List Int,zX K H (r.map V.int) (r.map PyData.int)
 | []=> .nil
 |x::r=> .cons (.int x) (Jt r)
theorem BQ{K:PySem.W.Frag}{H:Hp}{t:Addr}{bs:List Addr}{m:List (List Int)}(h:Tab H t bs m):BK K H (.ref t) (zY m):=by
 obtain⟨e,pr⟩:=h
 refine .lst (aT.of e) ?_
 clear e
 induction pr with
 |nil=>exact .nil
 | @cons r b m bs h t ih=>exact .cons (.lst (aT.of h) (Jt r)) ih
theorem yo{bs:List Addr}{x:V}(h:x∈bs.map V.ref):∃b,x= .ref b/\b∈bs:=by
 obtain⟨b,hb,e⟩:=List.mem_map.mp h
 exact⟨b,e.symm,hb⟩
def itemsOf(H:Hp)(g:V->V)(x:V):List V:=match x with
 | .ref b=>(match H b with|some (.lst xs)=>xs.map g|_=>[])
 |_=>[]
theorem qX{H:Hp}{g:V->V}{b:Addr}{xs:List V}(h:H b=some (.lst xs)):itemsOf H g (.ref b)=xs.map g:=by
 show(match H b with|some (.lst xs)=>xs.map g|_=>[])=_
 rw[h]
theorem vn{H H':Hp}{f:V->List V}{g:List Int->List Int}:∀{m:List (List Int)} {bs bs':List Addr},Paired (λrow b=>H b=some (.lst (row.map V.int))) m bs->Paired (λx b'=>H' b'=some (.lst (f x))) (bs.map V.ref) bs'->
  (∀row b,H b=some (.lst (row.map V.int)) ->f (.ref b)=(g row).map V.int) ->Paired (λrow b'=>H' b'=some (.lst (row.map V.int))) (m.map g) bs'
 |_,_,_,.nil,h2,_=>by cases h2;exact .nil
 |_,_,_,.cons h t,h2,k=>by
  cases h2 with
  |cons h' t'=>exact .cons (by rw[h',k _ _ h]) (vn t t' k)
def ent(m:List (List Int))(i j:Nat):Int:=(m.getD i []).getD j 0
def mk3(g:Nat->Nat->Int):List (List Int):=[[g 0 0,g 0 1,g 0 2],[g 1 0,g 1 1,g 1 2],[g 2 0,g 2 1,g 2 2]]
theorem cF(g:Nat->Nat->Int):cz (mk3 g):=⟨rfl,λr hr=>by
 simp only[mk3,List.mem_cons,List.not_mem_nil,or_false]at hr
 rcases hr with rfl|rfl|rfl<;>rfl⟩
theorem bE{i:Nat}(h:i<3):i=0∨i=1∨i=2:=by omega
theorem bC(g:Nat->Nat->Int){i j:Nat}(hi:i<3)(hj:j<3):ent (mk3 g) i j=g i j:=by
 rcases bE hi with rfl|rfl|rfl<;>rcases bE hj with rfl|rfl|rfl<;>rfl
theorem wJ{m:List (List Int)}(h:cz m):m=mk3 (ent m):=by
 obtain⟨h1,h2⟩:=h
 match m,h1,h2 with
 | [r0,r1,r2],_,h2=>
  have l0:=h2 r0 (by simp)
  have l1:=h2 r1 (by simp)
  have l2:=h2 r2 (by simp)
  match r0,r1,r2,l0,l1,l2 with
  | [a,b,c],[d,e,f],[g,h,i],_,_,_=>rfl
theorem gU{xs:List V}{i:Nat}{v:V}(h:xs[i]?=some v):xZ xs (i:Int)=some v:=BF h
theorem BR{H:Hp}{t:Addr}{bs:List Addr}{m:List (List Int)}(h:Tab H t bs m){i:Nat}(hi:i<m.length):∃b row,xZ (bs.map V.ref) (i:Int)=some (.ref b)/\H b=some (.lst (row.map V.int))/\m[i]?=some row/\b∈bs:=by
 obtain⟨_,pr⟩:=h
 have q:∀{m:List (List Int)} {bs:List Addr} {i:Nat},Paired (λrow b=>H b=some (.lst (row.map V.int))) m bs->i<m.length-> ∃b row,bs[i]?=some b/\H b=some (.lst (row.map V.int))/\m[i]?=some row:=by
  intro m bs i pr
  induction pr generalizing i with
  |nil=>intro hi;exact absurd hi (Nat.not_lt_zero _)
  | @cons r b m bs h t ih=>
   intro hi
   cases i with
   |zero=>exact⟨b,r,rfl,h,rfl⟩
   |succ i=>
    obtain⟨b',r',e1,e2,e3⟩:=ih (i:=i) (by simpa using hi)
    exact⟨b',r',by simpa using e1,e2,by simpa using e3⟩
 obtain⟨b,row,e1,e2,e3⟩:=q pr hi
 exact⟨b,row,gU (by rw[List.getElem?_map,e1];rfl),e2,e3,List.mem_of_getElem? e1⟩
theorem mZ{H:Hp}{t:Addr}{bs:List Addr}{m:List (List Int)}(h:Tab H t bs m)(bT:cz m){i j:Nat}(hi:i<3)(hj:j<3):
  ∃(b:Addr) (row:List Int),xZ (bs.map V.ref) (i:Int)=some (.ref b)/\H b=some (.lst (row.map V.int))/\xZ (row.map V.int) (j:Int)=some (.int (ent m i j)):=by
 obtain⟨b,row,e1,e2,e3,_⟩:=BR h (i:=i) (by rw[bT.1];exact hi)
 refine⟨b,row,e1,e2,gU ?_⟩
 have rl:row.length=3:=bT.2 row (List.mem_of_getElem? e3)
 have e4:m.getD i []=row:=by rw[List.getD_eq_getElem?_getD,e3];rfl
 rw[List.getElem?_map,List.getElem?_eq_getElem (by rw[rl];exact hj)]
 unfold ent
 rw[e4,List.getD_eq_getElem?_getD,List.getElem?_eq_getElem (by rw[rl];exact hj)]
 rfl
theorem aW{H:Hp}{t:Addr}{bs:List Addr}{m:List (List Int)}(h:Tab H t bs m)(bT:cz m){i:Nat}(hi:i<3):
  ∃b,xZ (bs.map V.ref) (i:Int)=some (.ref b)/\H b=some (.lst [.int (ent m i 0),.int (ent m i 1),.int (ent m i 2)])/\b∈bs:=by
 obtain⟨b,row,e1,e2,e3,e5⟩:=BR h (i:=i) (by rw[bT.1];exact hi)
 refine⟨b,e1,?_,e5⟩
 have rl:row.length=3:=bT.2 row (List.mem_of_getElem? e3)
 have e4:m.getD i []=row:=by rw[List.getD_eq_getElem?_getD,e3];rfl
 rw[e2]
 unfold ent
 rw[e4]
 match row,rl with
 | [a,b,c],_=>rfl
def Bd(n:Nat)(m:List (List Int)):Prop:=∀i j,i<3->j<3->(ent m i j).natAbs<2^n
theorem Bd.mono{a b:Nat}{m:List (List Int)}(h:Bd a m)(hab:a<=b):Bd b m:=λi j hi hj=>Nat.lt_of_lt_of_le (h i j hi hj) (Nat.pow_le_pow_right (by decide) hab)
theorem b7{x y:Int}{a b:Nat}(hx:x.natAbs<2^a)(hy:y.natAbs<2^b):(x*y).natAbs<2^(a+b):=by
 rw[Int.natAbs_mul,Nat.pow_add]
 exact Nat.mul_lt_mul_of_lt_of_lt hx hy
theorem jh{x y:Int}{a:Nat}(hx:x.natAbs<2^a)(hy:y.natAbs<2^a):(x+y).natAbs<2^(a+1):=by
 have e:2^(a+1)=2^a+2^a:=by rw[Nat.pow_succ];omega
 omega
theorem jN{x y:Int}{a:Nat}(hx:x.natAbs<2^a)(hy:y.natAbs<2^a):(x-y).natAbs<2^(a+1):=by
 have e:2^(a+1)=2^a+2^a:=by rw[Nat.pow_succ];omega
 omega
theorem aH{x:Int}{a b:Nat}(hx:x.natAbs<2^a)(h:a<=b):x.natAbs<2^b:=Nat.lt_of_lt_of_le hx (Nat.pow_le_pow_right (by decide) h)
def ir(a b:List (List Int)):List (List Int):=mk3 λi j=>ent a i 0*ent b 0 j+ent a i 1*ent b 1 j+ent a i 2*ent b 2 j
def cL(a:List (List Int)):List (List Int):=mk3 λi j=>ent a j i
theorem rS{a b:List (List Int)}{p q:Nat}(ha:Bd p a)(hb:Bd q b):Bd (p+q+2) (ir a b):=λi j hi hj=>by
 unfold ir
 rw[bC _ hi hj]
 exact jh (jh (b7 (ha i 0 hi (by decide)) (hb 0 j (by decide) hj)) (b7 (ha i 1 hi (by decide)) (hb 1 j (by decide) hj))) (aH (b7 (ha i 2 hi (by decide)) (hb 2 j (by decide) hj)) (Nat.le_succ _))
theorem sN{a:List (List Int)}{p:Nat}(ha:Bd p a):Bd p (cL a):=λi j hi hj=>by
 unfold cL
 rw[bC _ hi hj]
 exact ha j i hj hi
theorem oY(K:PySem.W.Frag)(n:String):PySem.W.kitOne K (.type n) (.type n)=some true:=by
 unfold PySem.W.kitOne
 rw[if_pos (by simp)]
theorem oZ(K:PySem.W.Frag):PySem.W.kitOne K (.type "int") (.type "bool")=some false:=by kernel_rfl
theorem KQ{xs:List V}{k:Int}(h0:0<=k)(h:k<(xs.length:Int)):∃v,xZ xs k=some v/\xs[k.toNat]?=some v:=by
 have hk:k.toNat<xs.length:=by omega
 have ek:k=((k.toNat:Nat):Int):=by omega
 have q:xZ xs ((k.toNat:Nat):Int)=some xs[k.toNat]:=BF (by rw[List.getElem?_eq_getElem hk])
 rw[<-ek]at q
 exact⟨xs[k.toNat],q,by rw[List.getElem?_eq_getElem hk]⟩
theorem HR{ns:List Int}{k:Int}(h0:0<=k)(h:k<(ns.length:Int)):∃z:Int,xZ (ns.map V.int) k=some (.int z):=by
 obtain⟨v,h1,h2⟩:=KQ (xs:=ns.map V.int) h0 (by rw[List.length_map];exact h)
 rw[List.getElem?_map]at h2
 cases q:ns[k.toNat]? with
 |none=>rw[q]at h2;cases h2
 |some z=>rw[q]at h2;cases h2;exact⟨z,h1⟩
theorem at2{x y:V}{i:Int}(h0:0<=i)(h:i<2):∃v,xZ [x,y] i=some v/\(v=x∨v=y):=by
 have c:i=0∨i=1:=by omega
 rcases c with rfl|rfl
 ·exact⟨x,rfl,.inl rfl⟩
 ·exact⟨y,rfl,.inr rfl⟩
section
variable{X:Cx}
end
theorem kJ{J:It}{xs:List V}{H1:Hp}{σ:St}{te:TE}{Q:VK}{D:Addr}(jw:JW J H1 xs)(h3:xs.length=3)(hD:H1 D=none)(g:Nat->Int)(hs:∀j x,j<3->xs[j]?=some x-> ∀H' (Q':VK),ay H1 H'->(∀H2,ay H' H2->Q' (.int (g j)) H2) ->te (some x::σ) H' Q')
  (hq:∀H',ay H1 H'->H' D=some (.lst [.int (g 0),.int (g 1),.int (g 2)]) ->Q (.ref D) H'):kG 1 (cY 0) te σ J H1 D Q:=by
 refine rR jw (by rw[h3];decide) hD (λpre acc H'=>acc=(List.range pre.length).map λj=>V.int (g j)) rfl (λpre x post acc H' Q' e hl sm eD p k=> ?_) (λacc H' hl sm eD p=> ?_)
 ·have hlen:pre.length<3:=by
   have:=congrArg List.length e
   rw[h3]at this
   simp at this
   omega
  refine hs pre.length x hlen (by rw[e];simp) H' Q' sm λH2 s2=>k _ H2 s2 ?_
  rw[p]
  simp[List.range_succ]
 ·refine hq H' sm ?_
  rw[eD,p,h3]
  rfl
theorem pq{J:It}{xs:List V}{H1:Hp}{σ:St}{te:TE}{Q:VK}{D:Addr}(jw:JW J H1 xs)(h3:xs.length=3)(hD:H1 D=none)(g:Nat->Nat->Int)
  (hs:∀i x,i<3->xs[i]?=some x-> ∀H' (Q':VK),ay H1 H'->(∀b H2,H' b=none->ay H' H2->H2 b=some (.lst [.int (g i 0),.int (g i 1),.int (g i 2)]) ->Q' (.ref b) H2) ->te (some x::σ) H' Q')
  (hq:∀bs H',ay H1 H'->(∀b∈bs,H1 b=none) ->D∉bs->Tab H' D bs (mk3 g) ->Q (.ref D) H'):kG 1 (cY 0) te σ J H1 D Q:=by
 refine rR jw (by rw[h3];decide) hD (λpre acc H'=> ∃bs:List Addr,acc=bs.map V.ref/\(∀b∈bs,H1 b=none)/\D∉bs/\Paired (λi b=>H' b=some (.lst [.int (g i 0),.int (g i 1),.int (g i 2)])) (List.range pre.length) bs) ⟨[],rfl,λ_ h=>(nomatch h),by simp,.nil⟩ (λpre x post acc H' Q' e hl sm eD p k=> ?_) (λacc H' hl sm eD p=> ?_)
 ·obtain⟨bs,rfl,fr,nD,pr⟩:=p
  have hlen:pre.length<3:=by
   have:=congrArg List.length e
   rw[h3]at this
   simp at this
   omega
  refine hs pre.length x hlen (by rw[e];simp) H' _ sm λb H2 hb s2 eb=>k _ _ s2 ⟨bs++ [b],by simp,?_,?_,?_⟩
  ·intro c hc
   rcases List.mem_append.mp hc with z|z
   ·exact fr c z
   ·rw[List.mem_singleton.mp z];exact sm.none hb
  ·intro z
   rcases List.mem_append.mp z with z|z
   ·exact nD z
   ·rw[<-List.mem_singleton.mp z,eD]at hb;cases hb
  ·have nb:b≠D:=λz=>by rw[z,eD]at hb;cases hb
   have er:List.range (pre++ [x]).length=List.range pre.length++ [pre.length]:=by simp[List.range_succ]
   rw[er]
   refine Paired.snoc (pr.EY λy c hc q=> ?_) (by rw[aG nb];exact eb)
   rw[aG (λz=>nD (by rw[<-z];exact hc))]
   exact s2 _ _ q
 ·obtain⟨bs,rfl,fr,nD,pr⟩:=p
  refine hq bs H' sm fr nD ⟨eD,?_⟩
  rw[h3]at pr
  have SQ:Paired (λi b=>H' b=some (.lst [.int (g i 0),.int (g i 1),.int (g i 2)])) [0,1,2] bs:=pr
  cases SQ with
  |cons h0 t0=>cases t0 with
   |cons h1 t1=>cases t1 with
    |cons h2 t2=>
     cases t2
     exact .cons h0 (.cons h1 (.cons h2 .nil))
theorem d7{n k:Nat}{x:V}(h:(kI n)[k]?=some x):k<n/\x= .int (k:Int):=by
 unfold kI at h
 rw[List.getElem?_map]at h
 cases q:(List.range n)[k]? with
 |none=>rw[q]at h;cases h
 |some z=>
  rw[q]at h
  have hz:=List.getElem?_eq_some_iff.mp q
  obtain⟨h1,h2⟩:=hz
  have SR:k<n:=by simpa using h1
  rw[List.getElem_range]at h2
  subst h2
  cases h
  exact⟨SR,rfl⟩
theorem Nc(val:Nat->Int):preSum val 3=val 0+val 1+val 2:=by simp[preSum]
theorem Fe{d:PyData}(h:SeqAt.shaped d=true):PyData.eqv d d=true:=SeqAt.eqv_refl d (SeqAt.canLay_of_shaped h)
theorem HS{K:PySem.W.Frag}{H:Hp}{x y:V}{Q:VK}(d:PyData)(hx:BK K H x d)(hy:BK K H y d)(hs:SeqAt.shaped d=true)(q:Q (.bl true) H):HN K false x y H Q:=
 ⟨d,d,hx,hy,hs,hs,by rw[Fe hs];exact q⟩
theorem gW{f g:Nat->Nat->Int}(h:∀i j,i<3->j<3->f i j=g i j):mk3 f=mk3 g:=by
 simp only[mk3,h 0 0 (by decide) (by decide),h 0 1 (by decide) (by decide),h 0 2 (by decide) (by decide),h 1 0 (by decide) (by decide),h 1 1 (by decide) (by decide),h 1 2 (by decide) (by decide),h 2 0 (by decide) (by decide),h 2 1 (by decide) (by decide),h 2 2 (by decide) (by decide)]
theorem aI(a b:List (List Int)){i j:Nat}(hi:i<3)(hj:j<3):ent (ir a b) i j=ent a i 0*ent b 0 j+ent a i 1*ent b 1 j+ent a i 2*ent b 2 j:=bC _ hi hj
theorem aU(a:List (List Int)){i j:Nat}(hi:i<3)(hj:j<3):ent (cL a) i j=ent a j i:=bC _ hi hj
theorem z6(a b c:List (List Int)):ir (ir a b) c=ir a (ir b c):=by
 refine gW λi j hi hj=> ?_
 rw[aI a b hi (by decide),aI a b hi (by decide),aI a b hi (by decide),aI b c (by decide) hj,aI b c (by decide) hj,aI b c (by decide) hj]
 grind
theorem sO(a b:List (List Int)):cL (ir a b)=ir (cL b) (cL a):=by
 refine gW λi j hi hj=> ?_
 rw[aI a b hj hi,aU b hi (by decide),aU b hi (by decide),aU b hi (by decide),aU a (by decide) hj,aU a (by decide) hj,aU a (by decide) hj]
 grind
theorem yp{a:List (List Int)}(h:cz a):cL (cL a)=a:=by
 rw[wJ h]
 refine gW λi j hi hj=> ?_
 rw[aU _ hj hi,bC _ hi hj]
def fH(m b:List (List Int)):List (List Int):=ir (ir b m) (cL b)
theorem vp{m:List (List Int)}(b:List (List Int))(hb:cz b):cL (fH m b)=fH (cL m) b:=by
 unfold fH
 rw[sO,sO,yp hb,z6]
def fV(m:List (List Int))(i j:Nat):Int:=ent m ((i+1)%3) ((j+1)%3)*ent m ((i+2)%3) ((j+2)%3) -ent m ((i+1)%3) ((j+2)%3)*ent m ((i+2)%3) ((j+1)%3)
def aA(m:List (List Int)):Int:=ent m 0 0*fV m 0 0+ent m 0 1*fV m 0 1+ent m 0 2*fV m 0 2
theorem cP(m:List (List Int)):aA m=ent m 0 0*(ent m 1 1*ent m 2 2-ent m 1 2*ent m 2 1)+ent m 0 1*(ent m 1 2*ent m 2 0-ent m 1 0*ent m 2 2)+ent m 0 2*(ent m 1 0*ent m 2 1-ent m 1 1*ent m 2 0):=rfl
theorem vq(a b:List (List Int)):aA (ir a b)=aA a*aA b:=by
 rw[cP,cP,cP]
 simp only[aI a b (show 0<3 by decide) (show 0<3 by decide),aI a b (show 0<3 by decide) (show 1<3 by decide),aI a b (show 0<3 by decide) (show 2<3 by decide),aI a b (show 1<3 by decide) (show 0<3 by decide),aI a b (show 1<3 by decide) (show 1<3 by decide),aI a b (show 1<3 by decide) (show 2<3 by decide),aI a b (show 2<3 by decide) (show 0<3 by decide),aI a b (show 2<3 by decide) (show 1<3 by decide),aI a b (show 2<3 by decide) (show 2<3 by decide)]
 grind
theorem m3(i:Nat)(k:Nat):((i:Int)+(k:Int))%3=(((i+k)%3:Nat):Int):=by omega
theorem ur(i:Nat):i%3<3:=Nat.mod_lt _ (by decide)
theorem yq(f:Nat->Int){c:Nat}(h:c<3):xZ [V.int (f 0),.int (f 1),.int (f 2)] (c:Int)=some (.int (f c)):=by
 rcases bE h with rfl|rfl|rfl<;>rfl
theorem BS{m:List (List Int)}{n:Nat}(h:Bd n m)(i j:Nat):(fV m i j).natAbs<2^(n+n+1):=
 jN (b7 (h _ _ (ur _) (ur _)) (h _ _ (ur _) (ur _))) (b7 (h _ _ (ur _) (ur _)) (h _ _ (ur _) (ur _)))
theorem g9{H:Hp}{t b0 b1 b2:Addr}(g:Nat->Nat->Int)(e:H t=some (.lst [.ref b0,.ref b1,.ref b2]))(h0:H b0=some (.lst [.int (g 0 0),.int (g 0 1),.int (g 0 2)]))(h1:H b1=some (.lst [.int (g 1 0),.int (g 1 1),.int (g 1 2)]))
  (h2:H b2=some (.lst [.int (g 2 0),.int (g 2 1),.int (g 2 2)])):Tab H t [b0,b1,b2] (mk3 g):=⟨e,.cons h0 (.cons h1 (.cons h2 .nil))⟩
def iF(m:List (List Int)):List (List Int):=mk3 λi j=>fV m j i
def pA(d:Int):List (List Int):=mk3 λi j=>if i=j then d else 0
theorem lX(m:List (List Int)){i j:Nat}(hi:i<3)(hj:j<3):ent (iF m) i j=fV m j i:=bC _ hi hj
theorem yr(m:List (List Int)):ir (iF m) m=pA (aA m):=by
 refine gW λi j hi hj=> ?_
 rw[lX m hi (by decide),lX m hi (by decide),lX m hi (by decide),cP]
 rcases bE hi with rfl|rfl|rfl<;>rcases bE hj with rfl|rfl|rfl<;>simp only[fV,Nat.reduceAdd,Nat.reduceMod,Nat.reduceEqDiff,if_true,if_false]<;>grind
structure Ff(X:Cx)(st:List Stmt)(t:TS):Prop where
 h:v7 X st t
theorem lO{X:Cx}{st:List Stmt}{t:TS}(h:Ff X st t):v7 X st t:=h.h
theorem ak{X:Cx}{a:Stmt}{b:List Stmt}{ta tb:TS}(ha:PS X a ta)(hb:Ff X b tb):Ff X (a::b) (uw ta tb):=⟨Es ha hb.h⟩
theorem aJ{X:Cx}{a:Stmt}{ta:TS}(ha:PS X a ta):Ff X [a] ta:=⟨cU ha⟩
section
variable{X:Cx}{pins:List (Addr×Obj)}{σ:St}{H:Hp}{s:Shared}{h':Heap}
theorem Inv.pB{t':Nat}{ch:List Addr}(I:Inv X pins σ H s)(k:∀b o,b∉ch->s.heap.get? b=some o->h'.get? b=some o)(hf:∀b∈ch,fQ X pins H b):Inv X pins σ H {s with heap:=h',toks:=t'}:=by
 have Mt:∀b u,H b=some u->b∉ch:=λb u e z=>by have:=(hf b z).1;rw[e]at this;cases this
 refine I.step (g':=s.gens) (d':=s.drawn) (ch:=ch) (λb hb=> ?_) (λb o _ _ hc e _=>k b o hc e) (λb o _ _ hc e _=>⟨o.slots,k b o hc e⟩) (λ_ _ _ _ n=>n)
  (λb o hc e=>⟨o,k b o hc e⟩) (λ_ _ e=>e) (λ_ _ _ e=>e) (λb ps e=>⟨#[],by rw[e];simp⟩) (λm hm=> ?_) (λb u e=> ?_) (.refl I.bare.bare)
 ·obtain⟨f0,f1,f2,f3,f4,f5⟩:=hf b hb
  exact⟨f3,f1,f4,f5⟩
 ·obtain⟨o,es,ep,ho,r⟩:=hm
  exact⟨o,es,ep,k _ o (λz=>(hf _ z).2.1 rfl) ho,r⟩
 ·refine(I.hok b u e).stay (λc v hc q=>k c v ?_ q) (λ_ q=>q) λ_ _ q=>q
  rcases hc with z|z
  ·rw[z];exact Mt b u e
  ·exact Mt c _ z
theorem Inv.Ju{T:Addr}{o:HO}(I:Inv X pins σ H s)(hf:fQ X pins H T)(new:eU X.prog X.w (upd H T o) s.heap T o):Inv X pins σ (upd H T o) s:=by
 obtain⟨f0,f1,f2,f3,f4,f5⟩:=hf
 have ne:∀{b u},H b=some u->b≠T:=λ {b u} e z=>by rw[z,f0]at e;cases e
 refine I.step (g':=s.gens) (d':=s.drawn) (t':=s.toks) (h':=s.heap) (ch:=[T]) (λb hb=> ?_) (λb o _ _ _ e _=>e) (λb o _ _ _ e _=>⟨o.slots,e⟩) (λb o hc _ n=> ?_)
  (λb o _ e=>⟨o,e⟩) (λb xs e=>by rw[aG (ne e)];exact e) (λb _ _ e=>by rw[aG (ne e)];exact e) (λb ps e=>⟨#[],by rw[aG (ne e),e];simp⟩) (λm hm=>hm) (λb u e=> ?_) (.refl I.bare.bare)
 ·have e:b=T:=by simpa using hb
  subst e
  exact⟨f3,f1,f4,f5⟩
 ·rw[aG (λz=>hc (by simp[z]))];exact n
 ·by_cases hb:b=T
  ·subst hb;rw[au]at e;cases e;exact new
  ·rw[aG hb]at e
   exact(I.hok b u e).stay (λc v _ q=>q) (λc q=>by rw[aG (ne q)];exact q) (λc xs q=>by rw[aG (ne q)];exact q) λc ob xs q=>by rw[aG (ne q)];exact q
end
def Nd(K:PySem.W.Frag)(a b:Addr):It:=
 ⟨λi H=> ∃xs ys x y,aT K H a xs/\aT K H b ys/\xs[i]?=some x/\ys[i]?=some y,
  λi H v H'=> ∃T x y,v= .ref T/\H T=none/\(∀xs,aT K H a xs->xs[i]?=some x)/\(∀ys,aT K H b ys->ys[i]?=some y)/\H'=upd H T (.tup [x,y]),
  λi H=> ∃xs ys,aT K H a xs/\aT K H b ys/\(xs.length<=i∨ys.length<=i)⟩
def Nf(z TI TO i1 i2 a b:Addr)(i:Nat)(h:Heap):Prop:=
 IsZip h z TI TO .none/\IsPair h TI (.ref i1) (.ref i2)/\(∃p q,IsPair h TO p q)/\h.IsListIter i1 a i/\h.IsListIter i2 b i
theorem Fg{P:Program}{w:World}{K:PySem.W.Frag}{elts:List Expr}{x1}{pos:Pos}(z TI TO i1 i2 a b:Addr)(D:ZipApart z TI TO i1 i2 a b):Turn P w K (.Tuple elts x1 pos) (Nd K a b) [z,TI,TO,i1,i2] z (Nf z TI TO i1 i2 a b) where
 mem:=by simp
 obj:=λi h st c hc=>by
  obtain⟨hz,hTI,⟨p,q,hTO⟩,⟨o1,e1,c1,d1⟩,⟨o2,e2,c2,d2⟩⟩:=st
  simp only[List.mem_cons,List.not_mem_nil,or_false]at hc
  rcases hc with rfl|rfl|rfl|rfl|rfl
  ·exact⟨_,hz,λv e=>by cases e⟩
  ·exact⟨_,hTI,λv e=>by cases e⟩
  ·exact⟨_,hTO,λv e=>by cases e⟩
  ·exact⟨_,e1,λv e=>by rw[d1]at e;cases e⟩
  ·exact⟨_,e2,λv e=>by rw[d2]at e;cases e⟩
 keep:=λi h h' st k=>by
  obtain⟨hz,hTI,⟨p,q,hTO⟩,h1,h2⟩:=st
  exact⟨k z (by simp) _ hz,k TI (by simp) _ hTI,⟨p,q,k TO (by simp) _ hTO⟩,h1.at λo e=>k i1 (by simp) o e,h2.at λo e=>k i2 (by simp) o e⟩
 item:=by
  intro X hP hw hK hc i pins s σ H E I hf st hg
  subst hP hw hK
  obtain⟨xs,ys,x,y,Oe,Of,hx,hy⟩:=hg
  obtain⟨hz,hTI,⟨p,q,hTO⟩,h1,h2⟩:=st
  obtain⟨ia,ra,pa,za⟩:=I.list Oe
  obtain⟨ib,rb,pb,zb⟩:=I.list Of
  obtain⟨u,hu,ru⟩:=ra.get hx
  obtain⟨v,hv,rv⟩:=rb.get hy
  refine wpAny_pyNext_zip_item D hz hTI hTO h1 h2 pa.isList pb.isList (x:=u) (y:=v) (by simpa using hu) (by simpa using hv) λh' a1 a2 a3 a4 a5 a6 hk=> ?_
  refine⟨_,rfl,?_⟩
  have PD:=hk _ _ D.TIz D.TITO D.TIi1 D.TIi2 hTI
  have f4:∀c∈ [z,TO,i1,i2],fQ X pins H c:=λc hc=>hf c (by simp only[List.mem_cons,List.not_mem_nil,or_false]at hc ⊢;rcases hc with rfl|rfl|rfl|rfl<;>simp)
  have I1:Inv X pins σ H {s with heap:=h'}:=I.pB (t':=s.toks) (ch:=[z,TO,i1,i2]) (λc o hc e=>hk c o (λq=>hc (by simp[q])) (λq=>hc (by simp[q])) (λq=>hc (by simp[q])) (λq=>hc (by simp[q])) e) f4
  have hn:H s.heap.objs.size=none:=I.hok.fresh (Nat.le_refl _)
  have fT:=I.CD (b:=s.heap.objs.size) (Nat.le_refl _) hn
  have I2:Inv X pins σ (upd H s.heap.objs.size (.tup [x,y])) {s with heap:=h'}:=I1.Ju fT ⟨by show 2<=sizeLine;decide,[u,v],.cons ru (.cons rv .nil),⟨_,a5,rfl,_,rfl⟩⟩
  refine wpAny_letOwnedTupleGo_zip (s:={s with heap:=h'}) a1 λh2' hz' hs'=> ?_
  have lt:∀{c o},s.heap.get? c=some o->c≠s.heap.objs.size:=λe=>Nat.ne_of_lt (Heap.lt_size e)
  obtain⟨o1,e1,_⟩:=id h1
  obtain⟨o2,e2,_⟩:=id h2
  have neT:∀c∈ [z,TI,TO,i1,i2],c≠s.heap.objs.size:=λc hc=>by
   simp only[List.mem_cons,List.not_mem_nil,or_false]at hc
   rcases hc with rfl|rfl|rfl|rfl|rfl
   ·exact lt hz
   ·exact lt hTI
   ·exact lt hTO
   ·exact lt e1
   ·exact lt e2
  obtain⟨g0,g1,g2,g3,g4,g5⟩:=hf z (by simp)
  have I3:Inv X pins σ (upd H s.heap.objs.size (.tup [x,y])) {s with heap:=h2'}:=Inv.turned (s:={s with heap:=h'}) (h':=h2') I2 (it:=z) (t':=s.toks) (λc o hc e=>hs'.extBut _ _ hc e) (by rw[aG (neT z (by simp))];exact g0) g1 g3 g4 g5
  refine⟨.ref s.heap.objs.size,_,I3,rfl,⟨_,x,y,rfl,hn,λzs hzs=>by rw[I.r9 hzs Oe];exact hx,λzs hzs=>by rw[I.r9 hzs Of];exact hy,rfl⟩,?_,λc hc=> ?_⟩
  ·exact⟨hz',hs'.extBut _ _ D.TIz PD,⟨_,_,hs'.extBut _ _ D.TOz a2⟩,a3.extBut hs'.extBut D.i1z,a4.extBut hs'.extBut D.i2z⟩
  ·rw[aG (neT c hc)];exact(hf c hc).1
 done:=by
  intro X hP hw hK hc i pins s σ H E I hf st hg
  subst hP hw hK
  obtain⟨xs,ys,Oe,Of,hend⟩:=hg
  obtain⟨hz,hTI,⟨p,q,hTO⟩,h1,h2⟩:=st
  obtain⟨ia,ra,pa,za⟩:=I.list Oe
  obtain⟨ib,rb,pb,zb⟩:=I.list Of
  have la:=ra.length
  have lb:=rb.length
  have f4:∀c∈ [z,TO,i1,i2],fQ X pins H c:=λc hc=>hf c (by simp only[List.mem_cons,List.not_mem_nil,or_false]at hc ⊢;rcases hc with rfl|rfl|rfl|rfl<;>simp)
  refine wpAny_pyNext_zip_end (I.ok.hd hc) D hz hTI hTO h1 h2 pa.isList pb.isList (hend.imp (λq=>by simp;omega) (λq=>by simp;omega)) λh' hk=>⟨rfl,?_⟩
  exact I.pB (t':=s.toks) (ch:=[z,TO,i1,i2]) (λc o hc e=>hk c o (λq=>hc (by simp[q])) (λq=>hc (by simp[q])) (λq=>hc (by simp[q])) (λq=>hc (by simp[q])) e) f4
 self:=λ_ _ _ _ _ st h=>wpAny_pyIter_zip st.1 h
def PF(K:PySem.W.Frag)(ta:TA):TI:=λσ H R=>ta σ H λvs H1=> ∃a b xs ys,vs=[.ref a,.ref b]/\aT K H1 a xs/\aT K H1 b ys/\R (Nd K a b) H1
section
variable{X:Cx}
theorem z7{elts:List Expr}{x1}{tpos:Pos}{a b:Expr}{ta:TA}{p pos:Pos}(hg:Gl X "zip")(hm:X.mg "zip"=none)(ha:PA X [a,b] ta)(hs:starEach [a,b] X.env=[(false,eval a X.env),(false,eval b X.env)]:=by rfl)(hs2:starEach [b] X.env=[(false,eval b X.env)]:=by rfl):
  PI X (.Tuple elts x1 tpos) (.Call (.Name "zip" p) [a,b] [] pos) (PF X.K ta):=by
 intro pins s σ H R I h
 refine Call_ (ku I hg hm boot_zip (PyProof.Rows.callWith_type1 (fS (ha pos pins s σ H _ I h) λus s1 ⟨vs,H1,I1,r1,q1⟩=> ?_) (by rw[hs,hs2]) (by rw[hs2];rfl)))
 obtain⟨l1,l2,xs,ys,e,q1,q2,q⟩:=q1
 subst e
 cases r1 with
 |cons r rr=>
  cases rr with
  |cons r' rr=>
   cases rr
   cases r
   cases r'
   obtain⟨ia,ra,pa,za⟩:=I1.list q1
   obtain⟨ib,rb,pb,zb⟩:=I1.list q2
   have SS:l1<s1.heap.objs.size:=by obtain⟨o,e,_⟩:=pa.isList;exact Heap.lt_size e
   have Og:l2<s1.heap.objs.size:=by obtain⟨o,e,_⟩:=pb.isList;exact Heap.lt_size e
   refine call_zip_2 pa.isList pb.isList λh' hz hTI hTO hi1 hi2 hsz hk=> ?_
   refine wpAny_pyIter_zip hz ?_
   refine⟨_,[s1.heap.objs.size+4,s1.heap.objs.size+2,s1.heap.objs.size+3,s1.heap.objs.size,s1.heap.objs.size+1],_,_,H1,rfl,I1.kept (t':=s1.toks) hk,Fg _ _ _ _ _ l1 l2 (zipApart_new SS Og),⟨hz,hTI,⟨_,_,hTO⟩,hi1,hi2⟩,λc hc=> ?_,q⟩
   have hc':s1.heap.objs.size<=c:=by
    simp only[List.mem_cons,List.not_mem_nil,or_false]at hc
    rcases hc with rfl|rfl|rfl|rfl|rfl<;>first|exact Nat.le_refl _|exact Nat.le_add_right _ _
   exact I1.CD hc' (I1.hok.fresh hc')
end
section
variable{X:Cx}{sc:Scope}{N2:List Str}{x y:Str}{px Eh tpos:Pos}{x1:Nat}{elt iter:Expr}{iE p pos:Pos}{wi:TI}{te:TE}{P:Addr}
theorem yt{own:List Str}{i:Nat}{z:Str}(B:pZ sc.names X.env.scope.names own N2 X.N)(hz:own[i]?=some z)(s:Shared)(H:Hp)(fp:List Addr):PG (X.comp sc (own++N2) s H fp) (.Name z px) (cY i):=by
 have hi:(X.comp sc (own++N2) s H fp).N[i]?=some z:=by
  show(own++N2)[i]?=some z
  rw[List.getElem?_append_left (List.getElem?_eq_some_iff.mp hz).1];exact hz
 rcases B.own z (List.mem_of_getElem? hz)with e|e
 ·exact aP (i:=i) B.HF hi (.inl (jf (env:=X.env) e (.inl rfl))) (.inr (jf (env:=X.env) e (.inl rfl)))
 ·refine aP (i:=i) B.HF hi (.inr (jf (env:=X.env) e (.inr rfl))) (.inl ?_)
  show(sc.names.lookup z==some NameKind.cell)=true
  rw[e];rfl
def g2(K:PySem.W.Frag):TG:=MF K 2 (Et (cY 0) (Et (cY 1) MD))
theorem Fi(hc:X.calm=true)(B:pZ sc.names X.env.scope.names [x,y] N2 X.N)(s:Shared)(H:Hp)(fp:List Addr):PG (X.comp sc ([x,y]++N2) s H fp) (.Tuple [.Name x px,.Name y Eh] x1 tpos) (g2 X.K):=
 sf (X:=X.comp sc ([x,y]++N2) s H fp) hc (aN (yt (i:=0) B rfl s H fp) (aN (yt (i:=1) B rfl s H fp) fF))
theorem z8(hc:X.calm=true)(hi:PI X (.Tuple [.Name x px,.Name y Eh] x1 tpos) iter wi)(hB:zT sc.names X.env.scope.names [x,y] N2 X.N=true)(hk:sc.kind= .function)(he:∀s H fp,PE (X.comp sc ([x,y]++N2) s H fp) elt te)
  (hs:∀x,foldedSetIterable iter X.env x=pure x:=by intro _;rfl):PE X (.ListComp elt [⟨.Tuple [.Name x px,.Name y Eh] x1 tpos,iter,[],0⟩] sc pos) (lV 2 wi (g2 X.K) te):=
 yi (own:=[x,y]) hc hi (lT hB) hk (λs H fp=>Fi hc (lT hB) s H fp) he hs
end
theorem yu{K:PySem.W.Frag}{H1:Hp}{a b:Addr}{xs ys:List V}{σ:St}{te:TE}{Q:VK}(ha:aT K H1 a xs)(hb:aT K H1 b ys)(hl:xs.length=ys.length)(hz:xs.length<=sizeLine){D:Addr}(hD:H1 D=none)(f:V->V->V)
  (hs:∀(i:Nat) x y,xs[i]?=some x->ys[i]?=some y-> ∀H' (Q':VK),ay H1 H'->Q' (f x y) H'->te (some x::some y::σ) H' Q')
  (hq:∀H',ay H1 H'->H' D=some (.lst (List.zipWith f xs ys)) ->Q (.ref D) H'):kG 2 (g2 K) te σ (Nd K a b) H1 D Q:=by
 refine⟨λi m acc σ' H'=>m=xs.length-i/\i<=xs.length/\acc=(List.zipWith f xs ys).take i/\(∃o o',σ'=o::o'::σ)/\ay H1 H'/\H' D=some (.lst acc),⟨xs.length,rfl,Nat.zero_le _,by simp,⟨none,none,rfl⟩,ay.up hD,au⟩,?_⟩
 rintro i m acc σ' H' ⟨rfl,hi,hacc,⟨o,o',rfl⟩,sm,eD⟩
 have SV:acc.length=i:=by rw[hacc];simp;omega
 by_cases hlt:i<xs.length
 ·have hlt':i<ys.length:=by omega
  refine .inr ⟨⟨xs,ys,xs[i],ys[i],sm.seq ha,sm.seq hb,by simp[hlt],by simp[hlt']⟩,by omega,λv H2 yl=> ?_⟩
  obtain⟨T,x,y,rfl,hT,hx,hy,rfl⟩:=yl
  have ex:=hx xs (sm.seq ha)
  have ey:=hy ys (sm.seq hb)
  have s2:ay H' (upd H' T (.tup [x,y])):=ay.up hT
  refine⟨T,[x,y],rfl,uq.of au,rfl,x,[y],rfl,y,[],rfl,rfl,?_⟩
  show te (some x::some y::σ) _ _
  refine hs i x y ex ey _ _ (sm.trans s2) ?_
  refine⟨s2 _ _ eD,xs.length- (i+1),by omega,rfl,hlt,?_,⟨_,_,rfl⟩,(sm.trans s2).upd hD,au⟩
  rw[hacc,List.take_succ,List.getElem?_zipWith,ex,ey]
  rfl
 ·have e:i=xs.length:=by omega
  subst e
  refine .inl ⟨⟨xs,ys,sm.seq ha,sm.seq hb,.inl (Nat.le_refl _)⟩,eD,hq H' sm ?_⟩
  rw[eD,hacc]
  rw[List.take_of_length_le (by rw[List.length_zipWith];exact Nat.min_le_left ..)]
section
variable{X:Cx}{sc:Scope}{N2:List Str}{x y:Str}{px Eh:Pos}{elt iter BJ:Expr}{iE p pos:Pos}{wi Oc:TI}{te:TE}{P:Addr}
theorem BU{B:Around}{own:List Str}{i:Nat}{z:Str}(Bk:pZ sc.names X.env.scope.names own N2 X.N)(hnc:∀y∈sc.names,y.2≠ .cell)(hz:own[i]?=some z)(code:Value)(s:Shared)(H:Hp)(fp:List Addr):PG (X.gen B sc (own++N2) code s H fp) (.Name z px) (cY i):=by
 have hi:(X.gen B sc (own++N2) code s H fp).N[i]?=some z:=by
  show(own++N2)[i]?=some z
  rw[List.getElem?_append_left (List.getElem?_eq_some_iff.mp hz).1];exact hz
 rcases Bk.own z (List.mem_of_getElem? hz)with e|e
 ·exact aP (i:=i) Bk.HF hi (.inl e) (.inr e)
 ·exact absurd rfl (hnc _ (mem_of_lookup e))
end
section
variable{prog:Program}{w:World}{A:Around}{E:Value->Shared->Prop}{s:Shared}
theorem vt{it t:Addr}{items:Array Value}(hne:t≠it):∀(n i:Nat) (s:Shared) (Q:List Value->Shared->Prop),s.heap.IsListIter it t i->s.heap.IsList t items->i+n<=items.size->
  (∀h',h'.IsListIter it t (i+n) ->Heap.SameBut it s.heap h'->Q ((items.toList.drop i).take n) {s with heap:=h'}) ->wpAny (model prog w) A (draw (.ref it) n) Q E s
 |0,i,s,Q,hit,_,_,hQ=>by
  show wpAny _ _ (pure []) Q E s
  exact wpAny_pure (by simpa using hQ s.heap hit (Heap.SameBut.refl ..))
 |n+1,i,s,Q,hit,ht,hle,hQ=>by
  have hlt:i<items.size:=by omega
  show wpAny _ _ (pyNext (.ref it)>>=_) Q E s
  refine wpAny_bind (wpAny_pyNext_list_item hit ht (x:=items[i]) (by simp[hlt]) λh₁ z9 hs₁=> ?_)
  refine wpAny_bind (wpAny_holding (vt hne n (i+1) _ _ z9 (ht.extBut hs₁.extBut hne) (by omega) λh₂ KR hs₂=>wpAny_pure ?_))
  have hd:items.toList.drop i=items[i]::items.toList.drop (i+1):=by simp[List.drop_eq_getElem_cons,hlt]
  have:=hQ h₂ (by rw[show i+(n+1)=i+1+n by omega];exact KR) (hs₁.trans hs₂)
  rw[hd,List.take_succ_cons]at this
  exact this
theorem wK{t:Addr}{items:Array Value}{targets:List (Bool×(Value->Sem Unit))}{Q:Unit->Shared->Prop}(hh:A.handled=none)(ht:s.heap.IsList t items)
  (hn:targets.length=items.size)(hstar:targets.findIdx? (·.1)=none)
  (h:∀h',Heap.ExtBut s.heap.objs.size s.heap h'->wpAny (model prog w) A (assignInOrder (targets.map (·.2)) items.toList) Q E {s with heap:=h'}):
  wpAny (model prog w) A (unpack (.ref t) targets) Q E s:=by
 have hlt:t≠s.heap.objs.size:=by obtain⟨o,ho,_⟩:=ht;exact Nat.ne_of_lt (Heap.lt_size ho)
 unfold unpack
 rw[hn,hstar]
 refine wpAny_bind (wpAny_holding ?_)
 unfold unpackItems
 refine wpAny_bind ?_
 unfold notIterableAtAll
 refine wpAny_bind (wpAny_specialOf ht.typeIs PySem.F.slot_list_iter.lookup ?_)
 refine wpAny_pure ?_
 simp only[Bool.false_eq_true,if_false]
 refine wpAny_bind (wpAny_holding (wpAny_pyIter_list ht ?_))
 refine wpAny_bind (wpAny_holding (vt hlt items.size 0 _ _ ⟨_,Heap.get?_push_size _ rfl,rfl,rfl⟩ (Heap.IsList.push ht _) (by omega) λh₁ z9 hs₁=> ?_))
 have hall:List.take items.size (List.drop 0 items.toList)=items.toList:=by
  rw[List.drop_zero];exact List.take_of_length_le (by simp)
 rw[hall]
 rw[if_neg (by simp)]
 have ht₁:h₁.IsList t items:=(Heap.IsList.push ht _).extBut hs₁.extBut hlt
 refine wpAny_bind (wpAny_holding (wpAny_pyNext_list_end hh z9 ht₁ (by simp) λh₂ Ng=> ?_))
 simp only[Option.isSome_none,Bool.false_eq_true,if_false]
 refine wpAny_pure (h h₂ λb o hb e=>Ng b o hb (hs₁.extBut b o hb (Heap.get?_push_of_some _ e)))
end
section
variable{X:Cx}
def Nh(K:PySem.W.Frag)(n:Nat)(t:Hu):TG:=λv σ H Q=> ∃a xs,v= .ref a/\aT K H a xs/\xs.length=n/\t xs σ H Q
theorem iW{es:List Expr}{k:Nat}{t:Hu}{n:Nat}{pos:Pos}(hc:X.calm=true)(h:MB X es t)
  (hn:(assignEach es X.env).length=n:=by rfl)(hst:(assignEach es X.env).findIdx? (·.1)=none:=by rfl):PG X (.Tuple es k pos) (Nh X.K n t):=by
 intro pins s σ H v u Q I r hw
 obtain⟨a,xs,e1,hq,hl,hw⟩:=hw
 subst e1
 cases r
 obtain⟨its,rv,ht,hz⟩:=I.list hq
 rw[PyProof.Rows.assign_Tuple]
 refine wpAny_bind (wpAny_standAt (wK (I.ok.hd hc) ht.isList (by simp[hn,<-hl,rv.length]) hst λh' hx=> ?_))
 have I1:Inv X pins σ H {s with heap:=h'}:=I.kept (t':=s.toks) λb o e=>hx b o (Nat.ne_of_lt (Heap.lt_size e)) e
 exact h pins _ σ H xs _ Q I1 (by simpa using rv) hw
end
def bg(H:Hp)(a:Addr)(x:Nat->Int):Prop:=H a=some (.lst [.int (x 0),.int (x 1),.int (x 2)])
theorem bg.same{H H':Hp}{a:Addr}{x:Nat->Int}(h:bg H a x)(s:ay H H'):bg H' a x:=s _ _ h
def pairF(m:List (List Int))(x y:Nat->Int)(t:Nat):Int:=x (t/3)*ent m (t/3) (t%3)*y (t%3)
def av(m:List (List Int))(x y:Nat->Int):Int:=PySem.preSum (pairF m x y) 9
theorem aX(m:List (List Int))(x y:Nat->Int):av m x y=
  x 0*ent m 0 0*y 0+x 0*ent m 0 1*y 1+x 0*ent m 0 2*y 2+x 1*ent m 1 0*y 0+x 1*ent m 1 1*y 1+x 1*ent m 1 2*y 2+x 2*ent m 2 0*y 0+x 2*ent m 2 1*y 1+x 2*ent m 2 2*y 2:=by
 show PySem.preSum (pairF m x y) 9=_
 simp only[PySem.preSum,pairF,Nat.reduceDiv,Nat.reduceMod]
 omega
structure cg(m:List (List Int)):Prop where
 sym:ent m 1 0=ent m 0 1/\ent m 2 0=ent m 0 2/\ent m 2 1=ent m 1 2
 SW:∃a b c,ent m 0 0=2*a/\ent m 1 1=2*b/\ent m 2 2=2*c
def bK(m:List (List Int))(x:Nat->Int):Int:=av m x x/2
theorem d8{m:List (List Int)}(h:cg m)(x:Nat->Int):av m x x=2*bK m x:=by
 obtain⟨⟨s1,s2,s3⟩,a,b,c,e1,e2,e3⟩:=h
 have q:av m x x=2*(x 0*a*x 0+x 1*b*x 1+x 2*c*x 2+x 0*ent m 0 1*x 1+x 0*ent m 0 2*x 2+x 1*ent m 1 2*x 2):=by
  rw[aX,s1,s2,s3,e1,e2,e3];grind
 unfold bK
 rw[q,Int.mul_ediv_cancel_left _ (by decide)]
theorem Fj{f:Nat->Int}{n:Nat}:∀k,(∀t,t<k->(f t).natAbs<2^n) ->(PySem.preSum f k).natAbs<2^(n+k)
 |0,_=>Nat.two_pow_pos _
 |k+1,h=>jh (Fj k λt ht=>h t (by omega)) (aH (h k (by omega)) (Nat.le_add_right n k))
theorem ji{m:List (List Int)}{x y:Nat->Int}{a b c:Nat}(hm:Bd a m)(hx:∀i,i<3->(x i).natAbs<2^b)(hy:∀i,i<3->(y i).natAbs<2^c):(av m x y).natAbs<2^(b+a+c+9):=
 Fj 9 λt ht=>b7 (b7 (hx _ (by omega)) (hm _ _ (by omega) (Nat.mod_lt _ (by decide)))) (hy _ (Nat.mod_lt _ (by decide)))
section
variable{X:Cx}{pos:Pos}
def Ni(i j k:Nat)(ta:TA):TS:=λD σ H=>ta σ H λvs H1=> ∃v w u,vs=[v,w,u]/\D.nx (((σ.set i (some v)).set j (some w)).set k (some u)) H1
theorem HU{i j k:Nat}{x y z:Str}{a b c:Expr}{ta:TA}{px py pz pt:Pos}{kt k2 JY}(hc:X.calm=true)(hN:X.N.Nodup)(hi:X.N[i]?=some x)(hj:X.N[j]?=some y)(hk:X.N[k]?=some z)(hij:i≠j)(hik:i≠k)(hjk:j≠k)
  (hx:X.env.scope.names.lookup x=some .local)(hy:X.env.scope.names.lookup y=some .local)(hz:X.env.scope.names.lookup z=some .local)(ha:PA X [a,b,c] ta)
  (hw:swappedStores [.Tuple [.Name x px,.Name y py,.Name z pz] kt pt] (.Tuple [a,b,c] k2 JY) X.env=pure (some [x,y,z]))
  (hs:swapsWithSole [.Tuple [.Name x px,.Name y py,.Name z pz] kt pt] (.Tuple [a,b,c] k2 JY) pos.line X.env=pure false:=by rfl):
  PS X (.Assign [.Tuple [.Name x px,.Name y py,.Name z pz] kt pt] (.Tuple [a,b,c] k2 JY) pos) (Ni i j k ta):=by
 intro pins s σ H D I h
 rw[exec_Assign_arm]
 refine wpAny_bind (wpAny_standAt ?_)
 rw[hs]
 refine wpAny_bind (wpAny_pure ?_)
 rw[if_neg (by decide)]
 refine wpAny_bind (Tuple_ (fS (ha _ pins s σ H _ I h) λus s1 ⟨vs,H1,I1,r1,q1⟩=> ?_))
 obtain⟨v,w,u,e1,q1⟩:=q1
 subst e1
 obtain⟨u1,u2,u3,rfl,rv,rw',ru⟩:∃u1 u2 u3,us=[u1,u2,u3]/\RelV v u1/\RelV w u2/\RelV u u3:=by
  cases r1 with
  |cons p q=>
   cases q with
   |cons p' q'=>
    cases q' with
    |cons p'' SX=>
     cases SX
     exact⟨_,_,_,rfl,p,p',p''⟩
 refine wpAny_newObj_type ?_ (by show 3<=sizeLine;decide)
 have I2:Inv X pins σ H1 {s1 with heap:=s1.heap.push {cls:= .type "tuple",data:= .seq [u1,u2,u3].toArray}}:=I1.kept (t':=s1.toks) λb o e=>Heap.get?_push_of_some _ e
 rw[hw]
 refine wpAny_bind (wpAny_pure ?_)
 show wpAny (model X.prog X.w) X.A (do rule "assign.swapped-stores";let items<-unpackItems (.ref s1.heap.objs.size) 3 none;assignInOrder [λv=>bindName X.env z v,λv=>bindName X.env y v,λv=>bindName X.env x v] items.reverse;pure Flow.next) _ _ _
 refine wpAny_bind (wpAny_rule (wpAny_bind (unpackItems_tuple (items:= #[u1,u2,u3]) (I.ok.hd hc) (IsTup.new s1.heap _) λh' hx'=> ?_)))
 have I3:=I2.kept (h':=h') (t':=s1.toks) λb o e=>hx' b o (Nat.ne_of_lt (Heap.lt_size e)) e
 show wpAny _ _ (assignInOrder [λv=>bindName X.env z v,λv=>bindName X.env y v,λv=>bindName X.env x v] [u3,u2,u1]>>=λ_=>pure Flow.next) _ _ _
 refine wpAny_bind (assignInOrder_cons (wpAny_bindName (jc I3 hN hk (.inl hz) ru (λs2 I4=> ?_) (.inr hz))))
 refine assignInOrder_cons (wpAny_bindName (jc I4 hN hj (.inl hy) rw' (λs3 I5=> ?_) (.inr hy)))
 refine assignInOrder_cons (wpAny_bindName (jc I5 hN hi (.inl hx) rv (λs4 I6=>assignInOrder_nil (wpAny_pure ?_)) (.inr hx)))
 have e:((σ.set k (some u)).set j (some w)).set i (some v)=((σ.set i (some v)).set j (some w)).set k (some u):=by
  rw[List.set_comm _ _ (Ne.symm hjk),List.set_comm _ _ (Ne.symm hik),List.set_comm _ _ (Ne.symm hij)]
 rw[e]at I6
 exact⟨_,H1,I6,q1⟩
end
def fW(a b c p q r:Int):List (List Int):=mk3 λi j=>match i,j with|0,0=>a|0,1=>p|0,_=>q|1,0=>p|1,1=>b|1,_=>r|_,0=>q|_,1=>r|_,_=>c
theorem yv(a b c p q r:Int):aA (fW a b c p q r)=a*b*c+2*(p*q*r) -a*(r*r) -b*(q*q) -c*(p*p):=by
 rw[cP]
 show a*(b*c-r*r)+p*(r*q-p*c)+q*(p*r-b*q)=_
 grind
theorem wL{n:Nat}{a b c p q r:Int}(ha:a.natAbs<2^n)(hb:b.natAbs<2^n)(hc:c.natAbs<2^n)(hp:p.natAbs<2^n)(hq:q.natAbs<2^n)(hr:r.natAbs<2^n):Bd n (fW a b c p q r):=λi j hi hj=>by
 unfold fW
 rw[bC _ hi hj]
 rcases bE hi with rfl|rfl|rfl<;>rcases bE hj with rfl|rfl|rfl<;>assumption
theorem CY(a b c p q r:Int):cg (fW (2*a) (2*b) (2*c) p q r):=⟨⟨rfl,rfl,rfl⟩,a,b,c,rfl,rfl,rfl⟩
theorem Fl{p a:Int}(h: -a<=p)(h':p<=a):p*p<=a*a:=by
 have h1:0<=a-p:=by omega
 have h2:0<=a+p:=by omega
 have:=Int.mul_nonneg h1 h2
 grind
theorem Fo{a b c p q:Int}(ha:0<a)(hab:a<=b)(hbc:b<=c)(hp: -a<=p)(iD:p<=a)(hq: -a<=q)(hq':q<=a):0<aA (fW (2*a) (2*b) (2*c) p q 0):=by
 rw[yv]
 have e1:=Fl hp iD
 have e2:=Fl hq hq'
 have hb:0<b:=by omega
 have hc:0<c:=by omega
 have k1:b*(q*q)<=b*(a*a):=Int.mul_le_mul_of_nonneg_left e2 (by omega)
 have k2:c*(p*p)<=c*(a*a):=Int.mul_le_mul_of_nonneg_left e1 (by omega)
 have ab:0<a*b:=Int.mul_pos ha hb
 have UM:0<a*b*c:=Int.mul_pos ab hc
 have k3:b*(a*a)<=a*b*c:=by
  have:a*b*a<=a*b*c:=Int.mul_le_mul_of_nonneg_left (by omega) (by omega)
  grind
 have k4:c*(a*a)<=a*b*c:=by
  have h0:0<=c*a:=Int.mul_nonneg (by omega) (by omega)
  have:c*a*a<=c*a*b:=Int.mul_le_mul_of_nonneg_left hab h0
  grind
 grind
theorem Fp{p q r:Int}(hp: -1<=p)(iD:p<=1)(hq: -1<=q)(hq':q<=1)(hr: -1<=r)(hr':r<=1):aA (fW (2*1) (2*1) (2*1) p q r)<=8:=by
 rw[yv]
 have h1:p= -1∨p=0∨p=1:=by omega
 have h2:q= -1∨q=0∨q=1:=by omega
 have h3:r= -1∨r=0∨r=1:=by omega
 rcases h1 with rfl|rfl|rfl<;>rcases h2 with rfl|rfl|rfl<;>rcases h3 with rfl|rfl|rfl<;>decide
theorem Aa{H:Hp}{a b c d:Addr}{x y z:HO}(h0:H a=none)(h1:upd H a x b=none)(h2:upd (upd H a x) b y c=none)(h3:upd (upd (upd H a x) b y) c z d=none):H d=none/\(∀e∈ [a,b,c],H e=none)/\d∉ [a,b,c]:=by
 have s0:ay H (upd H a x):=ay.up h0
 have s1:ay (upd H a x) (upd (upd H a x) b y):=ay.up h1
 have s2:ay (upd (upd H a x) b y) (upd (upd (upd H a x) b y) c z):=ay.up h2
 refine⟨(s0.trans (s1.trans s2)).none h3,λe he=> ?_,λhd=> ?_⟩
 ·simp only[List.mem_cons,List.not_mem_nil,or_false]at he
  rcases he with rfl|rfl|rfl
  ·exact h0
  ·exact s0.none h1
  ·exact(s0.trans s1).none h2
 ·simp only[List.mem_cons,List.not_mem_nil,or_false]at hd
  rcases hd with rfl|rfl|rfl
  ·have:=(s1.trans s2) _ _ (au (H:=H) (a:=d) (o:=x));rw[h3]at this;cases this
  ·have:=s2 _ _ (au (H:=upd H a x) (a:=d) (o:=y));rw[h3]at this;cases this
  ·rw[au]at h3;cases h3
def Ab(m:List (List Int))(i:Nat)(g:Nat->Int):List (List Int):=mk3 λr s=>if r=i then g s else ent m r s
theorem BV{H:Hp}{D R:Addr}{bs:List Addr}{m:List (List Int)}{i:Nat}{g:Nat->Int}(hT:Tab H D bs m)(bT:cz m)(hi:i<3)(hR:H R=some (.lst [.int (g 0),.int (g 1),.int (g 2)]))(nR:R≠D)(nD:D∉bs):
  Tab (upd H D (.lst ((bs.map V.ref).set i (.ref R)))) D (bs.set i R) (Ab m i g):=by
 obtain⟨b0,x1,x2,_⟩:=aW hT bT (i:=0) (by decide)
 obtain⟨b1,y1,y2,_⟩:=aW hT bT (i:=1) (by decide)
 obtain⟨b2,w1,w2,_⟩:=aW hT bT (i:=2) (by decide)
 have hl3:bs.length=3:=by rw[<-hT.2.length,bT.1]
 obtain⟨a0,a1,a2,rfl⟩:∃a0 a1 a2,bs=[a0,a1,a2]:=by
  match bs,hl3 with
  | [a,b,c],_=>exact⟨a,b,c,rfl⟩
 obtain rfl:a0=b0:=V.ref.inj (Option.some.inj x1)
 obtain rfl:a1=b1:=V.ref.inj (Option.some.inj y1)
 obtain rfl:a2=b2:=V.ref.inj (Option.some.inj w1)
 have n0:a0≠D:=λz=>nD (by rw[<-z];simp)
 have n1:a1≠D:=λz=>nD (by rw[<-z];simp)
 have n2:a2≠D:=λz=>nD (by rw[<-z];simp)
 rcases bE hi with rfl|rfl|rfl
 ·exact g9 _ au (by rw[aG nR];exact hR) (by rw[aG n1];exact y2) (by rw[aG n2];exact w2)
 ·exact g9 _ au (by rw[aG n0];exact x2) (by rw[aG nR];exact hR) (by rw[aG n2];exact w2)
 ·exact g9 _ au (by rw[aG n0];exact x2) (by rw[aG n1];exact y2) (by rw[aG nR];exact hR)
theorem cG(m:List (List Int)){i r s:Nat}(g:Nat->Int)(hr:r<3)(hs:s<3):ent (Ab m i g) r s=if r=i then g s else ent m r s:=bC _ hr hs
theorem HV(m:List (List Int)){i j:Nat}(hi:i<3)(hj:j<3)(hij:i≠j)(o:Int):aA (Ab m i λs=>ent m i s+o*ent m j s)=aA m:=by
 rw[cP,cP]
 simp only[cG m _ (show 0<3 by decide) (show 0<3 by decide),cG m _ (show 0<3 by decide) (show 1<3 by decide),cG m _ (show 0<3 by decide) (show 2<3 by decide),cG m _ (show 1<3 by decide) (show 0<3 by decide),cG m _ (show 1<3 by decide) (show 1<3 by decide),cG m _ (show 1<3 by decide) (show 2<3 by decide),cG m _ (show 2<3 by decide) (show 0<3 by decide),cG m _ (show 2<3 by decide) (show 1<3 by decide),cG m _ (show 2<3 by decide) (show 2<3 by decide)]
 rcases bE hi with rfl|rfl|rfl<;>rcases bE hj with rfl|rfl|rfl<;>first|(exact absurd rfl hij)|(simp only[Nat.reduceEqDiff,if_true,if_false];grind)
theorem CZ(m:List (List Int)){i:Nat}(hi:i<3)(o:Int):aA (Ab m i λs=>o*ent m i s)=o*aA m:=by
 rw[cP,cP]
 simp only[cG m _ (show 0<3 by decide) (show 0<3 by decide),cG m _ (show 0<3 by decide) (show 1<3 by decide),cG m _ (show 0<3 by decide) (show 2<3 by decide),cG m _ (show 1<3 by decide) (show 0<3 by decide),cG m _ (show 1<3 by decide) (show 1<3 by decide),cG m _ (show 1<3 by decide) (show 2<3 by decide),cG m _ (show 2<3 by decide) (show 0<3 by decide),cG m _ (show 2<3 by decide) (show 1<3 by decide),cG m _ (show 2<3 by decide) (show 2<3 by decide)]
 rcases bE hi with rfl|rfl|rfl<;>simp only[Nat.reduceEqDiff,if_true,if_false]<;>grind
def Ac(m:List (List Int))(k:Nat):List (List Int):=mk3 λr s=>ent m ((r+k)%3) s
theorem HW(m:List (List Int)){k:Nat}(hk:k<3):aA (Ac m k)=aA m:=by
 rw[cP,cP]
 unfold Ac
 simp only[bC _ (show 0<3 by decide) (show 0<3 by decide),bC _ (show 0<3 by decide) (show 1<3 by decide),bC _ (show 0<3 by decide) (show 2<3 by decide),bC _ (show 1<3 by decide) (show 0<3 by decide),bC _ (show 1<3 by decide) (show 1<3 by decide),bC _ (show 1<3 by decide) (show 2<3 by decide),bC _ (show 2<3 by decide) (show 0<3 by decide),bC _ (show 2<3 by decide) (show 1<3 by decide),bC _ (show 2<3 by decide) (show 2<3 by decide)]
 rcases bE hk with rfl|rfl|rfl<;>simp only[Nat.reduceAdd,Nat.reduceMod]<;>grind
structure FE(X:Cx)(e:Expr)(t:TE):Prop where
 h:PE X e t
structure FA(X:Cx)(es:List Expr)(t:TA):Prop where
 h:PA X es t
variable{X:Cx}
theorem iG{i j pos}:FE X (.Constant (.int i) j pos) (tC (.int i)):=⟨ah⟩
theorem sP:FA X [] jI:=⟨aj⟩
theorem eW{e es te t}(ha:FE X e te)(hr:FA X es t)(hs:starEach (e::es) X.env=(false,eval e X.env)::starEach es X.env):FA X (e::es) (dI te t):=⟨af ha.h hr.h hs⟩
theorem sQ{es t pos}(h:FA X es t):FE X (.List es pos) (MP t):=⟨cZ h.h⟩
theorem KS{i:Nat}{x:Str}{e:Expr}{te:TE}{pos' pos:Pos}{b:List Stmt}{tb:TS}(hN:X.N.Nodup)(hi:X.N[i]?=some x)(hx:Loc X.env.scope x)(he:FE X e te)(hs:swapsWith e (some (.Name x pos')) pos.line X.env=pure false)(hf:X.fn x=true∨X.env.scope.names.lookup x=some .local)(hb:Ff X b tb):
  Ff X (.Assign [.Name x pos'] e pos::b) (uw (zN te (cY i)) tb):=ak (aC hN hi hx he.h hs hf) hb
theorem KU{e:Expr}{te:TE}{pos:Pos}(he:FE X e te):Ff X [.Return (some e) pos] (My te):=aJ (aY he.h)
theorem toF{st:List Stmt}{R:TS->Prop}(h:∃t,Ff X st t/\R t):∃t,v7 X st t/\R t:=by
 obtain⟨t,a,b⟩:=h
 exact⟨t,a.h,b⟩
theorem HX{H H':Hp}{D r:Addr}{bs:List Addr}{m:List (List Int)}{k:Nat}(hT:Tab H D bs m)(bT:cz m)(hk:k<3)(s:ay H H')(hn:H r=none)(hr:H' r=some (.lst (pY (bs.map V.ref) (some (k:Int)) none++pY (bs.map V.ref) none (some (k:Int))))):
  ∃bs',Tab H' r bs' (Ac m k)/\(∀b∈bs',b∈bs)/\r∉bs':=by
 obtain⟨b0,x1,x2,_⟩:=aW hT bT (i:=0) (by decide)
 obtain⟨b1,y1,y2,_⟩:=aW hT bT (i:=1) (by decide)
 obtain⟨b2,w1,w2,_⟩:=aW hT bT (i:=2) (by decide)
 have hl3:bs.length=3:=by rw[<-hT.2.length,bT.1]
 obtain⟨a0,a1,a2,rfl⟩:∃a0 a1 a2,bs=[a0,a1,a2]:=by
  match bs,hl3 with
  | [a,b,c],_=>exact⟨a,b,c,rfl⟩
 obtain rfl:a0=b0:=V.ref.inj (Option.some.inj x1)
 obtain rfl:a1=b1:=V.ref.inj (Option.some.inj y1)
 obtain rfl:a2=b2:=V.ref.inj (Option.some.inj w1)
 have n0:r≠a0:=Ne.symm (cS x2 hn)
 have n1:r≠a1:=Ne.symm (cS y2 hn)
 have n2:r≠a2:=Ne.symm (cS w2 hn)
 rcases bE hk with rfl|rfl|rfl
 ·exact⟨[a0,a1,a2],g9 _ hr (s _ _ x2) (s _ _ y2) (s _ _ w2),by simp,by simp[n0,n1,n2]⟩
 ·exact⟨[a1,a2,a0],g9 _ hr (s _ _ y2) (s _ _ w2) (s _ _ x2),by simp,by simp[n0,n1,n2]⟩
 ·exact⟨[a2,a0,a1],g9 _ hr (s _ _ w2) (s _ _ x2) (s _ _ y2),by simp,by simp[n0,n1,n2]⟩
theorem HY{n:Nat}{m:List (List Int)}{k:Nat}(h:Bd n m):Bd n (Ac m k):=by
 intro i j hi hj
 unfold Ac
 rw[bC _ hi hj]
 exact h _ j (Nat.mod_lt _ (by decide)) hj
def bU(m:List (List Int)):Bool:=decide (0<ent m 0 0) && (decide (ent m 0 1*ent m 0 1<ent m 0 0*ent m 1 1) && decide (0<aA m))
theorem ic{m:List (List Int)}(h:cL m=m){i j:Nat}(hi:i<3)(hj:j<3):ent m j i=ent m i j:=by
 rw[<-aU m hi hj,h]
theorem Nj(m:List (List Int)):av m (λi=>if i=0 then 1 else 0) (λi=>if i=0 then 1 else 0)=ent m 0 0:=by
 rw[aX]
 simp
theorem Nk{m:List (List Int)}(h:cL m=m)(x:Nat->Int)(h0:x 0= -ent m 0 1)(h1:x 1=ent m 0 0)(h2:x 2=0):av m x x=ent m 0 0*(ent m 0 0*ent m 1 1-ent m 0 1*ent m 0 1):=by
 rw[aX,h0,h1,h2,ic h (i:=0) (j:=1) (by decide) (by decide)]
 grind
theorem Nl(m:List (List Int)):av m (λj=>ent (iF m) 2 j) (λj=>ent (iF m) 2 j)=aA m*ent (iF m) 2 2:=by
 have e:∀j,j<3->ent (iF m) 2 0*ent m 0 j+ent (iF m) 2 1*ent m 1 j+ent (iF m) 2 2*ent m 2 j=if 2=j then aA m else 0:=λj hj=>by
  rw[<-aI _ _ (by decide) hj,yr,pA,bC _ (by decide) hj]
 have e0:=e 0 (by decide)
 have e1:=e 1 (by decide)
 have e2:=e 2 (by decide)
 rw[if_neg (by decide)]at e0 e1
 rw[if_pos rfl]at e2
 rw[aX,<-e2]
 grind
theorem Jv(m:List (List Int)):ent (iF m) 2 2=ent m 0 0*ent m 1 1-ent m 0 1*ent m 1 0:=by
 rw[lX m (by decide) (by decide)]
 rfl
theorem Fq{H:Hp}{a b c:Addr}{x y:HO}(h0:H a=none)(h1:upd H a x b=none)(h2:upd (upd H a x) b y c=none): [a,b,c].Nodup:=by
 have n1:a≠b:=λe=>by rw[e,au]at h1;cases h1
 have n2:b≠c:=λe=>by rw[e,au]at h2;cases h2
 have n3:a≠c:=λe=>by rw[aG (λz=>n2 z.symm),e,au]at h2;cases h2
 simp[n1,n2,n3]
section
variable{X:Cx}
end
def dh(x:Nat->Int)(b:List (List Int)):Nat->Int:=λj=>x 0*ent b 0 j+x 1*ent b 1 j+x 2*ent b 2 j
theorem Dc(b m:List (List Int))(x y:Nat->Int):av (ir b m) x y=av m (dh x b) y:=by
 rw[aX,aX]
 unfold dh
 simp only[aI b m (show 0<3 by decide) (show 0<3 by decide),aI b m (show 0<3 by decide) (show 1<3 by decide),aI b m (show 0<3 by decide) (show 2<3 by decide),aI b m (show 1<3 by decide) (show 0<3 by decide),aI b m (show 1<3 by decide) (show 1<3 by decide),aI b m (show 1<3 by decide) (show 2<3 by decide),aI b m (show 2<3 by decide) (show 0<3 by decide),aI b m (show 2<3 by decide) (show 1<3 by decide),aI b m (show 2<3 by decide) (show 2<3 by decide)]
 grind
theorem Ad(b m:List (List Int))(x y:Nat->Int):av (ir m (cL b)) x y=av m x (dh y b):=by
 rw[aX,aX]
 unfold dh
 simp only[aI m (cL b) (show 0<3 by decide) (show 0<3 by decide),aI m (cL b) (show 0<3 by decide) (show 1<3 by decide),aI m (cL b) (show 0<3 by decide) (show 2<3 by decide),aI m (cL b) (show 1<3 by decide) (show 0<3 by decide),aI m (cL b) (show 1<3 by decide) (show 1<3 by decide),aI m (cL b) (show 1<3 by decide) (show 2<3 by decide),aI m (cL b) (show 2<3 by decide) (show 0<3 by decide),aI m (cL b) (show 2<3 by decide) (show 1<3 by decide),aI m (cL b) (show 2<3 by decide) (show 2<3 by decide),
  aU b (show 0<3 by decide) (show 0<3 by decide),aU b (show 0<3 by decide) (show 1<3 by decide),aU b (show 0<3 by decide) (show 2<3 by decide),aU b (show 1<3 by decide) (show 0<3 by decide),aU b (show 1<3 by decide) (show 1<3 by decide),aU b (show 1<3 by decide) (show 2<3 by decide),aU b (show 2<3 by decide) (show 0<3 by decide),aU b (show 2<3 by decide) (show 1<3 by decide),aU b (show 2<3 by decide) (show 2<3 by decide)]
 grind
theorem vz(m b:List (List Int))(x y:Nat->Int):av (fH m b) x y=av m (dh x b) (dh y b):=by
 unfold fH
 rw[Ad,Dc]
theorem wM{a b:Int}(h:0<a*b)(ha:0<a):0<b:=by
 rcases Int.lt_or_le 0 b with z|z
 ·exact z
 ·have:=Int.mul_nonpos_of_nonneg_of_nonpos (show 0<=a by omega) z
  omega
def Ae(m:List (List Int)):Prop:=∀x:Nat->Int,¬(x 0=0/\x 1=0/\x 2=0) ->0<av m x x
theorem vB{m:List (List Int)}(hS:cL m=m)(h:Ae m):bU m=true:=by
 have c1:0<ent m 0 0:=by
  have:=h (λi=>if i=0 then 1 else 0) (λz=>by simp at z)
  rw[Nj]at this
  exact this
 have c2:ent m 0 1*ent m 0 1<ent m 0 0*ent m 1 1:=by
  have:=h (λi=>match i with|0=> -ent m 0 1|1=>ent m 0 0|_=>0) (λz=>by have y:ent m 0 0=0:=z.2.1;omega)
  rw[Nk hS _ rfl rfl rfl]at this
  have:=wM this c1
  omega
 have Ra:0<ent (iF m) 2 2:=by
  rw[Jv,ic hS (i:=0) (j:=1) (by decide) (by decide)]
  omega
 have c3:0<aA m:=by
  have:=h (λj=>ent (iF m) 2 j) (λz=>by have y:ent (iF m) 2 2=0:=z.2.2;omega)
  rw[Nl]at this
  exact wM (by rw[Int.mul_comm];exact this) Ra
 unfold bU
 rw[decide_eq_true c1,decide_eq_true c2,decide_eq_true c3]
 rfl
theorem gk{m:List (List Int)}(h:bU m=true):0<ent m 0 0/\ent m 0 1*ent m 0 1<ent m 0 0*ent m 1 1/\0<aA m:=by
 unfold bU at h
 simp only[Bool.and_eq_true,decide_eq_true_eq]at h
 exact⟨h.1,h.2.1,h.2.2⟩
theorem bf(a:Int):0<=a*a:=by
 rcases Int.le_total 0 a with h|h
 ·exact Int.mul_nonneg h h
 ·have:=Int.mul_nonneg (show 0<= -a by omega) (show 0<= -a by omega)
  rwa [Int.neg_mul_neg]at this
theorem wN{a:Int}(h:a*a<=0):a=0:=by
 have:=bf a
 have:a*a=0:=by omega
 rcases Int.mul_eq_zero.mp this with z|z<;>exact z
theorem Ft{m:List (List Int)}(hS:cL m=m)(x:Nat->Int):ent m 0 0*(ent m 0 0*ent m 1 1-ent m 0 1*ent m 0 1)*av m x x=
  (ent m 0 0*ent m 1 1-ent m 0 1*ent m 0 1)*((ent m 0 0*x 0+ent m 0 1*x 1+ent m 0 2*x 2)*(ent m 0 0*x 0+ent m 0 1*x 1+ent m 0 2*x 2))
  +((ent m 0 0*ent m 1 1-ent m 0 1*ent m 0 1)*x 1+(ent m 0 0*ent m 1 2-ent m 0 1*ent m 0 2)*x 2)*((ent m 0 0*ent m 1 1-ent m 0 1*ent m 0 1)*x 1+(ent m 0 0*ent m 1 2-ent m 0 1*ent m 0 2)*x 2)
  +ent m 0 0*aA m*(x 2*x 2):=by
 rw[aX,cP,ic hS (i:=0) (j:=1) (by decide) (by decide),ic hS (i:=0) (j:=2) (by decide) (by decide),ic hS (i:=1) (j:=2) (by decide) (by decide)]
 generalize ent m 0 0=a,ent m 0 1=p,ent m 0 2=q,ent m 1 1=b,ent m 1 2=r,ent m 2 2=c
 generalize x 0=u,x 1=v,x 2=w
 grind
theorem gm{m:List (List Int)}(hS:cL m=m)(h:bU m=true):Ae m:=by
 intro x n0
 obtain⟨c1,c2,c3⟩:=gk h
 have e:=Ft hS x
 have f1:0<ent m 0 0*ent m 1 1-ent m 0 1*ent m 0 1:=by omega
 generalize ent m 0 0*ent m 1 1-ent m 0 1*ent m 0 1=fl at e f1
 have q1:=bf (ent m 0 0*x 0+ent m 0 1*x 1+ent m 0 2*x 2)
 have q2:=bf (fl*x 1+(ent m 0 0*ent m 1 2-ent m 0 1*ent m 0 2)*x 2)
 have q3:=bf (x 2)
 have r1:=Int.mul_nonneg (show 0<=fl by omega) q1
 have d1:=Int.mul_pos c1 c3
 have r3:=Int.mul_nonneg (show 0<=ent m 0 0*aA m by omega) q3
 have g1:=Int.mul_pos c1 f1
 refine wM ?_ g1
 rcases Int.lt_or_le 0 (ent m 0 0*fl*av m x x)with z|z
 ·exact z
 ·exfalso
  have s3:ent m 0 0*aA m*(x 2*x 2)<=0:=by omega
  have s2:=wN (a:=fl*x 1+(ent m 0 0*ent m 1 2-ent m 0 1*ent m 0 2)*x 2) (by omega)
  have s1:fl*((ent m 0 0*x 0+ent m 0 1*x 1+ent m 0 2*x 2)*(ent m 0 0*x 0+ent m 0 1*x 1+ent m 0 2*x 2))<=0:=by omega
  have x2:x 2=0:=by
   refine wN ?_
   rcases Int.lt_or_le 0 (x 2*x 2)with y|y
   ·have:=Int.mul_pos d1 y
    omega
   ·exact y
  rw[x2,Int.mul_zero,Int.add_zero]at s2
  have x1:x 1=0:=by
   rcases Int.mul_eq_zero.mp s2 with y|y
   ·omega
   ·exact y
  rw[x1,x2,Int.mul_zero,Int.mul_zero,Int.add_zero,Int.add_zero]at s1
  have x0:x 0=0:=by
   have:ent m 0 0*x 0=0:=by
    refine wN ?_
    rcases Int.lt_or_le 0 (ent m 0 0*x 0*(ent m 0 0*x 0))with y|y
    ·have:=Int.mul_pos f1 y
     omega
    ·exact y
   rcases Int.mul_eq_zero.mp this with y|y
   ·omega
   ·exact y
  exact n0 ⟨x0,x1,x2⟩
theorem Af(b:List (List Int)):aA (cL b)=aA b:=by
 rw[cP,cP]
 simp only[aU b (show 0<3 by decide) (show 0<3 by decide),aU b (show 0<3 by decide) (show 1<3 by decide),aU b (show 0<3 by decide) (show 2<3 by decide),aU b (show 1<3 by decide) (show 0<3 by decide),aU b (show 1<3 by decide) (show 1<3 by decide),aU b (show 1<3 by decide) (show 2<3 by decide),aU b (show 2<3 by decide) (show 0<3 by decide),aU b (show 2<3 by decide) (show 1<3 by decide),aU b (show 2<3 by decide) (show 2<3 by decide)]
 grind
def pC(d:Int):Prop:=d=1∨d= -1
theorem yw{m b:List (List Int)}(hb:pC (aA b)):aA (fH m b)=aA m:=by
 unfold fH
 rw[vq,vq,Af]
 rcases hb with h|h<;>rw[h]<;>omega
def lY(b:List (List Int)):List (List Int):=mk3 λi j=>aA b*ent (iF b) i j
theorem Dd{b:List (List Int)}(hb:pC (aA b)):ir (lY b) b=pA 1:=by
 have e:=yr b
 have h2:aA b*aA b=1:=by rcases hb with h|h<;>rw[h]<;>rfl
 refine gW λi j hi hj=> ?_
 have e':ent (ir (iF b) b) i j=ent (pA (aA b)) i j:=by rw[e]
 rw[aI _ _ hi hj,pA,bC _ hi hj]at e'
 unfold lY
 rw[bC _ hi (show 0<3 by decide),bC _ hi (show 1<3 by decide),bC _ hi (show 2<3 by decide)]
 have:aA b*ent (iF b) i 0*ent b 0 j+aA b*ent (iF b) i 1*ent b 1 j+aA b*ent (iF b) i 2*ent b 2 j=aA b*(ent (iF b) i 0*ent b 0 j+ent (iF b) i 1*ent b 1 j+ent (iF b) i 2*ent b 2 j):=by grind
 rw[this,e']
 split
 ·exact h2
 ·exact Int.mul_zero _
theorem yx{b:List (List Int)}(hb:pC (aA b))(x:Nat->Int)(h:dh x b 0=0/\dh x b 1=0/\dh x b 2=0):x 0=0/\x 1=0/\x 2=0:=by
 obtain⟨h0,h1,h2⟩:=h
 unfold dh at h0 h1 h2
 have d0:aA b≠0:=by rcases hb with z|z<;>rw[z]<;>decide
 have k:∀z:Int,aA b*z=0->z=0:=λz e=>by
  rcases Int.mul_eq_zero.mp e with y|y
  ·exact absurd y d0
  ·exact y
 refine⟨k _ ?_,k _ ?_,k _ ?_⟩<;>rw[cP]<;>grind
theorem Fv{m b:List (List Int)}(h:Ae m)(hb:pC (aA b)):Ae (fH m b):=λx n0=>by
 rw[vz]
 exact h _ λz=>n0 (yx hb x z)
theorem sR{m b:List (List Int)}(hS:cL m=m)(h:bU m=true)(cb:cz b)(hb:pC (aA b)):bU (fH m b)=true:=
 vB ((vp b cb).trans (congrArg (fH · b) hS)) (Fv (gm hS h) hb)
theorem dQ{m:List (List Int)}(h:cg m)(c:cz m):cL m=m:=by
 obtain⟨⟨s1,s2,s3⟩,_⟩:=h
 conv=>rhs;rw[wJ c]
 refine gW λi j hi hj=> ?_
 rcases bE hi with rfl|rfl|rfl<;>rcases bE hj with rfl|rfl|rfl<;>first|rfl|assumption|(symm;assumption)
theorem yy(m b:List (List Int)){i j:Nat}(hi:i<3)(hj:j<3):ent (fH m b) i j=av m (λk=>ent b i k) (λk=>ent b j k):=by
 unfold fH
 rw[aI _ _ hi hj,aI _ _ hi (by decide),aI _ _ hi (by decide),aI _ _ hi (by decide),aU b (by decide) hj,aU b (by decide) hj,aU b (by decide) hj,aX]
 grind
theorem vC{m b:List (List Int)}(h:cg m)(c:cz m)(cb:cz b):cg (fH m b):=by
 have hS:=(vp b cb).trans (congrArg (fH · b) (dQ h c))
 refine⟨⟨ic hS (i:=0) (j:=1) (by decide) (by decide),ic hS (i:=0) (j:=2) (by decide) (by decide),ic hS (i:=1) (j:=2) (by decide) (by decide)⟩,bK m (λk=>ent b 0 k),bK m (λk=>ent b 1 k),bK m (λk=>ent b 2 k),?_,?_,?_⟩<;>rw[yy m b (by decide) (by decide),d8 h]
theorem Ag{a b c p q r:Int}(ha:0<a)(hab:a<=b)(hp: -a<=p)(iD:p<=a)(hd:0<aA (fW (2*a) (2*b) (2*c) p q r)):bU (fW (2*a) (2*b) (2*c) p q r)=true:=by
 have h1:=Fl hp iD
 have h2:a*a<=a*b:=Int.mul_le_mul_of_nonneg_left hab (by omega)
 have h3:0<a*b:=Int.mul_pos ha (by omega)
 have h4:p*p<2*a*(2*b):=by
  have:2*a*(2*b)=4*(a*b):=by grind
  omega
 unfold bU
 rw[decide_eq_true hd,decide_eq_true (p:=0<ent (fW (2*a) (2*b) (2*c) p q r) 0 0) (by show 0<2*a;omega),decide_eq_true (p:=ent (fW (2*a) (2*b) (2*c) p q r) 0 1*ent (fW (2*a) (2*b) (2*c) p q r) 0 1<ent (fW (2*a) (2*b) (2*c) p q r) 0 0*ent (fW (2*a) (2*b) (2*c) p q r) 1 1) h4]
 rfl
theorem HZ{x:Nat->Int}{b:List (List Int)}{p n:Nat}(hx:∀i,i<3->(x i).natAbs<2^p)(hb:Bd n b)(j:Nat)(hj:j<3):(dh x b j).natAbs<2^(p+n+2):=
 jh (jh (b7 (hx 0 (by decide)) (hb 0 j (by decide) hj)) (b7 (hx 1 (by decide)) (hb 1 j (by decide) hj))) (aH (b7 (hx 2 (by decide)) (hb 2 j (by decide) hj)) (Nat.le_succ _))
section
variable{X:Cx}{sc:Scope}{N2:List Str}{x y:Str}{px Eh tpos:Pos}{x1:Nat}{elt iter:Expr}{iE p pos:Pos}{wi:TI}{te:TE}{P:Addr}
end
mutual
inductive DV (H:Hp):V->PyData->Prop
 |iR:DV H .iR .none
 |bl (b:Bool):DV H (.bl b) (.bool b)
 |int (i:Int):DV H (.int i) (.int i)
 |str (x:Str):DV H (.str x) (.str x)
 |lst {a:Addr} {xs:List V} {ds:List PyData}:H a=some (.lst xs) ->yz H xs ds->DV H (.ref a) (.list ds)
 |tup {a:Addr} {xs:List V} {ds:List PyData}:H a=some (.tup xs) ->yz H xs ds->DV H (.ref a) (.tuple ds)
inductive yz (H:Hp):List V->List PyData->Prop
 |nil:yz H [] []
 |cons {x:V} {d:PyData} {xs:List V} {ds:List PyData}:DV H x d->yz H xs ds->yz H (x::xs) (d::ds)
end
mutual
theorem DV.same{H H':Hp}(s:ay H H'):∀{x:V} {d:PyData},DV H x d->DV H' x d
 |_,_,.iR=> .iR
 |_,_,.bl b=> .bl b
 |_,_,.int i=> .int i
 |_,_,.str x=> .str x
 |_,_,.lst e q=> .lst (s _ _ e) (yz.same s q)
 |_,_,.tup e q=> .tup (s _ _ e) (yz.same s q)
theorem yz.same{H H':Hp}(s:ay H H'):∀{xs:List V} {ds:List PyData},yz H xs ds->yz H' xs ds
 |_,_,.nil=> .nil
 |_,_,.cons a q=> .cons (DV.same s a) (yz.same s q)
end
theorem yz.length{H:Hp}:∀{xs:List V} {ds:List PyData},yz H xs ds->xs.length=ds.length
 |_,_,.nil=>rfl
 |_,_,.cons _ q=>congrArg (· +1) (yz.length q)
theorem yz.get{H:Hp}:∀{xs:List V} {ds:List PyData} {i:Nat} {x:V},yz H xs ds->xs[i]?=some x-> ∃d,ds[i]?=some d/\DV H x d
 |_,_,0,_,.cons a q,e=>by cases e;exact⟨_,rfl,a⟩
 |_,_,i+1,_,.cons a q,e=>yz.get (i:=i) q (by simpa using e)
def SY:PyData->Value
 | .none=> .type "NoneType"
 | .bool _=> .type "bool"
 | .int _=> .type "int"
 | .str _=> .type "str"
 | .list _=> .type "list"
 | .tuple _=> .type "tuple"
 |_=> .none
theorem DV.ty(K:PySem.W.Frag){H:Hp}{x:V}{d:PyData}(h:DV H x d):oU K H x (SY d):=by
 cases h with
 |iR=>exact .iR
 |bl b=>exact .bl b
 |int i=>exact .int i
 |str s=>exact .str s
 |lst e _=>exact .lst e
 |tup e _=>exact .tup e
theorem Ah{J:It}{H1:Hp}{xs:List V}{σ:St}{te:TE}{Q:VK}(jw:JW J H1 xs)(hz:xs.length<=sizeLine){D:Addr}(hD:H1 D=none)(f:V->HO)
  (hs:∀x∈xs,∀H' (Q':VK),ay H1 H'->(∀b H2,H' b=none->ay H' H2->H2 b=some (f x) ->Q' (.ref b) H2) ->te (some x::σ) H' Q')
  (hq:∀bs H',ay H1 H'->H' D=some (.lst (bs.map V.ref)) ->(∀b∈bs,H1 b=none) ->D∉bs->bs.Nodup->Paired (λx b=>H' b=some (f x)) xs bs->Q (.ref D) H'):
  kG 1 (cY 0) te σ J H1 D Q:=by
 refine rR jw hz hD (λpre acc H'=> ∃bs:List Addr,acc=bs.map V.ref/\(∀b∈bs,H1 b=none/\H' b≠none)/\D∉bs/\bs.Nodup/\Paired (λx b=>H' b=some (f x)) pre bs) ⟨[],rfl,λ_ h=>(nomatch h),by simp,List.nodup_nil,.nil⟩ (λpre x post acc H' Q' e hl sm eD p k=> ?_) (λacc H' hl sm eD p=> ?_)
 ·obtain⟨bs,rfl,fr,nD,nn,pr⟩:=p
  refine hs x (by rw[e];simp) H' _ sm λb H2 hb s2 eb=> ?_
  have nb:b≠D:=λz=>by rw[z,eD]at hb;cases hb
  refine k _ _ s2 ⟨bs++ [b],by simp,?_,?_,?_,?_⟩
  ·intro c hc
   rcases List.mem_append.mp hc with z|z
   ·refine⟨(fr c z).1,λy=> ?_⟩
    rw[aG (λw=>nD (by rw[<-w];exact z))]at y
    exact(fr c z).2 (s2.none y)
   ·rw[List.mem_singleton.mp z]
    refine⟨sm.none hb,λy=> ?_⟩
    rw[aG nb,eb]at y
    cases y
  ·intro z
   rcases List.mem_append.mp z with z|z
   ·exact nD z
   ·exact nb (List.mem_singleton.mp z).symm
  ·rw[List.nodup_append]
   refine⟨nn,by simp,λc hc d hd z=> ?_⟩
   rw[List.mem_singleton.mp hd]at z
   exact(fr c hc).2 (by rw[z];exact hb)
  ·refine Paired.snoc (pr.EY λy c hc q=> ?_) (by rw[aG nb];exact eb)
   rw[aG (λz=>nD (by rw[<-z];exact hc))]
   exact s2 _ _ q
 ·obtain⟨bs,rfl,fr,nD,nn,pr⟩:=p
  exact hq bs H' sm eD (λb hb=>(fr b hb).1) nD nn pr
theorem Fw{K:PySem.W.Frag}{H:Hp}{t:Addr}{bs:List Addr}{m:List (List Int)}{σ:St}{Q:VK}(h:Tab H t bs m)(hz:m.length<=sizeLine){D:Addr}(hD:H D=none)
  (hq:∀bs' H',ay H H'->(∀b∈bs',H b=none) ->D∉bs'->bs'.Nodup->Tab H' D bs' m->Q (.ref D) H'):kG 1 (cY 0) (NY (BP K) (dI (bH 0) jI)) σ (JZ K t) H D Q:=by
 refine Ah (jA (aT.of h.1)) (by rw[List.length_map,<-h.2.length];exact hz) hD (λx=> .lst (itemsOf H id x)) (λx hx H' Q' sm k=> ?_) (λbs' H' sm eD fr nD nn pr=> ?_)
 ·obtain⟨b,rfl,hb⟩:=yo hx
  obtain⟨row,Tc,eb⟩:=KP h.2 hb
  refine⟨_,rfl,b,_,rfl,.inl (aT.of (sm _ _ eb)),λl hl=>k l _ hl (ay.up hl) ?_⟩
  rw[au,qX eb,List.map_id]
 ·refine hq bs' H' sm fr nD nn ⟨eD,?_⟩
  have:=vn (g:=id) h.2 pr λrow b e=>by rw[qX e,List.map_id];rfl
  rwa [List.map_id]at this
section
variable{X:Cx}
theorem eG:Ff X [] Jd:=⟨Ht⟩
end
theorem dM{X:Cx}{c:Expr}{a b:List Stmt}{tc:TT}{t u:TS}{pos:Pos}(hc:PT X c tc)(ha:Ff X a t)(hb:Ff X b u):PS X (.If c a b pos) (Mz tc t u):=MA hc ha.h hb.h
section
variable{prog:Program}{w:World}{A:Around}{R:Result->Shared->Prop}{s:Shared}
end
section
variable{X:Cx}{sc:Scope}{own N2:List Str}
end
section
variable{X:Cx}{sc:Scope}{N2:List Str}{x:Str}{px:Pos}{elt iter c:Expr}{pos:Pos}{wi:TI}{tt:TT}{te:TE}
end
end L2
namespace L2
end L2
namespace L2
open PySem PySem.Spec PyProof.Rows
def qY(H:Hp)(B:Addr):Prop:=∃g s:Int,H B=some (.lst [.int g,.int s])/\0<=g/\0<=s
def SB(B:Addr)(H H':Hp):Prop:=(∀a o,a≠B->H a=some o->H' a=some o)/\qY H' B
theorem SB.refl{B:Addr}{H:Hp}(h:qY H B):SB B H H:=⟨λ_ _ _ e=>e,h⟩
theorem SB.trans{B:Addr}{H H' Nm:Hp}(h:SB B H H')(h':SB B H' Nm):SB B H Nm:=⟨λa o n e=>h'.1 a o n (h.1 a o n e),h'.2⟩
theorem qY.same{H H':Hp}{B:Addr}(h:qY H B)(s:ay H H'):qY H' B:=by
 obtain⟨g,t,e,r⟩:=h
 exact⟨g,t,s _ _ e,r⟩
theorem SB.of{B:Addr}{H H':Hp}(b:qY H B)(s:ay H H'):SB B H H':=⟨λa o _ e=>s _ _ e,b.same s⟩
theorem SB.gone{B:Addr}{H H':Hp}(h:SB B H H'){r:Addr}(e:H' r=none):H r=none:=by
 cases q:H r with
 |none=>rfl
 |some o=>
  by_cases z:r=B
  ·obtain⟨g,t,e2,_⟩:=h.2
   rw[<-z,e]at e2
   cases e2
  ·rw[h.1 r o z q]at e
   cases e
theorem SB.ne{B:Addr}{H H':Hp}(h:SB B H H'){r:Addr}(e:H' r=none):r≠B:=λz=>by
 obtain⟨g,t,e2,_⟩:=h.2
 rw[<-z,e]at e2
 cases e2
theorem qY.ne{H:Hp}{B r:Addr}(h:qY H B)(e:H r=none):r≠B:=(SB.refl h).ne e
end L2
namespace L2
end L2
namespace L2
open PySem PySem.Spec PyProof.Rows
def dw(r:List Int):Nat->Int:=λi=>r.getD i 0
section
variable{X:Cx}{sc:Scope}{N2:List Str}{x y:Str}{px Eh tpos:Pos}{x1:Nat}{elt iter:Expr}{iE p pos:Pos}{wi:TI}{te:TE}{P:Addr}
theorem Ia{B:Around}(hc:X.calm=true)(Bk:pZ sc.names X.env.scope.names [x,y] N2 X.N)(hnc:∀y∈sc.names,y.2≠ .cell)(code:Value)(s:Shared)(H:Hp)(fp:List Addr):PG (X.gen B sc ([x,y]++N2) code s H fp) (.Tuple [.Name x px,.Name y Eh] x1 tpos) (g2 X.K):=
 sf (X:=X.gen B sc ([x,y]++N2) code s H fp) hc (aN (BU (i:=0) Bk hnc rfl code s H fp) (aN (BU (i:=1) Bk hnc rfl code s H fp) fF))
theorem Ib(hc:X.calm=true)(hr:X.A.depth<recursionLimit)(cd:fR X.K X.env.code P)(bm:BM X.mg X.base)(EV:Gl X "sum")(hm:X.mg "sum"=none)(hi:PI X (.Tuple [.Name x px,.Name y Eh] x1 tpos) iter wi)(hB:Fb sc X.env.scope.names [x,y] N2 X.N=true)
  (he:∀code s H fp,PE (X.gen X.A.in1.in1 sc ([x,y]++N2) code s H fp) elt te)
  (hs:∀x,genFold iter X.env x=pure x:=by intro _;rfl)(hst:starEach [.GeneratorExp elt [⟨.Tuple [.Name x px,.Name y Eh] x1 tpos,iter,[],0⟩] sc iE] X.env=[(false,eval (.GeneratorExp elt [⟨.Tuple [.Name x px,.Name y Eh] x1 tpos,iter,[],0⟩] sc iE) X.env)]:=by rfl):
  PE X (.Call (.Name "sum" p) [.GeneratorExp elt [⟨.Tuple [.Name x px,.Name y Eh] x1 tpos,iter,[],0⟩] sc iE] [] pos) (vm 2 P wi (g2 X.K) te):=
 have K:=sM hc hr cd bm hB
 BI (own:=[x,y]) K EV hm hi (λcode s H fp=>Ia hc K.MZ K.nc code s H fp) he hs hst
end
theorem Ic{K:PySem.W.Frag}{H1:Hp}{a b:Addr}{xs ys:List V}{σ:St}{te:TE}{F:Nat->(Nat->V->Prop) ->(Nat->St->Hp->Prop) ->Prop}(ha:aT K H1 a xs)(hb:aT K H1 b ys)(hl:xs.length=ys.length)(R:Nat->V->Prop)
  (hs:∀(i:Nat) x y,xs[i]?=some x->ys[i]?=some y-> ∀H' (Q':VK),ay H1 H'->(∀v H2,R i v->ay H' H2->Q' v H2) ->te (some x::some y::σ) H' Q')
  (hF:F xs.length R (λ_ σ' H'=>(∃o o',σ'=o::o'::σ)/\ay H1 H')):vj 2 (g2 K) te σ F (Nd K a b) H1:=by
 refine⟨xs.length,R,_,⟨⟨none,none,rfl⟩,ay.refl _⟩,λi σ' H' hi w=> ?_,λσ' H' w=>⟨xs,ys,w.2.seq ha,w.2.seq hb,.inl (Nat.le_refl _)⟩,hF⟩
 obtain⟨⟨o,o',rfl⟩,sm⟩:=w
 have hi':i<ys.length:=by omega
 refine⟨⟨xs,ys,xs[i],ys[i],sm.seq ha,sm.seq hb,by simp[hi],by simp[hi']⟩,λv H2 yl=> ?_⟩
 obtain⟨T,x,y,rfl,hT,hx,hy,rfl⟩:=yl
 have ex:=hx xs (sm.seq ha)
 have ey:=hy ys (sm.seq hb)
 have s2:ay H' (upd H' T (.tup [x,y])):=ay.up hT
 refine⟨T,[x,y],rfl,uq.of au,rfl,x,[y],rfl,y,[],rfl,rfl,?_⟩
 show te (some x::some y::σ) _ _
 exact hs i x y ex ey _ _ (sm.trans s2) λv H3 r s3=>⟨r,⟨_,_,rfl⟩,(sm.trans s2).trans s3⟩
theorem Ie{K:PySem.W.Frag}{H1:Hp}{a b:Addr}{xs ys:List V}{σ:St}{te:TE}{Q:VK}{P:Addr}(ha:aT K H1 a xs)(hb:aT K H1 b ys)(hl:xs.length=ys.length)(hP:H1 P=some (dG P))(val:Nat->Int)
  (hs:∀(i:Nat) x y,xs[i]?=some x->ys[i]?=some y-> ∀H' (Q':VK),ay H1 H'->(∀H2,ay H' H2->Q' (.int (val i)) H2) ->te (some x::some y::σ) H' Q')
  (hq:∀H',ay H1 H'->Q (.int (preSum val xs.length)) H'):ET 2 P (g2 K) te σ (Nd K a b) H1 Q:=
 ⟨hP,Ic ha hb hl (λi v=>v= .int (val i)) (λi x y ex ey H' Q' sm k=>hs i x y ex ey H' Q' sm λH2 s2=>k _ _ rfl s2) ⟨val,λi v _ r=>r,λσ' H' w=>hq H' w.2⟩⟩
section
variable{X:Cx}{sc:Scope}{N2:List Str}{x:Str}{px:Pos}{elt iter:Expr}{iE p pos:Pos}{wi:TI}{te:TE}{P:Addr}
end
theorem Fx{v:V}{r:List V}:xZ (v::r) 0=some v:=gU (i:=0) rfl
def rk(sel:Nat->Bool)(k:Nat):Nat:=(List.range k).countP sel
section
variable{X:Cx}{B:Around}{sc:Scope}{N':List Str}{code:Value}{sC:Shared}{HC:Hp}{fp Ss:List Addr}{tn:Nat->Heap->Prop}{N:Nat}{sel:Nat->Bool}{R:Nat->V->Prop}{W:St->Hp->Prop}
variable{elt iter tg c:Expr}{pos:Pos}{it:Addr}{J:It}{g:TG}{tt:TT}{te:TE}
end
section
variable{X:Cx}{sc:Scope}{own N2:List Str}{elt iter tg c:Expr}{pos:Pos}{wi:TI}{g:TG}{tt:TT}{te:TE}{P:Addr}
end
def mx(val:Nat->Int):Nat->Int
 |0=>val 0
 |k+1=>if val (k+1)>mx val k then val (k+1)else mx val k
section
variable{X:Cx}{sc:Scope}{N':List Str}{code:Value}{sC:Shared}{HC:Hp}{fp:List Addr}{tn:Nat->Heap->Prop}{cnt:Nat}{R:Nat->V->Prop}{W:Nat->St->Hp->Prop}{a S:Addr}{pins:List (Addr×Obj)}{σ:St}{Rr:Result->Shared->Prop}
end
section
variable{X:Cx}{sc:Scope}{N2:List Str}{x:Str}{px:Pos}{elt iter c:Expr}{iE p pos:Pos}{wi:TI}{tt:TT}{te:TE}{P:Addr}
end
section
variable{X:Cx}
abbrev TB:=St->Hp->(St->Hp->Prop) ->Prop
end
section
variable{X:Cx}{sc:Scope}{own N2:List Str}
variable{x y:Str}{px Eh:Pos}{elt iter BJ:Expr}{pos:Pos}{wi Oc:TI}{te:TE}
end
section
variable{X:Cx}
end
def LW(i:Nat)(z:Int):Nat->Int:=λj=>if j=i then z else 0
theorem j8{m:List (List Int)}(h:cg m)(x y:Nat->Int):av m x y=av m y x:=by
 obtain⟨⟨s1,s2,s3⟩,_⟩:=h
 rw[aX,aX,s1,s2,s3]
 grind
theorem fX{m:List (List Int)}{x y x' y':Nat->Int}(h:∀i,i<3->x i=x' i)(k:∀i,i<3->y i=y' i):av m x y=av m x' y':=by
 rw[aX,aX,h 0 (by decide),h 1 (by decide),h 2 (by decide),k 0 (by decide),k 1 (by decide),k 2 (by decide)]
def In(M:(Nat->Int) ->Prop)(L:List (List Int)):Prop:=∀r∈L,M (dw r)
end L2
namespace wO
open PySem PyProof.Rows
def Ig:Bool->Keyed->Array Keyed->Nat->Nat->Nat->StateT SortSt Sem (Option Nat):=sortPriv%PySem.Builtin.gallop
def PJ:Array Keyed->Array Keyed->StateT SortSt Sem (Array Keyed):=sortPriv%PySem.Builtin.mergeLo
def PK:Array Keyed->Array Keyed->StateT SortSt Sem (Array Keyed):=sortPriv%PySem.Builtin.mergeHi
def Nn:Nat->StateT SortSt Sem Unit:=sortPriv%PySem.Builtin.setMinGallop
def Rb(lf:Bool)(ky:Keyed)(ar:Array Keyed)(b0 i:Nat):StateT SortSt Sem (Option Bool):=do
 let x<-elem' ar (b0+i)
 if lf then lt' x ky else return(<-lt' ky x).map (!·)
abbrev GS:=Option (Option Nat)×Nat×Nat
def Oh(bd:Nat->StateT SortSt Sem (Option Bool))(n h mx:Nat):StateT SortSt Sem GS:=
 forIn [:n] ((none,0,1):GS) λ_ c=>
  if c.2.2≥mx then pure (ForInStep.done (none,c.2.1,c.2.2))else do
   let r<-bd (h+c.2.2)
   match r with
   |some more=>if(!more)=true then pure (ForInStep.done (none,c.2.1,c.2.2))else pure (ForInStep.yield (none,c.2.2,2*c.2.2+1))
   |_=>pure (ForInStep.done (some none,c.2.1,c.2.2))
def Oi(bd:Nat->StateT SortSt Sem (Option Bool))(n h mx:Nat):StateT SortSt Sem GS:=
 forIn [:n] ((none,0,1):GS) λ_ c=>
  if c.2.2≥mx then pure (ForInStep.done (none,c.2.1,c.2.2))else do
   let r<-bd (h-c.2.2)
   match r with
   |some f=>if f=true then pure (ForInStep.done (none,c.2.1,c.2.2))else pure (ForInStep.yield (none,c.2.2,2*c.2.2+1))
   |_=>pure (ForInStep.done (some none,c.2.1,c.2.2))
def Np(bd:Nat->StateT SortSt Sem (Option Bool))(n lo hi:Nat):StateT SortSt Sem (Option Nat):=do
 let c<-forIn [:n] ((none,lo,hi):GS) λ_ c=>
  if c.2.1≥c.2.2 then pure (ForInStep.done (none,c.2.1,c.2.2))else do
   let r<-bd (c.2.1+(c.2.2-c.2.1)/2)
   match r with
   |some more=>if more=true then pure (ForInStep.yield (none,c.2.1+(c.2.2-c.2.1)/2+1,c.2.2))else pure (ForInStep.yield (none,c.2.1,c.2.1+(c.2.2-c.2.1)/2))
   |_=>pure (ForInStep.done (some none,c.2.1,c.2.2))
 match c.1 with
 |some r=>pure r
 |none=>pure (some c.2.2)
def Ih(bd:Nat->StateT SortSt Sem (Option Bool))(n h:Nat):StateT SortSt Sem (Option Nat):=do
 let r<-bd h
 match r with
 |some right=>
  if right=true then do
   let c<-Oh bd n h (n-h)
   match c.1 with
   |some r=>pure r
   |none=>Np bd n (h+c.2.1+1) (h+min c.2.2 (n-h))
  else do
   let c<-Oi bd n h (h+1)
   match c.1 with
   |some r=>pure r
   |none=>Np bd n (h+1-min c.2.2 (h+1)) (h-c.2.1)
 |_=>pure none
theorem KW(lf:Bool)(ky:Keyed)(ar:Array Keyed)(b0 n h:Nat):Ig lf ky ar b0 n h=(do
 let bd (i:Nat):StateT SortSt Sem (Option Bool):=do
  let x<-elem' ar (b0+i)
  if lf then lt' x ky else return(<-lt' ky x).map (!·)
 let mut l:=0
 let mut o:=1
 let mut u:=0
 let mut v:=0
 let some r<-bd h|return none
 if r then
  let mx:=n-h
  for _ in [0:n] do
   if o≥mx then break
   let some m<-bd (h+o)|return none
   if !m then break
   l:=o
   o:=2*o+1
  u:=h+l+1
  v:=h+min o mx
 else
  let mx:=h+1
  for _ in [0:n] do
   if o≥mx then break
   let some m<-bd (h-o)|return none
   if m then break
   l:=o
   o:=2*o+1
  u:=h+1-min o mx
  v:=h-l
 for _ in [0:n] do
  if u≥v then break
  let q:=u+(v-u)/2
  let some m<-bd q|return none
  if m then u:=q+1 else v:=q
 return some v):=rfl
theorem KY(lf:Bool)(ky:Keyed)(ar:Array Keyed)(b0 n h:Nat):Ig lf ky ar b0 n h=Ih (Rb lf ky ar b0) n h:=by
 rw[KW]
 unfold Ih Oh Oi Np
 dsimp only
 congr 1
 funext r
 cases r with
 |none=>rfl
 |some r=>
  dsimp only
  split
  ·congr 1
   funext c
   obtain⟨c1,c2,c3⟩:=c
   cases c1 with
   |some c=>rfl
   |none=>
    dsimp only
    congr 1
    funext c
    obtain⟨c1,c2,c3⟩:=c
    cases c1<;>rfl
  ·congr 1
   funext c
   obtain⟨c1,c2,c3⟩:=c
   cases c1 with
   |some c=>rfl
   |none=>
    dsimp only
    congr 1
    funext c
    obtain⟨c1,c2,c3⟩:=c
    cases c1<;>rfl
section
variable{M:Model}{A:Around}{E:Value->Shared->Prop}{s:Shared}{st:SortSt}{b:Nat->Bool}{n:Nat}{bd:Nat->StateT SortSt Sem (Option Bool)}
theorem w_up{h:Nat}{Q:GS->SortSt->Prop}(hb:∀i,i<n-> ∀Q:Option Bool->SortSt->Prop,Q (some (b i)) st->wpS M A E s (bd i) Q st)(mono:∀i j,i<=j->j<n->b j=true->b i=true)
  (hh:h<n)(h0:b h=true)(hq:∀l o,l<o->h+l<n->b (h+l)=true->(n-h<=o∨(h+o<n/\b (h+o)=false)) ->Q (none,l,o) st):wpS M A E s (Oh bd n h (n-h)) Q st:=by
 unfold Oh
 refine wpS_forRange (I:=λx c st'=>st'=st/\ ∃l o,c=(none,l,o)/\l<o/\h+l<n/\b (h+l)=true/\x<o) ?_ ?_ ⟨rfl,0,1,rfl,by omega,by omega,h0,by omega⟩
 ·rintro x c st' _ hx ⟨rfl,l,o,rfl,h1,h2,h3,h4⟩
  dsimp only
  by_cases hm:o≥n-h
  ·rw[if_pos hm]
   exact wpS_pure (hq l o h1 h2 h3 (.inl hm))
  ·rw[if_neg hm]
   refine wpS_bind (hb _ (by omega) _ ?_)
   dsimp only
   cases e:b (h+o)with
   |true=>
    simp only[Bool.not_true,Bool.false_eq_true,if_false]
    exact wpS_pure ⟨rfl,o,2*o+1,rfl,by omega,by omega,e,by omega⟩
   |false=>
    simp only[Bool.not_false,if_true]
    exact wpS_pure (hq l o h1 h2 h3 (.inr ⟨by omega,e⟩))
 ·rintro c st' ⟨rfl,l,o,rfl,h1,h2,h3,h4⟩
  exact hq l o h1 h2 h3 (.inl (by omega))
theorem PL{h:Nat}{Q:GS->SortSt->Prop}(hb:∀i,i<n-> ∀Q:Option Bool->SortSt->Prop,Q (some (b i)) st->wpS M A E s (bd i) Q st)
  (hh:h<n)(h0:b h=false)(hq:∀l o,l<o->l<=h->b (h-l)=false->(h+1<=o∨(o<=h/\b (h-o)=true)) ->Q (none,l,o) st):wpS M A E s (Oi bd n h (h+1)) Q st:=by
 unfold Oi
 refine wpS_forRange (I:=λx c st'=>st'=st/\ ∃l o,c=(none,l,o)/\l<o/\l<=h/\b (h-l)=false/\x<o) ?_ ?_ ⟨rfl,0,1,rfl,by omega,by omega,h0,by omega⟩
 ·rintro x c st' _ hx ⟨rfl,l,o,rfl,h1,h2,h3,h4⟩
  dsimp only
  by_cases hm:o≥h+1
  ·rw[if_pos hm]
   exact wpS_pure (hq l o h1 h2 h3 (.inl hm))
  ·rw[if_neg hm]
   refine wpS_bind (hb _ (by omega) _ ?_)
   dsimp only
   cases e:b (h-o)with
   |true=>
    simp only[if_true]
    exact wpS_pure (hq l o h1 h2 h3 (.inr ⟨by omega,e⟩))
   |false=>
    simp only[Bool.false_eq_true,if_false]
    exact wpS_pure ⟨rfl,o,2*o+1,rfl,by omega,by omega,e,by omega⟩
 ·rintro c st' ⟨rfl,l,o,rfl,h1,h2,h3,h4⟩
  exact hq l o h1 h2 h3 (.inl (by omega))
theorem Nq{lo hi:Nat}{Q:Option Nat->SortSt->Prop}(hb:∀i,i<n-> ∀Q:Option Bool->SortSt->Prop,Q (some (b i)) st->wpS M A E s (bd i) Q st)(mono:∀i j,i<=j->j<n->b j=true->b i=true)
  (Td:lo<=hi)(hn:hi<=n)(h1:∀i,i<lo->b i=true)(h2:∀i,hi<=i->i<n->b i=false)(hq:∀k,k<=n->(∀i,i<k->b i=true) ->(∀i,k<=i->i<n->b i=false) ->Q (some k) st):
  wpS M A E s (Np bd n lo hi) Q st:=by
 unfold Np
 refine wpS_bind (wpS_mono (wpS_forRange (I:=λx c st'=>st'=st/\ ∃l o,c=(none,l,o)/\l<=o/\o<=n/\(∀i,i<l->b i=true)/\(∀i,o<=i->i<n->b i=false)/\(o-l)+x<=n)
  (Q:=λc st'=>st'=st/\ ∃o,c=(none,o,o)/\o<=n/\(∀i,i<o->b i=true)/\(∀i,o<=i->i<n->b i=false)) ?_ ?_ ⟨rfl,lo,hi,rfl,Td,hn,h1,h2,by omega⟩) ?_)
 ·rintro x c st' _ hx ⟨rfl,l,o,rfl,a1,a2,a3,a4,a5⟩
  dsimp only
  by_cases hm:l≥o
  ·rw[if_pos hm]
   have e:l=o:=by omega
   subst e
   exact wpS_pure ⟨rfl,l,rfl,a2,a3,a4⟩
  ·rw[if_neg hm]
   refine wpS_bind (hb _ (by omega) _ ?_)
   dsimp only
   cases e:b (l+(o-l)/2)with
   |true=>
    simp only[if_true]
    exact wpS_pure ⟨rfl,_,_,rfl,by omega,a2,λi hi=>mono i _ (by omega) (by omega) e,a4,by omega⟩
   |false=>
    simp only[Bool.false_eq_true,if_false]
    refine wpS_pure ⟨rfl,_,_,rfl,by omega,by omega,a3,λi hi hin=> ?_,by omega⟩
    cases e2:b i with
    |false=>rfl
    |true=>rw[mono _ i hi hin e2]at e;cases e
 ·rintro c st' ⟨rfl,l,o,rfl,a1,a2,a3,a4,a5⟩
  have e:l=o:=by omega
  subst e
  exact⟨rfl,l,rfl,a2,a3,a4⟩
 ·rintro c st' ⟨rfl,o,rfl,a2,a3,a4⟩
  exact wpS_pure (hq o a2 a3 a4)
theorem KZ{h:Nat}{Q:Option Nat->SortSt->Prop}(hb:∀i,i<n-> ∀Q:Option Bool->SortSt->Prop,Q (some (b i)) st->wpS M A E s (bd i) Q st)(mono:∀i j,i<=j->j<n->b j=true->b i=true)
  (hh:h<n)(hq:∀k,k<=n->(∀i,i<k->b i=true) ->(∀i,k<=i->i<n->b i=false) ->Q (some k) st):wpS M A E s (Ih bd n h) Q st:=by
 unfold Ih
 have anti:∀i j,i<=j->j<n->b i=false->b j=false:=λi j h1 h2 h3=>by
  cases e:b j with
  |false=>rfl
  |true=>rw[mono i j h1 h2 e]at h3;cases h3
 refine wpS_bind (hb h hh _ ?_)
 dsimp only
 cases e:b h with
 |true=>
  simp only[if_true]
  refine wpS_bind (w_up hb mono hh e λl o a1 a2 a3 a4=> ?_)
  dsimp only
  refine Nq hb mono (by omega) (by omega) (λi hi=>mono i (h+l) (by omega) a2 a3) (λi hi hin=> ?_) hq
  rcases a4 with a4|a4
  ·omega
  ·exact anti (h+o) i (by omega) hin a4.2
 |false=>
  simp only[Bool.false_eq_true,if_false]
  refine wpS_bind (PL hb hh e λl o a1 a2 a3 a4=> ?_)
  dsimp only
  refine Nq hb mono (by omega) (by omega) (λi hi=> ?_) (λi hi hin=>anti (h-l) i (by omega) hin a3) hq
  rcases a4 with a4|a4
  ·omega
  ·exact mono i (h-o) (by omega) (by omega) a4.2
end
def pD(prog:Program)(w:World)(A:Around)(E:Value->Shared->Prop)(s:Shared)(κ:SortKind)(K:Keyed->Int)(D:Keyed->Prop):Prop:=
 ∀(st:SortSt) (x y:Keyed) (Q:Option Bool->SortSt->Prop),kindOf st=κ->D x->D y->Q (some (decide (K x<K y))) st->wpS (model prog w) A E s (lt' x y) Q st
section
variable{prog:Program}{w:World}{A:Around}{E:Value->Shared->Prop}{s:Shared}{κ:SortKind}{K:Keyed->Int}{D:Keyed->Prop}{st:SortSt}
theorem aZ{ar:Array Keyed}{i:Nat}{x:Keyed}{Q:Keyed->SortSt->Prop}{M:Model}(h:ar[i]?=some x)(hq:Q x st):wpS M A E s (elem' ar i) Q st:=by
 rw[elem'_eq,h]
 exact wpS_pure hq
theorem jB(hL:pD prog w A E s κ K D){lf:Bool}{ky:Keyed}{ar:Array Keyed}{b0 n h:Nat}{Q:Option Nat->SortSt->Prop}(hk:kindOf st=κ)(xs:List Keyed)(hx:∀i,i<n->ar[b0+i]?=xs[i]?)(hn:n=xs.length)
  (hD:∀x∈xs,D x)(Rc:D ky)(hs:xs.Pairwise λx y=>K x<=K y)(hh:h<n)
  (hq:∀k,k<=n->(∀x∈xs.take k,if lf then K x<K ky else K x<=K ky) ->(∀x∈xs.drop k,if lf then K ky<=K x else K ky<K x) ->Q (some k) st):wpS (model prog w) A E s (Ig lf ky ar b0 n h) Q st:=by
 rw[KY]
 have gd:∀i,i<n-> ∃x,xs[i]?=some x/\x∈xs:=λi hi=>⟨xs[i]'(by omega),List.getElem?_eq_getElem _,List.getElem_mem _⟩
 refine KZ (b:=λi=>match xs[i]? with|some x=>(if lf then decide (K x<K ky)else !decide (K ky<K x))|none=>false) (λi hi Q hQ=> ?_) (λi j hij hj hb=> ?_) hh (λk hk1 h1 h2=>hq k hk1 (λx hx=> ?_) (λx hx=> ?_))
 ·obtain⟨x,e,m⟩:=gd i hi
  rw[e]at hQ
  dsimp only at hQ
  unfold Rb
  refine wpS_bind (aZ ((hx i hi).trans e) ?_)
  cases lf with
  |true=>
   simp only[if_true]at hQ ⊢
   exact hL st x ky Q hk (hD x m) Rc hQ
  |false=>
   simp only[Bool.false_eq_true,if_false]at hQ ⊢
   refine wpS_bind (hL st ky x _ hk Rc (hD x m) ?_)
   exact wpS_pure hQ
 ·obtain⟨x,ex,mx⟩:=gd i (by omega)
  obtain⟨y,ey,my⟩:=gd j hj
  have le:K x<=K y:=by
   rcases Nat.lt_or_ge i j with q|q
   ·have a:=List.pairwise_iff_getElem.mp hs i j (by omega) (by omega) q
    rw[List.getElem?_eq_getElem (by omega)]at ex ey
    rw[<-Option.some.inj ex,<-Option.some.inj ey]
    exact a
   ·have:i=j:=by omega
    subst this
    rw[ex]at ey
    rw[Option.some.inj ey]
    exact Int.le_refl _
  rw[ey]at hb
  rw[ex]
  dsimp only at hb ⊢
  cases lf with
  |true=>
   simp only[if_true,decide_eq_true_eq]at hb ⊢
   omega
  |false=>
   simp only[Bool.false_eq_true,if_false,Bool.not_eq_true',decide_eq_false_iff_not]at hb ⊢
   omega
 ·obtain⟨i,hi,rfl⟩:=List.mem_take_iff_getElem.mp hx
  have hi':i<k:=by omega
  have b:=h1 i hi'
  rw[List.getElem?_eq_getElem (by omega)]at b
  dsimp only at b
  cases lf with
  |true=>simpa using b
  |false=>simpa using b
 ·obtain⟨i,hi,rfl⟩:=List.mem_drop_iff_getElem.mp hx
  have b:=h2 (k+i) (by omega) (by omega)
  rw[List.getElem?_eq_getElem (by omega)]at b
  dsimp only at b
  cases lf with
  |true=>simpa using b
  |false=>simpa using b
end
theorem p5(g:Nat):Nn g=modify λz=>SortSt.mk' (kindOf z) (arrOf z) (pendingOf z) g (failedOf z):=rfl
structure MG(K:Keyed->Int)(tot out ra rb:List Keyed):Prop where
 perm:(out++(ra++rb)).Perm tot
 so:out.Pairwise λx y=>K x<=K y
 sa:ra.Pairwise λx y=>K x<=K y
 sb:rb.Pairwise λx y=>K x<=K y
 oa:∀x∈out,∀y∈ra,K x<=K y
 ob:∀x∈out,∀y∈rb,K x<=K y
theorem MG.vD{K:Keyed->Int}{tot out l ra rb:List Keyed}(h:MG K tot out (l++ra) rb)(hb:∀x∈l,∀y∈rb,K x<=K y):MG K tot (out++l) ra rb:=by
 have sa:=List.pairwise_append.mp h.sa
 refine⟨?_,List.pairwise_append.mpr ⟨h.so,sa.1,λx hx y hy=>h.oa x hx y (List.mem_append_left _ hy)⟩,sa.2.1,h.sb,λx hx y hy=> ?_,λx hx y hy=> ?_⟩
 ·have:=h.perm
  simpa [List.append_assoc]using this
 ·rcases List.mem_append.mp hx with q|q
  ·exact h.oa x q y (List.mem_append_right _ hy)
  ·exact sa.2.2 x q y hy
 ·rcases List.mem_append.mp hx with q|q
  ·exact h.ob x q y hy
  ·exact hb x q y hy
theorem MG.swap{K:Keyed->Int}{tot out ra rb:List Keyed}(h:MG K tot out ra rb):MG K tot out rb ra:=
 ⟨(List.Perm.append_left out List.perm_append_comm).trans h.perm,h.so,h.sb,h.sa,h.ob,h.oa⟩
theorem MG.qZ{K:Keyed->Int}{tot out l ra rb:List Keyed}(h:MG K tot out ra (l++rb))(hb:∀x∈l,∀y∈ra,K x<=K y):MG K tot (out++l) ra rb:=(h.swap.vD hb).swap
theorem MG.gC{K:Keyed->Int}{tot out ra rb:List Keyed}{x:Keyed}(h:MG K tot out (x::ra) rb)(hb:∀y∈rb,K x<=K y):MG K tot (out++ [x]) ra rb:=
 MG.vD (l:=[x]) h λz hz y hy=>by rw[List.mem_singleton.mp hz];exact hb y hy
theorem MG.nE{K:Keyed->Int}{tot out ra rb:List Keyed}{x:Keyed}(h:MG K tot out ra (x::rb))(hb:∀y∈ra,K x<=K y):MG K tot (out++ [x]) ra rb:=(h.swap.gC hb).swap
def Good(K:Keyed->Int)(tot r:List Keyed):Prop:=r.Perm tot/\r.Pairwise λx y=>K x<=K y
theorem MG.fin{K:Keyed->Int}{tot out ra rb r:List Keyed}(h:MG K tot out ra rb)(p:r.Perm (ra++rb))(s:r.Pairwise λx y=>K x<=K y):Good K tot (out++r):=by
 refine⟨(List.Perm.append_left out p).trans h.perm,List.pairwise_append.mpr ⟨h.so,s,λx hx y hy=> ?_⟩⟩
 rcases List.mem_append.mp (p.mem_iff.mp hy)with q|q
 ·exact h.oa x hx y q
 ·exact h.ob x hx y q
theorem dW{K:Keyed->Int}{x:Keyed}{l:List Keyed}(h:(x::l).Pairwise λx y=>K x<=K y):∀y∈x::l,K x<=K y:=λy hy=>by
 rcases List.mem_cons.mp hy with e|hy
 ·rw[e];exact Int.le_refl _
 ·exact(List.pairwise_cons.mp h).1 y hy
theorem La(a b:Array Keyed):PJ a b=(do
 rule "list.sort.merge-lo"
 let tt:=a.size+b.size
 let fin (o:Array Keyed) (i j:Nat):=o++a.extract i a.size++b.extract j b.size
 let fla (o:Array Keyed) (i j:Nat):=o++b.extract j b.size++a.extract i a.size
 let mut o:Array Keyed:= #[<-elem' b 0]
 let mut i:=0
 let mut j:=1
 if j==b.size then return fin o i j
 if i+1==a.size then return fla o i j
 let mut g:=gallopOf (<-get)
 for _ in [0:tt] do
  let mut ca:=0
  let mut cb:=0
  for _ in [0:tt] do
   let some bw<-lt' (<-elem' b j) (<-elem' a i)|return fin o i j
   if bw then
    o:=o.push (<-elem' b j);j:=j+1;cb:=cb+1;ca:=0
    if j==b.size then return fin o i j
    if cb≥g then break
   else
    o:=o.push (<-elem' a i);i:=i+1;ca:=ca+1;cb:=0
    if i+1==a.size then return fla o i j
    if ca≥g then break
  rule "list.sort.gallop"
  g:=g+1
  for _ in [0:tt] do
   if g>1 then g:=g-1
   Nn g
   let some k<-Ig false (<-elem' b j) a i (a.size-i) 0|return fin o i j
   ca:=k
   if k>0 then
    o:=o++a.extract i (i+k);i:=i+k
    if i+1==a.size then return fla o i j
    if i==a.size then return fin o i j
   o:=o.push (<-elem' b j);j:=j+1
   if j==b.size then return fin o i j
   let some k<-Ig true (<-elem' a i) b j (b.size-j) 0|return fin o i j
   cb:=k
   if k>0 then
    o:=o++b.extract j (j+k);j:=j+k
    if j==b.size then return fin o i j
   o:=o.push (<-elem' a i);i:=i+1
   if i+1==a.size then return fla o i j
   if ca<7 && cb<7 then break
  g:=g+1
  Nn g
 @unsupported _ "internal:list.sort.merge-bound"):=rfl
def Sg(st st':SortSt):Prop:=kindOf st'=kindOf st/\arrOf st'=arrOf st/\pendingOf st'=pendingOf st/\failedOf st'=failedOf st
theorem Sg.refl(st:SortSt):Sg st st:=⟨rfl,rfl,rfl,rfl⟩
theorem Sg.set{st st':SortSt}(h:Sg st st')(g:Nat):Sg st (SortSt.mk' (kindOf st') (arrOf st') (pendingOf st') g (failedOf st')):=h
section
variable{prog:Program}{w:World}{A:Around}{E:Value->Shared->Prop}{s:Shared}{κ:SortKind}{K:Keyed->Int}{D:Keyed->Prop}{st:SortSt}
def LI(K:Keyed->Int)(a b o:Array Keyed)(i j:Nat):Prop:=MG K (a.toList++b.toList) o.toList (a.toList.drop i) (b.toList.drop j)/\i+1<a.size/\j<b.size
theorem ie{a:Array Keyed}{i:Nat}(h:i<a.size):∃x,a[i]?=some x/\x∈a.toList/\a.toList.drop i=x::a.toList.drop (i+1):=
 ⟨a[i],getElem?_pos a i h,by simp,by rw[List.drop_eq_getElem_cons (by simpa using h)];simp⟩
theorem gX(a:Array Keyed)(i k:Nat):a.toList.drop i=(a.toList.drop i).take k++a.toList.drop (i+k):=by
 rw[<-List.drop_drop,List.take_append_drop]
theorem Fy{o a b:Array Keyed}{i j:Nat}:(o++a.extract i a.size++b.extract j b.size).toList=o.toList++(a.toList.drop i++b.toList.drop j):=by
 have e1:List.take (a.size-i) (List.drop i a.toList)=List.drop i a.toList:=List.take_of_length_le (by simp)
 have e2:List.take (b.size-j) (List.drop j b.toList)=List.drop j b.toList:=List.take_of_length_le (by simp)
 simp[List.append_assoc,e1,e2]
theorem m5{a:Array Keyed}{i k:Nat}:(a.extract i (i+k)).toList=(a.toList.drop i).take k:=by
 simp[List.take_drop,Nat.add_comm]
theorem LI.fin{a b o:Array Keyed}{i j:Nat}(h:MG K (a.toList++b.toList) o.toList (a.toList.drop i) (b.toList.drop j))(hj:i=a.size∨j=b.size):Good K (a.toList++b.toList) (o++a.extract i a.size++b.extract j b.size).toList:=by
 rw[Fy]
 refine h.fin (.refl _) ?_
 rcases hj with rfl|rfl
 ·rw[List.drop_eq_nil_of_le (by simp),List.nil_append]
  exact h.sb
 ·rw[List.drop_eq_nil_of_le (as:=b.toList) (by simp),List.append_nil]
  exact h.sa
theorem LI.fla{a b o:Array Keyed}{i j:Nat}(h:MG K (a.toList++b.toList) o.toList (a.toList.drop i) (b.toList.drop j))(hj:i+1=a.size)(hl:∀y∈b.toList,∀x∈a.toList.drop (a.size-1),K y<=K x):Good K (a.toList++b.toList) (o++b.extract j b.size++a.extract i a.size).toList:=by
 rw[Fy]
 refine h.fin List.perm_append_comm (List.pairwise_append.mpr ⟨h.sb,h.sa,λy hy x hx=>hl y (List.mem_of_mem_drop hy) x ?_⟩)
 rw[<-hj,Nat.add_sub_cancel]
 exact hx
theorem Nr(hL:pD prog w A E s κ K D){a b:Array Keyed}{Q:Array Keyed->SortSt->Prop}(hk:kindOf st=κ)(ha:0<a.size)(hb:0<b.size)(Da:∀x∈a.toList,D x)(Db:∀x∈b.toList,D x)
  (sa:a.toList.Pairwise λx y=>K x<=K y)(sb:b.toList.Pairwise λx y=>K x<=K y)(h1:∀y∈b.toList.take 1,∀x∈a.toList,K y<=K x)(h2:∀y∈b.toList,∀x∈a.toList.drop (a.size-1),K y<=K x)
  (hq:∀r st',Sg st st'->Good K (a.toList++b.toList) r.toList->Q r st'):wpS (model prog w) A E s (PJ a b) Q st:=by
 rw[La]
 refine wpS_bind (wpS_lift (wpAny_rule ⟨rfl,?_⟩))
 dsimp only
 obtain⟨b0,e0,m0,d0⟩:=ie (a:=b) (i:=0) hb
 refine wpS_bind (aZ e0 ?_)
 have M0:MG K (a.toList++b.toList) (#[b0]:Array Keyed).toList (a.toList.drop 0) (b.toList.drop 1):=by
  refine⟨?_,List.pairwise_singleton _ _,sa,?_,λx hx y hy=> ?_,λx hx y hy=> ?_⟩
  ·show([b0]++(a.toList++b.toList.drop 1)).Perm _
   have e:b.toList=b0::b.toList.drop 1:=d0
   conv=>rhs;rw[e]
   exact(List.perm_middle (l₁:=a.toList) (l₂:=b.toList.drop 1) (a:=b0)).symm
  ·exact List.Pairwise.sublist (List.drop_sublist _ _) sb
  ·rw[List.mem_singleton.mp hx]
   have e:b.toList=b0::b.toList.drop 1:=d0
   exact h1 b0 (by rw[e];simp) y hy
  ·rw[List.mem_singleton.mp hx]
   have e:b.toList=b0::b.toList.drop 1:=d0
   rw[e]at sb
   exact dW sb y (List.mem_cons_of_mem _ hy)
 by_cases c1:(1==b.size)=true
 ·rw[if_pos c1]
  exact wpS_pure (hq _ _ (Sg.refl _) (LI.fin M0 (.inr (by simpa using c1))))
 rw[if_neg c1]
 by_cases c2:(0+1==a.size)=true
 ·rw[if_pos c2]
  exact wpS_pure (hq _ _ (Sg.refl _) (LI.fla M0 (by simpa using c2) h2))
 rw[if_neg c2]
 have n1:b.size≠1:=λe=>c1 (by rw[e];rfl)
 have n2:a.size≠1:=λe=>c2 (by rw[e];rfl)
 refine wpS_bind (wpS_get ?_)
 have L0:LI K a b #[b0] 0 1:=⟨M0,by omega,by omega⟩
 refine wpS_bind (wpS_mono (wpS_forRange (I:=λx c st'=>Sg st st'/\ ∃o i j g,c=(none,o,i,j,g)/\LI K a b o i j/\x<=i+j)
  (Q:=λc st'=>Sg st st'/\ ∃r z,c=(some r,z)/\Good K (a.toList++b.toList) r.toList) ?_ ?_ ⟨Sg.refl _,_,0,1,_,rfl,L0,by omega⟩) ?_)
 ·rintro x c s1 _ hx ⟨S1,o,i,j,g,rfl,I1,p1⟩
  dsimp only
  refine wpS_bind (wpS_mono (wpS_forRange (I:=λy c st'=>Sg st st'/\ ∃o i j ca cb,c=(none,o,i,j,ca,cb)/\LI K a b o i j/\y+x<=i+j)
   (Q:=λc st'=>Sg st st'/\((∃r z,c=(some r,z)/\Good K (a.toList++b.toList) r.toList)∨ ∃o i j ca cb,c=(none,o,i,j,ca,cb)/\LI K a b o i j/\x+1<=i+j)) ?_ ?_ ⟨S1,o,i,j,_,_,rfl,I1,by omega⟩) ?_)
  ·rintro y c s2 _ hy ⟨S2,o,i,j,ca,cb,rfl,⟨I2,l1,l2⟩,p2⟩
   dsimp only
   obtain⟨xb,eb,mb,db⟩:=ie (a:=b) (i:=j) l2
   obtain⟨xa,ea,ma,da⟩:=ie (a:=a) (i:=i) (by omega)
   have sa':=I2.sa
   have sb':=I2.sb
   rw[da]at sa'
   rw[db]at sb'
   refine wpS_bind (aZ eb (wpS_bind (aZ ea (wpS_bind (hL s2 xb xa _ (S2.1.trans hk) (Db _ mb) (Da _ ma) ?_)))))
   dsimp only
   by_cases lt:K xb<K xa
   ·rw[decide_eq_true lt,if_pos rfl]
    have I3:MG K (a.toList++b.toList) (o.push xb).toList (a.toList.drop i) (b.toList.drop (j+1)):=by
     rw[Array.toList_push]
     refine MG.nE (by rw[<-db];exact I2) λz hz=> ?_
     rw[da]at hz
     exact Int.le_trans (Int.le_of_lt lt) (dW sa' z hz)
    refine wpS_bind (aZ eb ?_)
    by_cases c3:(j+1==b.size)=true
    ·rw[if_pos c3]
     exact wpS_pure ⟨S2,.inl ⟨_,_,rfl,LI.fin I3 (.inr (by simpa using c3))⟩⟩
    rw[if_neg c3]
    have n3:j+1≠b.size:=λe=>c3 (by rw[e];simp)
    split
    ·exact wpS_pure ⟨S2,.inr ⟨_,_,_,_,_,rfl,⟨I3,l1,by omega⟩,by omega⟩⟩
    ·exact wpS_pure ⟨S2,_,_,_,_,_,rfl,⟨I3,l1,by omega⟩,by omega⟩
   ·rw[decide_eq_false lt,if_neg (by simp)]
    have I3:MG K (a.toList++b.toList) (o.push xa).toList (a.toList.drop (i+1)) (b.toList.drop j):=by
     rw[Array.toList_push]
     refine MG.gC (by rw[<-da];exact I2) λz hz=> ?_
     rw[db]at hz
     exact Int.le_trans (Int.not_lt.mp lt) (dW sb' z hz)
    refine wpS_bind (aZ ea ?_)
    by_cases c3:(i+1+1==a.size)=true
    ·rw[if_pos c3]
     exact wpS_pure ⟨S2,.inl ⟨_,_,rfl,LI.fla I3 (by simpa using c3) h2⟩⟩
    rw[if_neg c3]
    have n3:i+1+1≠a.size:=λe=>c3 (by rw[e];simp)
    split
    ·exact wpS_pure ⟨S2,.inr ⟨_,_,_,_,_,rfl,⟨I3,by omega,l2⟩,by omega⟩⟩
    ·exact wpS_pure ⟨S2,_,_,_,_,_,rfl,⟨I3,by omega,l2⟩,by omega⟩
  ·rintro c s2 ⟨S2,o,i,j,ca,cb,rfl,⟨I2,l1,l2⟩,p2⟩
   omega
  ·rintro c s2 ⟨S2,⟨r,z,rfl,hr⟩|⟨o,i,j,ca,cb,rfl,I2,p2⟩⟩
   ·exact wpS_pure ⟨S2,r,_,rfl,hr⟩
   dsimp only
   refine wpS_bind (wpS_lift (wpAny_rule ⟨rfl,?_⟩))
   refine wpS_bind (wpS_mono (wpS_forRange (I:=λy c st'=>Sg st st'/\ ∃o i j g ca cb,c=(none,o,i,j,g,ca,cb)/\LI K a b o i j/\y+x+1<=i+j)
    (Q:=λc st'=>Sg st st'/\((∃r z,c=(some r,z)/\Good K (a.toList++b.toList) r.toList)∨ ∃o i j g ca cb,c=(none,o,i,j,g,ca,cb)/\LI K a b o i j/\x+1<=i+j)) ?_ ?_ ⟨S2,o,i,j,_,_,_,rfl,I2,by omega⟩) ?_)
   ·rintro y c s3 _ hy ⟨S3,o,i,j,g,ca,cb,rfl,⟨I2,l1,l2⟩,p2⟩
    dsimp only
    by_cases hg:g>1
    ·rw[if_pos hg]
     rw[p5]
     refine wpS_bind (wpS_modify ?_)
     obtain⟨xb,eb,mb,db⟩:=ie (a:=b) (i:=j) l2
     have sb':=I2.sb
     rw[db]at sb'
     refine wpS_bind (aZ eb (wpS_bind (jB hL ((S3.set _).1.trans hk) (a.toList.drop i) (λz hz=>by simp) (by simp) (λx hx=>Da x (List.mem_of_mem_drop hx)) (Db _ mb) I2.sa (by omega) λk hk1 t1 t2=> ?_)))
     simp only[Bool.false_eq_true,if_false]at t1 t2
     rw[List.drop_drop]at t2
     dsimp only
     have J:MG K (a.toList++b.toList) (o++a.extract i (i+k)).toList (a.toList.drop (i+k)) (b.toList.drop j):=by
      rw[Array.toList_append,m5]
      refine MG.vD (by rw[<-gX];exact I2) λx hx y hy=> ?_
      rw[db]at hy
      exact Int.le_trans (t1 x hx) (dW sb' y hy)
     have tJ:=t2
     by_cases hk0:k>0
     ·rw[if_pos hk0]
      by_cases c3:(i+k+1==a.size)=true
      ·rw[if_pos c3]
       exact wpS_pure ⟨S3.set _,.inl ⟨_,_,rfl,LI.fla J (by simpa using c3) h2⟩⟩
      rw[if_neg c3]
      have n3:i+k+1≠a.size:=λe=>c3 (by rw[e];simp)
      by_cases c4:(i+k==a.size)=true
      ·rw[if_pos c4]
       exact wpS_pure ⟨S3.set _,.inl ⟨_,_,rfl,LI.fin J (.inl (by simpa using c4))⟩⟩
      rw[if_neg c4]
      have n4:i+k≠a.size:=λe=>c4 (by rw[e];simp)
      obtain⟨xa,ea,ma,da⟩:=ie (a:=a) (i:=i+k) (by omega)
      have sa':=J.sa
      rw[da]at sa'
      have I4:MG K (a.toList++b.toList) ((o++a.extract i (i+k)).push xb).toList (a.toList.drop (i+k)) (b.toList.drop (j+1)):=by
       rw[Array.toList_push]
       exact MG.nE (by rw[<-db];exact J) λz hz=>Int.le_of_lt (tJ z hz)
      refine wpS_bind (aZ eb ?_)
      by_cases c5:(j+1==b.size)=true
      ·rw[if_pos c5]
       exact wpS_pure ⟨S3.set _,.inl ⟨_,_,rfl,LI.fin I4 (.inr (by simpa using c5))⟩⟩
      rw[if_neg c5]
      have n5:j+1≠b.size:=λe=>c5 (by rw[e];simp)
      refine wpS_bind (aZ ea (wpS_bind (jB hL ((S3.set _).1.trans hk) (b.toList.drop (j+1)) (λz hz=>by simp) (by simp) (λx hx=>Db x (List.mem_of_mem_drop hx)) (Da _ ma) I4.sb (by omega) λk2 hk2 u1 u2=> ?_)))
      simp only[if_true]at u1 u2
      rw[List.drop_drop]at u2
      dsimp only
      have I5:MG K (a.toList++b.toList) ((o++a.extract i (i+k)).push xb++b.extract (j+1) (j+1+k2)).toList (a.toList.drop (i+k)) (b.toList.drop (j+1+k2)):=by
       rw[Array.toList_append,m5]
       refine MG.qZ (by rw[<-gX];exact I4) λx hx y hy=> ?_
       rw[da]at hy
       exact Int.le_trans (Int.le_of_lt (u1 x hx)) (dW sa' y hy)
      by_cases hk2:k2>0
      ·rw[if_pos hk2]
       by_cases c6:(j+1+k2==b.size)=true
       ·rw[if_pos c6]
        exact wpS_pure ⟨S3.set _,.inl ⟨_,_,rfl,LI.fin I5 (.inr (by simpa using c6))⟩⟩
       rw[if_neg c6]
       have n6:j+1+k2≠b.size:=λe=>c6 (by rw[e];simp)
       have I6:MG K (a.toList++b.toList) (((o++a.extract i (i+k)).push xb++b.extract (j+1) (j+1+k2)).push xa).toList (a.toList.drop (i+k+1)) (b.toList.drop (j+1+k2)):=by
        rw[Array.toList_push]
        exact MG.gC (by rw[<-da];exact I5) u2
       refine wpS_bind (aZ ea ?_)
       by_cases c7:(i+k+1+1==a.size)=true
       ·rw[if_pos c7]
        exact wpS_pure ⟨S3.set _,.inl ⟨_,_,rfl,LI.fla I6 (by simpa using c7) h2⟩⟩
       rw[if_neg c7]
       have n7:i+k+1+1≠a.size:=λe=>c7 (by rw[e];simp)
       split
       ·exact wpS_pure ⟨S3.set _,.inr ⟨_,_,_,_,_,_,rfl,⟨I6,by omega,by omega⟩,by omega⟩⟩
       ·exact wpS_pure ⟨S3.set _,_,_,_,_,_,_,rfl,⟨I6,by omega,by omega⟩,by omega⟩
      ·rw[if_neg hk2]
       have z2:k2=0:=by omega
       subst z2
       have I6:MG K (a.toList++b.toList) (((o++a.extract i (i+k)).push xb).push xa).toList (a.toList.drop (i+k+1)) (b.toList.drop (j+1)):=by
        rw[Array.toList_push]
        exact MG.gC (by rw[<-da];exact I4) u2
       refine wpS_bind (aZ ea ?_)
       by_cases c7:(i+k+1+1==a.size)=true
       ·rw[if_pos c7]
        exact wpS_pure ⟨S3.set _,.inl ⟨_,_,rfl,LI.fla I6 (by simpa using c7) h2⟩⟩
       rw[if_neg c7]
       have n7:i+k+1+1≠a.size:=λe=>c7 (by rw[e];simp)
       split
       ·exact wpS_pure ⟨S3.set _,.inr ⟨_,_,_,_,_,_,rfl,⟨I6,by omega,by omega⟩,by omega⟩⟩
       ·exact wpS_pure ⟨S3.set _,_,_,_,_,_,_,rfl,⟨I6,by omega,by omega⟩,by omega⟩
     ·rw[if_neg hk0]
      have z0:k=0:=by omega
      subst z0
      replace J:=I2
      obtain⟨xa,ea,ma,da⟩:=ie (a:=a) (i:=i) (by omega)
      have sa':=J.sa
      rw[da]at sa'
      have I4:MG K (a.toList++b.toList) (o.push xb).toList (a.toList.drop (i)) (b.toList.drop (j+1)):=by
       rw[Array.toList_push]
       exact MG.nE (by rw[<-db];exact J) λz hz=>Int.le_of_lt (tJ z hz)
      refine wpS_bind (aZ eb ?_)
      by_cases c5:(j+1==b.size)=true
      ·rw[if_pos c5]
       exact wpS_pure ⟨S3.set _,.inl ⟨_,_,rfl,LI.fin I4 (.inr (by simpa using c5))⟩⟩
      rw[if_neg c5]
      have n5:j+1≠b.size:=λe=>c5 (by rw[e];simp)
      refine wpS_bind (aZ ea (wpS_bind (jB hL ((S3.set _).1.trans hk) (b.toList.drop (j+1)) (λz hz=>by simp) (by simp) (λx hx=>Db x (List.mem_of_mem_drop hx)) (Da _ ma) I4.sb (by omega) λk2 hk2 u1 u2=> ?_)))
      simp only[if_true]at u1 u2
      rw[List.drop_drop]at u2
      dsimp only
      have I5:MG K (a.toList++b.toList) (o.push xb++b.extract (j+1) (j+1+k2)).toList (a.toList.drop (i)) (b.toList.drop (j+1+k2)):=by
       rw[Array.toList_append,m5]
       refine MG.qZ (by rw[<-gX];exact I4) λx hx y hy=> ?_
       rw[da]at hy
       exact Int.le_trans (Int.le_of_lt (u1 x hx)) (dW sa' y hy)
      by_cases hk2:k2>0
      ·rw[if_pos hk2]
       by_cases c6:(j+1+k2==b.size)=true
       ·rw[if_pos c6]
        exact wpS_pure ⟨S3.set _,.inl ⟨_,_,rfl,LI.fin I5 (.inr (by simpa using c6))⟩⟩
       rw[if_neg c6]
       have n6:j+1+k2≠b.size:=λe=>c6 (by rw[e];simp)
       have I6:MG K (a.toList++b.toList) ((o.push xb++b.extract (j+1) (j+1+k2)).push xa).toList (a.toList.drop (i+1)) (b.toList.drop (j+1+k2)):=by
        rw[Array.toList_push]
        exact MG.gC (by rw[<-da];exact I5) u2
       refine wpS_bind (aZ ea ?_)
       by_cases c7:(i+1+1==a.size)=true
       ·rw[if_pos c7]
        exact wpS_pure ⟨S3.set _,.inl ⟨_,_,rfl,LI.fla I6 (by simpa using c7) h2⟩⟩
       rw[if_neg c7]
       have n7:i+1+1≠a.size:=λe=>c7 (by rw[e];simp)
       split
       ·exact wpS_pure ⟨S3.set _,.inr ⟨_,_,_,_,_,_,rfl,⟨I6,by omega,by omega⟩,by omega⟩⟩
       ·exact wpS_pure ⟨S3.set _,_,_,_,_,_,_,rfl,⟨I6,by omega,by omega⟩,by omega⟩
      ·rw[if_neg hk2]
       have z2:k2=0:=by omega
       subst z2
       have I6:MG K (a.toList++b.toList) ((o.push xb).push xa).toList (a.toList.drop (i+1)) (b.toList.drop (j+1)):=by
        rw[Array.toList_push]
        exact MG.gC (by rw[<-da];exact I4) u2
       refine wpS_bind (aZ ea ?_)
       by_cases c7:(i+1+1==a.size)=true
       ·rw[if_pos c7]
        exact wpS_pure ⟨S3.set _,.inl ⟨_,_,rfl,LI.fla I6 (by simpa using c7) h2⟩⟩
       rw[if_neg c7]
       have n7:i+1+1≠a.size:=λe=>c7 (by rw[e];simp)
       split
       ·exact wpS_pure ⟨S3.set _,.inr ⟨_,_,_,_,_,_,rfl,⟨I6,by omega,by omega⟩,by omega⟩⟩
       ·exact wpS_pure ⟨S3.set _,_,_,_,_,_,_,rfl,⟨I6,by omega,by omega⟩,by omega⟩
    ·rw[if_neg hg]
     rw[p5]
     refine wpS_bind (wpS_modify ?_)
     obtain⟨xb,eb,mb,db⟩:=ie (a:=b) (i:=j) l2
     have sb':=I2.sb
     rw[db]at sb'
     refine wpS_bind (aZ eb (wpS_bind (jB hL ((S3.set _).1.trans hk) (a.toList.drop i) (λz hz=>by simp) (by simp) (λx hx=>Da x (List.mem_of_mem_drop hx)) (Db _ mb) I2.sa (by omega) λk hk1 t1 t2=> ?_)))
     simp only[Bool.false_eq_true,if_false]at t1 t2
     rw[List.drop_drop]at t2
     dsimp only
     have J:MG K (a.toList++b.toList) (o++a.extract i (i+k)).toList (a.toList.drop (i+k)) (b.toList.drop j):=by
      rw[Array.toList_append,m5]
      refine MG.vD (by rw[<-gX];exact I2) λx hx y hy=> ?_
      rw[db]at hy
      exact Int.le_trans (t1 x hx) (dW sb' y hy)
     have tJ:=t2
     by_cases hk0:k>0
     ·rw[if_pos hk0]
      by_cases c3:(i+k+1==a.size)=true
      ·rw[if_pos c3]
       exact wpS_pure ⟨S3.set _,.inl ⟨_,_,rfl,LI.fla J (by simpa using c3) h2⟩⟩
      rw[if_neg c3]
      have n3:i+k+1≠a.size:=λe=>c3 (by rw[e];simp)
      by_cases c4:(i+k==a.size)=true
      ·rw[if_pos c4]
       exact wpS_pure ⟨S3.set _,.inl ⟨_,_,rfl,LI.fin J (.inl (by simpa using c4))⟩⟩
      rw[if_neg c4]
      have n4:i+k≠a.size:=λe=>c4 (by rw[e];simp)
      obtain⟨xa,ea,ma,da⟩:=ie (a:=a) (i:=i+k) (by omega)
      have sa':=J.sa
      rw[da]at sa'
      have I4:MG K (a.toList++b.toList) ((o++a.extract i (i+k)).push xb).toList (a.toList.drop (i+k)) (b.toList.drop (j+1)):=by
       rw[Array.toList_push]
       exact MG.nE (by rw[<-db];exact J) λz hz=>Int.le_of_lt (tJ z hz)
      refine wpS_bind (aZ eb ?_)
      by_cases c5:(j+1==b.size)=true
      ·rw[if_pos c5]
       exact wpS_pure ⟨S3.set _,.inl ⟨_,_,rfl,LI.fin I4 (.inr (by simpa using c5))⟩⟩
      rw[if_neg c5]
      have n5:j+1≠b.size:=λe=>c5 (by rw[e];simp)
      refine wpS_bind (aZ ea (wpS_bind (jB hL ((S3.set _).1.trans hk) (b.toList.drop (j+1)) (λz hz=>by simp) (by simp) (λx hx=>Db x (List.mem_of_mem_drop hx)) (Da _ ma) I4.sb (by omega) λk2 hk2 u1 u2=> ?_)))
      simp only[if_true]at u1 u2
      rw[List.drop_drop]at u2
      dsimp only
      have I5:MG K (a.toList++b.toList) ((o++a.extract i (i+k)).push xb++b.extract (j+1) (j+1+k2)).toList (a.toList.drop (i+k)) (b.toList.drop (j+1+k2)):=by
       rw[Array.toList_append,m5]
       refine MG.qZ (by rw[<-gX];exact I4) λx hx y hy=> ?_
       rw[da]at hy
       exact Int.le_trans (Int.le_of_lt (u1 x hx)) (dW sa' y hy)
      by_cases hk2:k2>0
      ·rw[if_pos hk2]
       by_cases c6:(j+1+k2==b.size)=true
       ·rw[if_pos c6]
        exact wpS_pure ⟨S3.set _,.inl ⟨_,_,rfl,LI.fin I5 (.inr (by simpa using c6))⟩⟩
       rw[if_neg c6]
       have n6:j+1+k2≠b.size:=λe=>c6 (by rw[e];simp)
       have I6:MG K (a.toList++b.toList) (((o++a.extract i (i+k)).push xb++b.extract (j+1) (j+1+k2)).push xa).toList (a.toList.drop (i+k+1)) (b.toList.drop (j+1+k2)):=by
        rw[Array.toList_push]
        exact MG.gC (by rw[<-da];exact I5) u2
       refine wpS_bind (aZ ea ?_)
       by_cases c7:(i+k+1+1==a.size)=true
       ·rw[if_pos c7]
        exact wpS_pure ⟨S3.set _,.inl ⟨_,_,rfl,LI.fla I6 (by simpa using c7) h2⟩⟩
       rw[if_neg c7]
       have n7:i+k+1+1≠a.size:=λe=>c7 (by rw[e];simp)
       split
       ·exact wpS_pure ⟨S3.set _,.inr ⟨_,_,_,_,_,_,rfl,⟨I6,by omega,by omega⟩,by omega⟩⟩
       ·exact wpS_pure ⟨S3.set _,_,_,_,_,_,_,rfl,⟨I6,by omega,by omega⟩,by omega⟩
      ·rw[if_neg hk2]
       have z2:k2=0:=by omega
       subst z2
       have I6:MG K (a.toList++b.toList) (((o++a.extract i (i+k)).push xb).push xa).toList (a.toList.drop (i+k+1)) (b.toList.drop (j+1)):=by
        rw[Array.toList_push]
        exact MG.gC (by rw[<-da];exact I4) u2
       refine wpS_bind (aZ ea ?_)
       by_cases c7:(i+k+1+1==a.size)=true
       ·rw[if_pos c7]
        exact wpS_pure ⟨S3.set _,.inl ⟨_,_,rfl,LI.fla I6 (by simpa using c7) h2⟩⟩
       rw[if_neg c7]
       have n7:i+k+1+1≠a.size:=λe=>c7 (by rw[e];simp)
       split
       ·exact wpS_pure ⟨S3.set _,.inr ⟨_,_,_,_,_,_,rfl,⟨I6,by omega,by omega⟩,by omega⟩⟩
       ·exact wpS_pure ⟨S3.set _,_,_,_,_,_,_,rfl,⟨I6,by omega,by omega⟩,by omega⟩
     ·rw[if_neg hk0]
      have z0:k=0:=by omega
      subst z0
      replace J:=I2
      obtain⟨xa,ea,ma,da⟩:=ie (a:=a) (i:=i) (by omega)
      have sa':=J.sa
      rw[da]at sa'
      have I4:MG K (a.toList++b.toList) (o.push xb).toList (a.toList.drop (i)) (b.toList.drop (j+1)):=by
       rw[Array.toList_push]
       exact MG.nE (by rw[<-db];exact J) λz hz=>Int.le_of_lt (tJ z hz)
      refine wpS_bind (aZ eb ?_)
      by_cases c5:(j+1==b.size)=true
      ·rw[if_pos c5]
       exact wpS_pure ⟨S3.set _,.inl ⟨_,_,rfl,LI.fin I4 (.inr (by simpa using c5))⟩⟩
      rw[if_neg c5]
      have n5:j+1≠b.size:=λe=>c5 (by rw[e];simp)
      refine wpS_bind (aZ ea (wpS_bind (jB hL ((S3.set _).1.trans hk) (b.toList.drop (j+1)) (λz hz=>by simp) (by simp) (λx hx=>Db x (List.mem_of_mem_drop hx)) (Da _ ma) I4.sb (by omega) λk2 hk2 u1 u2=> ?_)))
      simp only[if_true]at u1 u2
      rw[List.drop_drop]at u2
      dsimp only
      have I5:MG K (a.toList++b.toList) (o.push xb++b.extract (j+1) (j+1+k2)).toList (a.toList.drop (i)) (b.toList.drop (j+1+k2)):=by
       rw[Array.toList_append,m5]
       refine MG.qZ (by rw[<-gX];exact I4) λx hx y hy=> ?_
       rw[da]at hy
       exact Int.le_trans (Int.le_of_lt (u1 x hx)) (dW sa' y hy)
      by_cases hk2:k2>0
      ·rw[if_pos hk2]
       by_cases c6:(j+1+k2==b.size)=true
       ·rw[if_pos c6]
        exact wpS_pure ⟨S3.set _,.inl ⟨_,_,rfl,LI.fin I5 (.inr (by simpa using c6))⟩⟩
       rw[if_neg c6]
       have n6:j+1+k2≠b.size:=λe=>c6 (by rw[e];simp)
       have I6:MG K (a.toList++b.toList) ((o.push xb++b.extract (j+1) (j+1+k2)).push xa).toList (a.toList.drop (i+1)) (b.toList.drop (j+1+k2)):=by
        rw[Array.toList_push]
        exact MG.gC (by rw[<-da];exact I5) u2
       refine wpS_bind (aZ ea ?_)
       by_cases c7:(i+1+1==a.size)=true
       ·rw[if_pos c7]
        exact wpS_pure ⟨S3.set _,.inl ⟨_,_,rfl,LI.fla I6 (by simpa using c7) h2⟩⟩
       rw[if_neg c7]
       have n7:i+1+1≠a.size:=λe=>c7 (by rw[e];simp)
       split
       ·exact wpS_pure ⟨S3.set _,.inr ⟨_,_,_,_,_,_,rfl,⟨I6,by omega,by omega⟩,by omega⟩⟩
       ·exact wpS_pure ⟨S3.set _,_,_,_,_,_,_,rfl,⟨I6,by omega,by omega⟩,by omega⟩
      ·rw[if_neg hk2]
       have z2:k2=0:=by omega
       subst z2
       have I6:MG K (a.toList++b.toList) ((o.push xb).push xa).toList (a.toList.drop (i+1)) (b.toList.drop (j+1)):=by
        rw[Array.toList_push]
        exact MG.gC (by rw[<-da];exact I4) u2
       refine wpS_bind (aZ ea ?_)
       by_cases c7:(i+1+1==a.size)=true
       ·rw[if_pos c7]
        exact wpS_pure ⟨S3.set _,.inl ⟨_,_,rfl,LI.fla I6 (by simpa using c7) h2⟩⟩
       rw[if_neg c7]
       have n7:i+1+1≠a.size:=λe=>c7 (by rw[e];simp)
       split
       ·exact wpS_pure ⟨S3.set _,.inr ⟨_,_,_,_,_,_,rfl,⟨I6,by omega,by omega⟩,by omega⟩⟩
       ·exact wpS_pure ⟨S3.set _,_,_,_,_,_,_,rfl,⟨I6,by omega,by omega⟩,by omega⟩
   ·rintro c s3 ⟨S3,o,i,j,g,ca,cb,rfl,⟨I2,l1,l2⟩,p2⟩
    omega
   ·rintro c s3 ⟨S3,⟨r,z,rfl,hr⟩|⟨o,i,j,g,ca,cb,rfl,I2,p2⟩⟩
    ·exact wpS_pure ⟨S3,r,_,rfl,hr⟩
    dsimp only
    rw[p5]
    exact wpS_bind (wpS_modify (wpS_pure ⟨S3.set _,_,_,_,_,rfl,I2,by omega⟩))
 ·rintro c s1 ⟨S1,o,i,j,g,rfl,⟨I1,l1,l2⟩,p1⟩
  omega
 ·rintro c s1 ⟨S1,r,z,rfl,hr⟩
  exact wpS_pure (hq r s1 S1 hr)
end
theorem Lb(a b:Array Keyed):PK a b=(do
 rule "list.sort.merge-hi"
 let tt:=a.size+b.size
 let fin (o:Array Keyed) (i j:Nat):=a.extract 0 i++b.extract 0 j++o.reverse
 let Ai (o:Array Keyed) (i j:Nat):=b.extract 0 j++a.extract 0 i++o.reverse
 let mut i:=a.size-1
 let mut j:=b.size
 let mut o:Array Keyed:= #[<-elem' a i]
 if i==0 then return fin o i j
 if j==1 then return Ai o i j
 let mut g:=gallopOf (<-get)
 for _ in [0:tt] do
  let mut ca:=0
  let mut cb:=0
  for _ in [0:tt] do
   let some aw<-lt' (<-elem' b (j-1)) (<-elem' a (i-1))|return fin o i j
   if aw then
    i:=i-1;o:=o.push (<-elem' a i);ca:=ca+1;cb:=0
    if i==0 then return fin o i j
    if ca≥g then break
   else
    j:=j-1;o:=o.push (<-elem' b j);cb:=cb+1;ca:=0
    if j==1 then return Ai o i j
    if cb≥g then break
  rule "list.sort.gallop"
  g:=g+1
  for _ in [0:tt] do
   if g>1 then g:=g-1
   Nn g
   let some at_<-Ig false (<-elem' b (j-1)) a 0 i (i-1)|return fin o i j
   let k:=i-at_
   ca:=k
   if k>0 then
    o:=o++(a.extract at_ i).reverse;i:=at_
    if i==0 then return fin o i j
   j:=j-1;o:=o.push (<-elem' b j)
   if j==1 then return Ai o i j
   let some at_<-Ig true (<-elem' a (i-1)) b 0 j (j-1)|return fin o i j
   let k:=j-at_
   cb:=k
   if k>0 then
    o:=o++(b.extract at_ j).reverse;j:=at_
    if j==1 then return Ai o i j
    if j==0 then return fin o i j
   i:=i-1;o:=o.push (<-elem' a i)
   if i==0 then return fin o i j
   if ca<7 && cb<7 then break
  g:=g+1
  Nn g
 @unsupported _ "internal:list.sort.merge-bound"):=rfl
section
variable{prog:Program}{w:World}{A:Around}{E:Value->Shared->Prop}{s:Shared}{κ:SortKind}{K:Keyed->Int}{D:Keyed->Prop}{st:SortSt}
abbrev rv (a:Array Keyed) (i:Nat):List Keyed:=(a.toList.take i).reverse
abbrev MH (K:Keyed->Int) (a b o:Array Keyed) (i j:Nat):Prop:=MG (λx=> -(K x)) (a.toList++b.toList) o.toList (rv a i) (rv b j)
theorem pF{a:Array Keyed}{i:Nat}(h0:0<i)(h:i<=a.size):∃x,a[i-1]?=some x/\x∈a.toList/\rv a i=x::rv a (i-1):=by
 have h1:i-1<a.toList.length:=by simp;omega
 refine⟨a[i-1]'(by omega),getElem?_pos a (i-1) (by omega),by simp,?_⟩
 have e:a.toList.take i=a.toList.take (i-1)++ [a[i-1]'(by omega)]:=by
  have:=List.take_add_one (l:=a.toList) (i:=i-1)
  rw[show i-1+1=i by omega]at this
  rw[this,List.getElem?_eq_getElem h1]
  simp
 show(a.toList.take i).reverse=_
 rw[e,List.reverse_append]
 rfl
theorem j9(a:Array Keyed){i k:Nat}(h:k<=i):rv a i=((a.toList.take i).drop k).reverse++rv a k:=by
 show(a.toList.take i).reverse=_++(a.toList.take k).reverse
 rw[<-List.reverse_append]
 congr 1
 conv=>lhs;rw[<-List.take_append_drop k (a.toList.take i)]
 rw[List.take_take,Nat.min_eq_left h]
theorem p6{a:Array Keyed}{i k:Nat}:(a.extract k i).reverse.toList=((a.toList.take i).drop k).reverse:=by
 simp[List.drop_take]
theorem yC{K:Keyed->Int}{l:List Keyed}(h:l.Pairwise λx y=>K x<=K y):l.reverse.Pairwise λx y=> -(K x)<= -(K y):=
 List.pairwise_reverse.mpr (h.imp λq=>Int.neg_le_neg q)
theorem Fz{K:Keyed->Int}{l:List Keyed}(h:l.Pairwise λx y=> -(K x)<= -(K y)):l.reverse.Pairwise λx y=>K x<=K y:=
 List.pairwise_reverse.mpr (h.imp λq=>by omega)
theorem Good.rev{K:Keyed->Int}{tot l:List Keyed}(h:Good (λx=> -(K x)) tot l):Good K tot l.reverse:=⟨(List.reverse_perm _).trans h.1,Fz h.2⟩
theorem Nt{K:Keyed->Int}{a:Array Keyed}{i:Nat}(h:a.toList.Pairwise λx y=>K x<=K y):(rv a i).Pairwise λx y=> -(K x)<= -(K y):=yC (List.Pairwise.sublist (List.take_sublist _ _) h)
theorem MH.fin{a b o:Array Keyed}{i j:Nat}(h:MH K a b o i j)(hj:i=0∨j=0):Good K (a.toList++b.toList) (a.extract 0 i++b.extract 0 j++o.reverse).toList:=by
 have e:(a.extract 0 i++b.extract 0 j++o.reverse).toList=(o.toList++(rv b j++rv a i)).reverse:=by
  simp[rv,List.reverse_append,List.append_assoc]
 rw[e]
 refine(MG.fin h List.perm_append_comm ?_).rev
 rcases hj with rfl|rfl
 ·rw[show rv a 0=[]from rfl,List.append_nil]
  exact h.sb
 ·rw[show rv b 0=[]from rfl,List.nil_append]
  exact h.sa
theorem MH.Ai{a b o:Array Keyed}{i j:Nat}(h:MH K a b o i j)(hj:j=1)(hl:∀y∈b.toList.take 1,∀x∈a.toList,K y<=K x):Good K (a.toList++b.toList) (b.extract 0 j++a.extract 0 i++o.reverse).toList:=by
 have e:(b.extract 0 j++a.extract 0 i++o.reverse).toList=(o.toList++(rv a i++rv b j)).reverse:=by
  simp[rv,List.reverse_append,List.append_assoc]
 rw[e]
 refine(MG.fin h (.refl _) (List.pairwise_append.mpr ⟨h.sa,h.sb,λx hx y hy=> ?_⟩)).rev
 subst hj
 have:=hl y (List.mem_reverse.mp hy) x (List.mem_of_mem_take (List.mem_reverse.mp hx))
 show-(K x)<= -(K y)
 omega
theorem Nu(hL:pD prog w A E s κ K D){a b:Array Keyed}{Q:Array Keyed->SortSt->Prop}(hk:kindOf st=κ)(ha:0<a.size)(hb:0<b.size)(Da:∀x∈a.toList,D x)(Db:∀x∈b.toList,D x)
  (sa:a.toList.Pairwise λx y=>K x<=K y)(sb:b.toList.Pairwise λx y=>K x<=K y)(h1:∀y∈b.toList.take 1,∀x∈a.toList,K y<=K x)(h2:∀y∈b.toList,∀x∈a.toList.drop (a.size-1),K y<=K x)
  (hq:∀r st',Sg st st'->Good K (a.toList++b.toList) r.toList->Q r st'):wpS (model prog w) A E s (PK a b) Q st:=by
 rw[Lb]
 refine wpS_bind (wpS_lift (wpAny_rule ⟨rfl,?_⟩))
 dsimp only
 obtain⟨a0,e0,m0,d0⟩:=pF (a:=a) (i:=a.size) ha (Nat.le_refl _)
 refine wpS_bind (aZ e0 ?_)
 have M0:MH K a b #[a0] (a.size-1) b.size:=by
  have ea:a.toList.reverse=a0::rv a (a.size-1):=by
   rw[<-d0]
   show _=(a.toList.take a.size).reverse
   rw[List.take_of_length_le (by simp)]
  have eb:rv b b.size=b.toList.reverse:=by
   show(b.toList.take b.size).reverse=_
   rw[List.take_of_length_le (by simp)]
  have sa':=yC sa
  rw[ea]at sa'
  refine⟨?_,List.pairwise_singleton _ _,(List.pairwise_cons.mp sa').2,Nt sb,λx hx y hy=> ?_,λx hx y hy=> ?_⟩
  ·show([a0]++(rv a (a.size-1)++rv b b.size)).Perm _
   rw[List.singleton_append,<-List.cons_append,<-ea,eb]
   exact List.Perm.append (List.reverse_perm _) (List.reverse_perm _)
  ·rw[List.mem_singleton.mp hx]
   exact(List.pairwise_cons.mp sa').1 y hy
  ·rw[List.mem_singleton.mp hx]
   have:K y<=K a0:=by
    refine h2 y (by rw[eb]at hy;exact List.mem_reverse.mp hy) a0 ?_
    obtain⟨x,e1,e2,e3⟩:=ie (a:=a) (i:=a.size-1) (by omega)
    rw[e0]at e1
    rw[e3,<-Option.some.inj e1]
    exact List.mem_cons_self
   show-(K a0)<= -(K y)
   omega
 by_cases c1:(a.size-1==0)=true
 ·rw[if_pos c1]
  exact wpS_pure (hq _ _ (Sg.refl _) (M0.fin (.inl (by simpa using c1))))
 rw[if_neg c1]
 by_cases c2:(b.size==1)=true
 ·rw[if_pos c2]
  exact wpS_pure (hq _ _ (Sg.refl _) (M0.Ai (by simpa using c2) h1))
 rw[if_neg c2]
 have n1:a.size-1≠0:=λe=>c1 (by rw[e];rfl)
 have n2:b.size≠1:=λe=>c2 (by rw[e];rfl)
 refine wpS_bind (wpS_get ?_)
 refine wpS_bind (wpS_mono (wpS_forRange (I:=λx c st'=>Sg st st'/\ ∃i j o g,c=(none,i,j,o,g)/\(MH K a b o i j/\0<i/\i<=a.size/\1<j/\j<=b.size)/\x+i+j<=a.size+b.size)
  (Q:=λc st'=>Sg st st'/\ ∃r z,c=(some r,z)/\Good K (a.toList++b.toList) r.toList) ?_ ?_ ⟨Sg.refl _,_,_,_,_,rfl,⟨M0,by omega,by omega,by omega,by omega⟩,by omega⟩) ?_)
 ·rintro x c s1 _ hx ⟨S1,i,j,o,g,rfl,I1,p1⟩
  dsimp only
  refine wpS_bind (wpS_mono (wpS_forRange (I:=λy c st'=>Sg st st'/\ ∃i j o ca cb,c=(none,i,j,o,ca,cb)/\(MH K a b o i j/\0<i/\i<=a.size/\1<j/\j<=b.size)/\y+x+i+j<=a.size+b.size)
   (Q:=λc st'=>Sg st st'/\((∃r z,c=(some r,z)/\Good K (a.toList++b.toList) r.toList)∨ ∃i j o ca cb,c=(none,i,j,o,ca,cb)/\(MH K a b o i j/\0<i/\i<=a.size/\1<j/\j<=b.size)/\x+1+i+j<=a.size+b.size)) ?_ ?_ ⟨S1,i,j,o,_,_,rfl,I1,by omega⟩) ?_)
  ·rintro y c s2 _ hy ⟨S2,i,j,o,ca,cb,rfl,⟨I2,l1,l2,l3,l4⟩,p2⟩
   dsimp only
   obtain⟨xb,eb,mb,db⟩:=pF (a:=b) (i:=j) (by omega) l4
   obtain⟨xa,ea,ma,da⟩:=pF (a:=a) (i:=i) l1 l2
   have sa':=I2.sa
   have sb':=I2.sb
   rw[da]at sa'
   rw[db]at sb'
   refine wpS_bind (aZ eb (wpS_bind (aZ ea (wpS_bind (hL s2 xb xa _ (S2.1.trans hk) (Db _ mb) (Da _ ma) ?_)))))
   dsimp only
   by_cases lt:K xb<K xa
   ·rw[decide_eq_true lt,if_pos rfl]
    have I3:MH K a b (o.push xa) (i-1) j:=by
     show MG _ _ (o.push xa).toList _ _
     rw[Array.toList_push]
     refine MG.gC (by rw[<-da];exact I2) λz hz=> ?_
     rw[db]at hz
     exact Int.le_trans (by show-(K xa)<= -(K xb);omega) (dW sb' z hz)
    refine wpS_bind (aZ ea ?_)
    by_cases c3:(i-1==0)=true
    ·rw[if_pos c3]
     exact wpS_pure ⟨S2,.inl ⟨_,_,rfl,I3.fin (.inl (by simpa using c3))⟩⟩
    rw[if_neg c3]
    have n3:i-1≠0:=λe=>c3 (by rw[e];rfl)
    split
    ·exact wpS_pure ⟨S2,.inr ⟨_,_,_,_,_,rfl,⟨I3,by omega,by omega,by omega,by omega⟩,by omega⟩⟩
    ·exact wpS_pure ⟨S2,_,_,_,_,_,rfl,⟨I3,by omega,by omega,by omega,by omega⟩,by omega⟩
   ·rw[decide_eq_false lt,if_neg (by simp)]
    have I3:MH K a b (o.push xb) i (j-1):=by
     show MG _ _ (o.push xb).toList _ _
     rw[Array.toList_push]
     refine MG.nE (by rw[<-db];exact I2) λz hz=> ?_
     rw[da]at hz
     exact Int.le_trans (by show-(K xb)<= -(K xa);omega) (dW sa' z hz)
    refine wpS_bind (aZ eb ?_)
    by_cases c3:(j-1==1)=true
    ·rw[if_pos c3]
     exact wpS_pure ⟨S2,.inl ⟨_,_,rfl,I3.Ai (by simpa using c3) h1⟩⟩
    rw[if_neg c3]
    have n3:j-1≠1:=λe=>c3 (by rw[e];rfl)
    split
    ·exact wpS_pure ⟨S2,.inr ⟨_,_,_,_,_,rfl,⟨I3,by omega,by omega,by omega,by omega⟩,by omega⟩⟩
    ·exact wpS_pure ⟨S2,_,_,_,_,_,rfl,⟨I3,by omega,by omega,by omega,by omega⟩,by omega⟩
  ·rintro c s2 ⟨S2,i,j,o,ca,cb,rfl,⟨I2,l1,l2,l3,l4⟩,p2⟩
   omega
  ·rintro c s2 ⟨S2,⟨r,z,rfl,hr⟩|⟨i,j,o,ca,cb,rfl,I2,p2⟩⟩
   ·exact wpS_pure ⟨S2,r,_,rfl,hr⟩
   dsimp only
   refine wpS_bind (wpS_lift (wpAny_rule ⟨rfl,?_⟩))
   refine wpS_bind (wpS_mono (wpS_forRange (I:=λy c st'=>Sg st st'/\ ∃i j o g ca cb,c=(none,i,j,o,g,ca,cb)/\(MH K a b o i j/\0<i/\i<=a.size/\1<j/\j<=b.size)/\y+x+1+i+j<=a.size+b.size)
    (Q:=λc st'=>Sg st st'/\((∃r z,c=(some r,z)/\Good K (a.toList++b.toList) r.toList)∨ ∃i j o g ca cb,c=(none,i,j,o,g,ca,cb)/\(MH K a b o i j/\0<i/\i<=a.size/\1<j/\j<=b.size)/\x+1+i+j<=a.size+b.size)) ?_ ?_ ⟨S2,_,_,_,_,_,_,rfl,I2,by omega⟩) ?_)
   ·rintro y c s3 _ hy ⟨S3,i,j,o,g,ca,cb,rfl,⟨I2,l1,l2,l3,l4⟩,p2⟩
    dsimp only
    by_cases hg:g>1
    ·rw[if_pos hg]
     rw[p5]
     refine wpS_bind (wpS_modify ?_)
     obtain⟨xb,eb,mb,db⟩:=pF (a:=b) (i:=j) (by omega) l4
     have sb':=I2.sb
     rw[db]at sb'
     refine wpS_bind (aZ eb (wpS_bind (jB hL ((S3.set _).1.trans hk) (a.toList.take i) (λz hz=>by rw[Nat.zero_add,List.getElem?_take_of_lt hz];simp) (by simp;omega) (λx hx=>Da x (List.mem_of_mem_take hx)) (Db _ mb) (List.Pairwise.sublist (List.take_sublist _ _) sa) (by omega) λk hk1 t1 t2=> ?_)))
     simp only[Bool.false_eq_true,if_false]at t1 t2
     rw[List.take_take,Nat.min_eq_left hk1]at t1
     dsimp only
     have J:MH K a b (o++(a.extract k i).reverse) k j:=by
      show MG _ _ (o++(a.extract k i).reverse).toList _ _
      rw[Array.toList_append,p6]
      refine MG.vD (by rw[<-j9 a hk1];exact I2) λx hx y hy=> ?_
      rw[db]at hy
      have:=t2 x (List.mem_reverse.mp hx)
      exact Int.le_trans (by show-(K x)<= -(K xb);omega) (dW sb' y hy)
     have tJ:=t1
     by_cases hk0:i-k>0
     ·rw[if_pos hk0]
      by_cases c4:(k==0)=true
      ·rw[if_pos c4]
       exact wpS_pure ⟨S3.set _,.inl ⟨_,_,rfl,J.fin (.inl (by simpa using c4))⟩⟩
      rw[if_neg c4]
      have n4:k≠0:=λe=>c4 (by rw[e];rfl)
      obtain⟨xa,ea,ma,da⟩:=pF (a:=a) (i:=k) (by omega) (by omega)
      have sa':=J.sa
      rw[da]at sa'
      have I4:MH K a b ((o++(a.extract k i).reverse).push xb) (k) (j-1):=by
       show MG _ _ ((o++(a.extract k i).reverse).push xb).toList _ _
       rw[Array.toList_push]
       refine MG.nE (by rw[<-db];exact J) λz hz=> ?_
       have:=tJ z (List.mem_reverse.mp hz)
       show-(K xb)<= -(K z)
       omega
      refine wpS_bind (aZ eb ?_)
      by_cases c5:(j-1==1)=true
      ·rw[if_pos c5]
       exact wpS_pure ⟨S3.set _,.inl ⟨_,_,rfl,I4.Ai (by simpa using c5) h1⟩⟩
      rw[if_neg c5]
      have n5:j-1≠1:=λe=>c5 (by rw[e];rfl)
      refine wpS_bind (aZ ea (wpS_bind (jB hL ((S3.set _).1.trans hk) (b.toList.take (j-1)) (λz hz=>by rw[Nat.zero_add,List.getElem?_take_of_lt hz];simp) (by simp;omega) (λx hx=>Db x (List.mem_of_mem_take hx)) (Da _ ma) (List.Pairwise.sublist (List.take_sublist _ _) sb) (by omega) λk2 hk2 u1 u2=> ?_)))
      simp only[if_true]at u1 u2
      rw[List.take_take,Nat.min_eq_left hk2]at u1
      dsimp only
      have I5:MH K a b ((o++(a.extract k i).reverse).push xb++(b.extract k2 (j-1)).reverse) (k) k2:=by
       show MG _ _ ((o++(a.extract k i).reverse).push xb++(b.extract k2 (j-1)).reverse).toList _ _
       rw[Array.toList_append,p6]
       refine MG.qZ (by rw[<-j9 b hk2];exact I4) λx hx y hy=> ?_
       rw[da]at hy
       have:=u2 x (List.mem_reverse.mp hx)
       exact Int.le_trans (by show-(K x)<= -(K xa);omega) (dW sa' y hy)
      have lZ:∀y∈rv b k2,-(K xa)<= -(K y):=λy hy=>by
       have:=u1 y (List.mem_reverse.mp hy)
       omega
      by_cases sU:j-1-k2>0
      ·rw[if_pos sU]
       by_cases c6:(k2==1)=true
       ·rw[if_pos c6]
        exact wpS_pure ⟨S3.set _,.inl ⟨_,_,rfl,I5.Ai (by simpa using c6) h1⟩⟩
       rw[if_neg c6]
       have n6:k2≠1:=λe=>c6 (by rw[e];rfl)
       by_cases c8:(k2==0)=true
       ·rw[if_pos c8]
        exact wpS_pure ⟨S3.set _,.inl ⟨_,_,rfl,I5.fin (.inr (by simpa using c8))⟩⟩
       rw[if_neg c8]
       have n8:k2≠0:=λe=>c8 (by rw[e];rfl)
       have I6:MH K a b (((o++(a.extract k i).reverse).push xb++(b.extract k2 (j-1)).reverse).push xa) (k-1) k2:=by
        show MG _ _ (((o++(a.extract k i).reverse).push xb++(b.extract k2 (j-1)).reverse).push xa).toList _ _
        rw[Array.toList_push]
        exact MG.gC (by rw[<-da];exact I5) lZ
       refine wpS_bind (aZ ea ?_)
       by_cases c7:(k-1==0)=true
       ·rw[if_pos c7]
        exact wpS_pure ⟨S3.set _,.inl ⟨_,_,rfl,I6.fin (.inl (by simpa using c7))⟩⟩
       rw[if_neg c7]
       have n7:k-1≠0:=λe=>c7 (by rw[e];rfl)
       split
       ·exact wpS_pure ⟨S3.set _,.inr ⟨_,_,_,_,_,_,rfl,⟨I6,by omega,by omega,by omega,by omega⟩,by omega⟩⟩
       ·exact wpS_pure ⟨S3.set _,_,_,_,_,_,_,rfl,⟨I6,by omega,by omega,by omega,by omega⟩,by omega⟩
      ·rw[if_neg sU]
       have z2:k2=j-1:=by omega
       subst z2
       have I6:MH K a b (((o++(a.extract k i).reverse).push xb).push xa) (k-1) (j-1):=by
        show MG _ _ (((o++(a.extract k i).reverse).push xb).push xa).toList _ _
        rw[Array.toList_push]
        exact MG.gC (by rw[<-da];exact I4) lZ
       refine wpS_bind (aZ ea ?_)
       by_cases c7:(k-1==0)=true
       ·rw[if_pos c7]
        exact wpS_pure ⟨S3.set _,.inl ⟨_,_,rfl,I6.fin (.inl (by simpa using c7))⟩⟩
       rw[if_neg c7]
       have n7:k-1≠0:=λe=>c7 (by rw[e];rfl)
       split
       ·exact wpS_pure ⟨S3.set _,.inr ⟨_,_,_,_,_,_,rfl,⟨I6,by omega,by omega,by omega,by omega⟩,by omega⟩⟩
       ·exact wpS_pure ⟨S3.set _,_,_,_,_,_,_,rfl,⟨I6,by omega,by omega,by omega,by omega⟩,by omega⟩
     ·rw[if_neg hk0]
      have z0:k=i:=by omega
      subst z0
      replace J:=I2
      obtain⟨xa,ea,ma,da⟩:=pF (a:=a) (i:=k) (by omega) (by omega)
      have sa':=J.sa
      rw[da]at sa'
      have I4:MH K a b (o.push xb) (k) (j-1):=by
       show MG _ _ (o.push xb).toList _ _
       rw[Array.toList_push]
       refine MG.nE (by rw[<-db];exact J) λz hz=> ?_
       have:=tJ z (List.mem_reverse.mp hz)
       show-(K xb)<= -(K z)
       omega
      refine wpS_bind (aZ eb ?_)
      by_cases c5:(j-1==1)=true
      ·rw[if_pos c5]
       exact wpS_pure ⟨S3.set _,.inl ⟨_,_,rfl,I4.Ai (by simpa using c5) h1⟩⟩
      rw[if_neg c5]
      have n5:j-1≠1:=λe=>c5 (by rw[e];rfl)
      refine wpS_bind (aZ ea (wpS_bind (jB hL ((S3.set _).1.trans hk) (b.toList.take (j-1)) (λz hz=>by rw[Nat.zero_add,List.getElem?_take_of_lt hz];simp) (by simp;omega) (λx hx=>Db x (List.mem_of_mem_take hx)) (Da _ ma) (List.Pairwise.sublist (List.take_sublist _ _) sb) (by omega) λk2 hk2 u1 u2=> ?_)))
      simp only[if_true]at u1 u2
      rw[List.take_take,Nat.min_eq_left hk2]at u1
      dsimp only
      have I5:MH K a b (o.push xb++(b.extract k2 (j-1)).reverse) (k) k2:=by
       show MG _ _ (o.push xb++(b.extract k2 (j-1)).reverse).toList _ _
       rw[Array.toList_append,p6]
       refine MG.qZ (by rw[<-j9 b hk2];exact I4) λx hx y hy=> ?_
       rw[da]at hy
       have:=u2 x (List.mem_reverse.mp hx)
       exact Int.le_trans (by show-(K x)<= -(K xa);omega) (dW sa' y hy)
      have lZ:∀y∈rv b k2,-(K xa)<= -(K y):=λy hy=>by
       have:=u1 y (List.mem_reverse.mp hy)
       omega
      by_cases sU:j-1-k2>0
      ·rw[if_pos sU]
       by_cases c6:(k2==1)=true
       ·rw[if_pos c6]
        exact wpS_pure ⟨S3.set _,.inl ⟨_,_,rfl,I5.Ai (by simpa using c6) h1⟩⟩
       rw[if_neg c6]
       have n6:k2≠1:=λe=>c6 (by rw[e];rfl)
       by_cases c8:(k2==0)=true
       ·rw[if_pos c8]
        exact wpS_pure ⟨S3.set _,.inl ⟨_,_,rfl,I5.fin (.inr (by simpa using c8))⟩⟩
       rw[if_neg c8]
       have n8:k2≠0:=λe=>c8 (by rw[e];rfl)
       have I6:MH K a b ((o.push xb++(b.extract k2 (j-1)).reverse).push xa) (k-1) k2:=by
        show MG _ _ ((o.push xb++(b.extract k2 (j-1)).reverse).push xa).toList _ _
        rw[Array.toList_push]
        exact MG.gC (by rw[<-da];exact I5) lZ
       refine wpS_bind (aZ ea ?_)
       by_cases c7:(k-1==0)=true
       ·rw[if_pos c7]
        exact wpS_pure ⟨S3.set _,.inl ⟨_,_,rfl,I6.fin (.inl (by simpa using c7))⟩⟩
       rw[if_neg c7]
       have n7:k-1≠0:=λe=>c7 (by rw[e];rfl)
       split
       ·exact wpS_pure ⟨S3.set _,.inr ⟨_,_,_,_,_,_,rfl,⟨I6,by omega,by omega,by omega,by omega⟩,by omega⟩⟩
       ·exact wpS_pure ⟨S3.set _,_,_,_,_,_,_,rfl,⟨I6,by omega,by omega,by omega,by omega⟩,by omega⟩
      ·rw[if_neg sU]
       have z2:k2=j-1:=by omega
       subst z2
       have I6:MH K a b ((o.push xb).push xa) (k-1) (j-1):=by
        show MG _ _ ((o.push xb).push xa).toList _ _
        rw[Array.toList_push]
        exact MG.gC (by rw[<-da];exact I4) lZ
       refine wpS_bind (aZ ea ?_)
       by_cases c7:(k-1==0)=true
       ·rw[if_pos c7]
        exact wpS_pure ⟨S3.set _,.inl ⟨_,_,rfl,I6.fin (.inl (by simpa using c7))⟩⟩
       rw[if_neg c7]
       have n7:k-1≠0:=λe=>c7 (by rw[e];rfl)
       split
       ·exact wpS_pure ⟨S3.set _,.inr ⟨_,_,_,_,_,_,rfl,⟨I6,by omega,by omega,by omega,by omega⟩,by omega⟩⟩
       ·exact wpS_pure ⟨S3.set _,_,_,_,_,_,_,rfl,⟨I6,by omega,by omega,by omega,by omega⟩,by omega⟩
    ·rw[if_neg hg]
     rw[p5]
     refine wpS_bind (wpS_modify ?_)
     obtain⟨xb,eb,mb,db⟩:=pF (a:=b) (i:=j) (by omega) l4
     have sb':=I2.sb
     rw[db]at sb'
     refine wpS_bind (aZ eb (wpS_bind (jB hL ((S3.set _).1.trans hk) (a.toList.take i) (λz hz=>by rw[Nat.zero_add,List.getElem?_take_of_lt hz];simp) (by simp;omega) (λx hx=>Da x (List.mem_of_mem_take hx)) (Db _ mb) (List.Pairwise.sublist (List.take_sublist _ _) sa) (by omega) λk hk1 t1 t2=> ?_)))
     simp only[Bool.false_eq_true,if_false]at t1 t2
     rw[List.take_take,Nat.min_eq_left hk1]at t1
     dsimp only
     have J:MH K a b (o++(a.extract k i).reverse) k j:=by
      show MG _ _ (o++(a.extract k i).reverse).toList _ _
      rw[Array.toList_append,p6]
      refine MG.vD (by rw[<-j9 a hk1];exact I2) λx hx y hy=> ?_
      rw[db]at hy
      have:=t2 x (List.mem_reverse.mp hx)
      exact Int.le_trans (by show-(K x)<= -(K xb);omega) (dW sb' y hy)
     have tJ:=t1
     by_cases hk0:i-k>0
     ·rw[if_pos hk0]
      by_cases c4:(k==0)=true
      ·rw[if_pos c4]
       exact wpS_pure ⟨S3.set _,.inl ⟨_,_,rfl,J.fin (.inl (by simpa using c4))⟩⟩
      rw[if_neg c4]
      have n4:k≠0:=λe=>c4 (by rw[e];rfl)
      obtain⟨xa,ea,ma,da⟩:=pF (a:=a) (i:=k) (by omega) (by omega)
      have sa':=J.sa
      rw[da]at sa'
      have I4:MH K a b ((o++(a.extract k i).reverse).push xb) (k) (j-1):=by
       show MG _ _ ((o++(a.extract k i).reverse).push xb).toList _ _
       rw[Array.toList_push]
       refine MG.nE (by rw[<-db];exact J) λz hz=> ?_
       have:=tJ z (List.mem_reverse.mp hz)
       show-(K xb)<= -(K z)
       omega
      refine wpS_bind (aZ eb ?_)
      by_cases c5:(j-1==1)=true
      ·rw[if_pos c5]
       exact wpS_pure ⟨S3.set _,.inl ⟨_,_,rfl,I4.Ai (by simpa using c5) h1⟩⟩
      rw[if_neg c5]
      have n5:j-1≠1:=λe=>c5 (by rw[e];rfl)
      refine wpS_bind (aZ ea (wpS_bind (jB hL ((S3.set _).1.trans hk) (b.toList.take (j-1)) (λz hz=>by rw[Nat.zero_add,List.getElem?_take_of_lt hz];simp) (by simp;omega) (λx hx=>Db x (List.mem_of_mem_take hx)) (Da _ ma) (List.Pairwise.sublist (List.take_sublist _ _) sb) (by omega) λk2 hk2 u1 u2=> ?_)))
      simp only[if_true]at u1 u2
      rw[List.take_take,Nat.min_eq_left hk2]at u1
      dsimp only
      have I5:MH K a b ((o++(a.extract k i).reverse).push xb++(b.extract k2 (j-1)).reverse) (k) k2:=by
       show MG _ _ ((o++(a.extract k i).reverse).push xb++(b.extract k2 (j-1)).reverse).toList _ _
       rw[Array.toList_append,p6]
       refine MG.qZ (by rw[<-j9 b hk2];exact I4) λx hx y hy=> ?_
       rw[da]at hy
       have:=u2 x (List.mem_reverse.mp hx)
       exact Int.le_trans (by show-(K x)<= -(K xa);omega) (dW sa' y hy)
      have lZ:∀y∈rv b k2,-(K xa)<= -(K y):=λy hy=>by
       have:=u1 y (List.mem_reverse.mp hy)
       omega
      by_cases sU:j-1-k2>0
      ·rw[if_pos sU]
       by_cases c6:(k2==1)=true
       ·rw[if_pos c6]
        exact wpS_pure ⟨S3.set _,.inl ⟨_,_,rfl,I5.Ai (by simpa using c6) h1⟩⟩
       rw[if_neg c6]
       have n6:k2≠1:=λe=>c6 (by rw[e];rfl)
       by_cases c8:(k2==0)=true
       ·rw[if_pos c8]
        exact wpS_pure ⟨S3.set _,.inl ⟨_,_,rfl,I5.fin (.inr (by simpa using c8))⟩⟩
       rw[if_neg c8]
       have n8:k2≠0:=λe=>c8 (by rw[e];rfl)
       have I6:MH K a b (((o++(a.extract k i).reverse).push xb++(b.extract k2 (j-1)).reverse).push xa) (k-1) k2:=by
        show MG _ _ (((o++(a.extract k i).reverse).push xb++(b.extract k2 (j-1)).reverse).push xa).toList _ _
        rw[Array.toList_push]
        exact MG.gC (by rw[<-da];exact I5) lZ
       refine wpS_bind (aZ ea ?_)
       by_cases c7:(k-1==0)=true
       ·rw[if_pos c7]
        exact wpS_pure ⟨S3.set _,.inl ⟨_,_,rfl,I6.fin (.inl (by simpa using c7))⟩⟩
       rw[if_neg c7]
       have n7:k-1≠0:=λe=>c7 (by rw[e];rfl)
       split
       ·exact wpS_pure ⟨S3.set _,.inr ⟨_,_,_,_,_,_,rfl,⟨I6,by omega,by omega,by omega,by omega⟩,by omega⟩⟩
       ·exact wpS_pure ⟨S3.set _,_,_,_,_,_,_,rfl,⟨I6,by omega,by omega,by omega,by omega⟩,by omega⟩
      ·rw[if_neg sU]
       have z2:k2=j-1:=by omega
       subst z2
       have I6:MH K a b (((o++(a.extract k i).reverse).push xb).push xa) (k-1) (j-1):=by
        show MG _ _ (((o++(a.extract k i).reverse).push xb).push xa).toList _ _
        rw[Array.toList_push]
        exact MG.gC (by rw[<-da];exact I4) lZ
       refine wpS_bind (aZ ea ?_)
       by_cases c7:(k-1==0)=true
       ·rw[if_pos c7]
        exact wpS_pure ⟨S3.set _,.inl ⟨_,_,rfl,I6.fin (.inl (by simpa using c7))⟩⟩
       rw[if_neg c7]
       have n7:k-1≠0:=λe=>c7 (by rw[e];rfl)
       split
       ·exact wpS_pure ⟨S3.set _,.inr ⟨_,_,_,_,_,_,rfl,⟨I6,by omega,by omega,by omega,by omega⟩,by omega⟩⟩
       ·exact wpS_pure ⟨S3.set _,_,_,_,_,_,_,rfl,⟨I6,by omega,by omega,by omega,by omega⟩,by omega⟩
     ·rw[if_neg hk0]
      have z0:k=i:=by omega
      subst z0
      replace J:=I2
      obtain⟨xa,ea,ma,da⟩:=pF (a:=a) (i:=k) (by omega) (by omega)
      have sa':=J.sa
      rw[da]at sa'
      have I4:MH K a b (o.push xb) (k) (j-1):=by
       show MG _ _ (o.push xb).toList _ _
       rw[Array.toList_push]
       refine MG.nE (by rw[<-db];exact J) λz hz=> ?_
       have:=tJ z (List.mem_reverse.mp hz)
       show-(K xb)<= -(K z)
       omega
      refine wpS_bind (aZ eb ?_)
      by_cases c5:(j-1==1)=true
      ·rw[if_pos c5]
       exact wpS_pure ⟨S3.set _,.inl ⟨_,_,rfl,I4.Ai (by simpa using c5) h1⟩⟩
      rw[if_neg c5]
      have n5:j-1≠1:=λe=>c5 (by rw[e];rfl)
      refine wpS_bind (aZ ea (wpS_bind (jB hL ((S3.set _).1.trans hk) (b.toList.take (j-1)) (λz hz=>by rw[Nat.zero_add,List.getElem?_take_of_lt hz];simp) (by simp;omega) (λx hx=>Db x (List.mem_of_mem_take hx)) (Da _ ma) (List.Pairwise.sublist (List.take_sublist _ _) sb) (by omega) λk2 hk2 u1 u2=> ?_)))
      simp only[if_true]at u1 u2
      rw[List.take_take,Nat.min_eq_left hk2]at u1
      dsimp only
      have I5:MH K a b (o.push xb++(b.extract k2 (j-1)).reverse) (k) k2:=by
       show MG _ _ (o.push xb++(b.extract k2 (j-1)).reverse).toList _ _
       rw[Array.toList_append,p6]
       refine MG.qZ (by rw[<-j9 b hk2];exact I4) λx hx y hy=> ?_
       rw[da]at hy
       have:=u2 x (List.mem_reverse.mp hx)
       exact Int.le_trans (by show-(K x)<= -(K xa);omega) (dW sa' y hy)
      have lZ:∀y∈rv b k2,-(K xa)<= -(K y):=λy hy=>by
       have:=u1 y (List.mem_reverse.mp hy)
       omega
      by_cases sU:j-1-k2>0
      ·rw[if_pos sU]
       by_cases c6:(k2==1)=true
       ·rw[if_pos c6]
        exact wpS_pure ⟨S3.set _,.inl ⟨_,_,rfl,I5.Ai (by simpa using c6) h1⟩⟩
       rw[if_neg c6]
       have n6:k2≠1:=λe=>c6 (by rw[e];rfl)
       by_cases c8:(k2==0)=true
       ·rw[if_pos c8]
        exact wpS_pure ⟨S3.set _,.inl ⟨_,_,rfl,I5.fin (.inr (by simpa using c8))⟩⟩
       rw[if_neg c8]
       have n8:k2≠0:=λe=>c8 (by rw[e];rfl)
       have I6:MH K a b ((o.push xb++(b.extract k2 (j-1)).reverse).push xa) (k-1) k2:=by
        show MG _ _ ((o.push xb++(b.extract k2 (j-1)).reverse).push xa).toList _ _
        rw[Array.toList_push]
        exact MG.gC (by rw[<-da];exact I5) lZ
       refine wpS_bind (aZ ea ?_)
       by_cases c7:(k-1==0)=true
       ·rw[if_pos c7]
        exact wpS_pure ⟨S3.set _,.inl ⟨_,_,rfl,I6.fin (.inl (by simpa using c7))⟩⟩
       rw[if_neg c7]
       have n7:k-1≠0:=λe=>c7 (by rw[e];rfl)
       split
       ·exact wpS_pure ⟨S3.set _,.inr ⟨_,_,_,_,_,_,rfl,⟨I6,by omega,by omega,by omega,by omega⟩,by omega⟩⟩
       ·exact wpS_pure ⟨S3.set _,_,_,_,_,_,_,rfl,⟨I6,by omega,by omega,by omega,by omega⟩,by omega⟩
      ·rw[if_neg sU]
       have z2:k2=j-1:=by omega
       subst z2
       have I6:MH K a b ((o.push xb).push xa) (k-1) (j-1):=by
        show MG _ _ ((o.push xb).push xa).toList _ _
        rw[Array.toList_push]
        exact MG.gC (by rw[<-da];exact I4) lZ
       refine wpS_bind (aZ ea ?_)
       by_cases c7:(k-1==0)=true
       ·rw[if_pos c7]
        exact wpS_pure ⟨S3.set _,.inl ⟨_,_,rfl,I6.fin (.inl (by simpa using c7))⟩⟩
       rw[if_neg c7]
       have n7:k-1≠0:=λe=>c7 (by rw[e];rfl)
       split
       ·exact wpS_pure ⟨S3.set _,.inr ⟨_,_,_,_,_,_,rfl,⟨I6,by omega,by omega,by omega,by omega⟩,by omega⟩⟩
       ·exact wpS_pure ⟨S3.set _,_,_,_,_,_,_,rfl,⟨I6,by omega,by omega,by omega,by omega⟩,by omega⟩
   ·rintro c s3 ⟨S3,i,j,o,g,ca,cb,rfl,⟨I2,l1,l2,l3,l4⟩,p2⟩
    omega
   ·rintro c s3 ⟨S3,⟨r,z,rfl,hr⟩|⟨i,j,o,g,ca,cb,rfl,I2,p2⟩⟩
    ·exact wpS_pure ⟨S3,r,_,rfl,hr⟩
    dsimp only
    rw[p5]
    exact wpS_bind (wpS_modify (wpS_pure ⟨S3.set _,_,_,_,_,rfl,I2,by omega⟩))
 ·rintro c s1 ⟨S1,i,j,o,g,rfl,⟨I1,l1,l2,l3,l4⟩,p1⟩
  omega
 ·rintro c s1 ⟨S1,r,z,rfl,hr⟩
  exact wpS_pure (hq r s1 S1 hr)
end
def kA(K:Keyed->Int)(xs:Array Keyed)(i:Nat):Int:=match xs[i]? with
 |some p=>K p
 |none=>0
theorem jj{K:Keyed->Int}{xs ys:Array Keyed}{i j:Nat}(h:xs[i]?=ys[j]?):kA K xs i=kA K ys j:=by unfold kA;rw[h]
def So(K:Keyed->Int)(xs:Array Keyed)(lo n:Nat):Prop:=∀i j,i<=j->j<n->kA K xs (lo+i)<=kA K xs (lo+j)
def Si(K:Keyed->Int)(xs:Array Keyed)(lo n:Nat):Prop:=∀i j,i<=j->j<n->kA K xs (lo+j)<=kA K xs (lo+i)
theorem p7{K:Keyed->Int}{xs:Array Keyed}{i j:Nat}(hj:j<=xs.size)(k:Nat):
  kA K (mirror xs i j ((j-i)/2)) k=if i<=k/\k<j then kA K xs (i+j-1-k)else kA K xs k:=by
 have e:=getElem?_mirror_all (i:=i) hj k
 by_cases h1:i<=k/\k<j
 ·rw[if_pos h1]at e ⊢;exact jj e
 ·rw[if_neg h1]at e ⊢;exact jj e
theorem wQ{K:Keyed->Int}{xs:Array Keyed}{i j:Nat}(hj:j<=xs.size)(heq:∀k,i<=k->k<j->kA K xs k=kA K xs (j-1))(k:Nat):kA K (mirror xs i j ((j-i)/2)) k=kA K xs k:=by
 rw[p7 hj]
 split
 ·rw[heq _ (by omega) (by omega),heq k (by omega) (by omega)]
 ·rfl
theorem De{K:Keyed->Int}{xs:Array Keyed}{src d:Nat}(hs:src<xs.size)(hd:d<=src)(k:Nat):
  kA K (bubble xs src d) k=if k=src-d then kA K xs src else if src-d<k/\k<=src then kA K xs (k-1)else kA K xs k:=by
 have e:=getElem?_bubble hs d hd k
 by_cases h1:k=src-d
 ·rw[if_pos h1]at e ⊢;exact jj e
 ·rw[if_neg h1]at e ⊢
  by_cases h2:src-d<k/\k<=src
  ·rw[if_pos h2]at e ⊢;exact jj e
  ·rw[if_neg h2]at e ⊢;exact jj e
structure SC(lo:Nat)(s0 st:SortSt):Prop where
 perm:(arrOf st).Perm (arrOf s0)
 kind:kindOf st=kindOf s0
 failed:failedOf st=failedOf s0
 pend:pendingOf st=pendingOf s0
 low:∀i,i<lo->(arrOf st)[i]?=(arrOf s0)[i]?
theorem SC.refl(lo:Nat)(st:SortSt):SC lo st st:=⟨Array.Perm.refl _,rfl,rfl,rfl,λ_ _=>rfl⟩
theorem SC.trans{lo:Nat}{a b c:SortSt}(x:SC lo a b)(y:SC lo b c):SC lo a c:=⟨y.perm.trans x.perm,y.kind.trans x.kind,y.failed.trans x.failed,y.pend.trans x.pend,λi h=>(y.low i h).trans (x.low i h)⟩
theorem SC.size{lo:Nat}{a b:SortSt}(x:SC lo a b):(arrOf b).size=(arrOf a).size:=x.perm.size_eq
theorem SC.mirror{lo:Nat}{s0 st:SortSt}(x:SC lo s0 st){i j:Nat}(hi:lo<=i)(hj:j<=(arrOf st).size):SC lo s0 (setArr st (mirror (arrOf st) i j ((j-i)/2))):=
 x.trans ⟨mirror_perm _ _ _ _,rfl,rfl,rfl,λk hk=>by
  show(PyProof.Rows.mirror (arrOf st) i j ((j-i)/2))[k]?=_
  rw[getElem?_mirror_all hj,if_neg (by omega)]⟩
theorem SC.bubble{lo:Nat}{s0 st:SortSt}(x:SC lo s0 st){src d:Nat}(hs:src<(arrOf st).size)(hd:lo+d<=src):SC lo s0 (setArr st (bubble (arrOf st) src d)):=
 x.trans ⟨bubble_perm _ _ _,rfl,rfl,rfl,λk hk=>by
  show(PyProof.Rows.bubble (arrOf st) src d)[k]?=_
  rw[getElem?_bubble hs d (by omega),if_neg (by omega),if_neg (by omega)]⟩
structure SB(κ:SortKind)(D:Keyed->Prop)(st:SortSt):Prop where
 kind:kindOf st=κ
 failed:failedOf st=none
 all:∀x∈(arrOf st).toList,D x
theorem SB.sc{κ:SortKind}{D:Keyed->Prop}{lo:Nat}{s0 st:SortSt}(b:SB κ D s0)(x:SC lo s0 st):SB κ D st:=
 ⟨x.kind.trans b.kind,x.failed.trans b.failed,λy hy=>b.all y ((Array.perm_iff_toList_perm.mp x.perm).mem_iff.mp hy)⟩
section
variable{prog:Program}{w:World}{A:Around}{E:Value->Shared->Prop}{s:Shared}{κ:SortKind}{K:Keyed->Int}{D:Keyed->Prop}{st:SortSt}
theorem p8(hL:pD prog w A E s κ K D){i j:Nat}{Q:Option Bool->SortSt->Prop}(hB:SB κ D st)(hi:i<(arrOf st).size)(hj:j<(arrOf st).size)
  (h:Q (some (decide (kA K (arrOf st) i<kA K (arrOf st) j))) st):wpS (model prog w) A E s (ltAt' i j) Q st:=by
 rw[ltAt'_eq]
 refine wpS_bind (wpS_get ?_)
 show wpS _ _ _ _ (do let x<-elem' (arrOf st) i;let y<-elem' (arrOf st) j;lt' x y) Q st
 have e1:(arrOf st)[i]?=some (arrOf st)[i]:=getElem?_pos _ i hi
 have e2:(arrOf st)[j]?=some (arrOf st)[j]:=getElem?_pos _ j hj
 refine wpS_bind (aZ e1 (wpS_bind (aZ e2 ?_)))
 refine hL st _ _ _ hB.kind (hB.all _ (by simp)) (hB.all _ (by simp)) ?_
 unfold kA at h
 rw[e1,e2]at h
 exact h
theorem w_rev{M:Model}{i j:Nat}{Q:Unit->SortSt->Prop}(h:Q ⟨⟩ (setArr st (mirror (arrOf st) i j ((j-i)/2)))):wpS M A E s (reverseSlice' i j) Q st:=by
 rw[reverseSlice'_eq]
 exact wpS_modify h
theorem w_count(hL:pD prog w A E s κ K D){lo nrem:Nat}{Q:Option Nat->SortSt->Prop}(hB:SB κ D st)(h1:1<=nrem)(hz:lo+nrem<=(arrOf st).size)
  (hq:∀n st',SC lo st st'->1<=n->n<=nrem->So K (arrOf st') lo n->Q (some n) st'):wpS (model prog w) A E s (countRun' lo nrem) Q st:=by
 rw[countRun'_eq]
 refine wpS_bind (wpS_mono (wpS_forRange (I:=λx c st'=>st'=st/\c=(none,x)/\So K (arrOf st) lo x)
  (Q:=λc st'=>st'=st/\ ∃n,c=(none,n)/\1<=n/\n<=nrem/\So K (arrOf st) lo n/\(n=nrem∨kA K (arrOf st) (lo+n)<kA K (arrOf st) (lo+n-1))) ?_ ?_ ⟨rfl,rfl,λi j hij hj=> ?_⟩) ?_)
 ·rintro x c st' ha hx ⟨rfl,rfl,hs⟩
  dsimp only
  refine wpS_bind (p8 hL hB (by omega) (by omega) ?_)
  dsimp only
  by_cases lt:kA K (arrOf st') (lo+x)<kA K (arrOf st') (lo+x-1)
  ·rw[decide_eq_true lt,if_pos rfl]
   exact wpS_pure ⟨rfl,x,rfl,ha,by omega,hs,.inr lt⟩
  ·rw[decide_eq_false lt,if_neg (by simp)]
   refine wpS_pure ⟨rfl,rfl,λi j hij hj=> ?_⟩
   by_cases c:j=x
   ·subst c
    by_cases c2:i=j
    ·subst c2;exact Int.le_refl _
    ·have:=hs i (j-1) (by omega) (by omega)
     rw[show lo+(j-1)=lo+j-1 by omega]at this
     omega
   ·exact hs i j hij (by omega)
 ·rintro c st' ⟨rfl,rfl,hs⟩
  rw[Nat.max_eq_right h1]at hs ⊢
  exact⟨rfl,nrem,rfl,h1,Nat.le_refl _,hs,.inl rfl⟩
 ·have:i=j:=by omega
  subst this
  exact Int.le_refl _
 rintro c st' ⟨rfl,n,rfl,n1,n2,hs,hend⟩
 dsimp only
 by_cases c1:(n==nrem)=true
 ·rw[if_pos c1]
  exact wpS_pure (hq n st' (.refl _ _) n1 n2 hs)
 rw[if_neg c1]
 have nn:n<nrem:=by
  have:n≠nrem:=λe=>c1 (by rw[e];simp)
  omega
 have hlt:kA K (arrOf st') (lo+n)<kA K (arrOf st') (lo+n-1):=hend.resolve_left (by omega)
 have part:∀s1:SortSt,SC lo st' s1->(∀k,kA K (arrOf s1) k=kA K (arrOf st') k) ->Si K (arrOf st') lo (n+1) -> ∀F:StateT SortSt Sem (Option Nat),F=(do
   rule "list.sort.descending-run"
   let mut n:=n
   n:=n+1
   let mut q:=0
   for _ in [n:nrem] do
    let some m<-ltAt' (lo+n) (lo+n-1)|return none
    if m then
     if q>0 then reverseSlice' (lo+n- (q+1)) (lo+n)
     q:=0
    else
     let some g<-ltAt' (lo+n-1) (lo+n)|return none
     if g then break
     q:=q+1
    n:=n+1
   if q>0 then reverseSlice' (lo+n- (q+1)) (lo+n)
   reverseSlice' lo (lo+n)
   for _ in [n:nrem] do
    let some m<-ltAt' (lo+n) (lo+n-1)|return none
    if m then break
    n:=n+1
   return some n) ->wpS (model prog w) A E s F Q s1:=by
  intro s1 S1 hk1 hd F hF
  subst hF
  refine wpS_bind (wpS_lift (wpAny_rule ⟨rfl,?_⟩))
  dsimp only
  have rest:∀(s2:SortSt) (m:Nat),SC lo st' s2->n+1<=m->m<=nrem->Si K (arrOf s2) lo m-> ∀F:StateT SortSt Sem (Option Nat),F=(do
    reverseSlice' lo (lo+m)
    let mut n:=m
    for _ in [n:nrem] do
     let some m<-ltAt' (lo+n) (lo+n-1)|return none
     if m then break
     n:=n+1
    return some n) ->wpS (model prog w) A E s F Q s2:=by
   intro s2 m S2 m1 m2 hd2 F hF
   subst hF
   have z2:=S2.size
   refine wpS_bind (w_rev ?_)
   have S3:=S2.mirror (i:=lo) (j:=lo+m) (Nat.le_refl _) (by omega)
   have Rf:So K (arrOf (setArr s2 (mirror (arrOf s2) lo (lo+m) ((lo+m-lo)/2)))) lo m:=by
    intro i j hij hj
    show kA K (mirror (arrOf s2) lo (lo+m) ((lo+m-lo)/2)) (lo+i)<=kA K (mirror (arrOf s2) lo (lo+m) ((lo+m-lo)/2)) (lo+j)
    rw[p7 (by omega),p7 (by omega),if_pos (by omega),if_pos (by omega)]
    have:=hd2 (m-1-j) (m-1-i) (by omega) (by omega)
    rw[show lo+(m-1-i)=lo+(lo+m) -1- (lo+i)by omega,show lo+(m-1-j)=lo+(lo+m) -1- (lo+j)by omega]at this
    exact this
   generalize setArr s2 (mirror (arrOf s2) lo (lo+m) ((lo+m-lo)/2))=s3 at S3 Rf ⊢
   have z3:=S3.size
   have Te:=hB.sc S3
   refine wpS_bind (wpS_mono (wpS_forRange (I:=λx c st''=>st''=s3/\c=(none,x)/\So K (arrOf s3) lo x)
    (Q:=λc st''=>st''=s3/\ ∃n,c=(none,n)/\1<=n/\n<=nrem/\So K (arrOf s3) lo n) ?_ ?_ ⟨rfl,rfl,Rf⟩) ?_)
   ·rintro x c st'' ha hx ⟨rfl,rfl,hs⟩
    dsimp only
    refine wpS_bind (p8 hL Te (by omega) (by omega) ?_)
    dsimp only
    by_cases lt:kA K (arrOf st'') (lo+x)<kA K (arrOf st'') (lo+x-1)
    ·rw[decide_eq_true lt,if_pos rfl]
     exact wpS_pure ⟨rfl,x,rfl,by omega,by omega,hs⟩
    ·rw[decide_eq_false lt,if_neg (by simp)]
     refine wpS_pure ⟨rfl,rfl,λi j hij hj=> ?_⟩
     by_cases c:j=x
     ·subst c
      by_cases c2:i=j
      ·subst c2;exact Int.le_refl _
      ·have:=hs i (j-1) (by omega) (by omega)
       rw[show lo+(j-1)=lo+j-1 by omega]at this
       omega
     ·exact hs i j hij (by omega)
   ·rintro c st'' ⟨rfl,rfl,hs⟩
    rw[Nat.max_eq_right m2]at hs ⊢
    exact⟨rfl,nrem,rfl,by omega,Nat.le_refl _,hs⟩
   ·rintro c st'' ⟨rfl,n',rfl,a1,a2,a3⟩
    exact wpS_pure (hq n' st'' S3 a1 a2 a3)
  refine wpS_bind (wpS_mono (wpS_forRange (I:=λx c s2=> ∃q,c=(none,x,q)/\SC lo st' s2/\Si K (arrOf s2) lo x/\q+1<=x/\ ∀i,x- (q+1)<=i->i<x->kA K (arrOf s2) (lo+i)=kA K (arrOf s2) (lo+x-1))
   (Q:=λc s2=> ∃x q,c=(none,x,q)/\n+1<=x/\x<=nrem/\SC lo st' s2/\Si K (arrOf s2) lo x/\q+1<=x/\ ∀i,x- (q+1)<=i->i<x->kA K (arrOf s2) (lo+i)=kA K (arrOf s2) (lo+x-1)) ?_ ?_ ⟨0,rfl,S1,λi j hij hj=> ?_,by omega,λi h1 h2=> ?_⟩) ?_)
  ·rintro x c s2 ha hx ⟨q,rfl,S2,hd2,hq1,heq⟩
   dsimp only
   have z2:=S2.size
   have hB2:=hB.sc S2
   refine wpS_bind (p8 hL hB2 (by omega) (by omega) ?_)
   dsimp only
   by_cases lt:kA K (arrOf s2) (lo+x)<kA K (arrOf s2) (lo+x-1)
   ·rw[decide_eq_true lt,if_pos rfl]
    have Rg:∀s3:SortSt,SC lo st' s3->(∀k,kA K (arrOf s3) k=kA K (arrOf s2) k) -> ∃q,((none,x+1,0):Option (Option Nat)×Nat×Nat)=(none,x+1,q)/\SC lo st' s3/\Si K (arrOf s3) lo (x+1)/\q+1<=x+1/\ ∀i,x+1- (q+1)<=i->i<x+1->kA K (arrOf s3) (lo+i)=kA K (arrOf s3) (lo+(x+1) -1):=by
     intro s3 S3 Jk
     refine⟨0,rfl,S3,λi j hij hj=> ?_,by omega,λi h1 h2=> ?_⟩
     ·rw[Jk,Jk]
      by_cases c:j=x
      ·subst c
       by_cases c2:i=j
       ·subst c2;exact Int.le_refl _
       ·have:=hd2 i (j-1) (by omega) (by omega)
        rw[show lo+(j-1)=lo+j-1 by omega]at this
        omega
      ·exact hd2 i j hij (by omega)
     ·have:i=x:=by omega
      subst this
      rfl
    by_cases Nv:q>0
    ·rw[if_pos Nv]
     refine wpS_bind (w_rev (wpS_pure (Rg _ (S2.mirror (by omega) (by omega)) λk=> ?_)))
     refine wQ (by omega) (λk k1 k2=> ?_) k
     have:=heq (k-lo) (by omega) (by omega)
     rw[show lo+(k-lo)=k by omega]at this
     exact this
    ·rw[if_neg Nv]
     exact wpS_pure (Rg s2 S2 λ_=>rfl)
   ·rw[decide_eq_false lt,if_neg (by simp)]
    refine wpS_bind (p8 hL hB2 (by omega) (by omega) ?_)
    dsimp only
    by_cases Og:kA K (arrOf s2) (lo+x-1)<kA K (arrOf s2) (lo+x)
    ·rw[decide_eq_true Og,if_pos rfl]
     exact wpS_pure ⟨x,q,rfl,ha,by omega,S2,hd2,hq1,heq⟩
    ·rw[decide_eq_false Og,if_neg (by simp)]
     have e:kA K (arrOf s2) (lo+x)=kA K (arrOf s2) (lo+x-1):=by omega
     refine wpS_pure ⟨q+1,rfl,S2,λi j hij hj=> ?_,by omega,λi h1 h2=> ?_⟩
     ·by_cases c:j=x
      ·subst c
       by_cases c2:i=j
       ·subst c2;exact Int.le_refl _
       ·have:=hd2 i (j-1) (by omega) (by omega)
        rw[show lo+(j-1)=lo+j-1 by omega]at this
        omega
      ·exact hd2 i j hij (by omega)
     ·rw[show lo+(x+1) -1=lo+x by omega,e]
      by_cases c:i=x
      ·subst c;exact e
      ·exact heq i (by omega) (by omega)
  ·rintro c s2 ⟨q,rfl,S2,hd2,hq1,heq⟩
   rw[Nat.max_eq_right (show n+1<=nrem by omega)]at hd2 hq1 heq ⊢
   exact⟨nrem,q,rfl,by omega,Nat.le_refl _,S2,hd2,hq1,heq⟩
  ·rw[hk1,hk1]
   exact hd i j hij hj
  ·have:i=n:=by omega
   subst this
   rfl
  ·rintro c s2 ⟨x,q,rfl,x1,x2,S2,hd2,hq1,heq⟩
   dsimp only
   have z2:=S2.size
   by_cases Nv:q>0
   ·rw[if_pos Nv]
    refine wpS_bind (w_rev ?_)
    have hk:∀k,kA K (arrOf (setArr s2 (mirror (arrOf s2) (lo+x- (q+1)) (lo+x) ((lo+x- (lo+x- (q+1)))/2)))) k=kA K (arrOf s2) k:=λk=>by
     refine wQ (by omega) (λk k1 k2=> ?_) k
     have:=heq (k-lo) (by omega) (by omega)
     rw[show lo+(k-lo)=k by omega]at this
     exact this
    exact rest _ x (S2.mirror (by omega) (by omega)) x1 x2 (λi j hij hj=>by rw[hk,hk];exact hd2 i j hij hj) _ rfl
   ·rw[if_neg Nv]
    exact rest s2 x S2 x1 x2 hd2 _ rfl
 by_cases gt:n>1
 ·rw[if_pos gt]
  refine wpS_bind (p8 hL hB (by omega) (by omega) ?_)
  dsimp only
  by_cases Nx:kA K (arrOf st') lo<kA K (arrOf st') (lo+n-1)
  ·rw[decide_eq_true Nx,if_pos rfl]
   exact wpS_pure (hq n st' (.refl _ _) n1 n2 hs)
  ·rw[decide_eq_false Nx,if_neg (by simp)]
   have hall:∀k,lo<=k->k<lo+n->kA K (arrOf st') k=kA K (arrOf st') (lo+n-1):=λk k1 k2=>by
    have a1:=hs 0 (k-lo) (by omega) (by omega)
    have a2:=hs (k-lo) (n-1) (by omega) (by omega)
    rw[show lo+(k-lo)=k by omega]at a1 a2
    rw[show lo+(n-1)=lo+n-1 by omega]at a2
    rw[Nat.add_zero]at a1
    omega
   refine wpS_bind (w_rev (part _ ((SC.refl lo st').mirror (Nat.le_refl _) (by omega)) (λk=>wQ (by omega) hall k) (λi j hij hj=> ?_) _ rfl))
   by_cases c:j=n
   ·subst c
    by_cases c2:i=j
    ·subst c2;exact Int.le_refl _
    ·rw[hall (lo+i) (by omega) (by omega)]
     omega
   ·rw[hall (lo+i) (by omega) (by omega),hall (lo+j) (by omega) (by omega)]
    exact Int.le_refl _
 ·rw[if_neg gt]
  have e1:n=1:=by omega
  subst e1
  refine part st' (.refl _ _) (λ_=>rfl) (λi j hij hj=> ?_) _ rfl
  by_cases c2:i=j
  ·subst c2;exact Int.le_refl _
  ·have:i=0:=by omega
   have:j=1:=by omega
   subst_vars
   rw[show lo+1-1=lo+0 by omega]at hlt
   omega
theorem Jw(hL:pD prog w A E s κ K D){lo n ok:Nat}{Q:Bool->SortSt->Prop}(hB:SB κ D st)(hok:ok<=n)(hz:lo+n<=(arrOf st).size)(hs:So K (arrOf st) lo ok)
  (h:∀st',SC lo st st'->So K (arrOf st') lo n->Q true st'):wpS (model prog w) A E s (binarySort' lo n ok) Q st:=by
 rw[binarySort'_eq]
 refine wpS_bind (wpS_mono (wpS_forRange (I:=λk c st'=>c=(none,())/\SC lo st st'/\So K (arrOf st') lo (min k n))
  (Q:=λc st'=>c=(none,())/\SC lo st st'/\So K (arrOf st') lo n) ?_ ?_ ⟨rfl,.refl _ _,λi j hij hj=> ?_⟩) ?_)
 ·rintro k c st' UN hkn ⟨rfl,S,hs'⟩
  rw[show min k n=k by omega]at hs'
  have z:=S.size
  have hk:lo+k<(arrOf st').size:=by omega
  have Tf:=hB.sc S
  refine wpS_bind (wpS_mono (wpS_forRange (I:=λx c s2=>s2=st'/\ ∃l r,c=(none,l,r)/\l<=r/\r<=k/\r-l<=k-x/\
    (∀i,i<l->kA K (arrOf st') (lo+i)<=kA K (arrOf st') (lo+k))/\(∀i,r<=i->i<k->kA K (arrOf st') (lo+k)<kA K (arrOf st') (lo+i)))
   (Q:=λc s2=>s2=st'/\ ∃l r,c=(none,l,r)/\l<=k/\
    (∀i,i<l->kA K (arrOf st') (lo+i)<=kA K (arrOf st') (lo+k))/\(∀i,l<=i->i<k->kA K (arrOf st') (lo+k)<kA K (arrOf st') (lo+i))) ?_ ?_ ⟨rfl,0,k,rfl,by omega,by omega,by omega,λi hi=>by omega,λi h1 h2=>by omega⟩) ?_)
  ·rintro x c s2 _ hxk ⟨rfl,l,r,rfl,hlr,hrk,hm,hlo,hhi⟩
   dsimp only
   by_cases hge:l≥r
   ·rw[if_pos hge]
    have:l=r:=by omega
    subst this
    exact wpS_pure ⟨rfl,l,l,rfl,hrk,hlo,hhi⟩
   ·rw[if_neg hge]
    refine wpS_bind (p8 hL Tf hk (by omega) ?_)
    by_cases less:kA K (arrOf s2) (lo+k)<kA K (arrOf s2) (lo+(l+r)/2)
    ·simp only[less,decide_true,if_true]
     refine wpS_pure ⟨rfl,l,(l+r)/2,rfl,by omega,by omega,by omega,hlo,λi h1 h2=> ?_⟩
     exact Int.lt_of_lt_of_le less (hs' _ _ h1 h2)
    ·simp only[less,decide_false,Bool.false_eq_true,if_false]
     refine wpS_pure ⟨rfl,(l+r)/2+1,r,rfl,by omega,by omega,by omega,λi h1=> ?_,hhi⟩
     exact Int.le_trans (hs' i ((l+r)/2) (by omega) (by omega)) (Int.not_lt.mp less)
  ·rintro c s2 ⟨rfl,l,r,rfl,hlr,hrk,hm,hlo,hhi⟩
   have:l=r:=by omega
   subst this
   exact⟨rfl,l,l,rfl,hrk,hlo,hhi⟩
  ·rintro c s2 ⟨rfl,l,r,rfl,hlk,hlo,hhi⟩
   dsimp only
   rw[moveDown'_eq,show lo+k- (lo+l)=k-l by omega]
   refine wpS_bind (wpS_modify (wpS_pure ⟨rfl,S.bubble hk (by omega),?_⟩))
   rw[show min (k+1) n=k+1 by omega]
   intro i j hij hj
   show kA K (bubble (arrOf s2) (lo+k) (k-l)) (lo+i)<=kA K (bubble (arrOf s2) (lo+k) (k-l)) (lo+j)
   have e:∀t,t<k+1->kA K (bubble (arrOf s2) (lo+k) (k-l)) (lo+t)=if t=l then kA K (arrOf s2) (lo+k)else if l<t then kA K (arrOf s2) (lo+(t-1))else kA K (arrOf s2) (lo+t):=by
    intro t ht
    rw[De hk (by omega)]
    by_cases c1:t=l
    ·rw[if_pos (by omega),if_pos c1]
    ·rw[if_neg (by omega),if_neg c1]
     by_cases c2:l<t
     ·rw[if_pos (by omega),if_pos c2,show lo+t-1=lo+(t-1)by omega]
     ·rw[if_neg (by omega),if_neg c2]
   rw[e i (by omega),e j hj]
   repeat' split
   all_goals first
    |(exfalso;omega)
    |exact Int.le_refl _
    |exact hlo _ (by omega)
    |exact Int.le_of_lt (hhi _ (by omega) (by omega))
    |exact hs' _ _ (by omega) (by omega)
 ·rintro c st' ⟨hc,S,hs'⟩
  refine⟨hc,S,?_⟩
  rwa [show min (max (max ok 1) n) n=n by omega]at hs'
 ·by_cases h1:ok=0
  ·have:i=j:=by omega
   subst this;exact Int.le_refl _
  ·exact hs i j hij (by omega)
 ·rintro c st' ⟨rfl,S,hs'⟩
  exact wpS_pure (h st' S hs')
abbrev sl (a:Array Keyed) (lo n:Nat):List Keyed:=(a.toList.drop lo).take n
theorem p9{a:Array Keyed}{lo n:Nat}(h:lo+n<=a.size):So K a lo n↔(sl a lo n).Pairwise λx y=>K x<=K y:=by
 have len:(sl a lo n).length=n:=by simp[sl];omega
 have at':∀i (hi:i<n),∃x,(sl a lo n)[i]'(by omega)=x/\kA K a (lo+i)=K x:=λi hi=>by
  refine⟨_,rfl,?_⟩
  have e:a[lo+i]?=some ((sl a lo n)[i]'(by omega)):=by
   rw[<-List.getElem?_eq_getElem]
   simp[sl,List.getElem?_take_of_lt hi]
  unfold kA
  rw[e]
 constructor
 ·intro hs
  rw[List.pairwise_iff_getElem]
  intro i j hi hj hij
  obtain⟨x,ex,kx⟩:=at' i (by omega)
  obtain⟨y,ey,ky⟩:=at' j (by omega)
  have:=hs i j (by omega) (by omega)
  rw[ex,ey,<-kx,<-ky]
  exact this
 ·intro hs i j hij hj
  by_cases c:i=j
  ·subst c;exact Int.le_refl _
  obtain⟨x,ex,kx⟩:=at' i (by omega)
  obtain⟨y,ey,ky⟩:=at' j hj
  have:=List.pairwise_iff_getElem.mp hs i j (by omega) (by omega) (by omega)
  rw[ex,ey,<-kx,<-ky]at this
  exact this
def wr(sa:Nat)(a:Array Keyed)(l:List (Keyed×Nat)):Array Keyed:=l.foldl (λa (p,j)=>a.setIfInBounds (sa+j) p) a
theorem Aj(sa:Nat):∀(l:List Keyed) (k:Nat) (a:Array Keyed) (t:Nat),sa+k+l.length<=a.size->(wr sa a (l.zipIdx k))[t]?=if sa+k<=t/\t<sa+k+l.length then l[t- (sa+k)]? else a[t]?
 | [],k,a,t,h=>by
  rw[if_neg (by simp)]
  rfl
 |x::l,k,a,t,h=>by
  have h':sa+k+(l.length+1)<=a.size:=h
  show(wr sa (a.setIfInBounds (sa+k) x) (l.zipIdx (k+1)))[t]?=_
  rw[Aj sa l (k+1) _ t (by rw[Array.size_setIfInBounds];omega)]
  rw[List.length_cons]
  by_cases c1:sa+(k+1)<=t/\t<sa+(k+1)+l.length
  ·rw[if_pos c1,if_pos (by omega),show t- (sa+k)=t- (sa+(k+1))+1 by omega,List.getElem?_cons_succ]
  ·rw[if_neg c1,Array.getElem?_setIfInBounds]
   by_cases c2:sa+k=t
   ·subst c2
    rw[if_pos rfl,if_pos (by omega),if_pos (by omega),Nat.sub_self]
    rfl
   ·rw[if_neg c2,if_neg (by omega)]
theorem Ii{sa:Nat}{l:List Keyed}{a:Array Keyed}(h:sa+l.length<=a.size):(wr sa a l.zipIdx).toList=a.toList.take sa++(l++a.toList.drop (sa+l.length)):=by
 refine List.ext_getElem? λt=> ?_
 rw[Array.getElem?_toList,Aj sa l 0 a t (by omega),Nat.add_zero]
 have ls:(a.toList.take sa).length=sa:=by simp;omega
 by_cases c1:t<sa
 ·rw[if_neg (by omega),List.getElem?_append_left (by omega),List.getElem?_take_of_lt c1]
  simp
 ·rw[List.getElem?_append_right (by omega),ls]
  by_cases c2:t<sa+l.length
  ·rw[if_pos (by omega),List.getElem?_append_left (by omega)]
  ·rw[if_neg (by omega),List.getElem?_append_right (by omega),List.getElem?_drop,show sa+l.length+(t-sa-l.length)=t by omega]
   simp
theorem FD(l:List Keyed)(u n:Nat):l=l.take u++((l.drop u).take n++l.drop (u+n)):=by
 rw[<-List.drop_drop,List.take_append_drop,List.take_append_drop]
theorem FF{M:Model}{st':SortSt}{Q:PUnit->SortSt->Prop}(h:Q ⟨⟩ st'):wpS M A E s (set st':StateT SortSt Sem PUnit) Q st:=by
 unfold wpS
 rw[StateT.run_set]
 exact wpAny_pure ⟨rfl,h⟩
theorem jC{M:Model}{α:Type}{c:Prop} [Decidable c]{x y:StateT SortSt Sem α}{Q:α->SortSt->Prop}(h1:c->wpS M A E s x Q st)(h2:¬c->wpS M A E s y Q st):wpS M A E s (if c then x else y) Q st:=by
 split
 ·exact h1 ‹_›
 ·exact h2 ‹_›
theorem Lc(i:Nat):mergeAt' i=(do
 let z<-get
 let(some (sa,na,pw),some (sb,nb,_)):=((pendingOf z)[i]?,(pendingOf z)[i+1]?)|(@unsupported _ "internal:list.sort.pending")
 set (SortSt.mk' (kindOf z) (arrOf z) (((pendingOf z).setIfInBounds i (sa,na+nb,pw)).eraseIdxIfInBounds (i+1)) (gallopOf z) (failedOf z))
 let some k<-Ig false (<-elem' (arrOf z) sb) (arrOf z) sa na 0|return false
 let(ua,ma):=(sa+k,na-k)
 if ma==0 then return true
 let some mb<-Ig true (<-elem' (arrOf z) (ua+ma-1)) (arrOf z) sb nb (nb-1)|return false
 if mb==0 then return true
 let x:=(arrOf z).extract ua sb
 let y:=(arrOf z).extract sb (sb+mb)
 let r<-if ma<=mb then PJ x y else PK x y
 modify λz=>setArr z (wr ua (arrOf z) r.toList.zipIdx)
 return(failedOf (<-get)).isNone):=rfl
structure Mg(K:Keyed->Int)(sa n:Nat)(p:Array (Nat×Nat×Nat))(s0 st:SortSt):Prop where
 perm:(arrOf st).Perm (arrOf s0)
 kind:kindOf st=kindOf s0
 failed:failedOf st=failedOf s0
 pend:pendingOf st=p
 out:∀t,t<sa∨sa+n<=t->(arrOf st)[t]?=(arrOf s0)[t]?
 so:So K (arrOf st) sa n
theorem yD{l:List Keyed}(h:l.Pairwise λx y=>K x<=K y){x:Keyed}(hx:x∈l){z:Keyed}(hz:l[l.length-1]?=some z):K x<=K z:=by
 obtain⟨i,hi,rfl⟩:=List.mem_iff_getElem.mp hx
 rw[List.getElem?_eq_getElem (by omega)]at hz
 rw[<-Option.some.inj hz]
 by_cases c:i=l.length-1
 ·subst c;exact Int.le_refl _
 ·exact List.pairwise_iff_getElem.mp h i (l.length-1) hi (by omega) (by omega)
theorem Ny(hL:pD prog w A E s κ K D){i sa na nb pw:Nat}{q:Nat×Nat}{Q:Bool->SortSt->Prop}(hB:SB κ D st)(e1:(pendingOf st)[i]?=some (sa,na,pw))(e2:(pendingOf st)[i+1]?=some (sa+na,nb,q.1))
  (ha:0<na)(hb:0<nb)(hz:sa+na+nb<=(arrOf st).size)(s1:So K (arrOf st) sa na)(s2:So K (arrOf st) (sa+na) nb)
  (hq:∀st',Mg K sa (na+nb) (((pendingOf st).setIfInBounds i (sa,na+nb,pw)).eraseIdxIfInBounds (i+1)) st st'->Q true st'):wpS (model prog w) A E s (mergeAt' i) Q st:=by
 rw[Lc]
 refine wpS_bind (wpS_get ?_)
 rw[e1,e2]
 dsimp only
 refine wpS_bind (FF ?_)
 have P1:=(p9 (K:=K) (a:=arrOf st) (lo:=sa) (n:=na) (by omega)).mp s1
 have P2:=(p9 (K:=K) (a:=arrOf st) (lo:=sa+na) (n:=nb) (by omega)).mp s2
 have lA:(sl (arrOf st) sa na).length=na:=by simp[sl];omega
 have lB:(sl (arrOf st) (sa+na) nb).length=nb:=by simp[sl];omega
 have gA:∀t,t<na->(arrOf st)[sa+t]?=(sl (arrOf st) sa na)[t]?:=λt ht=>by simp[sl,List.getElem?_take_of_lt ht]
 have gB:∀t,t<nb->(arrOf st)[sa+na+t]?=(sl (arrOf st) (sa+na) nb)[t]?:=λt ht=>by simp[sl,List.getElem?_take_of_lt ht]
 have DA:∀x∈sl (arrOf st) sa na,D x:=λx hx=>hB.all x (List.mem_of_mem_drop (List.mem_of_mem_take hx))
 have DB:∀x∈sl (arrOf st) (sa+na) nb,D x:=λx hx=>hB.all x (List.mem_of_mem_drop (List.mem_of_mem_take hx))
 have whole:sl (arrOf st) sa (na+nb)=sl (arrOf st) sa na++sl (arrOf st) (sa+na) nb:=by
  show((arrOf st).toList.drop sa).take (na+nb)=_
  rw[List.take_add,List.drop_drop]
 have parts:(arrOf st).toList=(arrOf st).toList.take sa++((sl (arrOf st) sa na++sl (arrOf st) (sa+na) nb)++(arrOf st).toList.drop (sa+(na+nb))):=by
  rw[<-whole]
  exact FD _ _ _
 have wA:∃A0,sl (arrOf st) sa na=A0:=⟨_,rfl⟩
 have wB:∃B0,sl (arrOf st) (sa+na) nb=B0:=⟨_,rfl⟩
 obtain⟨A0,eA⟩:=wA
 obtain⟨B0,eB⟩:=wB
 rw[eA]at P1 lA gA DA whole parts
 rw[eB]at P2 lB gB DB whole parts
 have Jx:∀g,(A0++B0).Pairwise (λx y=>K x<=K y) ->Q true (SortSt.mk' (kindOf st) (arrOf st) (((pendingOf st).setIfInBounds i (sa,na+nb,pw)).eraseIdxIfInBounds (i+1)) g (failedOf st)):=λg hs=>
  hq _ ⟨Array.Perm.refl _,rfl,rfl,rfl,λ_ _=>rfl,(p9 (by show sa+(na+nb)<=(arrOf st).size;omega)).mpr (by show(sl (arrOf st) sa (na+nb)).Pairwise _;rw[whole];exact hs)⟩
 obtain⟨b0,hb0⟩:∃b0,B0[0]?=some b0:=⟨_,List.getElem?_eq_getElem (by omega)⟩
 have Tg:b0∈B0:=List.mem_of_getElem? hb0
 have PM:∀y∈B0,K b0<=K y:=by
  cases B0 with
  |nil=>cases hb0
  |cons z B0=>
   have:z=b0:=Option.some.inj hb0
   subst this
   exact dW P2
 refine wpS_bind (aZ (by rw[<-hb0,<-gB 0 hb];rfl) (wpS_bind (jB hL hB.kind A0 gA lA.symm DA (DB _ Tg) P1 ha λk hk1 t1 t2=> ?_)))
 simp only[Bool.false_eq_true,if_false]at t1 t2
 dsimp only
 by_cases c1:(na-k==0)=true
 ·rw[if_pos c1]
  refine wpS_pure (Jx _ (List.pairwise_append.mpr ⟨P1,P2,λx hx y hy=>Int.le_trans (t1 x ?_) (PM y hy)⟩))
  have:na-k=0:=by simpa using c1
  rw[List.take_of_length_le (by omega)]
  exact hx
 rw[if_neg c1]
 have n1:na-k≠0:=λe=>c1 (by rw[e];rfl)
 obtain⟨al,hal⟩:∃al,A0[na-1]?=some al:=⟨_,List.getElem?_eq_getElem (by omega)⟩
 have Ti:al∈A0:=List.mem_of_getElem? hal
 have Jy:∀x∈A0,K x<=K al:=λx hx=>yD P1 hx (by rw[lA];exact hal)
 refine wpS_bind (aZ (by rw[show sa+k+(na-k) -1=sa+(na-1)by omega,gA (na-1) (by omega)];exact hal) (wpS_bind (jB hL hB.kind B0 gB lB.symm DB (DA _ Ti) P2 (by omega) λm hm1 u1 u2=> ?_)))
 simp only[if_true]at u1 u2
 dsimp only
 by_cases c2:(m==0)=true
 ·rw[if_pos c2]
  refine wpS_pure (Jx _ (List.pairwise_append.mpr ⟨P1,P2,λx hx y hy=>Int.le_trans (Jy x hx) (u2 y ?_)⟩))
  have:m=0:=by simpa using c2
  subst this
  exact hy
 rw[if_neg c2]
 have n2:m≠0:=λe=>c2 (by rw[e];rfl)
 have ex:((arrOf st).extract (sa+k) (sa+na)).toList=A0.drop k:=by
  rw[<-eA]
  simp[sl,List.drop_take,Nat.add_sub_add_left]
 have ey:((arrOf st).extract (sa+na) (sa+na+m)).toList=B0.take m:=by
  rw[<-eB]
  simp[sl,List.take_take,Nat.min_eq_left hm1]
 have Rh:((arrOf st).extract (sa+k) (sa+na)).size=na-k:=by simp;omega
 have UO:((arrOf st).extract (sa+na) (sa+na+m)).size=m:=by simp;omega
 have Xs:=List.Pairwise.sublist (List.drop_sublist k A0) P1
 have Ys:=List.Pairwise.sublist (List.take_sublist m B0) P2
 have dX:∀x∈A0.drop k,D x:=λx hx=>DA x (List.mem_of_mem_drop hx)
 have dY:∀x∈B0.take m,D x:=λx hx=>DB x (List.mem_of_mem_take hx)
 have Ld:∀y∈(B0.take m).take 1,∀x∈A0.drop k,K y<=K x:=λy hy x hx=>by
  have e:(B0.take m).take 1=[b0]:=by
   cases B0 with
   |nil=>cases hb0
   |cons z B0=>
    have:z=b0:=Option.some.inj hb0
    subst this
    obtain⟨m,rfl⟩:∃m',m=m'+1:=⟨m-1,by omega⟩
    rfl
  rw[e,List.mem_singleton]at hy
  subst hy
  exact Int.le_of_lt (t2 x hx)
 have Ri:∀y∈B0.take m,∀x∈(A0.drop k).drop (na-k-1),K y<=K x:=λy hy x hx=>by
  have e:(A0.drop k).drop (na-k-1)=[al]:=by
   rw[List.drop_drop,show k+(na-k-1)=na-1 by omega]
   have e3:=List.drop_eq_getElem_cons (l:=A0) (i:=na-1) (by omega)
   rw[List.getElem?_eq_getElem (by omega)]at hal
   rw[e3,Option.some.inj hal,List.drop_eq_nil_of_le (by omega)]
  rw[e,List.mem_singleton]at hx
  subst hx
  exact Int.le_of_lt (u1 y hy)
 have goal:∀(r:Array Keyed) (s3:SortSt),Sg (SortSt.mk' (kindOf st) (arrOf st) (((pendingOf st).setIfInBounds i (sa,na+nb,pw)).eraseIdxIfInBounds (i+1)) (gallopOf st) (failedOf st)) s3->
   Good K (A0.drop k++B0.take m) r.toList->wpS (model prog w) A E s (do
    modify λz=>setArr z (wr (sa+k) (arrOf z) r.toList.zipIdx)
    return(failedOf (<-get)).isNone) Q s3:=by
  intro r s3 S3 G
  refine wpS_bind (wpS_modify (wpS_bind (wpS_get ?_)))
  have fl:failedOf s3=none:=S3.2.2.2.trans hB.failed
  show wpS _ _ _ _ (pure (failedOf s3).isNone) _ _
  rw[fl]
  refine wpS_pure (hq _ ?_)
  have ar:arrOf s3=arrOf st:=S3.2.1
  have lr:r.toList.length=na-k+m:=by rw[G.1.length_eq,List.length_append,List.length_drop,List.length_take];omega
  have lst:(wr (sa+k) (arrOf st) r.toList.zipIdx).toList=(arrOf st).toList.take sa++((A0.take k++(r.toList++B0.drop m))++(arrOf st).toList.drop (sa+(na+nb))):=by
   rw[Ii (by omega),lr]
   have ts:((arrOf st).toList.take sa).length=sa:=by simp;omega
   have q1:(arrOf st).toList.take (sa+k)=(arrOf st).toList.take sa++A0.take k:=by
    rw[List.take_add,<-eA]
    show _=_++(((arrOf st).toList.drop sa).take na).take k
    rw[List.take_take,Nat.min_eq_left hk1]
   have q2:(arrOf st).toList.drop (sa+k+(na-k+m))=B0.drop m++(arrOf st).toList.drop (sa+(na+nb)):=by
    rw[<-eB]
    show _=(((arrOf st).toList.drop (sa+na)).take nb).drop m++_
    rw[List.drop_take,List.drop_drop,show sa+k+(na-k+m)=sa+na+m by omega]
    conv=>lhs;rw[<-List.take_append_drop (nb-m) ((arrOf st).toList.drop (sa+na+m))]
    rw[List.drop_drop,show sa+na+m+(nb-m)=sa+(na+nb)by omega]
   rw[q1,q2]
   simp[List.append_assoc]
  have Tj:(A0.take k++(r.toList++B0.drop m)).Pairwise λx y=>K x<=K y:=by
   have sA:=List.pairwise_append.mp (by rw[List.take_append_drop];exact P1:(A0.take k++A0.drop k).Pairwise λx y=>K x<=K y)
   have sB:=List.pairwise_append.mp (by rw[List.take_append_drop];exact P2:(B0.take m++B0.drop m).Pairwise λx y=>K x<=K y)
   refine List.pairwise_append.mpr ⟨sA.1,List.pairwise_append.mpr ⟨G.2,sB.2.1,λx hx y hy=> ?_⟩,λx hx y hy=> ?_⟩
   ·rcases List.mem_append.mp (G.1.mem_iff.mp hx)with z|z
    ·exact Int.le_trans (Jy x (List.mem_of_mem_drop z)) (u2 y hy)
    ·exact sB.2.2 x z y hy
   ·rcases List.mem_append.mp hy with z|z
    ·rcases List.mem_append.mp (G.1.mem_iff.mp z)with z|z
     ·exact sA.2.2 x hx y z
     ·exact Int.le_trans (t1 x hx) (PM y (List.mem_of_mem_take z))
    ·exact Int.le_trans (t1 x hx) (PM y (List.mem_of_mem_drop z))
  have Tn:(wr (sa+k) (arrOf st) r.toList.zipIdx).size=(arrOf st).size:=by
   rw[<-Array.length_toList,lst,<-Array.length_toList]
   conv=>rhs;rw[parts]
   simp only[List.length_append,lr,List.length_take,List.length_drop,lA,lB]
   omega
  have pm:(wr (sa+k) (arrOf st) r.toList.zipIdx).Perm (arrOf st):=by
   refine Array.perm_iff_toList_perm.mpr ?_
   rw[lst]
   conv=>rhs;rw[parts]
   refine List.Perm.append_left _ (List.Perm.append_right _ ?_)
   have h1:(A0.take k++(r.toList++B0.drop m)).Perm (A0.take k++((A0.drop k++B0.take m)++B0.drop m)):=List.Perm.append_left _ (List.Perm.append_right _ G.1)
   refine h1.trans (List.Perm.of_eq ?_)
   rw[List.append_assoc,List.take_append_drop,<-List.append_assoc,List.take_append_drop]
  refine⟨?_,S3.1,by show failedOf s3=failedOf st;rw[fl,hB.failed],S3.2.2.1,λt ht=> ?_,?_⟩
  ·show(wr (sa+k) (arrOf s3) r.toList.zipIdx).Perm _
   rw[ar]
   exact pm
  ·show(wr (sa+k) (arrOf s3) r.toList.zipIdx)[t]?=_
   rw[ar,Aj (sa+k) r.toList 0 (arrOf st) t (by omega),if_neg (by omega)]
  ·show So K (wr (sa+k) (arrOf s3) r.toList.zipIdx) sa (na+nb)
   rw[ar,p9 (by rw[Tn];omega)]
   show(((wr (sa+k) (arrOf st) r.toList.zipIdx).toList.drop sa).take (na+nb)).Pairwise _
   have ts:((arrOf st).toList.take sa).length=sa:=by simp;omega
   rw[lst,List.drop_append_of_le_length (by omega),List.drop_eq_nil_of_le (by omega),List.nil_append,List.take_append_of_le_length (by simp only[List.length_append,List.length_take,List.length_drop,lr,lA,lB];omega),
    List.take_of_length_le (by simp only[List.length_append,List.length_take,List.length_drop,lr,lA,lB];omega)]
   exact Tj
 refine jC (λc=> ?_) (λc=> ?_)
 ·refine wpS_bind (Nr hL hB.kind (by omega) (by omega) (by rw[ex];exact dX) (by rw[ey];exact dY) (by rw[ex];exact Xs) (by rw[ey];exact Ys) (by rw[ex,ey];exact Ld) (by rw[ex,ey,Rh];exact Ri) λr s3 S3 G=> ?_)
  rw[ex,ey]at G
  exact goal r s3 S3 G
 ·refine wpS_bind (Nu hL hB.kind (by omega) (by omega) (by rw[ex];exact dX) (by rw[ey];exact dY) (by rw[ex];exact Xs) (by rw[ey];exact Ys) (by rw[ex,ey];exact Ld) (by rw[ex,ey,Rh];exact Ri) λr s3 S3 G=> ?_)
  rw[ex,ey]at G
  exact goal r s3 S3 G
end
def pG(K:Keyed->Int)(ar:Array Keyed):Nat->List (Nat×Nat×Nat) ->Nat->Prop
 |a,[],e=>a=e
 |a,(u,n,_)::r,e=>u=a/\0<n/\So K ar a n/\pG K ar (a+n) r e
theorem pG.le{K:Keyed->Int}{ar:Array Keyed}:∀{l:List (Nat×Nat×Nat)} {a e:Nat},pG K ar a l e->a+l.length<=e
 | [],a,e,h=>Nat.le_of_eq h
 |(u,n,z)::r,a,e,h=>by
  have:=pG.le h.2.2.2
  have:=h.2.1
  rw[List.length_cons]
  omega
theorem So.congr{K:Keyed->Int}{x y:Array Keyed}{lo n:Nat}(h:So K x lo n)(e:∀t,lo<=t->t<lo+n->y[t]?=x[t]?):So K y lo n:=λi j hij hj=>by
 rw[jj (e (lo+i) (by omega) (by omega)),jj (e (lo+j) (by omega) (by omega))]
 exact h i j hij hj
theorem pG.congr{K:Keyed->Int}{x y:Array Keyed}:∀{l:List (Nat×Nat×Nat)} {a e:Nat},pG K x a l e->(∀t,a<=t->t<e->y[t]?=x[t]?) ->pG K y a l e
 | [],a,e,h,_=>h
 |(u,n,z)::r,a,e,h,q=>⟨h.1,h.2.1,h.2.2.1.congr λt h1 h2=>q t h1 (by have:=h.2.2.2.le;omega),h.2.2.2.congr λt h1 h2=>q t (by omega) h2⟩
theorem pG.append{K:Keyed->Int}{ar:Array Keyed}{r:List (Nat×Nat×Nat)}{e:Nat}:∀{l:List (Nat×Nat×Nat)} {a:Nat},pG K ar a (l++r) e↔ ∃m,pG K ar a l m/\pG K ar m r e
 | [],a=>⟨λh=>⟨a,rfl,h⟩,λ ⟨m,h,q⟩=>by cases h;exact q⟩
 |(u,n,z)::l,a=>by
  constructor
  ·rintro⟨h1,h2,h3,h4⟩
   obtain⟨m,p,q⟩:=pG.append.mp h4
   exact⟨m,⟨h1,h2,h3,p⟩,q⟩
  ·rintro⟨m,⟨h1,h2,h3,p⟩,q⟩
   exact⟨h1,h2,h3,pG.append.mpr ⟨m,p,q⟩⟩
theorem pG.push{K:Keyed->Int}{ar:Array Keyed}{l:List (Nat×Nat×Nat)}{a e n z:Nat}(h:pG K ar a l e)(hn:0<n)(hs:So K ar e n):pG K ar a (l++ [(e,n,z)]) (e+n):=pG.append.mpr ⟨e,h,rfl,hn,hs,rfl⟩
theorem pG.pow{K:Keyed->Int}{ar:Array Keyed}{l:List (Nat×Nat×Nat)}{a e u n z z':Nat}(h:pG K ar a (l++ [(u,n,z)]) e):pG K ar a (l++ [(u,n,z')]) e:=by
 obtain⟨m,p,q1,q2,q3,q4⟩:=pG.append.mp h
 exact pG.append.mpr ⟨m,p,q1,q2,q3,q4⟩
theorem FG:sortRuns'=(do
 let zz:=(arrOf (<-get)).size
 let mr:=minRun' zz zz 0
 let mut lo:=0
 for _ in [0:zz] do
  if lo≥zz then break
  let some f<-countRun' lo (zz-lo)|return
  let mut n:=f
  if n<mr then
   rule "list.sort.binary-insertion"
   let fo:=min (zz-lo) mr
   if !(<-binarySort' lo fo n)then return
   n:=fo
  if let some (a1,b1,_):=(pendingOf (<-get)).back? then
   let pw:=power' zz (2*a1+b1) (2*a1+b1+b1+n) zz
   for _ in [0:zz] do
    let p:=pendingOf (<-get)
    let some (_,_,od):=(if p.size>1 then p[p.size-2]? else none)|break
    if od<=pw then break
    if !(<-mergeAt' (p.size-2))then return
   modify λy=>setPending y ((pendingOf y).modify ((pendingOf y).size-1) λ (c,d,_)=>(c,d,pw))
  modify λy=>setPending y ((pendingOf y).push (lo,n,0))
  lo:=lo+n
 for _ in [0:zz] do
  let p:=pendingOf (<-get)
  if p.size<=1 then break
  let i:=p.size-2
  let be:=if i>0 then p[i-1]?.map (·.2.1)else none
  let i:=if be.any (· <(p[i+1]?.elim 0 (·.2.1)))then i-1 else i
  if !(<-mergeAt' i)then return):=rfl
section
variable{prog:Program}{w:World}{A:Around}{E:Value->Shared->Prop}{s:Shared}{κ:SortKind}{K:Keyed->Int}{D:Keyed->Prop}{st:SortSt}{a₀:Array Keyed}
structure RI(κ:SortKind)(K:Keyed->Int)(D:Keyed->Prop)(a₀:Array Keyed)(lo:Nat)(st:SortSt):Prop where
 sb:SB κ D st
 perm:(arrOf st).Perm a₀
 Le:pG K (arrOf st) 0 (pendingOf st).toList lo
 le:lo<=a₀.size
theorem RI.size{lo:Nat}(R:RI κ K D a₀ lo st):(arrOf st).size=a₀.size:=R.perm.size_eq
theorem RI.cnt{lo:Nat}(R:RI κ K D a₀ lo st):(pendingOf st).size<=lo:=by have:=R.Le.le;rw[Nat.zero_add,Array.length_toList]at this;exact this
theorem RI.sc{lo:Nat}{s1:SortSt}(R:RI κ K D a₀ lo st)(S:SC lo st s1):RI κ K D a₀ lo s1:=
 ⟨R.sb.sc S,S.perm.trans R.perm,by rw[S.pend];exact R.Le.congr λt _ h=>S.low t h,R.le⟩
theorem sV(hL:pD prog w A E s κ K D){lo i:Nat}{Q:Bool->SortSt->Prop}(R:RI κ K D a₀ lo st)(hi:i+1<(pendingOf st).size)
  (hq:∀st',RI κ K D a₀ lo st'->(pendingOf st').size+1=(pendingOf st).size->(∀t,lo<=t->(arrOf st')[t]?=(arrOf st)[t]?) ->Q true st'):wpS (model prog w) A E s (mergeAt' i) Q st:=by
 have hl:i+1<(pendingOf st).toList.length:=by simpa using hi
 obtain⟨⟨u,na,z1⟩,eu⟩:∃x,(pendingOf st).toList[i]?=some x:=⟨_,List.getElem?_eq_getElem (by omega)⟩
 obtain⟨⟨v,nb,z2⟩,ev⟩:∃x,(pendingOf st).toList[i+1]?=some x:=⟨_,List.getElem?_eq_getElem hl⟩
 obtain⟨pre,post,split,lt⟩:∃pre post,(pendingOf st).toList=pre++((u,na,z1)::(v,nb,z2)::post)/\pre.length=i:=by
  refine⟨(pendingOf st).toList.take i,(pendingOf st).toList.drop (i+2),?_,by rw[List.length_take];omega⟩
  conv=>lhs;rw[<-List.take_append_drop i (pendingOf st).toList]
  congr 1
  rw[List.drop_eq_getElem_cons (by omega),List.drop_eq_getElem_cons hl]
  rw[List.getElem?_eq_getElem (by omega)]at eu
  rw[List.getElem?_eq_getElem hl]at ev
  rw[Option.some.inj eu,Option.some.inj ev]
 have C:=R.Le
 rw[split]at C
 obtain⟨m,c1,rfl,hna,sa,c2⟩:=pG.append.mp C
 obtain⟨rfl,hnb,sb,c3⟩:=c2
 have Oj:=c3.le
 have sz:=R.size
 have rl:=R.le
 refine Ny hL (q:=(z2,0)) (nb:=nb) (na:=na) (sa:=u) (pw:=z1) R.sb (by rw[<-Array.getElem?_toList];exact eu) (by rw[<-Array.getElem?_toList];exact ev) hna hnb (by omega) sa sb λst' M=> ?_
 have pl:(pendingOf st').toList=pre++((u,na+nb,z1)::post):=by
  rw[M.pend]
  simp only[Array.toList_eraseIdxIfInBounds,Array.toList_setIfInBounds]
  rw[split,List.set_append_right _ _ (by omega),lt,Nat.sub_self,List.set_cons_zero,List.eraseIdx_append_of_length_le (by omega),lt,show i+1-i=1 by omega,List.eraseIdx_cons_succ,List.eraseIdx_cons_zero]
 have ov:=c3.le
 refine hq st' ⟨⟨M.kind.trans R.sb.kind,M.failed.trans R.sb.failed,λx hx=>R.sb.all x ((Array.perm_iff_toList_perm.mp M.perm).mem_iff.mp hx)⟩,M.perm.trans R.perm,?_,R.le⟩ ?_ λt h=>M.out t (.inr (by omega))
 ·rw[pl]
  exact pG.append.mpr ⟨u,c1.congr λt _ h=>M.out t (.inl h),rfl,by omega,M.so,by rw[<-Nat.add_assoc];exact c3.congr λt h _=>M.out t (.inr (by omega))⟩
 ·have e1:(pendingOf st').toList.length=(pendingOf st').size:=Array.length_toList
  have e2:(pendingOf st).toList.length=(pendingOf st).size:=Array.length_toList
  rw[pl]at e1
  rw[split]at e2
  simp only[List.length_append,List.length_cons]at e1 e2
  omega
theorem Ij(hL:pD prog w A E s κ K D){lo i:Nat}{Q:Bool->SortSt->Prop}(R:RI κ K D a₀ lo st)(hi:i+1<(pendingOf st).size)
  (hq:∀st',RI κ K D a₀ lo st'->(pendingOf st').size+1=(pendingOf st).size->Q true st'):wpS (model prog w) A E s (mergeAt' i) Q st:=sV hL R hi λst' r e _=>hq st' r e
theorem yE{α:Type}(f:α->α)(y:α):∀l:List α,(l++ [y]).modify l.length f=l++ [f y]
 | []=>rfl
 |x::l=>by
  show x::((l++ [y]).modify l.length f)=_
  rw[yE f y l]
  rfl
theorem Ik{ar:Array Keyed}{p:Array (Nat×Nat×Nat)}{lo pw:Nat}(C:pG K ar 0 p.toList lo)(h:0<p.size):pG K ar 0 (p.modify (p.size-1) λx=>(x.1,x.2.1,pw)).toList lo:=by
 rw[Array.toList_modify]
 obtain⟨⟨q1,q2,q3⟩,l',el⟩:∃y l',p.toList=l'++ [y]:=by
  have ne:p.toList≠ []:=λe=>by
   rw[<-Array.length_toList,e]at h
   cases h
  exact⟨_,_,(List.dropLast_concat_getLast ne).symm⟩
 have sz:p.size-1=l'.length:=by
  rw[<-Array.length_toList,el]
  simp
 rw[el]at C ⊢
 rw[sz,yE]
 exact C.pow
theorem RI.pow{lo:Nat}(R:RI κ K D a₀ lo st)(h:0<(pendingOf st).size)(pw:Nat):RI κ K D a₀ lo (setPending st ((pendingOf st).modify ((pendingOf st).size-1) λx=>(x.1,x.2.1,pw))):=
 ⟨⟨R.sb.kind,R.sb.failed,R.sb.all⟩,R.perm,Ik R.Le h,R.le⟩
theorem Il(c:Prop) [Decidable c](k:Nat):(if c then k-1 else k)<=k:=by split<;>omega
theorem Lf(hL:pD prog w A E s κ K D){Q:Unit->SortSt->Prop}(R:RI κ K D a₀ 0 st)(hq:∀st',(arrOf st').Perm a₀->failedOf st'=none->So K (arrOf st') 0 a₀.size->Q () st'):wpS (model prog w) A E s sortRuns' Q st:=by
 rw[FG]
 refine wpS_bind (wpS_get ?_)
 dsimp only
 rw[R.size]
 generalize minRun' a₀.size a₀.size 0=mr
 refine wpS_bind (wpS_mono (wpS_forRange (I:=λx c s1=> ∃lo,c=(none,lo)/\x<=lo/\RI κ K D a₀ lo s1) (Q:=λc s1=> ∃lo,c=(none,lo)/\a₀.size<=lo/\RI κ K D a₀ lo s1) ?_ ?_ ⟨0,rfl,Nat.le_refl _,R⟩) ?_)
 ·rintro x c s1 _ hx ⟨lo,rfl,hlo,R1⟩
  dsimp only
  refine jC (λc=>wpS_pure ⟨lo,rfl,c,R1⟩) (λc=> ?_)
  have UP:=R1.size
  refine wpS_bind (w_count hL R1.sb (by omega) (by omega) λn s2 S2 n1 n2 LX=> ?_)
  dsimp only
  have R2:=R1.sc S2
  have Tq:=R2.size
  by_cases hm:n<mr
  ·rw[if_pos hm]
   refine wpS_bind (wpS_lift (wpAny_rule ⟨rfl,?_⟩))
   refine wpS_bind (Jw hL R2.sb (by omega) (by omega) LX λs3 S3 Ei=> ?_)
   simp only[Bool.not_true,Bool.false_eq_true,if_false]
   have R3:=R2.sc S3
   have n1:1<=min (a₀.size-lo) mr:=by omega
   have n2:min (a₀.size-lo) mr<=a₀.size-lo:=by omega
   have note:∀s4:SortSt,RI κ K D a₀ lo s4->So K (arrOf s4) lo (min (a₀.size-lo) mr) -> ∀Q:ForInStep (Option Unit×Nat) ->SortSt->Prop,(∀s5,RI κ K D a₀ (lo+min (a₀.size-lo) mr) s5->Q (.yield (none,lo+min (a₀.size-lo) mr)) s5) ->wpS (model prog w) A E s (do
     modify λy=>setPending y ((pendingOf y).push (lo,min (a₀.size-lo) mr,0))
     pure (ForInStep.yield ((none,lo+min (a₀.size-lo) mr):Option Unit×Nat))) Q s4:=λs4 R4 Ak Q hQ=>
    wpS_bind (wpS_modify (wpS_pure (hQ _ ⟨⟨R4.sb.kind,R4.sb.failed,R4.sb.all⟩,R4.perm,by
     show pG K (arrOf s4) 0 ((pendingOf s4).push (lo,min (a₀.size-lo) mr,0)).toList (lo+min (a₀.size-lo) mr)
     rw[Array.toList_push]
     exact R4.Le.push n1 Ak,by omega⟩)))
   refine wpS_bind (wpS_get ?_)
   cases eb:(pendingOf s3).back? with
   |none=>exact note s3 R3 Ei _ λs5 R5=>⟨lo+min (a₀.size-lo) mr,rfl,by omega,R5⟩
   |some y=>
    obtain⟨a1,b1,z1⟩:=y
    dsimp only
    refine wpS_bind (wpS_mono (wpS_forRange (I:=λ_ c s4=>c=(none,())/\RI κ K D a₀ lo s4/\So K (arrOf s4) lo (min (a₀.size-lo) mr)/\0<(pendingOf s4).size) (Q:=λc s4=>c=(none,())/\RI κ K D a₀ lo s4/\So K (arrOf s4) lo (min (a₀.size-lo) mr)/\0<(pendingOf s4).size) ?_ (λ_ _ h=>h) ⟨rfl,R3,Ei,?_⟩) ?_)
    ·rintro _ c s4 _ _ ⟨rfl,R4,Ak,p4⟩
     refine wpS_bind (wpS_get ?_)
     by_cases c1:(pendingOf s4).size>1
     ·rw[if_pos c1]
      obtain⟨⟨p1,p2,p3⟩,ep⟩:∃y,(pendingOf s4)[(pendingOf s4).size-2]?=some y:=⟨_,Array.getElem?_eq_getElem (by omega)⟩
      rw[ep]
      refine jC (λ_=>wpS_pure ⟨rfl,R4,Ak,p4⟩) (λ_=> ?_)
      exact wpS_bind (sV hL R4 (by omega) λs5 R5 e5 o5=>wpS_pure ⟨rfl,R5,Ak.congr λt h _=>o5 t h,by omega⟩)
     ·rw[if_neg c1]
      exact wpS_pure ⟨rfl,R4,Ak,p4⟩
    ·cases h:(pendingOf s3).size with
     |zero=>
      have:pendingOf s3= #[]:=Array.eq_empty_of_size_eq_zero h
      rw[this]at eb
      cases eb
     |succ k=>omega
    ·rintro c s4 ⟨rfl,R4,Ak,p4⟩
     dsimp only
     refine wpS_bind (wpS_modify ?_)
     exact note _ (R4.pow p4 _) Ak _ λs5 R5=>⟨lo+min (a₀.size-lo) mr,rfl,by omega,R5⟩
  ·rw[if_neg hm]
   have R3:=R2
   have Ei:=LX
   revert R3 Ei
   generalize s2=s3
   intro R3 Ei
   have note:∀s4:SortSt,RI κ K D a₀ lo s4->So K (arrOf s4) lo (n) -> ∀Q:ForInStep (Option Unit×Nat) ->SortSt->Prop,(∀s5,RI κ K D a₀ (lo+n) s5->Q (.yield (none,lo+n)) s5) ->wpS (model prog w) A E s (do
     modify λy=>setPending y ((pendingOf y).push (lo,n,0))
     pure (ForInStep.yield ((none,lo+n):Option Unit×Nat))) Q s4:=λs4 R4 Ak Q hQ=>
    wpS_bind (wpS_modify (wpS_pure (hQ _ ⟨⟨R4.sb.kind,R4.sb.failed,R4.sb.all⟩,R4.perm,by
     show pG K (arrOf s4) 0 ((pendingOf s4).push (lo,n,0)).toList (lo+n)
     rw[Array.toList_push]
     exact R4.Le.push n1 Ak,by omega⟩)))
   refine wpS_bind (wpS_get ?_)
   cases eb:(pendingOf s3).back? with
   |none=>exact note s3 R3 Ei _ λs5 R5=>⟨lo+n,rfl,by omega,R5⟩
   |some y=>
    obtain⟨a1,b1,z1⟩:=y
    dsimp only
    refine wpS_bind (wpS_mono (wpS_forRange (I:=λ_ c s4=>c=(none,())/\RI κ K D a₀ lo s4/\So K (arrOf s4) lo (n)/\0<(pendingOf s4).size) (Q:=λc s4=>c=(none,())/\RI κ K D a₀ lo s4/\So K (arrOf s4) lo (n)/\0<(pendingOf s4).size) ?_ (λ_ _ h=>h) ⟨rfl,R3,Ei,?_⟩) ?_)
    ·rintro _ c s4 _ _ ⟨rfl,R4,Ak,p4⟩
     refine wpS_bind (wpS_get ?_)
     by_cases c1:(pendingOf s4).size>1
     ·rw[if_pos c1]
      obtain⟨⟨p1,p2,p3⟩,ep⟩:∃y,(pendingOf s4)[(pendingOf s4).size-2]?=some y:=⟨_,Array.getElem?_eq_getElem (by omega)⟩
      rw[ep]
      refine jC (λ_=>wpS_pure ⟨rfl,R4,Ak,p4⟩) (λ_=> ?_)
      exact wpS_bind (sV hL R4 (by omega) λs5 R5 e5 o5=>wpS_pure ⟨rfl,R5,Ak.congr λt h _=>o5 t h,by omega⟩)
     ·rw[if_neg c1]
      exact wpS_pure ⟨rfl,R4,Ak,p4⟩
    ·cases h:(pendingOf s3).size with
     |zero=>
      have:pendingOf s3= #[]:=Array.eq_empty_of_size_eq_zero h
      rw[this]at eb
      cases eb
     |succ k=>omega
    ·rintro c s4 ⟨rfl,R4,Ak,p4⟩
     dsimp only
     refine wpS_bind (wpS_modify ?_)
     exact note _ (R4.pow p4 _) Ak _ λs5 R5=>⟨lo+n,rfl,by omega,R5⟩
 ·rintro c s1 ⟨lo,rfl,hlo,R1⟩
  exact⟨lo,rfl,by omega,R1⟩
 ·rintro c s1 ⟨lo,rfl,hlo,R1⟩
  have hl:lo=a₀.size:=by have:=R1.le;omega
  subst hl
  dsimp only
  refine wpS_bind (wpS_mono (wpS_forRange (I:=λx c s2=>c=(none,())/\RI κ K D a₀ a₀.size s2/\((pendingOf s2).size<=1∨(pendingOf s2).size+x<=a₀.size)) (Q:=λc s2=>c=(none,())/\RI κ K D a₀ a₀.size s2/\(pendingOf s2).size<=1) ?_ ?_ ⟨rfl,R1,.inr R1.cnt⟩) ?_)
  ·rintro x c s2 _ hx ⟨rfl,R2,p2⟩
   refine wpS_bind (wpS_get ?_)
   refine jC (λc=>wpS_pure ⟨rfl,R2,c⟩) (λc=> ?_)
   have mg:∀i,i+1<(pendingOf s2).size-> ∀Q:ForInStep (Option Unit×Unit) ->SortSt->Prop,(∀s3,RI κ K D a₀ a₀.size s3->(pendingOf s3).size+1=(pendingOf s2).size->Q (.yield (none,())) s3) ->wpS (model prog w) A E s (do
     let b<-mergeAt' i
     if(!b)=true then pure (ForInStep.done ((some (),()):Option Unit×Unit))else pure (ForInStep.yield (none,()))) Q s2:=λi hi Q hQ=>
    wpS_bind (Ij hL R2 hi λs3 R3 e3=>wpS_pure (hQ s3 R3 e3))
   refine mg _ ?_ _ λs3 R3 e3=>⟨rfl,R3,.inr (by omega)⟩
   exact Nat.lt_of_le_of_lt (Nat.succ_le_succ (Il _ _)) (by omega)
  ·rintro c s2 ⟨hc,R2,p2⟩
   exact⟨hc,R2,by omega⟩
  ·rintro c s2 ⟨rfl,R2,p2⟩
   refine wpS_pure (hq s2 R2.perm R2.sb.failed ?_)
   have C:=R2.Le
   have le:=p2
   rw[<-Array.length_toList]at le
   cases e:(pendingOf s2).toList with
   |nil=>
    rw[e]at C
    have z:0=a₀.size:=C
    intro i j h1 h2
    omega
   |cons y r=>
    rw[e]at C le
    have:r=[]:=by
     cases r with
     |nil=>rfl
     |cons _ _=>simp at le
    subst this
    obtain⟨c1,c2,c3,c4⟩:=C
    have:0+y.2.1=a₀.size:=c4
    rw[<-this,Nat.zero_add]
    exact c3
end
end wO
namespace L2
open PySem PySem.Spec PyProof.Rows PySem.SeqAt
open AutoSeq1 (wpAny_loadPart')
open MeetsSeq MeetsSeq2 MeetsSeq3 SeqRoads2
mutual
def Hg:PyData->PyData->Bool
 | .int a,.int b=>decide (a<b)
 | .list xs,.list ys=>wR xs ys
 | .tuple xs,.tuple ys=>wR xs ys
 |_,_=>false
def wR:List PyData->List PyData->Bool
 |x::xs,y::ys=>if PyData.eqv x y then wR xs ys else Hg x y
 |_,_=>false
end
mutual
inductive Al:PyData->PyData->Prop
 |int (a b:Int):Al (.int a) (.int b)
 |lst {xs ys:List PyData}:nF xs ys->Al (.list xs) (.list ys)
inductive nF:List PyData->List PyData->Prop
 |nil:nF [] []
 |cons {x y:PyData} {xs ys:List PyData}:Al x y->nF xs ys->nF (x::xs) (y::ys)
end
def rD(A:Around)(s:Shared)(y x:Value)(b:Bool):Prop:=
 ∀(prog:Program) (w:World) (E:Value->Shared->Prop) (Q:Value->Shared->Prop),Q (.bool b) s->wpAny (model prog w) A (richCompare .Lt y x) Q E s
def rE(e l:Nat->Bool):Nat->Nat->Bool
 |0,_=>false
 |k+1,i=>if e i then rE e l k (i+1)else l i
theorem Df(l b:Addr)(its l5:Array Value)(n n2:Nat)(dd dd2:Option Addr)(sl sl2:Array (Option Value))(hsz:its.size=l5.size)(e f:Nat->Bool)(k:Nat):
  ∀i:Nat,its.size-i=k->Meets (Builtin.«list.__eq__.loop» ⟨[.ref l,.ref b,rawInt i,rawInt 0],[]⟩)
   (λA R s=>s.heap.get? l=some {cls:= .type "list",dict:=dd,data:= .seq its n,slots:=sl}/\s.heap.get? b=some {cls:= .type "list",dict:=dd2,data:= .seq l5 n2,slots:=sl2}/\
    (∀j (h1:j<its.size) (h2:j<l5.size),EqAt A.in1 s its[j] l5[j] (e j))/\
    (∀j (h1:j<its.size) (h2:j<l5.size),e j=false->rD A.in1 s its[j] l5[j] (f j))/\
    R (.ok (.ret (.bool (rE e f k i)))) s):=by
 induction k with
 |zero=>
  intro i hk prog w A R s h
  obtain⟨hp,g,d,tk,os⟩:=s;obtain⟨hl,hb,he,hf,h⟩:=h
  wp_walk using wpAny_loadPart' hl,wpAny_loadPart' hb
  have hi1:its[((i:Nat):Int).toNat]?=none:=by simp;omega
  have hi2:l5[((i:Nat):Int).toNat]?=none:=by simp;omega
  rw[hi1,hi2]
  wp_walk using wpAny_loadPart' hl,wpAny_loadPart' hb
  show R (.ok (.ret (.bool (decide (its.size<l5.size))))) _
  rw[hsz,decide_eq_false (Nat.lt_irrefl _)]
  exact h
 |succ k ih=>
  intro i hk prog w A R s h
  obtain⟨hp,g,d,tk,os⟩:=s;obtain⟨hl,hb,he,hf,h⟩:=h
  wp_walk using wpAny_loadPart' hl,wpAny_loadPart' hb
  have hlt:i<its.size:=by omega
  have Lg:i<l5.size:=by omega
  have hi1:its[((i:Nat):Int).toNat]?=some its[i]:=by simp[hlt]
  have hi2:l5[((i:Nat):Int).toNat]?=some l5[i]:=by simp[Lg]
  have hc:((i:Int)+1)=((i+1:Nat):Int):=by push_cast;rfl
  rw[hi1,hi2]
  refine wpAny_bind (he i hlt Lg prog w _ _ ?_)
  unfold rE at h
  cases hb':e i with
  |true=>
   rw[hb',if_pos rfl]at h
   wp_walk
   rw[hc]
   exact⟨plainId_quiet plain_eq_loop _,codeAny_builtin entry_eq_loop (by
    rw[Around.under_plainId plain_eq_loop _]
    exact ih (i+1) (by omega) prog w A R _ ⟨hl,hb,he,hf,h⟩)⟩
  |false=>
   rw[hb',if_neg (by simp)]at h
   wp_walk using wpAny_loadPart' hl,wpAny_loadPart' hb
   rw[hi1,hi2]
   refine wpAny_bind (hf i hlt Lg hb' prog w _ _ ?_)
   wp_walk
   exact h
theorem vE(l b:Addr)(its l5:Array Value)(n n2:Nat)(dd dd2:Option Addr)(sl sl2:Array (Option Value))(hsz:its.size=l5.size)(e f:Nat->Bool):
  Meets (Builtin.«list.__lt__» ⟨[.ref l,.ref b],[]⟩)
   (λA R s=>s.heap.get? l=some {cls:= .type "list",dict:=dd,data:= .seq its n,slots:=sl}/\s.heap.get? b=some {cls:= .type "list",dict:=dd2,data:= .seq l5 n2,slots:=sl2}/\
    (∀j (h1:j<its.size) (h2:j<l5.size),EqAt A.in1 s its[j] l5[j] (e j))/\
    (∀j (h1:j<its.size) (h2:j<l5.size),e j=false->rD A.in1 s its[j] l5[j] (f j))/\
    R (.ok (.ret (.bool (rE e f its.size 0)))) s):=by
 intro prog w A R s h
 obtain⟨hp,g,d,tk,os⟩:=s;obtain⟨hl,hb,he,hf,h⟩:=h
 have f3:=AutoSeq1.sub_list_list
 wp_walk using wpAny_loadPart' hl,wpAny_loadPart' hb
 exact⟨plainId_quiet plain_eq_loop _,codeAny_builtin entry_eq_loop (by
  rw[Around.under_plainId plain_eq_loop _]
  exact Df l b its l5 n n2 dd dd2 sl sl2 hsz e f _ 0 rfl prog w A R _ ⟨hl,hb,he,hf,h⟩)⟩
section
variable{A:Around}{s:Shared}
theorem rD.lists{l b:Addr}{its l5:Array Value}{e f:Nat->Bool}(hl:s.heap.IsList l its)(hb:s.heap.IsList b l5)(hsz:its.size=l5.size)(hu:A.units<cLine)
  (he:∀j (h1:j<its.size) (h2:j<l5.size),EqAt A.in1 s its[j] l5[j] (e j))(hf:∀j (h1:j<its.size) (h2:j<l5.size),e j=false->rD A.in1 s its[j] l5[j] (f j)):
  rD A s (.ref l) (.ref b) (rE e f its.size 0):=λprog w E Q h=>by
 obtain⟨⟨cls,dd,data,sl⟩,ho,hc,n,hd⟩:=id hl
 obtain⟨⟨PN,dd2,data2,sl2⟩,ho2,hc2,n2,hd2⟩:=id hb
 simp only at hc hd hc2 hd2
 subst hc hd hc2 hd2
 exact richCompare_meets_room (op:= .Lt) ⟨_,ho,rfl⟩ ⟨_,ho2,rfl⟩ F.slot_list_lt F.entry_list_lt (F.args_list_lt_2 _ _) (vE l b its l5 n n2 dd dd2 sl sl2 hsz e f)
  ⟨ho,ho2,he,hf,show Value.bool (rE e f its.size 0)≠Value.notImplemented/\Q (.bool (rE e f its.size 0)) s from⟨(λx=>nomatch x),h⟩⟩ hu
theorem rD.int_int(a:Int)(t:Tok)(b:Int)(u:Tok):rD A s (.int a t) (.int b u) (decide (a<b)):=λprog w E Q h=>
 richCompare_gives (typeIs_int s a t) (typeIs_int s b u) F.slot_int_lt F.entry_int_lt (F.args_int_lt_2 _ _) (AutoIntG1.int___lt___int_int_0 a t b u) (λx=>nomatch x) h
end
abbrev Hh (xs ys:List PyData) (j:Nat):Bool:=Hg (xs.getD j .none) (ys.getD j .none)
theorem sW(x y:PyData)(xs ys:List PyData):∀k i,rE (pairEq (x::xs) (y::ys)) (Hh (x::xs) (y::ys)) k (i+1)=rE (pairEq xs ys) (Hh xs ys) k i
 |0,_=>rfl
 |k+1,i=>by
  show(if pairEq (x::xs) (y::ys) (i+1)then _ else Hh (x::xs) (y::ys) (i+1))=if pairEq xs ys i then _ else Hh xs ys i
  rw[sW x y xs ys k (i+1)]
  rfl
theorem qa:∀{xs ys:List PyData},nF xs ys->rE (pairEq xs ys) (Hh xs ys) xs.length 0=wR xs ys
 |_,_,.nil=>rfl
 |_,_,.cons (x:=x) (y:=y) (xs:=xs) (ys:=ys) c cs=>by
  show(if pairEq (x::xs) (y::ys) 0 then rE (pairEq (x::xs) (y::ys)) (Hh (x::xs) (y::ys)) xs.length (0+1)else Hh (x::xs) (y::ys) 0)=if PyData.eqv x y then wR xs ys else Hg x y
  rw[sW,qa cs]
  rfl
theorem nF.length:∀{xs ys:List PyData},nF xs ys->xs.length=ys.length
 |_,_,.nil=>rfl
 |_,_,.cons _ cs=>congrArg (· +1) cs.length
mutual
theorem sX:∀{da db:PyData},Al da db-> ∀{A:Around} {s:Shared} {a b:Value} {as bs:List Addr},Reads s.heap a da as->Reads s.heap b db bs->da.canLay0=true->db.canLay0=true->
  A.units+min da.depth db.depth<cLine->rD A s a b (Hg da db)
 |_,_,.int x y,A,s,_,_,_,_,ra,rb,_,_,_=>by
  cases ra
  cases rb
  exact rD.int_int x _ y _
 |_,_,.lst (xs:=xs) (ys:=ys) cs,A,s,_,_,_,_,ra,rb,ha,hb,hu=>by
  cases ra with
  | @list l o vs n _ as₁ h1 h2 h3 h4=>
   cases rb with
   | @list l' o' vs' n' _ bs₁ k1 k2 k3 k4=>
    have n1:vs.size=xs.length:=by simpa using ReadsAll.length _ _ _ h4
    have n2:vs'.size=ys.length:=by simpa using ReadsAll.length _ _ _ k4
    have hl:s.heap.IsList l vs:=⟨_,h1,h2,_,h3⟩
    have hl':s.heap.IsList l' vs':=⟨_,k1,k2,_,k3⟩
    have:=rD.lists (e:=pairEq xs ys) (f:=Hh xs ys) hl hl' (by rw[n1,n2,cs.length]) (room_here hu) (λj j1 j2=>by
     have:=eqAt_readsAll xs ys A.in1 s vs.toList vs'.toList _ _ h4 k4 ha hb (room_in hu) j (by simpa using j1) (by simpa using j2)
     simpa using this) (λj j1 j2 _=>by
     have:=jO (A:=A.in1) cs h4 k4 ha hb (room_in hu) j (by simpa using j1) (by simpa using j2)
     simpa using this)
    rw[n1,qa cs]at this
    exact this
theorem jO:∀{xs ys:List PyData},nF xs ys-> ∀{A:Around} {s:Shared} {vs ws:List Value} {as bs:List Addr},ReadsAll s.heap vs xs as->ReadsAll s.heap ws ys bs->PyData.canLayAll0 xs=true->PyData.canLayAll0 ys=true->
  A.units+min (PyData.depthAll xs) (PyData.depthAll ys)<cLine-> ∀j (h1:j<vs.length) (h2:j<ws.length),rD A s vs[j] ws[j] (Hh xs ys j)
 |_,_,.nil,_,_,_,_,_,_,ra,_,_,_,_,j,h1,_=>by cases ra;exact absurd h1 (Nat.not_lt_zero _)
 |_,_,.cons (x:=x) (y:=y) (xs:=xs) (ys:=ys) c cs,A,s,_,_,_,_,ra,rb,ha,hb,hu,j,h1,h2=>by
  have ha':x.canLay0=true/\PyData.canLayAll0 xs=true:=by simpa [PyData.canLayAll0]using ha
  have hb':y.canLay0=true/\PyData.canLayAll0 ys=true:=by simpa [PyData.canLayAll0]using hb
  cases ra with
  |cons r rs=>
   cases rb with
   |cons r' rs'=>
    cases j with
    |zero=>exact sX c r r' ha'.1 hb'.1 (room_head hu)
    |succ j=>exact jO cs rs rs' ha'.2 hb'.2 (room_tail hu) j (Nat.lt_of_succ_lt_succ h1) (Nat.lt_of_succ_lt_succ h2)
end
section
variable{prog:Program}{w:World}{A:Around}{E:Value->Shared->Prop}{s:Shared}
theorem wU{l b:Addr}{its l5:Array Value}{e f:Nat->Bool}{Q:Value->Shared->Prop}(hl:s.heap.IsList l its)(hb:s.heap.IsList b l5)(hsz:its.size=l5.size)
  (he:∀j (h1:j<its.size) (h2:j<l5.size),EqAt A.in1 s its[j] l5[j] (e j))(hf:∀j (h1:j<its.size) (h2:j<l5.size),e j=false->rD A.in1 s its[j] l5[j] (f j))
  (h:Q (.bool (rE e f its.size 0)) s):wpAny (model prog w) A (call (.builtin "list.__lt__") [.ref l,.ref b]) Q E s:=by
 obtain⟨⟨cls,dd,data,sl⟩,ho,hc,n,hd⟩:=id hl
 obtain⟨⟨PN,dd2,data2,sl2⟩,ho2,hc2,n2,hd2⟩:=id hb
 simp only at hc hd hc2 hd2
 subst hc hd hc2 hd2
 exact call_meets F.slot_list_lt ⟨_,ho,rfl⟩ F.entry_list_lt (F.args_list_lt_2 _ _) (vE l b its l5 n n2 dd dd2 sl sl2 hsz e f) ⟨ho,ho2,he,hf,h⟩
theorem q8{da db:PyData}(c:Al da db){a b:Value}{as bs:List Addr}(ra:Reads s.heap a da as)(rb:Reads s.heap b db bs)(ha:da.canLay0=true)(hb:db.canLay0=true)
  (hu:A.units+min da.depth db.depth<cLine){Q:Bool->Shared->Prop}(h:Q (Hg da db) s):wpAny (model prog w) A (oneLt' true a b) Q E s:=by
 cases c with
 |int x y=>
  cases ra
  cases rb
  exact oneLt_int h
 | @lst xs ys cs=>
  cases ra with
  | @list l o vs n _ as₁ h1 h2 h3 h4=>
   cases rb with
   | @list l' o' vs' n' _ bs₁ k1 k2 k3 k4=>
    have n1:vs.size=xs.length:=by simpa using ReadsAll.length _ _ _ h4
    have n2:vs'.size=ys.length:=by simpa using ReadsAll.length _ _ _ k4
    have hl:s.heap.IsList l vs:=⟨_,h1,h2,_,h3⟩
    have hl':s.heap.IsList l' vs':=⟨_,k1,k2,_,k3⟩
    rw[oneLt'_eq]
    simp only[if_true]
    refine wpAny_bind (wpAny_cRoomFor_or (.inr (room_here hu)) ?_)
    refine wpAny_bind (wpAny_callSpecialIfBound?_slot (T:= "list") (id:= "list.__lt__") ⟨o,h1,h2⟩ F.slot_list_lt (wU (e:=pairEq xs ys) (f:=Hh xs ys) hl hl' (by rw[n1,n2,cs.length]) (λj j1 j2=>by
     have:=eqAt_readsAll xs ys A.in1 s vs.toList vs'.toList _ _ h4 k4 ha hb (room_in hu) j (by simpa using j1) (by simpa using j2)
     simpa using this) (λj j1 j2 _=>by
     have:=jO (A:=A.in1) cs h4 k4 ha hb (room_in hu) j (by simpa using j1) (by simpa using j2)
     simpa using this) ?_))
    rw[n1,qa cs]
    exact wpAny_truthy_bool h
theorem Am{da db:PyData}(c:Al da db){a b:Value}{as bs:List Addr}(ra:Reads s.heap a da as)(rb:Reads s.heap b db bs)(ha:da.canLay0=true)(hb:db.canLay0=true)
  (hu:A.units+min da.depth db.depth<cLine)(k:Bool){Q:Bool->Shared->Prop}(h:Q (Hg da db) s):wpAny (model prog w) A (oneLt' k a b) Q E s:=by
 cases k with
 |true=>exact q8 c ra rb ha hb hu h
 |false=>
  refine PySem.W.kat_one a b (sX c ra rb ha hb hu prog w E _ ?_)
  exact h
theorem vF{b:Bool}{Q:Bool->Shared->Prop}:∀{xs ys:List PyData},nF xs ys-> ∀{vs ws:List Value} {as bs:List Addr},ReadsAll s.heap vs xs as->ReadsAll s.heap ws ys bs->PyData.canLayAll0 xs=true->PyData.canLayAll0 ys=true->
  A.units+min (PyData.depthAll xs) (PyData.depthAll ys)<cLine-> ∀i,Q (wR xs ys) s->PySem.W.KatLex prog w A b false Q (vs.zip ws) i s
 |_,_,.nil,_,_,_,_,ra,rb,_,_,_,i,h=>by
  cases ra
  cases rb
  exact PySem.W.kat_nil h
 |_,_,.cons (x:=x) (y:=y) (xs:=xs) (ys:=ys) c cs,_,_,_,_,ra,rb,ha,hb,hu,i,h=>by
  have ha':x.canLay0=true/\PyData.canLayAll0 xs=true:=by simpa [PyData.canLayAll0]using ha
  have hb':y.canLay0=true/\PyData.canLayAll0 ys=true:=by simpa [PyData.canLayAll0]using hb
  cases ra with
  |cons r rs=>
   cases rb with
   |cons r' rs'=>
    refine PySem.W.kat_cons (eqAt_reads x y A s _ _ _ _ r r' ha'.1 hb'.1 (room_head hu) prog w _ _ ?_)
    have h':Q (if PyData.eqv x y then wR xs ys else Hg x y) s:=h
    cases e:PyData.eqv x y with
    |true=>
     rw[e,if_pos rfl]at h'
     exact PySem.W.kat_yes (vF cs rs rs' ha'.2 hb'.2 (room_tail hu) (i+1) h')
    |false=>
     rw[e,if_neg (by simp)]at h'
     exact PySem.W.kat_no (Am c r r' ha'.1 hb'.1 (room_head hu) _ h')
end
end L2
namespace L2
open PySem PySem.Spec PyProof.Rows PySem.SeqAt wO
section
variable{prog:Program}{w:World}{A:Around}{E:Value->Shared->Prop}{s:Shared}
structure wV(prog:Program)(w:World)(A:Around)(E:Value->Shared->Prop)(a:Addr)(vs:List Value)(κ:SortKind)(K:Keyed->Int)(s:Shared):Prop where
 kind:2<=vs.length-> ∀s':Shared,(∀b o,b≠a->s.heap.get? b=some o->s'.heap.get? b=some o) -> ∀Q:SortKind->Shared->Prop,Q κ s'->wpAny (model prog w) A (keyKind' vs.toArray) Q E s'
 lt:∀s':Shared,(∀b o,b≠a->s.heap.get? b=some o->s'.heap.get? b=some o) ->pD prog w A E s' κ K (λp=>p.1=p.2/\p.1∈vs)
theorem yF{vs:List Value}{K:Keyed->Int}{xs:Array Keyed}(hp:xs.Perm (pairsOf vs))(hs:So K xs 0 vs.length):
  ((xs.map (·.2)).toList).Perm vs/\((xs.map (·.2)).toList).Pairwise λx y=>K (x,x)<=K (y,y):=by
 have hl:xs.toList.Perm (vs.zip vs):=by rw[<-pairsOf_toList];exact Array.perm_iff_toList_perm.mp hp
 have hm:∀p,p∈xs.toList->p.1=p.2/\p.1∈vs:=λp q=>mem_zip_self (hl.mem_iff.mp q)
 have len:xs.toList.length=vs.length:=by rw[hl.length_eq];simp
 constructor
 ·have:=hl.map Prod.snd
  rw[List.map_snd_zip (Nat.le_refl _)]at this
  simpa using this
 ·have h2:=(p9 (K:=K) (a:=xs) (lo:=0) (n:=vs.length) (by rw[Nat.zero_add,<-len];exact Nat.le_of_eq (Array.length_toList ..))).mp hs
  have e:sl xs 0 vs.length=xs.toList:=by
   show(xs.toList.drop 0).take vs.length=_
   rw[List.drop_zero,List.take_of_length_le (by omega)]
  rw[e]at h2
  rw[Array.toList_map,List.pairwise_map]
  refine h2.imp_of_mem λ {p q} p1 q1 h=> ?_
  have ep:(p.2,p.2)=p:=Prod.ext (hm p p1).1.symm rfl
  have eq:(q.2,q.2)=q:=Prod.ext (hm q q1).1.symm rfl
  rw[ep,eq]
  exact h
theorem Im{a:Addr}{vs:List Value}{n:Nat}{P:PySem.Fin->Shared->Prop}{κ:SortKind}{K:Keyed->Int}(ho:s.heap.get? a=some (seqObj "list" vs.toArray n))(hz:vs.length<=sizeLine)
  (ask:wV prog w A E a vs κ K s)(h:∀out:List Value,out.Perm vs->out.Pairwise (λx y=>K (x,x)<=K (y,y)) ->P (.done (.ret .none)) {s with heap:=sortedHeap s.heap a vs out.toArray}):
  wpAny (model prog w) A (Builtin.«list.sort» ⟨[.ref a],[]⟩) P E s:=by
 rw[list_sort_plain]
 have la:a<s.heap.objs.size:=Heap.lt_size ho
 have fin:∀st':SortSt,(arrOf st').Perm (pairsOf vs) ->So K (arrOf st') 0 vs.length->P (.done (.ret .none)) {s with heap:=sortedHeap s.heap a vs ((arrOf st').map (·.2))}:=λst' hp hs=>by
  obtain⟨q1,q2⟩:=yF hp hs
  have:=h _ q1 q2
  rwa [Array.toArray_toList]at this
 refine wpAny_bind (listItems_at ho rfl ?_)
 refine wpAny_bind (listUpdate_at ho rfl ?_ (by simpa using hz) (Nat.zero_le _))
 obtain⟨e1,Rj⟩:∃e1,(s.heap.update a (Obj.mapSeq λ_=> #[])).get? a=some (seqObj "list" #[] e1):=⟨_,get?_update_seq ho (λ_=> #[])⟩
 refine wpAny_bind (seqEpoch_at Rj rfl ?_)
 refine wpAny_bind (wpAny_newTuple ?_ (by simpa using hz))
 refine wpAny_bind (wpAny_newList ?_ (Nat.zero_le _))
 refine wpAny_holding ?_
 generalize hg:(((s.heap.update a (Obj.mapSeq λ_=> #[])).push (seqObj "tuple" vs.toArray 0)).push (seqObj "list" #[] 0))=iD
 have keep:∀b o,b≠a->s.heap.get? b=some o->iD.get? b=some o:=λb o hb e=>by
  rw[<-hg]
  refine Heap.get?_push_of_some _ (Heap.get?_push_of_some _ ?_)
  rw[Heap.get?_update_ne _ _ _ _ hb]
  exact e
 have ho6:iD.get? a=some (seqObj "list" #[] e1):=by
  rw[<-hg]
  exact Heap.get?_push_of_some _ (Heap.get?_push_of_some _ Rj)
 have sh:∀out,sortedHeap s.heap a vs out=iD.update a (Obj.mapSeq λ_=>out):=λout=>by rw[<-hg];rfl
 have UQ:vs.toArray.size=vs.length:=by simp
 have bound:∀st':SortSt,(arrOf st').Perm (pairsOf vs) ->((arrOf st').map (·.2)).size<=sizeLine+1:=λst' hp=>by
  rw[Array.size_map,hp.size_eq,pairsOf_size]
  omega
 show wpAny (model prog w) A _ P E {s with heap:=iD}
 dsimp only
 by_cases h2:vs.toArray.size<2
 ·rw[if_pos h2,if_pos h2]
  refine wpAny_bind (wpAny_pure ?_)
  rw[StateT.run_pure]
  refine wpAny_bind (wpAny_pure ?_)
  dsimp only
  refine wpAny_bind (seqEpoch_at ho6 rfl ?_)
  refine wpAny_bind (listUpdate_at ho6 rfl ?_ (Nat.zero_le _) (bound (SortSt.mk' general' (pairsOf vs) #[] 7 none) (Array.Perm.refl _)))
  simp only[bne_self_eq_false,Bool.false_eq_true,if_false]
  have:=fin (SortSt.mk' general' (pairsOf vs) #[] 7 none) (Array.Perm.refl _) (λi j hij hj=>by
   have:i=j:=by omega
   subst this;exact Int.le_refl _)
  rw[sh]at this
  exact wpAny_pure this
 ·rw[if_neg h2,if_neg h2]
  refine wpAny_bind (ask.kind (by omega) {s with heap:=iD} keep _ ?_)
  have R:RI κ K (λp=>p.1=p.2/\p.1∈vs) (pairsOf vs) 0 (SortSt.mk' κ (pairsOf vs) #[] 7 none):=by
   refine⟨⟨rfl,rfl,λp hp=> ?_⟩,Array.Perm.refl _,rfl,Nat.zero_le _⟩
   have iD:p∈(pairsOf vs).toList:=hp
   rw[pairsOf_toList]at iD
   exact mem_zip_self iD
  refine wpAny_bind (wpAny_mono (Lf (ask.lt {s with heap:=iD} keep) (Q:=λ_ st'=>(arrOf st').Perm (pairsOf vs)/\failedOf st'=none/\So K (arrOf st') 0 (pairsOf vs).size) R λst' a1 a2 a3=>⟨a1,a2,a3⟩) ?_ λ_ _ e=>e)
  rintro⟨⟨⟩,st'⟩ s' ⟨rfl,hp,hf,hs⟩
  dsimp only
  rw[pairsOf_size]at hs
  refine wpAny_bind (seqEpoch_at ho6 rfl ?_)
  refine wpAny_bind (listUpdate_at ho6 rfl ?_ (Nat.zero_le _) (bound st' hp))
  rw[hf]
  simp only[bne_self_eq_false,Bool.false_eq_true,if_false]
  have:=fin st' hp hs
  rw[sh]at this
  exact wpAny_pure this
theorem FH{l:Addr}{vs:List Value}{Q:Value->Shared->Prop}{κ:SortKind}{K:Keyed->Int}(hl:s.heap.IsList l vs.toArray)(hz:vs.length<=sizeLine)
  (ask:∀(a:Addr) (s':Shared),s.heap.objs.size<=a->(∀b o,s.heap.get? b=some o->s'.heap.get? b=some o) ->wV prog w A.in1.in1 E a vs κ K s')
  (h:∀out:List Value,out.Perm vs->out.Pairwise (λx y=>K (x,x)<=K (y,y)) ->Q (.ref (s.heap.objs.size+1)) {s with heap:=sortedAll s.heap vs out.toArray}):
  wpAny (model prog w) A (call (.builtin "sorted") [.ref l]) Q E s:=by
 refine Calls.call_function_entry kind_sorted plain_sorted entry_sorted (args_sorted1 _) ?_
 unfold Builtin.«sorted»
 refine wpAny_bind (m:=checkCount "sorted" 1 1 _) (wpAny_pure ?_)
 refine wpAny_bind (collect_list hl ?_ hz)
 refine wpAny_bind (wpAny_newList ?_ (by simpa using hz))
 have z1:((s.heap.push (seqObj "list" #[] 0)).update s.heap.objs.size (Obj.mapSeq (· ++vs.toArray))).objs.size=s.heap.objs.size+1:=by
  rw[Heap.size_update,size_push']
 generalize hg:((s.heap.push (seqObj "list" #[] 0)).update s.heap.objs.size (Obj.mapSeq (· ++vs.toArray)))=h1 at z1
 have keep:∀b o,s.heap.get? b=some o->(h1.push (seqObj "list" vs.toArray 0)).get? b=some o:=λb o e=>by
  have lb:=Heap.lt_size e
  refine Heap.get?_push_of_some _ ?_
  rw[<-hg,Heap.get?_update_ne _ _ _ _ (Nat.ne_of_lt lb)]
  exact Heap.get?_push_of_some _ e
 have JR:(h1.push (seqObj "list" vs.toArray 0)).get? (s.heap.objs.size+1)=some (seqObj "list" vs.toArray 0):=by
  rw[<-z1];exact Heap.get?_push_size _ rfl
 show wpAny _ _ _ _ _ {s with heap:=h1.push (seqObj "list" vs.toArray 0)}
 rw[z1]
 refine wpAny_bind (wpAny_holding (wpAny_call_entry slot_list_sort ⟨_,JR,rfl⟩ entry_list_sort (Im JR hz (ask _ _ (Nat.le_succ _) keep) λout a1 a2=>⟨_,rfl,?_⟩) (args_list_sort _)))
 refine wpAny_pure ⟨_,rfl,?_⟩
 have:=h out a1 a2
 unfold sortedAll at this
 rw[hg]at this
 exact this
end
def Rk(rk:Addr->Int):Value->Int
 | .ref a=>rk a
 |_=>0
def BW(K:PySem.W.Frag):List V->Hp->VK->Prop:=λxs H Q=> ∃(p:Addr) (as:List Addr) (rk:Addr->Int) (dt:Addr->PyData),xs=[.ref p]/\aT K H p (as.map V.ref)/\
 (∀a∈as,BK K H (.ref a) (dt a)/\shaped (dt a)=true)/\
 ((∀a∈as,∀b∈as,Al (dt a) (dt b)/\Hg (dt a) (dt b)=decide (rk a<rk b))∨
  (∀a∈as,∀b∈as,∃i ds j es,dt a= .tuple (.int i::ds)/\dt b= .tuple (.int j::es)/\nF (.int i::ds) (.int j::es)/\wR (.int i::ds) (.int j::es)=decide (rk a<rk b)))/\
 ∀bs:List Addr,bs.Perm as->bs.Pairwise (λa b=>rk a<=rk b) -> ∀l,H l=none->Q (.ref l) (upd H l (.lst (bs.map V.ref)))
section
variable{prog:Program}{w:World}{A:Around}{E:Value->Shared->Prop}{s:Shared}
theorem wW{κ:SortKind}{K:Keyed->Int}{D:Keyed->Prop}(h:∀x y:Keyed,D x->D y-> ∀(E:Value->Shared->Prop) (Q:Bool->Shared->Prop),Q (decide (K x<K y)) s->wpAny (model prog w) A (keyLt' κ x.1 y.1) Q E s):pD prog w A E s κ K D:=by
 intro st x y Q hk hx hy hq
 rw[lt'_eq]
 refine wpS_bind (wpS_get ?_)
 rw[hk]
 refine wpS_bind (wpS_lift (wpAny_attempt (h x y hx hy _ _ ⟨rfl,?_⟩)))
 exact wpS_pure hq
theorem BX:∀{as:List Addr} {us:List Value},Vals (as.map V.ref) us->us=as.map Value.ref
 | [],_,h=>by cases h;rfl
 |a::as,_,h=>by
  cases h with
  |cons r rs=>
   cases r
   rw[BX rs]
   rfl
theorem BY:∀as:List Addr,Vals (as.map V.ref) (as.map Value.ref)
 | []=> .nil
 |a::as=> .cons rfl (BY as)
end
theorem ReadsAll.keeps'{h h':Heap}(hk:∀b o,h.get? b=some o->h'.get? b=some o){vs:List Value}{ds:List PyData}{as:List Addr}(r:ReadsAll h vs ds as):ReadsAll h' vs ds as:=by
 induction vs generalizing ds as with
 |nil=>cases r;exact .nil
 |cons v vs ih=>
  cases r with
  |cons r1 r2=>exact .cons (Reads.keeps hk r1) (ih r2)
section
variable{X:Cx}
theorem l6(hu:X.A.units+70<cLine):oR X (.builtin "sorted") (BW X.K):=by
 intro pins s σ H xs us Q I r h
 obtain⟨p,as,rk,dt,rfl,hq,hd,hc,q⟩:=h
 obtain⟨u,rfl,rx⟩:=vals1 r
 cases rx
 obtain⟨its,rv,pl,hz⟩:=I.list hq
 obtain rfl:=BX rv
 have len:(as.map Value.ref).length=as.length:=List.length_map _
 rw[List.length_map]at hz
 have rd:∀a∈as,∃xs,Reads s.heap (.ref a) (dt a) xs:=λa ha=>j6 I (hd a ha).1 rfl
 have old:∀{a:Addr} {s1 s2:Shared},s.heap.objs.size<=a->(∀b o,s.heap.get? b=some o->s1.heap.get? b=some o) ->(∀b o,b≠a->s1.heap.get? b=some o->s2.heap.get? b=some o) -> ∀b o,s.heap.get? b=some o->s2.heap.get? b=some o:=λh1 h2 h3 b o e=>
  h3 b o (Nat.ne_of_lt (Nat.lt_of_lt_of_le (Heap.lt_size e) h1)) (h2 b o e)
 have mem:∀{v:Value},v∈as.map Value.ref-> ∃a,a∈as/\v= .ref a:=λhv=>by
  obtain⟨a,ha,rfl⟩:=List.mem_map.mp hv
  exact⟨a,ha,rfl⟩
 have fin:∀κ:SortKind,(∀(a:Addr) (s':Shared),s.heap.objs.size<=a->(∀b o,s.heap.get? b=some o->s'.heap.get? b=some o) ->wV X.prog X.w X.A.in1.in1 X.xe a (as.map Value.ref) κ (λp=>Rk rk p.1) s') ->
   wpAny (model X.prog X.w) X.A (call (.builtin "sorted") [.ref p]) (EP X pins σ Q) X.xe s:=by
  intro κ ask
  refine FH (κ:=κ) (K:=λp=>Rk rk p.1) pl.isList (by rw[len];exact hz) ask λout hp hs=> ?_
  obtain⟨bs,rfl,pb⟩:∃bs:List Addr,out=bs.map Value.ref/\bs.Perm as:=by
   have g:∀v∈out,∃a,v=Value.ref a:=λv hv=>by
    obtain⟨a,_,e⟩:=mem (hp.mem_iff.mp hv)
    exact⟨a,e⟩
   have e:∀l:List Value,(∀v∈l,∃a,v=Value.ref a) ->l=(l.map λv=>match v with| .ref a=>a|_=>0).map Value.ref:=λl=>by
    induction l with
    |nil=>intro _;rfl
    |cons v l ih=>
     intro hl
     obtain⟨a,rfl⟩:=hl v List.mem_cons_self
     rw[List.map_cons,List.map_cons,<-ih λv hv=>hl v (List.mem_cons_of_mem _ hv)]
   refine⟨_,e out g,?_⟩
   have:=hp.map λv:Value=>match v with| .ref a=>a|_=>0
   rw[List.map_map]at this
   have e2:(as.map ((λv:Value=>match v with| .ref a=>a|_=>0) ∘ Value.ref))=as:=by
    conv=>rhs;rw[<-List.map_id as]
    rfl
   rwa [e2]at this
  have so:bs.Pairwise λa b=>rk a<=rk b:=by
   rw[List.pairwise_map]at hs
   exact hs
  have zb:bs.length<=sizeLine:=by rw[pb.length_eq];exact hz
  obtain⟨c,hc⟩:=sortedAll_at s.heap (as.map Value.ref) (bs.map Value.ref).toArray
  exact⟨.ref (s.heap.objs.size+1),_,I.laid (t':=s.toks) (λb o e=>sortedAll_old e) (Nat.le_succ _) (show eU X.prog X.w _ _ _ (.lst (bs.map V.ref))from⟨by rw[List.length_map];exact zb,_,c,BY bs,hc⟩),rfl,q bs pb so _ (I.hok.fresh (Nat.le_succ _))⟩
 rcases hc with hc|hc
 ·--lists
  refine fin oneType' λa s1 h1 h2=>⟨λ_ s2 h3 Q' hQ=> ?_,λs2 h3=>wW λx y hx hy E' Q' hQ=> ?_⟩
  ·refine PySem.W.kas_kind (T:= .type "list") (by rw[len]at *;omega) (λv hv=> ?_) (by decide+kernel) (by decide+kernel) hQ
   obtain⟨b,hb,rfl⟩:=mem hv
   obtain⟨cs,rb⟩:=rd b hb
   have cm:=(hc b hb b hb).1
   cases e:dt b with
   |list ds=>
    rw[e]at rb
    cases rb with
    | @list l o vs n _ as₁ k1 k2 k3 k4=>
     have:PySem.W.Looks (model X.prog X.w) s2.heap (typeOf (.ref b)) o.cls:=(PySem.W.Looks.ld (old h1 h2 h3 _ _ k1)).andThen PySem.W.Looks.now
     rw[k2]at this
     exact this
   |_=>rw[e]at cm;cases cm<;>(rw[e]at rb;cases rb)
  ·obtain⟨e1,m1⟩:=hx
   obtain⟨e2,m2⟩:=hy
   obtain⟨b,hb,eb⟩:=mem m1
   obtain⟨c,hc',ec⟩:=mem m2
   obtain⟨cs,rb⟩:=rd b hb
   obtain⟨ds,rc⟩:=rd c hc'
   rw[eb,ec,keyLt'_oneType]
   obtain⟨cm,lt⟩:=hc b hb c hc'
   refine q8 cm (Reads.keeps (old h1 h2 h3) rb) (Reads.keeps (old h1 h2 h3) rc) (canLay_of_shaped (hd b hb).2) (canLay_of_shaped (hd c hc').2) (room_of_shaped (hd b hb).2 (show X.A.units+1+1+64<cLine by omega)) ?_
   rw[lt]
   rw[eb,ec]at hQ
   exact hQ
 ·--tuples
  refine fin (PyProof.Rows.tuples' true) λa s1 h1 h2=>⟨λl2 s2 h3 Q' hQ=> ?_,λs2 h3=>wW λx y hx hy E' Q' hQ=> ?_⟩
  ·have tp:∀v∈as.map Value.ref,∃b∈as,v= .ref b:=λv hv=>mem hv
   obtain⟨f,hf⟩:∃f:Addr->Value,∀b∈as,∃o ys n i t,s2.heap.get? b=some o/\o.cls= .type "tuple"/\o.data= .seq ys n/\ys[0]?=some (f b)/\f b= .int i t:=by
    refine⟨λb=>match s2.heap.get? b with|some ⟨_,_,.seq ys _,_⟩=>(ys[0]?).getD .none|_=> .none,λb hb=> ?_⟩
    obtain⟨i,ds,_,_,e,_⟩:=hc b hb b hb
    obtain⟨cs,rb⟩:=rd b hb
    rw[e]at rb
    cases rb with
    | @tuple l o vs n _ as₁ k1 k2 k3 k4=>
     have g:=old h1 h2 h3 _ _ k1
     obtain⟨cls,dd,data,sl⟩:=o
     simp only at k2 k3
     subst k2 k3
     obtain⟨vl⟩:=vs
     cases k4 with
     |cons r1 r2=>
      cases r1 with
      |int i t=>
       refine⟨_,_,n,i,t,g,rfl,rfl,?_,?_⟩
       ·dsimp only
        rw[g];rfl
       ·dsimp only
        rw[g];rfl
   refine PySem.W.kat_kind (fs:=as.map f) (T:= .type "int") (?_:PySem.W.KatTups s2.heap (as.map Value.ref) (as.map f)) (by rw[List.length_map];rw[len]at l2;omega) (λv hv=> ?_) (by decide+kernel) hQ
   ·clear hQ l2 mem tp fin rd hd hc rv pl hz len hq q
    induction as with
    |nil=>exact PySem.W.KatTups.nil
    |cons b as ih=>
     obtain⟨o,ys,n,i,t,k1,k2,k3,k4,k5⟩:=hf b List.mem_cons_self
     exact PySem.W.KatTups.cons k1 k2 k3 k4 (ih λc hc=>hf c (List.mem_cons_of_mem _ hc))
   ·obtain⟨b,hb,rfl⟩:=List.mem_map.mp hv
    obtain⟨o,ys,n,i,t,k1,k2,k3,k4,k5⟩:=hf b hb
    rw[k5]
    exact PySem.W.Looks.now
  ·obtain⟨e1,m1⟩:=hx
   obtain⟨e2,m2⟩:=hy
   obtain⟨b,hb,eb⟩:=mem m1
   obtain⟨c,hc',ec⟩:=mem m2
   obtain⟨cs,rb⟩:=rd b hb
   obtain⟨ds,rc⟩:=rd c hc'
   obtain⟨i,di,j,dj,t1,t2,cm,lt⟩:=hc b hb c hc'
   have sb:=hd b hb
   have sc:=hd c hc'
   rw[eb,ec]
   rw[eb,ec]at hQ
   rw[t1]at rb sb
   rw[t2]at rc sc
   cases rb with
   | @tuple l o vs n _ as₁ k1 k2 k3 k4=>
    cases rc with
    | @tuple l' o' vs' n' _ bs₁ g1 g2 g3 g4=>
     have n1:vs.size=(PyData.int i::di).length:=by simpa using ReadsAll.length _ _ _ k4
     have n2:vs'.size=(PyData.int j::dj).length:=by simpa using ReadsAll.length _ _ _ g4
     have ee:decide (vs.size<vs'.size)=false:=by
      rw[n1,n2,cm.length]
      exact decide_eq_false (Nat.lt_irrefl _)
     refine PySem.W.kat_lt (old h1 h2 h3 _ _ k1) k3 (old h1 h2 h3 _ _ g1) g3 ?_
     rw[ee]
     have ca:=canLay_of_shaped sb.2
     have cb:=canLay_of_shaped sc.2
     refine vF cm (ReadsAll.keeps' (old h1 h2 h3) k4) (ReadsAll.keeps' (old h1 h2 h3) g4) ca cb (room_in (room_of_shaped (A:=X.A.in1) (db:= .tuple (.int j::dj)) sb.2 (show X.A.units+1+64<cLine by omega))) 0 ?_
     rw[lt]
     exact hQ
end
end L2
namespace L2
open PySem PySem.Spec PyProof.Rows PySem.W PySem.Calls
abbrev kn (o:Obj):HO:= .vZ o (.ext λ_=>True)
theorem FI{P:Program}{w:World}{H:Hp}{h:Heap}{a:Addr}{o:Obj}(e:h.get? a=some o):eU P w H h a (kn o):=⟨e,trivial,⟨o,e⟩,λ_ _ _ _=>trivial⟩
theorem sY{pos pos2:Pos}{c:Value}:∀{l:List Value},TriplesOk l-> ∀{cv:Value},codeAmong pos (l++ [rawInt pos2.line,rawInt pos2.col,c])=some cv->codeAmong pos l=some cv∨cv=c
 | [],_,cv,h=>by
  simp only[List.nil_append,rawInt,codeAmong]at h
  split at h
  ·exact .inr (Option.some.inj h).symm
  ·cases h
 | .int x t:: .int y u::d::r,ht,cv,h=>by
  simp only[List.cons_append,codeAmong]at h ⊢
  split at h
  ·rename_i q
   rw[if_pos q]
   exact .inl h
  ·rename_i q
   rw[if_neg q]
   exact sY (l:=r) ht h
theorem pH{pos:Pos}{c:Value}:∀{l:List Value},TriplesOk l->TriplesOk (l++ [rawInt pos.line,rawInt pos.col,c])
 | [],_=>trivial
 | .int _ _:: .int _ _::_::r,h=>pH (l:=r) h
structure yG(X:Cx)(args:Arguments)(body:Expr)(sc:Scope)(H:Hp)(f:Addr):Prop where
 ex:∃(qual:Str) (pm ctv:Value) (c:Addr) (oc:Obj) (vs:Array Value) (q:Str) (t:Tok),
  H f=some (kn {cls:= .type "function",data:= .func (kla_fn "<lambda>" qual args body sc (b9 X.env sc.names []) pm (.ref c) ctv)})/\H c=some (kn oc)/\oc.data= .fields vs/\vs[1]?=some (.str q t)
theorem yG.same{X:Cx}{args:Arguments}{body:Expr}{sc:Scope}{H H':Hp}{f:Addr}(L:yG X args body sc H f)(s:ay H H'):yG X args body sc H' f:=by
 obtain⟨qual,pm,ctv,c,oc,vs,q,t,e1,e2,e3,e4⟩:=L.ex
 exact⟨qual,pm,ctv,c,oc,vs,q,t,s _ _ e1,s _ _ e2,e3,e4⟩
section
variable{X:Cx}{pins:List (Addr×Obj)}{σ:St}{H:Hp}{s:Shared}{P:Addr}{args:Arguments}{body:Expr}{sc:Scope}{pos:Pos}{own N2:List Str}
theorem Dg(I:Inv X pins σ H s)(hcd:fR X.K X.env.code P)(hP:(H P).isSome=true):∃c,X.env.code= .ref c/\CodeHd s.heap c P:=by
 obtain⟨c,o,vs,file,tf,flags,tg,Kw,text,tt,ec,hc,hcl,hd,h11,MT,h7,h9,Kx⟩:=hcd.ex
 have hcs:s.heap.get? c=some o:=I.v5 c o hc
 have hcn:H c=none:=(I.bs c o (I.ok.mod.LP c o hc)).2
 have ne:c≠P:=λe=>by rw[<-e,hcn]at hP;cases hP
 have Ky:vs.getD 11 .none= .ref P:=by
  have:vs.getD 11 .none=(vs[11]?).getD .none:=by simp
  rw[this,h11];rfl
 exact⟨c,ec,o,vs,file,tf,flags,tg,Kw,text,tt,hcs,hcl,hd,h11,Ky,MT,h7,h9,Kx,ne⟩
theorem Dh{Q:Value->Shared->Prop}{E:Value->Shared->Prop}{M:Model}{A:Around}(I:Inv X pins σ H s)(hcd:fR X.K X.env.code P)(hP:H P=some .xY)(bm:BM X.mg X.base)
  (Bk:pZ sc.names X.env.scope.names own N2 X.N)(hdef:defaultsOf args X.env=([],[]))
  (h:∀f H' s',Inv X pins σ H' s'->ay H H'->H f=none->yG X args body sc H' f->Q (.ref f) s'):wpAny M A (eval (.Lambda args body sc pos) X.env) Q E s:=by
 obtain⟨c,ec,C⟩:=Dg I hcd (by rw[hP];rfl)
 obtain⟨ps,eP,tr,cs⟩:=I.hok P _ hP
 obtain⟨Ob,ob,b1,b2,b3,b4,b5,b6⟩:=bm
 have hg:s.heap.Ns mainGlobals X.mg:=by have:=I.mod.glob.keeps I.bk;exact this
 have hgP:mainGlobals≠P:=λq=>by
  obtain⟨o,es,ep,e,hd,_⟩:=hg
  rw[q,eP]at e;cases e;cases hd
 have Tt:Ob≠mainGlobals:=λq=>by
  obtain⟨o,es,ep,e,hd,_⟩:=I.mod.glob
  rw[q,e]at b3;cases b3;rw[hd]at b6;cases b6
 have Tv:Ob≠P:=λq=>by
  have:=(I.bs _ _ b3).2
  rw[q,hP]at this;cases this
 have ba:s.heap.BuiltinsAt X.mg P:=⟨Ob,ob,b1,b2,Tt,Tv,I.bk _ _ b3,b4,b5,b6⟩
 refine kla_eval hdef ?_
 cases q:codeAmong pos ps.toList with
 |some cv=>
  obtain⟨c',oc,vs,q',t',rfl,e2,e3,e4⟩:=cs pos cv q
  refine kla_makeFunctionHit (mg:=X.mg) (rQ I Bk) I.ok.glob hg ec C eP tr q ba λctv h' tk hk hsz=> ?_
  have I1:Inv X pins σ H {s with heap:=h',toks:=tk}:=I.kept hk
  have I2:=I1.laid (a:=h'.objs.size) (o:=kn {cls:= .type "function",data:= .func (kla_fn "<lambda>" (X.env.qual++ "<lambda>") args body sc (b9 X.env sc.names []) ((X.mg "__name__").getD .none) (.ref c') ctv)}) (h':=h'.push _) (t':=tk) (λb o e=>Heap.get?_push_of_some _ e) (Nat.le_refl _) (FI (Heap.get?_push_size _ rfl))
  have fr:H h'.objs.size=none:=I1.hok.fresh (Nat.le_refl _)
  exact h _ _ _ I2 (ay.up fr) fr ⟨_,_,_,c',oc,vs,q',t',au,(ay.up fr) _ _ e2,e3,e4⟩
 |none=>
  refine kla_makeFunction (mg:=X.mg) (rQ I Bk) I.ok.glob hg ec C eP tr q hgP ba λc' ctv h' tk hx hge hlt hrec htb=> ?_
  obtain⟨c2,oc,vs,t,e2,hoc,hd,hv⟩:=hrec
  cases e2
  have LU:H c'=none:=I.hok.fresh hge
  have nP:P≠c':=λz=>by rw[z,LU]at hP;cases hP
  have I1:Inv X pins σ (upd H c' (kn oc)) {s with heap:=h',toks:=tk}:=by
   have ne:∀{b u},H b=some u->b≠c':=λ {b u} e z=>by rw[z,LU]at e;cases e
   have Rl:∀{b},H b=none->b≠P:=λ {b} e z=>by rw[z,hP]at e;cases e
   refine I.un (t':=tk) ⟨λb o e n _ _=>hx b o (Rl n) e,λb o e n _ _=>⟨o.slots,hx b o (Rl n) e⟩,λb o e n _=>by rw[aG (Nat.ne_of_lt (Nat.lt_of_lt_of_le (Heap.lt_size e) hge))];exact n,λb o e _=> ?_,
    λb xs e=>by rw[aG (ne e)];exact e,λb o u e=>by rw[aG (ne e)];exact e,λb ps e=>⟨#[],by rw[aG (ne e),e];simp⟩⟩ (λb u e=> ?_)
   ·by_cases hb:b=P
    ·subst hb;exact⟨_,htb⟩
    ·exact⟨o,hx b o hb e⟩
   ·by_cases hb:b=c'
    ·subst hb
     rw[au]at e
     cases e
     exact FI hoc
    ·rw[aG hb]at e
     by_cases hb2:b=P
     ·subst hb2
      rw[hP]at e
      cases e
      refine⟨_,htb,by simpa using pH tr,λpos2 cv e2=> ?_⟩
      have e3:codeAmong pos2 (ps.toList++ [rawInt pos.line,rawInt pos.col,.ref c'])=some cv:=by simpa using e2
      rcases sY tr e3 with z|z
      ·obtain⟨c3,Tw,Tz,q3,t3,f1,f2,f3,f4⟩:=cs pos2 cv z
       exact⟨c3,Tw,Tz,q3,t3,f1,by rw[aG (ne f2)];exact f2,f3,f4⟩
      ·exact⟨c',oc,vs,_,t,z,au,hd,hv⟩
     ·refine(I.hok b u e).stay (λd v hc2 q2=>hx d v (λz=> ?_) q2) (λd q2=>by rw[aG (ne q2)];exact q2) (λd xs q2=>by rw[aG (ne q2)];exact q2) (λd ob xs q2=>by rw[aG (ne q2)];exact q2)
      subst z
      rcases hc2 with z|z
      ·exact hb2 z.symm
      ·rw[hP]at z;cases z
  have I2:=I1.laid (a:=h'.objs.size) (o:=kn (kla_obj "<lambda>" (X.env.qual++ "<lambda>") args body sc (b9 X.env sc.names []) ((X.mg "__name__").getD .none) c' ctv)) (h':=h'.push _) (t':=tk) (λb o e=>Heap.get?_push_of_some _ e) (Nat.le_refl _) (FI (Heap.get?_push_size _ rfl))
  have MU:upd H c' (kn oc) h'.objs.size=none:=I1.hok.fresh (Nat.le_refl _)
  have Kc:H h'.objs.size=none:=by
   have:=MU
   rwa [aG (Nat.ne_of_gt hlt)]at this
  exact h _ _ _ I2 ((ay.up LU).trans (ay.up MU)) Kc ⟨_,_,_,c',oc,vs,_,t,au,(ay.up MU) _ _ au,hd,hv⟩
end
section
variable{prog:Program}{w:World}{A:Around}{R:Result->Shared->Prop}{s:Shared}
theorem An{a:Addr}{ar:Args}{o:Obj}{fd:FuncData}{bd:Expr}{q:Str}(room:A.depth<recursionLimit)(ho:s.heap.get? a=some o)(hfd:o.data= .func fd)
  (co:fd.scope.isCoroutine=false)(gen:fd.scope.isGenerator=false)(hbd:fd.body= .expr bd)(cd:s.heap.CodeRec fd.code q)
  (h:wpAny (model prog w) A.in1 (bindArgs fd ar) (λbs s1=>
   wpAny (model prog w) A.in1 (newFunctionEnv fd.scope fd.globals fd.closure bs (q++ ".<locals>.") (some a) fd.code none fd.builtins)
    (λev s2=>s2.heap.NoLimit/\codeAny (model prog w) A (.expr bd ev) R s2) (λe s'=>R (.error e) s') s1) (λe s'=>R (.error e) s') s):
  codeAny (model prog w) A (.call (.ref a) ar) R s:=by
 refine codeAny_of_tree ?_
 show wpAny _ A.in1 (callAny (.ref a) ar) _ _ s
 simp only[callAny]
 refine wpAny_bind (wpAny_load ho ?_)
 obtain⟨c,oc,vs,tq,hc,hoc,hdc,hq⟩:=cd
 simp only[hfd,callFunction,co,gen,hbd,hc]
 rw[hc]at h
 refine wpAny_bind (m:=field (.ref c) 1) (wpAny_field hoc hdc hq (wpAny_bind (wpAny_pure ?_)))
 refine wpAny_bind (wpAny_mono h (λbs s1 h1=>wpAny_bind (wpAny_mono h1 (λev s2 h2=> ?_) λ_ _ e=>e)) λ_ _ e=>e)
 exact wpAny_bind (wpAny_enterFrame h2.1 room (wpAny_pure (And.intro rfl h2.2)))
end
def Cx.lam(X:Cx)(B:Around)(sc:Scope)(N':List Str)(q:Str)(f:Addr)(cd:Value)(s:Shared)(H:Hp):Cx:=
 {X with
  N:=N'
  s₀:=s
  H₀:=H
  A:=B.deeper (envX q sc s.heap.objs.size f cd (b9 X.env sc.names []))
  env:=envX q sc s.heap.objs.size f cd (b9 X.env sc.names [])
  outer:=X.stack
  stack:=envX q sc s.heap.objs.size f cd (b9 X.env sc.names [])::X.stack
  ex:=[]
  fn:=λ_=>false
  calm:=true
  pn:=[]
  xe:=λ_ _=>False}
section
variable{X:Cx}{pins:List (Addr×Obj)}{σ:St}{H:Hp}{s:Shared}{sc:Scope}{x:Str}{N2:List Str}{B:Around}{q:Str}{f:Addr}{cd:Value}
theorem Io{h':Heap}{tk:Nat}{v:V}{u:Value}(I:Inv X pins σ H s)(Bk:pZ sc.names X.env.scope.names [x] N2 X.N)(hk:sc.kind= .function)(hnc:∀y∈sc.names,y.2≠ .cell)(hx:sc.names.lookup x=some .local)
  (hB:B.frames=some X.stack)(hh:B.handled=none)(hn:h'.Ns s.heap.objs.size (λy=>([(x,u)]:List (Str×Value)).reverse.lookup y))(keep:∀b o,s.heap.get? b=some o->h'.get? b=some o)(rv:RelV v u):
  Inv (X.lam B sc ([x]++N2) q f cd s H) [] (some v::σ) H {s with heap:=h',toks:=tk}:=by
 have iS:∀y c,(b9 X.env sc.names []).lookup y=some c->(y,NameKind.free)∈sc.names/\X.env.cells.lookup y=some c:=λy c h=>by
  have h2:(cellsFrom 0 sc.names (b9 X.env sc.names [])).lookup y=some c:=by rw[eF hnc];exact h
  rcases ig I Bk (mem_of_lookup h2)with⟨_,z⟩|z
  ·exact absurd rfl (hnc _ z)
  ·exact z
 have Eg:∀b:Addr,b∉(X.lam B sc ([x]++N2) q f cd s H).ex:=λb z=>absurd (show b∈([]:List Addr)from z) (by simp)
 have ok:(X.lam B sc ([x]++N2) q f cd s H).Ok:=by
  refine⟨I.ok.mod,hk,rfl,rfl,Nat.le_refl _,λy z c h1 h2=>I.ok.inj y z c (iS y c h1).2 (iS z c h2).2,λy hy=> ?_,λy c hy _=>absurd hy (by show ¬(false=true);decide),λ_=>hh,Around.frames_deeper hB,.inr ⟨rfl,rfl⟩,λb hb=>absurd hb (Eg b),I.bs,Nat.le_trans I.ok.Hr I.sz,λb _ _=>Eg b,λb hb=>absurd hb (Eg b),I.stack,I.rP⟩
  have hy':sc.names.lookup y=some .cell∨sc.names.lookup y=some .free:=hy
  rcases hy' with e|e
  ·exact absurd rfl (hnc _ (mem_of_lookup e))
  ·obtain⟨c,hc⟩:=je I Bk y (mem_of_lookup e)
   have:=kF (n:=0) I Bk (mem_of_lookup e) hc
   rw[eF hnc]at this
   exact⟨c,this⟩
 refine⟨ok,rfl,.refl I.bare.bare,Un.kept keep,⟨_,hn,λi y w e1 e2 e3=> ?_⟩,λy c hc=> ?_,I.fresh,λy c hc=>I.lI y c (iS y c hc).2,λp hp=>absurd (show p∈([]:List (Addr×Obj))from hp) (by simp),I.hok.kept keep,?_⟩
 ·cases i with
  |zero=>
   have ey:x=y:=Option.some.inj e1
   have ew:v=w:=by
    have:some (some v)=some (some w):=e2
    cases this;rfl
   subst ey ew
   refine⟨u,rv,.inl ⟨hx,?_⟩⟩
   simp[List.lookup]
  |succ i=>
   have yh:N2[i]?=some y:=e1
   have EL:σ[i]?=some (some w):=e2
   have hown:y∉([x]:List Str):=λhm=>by
    have nd:=Bk.HF
    rw[List.nodup_append]at nd
    exact nd.2.2 y hm y (List.mem_of_getElem? yh) rfl
   refine wF I Bk (n:=0) yh EL (eF hnc).symm (λz hz=> .inr (cD Bk.nd hz)) (λhv=>let⟨k,e,_⟩:=mY hv;⟨k,e⟩) hown keep e3 (λk e=> ?_)
   obtain⟨k',e',hk'⟩:=mY e3
   have e4:sc.names.lookup y=some k':=e'
   rw[e]at e4;cases e4
   exact hk'
 ·obtain⟨w,z⟩:=I.cell y c (iS y c hc).2
  exact⟨w,z.keeps keep⟩
 ·show(some v::σ).length=([x]++N2).length
  rw[List.length_cons,I.len,<-Bk.len]
  rfl
theorem Ip{args:Arguments}{body:Expr}{tb:TE}{v:V}{u:Value}{Q:VK}{E:Value->Shared->Prop}(I:Inv X pins σ H s)(L:yG X args body sc H f)(Bk:pZ sc.names X.env.scope.names [x] N2 X.N)
  (hk:sc.kind= .function)(hco:sc.isCoroutine=false)(hgen:sc.isGenerator=false)(hnc:∀y∈sc.names,y.2≠ .cell)(hx:sc.names.lookup x=some .local)
  (hbind:∀qual cl pm c ctv u,bindArgs (kla_fn "<lambda>" qual args body sc cl pm c ctv) ⟨[u],[]⟩=pure [(x,u)])(hB:B.frames=some X.stack)(hh:B.handled=none)(hroom:B.depth<recursionLimit)
  (hbody:∀q cd,PE (X.lam B sc ([x]++N2) q f cd s H) body tb)(rv:RelV v u)(h:tb (some v::σ) H Q):wpAny (model X.prog X.w) B (call (.ref f) [u]) (EP X pins σ Q) E s:=by
 obtain⟨qual,pm,ctv,c,oc,vs,q,t,e1,e2,e3,e4⟩:=L.ex
 obtain⟨g1,_⟩:s.heap.get? f=some _/\_:=I.hok f _ e1
 obtain⟨g2,_⟩:s.heap.get? c=some oc/\_:=I.hok c _ e2
 refine wpAny_call (An (q:=q) hroom g1 rfl hco hgen rfl ⟨c,oc,vs,t,rfl,g2,e3,e4⟩ ?_)
 rw[hbind]
 refine wpAny_pure (wpAny_newFunctionEnv hnc (λy hy=> ?_) (λh1 hns Rm=>⟨(I.BG).fresh _ Rm,?_⟩) hk)
 ·rw[List.mem_singleton.mp hy]
  exact hx
 have keep:∀b o,s.heap.get? b=some o->h1.get? b=some o:=λb o e=>Rm.extBut b o (Nat.ne_of_lt (Heap.lt_size e)) (Heap.get?_push_of_some _ e)
 have J:=Io (q:=q) (f:=f) (cd:= .ref c) (tk:=s.toks+1) I Bk hk hnc hx hB hh hns keep rv
 refine kla_codeExpr (wpAny_mono (hbody q (.ref c) [] _ _ H Q J h) (λu' s' hs=> ?_) λ_ _ z=>False.elim z)
 obtain⟨v',H',J',r',q'⟩:=hs
 have I':Inv X pins σ H' s':=I.Eo (ch:=[]) J'.os J'.base J'.hok J'.bare λb z=>nomatch z
 exact⟨v',H',I',r',q'⟩
end
end L2
namespace L2
open PySem PySem.Spec PyProof.Rows PySem.Calls wO
theorem vG{α β:Type}{f:α->β}:∀{m n:List β},m.Perm n-> ∀l:List α,n=l.map f-> ∃l':List α,l'.Perm l/\m=l'.map f:=by
 intro m n p
 induction p with
 |nil=>
  intro l e
  exact⟨l,.refl _,e⟩
 |cons x _ ih=>
  intro l e
  cases l with
  |nil=>cases e
  |cons a l=>
   injection e with e1 e2
   obtain⟨l',p',e'⟩:=ih l e2
   exact⟨a::l',p'.cons a,by rw[List.map_cons,e1,e']⟩
 |swap x y r=>
  intro l e
  match l,e with
  |a::b::l,e=>
   injection e with e1 e2
   injection e2 with e2 e3
   exact⟨b::a::l,List.Perm.swap _ _ _,by simp[e1,e2,e3]⟩
 |trans _ _ ih1 ih2=>
  intro l e
  obtain⟨l2,p2,e2⟩:=ih2 l e
  obtain⟨l1,p1,e1⟩:=ih1 l2 e2
  exact⟨l1,p1.trans p2,e1⟩
inductive pI (kf:V->Int):List V->List Value->List Value->Prop
 |nil:pI kf [] [] []
 |cons {y:V} {u:Value} {ys:List V} {us ks:List Value} (t:Tok) (r:RelV y u):pI kf ys us ks->pI kf (y::ys) (u::us) (.int (kf y) t::ks)
theorem pI.out{kf:V->Int}{ys:List V}{us ks:List Value}(h:pI kf ys us ks):∃tr:List (Keyed×V),ks.zip us=tr.map Prod.fst/\ys=tr.map Prod.snd/\ ∀t∈tr,RelV t.2 t.1.2/\ ∃k,t.1.1= .int (kf t.2) k:=by
 induction h with
 |nil=>exact⟨[],rfl,rfl,λt h=>nomatch h⟩
 | @cons y u ys us ks t r _ ih=>
  obtain⟨tr,e1,e2,h⟩:=ih
  refine⟨((.int (kf y) t,u),y)::tr,by rw[List.zip_cons_cons,e1];rfl,by rw[e2];rfl,λz hz=> ?_⟩
  rcases List.mem_cons.mp hz with rfl|hz
  ·exact⟨r,t,rfl⟩
  ·exact h z hz
theorem pI.ints{kf:V->Int}{ys:List V}{us ks:List Value}(h:pI kf ys us ks):IntsAre ks (ys.map kf):=by
 induction h with
 |nil=>exact .nil
 |cons t r _ ih=>exact .cons _ t ih
theorem pI.snoc{kf:V->Int}{ys:List V}{us ks:List Value}{y:V}{u:Value}(h:pI kf ys us ks)(t:Tok)(r:RelV y u):pI kf (ys++ [y]) (us++ [u]) (ks++ [.int (kf y) t]):=by
 induction h with
 |nil=>exact .cons t r .nil
 |cons t' r' _ ih=>exact .cons t' r' ih
section
variable{prog:Program}{w:World}{A:Around}{E:Value->Shared->Prop}{s:Shared}
theorem Di:pD prog w A E s oneType' (λp=>numOf p.1) (λp=> ∃n t,p.1= .int n t):=
 wW λx y hx hy E' Q hq=>by
  obtain⟨n,t,e1⟩:=hx
  obtain⟨m,u,e2⟩:=hy
  rw[keyLt'_oneType,e1,e2]
  rw[e1,e2]at hq
  exact oneLt_int hq
end
section
variable{X:Cx}{pins:List (Addr×Obj)}{σ:St}{H:Hp}{s:Shared}{B:Around}{a:Addr}{f:Value}{kf:V->Int}{ys:List V}{us:List Value}
theorem Vals.at{ys:List V}{us:List Value}(r:Vals ys us){j:Nat}{x:Value}(h:us[j]?=some x):∃v,ys[j]?=some v/\RelV v x:=by
 induction r generalizing j with
 |nil=>cases h
 |cons a _ ih=>
  cases j with
  |zero=>cases h;exact⟨_,rfl,a⟩
  |succ j=>exact ih h
abbrev BZ (pins:List (Addr×Obj)) (a:Addr) (e1:Nat) (kS:Addr) (ks:Array Value) (e:Nat):List (Addr×Obj):=pins++ [(a,seqObj "list" #[] e1),(kS,seqObj "list" ks e)]
theorem wX{a:Addr}{o:Obj}(fa:fQ X pins H a)(h:s.heap.get? a=some o)(hd:∀v,o.data≠ .cell v):s.heap.get? a=some o/\H a=none/\a≠X.env.locals/\a∉X.fs/\ ∀v,o.data≠ .cell v:=⟨h,fa.1,fa.2.1,fa.2.2.1,hd⟩
theorem vH{H':Hp}(fa:fQ X pins H a)(h:H' a=none):fQ X pins H' a:=⟨h,fa.2⟩
end
theorem FJ{K:PySem.W.Frag}{H H':Hp}{a:Addr}{xs:List V}(h:aT K H a xs)(s:ay H H'):aT K H' a xs:=by
 rcases h with h|h
 ·rcases h with h|⟨o,h⟩
  ·exact .inl (.inl (s _ _ h))
  ·exact .inl (.inr ⟨o,s _ _ h⟩)
 ·exact .inr h
def Nz(sc:Scope)(ks:List (Str×NameKind))(own N2 N:List Str):Bool:=
 zT sc.names ks own N2 N && (sc.kind== .function) && !sc.isCoroutine && !sc.isGenerator && sc.names.all (λy=>y.2 != .cell) && own.all (λx=>sc.names.lookup x==some NameKind.local)
section
variable{X:Cx}{P:Addr}{te tb:TE}{e body:Expr}{args:Arguments}{sc:Scope}{x:Str}{N2:List Str}{p pos FL kpos:Pos}
theorem eT.wY{k:Nat}{A:Around}(r:eT k A):A.units+70<cLine:=by have:=r.un;omega
theorem FN{k:Nat}{A:Around}{e:Env}(r:eT (k+3) A):eT k (A.in1.in1.deeper e):=r.in1.in1.deeper e
end
end L2
namespace L2
open PySem PySem.Spec PyProof.Rows
section
variable{X:Cx}
end
def iX(H:Hp)(b:Addr):List Int:=match H b with
 |some (.lst xs)=>xs.map λv=>match v with| .int i=>i|_=>0
 |_=>[]
def Dj(H:Hp)(b:Addr):Prop:=H b=some (.lst [.int (dw (iX H b) 0),.int (dw (iX H b) 1),.int (dw (iX H b) 2)])/\(iX H b).length=3
theorem Jz{H:Hp}{b:Addr}{x y z:Int}(e:H b=some (.lst [.int x,.int y,.int z])):Dj H b/\iX H b=[x,y,z]:=by
 have h:iX H b=[x,y,z]:=by
  unfold iX
  rw[e]
  rfl
 refine⟨⟨?_,by rw[h];rfl⟩,h⟩
 rw[h,e]
 rfl
theorem Dj.keep{H H':Hp}{b:Addr}(h:Dj H b)(s:∀o,H b=some o->H' b=some o):Dj H' b/\iX H' b=iX H b:=by
 have e:iX H' b=iX H b:=by
  have e1:=s _ h.1
  have e2:=h.1
  unfold iX at *
  rw[e1]
  conv=>rhs;rw[e2]
 exact⟨⟨by rw[e];exact s _ h.1,by rw[e];exact h.2⟩,e⟩
def fj(H:Hp)(as:List Addr):Prop:=∀b∈as,Dj H b
def rws(H:Hp)(as:List Addr):List (List Int):=as.map (iX H)
theorem fj.keep{H H':Hp}{as:List Addr}(h:fj H as)(s:∀b∈as,∀o,H b=some o->H' b=some o):fj H' as/\rws H' as=rws H as:=
 ⟨λb hb=>((h b hb).keep (s b hb)).1,List.map_congr_left λb hb=>((h b hb).keep (s b hb)).2⟩
theorem fj.same{H H':Hp}{as:List Addr}(h:fj H as)(s:ay H H'):fj H' as/\rws H' as=rws H as:=h.keep λb _ o e=>s b o e
theorem Ao(H:Hp)(as bs:List Addr):rws H (as++bs)=rws H as++rws H bs:=List.map_append
theorem Dk{zs:List V}{as:List Addr}(p:zs.Perm (as.map V.ref)):∃bs:List Addr,zs=bs.map V.ref/\bs.Perm as:=by
 obtain⟨l,p',e⟩:=vG p as rfl
 exact⟨l,e,p'⟩
theorem yH{H:Hp}{b l:Addr}{as:List Addr}(h:Dj H b)(e:H l=some (.lst (as.map V.ref))):b≠l:=by
 rintro rfl
 have e1:=h.1
 rw[e]at e1
 cases as with
 |nil=>cases e1
 |cons a as=>cases e1
theorem Iq{A B:List (List Int)}(ca:cz A)(cb:cz B)(h:∀i j,i<3->j<3->ent A i j=ent B i j):A=B:=by
 rw[wJ ca,wJ cb]
 exact gW h
theorem FO{J:It}{H1:Hp}{xs:List V}{σ:St}{te:TE}{Q:VK}(jw:JW J H1 xs)(hz:xs.length<=sizeLine){D:Addr}(hD:H1 D=none)(R:Nat->V->Hp->Prop)
  (mono:∀j v H H',R j v H->(∀b o,b≠D->H b=some o->H' b=some o) ->R j v H')
  (hs:∀j x,xs[j]?=some x-> ∀H' (Q':VK),ay H1 H'->(∃o,H' D=some o) ->(∀v H2,ay H' H2->R j v H2->Q' v H2) ->te (some x::σ) H' Q')
  (hq:∀vs H',ay H1 H'->vs.length=xs.length->(∀j v,vs[j]?=some v->R j v H') ->H' D=some (.lst vs) ->Q (.ref D) H'):kG 1 (cY 0) te σ J H1 D Q:=by
 refine rR jw hz hD (λpre acc H'=> ∀j v,acc[j]?=some v->R j v H') (λj v e=>by simp at e) (λpre x post acc H' Q' e hl sm eD p k=> ?_) (λacc H' hl sm eD p=>hq acc H' sm hl p eD)
 refine hs pre.length x (by rw[e];simp) H' Q' sm ⟨_,eD⟩ λv H2 s2 r=>k v H2 s2 λj u eu=> ?_
 have off:∀b o,b≠D->H2 b=some o->upd H2 D (.lst (acc++ [v])) b=some o:=λb o n h=>by rw[aG n];exact h
 by_cases c:j<acc.length
 ·rw[List.getElem?_append_left c]at eu
  exact mono j u H' _ (p j u eu) λb o n h=>off b o n (s2 b o h)
 ·have:j=acc.length:=by
   have:=(List.getElem?_eq_some_iff.mp eu).1
   rw[List.length_append]at this
   simp at this
   omega
  subst this
  rw[List.getElem?_append_right (Nat.le_refl _)]at eu
  simp at eu
  subst eu
  rw[hl]
  exact mono _ v H2 _ r off
theorem Dl{K:PySem.W.Frag}{J:It}{H1:Hp}{xs:List V}{σ:St}{te:TE}{Q:VK}(jw:JW J H1 xs)(hz:xs.length<=sizeLine){D:Addr}(hD:H1 D=none)(us vs:Nat->V)(items:∀j x,xs[j]?=some x-> ∃p,x= .ref p/\uq K H1 p [us j,vs j])(R:Nat->V->Hp->Prop)
  (mono:∀j v H H',R j v H->(∀b o,b≠D->H b=some o->H' b=some o) ->R j v H')
  (hs:∀j,j<xs.length-> ∀H' (Q':VK),ay H1 H'->(∃o,H' D=some o) ->(∀v H2,ay H' H2->R j v H2->Q' v H2) ->te (some (us j)::some (vs j)::σ) H' Q')
  (hq:∀ws H',ay H1 H'->ws.length=xs.length->(∀j v,ws[j]?=some v->R j v H') ->H' D=some (.lst ws) ->Q (.ref D) H'):kG 2 (g2 K) te σ J H1 D Q:=by
 refine⟨λi m acc σ' H'=>m=xs.length-i/\i<=xs.length/\acc.length=i/\(∃o o',σ'=o::o'::σ)/\ay H1 H'/\H' D=some (.lst acc)/\ ∀j v,acc[j]?=some v->R j v H',⟨xs.length,rfl,Nat.zero_le _,rfl,⟨none,none,rfl⟩,ay.up hD,au,λj v e=>by simp at e⟩,?_⟩
 rintro i m acc σ' H' ⟨rfl,hi,hl,⟨o,o',rfl⟩,sm,eD,p⟩
 by_cases hlt:i<xs.length
 ·refine .inr ⟨jw.go i H' sm hlt,by omega,λx H2 y=> ?_⟩
  obtain⟨rfl,ex⟩:=jw.zO i H' x H2 sm hlt y
  obtain⟨T,rfl,hT⟩:=items i x ex
  refine⟨T,[us i,vs i],rfl,sm.SO hT,rfl,us i,[vs i],rfl,vs i,[],rfl,rfl,?_⟩
  show te (some (us i)::some (vs i)::σ) _ _
  refine hs i hlt H2 _ sm ⟨_,eD⟩ λv H4 s4 r=> ?_
  refine⟨s4 _ _ eD,xs.length- (i+1),by omega,rfl,hlt,by simp[hl],⟨_,_,rfl⟩,(sm.trans s4).upd hD,au,λj u eu=> ?_⟩
  have off:∀b o,b≠D->H4 b=some o->upd H4 D (.lst (acc++ [v])) b=some o:=λb o n h=>by rw[aG n];exact h
  by_cases c:j<acc.length
  ·rw[List.getElem?_append_left c]at eu
   exact mono j u H2 _ (p j u eu) λb o n h=>off b o n (s4 b o h)
  ·have:j=acc.length:=by
    have:=(List.getElem?_eq_some_iff.mp eu).1
    rw[List.length_append]at this
    simp at this
    omega
   subst this
   rw[List.getElem?_append_right (Nat.le_refl _)]at eu
   simp at eu
   subst eu
   rw[hl]
   exact mono _ v H4 _ r off
 ·have e:i=xs.length:=by omega
  subst e
  exact .inl ⟨jw.stop H' sm,eD,hq acc H' sm hl p eD⟩
def FP(m:List (List Int))(i:Nat)(σ:St)(H:Hp):Nat:=match σ[i]? with
 |some (some (.ref a))=>match H a with
  |some (.lst [.int x0,.int x1,.int x2])=>(av m (dw [x0,x1,x2]) (dw [x0,x1,x2])).toNat
  |_=>0
 |_=>0
theorem qb{m:List (List Int)}{i:Nat}{σ:St}{H:Hp}{a:Addr}{x:Nat->Int}(hs:σ[i]?=some (some (.ref a)))(h:bg H a x):FP m i σ H=(av m x x).toNat:=by
 unfold FP
 have h:H a=some (.lst [.int (x 0),.int (x 1),.int (x 2)]):=h
 rw[hs]
 simp only[h]
 rw[fX (m:=m) (x:=dw [x 0,x 1,x 2]) (y:=dw [x 0,x 1,x 2]) (x':=x) (y':=x) (λi hi=>by rcases bE hi with rfl|rfl|rfl<;>rfl) (λi hi=>by rcases bE hi with rfl|rfl|rfl<;>rfl)]
theorem jk(a:Int){b:Int}(h:0<b):(a/b).natAbs<=a.natAbs:=by
 have e:=Int.emod_add_mul_ediv a b
 have l:=Int.emod_nonneg a (show b≠0 by omega)
 have u:=Int.emod_lt_of_pos a h
 generalize a%b=r at e l u
 generalize a/b=q at e ⊢
 rcases Int.lt_or_le q 0 with z|z
 ·have:b*q<=1*q:=by
   have:=Int.mul_le_mul_of_nonpos_right (show(1:Int)<=b by omega) (Int.le_of_lt z)
   omega
  by_cases c:q= -1
  ·subst c
   omega
  ·have:b*(q+1)<=1*(q+1):=Int.mul_le_mul_of_nonpos_right (show(1:Int)<=b by omega) (by omega)
   have e2:b*(q+1)=b*q+b:=by grind
   omega
 ·have:1*q<=b*q:=Int.mul_le_mul_of_nonneg_right (show(1:Int)<=b by omega) z
  omega
abbrev aQ (m:List (List Int)) (x:Nat->Int):Int:=av m x x
theorem Ir{m:List (List Int)}(P:Ae m){x:Nat->Int}(h:¬(x 0=0/\x 1=0/\x 2=0)):0<aQ m x:=P x h
theorem dH{m:List (List Int)}(P:Ae m)(x:Nat->Int):0<=aQ m x:=by
 by_cases h:x 0=0/\x 1=0/\x 2=0
 ·have:aQ m x=0:=by
   show av m x x=0
   rw[aX,h.1,h.2.1,h.2.2]
   grind
  omega
 ·exact Int.le_of_lt (P x h)
def iu(y:Nat->Int)(q:Int)(x:Nat->Int):Nat->Int:=λi=>y i-q*x i
theorem vI{m:List (List Int)}(y:Nat->Int)(q:Int)(x z:Nat->Int):av m (iu y q x) z=av m y z-q*av m x z:=by
 unfold iu
 rw[aX,aX,aX]
 grind
theorem gb{m:List (List Int)}(ev:cg m)(y:Nat->Int)(q:Int)(x z:Nat->Int):av m z (iu y q x)=av m z y-q*av m z x:=by
 rw[j8 ev,vI,j8 ev y,j8 ev x]
theorem yI{m:List (List Int)}(ev:cg m)(y:Nat->Int)(q:Int)(x:Nat->Int):aQ m (iu y q x)=aQ m y-2*q*av m x y+q*q*aQ m x:=by
 show av m _ _=_
 rw[vI,gb ev,gb ev,j8 ev y x]
 grind
theorem qc{P A:Int}(h:0<A): -A<=2*(P- (2*P+A)/(2*A)*A)/\2*(P- (2*P+A)/(2*A)*A)<=A:=by
 have e:=Int.emod_add_mul_ediv (2*P+A) (2*A)
 have l:=Int.emod_nonneg (2*P+A) (show 2*A≠0 by omega)
 have u:=Int.emod_lt_of_pos (2*P+A) (show 0<2*A by omega)
 generalize(2*P+A)/(2*A)=q at e ⊢
 generalize(2*P+A)%(2*A)=r at e l u
 have e2:2*A*q=2*(q*A):=by grind
 rw[e2]at e
 omega
theorem Ca{A P q N:Int}(hA:0<=A)(h1: -A<=2*(P-q*A))(h2:2*(P-q*A)<=A):N-2*q*P+q*q*A<=N:=by
 obtain⟨e,he⟩:∃e,P-q*A=e:=⟨_,rfl⟩
 rw[he]at h1 h2
 have hP:P=q*A+e:=by omega
 rw[hP]
 have key:N-2*q*(q*A+e)+q*q*A=N- (q*q*A+q*(2*e)):=by grind
 rw[key]
 suffices 0<=q*q*A+q*(2*e)by omega
 rcases Int.lt_or_le 0 q with hq|hq
 ·have a1:q*(-A)<=q*(2*e):=Int.mul_le_mul_of_nonneg_left (by omega) (by omega)
  have a2:q*A<=q*(q*A):=Int.mul_le_mul_of_nonneg_left (by
   have:1*A<=q*A:=Int.mul_le_mul_of_nonneg_right (by omega) hA
   omega) (by omega)
  have e1:q*(-A)= -(q*A):=by grind
  have e2:q*(q*A)=q*q*A:=by grind
  omega
 ·have a1:(-q)*(2*e)<=(-q)*A:=Int.mul_le_mul_of_nonneg_left (by omega) (by omega)
  have e3:(-q)*(2*e)= -(q*(2*e)):=by grind
  rcases Int.lt_or_le q 0 with h|h
  ·have a2:(-q)*A<=(-q)*((-q)*A):=Int.mul_le_mul_of_nonneg_left (by
    have:1*A<=(-q)*A:=Int.mul_le_mul_of_nonneg_right (by omega) hA
    omega) (by omega)
   have e2:(-q)*((-q)*A)=q*q*A:=by grind
   omega
  ·have:q=0:=by omega
   subst this
   simp
def l7(s:Nat->Nat)(m:List (List Int)):List (List Int):=mk3 λi j=>ent m (s i) (s j)
theorem nO{m:List (List Int)}(hS:cL m=m)(ab:bU m=true)(x:Nat->Int):aA m*(x 2*x 2)<=fV m 2 2*aQ m x:=by
 obtain⟨c1,c2,c3⟩:=gk ab
 have e:=Ft hS x
 have hm:fV m 2 2=ent m 0 0*ent m 1 1-ent m 0 1*ent m 0 1:=by
  show ent m 0 0*ent m 1 1-ent m 0 1*ent m 1 0=_
  rw[ic hS (i:=0) (j:=1) (by decide) (by decide)]
 rw[<-hm]at e
 have q1:=Int.mul_nonneg (show 0<=fV m 2 2 by omega) (bf (ent m 0 0*x 0+ent m 0 1*x 1+ent m 0 2*x 2))
 have q2:=bf (fV m 2 2*x 1+(ent m 0 0*ent m 1 2-ent m 0 1*ent m 0 2)*x 2)
 have e2:ent m 0 0*(aA m*(x 2*x 2))<=ent m 0 0*(fV m 2 2*aQ m x):=by
  have a1:ent m 0 0*(aA m*(x 2*x 2))=ent m 0 0*aA m*(x 2*x 2):=(Int.mul_assoc ..).symm
  have a2:ent m 0 0*(fV m 2 2*aQ m x)=ent m 0 0*fV m 2 2*av m x x:=(Int.mul_assoc ..).symm
  omega
 exact Int.le_of_mul_le_mul_left e2 c1
theorem vJ{m:List (List Int)}(ev:cg m)(c:cz m)(ab:bU m=true)(s:Nat->Nat)(hs:(s 0=2/\s 1=1/\s 2=0)∨(s 0=0/\s 1=2/\s 2=1))(x:Nat->Int):
  cL (l7 s m)=l7 s m/\bU (l7 s m)=true/\aA (l7 s m)=aA m/\aQ (l7 s m) (λi=>x (s i))=aQ m x/\fV (l7 s m) 2 2=fV m (s 2) (s 2):=by
 have hS:=dQ ev c
 have P:=gm hS ab
 have Iu:ent m 1 0=ent m 0 1:=ev.sym.1
 have Iv:ent m 2 0=ent m 0 2:=ev.sym.2.1
 have Iw:ent m 2 1=ent m 1 2:=ev.sym.2.2
 have en:∀i j,i<3->j<3->ent (l7 s m) i j=ent m (s i) (s j):=λi j hi hj=>bC _ hi hj
 have hN:∀y:Nat->Int,av (l7 s m) (λi=>y (s i)) (λi=>y (s i))=av m y y:=λy=>by
  rw[aX,aX,en 0 0 (by decide) (by decide),en 0 1 (by decide) (by decide),en 0 2 (by decide) (by decide),en 1 0 (by decide) (by decide),en 1 1 (by decide) (by decide),en 1 2 (by decide) (by decide),en 2 0 (by decide) (by decide),en 2 1 (by decide) (by decide),en 2 2 (by decide) (by decide)]
  rcases hs with⟨h0,h1,h2⟩|⟨h0,h1,h2⟩<;>rw[h0,h1,h2]<;>grind
 have ov:cL (l7 s m)=l7 s m:=Iq (cF _) (cF _) λi j hi hj=>by
  rw[aU _ hi hj,en j i hj hi,en i j hi hj]
  rcases hs with⟨h0,h1,h2⟩|⟨h0,h1,h2⟩<;>rcases bE hi with rfl|rfl|rfl<;>rcases bE hj with rfl|rfl|rfl<;>simp only[h0,h1,h2,Iu,Iv,Iw]
 have Pp:Ae (l7 s m):=λy n0=>by
  have e:=hN (λi=>y (s i))
  have back:∀i,i<3->s (s i)=i:=λi hi=>by
   rcases hs with⟨h0,h1,h2⟩|⟨h0,h1,h2⟩<;>rcases bE hi with rfl|rfl|rfl<;>simp only[h0,h1,h2]
  have e2:av (l7 s m) y y=av (l7 s m) (λi=>(λi=>y (s i)) (s i)) (λi=>(λi=>y (s i)) (s i)):=fX (λi hi=>by show y i=y (s (s i));rw[back i hi]) (λi hi=>by show y i=y (s (s i));rw[back i hi])
  rw[e2,e]
  refine P _ λz=>n0 ?_
  rcases hs with⟨h0,h1,h2⟩|⟨h0,h1,h2⟩<;>rw[h0,h1,h2]at z<;>exact⟨by omega,by omega,by omega⟩
 refine⟨ov,vB ov Pp,?_,hN x,?_⟩
 ·rw[cP,cP,en 0 0 (by decide) (by decide),en 0 1 (by decide) (by decide),en 0 2 (by decide) (by decide),en 1 0 (by decide) (by decide),en 1 1 (by decide) (by decide),en 1 2 (by decide) (by decide),en 2 0 (by decide) (by decide),en 2 1 (by decide) (by decide),en 2 2 (by decide) (by decide)]
  rcases hs with⟨h0,h1,h2⟩|⟨h0,h1,h2⟩<;>rw[h0,h1,h2]<;>grind
 ·show ent (l7 s m) 0 0*ent (l7 s m) 1 1-ent (l7 s m) 0 1*ent (l7 s m) 1 0=_
  rw[en 0 0 (by decide) (by decide),en 0 1 (by decide) (by decide),en 1 0 (by decide) (by decide),en 1 1 (by decide) (by decide)]
  unfold fV
  rcases hs with⟨h0,h1,h2⟩|⟨h0,h1,h2⟩<;>rw[h0,h1,h2]<;>simp only[Nat.reduceAdd,Nat.reduceMod]<;>grind
theorem kc{m:List (List Int)}(ev:cg m)(c:cz m)(ab:bU m=true)(x:Nat->Int){i:Nat}(hi:i<3):aA m*(x i*x i)<=fV m i i*aQ m x:=by
 rcases bE hi with rfl|rfl|rfl
 ·obtain⟨h1,h2,h3,h4,h5⟩:=vJ ev c ab (λi=>2-i) (.inl ⟨rfl,rfl,rfl⟩) x
  have:=nO h1 h2 (λi=>x (2-i))
  rw[h3,h4,h5]at this
  exact this
 ·obtain⟨h1,h2,h3,h4,h5⟩:=vJ ev c ab (λi=>if i=0 then 0 else 3-i) (.inr ⟨rfl,rfl,rfl⟩) x
  have:=nO h1 h2 (λi=>x (if i=0 then 0 else 3-i))
  rw[h3,h4,h5]at this
  exact this
 ·exact nO (dQ ev c) ab x
theorem l8{m:List (List Int)}(ev:cg m)(c:cz m)(ab:bU m=true)(hB:Bd 440 m){x:Nat->Int}(hx:(aQ m x).natAbs<2^450){i:Nat}(hi:i<3):(x i).natAbs<2^666:=by
 have e:=kc ev c ab x hi
 have d1:=(gk ab).2.2
 have b1:=BS hB i i
 have e2:x i*x i<=fV m i i*aQ m x:=by
  refine Int.le_trans ?_ e
  have:=Int.mul_le_mul_of_nonneg_right (show(1:Int)<=aA m by omega) (bf (x i))
  omega
 have b2:(fV m i i*aQ m x).natAbs<2^(881+450):=b7 b1 hx
 have b3:(x i*x i).natAbs<2^1332:=by
  have:=bf (x i)
  refine Nat.lt_of_le_of_lt ?_ (aH b2 (show 881+450<=1332 by decide))
  omega
 rw[Int.natAbs_mul]at b3
 refine Nat.lt_of_not_le λz=> ?_
 have:=Nat.mul_le_mul z z
 rw[<-Nat.pow_add]at this
 omega
def eK(x y t:Nat->Int):List (List Int):=mk3 λi j=>if i=0 then x j else if i=1 then y j else t j
def bO(x y t:Nat->Int):Int:=x 0*(y 1*t 2-y 2*t 1)+x 1*(y 2*t 0-y 0*t 2)+x 2*(y 0*t 1-y 1*t 0)
theorem Dm(x y t:Nat->Int):aA (eK x y t)=bO x y t:=by
 rw[cP]
 show x 0*(y 1*t 2-y 2*t 1)+x 1*(y 2*t 0-y 0*t 2)+x 2*(y 0*t 1-y 1*t 0)=_
 rfl
theorem Dn(x y t:Nat->Int):bO y x t= -bO x y t:=by unfold bO;grind
theorem Aq(x y t:Nat->Int)(q:Int):bO x (iu y q x) t=bO x y t:=by unfold bO iu;grind
theorem nQ(x y t:Nat->Int)(i j:Int):bO x y (iu (iu t i x) j y)=bO x y t:=by unfold bO iu;grind
theorem Ar{x:Nat->Int}(h:x 0=0/\x 1=0/\x 2=0)(y t:Nat->Int):bO x y t=0:=by unfold bO;rw[h.1,h.2.1,h.2.2];grind
structure gc(m:List (List Int))(x y x' y':Nat->Int):Prop where
 det:∃e:Int,(e=1∨e= -1)/\ ∀t,bO x' y' t=e*bO x y t
 sum:aQ m x'+aQ m y'<=aQ m x+aQ m y
theorem gc.refl(m:List (List Int))(x y:Nat->Int):gc m x y x y:=⟨⟨1,.inl rfl,λt=>by rw[Int.one_mul]⟩,Int.le_refl _⟩
theorem gc.trans{m:List (List Int)}{x y x1 y1 x2 y2:Nat->Int}(a:gc m x y x1 y1)(b:gc m x1 y1 x2 y2):gc m x y x2 y2:=by
 obtain⟨e,he,h⟩:=a.det
 obtain⟨f,hf,k⟩:=b.det
 refine⟨⟨f*e,?_,λt=>by rw[k,h,Int.mul_assoc]⟩,Int.le_trans b.sum a.sum⟩
 rcases he with rfl|rfl<;>rcases hf with rfl|rfl<;>simp
theorem gc.swap{m:List (List Int)}{x y x' y':Nat->Int}(a:gc m x y x' y'):gc m x y y' x':=by
 obtain⟨e,he,h⟩:=a.det
 refine⟨⟨-e,by omega,λt=>by rw[Dn,h];grind⟩,by have:=a.sum;omega⟩
theorem gc.less{m:List (List Int)}(ev:cg m){x y:Nat->Int}(h:0<aQ m x):gc m x y x (iu y ((2*av m x y+aQ m x)/(2*aQ m x)) x):=by
 obtain⟨h1,h2⟩:=qc (P:=av m x y) h
 refine⟨⟨1,.inl rfl,λt=>by rw[Aq,Int.one_mul]⟩,?_⟩
 rw[yI ev]
 have:=Ca (N:=aQ m y) (Int.le_of_lt h) h1 h2
 omega
theorem FQ{m:List (List Int)}(ev:cg m){x y:Nat->Int}(h:0<aQ m x):aQ m (iu y ((2*av m x y+aQ m x)/(2*aQ m x)) x)<=aQ m y:=by
 obtain⟨h1,h2⟩:=qc (P:=av m x y) h
 rw[yI ev]
 exact Ca (N:=aQ m y) (Int.le_of_lt h) h1 h2
theorem Dp{m:List (List Int)}(ev:cg m){x y:Nat->Int}(h:0<aQ m x): -(aQ m x)<=2*av m x (iu y ((2*av m x y+aQ m x)/(2*aQ m x)) x)/\2*av m x (iu y ((2*av m x y+aQ m x)/(2*aQ m x)) x)<=aQ m x:=by
 rw[gb ev]
 exact qc h
structure l9(m:List (List Int))(x y:Nat->Int):Prop where
 pos:0<aQ m x
 le:aQ m x<=aQ m y
 lo: -(aQ m x)<=2*av m x y
 hi:2*av m x y<=aQ m x
theorem mh{a b:Int}(h1: -b<=a)(h2:a<=b):a*a<=b*b:=by
 have hb:0<=b:=by omega
 rcases Int.le_total 0 a with h|h
 ·exact Int.mul_le_mul h2 h2 h hb
 ·have:(-a)*(-a)<=b*b:=Int.mul_le_mul (by omega) (by omega) (by omega) hb
  have e:(-a)*(-a)=a*a:=by grind
  omega
theorem l9.FT{m:List (List Int)}{x y:Nat->Int}(h:l9 m x y):3*(aQ m x*aQ m y)<=4*(aQ m x*aQ m y-av m x y*av m x y)/\0<aQ m x*aQ m y-av m x y*av m x y:=by
 have s:=mh h.lo h.hi
 have l:aQ m x*aQ m x<=aQ m x*aQ m y:=Int.mul_le_mul_of_nonneg_left h.le (Int.le_of_lt h.pos)
 have p:=Int.mul_pos h.pos h.pos
 have e:2*av m x y*(2*av m x y)=4*(av m x y*av m x y):=by grind
 omega
theorem PR{m:List (List Int)}(ev:cg m)(x y t:Nat->Int):
  (aQ m x*aQ m y-av m x y*av m x y)*aQ m t=aA m*(bO x y t*bO x y t)+(aQ m x*(av m y t*av m y t) -2*(av m x y*(av m x t*av m y t))+aQ m y*(av m x t*av m x t)):=by
 have Iu:ent m 1 0=ent m 0 1:=ev.sym.1
 have Iv:ent m 2 0=ent m 0 2:=ev.sym.2.1
 have Iw:ent m 2 1=ent m 1 2:=ev.sym.2.2
 show(av m x x*av m y y-_)*av m t t=_*_+(av m x x*_-_+av m y y*_)
 rw[cP]
 unfold bO
 simp only[aX,Iu,Iv,Iw]
 generalize ent m 0 0=a,ent m 0 1=p,ent m 0 2=q,ent m 1 1=b,ent m 1 2=r,ent m 2 2=c
 generalize x 0=x0,x 1=x1,x 2=x2,y 0=y0,y 1=y1,y 2=y2,t 0=t0,t 1=t1,t 2=t2
 grind
def bV(m:List (List Int))(x y t:Nat->Int):Int:=aQ m y*av m x t-av m x y*av m y t
def bW(m:List (List Int))(x y t:Nat->Int):Int:=aQ m x*av m y t-av m x y*av m x t
abbrev ao (m:List (List Int)) (x y:Nat->Int):Int:=aQ m x*aQ m y-av m x y*av m x y
abbrev c9 (t:Nat->Int) (i:Int) (x:Nat->Int) (j:Int) (y:Nat->Int):Nat->Int:=iu (iu t i x) j y
theorem vK{m:List (List Int)}(ev:cg m)(x y t:Nat->Int)(i j:Int):bV m x y (c9 t i x j y)=bV m x y t-i*ao m x y/\bW m x y (c9 t i x j y)=bW m x y t-j*ao m x y:=by
 unfold bV bW c9 ao
 rw[gb ev,gb ev,gb ev,gb ev,j8 ev y x]
 constructor<;>grind
theorem vM{m:List (List Int)}(ev:cg m)(x y t:Nat->Int):ao m x y*(ao m x y*aQ m t)=ao m x y*(aA m*(bO x y t*bO x y t))+(aQ m x*(bV m x y t*bV m x y t)+2*(av m x y*(bV m x y t*bW m x y t))+aQ m y*(bW m x y t*bW m x y t)):=by
 have g:=PR ev x y t
 show ao m x y*((aQ m x*aQ m y-av m x y*av m x y)*aQ m t)=_
 rw[g]
 unfold bV bW ao
 generalize aQ m x=A,aQ m y=B,av m x y=P,av m x t=u,av m y t=v
 generalize aA m*(bO x y t*bO x y t)=D
 grind
theorem Dq(m:List (List Int))(x y t:Nat->Int):ao m x y*av m x t=aQ m x*bV m x y t+av m x y*bW m x y t/\ao m x y*av m y t=av m x y*bV m x y t+aQ m y*bW m x y t:=by
 unfold bV bW ao
 constructor<;>grind
structure Drawn(m:List (List Int))(x y t t':Nat->Int):Prop where
 det:bO x y t'=bO x y t
 le:aQ m t'<=aQ m t∨True
 s: -(ao m x y)<=bV m x y t'/\bV m x y t'<=ao m x y
 r: -(ao m x y)<=bW m x y t'/\bW m x y t'<=ao m x y
 few:4*(ao m x y*aQ m t')<=4*(aA m*(bO x y t*bO x y t))+3*(ao m x y*aQ m y)
theorem Cb{A B P s r d:Int}(hA:0<=A)(hB:0<=B)(h1: -A<=2*P)(h2:2*P<=A)(s1: -d<=2*s)(s2:2*s<=d)(r1: -d<=2*r)(r2:2*r<=d):4*(A*(s*s)+2*(P*(s*r))+B*(r*r))<=(2*A+B)*(d*d):=by
 have hd:0<=d:=by omega
 have ss:=mh s1 s2
 have rr:=mh r1 r2
 have e1:2*s*(2*s)=4*(s*s):=by grind
 have e2:2*r*(2*r)=4*(r*r):=by grind
 rw[e1]at ss
 rw[e2]at rr
 have sr:2*P*(2*s*(2*r))<=A*(d*d):=by
  have ab:∀a b c e:Int,-c<=a->a<=c-> -e<=b->b<=e->a*b<=c*e:=λa b c e h1 h2 h3 h4=>by
   have k1:=Int.mul_nonneg (show 0<=c-a by omega) (show 0<=e+b by omega)
   have k2:=Int.mul_nonneg (show 0<=c+a by omega) (show 0<=e-b by omega)
   have e3:(c-a)*(e+b)+(c+a)*(e-b)=2*(c*e) -2*(a*b):=by grind
   omega
  have LY:∀a b c e:Int,-c<=a->a<=c-> -e<=b->b<=e-> -(c*e)<=a*b:=λa b c e h1 h2 h3 h4=>by
   have:=ab (-a) b c e (by omega) (by omega) h3 h4
   have e3: -a*b= -(a*b):=by grind
   omega
  exact ab _ _ _ _ h1 h2 (LY _ _ _ _ s1 s2 r1 r2) (ab _ _ _ _ s1 s2 r1 r2)
 have f1:=Int.mul_le_mul_of_nonneg_left ss hA
 have f2:=Int.mul_le_mul_of_nonneg_left rr hB
 have e3:4*(A*(s*s)+2*(P*(s*r))+B*(r*r))=A*(4*(s*s))+2*P*(2*s*(2*r))+B*(4*(r*r)):=by grind
 have e4:(2*A+B)*(d*d)=A*(d*d)+A*(d*d)+B*(d*d):=by grind
 omega
theorem FU{m:List (List Int)}(ev:cg m){x y t:Nat->Int}(h:l9 m x y){i j:Int}(i0:i=bV m x y t/ao m x y∨i=bV m x y t/ao m x y+1)(j0:j=bW m x y t/ao m x y∨j=bW m x y t/ao m x y+1)
  (least:∀i' j',(i'=bV m x y t/ao m x y∨i'=bV m x y t/ao m x y+1) ->(j'=bW m x y t/ao m x y∨j'=bW m x y t/ao m x y+1) ->aQ m (c9 t i x j y)<=aQ m (c9 t i' x j' y)):Drawn m x y t (c9 t i x j y):=by
 obtain⟨_,ap⟩:=h.FT
 have fl:=vK ev x y t
 have em:=λz:Int=>Int.emod_add_mul_ediv z (ao m x y)
 have lo:=λz:Int=>Int.emod_nonneg z (show ao m x y≠0 by show aQ m x*aQ m y-av m x y*av m x y≠0;omega)
 have up:=λz:Int=>Int.emod_lt_of_pos z (show 0<ao m x y from ap)
 have Dr:0<ao m x y:=ap
 have near:∀{z k:Int},(k=z/ao m x y∨k=z/ao m x y+1) -> -(ao m x y)<=z-k*ao m x y/\z-k*ao m x y<=ao m x y:=λ {z k} hk=>by
  have e:=em z
  have l:=lo z
  have u:=up z
  rcases hk with rfl|rfl
  ·generalize ao m x y=d at e l u ⊢
   have e2:z/d*d=d*(z/d):=Int.mul_comm ..
   omega
  ·generalize ao m x y=d at e l u ⊢
   have e2:(z/d+1)*d=d*(z/d)+d:=by rw[Int.add_mul,Int.one_mul,Int.mul_comm]
   omega
 have half:∀z:Int,∃k,(k=z/ao m x y∨k=z/ao m x y+1)/\ -(ao m x y)<=2*(z-k*ao m x y)/\2*(z-k*ao m x y)<=ao m x y:=λz=>by
  have e:=em z
  have l:=lo z
  have u:=up z
  by_cases c:2*(z%ao m x y)<=ao m x y
  ·refine⟨_,.inl rfl,?_⟩
   generalize ao m x y=d at e l u c ⊢
   have e2:z/d*d=d*(z/d):=Int.mul_comm ..
   omega
  ·refine⟨_,.inr rfl,?_⟩
   generalize ao m x y=d at e l u c ⊢
   have e2:(z/d+1)*d=d*(z/d)+d:=by rw[Int.add_mul,Int.one_mul,Int.mul_comm]
   omega
 have hn:=near i0
 have hr:=near j0
 refine⟨nQ _ _ _ _ _,.inr trivial,by rw[(fl i j).1];exact hn,by rw[(fl i j).2];exact hr,?_⟩
 obtain⟨i1,hi1,s1,s2⟩:=half (bV m x y t)
 obtain⟨j1,hj1,r1,r2⟩:=half (bW m x y t)
 have best:=least i1 j1 hi1 hj1
 rw[<- (fl i1 j1).1]at s1 s2
 rw[<- (fl i1 j1).2]at r1 r2
 have g:=vM ev x y (c9 t i1 x j1 y)
 have dt:bO x y (c9 t i1 x j1 y)=bO x y t:=nQ _ _ _ _ _
 rw[dt]at g
 have q:=Cb (Int.le_of_lt h.pos) (Int.le_trans (Int.le_of_lt h.pos) h.le) h.lo h.hi s1 s2 r1 r2
 have Oj:2*aQ m x+aQ m y<=3*aQ m y:=by have:=h.le;omega
 have q2:=Int.mul_le_mul_of_nonneg_right Oj (bf (ao m x y))
 have Rn:=Int.mul_le_mul_of_nonneg_left best (Int.le_of_lt Dr)
 generalize aQ m x*(bV m x y (c9 t i1 x j1 y)*bV m x y (c9 t i1 x j1 y))+2*(av m x y*(bV m x y (c9 t i1 x j1 y)*bW m x y (c9 t i1 x j1 y)))+aQ m y*(bW m x y (c9 t i1 x j1 y)*bW m x y (c9 t i1 x j1 y))=qq at g q
 have fin:ao m x y*(4*(ao m x y*aQ m (c9 t i1 x j1 y)))<=ao m x y*(4*(aA m*(bO x y t*bO x y t))+3*(ao m x y*aQ m y)):=by
  have e1:ao m x y*(4*(ao m x y*aQ m (c9 t i1 x j1 y)))=4*(ao m x y*(ao m x y*aQ m (c9 t i1 x j1 y))):=by grind
  have e2:ao m x y*(4*(aA m*(bO x y t*bO x y t))+3*(ao m x y*aQ m y))=4*(ao m x y*(aA m*(bO x y t*bO x y t)))+3*aQ m y*(ao m x y*ao m x y):=by grind
  rw[e1,e2,g]
  omega
 have:=Int.le_of_mul_le_mul_left fin Dr
 omega
theorem Ds{m:List (List Int)}(ev:cg m){x y t:Nat->Int}(h:l9 m x y){i j:Int}(i0:i=bV m x y t/ao m x y∨i=bV m x y t/ao m x y+1)(j0:j=bW m x y t/ao m x y∨j=bW m x y t/ao m x y+1)(D0:0<=aA m):
  aQ m (c9 t i x j y)<=aA m*(bO x y t*bO x y t)+3*aQ m y:=by
 obtain⟨_,ap⟩:=h.FT
 have fl:=vK ev x y t
 have Dr:0<ao m x y:=ap
 have near:∀{z k:Int},(k=z/ao m x y∨k=z/ao m x y+1) -> -(2*ao m x y)<=2*(z-k*ao m x y)/\2*(z-k*ao m x y)<=2*ao m x y:=λ {z k} hk=>by
  have e:=Int.emod_add_mul_ediv z (ao m x y)
  have l:=Int.emod_nonneg z (show ao m x y≠0 by omega)
  have u:=Int.emod_lt_of_pos z Dr
  rcases hk with rfl|rfl
  ·generalize ao m x y=d at e l u ⊢
   have e2:z/d*d=d*(z/d):=Int.mul_comm ..
   omega
  ·generalize ao m x y=d at e l u ⊢
   have e2:(z/d+1)*d=d*(z/d)+d:=by rw[Int.add_mul,Int.one_mul,Int.mul_comm]
   omega
 have s:=near i0
 have r:=near j0
 rw[<- (fl i j).1]at s
 rw[<- (fl i j).2]at r
 have g:=vM ev x y (c9 t i x j y)
 have dt:bO x y (c9 t i x j y)=bO x y t:=nQ _ _ _ _ _
 rw[dt]at g
 have q:=Cb (Int.le_of_lt h.pos) (Int.le_trans (Int.le_of_lt h.pos) h.le) h.lo h.hi s.1 s.2 r.1 r.2
 generalize aQ m x*(bV m x y (c9 t i x j y)*bV m x y (c9 t i x j y))+2*(av m x y*(bV m x y (c9 t i x j y)*bW m x y (c9 t i x j y)))+aQ m y*(bW m x y (c9 t i x j y)*bW m x y (c9 t i x j y))=qq at g q
 have Oj:2*aQ m x+aQ m y<=3*aQ m y:=by have:=h.le;omega
 have q2:=Int.mul_le_mul_of_nonneg_right Oj (bf (ao m x y))
 have DD:=Int.mul_nonneg D0 (bf (bO x y t))
 generalize aA m*(bO x y t*bO x y t)=dd at g DD ⊢
 have e3:(2*aQ m x+aQ m y)*(2*ao m x y*(2*ao m x y))=4*((2*aQ m x+aQ m y)*(ao m x y*ao m x y)):=by grind
 rw[e3]at q
 have fin:ao m x y*(ao m x y*aQ m (c9 t i x j y))<=ao m x y*(ao m x y*(dd+3*aQ m y)):=by
  rw[g]
  have e1:ao m x y*(ao m x y*(dd+3*aQ m y))=ao m x y*(ao m x y*dd)+3*aQ m y*(ao m x y*ao m x y):=by grind
  have m1:ao m x y*dd<=ao m x y*(ao m x y*dd):=Int.mul_le_mul_of_nonneg_left (by
   have:=Int.mul_le_mul_of_nonneg_right (show(1:Int)<=ao m x y by omega) DD
   omega) (Int.le_of_lt Dr)
  omega
 exact Int.le_of_mul_le_mul_left (Int.le_of_mul_le_mul_left fin Dr) Dr
theorem FW{α:Type}{a b:α}{l:List α}(h:l.Perm [a,b]):l=[a,b]∨l=[b,a]:=by
 match l,h.length_eq with
 | [p,q],_=>
  have hp:p∈ [a,b]:=h.mem_iff.mp (by simp)
  simp only[List.mem_cons,List.not_mem_nil,or_false]at hp
  rcases hp with rfl|rfl
  ·left
   have:=(List.perm_cons p).mp h
   rw[List.perm_singleton.mp this]
  ·right
   have h2: [p,q].Perm [p,a]:=h.trans (List.Perm.swap p a [])
   have:=(List.perm_cons p).mp h2
   rw[List.perm_singleton.mp this]
theorem JA{α:Type}{a b c:α}{l:List α}(h:l.Perm [a,b,c]):l=[a,b,c]∨l=[a,c,b]∨l=[b,a,c]∨l=[b,c,a]∨l=[c,a,b]∨l=[c,b,a]:=by
 match l,h.length_eq with
 |p::r,_=>
  have hp:p∈ [a,b,c]:=h.mem_iff.mp (by simp)
  simp only[List.mem_cons,List.not_mem_nil,or_false]at hp
  rcases hp with rfl|rfl|rfl
  ·rcases FW ((List.perm_cons p).mp h)with z|z<;>rw[z]<;>simp
  ·have h2:(p::r).Perm [p,a,c]:=h.trans (List.Perm.swap p a [c])
   rcases FW ((List.perm_cons p).mp h2)with z|z<;>rw[z]<;>simp
  ·have h2:(p::r).Perm [p,a,b]:=h.trans (((List.Perm.swap p b []).cons a).trans (List.Perm.swap p a [b]))
   rcases FW ((List.perm_cons p).mp h2)with z|z<;>rw[z]<;>simp
theorem Dt{α:Type}{a b c p q r:α}(X:α->Nat->Int)(h: [p,q,r].Perm [a,b,c]):bO (X p) (X q) (X r)=bO (X a) (X b) (X c)∨bO (X p) (X q) (X r)= -bO (X a) (X b) (X c):=by
 rcases JA h with z|z|z|z|z|z<;>injection z with e1 z<;>injection z with e2 z<;>injection z with e3 z<;>subst e1 e2 e3<;>unfold bO
 ·left;rfl
 ·right;grind
 ·right;grind
 ·left;grind
 ·left;grind
 ·right;grind
theorem gD{H:Hp}{b:Addr}{x:Nat->Int}(h:bg H b x):∀i,i<3->dw (iX H b) i=x i:=λi hi=>by
 have h:H b=some (.lst [.int (x 0),.int (x 1),.int (x 2)]):=h
 unfold iX
 rw[h]
 rcases bE hi with rfl|rfl|rfl<;>rfl
theorem wZ{H:Hp}{b:Addr}{x:Nat->Int}(h:bg H b x):bg H b (dw (iX H b)):=by
 show H b=some (.lst [.int (dw (iX H b) 0),.int (dw (iX H b) 1),.int (dw (iX H b) 2)])
 rw[gD h 0 (by decide),gD h 1 (by decide),gD h 2 (by decide)]
 exact h
structure Cc(m:List (List Int))(x y t:Nat->Int):Prop where
 pair:l9 m x y
 le:aQ m y<=aQ m t
 unit:bO x y t=1∨bO x y t= -1
 few:3*(aQ m x*aQ m y*aQ m t)<=16*aA m
 u: -(2*aQ m x)<=av m x t/\av m x t<=2*aQ m x
 v: -(2*aQ m y)<=av m y t/\av m y t<=2*aQ m y
theorem Iz{m:List (List Int)}{x y t t':Nat->Int}(h:l9 m x y)(d:Drawn m x y t t')(un:bO x y t=1∨bO x y t= -1)(le:aQ m y<=aQ m t'):Cc m x y t':=by
 obtain⟨ar,ap⟩:=h.FT
 have Dr:0<ao m x y:=ap
 have one:bO x y t*bO x y t=1:=by rcases un with z|z<;>rw[z]<;>decide
 have f:=d.few
 rw[one,Int.mul_one]at f
 have g:=Int.mul_le_mul_of_nonneg_left le (Int.le_of_lt Dr)
 have ht:0<=aQ m t':=by have:=h.pos;have:=h.le;omega
 have k:=Int.mul_le_mul_of_nonneg_right ar ht
 obtain⟨p1,p2⟩:=Dq m x y t'
 have cancel:∀{a b c:Int},ao m x y*a<=ao m x y*b->a<=b:=λh=>Int.le_of_mul_le_mul_left h Dr
 have ab:∀a b c e:Int,-c<=a->a<=c-> -e<=b->b<=e->a*b<=c*e:=λa b c e h1 h2 h3 h4=>by
  have k1:=Int.mul_nonneg (show 0<=c-a by omega) (show 0<=e+b by omega)
  have k2:=Int.mul_nonneg (show 0<=c+a by omega) (show 0<=e-b by omega)
  have e3:(c-a)*(e+b)+(c+a)*(e-b)=2*(c*e) -2*(a*b):=by grind
  omega
 have LY:∀a b c e:Int,-c<=a->a<=c-> -e<=b->b<=e-> -(c*e)<=a*b:=λa b c e h1 h2 h3 h4=>by
  have:=ab (-a) b c e (by omega) (by omega) h3 h4
  have e3: -a*b= -(a*b):=by grind
  omega
 have Ap:=h.pos
 have Bp:0<aQ m y:=Int.lt_of_lt_of_le h.pos h.le
 have pl: -(aQ m x)<=av m x y/\av m x y<=aQ m x:=by have:=h.lo;have:=h.hi;omega
 have Ol: -(aQ m y)<=av m x y/\av m x y<=aQ m y:=by have:=h.le;omega
 have s1:=ab (aQ m x) (bV m x y t') (aQ m x) (ao m x y) (by omega) (Int.le_refl _) d.s.1 d.s.2
 have s2:=LY (aQ m x) (bV m x y t') (aQ m x) (ao m x y) (by omega) (Int.le_refl _) d.s.1 d.s.2
 have s3:=ab (av m x y) (bW m x y t') (aQ m x) (ao m x y) pl.1 pl.2 d.r.1 d.r.2
 have s4:=LY (av m x y) (bW m x y t') (aQ m x) (ao m x y) pl.1 pl.2 d.r.1 d.r.2
 have r1:=ab (av m x y) (bV m x y t') (aQ m y) (ao m x y) Ol.1 Ol.2 d.s.1 d.s.2
 have r2:=LY (av m x y) (bV m x y t') (aQ m y) (ao m x y) Ol.1 Ol.2 d.s.1 d.s.2
 have r3:=ab (aQ m y) (bW m x y t') (aQ m y) (ao m x y) (by omega) (Int.le_refl _) d.r.1 d.r.2
 have r4:=LY (aQ m y) (bW m x y t') (aQ m y) (ao m x y) (by omega) (Int.le_refl _) d.r.1 d.r.2
 refine⟨h,le,by rw[d.det];exact un,?_,⟨?_,?_⟩,?_,?_⟩
 ·have e1:3*(aQ m x*aQ m y)*aQ m t'=3*(aQ m x*aQ m y*aQ m t'):=by grind
  have e2:4*(aQ m x*aQ m y-av m x y*av m x y)*aQ m t'=4*(ao m x y*aQ m t'):=by show _=4*((aQ m x*aQ m y-av m x y*av m x y)*aQ m t');grind
  omega
 ·refine cancel (c:=0) ?_
  rw[p1]
  have e:ao m x y* -(2*aQ m x)= -(2*(aQ m x*ao m x y)):=by grind
  omega
 ·refine cancel (c:=0) ?_
  rw[p1]
  have e:ao m x y*(2*aQ m x)=2*(aQ m x*ao m x y):=by grind
  omega
 ·refine cancel (c:=0) ?_
  rw[p2]
  have e:ao m x y* -(2*aQ m y)= -(2*(aQ m y*ao m x y)):=by grind
  omega
 ·refine cancel (c:=0) ?_
  rw[p2]
  have e:ao m x y*(2*aQ m y)=2*(aQ m y*ao m x y):=by grind
  omega
theorem FY{x y z x' y' z':Nat->Int}(hx:∀i,i<3->x i=x' i)(hy:∀i,i<3->y i=y' i)(hz:∀i,i<3->z i=z' i):bO x y z=bO x' y' z':=by
 unfold bO
 rw[hx 0 (by decide),hx 1 (by decide),hx 2 (by decide),hy 0 (by decide),hy 1 (by decide),hy 2 (by decide),hz 0 (by decide),hz 1 (by decide),hz 2 (by decide)]
theorem Lh(m:List (List Int)){i:Nat}(hi:i<3):aQ m (LW i 1)=ent m i i:=by
 show av m _ _=_
 rw[aX]
 unfold LW
 rcases bE hi with rfl|rfl|rfl<;>simp
theorem Li{m:List (List Int)}(ev:cg m){a b c:Addr}{X:Addr->Nat->Int}{zs:List Addr}(h:zs.Perm [a,b,c])(so:zs.Pairwise λa b=>bK m (X a)<=bK m (X b)):
  ∃p q r,zs=[p,q,r]/\p∈ [a,b,c]/\q∈ [a,b,c]/\r∈ [a,b,c]/\(bO (X p) (X q) (X r)=bO (X a) (X b) (X c)∨bO (X p) (X q) (X r)= -bO (X a) (X b) (X c))/\aQ m (X p)+aQ m (X q)<=aQ m (X a)+aQ m (X c):=by
 match zs,h.length_eq with
 | [p,q,r],_=>
  refine⟨p,q,r,rfl,h.mem_iff.mp (by simp),h.mem_iff.mp (by simp),h.mem_iff.mp (by simp),Dt X h,?_⟩
  have e:=λd=>d8 ev (X d)
  have ea:=e a
  have eb:=e b
  have ec:=e c
  simp only[List.pairwise_cons,List.mem_cons,List.not_mem_nil,or_false,forall_eq_or_imp,forall_eq]at so
  show av m _ _+av m _ _<=av m _ _+av m _ _
  rcases JA h with z|z|z|z|z|z<;>injection z with e1 z<;>injection z with e2 z<;>injection z with e3 z<;>subst e1 e2 e3<;>omega
structure mj(N:List (List Int)):Prop where
 Cd:cz N
 ev:cg N
 ab:bU N=true
 pos:0<ent N 0 0
 Om:ent N 0 0<=ent N 1 1
 Oo:ent N 1 1<=ent N 2 2
 p: -(ent N 0 0)<=2*ent N 0 1/\2*ent N 0 1<=ent N 0 0
 u: -(2*ent N 0 0)<=ent N 0 2/\ent N 0 2<=2*ent N 0 0
 v: -(2*ent N 1 1)<=ent N 1 2/\ent N 1 2<=2*ent N 1 1
 few:3*(ent N 0 0*ent N 1 1*ent N 2 2)<=16*aA N
theorem m6(x y z:Nat->Int){j:Nat}(hj:j<3):ent (eK x y z) 0 j=x j/\ent (eK x y z) 1 j=y j/\ent (eK x y z) 2 j=z j:=⟨bC _ (by decide) hj,bC _ (by decide) hj,bC _ (by decide) hj⟩
theorem As{m:List (List Int)}(ev:cg m)(c:cz m)(ab:bU m=true){x y z:Nat->Int}(h:Cc m x y z):mj (fH m (eK x y z))/\(aA (eK x y z)=1∨aA (eK x y z)= -1)/\aA (fH m (eK x y z))=aA m:=by
 have hS:=dQ ev c
 have un:pC (aA (eK x y z)):=by rw[Dm];exact h.unit
 have c3:cz (eK x y z):=cF _
 have e:∀i j,i<3->j<3->ent (fH m (eK x y z)) i j=av m (λk=>ent (eK x y z) i k) (λk=>ent (eK x y z) j k):=λi j hi hj=>yy m _ hi hj
 have r0:∀k,k<3->ent (eK x y z) 0 k=x k:=λk hk=>(m6 x y z hk).1
 have r1:∀k,k<3->ent (eK x y z) 1 k=y k:=λk hk=>(m6 x y z hk).2.1
 have r2:∀k,k<3->ent (eK x y z) 2 k=z k:=λk hk=>(m6 x y z hk).2.2
 have NC:ent (fH m (eK x y z)) 0 0=aQ m x:=(e 0 0 (by decide) (by decide)).trans (fX r0 r0)
 have Oq:ent (fH m (eK x y z)) 1 1=aQ m y:=(e 1 1 (by decide) (by decide)).trans (fX r1 r1)
 have Ro:ent (fH m (eK x y z)) 2 2=aQ m z:=(e 2 2 (by decide) (by decide)).trans (fX r2 r2)
 have Iu:ent (fH m (eK x y z)) 0 1=av m x y:=(e 0 1 (by decide) (by decide)).trans (fX r0 r1)
 have Iv:ent (fH m (eK x y z)) 0 2=av m x z:=(e 0 2 (by decide) (by decide)).trans (fX r0 r2)
 have Iw:ent (fH m (eK x y z)) 1 2=av m y z:=(e 1 2 (by decide) (by decide)).trans (fX r1 r2)
 have dt:=yw (m:=m) un
 refine⟨⟨(show cz (ir (ir (eK x y z) m) (cL (eK x y z)))from cF _),vC ev c c3,sR hS ab c3 un,?_,?_,?_,?_,?_,?_,?_⟩,un,dt⟩
 ·rw[NC];exact h.pair.pos
 ·rw[NC,Oq];exact h.pair.le
 ·rw[Oq,Ro];exact h.le
 ·rw[NC,Iu];exact⟨h.pair.lo,h.pair.hi⟩
 ·rw[NC,Iv];exact h.u
 ·rw[Oq,Iw];exact h.v
 ·rw[NC,Oq,Ro,dt];exact h.few
theorem FZ{m:List (List Int)}{x y z:Nat->Int}(h:Cc m x y z):3*aQ m x<=16*aA m/\3*aQ m y<=16*aA m/\3*aQ m z<=16*aA m:=by
 have p:=h.pair.pos
 have q:=h.pair.le
 have r:=h.le
 have f:=h.few
 have k1:aQ m y<=aQ m x*aQ m y:=by
  have:=Int.mul_le_mul_of_nonneg_right (show 1<=aQ m x by omega) (show 0<=aQ m y by omega)
  omega
 have k2:1*aQ m z<=aQ m x*aQ m y*aQ m z:=Int.mul_le_mul_of_nonneg_right (by omega) (by omega)
 omega
end L2
namespace wO
open PySem PyProof.Rows
section
variable{prog:Program}{w:World}{A:Around}{E:Value->Shared->Prop}{s:Shared}{κ:SortKind}{K:Keyed->Int}{D:Keyed->Prop}{st:SortSt}
theorem IA(hL:pD prog w A E s κ K D){Q:Unit->SortSt->Prop}(B:SB κ D st)(hp:pendingOf st= #[])(h64:(arrOf st).size<64)
  (hq:∀st',(arrOf st').Perm (arrOf st) ->failedOf st'=none->So K (arrOf st') 0 (arrOf st).size->Q () st'):wpS (model prog w) A E s sortRuns' Q st:=by
 rw[FG]
 refine wpS_bind (wpS_get ?_)
 dsimp only
 have mr:minRun' (arrOf st).size (arrOf st).size 0=(arrOf st).size:=by
  cases h:(arrOf st).size with
  |zero=>rfl
  |succ k=>
   rw[minRun'_succ,if_pos (by omega)]
 rw[mr]
 refine wpS_bind (wpS_mono (wpS_forRange (I:=λx c s1=>(x=0/\c=(none,0)/\s1=st)∨(c=(none,(arrOf st).size)/\(arrOf s1).Perm (arrOf st)/\failedOf s1=none/\So K (arrOf s1) 0 (arrOf st).size/\(pendingOf s1).size=1))
  (Q:=λc s1=>c=(none,(arrOf st).size)/\(arrOf s1).Perm (arrOf st)/\failedOf s1=none/\So K (arrOf s1) 0 (arrOf st).size/\(pendingOf s1).size<=1) ?_ ?_ (.inl ⟨rfl,rfl,rfl⟩)) ?_)
 ·rintro x c s1 _ hx (⟨rfl,rfl,rfl⟩|⟨rfl,h⟩)
  ·dsimp only
   refine jC (λc=>by omega) (λ_=> ?_)
   refine wpS_bind (w_count hL B (by omega) (by omega) λn s2 S2 n1 n2 LX=> ?_)
   dsimp only
   have Tq:=S2.size
   have note:∀s3:SortSt,SC 0 s1 s3->So K (arrOf s3) 0 (arrOf s1).size-> ∀m,m=(arrOf s1).size-> ∀Q:ForInStep (Option Unit×Nat) ->SortSt->Prop,(∀s5,(arrOf s5).Perm (arrOf s1) ->failedOf s5=none->So K (arrOf s5) 0 (arrOf s1).size->(pendingOf s5).size=1->Q (.yield (none,(arrOf s1).size)) s5) ->wpS (model prog w) A E s (do
     modify λy=>setPending y ((pendingOf y).push (0,m,0))
     pure (ForInStep.yield ((none,0+m):Option Unit×Nat))) Q s3:=λs3 S3 Ei m em Q hQ=>by
    subst em
    rw[Nat.zero_add]
    refine wpS_bind (wpS_modify (wpS_pure (hQ _ S3.perm (S3.failed.trans B.failed) Ei ?_)))
    show((pendingOf s3).push _).size=1
    rw[S3.pend,hp]
    rfl
   by_cases hm:n<(arrOf s1).size
   ·rw[if_pos hm]
    refine wpS_bind (wpS_lift (wpAny_rule ⟨rfl,?_⟩))
    refine wpS_bind (Jw hL (B.sc S2) (by omega) (by omega) LX λs3 S3 Ei=> ?_)
    simp only[Bool.not_true,Bool.false_eq_true,if_false]
    refine wpS_bind (wpS_get ?_)
    rw[(S2.trans S3).pend,hp]
    have em:min ((arrOf s1).size-0) (arrOf s1).size=(arrOf s1).size:=by omega
    rw[em]at Ei
    exact note s3 (S2.trans S3) Ei _ em _ λs5 p f o q=> .inr ⟨rfl,p,f,o,q⟩
   ·rw[if_neg hm]
    have en:n=(arrOf s1).size:=by omega
    rw[en]at LX
    refine wpS_bind (wpS_get ?_)
    rw[S2.pend,hp]
    exact note s2 S2 LX _ en _ λs5 p f o q=> .inr ⟨rfl,p,f,o,q⟩
  ·dsimp only
   exact jC (λ_=>wpS_pure ⟨rfl,h.1,h.2.1,h.2.2.1,Nat.le_of_eq h.2.2.2⟩) (λc=>absurd (Nat.le_refl _) c)
 ·rintro c s1 (⟨h0,rfl,rfl⟩|⟨rfl,h⟩)
  ·have z:(arrOf s1).size=0:=by omega
   rw[z]
   exact⟨rfl,Array.Perm.refl _,B.failed,λi j _ h=>absurd h (Nat.not_lt_zero _),by rw[hp];decide⟩
  ·exact⟨rfl,h.1,h.2.1,h.2.2.1,Nat.le_of_eq h.2.2.2⟩
 ·rintro c s1 ⟨rfl,h1,h2,h3,h4⟩
  dsimp only
  refine wpS_bind (wpS_mono (wpS_forRange (I:=λ_ c s2=>c=(none,())/\s2=s1) (Q:=λc s2=>c=(none,())/\s2=s1) ?_ (λ_ _ h=>h) ⟨rfl,rfl⟩) ?_)
  ·rintro x c s2 _ hx ⟨rfl,rfl⟩
   refine wpS_bind (wpS_get ?_)
   exact jC (λc=>wpS_pure ⟨rfl,rfl⟩) (λc=>absurd h4 c)
  ·rintro c s2 ⟨rfl,rfl⟩
   exact wpS_pure (hq _ h1 h2 h3)
end
end wO
namespace L2
open PySem PySem.Spec PyProof.Rows PySem.Calls wO
section
variable{prog:Program}{w:World}{A:Around}{E:Value->Shared->Prop}{s:Shared}
theorem ID{a kS:Addr}{P:PySem.Fin->Shared->Prop}{kf:V->Int}{ys:List V}{us:List Value}{keys:Array Value}{e1 e:Nat}(hk:pI kf ys us keys.toList)(hn:kS≠a)(hz:us.length<=sizeLine)(h64:us.length<64)
  (ha:s.heap.get? a=some (seqObj "list" #[] e1))(hS:s.heap.get? kS=some (seqObj "list" keys e))
  (h:∀(zs:List V) (out:List Value) h' tk,zs.Perm ys->zs.Pairwise (λx y=>kf x<=kf y) ->Vals zs out->out.length=us.length->(∀b o,b≠a->b≠kS->s.heap.get? b=some o->h'.get? b=some o) ->(∃c,h'.get? a=some (seqObj "list" out.toArray c)) ->(∃o,h'.get? kS=some o) ->
   P (.done (.ret .none)) {s with heap:=h',toks:=tk}):wpAny (model prog w) A (ksk_end a false us.toArray e1 (.ref kS) keys) P E s:=by
 have kl:keys.toList.length=us.length:=by
  have:∀{ys:List V} {us ks:List Value},pI kf ys us ks->ks.length=us.length:=λh=>by
   induction h with
   |nil=>rfl
   |cons t r _ ih=>simp[ih]
  exact this hk
 have kz:keys.size=us.length:=by rw[<-kl];exact(Array.length_toList ..).symm
 have Rp:(keys.zip us.toArray).size=us.length:=by rw[Array.size_zip,kz,List.size_toArray,Nat.min_self]
 have zl:(keys.zip us.toArray).toList=keys.toList.zip us:=ksk_zip keys us
 have tail:∀st:SortSt,(arrOf st).Perm (keys.zip us.toArray) ->failedOf st=none->So (λp=>numOf p.1) (arrOf st) 0 us.length->wpAny (model prog w) A (ksk_tail a false e1 (.ref kS) st) P E s:=by
  intro st hp hf hs
  have pl:(arrOf st).toList.Perm (keys.toList.zip us):=by rw[<-zl];exact Array.perm_iff_toList_perm.mp hp
  obtain⟨tr,t1,t2,t3⟩:=hk.out
  obtain⟨Ot,p',e'⟩:=vG pl tr t1
  have len:(arrOf st).toList.length=us.length:=by rw[pl.length_eq,List.length_zip,kl,Nat.min_self]
  have oz:((arrOf st).map (·.2)).size=us.length:=by rw[Array.size_map,<-len,Array.length_toList]
  have oe:((arrOf st).map (·.2)).toList=Ot.map λt=>t.1.2:=by
   rw[Array.toList_map,e',List.map_map]
   rfl
  unfold ksk_tail
  try dsimp only
  generalize(arrOf st).map (·.2)=ov at oz oe ⊢
  refine wpAny_bind (listUpdate_at hS rfl ?_ (by omega) (Nat.zero_le _))
  refine wpAny_bind (wpAny_letGo ?_)
  have Rq:=Heap.SameBut.update s.heap kS (Obj.mapSeq λ_=>(#[]:Array Value))
  have ha1:(s.heap.update kS (Obj.mapSeq λ_=>(#[]:Array Value))).get? a=some (seqObj "list" #[] e1):=(Rq.2 a hn.symm).trans ha
  have NZ:=Heap.SameBut.update (s.heap.update kS (Obj.mapSeq λ_=>(#[]:Array Value))) a (Obj.mapSeq λ_=>ov)
  refine wpAny_bind (seqEpoch_at ha1 rfl ?_)
  refine wpAny_bind (listUpdate_at ha1 rfl ?_ (Nat.zero_le _) (Nat.le_trans (Nat.le_of_eq oz) (Nat.le_succ_of_le hz)))
  rw[hf]
  simp only[bne_self_eq_false,Bool.false_eq_true,if_false]
  refine wpAny_pure (h (Ot.map Prod.snd) (Ot.map λt=>t.1.2) _ _ (by rw[t2];exact p'.map _) ?_ ?_ ?_ (λb o h1 h2 q=> ?_) ?_ ?_)
  ·have h2:=(p9 (K:=λp=>numOf p.1) (a:=arrOf st) (lo:=0) (n:=us.length) (by rw[Nat.zero_add,<-len,Array.length_toList];exact Nat.le_refl _)).mp hs
   have e2:sl (arrOf st) 0 us.length=(arrOf st).toList:=by
    show((arrOf st).toList.drop 0).take us.length=_
    rw[List.drop_zero,List.take_of_length_le (by omega)]
   rw[e2,e',List.pairwise_map]at h2
   rw[List.pairwise_map]
   refine h2.imp_of_mem λ {x y} mx my q=> ?_
   obtain⟨_,k1,q1⟩:=t3 x (p'.mem_iff.mp mx)
   obtain⟨_,k2,q2⟩:=t3 y (p'.mem_iff.mp my)
   rw[q1,q2]at q
   exact q
  ·have:∀l:List (Keyed×V),(∀t∈l,RelV t.2 t.1.2) ->Vals (l.map Prod.snd) (l.map λt=>t.1.2):=λl=>by
    induction l with
    |nil=>intro _;exact .nil
    |cons t l ih=>intro hl;exact .cons (hl t List.mem_cons_self) (ih λz hz=>hl z (List.mem_cons_of_mem _ hz))
   exact this Ot λt ht=>(t3 t (p'.mem_iff.mp ht)).1
  ·rw[<-oe,<-oz,Array.length_toList]
  ·exact(NZ.2 b h1).trans ((Rq.2 b h2).trans q)
  ·rw[<-oe,Array.toArray_toList]
   exact⟨_,get?_update_seq ha1 λ_=>ov⟩
  ·exact⟨_,(NZ.2 kS hn).trans (get?_update_seq hS λ_=> #[])⟩
 unfold ksk_end
 try dsimp only
 simp only[Bool.false_eq_true,if_false]
 by_cases h2:us.toArray.size<2
 ·rw[if_pos h2,if_pos h2]
  refine wpAny_bind (wpAny_pure ?_)
  rw[StateT.run_pure]
  refine wpAny_bind (wpAny_pure ?_)
  try dsimp only
  refine tail (SortSt.mk' general' (keys.zip us.toArray) #[] 7 none) (Array.Perm.refl _) rfl (λi j hij hj=> ?_)
  rw[List.size_toArray]at h2
  have:i=j:=by omega
  subst this
  exact Int.le_refl _
 ·rw[if_neg h2,if_neg h2]
  rw[List.size_toArray]at h2
  rw[ksk_kind hk.ints (by omega)]
  refine wpAny_bind (wpAny_pure ?_)
  have R:wO.SB oneType' (λp=> ∃n t,p.1= .int n t) (SortSt.mk' oneType' (keys.zip us.toArray) #[] 7 none):=by
   refine⟨rfl,rfl,λp hp=> ?_⟩
   have iD:p∈(keys.zip us.toArray).toList:=hp
   rw[zl]at iD
   exact hk.ints.all p.1 (List.of_mem_zip (a:=p.1) (b:=p.2) iD).1
  refine wpAny_bind (wpAny_mono (IA Di (Q:=λ_ st'=>(arrOf st').Perm (keys.zip us.toArray)/\failedOf st'=none/\So (λp=>numOf p.1) (arrOf st') 0 (keys.zip us.toArray).size) R rfl (show(keys.zip us.toArray).size<64 by rw[Rp];exact h64) λst' a1 a2 a3=>⟨a1,a2,a3⟩) ?_ λ_ _ e=>e)
  rintro⟨⟨⟩,st'⟩ s' ⟨rfl,hp,hf,hs⟩
  rw[Rp]at hs
  try dsimp only
  exact tail st' hp hf hs
end
section
variable{X:Cx}{pins:List (Addr×Obj)}{σ:St}{H:Hp}{s:Shared}{B:Around}{a:Addr}{f:Value}{kf:V->Int}{ys:List V}{us:List Value}
theorem Du(I:Inv X pins σ H s)(fa:fQ X pins H a){n:Nat}(ha:s.heap.get? a=some (seqObj "list" us.toArray n))(r:Vals ys us)(hz:us.length<=sizeLine)(h64:us.length<64){E:Value->Shared->Prop}{P:PySem.Fin->Shared->Prop}
  (turn:∀(oO:List (Addr×Obj)) (v:V) (Hi:Hp) (u:Value) (si:Shared),v∈ys->ay H Hi->RelV v u->Inv X oO σ Hi si->wpAny (model X.prog X.w) B (call f [u]) (EP X oO σ (λv' H'=>v'= .int (kf v)/\ay Hi H')) (λ_ _=>False) si)
  (done:∀(Hn:Hp) (s':Shared) (zs:List V),Inv X pins σ (upd Hn a (.lst zs)) s'->ay H Hn->Hn a=none->zs.Perm ys->zs.Pairwise (λx y=>kf x<=kf y) ->P (.done (.ret .none)) s'):
  wpAny (model X.prog X.w) B (ksk_tree a f false) P E s:=by
 have rl:=r.length
 unfold ksk_tree
 refine wpAny_bind (listItems_at ha rfl ?_)
 refine wpAny_bind (listUpdate_at ha rfl ?_ (by simpa using hz) (Nat.zero_le _))
 obtain⟨e1,ha1⟩:∃e1,(s.heap.update a (Obj.mapSeq λ_=> #[])).get? a=some (seqObj "list" #[] e1):=⟨_,get?_update_seq ha (λ_=> #[])⟩
 refine wpAny_bind (seqEpoch_at ha1 rfl ?_)
 refine wpAny_bind (wpAny_newTuple ?_ (by simpa using hz))
 refine wpAny_bind (wpAny_newList ?_ (Nat.zero_le _))
 refine wpAny_holding ?_
 have I1:Inv X pins σ H {s with heap:=s.heap.update a (Obj.mapSeq λ_=> #[])}:=I.pB (ch:=[a]) (t':=s.toks) (λb o hb e=>(Heap.get?_update_ne _ _ _ _ (by simpa using hb)).trans e) (λb hb=>by rw[List.mem_singleton.mp hb];exact fa)
 have I2:Inv X pins σ H {s with heap:=((s.heap.update a (Obj.mapSeq λ_=> #[])).push (seqObj "tuple" us.toArray 0))}:=I1.kept (t':=s.toks) λb o e=>Heap.get?_push_of_some _ e
 have I3:Inv X pins σ H {s with heap:=((s.heap.update a (Obj.mapSeq λ_=> #[])).push (seqObj "tuple" us.toArray 0)).push (seqObj "list" #[] 0)}:=I2.kept (t':=s.toks) λb o e=>Heap.get?_push_of_some _ e
 have fk:fQ X pins H ((s.heap.update a (Obj.mapSeq λ_=> #[])).push (seqObj "tuple" us.toArray 0)).objs.size:=I2.CD (Nat.le_refl _) I2.fresh
 have Rt:(((s.heap.update a (Obj.mapSeq λ_=> #[])).push (seqObj "tuple" us.toArray 0)).push (seqObj "list" #[] 0)).get? a=some (seqObj "list" #[] e1):=Heap.get?_push_of_some _ (Heap.get?_push_of_some _ ha1)
 have Jk:(((s.heap.update a (Obj.mapSeq λ_=> #[])).push (seqObj "tuple" us.toArray 0)).push (seqObj "list" #[] 0)).get? ((s.heap.update a (Obj.mapSeq λ_=> #[])).push (seqObj "tuple" us.toArray 0)).objs.size=some (seqObj "list" #[] 0):=Heap.get?_push_size _ rfl
 have PU:((s.heap.update a (Obj.mapSeq λ_=> #[])).push (seqObj "tuple" us.toArray 0)).objs.size≠a:=by
  have:=Heap.lt_size ha
  rw[size_push',Heap.size_update]
  exact Nat.ne_of_gt (Nat.lt_succ_of_lt this)
 generalize((s.heap.update a (Obj.mapSeq λ_=> #[])).push (seqObj "tuple" us.toArray 0)).objs.size=kS at fk Jk PU ⊢
 generalize((s.heap.update a (Obj.mapSeq λ_=> #[])).push (seqObj "tuple" us.toArray 0)).push (seqObj "list" #[] 0)=h3 at I3 Rt Jk ⊢
 show wpAny _ B (ksk_rest a f false us.toArray e1 (.ref kS)) P E {s with heap:=h3}
 have nc:∀(xs:Array Value) (m:Nat) (v:Option Value),(seqObj "list" xs m).data≠ .cell v:=λxs m v z=>nomatch z
 have I4:Inv X (BZ pins a e1 kS #[] 0) σ H {s with heap:=h3}:=I3.iT λp hp=>by
  rcases List.mem_append.mp hp with hp|hp
  ·exact I3.pin p (List.mem_append_right _ hp)
  ·rcases List.mem_cons.mp hp with rfl|hp
   ·exact wX fa Rt (nc _ _)
   ·rw[List.mem_singleton.mp hp]
    exact wX fk Jk (nc _ _)
 unfold ksk_rest
 refine wpAny_bind (wpAny_rule ?_)
 first
  |rw[List.forIn_toArray]
  |(rw[<-Array.forIn_toList];simp only[List.toList_toArray])
 refine wpAny_bind (ksk_fold (λi s'=> ∃Hi ks e,Inv X (BZ pins a e1 kS ks e) σ Hi s'/\ay H Hi/\pI kf (ys.take i) (us.take i) ks.toList) us 0 {s with heap:=h3} ⟨H, #[],0,I4,ay.refl _,by simpa using pI.nil⟩ ?_ ?_)
 ·rintro j x s' hx ⟨Hi,ks,e,J,sm,hk⟩
  simp only[Nat.zero_add]at hk ⊢
  obtain⟨v,hv,rv⟩:=Vals.at r hx
  have hj:j<us.length:=(List.getElem?_eq_some_iff.mp hx).1
  refine wpAny_bind (wpAny_attempt (wpAny_mono (turn _ v Hi x s' (List.mem_of_getElem? hv) sm rv J) (λu s2 he=> ?_) λ_ _ hF=>hF.elim))
  obtain⟨v',H',J',ru,rfl,TF⟩:=he
  obtain⟨t,rfl⟩:∃t,u= .int (kf v) t:=ru
  have pa:=J'.pin (a,seqObj "list" #[] e1) (by simp)
  have pk:=J'.pin (kS,seqObj "list" ks e) (by simp)
  have kl:ks.size=j:=by
   have h1:=hk.ints.length
   rw[Array.length_toList,List.length_map,List.length_take,rl]at h1
   omega
  try dsimp only
  refine wpAny_bind (listUpdate_at pk.1 rfl ?_ (by omega) (Nat.le_trans (Nat.le_of_eq (Array.size_push ..)) (by omega)))
  obtain⟨c2,hc2⟩:∃c2,(s2.heap.update kS (Obj.mapSeq (·.push (.int (kf v) t)))).get? kS=some (seqObj "list" (ks.push (.int (kf v) t)) c2):=⟨_,get?_update_seq pk.1 (·.push (.int (kf v) t))⟩
  have ya:ys.take (j+1)=ys.take j++ [v]:=by rw[List.take_add_one,hv];simp
  have ua:us.take (j+1)=us.take j++ [x]:=by rw[List.take_add_one,hx];simp
  have ea:(ks.push (Value.int (kf v) t)).toList=ks.toList++ [Value.int (kf v) t]:=by simp
  have J1:Inv X pins σ H' s2:=J'.iT λp hp=>J'.pin p (List.mem_append_right _ (List.mem_append_left _ hp))
  have J2:Inv X pins σ H' {s2 with heap:=s2.heap.update kS (Obj.mapSeq (·.push (.int (kf v) t)))}:=J1.pB (ch:=[kS]) (t':=s2.toks) (λb o hb e=>(Heap.get?_update_ne _ _ _ _ (by simpa using hb)).trans e) (λb hb=>by rw[List.mem_singleton.mp hb];exact vH fk pk.2.1)
  refine wpAny_pure ⟨rfl,H',ks.push (.int (kf v) t),c2,J2.iT λp hp=> ?_,sm.trans TF,by rw[ya,ua,ea];exact hk.snoc t rv⟩
  rcases List.mem_append.mp hp with hp|hp
  ·exact J2.pin p (List.mem_append_right _ hp)
  ·rcases List.mem_cons.mp hp with rfl|hp
   ·exact wX (vH fa pa.2.1) ((Heap.get?_update_ne _ _ _ _ PU.symm).trans pa.1) (nc _ _)
   ·rw[List.mem_singleton.mp hp]
    exact wX (vH fk pk.2.1) hc2 (nc _ _)
 ·rintro s' ⟨Hi,ks,e,J,sm,hk⟩
  rw[Nat.zero_add,List.take_of_length_le (Nat.le_of_eq rl),List.take_of_length_le (Nat.le_refl _)]at hk
  have pa:=J.pin (a,seqObj "list" #[] e1) (by simp)
  have pk:=J.pin (kS,seqObj "list" ks e) (by simp)
  have J1:Inv X pins σ Hi s':=J.iT λp hp=>J.pin p (List.mem_append_right _ (List.mem_append_left _ hp))
  try dsimp only
  refine wpAny_bind (listItems_at pk.1 rfl ?_)
  refine ID hk PU hz h64 pa.1 pk.1 λzs out h' tk pz so vo ol keep hA hS=> ?_
  have J2:Inv X pins σ Hi {s' with heap:=h',toks:=tk}:=J1.pB (ch:=[a,kS]) (t':=tk) (λb o hb e=>keep b o (λz=>hb (by simp[z])) (λz=>hb (by simp[z])) e) (λb hb=>by
   rcases List.mem_cons.mp hb with rfl|hb
   ·exact vH fa pa.2.1
   ·rw[List.mem_singleton.mp hb];exact vH fk pk.2.1)
  obtain⟨c,hc⟩:=hA
  exact done Hi _ zs (J2.Ju (vH fa pa.2.1) ⟨by rw[vo.length,ol];exact hz,out,c,vo,hc⟩) sm pa.2.1 pz so
theorem yJ{l:Addr}{fa:Addr}(I:Inv X pins σ H s)(hq:aT X.K H l ys)(h64:ys.length<64){Q:VK}
  (turn:∀(oO:List (Addr×Obj)) (v:V) (Hi:Hp) (u:Value) (si:Shared),v∈ys->ay H Hi->RelV v u->Inv X oO σ Hi si->wpAny (model X.prog X.w) X.A.in1.in1 (call (.ref fa) [u]) (EP X oO σ (λv' H'=>v'= .int (kf v)/\ay Hi H')) (λ_ _=>False) si)
  (done:∀(Hn:Hp) (zs:List V),ay H Hn->zs.Perm ys->zs.Pairwise (λx y=>kf x<=kf y) -> ∀p,Hn p=none->Q (.ref p) (upd Hn p (.lst zs))):
  wpAny (model X.prog X.w) X.A (call (.builtin "sorted") [.ref l] [(Str.ofString "key",.ref fa)]) (EP X pins σ Q) X.xe s:=by
 obtain⟨us,r,pl,hz⟩:=I.list hq
 have hz':us.length<=sizeLine:=by rw[<-r.length];exact hz
 refine call_function_entry_kw kind_sorted plain_sorted entry_sorted (ksk_s1 _ _) ?_
 unfold Builtin.«sorted»
 refine wpAny_bind (m:=checkCount "sorted" 1 1 _) (wpAny_pure ?_)
 refine wpAny_bind (collect_list pl.isList ?_ hz')
 refine wpAny_bind (wpAny_newList ?_ (by simpa using hz'))
 have z1:((s.heap.push (seqObj "list" #[] 0)).update s.heap.objs.size (Obj.mapSeq (· ++us.toArray))).objs.size=s.heap.objs.size+1:=by
  rw[Heap.size_update,size_push']
 generalize hg:((s.heap.push (seqObj "list" #[] 0)).update s.heap.objs.size (Obj.mapSeq (· ++us.toArray)))=h1 at z1
 have keep:∀b o,s.heap.get? b=some o->(h1.push (seqObj "list" us.toArray 0)).get? b=some o:=λb o e=>by
  have lb:=Heap.lt_size e
  refine Heap.get?_push_of_some _ ?_
  rw[<-hg,Heap.get?_update_ne _ _ _ _ (Nat.ne_of_lt lb)]
  exact Heap.get?_push_of_some _ e
 have JR:(h1.push (seqObj "list" us.toArray 0)).get? (s.heap.objs.size+1)=some (seqObj "list" us.toArray 0):=by
  rw[<-z1];exact Heap.get?_push_size _ rfl
 have I1:Inv X pins σ H {s with heap:=h1.push (seqObj "list" us.toArray 0)}:=I.kept (t':=s.toks) keep
 have TH:fQ X pins H (s.heap.objs.size+1):=I.CD (Nat.le_succ _) (I.hok.fresh (Nat.le_succ _))
 show wpAny _ _ _ _ _ {s with heap:=h1.push (seqObj "list" us.toArray 0)}
 rw[z1]
 refine wpAny_bind (wpAny_holding (wpAny_call_entry_kw slot_list_sort ⟨_,JR,rfl⟩ entry_list_sort ?_ (ksk_l1 _ _)))
 show wpAny (model X.prog X.w) X.A.in1.in1 (Builtin.«list.sort» ⟨[.ref (s.heap.objs.size+1)],[(Str.ofString "key",.ref fa)]⟩) _ _ _
 rw[ksk_t1]
 refine Du I1 TH JR r hz' (by rw[<-r.length];exact h64) turn λHn s' zs J sm hn pz so=>⟨_,rfl,?_⟩
 exact wpAny_pure ⟨_,rfl,.ref (s.heap.objs.size+1),_,J,rfl,done Hn zs sm pz so _ hn⟩
end
def Ce(tb:TE)(K:PySem.W.Frag)(P:Addr)(σ:St)(x:V)(H1:Hp)(Q:VK):Prop:=∃(l:Addr) (ys:List V) (kf:V->Int),x= .ref l/\aT K H1 l ys/\ys.length<64/\H1 P=some .xY/\
 (∀v∈ys,∀Hi,ay H1 Hi->tb (some v::σ) Hi λv' H'=>v'= .int (kf v)/\ay Hi H')/\
 ∀(Hn:Hp) (zs:List V),ay H1 Hn->zs.Perm ys->zs.Pairwise (λx y=>kf x<=kf y) -> ∀p,Hn p=none->Q (.ref p) (upd Hn p (.lst zs))
def IE(tb:TE)(K:PySem.W.Frag)(P:Addr)(te:TE):TE:=λσ H Q=>te σ H λx H1=>Ce tb K P σ x H1 Q
section
variable{X:Cx}{P:Addr}{te tb:TE}{e body:Expr}{args:Arguments}{sc:Scope}{x:Str}{N2:List Str}{p pos FL kpos:Pos}
theorem Dv(hc:X.calm=true){k:Nat}(hr:eT (k+3) X.A)(cd:fR X.K X.env.code P)(bm:BM X.mg X.base)(EV:Gl X "sorted")(hm:X.mg "sorted"=none)(he:PE X e te)(hB:Nz sc X.env.scope.names [x] N2 X.N=true)
  (hbind:∀qual cl pm c ctv u,bindArgs (PySem.W.kla_fn "<lambda>" qual args body sc cl pm c ctv) ⟨[u],[]⟩=pure [(x,u)])
  (hbody:∀q f cd s H,PE (X.lam X.A.in1.in1 sc ([x]++N2) q f cd s H) body tb)
  (hdef:defaultsOf args X.env=([],[]):=by rfl)
  (hkw:keywordEach [⟨some "key",.Lambda args body sc FL,kpos⟩] X.env=[(some (Str.ofString "key"),eval (.Lambda args body sc FL) X.env)]:=by rfl)
  (hse:starEach [e] X.env=(false,eval e X.env)::starEach [] X.env:=by rfl)(hst:backTo pos (starEach [e] X.env)=(false,eval e X.env)::backTo pos (starEach [] X.env):=by rfl)
  (hpl:(backTo pos (starEach [e] X.env)).any (·.1)=false:=by rfl):PE X (.Call (.Name "sorted" p) [e] [⟨some "key",.Lambda args body sc FL,kpos⟩] pos) (IE tb X.K P te):=by
 intro pins s σ H Q I h
 unfold Nz at hB
 simp only[Bool.and_eq_true]at hB
 obtain⟨⟨⟨⟨⟨h1,h2⟩,h3⟩,h4⟩,h5⟩,h6⟩:=hB
 have Bk:=lT h1
 have nc:∀y∈sc.names,y.2≠ .cell:=λy hy=>by
  have q:=List.all_eq_true.mp h5 y hy
  simpa using q
 have hx:sc.names.lookup x=some .local:=by
  have q:=List.all_eq_true.mp h6 x (by simp)
  simpa using q
 refine wpAny_Call_Name_kw (ku I EV hm PyProof.Rows.boot_sorted ?_)
 refine PyProof.Rows.callWith_kw (fS ((af he aj hse) pos pins s σ H (λvs H1=>match vs with| [v]=>Ce tb X.K P σ v H1 Q|_=>False) I h) λus s1 ⟨vs,H1,I1,r,q⟩=> ?_) hst hpl
 match vs,r,q with
 | [v],r,q=>
  obtain⟨l,ys,kf,rfl,hq,h64,hP,step,fin⟩:=q
  obtain⟨u,rfl,ru⟩:=vals1 r
  cases ru
  show wpAny _ _ (evalAll [do let v<-eval (.Lambda args body sc FL) X.env;standAt pos;pure v]) _ _ s1
  refine wpAny_evalAll_cons (wpAny_bind (Dh I1 cd hP bm Bk hdef λf H2 s2 I2 sm fr L=>wpAny_bind (wpAny_standAt (wpAny_pure (wpAny_evalAll_nil ?_)))))
  refine yJ (kf:=kf) I2 (FJ hq sm) h64 (λoO v Hi u si hv Ru rv J=> ?_) λHn zs TJ pz so=>fin Hn zs (sm.trans TJ) pz so
  exact Ip J (L.same Ru) Bk (by simpa using h2) (by simpa using h3) (by simpa using h4) nc hx hbind J.ok.frames (J.ok.hd hc) hr.depth (λq cd=>hbody q f cd si Hi) rv (step v hv Hi (sm.trans Ru))
end
end L2
namespace L2
open PySem PySem.Spec PyProof.Rows
section
variable{M:Model}{A:Around}{E:Value->Shared->Prop}{s:Shared}{base:Heap}{env:Env}{outer:List Env}{L e:Addr}{cls a0:Value}
end
section
variable{P:Program}{w:World}{K:PySem.W.Frag}{mg:Str->Option Value}{base:Heap}{N:List Str}{qual:Str}{scope:Scope}{f:Addr}{cd:Value}{A:Around}{outer:List Env}{s:Shared}{H:Hp}{E:XK}
end
section
variable{X:Cx}{pins:List (Addr×Obj)}{σ:St}{H:Hp}{s:Shared}
def Ends.behind(D:Ends)(i:Nat):Ends:={nx:=λσ H=>D.nx (σ.set i none) H,rt:=D.rt,bk:=λσ H=>D.bk (σ.set i none) H,ct:=λσ H=>D.ct (σ.set i none) H}
end
end L2
namespace L2
open PySem PySem.Spec PyProof.Rows PySem.W Builtin Builtin.ObjectAttr Builtin.Getset_descriptor
section
variable{K:Frag}{x D:Addr}
end
end L2
namespace L2
open PySem PySem.Spec PyProof.Rows
section
variable{P:Program}{w:World}{K:PySem.W.Frag}{mg:Str->Option Value}{base:Heap}
end
section
variable{X:Cx}{pins:List (Addr×Obj)}{σ:St}{H:Hp}{s:Shared}
end
section
variable{X:Cx}
end
structure dg(P:Program)(w:World)(K:PySem.W.Frag)(mg:Str->Option Value)(base:Heap)(C:CL)(k:Nat)(x:Str)(ps:List Str)(sp:Sp):Prop where
 ex:∃f fd,oV P w K mg base C k f fd ps sp/\Binds K fd ps []/\PySem.W.keepIn K (.ref f)=true/\mg x=some (.ref f)
structure fE(K:PySem.W.Frag)(mg:Str->Option Value)(x:Str)(st:Stmt)(ps:List Str):Prop where
 ex:∃f fd,Jj K x x st f fd/\Binds K fd ps []/\mg x=some (.ref f)
structure nG(K:PySem.W.Frag)(mg:Str->Option Value)(x:Str)(st:Stmt)(ps:List Str)(T:Addr):Prop where
 ex:∃f fd,CW K x x st f fd T/\Binds K fd ps []/\mg x=some (.ref f)
section
variable{P:Program}{w:World}{K:PySem.W.Frag}{mg:Str->Option Value}{base:Heap}{C:CL}{x:Str}{st:Stmt}{N ps:List Str}{j k:Nat}{sp:Sp}{T:Addr}
theorem dg.mono(F:dg P w K mg base C j x ps sp)(h:j<=k:=by decide):dg P w K mg base C k x ps sp:=by
 obtain⟨f,fd,a,b⟩:=F.ex
 exact⟨f,fd,a.mono h,b⟩
theorem fE.ok(F:fE K mg x st ps)(S:aM N ps (az st))(len:∀vs H Q E,sp vs H Q E->vs.length=ps.length)
  (hbody:∀f (cdv:Value) (A:Around) (outer:List Env) (s:Shared) (H:Hp) (vs:List V) (Q:VK) (E:XK),eT k (A.deeper (envOfC x (az st) s.heap.objs.size f cdv)) ->sp vs H Q E->
   ∃t,v7 (wj cO P w K mg base N x (az st) f cdv A outer s H E).Eg (eL st) t/\t {nx:=λ_ H'=>Q .iR H',rt:=Q} (start N vs) H):dg P w K mg base cO (k+1) x ps sp:=by
 obtain⟨f,fd,a,b,m⟩:=F.ex
 exact⟨f,fd,a.ok S len (hbody f),b,a.kp,m⟩
theorem nG.ok(F:nG K mg x st ps T)(S:aM N ps (az st))(len:∀vs H Q E,sp vs H Q E->vs.length=ps.length)
  (hbody:∀f (cdv:Value) (A:Around) (outer:List Env) (s:Shared) (H:Hp) (vs:List V) (Q:VK) (E:XK),fR K cdv T->eT k (A.deeper (envOfC x (az st) s.heap.objs.size f cdv)) ->sp vs H Q E->
   ∃t,v7 (wj cO P w K mg base N x (az st) f cdv A outer s H E).Eg (eL st) t/\t {nx:=λ_ H'=>Q .iR H',rt:=Q} (start N vs) H):dg P w K mg base cO (k+1) x ps sp:=by
 obtain⟨f,fd,a,b,m⟩:=F.ex
 exact⟨f,fd,a.ok S len (hbody f),b,a.kp,m⟩
end
theorem aL{X:Cx}{CX:CL}{k:Nat}{ps:List Str}{sp:Sp}{E:XK}{x:Str}{p pos:Pos}{e:Expr}{es:List Expr}{t:TA}(F:dg X.prog X.w X.K X.mg X.base CX k x ps sp)(hr:eT k X.A)(hg:Gl X x)(hx:Passes CX X E)(ha:PA X (e::es) t)
  (hdb:(x==("__debug__":Str))=false:=by decide)(he:starEach (e::es) X.env=(false,eval e X.env)::starEach es X.env:=by rfl)(hpl:(backTo pos (starEach es X.env)).any (·.1)=false:=by rfl):
  PE X (.Call (.Name x p) (e::es) [] pos) (lJ sp [] E t):=by
 obtain⟨f,fd,a,b,kp,m⟩:=F.ex
 exact HA a hr hg m kp b .nil hx ha hdb he hpl
def FnAt(K:PySem.W.Frag)(x:Str)(st:Stmt)(f:Addr):Prop:=∃(oc:Value) (od an:Option Addr) (sl:Array (Option Value)) (kV dc pm cd ct:Value),PySem.W.nsIn K mainGlobals x=some (some (.ref f))/\
 K.lookup f=some ⟨oc,od,.func (PySem.W.fnOf x x (f7 st) (eL st) (az st) .none kV dc pm an cd ct),sl⟩/\PySem.W.codeIn K cd x=true/\PySem.W.keepIn K (.ref f)=true
theorem fnAt{K:PySem.W.Frag}{x:Str}{st:Stmt}{f:Addr}{oc:Value}{od an:Option Addr}{sl:Array (Option Value)}{kV dc pm cd ct:Value}(a:PySem.W.nsIn K mainGlobals x=some (some (.ref f)):=by k_is)
  (l:K.lookup f=some ⟨oc,od,.func (PySem.W.fnOf x x (f7 st) (eL st) (az st) .none kV dc pm an cd ct),sl⟩:=by k_is)(c:PySem.W.codeIn K cd x=true:=by k_is)(k:PySem.W.keepIn K (.ref f)=true:=by k_is):FnAt K x st f:=
 ⟨oc,od,an,sl,kV,dc,pm,cd,ct,a,l,c,k⟩
section
variable{q:Program}{loose:List Str}{mean:ExcName->Option Value}{mg mb:Str->Option Value}{h:Heap}{K:PySem.W.Frag}{x:Str}{st:Stmt}{f:Addr}{ps:List Str}
theorem FnAt.fun(Tp:Top q loose mean mg mb h)(X:K.In h)(A:FnAt K x st f)
  (hb:∀(kV doc pm:Value) (an:Option Addr) (cdv ct:Value) (us:List Value),us.length=ps.length->bindArgs (PySem.W.fnOf x x (f7 st) (eL st) (az st) .none kV doc pm an cdv ct) ⟨us,[]⟩=pure (ps.zip us):=by exact λ_ _ _ _ _ _ us hl=>by first|(match us,hl with| [_],_=>rfl)|(match us,hl with| [_,_],_=>rfl)|(match us,hl with| [_,_,_],_=>rfl)|(match us,hl with| [_,_,_,_],_=>rfl)|(match us,hl with| [_,_,_,_,_],_=>rfl)|(match us,hl with| [_,_,_,_,_,_],_=>rfl)):fE K mg x st ps:=by
 obtain⟨oc,od,an,sl,kV,dc,pm,cd,ct,a,l,c,k⟩:=A
 have F:=EC (st:=st) l c k
 exact⟨f,_,F,F.binds hb,PySem.W.mg_of X Tp.g a⟩
theorem FnAt.Au(Tp:Top q loose mean mg mb h)(X:K.In h)(A:FnAt K x st f){d:DefRec}(r:(recsOf q).find? (λe=>e.name==x)=some d)
  (hb:∀(kV doc pm:Value) (an:Option Addr) (cdv ct:Value) (us:List Value),us.length=ps.length->bindArgs (PySem.W.fnOf x x (f7 st) (eL st) (az st) .none kV doc pm an cdv ct) ⟨us,[]⟩=pure (ps.zip us):=by exact λ_ _ _ _ _ _ us hl=>by first|(match us,hl with| [_],_=>rfl)|(match us,hl with| [_,_],_=>rfl)|(match us,hl with| [_,_,_],_=>rfl)|(match us,hl with| [_,_,_,_],_=>rfl)|(match us,hl with| [_,_,_,_,_],_=>rfl)|(match us,hl with| [_,_,_,_,_,_],_=>rfl)):
  ∃T,nG K mg x st ps T/\isCodeTable h T/\h.get? T=some {cls:= .none,data:= .fields #[]}/\tabOf K f=some (.ref T):=by
 obtain⟨oc,od,an,sl,kV,dc,pm,cd,ct,a,l,c,k⟩:=A
 have m:=PySem.W.mg_of X Tp.g a
 obtain⟨T,cA,cT,cE⟩:=z4 Tp r X m l (show PySem.W.codeIn K (PySem.W.fnOf x x (f7 st) (eL st) (az st) .none kV dc pm an cd ct).code x=true from c)
 have F:CW K x x st f _ T:=⟨⟨oc,od,kV,dc,pm,an,cd,ct,sl,rfl,l,c,cA⟩,k⟩
 exact⟨T,⟨f,_,F,F.fn.binds hb,m⟩,cT,cE,yk l cA⟩
end
end L2
set_option maxHeartbeats 1000000
namespace CJ
open PySem L2
def top(i:Nat):Stmt:=PySem.Challenge.pw_conekin_k16_how_many_rows.main.body.getD i (.Pass ⟨0,0,0,0⟩)
abbrev nS:Stmt:=top 6
abbrev gY:List Str:=["thing"]
theorem yK:aM ["thing"] gY (az nS):=⟨rfl,rfl,rfl,by decide+kernel,rfl,by decide+kernel,by decide+kernel⟩
abbrev sZ:Stmt:=top 7
abbrev mq:List Str:=["thing"]
theorem Dw:aM ["thing"] mq (az sZ):=⟨rfl,rfl,rfl,by decide+kernel,rfl,by decide+kernel,by decide+kernel⟩
abbrev nT:Stmt:=top 8
abbrev jl:List Str:=["thing"]
theorem yL:aM ["thing"] jl (az nT):=⟨rfl,rfl,rfl,by decide+kernel,rfl,by decide+kernel,by decide+kernel⟩
abbrev qd:Stmt:=top 9
abbrev kg:List Str:=["one","other"]
theorem Av:aM ["one","other"] kg (az qd):=⟨rfl,rfl,rfl,by decide+kernel,rfl,by decide+kernel,by decide+kernel⟩
abbrev jP:Stmt:=top 10
abbrev fz:List Str:=["table"]
theorem tD:aM ["table"] fz (az jP):=⟨rfl,rfl,rfl,by decide+kernel,rfl,by decide+kernel,by decide+kernel⟩
abbrev jm:Stmt:=top 11
abbrev fK:List Str:=["table","i","j"]
theorem iH:aM ["table","i","j","row","next_row","column","next_column"] fK (az jm):=⟨rfl,rfl,rfl,by decide+kernel,rfl,by decide+kernel,by decide+kernel⟩
abbrev jQ:Stmt:=top 12
abbrev eH:List Str:=["table"]
theorem cj:aM ["table","a","b","c","d","e","f","g","h","i"] eH (az jQ):=⟨rfl,rfl,rfl,by decide+kernel,rfl,by decide+kernel,by decide+kernel⟩
abbrev w5:Stmt:=top 13
abbrev pJ:List Str:=["table"]
theorem Ga:aM ["table"] pJ (az w5):=⟨rfl,rfl,rfl,by decide+kernel,rfl,by decide+kernel,by decide+kernel⟩
abbrev qf:Stmt:=top 14
abbrev kh:List Str:=["table","by"]
theorem Aw:aM ["table","by"] kh (az qf):=⟨rfl,rfl,rfl,by decide+kernel,rfl,by decide+kernel,by decide+kernel⟩
abbrev iI:Stmt:=top 17
abbrev fm:List Str:=["thing"]
theorem qg:aM ["thing"] fm (az iI):=⟨rfl,rfl,rfl,by decide+kernel,rfl,by decide+kernel,by decide+kernel⟩
abbrev qh:Stmt:=top 18
abbrev ki:List Str:=["thing"]
theorem Ax:aM ["thing"] ki (az qh):=⟨rfl,rfl,rfl,by decide+kernel,rfl,by decide+kernel,by decide+kernel⟩
abbrev qi:Stmt:=top 19
abbrev gZ:List Str:=["table","one","other"]
theorem kK:aM ["table","one","other","x","y","z"] gZ (az qi):=⟨rfl,rfl,rfl,by decide+kernel,rfl,by decide+kernel,by decide+kernel⟩
abbrev w6:Stmt:=top 20
abbrev kL:List Str:=["table","row"]
theorem Gb:aM ["table","row"] kL (az w6):=⟨rfl,rfl,rfl,by decide+kernel,rfl,by decide+kernel,by decide+kernel⟩
abbrev qj:Stmt:=top 21
abbrev kj:List Str:=["table"]
theorem nU:aM ["table","first","mixed"] kj (az qj):=⟨rfl,rfl,rfl,by decide+kernel,rfl,by decide+kernel,by decide+kernel⟩
abbrev Ay:Stmt:=top 22
abbrev qk:List Str:=["form"]
theorem Cf:aM ["form","told"] qk (az Ay):=⟨rfl,rfl,rfl,by decide+kernel,rfl,by decide+kernel,by decide+kernel⟩
abbrev nV:Stmt:=top 24
abbrev g6:List Str:=["form","rows"]
theorem yM:aM ["form","rows"] g6 (az nV):=⟨rfl,rfl,rfl,by decide+kernel,rfl,by decide+kernel,by decide+kernel⟩
abbrev kM:Stmt:=top 25
abbrev fO:List Str:=["row","times","other"]
theorem uz:aM ["row","times","other"] fO (az kM):=⟨rfl,rfl,rfl,by decide+kernel,rfl,by decide+kernel,by decide+kernel⟩
abbrev ql:Stmt:=top 26
abbrev ko:List Str:=["top","bottom"]
theorem Az:aM ["top","bottom"] ko (az ql):=⟨rfl,rfl,rfl,by decide+kernel,rfl,by decide+kernel,by decide+kernel⟩
abbrev kN:Stmt:=top 27
abbrev gE:List Str:=["form","one","other"]
theorem jR:aM ["form","one","other"] gE (az kN):=⟨rfl,rfl,rfl,by decide+kernel,rfl,by decide+kernel,by decide+kernel⟩
abbrev nW:Stmt:=top 28
abbrev jn:List Str:=["form","one","other","third"]
theorem fL:aM ["form","one","other","third","across","along","aside","by_one","by_other","area","first","second","corners"] jn (az nW):=⟨rfl,rfl,rfl,by decide+kernel,rfl,by decide+kernel,by decide+kernel⟩
abbrev kO:Stmt:=top 29
abbrev gF:List Str:=["form"]
theorem cI:aM ["form","one","other","third"] gF (az kO):=⟨rfl,rfl,rfl,by decide+kernel,rfl,by decide+kernel,by decide+kernel⟩
abbrev AA:Stmt:=top 30
abbrev qm:List Str:=["form"]
theorem Cg:aM ["form","basis"] qm (az AA):=⟨rfl,rfl,rfl,by decide+kernel,rfl,by decide+kernel,by decide+kernel⟩
abbrev AB:Stmt:=top 33
abbrev qo:List Str:=["number"]
theorem w9:aM ["number","told"] qo (az AB):=⟨rfl,rfl,rfl,by decide+kernel,rfl,by decide+kernel,by decide+kernel⟩
abbrev tE:Stmt:=top 34
abbrev mw:List Str:=["table","n"]
theorem cH:aM ["table","n","first","mixed","far","second","third","flat","bent","high","whole","most","told","reach","z","span","y","left"] mw (az tE):=⟨rfl,rfl,rfl,by decide+kernel,rfl,by decide+kernel,by decide+kernel⟩
abbrev mz:Stmt:=top 35
abbrev gn:List Str:=["table","n"]
theorem cV:aM ["table","n","first","told","y","z","shift","left","side","sides","number"] gn (az mz):=⟨rfl,rfl,rfl,by decide+kernel,rfl,by decide+kernel,by decide+kernel⟩
abbrev nX:Stmt:=top 36
abbrev jo:List Str:=["row","basis"]
theorem yN:aM ["row","basis"] jo (az nX):=⟨rfl,rfl,rfl,by decide+kernel,rfl,by decide+kernel,by decide+kernel⟩
abbrev iJ:Stmt:=top 37
abbrev d9:List Str:=["n","greatest"]
theorem qp:aM ["n","greatest"] d9 (az iJ):=⟨rfl,rfl,rfl,by decide+kernel,rfl,by decide+kernel,by decide+kernel⟩
abbrev qt:Stmt:=top 38
abbrev kq:List Str:=["form","n"]
theorem nY:aM ["form","n","table","basis"] kq (az qt):=⟨rfl,rfl,rfl,by decide+kernel,rfl,by decide+kernel,by decide+kernel⟩
abbrev nZ:Stmt:=top 39
abbrev jq:List Str:=["form","n"]
theorem yO:aM ["form","n"] jq (az nZ):=⟨rfl,rfl,rfl,by decide+kernel,rfl,by decide+kernel,by decide+kernel⟩
abbrev jr:Stmt:=top 41
abbrev fM:List Str:=["_law_script","_law_k"]
theorem rF:aM ["_law_script","_law_k"] fM (az jr):=⟨rfl,rfl,rfl,by decide+kernel,rfl,by decide+kernel,by decide+kernel⟩
abbrev jS:Stmt:=top 42
abbrev fY:List Str:=["_law_script","_law_k"]
theorem dU:aM ["_law_script","_law_k","_law_x","_law_total","_law_j"] fY (az jS):=⟨rfl,rfl,rfl,by decide+kernel,rfl,by decide+kernel,by decide+kernel⟩
abbrev kP:Stmt:=top 43
abbrev gG:List Str:=["_law_row","_law_column"]
theorem uA:aM ["_law_row","_law_column"] gG (az kP):=⟨rfl,rfl,rfl,by decide+kernel,rfl,by decide+kernel,by decide+kernel⟩
abbrev jt:Stmt:=top 44
abbrev fN:List Str:=["_law_one","_law_other"]
theorem lK:aM ["_law_one","_law_other","_law_over_here"] fN (az jt):=⟨rfl,rfl,rfl,by decide+kernel,rfl,by decide+kernel,by decide+kernel⟩
abbrev mC:Stmt:=top 45
abbrev gp:List Str:=["_law_table"]
theorem xg:aM ["_law_table"] gp (az mC):=⟨rfl,rfl,rfl,by decide+kernel,rfl,by decide+kernel,by decide+kernel⟩
abbrev n9:Stmt:=top 46
abbrev gf:List Str:=["_law_t"]
theorem jD:aM ["_law_t","_law_first","_law_second","_law_third"] gf (az n9):=⟨rfl,rfl,rfl,by decide+kernel,rfl,by decide+kernel,by decide+kernel⟩
abbrev kQ:Stmt:=top 47
abbrev gH:List Str:=["_law_a","_law_b","_law_c","_law_big"]
theorem fB:aM ["_law_a","_law_b","_law_c","_law_big","_law_p","_law_q","_law_r","_law_found"] gH (az kQ):=⟨rfl,rfl,rfl,by decide+kernel,rfl,by decide+kernel,by decide+kernel⟩
abbrev mD:Stmt:=top 48
abbrev iw:List Str:=["_law_big","_law_most"]
theorem ck:aM ["_law_big","_law_most","_law_a","_law_b","_law_c","_law_found"] iw (az mD):=⟨rfl,rfl,rfl,by decide+kernel,rfl,by decide+kernel,by decide+kernel⟩
abbrev kR:Stmt:=top 49
abbrev gI:List Str:=["_law_big","_law_most","_law_far"]
theorem cJ:aM ["_law_big","_law_most","_law_far","_law_rows_here","_law_many","_law_k","_law_i","_law_j","_law_often"] gI (az kR):=⟨rfl,rfl,rfl,by decide+kernel,rfl,by decide+kernel,by decide+kernel⟩
abbrev mE:Stmt:=top 50
abbrev gq:List Str:=["_law_number_here"]
theorem eX:aM ["_law_number_here","_law_high","_law_low","_law_middle"] gq (az mE):=⟨rfl,rfl,rfl,by decide+kernel,rfl,by decide+kernel,by decide+kernel⟩
abbrev kT:Stmt:=top 51
abbrev gJ:List Str:=["_law_t","_law_n","_law_k"]
theorem jT:aM ["_law_t","_law_n","_law_k","_law_i","_law_j","_law_plain"] gJ (az kT):=⟨rfl,rfl,rfl,by decide+kernel,rfl,by decide+kernel,by decide+kernel⟩
abbrev mF:Stmt:=top 52
abbrev iy:List Str:=["_law_t","_law_n"]
theorem cN:aM ["_law_t","_law_n","_law_found","_law_wide","_law_far","_law_x","_law_y","_law_own","_law_mixed","_law_square","_law_side","_law_top"] iy (az mF):=⟨rfl,rfl,rfl,by decide+kernel,rfl,by decide+kernel,by decide+kernel⟩
abbrev pK:Stmt:=top 53
abbrev ND:List Str:=["_law_script"]
theorem jU:aM ["_law_script","_law_form_here","_law_basis_here","_law_there","_law_k","_law_big","_law_n","_law_due","_law_handed","_law_found"] ND (az pK):=⟨rfl,rfl,rfl,by decide+kernel,rfl,by decide+kernel,by decide+kernel⟩
section
variable{P:Program}{w:World}{K:PySem.W.Frag}{mg:Str->Option Value}{base:Heap}
inductive Gd (T0:Addr) (vs:List V) (H:Hp) (Q:VK) (E:XK):Prop
 |mk (t1:Addr) (b1:List Addr) (m1:List (List Int)) (t2:Addr) (b2:List Addr) (m2:List (List Int)) (_:vs=[.ref t1,.ref t2]) (_:Tab H t1 b1 m1) (_:Tab H t2 b2 m2) (_:cz m1) (_:cz m2) (_:Bd 4096 m1) (_:Bd 4096 m2) (_:H T0=some (dG T0)) (_:∀r bs H',ay H H'->H r=none->(∀b∈bs,H b=none) ->r∉bs->Tab H' r bs (ir m1 m2) ->Q (.ref r) H')
theorem AD{br:Addr}(F:nG K mg "product" qd kg br)(bm:BM mg base)(pL:mg "sum"=none)(aR:mg "range"=none):dg P w K mg base cO 1 "product" kg (Gd br):=by
 refine F.ok Av (λvs H Q E h=> ?_) (λf cdv A outer s H vs Q E cd hr h=> ?_)
 ·obtain⟨t1,b1,m1,t2,b2,m2,rfl,h1,h2,c1,c2,d1,d2,hP,q⟩:=h
  rfl
 obtain⟨t1,b1,m1,t2,b2,m2,rfl,h1,h2,c1,c2,d1,d2,hP,q⟩:=h
 have hu:=hr.units
 refine⟨_,(cU (aY (gT (N2:=["one","other"]) (te:=(lV 1 (qU (dI (tC (.int 3)) jI)) (cY 0) (vm 1 br (qU (dI (tC (.int 3)) jI)) (cY 0) (gQ (rI jg λi j=> .int (i*j)) (gQ (fU K) (gQ (fU K) (bH 3) (bH 2)) (bH 0)) (gQ (fU K) (gQ (fU K) (bH 4) (bH 0)) (bH 1)))))) rfl (dz rfl aR (af ah aj)) (by kernel_rfl) rfl (λ_ _ _=>by exact iV (gT (N2:=["i","one","other"]) (te:=(vm 1 br (qU (dI (tC (.int 3)) jI)) (cY 0) (gQ (rI jg λi j=> .int (i*j)) (gQ (fU K) (gQ (fU K) (bH 3) (bH 2)) (bH 0)) (gQ (fU K) (gQ (fU K) (bH 4) (bH 0)) (bH 1))))) rfl (dz rfl aR (af ah aj)) (by kernel_rfl) rfl (λ_ _ _=>by exact iV (BO (N2:=["j","i","one","other"]) (te:=(gQ (rI jg λi j=> .int (i*j)) (gQ (fU K) (gQ (fU K) (bH 3) (bH 2)) (bH 0)) (gQ (fU K) (gQ (fU K) (bH 4) (bH 0)) (bH 1)))) rfl (eT.depth hr) cd bm rfl pL (dz rfl aR (af ah aj)) (by kernel_rfl) (λ_ _ _ _=>by exact iV (ai aB (aE aq (aE aq (pv 3) (pv 2) (λ_ _=>rfl)) (pv 0) (λ_ _=>rfl)) (aE aq (aE aq (pv 4) (pv 0) (λ_ _=>rfl)) (pv 1) (λ_ _=>rfl))))))))))),?_⟩
 refine⟨3,rfl,by decide,by decide,λD hD=>pq (e9 (n:=3)) rfl hD _ (λi x hi ex H1 Q1 s1 k1=> ?_) (λbs H1 s1 fr nD hT=>q D bs H1 s1 hD fr nD hT)⟩
 obtain⟨_,rfl⟩:=d7 ex
 refine⟨3,rfl,by decide,by decide,λD2 Ci=>kJ (e9 (n:=3)) rfl Ci (λj=>ent m1 i 0*ent m2 0 j+ent m1 i 1*ent m2 1 j+ent m1 i 2*ent m2 2 j) (λj x hj Ge H2 Q2 s2 k2=> ?_) (λH2 s2 e2=>k1 D2 H2 Ci s2 e2)⟩
 obtain⟨_,rfl⟩:=d7 Ge
 refine⟨3,rfl,by decide,by decide,Fd (e9 (n:=3)) (s2 _ _ (s1 _ _ hP)) (λk=>ent m1 i k*ent m2 k j) (λk x PV H3 Q3 s3 k3=> ?_) (λH3 s3=> ?_)⟩
 ·obtain⟨hk,rfl⟩:=d7 PV
  have sm:=s1.trans (s2.trans s3)
  obtain⟨b,row,e1,e2,e3⟩:=mZ (h1.same sm) c1 hi hk
  obtain⟨b',PX,yh,EL,PY⟩:=mZ (h2.same sm) c2 hk hj
  exact⟨_,rfl,_,rfl,t1,_,_,_,rfl,rfl,aT.of (h1.same sm).1,e1,_,rfl,b,_,_,_,rfl,rfl,aT.of e2,e3,_,rfl,_,rfl,t2,_,_,_,rfl,rfl,aT.of (h2.same sm).1,yh,_,rfl,b',_,_,_,rfl,rfl,aT.of EL,PY,_,_,rfl,rfl,⟨d1 i k hi hk,d2 k j hk hj⟩,k3 H3 (ay.refl _)⟩
 ·have:=k2 H3 s3
  rw[show preSum (λk=>ent m1 i k*ent m2 k j) (kI 3).length=_ from Nc _]
  exact this
inductive qu (vs:List V) (H:Hp) (Q:VK) (E:XK):Prop
 |mk (t1:Addr) (b1:List Addr) (m1:List (List Int)) (_:vs=[.ref t1]) (_:Tab H t1 b1 m1) (_:cz m1) (_:∀r bs H',ay H H'->H r=none->(∀b∈bs,H b=none) ->r∉bs->Tab H' r bs (cL m1) ->Q (.ref r) H')
theorem tF(F:fE K mg "turned_over" jP fz)(aR:mg "range"=none):dg P w K mg base cO 1 "turned_over" fz qu:=by
 refine F.ok tD (λvs H Q E h=> ?_) (λf cdv A outer s H vs Q E hr h=> ?_)
 ·obtain⟨t1,b1,m1,rfl,h1,c1,q⟩:=h
  rfl
 obtain⟨t1,b1,m1,rfl,h1,c1,q⟩:=h
 have hu:=hr.units
 refine⟨_,(cU (aY (gT (N2:=["table"]) (te:=(lV 1 (qU (dI (tC (.int 3)) jI)) (cY 0) (gQ (fU K) (gQ (fU K) (bH 2) (bH 0)) (bH 1)))) rfl (dz rfl aR (af ah aj)) (by kernel_rfl) rfl (λ_ _ _=>by exact iV (gT (N2:=["i","table"]) (te:=(gQ (fU K) (gQ (fU K) (bH 2) (bH 0)) (bH 1))) rfl (dz rfl aR (af ah aj)) (by kernel_rfl) rfl (λ_ _ _=>by exact iV (aE aq (aE aq (pv 2) (pv 0) (λ_ _=>rfl)) (pv 1) (λ_ _=>rfl)))))))),?_⟩
 refine⟨3,rfl,by decide,by decide,λD hD=>pq (e9 (n:=3)) rfl hD _ (λi x hi ex H1 Q1 s1 k1=> ?_) (λbs H1 s1 fr nD hT=>q D bs H1 s1 hD fr nD hT)⟩
 obtain⟨_,rfl⟩:=d7 ex
 refine⟨3,rfl,by decide,by decide,λD2 Ci=>kJ (e9 (n:=3)) rfl Ci (λj=>ent m1 j i) (λj x hj Ge H2 Q2 s2 k2=> ?_) (λH2 s2 e2=>k1 D2 H2 Ci s2 e2)⟩
 obtain⟨_,rfl⟩:=d7 Ge
 have sm:=s1.trans s2
 obtain⟨b,row,e1,e2,e3⟩:=mZ (h1.same sm) c1 hj hi
 exact⟨_,rfl,_,rfl,t1,_,_,_,rfl,rfl,aT.of (h1.same sm).1,e1,_,rfl,b,_,_,_,rfl,rfl,aT.of e2,e3,k2 H2 (ay.refl _)⟩
inductive rT (K:PySem.W.Frag) (vs:List V) (H:Hp) (Q:VK) (E:XK):Prop
 |mk (t:Addr) (bs:List Addr) (m:List (List Int)) (i j:Nat) (_:vs=[.ref t,.int (i:Int),.int (j:Int)]) (_:Tab H t bs m) (_:cz m) (_:i<3) (_:j<3) (_:Bd 4096 m) (_:Q (.int (fV m i j)) H)
theorem rG(F:fE K mg "signed_minor" jm fK):dg P w K mg base cO 1 "signed_minor" fK (rT K):=by
 refine F.ok iH (λvs H Q E h=> ?_) (λf cdv A outer s H vs Q E hr h=> ?_)
 ·obtain⟨t,bs,m,i,j,rfl,hT,bT,hi,hj,hB,q⟩:=h
  rfl
 obtain⟨t,bs,m,i,j,rfl,hT,bT,hi,hj,hB,q⟩:=h
 have hu:=hr.units
 refine⟨_,(lO (@ak _ _ _ _ _ (pW (i:=3) (j:=4) rfl iH.nd rfl rfl (by decide) rfl rfl (af (aE aq (pv 0) (ai cu (ai aO (pv 1) ah) ah) (λ_ _=>rfl)) (af (aE aq (pv 0) (ai cu (ai aO (pv 1) ah) ah) (λ_ _=>rfl)) aj)) rfl)
  (@ak _ _ _ _ _ (pW (i:=5) (j:=6) rfl iH.nd rfl rfl (by decide) rfl rfl (af (ai cu (ai aO (pv 2) ah) ah) (af (ai cu (ai aO (pv 2) ah) ah) aj)) rfl)
  (@aJ _ _ _ (aY (ai bQ (ai aB (aE aq (pv 3) (pv 5) (λ_ _=>rfl)) (aE aq (pv 4) (pv 6) (λ_ _=>rfl))) (ai aB (aE aq (pv 3) (pv 6) (λ_ _=>rfl)) (aE aq (pv 4) (pv 5) (λ_ _=>rfl))))))))),?_⟩
 obtain⟨b,e1,e2,_⟩:=aW hT bT (i:=(i+1)%3) (ur _)
 obtain⟨b',yh,EL,_⟩:=aW hT bT (i:=(i+2)%3) (ur _)
 rw[<-m3 i 1]at e1
 rw[<-m3 i 2]at yh
 refine⟨_,rfl,_,rfl,_,_,rfl,rfl,_,_,rfl,rfl,(by show(0:Int)<3;decide),t,_,_,_,rfl,rfl,aT.of hT.1,e1,?_⟩
 refine⟨_,rfl,_,rfl,_,_,rfl,rfl,_,_,rfl,rfl,(by show(0:Int)<3;decide),t,_,_,_,rfl,rfl,aT.of hT.1,yh,_,_,rfl,?_⟩
 refine⟨_,rfl,_,_,rfl,rfl,_,_,rfl,rfl,(by show(0:Int)<3;decide),_,rfl,_,_,rfl,rfl,_,_,rfl,rfl,(by show(0:Int)<3;decide),_,_,rfl,?_⟩
 have a1:=yq (λc=>ent m ((i+1)%3) c) (c:=(j+1)%3) (ur _)
 have a2:=yq (λc=>ent m ((i+2)%3) c) (c:=(j+2)%3) (ur _)
 have a3:=yq (λc=>ent m ((i+1)%3) c) (c:=(j+2)%3) (ur _)
 have a4:=yq (λc=>ent m ((i+2)%3) c) (c:=(j+1)%3) (ur _)
 rw[<-m3 j 1]at a1 a4
 rw[<-m3 j 2]at a2 a3
 refine⟨_,rfl,_,rfl,b,_,_,_,rfl,rfl,aT.of e2,a1,_,rfl,_,rfl,b',_,_,_,rfl,rfl,aT.of EL,a2,_,_,rfl,rfl,⟨hB _ _ (ur _) (ur _),hB _ _ (ur _) (ur _)⟩,?_⟩
 exact⟨_,rfl,_,rfl,b,_,_,_,rfl,rfl,aT.of e2,a3,_,rfl,_,rfl,b',_,_,_,rfl,rfl,aT.of EL,a4,_,_,rfl,rfl,⟨hB _ _ (ur _) (ur _),hB _ _ (ur _) (ur _)⟩,_,_,rfl,rfl,q⟩
theorem tG{H:Hp}{t:Addr}{bs:List Addr}{m:List (List Int)}(hT:Tab H t bs m)(bT:cz m):∃c0 c1 c2,bs=[c0,c1,c2]/\bg H c0 (λc=>ent m 0 c)/\bg H c1 (λc=>ent m 1 c)/\bg H c2 (λc=>ent m 2 c):=by
 have l3:bs.length=3:=by rw[<-hT.2.length,bT.1]
 match bs,l3,hT with
 | [c0,c1,c2],_,hT=>
  obtain⟨b0,x1,x2,_⟩:=aW hT bT (i:=0) (by decide)
  obtain⟨b1,y1,y2,_⟩:=aW hT bT (i:=1) (by decide)
  obtain⟨b2,w1,w2,_⟩:=aW hT bT (i:=2) (by decide)
  cases x1;cases y1;cases w1
  exact⟨c0,c1,c2,rfl,x2,y2,w2⟩
inductive Cj (vs:List V) (H:Hp) (Q:VK) (E:XK):Prop
 |mk (t:Addr) (bs:List Addr) (m:List (List Int)) (_:vs=[.ref t]) (_:Tab H t bs m) (_:cz m) (_:Bd 1000 m) (_:True) (_:∀H',ay H H'->Q (.int (aA m)) H')
theorem tH(F:fE K mg "determinant" jQ eH):dg P w K mg base cO 3 "determinant" eH Cj:=by
 refine F.ok cj (λvs H Q E h=> ?_) (λf cdv A outer s H vs Q E hr h=> ?_)
 ·obtain⟨t,bs,m,rfl,hT,bT,hB,hP,q⟩:=h
  rfl
 obtain⟨t,bs,m,rfl,hT,bT,hB,hP,q⟩:=h
 have hu:=hr.units
 refine⟨_,(lO (@ak _ _ _ _ _ (kD (pv 0) (iW rfl (aN (iW rfl (aN (aP (i:=1) cj.nd rfl (Or.inl rfl)) (aN (aP (i:=2) cj.nd rfl (Or.inl rfl)) (aN (aP (i:=3) cj.nd rfl (Or.inl rfl)) fF)))) (aN (iW rfl (aN (aP (i:=4) cj.nd rfl (Or.inl rfl)) (aN (aP (i:=5) cj.nd rfl (Or.inl rfl)) (aN (aP (i:=6) cj.nd rfl (Or.inl rfl)) fF)))) (aN (iW rfl (aN (aP (i:=7) cj.nd rfl (Or.inl rfl)) (aN (aP (i:=8) cj.nd rfl (Or.inl rfl)) (aN (aP (i:=9) cj.nd rfl (Or.inl rfl)) fF)))) fF)))))
  (@aJ _ _ _ (aY (ai aO (ai aO (ai aB (pv 1) (ai bQ (ai aB (pv 5) (pv 9)) (ai aB (pv 6) (pv 8)))) (ai aB (pv 2) (ai bQ (ai aB (pv 6) (pv 7)) (ai aB (pv 4) (pv 9))))) (ai aB (pv 3) (ai bQ (ai aB (pv 4) (pv 8)) (ai aB (pv 5) (pv 7))))))))),?_⟩
 obtain⟨c0,c1,c2,rfl,x2,y2,w2⟩:=tG hT bT
 refine⟨_,rfl,t,_,rfl,aT.of hT.1,rfl,_,_,rfl,c0,_,rfl,aT.of x2,rfl,_,_,rfl,_,_,rfl,_,_,rfl,rfl,_,_,rfl,c1,_,rfl,aT.of y2,rfl,_,_,rfl,_,_,rfl,_,_,rfl,rfl,_,_,rfl,c2,_,rfl,aT.of w2,rfl,_,_,rfl,_,_,rfl,_,_,rfl,rfl,rfl,?_⟩
 refine⟨_,rfl,_,rfl,_,rfl,_,_,rfl,rfl,⟨aH (hB 1 1 (by decide) (by decide)) (by decide),aH (hB 2 2 (by decide) (by decide)) (by decide)⟩,_,rfl,_,rfl,_,_,rfl,rfl,⟨aH (hB 1 2 (by decide) (by decide)) (by decide),aH (hB 2 1 (by decide) (by decide)) (by decide)⟩,_,_,rfl,rfl,_,_,rfl,rfl,⟨aH (hB 0 0 (by decide) (by decide)) (by decide),aH (jN (b7 (hB 1 1 (by decide) (by decide)) (hB 2 2 (by decide) (by decide))) (b7 (hB 1 2 (by decide) (by decide)) (hB 2 1 (by decide) (by decide)))) (by decide)⟩,_,rfl,_,rfl,_,rfl,_,_,rfl,rfl,⟨aH (hB 1 2 (by decide) (by decide)) (by decide),aH (hB 2 0 (by decide) (by decide)) (by decide)⟩,_,rfl,_,rfl,_,_,rfl,rfl,⟨aH (hB 1 0 (by decide) (by decide)) (by decide),aH (hB 2 2 (by decide) (by decide)) (by decide)⟩,_,_,rfl,rfl,_,_,rfl,rfl,⟨aH (hB 0 1 (by decide) (by decide)) (by decide),aH (jN (b7 (hB 1 2 (by decide) (by decide)) (hB 2 0 (by decide) (by decide))) (b7 (hB 1 0 (by decide) (by decide)) (hB 2 2 (by decide) (by decide)))) (by decide)⟩,_,_,rfl,rfl,_,rfl,_,rfl,_,rfl,_,_,rfl,rfl,⟨aH (hB 1 0 (by decide) (by decide)) (by decide),aH (hB 2 1 (by decide) (by decide)) (by decide)⟩,_,rfl,_,rfl,_,_,rfl,rfl,⟨aH (hB 1 1 (by decide) (by decide)) (by decide),aH (hB 2 0 (by decide) (by decide)) (by decide)⟩,_,_,rfl,rfl,_,_,rfl,rfl,⟨aH (hB 0 2 (by decide) (by decide)) (by decide),aH (jN (b7 (hB 1 0 (by decide) (by decide)) (hB 2 1 (by decide) (by decide))) (b7 (hB 1 1 (by decide) (by decide)) (hB 2 0 (by decide) (by decide)))) (by decide)⟩,_,_,rfl,rfl,?_⟩
 have e:ent m 0 0*(ent m 1 1*ent m 2 2-ent m 1 2*ent m 2 1)+ent m 0 1*(ent m 1 2*ent m 2 0-ent m 1 0*ent m 2 2)+ent m 0 2*(ent m 1 0*ent m 2 1-ent m 1 1*ent m 2 0)=aA m:=by
  rw[cP]
 have q:=q H (ay.refl _)
 rw[<-e]at q
 exact q
inductive Ck (vs:List V) (H:Hp) (Q:VK) (E:XK):Prop
 |mk (t1:Addr) (b1:List Addr) (m1:List (List Int)) (_:vs=[.ref t1]) (_:Tab H t1 b1 m1) (_:cz m1) (_:Bd 4096 m1) (_:∀r bs H',ay H H'->H r=none->(∀b∈bs,H b=none) ->r∉bs->Tab H' r bs (iF m1) ->Q (.ref r) H')
theorem Gf(F:fE K mg "cover" w5 pJ)(aR:mg "range"=none)(ju:dg P w K mg base cO 1 "signed_minor" fK (rT K)):dg P w K mg base cO 2 "cover" pJ Ck:=by
 refine F.ok Ga (λvs H Q E h=> ?_) (λf cdv A outer s H vs Q E hr h=> ?_)
 ·obtain⟨t1,b1,m1,rfl,h1,c1,d1,q⟩:=h
  rfl
 obtain⟨t1,b1,m1,rfl,h1,c1,d1,q⟩:=h
 have hu:=hr.units
 refine⟨_,(cU (aY (gT (N2:=["table"]) (te:=(lV 1 (qU (dI (tC (.int 3)) jI)) (cY 0) (lJ (rT K) [] E0 (dI (bH 2) (dI (bH 0) (dI (bH 1) jI)))))) rfl (dz rfl aR (af ah aj)) (by kernel_rfl) rfl (λ_ _ _=>by exact iV (gT (N2:=["i","table"]) (te:=(lJ (rT K) [] E0 (dI (bH 2) (dI (bH 0) (dI (bH 1) jI))))) rfl (dz rfl aR (af ah aj)) (by kernel_rfl) rfl (λ_ _ _=>by exact iV (aL ju hr rfl aK (af (pv 2) (af (pv 0) (af (pv 1) aj)))))))))),?_⟩
 refine⟨3,rfl,by decide,by decide,λD hD=>pq (e9 (n:=3)) rfl hD (λi j=>fV m1 j i) (λi x hi ex H1 Q1 s1 k1=> ?_) (λbs H1 s1 fr nD hT=>q D bs H1 s1 hD fr nD hT)⟩
 obtain⟨_,rfl⟩:=d7 ex
 refine⟨3,rfl,by decide,by decide,λD2 Ci=>kJ (e9 (n:=3)) rfl Ci (λj=>fV m1 j i) (λj x hj Ge H2 Q2 s2 k2=> ?_) (λH2 s2 e2=>k1 D2 H2 Ci s2 e2)⟩
 obtain⟨_,rfl⟩:=d7 Ge
 exact⟨_,rfl,_,rfl,_,rfl,t1,b1,m1,j,i,rfl,h1.same (s1.trans s2),c1,hj,hi,d1,k2 H2 (ay.refl _)⟩
inductive vN (T0:Addr) (vs:List V) (H:Hp) (Q:VK) (E:XK):Prop
 |mk (t1:Addr) (b1:List Addr) (m1:List (List Int)) (t2:Addr) (b2:List Addr) (m2:List (List Int)) (_:vs=[.ref t1,.ref t2]) (_:Tab H t1 b1 m1) (_:Tab H t2 b2 m2) (_:cz m1) (_:cz m2) (_:Bd 1000 m1) (_:Bd 1000 m2) (_:H T0=some (dG T0)) (_:∀r bs H',ay H H'->H r=none->(∀b∈bs,H b=none) ->r∉bs->Tab H' r bs (ir (ir m2 m1) (cL m2)) ->Q (.ref r) H')
theorem AE{br:Addr}(F:fE K mg "carried" qf kh)(m7:dg P w K mg base cO 1 "product" kg (Gd br))(fC:dg P w K mg base cO 1 "turned_over" fz qu):dg P w K mg base cO 2 "carried" kh (vN br):=by
 refine F.ok Aw (λvs H Q E h=> ?_) (λf cdv A outer s H vs Q E hr h=> ?_)
 ·obtain⟨t1,b1,m1,t2,b2,m2,rfl,h1,h2,c1,c2,d1,d2,hP,q⟩:=h
  rfl
 obtain⟨t1,b1,m1,t2,b2,m2,rfl,h1,h2,c1,c2,d1,d2,hP,q⟩:=h
 have hu:=hr.units
 refine⟨_,(cU (aY (aL m7 hr rfl aK (af (aL m7 hr rfl aK (af (pv 1) (af (pv 0) aj))) (af (aL fC hr rfl aK (af (pv 1) aj)) aj))))),?_⟩
 refine⟨_,rfl,_,rfl,t2,b2,m2,t1,b1,m1,rfl,h2,h1,c2,c1,d2.mono (by decide),d1.mono (by decide),hP,λr rs H1 s1 fr frs nr hr=> ?_⟩
 refine⟨_,rfl,t2,b2,m2,rfl,h2.same s1,c2,λo os H2 s2 fo TL no ho=> ?_⟩
 refine⟨r,rs,_,o,os,_,rfl,hr.same s2,ho,cF _,cF _,(rS d2 d1).mono (by decide),(sN d2).mono (by decide),s2 _ _ (s1 _ _ hP),λu us H3 s3 fu PZ nu TM=> ?_⟩
 have sm:=s1.trans s2
 exact q u us H3 (sm.trans s3) (sm.none fu) (λb hb=>sm.none (PZ b hb)) nu TM
inductive JC (vs:List V) (H:Hp) (Q:VK) (E:XK):Prop
 |mk (t:Addr) (bs:List Addr) (m:List (List Int)) (_:vs=[.ref t]) (_:Tab H t bs m) (_:cz m) (_:Bd 440 m) (_:cL m=m) (_:True) (_:bU m=true-> ∀H',ay H H'->Q .iR H') (_:bU m=false-> ∀(x:Nat->Int) a H',ay H H'->H a=none->bg H' a x-> ¬(x 0=0/\x 1=0/\x 2=0) ->av m x x<=0->(∀i,i<3->(x i).natAbs<2^1000) ->Q (.ref a) H')
theorem AF(F:fE K mg "low_row" qj kj)(cW:dg P w K mg base cO 3 "determinant" eH Cj)(xh:dg P w K mg base cO 3 "cover" pJ Ck):dg P w K mg base cO 4 "low_row" kj JC:=by
 refine F.ok nU (λvs H Q E h=> ?_) (λf cdv A outer s H vs Q E hr h=> ?_)
 ·obtain⟨t,bs,m,rfl,hT,bT,hB,hS,hP,q1,q2⟩:=h
  rfl
 obtain⟨t,bs,m,rfl,hT,bT,hB,hS,hP,q1,q2⟩:=h
 have hu:=hr.units
 refine⟨_,(lO (@ak _ _ _ _ _ (aC (i:=1) nU.nd rfl (Or.inl rfl) (aE aq (aE aq (pv 0) ah (λ_ _=>rfl)) ah (λ_ _=>rfl)))
  (@ak _ _ _ _ _ (dM (bJ uY (pv 1) ah (bL _)) (KU (sQ (eW iG (eW iG (eW iG sP (by kernel_rfl)) (by kernel_rfl)) (by kernel_rfl)))) eG)
  (@ak _ _ _ _ _ (aC (i:=2) nU.nd rfl (Or.inl rfl) (aE aq (aE aq (pv 0) ah (λ_ _=>rfl)) ah (λ_ _=>rfl)))
  (@ak _ _ _ _ _ (dM (bJ uY (ai bQ (ai aB (pv 1) (aE aq (aE aq (pv 0) ah (λ_ _=>rfl)) ah (λ_ _=>rfl))) (ai aB (pv 2) (pv 2))) ah (bL _)) (@aJ _ _ _ (aY (cZ (af (Bx we (pv 2)) (af (pv 1) (af ah aj)))))) eG)
  (@ak _ _ _ _ _ (dM (bJ uY (aL cW hr rfl aK (af (pv 0) aj)) ah (bL _)) (@aJ _ _ _ (aY (aE aq (aL xh hr rfl aK (af (pv 0) aj)) ah (λ_ _=>rfl)))) eG)
  (@aJ _ _ _ (aY Ep)))))))),?_⟩
 obtain⟨c0,x1,x2,_⟩:=aW hT bT (i:=0) (by decide)
 obtain⟨c1,y1,y2,_⟩:=aW hT bT (i:=1) (by decide)
 obtain⟨c2,w1,w2,_⟩:=aW hT bT (i:=2) (by decide)
 have b0:=hB 0 0 (by decide) (by decide)
 have b1:=hB 0 1 (by decide) (by decide)
 refine⟨_,rfl,t,_,_,_,rfl,rfl,aT.of hT.1,x1,c0,_,_,_,rfl,rfl,aT.of x2,rfl,?_⟩
 refine⟨_,rfl,_,_,rfl,rfl,_,rfl,gS (λc=> ?_) (λc=> ?_)⟩
 ·have c:ent m 0 0<=0:=of_decide_eq_true c
  have ab:bU m=false:=by
   unfold bU
   rw[decide_eq_false (by omega),Bool.false_and]
  refine⟨(by show 3<=sizeLine;decide),λr hr=> ?_⟩
  refine q2 ab (λi=>if i=0 then 1 else 0) r _ (ay.up hr) hr au (λz=>by simp at z) (by rw[Nj];exact c) (λi _=> ?_)
  show(if i=0 then(1:Int)else 0).natAbs<_
  exact aH (a:=1) (by split<;>decide) (by decide)
 have c:0<ent m 0 0:=by
  have:¬ent m 0 0<=0:=λz=>c (decide_eq_true z)
  omega
 refine⟨_,rfl,t,_,_,_,rfl,rfl,aT.of hT.1,x1,c0,_,_,_,rfl,rfl,aT.of x2,rfl,?_⟩
 refine⟨_,rfl,_,rfl,t,_,_,_,rfl,rfl,aT.of hT.1,y1,c1,_,_,_,rfl,rfl,aT.of y2,rfl,_,_,rfl,rfl,⟨aH (hB 0 0 (by decide) (by decide)) (by decide),aH (hB 1 1 (by decide) (by decide)) (by decide)⟩,_,rfl,_,rfl,_,_,rfl,rfl,⟨aH (hB 0 1 (by decide) (by decide)) (by decide),aH (hB 0 1 (by decide) (by decide)) (by decide)⟩,_,_,rfl,rfl,_,_,rfl,rfl,_,rfl,gS (λd=> ?_) (λd=> ?_)⟩
 ·have d:ent m 0 0*ent m 1 1-ent m 0 1*ent m 0 1<=0:=of_decide_eq_true d
  have ab:bU m=false:=by
   unfold bU
   rw[decide_eq_false (p:=ent m 0 1*ent m 0 1<ent m 0 0*ent m 1 1) (by omega),Bool.false_and,Bool.and_false]
  refine⟨_,rfl,_,rfl,_,rfl,(by show 3<=sizeLine;decide),λr hr=> ?_⟩
  refine q2 ab (λi=>match i with|0=> -ent m 0 1|1=>ent m 0 0|_=>0) r _ (ay.up hr) hr au (λz=>by have y:ent m 0 0=0:=z.2.1;omega) ?_ (λi hi=> ?_)
  ·rw[Nk hS _ rfl rfl rfl]
   exact Int.mul_nonpos_of_nonneg_of_nonpos (by omega) d
  ·rcases bE hi with rfl|rfl|rfl
   ·show(-ent m 0 1).natAbs<_
    exact aH (a:=440) (by omega) (by decide)
   ·exact aH b0 (by decide)
   ·show(0:Int).natAbs<_
    exact Nat.two_pow_pos _
 have d:0<ent m 0 0*ent m 1 1-ent m 0 1*ent m 0 1:=by
  have:¬ent m 0 0*ent m 1 1-ent m 0 1*ent m 0 1<=0:=λz=>d (decide_eq_true z)
  omega
 refine⟨_,rfl,t,bs,m,rfl,hT,bT,hB.mono (by decide),hP,λH1 s1=>⟨_,_,rfl,rfl,_,rfl,gS (λe=> ?_) (λe=> ?_)⟩⟩
 ·have e:aA m<=0:=of_decide_eq_true e
  have ab:bU m=false:=by
   unfold bU
   rw[decide_eq_false (p:=0<aA m) (by omega),Bool.and_false,Bool.and_false]
  refine⟨_,rfl,t,bs,m,rfl,hT.same s1,bT,hB.mono (by decide),λr rs H2 s2 fr frs nr T2=> ?_⟩
  obtain⟨k,k1,k2,k3⟩:=aW T2 (cF _) (i:=2) (by decide)
  refine⟨r,_,_,_,rfl,rfl,aT.of T2.1,k1,?_⟩
  have Ra:0<ent (iF m) 2 2:=by
   rw[Jv,ic hS (i:=0) (j:=1) (by decide) (by decide)]
   exact d
  refine q2 ab (λj=>ent (iF m) 2 j) k H2 (s1.trans s2) (s1.none (frs k k3)) k2 (λz=>by have y:ent (iF m) 2 2=0:=z.2.2;omega) ?_ (λj hj=> ?_)
  ·rw[Nl]
   exact Int.mul_nonpos_of_nonpos_of_nonneg e (by omega)
  ·show(ent (iF m) 2 j).natAbs<_
   rw[lX m (by decide) hj]
   exact aH (BS hB j 2) (by decide)
 ·have e:0<aA m:=by
   have:¬aA m<=0:=λz=>e (decide_eq_true z)
   omega
  refine q1 ?_ H1 s1
  unfold bU
  rw[decide_eq_true c,decide_eq_true e,decide_eq_true (p:=ent m 0 1*ent m 0 1<ent m 0 0*ent m 1 1) (by omega)]
  rfl
inductive m8 (vs:List V) (H:Hp) (Q:VK) (E:XK):Prop
 |mk (z:Int) (_:vs=[.int z]) (_:Q (.bl true) H)
theorem yP(F:fE K mg "is_whole" nS gY)(b8:mg "isinstance"=none)(nH:mg "int"=none)(qv:mg "bool"=none):dg P w K mg base cO 1 "is_whole" gY m8:=by
 refine F.ok yK (λvs H Q E h=> ?_) (λf cdv A outer s H vs Q E hr h=> ?_)
 ·obtain⟨z,rfl,q⟩:=h
  rfl
 obtain⟨z,rfl,q⟩:=h
 have hu:=hr.units
 refine⟨_,(cU (aY (wc (cR gj rfl b8 PyProof.Rows.boot_isinstance (af (pv 0) (af (mW (v:= .ty "int") rfl nH PyProof.Rows.boot_int rfl) aj))) (v9 (JU (cR gj rfl b8 PyProof.Rows.boot_isinstance (af (pv 0) (af (mW (v:= .ty "bool") rfl qv PyProof.Rows.boot_bool rfl) aj)))))))),?_⟩
 exact⟨_,rfl,_,_,_,_,rfl,.int _,oY K "int",_,rfl,ED ⟨_,rfl,_,_,_,_,rfl,.int _,oZ K,_,rfl,q⟩⟩
inductive xj (T0:Addr) (vs:List V) (H:Hp) (Q:VK) (E:XK):Prop
 |mk (b:Addr) (x:Nat->Int) (_:vs=[.ref b]) (_:bg H b x) (_:H T0=some (dG T0)) (_:∀H',ay H H'->Q (.bl true) H')
theorem Dy{bh:Addr}(F:nG K mg "is_row" sZ mq bh)(bm:BM mg base)(b8:mg "isinstance"=none)(kU:mg "list"=none)(iz:mg "len"=none)(pM:mg "all"=none)(g7:dg P w K mg base cO 1 "is_whole" gY m8):dg P w K mg base cO 3 "is_row" mq (xj bh):=by
 refine F.ok Dw (λvs H Q E h=> ?_) (λf cdv A outer s H vs Q E cd hr h=> ?_)
 ·obtain⟨b,x,rfl,hx,hP,q⟩:=h
  rfl
 obtain⟨b,x,rfl,hx,hP,q⟩:=h
 have hu:=hr.units
 refine⟨_,(lO (@ak _ _ _ _ _ (dM (PW.pt (oQ (pV (kB (cR gj rfl b8 PyProof.Rows.boot_isinstance (af (pv 0) (af (mW (v:= .ty "list") rfl kU PyProof.Rows.boot_list rfl) aj))))) (r8 (bJ yc (cR eV rfl iz PySem.boot_len (af (pv 0) aj)) ah (bL _))))) (@aJ _ _ _ (aY r6)) eG)
  (@aJ _ _ _ (aY (wI (N2:=["thing"]) (te:=(lJ m8 [] E0 (dI (bH 0) jI))) rfl (eT.depth hr) cd bm rfl pM (gz (pv 0)) (by kernel_rfl) (λ_ _ _ _=>by exact iV (aL g7 (ym hr) rfl aK (af (pv 0) aj)))))))),?_⟩
 refine⟨_,rfl,_,_,_,_,rfl,.lst hx,oY K "list",_,rfl,wD ⟨_,rfl,b,_,rfl,.inl (aT.of hx),rfl,_,rfl,vh rfl ?_⟩⟩
 refine⟨_,rfl,b,rfl,⟨_,aT.of hx⟩,z5 (jA (aT.of hx)) hP (λ_=>true) (λj y ey H1 Q1 s1 k1=> ?_) (λc H1 s1 hc=> ?_)⟩
 ·obtain⟨z,rfl⟩:∃z,y= .int z:=by
   have hy:=List.mem_of_getElem? ey
   simp only[List.mem_cons,List.not_mem_nil,or_false]at hy
   rcases hy with rfl|rfl|rfl<;>exact⟨_,rfl⟩
  exact⟨_,rfl,z,rfl,k1 H1 (ay.refl _)⟩
 ·have e:c=true:=hc.mpr λ_ _=>rfl
  subst e
  exact q H1 s1
inductive vO (T1 T0:Addr) (vs:List V) (H:Hp) (Q:VK) (E:XK):Prop
 |mk (t:Addr) (bs:List Addr) (m:List (List Int)) (_:vs=[.ref t]) (_:Tab H t bs m) (_:cz m) (_:H T1=some (dG T1)) (_:H T0=some (dG T0)) (_:∀H',ay H H'->Q (.bl true) H')
theorem yQ{bh aV:Addr}(F:nG K mg "is_table" nT jl aV)(bm:BM mg base)(b8:mg "isinstance"=none)(kU:mg "list"=none)(iz:mg "len"=none)(pM:mg "all"=none)(tK:dg P w K mg base cO 3 "is_row" mq (xj bh)):dg P w K mg base cO 5 "is_table" jl (vO bh aV):=by
 refine F.ok yL (λvs H Q E h=> ?_) (λf cdv A outer s H vs Q E cd hr h=> ?_)
 ·obtain⟨t,bs,m,rfl,hT,bT,hR,hP,q⟩:=h
  rfl
 obtain⟨t,bs,m,rfl,hT,bT,hR,hP,q⟩:=h
 have hu:=hr.units
 refine⟨_,(lO (@ak _ _ _ _ _ (dM (PW.pt (oQ (pV (kB (cR gj rfl b8 PyProof.Rows.boot_isinstance (af (pv 0) (af (mW (v:= .ty "list") rfl kU PyProof.Rows.boot_list rfl) aj))))) (r8 (bJ yc (cR eV rfl iz PySem.boot_len (af (pv 0) aj)) ah (bL _))))) (@aJ _ _ _ (aY r6)) eG)
  (@aJ _ _ _ (aY (wI (N2:=["thing"]) (te:=(lJ (xj bh) [] E0 (dI (bH 0) jI))) rfl (eT.depth hr) cd bm rfl pM (gz (pv 0)) (by kernel_rfl) (λ_ _ _ _=>by exact iV (aL tK (ym hr) rfl aK (af (pv 0) aj)))))))),?_⟩
 have l3:(bs.map V.ref).length=3:=by rw[List.length_map,<-hT.2.length,bT.1]
 refine⟨_,rfl,_,_,_,_,rfl,.lst hT.1,oY K "list",_,rfl,wD ⟨_,rfl,t,_,rfl,.inl (aT.of hT.1),rfl,_,rfl,vh (by rw[l3];rfl) ?_⟩⟩
 refine⟨_,rfl,t,rfl,⟨_,aT.of hT.1⟩,z5 (jA (aT.of hT.1)) hP (λ_=>true) (λj y ey H1 Q1 s1 k1=> ?_) (λc H1 s1 hc=> ?_)⟩
 ·have hj:j<3:=by
   have:=(List.getElem?_eq_some_iff.mp ey).1
   rw[l3]at this
   exact this
  obtain⟨b,e1,e2,_⟩:=aW (hT.same s1) bT hj
  have ex':y= .ref b:=by
   have q1:=gU ey
   rw[e1]at q1
   exact(Option.some.inj q1).symm
  subst ex'
  exact⟨_,rfl,b,λc=>ent m j c,rfl,e2,s1 _ _ hR,k1⟩
 ·have e:c=true:=hc.mpr λ_ _=>rfl
  subst e
  exact q H1 s1
inductive yR (T1 T2 T0:Addr) (vs:List V) (H:Hp) (Q:VK) (E:XK):Prop
 |mk (t:Addr) (bs:List Addr) (m:List (List Int)) (_:vs=[.ref t]) (_:Tab H t bs m) (_:cz m) (_:cg m) (_:H T1=some (dG T1)) (_:H T2=some (dG T2)) (_:H T0=some (dG T0)) (_:∀H',ay H H'->Q (.bl true) H')
theorem qw{bh aV aD:Addr}(F:nG K mg "is_even_table" iI fm aD)(bm:BM mg base)(pM:mg "all"=none)(aR:mg "range"=none)(oh:dg P w K mg base cO 6 "is_table" jl (vO bh aV))(fC:dg P w K mg base cO 6 "turned_over" fz qu):dg P w K mg base cO 7 "is_even_table" fm (yR bh aV aD):=by
 refine F.ok qg (λvs H Q E h=> ?_) (λf cdv A outer s H vs Q E cd hr h=> ?_)
 ·obtain⟨t,bs,m,rfl,hT,bT,ev,hR,hU,hP,q⟩:=h
  rfl
 obtain⟨t,bs,m,rfl,hT,bT,ev,hR,hU,hP,q⟩:=h
 have hu:=hr.units
 refine⟨_,(lO (@ak _ _ _ _ _ (dM (pV (kB (aL oh hr rfl aK (af (pv 0) aj)))) (@aJ _ _ _ (aY r6)) eG)
  (@aJ _ _ _ (aY (wc (kE (KI hu) (pv 0) (aL fC hr rfl aK (af (pv 0) aj)) (bL _)) (v9 (wI (N2:=["thing"]) (te:=(gQ QJ (gQ (rI (λ_ j=>0<j) λi j=> .int (i%j)) (gQ (fU K) (gQ (fU K) (bH 1) (bH 0)) (bH 0)) (tC (.int 2))) (tC (.int 0)))) rfl (eT.depth hr) cd bm rfl pM (dz rfl aR (af ah aj)) (by kernel_rfl) (λ_ _ _ _=>by exact iV (kE oS (ai cu (aE aq (aE aq (pv 1) (pv 0) (λ_ _=>rfl)) (pv 0) (λ_ _=>rfl)) ah) ah (bL _)))))))))),?_⟩
 refine⟨_,rfl,t,bs,m,rfl,hT,bT,hR,hU,λH1 s1=>⟨_,rfl,wD ?_⟩⟩
 refine⟨_,rfl,_,rfl,t,bs,m,rfl,hT.same s1,bT,λr rs H2 s2 fr frs nr Tr=> ?_⟩
 rw[dQ ev bT]at Tr
 refine HS (zY m) (BQ ((hT.same s1).same s2)) (BQ Tr) (nN m) ⟨_,rfl,ED ?_⟩
 have s12:=s1.trans s2
 refine⟨3,rfl,by decide,by decide,z5 (e9 (n:=3)) (s12 _ _ hP) (λ_=>true) (λj y ey H3 Q3 s3 k3=> ?_) (λc H3 s3 hc=> ?_)⟩
 ·obtain⟨hj,rfl⟩:=d7 ey
  obtain⟨b,row,e1,e2,e3⟩:=mZ (hT.same (s12.trans s3)) bT hj hj
  refine⟨_,rfl,_,rfl,t,_,_,_,rfl,rfl,aT.of (hT.same (s12.trans s3)).1,e1,_,rfl,b,_,_,_,rfl,rfl,aT.of e2,e3,_,_,rfl,rfl,(by show(0:Int)<2;decide),rfl,?_⟩
  have e:ent m j j%2=0:=by
   obtain⟨_,a,b,c,p1,p2,p3⟩:=ev
   rcases bE hj with rfl|rfl|rfl<;>omega
  rw[decide_eq_true (congrArg V.int e)]
  exact k3 H3 (ay.refl _)
 ·have e:c=true:=hc.mpr λ_ _=>rfl
  subst e
  exact q H3 (s12.trans s3)
inductive yS (T1 T2 T3:Addr) (vs:List V) (H:Hp) (Q:VK) (E:XK):Prop
 |mk (t:Addr) (bs:List Addr) (m:List (List Int)) (_:vs=[.ref t]) (_:Tab H t bs m) (_:cz m) (_:Bd 440 m) (_:cg m) (_:bU m=true) (_:H T1=some (dG T1)) (_:H T2=some (dG T2)) (_:H T3=some (dG T3)) (_:True) (_:∀H',ay H H'->Q (.bl true) H')
theorem AG{bh aV aD:Addr}(F:fE K mg "is_form" qh ki)(iK:dg P w K mg base cO 7 "is_even_table" fm (yR bh aV aD))(qx:dg P w K mg base cO 7 "low_row" kj JC):dg P w K mg base cO 8 "is_form" ki (yS bh aV aD):=by
 refine F.ok Ax (λvs H Q E h=> ?_) (λf cdv A outer s H vs Q E hr h=> ?_)
 ·obtain⟨t,bs,m,rfl,hT,bT,hB,ev,ab,h1,h2,h3,h4,q⟩:=h
  rfl
 obtain⟨t,bs,m,rfl,hT,bT,hB,ev,ab,h1,h2,h3,h4,q⟩:=h
 have hu:=hr.units
 refine⟨_,(cU (aY (wc (aL iK hr rfl aK (af (pv 0) aj)) (v9 (kE Kl (aL qx hr rfl aK (af (pv 0) aj)) Ep (bL _)))))),?_⟩
 refine⟨_,rfl,t,bs,m,rfl,hT,bT,ev,h1,h2,h3,λH1 s1=>⟨_,rfl,ED ?_⟩⟩
 exact⟨_,rfl,t,bs,m,rfl,hT.same s1,bT,hB,dQ ev bT,trivial,λ_ H2 s2=>⟨rfl,q H2 (s1.trans s2)⟩,λTN=>absurd TN (by rw[ab];decide)⟩
inductive AH (T1 T2 T3:Addr) (vs:List V) (H:Hp) (Q:VK) (E:XK):Prop
 |mk (t:Addr) (bs:List Addr) (m:List (List Int)) (_:vs=[.ref t]) (_:Tab H t bs m) (_:cz m) (_:Bd 440 m) (_:cg m) (_:bU m=true) (_:aA m/2<=200) (_:H T1=some (dG T1)) (_:H T2=some (dG T2)) (_:H T3=some (dG T3)) (_:True) (_:∀H',ay H H'->Q (.int (aA m/2)) H')
theorem IF{bh aV aD:Addr}(F:fE K mg "half" Ay qk){iL:_}(iM:mg "GREATEST_HALF"=some (Value.int 200 iL))(qy:dg P w K mg base cO 8 "is_form" ki (yS bh aV aD))(cW:dg P w K mg base cO 8 "determinant" eH Cj):dg P w K mg base cO 9 "half" qk (AH bh aV aD):=by
 refine F.ok Cf (λvs H Q E h=> ?_) (λf cdv A outer s H vs Q E hr h=> ?_)
 ·obtain⟨t,bs,m,rfl,hT,bT,hB,ev,ab,le,h1,h2,h3,h4,q⟩:=h
  rfl
 obtain⟨t,bs,m,rfl,hT,bT,hB,ev,ab,le,h1,h2,h3,h4,q⟩:=h
 have hu:=hr.units
 refine⟨_,(lO (@ak _ _ _ _ _ (dM (pV (kB (aL qy hr rfl aK (af (pv 0) aj)))) (@aJ _ _ _ se) eG)
  (@ak _ _ _ _ _ (aC (i:=1) Cf.nd rfl (Or.inl rfl) (ai bI (aL cW hr rfl aK (af (pv 0) aj)) ah))
  (@ak _ _ _ _ _ (dM (bJ nC (pv 1) (v8 (v:= .int 200) rfl iM ⟨_,rfl⟩) (bL _)) (@aJ _ _ _ se) eG)
  (@aJ _ _ _ (aY (pv 1))))))),?_⟩
 refine⟨_,rfl,t,bs,m,rfl,hT,bT,hB,ev,ab,h1,h2,h3,h4,λH1 s1=>⟨_,rfl,wD ?_⟩⟩
 refine⟨_,rfl,t,bs,m,rfl,hT.same s1,bT,hB.mono (by decide),trivial,λH2 s2=>⟨_,_,rfl,rfl,⟨by decide,by decide⟩,?_⟩⟩
 refine⟨_,rfl,_,_,rfl,rfl,_,rfl,gS (λc=> ?_) (λ_=>⟨_,rfl,q H2 (s1.trans s2)⟩)⟩
 have c:(200:Int)<aA m/2:=of_decide_eq_true c
 omega
theorem Dz{H:Hp}{t:Addr}{bs:List Addr}{m:List (List Int)}(hT:Tab H t bs m)(bT:cz m):∃c0 c1 c2,bs=[c0,c1,c2]/\bg H c0 (λc=>ent m 0 c)/\bg H c1 (λc=>ent m 1 c)/\bg H c2 (λc=>ent m 2 c):=by
 have l3:bs.length=3:=by rw[<-hT.2.length,bT.1]
 match bs,l3,hT with
 | [c0,c1,c2],_,hT=>
  obtain⟨b0,x1,x2,_⟩:=aW hT bT (i:=0) (by decide)
  obtain⟨b1,y1,y2,_⟩:=aW hT bT (i:=1) (by decide)
  obtain⟨b2,w1,w2,_⟩:=aW hT bT (i:=2) (by decide)
  cases x1;cases y1;cases w1
  exact⟨c0,c1,c2,rfl,x2,y2,w2⟩
inductive xm (T0:Addr) (vs:List V) (H:Hp) (Q:VK) (E:XK):Prop
 |mk (t:Addr) (bs:List Addr) (m:List (List Int)) (a b:Addr) (x y:Nat->Int) (_:vs=[.ref t,.ref a,.ref b]) (_:Tab H t bs m) (_:cz m) (_:Bd 1000 m) (_:bg H a x) (_:bg H b y) (_:∀i,i<3->(x i).natAbs<2^1000) (_:∀i,i<3->(y i).natAbs<2^1000) (_:H T0=some (dG T0)) (_:∀H',ay H H'->Q (.int (av m x y)) H')
theorem AI{aF:Addr}(F:nG K mg "pairing" qi gZ aF)(bm:BM mg base)(pL:mg "sum"=none)(pN:mg "zip"=none):dg P w K mg base cO 1 "pairing" gZ (xm aF):=by
 refine F.ok kK (λvs H Q E h=> ?_) (λf cdv A outer s H vs Q E cd hr h=> ?_)
 ·obtain⟨t,bs,m,a,b,x,y,rfl,hT,bT,hB,hx,hy,bx,bY,hP,q⟩:=h
  rfl
 obtain⟨t,bs,m,a,b,x,y,rfl,hT,bT,hB,hx,hy,bx,bY,hP,q⟩:=h
 have hu:=hr.units
 refine⟨_,(lO (@ak _ _ _ _ _ (kD (pv 2) (iW rfl (aN (aP (i:=3) kK.nd rfl (Or.inr rfl)) (aN (aP (i:=4) kK.nd rfl (Or.inr rfl)) (aN (aP (i:=5) kK.nd rfl (Or.inr rfl)) fF)))))
  (@aJ _ _ _ (aY (Ib (N2:=["table","one","other","x","y","z"]) (te:=(gQ (rI jg λi j=> .int (i*j)) (bH 0) (gQ (CG λi j=> .int (i+j)) (gQ (CG λi j=> .int (i+j)) (gQ (rI jg λi j=> .int (i*j)) (gQ (fU K) (bH 1) (tC (.int 0))) (bH 5)) (gQ (rI jg λi j=> .int (i*j)) (gQ (fU K) (bH 1) (tC (.int 1))) (bH 6))) (gQ (rI jg λi j=> .int (i*j)) (gQ (fU K) (bH 1) (tC (.int 2))) (bH 7))))) rfl (eT.depth hr) cd bm rfl pL (z7 rfl pN (af (pv 1) (af (pv 0) aj))) (by kernel_rfl) (λ_ _ _ _=>by exact iV (ai aB (pv 0) (ai aO (ai aO (ai aB (aE aq (pv 1) ah (λ_ _=>rfl)) (pv 5)) (ai aB (aE aq (pv 1) ah (λ_ _=>rfl)) (pv 6))) (ai aB (aE aq (pv 1) ah (λ_ _=>rfl)) (pv 7)))))))))),?_⟩
 obtain⟨c0,c1,c2,rfl,x2,y2,w2⟩:=Dz hT bT
 refine⟨_,rfl,b,_,rfl,aT.of hy,rfl,_,_,rfl,_,_,rfl,_,_,rfl,rfl,?_⟩
 refine⟨_,rfl,_,rfl,a,t,_,_,rfl,aT.of hx,aT.of hT.1,Ie (aT.of hx) (aT.of hT.1) rfl hP (λi=>x i*(ent m i 0*y 0+ent m i 1*y 1+ent m i 2*y 2)) (λi u v eu ev H' Q' sm k=> ?_) (λH' sm=> ?_)⟩
 ·have hi:i<3:=(List.getElem?_eq_some_iff.mp eu).1
  obtain⟨c,e1,e2,_⟩:=aW (hT.same sm) bT hi
  have Qa:u= .int (x i):=by
   rcases bE hi with rfl|rfl|rfl<;>exact(Option.some.inj eu).symm
  have ev':v= .ref c:=by
   have q1:=gU ev
   rw[e1]at q1
   exact(Option.some.inj q1).symm
  subst Qa ev'
  have b0:=b7 (hB i 0 hi (by decide)) (bY 0 (by decide))
  have b1:=b7 (hB i 1 hi (by decide)) (bY 1 (by decide))
  have b2:=b7 (hB i 2 hi (by decide)) (bY 2 (by decide))
  have bs:=jh (jh b0 b1) (aH b2 (by decide))
  exact⟨_,rfl,_,rfl,c,_,_,_,rfl,rfl,aT.of e2,rfl,_,rfl,_,_,rfl,rfl,⟨aH (hB i 0 hi (by decide)) (by decide),aH (bY 0 (by decide)) (by decide)⟩,_,rfl,c,_,_,_,rfl,rfl,aT.of e2,rfl,_,rfl,_,_,rfl,rfl,⟨aH (hB i 1 hi (by decide)) (by decide),aH (bY 1 (by decide)) (by decide)⟩,_,_,rfl,rfl,_,rfl,c,_,_,_,rfl,rfl,aT.of e2,rfl,_,rfl,_,_,rfl,rfl,⟨aH (hB i 2 hi (by decide)) (by decide),aH (bY 2 (by decide)) (by decide)⟩,_,_,rfl,rfl,_,_,rfl,rfl,⟨aH (bx i hi) (by decide),aH bs (by decide)⟩,k H' (ay.refl _)⟩
 ·have e:PySem.preSum (λi=>x i*(ent m i 0*y 0+ent m i 1*y 1+ent m i 2*y 2)) 3=av m x y:=by
   rw[aX]
   show 0+x 0*(ent m 0 0*y 0+ent m 0 1*y 1+ent m 0 2*y 2)+x 1*(ent m 1 0*y 0+ent m 1 1*y 1+ent m 1 2*y 2)+x 2*(ent m 2 0*y 0+ent m 2 1*y 1+ent m 2 2*y 2)=_
   grind
  have q:=q H' sm
  rw[<-e]at q
  exact q
inductive pO (T0:Addr) (vs:List V) (H:Hp) (Q:VK) (E:XK):Prop
 |mk (t:Addr) (bs:List Addr) (m:List (List Int)) (a:Addr) (x:Nat->Int) (_:vs=[.ref t,.ref a]) (_:Tab H t bs m) (_:cz m) (_:Bd 1000 m) (_:bg H a x) (_:∀i,i<3->(x i).natAbs<2^1000) (_:H T0=some (dG T0)) (_:∀H',ay H H'->Q (.int (bK m x)) H')
theorem Gg{aF:Addr}(F:fE K mg "worth" w6 kL)(dF:dg P w K mg base cO 1 "pairing" gZ (xm aF)):dg P w K mg base cO 2 "worth" kL (pO aF):=by
 refine F.ok Gb (λvs H Q E h=> ?_) (λf cdv A outer s H vs Q E hr h=> ?_)
 ·obtain⟨t,bs,m,a,x,rfl,hT,bT,hB,hx,bx,hP,q⟩:=h
  rfl
 obtain⟨t,bs,m,a,x,rfl,hT,bT,hB,hx,bx,hP,q⟩:=h
 have hu:=hr.units
 refine⟨_,(cU (aY (ai bI (aL dF hr rfl aK (af (pv 0) (af (pv 1) (af (pv 1) aj)))) ah))),?_⟩
 exact⟨_,rfl,_,rfl,_,rfl,t,bs,m,a,a,x,x,rfl,hT,bT,hB,hx,hx,bx,bx,hP,λH' sm=>⟨_,_,rfl,rfl,⟨by decide,by decide⟩,q H' sm⟩⟩
inductive tL (vs:List V) (H:Hp) (Q:VK) (E:XK):Prop
 |mk (a:Addr) (y:Nat->Int) (q:Int) (b:Addr) (x:Nat->Int) (_:vs=[.ref a,.int q,.ref b]) (_:bg H a y) (_:bg H b x) (_:q.natAbs<2^4096) (_:∀i,i<3->(x i).natAbs<2^4096) (_:∀r H',ay H H'->H r=none->bg H' r (iu y q x) ->Q (.ref r) H')
theorem uB(F:fE K mg "less_times" kM fO)(pN:mg "zip"=none):dg P w K mg base cO 1 "less_times" fO tL:=by
 refine F.ok uz (λvs H Q E h=> ?_) (λf cdv A outer s H vs Q E hr h=> ?_)
 ·obtain⟨a,y,q,b,x,rfl,hy,hx,bq,bx,k⟩:=h
  rfl
 obtain⟨a,y,q,b,x,rfl,hy,hx,bq,bx,k⟩:=h
 have hu:=hr.units
 refine⟨_,(cU (aY (z8 (N2:=["row","times","other"]) (te:=(gQ (CG λi j=> .int (i-j)) (bH 0) (gQ (rI jg λi j=> .int (i*j)) (bH 3) (bH 1)))) rfl (z7 rfl pN (af (pv 0) (af (pv 2) aj))) (by kernel_rfl) rfl (λ_ _ _=>by exact iV (ai bQ (pv 0) (ai aB (pv 3) (pv 1))))))),?_⟩
 refine⟨_,rfl,_,rfl,a,b,_,_,rfl,aT.of hy,aT.of hx,λD hD=>yu (aT.of hy) (aT.of hx) rfl (by show 3<=sizeLine;decide) hD (λu v=>match u,v with| .int i,.int j=> .int (i-q*j)|_,_=> .iR) (λn u v eu ev G Q' sm kk=> ?_) (λH5 s5 e5=>k D H5 s5 hD e5)⟩
 have hn:n<3:=(List.getElem?_eq_some_iff.mp eu).1
 have Qa:u= .int (y n):=by rcases bE hn with rfl|rfl|rfl<;>exact(Option.some.inj eu).symm
 have ev':v= .int (x n):=by rcases bE hn with rfl|rfl|rfl<;>exact(Option.some.inj ev).symm
 subst Qa ev'
 exact⟨_,rfl,_,rfl,_,rfl,_,_,rfl,rfl,⟨bq,bx n hn⟩,_,_,rfl,rfl,kk⟩
inductive JD (vs:List V) (H:Hp) (Q:VK) (E:XK):Prop
 |mk (P A:Int) (_:vs=[.int P,.int A]) (_:0<A) (_:(2*A).natAbs.log2<9000) (_:Q (.int ((2*P+A)/(2*A))) H)
theorem AJ(F:fE K mg "nearest" ql ko):dg P w K mg base cO 1 "nearest" ko JD:=by
 refine F.ok Az (λvs H Q E h=> ?_) (λf cdv A outer s H vs Q E hr h=> ?_)
 ·obtain⟨P,A,rfl,hA,bA,q⟩:=h
  rfl
 obtain⟨P,A,rfl,hA,bA,q⟩:=h
 have hu:=hr.units
 refine⟨_,(cU (aY (ai oX (ai aO (ai bu ah (pv 0)) (pv 1)) (ai bu ah (pv 1))))),?_⟩
 exact⟨_,rfl,_,_,rfl,rfl,.inl ⟨by decide,by decide⟩,_,rfl,_,_,rfl,rfl,_,rfl,_,_,rfl,rfl,.inl ⟨by decide,by decide⟩,_,_,rfl,rfl,⟨by show(0:Int)<2*A;omega,bA⟩,q⟩
inductive yT (T0:Addr) (vs:List V) (H:Hp) (Q:VK) (E:XK):Prop
 |mk (t:Addr) (bs:List Addr) (m:List (List Int)) (a b:Addr) (x y:Nat->Int) (w:Int) (_:vs=[.ref t,.ref a,.ref b]) (_:Tab H t bs m) (_:cz m) (_:Bd 440 m) (_:cg m) (_:bU m=true) (_:bg H a x) (_:bg H b y) (_:∃t,bO x y t≠0) (_:aQ m x<=w) (_:aQ m y<=w) (_:w.natAbs<2^446) (_:H T0=some (dG T0)) (_:∀a' b' x' y' P H',l9 m x' y'->gc m x y x' y'->aQ m x'<=w->aQ m y'<=w->ay H H'->bg H' a' x'->bg H' b' y'->H' P=some (.tup [.ref a',.ref b']) ->Q (.ref P) H')
theorem uC{aF:Addr}(F:fE K mg "least_pair" kN gE)(eY:dg P w K mg base cO 3 "less_times" fO tL)(qz:dg P w K mg base cO 3 "nearest" ko JD)(dF:dg P w K mg base cO 3 "pairing" gZ (xm aF))(gK:dg P w K mg base cO 3 "worth" kL (pO aF)):dg P w K mg base cO 4 "least_pair" gE (yT aF):=by
 refine F.ok jR (λvs H Q E h=> ?_) (λf cdv A outer s H vs Q E hr h=> ?_)
 ·obtain⟨t,bs,m,a,b,x,y,w,rfl,hT,bT,hB,ev,ab,hx,hy,⟨t0,ind⟩,wx,wy,bw,hP,q⟩:=h
  rfl
 obtain⟨t,bs,m,a,b,x,y,w,rfl,hT,bT,hB,ev,ab,hx,hy,⟨t0,ind⟩,wx,wy,bw,hP,q⟩:=h
 have hu:=hr.units
 refine⟨_,(cU (j3 PassesOwn.never (kB r6) (lO (@ak _ _ _ _ _ (aC (i:=2) jR.nd rfl (Or.inl rfl) (aL eY hr rfl aK (af (pv 2) (af (aL qz hr rfl aK (af (aL dF hr rfl aK (af (pv 0) (af (pv 1) (af (pv 2) aj)))) (af (aL dF hr rfl aK (af (pv 0) (af (pv 1) (af (pv 1) aj)))) aj))) (af (pv 1) aj)))))
  (@ak _ _ _ _ _ (dM (bJ BC (aL gK hr rfl aK (af (pv 0) (af (pv 2) aj))) (aL gK hr rfl aK (af (pv 0) (af (pv 1) aj))) (bL _)) (@aJ _ _ _ (aY (nJ (af (pv 1) (af (pv 2) aj))))) eG)
  (@aJ _ _ _ (pW (i:=1) (j:=2) rfl jR.nd rfl rfl (by decide) rfl rfl (af (pv 2) (af (pv 1) aj)) rfl))))))),?_⟩
 have Po:=gm (dQ ev bT) ab
 have bits:∀z:Nat->Int,aQ m z<=w-> ∀i,i<3->(z i).natAbs<2^666:=λz hz i hi=>l8 ev bT ab hB (by have:=dH Po z;omega) hi
 refine lR (λσ H'=> ∃(a' b':Addr) (x' y':Nat->Int),σ=[some (.ref t),some (.ref a'),some (.ref b')]/\ay H H'/\bg H' a' x'/\bg H' b' y'/\gc m x y x' y'/\aQ m x'<=w/\aQ m y'<=w) (FP m 1) ⟨a,b,x,y,rfl,ay.refl _,hx,hy,gc.refl _ _ _,wx,wy⟩ (λσ H' hh=> ?_) ?_
 rotate_left
 ·rintro σ H' Q Q' h ⟨c,e,k⟩
  exact⟨c,e,h _ _ k⟩
 obtain⟨a',b',x',y',rfl,s1,hx',hy',pr,LZ,Ma⟩:=hh
 have Qc:bO x' y' t0≠0:=by
  obtain⟨e,he,hd⟩:=pr.det
  rw[hd]
  rcases he with rfl|rfl
  ·rw[Int.one_mul];exact ind
  ·intro z;apply ind;omega
 have nx:0<aQ m x':=Ir Po λz=>Qc (Ar z _ _)
 have bx:=bits x' LZ
 have bY:=bits y' Ma
 refine⟨true,rfl,ED ?_⟩
 have b1:∀z:Nat->Int,(∀i,i<3->(z i).natAbs<2^666) -> ∀i,i<3->(z i).natAbs<2^1000:=λz h i hi=>aH (h i hi) (by decide)
 refine⟨_,rfl,_,rfl,_,rfl,_,rfl,t,bs,m,a',b',x',y',rfl,hT.same s1,bT,hB.mono (by decide),hx',hy',b1 _ bx,b1 _ bY,s1 _ _ hP,λH2 s2=> ?_⟩
 have s12:=s1.trans s2
 refine⟨_,rfl,_,rfl,_,rfl,t,bs,m,a',a',x',x',rfl,hT.same s12,bT,hB.mono (by decide),s2 _ _ hx',s2 _ _ hx',b1 _ bx,b1 _ bx,s12 _ _ hP,λH3 s3=> ?_⟩
 have x6:=s12.trans s3
 have Qd:=s2.trans s3
 have bP:=ji (hB) bx bY
 have bA:=ji (hB) bx bx
 have lg:(2*aQ m x').natAbs.log2<9000:=by
  refine(Nat.log2_lt (by omega)).mpr ?_
  have c0:(2*aQ m x').natAbs<2^(2+1781):=b7 (by decide) bA
  exact Nat.lt_of_lt_of_le c0 (Nat.pow_le_pow_right (by decide) (by decide))
 have bq:((2*av m x' y'+aQ m x')/(2*aQ m x')).natAbs<2^4096:=by
  refine Nat.lt_of_le_of_lt (jk _ (by omega)) ?_
  have c1:(2*av m x' y').natAbs<2^(2+1781):=b7 (by decide) bP
  exact aH (jh c1 (aH bA (show 666+440+666+9<=2+1781 by decide))) (by decide)
 refine⟨_,_,rfl,nx,lg,_,rfl,b',y',_,a',x',rfl,Qd _ _ hy',Qd _ _ hx',bq,(λi hi=>aH (bx i hi) (by decide)),λr H4 s4 fr er=> ?_⟩
 have Gh:=x6.trans s4
 have Lj:=Qd.trans s4
 have wl:=Int.le_trans (FQ ev (y:=y') nx) Ma
 have bl:=bits _ wl
 have pl:=pr.trans (gc.less ev (y:=y') nx)
 have lp:=Dp ev (y:=y') nx
 have ax:bg H4 a' x':=Lj _ _ hx'
 have TQ:=qb (m:=m) (i:=1) (σ:=[some (.ref t),some (.ref a'),some (.ref b')]) (by rfl) hx'
 generalize iu y' ((2*av m x' y'+aQ m x')/(2*aQ m x')) x'=z at er wl bl pl lp
 refine⟨_,rfl,_,rfl,t,bs,m,r,z,rfl,hT.same Gh,bT,hB.mono (by decide),er,b1 _ bl,Gh _ _ hP,λH5 s5=> ?_⟩
 refine⟨_,rfl,_,rfl,t,bs,m,a',x',rfl,hT.same (Gh.trans s5),bT,hB.mono (by decide),s5 _ _ ax,b1 _ bx,(Gh.trans s5) _ _ hP,λH6 s6=> ?_⟩
 have Mb:=s5.trans s6
 have Lk:=Gh.trans Mb
 have ez:=d8 ev z
 have ex:=d8 ev x'
 refine⟨_,_,rfl,rfl,_,rfl,gS (λc=> ?_) (λc=> ?_)⟩
 ·have c:bK m x'<=bK m z:=of_decide_eq_true c
  refine⟨_,rfl,_,rfl,(by show 2<=sizeLine;decide),λP Qe=> ?_⟩
  have uP:=ay.up (o:= .tup [.ref a',.ref r]) Qe
  exact q a' r x' z P _ ⟨nx,by show av m x' x'<=av m z z;omega,lp.1,lp.2⟩ pl LZ wl (Lk.trans uP) ((Mb.trans uP) _ _ ax) ((Mb.trans uP) _ _ er) au
 ·have c:¬bK m x'<=bK m z:=λy=>c (decide_eq_true y)
  refine⟨_,rfl,_,rfl,_,_,rfl,?_⟩
  refine⟨⟨r,a',z,x',rfl,Lk,Mb _ _ er,Mb _ _ ax,pl.swap,wl,LZ⟩,?_⟩
  have at2:=qb (m:=m) (i:=1) (σ:=[some (.ref t),some (.ref r),some (.ref a')]) (by rfl) (Mb _ _ er)
  show FP m 1 [some (.ref t),some (.ref r),some (.ref a')] H6<FP m 1 [some (.ref t),some (.ref a'),some (.ref b')] H'
  rw[TQ,at2]
  have:=dH Po z
  have e1:aQ m z=av m z z:=rfl
  have e2:aQ m x'=av m x' x':=rfl
  omega
inductive xo (T1 T0:Addr) (vs:List V) (H:Hp) (Q:VK) (E:XK):Prop
 |mk (t:Addr) (bs:List Addr) (m:List (List Int)) (p:Addr) (as:List Addr) (X:Addr->Nat->Int) (_:vs=[.ref t,.ref p]) (_:Tab H t bs m) (_:cz m) (_:Bd 440 m) (_:H p=some (.lst (as.map V.ref))) (_:as.length<64) (_:∀b∈as,bg H b (X b)) (_:∀b∈as,(∀i,i<3->(X b i).natAbs<2^1000)) (_:H T1=some (dG T1)) (_:H T0=some .xY) (_:∀(Hn:Hp) (zs:List Addr),ay H Hn->zs.Perm as->zs.Pairwise (λa b=>bK m (X a)<=bK m (X b)) -> ∀r,Hn r=none->Q (.ref r) (upd Hn r (.lst (zs.map V.ref))))
theorem yU{aF aS:Addr}(F:nG K mg "in_order" nV g6 aS)(bm:BM mg base)(fy:mg "sorted"=none)(gK:dg P w K mg base cO 3 "worth" kL (pO aF)):dg P w K mg base cO 7 "in_order" g6 (xo aF aS):=by
 refine F.ok yM (λvs H Q E h=> ?_) (λf cdv A outer s H vs Q E cd hr h=> ?_)
 ·obtain⟨t,bs,m,p,as,X,rfl,hT,bT,hB,hp,Rv,hX,bX,hP,hC,q⟩:=h
  rfl
 obtain⟨t,bs,m,p,as,X,rfl,hT,bT,hB,hp,Rv,hX,bX,hP,hC,q⟩:=h
 have hu:=hr.units
 refine⟨_,(cU (aY (Dv (N2:=["form","rows"]) (tb:=(lJ (pO aF) [] E0 (dI (bH 1) (dI (bH 0) jI)))) rfl hr cd bm rfl fy (pv 1) (by kernel_rfl) (λ_ _ _ _ _ _=>rfl) (λ_ _ _ _ _=>by exact iV (aL gK (FN hr) rfl aK (af (pv 1) (af (pv 0) aj))))))),?_⟩
 refine⟨_,rfl,p,as.map V.ref,(λv=>match v with| .ref b=>bK m (X b)|_=>0),rfl,aT.of hp,(by rw[List.length_map];exact Rv),hC,(λv hv Hi si=> ?_),λHn zs sn pz so r hr=> ?_⟩
 ·obtain⟨b,rfl,hb⟩:=yo hv
  exact⟨_,rfl,_,rfl,t,bs,m,b,X b,rfl,hT.same si,bT,hB.mono (by decide),si _ _ (hX b hb),bX b hb,si _ _ hP,λH' s=>⟨rfl,s⟩⟩
 ·obtain⟨zs,rfl,TR⟩:=Dk pz
  rw[List.pairwise_map]at so
  exact q Hn zs sn TR so r hr
inductive Gi (T1 T0:Addr) (vs:List V) (H:Hp) (Q:VK) (E:XK):Prop
 |mk (t:Addr) (bs:List Addr) (m:List (List Int)) (a b c:Addr) (x y z:Nat->Int) (_:vs=[.ref t,.ref a,.ref b,.ref c]) (_:Tab H t bs m) (_:cz m) (_:Bd 440 m) (_:cg m) (_:bU m=true) (_:bg H a x) (_:bg H b y) (_:bg H c z) (_:l9 m x y) (_:∀i,i<3->(x i).natAbs<2^666) (_:∀i,i<3->(y i).natAbs<2^666) (_:∀i,i<3->(z i).natAbs<2^666) (_:(aA m*(bO x y z*bO x y z)).natAbs<2^448) (_:(aQ m y).natAbs<2^446) (_:H T1=some (dG T1)) (_:H T0=some .xY) (_:∀r z' H',Drawn m x y z z'->ay H H'->bg H' r z'->Q (.ref r) H')
theorem yV{aF aS:Addr}(F:fE K mg "drawn_in" nW jn)(dF:dg P w K mg base cO 7 "pairing" gZ (xm aF))(eY:dg P w K mg base cO 7 "less_times" fO tL)(gh:dg P w K mg base cO 7 "in_order" g6 (xo aF aS)):dg P w K mg base cO 8 "drawn_in" jn (Gi aF aS):=by
 refine F.ok fL (λvs H Q E h=> ?_) (λf cdv A outer s H vs Q E hr h=> ?_)
 ·obtain⟨t,bs,m,a,b,c,x,y,z,rfl,hT,bT,hB,ev,ab,ha,hb,hc,lp,bx,bY,bz,bd,bw,hP,hC,q⟩:=h
  rfl
 obtain⟨t,bs,m,a,b,c,x,y,z,rfl,hT,bT,hB,ev,ab,ha,hb,hc,lp,bx,bY,bz,bd,bw,hP,hC,q⟩:=h
 have hu:=hr.units
 refine⟨_,(lO (@ak _ _ _ _ _ (HU (i:=4) (j:=5) (k:=6) rfl fL.nd rfl rfl rfl (by decide) (by decide) (by decide) rfl rfl rfl (af (aL dF hr rfl aK (af (pv 0) (af (pv 1) (af (pv 1) aj)))) (af (aL dF hr rfl aK (af (pv 0) (af (pv 1) (af (pv 2) aj)))) (af (aL dF hr rfl aK (af (pv 0) (af (pv 2) (af (pv 2) aj)))) aj))) rfl)
  (@ak _ _ _ _ _ (pW (i:=7) (j:=8) rfl fL.nd rfl rfl (by decide) rfl rfl (af (aL dF hr rfl aK (af (pv 0) (af (pv 1) (af (pv 3) aj)))) (af (aL dF hr rfl aK (af (pv 0) (af (pv 2) (af (pv 3) aj)))) aj)) rfl)
  (@ak _ _ _ _ _ (aC (i:=9) fL.nd rfl (Or.inl rfl) (ai bQ (ai aB (pv 4) (pv 6)) (ai aB (pv 5) (pv 5))))
  (@ak _ _ _ _ _ (aC (i:=10) fL.nd rfl (Or.inl rfl) (ai oX (ai bQ (ai aB (pv 6) (pv 7)) (ai aB (pv 5) (pv 8))) (pv 9)))
  (@ak _ _ _ _ _ (aC (i:=11) fL.nd rfl (Or.inl rfl) (ai oX (ai bQ (ai aB (pv 4) (pv 8)) (ai aB (pv 5) (pv 7))) (pv 9)))
  (@ak _ _ _ _ _ (aC (i:=12) fL.nd rfl (Or.inl rfl) (cZ (af (nJ (af (pv 10) (af (pv 11) aj))) (af (nJ (af (pv 10) (af (ai aO (pv 11) ah) aj))) (af (nJ (af (ai aO (pv 10) ah) (af (pv 11) aj))) (af (nJ (af (ai aO (pv 10) ah) (af (ai aO (pv 11) ah) aj))) aj))))))
  (@aJ _ _ _ (aY (aE aq (aL gh hr rfl aK (af (pv 0) (af (z8 (N2:=["form","one","other","third","across","along","aside","by_one","by_other","area","first","second","corners"]) (te:=(lJ tL [] E0 (dI (lJ tL [] E0 (dI (bH 5) (dI (bH 0) (dI (bH 3) jI)))) (dI (bH 1) (dI (bH 4) jI))))) rfl (gz (pv 12)) (by kernel_rfl) rfl (λ_ _ _=>by exact iV (aL eY hr rfl aK (af (aL eY hr rfl aK (af (pv 5) (af (pv 0) (af (pv 3) aj)))) (af (pv 1) (af (pv 4) aj)))))) aj))) ah (λ_ _=>rfl))))))))))),?_⟩
 have b1:∀v:Nat->Int,(∀i,i<3->(v i).natAbs<2^666) -> ∀i,i<3->(v i).natAbs<2^1000:=λv h i hi=>aH (h i hi) (by decide)
 have Po:=gm (dQ ev bT) ab
 obtain⟨_,ap⟩:=lp.FT
 have s0:=ay.refl H
 refine⟨_,rfl,_,rfl,_,rfl,t,bs,m,a,a,x,x,rfl,hT.same s0,bT,hB.mono (by decide),s0 _ _ ha,s0 _ _ ha,b1 _ bx,b1 _ bx,s0 _ _ hP,λH1 s1=> ?_⟩
 refine⟨_,rfl,_,rfl,_,rfl,t,bs,m,a,b,x,y,rfl,hT.same s1,bT,hB.mono (by decide),s1 _ _ ha,s1 _ _ hb,b1 _ bx,b1 _ bY,s1 _ _ hP,λH2 s2=> ?_⟩
 have s12:=s1.trans s2
 refine⟨_,rfl,_,rfl,_,rfl,t,bs,m,b,b,y,y,rfl,hT.same s12,bT,hB.mono (by decide),s12 _ _ hb,s12 _ _ hb,b1 _ bY,b1 _ bY,s12 _ _ hP,λH3 s3=> ?_⟩
 have x6:=s12.trans s3
 refine⟨_,_,_,rfl,?_⟩
 refine⟨_,rfl,_,rfl,_,rfl,t,bs,m,a,c,x,z,rfl,hT.same x6,bT,hB.mono (by decide),x6 _ _ ha,x6 _ _ hc,b1 _ bx,b1 _ bz,x6 _ _ hP,λH4 s4=> ?_⟩
 have Gh:=x6.trans s4
 refine⟨_,rfl,_,rfl,_,rfl,t,bs,m,b,c,y,z,rfl,hT.same Gh,bT,hB.mono (by decide),Gh _ _ hb,Gh _ _ hc,b1 _ bY,b1 _ bz,Gh _ _ hP,λH5 s5=> ?_⟩
 have NF:=Gh.trans s5
 refine⟨_,_,rfl,?_⟩
 have c1:=ji hB bx bx
 have c2:=ji hB bx bY
 have c3:=ji hB bY bY
 have c4:=ji hB bx bz
 have c5:=ji hB bY bz
 have up:∀{v:Int},v.natAbs<2^(666+440+666+9) ->v.natAbs<2^4096:=λh=>aH h (by decide)
 refine⟨_,rfl,_,rfl,_,_,rfl,rfl,⟨up c1,up c3⟩,_,rfl,_,rfl,_,_,rfl,rfl,⟨up c2,up c2⟩,_,_,rfl,rfl,?_⟩
 have bA:(ao m x y).natAbs<2^3600:=aH (jN (b7 c1 c3) (b7 c2 c2)) (by decide)
 have bS:(bV m x y z).natAbs<2^3600:=aH (jN (b7 c3 c4) (b7 c2 c5)) (by decide)
 have bR:(bW m x y z).natAbs<2^3600:=aH (jN (b7 c1 c5) (b7 c2 c4)) (by decide)
 have lg:(ao m x y).natAbs.log2<9000:=(Nat.log2_lt (by show(ao m x y).natAbs≠0;have:0<ao m x y:=ap;omega)).mpr (Nat.lt_of_lt_of_le bA (Nat.pow_le_pow_right (by decide) (by decide)))
 refine⟨_,rfl,_,rfl,_,_,rfl,rfl,⟨up c3,up c4⟩,_,rfl,_,rfl,_,_,rfl,rfl,⟨up c2,up c5⟩,_,_,rfl,rfl,_,rfl,_,_,rfl,rfl,⟨ap,lg⟩,?_⟩
 refine⟨_,rfl,_,rfl,_,_,rfl,rfl,⟨up c1,up c5⟩,_,rfl,_,rfl,_,_,rfl,rfl,⟨up c2,up c4⟩,_,_,rfl,rfl,_,rfl,_,_,rfl,rfl,⟨ap,lg⟩,?_⟩
 have bF:(bV m x y z/ao m x y).natAbs<2^3600:=Nat.lt_of_le_of_lt (jk _ ap) bS
 have bG:(bW m x y z/ao m x y).natAbs<2^3600:=Nat.lt_of_le_of_lt (jk _ ap) bR
 refine⟨_,rfl,_,rfl,(by show 2<=sizeLine;decide),λp0 g0=>⟨_,rfl,_,rfl,_,_,rfl,rfl,(by show 2<=sizeLine;decide),λp1 g1=>⟨_,rfl,_,_,rfl,rfl,_,rfl,(by show 2<=sizeLine;decide),λp2 g2=>⟨_,rfl,_,_,rfl,rfl,_,rfl,_,_,rfl,rfl,(by show 2<=sizeLine;decide),λp3 g3=>⟨(by show 4<=sizeLine;decide),λL gL=> ?_⟩⟩⟩⟩⟩
 have v0:=ay.up (o:= .tup [.int (bV m x y z/ao m x y),.int (bW m x y z/ao m x y)]) g0
 have v1:=ay.up (o:= .tup [.int (bV m x y z/ao m x y),.int ((bW m x y z/ao m x y)+1)]) g1
 have v2:=ay.up (o:= .tup [.int ((bV m x y z/ao m x y)+1),.int (bW m x y z/ao m x y)]) g2
 have v3:=ay.up (o:= .tup [.int ((bV m x y z/ao m x y)+1),.int ((bW m x y z/ao m x y)+1)]) g3
 have vL:=ay.up (o:= .lst [.ref p0,.ref p1,.ref p2,.ref p3]) gL
 have Rw:=v3.trans vL
 have Rx:=v2.trans Rw
 have Ry:=v1.trans Rx
 have vv:=v0.trans Ry
 have t0:=Ry _ _ (au (H:=H5) (a:=p0) (o:= .tup [.int (bV m x y z/ao m x y),.int (bW m x y z/ao m x y)]))
 have t1:=Rx _ _ (au (a:=p1) (o:= .tup [.int (bV m x y z/ao m x y),.int ((bW m x y z/ao m x y)+1)]))
 have t2:=Rw _ _ (au (a:=p2) (o:= .tup [.int ((bV m x y z/ao m x y)+1),.int (bW m x y z/ao m x y)]))
 have t3:=vL _ _ (au (a:=p3) (o:= .tup [.int ((bV m x y z/ao m x y)+1),.int ((bW m x y z/ao m x y)+1)]))
 have Ll:=NF.trans vv
 refine⟨_,rfl,_,rfl,L,rfl,⟨_,aT.of au⟩,λD hD=>Dl (jA (aT.of au)) (by show 4<=sizeLine;decide) hD (λj=> .int (if j<2 then(bV m x y z/ao m x y)else(bV m x y z/ao m x y)+1)) (λj=> .int (if j%2=0 then(bW m x y z/ao m x y)else(bW m x y z/ao m x y)+1)) (λj v ev'=> ?_) (λj v H=> ∃r,v= .ref r/\r≠D/\bg H r (c9 z (if j<2 then(bV m x y z/ao m x y)else(bV m x y z/ao m x y)+1) x (if j%2=0 then(bW m x y z/ao m x y)else(bW m x y z/ao m x y)+1) y)) (λj v H H' h off=> ?_) (λj hj H6 Q6 s6 eD k6=> ?_) (λws H6 s6 lw rel eD=> ?_)⟩
 ·have hj:j<4:=(List.getElem?_eq_some_iff.mp ev').1
  obtain rfl|rfl|rfl|rfl:j=0∨j=1∨j=2∨j=3:=by omega
  ·exact⟨p0,(Option.some.inj ev').symm,uq.of t0⟩
  ·exact⟨p1,(Option.some.inj ev').symm,uq.of t1⟩
  ·exact⟨p2,(Option.some.inj ev').symm,uq.of t2⟩
  ·exact⟨p3,(Option.some.inj ev').symm,uq.of t3⟩
 ·obtain⟨r,e,nr,hr⟩:=h
  exact⟨r,e,nr,off _ _ nr hr⟩
 ·have sa:=Ll.trans s6
  have b4:∀{v:Int},v.natAbs<2^3600->(v+1).natAbs<2^4096:=λh=>aH (jh h (show(1:Int).natAbs<2^3600 from aH (a:=1) (by decide) (by decide))) (by decide)
  have bi:(if j<2 then(bV m x y z/ao m x y)else(bV m x y z/ao m x y)+1).natAbs<2^4096:=by split;exact aH bF (by decide);exact b4 bF
  have bj:(if j%2=0 then(bW m x y z/ao m x y)else(bW m x y z/ao m x y)+1).natAbs<2^4096:=by split;exact aH bG (by decide);exact b4 bG
  obtain⟨oD,eD⟩:=eD
  refine⟨_,rfl,_,rfl,_,rfl,c,z,_,a,x,rfl,sa _ _ hc,sa _ _ ha,bi,(λi hi=>aH (bx i hi) (by decide)),λr1 H7 s7 f1 e1=> ?_⟩
  refine⟨_,rfl,_,rfl,r1,_,_,b,y,rfl,e1,(sa.trans s7) _ _ hb,bj,(λi hi=>aH (bY i hi) (by decide)),λr2 H8 s8 f2 e2=> ?_⟩
  exact k6 (.ref r2) H8 (s7.trans s8) ⟨r2,rfl,(λw=>by rw[w,s7 _ _ eD]at f2;cases f2),e2⟩
 have TU:ws.length=4:=lw
 obtain⟨w0,w1,w2,w3,rfl⟩:∃a b c d,ws=[a,b,c,d]:=by
  match ws,TU with
  | [a,b,c,d],_=>exact⟨a,b,c,d,rfl⟩
 obtain⟨r0,rfl,_,x0⟩:=rel 0 _ rfl
 obtain⟨r1,rfl,_,x1⟩:=rel 1 _ rfl
 obtain⟨r2,rfl,_,x2⟩:=rel 2 _ rfl
 obtain⟨r3,rfl,_,x3⟩:=rel 3 _ rfl
 have x0:bg H6 r0 (c9 z (bV m x y z/ao m x y) x (bW m x y z/ao m x y) y):=x0
 have x1:bg H6 r1 (c9 z (bV m x y z/ao m x y) x ((bW m x y z/ao m x y)+1) y):=x1
 have x2:bg H6 r2 (c9 z ((bV m x y z/ao m x y)+1) x (bW m x y z/ao m x y) y):=x2
 have x3:bg H6 r3 (c9 z ((bV m x y z/ao m x y)+1) x ((bW m x y z/ao m x y)+1) y):=x3
 have Lk:=Ll.trans s6
 have D0:0<=aA m:=Int.le_of_lt (gk ab).2.2
 have each:∀r∈ [r0,r1,r2,r3],∃i j,(i=(bV m x y z/ao m x y)∨i=(bV m x y z/ao m x y)+1)/\(j=(bW m x y z/ao m x y)∨j=(bW m x y z/ao m x y)+1)/\bg H6 r (c9 z i x j y):=λr hr=>by
  simp only[List.mem_cons,List.not_mem_nil,or_false]at hr
  rcases hr with rfl|rfl|rfl|rfl
  ·exact⟨_,_,.inl rfl,.inl rfl,x0⟩
  ·exact⟨_,_,.inl rfl,.inr rfl,x1⟩
  ·exact⟨_,_,.inr rfl,.inl rfl,x2⟩
  ·exact⟨_,_,.inr rfl,.inr rfl,x3⟩
 have same:∀{r:Addr} {v:Nat->Int},bg H6 r v->aQ m (dw (iX H6 r))=aQ m v:=λh=>fX (gD h) (gD h)
 refine⟨t,bs,m,D,[r0,r1,r2,r3],(λr=>dw (iX H6 r)),rfl,hT.same Lk,bT,hB,eD,(by show 4<64;decide),(λr hr=> ?_),(λr hr i hi=> ?_),Lk _ _ hP,Lk _ _ hC,λHn zs sn pz so p hp=> ?_⟩
 ·obtain⟨i,j,_,_,h⟩:=each r hr
  exact wZ h
 ·obtain⟨i',j',hi',hj',h⟩:=each r hr
  show(dw (iX H6 r) i).natAbs<2^1000
  rw[gD h i hi]
  have cl:=Ds ev lp hi' hj' D0
  have n0:=dH Po (c9 z i' x j' y)
  refine aH (l8 ev bT ab hB ?_ hi) (by decide)
  have k1:=Int.mul_nonneg D0 (bf (bO x y z))
  have k2:0<=aQ m y:=dH Po y
  have k3:(aA m*(bO x y z*bO x y z)+3*aQ m y).natAbs<2^(448+1):=jh bd (aH (b7 (show(3:Int).natAbs<2^2 by decide) bw) (by decide))
  refine Nat.lt_of_le_of_lt ?_ (aH k3 (show 448+1<=450 by decide))
  omega
 have TV:∃TX rest,zs=TX::rest:=by
  cases zs with
  |nil=>have:=pz.length_eq;simp at this
  |cons r rest=>exact⟨r,rest,rfl⟩
 obtain⟨rz,rest,rfl⟩:=TV
 obtain⟨i,j,hi,hj,hz⟩:=each rz (pz.mem_iff.mp List.mem_cons_self)
 have least:∀r∈ [r0,r1,r2,r3],aQ m (c9 z i x j y)<=aQ m (dw (iX H6 r)):=λr hr=>by
  rw[<-same hz]
  rcases List.mem_cons.mp (pz.mem_iff.mpr hr)with e|hr'
  ·rw[e]
   exact Int.le_refl _
  ·have:bK m (dw (iX H6 rz))<=bK m (dw (iX H6 r)):=(List.pairwise_cons.mp so).1 r hr'
   have p1:=d8 ev (dw (iX H6 rz))
   have p2:=d8 ev (dw (iX H6 r))
   show av m _ _<=av m _ _
   omega
 have sF:=Lk.trans (sn.trans (ay.up (o:= .lst ((rz::rest).map V.ref)) hp))
 refine⟨p,_,_,_,rfl,rfl,aT.of au,Fx,q rz _ _ (FU ev lp hi hj λi' j' hi' hj'=> ?_) sF ((sn.trans (ay.up hp)) _ _ hz)⟩
 rcases hi' with rfl|rfl<;>rcases hj' with rfl|rfl
 ·rw[<-same x0];exact least r0 (by simp)
 ·rw[<-same x1];exact least r1 (by simp)
 ·rw[<-same x2];exact least r2 (by simp)
 ·rw[<-same x3];exact least r3 (by simp)
inductive Cm (T1 T0:Addr) (vs:List V) (H:Hp) (Q:VK) (E:XK):Prop
 |mk (t:Addr) (bs:List Addr) (m:List (List Int)) (_:vs=[.ref t]) (_:Tab H t bs m) (_:cz m) (_:Bd 440 m) (_:cg m) (_:bU m=true) (_:(aA m).natAbs<2^440) (_:H T1=some (dG T1)) (_:H T0=some .xY) (_:∀(r a b c:Addr) (x y z:Nat->Int) H',Cc m x y z->ay H H'->H r=none->H' r=some (.lst [.ref a,.ref b,.ref c]) ->bg H' a x->bg H' b y->bg H' c z->Q (.ref r) H')
theorem uE{aF aS:Addr}(F:fE K mg "near_basis" kO gF)(gh:dg P w K mg base cO 8 "in_order" g6 (xo aF aS))(kW:dg P w K mg base cO 8 "least_pair" gE (yT aF))(oi:dg P w K mg base cO 8 "drawn_in" jn (Gi aF aS))(gK:dg P w K mg base cO 8 "worth" kL (pO aF)):dg P w K mg base cO 9 "near_basis" gF (Cm aF aS):=by
 refine F.ok cI (λvs H Q E h=> ?_) (λf cdv A outer s H vs Q E hr h=> ?_)
 ·obtain⟨t,bs,m,rfl,hT,bT,hB,ev,ab,bD,hP,hC,q⟩:=h
  rfl
 obtain⟨t,bs,m,rfl,hT,bT,hB,ev,ab,bD,hP,hC,q⟩:=h
 have hu:=hr.units
 refine⟨_,(lO (@ak _ _ _ _ _ (kD (aL gh hr rfl aK (af (pv 0) (af (cZ (af (cZ (af ah (af ah (af ah aj)))) (af (cZ (af ah (af ah (af ah aj)))) (af (cZ (af ah (af ah (af ah aj)))) aj)))) aj))) (iW rfl (aN (aP (i:=1) cI.nd rfl (Or.inl rfl)) (aN (aP (i:=2) cI.nd rfl (Or.inl rfl)) (aN (aP (i:=3) cI.nd rfl (Or.inl rfl)) fF)))))
  (@aJ _ _ _ (j3 PassesOwn.never (kB r6) (lO (@ak _ _ _ _ _ (kD (aL kW hr rfl aK (af (pv 0) (af (pv 1) (af (pv 2) aj)))) (sf rfl (aN (aP (i:=1) cI.nd rfl (Or.inl rfl)) (aN (aP (i:=2) cI.nd rfl (Or.inl rfl)) fF))))
  (@ak _ _ _ _ _ (aC (i:=3) cI.nd rfl (Or.inl rfl) (aL oi hr rfl aK (af (pv 0) (af (pv 1) (af (pv 2) (af (pv 3) aj))))))
  (@ak _ _ _ _ _ (dM (bJ BC (aL gK hr rfl aK (af (pv 0) (af (pv 3) aj))) (aL gK hr rfl aK (af (pv 0) (af (pv 2) aj))) (bL _)) (@aJ _ _ _ (aY (cZ (af (pv 1) (af (pv 2) (af (pv 3) aj)))))) eG)
  (@aJ _ _ _ (kD (aL gh hr rfl aK (af (pv 0) (af (cZ (af (pv 1) (af (pv 2) (af (pv 3) aj)))) aj))) (iW rfl (aN (aP (i:=1) cI.nd rfl (Or.inl rfl)) (aN (aP (i:=2) cI.nd rfl (Or.inl rfl)) (aN (aP (i:=3) cI.nd rfl (Or.inl rfl)) fF)))))))))))))),?_⟩
 have Po:=gm (dQ ev bT) ab
 have bits:∀z:Nat->Int,aQ m z<=(2^440:Int) -> ∀i,i<3->(z i).natAbs<2^666:=λz hz i hi=>l8 ev bT ab hB (by have:=dH Po z;omega) hi
 have b1:∀v:Nat->Int,(∀i,i<3->(v i).natAbs<2^666) -> ∀i,i<3->(v i).natAbs<2^1000:=λv h i hi=>aH (h i hi) (by decide)
 have ord:∀{H1:Hp} {a b c:Addr} {x y z:Nat->Int},bg H1 a x->bg H1 b y->bg H1 c z->(bO x y z=1∨bO x y z= -1) ->aQ m x<=(2^440:Int) ->aQ m y<=(2^440:Int) ->aQ m z<=(2^440:Int) ->
   (∀r∈ [a,b,c],bg H1 r (dw (iX H1 r)))/\(∀r∈ [a,b,c],∀i,i<3->(dw (iX H1 r) i).natAbs<2^1000)/\ ∀zs:List Addr,zs.Perm [a,b,c] ->zs.Pairwise (λa b=>bK m (dw (iX H1 a))<=bK m (dw (iX H1 b))) ->
   ∃(p q r:Addr) (x1 y1 z1:Nat->Int),zs=[p,q,r]/\bg H1 p x1/\bg H1 q y1/\bg H1 r z1/\(bO x1 y1 z1=1∨bO x1 y1 z1= -1)/\aQ m x1<=(2^440:Int)/\aQ m y1<=(2^440:Int)/\aQ m z1<=(2^440:Int)/\aQ m x1+aQ m y1<=aQ m x+aQ m z:=λ {H1 a b c x y z} ha hb hc un wx wy wz=>by
  have same:∀{r:Addr} {v:Nat->Int},bg H1 r v->aQ m (dw (iX H1 r))=aQ m v:=λh=>fX (gD h) (gD h)
  have each:∀r∈ [a,b,c],bg H1 r (dw (iX H1 r))/\aQ m (dw (iX H1 r))<=(2^440:Int):=λr hr=>by
   simp only[List.mem_cons,List.not_mem_nil,or_false]at hr
   rcases hr with rfl|rfl|rfl
   ·exact⟨wZ ha,by rw[same ha];exact wx⟩
   ·exact⟨wZ hb,by rw[same hb];exact wy⟩
   ·exact⟨wZ hc,by rw[same hc];exact wz⟩
  refine⟨λr hr=>(each r hr).1,λr hr=>b1 _ (bits _ (each r hr).2),λzs pz so=> ?_⟩
  obtain⟨p,q,r,rfl,hp,hq,hr,dt,sum⟩:=Li (X:=λr=>dw (iX H1 r)) ev pz so
  refine⟨p,q,r,_,_,_,rfl,(each p hp).1,(each q hq).1,(each r hr).1,?_,(each p hp).2,(each q hq).2,(each r hr).2,by rw[<-same ha,<-same hc];exact sum⟩
  have e:=FY (gD ha) (gD hb) (gD hc)
  rcases un with u|u<;>rcases dt with d|d<;>rw[e,u]at d<;>rw[d]<;>simp
 refine⟨_,rfl,(by show 3<=sizeLine;decide),λa0 h0=>⟨(by show 3<=sizeLine;decide),λa1 h1=>⟨(by show 3<=sizeLine;decide),λa2 h2=>⟨(by show 3<=sizeLine;decide),λA hA=> ?_⟩⟩⟩⟩
 have v0:=ay.up (o:= .lst [.int 1,.int 0,.int 0]) h0
 have v1:=ay.up (o:= .lst [.int 0,.int 1,.int 0]) h1
 have v2:=ay.up (o:= .lst [.int 0,.int 0,.int 1]) h2
 have vA:=ay.up (o:= .lst [.ref a0,.ref a1,.ref a2]) hA
 have sA:=v0.trans (v1.trans (v2.trans vA))
 have r0:bg _ a0 (LW 0 1):=vA _ _ (v2 _ _ (v1 _ _ (au (H:=H) (a:=a0) (o:= .lst [.int 1,.int 0,.int 0]))))
 have r1:bg _ a1 (LW 1 1):=vA _ _ (v2 _ _ (au (a:=a1) (o:= .lst [.int 0,.int 1,.int 0])))
 have r2:bg _ a2 (LW 2 1):=vA _ _ (au (a:=a2) (o:= .lst [.int 0,.int 0,.int 1]))
 have wE:∀i,i<3->aQ m (LW i 1)<=(2^440:Int):=λi hi=>by
  rw[Lh m hi]
  have:=hB i i hi hi
  omega
 obtain⟨o1,o2,o3⟩:=ord r0 r1 r2 (.inl (by decide)) (wE 0 (by decide)) (wE 1 (by decide)) (wE 2 (by decide))
 refine⟨t,bs,m,A,[a0,a1,a2],_,rfl,hT.same sA,bT,hB,au,(by show 3<64;decide),o1,o2,sA _ _ hP,sA _ _ hC,λHn zs sn pz so R hR=> ?_⟩
 obtain⟨a,b,c,x,y,z,rfl,hx,hy,hz,un,wx,wy,wz,_⟩:=o3 zs pz so
 have uR:=ay.up (o:= .lst ([a,b,c].map V.ref)) hR
 have s1:=sn.trans uR
 have hx:=s1 _ _ hx
 have hy:=s1 _ _ hy
 have hz:=s1 _ _ hz
 have eR:upd Hn R (.lst ([a,b,c].map V.ref)) R=some (.lst [.ref a,.ref b,.ref c]):=au
 have sH:=sA.trans s1
 refine⟨R,[.ref a,.ref b,.ref c],rfl,aT.of eR,rfl,_,_,rfl,_,_,rfl,_,_,rfl,rfl,?_⟩
 refine lR (λσ H'=> ∃(a b c:Addr) (x y z:Nat->Int),σ=[some (.ref t),some (.ref a),some (.ref b),some (.ref c)]/\ay H H'/\bg H' a x/\bg H' b y/\bg H' c z/\(bO x y z=1∨bO x y z= -1)/\aQ m x<=(2^440:Int)/\aQ m y<=(2^440:Int)/\aQ m z<=(2^440:Int)) (λσ H=>FP m 1 σ H+FP m 2 σ H) ⟨a,b,c,x,y,z,rfl,sH,hx,hy,hz,un,wx,wy,wz⟩ (λσ H' hh=> ?_) ?_
 rotate_left
 ·rintro σ H' Q Q' h ⟨c,e,k⟩
  exact⟨c,e,h _ _ k⟩
 obtain⟨a,b,c,x,y,z,rfl,s1,hx,hy,hz,un,wx,wy,wz⟩:=hh
 refine⟨true,rfl,ED ?_⟩
 have ne:bO x y z≠0:=by omega
 refine⟨_,rfl,_,rfl,_,rfl,t,bs,m,a,b,x,y,(2^440:Int),rfl,hT.same s1,bT,hB,ev,ab,hx,hy,⟨z,ne⟩,wx,wy,(by decide),s1 _ _ hP,λa' b' x' y' P H2 lp pr LZ Ma s2 hx' hy' eP=> ?_⟩
 refine⟨P,[.ref a',.ref b'],rfl,uq.of eP,rfl,_,_,rfl,_,_,rfl,rfl,?_⟩
 have s12:=s1.trans s2
 have un':bO x' y' z=1∨bO x' y' z= -1:=by
  obtain⟨e,he,hd⟩:=pr.det
  rw[hd]
  rcases he with rfl|rfl<;>rcases un with u|u<;>rw[u]<;>simp
 have one:bO x' y' z*bO x' y' z=1:=by rcases un' with u|u<;>rw[u]<;>decide
 have ny:=dH Po y'
 refine⟨_,rfl,_,rfl,_,rfl,_,rfl,t,bs,m,a',b',c,x',y',z,rfl,hT.same s12,bT,hB,ev,ab,hx',hy',s2 _ _ hz,lp,bits _ LZ,bits _ Ma,bits _ wz,(by rw[one,Int.mul_one];exact aH bD (by decide)),(by omega),s12 _ _ hP,s12 _ _ hC,λr z' H3 dr s3 hz'=> ?_⟩
 have x6:=s12.trans s3
 have nz:=dH Po z'
 have Rz:bg H3 a' x':=s3 _ _ hx'
 have Qg:bg H3 b' y':=s3 _ _ hy'
 have TY:bO x' y' z'=1∨bO x' y' z'= -1:=by rw[dr.det];exact un'
 have bz:∀i,i<3->(z' i).natAbs<2^666:=λi hi=>by
  obtain⟨ar,ap⟩:=lp.FT
  have few:=dr.few
  rw[one,Int.mul_one]at few
  have D0:=(gk ab).2.2
  refine l8 ev bT ab hB ?_ hi
  have Dr:1<=ao m x' y':=ap
  have k1:aQ m z'<=ao m x' y'*aQ m z':=by
   have:=Int.mul_le_mul_of_nonneg_right Dr nz
   omega
  have k2:4*(ao m x' y'*aQ m z')<=4*(ao m x' y'*(aA m+aQ m y')):=by
   have e1:ao m x' y'*(aA m+aQ m y')=ao m x' y'*aA m+ao m x' y'*aQ m y':=Int.mul_add ..
   have e2:1*aA m<=ao m x' y'*aA m:=Int.mul_le_mul_of_nonneg_right Dr (Int.le_of_lt D0)
   have e3:0<=ao m x' y'*aQ m y':=Int.mul_nonneg (by omega) ny
   omega
  have k3:aQ m z'<=aA m+aQ m y':=Int.le_of_mul_le_mul_left (a:=ao m x' y') (by omega) ap
  omega
 refine⟨_,rfl,_,rfl,t,bs,m,r,z',rfl,hT.same x6,bT,hB.mono (by decide),hz',b1 _ bz,x6 _ _ hP,λH4 s4=> ?_⟩
 refine⟨_,rfl,_,rfl,t,bs,m,b',y',rfl,hT.same (x6.trans s4),bT,hB.mono (by decide),s4 _ _ Qg,b1 _ (bits _ Ma),(x6.trans s4) _ _ hP,λH5 s5=> ?_⟩
 have Qh:=s4.trans s5
 have NF:=x6.trans Qh
 have ez:=d8 ev z'
 have ey:=d8 ev y'
 refine⟨_,_,rfl,rfl,_,rfl,gS (λcd=> ?_) (λcd=> ?_)⟩
 ·have cd:bK m y'<=bK m z':=of_decide_eq_true cd
  refine⟨_,rfl,_,rfl,_,rfl,(by show 3<=sizeLine;decide),λR hR=> ?_⟩
  have uR:=ay.up (o:= .lst [.ref a',.ref b',.ref r]) hR
  have Qi:=Qh.trans uR
  exact q R a' b' r x' y' z' _ (Iz lp dr un' (by show av m y' y'<=av m z' z';omega)) (NF.trans uR) (NF.none hR) au (Qi _ _ Rz) (Qi _ _ Qg) (Qi _ _ hz')
 ·have cd:¬bK m y'<=bK m z':=λw=>cd (decide_eq_true w)
  have lt:aQ m z'<aQ m y':=by show av m z' z'<av m y' y';omega
  refine⟨_,rfl,_,rfl,_,rfl,_,rfl,(by show 3<=sizeLine;decide),λL hL=> ?_⟩
  have uL:=ay.up (o:= .lst [.ref a',.ref b',.ref r]) hL
  have Qj:=Qh.trans uL
  obtain⟨o1,o2,o3⟩:=ord (Qj _ _ Rz) (Qj _ _ Qg) (Qj _ _ hz') TY LZ Ma (by omega)
  have Ll:=NF.trans uL
  refine⟨t,bs,m,L,[a',b',r],_,rfl,hT.same Ll,bT,hB,au,(by show 3<64;decide),o1,o2,Ll _ _ hP,Ll _ _ hC,λHn zs sn pz so R hR=> ?_⟩
  obtain⟨p1,q1,r1,x1,y1,z1,rfl,Ld,hy1,hz1,Ua,Ub,Uc,Ud,sum⟩:=o3 zs pz so
  have uR:=ay.up (o:= .lst ([p1,q1,r1].map V.ref)) hR
  have s6:=sn.trans uR
  have Ld:=s6 _ _ Ld
  have hy1:=s6 _ _ hy1
  have hz1:=s6 _ _ hz1
  have eR:upd Hn R (.lst ([p1,q1,r1].map V.ref)) R=some (.lst [.ref p1,.ref q1,.ref r1]):=au
  refine⟨R,[.ref p1,.ref q1,.ref r1],rfl,aT.of eR,rfl,_,_,rfl,_,_,rfl,_,_,rfl,rfl,?_⟩
  refine⟨⟨p1,q1,r1,x1,y1,z1,rfl,Ll.trans s6,Ld,hy1,hz1,Ua,Ub,Uc,Ud⟩,?_⟩
  have m1:=qb (m:=m) (i:=1) (σ:=[some (.ref t),some (.ref p1),some (.ref q1),some (.ref r1)]) (by rfl) Ld
  have m2:=qb (m:=m) (i:=2) (σ:=[some (.ref t),some (.ref p1),some (.ref q1),some (.ref r1)]) (by rfl) hy1
  have m3:=qb (m:=m) (i:=1) (σ:=[some (.ref t),some (.ref a),some (.ref b),some (.ref c)]) (by rfl) hx
  have m4:=qb (m:=m) (i:=2) (σ:=[some (.ref t),some (.ref a),some (.ref b),some (.ref c)]) (by rfl) hy
  show FP m 1 [some (.ref t),some (.ref p1),some (.ref q1),some (.ref r1)] (upd Hn R (.lst ([p1,q1,r1].map V.ref)))+FP m 2 [some (.ref t),some (.ref p1),some (.ref q1),some (.ref r1)] (upd Hn R (.lst ([p1,q1,r1].map V.ref)))<FP m 1 [some (.ref t),some (.ref a),some (.ref b),some (.ref c)] H'+FP m 2 [some (.ref t),some (.ref a),some (.ref b),some (.ref c)] H'
  rw[m1,m2,m3,m4]
  have n1:0<=av m x1 x1:=dH Po x1
  have n2:0<=av m y1 y1:=dH Po y1
  have n3:0<=av m x x:=dH Po x
  have n4:0<=av m y y:=dH Po y
  have ps:av m x' x'+av m y' y'<=av m x x+av m y y:=pr.sum
  have sm:av m x1 x1+av m y1 y1<=av m x' x'+av m z' z':=sum
  have lt:av m z' z'<av m y' y':=lt
  omega
inductive AK (T2 T1 T0:Addr) (vs:List V) (H:Hp) (Q:VK) (E:XK):Prop
 |mk (t:Addr) (bs:List Addr) (m:List (List Int)) (_:vs=[.ref t]) (_:Tab H t bs m) (_:cz m) (_:Bd 440 m) (_:cg m) (_:bU m=true) (_:(aA m).natAbs<2^440) (_:H T2=some (dG T2)) (_:H T1=some (dG T1)) (_:H T0=some .xY) (_:∀u us r rs B P H',mj (fH m B) ->(aA B=1∨aA B= -1) ->aA (fH m B)=aA m->cz B->Bd 700 B->ay H H'->H' P=some (.tup [.ref u,.ref r]) ->Tab H' u us (fH m B) ->Tab H' r rs B->Q (.ref P) H')
theorem II{aF aS br:Addr}(F:fE K mg "near" AA qm)(kX:dg P w K mg base cO 9 "near_basis" gF (Cm aF aS))(qA:dg P w K mg base cO 9 "carried" kh (vN br)):dg P w K mg base cO 10 "near" qm (AK br aF aS):=by
 refine F.ok Cg (λvs H Q E h=> ?_) (λf cdv A outer s H vs Q E hr h=> ?_)
 ·obtain⟨t,bs,m,rfl,hT,bT,hB,ev,ab,bD,hM,hP,hC,q⟩:=h
  rfl
 obtain⟨t,bs,m,rfl,hT,bT,hB,ev,ab,bD,hM,hP,hC,q⟩:=h
 have hu:=hr.units
 refine⟨_,(lO (@ak _ _ _ _ _ (aC (i:=1) Cg.nd rfl (Or.inl rfl) (aL kX hr rfl aK (af (pv 0) aj)))
  (@aJ _ _ _ (aY (nJ (af (aL qA hr rfl aK (af (pv 0) (af (pv 1) aj))) (af (pv 1) aj))))))),?_⟩
 have Po:=gm (dQ ev bT) ab
 refine⟨_,rfl,t,bs,m,rfl,hT,bT,hB,ev,ab,bD,hP,hC,λr a b c x y z H1 nr s1 fr er hx hy hz=> ?_⟩
 obtain⟨f1,f2,f3⟩:=FZ nr
 have bits:∀v:Nat->Int,3*aQ m v<=16*aA m-> ∀i,i<3->(v i).natAbs<2^666:=λv hv i hi=>l8 ev bT ab hB (by have:=dH Po v;omega) hi
 obtain⟨nt,un,dt⟩:=As ev bT ab nr
 have TB:Tab H1 r [a,b,c] (eK x y z):=g9 (λi j=>if i=0 then x j else if i=1 then y j else z j) er hx hy hz
 have bB:Bd 666 (eK x y z):=λi j hi hj=>by
  obtain⟨g0,g1,g2⟩:=m6 x y z hj
  rcases bE hi with rfl|rfl|rfl
  ·rw[g0];exact bits x f1 j hj
  ·rw[g1];exact bits y f2 j hj
  ·rw[g2];exact bits z f3 j hj
 refine⟨_,rfl,_,rfl,t,bs,m,r,[a,b,c],eK x y z,rfl,hT.same s1,TB,bT,cF _,hB.mono (by decide),bB.mono (by decide),s1 _ _ hM,λu us H2 s2 fu PZ nu Tu=> ?_⟩
 refine⟨_,rfl,(by show 2<=sizeLine;decide),λP Qe=> ?_⟩
 have uP:=ay.up (o:= .tup [.ref u,.ref r]) Qe
 exact q u us r [a,b,c] (eK x y z) P _ nt un dt (cF _) (bB.mono (by decide)) (s1.trans (s2.trans uP)) au (Tu.same uP) ((TB.same s2).same uP)
end
end CJ
namespace L2
open PySem PySem.Spec PyProof.Rows
section
variable{X:Cx}
def NG:V->List V->Hp->VK->Prop:=λx vs H Q=> ∃i:Int,x= .int i/\vs=[]/\Q (.int ((Builtin.Int.intBits i:Nat):Int)) H
theorem IJ:OX X "int.bit_length" NG:=by
 intro pins s σ H x vs v us Q I rx rv h
 obtain⟨i,rfl,rfl,q⟩:=h
 obtain⟨t,rfl⟩:=rx
 have Ue:=rv.zero
 subst Ue
 exact PyProof.Rows.call_int_bit_length ⟨.int _,H,I.tok _,⟨_,rfl⟩,q⟩
end
theorem yW{N:Int}(h:0<=N):N<2^(Builtin.Int.intBits N):=by
 unfold Builtin.Int.intBits
 by_cases c:(N==0)=true
 ·rw[if_pos c]
  have:N=0:=by simpa using c
  subst this
  decide
 ·rw[if_neg c]
  have n0:N.natAbs≠0:=by
   have:¬N=0:=by simpa using c
   omega
  have:=Nat.lt_log2_self (n:=N.natAbs)
  have e:((2^(N.natAbs.log2+1):Nat):Int)=2^(N.natAbs.log2+1):=by push_cast;rfl
  omega
theorem AL{N:Int}(h:0<=N){r:Int}(r0:0<=r)(hr:r*r<=N):r<=1*2^((((Builtin.Int.intBits N:Nat):Int)+1)/2).toNat:=by
 have b:=yW h
 generalize Builtin.Int.intBits N=k at b ⊢
 have e:(((k:Int)+1)/2).toNat=(k+1)/2:=by omega
 rw[e,Int.one_mul]
 refine Int.le_of_lt_add_one (Int.lt_of_not_ge λz=> ?_)
 have p0:(0:Int)<=2^((k+1)/2):=Int.le_of_lt (Int.pow_pos (by decide))
 have s:((2:Int)^((k+1)/2)+1)*(2^((k+1)/2)+1)<=r*r:=Int.mul_le_mul z z (by omega) r0
 have q:(2:Int)^k<=2^((k+1)/2)*2^((k+1)/2):=by
  rw[<-Int.pow_add]
  exact_mod_cast Nat.pow_le_pow_right (n:=2) (by decide) (show k<=(k+1)/2+(k+1)/2 by omega)
 have e2:((2:Int)^((k+1)/2)+1)*(2^((k+1)/2)+1)=2^((k+1)/2)*2^((k+1)/2)+2*2^((k+1)/2)+1:=by grind
 omega
theorem DC{N t:Int}(t0:0<t)(h:N<t*t)(N0:0<=N):(∀r,0<=r->r*r<=N->r<=(t+N/t)/2)/\(t+N/t)/2<t/\0<=(t+N/t)/2:=by
 have q0:0<=N/t:=Int.ediv_nonneg N0 (Int.le_of_lt t0)
 refine⟨λr r0 hr=> ?_,?_,by omega⟩
 ·have k:(2*r-t)*t<=N:=by
   have s:=bf (t-r)
   have e:(t-r)*(t-r)=t*t-2*(r*t)+r*r:=by grind
   have e2:(2*r-t)*t=2*(r*t) -t*t:=by grind
   omega
  have:2*r-t<=N/t:=(Int.le_ediv_iff_mul_le t0).mpr k
  omega
 ·have:N/t<t:=(Int.ediv_lt_iff_lt_mul t0).mpr h
  omega
theorem DE{N t:Int}(t0:0<=t)(h:¬N<t*t)(up:∀r,0<=r->r*r<=N->r<=t):t*t<=N/\N<(t+1)*(t+1):=by
 refine⟨by omega,Int.lt_of_not_ge λz=> ?_⟩
 have:=up (t+1) (by omega) z
 omega
theorem vP{N a b:Int}(a0:0<=a)(b0:0<=b)(h1:a*a<=N)(h2:N<(b+1)*(b+1)):a<=b:=by
 refine Int.le_of_lt_add_one (Int.lt_of_not_ge λz=> ?_)
 have:=Int.mul_le_mul z z (show 0<=b+1 by omega) a0
 omega
end L2
set_option maxHeartbeats 1000000
namespace CJ
open PySem L2
section
variable{P:Program}{w:World}{K:PySem.W.Frag}{mg:Str->Option Value}{base:Heap}
inductive AM (vs:List V) (H:Hp) (Q:VK) (E:XK):Prop
 |mk (N:Int) (_:vs=[.int N]) (_:0<=N) (_:N.natAbs<2^200) (_:∀r:Int,0<=r->r*r<=N->N<(r+1)*(r+1) ->Q (.int r) H)
theorem IK(F:fE K mg "root" AB qo):dg P w K mg base cO 1 "root" qo AM:=by
 refine F.ok w9 (λvs H Q E h=> ?_) (λf cdv A outer s H vs Q E hr h=> ?_)
 ·obtain⟨N,rfl,N0,bN,q⟩:=h
  rfl
 obtain⟨N,rfl,N0,bN,q⟩:=h
 have hu:=hr.units
 refine⟨_,(lO (@ak _ _ _ _ _ (aC (i:=1) w9.nd rfl (Or.inl rfl) (ai Kh ah (ai bI (ai aO (Ks PySem.F.plainAttrs_int PyProof.Rows.slot_int_bit_length PyProof.Rows.type_int_bit_length IJ (pv 0)) ah) ah)))
  (@ak _ _ _ _ _ (j3 PassesOwn.never (bJ nC (ai aB (pv 1) (pv 1)) (pv 0) (bL _)) (cU (aC (i:=1) w9.nd rfl (Or.inl rfl) (ai bI (ai aO (pv 1) (ai oX (pv 0) (pv 1))) ah))))
  (@aJ _ _ _ (aY (pv 1)))))),?_⟩
 have b0:=yW N0
 have bits:Builtin.Int.intBits N<=200:=by
  unfold Builtin.Int.intBits
  split
  ·omega
  ·rename_i c
   have n0:N.natAbs≠0:=by
    have:¬N=0:=by simpa using c
    omega
   have:=(Nat.log2_lt n0).mpr bN
   omega
 have start:=λr r0 hr=>AL N0 (r:=r) r0 hr
 have t0:(0:Int)<1*2^((((Builtin.Int.intBits N:Nat):Int)+1)/2).toNat:=by
  rw[Int.one_mul]
  exact Int.pow_pos (by decide)
 have t1:(1*2^((((Builtin.Int.intBits N:Nat):Int)+1)/2).toNat:Int).natAbs<2^110:=by
  have e:(((Builtin.Int.intBits N:Int))+1)/2<=100:=by omega
  rw[Int.one_mul,Int.natAbs_pow]
  exact Nat.pow_lt_pow_right (by decide) (by omega)
 refine⟨_,rfl,rfl,⟨N,rfl,rfl,_,_,rfl,rfl,_,_,rfl,rfl,⟨by decide,by decide⟩,_,_,rfl,rfl,⟨by omega,by omega,by decide⟩,?_⟩⟩
 have t0:=Int.le_of_lt t0
 refine lR (λσ H'=>H'=H/\ ∃t:Int,σ=[some (.int N),some (.int t)]/\0<=t/\t.natAbs<2^110/\ ∀r,0<=r->r*r<=N->r<=t) (λσ _=>match σ with| [_,some (.int t)]=>t.toNat|_=>0) ⟨rfl,_,rfl,t0,t1,start⟩ (λσ H' hh=> ?_) ?_
 rotate_left
 ·rintro σ H' Q Q' h ⟨v,e,v2,e',i,j,e1,e2,c,v3,e3,a,b,e4,e5,k,ek,kk⟩
  exact⟨v,e,v2,e',i,j,e1,e2,c,v3,e3,a,b,e4,e5,k,ek,h _ _ kk⟩
 obtain⟨rfl,t,rfl,t0,t1,up⟩:=hh
 refine⟨_,rfl,_,rfl,_,_,rfl,rfl,⟨aH t1 (by decide),aH t1 (by decide)⟩,_,rfl,_,_,rfl,rfl,_,rfl,gS (λc=> ?_) (λc=> ?_)⟩
 ·have c:N<t*t:=of_decide_eq_true c
  have tp:0<t:=by
   rcases Int.lt_or_le 0 t with z|z
   ·exact z
   ·exfalso
    have:t=0:=by omega
    rw[this]at c
    omega
  obtain⟨s1,s2,s3⟩:=DC tp c N0
  have lg:t.natAbs.log2<9000:=(Nat.log2_lt (by omega)).mpr (Nat.lt_of_lt_of_le t1 (Nat.pow_le_pow_right (by decide) (by decide)))
  refine⟨_,rfl,_,rfl,_,rfl,_,_,rfl,rfl,⟨tp,lg⟩,_,_,rfl,rfl,_,_,rfl,rfl,⟨by decide,by decide⟩,⟨rfl,_,rfl,s3,by omega,s1⟩,?_⟩
  show((t+N/t)/2).toNat<t.toNat
  omega
 ·have c:¬N<t*t:=λz=>c (decide_eq_true z)
  obtain⟨d1,d2⟩:=DE t0 c up
  exact⟨_,rfl,q t t0 d1 d2⟩
end
end CJ
namespace L2
open PySem PySem.Spec PyProof.Rows
def cX(N:List (List Int)):Int:=ent N 0 0*ent N 1 1-ent N 0 1*ent N 0 1
def iA(N:List (List Int)):Int:=ent N 0 0*ent N 1 2-ent N 0 1*ent N 0 2
def hiT(N:List (List Int)):Int:=ent N 0 0*ent N 2 2-ent N 0 2*ent N 0 2
def jV(N:List (List Int))(n y z:Int):Int:=2*n*ent N 0 0- (cX N*y*y+2*iA N*y*z+hiT N*z*z)
def pT(N:List (List Int))(y z:Int):Int:=ent N 0 1*y+ent N 0 2*z
theorem m9{N:List (List Int)}(ev:cg N):cX N*hiT N-iA N*iA N=ent N 0 0*aA N:=by
 have Iu:ent N 1 0=ent N 0 1:=ev.sym.1
 have Iv:ent N 2 0=ent N 0 2:=ev.sym.2.1
 have Iw:ent N 2 1=ent N 1 2:=ev.sym.2.2
 rw[cP,Iu,Iv,Iw]
 unfold cX hiT iA
 grind
theorem qB{N:List (List Int)}(ev:cg N)(pos:0<ent N 0 0)(n:Int)(v:Nat->Int):bK N v=n↔(ent N 0 0*v 0+pT N (v 1) (v 2))*(ent N 0 0*v 0+pT N (v 1) (v 2))=jV N n (v 1) (v 2):=by
 have Iu:ent N 1 0=ent N 0 1:=ev.sym.1
 have Iv:ent N 2 0=ent N 0 2:=ev.sym.2.1
 have Iw:ent N 2 1=ent N 1 2:=ev.sym.2.2
 have h:=d8 ev v
 have id:ent N 0 0*av N v v=(ent N 0 0*v 0+pT N (v 1) (v 2))*(ent N 0 0*v 0+pT N (v 1) (v 2))+(cX N*v 1*v 1+2*iA N*v 1*v 2+hiT N*v 2*v 2):=by
  rw[aX,Iu,Iv,Iw]
  unfold pT cX iA hiT
  grind
 unfold jV
 generalize(ent N 0 0*v 0+pT N (v 1) (v 2))*(ent N 0 0*v 0+pT N (v 1) (v 2))=s at id ⊢
 generalize cX N*v 1*v 1+2*iA N*v 1*v 2+hiT N*v 2*v 2=t at id ⊢
 rw[h]at id
 have e:2*n*ent N 0 0=ent N 0 0*(2*n):=Int.mul_comm ..
 constructor
 ·intro z
  rw[z]at id
  omega
 ·intro z
  have:ent N 0 0*(2*bK N v)=ent N 0 0*(2*n):=by omega
  have:=Int.eq_of_mul_eq_mul_left (show ent N 0 0≠0 by omega) this
  omega
theorem tM{N:List (List Int)}(ev:cg N)(pos:0<ent N 0 0)(fl:0<cX N)(n y z:Int):0<=jV N n y z↔(cX N*y+iA N*z)*(cX N*y+iA N*z)<=cX N*(2*n*ent N 0 0) -ent N 0 0*aA N*z*z:=by
 have fh:=m9 ev
 have id:cX N*jV N n y z=cX N*(2*n*ent N 0 0) -ent N 0 0*aA N*z*z- (cX N*y+iA N*z)*(cX N*y+iA N*z):=by
  unfold jV
  rw[<-fh]
  generalize cX N=f,iA N=b,hiT N=h,2*n*ent N 0 0=w
  grind
 constructor
 ·intro h
  have:=Int.mul_nonneg (Int.le_of_lt fl) h
  omega
 ·intro h
  have h2:0<=cX N*jV N n y z:=by omega
  rcases Int.lt_or_le (jV N n y z) 0 with c|c
  ·exfalso
   have:=Int.mul_lt_mul_of_pos_left c fl
   omega
  ·exact c
theorem rV{N x s:Int}(s0:0<=s)(h1:s*s<=N)(h2:N<(s+1)*(s+1)):x*x<=N↔ -s<=x/\x<=s:=by
 constructor
 ·intro h
  rcases Int.le_total 0 x with c|c
  ·have:=vP c s0 h h2
   omega
  ·have:(-x)*(-x)<=N:=by
    have e:(-x)*(-x)=x*x:=by grind
    omega
   have:=vP (a:= -x) (by omega) s0 this h2
   omega
 ·rintro⟨a,b⟩
  have:=mh a b
  omega
theorem ni{f b z s y:Int}(hf:0<f):(-s<=f*y+b*z/\f*y+b*z<=s)↔(-((s+b*z)/f)<=y/\y<(s-b*z)/f+1):=by
 have e1:y<=(s-b*z)/f↔y*f<=s-b*z:=Int.le_ediv_iff_mul_le hf
 have e2: -y<=(s+b*z)/f↔ -y*f<=s+b*z:=Int.le_ediv_iff_mul_le hf
 have c1:y*f=f*y:=Int.mul_comm ..
 have c2: -y*f= -(f*y):=by rw[Int.neg_mul,c1]
 rw[c1]at e1
 rw[c2]at e2
 constructor
 ·rintro⟨h1,h2⟩
  have:=e1.mpr (by omega)
  have:=e2.mpr (by omega)
  omega
 ·rintro⟨h1,h2⟩
  have:=e1.mp (by omega)
  have:=e2.mp (by omega)
  omega
theorem aR{N:List (List Int)}(D:0<aA N)(fl:0<cX N){n R z:Int}(R0:0<=R)(h1:R*R<=2*n*cX N/aA N)(h2:2*n*cX N/aA N<(R+1)*(R+1)):(-R<=z/\z<=R)↔aA N*z*z<=2*n*cX N:=by
 rw[<-rV R0 h1 h2,Int.le_ediv_iff_mul_le D]
 have e:z*z*aA N=aA N*z*z:=by grind
 rw[e]
theorem gi{N:List (List Int)}(h:mj N)(dD:aA N<=401):0<cX N/\0<aA N/\2<=ent N 0 0/\ent N 0 0<=2200/\ent N 1 1<=2200/\ent N 2 2<=2200/\3*cX N<=8*aA N/\3*ent N 0 0<=2*cX N:=by
 obtain⟨c1,c2,c3⟩:=gk h.ab
 have p:=h.pos
 have l1:=h.Om
 have l2:=h.Oo
 obtain⟨_,a,b,c,ea,eb,ec⟩:=h.ev
 have f:=h.few
 have a2:2<=ent N 0 0:=by omega
 have b2:2<=ent N 1 1:=by omega
 have Ug:2<=ent N 2 2:=by omega
 have k1:2*2<=ent N 0 0*ent N 1 1:=Int.mul_le_mul a2 b2 (by omega) (by omega)
 have k2:4*ent N 2 2<=ent N 0 0*ent N 1 1*ent N 2 2:=Int.mul_le_mul_of_nonneg_right (by omega) (by omega)
 have sq:=mh h.p.1 h.p.2
 have e4:2*ent N 0 1*(2*ent N 0 1)=4*(ent N 0 1*ent N 0 1):=by grind
 have aa:ent N 0 0*ent N 0 0<=ent N 0 0*ent N 1 1:=Int.mul_le_mul_of_nonneg_left l1 (by omega)
 have s0:=bf (ent N 0 1)
 have k3:ent N 0 0*ent N 1 1*2<=ent N 0 0*ent N 1 1*ent N 2 2:=Int.mul_le_mul_of_nonneg_left Ug (by omega)
 have k4:ent N 0 0*2<=ent N 0 0*ent N 1 1:=Int.mul_le_mul_of_nonneg_left b2 (by omega)
 unfold cX
 refine⟨by omega,c3,a2,by omega,by omega,by omega,by omega,by omega⟩
theorem Gj{N:List (List Int)}(h:mj N)(dD:aA N<=401){n R:Int}(n0:0<=n)(n6:n<=600)(R0:0<=R)(h1:R*R<=2*n*cX N/aA N):R<=60:=by
 obtain⟨f0,d0,_,_,_,_,k,_⟩:=gi h dD
 have:2*n*cX N/aA N<=3200:=by
  refine Int.le_of_lt_add_one ((Int.ediv_lt_iff_lt_mul d0).mpr ?_)
  have e:2*n*cX N<=1200*cX N:=Int.mul_le_mul_of_nonneg_right (by omega) (Int.le_of_lt f0)
  omega
 refine Int.le_of_lt_add_one (Int.lt_of_not_ge λz=> ?_)
 have:=Int.mul_le_mul z z (by decide) R0
 omega
theorem IL{N:List (List Int)}(h:mj N)(dD:aA N<=401){n z s:Int}(n0:0<=n)(n6:n<=600)(s0:0<=s)(h1:s*s<=cX N*(2*n*ent N 0 0) -ent N 0 0*aA N*z*z):s<=30*cX N:=by
 obtain⟨f0,d0,a2,_,_,_,_,k⟩:=gi h dD
 have zz:0<=ent N 0 0*aA N*z*z:=by
  have:=Int.mul_nonneg (Int.mul_nonneg (show 0<=ent N 0 0 by omega) (Int.le_of_lt d0)) (bf z)
  rw[<-Int.mul_assoc]at this
  exact this
 have w:2*n*ent N 0 0<=1200*ent N 0 0:=Int.mul_le_mul_of_nonneg_right (by omega) (by omega)
 have w2:2*n*ent N 0 0<=800*cX N:=by omega
 have w3:cX N*(2*n*ent N 0 0)<=cX N*(800*cX N):=Int.mul_le_mul_of_nonneg_left w2 (Int.le_of_lt f0)
 refine Int.le_of_lt_add_one (Int.lt_of_not_ge λy=> ?_)
 have:=Int.mul_le_mul y y (by omega) s0
 have e1:(30*cX N+1)*(30*cX N+1)=900*(cX N*cX N)+60*cX N+1:=by grind
 have e2:cX N*(800*cX N)=800*(cX N*cX N):=by grind
 have ff:=bf (cX N)
 omega
def gM(z y0:Int)(k:Nat):List (Int×Int):=(List.range k).map λj:Nat=>(y0+(j:Int),z)
def fG(lo:Int->Int)(ln:Int->Nat)(R:Int)(m:Nat):List (Int×Int):=(List.range m).flatMap λi:Nat=>gM ((i:Int) -R) (lo ((i:Int) -R)) (ln ((i:Int) -R))
theorem tN{z y0:Int}{k:Nat}{p:Int×Int}:p∈gM z y0 k↔p.2=z/\y0<=p.1/\p.1<y0+k:=by
 obtain⟨y,z'⟩:=p
 simp only[gM,List.mem_map,List.mem_range,Prod.mk.injEq]
 constructor
 ·rintro⟨j,hj,rfl,rfl⟩
  exact⟨rfl,by omega,by omega⟩
 ·rintro⟨rfl,h1,h2⟩
  exact⟨(y-y0).toNat,by omega,by omega,rfl⟩
theorem xq{z y0:Int}{k:Nat}:(gM z y0 k).Nodup:=by
 unfold gM List.Nodup
 rw[List.pairwise_map]
 refine List.Pairwise.imp ?_ (List.nodup_range (n:=k))
 intro a b h e
 have:=(Prod.mk.inj e).1
 omega
theorem yX{z y0:Int}{k:Nat}:gM z y0 (k+1)=gM z y0 k++ [(y0+(k:Int),z)]:=by
 simp[gM,List.range_succ]
theorem kY{lo:Int->Int}{ln:Int->Nat}{R:Int}{m:Nat}:fG lo ln R (m+1)=fG lo ln R m++gM ((m:Int) -R) (lo ((m:Int) -R)) (ln ((m:Int) -R)):=by
 simp[fG,List.range_succ]
theorem q9{lo:Int->Int}{ln:Int->Nat}{R:Int}{m:Nat}{p:Int×Int}:p∈fG lo ln R m↔(-R<=p.2/\p.2<m-R)/\lo p.2<=p.1/\p.1<lo p.2+ln p.2:=by
 simp only[fG,List.mem_flatMap,List.mem_range,tN]
 constructor
 ·rintro⟨i,hi,e,h1,h2⟩
  rw[e]
  exact⟨⟨by omega,by omega⟩,h1,h2⟩
 ·rintro⟨⟨a,b⟩,h1,h2⟩
  have e:p.2=((p.2+R).toNat:Int) -R:=by omega
  exact⟨(p.2+R).toNat,by omega,e,e▸h1,e▸h2⟩
theorem uF{lo:Int->Int}{ln:Int->Nat}{R:Int}{m:Nat}:(fG lo ln R m).Nodup:=by
 induction m with
 |zero=>simp[fG]
 |succ m ih=>
  rw[kY,List.nodup_append]
  refine⟨ih,xq,?_⟩
  intro a ha b hb e
  have h1:=(q9.mp ha).1.2
  have h2:=(tN.mp hb).1
  rw[e,h2]at h1
  omega
theorem tO{lo:Int->Int}{ln:Int->Nat}{R:Int}{m L:Nat}(h:∀i:Nat,i<m->ln ((i:Int) -R)<=L):(fG lo ln R m).length<=m*L:=by
 induction m with
 |zero=>simp[fG]
 |succ m ih=>
  rw[kY,List.length_append,Nat.succ_mul]
  have h1:=ih λi hi=>h i (by omega)
  have h2:=h m (by omega)
  simp only[gM,List.length_map,List.length_range]
  omega
theorem yY{N:List (List Int)}(ev:cg N)(pos:0<ent N 0 0)(fl:0<cX N)(D:0<aA N){n R:Int}(R0:0<=R)(h1:R*R<=2*n*cX N/aA N)(h2:2*n*cX N/aA N<(R+1)*(R+1)){sp:Int->Int}(s0:∀z,-R<=z->z<=R->0<=sp z/\sp z*sp z<=cX N*(2*n*ent N 0 0) -ent N 0 0*aA N*z*z/\cX N*(2*n*ent N 0 0) -ent N 0 0*aA N*z*z<(sp z+1)*(sp z+1))(y z:Int):
  (y,z)∈fG (λz=> -((sp z+iA N*z)/cX N)) (λz=>((sp z-iA N*z)/cX N+1- -((sp z+iA N*z)/cX N)).toNat) R (2*R+1).toNat↔0<=jV N n y z:=by
 rw[q9]
 simp only
 have zr:=aR D fl (n:=n) (z:=z) R0 h1 h2
 constructor
 ·rintro⟨⟨a,b⟩,c,d⟩
  have zb:z<=R:=by omega
  obtain⟨t0,t1,t2⟩:=s0 z a zb
  rw[tM ev pos fl,rV t0 t1 t2]
  refine(ni fl).mpr ⟨c,?_⟩
  omega
 ·intro h
  rw[tM ev pos fl]at h
  have zz:aA N*z*z<=2*n*cX N:=by
   have q:=bf (cX N*y+iA N*z)
   have e:ent N 0 0*(aA N*z*z)<=ent N 0 0*(2*n*cX N):=by
    have:ent N 0 0*aA N*z*z=ent N 0 0*(aA N*z*z):=by grind
    have:cX N*(2*n*ent N 0 0)=ent N 0 0*(2*n*cX N):=by grind
    omega
   exact Int.le_of_mul_le_mul_left e pos
  obtain⟨a,b⟩:=zr.mpr zz
  obtain⟨t0,t1,t2⟩:=s0 z a b
  rw[rV t0 t1 t2]at h
  obtain⟨c,d⟩:=(ni fl).mp h
  refine⟨⟨a,by omega⟩,c,by omega⟩
theorem Lm{X r r':Int}(h0:0<=r)(h1:r*r<=X)(h2:X<(r+1)*(r+1))(g0:0<=r')(g1:r'*r'<=X)(g2:X<(r'+1)*(r'+1)):r=r':=by
 rcases Int.lt_trichotomy r r' with c|c|c
 ·have:(r+1)*(r+1)<=r'*r':=Int.mul_le_mul (by omega) (by omega) (by omega) (by omega)
  omega
 ·exact c
 ·have:(r'+1)*(r'+1)<=r*r:=Int.mul_le_mul (by omega) (by omega) (by omega) (by omega)
  omega
open Classical in
noncomputable def fZ (X:Int):Int:=if h:∃r:Int,0<=r/\r*r<=X/\X<(r+1)*(r+1)then Classical.choose h else 0
theorem nj{X r:Int}(h0:0<=r)(h1:r*r<=X)(h2:X<(r+1)*(r+1)):fZ X=r:=by
 have h:∃r:Int,0<=r/\r*r<=X/\X<(r+1)*(r+1):=⟨r,h0,h1,h2⟩
 unfold fZ
 rw[dif_pos h]
 obtain⟨g0,g1,g2⟩:=Classical.choose_spec h
 exact Lm g0 g1 g2 h0 h1 h2
theorem DF(n:Nat):∃r:Int,0<=r/\r*r<=(n:Int)/\(n:Int)<(r+1)*(r+1):=by
 induction n with
 |zero=>exact⟨0,by decide,by decide,by decide⟩
 |succ n ih=>
  obtain⟨r,h0,h1,h2⟩:=ih
  by_cases c:((n+1:Nat):Int)<(r+1)*(r+1)
  ·exact⟨r,h0,by omega,c⟩
  ·refine⟨r+1,by omega,by omega,?_⟩
   have e:(r+1+1)*(r+1+1)=(r+1)*(r+1)+2*r+3:=by grind
   omega
theorem kr{X:Int}(h:0<=X):0<=fZ X/\fZ X*fZ X<=X/\X<(fZ X+1)*(fZ X+1):=by
 obtain⟨r,h0,h1,h2⟩:=DF X.toNat
 have e:(X.toNat:Int)=X:=Int.toNat_of_nonneg h
 rw[e]at h1 h2
 rw[nj h0 h1 h2]
 exact⟨h0,h1,h2⟩
def SD(D:Addr)(H H':Hp):Prop:=∀a o,a≠D->H a=some o->H' a=some o
theorem SD.refl{D:Addr}{H:Hp}:SD D H H:=λ_ _ _ e=>e
theorem SD.trans{D:Addr}{H H' Nm:Hp}(h:SD D H H')(h':SD D H' Nm):SD D H Nm:=λa o n e=>h' a o n (h a o n e)
theorem SD.of{D:Addr}{H H':Hp}(s:ay H H'):SD D H H':=λa o _ e=>s _ _ e
theorem SD.upd{D:Addr}{H H':Hp}{o:HO}(h:SD D H H'):SD D H (upd H' D o):=λa o n e=>by rw[aG n];exact h a o n e
theorem SD.same{D:Addr}{H H':Hp}(h:SD D H H')(f:H D=none):ay H H':=λa o e=>h a o (λz=>by rw[z,f]at e;cases e) e
def NH(N:List (List Int))(n:Int)(p:Int×Int):List V:=[.int p.1,.int p.2,.int (pT N p.1 p.2),.int (jV N n p.1 p.2)]
inductive dN (H:Hp) (N:List (List Int)) (n:Int):List V->List (Int×Int) ->Prop
 |nil:dN H N n [] []
 |cons {a:Addr} {us:List V} {p:Int×Int} {ps:List (Int×Int)}:H a=some (.tup (NH N n p)) ->dN H N n us ps->dN H N n (.ref a::us) (p::ps)
theorem dN.same{H H':Hp}{N:List (List Int)}{n:Int}{us:List V}{ps:List (Int×Int)}(s:ay H H')(h:dN H N n us ps):dN H' N n us ps:=by
 induction h with
 |nil=>exact .nil
 |cons e _ ih=>exact .cons (s _ _ e) ih
theorem dN.upd{H:Hp}{N:List (List Int)}{n:Int}{us:List V}{ps:List (Int×Int)}{D:Addr}{xs:List V}{o:HO}(hD:H D=some (.lst xs))(h:dN H N n us ps):dN (upd H D o) N n us ps:=by
 induction h with
 |nil=>exact .nil
 |cons e _ ih=>exact .cons (by rw[aG (λz=>by rw[z,hD]at e;cases e)];exact e) ih
theorem dN.append{H:Hp}{N:List (List Int)}{n:Int}{us us':List V}{ps ps':List (Int×Int)}(h:dN H N n us ps)(h':dN H N n us' ps'):dN H N n (us++us') (ps++ps'):=by
 induction h with
 |nil=>exact h'
 |cons e _ ih=>exact .cons e ih
theorem dN.length{H:Hp}{N:List (List Int)}{n:Int}{us:List V}{ps:List (Int×Int)}(h:dN H N n us ps):us.length=ps.length:=by
 induction h with
 |nil=>rfl
 |cons _ _ ih=>simp[ih]
theorem iB{a b:Int}{A B:Nat}(ha:a.natAbs<=A)(hb:b.natAbs<=B):(a*b).natAbs<=A*B:=by
 rw[Int.natAbs_mul]
 exact Nat.mul_le_mul ha hb
theorem NI{x f:Int}(hf:0<f)(h:x.natAbs<=10000000000):(x/f).natAbs<=10000000000:=by
 have h1: -10000000000<=x/f:=(Int.le_ediv_iff_mul_le hf).mpr (by omega)
 have h2:x/f<10000000000+1:=(Int.ediv_lt_iff_lt_mul hf).mpr (by omega)
 omega
theorem RA{x:Int}(h:x.natAbs<=10^30):x.natAbs<2^4096:=Nat.lt_of_le_of_lt h (Nat.lt_of_lt_of_le (m:=2^100) (by decide) (Nat.pow_le_pow_right (by decide) (by decide)))
theorem jE{te:TE}{i:Nat}{b:TS}{D:Ends}{σ:St}{H H':Hp}{v:V}(h:∀R:VK,R v H'->te σ H R)(k:b D (σ.set i (some v)) H'):uw (zN te (cY i)) b D σ H:=h _ k
end L2
set_option maxHeartbeats 1000000
namespace CJ
open PySem L2
section
variable{P:Program}{w:World}{K:PySem.W.Frag}{mg:Str->Option Value}{base:Heap}
inductive yZ (vs:List V) (H:Hp) (Q:VK) (E:XK):Prop
 |mk (t:Addr) (bs:List Addr) (N:List (List Int)) (n:Int) (_:vs=[.ref t,.int n]) (_:Tab H t bs N) (_:cz N) (_:cg N) (_:Bd 700 N) (_:mj N) (_:aA N<=401) (_:0<=n) (_:n<=600) (_:∀(u:Addr) (us:List V) (L:List (Int×Int)) (H':Hp),ay H H'->H' u=some (.lst us) ->dN H' N n us L->L.Nodup->(∀y z,(y,z)∈L↔0<=jV N n y z) ->L.length<=7500->Q (.ref u) H')
theorem DG(F:fE K mg "slices" tE mw)(aR:mg "range"=none)(cW:dg P w K mg base cO 3 "determinant" eH Cj)(oj:dg P w K mg base cO 3 "root" qo AM):dg P w K mg base cO 4 "slices" mw yZ:=by
 refine F.ok cH (λvs H Q E h=> ?_) (λf cdv A outer s H vs Q E hr h=> ?_)
 ·obtain⟨t,bs,N,n,rfl,hT,bT,ev,bN,NT,dD,n0,n6,q⟩:=h
  rfl
 obtain⟨t,bs,N,n,rfl,hT,bT,ev,bN,NT,dD,n0,n6,q⟩:=h
 have hu:=hr.units
 refine⟨_,(lO (@ak _ _ _ _ _ (kD (pv 0) (iW rfl (aN (iW rfl (aN (aP (i:=2) cH.nd rfl (Or.inl rfl)) (aN (aP (i:=3) cH.nd rfl (Or.inl rfl)) (aN (aP (i:=4) cH.nd rfl (Or.inl rfl)) fF)))) (aN (aP (i:=5) cH.nd rfl (Or.inl rfl)) (aN (aP (i:=6) cH.nd rfl (Or.inl rfl)) fF)))))
  (@ak _ _ _ _ _ (aC (i:=7) cH.nd rfl (Or.inl rfl) (ai bQ (ai aB (pv 2) (aE aq (pv 5) ah (λ_ _=>rfl))) (ai aB (pv 3) (pv 3))))
  (@ak _ _ _ _ _ (aC (i:=8) cH.nd rfl (Or.inl rfl) (ai bQ (ai aB (pv 2) (aE aq (pv 5) ah (λ_ _=>rfl))) (ai aB (pv 3) (pv 4))))
  (@ak _ _ _ _ _ (aC (i:=9) cH.nd rfl (Or.inl rfl) (ai bQ (ai aB (pv 2) (aE aq (pv 6) ah (λ_ _=>rfl))) (ai aB (pv 4) (pv 4))))
  (@ak _ _ _ _ _ (aC (i:=10) cH.nd rfl (Or.inl rfl) (aL cW hr rfl aK (af (pv 0) aj)))
  (@ak _ _ _ _ _ (aC (i:=11) cH.nd rfl (Or.inl rfl) (ai aB (ai aB ah (pv 1)) (pv 2)))
  (@ak _ _ _ _ _ (aC (i:=12) cH.nd rfl (Or.inl rfl) (cZ aj))
  (@ak _ _ _ _ _ (aC (i:=13) cH.nd rfl (Or.inl rfl) (aL oj hr rfl aK (af (ai bI (ai aB (ai aB ah (pv 1)) (pv 7)) (pv 10)) aj)))
  (@ak _ _ _ _ _ (jH PassesOwn.never rfl (j4 rfl aR (af (Bx we (pv 13)) (af (ai aO (pv 13) ah) aj))) (aP (i:=14) cH.nd rfl (Or.inl rfl)) (lO (@ak _ _ _ _ _ (aC (i:=15) cH.nd rfl (Or.inl rfl) (aL oj hr rfl aK (af (ai bQ (ai aB (pv 7) (pv 11)) (ai aB (ai aB (ai aB (pv 2) (pv 10)) (pv 14)) (pv 14))) aj)))
  (@aJ _ _ _ (jH PassesOwn.never rfl (j4 rfl aR (af (Bx we (ai bI (ai aO (pv 15) (ai aB (pv 8) (pv 14))) (pv 7))) (af (ai aO (ai bI (ai bQ (pv 15) (ai aB (pv 8) (pv 14))) (pv 7)) ah) aj))) (aP (i:=16) cH.nd rfl (Or.inl rfl)) (lO (@ak _ _ _ _ _ (aC (i:=17) cH.nd rfl (Or.inl rfl) (ai bQ (pv 11) (ai aO (ai aO (ai aB (ai aB (pv 7) (pv 16)) (pv 16)) (ai aB (ai aB (ai aB ah (pv 8)) (pv 16)) (pv 14))) (ai aB (ai aB (pv 9) (pv 14)) (pv 14)))))
  (@aJ _ _ _ (kC (EB PySem.F.plainAttrs_list PySem.F.slot_list_append PySem.F.type_list_append mX (pv 12) (af (nJ (af (pv 16) (af (pv 14) (af (ai aO (ai aB (pv 3) (pv 16)) (ai aB (pv 4) (pv 14))) (af (pv 17) aj))))) aj)))))))))))
  (@aJ _ _ _ (aY (pv 12))))))))))))),?_⟩
 obtain⟨c0,c1,c2,rfl,x0,x1,x2⟩:=tG hT bT
 obtain⟨fl,D0,a2,Ln,Cn,Mc,f8,fa⟩:=gi NT dD
 have k1:=yq (λc=>ent N 1 c) (c:=1) (by decide)
 have k2:=yq (λc=>ent N 1 c) (c:=2) (by decide)
 have k3:=yq (λc=>ent N 2 c) (c:=2) (by decide)
 have b:∀i j,i<3->j<3->(ent N i j).natAbs<2^4096:=λi j hi hj=>aH (bN i j hi hj) (by decide)
 refine⟨_,rfl,t,_,rfl,aT.of hT.1,rfl,_,_,rfl,c0,_,rfl,aT.of x0,rfl,_,_,rfl,_,_,rfl,_,_,rfl,rfl,_,_,rfl,_,_,rfl,rfl,?_⟩
 have l1:=NT.Om
 have l2:=NT.Oo
 have tx:∀x:Int,0<=x->x<=1000000000000->x.natAbs<2^40:=λx h0 h1=>by omega
 have tw:∀x:Int,0<=x->x<=1000000000000->x.natAbs<2^4096:=λx h0 h1=>Nat.lt_of_lt_of_le (tx x h0 h1) (Nat.pow_le_pow_right (by decide) (by decide))
 with_reducible apply jE
 ·exact λR hR=>⟨_,rfl,_,rfl,c1,_,_,_,rfl,rfl,aT.of x1,k1,_,_,rfl,rfl,⟨b 0 0 (by decide) (by decide),b 1 1 (by decide) (by decide)⟩,_,rfl,_,rfl,_,_,rfl,rfl,⟨b 0 1 (by decide) (by decide),b 0 1 (by decide) (by decide)⟩,_,_,rfl,rfl,hR⟩
 with_reducible apply jE
 ·exact λR hR=>⟨_,rfl,_,rfl,c1,_,_,_,rfl,rfl,aT.of x1,k2,_,_,rfl,rfl,⟨b 0 0 (by decide) (by decide),b 1 2 (by decide) (by decide)⟩,_,rfl,_,rfl,_,_,rfl,rfl,⟨b 0 1 (by decide) (by decide),b 0 2 (by decide) (by decide)⟩,_,_,rfl,rfl,hR⟩
 with_reducible apply jE
 ·exact λR hR=>⟨_,rfl,_,rfl,c2,_,_,_,rfl,rfl,aT.of x2,k3,_,_,rfl,rfl,⟨b 0 0 (by decide) (by decide),b 2 2 (by decide) (by decide)⟩,_,rfl,_,rfl,_,_,rfl,rfl,⟨b 0 2 (by decide) (by decide),b 0 2 (by decide) (by decide)⟩,_,_,rfl,rfl,hR⟩
 refine⟨_,rfl,t,_,N,rfl,hT,bT,bN.mono (by decide),trivial,λH1 s1=> ?_⟩
 refine⟨_,rfl,_,_,rfl,rfl,⟨by show(2:Int).natAbs<2^4096;exact tw 2 (by decide) (by decide),tw n n0 (by omega)⟩,_,rfl,_,_,rfl,rfl,⟨tw _ (by omega) (by omega),b 0 0 (by decide) (by decide)⟩,?_⟩
 refine⟨by decide,λD hD=> ?_⟩
 refine⟨_,rfl,_,_,rfl,rfl,⟨tw 2 (by decide) (by decide),tw n n0 (by omega)⟩,_,rfl,_,_,rfl,rfl,⟨tw _ (by omega) (by omega),tw (cX N) (by omega) (by omega)⟩,?_⟩
 have nf:n*cX N<=600*1069:=Int.mul_le_mul n6 (by omega) (by omega) (by decide)
 have UR:0<=n*cX N:=Int.mul_nonneg n0 (by omega)
 have en:2*n*cX N=2*(n*cX N):=Int.mul_assoc _ _ _
 have X0:0<=2*n*cX N/aA N:=Int.ediv_nonneg (by omega) (by omega)
 have X1:2*n*cX N/aA N<=2*n*cX N:=Int.ediv_le_self _ (by omega)
 have bb:iA N*iA N<=1069*4840000:=by
  have h:=m9 ev
  have h1:0<=ent N 0 0*aA N:=Int.mul_nonneg (by omega) (by omega)
  have h2:hiT N<=4840000:=by
   have h3:ent N 0 0*ent N 2 2<=2200*2200:=Int.mul_le_mul Ln Mc (by omega) (by omega)
   have h4:=bf (ent N 0 2)
   unfold hiT
   omega
  have h5:cX N*hiT N<=cX N*4840000:=Int.mul_le_mul_of_nonneg_left h2 (by omega)
  omega
 have bn: -100000<=iA N/\iA N<=100000:=by
  constructor
  ·refine Classical.byContradiction λz=> ?_
   have:100000*100000<= -iA N* -iA N:=Int.mul_le_mul (by omega) (by omega) (by omega) (by omega)
   rw[Int.neg_mul_neg]at this
   omega
  ·refine Classical.byContradiction λz=> ?_
   have:100000*100000<=iA N*iA N:=Int.mul_le_mul (by omega) (by omega) (by omega) (by omega)
   omega
 refine⟨_,rfl,_,_,rfl,rfl,⟨D0,Int.lt_of_le_of_lt dD (by decide)⟩,2*n*cX N/aA N,rfl,X0,(by have:=tx _ X0 (Int.le_trans X1 (by omega));exact Nat.lt_of_lt_of_le this (by decide)),λR R0 r1 r2=> ?_⟩
 have US:=Gj NT dD n0 n6 R0 r1
 obtain⟨sp,RB⟩:∃sp:Int->Int,sp=λz=>fZ (cX N*(2*n*ent N 0 0) -ent N 0 0*aA N*z*z):=⟨_,rfl⟩
 have RC:∀z,-R<=z->z<=R->0<=cX N*(2*n*ent N 0 0) -ent N 0 0*aA N*z*z:=λz z0 z1=>by
  have h:=(L2.aR D0 fl R0 r1 r2).mp ⟨z0,z1⟩
  have h1:=Int.mul_le_mul_of_nonneg_left h (show 0<=ent N 0 0 by omega)
  have h2:ent N 0 0*aA N*z*z=ent N 0 0*(aA N*z*z):=by grind
  have h3:cX N*(2*n*ent N 0 0)=ent N 0 0*(2*n*cX N):=by grind
  omega
 have s0:∀z,-R<=z->z<=R->0<=sp z/\sp z*sp z<=cX N*(2*n*ent N 0 0) -ent N 0 0*aA N*z*z/\cX N*(2*n*ent N 0 0) -ent N 0 0*aA N*z*z<(sp z+1)*(sp z+1):=λz z0 z1=>by
  rw[RB]
  exact kr (RC z z0 z1)
 have sS:∀z,-R<=z->z<=R->sp z<=30*cX N:=λz z0 z1=>IL NT dD n0 n6 (s0 z z0 z1).1 (s0 z z0 z1).2.1
 obtain⟨lo,RD⟩:∃lo:Int->Int,lo=λz=> -((sp z+iA N*z)/cX N):=⟨_,rfl⟩
 obtain⟨ln,Qk⟩:∃ln:Int->Nat,ln=λz=>((sp z-iA N*z)/cX N+1- -((sp z+iA N*z)/cX N)).toNat:=⟨_,rfl⟩
 have NJ:∀y z,(y,z)∈fG lo ln R (2*R+1).toNat↔0<=jV N n y z:=λy z=>by
  rw[RD,Qk]
  exact yY ev (by omega) fl D0 R0 r1 r2 s0 y z
 have NK:∀z,-R<=z->z<=R->ln z<=61:=λz z0 z1=>by
  have h:=sS z z0 z1
  have h1:(sp z-iA N*z)/cX N*cX N<=sp z-iA N*z:=Int.ediv_mul_le _ (by omega)
  have h2:(sp z+iA N*z)/cX N*cX N<=sp z+iA N*z:=Int.ediv_mul_le _ (by omega)
  have h3:((sp z-iA N*z)/cX N+(sp z+iA N*z)/cX N)*cX N<=60*cX N:=by
   rw[Int.add_mul]
   omega
  have h4:=Int.le_of_mul_le_mul_right h3 fl
  rw[Qk]
  show((sp z-iA N*z)/cX N+1- -((sp z+iA N*z)/cX N)).toNat<=61
  omega
 have NL:∀m:Nat,(m:Int)<=2*R+1->(fG lo ln R m).length<=m*61:=λm hm=>tO λi hi=>NK _ (by omega) (by omega)
 refine⟨_,rfl,_,rfl,_,rfl,_,_,rfl,rfl,_,_,rfl,⟨by omega,by omega,by omega,by omega⟩,?_⟩
 refine gR (λi σ H'=> ∃o1 o2 o3 o4 us,σ=[some (.ref t),some (.int n),some (.int (ent N 0 0)),some (.int (ent N 0 1)),some (.int (ent N 0 2)),some (.ref c1),some (.ref c2),some (.int (cX N)),some (.int (iA N)),some (.int (hiT N)),some (.int (aA N)),some (.int (2*n*ent N 0 0)),some (.ref D),some (.int R),o1,o2,o3,o4]/\SD D H1 H'/\H' D=some (.lst us)/\dN H' N n us (fG lo ln R i)) ⟨_,_,_,_,_,rfl,SD.refl.upd,au,.nil⟩ (λi σ H' hi hh=> ?_) (λσ H' hh=> ?_)
 ·obtain⟨o1,o2,o3,o4,us,rfl,sD,eD,tu⟩:=hh
  obtain⟨z,ez⟩:∃z:Int,z=(i:Int) -R:=⟨_,rfl⟩
  have Uh: -R+(i:Int)=z:=by omega
  rw[Uh]
  have z0: -R<=z:=by omega
  have z1:z<=R:=by omega
  have nz:z.natAbs<=60:=by omega
  have Ou:(cX N).natAbs<=1069:=by omega
  have Me:(iA N).natAbs<=100000:=by omega
  have na:(ent N 0 0).natAbs<=2200:=by omega
  have nD:(aA N).natAbs<=401:=by omega
  have nm:(2*n*ent N 0 0).natAbs<=1200*2200:=iB (by omega) na
  have RE:=iB na nD
  have NN:=iB RE nz
  have UT:=iB Me nz
  have Ui:(cX N*(2*n*ent N 0 0) -ent N 0 0*aA N*z*z).natAbs<2^200:=by
   have h1:=iB Ou nm
   have h2:=iB NN nz
   exact Nat.lt_of_le_of_lt (m:=10^20) (by omega) (by decide)
  have nhi:(hiT N).natAbs<=30000000:=by
   have h1:=iB na (show(ent N 2 2).natAbs<=2200 by omega)
   have hu:=NT.u
   have h2:=iB (show(ent N 0 2).natAbs<=4400 by omega) (show(ent N 0 2).natAbs<=4400 by omega)
   unfold hiT
   omega
  have C:∀{x:Int} {A:Nat},x.natAbs<=A->A<=10^30->x.natAbs<2^4096:=λh g=>RA (Nat.le_trans h g)
  refine⟨_,rfl,_,rfl,_,_,rfl,rfl,⟨C Ou (by decide),C nm (by decide)⟩,_,rfl,_,rfl,_,_,rfl,rfl,⟨C na (by decide),C nD (by decide)⟩,_,rfl,_,_,rfl,rfl,⟨C RE (by decide),C nz (by decide)⟩,_,rfl,_,_,rfl,rfl,⟨C NN (by decide),C nz (by decide)⟩,_,_,rfl,rfl,_,rfl,RC z z0 z1,Ui,λw h0 h1 h2=> ?_⟩
  have es:w=sp z:=by rw[RB];exact(nj h0 h1 h2).symm
  have wS:=sS z z0 z1
  rw[<-es]at wS
  have q1:=NI (x:=w+iA N*z) fl (by omega)
  have q2:=NI (x:=w-iA N*z) fl (by omega)
  refine⟨_,rfl,_,rfl,_,rfl,_,_,rfl,rfl,⟨C Me (by decide),C nz (by decide)⟩,_,_,rfl,rfl,_,rfl,_,_,rfl,rfl,⟨fl,by omega⟩,_,rfl,?_⟩
  refine⟨_,rfl,_,rfl,_,rfl,_,_,rfl,rfl,⟨C Me (by decide),C nz (by decide)⟩,_,_,rfl,rfl,_,rfl,_,_,rfl,rfl,⟨fl,by omega⟩,_,_,rfl,rfl,_,_,rfl,⟨by omega,by omega,by omega,by omega⟩,?_⟩
  have UU:lo z= -((w+iA N*z)/cX N):=by rw[RD,es]
  have Uj:ln z=((w-iA N*z)/cX N+1- -((w+iA N*z)/cX N)).toNat:=by rw[Qk,es]
  have UW:=NK z z0 z1
  have li:=NL i (by omega)
  refine gR (λj σ H2=> ∃o3 o4 us',σ=[some (.ref t),some (.int n),some (.int (ent N 0 0)),some (.int (ent N 0 1)),some (.int (ent N 0 2)),some (.ref c1),some (.ref c2),some (.int (cX N)),some (.int (iA N)),some (.int (hiT N)),some (.int (aA N)),some (.int (2*n*ent N 0 0)),some (.ref D),some (.int R),some (.int z),some (.int w),o3,o4]/\SD D H1 H2/\H2 D=some (.lst us')/\dN H2 N n us' (fG lo ln R i++gM z (lo z) j)) ⟨_,_,_,rfl,sD,eD,by simpa [gM]using tu⟩ (λj σ H2 hj hh=> ?_) (λσ H2 hh=> ?_)
  ·obtain⟨o3,o4,us',rfl,Ql,DH,Ov⟩:=hh
   obtain⟨y,ey⟩:∃y:Int,y=lo z+(j:Int):=⟨_,rfl⟩
   have Qm: -((w+iA N*z)/cX N)+(j:Int)=y:=by omega
   rw[Qm]
   have ny:y.natAbs<=20000000000:=by omega
   have Uk:=iB Ou ny
   have Ul:=iB (iB (show(2:Int).natAbs<=2 by decide) Me) ny
   have Um:=iB nhi nz
   have hp:=NT.p
   have hu:=NT.u
   have np:(ent N 0 1).natAbs<=2200:=by omega
   have nq:(ent N 0 2).natAbs<=4400:=by omega
   show uw _ _ _ _ _
   with_reducible apply jE
   ·exact λR hR=>⟨_,rfl,_,rfl,_,rfl,_,_,rfl,rfl,⟨C Ou (by decide),C ny (by decide)⟩,_,rfl,_,_,rfl,rfl,⟨C Uk (by decide),C ny (by decide)⟩,_,rfl,_,_,rfl,rfl,⟨C (A:=2) (by decide) (by decide),C Me (by decide)⟩,_,rfl,_,_,rfl,rfl,⟨C (iB (show(2:Int).natAbs<=2 by decide) Me) (by decide),C ny (by decide)⟩,_,rfl,_,_,rfl,rfl,⟨C Ul (by decide),C nz (by decide)⟩,_,_,rfl,rfl,_,rfl,_,rfl,_,_,rfl,rfl,⟨C nhi (by decide),C nz (by decide)⟩,_,rfl,_,_,rfl,rfl,⟨C Um (by decide),C nz (by decide)⟩,_,_,rfl,rfl,_,_,rfl,rfl,hR⟩
   refine⟨_,rfl,.inl ⟨rfl,_,aT.of DH⟩,_,rfl,_,rfl,_,rfl,_,rfl,_,_,rfl,rfl,⟨C np (by decide),C ny (by decide)⟩,_,rfl,_,rfl,_,_,rfl,rfl,⟨C nq (by decide),C nz (by decide)⟩,_,_,rfl,rfl,_,rfl,(by show 4<=sizeLine;decide),λb hb=> ?_⟩
   have ul:us'.length<sizeLine:=by
    have:=Ov.length
    rw[List.length_append]at this
    have h2:(gM z (lo z) j).length=j:=by simp[gM]
    show us'.length<16777216
    omega
   have RG:b≠D:=λz=>by rw[z,DH]at hb;cases hb
   refine⟨D,us',.ref b,rfl,rfl,by rw[aG (λz=>RG z.symm)];exact DH,ul,?_⟩
   refine⟨_,_,_,rfl,(SD.trans Ql (SD.of (ay.up hb))).upd,au,?_⟩
   rw[yX,<-List.append_assoc]
   refine dN.upd (by rw[aG (λz=>RG z.symm)];exact DH) ((Ov.same (ay.up hb)).append (.cons ?_ .nil))
   rw[au,<-ey]
   rfl
  ·obtain⟨o3,o4,us',rfl,Ql,DH,Ov⟩:=hh
   refine⟨_,_,_,_,_,rfl,Ql,DH,?_⟩
   rw[kY,<-ez,Uj]
   exact Ov
 ·obtain⟨o1,o2,o3,o4,us,rfl,sD,eD,tu⟩:=hh
  refine⟨_,rfl,?_⟩
  have nd:=NL (2*R+1).toNat (by omega)
  refine q D us _ H' ?_ eD ?_ uF NJ (by omega)
  ·exact λa o e=>(sD.same hD) a o (s1 _ _ e)
  ·have e:(R+1- -R).toNat=(2*R+1).toNat:=by omega
   rw[<-e]
   exact tu
end
end CJ
namespace L2
open PySem PySem.Spec PyProof.Rows PySem.SeqAt
noncomputable def pP:Int:=2^1001
theorem Co:pP=2*((2^1000:Nat):Int):=by
 unfold pP
 rw[show(1001:Nat)=1000+1 from rfl,Int.pow_succ,Int.mul_comm]
 congr 1
noncomputable def Lo (r:List Int):Int:=dw r 0*(pP*pP)+dw r 1*pP+dw r 2
def tP(r:List Int):Prop:=∀i,i<3->(dw r i).natAbs<2^1000
theorem y9{B u v w:Int}(hB:0<B)(hu:1<=u)(hv: -(B-1)<=v)(hw: -(B-1)<=w):0<u*(B*B)+v*B+w:=by
 have h1:0<=B*B:=Int.mul_nonneg (by omega) (by omega)
 have h2:1*(B*B)<=u*(B*B):=Int.mul_le_mul_of_nonneg_right hu h1
 have h3: -(B-1)*B<=v*B:=Int.mul_le_mul_of_nonneg_right hv (by omega)
 have h4: -(B-1)*B=B-B*B:=by rw[Int.neg_mul,Int.sub_mul];omega
 omega
theorem vQ{B v w:Int}(hB:0<B)(hv:1<=v)(hw: -(B-1)<=w):0<v*B+w:=by
 have h2:1*B<=v*B:=Int.mul_le_mul_of_nonneg_right hv (by omega)
 omega
theorem IM{B x y z x' y' z':Int}(hB:0<B)(a1:y'-y<=B-1/\y-y'<=B-1)(a2:z'-z<=B-1/\z-z'<=B-1):
  (x*(B*B)+y*B+z<x'*(B*B)+y'*B+z')↔(x<x'∨(x=x'/\(y<y'∨(y=y'/\z<z')))):=by
 have d:x'*(B*B)+y'*B+z'- (x*(B*B)+y*B+z)=(x'-x)*(B*B)+(y'-y)*B+(z'-z):=by grind
 have d':x*(B*B)+y*B+z- (x'*(B*B)+y'*B+z')=(x-x')*(B*B)+(y-y')*B+(z-z'):=by grind
 rcases Int.lt_trichotomy x x' with h|h|h
 ·have:=y9 (u:=x'-x) (v:=y'-y) (w:=z'-z) hB (by omega) (by omega) (by omega)
  exact⟨λ_=> .inl h,λ_=>by omega⟩
 ·subst h
  rw[Int.sub_self,Int.zero_mul,Int.zero_add]at d d'
  rcases Int.lt_trichotomy y y' with h|h|h
  ·have:=vQ (v:=y'-y) (w:=z'-z) hB (by omega) (by omega)
   exact⟨λ_=> .inr ⟨rfl,.inl h⟩,λ_=>by omega⟩
  ·subst h
   constructor
   ·intro _;exact .inr ⟨rfl,.inr ⟨rfl,by omega⟩⟩
   ·rintro(z|⟨_,z|⟨_,z⟩⟩)<;>omega
  ·have:=vQ (v:=y-y') (w:=z-z') hB (by omega) (by omega)
   constructor
   ·intro _;omega
   ·rintro(z|⟨_,z|⟨z,_⟩⟩)<;>omega
 ·have:=y9 (u:=x-x') (v:=y-y') (w:=z-z') hB (by omega) (by omega) (by omega)
  constructor
  ·intro _;omega
  ·rintro(z|⟨z,_⟩)<;>omega
theorem Gk:0<pP:=by
 rw[Co]
 have:0<2^1000:=Nat.pow_pos (by decide)
 omega
theorem vR{a b:Int}(ha:a.natAbs<2^1000)(hb:b.natAbs<2^1000):a-b<=pP-1/\b-a<=pP-1:=by
 rw[Co]
 omega
theorem IP{x y z x' y' z':Int}(a1:y.natAbs<2^1000)(a2:z.natAbs<2^1000)(b1:y'.natAbs<2^1000)(b2:z'.natAbs<2^1000):
  Hg (.list [.int x,.int y,.int z]) (.list [.int x',.int y',.int z'])=decide (x*(pP*pP)+y*pP+z<x'*(pP*pP)+y'*pP+z'):=by
 have e1:∀a b:Int,PyData.eqv (.int a) (.int b)=decide (a=b):=λa b=>rfl
 have e:=IM (x:=x) (x':=x') Gk (vR b1 a1) (vR b2 a2)
 rw[Bool.eq_iff_iff,decide_eq_true_iff,e]
 simp only[Hg,wR,e1]
 by_cases h1:x=x'
 ·by_cases h2:y=y'
  ·by_cases h3:z=z'
   ·simp[h1,h2,h3]
   ·simp[h1,h2,h3]
  ·simp[h1,h2]
 ·simp[h1]
theorem mG{K:PySem.W.Frag}{H:Hp}{p:Addr}{as:List Addr}{Q:VK}(hp:aT K H p (as.map V.ref))(ok:fj H as)(sm:∀b∈as,tP (iX H b))
  (q:∀bs:List Addr,bs.Perm as->(rws H bs).Pairwise (λr s=>Lo r<=Lo s) -> ∀l,H l=none->Q (.ref l) (upd H l (.lst (bs.map V.ref)))):BW K [.ref p] H Q:=by
 refine⟨p,as,λa=>Lo (iX H a),λa=> .list [.int (dw (iX H a) 0),.int (dw (iX H a) 1),.int (dw (iX H a) 2)],rfl,hp,λa ha=>⟨?_,zZ [dw (iX H a) 0,dw (iX H a) 1,dw (iX H a) 2]⟩,.inl λa ha b hb=>⟨.lst (.cons (.int _ _) (.cons (.int _ _) (.cons (.int _ _) .nil))),?_⟩,λbs pb so l hl=> ?_⟩
 ·exact .lst (aT.of (ok a ha).1) (.cons (.int _) (.cons (.int _) (.cons (.int _) .nil)))
 ·exact IP (sm a ha 1 (by decide)) (sm a ha 2 (by decide)) (sm b hb 1 (by decide)) (sm b hb 2 (by decide))
 ·exact q bs pb (by unfold rws;rw[List.pairwise_map];exact so) l hl
end L2
namespace L2
open PySem
noncomputable section
def dO(s:Int):List Int:=if 0<s then [s,-s]else [0]
def bZ(N:List (List Int))(p:Int×Int)(ks:List Int):List (List Int):=ks.flatMap λk=>if(k-pT N p.1 p.2)%ent N 0 0=0 then [[(k-pT N p.1 p.2)/ent N 0 0,p.1,p.2]]else []
def eZ(N:List (List Int))(n:Int)(p:Int×Int):List (List Int):=if fZ (jV N n p.1 p.2)*fZ (jV N n p.1 p.2)=jV N n p.1 p.2 then bZ N p (dO (fZ (jV N n p.1 p.2)))else []
theorem rf{s k:Int}(h:0<=s):k∈dO s↔k*k=s*s:=by
 unfold dO
 have key:k*k=s*s↔k=s∨k= -s:=by
  constructor
  ·intro e
   have:(k-s)*(k+s)=0:=by grind
   rcases Int.mul_eq_zero.mp this with z|z<;>omega
  ·rintro(rfl|rfl)<;>grind
 rw[key]
 split
 ·simp
 ·have:s=0:=by omega
  simp[this]
theorem iY{N:List (List Int)}(pos:0<ent N 0 0){p:Int×Int}{ks:List Int}{r:List Int}:r∈bZ N p ks↔ ∃x,r=[x,p.1,p.2]/\ent N 0 0*x+pT N p.1 p.2∈ks:=by
 unfold bZ
 rw[List.mem_flatMap]
 constructor
 ·rintro⟨k,hk,h⟩
  split at h
  ·rename_i e
   rw[List.mem_singleton]at h
   refine⟨_,h,?_⟩
   have:=Int.mul_ediv_cancel' (Int.dvd_of_emod_eq_zero e)
   rw[this]
   rwa [Int.sub_add_cancel]
  ·cases h
 ·rintro⟨x,rfl,h⟩
  refine⟨_,h,?_⟩
  rw[Int.add_sub_cancel,if_pos (Int.mul_emod_right _ _),Int.mul_ediv_cancel_left _ (by omega)]
  simp
theorem kZ{N:List (List Int)}(pos:0<ent N 0 0){n:Int}{p:Int×Int}(h0:0<=jV N n p.1 p.2){r:List Int}:r∈eZ N n p↔ ∃x,r=[x,p.1,p.2]/\(ent N 0 0*x+pT N p.1 p.2)*(ent N 0 0*x+pT N p.1 p.2)=jV N n p.1 p.2:=by
 obtain⟨s0,s1,s2⟩:=kr h0
 unfold eZ
 split
 ·rename_i e
  rw[iY pos]
  constructor
  ·rintro⟨x,e1,h⟩
   exact⟨x,e1,((rf s0).mp h).trans e⟩
  ·rintro⟨x,e1,h⟩
   exact⟨x,e1,(rf s0).mpr (h.trans e.symm)⟩
 ·rename_i e
  constructor
  ·intro h;cases h
  ·rintro⟨x,_,h⟩
   exfalso
   apply e
   have key:∀u:Int,0<=u->u*u=jV N n p.1 p.2->fZ (jV N n p.1 p.2)=u:=λu u0 ue=>nj u0 (by omega) (by rw[<-ue];exact(by grind:(u+1)*(u+1)=u*u+2*u+1)▸(by omega))
   rcases Int.le_total 0 (ent N 0 0*x+pT N p.1 p.2)with u0|u0
   ·rw[key _ u0 h];exact h
   ·have h':(-(ent N 0 0*x+pT N p.1 p.2))*(-(ent N 0 0*x+pT N p.1 p.2))=jV N n p.1 p.2:=by rw[Int.neg_mul_neg];exact h
    rw[key _ (by omega) h'];exact h'
theorem mH{N:List (List Int)}(pos:0<ent N 0 0){p:Int×Int}:∀{ks:List Int},ks.Nodup->(bZ N p ks).Nodup
 | [],_=>List.nodup_nil
 |k::ks,h=>by
  obtain⟨h1,h2⟩:=List.nodup_cons.mp h
  have e:bZ N p (k::ks)=bZ N p [k]++bZ N p ks:=by simp[bZ]
  rw[e]
  refine List.nodup_append.mpr ⟨?_,mH pos h2,λa ha b hb e=> ?_⟩
  ·unfold bZ
   simp only[List.flatMap_cons,List.flatMap_nil,List.append_nil]
   split<;>simp
  ·subst e
   obtain⟨x,rfl,m1⟩:=(iY pos).mp ha
   obtain⟨x',e',m2⟩:=(iY pos).mp hb
   cases e'
   rw[List.mem_singleton]at m1
   rw[m1]at m2
   exact h1 m2
theorem xr{N:List (List Int)}(pos:0<ent N 0 0){n:Int}{p:Int×Int}:(eZ N n p).Nodup:=by
 unfold eZ
 split
 ·refine mH pos ?_
  unfold dO
  split
  ·simp;omega
  ·simp
 ·exact List.nodup_nil
theorem uG{N:List (List Int)}{n:Int}{p:Int×Int}:(eZ N n p).length<=2:=by
 unfold eZ
 have one:∀k,(if(k-pT N p.1 p.2)%ent N 0 0=0 then [[(k-pT N p.1 p.2)/ent N 0 0,p.1,p.2]]else([]:List (List Int))).length<=1:=λk=>by split<;>simp
 split
 ·unfold bZ dO
  split
  ·simp only[List.flatMap_cons,List.flatMap_nil,List.append_nil,List.length_append]
   have:=one (fZ (jV N n p.1 p.2))
   have:=one (-fZ (jV N n p.1 p.2))
   omega
  ·simp only[List.flatMap_cons,List.flatMap_nil,List.append_nil]
   have:=one 0
   omega
 ·simp
def dZ(N:List (List Int))(n:Int)(L:List (List Int)):Prop:=L.Nodup/\(∀r∈L,∃v:Nat->Int,r=[v 0,v 1,v 2])/\ ∀v:Nat->Int,[v 0,v 1,v 2]∈L↔bK N v=n
theorem dZ.perm{N:List (List Int)}{n:Int}{L L':List (List Int)}(h:dZ N n L)(p:L'.Perm L):dZ N n L':=
 ⟨p.nodup_iff.mpr h.1,λr hr=>h.2.1 r (p.mem_iff.mp hr),λv=>p.mem_iff.trans (h.2.2 v)⟩
theorem uH{N:List (List Int)}(ev:cg N)(pos:0<ent N 0 0){n:Int}{ps:List (Int×Int)}(nd:ps.Nodup)(h:∀y z,(y,z)∈ps↔0<=jV N n y z):dZ N n (ps.flatMap (eZ N n)):=by
 have sq:∀u:Int,0<=u*u:=λu=>by
  rcases Int.le_total 0 u with z|z
  ·exact Int.mul_nonneg z z
  ·rw[<-Int.neg_mul_neg];exact Int.mul_nonneg (by omega) (by omega)
 refine⟨?_,λr hr=> ?_,λv=> ?_⟩
 ·clear h
  induction ps with
  |nil=>exact List.nodup_nil
  |cons p ps ih=>
   obtain⟨h1,h2⟩:=List.nodup_cons.mp nd
   rw[List.flatMap_cons]
   refine List.nodup_append.mpr ⟨xr pos,ih h2,λa ha b hb e=> ?_⟩
   subst e
   obtain⟨p',iD,hb⟩:=List.mem_flatMap.mp hb
   have at_:∀{p:Int×Int},a∈eZ N n p-> ∃x,a=[x,p.1,p.2]:=λ {p} ha=>by
    unfold eZ at ha
    split at ha
    ·obtain⟨x,e,_⟩:=(iY pos).mp ha
     exact⟨x,e⟩
    ·cases ha
   obtain⟨x,e1⟩:=at_ ha
   obtain⟨x',e2⟩:=at_ hb
   rw[e1]at e2
   injection e2 with _ e3
   injection e3 with e4 e5
   injection e5 with e6 _
   have:p=p':=Prod.ext e4 e6
   rw[this]at h1
   exact h1 iD
 ·obtain⟨p,hp,hr⟩:=List.mem_flatMap.mp hr
  obtain⟨x,e,_⟩:=(kZ pos ((h p.1 p.2).mp hp)).mp hr
  exact⟨λi=>match i with|0=>x|1=>p.1|_=>p.2,e⟩
 ·rw[qB ev pos,List.mem_flatMap]
  constructor
  ·rintro⟨p,hp,hr⟩
   obtain⟨x,e,k⟩:=(kZ pos ((h p.1 p.2).mp hp)).mp hr
   injection e with e1 e
   injection e with e2 e
   injection e with e3 _
   rw[e1,e2,e3]
   exact k
  ·intro k
   have l0:0<=jV N n (v 1) (v 2):=by rw[<-k];exact sq _
   exact⟨(v 1,v 2),(h _ _).mpr l0,(kZ (p:=(v 1,v 2)) pos l0).mpr ⟨v 0,rfl,k⟩⟩
theorem dN.sd{H H':Hp}{N:List (List Int)}{n:Int}{us:List V}{ps:List (Int×Int)}{D:Addr}{xs:List V}(hD:H D=some (.lst xs))(s:SD D H H')(h:dN H N n us ps):dN H' N n us ps:=by
 induction h with
 |nil=>exact .nil
 |cons e _ ih=>exact .cons (s _ _ (λz=>by rw[z,hD]at e;cases e) e) ih
theorem dN.get{H:Hp}{N:List (List Int)}{n:Int}{us:List V}{ps:List (Int×Int)}(h:dN H N n us ps):∀{i:Nat} {x:V},us[i]?=some x-> ∃a p,x= .ref a/\ps[i]?=some p/\H a=some (.tup (NH N n p)):=by
 induction h with
 |nil=>intro i x h;simp at h
 | @cons a us p ps e _ ih=>
  intro i x h
  match i,h with
  |0,h=>cases h;exact⟨a,p,rfl,rfl,e⟩
  |i+1,h=>obtain⟨a,p,e1,e2,e3⟩:=ih (i:=i) (by simpa using h);exact⟨a,p,e1,by simpa using e2,e3⟩
theorem zc{te:TE}{i:Nat}{b:TS}{D:Ends}{σ:St}{H:Hp}(P:V->Hp->Prop)(h:∀R:VK,(∀v H',P v H'->R v H') ->te σ H R)(k:∀v H',P v H'->b D (σ.set i (some v)) H'):uw (zN te (cY i)) b D σ H:=h _ k
theorem tQ{N:List (List Int)}(ev:cg N)(h:mj N)(dD:aA N<=401){n y z:Int}(n0:0<=n)(n6:n<=600)(l:0<=jV N n y z):y.natAbs<=10^10/\z.natAbs<=10^5/\jV N n y z<=2640000:=by
 obtain⟨fl,D0,a2,Ln,Cn,Mc,f8,fa⟩:=gi h dD
 have l1:=h.Om
 have l2:=h.Oo
 have g:=(tM ev (by omega) fl n y z).mp l
 have sq:∀u:Int,0<=u*u:=λu=>by
  rcases Int.le_total 0 u with z|z
  ·exact Int.mul_nonneg z z
  ·rw[<-Int.neg_mul_neg];exact Int.mul_nonneg (by omega) (by omega)
 have n1:n*ent N 0 0<=600*2200:=Int.mul_le_mul n6 Ln (by omega) (by decide)
 have n2:0<=n*ent N 0 0:=Int.mul_nonneg n0 (by omega)
 have n3:cX N*(2*n*ent N 0 0)<=1069*2640000:=Int.mul_le_mul (by omega) (by rw[Int.mul_assoc];omega) (by rw[Int.mul_assoc];omega) (by decide)
 have e1:ent N 0 0*aA N*z*z=(ent N 0 0*aA N)*(z*z):=by grind
 have p1:1<=ent N 0 0*aA N:=Int.mul_pos (by omega) D0
 have p2:z*z<=(ent N 0 0*aA N)*(z*z):=by
  have:=Int.mul_le_mul_of_nonneg_right p1 (sq z)
  rwa [Int.one_mul]at this
 have root:∀(u X B:Int),u*u<=X->0<=B->X<B*B->u.natAbs<=B.natAbs:=λu X B h1 b0 h2=>by
  refine Classical.byContradiction λc=> ?_
  have:B.natAbs*B.natAbs<=u.natAbs*u.natAbs:=Nat.mul_le_mul (by omega) (by omega)
  have e:=Int.natAbs_mul_self (a:=u)
  have e':=Int.natAbs_mul_self (a:=B)
  omega
 have s1:=sq (cX N*y+iA N*z)
 have z1:z.natAbs<=60000:=root z (1069*2640000) 60000 (by omega) (by decide) (by decide)
 have w1:(cX N*y+iA N*z).natAbs<=60000:=root _ (1069*2640000) 60000 (by have:=sq z;omega) (by decide) (by decide)
 have q0:∀z w:Int,z*w=w*z:=Int.mul_comm
 have bb:iA N*iA N<=1069*4840000:=by
  have h:=m9 ev
  have h1:0<=ent N 0 0*aA N:=by omega
  have h2:hiT N<=4840000:=by
   have h3:ent N 0 0*ent N 2 2<=2200*2200:=Int.mul_le_mul Ln Mc (by omega) (by omega)
   have h4:=sq (ent N 0 2)
   unfold hiT
   omega
  have h5:cX N*hiT N<=cX N*4840000:=Int.mul_le_mul_of_nonneg_left h2 (by omega)
  omega
 have bn:=root (iA N) (1069*4840000) 100000 bb (by decide) (by decide)
 have m1:=iB (show(iA N).natAbs<=100000 from bn) (show z.natAbs<=60000 from z1)
 have m2:y.natAbs<=(cX N*y).natAbs:=by
  rw[Int.natAbs_mul]
  exact Nat.le_mul_of_pos_left _ (by omega)
 have UX:(cX N*y+iA N*z).natAbs<=60000:=w1
 have m3:(cX N*y).natAbs<=6100000000:=by omega
 refine⟨by omega,by omega,?_⟩
 have UY:cX N*(2*n*ent N 0 0-jV N n y z)=(cX N*y+iA N*z)*(cX N*y+iA N*z)+(ent N 0 0*aA N)*(z*z):=by
  have h:=m9 ev
  rw[<-h]
  unfold jV
  grind
 have s2:=sq z
 have pos:0<=cX N*(2*n*ent N 0 0-jV N n y z):=by omega
 have:0<=2*n*ent N 0 0-jV N n y z:=by
  refine Classical.byContradiction λc=> ?_
  have h1:cX N*(2*n*ent N 0 0-jV N n y z)<0:=Int.mul_neg_of_pos_of_neg fl (by omega)
  omega
 have e4:2*n*ent N 0 0=2*(n*ent N 0 0):=Int.mul_assoc _ _ _
 omega
theorem zd{N:List (List Int)}(h:mj N)(dD:aA N<=401){n:Int}(n0:0<=n)(n6:n<=600){v:Nat->Int}(e:bK N v=n):∀i,i<3->(v i).natAbs<2^60:=by
 obtain⟨fl,D0,a2,Ln,Cn,Mc,f8,fa⟩:=gi h dD
 have k:=(qB h.ev h.pos n v).mp e
 have l0:0<=jV N n (v 1) (v 2):=by
  rw[<-k]
  rcases Int.le_total 0 (ent N 0 0*v 0+pT N (v 1) (v 2))with z|z
  ·exact Int.mul_nonneg z z
  ·rw[<-Int.neg_mul_neg];exact Int.mul_nonneg (by omega) (by omega)
 obtain⟨y1,z1,s1⟩:=tQ h.ev h dD n0 n6 l0
 have hp:=h.p
 have hu:=h.u
 have m1:=iB (show(ent N 0 1).natAbs<=2200 by omega) y1
 have m2:=iB (show(ent N 0 2).natAbs<=4400 by omega) z1
 have w1:(ent N 0 0*v 0+pT N (v 1) (v 2)).natAbs<=10000:=by
  refine Classical.byContradiction λc=> ?_
  have:10000*10000<=(ent N 0 0*v 0+pT N (v 1) (v 2)).natAbs*(ent N 0 0*v 0+pT N (v 1) (v 2)).natAbs:=Nat.mul_le_mul (by omega) (by omega)
  have e:=Int.natAbs_mul_self (a:=ent N 0 0*v 0+pT N (v 1) (v 2))
  omega
 have m3:(ent N 0 0*v 0).natAbs<=10^15:=by
  unfold pT at w1
  omega
 have m4:(v 0).natAbs<=(ent N 0 0*v 0).natAbs:=by
  rw[Int.natAbs_mul]
  exact Nat.le_mul_of_pos_left _ (by omega)
 intro i hi
 rcases bE hi with rfl|rfl|rfl
 ·exact Nat.lt_of_le_of_lt (Nat.le_trans m4 m3) (by decide)
 ·exact Nat.lt_of_le_of_lt y1 (by decide)
 ·exact Nat.lt_of_le_of_lt z1 (by decide)
theorem pQ{N:List (List Int)}{p:Int×Int}:∀ks:List Int,(bZ N p ks).length<=ks.length
 | []=>Nat.le_refl _
 |k::ks=>by
  have ih:=pQ (N:=N) (p:=p) ks
  have e:bZ N p (k::ks)=bZ N p [k]++bZ N p ks:=by simp[bZ]
  have h1:(bZ N p [k]).length<=1:=by
   unfold bZ
   simp only[List.flatMap_cons,List.flatMap_nil,List.append_nil]
   split<;>simp
  rw[e,List.length_append,List.length_cons]
  omega
theorem pR{N:List (List Int)}{n:Int}:∀ps:List (Int×Int),(ps.flatMap (eZ N n)).length<=2*ps.length
 | []=>Nat.le_refl _
 |p::ps=>by
  have ih:=pR (N:=N) (n:=n) ps
  have h1:=uG (N:=N) (n:=n) (p:=p)
  rw[List.flatMap_cons,List.length_append,List.length_cons]
  omega
theorem DI(w:Int):(dO w).length<=2:=by
 unfold dO
 split<;>simp
theorem fj.push{H:Hp}{D b:Addr}{as:List Addr}{x y z:Int}{o:HO}(ok:fj H as)(eD:H D=some (.lst (as.map V.ref)))(hb:H b=none)(bD:b≠D):
  fj (upd (upd H b (.lst [.int x,.int y,.int z])) D o) (as++ [b])/\rws (upd (upd H b (.lst [.int x,.int y,.int z])) D o) (as++ [b])=rws H as++ [[x,y,z]]:=by
 obtain⟨r1,r2⟩:=Jz (H:=upd (upd H b (.lst [.int x,.int y,.int z])) D o) (b:=b) (x:=x) (y:=y) (z:=z) (by rw[aG bD];exact au)
 obtain⟨k1,k2⟩:=ok.keep (H':=upd (upd H b (.lst [.int x,.int y,.int z])) D o) λc hc o' e=>by
  rw[aG (yH (ok c hc) eD),aG (λz=>by rw[z,hb]at e;cases e)]
  exact e
 refine⟨λc hc=> ?_,?_⟩
 ·rcases List.mem_append.mp hc with h|h
  ·exact k1 c h
  ·rw[List.mem_singleton.mp h];exact r1
 ·rw[Ao,k2]
  show _++ [iX _ b]=_
  rw[r2]
theorem dZ.small{N:List (List Int)}(h:mj N)(dD:aA N<=401){n:Int}(n0:0<=n)(n6:n<=600){L:List (List Int)}(R:dZ N n L):∀r∈L,r.length=3/\ ∀i,i<3->(dw r i).natAbs<2^60:=λr hr=>by
 obtain⟨v,rfl⟩:=R.2.1 r hr
 have e:=(R.2.2 v).mp hr
 have k:=zd h dD n0 n6 e
 refine⟨rfl,λi hi=> ?_⟩
 rcases bE hi with rfl|rfl|rfl<;>exact k _ (by decide)
theorem tR{H:Hp}{as bs:List Addr}(p:bs.Perm as):(rws H bs).Perm (rws H as):=p.map _
theorem rW{H:Hp}{as:List Addr}{b:Addr}(h:b∈as):iX H b∈rws H as:=List.mem_map.mpr ⟨b,h,rfl⟩
end
noncomputable section
def uI(B:List (List Int))(r:List Int):List Int:=[dh (dw r) B 0,dh (dw r) B 1,dh (dw r) B 2]
theorem ze{m:List (List Int)}{x x' y y':Nat->Int}(hx:x 0=x' 0/\x 1=x' 1/\x 2=x' 2)(hy:y 0=y' 0/\y 1=y' 1/\y 2=y' 2):av m x y=av m x' y':=by
 obtain⟨a,b,c⟩:=hx
 obtain⟨d,e,f⟩:=hy
 rw[aX,aX,a,b,c,d,e,f]
theorem rg{m:List (List Int)}{x x':Nat->Int}(hx:x 0=x' 0/\x 1=x' 1/\x 2=x' 2):bK m x=bK m x':=by
 unfold bK
 rw[ze hx hx]
theorem vS(m b:List (List Int))(x:Nat->Int):bK (fH m b) x=bK m (dh x b):=by
 unfold bK
 rw[vz]
theorem IQ(x:Nat->Int)(a b:List (List Int)){j:Nat}(hj:j<3):dh (dh x a) b j=dh x (ir a b) j:=by
 unfold dh
 rw[aI a b (i:=0) (by decide) hj,aI a b (i:=1) (by decide) hj,aI a b (i:=2) (by decide) hj]
 grind
theorem Gm(x:Nat->Int){j:Nat}(hj:j<3):dh x (pA 1) j=x j:=by
 unfold dh
 unfold pA
 rw[bC _ (by decide) hj,bC _ (by decide) hj,bC _ (by decide) hj]
 rcases bE hj with rfl|rfl|rfl<;>simp
theorem nk{x x':Nat->Int}{b:List (List Int)}(h:x 0=x' 0/\x 1=x' 1/\x 2=x' 2)(j:Nat):dh x b j=dh x' b j:=by
 obtain⟨a,b,c⟩:=h
 unfold dh
 rw[a,b,c]
theorem tS{B:List (List Int)}(u:pC (aA B))(v:Nat->Int){j:Nat}(hj:j<3):dh (dh v (lY B)) B j=v j:=by
 rw[IQ _ _ _ hj,Dd u,Gm v hj]
theorem IS{B:List (List Int)}(u:pC (aA B)){x y:Nat->Int}(h:dh x B 0=dh y B 0/\dh x B 1=dh y B 1/\dh x B 2=dh y B 2):x 0=y 0/\x 1=y 1/\x 2=y 2:=by
 have Qn:∀j,dh (λi=>x i-y i) B j=dh x B j-dh y B j:=λj=>by
  unfold dh
  grind
 obtain⟨h0,h1,h2⟩:=h
 obtain⟨a,b,c⟩:=yx u (λi=>x i-y i) ⟨by rw[Qn];omega,by rw[Qn];omega,by rw[Qn];omega⟩
 omega
theorem nodup_map_on{α β:Type}{f:α->β}:∀{L:List α},L.Nodup->(∀a∈L,∀b∈L,f a=f b->a=b) ->(L.map f).Nodup
 | [],_,_=>List.nodup_nil
 |a::L,h,k=>by
  obtain⟨h1,h2⟩:=List.nodup_cons.mp h
  rw[List.map_cons,List.nodup_cons]
  refine⟨λm=> ?_,nodup_map_on h2 λx hx y hy=>k x (List.mem_cons_of_mem _ hx) y (List.mem_cons_of_mem _ hy)⟩
  obtain⟨b,hb,e⟩:=List.mem_map.mp m
  have:=k b (List.mem_cons_of_mem _ hb) a List.mem_cons_self e
  rw[this]at hb
  exact h1 hb
theorem om{m B:List (List Int)}(u:pC (aA B)){n:Int}{L:List (List Int)}(h:dZ (fH m B) n L):dZ m n (L.map (uI B)):=by
 obtain⟨nd,sh,iff⟩:=h
 refine⟨?_,λr hr=> ?_,λv=> ?_⟩
 ·refine nodup_map_on nd λr hr s hs e=> ?_
  obtain⟨v,rfl⟩:=sh r hr
  obtain⟨w,rfl⟩:=sh s hs
  unfold uI at e
  injection e with e0 e
  injection e with e1 e
  injection e with e2 _
  obtain⟨a,b,c⟩:=IS u (x:=dw [v 0,v 1,v 2]) (y:=dw [w 0,w 1,w 2]) ⟨e0,e1,e2⟩
  change v 0=w 0 at a
  change v 1=w 1 at b
  change v 2=w 2 at c
  rw[a,b,c]
 ·obtain⟨s,hs,rfl⟩:=List.mem_map.mp hr
  exact⟨dh (dw s) B,rfl⟩
 ·rw[List.mem_map]
  constructor
  ·rintro⟨r,hr,e⟩
   obtain⟨w,rfl⟩:=sh r hr
   have k:=(iff w).mp hr
   rw[vS]at k
   rw[<-k]
   unfold uI at e
   injection e with e0 e
   injection e with e1 e
   injection e with e2 _
   refine rg ⟨?_,?_,?_⟩
   ·rw[<-e0];exact nk ⟨rfl,rfl,rfl⟩ 0
   ·rw[<-e1];exact nk ⟨rfl,rfl,rfl⟩ 1
   ·rw[<-e2];exact nk ⟨rfl,rfl,rfl⟩ 2
  ·intro k
   have b0:=tS u v (j:=0) (by decide)
   have b1:=tS u v (j:=1) (by decide)
   have b2:=tS u v (j:=2) (by decide)
   refine⟨[dh v (lY B) 0,dh v (lY B) 1,dh v (lY B) 2],(iff (dh v (lY B))).mpr ?_,?_⟩
   ·rw[vS,<-k]
    exact rg ⟨b0,b1,b2⟩
   ·unfold uI
    have c:∀j,dh (dw [dh v (lY B) 0,dh v (lY B) 1,dh v (lY B) 2]) B j=dh (dh v (lY B)) B j:=λj=>nk ⟨rfl,rfl,rfl⟩ j
    rw[c,c,c,b0,b1,b2]
theorem AN{B:List (List Int)}(b:Bd 700 B){r:List Int}(h:∀i,i<3->(dw r i).natAbs<2^60):tP (uI B r):=λi hi=>by
 have k:=HZ h b i hi
 have e:dw (uI B r) i=dh (dw r) B i:=by rcases bE hi with rfl|rfl|rfl<;>rfl
 rw[e]
 exact Nat.lt_of_lt_of_le k (Nat.pow_le_pow_right (by decide) (by decide))
theorem Cp{N:List (List Int)}(h:mj N)(dD:aA N<=401):Bd 700 N:=by
 obtain⟨fl,D0,a2,Ln,Cn,Mc,f8,fa⟩:=gi h dD
 have l1:=h.Om
 have l2:=h.Oo
 have hp:=h.p
 have hu:=h.u
 have hv:=h.v
 obtain⟨s1,s2,s3⟩:=h.ev.1
 intro i j hi hj
 refine Nat.lt_of_lt_of_le (m:=2^20) ?_ (Nat.pow_le_pow_right (by decide) (by decide))
 rcases bE hi with rfl|rfl|rfl<;>rcases bE hj with rfl|rfl|rfl<;>omega
theorem vU{H3 H':Hp}{D:Addr}{B:List (List Int)}:∀{vs:List V} {as:List Addr},vs.length=as.length->(∀(j:Nat) (v:V),vs[j]?=some v-> ∃a b,as[j]?=some a/\v=V.ref b/\b≠D/\H3 b=none/\bg H' b (dh (dw (iX H3 a)) B)) ->
  ∃cs:List Addr,vs=cs.map V.ref/\(∀b∈cs,b≠D/\H3 b=none)/\fj H' cs/\rws H' cs=(rws H3 as).map (uI B)
 | [],[],_,_=>⟨[],rfl,λ_ h=>(nomatch h),λ_ h=>(nomatch h),rfl⟩
 | [],_::_,h,_=>nomatch h
 |_::_,[],h,_=>nomatch h
 |v::vs,a::as,h,items=>by
  obtain⟨a',b,e,rfl,nb,fb,hb⟩:=items 0 v rfl
  cases e
  obtain⟨cs,rfl,k1,k2,k3⟩:=vU (vs:=vs) (as:=as) (by simpa using h) λj v e=>items (j+1) v (by simpa using e)
  obtain⟨r1,r2⟩:=Jz (H:=H') (b:=b) hb
  refine⟨b::cs,rfl,λc hc=> ?_,λc hc=> ?_,?_⟩
  ·rcases List.mem_cons.mp hc with rfl|hc
   ·exact⟨nb,fb⟩
   ·exact k1 c hc
  ·rcases List.mem_cons.mp hc with rfl|hc
   ·exact r1
   ·exact k2 c hc
  ·show iX H' b::rws H' cs=uI B (iX H3 a)::_
   rw[k3,r2]
   rfl
end
noncomputable section
def JE(m:List (List Int))(x y:Int):Int:=(ent m 0 0*x*x+ent m 1 1*y*y)/2+ent m 0 1*x*y
def nB(m:List (List Int))(x y:Int):Int:=ent m 0 2*x+ent m 1 2*y
def rX(m:List (List Int))(n x y:Int):Int:=nB m x y*nB m x y-2*ent m 2 2*(JE m x y-n)
theorem Gn{m:List (List Int)}(ev:cg m)(pos:0<ent m 2 2)(n:Int)(v:Nat->Int):bK m v=n↔(ent m 2 2*v 2+nB m (v 0) (v 1))*(ent m 2 2*v 2+nB m (v 0) (v 1))=rX m n (v 0) (v 1):=by
 have pe:=d8 ev v
 obtain⟨⟨s1,s2,s3⟩,a,b,c,e1,e2,e3⟩:=ev
 have eo:JE m (v 0) (v 1)=a*v 0*v 0+b*v 1*v 1+ent m 0 1*v 0*v 1:=by
  unfold JE
  rw[e1,e2]
  have:2*a*v 0*v 0+2*b*v 1*v 1=2*(a*v 0*v 0+b*v 1*v 1):=by grind
  rw[this]
  omega
 have key:(ent m 2 2*v 2+nB m (v 0) (v 1))*(ent m 2 2*v 2+nB m (v 0) (v 1))=rX m n (v 0) (v 1)+2*ent m 2 2*(bK m v-n):=by
  unfold rX
  rw[eo]
  rw[aX,<-s1,<-s2,<-s3,e1,e2,e3]at pe
  have h2:bK m v=v 0*a*v 0+v 1*b*v 1+v 2*c*v 2+v 0*ent m 0 1*v 1+v 0*ent m 0 2*v 2+v 1*ent m 1 2*v 2:=by grind
  rw[h2,e3]
  unfold nB
  grind
 rw[key]
 constructor
 ·intro h;rw[h];simp
 ·intro h
  have h1:2*ent m 2 2*(bK m v-n)=0:=by omega
  rcases Int.mul_eq_zero.mp h1 with z|z<;>omega
def gO(s mx:Int):List Int:=if 0<s then [0-mx-s,s-mx]else [0-mx-s]
def dP(m:List (List Int))(x y:Int)(ks:List Int):List (List Int):=ks.flatMap λk=>if k%ent m 2 2=0 then [[x,y,k/ent m 2 2]]else []
def cQ(m:List (List Int))(n x y:Int):List (List Int):=if 0<=rX m n x y/\fZ (rX m n x y)*fZ (rX m n x y)=rX m n x y then dP m x y (gO (fZ (rX m n x y)) (nB m x y))else []
theorem tT{s mx k:Int}(h:0<=s):k∈gO s mx↔(k+mx)*(k+mx)=s*s:=by
 unfold gO
 have key:(k+mx)*(k+mx)=s*s↔k=0-mx-s∨k=s-mx:=by
  constructor
  ·intro e
   have:(k+mx-s)*(k+mx+s)=0:=by grind
   rcases Int.mul_eq_zero.mp this with z|z<;>omega
  ·rintro(rfl|rfl)<;>grind
 rw[key]
 split
 ·simp
 ·have:s=0:=by omega
  simp[this]
theorem mJ{m:List (List Int)}(pos:0<ent m 2 2){x y:Int}{ks:List Int}{r:List Int}:r∈dP m x y ks↔ ∃z,r=[x,y,z]/\ent m 2 2*z∈ks:=by
 unfold dP
 rw[List.mem_flatMap]
 constructor
 ·rintro⟨k,hk,h⟩
  split at h
  ·rename_i e
   rw[List.mem_singleton]at h
   refine⟨_,h,?_⟩
   rw[Int.mul_ediv_cancel' (Int.dvd_of_emod_eq_zero e)]
   exact hk
  ·cases h
 ·rintro⟨z,rfl,h⟩
  refine⟨_,h,?_⟩
  rw[if_pos (Int.mul_emod_right _ _),Int.mul_ediv_cancel_left _ (by omega)]
  simp
theorem Gp{X u:Int}(h:u*u=X):fZ X*fZ X=X:=by
 have key:∀u:Int,0<=u->u*u=X->fZ X=u:=λu u0 ue=>nj u0 (by omega) (by rw[<-ue];exact(by grind:(u+1)*(u+1)=u*u+2*u+1)▸(by omega))
 rcases Int.le_total 0 u with u0|u0
 ·rw[key _ u0 h];exact h
 ·have h':(-u)*(-u)=X:=by rw[Int.neg_mul_neg];exact h
  rw[key _ (by omega) h'];exact h'
theorem mK{m:List (List Int)}(ev:cg m)(pos:0<ent m 2 2){n x y:Int}{r:List Int}:r∈cQ m n x y↔ ∃z,r=[x,y,z]/\(ent m 2 2*z+nB m x y)*(ent m 2 2*z+nB m x y)=rX m n x y:=by
 unfold cQ
 split
 ·rename_i h
  obtain⟨h0,e⟩:=h
  obtain⟨s0,s1,s2⟩:=kr h0
  rw[mJ pos]
  constructor
  ·rintro⟨z,e1,h⟩
   exact⟨z,e1,((tT s0).mp h).trans e⟩
  ·rintro⟨z,e1,h⟩
   exact⟨z,e1,(tT s0).mpr (h.trans e.symm)⟩
 ·rename_i h
  constructor
  ·intro h;cases h
  ·rintro⟨z,_,e⟩
   exfalso
   refine h ⟨?_,Gp e⟩
   rw[<-e]
   exact bf _
theorem nI{m:List (List Int)}(pos:0<ent m 2 2){x y:Int}:∀{ks:List Int},ks.Nodup->(dP m x y ks).Nodup
 | [],_=>List.nodup_nil
 |k::ks,h=>by
  obtain⟨h1,h2⟩:=List.nodup_cons.mp h
  have e:dP m x y (k::ks)=dP m x y [k]++dP m x y ks:=by simp[dP]
  rw[e]
  refine List.nodup_append.mpr ⟨?_,nI pos h2,λa ha b hb e=> ?_⟩
  ·unfold dP
   simp only[List.flatMap_cons,List.flatMap_nil,List.append_nil]
   split<;>simp
  ·subst e
   obtain⟨z,rfl,m1⟩:=(mJ pos).mp ha
   obtain⟨z',e',m2⟩:=(mJ pos).mp hb
   cases e'
   rw[List.mem_singleton]at m1
   rw[m1]at m2
   exact h1 m2
theorem uJ{m:List (List Int)}(pos:0<ent m 2 2){n x y:Int}:(cQ m n x y).Nodup:=by
 unfold cQ
 split
 ·refine nI pos ?_
  unfold gO
  split
  ·simp;omega
  ·simp
 ·exact List.nodup_nil
def dJ(R:Int):List Int:=(List.range (2*R+1).toNat).map λi:Nat=>(i:Int) -R
theorem nv{R x:Int}(h:0<=R):x∈dJ R↔ -R<=x/\x<=R:=by
 unfold dJ
 rw[List.mem_map]
 constructor
 ·rintro⟨i,hi,rfl⟩
  rw[List.mem_range]at hi
  omega
 ·rintro⟨h1,h2⟩
  exact⟨(x+R).toNat,by rw[List.mem_range];omega,by omega⟩
theorem rj{R:Int}:(dJ R).Nodup:=nodup_map_on List.nodup_range λa _ b _ e=>by omega
theorem qC{R:Int}:(dJ R).length=(2*R+1).toNat:=by simp[dJ]
theorem vV{R:Int}{i:Nat}(hi:i<(2*R+1).toNat):(dJ R)[i]?=some ((i:Int) -R):=by
 unfold dJ
 rw[List.getElem?_map,List.getElem?_range hi]
 rfl
def Cq(m:List (List Int))(n R0 R1:Int):List (List Int):=(dJ R0).flatMap λx=>(dJ R1).flatMap λy=>cQ m n x y
theorem oq{α β:Type}{f:α->List β}:∀{L:List α},L.Nodup->(∀a∈L,(f a).Nodup) ->(∀a∈L,∀b∈L,∀x,x∈f a->x∈f b->a=b) ->(L.flatMap f).Nodup
 | [],_,_,_=>List.nodup_nil
 |a::L,h,k1,k2=>by
  obtain⟨h1,h2⟩:=List.nodup_cons.mp h
  rw[List.flatMap_cons]
  refine List.nodup_append.mpr ⟨k1 a List.mem_cons_self,oq h2 (λb hb=>k1 b (List.mem_cons_of_mem _ hb)) (λb hb c hc=>k2 b (List.mem_cons_of_mem _ hb) c (List.mem_cons_of_mem _ hc)),λx hx y hy e=> ?_⟩
  subst e
  obtain⟨b,hb,hx'⟩:=List.mem_flatMap.mp hy
  have:=k2 a List.mem_cons_self b (List.mem_cons_of_mem _ hb) x hx hx'
  rw[this]at h1
  exact h1 hb
theorem xu{m:List (List Int)}(ev:cg m)(pos:0<ent m 2 2){n R0 R1:Int}(r0:0<=R0)(r1:0<=R1)(b0:∀v,bK m v=n-> -R0<=v 0/\v 0<=R0)(b1:∀v,bK m v=n-> -R1<=v 1/\v 1<=R1):dZ m n (Cq m n R0 R1):=by
 have at_:∀{x y:Int} {r:List Int},r∈cQ m n x y-> ∃z,r=[x,y,z]:=λh=>by
  obtain⟨z,e,_⟩:=(mK ev pos).mp h
  exact⟨z,e⟩
 refine⟨?_,λr hr=> ?_,λv=> ?_⟩
 ·unfold Cq
  refine oq rj (λx _=>oq rj (λy _=>uJ pos) λy _ y' _ r h h'=> ?_) λx _ x' _ r h h'=> ?_
  ·obtain⟨z,e⟩:=at_ h
   obtain⟨z',e'⟩:=at_ h'
   rw[e]at e'
   injection e' with _ e'
   injection e' with e' _
  ·obtain⟨y,_,h⟩:=List.mem_flatMap.mp h
   obtain⟨y',_,h'⟩:=List.mem_flatMap.mp h'
   obtain⟨z,e⟩:=at_ h
   obtain⟨z',e'⟩:=at_ h'
   rw[e]at e'
   injection e' with e' _
 ·obtain⟨x,_,hr⟩:=List.mem_flatMap.mp hr
  obtain⟨y,_,hr⟩:=List.mem_flatMap.mp hr
  obtain⟨z,e⟩:=at_ hr
  exact⟨λi=>match i with|0=>x|1=>y|_=>z,e⟩
 ·constructor
  ·intro h
   obtain⟨x,_,h⟩:=List.mem_flatMap.mp h
   obtain⟨y,_,h⟩:=List.mem_flatMap.mp h
   obtain⟨z,e,k⟩:=(mK ev pos).mp h
   injection e with e1 e
   injection e with e2 e
   injection e with e3 _
   rw[Gn ev pos,e1,e2,e3]
   exact k
  ·intro h
   refine List.mem_flatMap.mpr ⟨v 0,(nv r0).mpr (b0 v h),List.mem_flatMap.mpr ⟨v 1,(nv r1).mpr (b1 v h),(mK ev pos).mpr ⟨v 2,rfl,(Gn ev pos n v).mp h⟩⟩⟩
theorem jW{α β:Type}(f:α->List β)(L:List α)(i:Nat):((L.take i).flatMap f).length<=(L.flatMap f).length:=by
 have e:L.flatMap f=(L.take i).flatMap f++(L.drop i).flatMap f:=by rw[<-List.flatMap_append,List.take_append_drop]
 rw[e,List.length_append]
 omega
theorem mO{α β:Type}(f:α->List β){L:List α}{i:Nat}{a:α}(h:L[i]?=some a):(L.take (i+1)).flatMap f=(L.take i).flatMap f++f a:=by
 rw[List.take_add_one,h]
 simp
theorem length_le_of_subset{α:Type} [DecidableEq α]:∀{L M:List α},L.Nodup->(∀x∈L,x∈M) ->L.length<=M.length
 | [],_,_,_=>Nat.zero_le _
 |a::L,M,h,k=>by
  obtain⟨h1,h2⟩:=List.nodup_cons.mp h
  have ha:=k a List.mem_cons_self
  have:=length_le_of_subset (L:=L) (M:=M.erase a) h2 λx hx=>(List.mem_erase_of_ne (show x≠a from λe=>h1 (by rw[<-e];exact hx))).mpr (k x (List.mem_cons_of_mem _ hx))
  rw[List.length_erase_of_mem ha]at this
  have:=List.length_pos_of_mem ha
  rw[List.length_cons]
  omega
theorem Gq{m:List (List Int)}(ev:cg m)(pos:0<ent m 0 0){n:Int}{R1 R2:Int}(r1:0<=R1)(r2:0<=R2)(b1:∀v,bK m v=n-> -R1<=v 1/\v 1<=R1)(b2:∀v,bK m v=n-> -R2<=v 2/\v 2<=R2){L:List (List Int)}(h:dZ m n L):
  L.length<=2*((2*R1+1).toNat*(2*R2+1).toNat):=by
 have sub:∀r∈L,r∈((dJ R1).flatMap λy=>(dJ R2).map λz=>(y,z)).flatMap (eZ m n):=λr hr=>by
  obtain⟨v,rfl⟩:=h.2.1 r hr
  have e:=(h.2.2 v).mp hr
  have k:=(qB ev pos n v).mp e
  have l0:0<=jV m n (v 1) (v 2):=by rw[<-k];exact bf _
  refine List.mem_flatMap.mpr ⟨(v 1,v 2),List.mem_flatMap.mpr ⟨v 1,(nv r1).mpr (b1 v e),List.mem_map.mpr ⟨v 2,(nv r2).mpr (b2 v e),rfl⟩⟩,(kZ (p:=(v 1,v 2)) pos l0).mpr ⟨v 0,rfl,k⟩⟩
 have le:=length_le_of_subset h.1 sub
 have l2:=pR (N:=m) (n:=n) ((dJ R1).flatMap λy=>(dJ R2).map λz=>(y,z))
 have l3:((dJ R1).flatMap λy=>(dJ R2).map λz=>(y,z)).length=(2*R1+1).toNat*(2*R2+1).toNat:=by
  rw[List.length_flatMap]
  simp only[List.length_map,qC,List.map_const']
  rw[List.sum_replicate_nat]
 omega
end
noncomputable section
structure Gr(m:List (List Int)):Prop where
 e0:0<ent m 0 0
 e1:0<ent m 1 1
 e2:0<ent m 2 2
 D0:0<aA m
 p0:0<=fV m 0 0/\fV m 0 0<=6900
 p1:0<=fV m 1 1/\fV m 1 1<=3680
 p2:0<=fV m 2 2/\fV m 2 2<=480
theorem DJ{m:List (List Int)}(ev:cg m)(bT:cz m)(ab:bU m=true)(hB:∀i j,i<3->j<3->(ent m i j).natAbs<=230)(f0:ent m 0 0<=16)(f1:ent m 1 1<=30):Gr m:=by
 obtain⟨RH,Qo,Qp⟩:=ev.sym
 have D0:=(gk ab).2.2
 have Po:=gm (dQ ev bT) ab
 have u0:av m (λi=>if i=0 then 1 else 0) (λi=>if i=0 then 1 else 0)=ent m 0 0:=by rw[aX];simp
 have u1:av m (λi=>if i=1 then 1 else 0) (λi=>if i=1 then 1 else 0)=ent m 1 1:=by rw[aX];simp
 have u2:av m (λi=>if i=2 then 1 else 0) (λi=>if i=2 then 1 else 0)=ent m 2 2:=by rw[aX];simp
 have q0:0<ent m 0 0:=by rw[<-u0];exact Po _ (by simp)
 have q1:0<ent m 1 1:=by rw[<-u1];exact Po _ (by simp)
 have q2:0<ent m 2 2:=by rw[<-u2];exact Po _ (by simp)
 have r0:=kc ev bT ab (λi=>if i=0 then 1 else 0) (i:=0) (by decide)
 have r1:=kc ev bT ab (λi=>if i=1 then 1 else 0) (i:=1) (by decide)
 have r2:=kc ev bT ab (λi=>if i=2 then 1 else 0) (i:=2) (by decide)
 have g:∀{a b:Int},aA m*(1*1)<=a*b->0<b->0<=a:=λ {a b} h hb=>by
  refine Classical.byContradiction λc=> ?_
  have:=Int.mul_nonneg (show 0<= -a by omega) (Int.le_of_lt hb)
  rw[Int.neg_mul]at this
  omega
 have Cn:=hB 2 2 (by decide) (by decide)
 have m0:ent m 1 1*ent m 2 2<=30*230:=Int.mul_le_mul f1 (by omega) (by omega) (by decide)
 have m1:ent m 2 2*ent m 0 0<=230*16:=Int.mul_le_mul (by omega) f0 (by omega) (by decide)
 have m2:ent m 0 0*ent m 1 1<=16*30:=Int.mul_le_mul f0 f1 (by omega) (by decide)
 refine⟨q0,q1,q2,D0,⟨g (by simpa [u0]using r0) (u0▸q0),?_⟩,⟨g (by simpa [u1]using r1) (u1▸q1),?_⟩,⟨g (by simpa [u2]using r2) (u2▸q2),?_⟩⟩
 ·show ent m 1 1*ent m 2 2-ent m 1 2*ent m 2 1<=_
  rw[Qp];have:=bf (ent m 1 2);omega
 ·show ent m 2 2*ent m 0 0-ent m 2 0*ent m 0 2<=_
  rw[Qo];have:=bf (ent m 0 2);omega
 ·show ent m 0 0*ent m 1 1-ent m 0 1*ent m 1 0<=_
  rw[RH];have:=bf (ent m 0 1);omega
theorem qD{m:List (List Int)}(ev:cg m)(bT:cz m)(ab:bU m=true){n:Int}{v:Nat->Int}(e:bK m v=n){i:Nat}(hi:i<3):aA m*(v i*v i)<=2*n*fV m i i:=by
 have k:=kc ev bT ab v hi
 have pe:=d8 ev v
 have:aQ m v=2*n:=by show av m v v=_;rw[pe,e]
 rw[this]at k
 rw[Int.mul_comm (2*n)]
 exact k
theorem vW{m:List (List Int)}(D0:0<aA m){n p R x:Int}(h:aA m*(x*x)<=2*n*p)(R0:0<=R)(r1:R*R<=2*n*p/aA m)(r2:2*n*p/aA m<(R+1)*(R+1)): -R<=x/\x<=R:=
 (rV R0 r1 r2).mp ((Int.le_ediv_iff_mul_le D0).mpr (by rw[Int.mul_comm];exact h))
theorem rm{m:List (List Int)}(D0:0<aA m){n p R B:Int}(n0:0<=n)(n6:n<=600)(p0:0<=p)(hp:1200*p<B*B)(B0:0<=B)(r1:R*R<=2*n*p/aA m):R<B:=by
 have h1:2*n*p<=1200*p:=Int.mul_le_mul_of_nonneg_right (by omega) p0
 have h0:0<=2*n*p:=Int.mul_nonneg (by omega) p0
 have h2:2*n*p/aA m<=2*n*p:=Int.ediv_le_self _ h0
 refine Classical.byContradiction λc=> ?_
 have:B*B<=R*R:=Int.mul_le_mul (by omega) (by omega) B0 (by omega)
 omega
theorem DK{m:List (List Int)}(D0:0<aA m){n p x:Int}{B:Nat}(n0:0<=n)(n6:n<=600)(p0:0<=p)(h:aA m*(x*x)<=2*n*p)(hp:1200*p<((B:Int)+1)*((B:Int)+1)): -(B:Int)<=x/\x<=B:=by
 have h1:2*n*p<=1200*p:=Int.mul_le_mul_of_nonneg_right (by omega) p0
 have h2:x*x<=aA m*(x*x):=by
  have:=Int.mul_le_mul_of_nonneg_right (show(1:Int)<=aA m by omega) (bf x)
  omega
 have key:x.natAbs<=B:=by
  refine Classical.byContradiction λc=> ?_
  have:(B+1)*(B+1)<=x.natAbs*x.natAbs:=Nat.mul_le_mul (by omega) (by omega)
  have e:=Int.natAbs_mul_self (a:=x)
  have:((B:Int)+1)*((B:Int)+1)<=x*x:=by
   rw[<-e]
   exact_mod_cast this
  omega
 omega
theorem IT{x:Int}{B:Nat}(h:x.natAbs<=B)(hB:B<2^64): -(2^64)<x/\x<2^64:=by omega
theorem zf{m:List (List Int)}(hB:∀i j,i<3->j<3->(ent m i j).natAbs<=230){x y:Int}(bx:x.natAbs<=2880)(bY:y.natAbs<=2880):(nB m x y).natAbs<=2000000:=by
 have k6:=iB (hB 0 2 (by decide) (by decide)) bx
 have k7:=iB (hB 1 2 (by decide) (by decide)) bY
 unfold nB
 omega
theorem Gs{m:List (List Int)}(hB:∀i j,i<3->j<3->(ent m i j).natAbs<=230){x y:Int}(bx:x.natAbs<=2880)(bY:y.natAbs<=2880):(JE m x y).natAbs<=6000000000:=by
 have k2:=iB (iB (hB 0 0 (by decide) (by decide)) bx) bx
 have k4:=iB (iB (hB 1 1 (by decide) (by decide)) bY) bY
 have k5:=iB (iB (hB 0 1 (by decide) (by decide)) bx) bY
 unfold JE
 omega
theorem Gu{m:List (List Int)}(hB:∀i j,i<3->j<3->(ent m i j).natAbs<=230){x y n:Int}(bx:x.natAbs<=2880)(bY:y.natAbs<=2880)(n0:0<=n)(n6:n<=600):(rX m n x y).natAbs<10^14:=by
 have nm:=zf hB bx bY
 have no:=Gs hB bx bY
 have h1:=iB nm nm
 have Cn:=hB 2 2 (by decide) (by decide)
 have h2:=iB (show(2*ent m 2 2).natAbs<=460 by omega) (show(JE m x y-n).natAbs<=6000001000 by omega)
 unfold rX
 omega
theorem IU{K:PySem.W.Frag}{H:Hp}{t t':Addr}{bs bs':List Addr}{m m':List (List Int)}{Q:VK}(h:Tab H t bs m)(h':Tab H t' bs' m')(q:Q (.bl (!decide (m=m'))) H):HN K true (.ref t) (.ref t') H Q:=
 ⟨zY m,zY m',BQ h,BQ h',nN _,nN _,by rw[HQ];exact q⟩
theorem DL{m:List (List Int)}(ev:cg m)(bT:cz m)(ab:bU m=true){L:List (List Int)}(h:dZ m 0 L):L=[[0,0,0]]:=by
 have Po:=gm (dQ ev bT) ab
 have z0:bK m (λ_=>0)=0:=by
  unfold bK
  rw[aX]
  simp
 have all:∀r∈L,r=[0,0,0]:=λr hr=>by
  obtain⟨v,rfl⟩:=h.2.1 r hr
  have e:=(h.2.2 v).mp hr
  have pe:=d8 ev v
  rw[e]at pe
  have:v 0=0/\v 1=0/\v 2=0:=Classical.byContradiction λc=>by
   have:=Po v c
   omega
  rw[this.1,this.2.1,this.2.2]
 have mem: [0,0,0]∈L:=(h.2.2 λ_=>0).mpr z0
 match L,h.1,all,mem with
 | [],_,_,mem=>cases mem
 | [r],_,all,_=>rw[all r List.mem_cons_self]
 |r::s::L,nd,all,_=>
  have e:r=s:=(all r List.mem_cons_self).trans (all s (List.mem_cons_of_mem _ List.mem_cons_self)).symm
  exact absurd (e▸List.mem_cons_self) (List.nodup_cons.mp nd).1
theorem Gv{a b c p q r:Int}{B:Nat}(ha:a.natAbs<=B)(hb:b.natAbs<=B)(hc:c.natAbs<=B)(hp:p.natAbs<=B)(hq:q.natAbs<=B)(hr:r.natAbs<=B):∀i j,i<3->j<3->(ent (fW a b c p q r) i j).natAbs<=B:=λi j hi hj=>by
 unfold fW
 rw[bC _ hi hj]
 rcases bE hi with rfl|rfl|rfl<;>rcases bE hj with rfl|rfl|rfl<;>assumption
theorem zg{m:List (List Int)}{n:Int}{L L':List (List Int)}(h:dZ m n L)(h':dZ m n L'):L.length=L'.length:=by
 have sub:∀{A B:List (List Int)},dZ m n A->dZ m n B-> ∀r∈A,r∈B:=λ {A B} ha hb r hr=>by
  obtain⟨v,rfl⟩:=ha.2.1 r hr
  exact(hb.2.2 v).mpr ((ha.2.2 v).mp hr)
 exact Nat.le_antisymm (length_le_of_subset h.1 (sub h h')) (length_le_of_subset h'.1 (sub h' h))
theorem tU{α:Type} [DecidableEq α](f:α->α):∀(k:Nat) (L:List α),L.length<=k->L.Nodup->(∀r∈L,f r∈L/\f r≠r/\f (f r)=r) ->L.length%2=0
 |0,L,hk,_,_=>by
  have:L.length=0:=by omega
  rw[this]
 |k+1,[],_,_,_=>rfl
 |k+1,r::L,hk,nd,h=>by
  obtain⟨n1,n2⟩:=List.nodup_cons.mp nd
  obtain⟨m1,ne,inv⟩:=h r List.mem_cons_self
  have mL:f r∈L:=by
   rcases List.mem_cons.mp m1 with z|z
   ·exact absurd z ne
   ·exact z
  have le:=List.length_erase_of_mem mL
  have lp:=List.length_pos_of_mem mL
  have ih:=tU f k (L.erase (f r)) (by rw[List.length_cons]at hk;omega) (n2.erase _) λx hx=>by
   have xL:=List.mem_of_mem_erase hx
   have Uo:x≠f r:=λz=>by
    rw[z]at hx
    exact(List.Nodup.mem_erase_iff n2).mp hx|>.1 rfl
   obtain⟨a1,a2,a3⟩:=h x (List.mem_cons_of_mem _ xL)
   refine⟨(List.mem_erase_of_ne λz=> ?_).mpr ?_,a2,a3⟩
   ·have:=congrArg f z
    rw[a3,inv]at this
    rw[this]at xL
    exact n1 xL
   ·rcases List.mem_cons.mp a1 with z|z
    ·have:=congrArg f z
     rw[a3]at this
     exact absurd this Uo
    ·exact z
  rw[List.length_cons]
  omega
theorem DM{m:List (List Int)}{n:Int}(n0:n≠0){L:List (List Int)}(h:dZ m n L):L.length%2=0:=by
 have neg:∀v:Nat->Int,bK m (λi=> -v i)=bK m v:=λv=>by
  unfold bK
  rw[aX,aX]
  congr 1
  grind
 refine tU (λr=>r.map λx=> -x) L.length L (Nat.le_refl _) h.1 λr hr=> ?_
 obtain⟨v,rfl⟩:=h.2.1 r hr
 have e:=(h.2.2 v).mp hr
 refine⟨(h.2.2 λi=> -v i).mpr ((neg v).trans e),λz=> ?_,by simp⟩
 simp only[List.map_cons,List.map_nil,List.cons.injEq,and_true]at z
 obtain⟨a,b,c⟩:=z
 have:bK m v=0:=by
  unfold bK
  rw[aX,show v 0=0 by omega,show v 1=0 by omega,show v 2=0 by omega]
  simp
 omega
theorem gN{i:Nat}{v:V}{σ:St}{H:Hp}{f bk ct:St->Hp->Prop}{rt:VK}(h:f (σ.set i (some v)) H):cY i v σ H (Ends.mk f rt bk ct).nx:=h
end
end L2
set_option maxHeartbeats 1000000
namespace CJ
open PySem L2
section
variable{P:Program}{w:World}{K:PySem.W.Frag}{mg:Str->Option Value}{base:Heap}
inductive ou (vs:List V) (H:Hp) (Q:VK) (E:XK):Prop
 |mk (t:Addr) (bs:List Addr) (N:List (List Int)) (n:Int) (_:vs=[.ref t,.int n]) (_:Tab H t bs N) (_:cz N) (_:cg N) (_:Bd 700 N) (_:mj N) (_:aA N<=401) (_:0<=n) (_:n<=600) (_:∀(r:Addr) (as:List Addr) (H':Hp),ay H H'->H' r=some (.lst (as.map V.ref)) ->fj H' as->dZ N n (rws H' as) ->as.length<=15000->Q (.ref r) H')
theorem xw(F:fE K mg "near_rows" mz gn)(fy:mg "sorted"=none)(tV:dg P w K mg base cO 4 "slices" mw yZ)(oj:dg P w K mg base cO 4 "root" qo AM):dg P w K mg base cO 5 "near_rows" gn ou:=by
 refine F.ok cV (λvs H Q E h=> ?_) (λf cdv A outer s H vs Q E hr h=> ?_)
 ·obtain⟨t,bs,N,n,rfl,hT,bT,ev,bN,NT,dD,n0,n6,q⟩:=h
  rfl
 obtain⟨t,bs,N,n,rfl,hT,bT,ev,bN,NT,dD,n0,n6,q⟩:=h
 have hu:=hr.units
 refine⟨_,(lO (@ak _ _ _ _ _ (aC (i:=2) cV.nd rfl (Or.inl rfl) (aE aq (aE aq (pv 0) ah (λ_ _=>rfl)) ah (λ_ _=>rfl)))
  (@ak _ _ _ _ _ (aC (i:=3) cV.nd rfl (Or.inl rfl) (cZ aj))
  (@ak _ _ _ _ _ (jH PassesOwn.never rfl (gz (aL tV hr rfl aK (af (pv 0) (af (pv 1) aj)))) (sf rfl (aN (aP (i:=4) cV.nd rfl (Or.inl rfl)) (aN (aP (i:=5) cV.nd rfl (Or.inl rfl)) (aN (aP (i:=6) cV.nd rfl (Or.inl rfl)) (aN (aP (i:=7) cV.nd rfl (Or.inl rfl)) fF))))) (lO (@ak _ _ _ _ _ (aC (i:=8) cV.nd rfl (Or.inl rfl) (aL oj hr rfl aK (af (pv 7) aj)))
  (@aJ _ _ _ (dM (bJ oS (ai aB (pv 8) (pv 8)) (pv 7) (bL _)) (@ak _ _ _ _ _ (aC (i:=9) cV.nd rfl (Or.inl rfl) (Er (bJ nC (pv 8) ah (bL _)) (cZ (af (pv 8) (af (Bx we (pv 8)) aj))) (cZ (af ah aj))))
  (@aJ _ _ _ (jH PassesOwn.never rfl (gz (pv 9)) (aP (i:=10) cV.nd rfl (Or.inl rfl)) (cU (dM (bJ oS (ai cu (ai bQ (pv 10) (pv 6)) (pv 2)) ah (bL _)) (@aJ _ _ _ (kC (EB PySem.F.plainAttrs_list PySem.F.slot_list_append PySem.F.type_list_append mX (pv 3) (af (cZ (af (ai bI (ai bQ (pv 10) (pv 6)) (pv 2)) (af (pv 4) (af (pv 5) aj)))) aj)))) eG))))) eG)))))
  (@aJ _ _ _ (aY (cR (l6 (eT.wY hr)) rfl fy PyProof.Rows.boot_sorted (af (pv 3) aj)))))))),?_⟩
 obtain⟨c0,c1,c2,rfl,x0,x1,x2⟩:=tG hT bT
 obtain⟨fl,D0,a2,Ln,Cn,Mc,f8,fa⟩:=gi NT dD
 refine⟨_,rfl,t,_,_,_,rfl,rfl,aT.of hT.1,rfl,c0,_,_,_,rfl,rfl,aT.of x0,rfl,?_⟩
 refine⟨by decide,λD hD=> ?_⟩
 have s0:ay H (upd H D (.lst [])):=ay.up hD
 refine⟨_,rfl,_,rfl,t,_,N,n,rfl,hT.same s0,bT,ev,bN,NT,dD,n0,n6,λu us L H1 s1 eu tu nd NJ UZ=> ?_⟩
 have eD:H1 D=some (.lst []):=s1 _ _ au
 have l0:0<us.length:=by
  have h:((0:Int),(0:Int))∈L:=(NJ 0 0).mpr (by unfold jV;have:=Int.mul_nonneg n0 (show 0<=ent N 0 0 by omega);simp;rw[Int.mul_assoc];omega)
  rw[tu.length]
  exact List.length_pos_of_mem h
 have uD:u≠D:=λz=>by
  rw[z,eD]at eu
  cases eu
  exact Nat.lt_irrefl _ l0
 refine⟨u,rfl,⟨us,aT.of eu⟩,?_⟩
 refine sj (xs:=us) (λi σ H'=> ∃o4 o5 o6 o7 o8 o9 xx as,σ=[some (.ref t),some (.int n),some (.int (ent N 0 0)),some (.ref D),o4,o5,o6,o7,o8,o9,xx]/\SD D H1 H'/\H' D=some (.lst (as.map V.ref))/\fj H' as/\rws H' as=(L.take i).flatMap (eZ N n)) ⟨_,_,_,_,_,_,_,[],rfl,SD.refl,eD,λ_ h=>(nomatch h),rfl⟩ (λi σ H' hi hh=> ?_) (λi x σ H' hx hh=> ?_) (λσ H' hh=> ?_)
 ·obtain⟨o4,o5,o6,o7,o8,o9,xx,as,rfl,sD,DH,ok,er⟩:=hh
  exact aT.of (sD _ _ uD eu)
 ·obtain⟨o4,o5,o6,o7,o8,o9,xx,as,rfl,sD,DH,ok,er⟩:=hh
  obtain⟨a,p,rfl,hp,ea⟩:=(tu.sd eD sD).get hx
  have lp:0<=jV N n p.1 p.2:=(NJ _ _).mp (List.mem_of_getElem? hp)
  obtain⟨yb,zb,lb⟩:=tQ ev NT dD n0 n6 lp
  refine⟨a,_,rfl,uq.of ea,rfl,_,_,rfl,_,_,rfl,_,_,rfl,_,_,rfl,rfl,?_⟩
  obtain⟨w0,w1,w2⟩:=kr lp
  have wb:fZ (jV N n p.1 p.2)<=1000000000:=by
   refine Classical.byContradiction λc=> ?_
   have:1000000000*1000000000<=fZ (jV N n p.1 p.2)*fZ (jV N n p.1 p.2):=Int.mul_le_mul (by omega) (by omega) (by decide) (by omega)
   omega
  refine⟨_,rfl,_,rfl,lp,Nat.lt_of_le_of_lt (show(jV N n p.1 p.2).natAbs<=2640000 by omega) (by decide),λw h0 h1 h2=> ?_⟩
  obtain rfl:=nj h0 h1 h2
  generalize ew:fZ (jV N n p.1 p.2)=w at w0 w1 w2 wb h0 h1 h2 ⊢
  have wq:w.natAbs<2^4096:=RA (show w.natAbs<=10^30 by omega)
  refine⟨_,rfl,_,rfl,_,_,rfl,rfl,⟨wq,wq⟩,_,rfl,rfl,_,rfl,?_⟩
  have tk:(L.take (i+1)).flatMap (eZ N n)=(L.take i).flatMap (eZ N n)++eZ N n p:=by
   rw[List.take_add_one,hp]
   simp
  refine gS (λc=> ?_) (λc=> ?_)
  ·have c':w*w=jV N n p.1 p.2:=V.int.inj (of_decide_eq_true c)
   with_reducible apply zc (λv H2=> ∃S,v= .ref S/\H' S=none/\H2=upd H' S (.lst ((dO w).map V.int)))
   ·intro R hR
    refine⟨_,rfl,_,_,rfl,rfl,_,rfl,?_⟩
    refine gS (λc=> ?_) (λc=> ?_)
    ·have c2:0<w:=of_decide_eq_true c
     refine⟨_,rfl,_,rfl,_,rfl,(by show 2<=sizeLine;decide),λS hS=>hR _ _ ⟨S,rfl,hS,?_⟩⟩
     unfold dO
     rw[if_pos c2]
     rfl
    ·have c2:¬0<w:=λz=>c (decide_eq_true z)
     refine⟨by decide,λS hS=>hR _ _ ⟨S,rfl,hS,?_⟩⟩
     unfold dO
     rw[if_neg c2]
     rfl
   ·rintro _ _ ⟨S,rfl,hS,rfl⟩
    have Qq:S≠D:=λz=>by rw[z,DH]at hS;cases hS
    have sS:ay H' (upd H' S (.lst ((dO w).map V.int))):=ay.up hS
    obtain⟨Up,Uq⟩:=ok.same sS
    refine⟨_,rfl,S,rfl,⟨_,aT.of au⟩,?_⟩
    refine sj (xs:=(dO w).map V.int) (λj σ H2=> ∃xx as',σ=[some (.ref t),some (.int n),some (.int (ent N 0 0)),some (.ref D),some (.int p.1),some (.int p.2),some (.int (pT N p.1 p.2)),some (.int (jV N n p.1 p.2)),some (.int w),some (.ref S),xx]/\SD D (upd H' S (.lst ((dO w).map V.int))) H2/\H2 D=some (.lst (as'.map V.ref))/\fj H2 as'/\rws H2 as'=(L.take i).flatMap (eZ N n)++bZ N p ((dO w).take j)) ⟨_,as,rfl,SD.refl,sS _ _ DH,Up,by rw[Uq,er];simp[bZ]⟩ (λj σ H2 hj hh=> ?_) (λj x σ H2 hx hh=> ?_) (λσ H2 hh=> ?_)
    ·obtain⟨xx,as',rfl,Mf,JF,NO,Mh⟩:=hh
     exact aT.of (Mf _ _ Qq au)
    ·obtain⟨xx,as',rfl,Mf,JF,NO,Mh⟩:=hh
     obtain⟨k,rfl,hk⟩:∃k,x= .int k/\(dO w)[j]?=some k:=by
      rw[List.getElem?_map]at hx
      cases e:(dO w)[j]? with
      |none=>rw[e]at hx;cases hx
      |some k=>rw[e]at hx;cases hx;exact⟨k,rfl,rfl⟩
     have RJ:bZ N p ((dO w).take (j+1))=bZ N p ((dO w).take j)++bZ N p [k]:=by
      rw[List.take_add_one,hk]
      simp[bZ]
     refine⟨_,rfl,_,rfl,_,_,rfl,rfl,_,rfl,_,_,rfl,rfl,(by show 0<ent N 0 0;omega),rfl,_,rfl,?_⟩
     refine gS (λc3=> ?_) (λc3=> ?_)
     ·have c4:(k-pT N p.1 p.2)%ent N 0 0=0:=V.int.inj (of_decide_eq_true c3)
      refine⟨_,rfl,.inl ⟨rfl,_,aT.of JF⟩,?_⟩
      refine⟨_,rfl,_,rfl,_,_,rfl,rfl,_,rfl,_,_,rfl,rfl,⟨by omega,by omega⟩,_,rfl,_,rfl,(by show 3<=sizeLine;decide),λb hb=> ?_⟩
      have ll:as'.length<sizeLine:=by
       have e:as'.length=(rws H2 as').length:=(List.length_map _).symm
       have h1:=pR (N:=N) (n:=n) (L.take i)
       have h2:=pQ (N:=N) (p:=p) ((dO w).take j)
       have h3:=DI w
       rw[e,Mh,List.length_append]
       rw[List.length_take]at h1 h2
       show _<16777216
       omega
      have bD:b≠D:=λz=>by rw[z,JF]at hb;cases hb
      obtain⟨Qs,Qt⟩:=fj.push (o:= .lst (as'.map V.ref++ [V.ref b])) (x:=(k-pT N p.1 p.2)/ent N 0 0) (y:=p.1) (z:=p.2) NO JF hb bD
      refine⟨D,as'.map V.ref,.ref b,rfl,rfl,by rw[aG (λz=>bD z.symm)];exact JF,(by rw[List.length_map];exact ll),?_⟩
      refine⟨_,as'++ [b],rfl,(Mf.trans (SD.of (ay.up hb))).upd,?_,Qs,?_⟩
      ·rw[List.map_append]
       exact au
      ·rw[Qt,Mh,RJ,List.append_assoc]
       simp[bZ,c4]
     ·have c4:¬(k-pT N p.1 p.2)%ent N 0 0=0:=λz=>c3 (by rw[z];exact decide_eq_true rfl)
      refine⟨_,as',rfl,Mf,JF,NO,?_⟩
      rw[RJ,Mh]
      simp[bZ,c4]
    ·obtain⟨xx,as',rfl,Mf,JF,NO,Mh⟩:=hh
     refine⟨_,_,_,_,_,_,_,as',rfl,(sD.trans (SD.of sS)).trans Mf,JF,NO,?_⟩
     rw[Mh,tk,List.length_map,List.take_length]
     congr 1
     unfold eZ
     rw[ew,if_pos c']
  ·have c':¬w*w=jV N n p.1 p.2:=λz=>c (by rw[z];exact decide_eq_true rfl)
   refine⟨_,_,_,_,_,_,_,as,rfl,sD,DH,ok,?_⟩
   rw[tk,er]
   have:eZ N n p=[]:=by
    unfold eZ
    rw[ew,if_neg c']
   rw[this,List.append_nil]
 ·obtain⟨o4,o5,o6,o7,o8,o9,xx,as,rfl,sD,DH,ok,er⟩:=hh
  have el:L.take us.length=L:=by rw[tu.length,List.take_length]
  rw[el]at er
  have R0:=uH ev NT.pos nd NJ
  rw[<-er]at R0
  have sm:=R0.small NT dD n0 n6
  have al:as.length<=15000:=by
   have e:as.length=(rws H' as).length:=(List.length_map _).symm
   have h1:=pR (N:=N) (n:=n) L
   rw[e,er]
   omega
  refine⟨_,rfl,mG (aT.of DH) ok (λb hb i hi=>Nat.lt_of_lt_of_le ((sm _ (rW hb)).2 i hi) (by decide)) λbs pb so l hl=> ?_⟩
  have Ej:fj H' bs:=λb hb=>ok b (pb.mem_iff.mp hb)
  obtain⟨Lp,Hj⟩:=Ej.same (ay.up (o:= .lst (bs.map V.ref)) hl)
  refine q l bs _ ((λa o e=>(sD.trans (SD.of (ay.up hl))) a o (λz=>by rw[z,hD]at e;cases e) (s1 _ _ (s0 _ _ e)))) au Lp ?_ (by rw[pb.length_eq];exact al)
  rw[Hj]
  exact R0.perm (tR pb)
inductive Gw (T0:Addr) (vs:List V) (H:Hp) (Q:VK) (E:XK):Prop
 |mk (a:Addr) (x:Nat->Int) (t:Addr) (bs:List Addr) (B:List (List Int)) (_:vs=[.ref a,.ref t]) (_:bg H a x) (_:Tab H t bs B) (_:cz B) (_:∀i,i<3->(x i).natAbs<2^1000) (_:Bd 1000 B) (_:H T0=some (dG T0)) (_:∀r H',ay H H'->H r=none->bg H' r (dh x B) ->Q (.ref r) H')
theorem zh{cB:Addr}(F:nG K mg "by_basis" nX jo cB)(bm:BM mg base)(pL:mg "sum"=none)(aR:mg "range"=none):dg P w K mg base cO 1 "by_basis" jo (Gw cB):=by
 refine F.ok yN (λvs H Q E h=> ?_) (λf cdv A outer s H vs Q E cd hr h=> ?_)
 ·obtain⟨a,x,t,bs,B,rfl,hx,hT,bT,bx,bB,hP,q⟩:=h
  rfl
 obtain⟨a,x,t,bs,B,rfl,hx,hT,bT,bx,bB,hP,q⟩:=h
 have hu:=hr.units
 refine⟨_,(cU (aY (gT (N2:=["row","basis"]) (te:=(vm 1 cB (qU (dI (tC (.int 3)) jI)) (cY 0) (gQ (rI jg λi j=> .int (i*j)) (gQ (fU K) (bH 2) (bH 0)) (gQ (fU K) (gQ (fU K) (bH 3) (bH 0)) (bH 1))))) rfl (dz rfl aR (af ah aj)) (by kernel_rfl) rfl (λ_ _ _=>by exact iV (BO (N2:=["j","row","basis"]) (te:=(gQ (rI jg λi j=> .int (i*j)) (gQ (fU K) (bH 2) (bH 0)) (gQ (fU K) (gQ (fU K) (bH 3) (bH 0)) (bH 1)))) rfl (eT.depth hr) cd bm rfl pL (dz rfl aR (af ah aj)) (by kernel_rfl) (λ_ _ _ _=>by exact iV (ai aB (aE aq (pv 2) (pv 0) (λ_ _=>rfl)) (aE aq (aE aq (pv 3) (pv 0) (λ_ _=>rfl)) (pv 1) (λ_ _=>rfl))))))))),?_⟩
 refine⟨3,rfl,by decide,by decide,λD hD=>kJ (e9 (n:=3)) rfl hD (λj=>dh x B j) (λj y hj Ge H2 Q2 s2 k2=> ?_) (λH2 s2 e2=>q D H2 s2 hD e2)⟩
 obtain⟨_,rfl⟩:=d7 Ge
 refine⟨3,rfl,by decide,by decide,Fd (e9 (n:=3)) (s2 _ _ hP) (λk=>x k*ent B k j) (λk y PV H3 Q3 s3 k3=> ?_) (λH3 s3=> ?_)⟩
 ·obtain⟨hk,rfl⟩:=d7 PV
  have sm:=s2.trans s3
  obtain⟨b',PX,yh,EL,PY⟩:=mZ (hT.same sm) bT hk hj
  exact⟨_,rfl,_,rfl,a,_,_,_,rfl,rfl,aT.of (hx.same sm),yq x hk,_,rfl,_,rfl,t,_,_,_,rfl,rfl,aT.of (hT.same sm).1,yh,_,rfl,b',_,_,_,rfl,rfl,aT.of EL,PY,_,_,rfl,rfl,⟨aH (bx k hk) (by decide),bB.mono (by decide) k j hk hj⟩,k3 H3 (ay.refl _)⟩
 ·have:=k2 H3 s3
  rw[show preSum (λk=>x k*ent B k j) (kI 3).length=_ from Nc _]
  exact this
inductive tW (vs:List V) (H:Hp) (Q:VK) (E:XK):Prop
 |mk (n g:Int) (_:vs=[.int n,.int g]) (_:0<=n) (_:n<=g) (_:Q .iR H)
theorem qE(F:fE K mg "refuse_others" iJ d9)(g7:dg P w K mg base cO 1 "is_whole" gY m8):dg P w K mg base cO 2 "refuse_others" d9 tW:=by
 refine F.ok qp (λvs H Q E h=> ?_) (λf cdv A outer s H vs Q E hr h=> ?_)
 ·obtain⟨n,g,rfl,n0,ng,q⟩:=h
  rfl
 obtain⟨n,g,rfl,n0,ng,q⟩:=h
 have hu:=hr.units
 refine⟨_,(cU (dM (PW.pt (oQ (pV (kB (aL g7 hr rfl aK (af (pv 0) aj)))) (oQ (bJ Jg (pv 0) ah (bL _)) (r8 (bJ nC (pv 0) (pv 1) (bL _)))))) (@aJ _ _ _ se) eG)),?_⟩
 refine⟨_,rfl,n,rfl,_,rfl,wD ?_⟩
 refine⟨_,rfl,_,_,rfl,rfl,_,rfl,gS (λc=>absurd (of_decide_eq_true c) (by omega)) λ_=> ?_⟩
 exact⟨_,rfl,_,rfl,_,_,rfl,rfl,_,rfl,gS (λc=>absurd (of_decide_eq_true c) (by omega)) λ_=>q⟩
inductive zj (T1 T2 T3 T4 T5 T6 T7:Addr) (vs:List V) (H:Hp) (Q:VK) (E:XK):Prop
 |mk (t:Addr) (bs:List Addr) (m:List (List Int)) (n:Int) (_:vs=[.ref t,.int n]) (_:Tab H t bs m) (_:cz m) (_:Bd 440 m) (_:cg m) (_:bU m=true) (_:aA m/2<=200) (_:0<=n) (_:n<=600) (_:H T1=some (dG T1)) (_:H T2=some (dG T2)) (_:H T3=some (dG T3)) (_:H T4=some (dG T4)) (_:H T5=some (dG T5)) (_:H T6=some .xY) (_:H T7=some (dG T7)) (_:∀(r:Addr) (as:List Addr) (H':Hp),ay H H'->H r=none->(∀b∈as,H b=none) ->H' r=some (.lst (as.map V.ref)) ->fj H' as->r∉as->dZ m n (rws H' as) ->(∀x∈rws H' as,tP x) ->(rws H' as).Pairwise (λr s=>Lo r<=Lo s) ->as.length<=15000->Q (.ref r) H')
theorem AO{bh aV aD br aF aS cB:Addr}(F:fE K mg "rows_of" qt kq)(fy:mg "sorted"=none){eN:_}(dR:mg "GREATEST_WORTH"=some (Value.int 600 eN))(qF:dg P w K mg base cO 10 "half" qk (AH bh aV aD))(ef:dg P w K mg base cO 10 "refuse_others" d9 tW)(qG:dg P w K mg base cO 10 "near" qm (AK br aF aS))(gr:dg P w K mg base cO 10 "near_rows" gn ou)(ow:dg P w K mg base cO 10 "by_basis" jo (Gw cB)):dg P w K mg base cO 11 "rows_of" kq (zj bh aV aD br aF aS cB):=by
 refine F.ok nY (λvs H Q E h=> ?_) (λf cdv A outer s H vs Q E hr h=> ?_)
 ·obtain⟨t,bs,m,n,rfl,hT,bT,hB,ev,ab,hd,n0,n6,h1,h2,h3,h4,h5,h6,h7,q⟩:=h
  rfl
 obtain⟨t,bs,m,n,rfl,hT,bT,hB,ev,ab,hd,n0,n6,h1,h2,h3,h4,h5,h6,h7,q⟩:=h
 have hu:=hr.units
 refine⟨_,(lO (@ak _ _ _ _ _ (kC (aL qF hr rfl aK (af (pv 0) aj)))
  (@ak _ _ _ _ _ (kC (aL ef hr rfl aK (af (pv 1) (af (v8 (v:= .int 600) rfl dR ⟨_,rfl⟩) aj))))
  (@ak _ _ _ _ _ (kD (aL qG hr rfl aK (af (pv 0) aj)) (sf rfl (aN (aP (i:=2) nY.nd rfl (Or.inl rfl)) (aN (aP (i:=3) nY.nd rfl (Or.inr rfl)) fF))))
  (@aJ _ _ _ (aY (cR (l6 (eT.wY hr)) rfl fy PyProof.Rows.boot_sorted (af (gT (N2:=["form","n","table","basis"]) (te:=(lJ (Gw cB) [] E0 (dI (bH 0) (dI (bH 4) jI)))) rfl (gz (aL gr hr rfl aK (af (pv 2) (af (pv 1) aj)))) (by kernel_rfl) rfl (λ_ _ _=>by exact iV (aL ow hr rfl aK (af (pv 0) (af (pv 4) aj))))) aj)))))))),?_⟩
 refine⟨_,rfl,t,bs,m,rfl,hT,bT,hB,ev,ab,hd,h1,h2,h3,trivial,λH1 s1=> ?_⟩
 refine⟨_,rfl,n,600,rfl,n0,n6,?_⟩
 have D4:aA m<=401:=by omega
 have D0:0<aA m:=by
  unfold bU at ab
  simp only[Bool.and_eq_true,decide_eq_true_eq]at ab
  omega
 refine⟨_,rfl,t,bs,m,rfl,hT.same s1,bT,hB,ev,ab,Nat.lt_of_le_of_lt (show(aA m).natAbs<=401 by omega) (by decide),s1 _ _ h4,s1 _ _ h5,s1 _ _ h6,λu us r rs B P H2 NT un dt Cd bB s2 eP Tu Tr=> ?_⟩
 refine⟨P,_,rfl,uq.of eP,rfl,_,_,rfl,_,_,rfl,rfl,?_⟩
 have NB:=Cp NT (by rw[dt];exact D4)
 refine⟨_,rfl,_,rfl,u,us,fH m B,n,rfl,Tu,NT.Cd,NT.ev,NB,NT,(by rw[dt];exact D4),n0,n6,λp as H3 s3 ep ok R al=> ?_⟩
 have sm:=R.small NT (by rw[dt];exact D4) n0 n6
 have x6:ay H H3:=s1.trans (s2.trans s3)
 refine⟨p,rfl,⟨_,aT.of ep⟩,λD hD=>FO (jA (aT.of ep)) (by rw[List.length_map];show as.length<=16777216;omega) hD (λj v H'=> ∃a b,as[j]?=some a/\v= .ref b/\b≠D/\H3 b=none/\bg H' b (dh (dw (iX H3 a)) B)) ?_ ?_ ?_⟩
 ·rintro j v G G' ⟨a,b,e1,rfl,nb,fb,hb⟩ k
  exact⟨a,b,e1,rfl,nb,fb,k _ _ nb hb⟩
 ·intro j x ex H' Q' sG eo k
  rw[List.getElem?_map]at ex
  obtain⟨a,ea,rfl⟩:=Option.map_eq_some_iff.mp ex
  have ha:=List.mem_of_getElem? ea
  have sr:=sm _ (rW ha)
  exact⟨_,rfl,_,rfl,a,_,r,rs,B,rfl,sG _ _ (ok a ha).1,(Tr.same s3).same sG,Cd,(λi hi=>Nat.lt_of_lt_of_le (sr.2 i hi) (Nat.pow_le_pow_right (by decide) (by decide))),bB.mono (by decide),sG _ _ (x6 _ _ h7),λb H5 s5 fb hb=>k _ H5 s5 ⟨a,b,ea,rfl,(λz=>by obtain⟨o,eo⟩:=eo;rw[z,eo]at fb;cases fb),sG.none fb,hb⟩⟩
 ·intro vs H' sG hl items eD
  obtain⟨cs,rfl,k1,k2,k3⟩:=vU (by rw[hl,List.length_map]) items
  have R2:=om un R
  rw[<-k3]at R2
  have RK:∀x∈rws H' cs,tP x:=λx hx=>by
   rw[k3]at hx
   obtain⟨y,hy,rfl⟩:=List.mem_map.mp hx
   exact AN bB (sm y hy).2
  refine mG (aT.of eD) k2 (λb hb=>RK _ (rW hb)) λbs' pb so l hl'=> ?_
  have Ej:fj H' bs':=λb hb=>k2 b (pb.mem_iff.mp hb)
  have sl:=ay.up (o:= .lst (bs'.map V.ref)) hl'
  obtain⟨Lp,Hj⟩:=Ej.same sl
  have pr:=tR (H:=H') pb
  have Ur:H3 l=none:=sG.none hl'
  refine q l bs' _ (x6.trans (sG.trans sl)) (x6.none Ur) (λb hb=>x6.none (k1 b (pb.mem_iff.mp hb)).2) au Lp (λz=> ?_) ?_ (λx hx=> ?_) ?_ ?_
  ·have:=(Ej l z).1
   rw[hl']at this
   cases this
  ·rw[Hj];exact R2.perm pr
  ·rw[Hj]at hx;exact RK x (pr.mem_iff.mp hx)
  ·rw[Hj];exact so
  ·have e:bs'.length=cs.length:=pb.length_eq
   have e2:cs.length=as.length:=by
    have:=congrArg List.length k3
    simpa [rws]using this
   omega
inductive Gx (T1 T2 T3 T4 T5 T6:Addr) (vs:List V) (H:Hp) (Q:VK) (E:XK):Prop
 |mk (t:Addr) (bs:List Addr) (m:List (List Int)) (n:Int) (_:vs=[.ref t,.int n]) (_:Tab H t bs m) (_:cz m) (_:Bd 440 m) (_:cg m) (_:bU m=true) (_:aA m/2<=200) (_:0<=n) (_:n<=600) (_:H T1=some (dG T1)) (_:H T2=some (dG T2)) (_:H T3=some (dG T3)) (_:H T4=some (dG T4)) (_:H T5=some (dG T5)) (_:H T6=some .xY) (_:∀(L:List (List Int)) (H':Hp),ay H H'->dZ m n L->Q (.int (L.length:Int)) H')
theorem zk{bh aV aD br aF aS:Addr}(F:fE K mg "how_many" nZ jq)(iz:mg "len"=none){eN:_}(dR:mg "GREATEST_WORTH"=some (Value.int 600 eN))(qF:dg P w K mg base cO 10 "half" qk (AH bh aV aD))(ef:dg P w K mg base cO 10 "refuse_others" d9 tW)(qG:dg P w K mg base cO 10 "near" qm (AK br aF aS))(gr:dg P w K mg base cO 10 "near_rows" gn ou):dg P w K mg base cO 11 "how_many" jq (Gx bh aV aD br aF aS):=by
 refine F.ok yO (λvs H Q E h=> ?_) (λf cdv A outer s H vs Q E hr h=> ?_)
 ·obtain⟨t,bs,m,n,rfl,hT,bT,hB,ev,ab,hd,n0,n6,h1,h2,h3,h4,h5,h6,q⟩:=h
  rfl
 obtain⟨t,bs,m,n,rfl,hT,bT,hB,ev,ab,hd,n0,n6,h1,h2,h3,h4,h5,h6,q⟩:=h
 have hu:=hr.units
 refine⟨_,(lO (@ak _ _ _ _ _ (kC (aL qF hr rfl aK (af (pv 0) aj)))
  (@ak _ _ _ _ _ (kC (aL ef hr rfl aK (af (pv 1) (af (v8 (v:= .int 600) rfl dR ⟨_,rfl⟩) aj))))
  (@aJ _ _ _ (aY (cR eV rfl iz PySem.boot_len (af (aL gr hr rfl aK (af (aE Kq (aL qG hr rfl aK (af (pv 0) aj)) ah (λ_ _=>rfl)) (af (pv 1) aj))) aj))))))),?_⟩
 refine⟨_,rfl,t,bs,m,rfl,hT,bT,hB,ev,ab,hd,h1,h2,h3,trivial,λH1 s1=> ?_⟩
 refine⟨_,rfl,n,600,rfl,n0,n6,?_⟩
 have D4:aA m<=401:=by omega
 have D0:=(gk ab).2.2
 refine⟨_,rfl,t,bs,m,rfl,hT.same s1,bT,hB,ev,ab,Nat.lt_of_le_of_lt (show(aA m).natAbs<=401 by omega) (by decide),s1 _ _ h4,s1 _ _ h5,s1 _ _ h6,λu us r rs B P H2 NT un dt Cd bB s2 eP Tu Tr=> ?_⟩
 have NB:=Cp NT (by rw[dt];exact D4)
 refine⟨P,_,_,_,rfl,rfl,uq.of eP,rfl,_,rfl,u,us,fH m B,n,rfl,Tu,NT.Cd,NT.ev,NB,NT,(by rw[dt];exact D4),n0,n6,λp as H3 s3 ep ok R al=> ?_⟩
 refine⟨p,_,rfl,.inl (aT.of ep),?_⟩
 have e:(as.map V.ref).length=((rws H3 as).map (uI B)).length:=by simp[rws]
 rw[e]
 exact q _ H3 (s1.trans (s2.trans s3)) (om un R)
inductive xy (K:PySem.W.Frag) (vs:List V) (H:Hp) (Q:VK) (E:XK):Prop
 |mk (a:Addr) (ns:List Int) (k:Int) (_:vs=[.ref a,.int k]) (_:aT K H a (ns.map V.int)) (_:ns.length<=63) (_:0<=k) (_:∀z:Int,Q (.int z) H)
theorem rH(F:fE K mg "_law_cell_at" jr fM)(iz:mg "len"=none):dg P w K mg base cO 1 "_law_cell_at" fM (xy K):=by
 refine F.ok rF (λvs H Q E h=> ?_) (λf cdv A outer s H vs Q E hr h=> ?_)
 ·obtain⟨a,ns,k,rfl,hS,h63,h0,q⟩:=h
  rfl
 obtain⟨a,ns,k,rfl,hS,h63,h0,q⟩:=h
 have hu:=hr.units
 refine⟨_,(lO (@ak _ _ _ _ _ (dM (bJ Jg (pv 1) (cR eV rfl iz PySem.boot_len (af (pv 0) aj)) (bL _)) (@aJ _ _ _ (aY (aE aq (pv 0) (pv 1) (λ_ _=>rfl)))) eG)
  (@aJ _ _ _ (aY ah)))),?_⟩
 have hl:(ns.map V.int).length=ns.length:=List.length_map _
 refine⟨_,rfl,_,rfl,a,_,rfl,.inl hS,_,_,rfl,rfl,_,rfl,?_⟩
 refine gS (λc=> ?_) (λc=> ?_)
 ·have c':k<(((ns.map V.int).length:Nat):Int):=of_decide_eq_true c
  rw[hl]at c'
  obtain⟨z,hz⟩:=HR h0 c'
  exact⟨_,rfl,_,rfl,a,_,_,_,rfl,rfl,hS,hz,q z⟩
 ·exact q 0
theorem tX(F:fE K mg "_law_number" jS fY)(Gy:mg "abs"=none)(aR:mg "range"=none)(eO:dg P w K mg base cO 1 "_law_cell_at" fM (xy K)):dg P w K mg base cO 2 "_law_number" fY (xy K):=by
 refine F.ok dU (λvs H Q E h=> ?_) (λf cdv A outer s H vs Q E hr h=> ?_)
 ·obtain⟨a,ns,k,rfl,hS,h63,h0,q⟩:=h
  rfl
 obtain⟨a,ns,k,rfl,hS,h63,h0,q⟩:=h
 have hu:=hr.units
 refine⟨_,(lO (@ak _ _ _ _ _ (dM (bJ BC (cR Ez rfl Gy PyProof.Rows.boot_abs (af (aL eO hr rfl aK (af (pv 0) (af (pv 1) aj))) aj)) (ai Kg ah ah) (bL _)) (@aJ _ _ _ (aY (aL eO hr rfl aK (af (pv 0) (af (pv 1) aj))))) eG)
  (@ak _ _ _ _ _ (aC (i:=2) dU.nd rfl (Or.inl rfl) (ai aO (ai aO (aL eO hr rfl aK (af (pv 0) (af ah aj))) (ai bu ah (pv 1))) (ai bu ah (aL eO hr rfl aK (af (pv 0) (af (pv 1) aj))))))
  (@ak _ _ _ _ _ (aC (i:=2) dU.nd rfl (Or.inl rfl) (ai aO (ai cu (pv 2) ah) ah))
  (@ak _ _ _ _ _ (aC (i:=3) dU.nd rfl (Or.inl rfl) ah)
  (@ak _ _ _ _ _ (jH PassesOwn.never rfl (dz rfl aR (af ah aj)) (aP (i:=4) dU.nd rfl (Or.inl rfl)) (lO (@ak _ _ _ _ _ (aC (i:=2) dU.nd rfl (Or.inl rfl) (ai cu (ai aO (ai aO (ai aO (ai bu (pv 2) ah) (ai bI (pv 2) ah)) (ai bu (ai bu ah (pv 4)) (pv 4))) ah) ah))
  (@aJ _ _ _ (aC (i:=3) dU.nd rfl (Or.inl rfl) (ai aO (ai bu (pv 3) ah) (ai cu (ai bu (pv 2) ah) ah)))))))
  (@aJ _ _ _ (aY (pv 3))))))))),?_⟩
 refine⟨_,rfl,_,rfl,a,ns,k,rfl,hS,h63,h0,λz1=> ?_⟩
 refine⟨z1,rfl,_,_,rfl,rfl,⟨by decide,by decide,by decide⟩,_,_,rfl,rfl,_,rfl,?_⟩
 refine gS (λc=> ?_) (λc=> ?_)
 ·exact⟨_,rfl,_,rfl,a,ns,k,rfl,hS,h63,h0,q⟩
 refine⟨_,rfl,a,ns,0,rfl,hS,h63,Int.le_refl 0,λz2=> ?_⟩
 refine⟨_,rfl,_,_,rfl,rfl,.inl ⟨by decide,by decide⟩,_,_,rfl,rfl,?_⟩
 refine⟨_,rfl,_,rfl,a,ns,k,rfl,hS,h63,h0,λz3=> ?_⟩
 refine⟨_,_,rfl,rfl,.inl ⟨by decide,by decide⟩,_,_,rfl,rfl,?_⟩
 refine⟨_,rfl,_,_,rfl,rfl,(by show(0:Int)<2147483563;decide),_,_,rfl,rfl,?_⟩
 refine⟨10,rfl,by decide,by decide,gR (n:=10) (λi σ H'=> ∃x t j,H'=H/\σ=[some (.ref a),some (.int k),some (.int x),some (.int t),j]) ⟨_,_,_,rfl,rfl⟩ (λi σ H' hi h=> ?_) (λσ H' h=> ?_)⟩
 ·obtain⟨x,t,j,rfl,rfl⟩:=h
  refine⟨_,rfl,_,_,rfl,rfl,.inr ⟨by decide,by decide⟩,?_⟩
  refine⟨_,rfl,_,_,rfl,rfl,⟨by decide,by decide⟩,_,_,rfl,rfl,?_⟩
  refine⟨_,rfl,_,_,rfl,rfl,.inl ⟨by decide,by decide⟩,_,rfl,_,_,rfl,rfl,.inr ⟨by omega,by omega⟩,_,_,rfl,rfl,?_⟩
  refine⟨_,_,rfl,rfl,_,_,rfl,rfl,(by show(0:Int)<2147483647;decide),?_⟩
  refine⟨_,rfl,_,_,rfl,rfl,.inr ⟨by decide,by decide⟩,_,rfl,_,_,rfl,rfl,.inr ⟨by decide,by decide⟩,_,_,rfl,rfl,(by show(0:Int)<2147483629;decide),_,_,rfl,rfl,?_⟩
  exact⟨_,_,_,rfl,rfl⟩
 ·obtain⟨x,t,j,rfl,rfl⟩:=h
  exact⟨_,rfl,q _⟩
inductive xA (vs:List V) (H:Hp) (Q:VK) (E:XK):Prop
 |mk (t:Addr) (bs:List Addr) (m:List (List Int)) (_:vs=[.ref t]) (_:Tab H t bs m) (_:cz m) (_:Bd 1000 m) (_:Q (.int (aA m)) H)
theorem zm(F:fE K mg "_law_det" n9 gf):dg P w K mg base cO 1 "_law_det" gf xA:=by
 refine F.ok jD (λvs H Q E h=> ?_) (λf cdv A outer s H vs Q E hr h=> ?_)
 ·obtain⟨t,bs,m,rfl,hT,bT,hB,q⟩:=h
  rfl
 obtain⟨t,bs,m,rfl,hT,bT,hB,q⟩:=h
 have hu:=hr.units
 refine⟨_,(lO (@ak _ _ _ _ _ (aC (i:=1) jD.nd rfl (Or.inl rfl) (ai bQ (ai aB (aE aq (aE aq (pv 0) ah (λ_ _=>rfl)) ah (λ_ _=>rfl)) (aE aq (aE aq (pv 0) ah (λ_ _=>rfl)) ah (λ_ _=>rfl))) (ai aB (aE aq (aE aq (pv 0) ah (λ_ _=>rfl)) ah (λ_ _=>rfl)) (aE aq (aE aq (pv 0) ah (λ_ _=>rfl)) ah (λ_ _=>rfl)))))
  (@ak _ _ _ _ _ (aC (i:=2) jD.nd rfl (Or.inl rfl) (ai bQ (ai aB (aE aq (aE aq (pv 0) ah (λ_ _=>rfl)) ah (λ_ _=>rfl)) (aE aq (aE aq (pv 0) ah (λ_ _=>rfl)) ah (λ_ _=>rfl))) (ai aB (aE aq (aE aq (pv 0) ah (λ_ _=>rfl)) ah (λ_ _=>rfl)) (aE aq (aE aq (pv 0) ah (λ_ _=>rfl)) ah (λ_ _=>rfl)))))
  (@ak _ _ _ _ _ (aC (i:=3) jD.nd rfl (Or.inl rfl) (ai bQ (ai aB (aE aq (aE aq (pv 0) ah (λ_ _=>rfl)) ah (λ_ _=>rfl)) (aE aq (aE aq (pv 0) ah (λ_ _=>rfl)) ah (λ_ _=>rfl))) (ai aB (aE aq (aE aq (pv 0) ah (λ_ _=>rfl)) ah (λ_ _=>rfl)) (aE aq (aE aq (pv 0) ah (λ_ _=>rfl)) ah (λ_ _=>rfl)))))
  (@aJ _ _ _ (aY (ai aO (ai bQ (ai aB (aE aq (aE aq (pv 0) ah (λ_ _=>rfl)) ah (λ_ _=>rfl)) (pv 1)) (ai aB (aE aq (aE aq (pv 0) ah (λ_ _=>rfl)) ah (λ_ _=>rfl)) (pv 2))) (ai aB (aE aq (aE aq (pv 0) ah (λ_ _=>rfl)) ah (λ_ _=>rfl)) (pv 3))))))))),?_⟩
 obtain⟨c0,x1,x2,_⟩:=aW hT bT (i:=0) (by decide)
 obtain⟨c1,y1,y2,_⟩:=aW hT bT (i:=1) (by decide)
 obtain⟨c2,w1,w2,_⟩:=aW hT bT (i:=2) (by decide)
 refine⟨_,rfl,t,_,_,_,rfl,rfl,aT.of hT.1,y1,c1,_,_,_,rfl,rfl,aT.of y2,rfl,_,rfl,t,_,_,_,rfl,rfl,aT.of hT.1,w1,c2,_,_,_,rfl,rfl,aT.of w2,rfl,_,_,rfl,rfl,⟨aH (hB 1 1 (by decide) (by decide)) (by decide),aH (hB 2 2 (by decide) (by decide)) (by decide)⟩,_,rfl,t,_,_,_,rfl,rfl,aT.of hT.1,y1,c1,_,_,_,rfl,rfl,aT.of y2,rfl,_,rfl,t,_,_,_,rfl,rfl,aT.of hT.1,w1,c2,_,_,_,rfl,rfl,aT.of w2,rfl,_,_,rfl,rfl,⟨aH (hB 1 2 (by decide) (by decide)) (by decide),aH (hB 2 1 (by decide) (by decide)) (by decide)⟩,_,_,rfl,rfl,?_⟩
 refine⟨_,rfl,t,_,_,_,rfl,rfl,aT.of hT.1,y1,c1,_,_,_,rfl,rfl,aT.of y2,rfl,_,rfl,t,_,_,_,rfl,rfl,aT.of hT.1,w1,c2,_,_,_,rfl,rfl,aT.of w2,rfl,_,_,rfl,rfl,⟨aH (hB 1 0 (by decide) (by decide)) (by decide),aH (hB 2 2 (by decide) (by decide)) (by decide)⟩,_,rfl,t,_,_,_,rfl,rfl,aT.of hT.1,y1,c1,_,_,_,rfl,rfl,aT.of y2,rfl,_,rfl,t,_,_,_,rfl,rfl,aT.of hT.1,w1,c2,_,_,_,rfl,rfl,aT.of w2,rfl,_,_,rfl,rfl,⟨aH (hB 1 2 (by decide) (by decide)) (by decide),aH (hB 2 0 (by decide) (by decide)) (by decide)⟩,_,_,rfl,rfl,?_⟩
 refine⟨_,rfl,t,_,_,_,rfl,rfl,aT.of hT.1,y1,c1,_,_,_,rfl,rfl,aT.of y2,rfl,_,rfl,t,_,_,_,rfl,rfl,aT.of hT.1,w1,c2,_,_,_,rfl,rfl,aT.of w2,rfl,_,_,rfl,rfl,⟨aH (hB 1 0 (by decide) (by decide)) (by decide),aH (hB 2 1 (by decide) (by decide)) (by decide)⟩,_,rfl,t,_,_,_,rfl,rfl,aT.of hT.1,y1,c1,_,_,_,rfl,rfl,aT.of y2,rfl,_,rfl,t,_,_,_,rfl,rfl,aT.of hT.1,w1,c2,_,_,_,rfl,rfl,aT.of w2,rfl,_,_,rfl,rfl,⟨aH (hB 1 1 (by decide) (by decide)) (by decide),aH (hB 2 0 (by decide) (by decide)) (by decide)⟩,_,_,rfl,rfl,?_⟩
 refine⟨_,rfl,t,_,_,_,rfl,rfl,aT.of hT.1,x1,c0,_,_,_,rfl,rfl,aT.of x2,rfl,_,rfl,_,_,rfl,rfl,⟨aH (hB 0 0 (by decide) (by decide)) (by decide),aH (jN (b7 (hB 1 1 (by decide) (by decide)) (hB 2 2 (by decide) (by decide))) (b7 (hB 1 2 (by decide) (by decide)) (hB 2 1 (by decide) (by decide)))) (by decide)⟩,?_⟩
 refine⟨_,rfl,t,_,_,_,rfl,rfl,aT.of hT.1,x1,c0,_,_,_,rfl,rfl,aT.of x2,rfl,_,rfl,_,_,rfl,rfl,⟨aH (hB 0 1 (by decide) (by decide)) (by decide),aH (jN (b7 (hB 1 0 (by decide) (by decide)) (hB 2 2 (by decide) (by decide))) (b7 (hB 1 2 (by decide) (by decide)) (hB 2 0 (by decide) (by decide)))) (by decide)⟩,_,_,rfl,rfl,?_⟩
 refine⟨_,rfl,t,_,_,_,rfl,rfl,aT.of hT.1,x1,c0,_,_,_,rfl,rfl,aT.of x2,rfl,_,rfl,_,_,rfl,rfl,⟨aH (hB 0 2 (by decide) (by decide)) (by decide),aH (jN (b7 (hB 1 0 (by decide) (by decide)) (hB 2 1 (by decide) (by decide))) (b7 (hB 1 1 (by decide) (by decide)) (hB 2 0 (by decide) (by decide)))) (by decide)⟩,_,_,rfl,rfl,?_⟩
 have e:ent m 0 0*(ent m 1 1*ent m 2 2-ent m 1 2*ent m 2 1) -ent m 0 1*(ent m 1 0*ent m 2 2-ent m 1 2*ent m 2 0)+ent m 0 2*(ent m 1 0*ent m 2 1-ent m 1 1*ent m 2 0)=aA m:=by
  rw[cP]
  grind
 rw[<-e]at q
 exact q
inductive Cr (vs:List V) (H:Hp) (Q:VK) (E:XK):Prop
 |mk (a b c big:Int) (_:vs=[.int a,.int b,.int c,.int big]) (_:0<a) (_:a<=b) (_:b<=c) (_:c<1000000) (_:∀p q r t bs H',-a<=p->p<=a-> -a<=q->q<=a-> -b<=r->r<=b->0<aA (fW (2*a) (2*b) (2*c) p q r) ->ay H H'->H t=none->(∀b∈bs,H b=none) ->t∉bs->bs.Nodup->Tab H' t bs (fW (2*a) (2*b) (2*c) p q r) ->Q (.ref t) H')
theorem uK(F:fE K mg "_law_shape" kQ gH)(e7:dg P w K mg base cO 1 "_law_det" gf xA):dg P w K mg base cO 2 "_law_shape" gH Cr:=by
 refine F.ok fB (λvs H Q E h=> ?_) (λf cdv A outer s H vs Q E hr h=> ?_)
 ·obtain⟨a,b,c,big,rfl,ha,hab,hbc,hc,q⟩:=h
  rfl
 obtain⟨a,b,c,big,rfl,ha,hab,hbc,hc,q⟩:=h
 have hu:=hr.units
 refine⟨_,(lO (@ak _ _ _ _ _ (aC (i:=4) fB.nd rfl (Or.inl rfl) (ai bQ (ai cu (pv 3) (ai aO (ai bu ah (pv 0)) ah)) (pv 0)))
  (@ak _ _ _ _ _ (aC (i:=5) fB.nd rfl (Or.inl rfl) (ai bQ (ai cu (ai bI (pv 3) (ai aO (ai bu ah (pv 0)) ah)) (ai aO (ai bu ah (pv 0)) ah)) (pv 0)))
  (@ak _ _ _ _ _ (aC (i:=6) fB.nd rfl (Or.inl rfl) (ai bQ (ai cu (ai bI (ai bI (pv 3) (ai aO (ai bu ah (pv 0)) ah)) (ai aO (ai bu ah (pv 0)) ah)) (ai aO (ai bu ah (pv 1)) ah)) (pv 1)))
  (@ak _ _ _ _ _ (aC (i:=7) fB.nd rfl (Or.inl rfl) (cZ (af (cZ (af (ai bu ah (pv 0)) (af (pv 4) (af (pv 5) aj)))) (af (cZ (af (pv 4) (af (ai bu ah (pv 1)) (af (pv 6) aj)))) (af (cZ (af (pv 5) (af (pv 6) (af (ai bu ah (pv 2)) aj)))) aj)))))
  (@ak _ _ _ _ _ (dM (bJ uY (aL e7 hr rfl aK (af (pv 7) aj)) ah (bL _)) (@aJ _ _ _ (aC (i:=7) fB.nd rfl (Or.inl rfl) (cZ (af (cZ (af (ai bu ah (pv 0)) (af (pv 4) (af (pv 5) aj)))) (af (cZ (af (pv 4) (af (ai bu ah (pv 1)) (af ah aj)))) (af (cZ (af (pv 5) (af ah (af (ai bu ah (pv 2)) aj)))) aj)))))) eG)
  (@aJ _ _ _ (aY (pv 7))))))))),?_⟩
 have m1:0<2*a+1:=by omega
 have m2:0<2*b+1:=by omega
 refine⟨_,rfl,_,rfl,_,_,rfl,rfl,.inl ⟨by decide,by decide⟩,_,_,rfl,rfl,_,_,rfl,rfl,m1,_,rfl,_,_,rfl,rfl,?_⟩
 refine⟨_,rfl,_,rfl,_,_,rfl,rfl,.inl ⟨by decide,by decide⟩,_,_,rfl,rfl,_,_,rfl,rfl,⟨m1,by omega⟩,_,rfl,_,_,rfl,rfl,.inl ⟨by decide,by decide⟩,_,_,rfl,rfl,_,_,rfl,rfl,m1,_,rfl,_,_,rfl,rfl,?_⟩
 refine⟨_,rfl,_,rfl,_,_,rfl,rfl,.inl ⟨by decide,by decide⟩,_,_,rfl,rfl,_,_,rfl,rfl,⟨m1,by omega⟩,_,rfl,_,_,rfl,rfl,.inl ⟨by decide,by decide⟩,_,_,rfl,rfl,_,_,rfl,rfl,⟨m1,by omega⟩,_,rfl,_,_,rfl,rfl,.inl ⟨by decide,by decide⟩,_,_,rfl,rfl,_,_,rfl,rfl,m2,_,rfl,_,_,rfl,rfl,?_⟩
 obtain⟨p,ep,hp,iD⟩:∃p,p=big%(2*a+1) -a/\ -a<=p/\p<=a:=⟨_,rfl,by have:=Int.emod_nonneg big (show 2*a+1≠0 by omega);omega,by have:=Int.emod_lt_of_pos big m1;omega⟩
 obtain⟨qq,eq,hq,hq'⟩:∃p,p=big/(2*a+1)%(2*a+1) -a/\ -a<=p/\p<=a:=⟨_,rfl,by have:=Int.emod_nonneg (big/(2*a+1)) (show 2*a+1≠0 by omega);omega,by have:=Int.emod_lt_of_pos (big/(2*a+1)) m1;omega⟩
 obtain⟨r,er,hr,hr'⟩:∃p,p=big/(2*a+1)/(2*a+1)%(2*b+1) -b/\ -b<=p/\p<=b:=⟨_,rfl,by have:=Int.emod_nonneg (big/(2*a+1)/(2*a+1)) (show 2*b+1≠0 by omega);omega,by have:=Int.emod_lt_of_pos (big/(2*a+1)/(2*a+1)) m2;omega⟩
 simp only[<-ep,<-eq,<-er]
 clear ep eq er
 refine⟨_,rfl,_,_,rfl,rfl,.inl ⟨by decide,by decide⟩,_,rfl,_,rfl,(by show 3<=sizeLine;decide),λp0 h0=>⟨_,rfl,_,rfl,_,_,rfl,rfl,.inl ⟨by decide,by decide⟩,_,rfl,(by show 3<=sizeLine;decide),λp1 h1=>⟨_,rfl,_,rfl,_,rfl,_,_,rfl,rfl,.inl ⟨by decide,by decide⟩,(by show 3<=sizeLine;decide),λp2 h2=>⟨(by show 3<=sizeLine;decide),λt ht=> ?_⟩⟩⟩⟩
 have u0:=ay.up (o:= .lst [.int (2*a),.int p,.int qq]) h0
 have u1:=ay.up (o:= .lst [.int p,.int (2*b),.int r]) h1
 have u2:=ay.up (o:= .lst [.int qq,.int r,.int (2*c)]) h2
 have u3:=ay.up (o:= .lst [.ref p0,.ref p1,.ref p2]) ht
 have T:Tab _ t [p0,p1,p2] (fW (2*a) (2*b) (2*c) p qq r):=g9 _ au (u3 _ _ (u2 _ _ (u1 _ _ au))) (u3 _ _ (u2 _ _ au)) (u3 _ _ au)
 have us:=u0.trans (u1.trans (u2.trans u3))
 have fr:=Aa h0 h1 h2 ht
 have nn:=Fq h0 h1 h2
 refine⟨_,rfl,t,_,_,rfl,T,cF _,(wL (n:=30) (by omega) (by omega) (by omega) (by omega) (by omega) (by omega)).mono (by decide),_,_,rfl,rfl,_,rfl,gS (λdc=> ?_) (λdc=> ?_)⟩
 ·refine⟨_,rfl,_,_,rfl,rfl,.inl ⟨by decide,by decide⟩,_,rfl,_,rfl,(by show 3<=sizeLine;decide),λRL Qu=>⟨_,rfl,_,rfl,_,_,rfl,rfl,.inl ⟨by decide,by decide⟩,(by show 3<=sizeLine;decide),λRM Qv=>⟨_,rfl,_,rfl,_,_,rfl,rfl,.inl ⟨by decide,by decide⟩,(by show 3<=sizeLine;decide),λRN Qw=>⟨(by show 3<=sizeLine;decide),λtx htx=> ?_⟩⟩⟩⟩
  have Us:=ay.up (o:= .lst [.int (2*a),.int p,.int qq]) Qu
  have RP:=ay.up (o:= .lst [.int p,.int (2*b),.int 0]) Qv
  have Qx:=ay.up (o:= .lst [.int qq,.int 0,.int (2*c)]) Qw
  have Ow:=ay.up (o:= .lst [.ref RL,.ref RM,.ref RN]) htx
  have Tx:Tab _ tx [RL,RM,RN] (fW (2*a) (2*b) (2*c) p qq 0):=g9 _ au (Ow _ _ (Qx _ _ (RP _ _ au))) (Ow _ _ (Qx _ _ au)) (Ow _ _ au)
  have Ut:=Us.trans (RP.trans (Qx.trans Ow))
  have Qy:=Aa Qu Qv Qw htx
  have Uu:=Fq Qu Qv Qw
  exact⟨_,rfl,q p qq 0 tx _ _ hp iD hq hq' (by omega) (by omega) (Fo ha hab hbc hp iD hq hq') (us.trans Ut) (us.none Qy.1) (λb hb=>us.none (Qy.2.1 b hb)) Qy.2.2 Uu Tx⟩
 ·have Va:¬aA (fW (2*a) (2*b) (2*c) p qq r)<=0:=λz=>dc (decide_eq_true z)
  exact⟨_,rfl,q p qq r t _ _ hp iD hq hq' hr hr' (by omega) us fr.1 fr.2.1 fr.2.2 nn T⟩
def JG(a b c p q r:Int):Prop:=0<a/\a<=b/\b<=c/\(c<=115/\a<=8/\b<=15)/\ -a<=p/\p<=a/\ -a<=q/\q<=a/\ -b<=r/\r<=b/\0<aA (fW (2*a) (2*b) (2*c) p q r)
def JH(big most:Int)(H:Hp)(μ:Nat)(σ:St)(H':Hp):Prop:=∃(a b c p q r:Int) (t:Addr) (bs:List Addr),μ=(a+b+c).toNat/\JG a b c p q r/\σ=[some (.int big),some (.int most),some (.int a),some (.int b),some (.int c),some (.ref t)]/\ay H H'/\H t=none/\(∀b∈bs,H b=none)/\t∉bs/\bs.Nodup/\Tab H' t bs (fW (2*a) (2*b) (2*c) p q r)
inductive Gz (vs:List V) (H:Hp) (Q:VK) (E:XK):Prop
 |mk (big most:Int) (_:vs=[.int big,.int most]) (_:4<=most) (_:∀a b c p q r t bs H',JG a b c p q r->aA (fW (2*a) (2*b) (2*c) p q r)/2<=most->ay H H'->H t=none->(∀b∈bs,H b=none) ->t∉bs->bs.Nodup->Tab H' t bs (fW (2*a) (2*b) (2*c) p q r) ->Q (.ref t) H')
theorem xB(F:fE K mg "_law_form" mD iw)(iZ:dg P w K mg base cO 2 "_law_shape" gH Cr)(e7:dg P w K mg base cO 2 "_law_det" gf xA):dg P w K mg base cO 3 "_law_form" iw Gz:=by
 refine F.ok ck (λvs H Q E h=> ?_) (λf cdv A outer s H vs Q E hr h=> ?_)
 ·obtain⟨big,most,rfl,hm,K0⟩:=h
  rfl
 obtain⟨big,most,rfl,hm,K0⟩:=h
 have hu:=hr.units
 refine⟨_,(lO (@ak _ _ _ _ _ (aC (i:=2) ck.nd rfl (Or.inl rfl) (ai aO ah (ai cu (pv 0) ah)))
  (@ak _ _ _ _ _ (aC (i:=3) ck.nd rfl (Or.inl rfl) (ai aO (pv 2) (ai cu (ai bI (pv 0) ah) ah)))
  (@ak _ _ _ _ _ (aC (i:=4) ck.nd rfl (Or.inl rfl) (ai aO (pv 3) (ai cu (ai bI (pv 0) ah) (ai aO ah (ai bI ah (ai bu (pv 2) (pv 3)))))))
  (@ak _ _ _ _ _ (aC (i:=5) ck.nd rfl (Or.inl rfl) (aL iZ hr rfl aK (af (pv 2) (af (pv 3) (af (pv 4) (af (ai bI (pv 0) ah) aj))))))
  (@ak _ _ _ _ _ (j3 PassesOwn.never (bJ nC (ai bI (aL e7 hr rfl aK (af (pv 5) aj)) ah) (pv 1) (bL _)) (lO (@ak _ _ _ _ _ (dM (bJ nC (pv 4) (pv 3) (bL _)) (@aJ _ _ _ (aC (i:=4) ck.nd rfl (Or.inl rfl) (ai bQ (pv 4) ah))) (@aJ _ _ _ (dM (bJ nC (pv 3) (pv 2) (bL _)) (@ak _ _ _ _ _ (aC (i:=3) ck.nd rfl (Or.inl rfl) (ai bQ (pv 3) ah))
  (@aJ _ _ _ (aC (i:=4) ck.nd rfl (Or.inl rfl) (pv 3)))) (@ak _ _ _ _ _ (aC (i:=2) ck.nd rfl (Or.inl rfl) (ai bQ (pv 2) ah))
  (@ak _ _ _ _ _ (aC (i:=3) ck.nd rfl (Or.inl rfl) (pv 2))
  (@aJ _ _ _ (aC (i:=4) ck.nd rfl (Or.inl rfl) (pv 2))))))))
  (@aJ _ _ _ (aC (i:=5) ck.nd rfl (Or.inl rfl) (aL iZ hr rfl aK (af (pv 2) (af (pv 3) (af (pv 4) (af (ai bI (pv 0) ah) aj))))))))))
  (@aJ _ _ _ (aY (pv 5))))))))),?_⟩
 refine⟨_,rfl,_,_,rfl,rfl,(by show(0:Int)<8;decide),_,_,rfl,rfl,?_⟩
 obtain⟨a,ea,a1,a8⟩:∃a,a=1+big%8/\0<a/\a<=8:=⟨_,rfl,by omega,by omega⟩
 refine⟨_,rfl,_,rfl,_,_,rfl,rfl,⟨by decide,by decide⟩,_,_,rfl,rfl,(by show(0:Int)<8;decide),_,_,rfl,rfl,?_⟩
 simp only[<-ea]
 obtain⟨b,eb,ab,RQ⟩:∃b,b=a+big/8%8/\a<=b/\b<=15:=⟨_,rfl,by omega,by omega⟩
 simp only[<-eb]
 have RS:0<a*b:=Int.mul_pos a1 (by omega)
 have Uv:a*b<=8*15:=Int.mul_le_mul a8 RQ (by omega) (by decide)
 have d0:0<=100/(a*b):=Int.ediv_nonneg (by decide) (by omega)
 have d1:100/(a*b)<=100:=Int.ediv_le_self _ (by decide)
 have d2:0<1+100/(a*b):=by omega
 refine⟨_,rfl,_,rfl,_,_,rfl,rfl,⟨by decide,by decide⟩,_,rfl,_,rfl,_,_,rfl,rfl,.inl ⟨by omega,by omega⟩,_,_,rfl,rfl,⟨RS,by omega⟩,_,_,rfl,rfl,_,_,rfl,rfl,d2,_,_,rfl,rfl,?_⟩
 obtain⟨c,ec,bc,Qz⟩:∃c,c=b+big/64%(1+100/(a*b))/\b<=c/\c<=115:=⟨_,rfl,by have:=Int.emod_nonneg (big/64) (show 1+100/(a*b)≠0 by omega);omega,by have:=Int.emod_lt_of_pos (big/64) d2;omega⟩
 simp only[<-ec]
 refine⟨_,rfl,_,rfl,_,rfl,_,rfl,_,_,rfl,rfl,⟨by decide,by decide⟩,a,b,c,_,rfl,a1,ab,bc,by omega,λp q r t bs H' hp iD hq hq' hr hr' hd s ft fb nt nd T=> ?_⟩
 clear ea eb ec
 refine⟨JH big most H,⟨_,a,b,c,p,q,r,t,bs,rfl,⟨a1,ab,bc,by omega,hp,iD,hq,hq',hr,hr',hd⟩,rfl,s,ft,fb,nt,nd,T⟩,λμ σ H2 h=> ?_⟩
 clear a1 a8 ab RQ RS Uv d0 d1 d2 bc Qz hp iD hq hq' hr hr' hd s ft fb nt nd T
 obtain⟨a,b,c,p,q,r,t,bs,rfl,⟨a1,ab,bc,c6,hp,iD,hq,hq',hr,hr',hd⟩,rfl,s2,ft,fb,nt,nd,T⟩:=h
 refine⟨_,rfl,t,bs,_,rfl,T,cF _,(wL (n:=30) (by omega) (by omega) (by omega) (by omega) (by omega) (by omega)).mono (by decide),_,_,rfl,rfl,⟨by decide,by decide⟩,_,rfl,_,_,rfl,rfl,_,rfl,gS (λcd=> ?_) (λcd=> ?_)⟩
 ·have cd:most<aA (fW (2*a) (2*b) (2*c) p q r)/2:=of_decide_eq_true cd
  refine⟨λσ' H'=> ∃RT,RT<(a+b+c).toNat/\JH big most H RT σ' H',λ_ _ h=>h,?_⟩
  refine⟨_,rfl,_,rfl,_,_,rfl,rfl,_,rfl,gS (λc1=> ?_) (λc1=> ?_)⟩
  ·have c1:b<c:=of_decide_eq_true c1
   refine⟨_,rfl,_,_,rfl,rfl,?_⟩
   refine⟨_,rfl,_,rfl,_,rfl,_,rfl,_,_,rfl,rfl,⟨by decide,by decide⟩,a,b,c-1,_,rfl,by omega,by omega,by omega,by omega,λp q r t bs H' hp iD hq hq' hr hr' hd s ft fb nt nd T=> ?_⟩
   exact⟨_,by show((a)+(b)+(c-1)).toNat<(a+b+c).toNat;omega,a,b,c-1,p,q,r,t,bs,rfl,⟨by omega,by omega,by omega,by omega,hp,iD,hq,hq',hr,hr',hd⟩,rfl,s2.trans s,s2.none ft,λx hx=>s2.none (fb x hx),nt,nd,T⟩
  have c1:¬b<c:=λz=>c1 (decide_eq_true z)
  refine⟨_,rfl,_,rfl,_,_,rfl,rfl,_,rfl,gS (λc2=> ?_) (λc2=> ?_)⟩
  ·have c2:a<b:=of_decide_eq_true c2
   refine⟨_,rfl,_,_,rfl,rfl,_,rfl,?_⟩
   refine⟨_,rfl,_,rfl,_,rfl,_,rfl,_,_,rfl,rfl,⟨by decide,by decide⟩,a,b-1,b-1,_,rfl,by omega,by omega,by omega,by omega,λp q r t bs H' hp iD hq hq' hr hr' hd s ft fb nt nd T=> ?_⟩
   exact⟨_,by show((a)+(b-1)+(b-1)).toNat<(a+b+c).toNat;omega,a,b-1,b-1,p,q,r,t,bs,rfl,⟨by omega,by omega,by omega,by omega,hp,iD,hq,hq',hr,hr',hd⟩,rfl,s2.trans s,s2.none ft,λx hx=>s2.none (fb x hx),nt,nd,T⟩
  have c2:¬a<b:=λz=>c2 (decide_eq_true z)
  have h2:1<a:=by
   rcases Int.lt_or_le 1 a with z|z
   ·exact z
   ·exfalso
    obtain rfl:a=1:=by omega
    obtain rfl:b=1:=by omega
    obtain rfl:c=1:=by omega
    have:=Fp hp iD hq hq' hr hr'
    omega
  refine⟨_,rfl,_,_,rfl,rfl,_,rfl,_,rfl,?_⟩
  refine⟨_,rfl,_,rfl,_,rfl,_,rfl,_,_,rfl,rfl,⟨by decide,by decide⟩,a-1,a-1,a-1,_,rfl,by omega,by omega,by omega,by omega,λp q r t bs H' hp iD hq hq' hr hr' hd s ft fb nt nd T=> ?_⟩
  exact⟨_,by show((a-1)+(a-1)+(a-1)).toNat<(a+b+c).toNat;omega,a-1,a-1,a-1,p,q,r,t,bs,rfl,⟨by omega,by omega,by omega,by omega,hp,iD,hq,hq',hr,hr',hd⟩,rfl,s2.trans s,s2.none ft,λx hx=>s2.none (fb x hx),nt,nd,T⟩
 ·have cd:¬most<aA (fW (2*a) (2*b) (2*c) p q r)/2:=λz=>cd (decide_eq_true z)
  exact⟨_,rfl,K0 a b c p q r t bs H2 ⟨a1,ab,bc,c6,hp,iD,hq,hq',hr,hr',hd⟩ (by omega) s2 ft fb nt nd T⟩
inductive Cs (vs:List V) (H:Hp) (Q:VK) (E:XK):Prop
 |mk (big most Hl:Int) (_:vs=[.int big,.int most,.int Hl]) (_:0<=most) (_:most<10) (_:0<=Hl) (_:Hl<=10000) (_:∀m t bs H',cz m->Bd (15*most.toNat+2) m->(aA m=1∨aA m= -1) ->ay H H'->H t=none->(∀b∈bs,H b=none) ->t∉bs->Tab H' t bs m->Q (.ref t) H')
theorem uM(F:fE K mg "_law_basis" kR gI)(aR:mg "range"=none)(pN:mg "zip"=none):dg P w K mg base cO 1 "_law_basis" gI Cs:=by
 refine F.ok cJ (λvs H Q E h=> ?_) (λf cdv A outer s H vs Q E hr h=> ?_)
 ·obtain⟨big,most,Hl,rfl,h0,Kx,f0,f1,K0⟩:=h
  rfl
 obtain⟨big,most,Hl,rfl,h0,Kx,f0,f1,K0⟩:=h
 have hu:=hr.units
 refine toF ?_
 refine⟨_,(KS (i:=3) cJ.nd rfl (Or.inl rfl) (sQ (eW (sQ (eW iG (eW iG (eW iG sP (by kernel_rfl)) (by kernel_rfl)) (by kernel_rfl))) (eW (sQ (eW iG (eW iG (eW iG sP (by kernel_rfl)) (by kernel_rfl)) (by kernel_rfl))) (eW (sQ (eW iG (eW iG (eW iG sP (by kernel_rfl)) (by kernel_rfl)) (by kernel_rfl))) sP (by kernel_rfl)) (by kernel_rfl)) (by kernel_rfl))) (by kernel_rfl) (by first|exact .inl rfl|exact .inr rfl)
  (@ak _ _ _ _ _ (aC (i:=4) cJ.nd rfl (Or.inl rfl) (ai cu (pv 0) (ai aO (pv 1) ah)))
  (@ak _ _ _ _ _ (aC (i:=0) cJ.nd rfl (Or.inr rfl) (ai bI (pv 0) (ai aO (pv 1) ah)))
  (@ak _ _ _ _ _ (jH PassesOwn.never rfl (dz rfl aR (af (pv 4) aj)) (aP (i:=5) cJ.nd rfl (Or.inl rfl)) (lO (@ak _ _ _ _ _ (aC (i:=6) cJ.nd rfl (Or.inl rfl) (ai cu (pv 0) ah))
  (@ak _ _ _ _ _ (aC (i:=7) cJ.nd rfl (Or.inl rfl) (ai cu (ai aO (ai aO (pv 6) ah) (ai cu (ai bI (pv 0) ah) ah)) ah))
  (@ak _ _ _ _ _ (aC (i:=8) cJ.nd rfl (Or.inr rfl) (ai bQ (ai cu (ai bI (pv 0) ah) (ai aO (ai bu ah (pv 2)) ah)) (pv 2)))
  (@ak _ _ _ _ _ (kD (z8 (N2:=["_law_big","_law_most","_law_far","_law_rows_here","_law_many","_law_k","_law_i","_law_j","_law_often"]) (te:=(gQ (CG λi j=> .int (i+j)) (bH 0) (gQ (rI jg λi j=> .int (i*j)) (bH 10) (bH 1)))) rfl (z7 rfl pN (af (aE aq (pv 3) (pv 6) (λ_ _=>rfl)) (af (aE aq (pv 3) (pv 7) (λ_ _=>rfl)) aj))) (by kernel_rfl) rfl (λ_ _ _=>by exact iV (ai aO (pv 0) (ai aB (pv 10) (pv 1))))) (Eu (pv 3) (pv 6) set_list))
  (@aJ _ _ _ (aC (i:=0) cJ.nd rfl (Or.inr rfl) (ai bI (ai bI (pv 0) ah) (ai aO (ai bu ah (pv 2)) ah))))))))))
  (@ak _ _ _ _ _ (aC (i:=6) cJ.nd rfl (Or.inl rfl) (ai cu (pv 0) ah))
  (@ak _ _ _ _ _ (kD (gT (N2:=["_law_big","_law_most","_law_far","_law_rows_here","_law_many","_law_k","_law_i","_law_j","_law_often"]) (te:=(gQ (rI jg λi j=> .int (i*j)) (gQ (CG λi j=> .int (i-j)) (tC (.int 1)) (gQ (rI Hx λi j=> .int (i*j)) (tC (.int 2)) (gQ (rI (λ_ j=>0<j) λi j=> .int (i%j)) (gQ (rI ML λi j=> .int (i/j)) (bH 1) (tC (.int 3))) (tC (.int 2))))) (bH 0))) rfl (gz (aE aq (pv 3) (pv 6) (λ_ _=>rfl))) (by kernel_rfl) rfl (λ_ _ _=>by exact iV (ai aB (ai bQ ah (ai bu ah (ai cu (ai bI (pv 1) ah) ah))) (pv 0)))) (Eu (pv 3) (pv 6) set_list))
  (@aJ _ _ _ (aY (ai Kv (su wu (pv 3) (wm (ai cu (ai bI (pv 0) ah) ah)) wk) (su wu (pv 3) wk (wm (ai cu (ai bI (pv 0) ah) ah)))))))))))),?_⟩
 refine⟨(by show 3<=sizeLine;decide),λp0 g0=>⟨(by show 3<=sizeLine;decide),λp1 g1=>⟨(by show 3<=sizeLine;decide),λp2 g2=>⟨(by show 3<=sizeLine;decide),λD hD=> ?_⟩⟩⟩⟩
 have u0:=ay.up (o:= .lst [.int 1,.int 0,.int 0]) g0
 have u1:=ay.up (o:= .lst [.int 0,.int 1,.int 0]) g1
 have u2:=ay.up (o:= .lst [.int 0,.int 0,.int 1]) g2
 have u3:=ay.up (o:= .lst [.ref p0,.ref p1,.ref p2]) hD
 have T:Tab _ D [p0,p1,p2] (pA 1):=g9 _ au (u3 _ _ (u2 _ _ (u1 _ _ au))) (u3 _ _ (u2 _ _ au)) (u3 _ _ au)
 have us:=u0.trans (u1.trans (u2.trans u3))
 obtain⟨fD,fb,nD⟩:=Aa g0 g1 g2 hD
 have mm:0<most+1:=by omega
 refine⟨_,rfl,_,rfl,_,_,rfl,rfl,_,_,rfl,rfl,mm,?_⟩
 refine⟨_,rfl,_,rfl,_,_,rfl,rfl,_,_,rfl,rfl,⟨mm,by omega⟩,?_⟩
 have n0:=Int.emod_nonneg big (show most+1≠0 by omega)
 have n1:=Int.emod_lt_of_pos big mm
 have ff:0<2*Hl+1:=by omega
 refine⟨_,rfl,_,rfl,by omega,by omega,gR (n:=(big%(most+1)).toNat) (λk σ H'=> ∃(x:Int) (o5 o6 o7 o8:Option V) (bs:List Addr) (m:List (List Int)),σ=[some (.int x),some (.int most),some (.int Hl),some (.ref D),some (.int (big%(most+1))),o5,o6,o7,o8]/\ay H H'/\Tab H' D bs m/\cz m/\Bd (15*k+1) m/\aA m=1/\(∀b∈bs,H b=none)/\D∉bs) ⟨_,_,_,_,_,_,_,rfl,us,T,cF _,λi j hi hj=> ?_,rfl,fb,nD⟩ (λk σ H1 hk h=> ?_) (λσ H1 h=> ?_)⟩
 ·rw[pA,bC _ hi hj]
  split<;>decide
 ·obtain⟨x,o5,o6,o7,o8,bs,m,rfl,s1,T1,Cd,dm,Lq,fb,nD⟩:=h
  refine⟨_,rfl,_,_,rfl,rfl,(by show(0:Int)<3;decide),?_⟩
  refine⟨_,rfl,_,_,rfl,rfl,_,rfl,_,_,rfl,rfl,⟨by decide,by decide⟩,_,_,rfl,rfl,(by show(0:Int)<2;decide),_,_,rfl,rfl,_,_,rfl,rfl,(by show(0:Int)<3;decide),?_⟩
  refine⟨_,rfl,_,_,rfl,rfl,⟨by decide,by decide⟩,_,rfl,_,_,rfl,rfl,.inl ⟨by decide,by decide⟩,_,_,rfl,rfl,_,_,rfl,rfl,ff,_,rfl,_,_,rfl,rfl,?_⟩
  obtain⟨i,ei,hi⟩:∃i:Nat,x%3=(i:Int)/\i<3:=⟨(x%3).toNat,by omega,by omega⟩
  obtain⟨j,ej,hj⟩:∃j:Nat,((i:Int)+1+x/3%2)%3=(j:Int)/\j<3:=⟨(((i:Int)+1+x/3%2)%3).toNat,by omega,by omega⟩
  have hij:i≠j:=by omega
  obtain⟨o,eo,ho⟩:∃o:Int,o=x/6%(2*Hl+1) -Hl/\o.natAbs<2^14:=⟨_,rfl,by have:=Int.emod_nonneg (x/6) (show 2*Hl+1≠0 by omega);have:=Int.emod_lt_of_pos (x/6) ff;omega⟩
  simp only[ei,ej,<-eo]
  obtain⟨bi,x1,x2,x3⟩:=aW T1 Cd hi
  obtain⟨bj,y1,y2,y3⟩:=aW T1 Cd hj
  refine⟨_,rfl,_,rfl,D,_,_,_,rfl,rfl,aT.of T1.1,x1,_,rfl,_,rfl,D,_,_,_,rfl,rfl,aT.of T1.1,y1,bi,bj,_,_,rfl,aT.of x2,aT.of y2,λR hR=> ?_⟩
  have bk:∀s,s<3->(ent m i s+o*ent m j s).natAbs<2^(15*(k+1)+1):=λs hs=>aH (jh (aH (dm i s hi hs) (show 15*k+1<=14+(15*k+1)by omega)) (b7 ho (dm j s hj hs))) (by omega)
  have Vb:k<10:=by omega
  refine yu (aT.of x2) (aT.of y2) rfl (by show 3<=sizeLine;decide) hR (λu v=>match u,v with| .int i,.int j=> .int (i+o*j)|_,_=> .iR) (λn u v eu ev G Q' sm kk=> ?_) (λH2 s2 e2=> ?_)
  ·have hn:n<3:=(List.getElem?_eq_some_iff.mp eu).1
   rcases bE hn with rfl|rfl|rfl<;>cases eu<;>cases ev<;>exact⟨_,rfl,_,rfl,_,rfl,_,_,rfl,rfl,⟨aH ho (by decide),aH (dm j _ hj (by decide)) (by omega)⟩,_,_,rfl,rfl,kk⟩
  have nR:R≠D:=Ne.symm (cS T1.1 hR)
  have l3:bs.length=3:=by rw[<-T1.2.length,Cd.1]
  refine⟨_,rfl,_,rfl,D,_,_,i,rfl,rfl,s2 _ _ T1.1,(by rw[List.length_map,l3];rcases bE hi with rfl|rfl|rfl<;>rfl),?_⟩
  refine⟨_,rfl,_,_,rfl,rfl,⟨by decide,by decide⟩,_,rfl,_,_,rfl,rfl,.inl ⟨by decide,by decide⟩,_,_,rfl,rfl,_,_,rfl,rfl,⟨ff,by omega⟩,?_⟩
  refine⟨_,_,_,_,_,bs.set i R,Ab m i (λs=>ent m i s+o*ent m j s),rfl,(s1.trans s2).upd fD,BV (T1.same s2) Cd hi e2 nR nD,cF _,λr s hr hs=> ?_,(HV m hi hj hij o).trans Lq,λb hb=> ?_,λhb=> ?_⟩
  ·rw[cG m _ hr hs]
   split
   ·exact bk s hs
   ·exact aH (dm r s hr hs) (by omega)
  ·rcases List.mem_or_eq_of_mem_set hb with z|z
   ·exact fb b z
   ·rw[z];exact s1.none hR
  ·rcases List.mem_or_eq_of_mem_set hb with z|z
   ·exact nD z
   ·exact nR z.symm
 ·obtain⟨x,o5,o6,o7,o8,bs,m,rfl,s1,T1,Cd,dm,Lq,fb,nD⟩:=h
  have dm:Bd (15*most.toNat+1) m:=dm.mono (by omega)
  obtain⟨i,ei,hi⟩:∃i:Nat,x%3=(i:Int)/\i<3:=⟨(x%3).toNat,by omega,by omega⟩
  obtain⟨o,eo,ho⟩:∃o:Int,o=1-2*(x/3%2)/\(o=1∨o= -1):=⟨_,rfl,by omega⟩
  obtain⟨k,ek,hk⟩:∃k:Nat,x/6%3=(k:Int)/\k<3:=⟨(x/6%3).toNat,by omega,by omega⟩
  refine⟨_,rfl,_,_,rfl,rfl,(by show(0:Int)<3;decide),?_⟩
  simp only[ei]
  obtain⟨bi,x1,x2,x3⟩:=aW T1 Cd hi
  refine⟨_,rfl,_,rfl,D,_,_,_,rfl,rfl,aT.of T1.1,x1,bi,rfl,⟨_,aT.of x2⟩,λR hR=> ?_⟩
  have bo:(1-2*(x/3%2)).natAbs<2^1:=by omega
  refine kJ (jA (aT.of x2)) rfl hR (λs=>o*ent m i s) (λj y hj ey H2 Q2 s2 k2=> ?_) (λH2 s2 e2=> ?_)
  ·rw[eo]at k2
   rcases bE hj with rfl|rfl|rfl<;>cases ey<;>exact⟨_,rfl,_,_,rfl,rfl,⟨by decide,by decide⟩,_,_,rfl,rfl,(by show(0:Int)<2;decide),_,_,rfl,rfl,.inl ⟨by decide,by decide⟩,_,_,rfl,rfl,_,rfl,_,_,rfl,rfl,⟨aH bo (by decide),aH (dm i _ hi (by decide)) (by omega)⟩,k2 H2 (ay.refl _)⟩
  have nR:R≠D:=Ne.symm (cS T1.1 hR)
  have l3:bs.length=3:=by rw[<-T1.2.length,Cd.1]
  refine⟨_,rfl,_,rfl,D,_,_,i,rfl,rfl,s2 _ _ T1.1,(by rw[List.length_map,l3];rcases bE hi with rfl|rfl|rfl<;>rfl),?_⟩
  have T2:=BV (g:=λs=>o*ent m i s) (T1.same s2) Cd hi e2 nR nD
  have s3:=(s1.trans s2).upd (o:= .lst ((bs.map V.ref).set i (.ref R))) fD
  have Uw:∀b∈bs.set i R,H b=none:=λb hb=>by
   rcases List.mem_or_eq_of_mem_set hb with z|z
   ·exact fb b z
   ·rw[z];exact s1.none hR
  have e3:((bs.map V.ref).set i (.ref R))=(bs.set i R).map V.ref:=by rw[List.map_set]
  refine⟨_,rfl,_,rfl,_,_,rfl,rfl,⟨by decide,by decide⟩,_,_,rfl,rfl,(by show(0:Int)<3;decide),_,rfl,D,_,rfl,aT.of au,λp hp=> ?_⟩
  refine⟨_,rfl,_,rfl,_,_,rfl,rfl,⟨by decide,by decide⟩,_,_,rfl,rfl,(by show(0:Int)<3;decide),_,rfl,D,_,rfl,aT.of ((ay.up hp) _ _ au),λp' iD=> ?_⟩
  have u1:=ay.up (o:= .lst (pY ((bs.map V.ref).set i (.ref R)) (some (x/6%3)) none)) hp
  have u2:=ay.up (o:= .lst (pY ((bs.map V.ref).set i (.ref R)) none (some (x/6%3)))) iD
  refine⟨p,p',_,_,rfl,rfl,u2 _ _ au,au,?_,λr hr=> ?_⟩
  ·have c1:=lS ((bs.map V.ref).set i (.ref R)) (some (x/6%3)) none
   have c2:=lS ((bs.map V.ref).set i (.ref R)) none (some (x/6%3))
   rw[List.length_set,List.length_map,l3]at c1 c2
   exact Nat.le_trans (Nat.add_le_add c1 c2) (by show 6<=sizeLine;decide)
  have u3:=ay.up (o:= .lst (pY ((bs.map V.ref).set i (.ref R)) (some (x/6%3)) none++pY ((bs.map V.ref).set i (.ref R)) none (some (x/6%3)))) hr
  obtain⟨bs',T3,m3,n3⟩:=HX (r:=r) (k:=k) T2 (cF _) hk (u1.trans (u2.trans u3)) (u1.none (u2.none hr)) (by rw[<-e3,<-ek];exact au)
  have hd:aA (Ac (Ab m i λs=>o*ent m i s) k)=o:=(HW _ hk).trans ((CZ m hi o).trans (by rw[Lq];omega))
  refine K0 (Ac (Ab m i λs=>o*ent m i s) k) r bs' _ (cF _) (HY λa c ha hc=> ?_) ?_ (s3.trans (u1.trans (u2.trans u3))) (s3.none (u1.none (u2.none hr))) (λb hb=>Uw b (m3 b hb)) n3 T3
  ·rw[cG m _ ha hc]
   split
   ·exact aH (b7 (show o.natAbs<2^1 by omega) (dm i c hi hc)) (by omega)
   ·exact aH (dm a c ha hc) (by omega)
  ·rw[hd]
   exact ho
theorem xC(F:fE K mg "_law_over" mC gp)(aR:mg "range"=none):dg P w K mg base cO 1 "_law_over" gp qu:=by
 refine F.ok xg (λvs H Q E h=> ?_) (λf cdv A outer s H vs Q E hr h=> ?_)
 ·obtain⟨t1,b1,m1,rfl,h1,c1,q⟩:=h
  rfl
 obtain⟨t1,b1,m1,rfl,h1,c1,q⟩:=h
 have hu:=hr.units
 refine⟨_,(cU (aY (gT (N2:=["_law_table"]) (te:=(lV 1 (qU (dI (tC (.int 3)) jI)) (cY 0) (gQ (fU K) (gQ (fU K) (bH 2) (bH 0)) (bH 1)))) rfl (dz rfl aR (af ah aj)) (by kernel_rfl) rfl (λ_ _ _=>by exact iV (gT (N2:=["_law_j","_law_table"]) (te:=(gQ (fU K) (gQ (fU K) (bH 2) (bH 0)) (bH 1))) rfl (dz rfl aR (af ah aj)) (by kernel_rfl) rfl (λ_ _ _=>by exact iV (aE aq (aE aq (pv 2) (pv 0) (λ_ _=>rfl)) (pv 1) (λ_ _=>rfl)))))))),?_⟩
 refine⟨3,rfl,by decide,by decide,λD hD=>pq (e9 (n:=3)) rfl hD _ (λi x hi ex H1 Q1 s1 k1=> ?_) (λbs H1 s1 fr nD hT=>q D bs H1 s1 hD fr nD hT)⟩
 obtain⟨_,rfl⟩:=d7 ex
 refine⟨3,rfl,by decide,by decide,λD2 Ci=>kJ (e9 (n:=3)) rfl Ci (λj=>ent m1 j i) (λj x hj Ge H2 Q2 s2 k2=> ?_) (λH2 s2 e2=>k1 D2 H2 Ci s2 e2)⟩
 obtain⟨_,rfl⟩:=d7 Ge
 have sm:=s1.trans s2
 obtain⟨b,row,e1,e2,e3⟩:=mZ (h1.same sm) c1 hj hi
 exact⟨_,rfl,_,rfl,t1,_,_,_,rfl,rfl,aT.of (h1.same sm).1,e1,_,rfl,b,_,_,_,rfl,rfl,aT.of e2,e3,k2 H2 (ay.refl _)⟩
inductive rY (K:PySem.W.Frag) (vs:List V) (H:Hp) (Q:VK) (E:XK):Prop
 |mk (a b:Addr) (x0 x1 x2 y0 y1 y2:Int) (_:vs=[.ref a,.ref b]) (_:H a=some (.lst [.int x0,.int x1,.int x2])) (_:H b=some (.lst [.int y0,.int y1,.int y2])) (_:x0.natAbs<2^4096) (_:x1.natAbs<2^4096) (_:x2.natAbs<2^4096) (_:y0.natAbs<2^4096) (_:y1.natAbs<2^4096) (_:y2.natAbs<2^4096) (_:Q (.int (x0*y0+x1*y1+x2*y2)) H)
theorem uN(F:fE K mg "_law_along" kP gG):dg P w K mg base cO 1 "_law_along" gG (rY K):=by
 refine F.ok uA (λvs H Q E h=> ?_) (λf cdv A outer s H vs Q E hr h=> ?_)
 ·obtain⟨a,b,x0,x1,x2,y0,y1,y2,rfl,ha,hb,p0,p1,p2,r0,r1,r2,q⟩:=h
  rfl
 obtain⟨a,b,x0,x1,x2,y0,y1,y2,rfl,ha,hb,p0,p1,p2,r0,r1,r2,q⟩:=h
 have hu:=hr.units
 refine⟨_,(cU (aY (ai aO (ai aO (ai aB (aE aq (pv 0) ah (λ_ _=>rfl)) (aE aq (pv 1) ah (λ_ _=>rfl))) (ai aB (aE aq (pv 0) ah (λ_ _=>rfl)) (aE aq (pv 1) ah (λ_ _=>rfl)))) (ai aB (aE aq (pv 0) ah (λ_ _=>rfl)) (aE aq (pv 1) ah (λ_ _=>rfl)))))),?_⟩
 refine⟨_,rfl,a,_,_,_,rfl,rfl,aT.of ha,rfl,_,rfl,b,_,_,_,rfl,rfl,aT.of hb,rfl,_,_,rfl,rfl,⟨p0,r0⟩,?_⟩
 refine⟨_,rfl,a,_,_,_,rfl,rfl,aT.of ha,rfl,_,rfl,b,_,_,_,rfl,rfl,aT.of hb,rfl,_,_,rfl,rfl,⟨p1,r1⟩,_,_,rfl,rfl,?_⟩
 exact⟨_,rfl,a,_,_,_,rfl,rfl,aT.of ha,rfl,_,rfl,b,_,_,_,rfl,rfl,aT.of hb,rfl,_,_,rfl,rfl,⟨p2,r2⟩,_,_,rfl,rfl,q⟩
inductive Ct (vs:List V) (H:Hp) (Q:VK) (E:XK):Prop
 |mk (t1:Addr) (b1:List Addr) (m1:List (List Int)) (t2:Addr) (b2:List Addr) (m2:List (List Int)) (_:vs=[.ref t1,.ref t2]) (_:Tab H t1 b1 m1) (_:Tab H t2 b2 m2) (_:cz m1) (_:cz m2) (_:Bd 4096 m1) (_:Bd 4096 m2) (_:∀r bs H',ay H H'->H r=none->(∀b∈bs,H b=none) ->r∉bs->Tab H' r bs (ir m1 m2) ->Q (.ref r) H')
theorem rJ(F:fE K mg "_law_product" jt fN)(gu:dg P w K mg base cO 1 "_law_over" gp qu)(k8:dg P w K mg base cO 1 "_law_along" gG (rY K)):dg P w K mg base cO 2 "_law_product" fN Ct:=by
 refine F.ok lK (λvs H Q E h=> ?_) (λf cdv A outer s H vs Q E hr h=> ?_)
 ·obtain⟨t1,b1,m1,t2,b2,m2,rfl,h1,h2,c1,c2,d1,d2,q⟩:=h
  rfl
 obtain⟨t1,b1,m1,t2,b2,m2,rfl,h1,h2,c1,c2,d1,d2,q⟩:=h
 have hu:=hr.units
 refine⟨_,(lO (@ak _ _ _ _ _ (aC (i:=2) lK.nd rfl (Or.inr rfl) (aL gu hr rfl aK (af (pv 1) aj)))
  (@aJ _ _ _ (aY (gT (N2:=["_law_one","_law_other","_law_over_here"]) (te:=(lV 1 (Jf K (bH 3)) (cY 0) (lJ (rY K) [] E0 (dI (bH 1) (dI (bH 0) jI))))) rfl (gz (pv 0)) (by kernel_rfl) rfl (λ_ _ _=>by exact iV (gT (N2:=["_law_row","_law_one","_law_other","_law_over_here"]) (te:=(lJ (rY K) [] E0 (dI (bH 1) (dI (bH 0) jI)))) rfl (gz (pv 3)) (by kernel_rfl) rfl (λ_ _ _=>by exact iV (aL k8 hr rfl aK (af (pv 1) (af (pv 0) aj))))))))))),?_⟩
 refine⟨_,rfl,t2,b2,m2,rfl,h2,c2,λt bs H0 s0 ft fb nt hO=> ?_⟩
 have c0:cz (cL m2):=cF _
 have l1:(b1.map V.ref).length=3:=by rw[List.length_map,<-h1.2.length,c1.1]
 have l2:(bs.map V.ref).length=3:=by rw[List.length_map,<-hO.2.length,c0.1]
 refine⟨_,rfl,t1,rfl,⟨_,aT.of (h1.same s0).1⟩,λD hD=>pq (jA (aT.of (h1.same s0).1)) l1 hD (λi j=>ent m1 i 0*ent m2 0 j+ent m1 i 1*ent m2 1 j+ent m1 i 2*ent m2 2 j) (λi x hi ex H1 Q1 s1 k1=> ?_) (λbs' H1 s1 fr nD hT=>q D bs' H1 (s0.trans s1) (s0.none hD) (λb hb=>s0.none (fr b hb)) nD hT)⟩
 obtain⟨b,e1,e2,_⟩:=aW ((h1.same s0).same s1) c1 hi
 have ex':x= .ref b:=by
  have q1:=gU ex
  rw[e1]at q1
  exact(Option.some.inj q1).symm
 subst ex'
 refine⟨_,rfl,t,rfl,⟨_,aT.of (hO.same s1).1⟩,λD2 Ci=>kJ (jA (aT.of (hO.same s1).1)) l2 Ci (λj=>ent m1 i 0*ent m2 0 j+ent m1 i 1*ent m2 1 j+ent m1 i 2*ent m2 2 j) (λj x hj Ge H2 Q2 s2 k2=> ?_) (λH2 s2 e2=>k1 D2 H2 Ci s2 e2)⟩
 obtain⟨b',f1,f2,_⟩:=aW ((hO.same s1).same s2) c0 hj
 have ex':x= .ref b':=by
  have q1:=gU Ge
  rw[f1]at q1
  exact(Option.some.inj q1).symm
 subst ex'
 rw[cL,bC _ hj (by decide),bC _ hj (by decide),bC _ hj (by decide)]at f2
 exact⟨_,rfl,_,rfl,b,b',_,_,_,_,_,_,rfl,s2 _ _ e2,f2,d1 i 0 hi (by decide),d1 i 1 hi (by decide),d1 i 2 hi (by decide),d2 0 j (by decide) hj,d2 1 j (by decide) hj,d2 2 j (by decide) hj,k2 H2 (ay.refl _)⟩
inductive xD (vs:List V) (H:Hp) (Q:VK) (E:XK):Prop
 |mk (N:Int) (_:vs=[.int N]) (_:0<=N) (_:N<2^62) (_:∀r:Int,0<=r->r*r<=N->N<(r+1)*(r+1) ->Q (.int r) H)
theorem xE(F:fE K mg "_law_root" mE gq):dg P w K mg base cO 1 "_law_root" gq xD:=by
 refine F.ok eX (λvs H Q E h=> ?_) (λf cdv A outer s H vs Q E hr h=> ?_)
 ·obtain⟨N,rfl,N0,bN,q⟩:=h
  rfl
 obtain⟨N,rfl,N0,bN,q⟩:=h
 have hu:=hr.units
 refine⟨_,(lO (@ak _ _ _ _ _ (aC (i:=1) eX.nd rfl (Or.inl rfl) ah)
  (@ak _ _ _ _ _ (j3 PassesOwn.never (bJ uY (ai bu (pv 1) (pv 1)) (pv 0) (bL _)) (cU (aC (i:=1) eX.nd rfl (Or.inl rfl) (ai bu ah (pv 1)))))
  (@ak _ _ _ _ _ (aC (i:=2) eX.nd rfl (Or.inl rfl) ah)
  (@ak _ _ _ _ _ (j3 PassesOwn.never (bJ nC (ai bQ (pv 1) (pv 2)) ah (bL _)) (lO (@ak _ _ _ _ _ (aC (i:=3) eX.nd rfl (Or.inl rfl) (ai bI (ai aO (pv 2) (pv 1)) ah))
  (@aJ _ _ _ (dM (bJ uY (ai bu (pv 3) (pv 3)) (pv 0) (bL _)) (@aJ _ _ _ (aC (i:=2) eX.nd rfl (Or.inl rfl) (pv 3))) (@aJ _ _ _ (aC (i:=1) eX.nd rfl (Or.inl rfl) (pv 3))))))))
  (@aJ _ _ _ (aY (pv 2)))))))),?_⟩
 refine lR (λσ H'=>H'=H/\ ∃h:Int,σ=[some (.int N),some (.int h),none,none]/\1<=h/\h<=2^33) (λσ _=>match σ with| [_,some (.int h),_,_]=>(2^34-h).toNat|_=>0) ⟨rfl,_,rfl,by decide,by decide⟩ (λσ H' hh=> ?_) ?_
 rotate_left
 ·rintro σ H' Q Q' h ⟨v,e,v2,e',i,j,e1,e2,c,v3,e3,a,b,e4,e5,k,ek,kk⟩
  exact⟨v,e,v2,e',i,j,e1,e2,c,v3,e3,a,b,e4,e5,k,ek,h _ _ kk⟩
 obtain⟨rfl,h,rfl,h1,h2⟩:=hh
 refine⟨_,rfl,_,rfl,_,_,rfl,rfl,.inl ⟨by omega,by omega⟩,_,rfl,_,_,rfl,rfl,_,rfl,gS (λc=> ?_) (λc=> ?_)⟩
 ·have c:h*h<=N:=of_decide_eq_true c
  have h3:h<2^32:=by
   refine Classical.byContradiction λz=> ?_
   have:(2^32:Int)*2^32<=h*h:=Int.mul_le_mul (by omega) (by omega) (by decide) (by omega)
   omega
  refine⟨_,rfl,_,_,rfl,rfl,.inl ⟨by decide,by decide⟩,⟨rfl,_,rfl,by omega,by omega⟩,?_⟩
  show(2^34-2*h).toNat<(2^34-h).toNat
  omega
 have c:N<h*h:=by
  have:¬h*h<=N:=λz=>c (decide_eq_true z)
  omega
 refine lR (λσ H2=>H2=H'/\ ∃(h l:Int) (o:Option V),σ=[some (.int N),some (.int h),some (.int l),o]/\0<=l/\l<h/\h<=2^33/\l*l<=N/\N<h*h) (λσ _=>match σ with| [_,some (.int h),some (.int l),_]=>(h-l).toNat|_=>0) ⟨rfl,_,_,_,rfl,by decide,by omega,h2,by omega,c⟩ (λσ H' hh=> ?_) ?_
 rotate_left
 ·rintro σ H' Q Q' h ⟨v,e,v2,e2,i,j,e3,e4,a,b,e5,e6,k,ek,kk⟩
  exact⟨v,e,v2,e2,i,j,e3,e4,a,b,e5,e6,k,ek,h _ _ kk⟩
 obtain⟨rfl,h,l,o,rfl,l0,lh,h2,lN,hN⟩:=hh
 refine⟨_,rfl,_,rfl,_,_,rfl,rfl,_,_,rfl,rfl,_,rfl,gS (λc=> ?_) (λc=> ?_)⟩
 ·have c:1<h-l:=of_decide_eq_true c
  refine⟨_,rfl,_,rfl,_,_,rfl,rfl,_,_,rfl,rfl,⟨by decide,by decide⟩,_,rfl,_,rfl,_,_,rfl,rfl,.inl ⟨by omega,by omega⟩,_,rfl,_,_,rfl,rfl,_,rfl,gS (λc2=> ?_) (λc2=> ?_)⟩
  ·have c2:(l+h)/2*((l+h)/2)<=N:=of_decide_eq_true c2
   refine⟨_,rfl,⟨rfl,_,_,_,rfl,by omega,by omega,h2,c2,hN⟩,?_⟩
   show(h- (l+h)/2).toNat<(h-l).toNat
   omega
  ·have c2:N<(l+h)/2*((l+h)/2):=by
    have:¬(l+h)/2*((l+h)/2)<=N:=λz=>c2 (decide_eq_true z)
    omega
   refine⟨_,rfl,⟨rfl,_,_,_,rfl,l0,by omega,by omega,lN,c2⟩,?_⟩
   show((l+h)/2-l).toNat<(h-l).toNat
   omega
 ·have c:¬1<h-l:=λz=>c (decide_eq_true z)
  have e:h=l+1:=by omega
  rw[e]at hN
  exact⟨_,rfl,q l l0 lN hN⟩
def Ek(m:List (List Int)):Nat->Int
 |0=>ent m 1 1*ent m 2 2-ent m 1 2*ent m 1 2
 |_=>ent m 2 2*ent m 0 0-ent m 2 0*ent m 2 0
inductive Cu (vs:List V) (H:Hp) (Q:VK) (E:XK):Prop
 |mk (t:Addr) (bs:List Addr) (m:List (List Int)) (n:Int) (k:Nat) (_:vs=[.ref t,.int n,.int (k:Int)]) (_:Tab H t bs m) (_:cz m) (_:Bd 20 m) (_:0<aA m) (_:aA m<=401) (_:0<=n) (_:n<=600) (_:k<2) (_:0<=Ek m k) (_:Ek m k<2^40) (_:∀R:Int,0<=R->R*R<=2*n*Ek m k/aA m->2*n*Ek m k/aA m<(R+1)*(R+1) ->Q (.int R) H)
theorem uO(F:fE K mg "_law_reach" kT gJ)(e7:dg P w K mg base cO 1 "_law_det" gf xA)(gv:dg P w K mg base cO 1 "_law_root" gq xD):dg P w K mg base cO 2 "_law_reach" gJ Cu:=by
 refine F.ok jT (λvs H Q E h=> ?_) (λf cdv A outer s H vs Q E hr h=> ?_)
 ·obtain⟨t,bs,m,n,k,rfl,hT,bT,hB,D0,D4,n0,n6,hk,p0,p1,q⟩:=h
  rfl
 obtain⟨t,bs,m,n,k,rfl,hT,bT,hB,D0,D4,n0,n6,hk,p0,p1,q⟩:=h
 have hu:=hr.units
 refine⟨_,(lO (@ak _ _ _ _ _ (pW (i:=3) (j:=4) rfl jT.nd rfl rfl (by decide) rfl rfl (af (ai cu (ai aO (pv 2) ah) ah) (af (ai cu (ai aO (pv 2) ah) ah) aj)) rfl)
  (@ak _ _ _ _ _ (aC (i:=5) jT.nd rfl (Or.inl rfl) (ai bQ (ai bu (aE aq (aE aq (pv 0) (pv 3) (λ_ _=>rfl)) (pv 3) (λ_ _=>rfl)) (aE aq (aE aq (pv 0) (pv 4) (λ_ _=>rfl)) (pv 4) (λ_ _=>rfl))) (ai bu (aE aq (aE aq (pv 0) (pv 3) (λ_ _=>rfl)) (pv 4) (λ_ _=>rfl)) (aE aq (aE aq (pv 0) (pv 3) (λ_ _=>rfl)) (pv 4) (λ_ _=>rfl)))))
  (@aJ _ _ _ (aY (aL gv hr rfl aK (af (ai bI (ai bu (ai bu ah (pv 1)) (pv 5)) (aL e7 hr rfl aK (af (pv 0) aj))) aj))))))),?_⟩
 obtain⟨c0,x1,x2,_⟩:=aW hT bT (i:=0) (by decide)
 obtain⟨c1,y1,y2,_⟩:=aW hT bT (i:=1) (by decide)
 obtain⟨c2,w1,w2,_⟩:=aW hT bT (i:=2) (by decide)
 have b:∀i j,i<3->j<3->(ent m i j).natAbs<2^20:=λi j hi hj=>hB i j hi hj
 have Lr:=b 0 0 (by decide) (by decide)
 have Ls:=b 1 1 (by decide) (by decide)
 have Cn:=b 2 2 (by decide) (by decide)
 have Lu:=b 1 2 (by decide) (by decide)
 have Vc:=b 2 0 (by decide) (by decide)
 have np:0<=n*Ek m k/\n*Ek m k<=600*2^40:=⟨Int.mul_nonneg n0 p0,Int.mul_le_mul n6 (Int.le_of_lt p1) p0 (by decide)⟩
 have en:2*n*Ek m k=2*(n*Ek m k):=Int.mul_assoc _ _ _
 have X0:0<=2*n*Ek m k/aA m:=Int.ediv_nonneg (by omega) (by omega)
 have X1:2*n*Ek m k/aA m<2^62:=Int.lt_of_le_of_lt (Int.ediv_le_self _ (by omega)) (by omega)
 have k2:k=0∨k=1:=by omega
 rcases k2 with rfl|rfl
 ·refine⟨_,rfl,_,_,rfl,rfl,_,_,rfl,rfl,(by decide),_,rfl,_,_,rfl,rfl,_,_,rfl,rfl,(by decide),_,_,rfl,?_⟩
  refine⟨_,rfl,_,rfl,t,_,_,_,rfl,rfl,aT.of hT.1,y1,_,rfl,c1,_,_,_,rfl,rfl,aT.of y2,rfl,_,rfl,_,rfl,t,_,_,_,rfl,rfl,aT.of hT.1,w1,_,rfl,c2,_,_,_,rfl,rfl,aT.of w2,rfl,_,_,rfl,rfl,.inl ⟨by omega,by omega⟩,_,rfl,_,rfl,t,_,_,_,rfl,rfl,aT.of hT.1,y1,_,rfl,c1,_,_,_,rfl,rfl,aT.of y2,rfl,_,rfl,_,rfl,t,_,_,_,rfl,rfl,aT.of hT.1,y1,_,rfl,c1,_,_,_,rfl,rfl,aT.of y2,rfl,_,_,rfl,rfl,.inl ⟨by omega,by omega⟩,_,_,rfl,rfl,?_⟩
  refine⟨_,rfl,_,_,rfl,rfl,.inl ⟨by decide,by decide⟩,_,rfl,_,_,rfl,rfl,.inl ⟨by omega,by omega⟩,_,rfl,t,bs,m,rfl,hT,bT,hB.mono (by decide),_,_,rfl,rfl,⟨D0,by omega⟩,_,rfl,X0,X1,λw h0 h1 h2=>q w h0 h1 h2⟩
 ·refine⟨_,rfl,_,_,rfl,rfl,_,_,rfl,rfl,(by decide),_,rfl,_,_,rfl,rfl,_,_,rfl,rfl,(by decide),_,_,rfl,?_⟩
  refine⟨_,rfl,_,rfl,t,_,_,_,rfl,rfl,aT.of hT.1,w1,_,rfl,c2,_,_,_,rfl,rfl,aT.of w2,rfl,_,rfl,_,rfl,t,_,_,_,rfl,rfl,aT.of hT.1,x1,_,rfl,c0,_,_,_,rfl,rfl,aT.of x2,rfl,_,_,rfl,rfl,.inl ⟨by omega,by omega⟩,_,rfl,_,rfl,t,_,_,_,rfl,rfl,aT.of hT.1,w1,_,rfl,c2,_,_,_,rfl,rfl,aT.of w2,rfl,_,rfl,_,rfl,t,_,_,_,rfl,rfl,aT.of hT.1,w1,_,rfl,c2,_,_,_,rfl,rfl,aT.of w2,rfl,_,_,rfl,rfl,.inl ⟨by omega,by omega⟩,_,_,rfl,rfl,?_⟩
  refine⟨_,rfl,_,_,rfl,rfl,.inl ⟨by decide,by decide⟩,_,rfl,_,_,rfl,rfl,.inl ⟨by omega,by omega⟩,_,rfl,t,bs,m,rfl,hT,bT,hB.mono (by decide),_,_,rfl,rfl,⟨D0,by omega⟩,_,rfl,X0,X1,λw h0 h1 h2=>q w h0 h1 h2⟩
inductive Cv (vs:List V) (H:Hp) (Q:VK) (E:XK):Prop
 |mk (t:Addr) (bs:List Addr) (m:List (List Int)) (n:Int) (_:vs=[.ref t,.int n]) (_:Tab H t bs m) (_:cz m) (_:cg m) (_:bU m=true) (_:∀i j,i<3->j<3->(ent m i j).natAbs<=230) (_:ent m 0 0<=16) (_:ent m 1 1<=30) (_:aA m<=401) (_:0<=n) (_:n<=600) (_:∀(r:Addr) (as:List Addr) (H':Hp),ay H H'->H r=none->(∀b∈as,H b=none) ->H' r=some (.lst (as.map V.ref)) ->fj H' as->dZ m n (rws H' as) ->(rws H' as).Pairwise (λr s=>Lo r<=Lo s) ->Q (.ref r) H')
theorem xF(F:fE K mg "_law_rows" mF iy)(aR:mg "range"=none)(fy:mg "sorted"=none)(nH:mg "int"=none)(ja:dg P w K mg base cO 3 "_law_reach" gJ Cu)(gv:dg P w K mg base cO 3 "_law_root" gq xD):dg P w K mg base cO 4 "_law_rows" iy Cv:=by
 refine F.ok cN (λvs H Q E h=> ?_) (λf cdv A outer s H vs Q E hr h=> ?_)
 ·obtain⟨t,bs,m,n,rfl,hT,bT,ev,ab,hB,f0,f1,D4,n0,n6,q⟩:=h
  rfl
 obtain⟨t,bs,m,n,rfl,hT,bT,ev,ab,hB,f0,f1,D4,n0,n6,q⟩:=h
 have hu:=hr.units
 refine⟨_,(lO (@ak _ _ _ _ _ (aC (i:=2) cN.nd rfl (Or.inl rfl) (cZ aj))
  (@ak _ _ _ _ _ (pW (i:=3) (j:=4) rfl cN.nd rfl rfl (by decide) rfl rfl (af (aL ja hr rfl aK (af (pv 0) (af (pv 1) (af ah aj)))) (af (aL ja hr rfl aK (af (pv 0) (af (pv 1) (af ah aj)))) aj)) rfl)
  (@ak _ _ _ _ _ (jH PassesOwn.never rfl (j4 rfl aR (af (ai bQ ah (pv 3)) (af (ai aO (pv 3) ah) aj))) (aP (i:=5) cN.nd rfl (Or.inl rfl)) (cU (jH PassesOwn.never rfl (j4 rfl aR (af (ai bQ ah (pv 4)) (af (ai aO (pv 4) ah) aj))) (aP (i:=6) cN.nd rfl (Or.inl rfl)) (lO (@ak _ _ _ _ _ (aC (i:=7) cN.nd rfl (Or.inl rfl) (ai bI (ai aO (ai bu (ai bu (aE aq (aE aq (pv 0) ah (λ_ _=>rfl)) ah (λ_ _=>rfl)) (pv 5)) (pv 5)) (ai bu (ai bu (aE aq (aE aq (pv 0) ah (λ_ _=>rfl)) ah (λ_ _=>rfl)) (pv 6)) (pv 6))) ah))
  (@ak _ _ _ _ _ (aC (i:=7) cN.nd rfl (Or.inl rfl) (ai aO (pv 7) (ai bu (ai bu (aE aq (aE aq (pv 0) ah (λ_ _=>rfl)) ah (λ_ _=>rfl)) (pv 5)) (pv 6))))
  (@ak _ _ _ _ _ (aC (i:=8) cN.nd rfl (Or.inl rfl) (ai aO (ai bu (aE aq (aE aq (pv 0) ah (λ_ _=>rfl)) ah (λ_ _=>rfl)) (pv 5)) (ai bu (aE aq (aE aq (pv 0) ah (λ_ _=>rfl)) ah (λ_ _=>rfl)) (pv 6))))
  (@ak _ _ _ _ _ (aC (i:=9) cN.nd rfl (Or.inl rfl) (ai bQ (ai bu (pv 8) (pv 8)) (ai bu (ai bu ah (aE aq (aE aq (pv 0) ah (λ_ _=>rfl)) ah (λ_ _=>rfl))) (ai bQ (pv 7) (pv 1)))))
  (@aJ _ _ _ (dM (bJ BC (pv 9) ah (bL _)) (@ak _ _ _ _ _ (aC (i:=10) cN.nd rfl (Or.inl rfl) (aL gv hr rfl aK (af (pv 9) aj)))
  (@aJ _ _ _ (dM (bJ oS (ai bu (pv 10) (pv 10)) (pv 9) (bL _)) (@aJ _ _ _ (jH PassesOwn.never rfl (gz (su wu (cZ (af (ai bQ (ai bQ ah (pv 8)) (pv 10)) (af (ai bQ (pv 10) (pv 8)) aj))) wk (wm (ai aO ah (pX uZ rfl nH PyProof.Rows.boot_int (af (kE nC (pv 10) ah (bL _)) aj)))))) (aP (i:=11) cN.nd rfl (Or.inl rfl)) (cU (dM (bJ oS (ai cu (pv 11) (aE aq (aE aq (pv 0) ah (λ_ _=>rfl)) ah (λ_ _=>rfl))) ah (bL _)) (@aJ _ _ _ (kC (EB PySem.F.plainAttrs_list PySem.F.slot_list_append PySem.F.type_list_append mX (pv 2) (af (cZ (af (pv 5) (af (pv 6) (af (ai bI (pv 11) (aE aq (aE aq (pv 0) ah (λ_ _=>rfl)) ah (λ_ _=>rfl))) aj)))) aj)))) eG)))) eG))) eG))))))))))
  (@aJ _ _ _ (aY (cR (l6 (eT.wY hr)) rfl fy PyProof.Rows.boot_sorted (af (pv 2) aj)))))))),?_⟩
 obtain⟨c0,x1,x2,_⟩:=aW hT bT (i:=0) (by decide)
 obtain⟨c1,y1,y2,_⟩:=aW hT bT (i:=1) (by decide)
 obtain⟨c2,w1,w2,_⟩:=aW hT bT (i:=2) (by decide)
 obtain⟨g0,g1,g2,D0,p0,p1,p2⟩:=DJ ev bT ab hB f0 f1
 obtain⟨RH,Qo,Qp⟩:=ev.sym
 have Lr:=hB 0 0 (by decide) (by decide)
 have Mi:=hB 0 1 (by decide) (by decide)
 have Mj:=hB 0 2 (by decide) (by decide)
 have Ls:=hB 1 1 (by decide) (by decide)
 have Lu:=hB 1 2 (by decide) (by decide)
 have Cn:=hB 2 2 (by decide) (by decide)
 have NP:Bd 20 m:=λi j hi hj=>Nat.lt_of_le_of_lt (hB i j hi hj) (by decide)
 have e0:Ek m 0=fV m 0 0:=by
  show ent m 1 1*ent m 2 2-ent m 1 2*ent m 1 2=ent m 1 1*ent m 2 2-ent m 1 2*ent m 2 1
  rw[Qp]
 have e1:Ek m 1=fV m 1 1:=by
  show ent m 2 2*ent m 0 0-ent m 2 0*ent m 2 0=ent m 2 2*ent m 0 0-ent m 2 0*ent m 0 2
  rw[Qo]
 refine⟨by decide,λD hD=> ?_⟩
 have s0:ay H (upd H D (.lst [])):=ay.up hD
 refine⟨_,rfl,_,rfl,t,bs,m,n,0,rfl,hT.same s0,bT,NP,D0,D4,n0,n6,by decide,(by omega),(by omega),λR0 z0 r1 r2=> ?_⟩
 refine⟨_,rfl,_,rfl,t,bs,m,n,1,rfl,hT.same s0,bT,NP,D0,D4,n0,n6,by decide,(by omega),(by omega),λR1 z1 r3 r4=> ?_⟩
 rw[e0]at r1 r2
 rw[e1]at r3 r4
 have L0:R0<2880:=rm D0 n0 n6 p0.1 (by omega) (by decide) r1
 have L1:R1<2102:=rm D0 n0 n6 p1.1 (by omega) (by decide) r3
 have RU:∀v:Nat->Int,bK m v=n-> -R0<=v 0/\v 0<=R0:=λv e=>vW D0 (qD ev bT ab e (by decide)) z0 r1 r2
 have in1:∀v:Nat->Int,bK m v=n-> -R1<=v 1/\v 1<=R1:=λv e=>vW D0 (qD ev bT ab e (by decide)) z1 r3 r4
 have RV:∀v:Nat->Int,bK m v=n-> -758<=v 2/\v 2<=758:=λv e=>DK (B:=758) D0 n0 n6 p2.1 (qD ev bT ab e (by decide)) (by omega)
 have RO:=xu ev g2 z0 z1 RU in1
 have few:(Cq m n R0 R1).length<16000000:=by
  have:=Gq ev g0 z1 (show(0:Int)<=758 by decide) in1 RV RO
  have k1:(2*R1+1).toNat<=4203:=by omega
  have k2:(2*(758:Int)+1).toNat=1517:=rfl
  rw[k2]at this
  have:=Nat.mul_le_mul_right 1517 k1
  omega
 refine⟨_,_,rfl,?_⟩
 refine⟨_,rfl,_,_,rfl,rfl,_,rfl,_,_,rfl,rfl,_,_,rfl,⟨by omega,by omega,by omega,by omega⟩,?_⟩
 refine gR (λi σ H'=> ∃o5 o6 o7 o8 o9 xx Cw as,σ=[some (.ref t),some (.int n),some (.ref D),some (.int R0),some (.int R1),o5,o6,o7,o8,o9,xx,Cw]/\SD D (upd H D (.lst [])) H'/\H' D=some (.lst (as.map V.ref))/\fj H' as/\(∀b∈as,H b=none)/\rws H' as=((dJ R0).take i).flatMap λx=>(dJ R1).flatMap λy=>cQ m n x y) ⟨_,_,_,_,_,_,_,[],rfl,SD.refl,au,λ_ h=>(nomatch h),λ_ h=>(nomatch h),rfl⟩ (λi σ H1 hi hh=> ?_) (λσ H1 hh=> ?_)
 ·obtain⟨o5,o6,o7,o8,o9,xx,Cw,as,rfl,sD,eD,ok,fr,er⟩:=hh
  obtain⟨x,ex⟩:∃x:Int,x=(i:Int) -R0:=⟨_,rfl⟩
  have ex':0-R0+(i:Int)=x:=by omega
  rw[ex']
  have gx:(dJ R0)[i]?=some x:=by rw[ex];exact vV (by omega)
  have bx:x.natAbs<=2880:=by omega
  have tx:=mO (λx=>(dJ R1).flatMap λy=>cQ m n x y) gx
  refine⟨_,rfl,_,_,rfl,rfl,_,rfl,_,_,rfl,rfl,_,_,rfl,⟨by omega,by omega,by omega,by omega⟩,?_⟩
  refine gR (λj σ H'=> ∃o6 o7 o8 o9 xx Cw as,σ=[some (.ref t),some (.int n),some (.ref D),some (.int R0),some (.int R1),some (.int x),o6,o7,o8,o9,xx,Cw]/\SD D (upd H D (.lst [])) H'/\H' D=some (.lst (as.map V.ref))/\fj H' as/\(∀b∈as,H b=none)/\rws H' as=(((dJ R0).take i).flatMap λx=>(dJ R1).flatMap λy=>cQ m n x y)++((dJ R1).take j).flatMap λy=>cQ m n x y) ⟨_,_,_,_,_,_,as,rfl,sD,eD,ok,fr,by rw[er];simp⟩ (λj σ H2 hj hh=> ?_) (λσ H2 hh=> ?_)
  ·clear sD eD ok fr er
   obtain⟨o6,o7,o8,o9,xx,Cw,as,rfl,sD,eD,ok,fr,er⟩:=hh
   obtain⟨y,ey⟩:∃y:Int,y=(j:Int) -R1:=⟨_,rfl⟩
   have Qm:0-R1+(j:Int)=y:=by omega
   rw[Qm]
   have gy:(dJ R1)[j]?=some y:=by rw[ey];exact vV (by omega)
   have bY:y.natAbs<=2880:=by omega
   have ty:=mO (λy=>cQ m n x y) gy
   have sm:ay H H2:=λa o e=>sD a o (λz=>by rw[z,hD]at e;cases e) (s0 _ _ e)
   have hT2:=hT.same sm
   have Ux:ent m 2 2<1073741824:=by clear bx bY;omega
   have X:=IT bx (by decide)
   have Y:=IT bY (by decide)
   have MX:=IT (zf hB bx bY) (by decide)
   have ns:=Gu hB bx bY n0 n6
   have C2:=IT (show(2*ent m 2 2).natAbs<=460 by clear ns MX X Y;omega) (by decide)
   show uw _ _ _ _ _
   with_reducible apply jE
   ·exact λR hR=>⟨_,rfl,t,_,_,_,rfl,rfl,aT.of hT2.1,x1,c0,_,_,_,rfl,rfl,aT.of (sm _ _ x2),rfl,_,rfl,_,_,rfl,rfl,.inr X,_,rfl,_,_,rfl,rfl,.inr X,_,rfl,t,_,_,_,rfl,rfl,aT.of hT2.1,y1,c1,_,_,_,rfl,rfl,aT.of (sm _ _ y2),rfl,_,rfl,_,_,rfl,rfl,.inr Y,_,rfl,_,_,rfl,rfl,.inr Y,_,_,rfl,rfl,_,_,rfl,rfl,⟨by decide,by decide⟩,hR⟩
   show uw _ _ _ _ _
   with_reducible apply jE (v:= .int (JE m x y))
   ·exact λR hR=>⟨_,rfl,_,rfl,t,_,_,_,rfl,rfl,aT.of hT2.1,x1,c0,_,_,_,rfl,rfl,aT.of (sm _ _ x2),rfl,_,rfl,_,_,rfl,rfl,.inr X,_,rfl,_,_,rfl,rfl,.inr Y,_,_,rfl,rfl,hR⟩
   show uw _ _ _ _ _
   with_reducible apply jE (v:= .int (nB m x y))
   ·exact λR hR=>⟨_,rfl,t,_,_,_,rfl,rfl,aT.of hT2.1,x1,c0,_,_,_,rfl,rfl,aT.of (sm _ _ x2),rfl,_,rfl,_,_,rfl,rfl,.inr X,_,rfl,t,_,_,_,rfl,rfl,aT.of hT2.1,y1,c1,_,_,_,rfl,rfl,aT.of (sm _ _ y2),rfl,_,rfl,_,_,rfl,rfl,.inr Y,_,_,rfl,rfl,hR⟩
   show uw _ _ _ _ _
   with_reducible apply jE (v:= .int (rX m n x y))
   ·exact λR hR=>⟨_,rfl,_,rfl,_,_,rfl,rfl,.inl MX,_,rfl,t,_,_,_,rfl,rfl,aT.of hT2.1,w1,c2,_,_,_,rfl,rfl,aT.of (sm _ _ w2),rfl,_,_,rfl,rfl,.inl ⟨by decide,by decide⟩,_,rfl,_,rfl,_,_,rfl,rfl,_,_,rfl,rfl,.inl C2,_,_,rfl,rfl,hR⟩
   have stay:∀{o7 o8 o9 xx Cw:Option V},cQ m n x y=[] -> ∃Uy Uz UA UB QA QB as,[some (V.ref t),some (.int n),some (.ref D),some (.int R0),some (.int R1),some (.int x),some (.int y),o7,o8,o9,xx,Cw]=[some (.ref t),some (.int n),some (.ref D),some (.int R0),some (.int R1),some (.int x),Uy,Uz,UA,UB,QA,QB]/\SD D (upd H D (.lst [])) H2/\H2 D=some (.lst (as.map V.ref))/\fj H2 as/\(∀b∈as,H b=none)/\rws H2 as=(((dJ R0).take i).flatMap λx=>(dJ R1).flatMap λy=>cQ m n x y)++((dJ R1).take (j+1)).flatMap λy=>cQ m n x y:=λz=>⟨_,_,_,_,_,_,as,rfl,sD,eD,ok,fr,by rw[ty,z,List.append_nil];exact er⟩
   refine⟨_,rfl,_,_,rfl,rfl,_,rfl,gS (λc=> ?_) (λc=> ?_)⟩
   ·have q0:0<=rX m n x y:=of_decide_eq_true c
    obtain⟨v0,v1,v2⟩:=kr q0
    refine⟨_,rfl,_,rfl,q0,(by show rX m n x y<2^62;clear X Y MX C2 bx bY Lr Mi Mj Ls Lu Cn;omega),λw h0 h1 h2=> ?_⟩
    obtain rfl:=nj h0 h1 h2
    have wb: -(2^64)<fZ (rX m n x y)/\fZ (rX m n x y)<2^64:=by
     refine⟨by clear X Y MX C2 bx bY Lr Mi Mj Ls Lu Cn ns;omega,Classical.byContradiction λc=> ?_⟩
     have:(2^64:Int)*2^64<=fZ (rX m n x y)*fZ (rX m n x y):=Int.mul_le_mul (by clear X Y MX C2 bx bY Lr Mi Mj Ls Lu Cn ns;omega) (by clear X Y MX C2 bx bY Lr Mi Mj Ls Lu Cn ns;omega) (by decide) v0
     clear X Y MX C2 bx bY Lr Mi Mj Ls Lu Cn
     omega
    refine⟨_,rfl,_,rfl,_,_,rfl,rfl,.inl wb,_,rfl,rfl,_,rfl,gS (λcq=> ?_) (λcq=> ?_)⟩
    ·have qe:fZ (rX m n x y)*fZ (rX m n x y)=rX m n x y:=V.int.inj (of_decide_eq_true cq)
     have el:cQ m n x y=dP m x y (gO (fZ (rX m n x y)) (nB m x y)):=by
      unfold cQ
      rw[if_pos ⟨q0,qe⟩]
     generalize fZ (rX m n x y)=w at v0 v1 v2 wb qe el h0 h1 h2 ⊢
     have QC:pY [V.int (0-nB m x y-w),.int (w-nB m x y)] none (some (1+(if decide (0<w)=true then 1 else 0)))=(gO w (nB m x y)).map V.int:=by
      unfold gO
      by_cases z:0<w
      ·rw[if_pos (decide_eq_true z),if_pos z];rfl
      ·rw[if_neg (λy=>z (of_decide_eq_true y)),if_neg z];rfl
     refine⟨_,rfl,_,_,rfl,rfl,_,rfl,_,_,rfl,rfl,_,rfl,_,rfl,_,_,rfl,rfl,(by show 2<=sizeLine;decide),λp hp=>⟨_,rfl,_,_,rfl,rfl,.inr ⟨_,rfl,_,_,rfl,rfl,_,rfl,p,_,rfl,aT.of au,λS hS=>⟨S,rfl,⟨_,aT.of au⟩,?_⟩⟩⟩⟩
     have Lj:ay H2 (upd (upd H2 p (.lst [V.int (0-nB m x y-w),.int (w-nB m x y)])) S (.lst (pY [V.int (0-nB m x y-w),.int (w-nB m x y)] none (some (1+(if decide (0<w)=true then 1 else 0)))))):=(ay.up hp).trans (ay.up hS)
     obtain⟨H4,RW⟩:∃J,J=upd (upd H2 p (.lst [V.int (0-nB m x y-w),.int (w-nB m x y)])) S (.lst (pY [V.int (0-nB m x y-w),.int (w-nB m x y)] none (some (1+(if decide (0<w)=true then 1 else 0))))):=⟨_,rfl⟩
     have eS:H4 S=some (.lst ((gO w (nB m x y)).map V.int)):=by rw[RW,<-QC];exact au
     have Qq:S≠D:=λz=>by rw[z,(ay.up hp) _ _ eD]at hS;cases hS
     rw[<-RW]at Lj ⊢
     obtain⟨Qs,Qt⟩:=ok.same Lj
     refine sj (xs:=(gO w (nB m x y)).map V.int) (λk σ H5=> ∃Cw as',σ=[some (.ref t),some (.int n),some (.ref D),some (.int R0),some (.int R1),some (.int x),some (.int y),some (.int (JE m x y)),some (.int (nB m x y)),some (.int (rX m n x y)),some (.int w),Cw]/\SD D H4 H5/\H5 D=some (.lst (as'.map V.ref))/\fj H5 as'/\(∀b∈as',H b=none)/\rws H5 as'=rws H2 as++dP m x y ((gO w (nB m x y)).take k)) ⟨_,as,rfl,SD.refl,Lj _ _ eD,Qs,fr,by rw[Qt];simp[dP]⟩ (λk σ H5 hk hh=> ?_) (λk v σ H5 hv hh=> ?_) (λσ H5 hh=> ?_)
     ·obtain⟨Cw,as',rfl,Lv,JI,Ej,Hv,Mk⟩:=hh
      exact aT.of (Lv _ _ Qq eS)
     ·obtain⟨Cw,as',rfl,Lv,JI,Ej,Hv,Mk⟩:=hh
      obtain⟨k',rfl,hk⟩:∃k',v= .int k'/\(gO w (nB m x y))[k]?=some k':=by
       rw[List.getElem?_map]at hv
       obtain⟨k',e,rfl⟩:=Option.map_eq_some_iff.mp hv
       exact⟨k',rfl,e⟩
      have tk:dP m x y ((gO w (nB m x y)).take (k+1))=dP m x y ((gO w (nB m x y)).take k)++dP m x y [k']:=by
       rw[List.take_add_one,hk]
       simp[dP]
      have Ox:ay H H5:=λa o e=>Lv a o (λz=>by rw[z,hD]at e;cases e) (Lj _ _ (sm _ _ e))
      have RX:=hT.same Ox
      refine⟨_,rfl,_,rfl,t,_,_,_,rfl,rfl,aT.of RX.1,w1,c2,_,_,_,rfl,rfl,aT.of (Ox _ _ w2),rfl,_,_,rfl,rfl,g2,rfl,_,rfl,gS (λc3=> ?_) (λc3=> ?_)⟩
      ·have c4:k'%ent m 2 2=0:=V.int.inj (of_decide_eq_true c3)
       refine⟨_,rfl,.inl ⟨rfl,_,aT.of JI⟩,?_⟩
       refine⟨_,rfl,_,rfl,_,rfl,_,rfl,t,_,_,_,rfl,rfl,aT.of RX.1,w1,c2,_,_,_,rfl,rfl,aT.of (Ox _ _ w2),rfl,_,_,rfl,rfl,⟨g2,Ux⟩,(by show 3<=sizeLine;decide),λb hb=> ?_⟩
       have ll:as'.length<sizeLine:=by
        have e:as'.length=(rws H5 as').length:=(List.length_map _).symm
        have h1:(dP m x y ((gO w (nB m x y)).take k)).length<=(cQ m n x y).length:=by rw[el];exact jW _ _ _
        have h2:=jW (λy=>cQ m n x y) (dJ R1) (j+1)
        have h3:=jW (λx=>(dJ R1).flatMap λy=>cQ m n x y) (dJ R0) (i+1)
        rw[ty,List.length_append]at h2
        rw[tx,List.length_append]at h3
        have f:((dJ R0).flatMap λx=>(dJ R1).flatMap λy=>cQ m n x y).length<16000000:=few
        rw[e,Mk,er,List.length_append,List.length_append]
        show _<16777216
        clear X Y MX C2 bx bY Lr Mi Mj Ls Lu Cn ns wb
        omega
       have bD:b≠D:=λz=>by rw[z,JI]at hb;cases hb
       obtain⟨Lp,Hj⟩:=fj.push (o:= .lst (as'.map V.ref++ [V.ref b])) (x:=x) (y:=y) (z:=k'/ent m 2 2) Ej JI hb bD
       refine⟨D,as'.map V.ref,.ref b,rfl,rfl,by rw[aG (λz=>bD z.symm)];exact JI,(by rw[List.length_map];exact ll),?_⟩
       refine⟨_,as'++ [b],rfl,(Lv.trans (SD.of (ay.up hb))).upd,?_,Lp,λc hc=> ?_,?_⟩
       ·rw[List.map_append]
        exact au
       ·rcases List.mem_append.mp hc with h|h
        ·exact Hv c h
        ·rw[List.mem_singleton.mp h];exact Ox.none hb
       ·rw[Hj,Mk,tk,List.append_assoc]
        simp[dP,c4]
      ·have c4:¬k'%ent m 2 2=0:=λz=>c3 (by rw[z];exact decide_eq_true rfl)
       refine⟨_,as',rfl,Lv,JI,Ej,Hv,?_⟩
       rw[tk,Mk]
       simp[dP,c4]
     ·obtain⟨Cw,as',rfl,Lv,JI,Ej,Hv,Mk⟩:=hh
      refine⟨_,_,_,_,_,_,as',rfl,(sD.trans (SD.of Lj)).trans Lv,JI,Ej,Hv,?_⟩
      rw[Mk,er,ty,el,List.length_map,List.take_length,List.append_assoc]
    ·exact stay (by
      unfold cQ
      rw[if_neg (λz=>cq (by rw[z.2];exact decide_eq_true rfl))])
   ·exact stay (by
     unfold cQ
     rw[if_neg (λz=>c (decide_eq_true z.1))])
  ·obtain⟨o6,o7,o8,o9,xx,Cw,as,rfl,sD,eD,ok,fr,er⟩:=hh
   refine⟨_,_,_,_,_,_,_,as,rfl,sD,eD,ok,fr,?_⟩
   have e:(R1+1- (0-R1)).toNat=(dJ R1).length:=by rw[qC];omega
   rw[er,e,List.take_length,tx]
 ·obtain⟨o5,o6,o7,o8,o9,xx,Cw,as,rfl,sD,eD,ok,fr,er⟩:=hh
  have e:(R0+1- (0-R0)).toNat=(dJ R0).length:=by rw[qC];omega
  rw[e,List.take_length]at er
  have er:rws H1 as=Cq m n R0 R1:=er
  rw[<-er]at RO
  have sm:=λ (v:Nat->Int) (z:bK m v=n) (i:Nat) (hi:i<3)=>(show(v i).natAbs<=2880 by
   have a:=RU v z
   have b:=in1 v z
   have c:=RV v z
   rcases bE hi with rfl|rfl|rfl<;>omega)
  have Lw:∀r∈rws H1 as,tP r:=λr hr i hi=>by
   obtain⟨v,rfl⟩:=RO.2.1 r hr
   have k:=sm v ((RO.2.2 v).mp hr) i hi
   refine Nat.lt_of_le_of_lt (m:=2880) ?_ (Nat.lt_of_lt_of_le (m:=2^12) (by decide) (Nat.pow_le_pow_right (by decide) (by decide)))
   rcases bE hi with rfl|rfl|rfl<;>exact k
  refine⟨_,rfl,mG (aT.of eD) ok (λb hb=>Lw _ (rW hb)) λbs' pb so l hl=> ?_⟩
  have Ej:fj H1 bs':=λb hb=>ok b (pb.mem_iff.mp hb)
  obtain⟨Lp,Hj⟩:=Ej.same (ay.up (o:= .lst (bs'.map V.ref)) hl)
  have s1:ay H (upd H1 l (.lst (bs'.map V.ref))):=λa o e=>(sD.trans (SD.of (ay.up hl))) a o (λz=>by rw[z,hD]at e;cases e) (s0 _ _ e)
  have s2:ay H H1:=λa o e=>sD a o (λz=>by rw[z,hD]at e;cases e) (s0 _ _ e)
  refine q l bs' _ s1 (s2.none hl) (λb hb=>fr b (pb.mem_iff.mp hb)) au Lp ?_ (by rw[Hj];exact so)
  rw[Hj]
  exact RO.perm (tR pb)
def Cy(K:PySem.W.Frag)(tabs f9:List Addr):Sp:=λvs H Q _=> ∃(a:Addr) (ns:List Int),vs=[.ref a]/\aT K H a (ns.map V.int)/\ns.length<=63/\(∀T∈tabs,H T=some (dG T))/\(∀T∈f9,H T=some .xY)/\ ∀H',ay H H'->Q (.bl true) H'
theorem Lx{f:Addr}{fd:FuncData}{bh aV aD br aF aS cB:Addr}{tabs f9:List Addr}(nA:bh∈tabs)(jF:aV∈tabs)(fP:aD∈tabs)(k9:br∈tabs)(lq:aF∈tabs)(jG:aS∈f9)(zo:cB∈tabs)(F:Jj K "law" "law" pK f fd)(aR:mg "range"=none)(iz:mg "len"=none)(GA:mg "min"=none)(kU:mg "list"=none)(nH:mg "int"=none)(b8:mg "isinstance"=none)(qv:mg "bool"=none)(f6:dg P w K mg base cO 12 "_law_number" fY (xy K))(mP:dg P w K mg base cO 12 "_law_form" iw Gz)(lu:dg P w K mg base cO 12 "_law_basis" gI Cs)(gP:dg P w K mg base cO 12 "_law_product" fN Ct)(gu:dg P w K mg base cO 12 "_law_over" gp qu)(mQ:dg P w K mg base cO 12 "_law_rows" iy Cv)(jv:dg P w K mg base cO 12 "how_many" jq (Gx bh aV aD br aF aS))(qH:dg P w K mg base cO 12 "rows_of" kq (zj bh aV aD br aF aS cB)):oV P w K mg base cO 13 f fd ["_law_script"] (Cy K tabs f9):=by
 refine F.ok jU (λvs H Q E h=> ?_) (λcdv A outer s H vs Q E hr h=> ?_)
 ·obtain⟨a,ns,rfl,hS,h63,hT,hC,q⟩:=h
  rfl
 obtain⟨a,ns,rfl,hS,h63,hT,hC,q⟩:=h
 have hu:=hr.units
 refine⟨_,(lO (@ak _ _ _ _ _ (aC (i:=1) jU.nd rfl (Or.inl rfl) (aL mP hr rfl aK (af (aL f6 hr rfl aK (af (pv 0) (af ah aj))) (af ah aj))))
  (@ak _ _ _ _ _ (aC (i:=2) jU.nd rfl (Or.inl rfl) (aL lu hr rfl aK (af (aL f6 hr rfl aK (af (pv 0) (af ah aj))) (af ah (af ah aj)))))
  (@ak _ _ _ _ _ (aC (i:=3) jU.nd rfl (Or.inl rfl) (aL gP hr rfl aK (af (aL gP hr rfl aK (af (pv 2) (af (pv 1) aj))) (af (aL gu hr rfl aK (af (pv 2) aj)) aj))))
  (@ak _ _ _ _ _ (jH PassesOwn.never rfl (j4 rfl aR (af ah (af (ai aO ah (cR (CH rfl) rfl GA PyProof.Rows.boot_min (af ah (af (cR eV rfl iz PySem.boot_len (af (pv 0) aj)) aj)))) aj))) (aP (i:=4) jU.nd rfl (Or.inl rfl)) (lO (@ak _ _ _ _ _ (aC (i:=5) jU.nd rfl (Or.inl rfl) (aL f6 hr rfl aK (af (pv 0) (af (pv 4) aj))))
  (@ak _ _ _ _ _ (aC (i:=6) jU.nd rfl (Or.inl rfl) (aE aq (cZ (af (ai cu (ai bI (pv 5) ah) ah) (af (ai cu (ai bI (pv 5) ah) ah) aj))) (pX uZ rfl nH PyProof.Rows.boot_int (af (wc (kE oS (pv 4) ah (bL _)) (v9 (kE oS (ai cu (pv 5) ah) ah (bL _)))) aj)) (λ_ _=>rfl)))
  (@ak _ _ _ _ _ (aC (i:=7) jU.nd rfl (Or.inl rfl) (cR eV rfl iz PySem.boot_len (af (aL mQ hr rfl aK (af (pv 1) (af (pv 6) aj))) aj)))
  (@ak _ _ _ _ _ (KO (i:=8) jU.nd rfl rfl (N2:=["_law_script","_law_form_here","_law_basis_here","_law_there","_law_k","_law_big","_law_n","_law_due","_law_handed","_law_found"]) (te:=(NY (BP K) (dI (bH 0) jI))) rfl (gz (pv 3)) (by kernel_rfl) rfl (λ_ _ _=>by exact iV (pX wC rfl kU PyProof.Rows.boot_list (af (pv 0) aj))))
  (@ak _ _ _ _ _ (aC (i:=9) jU.nd rfl (Or.inl rfl) (aL jv hr rfl aK (af (pv 8) (af (pv 6) aj))))
  (@ak _ _ _ _ _ (dM (PW.pt (oQ (pV (kB (cR gj rfl b8 PyProof.Rows.boot_isinstance (af (pv 9) (af (mW (v:= .ty "int") rfl nH PyProof.Rows.boot_int rfl) aj))))) (oQ (kB (cR gj rfl b8 PyProof.Rows.boot_isinstance (af (pv 9) (af (mW (v:= .ty "bool") rfl qv PyProof.Rows.boot_bool rfl) aj)))) (oQ (bJ yc (pv 9) (pv 7) (bL _)) (r8 (bJ (KJ hu) (pv 8) (pv 3) (bL _))))))) (@aJ _ _ _ (aY r6)) eG)
  (@aJ _ _ _ (dM (PW.pt (oQ (bJ yc (aL jv hr rfl aK (af (pv 1) (af (pv 6) aj))) (pv 7) (bL _)) (oQ (bJ yc (cR eV rfl iz PySem.boot_len (af (aL qH hr rfl aK (af (pv 3) (af (pv 6) aj))) aj)) (pv 7) (bL _)) (r8 (PW.pt (JT (bJ nC (pv 6) ah (bL _)) (Hs (bJ oS (ai cu (pv 9) ah) ah (bL _))))))))) (@aJ _ _ _ (aY r6)) eG))))))))))
  (@aJ _ _ _ (aY (kE oS (aL jv hr rfl aK (af (pv 3) (af ah aj))) ah (bL _))))))))),?_⟩
 refine⟨_,rfl,a,ns,_,rfl,hS,h63,by omega,λz0=>⟨_,_,rfl,by decide,λfa fb fc fp fq fr t bs H1 hF hd s1 ft Vd nt nd T=> ?_⟩⟩
 obtain⟨i1,i2,i3,⟨i4,UC,QD⟩,i5,i6,i7,i8,i9,UD,RY⟩:=hF
 have bM:Bd 30 (fW (2*fa) (2*fb) (2*fc) fp fq fr):=wL (by omega) (by omega) (by omega) (by omega) (by omega) (by omega)
 have hB:∀i j,i<3->j<3->(ent (fW (2*fa) (2*fb) (2*fc) fp fq fr) i j).natAbs<=230:=Gv (by omega) (by omega) (by omega) (by omega) (by omega) (by omega)
 have cM:cz (fW (2*fa) (2*fb) (2*fc) fp fq fr):=cF _
 have ev:=CY fa fb fc fp fq fr
 have ab:=Ag i1 i2 i5 i6 RY
 have f0:ent (fW (2*fa) (2*fb) (2*fc) fp fq fr) 0 0<=16:=by show 2*fa<=16;omega
 have f1:ent (fW (2*fa) (2*fb) (2*fc) fp fq fr) 1 1<=30:=by show 2*fb<=30;omega
 generalize fW (2*fa) (2*fb) (2*fc) fp fq fr=M at T bM hB cM ev ab hd f0 f1
 have D4:aA M<=401:=by omega
 clear i1 i2 i3 i4 UC QD i5 i6 i7 i8 i9 UD RY
 have hl:(ns.map V.int).length=ns.length:=List.length_map _
 refine⟨_,rfl,a,ns,_,rfl,s1.seq hS,h63,by omega,λz1=>⟨_,_,_,rfl,by decide,by decide,by decide,by decide,λmb tb RZ H2 cb dB Ly s2 Ve Vf Vg Tb=> ?_⟩⟩
 have dB:Bd 77 mb:=dB.mono (by decide)
 refine⟨_,rfl,_,rfl,tb,RZ,mb,t,bs,M,rfl,Tb,T.same s2,cb,cM,dB.mono (by decide),bM.mono (by decide),λr rs H3 s3 fr frs nr Tr=> ?_⟩
 refine⟨_,rfl,tb,RZ,mb,rfl,Tb.same s3,cb,λo os H4 s4 fo TL no To=> ?_⟩
 refine⟨r,rs,_,o,os,_,rfl,Tr.same s4,To,cF _,cF _,(rS dB bM).mono (by decide),(sN dB).mono (by decide),λu us H5 s5 fu PZ nu Tu=> ?_⟩
 have Sa:=s2.trans (s3.trans (s4.trans s5))
 have Ml:=s1.trans Sa
 have T5:=T.same Sa
 have Tu:Tab H5 u us (fH M mb):=Tu
 have cC:cz (fH M mb):=(show cz (ir (ir mb M) (cL mb))from cF _)
 have dC:Bd 440 (fH M mb):=(rS (rS dB bM) (sN dB)).mono (by decide)
 have NQ:=vC ev cM cb
 have NR:=sR (dQ ev cM) ab cb Ly
 have Oz:aA (fH M mb)/2<=200:=by rw[yw Ly];exact hd
 have Lz:∀{n:Int} {L L':List (List Int)},dZ (fH M mb) n L->dZ M n L'->L.length=L'.length:=λh h'=>by
  rw[<-List.length_map (uI mb)]
  exact zg (om Ly h) h'
 generalize fH M mb=C at Tu cC dC NQ NR Oz Lz
 have UE:=Ml.trans (ay.refl _)
 obtain⟨mn,UG,Vh,Vi⟩:∃mn:Int,(if((ns.map V.int).length:Int)<3 then((ns.map V.int).length:Int)else 3)=mn/\0<=mn/\mn<=3:=⟨_,rfl,by split<;>omega,by split<;>omega⟩
 refine⟨_,rfl,a,_,rfl,.inl (Ml.seq hS),_,_,rfl,_,_,rfl,rfl,_,_,rfl,?_⟩
 rw[UG]
 refine⟨⟨by decide,by decide,by omega,by omega⟩,?_⟩
 refine gR (λi σ H'=> ∃o4 o5 o6 o7 o8 o9,σ=[some (.ref a),some (.ref t),some (.ref tb),some (.ref u),o4,o5,o6,o7,o8,o9]/\ay H5 H') ⟨_,_,_,_,_,_,rfl,ay.refl _⟩ (λi σ H6 hi hh=> ?_) (λσ H6 hh=> ?_)
 ·obtain⟨o4,o5,o6,o7,o8,o9,rfl,s6⟩:=hh
  have IV:=Ml.trans s6
  refine⟨_,rfl,_,rfl,a,ns,_,rfl,IV.seq hS,h63,by omega,λz2=> ?_⟩
  refine gN ?_
  with_reducible apply zc (λv H'=> ∃n:Int,v= .int n/\0<=n/\n<=600/\ay H6 H')
  ·intro R hR
   have pick:∀(b:Bool) (p:Addr),H6 p=none-> ∃v,xZ [V.int (z2/8%61),.int (z2/8%601)] (if b=true then 1 else 0)=some v/\R v (upd H6 p (.lst [V.int (z2/8%61),.int (z2/8%601)])):=λb p hp=>by
    cases b
    ·exact⟨_,rfl,hR _ _ ⟨_,rfl,by omega,by omega,ay.up hp⟩⟩
    ·exact⟨_,rfl,hR _ _ ⟨_,rfl,by omega,by omega,ay.up hp⟩⟩
   refine⟨_,rfl,_,_,rfl,rfl,⟨by decide,by decide⟩,_,_,rfl,rfl,(by decide),_,rfl,_,_,rfl,rfl,⟨by decide,by decide⟩,_,_,rfl,rfl,(by decide),(by show 2<=sizeLine;decide),λp hp=>⟨_,rfl,rfl,_,rfl,gS (λc=> ?_) (λc=> ?_)⟩⟩
   ·obtain⟨v,hv,KH⟩:=pick (decide (V.int (z2%8)=V.int 5)) p hp
    exact⟨_,rfl,_,_,rfl,rfl,(by decide),rfl,.inr ⟨_,rfl,p,_,_,_,rfl,rfl,aT.of au,hv,KH⟩⟩
   ·obtain⟨v,hv,KH⟩:=pick false p hp
    exact .inr ⟨_,rfl,p,_,_,_,rfl,rfl,aT.of au,hv,KH⟩
  rintro _ H7 ⟨n,rfl,n0,n6,s7⟩
  have Sb:=s6.trans s7
  refine⟨_,rfl,_,rfl,t,bs,M,n,rfl,T5.same Sb,cM,ev,ab,hB,f0,f1,D4,n0,n6,λdu QE H8 s8 UH QF Sd okd Rd sd=>⟨du,_,rfl,.inl (aT.of Sd),?_⟩⟩
  have Se:=Sb.trans s8
  have ld:(QE.map V.ref).length=(rws H8 QE).length:=by simp[rws]
  rw[ld]
  generalize rws H8 QE=L at Rd sd
  clear Sd okd ld QF UH sd
  have Sf:=Tu.same Se
  refine⟨_,rfl,u,rfl,⟨_,aT.of Sf.1⟩,λD hD=>Fw Sf (by rw[cC.1];decide) hD λUI H9 s9 Vj nh Vk Th=> ?_⟩
  have Sh:=Se.trans s9
  have Mm:=Ml.trans Sh
  refine⟨_,rfl,_,rfl,D,UI,C,n,rfl,Th,cC,dC,NQ,NR,Oz,n0,n6,(Mm) _ _ (hT _ nA),(Mm) _ _ (hT _ jF),(Mm) _ _ (hT _ fP),(Mm) _ _ (hT _ k9),(Mm) _ _ (hT _ lq),(Mm) _ _ (hC _ jG),λL1 Ha sa R1=> ?_⟩
  have e1:=Lz R1 Rd
  have NS:=Sh.trans sa
  have LA:=Ml.trans NS
  refine⟨_,rfl,_,_,_,_,rfl,.int _,oY K "int",_,rfl,wD ⟨_,rfl,_,_,_,_,rfl,.int _,oZ K,_,rfl,wD ?_⟩⟩
  refine⟨_,rfl,_,rfl,rfl,_,rfl,vh (by rw[e1]) ?_⟩
  refine⟨_,rfl,_,rfl,IU (Th.same sa) (Tu.same NS) ⟨_,rfl,vh rfl ?_⟩⟩
  refine⟨_,rfl,_,rfl,t,bs,M,n,rfl,T5.same NS,cM,bM.mono (by decide),ev,ab,hd,n0,n6,(LA) _ _ (hT _ nA),(LA) _ _ (hT _ jF),(LA) _ _ (hT _ fP),(LA) _ _ (hT _ k9),(LA) _ _ (hT _ lq),(LA) _ _ (hC _ jG),λL2 Hb sb R2=> ?_⟩
  have LB:=LA.trans sb
  refine⟨_,rfl,rfl,_,rfl,vh (by rw[zg R2 Rd]) ?_⟩
  refine⟨_,rfl,_,rfl,u,us,C,n,rfl,Tu.same (NS.trans sb),cC,dC,NQ,NR,Oz,n0,n6,(LB) _ _ (hT _ nA),(LB) _ _ (hT _ jF),(LB) _ _ (hT _ fP),(LB) _ _ (hT _ k9),(LB) _ _ (hT _ lq),(LB) _ _ (hC _ jG),(LB) _ _ (hT _ zo),λr as Hc sc fr frs er ok nr R3 sm so al=> ?_⟩
  have l3:(as.map V.ref).length=(rws Hc as).length:=by simp[rws]
  refine⟨r,_,rfl,.inl (aT.of er),_,rfl,rfl,_,rfl,vh (by rw[l3,Lz R3 Rd]) ?_⟩
  have go:ay H5 Hc:=NS.trans (sb.trans sc)
  refine⟨_,rfl,_,_,rfl,rfl,_,rfl,gS (λc=> ?_) (λc=> ?_)⟩
  ·have c:0<n:=of_decide_eq_true c
   have Vl:=DM (show n≠0 by omega) R1
   refine⟨_,rfl,_,_,rfl,rfl,(by decide),rfl,_,rfl,gS (λc2=> ?_) (λc2=> ?_)⟩
   ·have c2:=V.int.inj (of_decide_eq_true c2)
    omega
   ·exact⟨_,_,_,_,_,_,rfl,go⟩
  ·exact wD ⟨_,_,_,_,_,_,rfl,go⟩
 ·obtain⟨o4,o5,o6,o7,o8,o9,rfl,s6⟩:=hh
  have IV:=Ml.trans s6
  refine⟨_,rfl,u,us,C,0,rfl,Tu.same s6,cC,dC,NQ,NR,Oz,Int.le_refl 0,by decide,(IV) _ _ (hT _ nA),(IV) _ _ (hT _ jF),(IV) _ _ (hT _ fP),(IV) _ _ (hT _ k9),(IV) _ _ (hT _ lq),(IV) _ _ (hC _ jG),λL1 H7 s7 R1=> ?_⟩
  rw[DL NQ cC NR R1]
  exact⟨rfl,q _ (IV.trans s7)⟩
end
theorem all_mk{l:PySem.W.OpenLaw}{q:Program}{loose:List Str}{mean:ExcName->Option Value}{w:World}{K:PySem.W.Frag}{h:Heap}{mg mb:Str->Option Value}{fa vX uQ tY uS IW DN DO AQ zp tZ lM DP LC vY IY xG DQ xH t6 AR xJ LD LF GB zq t7 rK DR AS t8 uT AU xK zu xM zv xN t9 zw xO zx GC:Addr}(X:K.In h)(Tp:PyProof.Rows.Top q loose mean mg mb h)(UJ:mg "law"=some (.ref fa))
  (qI:FnAt K "product" qd vX)
  (jX:FnAt K "turned_over" jP uQ)
  (jx:FnAt K "signed_minor" jm tY)
  (jY:FnAt K "determinant" jQ uS)
  (xP:FnAt K "cover" w5 IW)
  (qJ:FnAt K "carried" qf DN)
  (qK:FnAt K "low_row" qj DO)
  (oA:FnAt K "is_whole" nS AQ)
  (uc:FnAt K "is_row" sZ zp)
  (oB:FnAt K "is_table" nT tZ)
  (iN:FnAt K "is_even_table" iI lM)
  (qL:FnAt K "is_form" qh DP)
  (AV:FnAt K "half" Ay LC)
  (qM:FnAt K "pairing" qi vY)
  (xQ:FnAt K "worth" w6 IY)
  (ly:FnAt K "less_times" kM xG)
  (qN:FnAt K "nearest" ql DQ)
  (lz:FnAt K "least_pair" kN xH)
  (oE:FnAt K "in_order" nV t6)
  (oF:FnAt K "drawn_in" nW AR)
  (lC:FnAt K "near_basis" kO xJ)
  (AW:FnAt K "near" AA LD)
  (AX:FnAt K "root" AB LF)
  (ud:FnAt K "slices" tE GB)
  (mR:FnAt K "near_rows" mz zq)
  (oG:FnAt K "by_basis" nX t7)
  (iO:FnAt K "refuse_others" iJ rK)
  (qO:FnAt K "rows_of" qt DR)
  (oH:FnAt K "how_many" nZ AS)
  (jy:FnAt K "_law_cell_at" jr t8)
  (jZ:FnAt K "_law_number" jS uT)
  (oJ:FnAt K "_law_det" n9 AU)
  (lD:FnAt K "_law_shape" kQ xK)
  (mS:FnAt K "_law_form" mD zu)
  (lE:FnAt K "_law_basis" kR xM)
  (mT:FnAt K "_law_over" mC zv)
  (lF:FnAt K "_law_along" kP xN)
  (jz:FnAt K "_law_product" jt t9)
  (mU:FnAt K "_law_root" mE zw)
  (lG:FnAt K "_law_reach" kT xO)
  (mV:FnAt K "_law_rows" mF zx)
  {LG GD:Option Addr}{LH:Array (Option Value)}{LJ GF GG GH AY GI:Value}(Cz:PySem.W.nsIn K mainGlobals "law"=some (some (.ref GC)))(GJ:K.lookup GC=some ⟨LJ,LG,.func (PySem.W.fnOf "law" "law" (f7 pK) (eL pK) (az pK) .none GF GG GH GD AY GI),LH⟩)(GK:PySem.W.codeIn K AY "law"=true)(GL:PySem.W.keepIn K (.ref GC)=true)
  {DS:DefRec}(qP:(PyProof.Rows.recsOf q).find? (λe=>e.name==("product":Str))=some DS)
  {GN:DefRec}(uf:(PyProof.Rows.recsOf q).find? (λe=>e.name==("is_row":Str))=some GN)
  {AZ:DefRec}(oK:(PyProof.Rows.recsOf q).find? (λe=>e.name==("is_table":Str))=some AZ)
  {rL:DefRec}(iP:(PyProof.Rows.recsOf q).find? (λe=>e.name==("is_even_table":Str))=some rL)
  {DT:DefRec}(qQ:(PyProof.Rows.recsOf q).find? (λe=>e.name==("pairing":Str))=some DT)
  {Ba:DefRec}(oM:(PyProof.Rows.recsOf q).find? (λe=>e.name==("in_order":Str))=some Ba)
  {Bb:DefRec}(oN:(PyProof.Rows.recsOf q).find? (λe=>e.name==("by_basis":Str))=some Bb)
  (GO:PySem.W.nsIn K mainGlobals "sum"=some none)
  (ni:PySem.W.nsIn K mainGlobals "range"=some none)
  (lH:PySem.W.nsIn K mainGlobals "isinstance"=some none)
  (GP:PySem.W.nsIn K mainGlobals "int"=some none)
  (y_bool:PySem.W.nsIn K mainGlobals "bool"=some none)
  (Bc:PySem.W.nsIn K mainGlobals "list"=some none)
  (GQ:PySem.W.nsIn K mainGlobals "len"=some none)
  (GR:PySem.W.nsIn K mainGlobals "all"=some none)
  {iL:_}(iQ:PySem.W.nsIn K mainGlobals "GREATEST_HALF"=some (some (Value.int 200 iL)))
  (GU:PySem.W.nsIn K mainGlobals "zip"=some none)
  (ug:PySem.W.nsIn K mainGlobals "sorted"=some none)
  {eN:_}(g8:PySem.W.nsIn K mainGlobals "GREATEST_WORTH"=some (some (Value.int 600 eN)))
  (GV:PySem.W.nsIn K mainGlobals "abs"=some none)
  (GW:PySem.W.nsIn K mainGlobals "min"=some none)
  (ap:EW K [vX,zp,tZ,lM,vY,t7] [t6]=true)
  :∃(fd:FuncData) (tabs f9:List Addr),(∀(s:Shared) (v:Value),BindsTo s fd ⟨[v],[]⟩ [("_law_script",v)])/\(∀T∈tabs++f9,isCodeTable h T/\h.get? T=some {cls:= .none,data:= .fields #[]})/\(∀T∈tabs,T∉f9)/\ ∀base:Heap,K.In base->base.Ns mainGlobals mg->BM mg base->oV l.prog w K mg base cO 40 fa fd ["_law_script"] (Cy K tabs f9):=by
 have G:=Tp.g
 have e:=UJ.symm.trans (PySem.W.mg_of X G Cz)
 cases e
 have Sj:=PySem.W.mg_of X G Cz
 obtain⟨br,DU,Be,Bf,Bg⟩:=qI.Au (ps:=kg) Tp X qP
 have uU:=jX.fun (ps:=fz) Tp X
 have uh:=jx.fun (ps:=fK) Tp X
 have uV:=jY.fun (ps:=eH) Tp X
 have IZ:=xP.fun (ps:=pJ) Tp X
 have DW:=qJ.fun (ps:=kh) Tp X
 have DX:=qK.fun (ps:=kj) Tp X
 have Bh:=oA.fun (ps:=gY) Tp X
 obtain⟨bh,GX,DY,DZ,Ea⟩:=uc.Au (ps:=mq) Tp X uf
 obtain⟨aV,Bj,zy,zA,zB⟩:=oB.Au (ps:=jl) Tp X oK
 obtain⟨aD,rM,qR,qS,qT⟩:=iN.Au (ps:=fm) Tp X iP
 have Eb:=qL.fun (ps:=ki) Tp X
 have LK:=AV.fun (ps:=qk) Tp X
 obtain⟨aF,Ec,Bl,Bm,Bo⟩:=qM.Au (ps:=gZ) Tp X qQ
 have Ja:=xQ.fun (ps:=kL) Tp X
 have xR:=ly.fun (ps:=fO) Tp X
 have Ed:=qN.fun (ps:=ko) Tp X
 have xS:=lz.fun (ps:=gE) Tp X
 obtain⟨aS,Bq,zC,zD,gw⟩:=oE.Au (ps:=g6) Tp X oM
 have Br:=oF.fun (ps:=jn) Tp X
 have xT:=lC.fun (ps:=gF) Tp X
 have LL:=AW.fun (ps:=qm) Tp X
 have LM:=AX.fun (ps:=qo) Tp X
 have GY:=ud.fun (ps:=mw) Tp X
 have zE:=mR.fun (ps:=gn) Tp X
 obtain⟨cB,Bs,zF,zG,zH⟩:=oG.Au (ps:=jo) Tp X oN
 have rN:=iO.fun (ps:=d9) Tp X
 have Ef:=qO.fun (ps:=kq) Tp X
 have Bt:=oH.fun (ps:=jq) Tp X
 have um:=jy.fun (ps:=fM) Tp X
 have uW:=jZ.fun (ps:=fY) Tp X
 have Bu:=oJ.fun (ps:=gf) Tp X
 have xU:=lD.fun (ps:=gH) Tp X
 have zI:=mS.fun (ps:=iw) Tp X
 have xV:=lE.fun (ps:=gI) Tp X
 have zJ:=mT.fun (ps:=gp) Tp X
 have xW:=lF.fun (ps:=gG) Tp X
 have uo:=jz.fun (ps:=fN) Tp X
 have zK:=mU.fun (ps:=gq) Tp X
 have xX:=lG.fun (ps:=gJ) Tp X
 have zL:=mV.fun (ps:=iy) Tp X
 have NU:=EC (st:=pK) GJ GK GL
 have pL:=PySem.W.mg_none_of X G GO
 have aR:=PySem.W.mg_none_of X G ni
 have b8:=PySem.W.mg_none_of X G lH
 have nH:=PySem.W.mg_none_of X G GP
 have qv:=PySem.W.mg_none_of X G y_bool
 have kU:=PySem.W.mg_none_of X G Bc
 have iz:=PySem.W.mg_none_of X G GQ
 have pM:=PySem.W.mg_none_of X G GR
 have iM:=PySem.W.mg_of X G iQ
 have pN:=PySem.W.mg_none_of X G GU
 have fy:=PySem.W.mg_none_of X G ug
 have dR:=PySem.W.mg_of X G g8
 have Gy:=PySem.W.mg_none_of X G GV
 have GA:=PySem.W.mg_none_of X G GW
 refine⟨PySem.W.fnOf "law" "law" (f7 pK) (eL pK) (az pK) .none GF GG GH GD AY GI,[br,bh,aV,aD,aF,cB],[aS],λs v=> .of_eq rfl,λT hT=> ?_,λT hT hC=> ?_,λbase LP _ bm=> ?_⟩
 ·simp only[List.mem_append,List.mem_cons,List.not_mem_nil,or_false,or_assoc]at hT
  rcases hT with rfl|rfl|rfl|rfl|rfl|rfl|rfl
  ·exact⟨Be,Bf⟩
  ·exact⟨DY,DZ⟩
  ·exact⟨zy,zA⟩
  ·exact⟨qR,qS⟩
  ·exact⟨Bl,Bm⟩
  ·exact⟨zF,zG⟩
  ·exact⟨zC,zD⟩
 ·simp only[List.mem_cons,List.not_mem_nil,or_false]at hT hC
  rcases hT with e|e|e|e|e|e
  ·exact j7 ap (by simp) (by simp) Bg gw (e.symm.trans hC)
  ·exact j7 ap (by simp) (by simp) Ea gw (e.symm.trans hC)
  ·exact j7 ap (by simp) (by simp) zB gw (e.symm.trans hC)
  ·exact j7 ap (by simp) (by simp) qT gw (e.symm.trans hC)
  ·exact j7 ap (by simp) (by simp) Bo gw (e.symm.trans hC)
  ·exact j7 ap (by simp) (by simp) zH gw (e.symm.trans hC)
 have m7:=AD (P:=l.prog) (w:=w) (mg:=mg) (base:=base) DU bm pL aR
 have fC:=tF (P:=l.prog) (w:=w) (mg:=mg) (base:=base) uU aR
 have ju:=rG (P:=l.prog) (w:=w) (mg:=mg) (base:=base) uh
 have cW:=tH (P:=l.prog) (w:=w) (mg:=mg) (base:=base) uV
 have xh:=Gf (P:=l.prog) (w:=w) (mg:=mg) (base:=base) IZ aR ju.mono
 have qA:=AE (P:=l.prog) (w:=w) (mg:=mg) (base:=base) DW m7.mono fC.mono
 have qx:=AF (P:=l.prog) (w:=w) (mg:=mg) (base:=base) DX cW.mono xh.mono
 have g7:=yP (P:=l.prog) (w:=w) (mg:=mg) (base:=base) Bh b8 nH qv
 have tK:=Dy (P:=l.prog) (w:=w) (mg:=mg) (base:=base) GX bm b8 kU iz pM g7.mono
 have oh:=yQ (P:=l.prog) (w:=w) (mg:=mg) (base:=base) Bj bm b8 kU iz pM tK.mono
 have iK:=qw (P:=l.prog) (w:=w) (mg:=mg) (base:=base) rM bm pM aR oh.mono fC.mono
 have qy:=AG (P:=l.prog) (w:=w) (mg:=mg) (base:=base) Eb iK.mono qx.mono
 have qF:=IF (P:=l.prog) (w:=w) (mg:=mg) (base:=base) LK iM qy.mono cW.mono
 have dF:=AI (P:=l.prog) (w:=w) (mg:=mg) (base:=base) Ec bm pL pN
 have gK:=Gg (P:=l.prog) (w:=w) (mg:=mg) (base:=base) Ja dF.mono
 have eY:=uB (P:=l.prog) (w:=w) (mg:=mg) (base:=base) xR pN
 have qz:=AJ (P:=l.prog) (w:=w) (mg:=mg) (base:=base) Ed
 have kW:=uC (P:=l.prog) (w:=w) (mg:=mg) (base:=base) xS eY.mono qz.mono dF.mono gK.mono
 have gh:=yU (P:=l.prog) (w:=w) (mg:=mg) (base:=base) Bq bm fy gK.mono
 have oi:=yV (P:=l.prog) (w:=w) (mg:=mg) (base:=base) Br dF.mono eY.mono gh.mono
 have kX:=uE (P:=l.prog) (w:=w) (mg:=mg) (base:=base) xT gh.mono kW.mono oi.mono gK.mono
 have qG:=II (P:=l.prog) (w:=w) (mg:=mg) (base:=base) LL kX.mono qA.mono
 have oj:=IK (P:=l.prog) (w:=w) (mg:=mg) (base:=base) LM
 have tV:=DG (P:=l.prog) (w:=w) (mg:=mg) (base:=base) GY aR cW.mono oj.mono
 have gr:=xw (P:=l.prog) (w:=w) (mg:=mg) (base:=base) zE fy tV.mono oj.mono
 have ow:=zh (P:=l.prog) (w:=w) (mg:=mg) (base:=base) Bs bm pL aR
 have ef:=qE (P:=l.prog) (w:=w) (mg:=mg) (base:=base) rN g7.mono
 have qH:=AO (P:=l.prog) (w:=w) (mg:=mg) (base:=base) Ef fy dR qF.mono ef.mono qG.mono gr.mono ow.mono
 have jv:=zk (P:=l.prog) (w:=w) (mg:=mg) (base:=base) Bt iz dR qF.mono ef.mono qG.mono gr.mono
 have eO:=rH (P:=l.prog) (w:=w) (mg:=mg) (base:=base) um iz
 have f6:=tX (P:=l.prog) (w:=w) (mg:=mg) (base:=base) uW Gy aR eO.mono
 have e7:=zm (P:=l.prog) (w:=w) (mg:=mg) (base:=base) Bu
 have iZ:=uK (P:=l.prog) (w:=w) (mg:=mg) (base:=base) xU e7.mono
 have mP:=xB (P:=l.prog) (w:=w) (mg:=mg) (base:=base) zI iZ.mono e7.mono
 have lu:=uM (P:=l.prog) (w:=w) (mg:=mg) (base:=base) xV aR pN
 have gu:=xC (P:=l.prog) (w:=w) (mg:=mg) (base:=base) zJ aR
 have k8:=uN (P:=l.prog) (w:=w) (mg:=mg) (base:=base) xW
 have gP:=rJ (P:=l.prog) (w:=w) (mg:=mg) (base:=base) uo gu.mono k8.mono
 have gv:=xE (P:=l.prog) (w:=w) (mg:=mg) (base:=base) zK
 have ja:=uO (P:=l.prog) (w:=w) (mg:=mg) (base:=base) xX e7.mono gv.mono
 have mQ:=xF (P:=l.prog) (w:=w) (mg:=mg) (base:=base) zL aR fy nH ja.mono gv.mono
 exact(Lx (P:=l.prog) (w:=w) (mg:=mg) (base:=base) (tabs:=[br,bh,aV,aD,aF,cB]) (f9:=[aS]) (bh:=bh) (by simp) (aV:=aV) (by simp) (aD:=aD) (by simp) (br:=br) (by simp) (aF:=aF) (by simp) (aS:=aS) (by simp) (cB:=cB) (by simp) NU aR iz GA kU nH b8 qv f6.mono mP.mono lu.mono gP.mono gu.mono mQ.mono jv.mono qH.mono).mono (by decide)
theorem walk{l:PySem.W.OpenLaw}{q:Program}{loose:List Str}{XP:(Str->Option Value) ->Heap->Prop}{YP:World->Heap->Prop}{d:DefRec}{K:Params->PySem.W.Frag}(hn:l.most=some 63)(hdf:d.params.defaults=[])
  (hY:∀(w:World) (h:Heap),YP w h->(K w.params).In h)(hcl:∀(w:World),PySem.W.kb_classed (K w.params)=true)
  (F:∀(w:World) (mg mb:Str->Option Value) (mean:ExcName->Option Value) (fa:Addr) (h:Heap),(K w.params).In h->PyProof.Rows.Top q (PySem.W.looseW q loose) mean mg mb h->mg d.name=some (.ref fa) ->
   ∃(fd:FuncData) (tabs f9:List Addr),(∀(s:Shared) (u:Value),BindsTo s fd ⟨[u],[]⟩ [("_law_script",u)])/\(∀T∈tabs++f9,isCodeTable h T/\h.get? T=some {cls:= .none,data:= .fields #[]})/\(∀T∈tabs,T∉f9)/\
    ∀base:Heap,(K w.params).In base->base.Ns mainGlobals mg->BM mg base->oV l.prog w (K w.params) mg base cO 40 fa fd ["_law_script"] (Cy (K w.params) tabs f9)):
  PySem.W.WalkO q loose XP YP l.row.toRowW d [] (λf vs=>PySem.call f vs):=
 L2.EX (n:=63) (k:=40) (x:= "_law_script") (sp:=Cy) hn (by decide) hdf ⟨rfl,by decide,by decide⟩ hY hcl F (λ_ tabs f9 H a ns hl hT hC hS Q hQ=>⟨a,ns,rfl,hS,hl,hT,hC,hQ⟩)
theorem ws:PySem.W.OpenLaw.wellSaid PySem.Challenge.rw_conekin_k16_how_many_rows=true:=by kernel_rfl
end CJ
namespace PySem.W.Fast
def tw1287537378182267821:=0
def tw1074678511713009414:=0
def tw15876461002003860111:=0
def tw1196229503061121436:=0
def tw11138893880377737963:=0
def tw12720942484202309917:=0
def tw15767689597218197579:=0
def tw3076959841139399194:=0
def tw10869422016633512294:=0
def tw597386462662808199:=0
def tw4068064415490063409:=0
def tw2793046290635991258:=0
def tw9229240776473094526:=0
def tw2763023424985957936:=0
def tw13368215594679292789:=0
def tw12326505111949063475:=0
def tw15849658523813616203:=0
def tw14887184976495065834:=0
def tw8619491014930689113:=0
def tw3740686933002126596:=0
def tw16438554264929568467:=0
def tw12202552052269246368:=0
def tw16075319002661254923:=0
def tw6642490147735911425:=0
def tw17638765963644531352:=0
def tw10119851170628052088:=0
def tw8042359500823051657:=0
def tw3322734549775795945:=0
def tw7089636869135999753:=0
def tw15965805262387735433:=0
def tw12414609957094497575:=0
def tw9035233037519086840:=0
def tw9670381196623765322:=0
def tw7847744769303948969:=0
def tw17936738442117958355:=0
def tw3190808914260738276:=0
def tw1866936647989578619:=0
def tw2008802154875667793:=0
def tw11486358676478906729:=0
def tw6192330740112568487:=0
def tw6574026564537328654:=0
def tw3111747665154438133:=0
def tw9097118339156600156:=0
def tw4452958552791262730:=0
def tw17590153951695334444:=0
def tw9747027671580884043:=0
def tw16677979031277517632:=0
def tw12074647428615458038:=0
def tw5141488635062021368:=0
def tw17782585951806048471:=0
def tw6132490860702546554:=0
def tw17967636145160335407:=0
def tw1787841774989013836:=0
def tw755236668976848474:=0
def tw11532483806963578285:=0
def tw4014748860878362320:=0
def tw12653419067545099105:=0
def tw17261015575979566767:=0
def tw16797911249146976831:=0
def tw7953201768158879424:=0
def tw14469997497970919560:=0
def tw6884618433486859808:=0
def tw9596228784526127652:=0
def tw11104746284677357601:=0
def tw13759642145728174683:=0
def tw11069061218505787106:=0
def tw16650434613596177338:=0
def tw18245411580697823816:=0
def tw15240295466923550480:=0
def tw3129438561114209010:=0
def tw17677782787758298018:=0
def tw2475413659691980211:=0
def tw12706326353765632760:=0
def tw2355067120988584013:=0
def tw4929163904199027926:=0
def tw1666079742756805770:=0
def tw15126087329053032003:=0
def tw12476184270279767021:=0
def tw15364186016768615497:=0
def tw11275148358941880681:=0
def tw5908117664913040573:=0
def tw4384907003327291657:=0
def tw2929443063483643784:=0
def tw15039511733028132053:=0
def tw10359073702672824246:=0
def tw4007378599043408564:=0
def tw13761942048661342993:=0
def tw15392990779137420488:=0
def tw14436039609538137295:=0
def tw6028920178522571840:=0
def tw11357571960896335524:=0
def tw8705993035792414144:=0
def tw332549845887273812:=0
def tw11801693369970501985:=0
def tw15345824271676326865:=0
def tw1855851462178947558:=0
def tw14397409636930708997:=0
def tw13732371236031313231:=0
def tw11715343380815119751:=0
def tw3160404769296675356:=0
def tw8288981200245859631:=0
def tw8450679020977221245:=0
def tw3425735880266064395:=0
def tw7232571603714176287:=0
def tw12945156012760691260:=0
def tw7838540515776005522:=0
def tw15714744539861820769:=0
def tw9600579046864372079:=0
def tw2247048210634779670:=0
def tw15905583103427261857:=0
def tw3607240056677455320:=0
def tw12048604457675224154:=0
def tw5389671309709471035:=0
def tw14677508136489002431:=0
def tw1619182722901422289:=0
def tw9135517953694754582:=0
def tw18042503447732159612:=0
def tw17046218206662545030:=0
def tw2019399963985363801:=0
def tw18089989334382464023:=0
def tw5219839987577969479:=0
def tw12368733105608697559:=0
def tw7681428743885410805:=0
def tw5880596513834526197:=0
def tw12471617264871919256:=0
def tw122297384873385707:=0
def tw6315826737853317039:=0
def tw8045748049980321502:=0
def tw9434305767332304689:=0
def tw5427452355248936206:=0
end PySem.W.Fast
end
open PySem PySem.W PyProof.Rows
set_option maxRecDepth 100000 in
set_option maxHeartbeats 0 in
theorem PySem.Challenge.cw_conekin_k16_how_many_rows_holds : PySem.Challenge.rw_conekin_k16_how_many_rows.Holds := by
 w_on;refine PySem.W.holds_law CJ.ws λsaid=> ?_;k_head;(case hw=>w_witness2)
 k_fill
 refine CJ.walk (l:=PySem.Challenge.rw_conekin_k16_how_many_rows) rfl rfl (λw h Y=>by first|exact PySem.W.kIn_of Y|exact PySem.W.km_in_of Y) ?cl ?F
 case cl=>
  intro w
  first|kernel_rfl|(trace_state;k_is)
 case F=>
  intro w mg mb mean fa h KX Tp hmg
  refine' CJ.all_mk KX Tp hmg ?qI ?jX ?jx ?jY ?xP ?qJ ?qK ?oA ?uc ?oB ?iN ?qL ?AV ?qM ?xQ ?ly ?qN ?lz ?oE ?oF ?lC ?AW ?AX ?ud ?mR ?oG ?iO ?qO ?oH ?jy ?jZ ?oJ ?lD ?mS ?lE ?mT ?lF ?jz ?mU ?lG ?mV ?Cz ?GJ ?GK ?GL ?qP ?uf ?oK ?iP ?qQ ?oM ?oN ?GO ?ni ?lH ?GP ?y_bool ?Bc ?GQ ?GR ?iQ ?GU ?ug ?g8 ?GV ?GW ?ap
  (case qI=>exact L2.fnAt)
  (case jX=>exact L2.fnAt)
  (case jx=>exact L2.fnAt)
  (case jY=>exact L2.fnAt)
  (case xP=>exact L2.fnAt)
  (case qJ=>exact L2.fnAt)
  (case qK=>exact L2.fnAt)
  (case oA=>exact L2.fnAt)
  (case uc=>exact L2.fnAt)
  (case oB=>exact L2.fnAt)
  (case iN=>exact L2.fnAt)
  (case qL=>exact L2.fnAt)
  (case AV=>exact L2.fnAt)
  (case qM=>exact L2.fnAt)
  (case xQ=>exact L2.fnAt)
  (case ly=>exact L2.fnAt)
  (case qN=>exact L2.fnAt)
  (case lz=>exact L2.fnAt)
  (case oE=>exact L2.fnAt)
  (case oF=>exact L2.fnAt)
  (case lC=>exact L2.fnAt)
  (case AW=>exact L2.fnAt)
  (case AX=>exact L2.fnAt)
  (case ud=>exact L2.fnAt)
  (case mR=>exact L2.fnAt)
  (case oG=>exact L2.fnAt)
  (case iO=>exact L2.fnAt)
  (case qO=>exact L2.fnAt)
  (case oH=>exact L2.fnAt)
  (case jy=>exact L2.fnAt)
  (case jZ=>exact L2.fnAt)
  (case oJ=>exact L2.fnAt)
  (case lD=>exact L2.fnAt)
  (case mS=>exact L2.fnAt)
  (case lE=>exact L2.fnAt)
  (case mT=>exact L2.fnAt)
  (case lF=>exact L2.fnAt)
  (case jz=>exact L2.fnAt)
  (case mU=>exact L2.fnAt)
  (case lG=>exact L2.fnAt)
  (case mV=>exact L2.fnAt)
  (case Cz=>k_is);(case GJ=>k_is);(case GK=>k_is);(case GL=>k_is)
  (case qP=>rfl)
  (case uf=>rfl)
  (case oK=>rfl)
  (case iP=>rfl)
  (case qQ=>rfl)
  (case oM=>rfl)
  (case oN=>rfl)
  (case GO=>k_is)
  (case ni=>k_is)
  (case lH=>k_is)
  (case GP=>k_is)
  (case y_bool=>k_is)
  (case Bc=>k_is)
  (case GQ=>k_is)
  (case GR=>k_is)
  (case iQ=>k_is)
  (case GU=>k_is)
  (case ug=>k_is)
  (case g8=>k_is)
  (case GV=>k_is)
  (case GW=>k_is)
  (case ap=>kernel_rfl)
